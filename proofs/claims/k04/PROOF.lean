import PyProof.Rows.All
import Wide.All
import OpenK.AllK
import Wide.FinOn
import HandS.ForMost
import HandS.Wide
import HandS.IsInst
import HandS.Codes
import HandS.Style
import HandS.EndBits
import HandS.Walk
import HandS.FStr
import HandS.WideBits
import HandS.Defaults
import HandS.Exc
import HandS.TryOnly
import HandS.ExcOwn
import HandS.WordsExc
import HandS.ExcIs
import HandS.Lambda
import HandS.EndTab
import KE.KTupSum
import HandS.Iter
import HandS.Property
import HandS.ForList
import HandS.MakeKw
import HandS.MakeKwOnly
import KE.KExcIs
import HandS.ExcInit
import HandS.ExcField
import HandS.Replace
import HandS.More
import HandS.Text
import PySem.Challenge.RW_narrowingbits_k04_hex_texts_both_ways
set_option Elab.async false
set_option linter.all false
set_option maxRecDepth 100000
set_option maxHeartbeats 4000000
namespace My
open PySem PySem.Spec PyProof.Rows L2
/-! ### arithmetic -/
theorem cdivw {i j : Int} (h : 0 < j) (h2 : j < 18446744073709551616) : CDivW i j := wide_div (b := 64) h (by omega) (by decide) (by decide)
theorem cmull {i j : Int} (h : -18446744073709551616 < i) (h2 : i < 18446744073709551616) : CMul i j := .inl ⟨by omega, by omega⟩
theorem cmulr {i j : Int} (h : -18446744073709551616 < j) (h2 : j < 18446744073709551616) : CMul i j := .inr ⟨by omega, by omega⟩
theorem pow18 : ((10 : Int) ^ (18 : Int).toNat) = 1000000000000000000 := by decide +kernel
theorem pow30 : ((10 : Int) ^ (30 : Int).toNat) = 1000000000000000000000000000000 := by decide +kernel
theorem pow9 : ((10 : Int) ^ (9 : Int).toNat) = 1000000000 := by decide +kernel
theorem pool_nn (c : Int) (b : Bool) : 0 ≤ (if -1 - c > c then -1 - c else c) * (if b = true then 1 else 0) := by
  refine Int.mul_nonneg ?_ ?_
  · split <;> omega
  · split <;> decide
theorem at_lt {ns : List Int} {k : Int} (h0 : 0 ≤ k) (h : k < ((ns.map V.int).length : Int)) : ∃ z, atI (ns.map V.int) k = some (.int z) := by
  rw [List.length_map] at h
  refine ⟨ns[k.toNat]'(by omega), at_of (j := k.toNat) (by omega) ?_⟩
  rw [List.getElem?_map, List.getElem?_eq_getElem (by omega)]
  rfl
theorem at_mem {xs : List V} {r : Int} (h0 : 0 ≤ r) (h : r < (xs.length : Int)) : ∃ v, atI xs r = some v ∧ v ∈ xs := by
  refine ⟨xs[r.toNat]'(by omega), at_of (j := r.toNat) (by omega) (List.getElem?_eq_getElem (by omega)), List.getElem_mem _⟩
/-! ### heaps -/
theorem same_upd {H : Hp} {p : Addr} {o : HO} (h : H p = none) : Same H (upd H p o) := fun b x e => by
  rw [upd_ne (ne_of_none e h)]
  exact e
/-- a source of draws stands at a -/
def Src (H : Hp) (a : Addr) : Prop := ∃ x y : Int, H a = some (.lst [.int x, .int y]) ∧ 0 ≤ x ∧ 0 ≤ y ∧ y < 2147483647
/-- all but a is as it was -/
def But (a : Addr) (H H' : Hp) : Prop := ∀ b, b ≠ a → H' b = H b
theorem But.refl (a : Addr) (H : Hp) : But a H H := fun _ _ => rfl
theorem But.trans {a : Addr} {H H1 H2 : Hp} (u : But a H H1) (v : But a H1 H2) : But a H H2 := fun b e => (v b e).trans (u b e)
theorem But.upd {a : Addr} {H : Hp} {o : HO} : But a H (upd H a o) := fun b e => upd_ne e
theorem But.at {a b : Addr} {H H' : Hp} {o : HO} (u : But a H H') (n : b ≠ a) (h : H b = some o) : H' b = some o := (u b n).trans h
theorem src_same {H H' : Hp} {a : Addr} (s : Same H H') (h : Src H a) : Src H' a := by
  obtain ⟨x, y, e, r⟩ := h
  exact ⟨x, y, s _ _ e, r⟩
theorem Src.ne {H : Hp} {a p : Addr} (h : Src H a) (n : H p = none) : a ≠ p := by
  obtain ⟨x, y, e, r⟩ := h
  exact ne_of_none e n
theorem same_but {a : Addr} {G H H' : Hp} (s : Same G H) (u : But a H H') (n : G a = none) : Same G H' := fun b o e => by
  rw [u b (ne_of_none e n)]
  exact s b o e
theorem kit_ii {K : PySem.W.Frag} : PySem.W.kitOne K (.type "int") (.type "int") = some true := kit_ty (by decide +kernel)
theorem kit_ib {K : PySem.W.Frag} : PySem.W.kitOne K (.type "int") (.type "bool") = some false := kit_ty (by decide +kernel)
theorem kit_bi {K : PySem.W.Frag} : PySem.W.kitOne K (.type "bool") (.type "int") = some true := kit_ty (by decide +kernel)
theorem kit_bb {K : PySem.W.Frag} : PySem.W.kitOne K (.type "bool") (.type "bool") = some true := kit_ty (by decide +kernel)
theorem kit_tt {K : PySem.W.Frag} : PySem.W.kitOne K (.type "tuple") (.type "tuple") = some true := kit_ty (by decide +kernel)
theorem kit_ll {K : PySem.W.Frag} : PySem.W.kitOne K (.type "list") (.type "list") = some true := kit_ty (by decide +kernel)
theorem kit_tl {K : PySem.W.Frag} : PySem.W.kitOne K (.type "tuple") (.type "list") = some false := kit_ty (by decide +kernel)
theorem kit_lt {K : PySem.W.Frag} : PySem.W.kitOne K (.type "list") (.type "tuple") = some false := kit_ty (by decide +kernel)
theorem op_powc {X : Cx} {a b c : Int} (hc : CPow a b) (h : a ^ b.toNat = c) : OpR X (binaryOp .Pow) (fun x y H Q => x = .int a ∧ y = .int b ∧ Q (.int c) H) := by
  intro pins s σ H x y v u Q I rx ry h'
  obtain ⟨rfl, rfl, q⟩ := h'
  exact op_pow pins s σ H _ _ v u Q I rx ry ⟨_, _, rfl, rfl, hc, by subst h; exact q⟩
theorem dp_pair {K : PySem.W.Frag} {H : Hp} {p : Addr} {a b : Int} (h : H p = some (.tup [.int a, .int b])) : Dp K H (.ref p) (.tuple [.int a, .int b]) := .tup (.inl (.inl h)) (.cons (.int _) (.cons (.int _) .nil))
theorem eq_pair (a b : Int) : PyData.eqv (.tuple [.int a, .int b]) (.tuple [.int a, .int b]) = true := by
  simp [PyData.eqv, PyData.eqvAll]
theorem tup_eq {H : Hp} {p : Addr} {x x' y y' : Int} (h : H p = some (.tup [.int x, .int y])) (h1 : x = x') (h2 : y = y') : H p = some (.tup [.int x', .int y']) := by
  rw [← h1, ← h2]
  exact h
end My
namespace My
section
open PySem PySem.W PyProof.Rows Builtin Builtin.Str Builtin.Int Builtin.Float
def binCodes (n : Nat) : List Nat := (Nat.toDigits 2 n).map Char.toNat
theorem field_plain (ds : List Nat) (h : ds.isEmpty = false) : intField' { align := 62, type := some 98 } false [] ds [] 4 = ⟨ds.toArray⟩ := by
  unfold intField'
  simp [h]
theorem digs_ne (n : Nat) : ((Nat.toDigits 2 n).map fun c => ((if ((98 : Nat) == 88) = true then c.toUpper else c) : Char).toNat).isEmpty = false := by
  cases e : Nat.toDigits 2 n with
  | nil =>
    have := tDigits_len_ge 2 n
    rw [e] at this
    cases this
  | cons a l => rfl
theorem meets_bin {x : Int} {t : Tok} (h0 : 0 ≤ x) (hL : (Nat.toDigits 2 x.natAbs).length ≤ sizeLine) :
    ∀ u, Meets (Builtin.«int.__format__» ⟨[.int x t, .str (Str.ofString "b") u], []⟩) (fun _ R s => ∀ t' k, R (.ok (.ret (.str ⟨(binCodes x.natAbs).toArray⟩ t'))) { s with toks := k }) := by
  intro u
  apply KPc.meets_of
  intro prog w A E s Q h
  unfold Builtin.«int.__format__»
  refine wpAny_bind (wpAny_of_eq (a := (_, _)) rfl ?_)
  refine wpAny_bind (wpAny_of_eq (a := _) rfl ?_)
  kxf_if
  refine wpAny_bind (wpAny_typeNameOf (T := "str") (typeIs_str _ _ _) (by decide) fun _ => ?_)
  refine wpAny_bind (wpAny_of_eq (a := some _) rfl ?_)
  kxf_if
  kxf_if
  refine wpAny_bind (wpAny_typeNameOfCut_int ?_)
  repeat kxf_if
  refine KXf.ret_text (T := ⟨(binCodes x.natAbs).toArray⟩) ?e ?l h
  case e =>
    have hx : decide (x < 0) = false := decide_eq_false (by omega)
    rw [hx]
    show intField' { align := 62, type := some 98 } false [] ((Nat.toDigits 2 x.natAbs).map fun c => ((if ((98 : Nat) == 88) = true then c.toUpper else c) : Char).toNat) [] 4 = _
    exact field_plain _ (digs_ne _)
  case l =>
    have hx : decide (x < 0) = false := decide_eq_false (by omega)
    rw [hx]
    show (intField' { align := 62, type := some 98 } false [] ((Nat.toDigits 2 x.natAbs).map fun c => ((if ((98 : Nat) == 88) = true then c.toUpper else c) : Char).toNat) [] 4).length ≤ sizeLine
    rw [field_plain _ (digs_ne _)]
    show ((binCodes x.natAbs).toArray).size ≤ sizeLine
    rw [List.size_toArray, binCodes, List.length_map]
    exact hL
end
end My
namespace My
open PySem PySem.Spec PyProof.Rows L2
/-! ### an f-string's field in binary -/
section
variable {X : Cx}
theorem pe_fmtB {e : Expr} {te : TE} {k : Nat} {pos p1 p2 : Pos} (he : PE X e te) : PE X (.FormattedValue e (-1) (some (.JoinedStr [.Constant (.str "b") k p1] p2)) pos)
    (fun σ H Q => te σ H fun x H1 => ∃ i : Int, x = .int i ∧ 0 ≤ i ∧ (Nat.toDigits 2 i.natAbs).length ≤ sizeLine ∧ Q (.str (SX.S (binCodes i.natAbs))) H1) := by
  refine ⟨fun pins s σ H Q I h => ?_⟩
  refine wpAny_FormattedValue_spec (thn (he.run pins s σ H _ I h) fun v s1 hv => ?_)
  obtain ⟨x, H1, I1, r1, i, rfl, h0, hL, q⟩ := hv
  obtain ⟨t, rfl⟩ := r1
  refine thn ((pe_joined1 (X := X) (pe_str (x := "b") (j := k) (pos := p1)) (pos := p2)).run pins s1 σ H1 (fun y H2 => y = .str "b" ∧ H2 = H1) I1 ⟨rfl, rfl⟩) fun r s2 hr => ?_
  obtain ⟨y, H2, I2, r2, rfl, rfl⟩ := hr
  obtain ⟨t2, rfl⟩ := r2
  exact ⟨_, t2, rfl, PySem.W.KXf.field_int rfl rfl (by decide) (meets_bin h0 hL) fun t' k => ⟨.str _, _, I2.tok _, ⟨_, rfl⟩, q⟩⟩
/-- a call by keywords alone -/
theorem pe_kw0 {CX : CXT} {k : Nat} {f : Addr} {fd : FuncData} {ps ks : List Str} {sp : Sp} {E : XK} {x : Str} {p pos : Pos} {kws : List Keyword} {tk : TA} {g : List Value → List Value → List Value} {gV : List V → List V → List V}
    (F : FnOk X.prog X.w X.K X.mg X.base CX k f fd ps sp) (hr : Room k X.A) (hg : Gl X x) (hm : X.mg x = some (.ref f)) (hk : PySem.W.keepIn X.K (.ref f) = true) (hb : KBn X.K fd ps 0 ks g gV) (hx : Passes CX X E) (hkw : PK X kws tk)
    (hall : (backToKw pos (keywordEach kws X.env)).all (·.1.isSome) = true := by rfl) (hks : (backToKw pos (keywordEach kws X.env)).filterMap (·.1) = ks := by rfl) (hdb : (x == ("__debug__" : Str)) = false := by decide)
    (hpl : ((backTo pos (starEach [] X.env)).any (·.1) || (backToKw pos (keywordEach kws X.env)).any (·.1.isNone)) = false := by rfl) :
    PE X (.Call (.Name x p) [] kws pos) (fun σ H Q => tk σ H fun zs H2 => zs.length = ks.length ∧ sp (gV [] zs) H2 Q E) := by
  refine ⟨fun pins s σ H Q I h => ?_⟩
  refine wpAny_Call_Name_kw (ld_glob I hg hm ?_ hdb)
  refine PySem.W.callWith_KW0 (h₀ := X.base) I.ok.mod.kin hk hall ?_ hpl
  refine thn (hkw.run pos pins s σ H _ I h) fun ws s2 ⟨zs, H2, I2, rz, l2, q2⟩ => ⟨I2.kIn, ?_⟩
  rw [hks]
  exact run_fnN (us := []) (vs := []) F hr hb hx I2 .nil rz rfl l2 q2
/-- a def that may be called by keywords alone -/
structure CalK (P : Program) (w : World) (K : PySem.W.Frag) (mg : Str → Option Value) (base : Heap) (k : Nat) (x : Str) (ks : List Str) (sp : Sp) : Prop where
  ex : ∃ (f : Addr) (fd : FuncData) (ps : List Str), FnOk P w K mg base CX0 k f fd ps sp ∧ mg x = some (.ref f) ∧ PySem.W.keepIn K (.ref f) = true ∧ KBn K fd ps 0 ks (fun _ ws => ws) (fun _ zs => zs)
theorem pe_ck {k j : Nat} {ks : List Str} {sp : Sp} {x : Str} {p pos : Pos} {kws : List Keyword} {tk : TA} (c : CalK X.prog X.w X.K X.mg X.base k x ks sp) (hr : Room j X.A) (hk : k ≤ j) (hg : Gl X x) (hkw : PK X kws tk)
    (hall : (backToKw pos (keywordEach kws X.env)).all (·.1.isSome) = true := by rfl) (hks : (backToKw pos (keywordEach kws X.env)).filterMap (·.1) = ks := by rfl) (hdb : (x == ("__debug__" : Str)) = false := by decide)
    (hpl : ((backTo pos (starEach [] X.env)).any (·.1) || (backToKw pos (keywordEach kws X.env)).any (·.1.isNone)) = false := by rfl) :
    PE X (.Call (.Name x p) [] kws pos) (fun σ H Q => tk σ H fun zs H2 => zs.length = ks.length ∧ sp zs H2 Q E0) := by
  obtain ⟨f, fd, ps, F, hm, hkp, hb⟩ := c.ex
  exact pe_kw0 F (hr.mono hk) hg hm hkp hb pass0 hkw hall hks hdb hpl
end
/-! ### digits -/
/-- the w binary digits of n, the highest first -/
def bitsW : Nat → Nat → List Nat
  | 0, _ => []
  | w + 1, n => bitsW w (n / 2) ++ [n % 2]
theorem bitsW_len : ∀ w n, (bitsW w n).length = w
  | 0, _ => rfl
  | w + 1, n => by rw [bitsW, List.length_append, bitsW_len w (n / 2)]; rfl
theorem bitsW_bit : ∀ w n, ∀ b ∈ bitsW w n, b < 2
  | 0, _, b, h => by cases h
  | w + 1, n, b, h => by
    rw [bitsW, List.mem_append] at h
    rcases h with h | h
    · exact bitsW_bit w _ b h
    · rw [List.mem_singleton] at h
      omega
theorem digit_code {b : Nat} (h : b < 2) : (Nat.digitChar b).toNat = 48 + b := by
  match b, h with
  | 0, _ => rfl
  | 1, _ => rfl
theorem binCodes_pow : ∀ w n, n < 2 ^ w → binCodes (2 ^ w + n) = 49 :: (bitsW w n).map (48 + ·)
  | 0, n, h => by
    have e : n = 0 := by omega
    subst e
    rfl
  | w + 1, n, h => by
    have p : 2 ^ (w + 1) = 2 * 2 ^ w := by rw [Nat.pow_succ, Nat.mul_comm]
    have g : 0 < 2 ^ w := Nat.two_pow_pos w
    have ih := binCodes_pow w (n / 2) (by omega)
    unfold binCodes at ih ⊢
    rw [Nat.toDigits_of_base_le (by decide) (by omega), List.map_append, show (2 ^ (w + 1) + n) / 2 = 2 ^ w + n / 2 by omega, ih, show (2 ^ (w + 1) + n) % 2 = n % 2 by omega, bitsW, List.map_append]
    show 49 :: _ ++ [(Nat.digitChar (n % 2)).toNat] = _
    rw [digit_code (Nat.mod_lt _ (by decide))]
    rfl
/-- the digits as numbers -/
def bitsI (w n : Nat) : List Int := (bitsW w n).map fun (b : Nat) => (b : Int)
theorem bitsI_len (w n : Nat) : (bitsI w n).length = w := by rw [bitsI, List.length_map, bitsW_len]
theorem digit_int {b : Nat} (h : b < 2) : PySem.intText? ⟨#[48 + b]⟩ = some (b : Int) := by
  match b, h with
  | 0, _ => decide +kernel
  | 1, _ => decide +kernel
theorem take_snoc {α : Type} {l : List α} {i : Nat} {x : α} (h : l[i]? = some x) : l.take i ++ [x] = l.take (i + 1) := by
  rw [List.take_add_one, h]
  rfl
end My
namespace My
open PySem PySem.Spec PyProof.Rows L2
/-! ### lists of numbers compared -/
theorem eqv_same {d : PyData} (h : SeqAt.shaped d = true) : PyData.eqv d d = true := SeqAt.eqv_refl d (SeqAt.canLay_of_shaped h)
theorem dpall_ints {K : PySem.W.Frag} {H : Hp} : ∀ ns : List Int, DpAll K H (ns.map V.int) (ns.map PyData.int)
  | [] => .nil
  | n :: r => .cons (.int n) (dpall_ints r)
theorem dp_ints {K : PySem.W.Frag} {H : Hp} {p : Addr} {ns : List Int} (h : SqL K H p (ns.map V.int)) : Dp K H (.ref p) (.list (ns.map PyData.int)) := .lst h (dpall_ints ns)
theorem sh_ints (ns : List Int) : SeqAt.shaped (.list (ns.map PyData.int)) = true := PySem.W.ke_shaped_ints ns
theorem q_eqI {K : PySem.W.Frag} {H : Hp} {p q : Addr} {ns : List Int} {Q : VK} (hp : H p = some (.lst (ns.map V.int))) (hq : H q = some (.lst (ns.map V.int))) (h : Q (.bl true) H) : rEqD K (.ref p) (.ref q) H Q :=
  ⟨_, _, dp_ints (.inl (.inl hp)), dp_ints (.inl (.inl hq)), sh_ints ns, sh_ints ns, by rw [eqv_same (sh_ints ns)]; exact h⟩
theorem q_neI {K : PySem.W.Frag} {H : Hp} {p q : Addr} {ns : List Int} {Q : VK} (hp : H p = some (.lst (ns.map V.int))) (hq : H q = some (.lst (ns.map V.int))) (h : Q (.bl false) H) : rNeD K (.ref p) (.ref q) H Q :=
  ⟨_, _, dp_ints (.inl (.inl hp)), dp_ints (.inl (.inl hq)), sh_ints ns, sh_ints ns, by rw [eqv_same (sh_ints ns)]; exact h⟩
/-! ### all but the source stays -/
def Up (a : Addr) (H H' : Hp) : Prop := ∀ b o, b ≠ a → H b = some o → H' b = some o
theorem Up.refl (a : Addr) (H : Hp) : Up a H H := fun _ _ _ h => h
theorem up_same {a : Addr} {H H' : Hp} (s : Same H H') : Up a H H' := fun b o _ h => s b o h
theorem But.up {a : Addr} {H H' : Hp} (u : But a H H') : Up a H H' := fun b o n h => (u b n).trans h
theorem Up.trans {a : Addr} {H H1 H2 : Hp} (u : Up a H H1) (v : Up a H1 H2) : Up a H H2 := fun b o n h => v b o n (u b o n h)
theorem Up.to {a : Addr} {G H H' : Hp} (u : Up a H H') (s : Same G H) (n : G a = none) : Same G H' := fun b o e => u b o (ne_of_none e n) (s b o e)
theorem Up.new {a p : Addr} {H H' : Hp} (u : Up a H H') (hs : Src H' a) (n : H' p = none) : H p = none := by
  cases e : H p with
  | none => rfl
  | some o =>
    have := u p o (hs.ne n).symm e
    rw [n] at this
    cases this
theorem src_keep {a p : Addr} {H : Hp} {o : HO} (n : a ≠ p) (h : Src H a) : Src (upd H p o) a := by
  obtain ⟨x, y, e, r⟩ := h
  exact ⟨x, y, by rw [upd_ne n]; exact e, r⟩
/-! ### digits by place -/
theorem bitsW_get : ∀ w n i, i < w → (bitsW w n)[i]? = some (n / 2 ^ (w - 1 - i) % 2)
  | 0, _, i, h => absurd h (Nat.not_lt_zero i)
  | w + 1, n, i, h => by
    rw [bitsW]
    by_cases e : i = w
    · subst e
      rw [List.getElem?_append_right (by rw [bitsW_len]; exact Nat.le_refl _), bitsW_len, show i - i = 0 by omega, show i + 1 - 1 - i = 0 by omega, Nat.pow_zero, Nat.div_one]
      rfl
    · rw [List.getElem?_append_left (by rw [bitsW_len]; omega), bitsW_get w (n / 2) i (by omega), Nat.div_div_eq_div_mul, show w + 1 - 1 - i = (w - 1 - i) + 1 by omega, Nat.pow_succ, Nat.mul_comm]
theorem bitsI_get {w n i : Nat} (h : i < w) : (bitsI w n)[i]? = some (((n / 2 ^ (w - 1 - i) % 2 : Nat)) : Int) := by
  rw [bitsI, List.getElem?_map, bitsW_get w n i h]
  rfl
end My
namespace My
open PySem PySem.Spec PyProof.Rows L2
section
variable {X : Cx}
/-- X(), X an own exception class without own __init__ -/
theorem pmk_none {C : Addr} {bmB : List Value} {B newId initId : String} {x : Str} {p pos : Pos} (F : ExcBaseFacts B newId initId bmB) (q : PySem.W.excIn X.K C bmB newId = true) (gC : X.mg x = some (.ref C)) (kC : PySem.W.keepIn X.K (.ref C) = true) (r : Raises X (.ref C)) (hg : Gl X x)
    (hdb : (x == ("__debug__" : Str)) = false := by decide) : PMk X (.Call (.Name x p) [] [] pos) (fun _ H Q => Q (.ref C) none H) := by
  intro pins s σ H Q I h
  refine wpAny_Call_Name_kw (ld_glob I hg gC (PySem.W.callWith_K0 I.kIn kC ?_) hdb)
  obtain ⟨bm, N, nm, qn, bs, hdct, sn, sub, ab, col, dd, k0, k1, k2, k3, k5, mN, hC, hN, hni, T⟩ := exc_obj I.kIn q
  exact wpAny_call_exc_subT F T hC hN hni (fun _ _ hm => mk_of I hm r h (I.hok.gone hm.new)) (Nat.zero_le _)
/-- isinstance of an own class against another one -/
theorem kit_ref {K : PySem.W.Frag} {C N : Addr} {b : Bool} (i : PySem.W.isClsIn K N = true) (t : PySem.W.typeIn K (.ref N) = some (.type "type")) (s : PySem.W.subIn K (.ref C) (.ref N) = some b) (n : b = false → PySem.W.subIn K (.ref C) (.ref C) = some true) :
    PySem.W.kitOne K (.ref C) (.ref N) = some b := by
  unfold PySem.W.kitOne
  by_cases e : ((Value.ref C) == (Value.ref N)) = true
  · rw [if_pos e]
    have e2 : C = N := Value.ref.inj (beq_iff_eq.mp e)
    subst e2
    cases b with
    | true => rfl
    | false =>
      rw [n rfl] at s
      cases s
  · rw [if_neg e]
    unfold PySem.W.kitCls
    have h : ((PySem.W.clsIn K N).isSome && PySem.W.typeIn K (.ref N) == some (.type "type")) = true := by
      rw [t, Bool.and_eq_true]
      exact ⟨i, by rfl⟩
    show (if _ then _ else _) = _
    rw [if_pos h]
    exact s
/-- an own exception class at C, as the top has written it -/
structure ECls (K : PySem.W.Frag) (mg : Str → Option Value) (x : Str) (C : Addr) : Prop where
  gC : mg x = some (.ref C)
  xC : PySem.W.excIn K C [.type "ValueError", .type "Exception", .type "BaseException", .type "object"] "ValueError.__new__" = true
  kC : PySem.W.keepIn K (.ref C) = true
  bC : PySem.W.subIn K (.ref C) (.type "BaseException") = some true
  tC : PySem.W.typeIn K (.ref C) = some (.type "type")
  ex : ExcC K C
  em : PySem.W.exmOne K (.ref C) (.ref C) = some true
/-- isinstance of the exception that a suite holds, its class told in the reading -/
theorem call_isE1 {a D : Addr} {oe : Obj} {cls : Value} {d : Option Addr} {pn : List (Addr × Obj)} (C : ExcC X.K D) (hz : Zc cls d oe) (hf : ∃ vs, oe.data = .fields vs) :
    CallR (X.suite a ((a, oe) :: pn)) (.builtin "isinstance") (fun xs H Q => cls = .ref D ∧ d = none ∧ rIsE X.K D a xs H Q) := by
  intro pins s σ H xs us Q I r h
  obtain ⟨e1, e2, h⟩ := h
  subst e1 e2
  exact call_isE C hz hf pins s σ H xs us Q I r h
end
end My
namespace My
open PySem PySem.Spec PyProof.Rows L2
/-! ### bit lengths, digits, values -/
def bl (n : Nat) : Nat := Builtin.Int.intBits (n : Int)
theorem bl_zero : bl 0 = 0 := rfl
theorem bl_pos {n : Nat} (h : 0 < n) : bl n = n.log2 + 1 := by
  unfold bl Builtin.Int.intBits
  rw [if_neg (by simp; omega), Int.natAbs_natCast]
theorem bl_lt (n : Nat) : n < 2 ^ bl n := by
  cases n with
  | zero => decide
  | succ n =>
    rw [bl_pos (Nat.succ_pos n)]
    exact Nat.lt_log2_self
theorem bl_le {n k : Nat} (h : n < 2 ^ k) : bl n ≤ k := PyProof.Rows.intBits_le (by rw [Int.natAbs_natCast]; exact h)
theorem bl_half {n : Nat} (h : 0 < n) : bl n = bl (n / 2) + 1 := by
  rw [bl_pos h]
  by_cases e : n = 1
  · subst e
    decide
  · rw [bl_pos (by omega), Nat.log2_def, if_pos (by omega)]
theorem bitsI_succ (w n : Nat) : bitsI (w + 1) n = bitsI w (n / 2) ++ [((n % 2 : Nat) : Int)] := by
  unfold bitsI
  rw [bitsW, List.map_append]
  rfl
def digs (n : Nat) : List Int := bitsI (bl n) n
theorem digs_zero : digs 0 = [] := rfl
theorem digs_step {n : Nat} (h : 0 < n) : digs n = digs (n / 2) ++ [((n % 2 : Nat) : Int)] := by
  unfold digs
  rw [bl_half h, bitsI_succ]
theorem digs_len (n : Nat) : (digs n).length = bl n := bitsI_len _ _
theorem digs_head : ∀ {n : Nat}, 0 < n → ∃ r, digs n = 1 :: r := by
  intro n
  induction n using Nat.strongRecOn with
  | _ n ih =>
    intro h
    rw [digs_step h]
    by_cases e : n = 1
    · subst e
      exact ⟨[], rfl⟩
    · obtain ⟨r, hr⟩ := ih (n / 2) (by omega) (by omega)
      rw [hr]
      exact ⟨r ++ [((n % 2 : Nat) : Int)], rfl⟩
def valI (xs : List Int) : Int := xs.foldl (fun v b => 2 * v + b) 0
theorem valI_snoc (xs : List Int) (b : Int) : valI (xs ++ [b]) = 2 * valI xs + b := by
  unfold valI
  rw [List.foldl_append]
  rfl
theorem valI_bits : ∀ w n, n < 2 ^ w → valI (bitsI w n) = n
  | 0, n, h => by
    have e : n = 0 := by omega
    subst e
    rfl
  | w + 1, n, h => by
    have p : 2 ^ (w + 1) = 2 * 2 ^ w := by rw [Nat.pow_succ, Nat.mul_comm]
    rw [bitsI_succ, valI_snoc, valI_bits w (n / 2) (by omega)]
    omega
theorem valI_digs (n : Nat) : valI (digs n) = n := valI_bits _ _ (bl_lt n)
theorem bitsI_bit {w n : Nat} {x : Int} (h : x ∈ bitsI w n) : 0 ≤ x ∧ x ≤ 1 := by
  obtain ⟨b, hb, rfl⟩ := List.mem_map.mp h
  have := bitsW_bit w n b hb
  omega
/-- all of them are bits -/
def AreBits (xs : List Int) : Prop := ∀ x ∈ xs, 0 ≤ x ∧ x ≤ 1
theorem AreBits.app {xs ys : List Int} (h : AreBits xs) (g : AreBits ys) : AreBits (xs ++ ys) := fun x m => by
  rcases List.mem_append.mp m with m | m
  · exact h x m
  · exact g x m
theorem AreBits.take {xs : List Int} (h : AreBits xs) (n : Nat) : AreBits (xs.take n) := fun x m => h x (List.mem_of_mem_take m)
theorem AreBits.zeros (n : Nat) : AreBits (List.replicate n 0) := fun x m => by
  rw [(List.mem_replicate.mp m).2]
  decide
/-- the code of a count -/
def code (c : Nat) : List Int := List.replicate (bl (c + 1) - 1) 0 ++ digs (c + 1)
theorem code_len (c : Nat) : (code c).length = 2 * bl (c + 1) - 1 := by
  have := bl_half (n := c + 1) (by omega)
  unfold code
  rw [List.length_append, List.length_replicate, digs_len]
  omega
theorem code_bits (c : Nat) : AreBits (code c) := (AreBits.zeros _).app fun _ m => bitsI_bit m
theorem flat_zeros (n : Nat) : (List.replicate n [V.int 0]).flatten = (List.replicate n (0 : Int)).map V.int := by
  induction n with
  | zero => rfl
  | succ n ih =>
    rw [List.replicate_succ, List.flatten_cons, ih, List.replicate_succ]
    rfl
theorem new_at {a p : Addr} {H : Hp} {o o' : HO} (h : H a = some o) (n : H p = none) : (upd H p o') a = some o := by
  rw [upd_ne (ne_of_none h n)]
  exact h
theorem cut_int {xs : List V} {x y : Int} {i k : Nat} (hx : x = (i : Int)) (hy : y = (k : Int)) (hik : i ≤ xs.length) (hk : k ≤ xs.length) : cutV xs (some x) (some y) = (xs.drop i).take (k - i) := by
  subst hx hy
  unfold cutV
  rw [HT.sIx_nat, HT.sIx_nat, Nat.min_eq_left hik, Nat.min_eq_left hk]
theorem cut_to {xs : List V} {y : Int} {k : Nat} (hy : y = (k : Int)) (hk : k ≤ xs.length) : cutV xs none (some y) = xs.take k := by
  subst hy
  unfold cutV
  rw [HT.sIx_none, HT.sIx_nat, Nat.min_eq_left hk, List.drop_zero, Nat.sub_zero]
theorem cut_any {xs : List V} {x y : Int} {i k : Nat} (hx : x = (i : Int)) (hy : y = (k : Int)) (hik : i ≤ xs.length) : cutV xs (some x) (some y) = (xs.drop i).take (k - i) := by
  subst hx hy
  unfold cutV
  rw [HT.sIx_nat, HT.sIx_nat, Nat.min_eq_left hik]
  by_cases h : k ≤ xs.length
  · rw [Nat.min_eq_left h]
  · rw [Nat.min_eq_right (by omega), List.take_of_length_le (by rw [List.length_drop]; omega), List.take_of_length_le (by rw [List.length_drop]; omega)]
/-! ### reading a count -/
/-- zeros ahead of the first 1 -/
def lz : List Int → Nat
  | [] => 0
  | x :: r => if x = 0 then lz r + 1 else 0
theorem lz_le : ∀ l : List Int, lz l ≤ l.length
  | [] => Nat.le_refl _
  | x :: r => by
    have := lz_le r
    simp only [lz, List.length_cons]
    split <;> omega
theorem lz_more : ∀ {l : List Int} {k : Nat}, k ≤ lz l → l[k]? = some 0 → k + 1 ≤ lz l
  | [], k, _, h => by simp at h
  | x :: r, 0, _, h => by
    have e : x = 0 := Option.some.inj h
    simp only [lz, e, if_true]
    omega
  | x :: r, k + 1, hk, h => by
    simp only [lz] at hk ⊢
    by_cases e : x = 0
    · rw [if_pos e] at hk ⊢
      have := lz_more (l := r) (k := k) (by omega) h
      omega
    · rw [if_neg e] at hk
      omega
theorem lz_stop : ∀ {l : List Int} {k : Nat} {x : Int}, k ≤ lz l → l[k]? = some x → x ≠ 0 → lz l = k
  | [], k, _, _, h, _ => by simp at h
  | y :: r, 0, x, _, h, hx => by
    have e : y = x := Option.some.inj h
    simp only [lz, e, if_neg hx]
  | y :: r, k + 1, x, hk, h, hx => by
    simp only [lz] at hk ⊢
    by_cases e : y = 0
    · rw [if_pos e] at hk ⊢
      have := lz_stop (l := r) (k := k) (x := x) (by omega) h hx
      omega
    · rw [if_neg e] at hk
      omega
theorem lz_zeros : ∀ (k : Nat) (l : List Int), lz (List.replicate k 0 ++ l) = k + lz l
  | 0, l => by simp
  | k + 1, l => by
    rw [List.replicate_succ, List.cons_append, lz, if_pos rfl, lz_zeros k l]
    omega
inductive RC where
  | long : RC
  | short : RC
  | read (v : Int) (stop : Nat) : RC
def readC (xs : List Int) (a : Nat) : RC :=
  if 40 < lz (xs.drop a) then .long else if xs.length < a + lz (xs.drop a) + 1 + lz (xs.drop a) then .short
  else .read (valI ((xs.drop (a + lz (xs.drop a))).take (lz (xs.drop a) + 1)) - 1) (a + lz (xs.drop a) + 1 + lz (xs.drop a))
def rcV : RC → List V
  | .long => [.str "long"]
  | .short => [.str "short"]
  | .read v s => [.str "read", .int v, .int s]
/-- a signed number of a count -/
def sgnR : RC → RC
  | .read v s => .read (if v % 2 = 0 then v / 2 else (-(v + 1)) / 2) s
  | r => r
theorem read_code {A B : List Int} {c : Nat} (h : c + 1 < 2 ^ 41) : readC (A ++ code c ++ B) A.length = .read c (A.length + (code c).length) := by
  obtain ⟨r, hr⟩ := digs_head (n := c + 1) (by omega)
  have l1 := bl_half (n := c + 1) (by omega)
  have l2 : bl (c + 1) ≤ 41 := bl_le h
  have e1 : (A ++ code c ++ B).drop A.length = List.replicate (bl (c + 1) - 1) 0 ++ (digs (c + 1) ++ B) := by
    rw [List.append_assoc, List.drop_left' rfl, code, List.append_assoc]
  have e2 : lz ((A ++ code c ++ B).drop A.length) = bl (c + 1) - 1 := by
    rw [e1, lz_zeros, hr]
    simp [lz]
  have e3 : (A ++ code c ++ B).drop (A.length + (bl (c + 1) - 1)) = digs (c + 1) ++ B := by
    rw [← List.drop_drop, e1, List.drop_left' (by rw [List.length_replicate])]
  have e4 : (digs (c + 1) ++ B).take (bl (c + 1) - 1 + 1) = digs (c + 1) := by
    rw [List.take_left' (by rw [digs_len]; omega)]
  unfold readC
  rw [e2, if_neg (by omega), if_neg (by rw [List.length_append, List.length_append, code_len]; omega), e3, e4, valI_digs, code_len]
  congr 1
  · omega
  · omega
theorem read_cut {A : List Int} {c t : Nat} (h : c + 1 < 2 ^ 41) (ht : t < (code c).length) : readC (A ++ (code c).take t) A.length = .short := by
  obtain ⟨r, hr⟩ := digs_head (n := c + 1) (by omega)
  have l1 := bl_half (n := c + 1) (by omega)
  have l2 : bl (c + 1) ≤ 41 := bl_le h
  rw [code_len] at ht
  have e0 : (A ++ (code c).take t).length = A.length + t := by
    rw [List.length_append, List.length_take, code_len]
    omega
  have e1 : (A ++ (code c).take t).drop A.length = (code c).take t := List.drop_left' rfl
  by_cases q : t ≤ bl (c + 1) - 1
  · have e2 : (code c).take t = List.replicate t 0 := by
      unfold code
      rw [List.take_append_of_le_length (by rw [List.length_replicate]; exact q), List.take_replicate, Nat.min_eq_left q]
    have e3 : lz ((A ++ (code c).take t).drop A.length) = t := by
      rw [e1, e2]
      have := lz_zeros t []
      rw [List.append_nil] at this
      rw [this]
      rfl
    unfold readC
    rw [e3, if_neg (by omega), if_pos (by rw [e0]; omega)]
  · have e2 : (code c).take t = List.replicate (bl (c + 1) - 1) 0 ++ (digs (c + 1)).take (t - (bl (c + 1) - 1)) := by
      unfold code
      rw [List.take_append, List.length_replicate, List.take_of_length_le (by rw [List.length_replicate]; omega)]
    have e3 : lz ((A ++ (code c).take t).drop A.length) = bl (c + 1) - 1 := by
      rw [e1, e2, lz_zeros, hr]
      obtain ⟨m, hm⟩ : ∃ m, t - (bl (c + 1) - 1) = m + 1 := ⟨t - (bl (c + 1) - 1) - 1, by omega⟩
      rw [hm, List.take_succ_cons]
      simp [lz]
    unfold readC
    rw [e3, if_neg (by omega), if_pos (by rw [e0]; omega)]
/-! ### what is told, as data -/
def rcD : RC → List PyData
  | .long => [.str "long"]
  | .short => [.str "short"]
  | .read v s => [.str "read", .int v, .int s]
theorem dp_rc {K : PySem.W.Frag} {H : Hp} {p : Addr} {r : RC} (h : H p = some (.tup (rcV r))) : Dp K H (.ref p) (.tuple (rcD r)) := by
  cases r with
  | long => exact .tup (.inl (.inl h)) (.cons (.str _) .nil)
  | short => exact .tup (.inl (.inl h)) (.cons (.str _) .nil)
  | read v s => exact .tup (.inl (.inl h)) (.cons (.str _) (.cons (.int _) (.cons (.int _) .nil)))
theorem sh_rc (r : RC) : SeqAt.shaped (.tuple (rcD r)) = true := by
  cases r with
  | long => decide +kernel
  | short => decide +kernel
  | read v s =>
    have h : PyData.canLay0 (.str "read") = true := by decide +kernel
    simp [SeqAt.shaped, rcD, PyData.canLay0, PyData.canLayAll0, PyData.depth, PyData.depthAll] at h ⊢
    try exact h
theorem q_neR {K : PySem.W.Frag} {H : Hp} {p q : Addr} {r : RC} {Q : VK} (hp : H p = some (.tup (rcV r))) (hq : H q = some (.tup (rcV r))) (h : Q (.bl false) H) : rNeD K (.ref p) (.ref q) H Q :=
  ⟨_, _, dp_rc hp, dp_rc hq, sh_rc r, sh_rc r, by rw [eqv_same (sh_rc r)]; exact h⟩
end My
namespace My
open PySem PySem.Spec PyProof.Rows L2
/-! ### several except clauses, each with a name -/
abbrev Clause := Value × Nat × (Addr → Value → Option Addr → TS)
def wAll (K : PySem.W.Frag) (Wout : WX) (D : Ends) : List Clause → WX
  | [] => Wout
  | (c, i, ts) :: more => wAs K c i ts (wAll K Wout D more) D
inductive Clauses (X : Cx) : List ExceptHandler → List Clause → Prop
  | done : Clauses X [] []
  | step {x n : Str} {c : Value} {i : Nat} {ts : Addr → Value → Option Addr → TS} {first : Stmt} {others : List Stmt} {p1 p2 : Pos} {hds : List ExceptHandler} {cs : List Clause}
      (cl : Names X x c) (slot : X.N[i]? = some n) (lo : X.env.kindOf n = some .local)
      (body : ∀ (a : Addr) (oe : Obj) (cls : Value) (d : Option Addr) (pn : List (Addr × Obj)), Zc cls d oe → (∃ vs, oe.data = .fields vs) → PSs (X.suite a ((a, oe) :: pn)) (first :: others) (ts a cls d))
      (more : Clauses X hds cs) : Clauses X (.ExceptHandler (some (.Name x p1)) (some n) (first :: others) p2 :: hds) ((c, i, ts) :: cs)
section
variable {X : Cx} {todo : List Stmt} {h0 : ExceptHandler} {hds : List ExceptHandler} {cs : List Clause} {pos : Pos} {tb : WX → TS} {Wout : WX}
theorem ps_try_all (e1 : X.stack = X.env :: X.outer) (e2 : X.env.frame = some X.env.locals) (nd : X.N.Nodup) (tk : Takes X Wout)
    (run : ∀ (W : WX) (pn : List (Addr × Obj)) (xe : Value → Shared → Prop), Takes (X.tr pn xe) W → PassesOwn (model X.prog X.w) X.A X.env xe → PSs (X.tr pn xe) todo (tb W))
    (all : Clauses X (h0 :: hds) cs) : PS X (.Try todo (h0 :: hds) [] [] pos) (fun D σ H => tb (wAll X.K Wout D cs) D σ H) := by
  constructor
  intro pins s σ H D I reading
  have here := I.ok
  have fr : X.A.frames = some (X.env :: X.outer) := by
    rw [here.frames, e1]
  apply wpAny_Try_except
  refine wpAny_mono ((run (wAll X.K Wout D cs) (X.pn ++ pins) _ (fun u t caught => ?landing) PassesOwn.looking).run [] s σ H D (I.toTry _) reading) (fun f t out => ?through) (fun _ _ z => z)
  case through =>
    cases f with
    | ret v =>
      obtain ⟨x, σ', H', J, rx, q⟩ := out
      exact ⟨x, σ', H', J.ofTry here, rx, q⟩
    | cont =>
      obtain ⟨σ', H', J, q⟩ := out
      exact ⟨σ', H', J.ofTry here, q⟩
    | brk =>
      obtain ⟨σ', H', J, q⟩ := out
      exact ⟨σ', H', J.ofTry here, q⟩
    | next =>
      obtain ⟨σ', H', J, q⟩ := out
      exact wpAny_execs_nil ⟨σ', H', J.ofTry here, q⟩
  case landing =>
    obtain ⟨a, B, sI, old, σ', H', cls, d, rfl, J0, nb, grown, sky0, fresh, os, bare, wish⟩ := caught
    have J : Inv X pins σ' H' sI := J0.ofTry here
    have sky : Sky B (X.env :: X.outer) a (Zc cls d) X.env.locals t.heap := e1 ▸ sky0
    refine Sky.land Zc.steady fr e2 sky (fun g fly up => ?_)
    have JG : Inv X pins σ' H' { t with heap := g } := J.landed nb fly.1 (grown.trans up) os bare
    obtain ⟨oe, vs, hoe, hz, hdat⟩ := fly.there
    have apart : a ∉ frs (X.env :: X.outer) := by
      intro m
      obtain ⟨_, o2, g2, no⟩ := fly.2.2.1.mem m
      rw [hoe] at g2
      cases g2
      exact no _ hdat
    have aL : a ≠ X.env.locals := by
      intro z
      exact apart (List.mem_filterMap.mpr ⟨X.env, List.mem_cons_self, by rw [e2, z]⟩)
    have aF : a ∉ X.fs := by
      intro m
      obtain ⟨ev, me, q⟩ := List.mem_filterMap.mp m
      exact apart (List.mem_filterMap.mpr ⟨ev, List.mem_cons_of_mem _ me, q⟩)
    have SG := JG.suite hoe hdat fresh aL aF
    have goOn : ∀ {hs2 : List ExceptHandler} {cs2 : List Clause}, Clauses X hs2 cs2 → wAll X.K Wout D cs2 cls d σ' H' → wpAny (model X.prog X.w) X.A (handleBy (.ref a) X.env hs2) (SP X pins D) X.xe { t with heap := g } := by
      intro hs2 cs2 k
      induction k with
      | done =>
        intro wsh
        apply wpAny_handleBy_nil
        obtain ⟨_, _, _, ob, fs, T, oT, ts', g1, z1, d1, f1, _⟩ := id fly
        have leave : wpAny (model X.prog X.w) X.A (setFlight (.ref a) X.env.frame) (fun _ t2 => wpAny (model X.prog X.w) X.A (throw (.ref a) : Sem Flow) (SP X pins D) X.xe t2) X.xe { t with heap := g } := by
          rw [e2]
          exact HandSPX.setFlight_upZ fly fun g3 fly3 up3 => wpAny_throw (tk _ _ ⟨a, B, sI, pins, σ', H', cls, d, rfl, J, nb, (grown.trans up).trans up3, .inr (.inr (e1.symm ▸ fly3)), fresh, os, bare, wsh⟩)
        unfold PySem.passOn
        apply wpAny_bind
        refine wpAny_field g1 d1 f1 ?_
        rw [if_neg (by simp)]
        first
          | exact wpAny_bind leave
          | exact wpAny_bind (wpAny_pure (wpAny_bind leave))
      | @step x n c i ts fst oth p1 p2 hs3 cs3 cl slot lo body more ih =>
        intro wsh
        obtain ⟨b, hb, yes, no⟩ := wsh
        have tyOf : PySem.W.Looks (model X.prog X.w) g (typeOf (.ref a)) cls := fun _ _ _ _ k q => wpAny_typeOf_ref (k _ _ hoe) (hz.1.symm ▸ q)
        have ask := PySem.W.exm_one (M := model X.prog X.w) JG.kIn tyOf hb
        refine wpAny_handleBy_cons (codeAny_handlers_test ?_) (fun z => by cases z)
        have named : ∀ {Q : Value → Shared → Prop} {E : Value → Shared → Prop}, Q c { t with heap := g } → wpAny (model X.prog X.w) (X.A.mark (some (.ref a))) (eval (.Name x p1) X.env) Q E { t with heap := g } := by
          intro Q E q
          obtain ⟨isG, nodbg, isM | ⟨isM, isB, nn⟩⟩ := cl
          · exact ld_glob (X := X.suite a ((a, oe) :: (X.pn ++ pins))) SG isG isM q nodbg
          · exact ld_blt (X := X.suite a ((a, oe) :: (X.pn ++ pins))) SG isG isM isB q nn nodbg
        refine named (ask.here ?_)
        cases b with
        | false => exact ih (no rfl)
        | true =>
          apply codeAny_handlers_suite_as
          refine HandSPX.lands_againZ fly (fun g4 fly4 up4 => ?_)
          have J4 : Inv X pins σ' H' { t with heap := g4 } := J.landed nb fly4.1 ((grown.trans up).trans up4) os bare
          obtain ⟨oe4, vs4, hoe4, hz4, hdat4⟩ := fly4.there
          have S4 := J4.suite hoe4 hdat4 fresh aL aF
          refine store_ok (X := X.suite a ((a, oe4) :: (X.pn ++ pins))) (v := .ref a) S4 nd slot (.inl lo) rfl (fun t5 S5 => ?_) (.inr lo)
          refine wpAny_mono ((body a oe4 cls d (X.pn ++ pins) hz4 ⟨_, hdat4⟩).run [] t5 _ H' _ S5 (yes rfl a fresh)) (fun f t6 out => ?_) (fun _ _ z => z.elim)
          have unname : ∀ {σ6 : L2.St} {H6 : Hp} {Q : Shared → Prop}, Inv (X.suite a ((a, oe4) :: (X.pn ++ pins))) [] σ6 H6 t6 → (∀ t7, Inv X pins (σ6.set i none) H6 t7 → Q t7) →
              wpAny (model X.prog X.w) X.A (do bindName X.env n .none; unbindBehindTheSuite X.env n p2) (fun _ t7 => Q t7) X.xe t6 := by
            intro σ6 H6 Q S6 hq
            exact gone_ok (S6.unsuite here) nd slot lo hq
          cases f with
          | ret u =>
            obtain ⟨v6, σ6, H6, S6, r6, q6⟩ := out
            exact unname S6 fun t7 J7 => ⟨v6, _, _, J7, r6, q6⟩
          | cont =>
            obtain ⟨σ6, H6, S6, q6⟩ := out
            exact unname S6 fun t7 J7 => ⟨_, _, J7, q6⟩
          | brk =>
            obtain ⟨σ6, H6, S6, q6⟩ := out
            exact unname S6 fun t7 J7 => ⟨_, _, J7, q6⟩
          | next =>
            obtain ⟨σ6, H6, S6, q6⟩ := out
            exact unname S6 fun t7 J7 => ⟨_, _, J7, q6⟩
    exact goOn all wish
end
end My
namespace My
open PySem PySem.Spec PyProof.Rows L2
/-! ### shapes of data, for comparing -/
structure ShD (n : Nat) (d : PyData) : Prop where
  lay : d.canLay0 = true
  dep : d.depth ≤ n
theorem ShD.sh {n : Nat} {d : PyData} (h : ShD n d) (hn : n ≤ 64) : SeqAt.shaped d = true := by
  unfold SeqAt.shaped
  rw [h.lay, decide_eq_true (Nat.le_trans h.dep hn)]
  rfl
theorem ShD.mono {n m : Nat} {d : PyData} (h : ShD n d) (hn : n ≤ m) : ShD m d := ⟨h.lay, Nat.le_trans h.dep hn⟩
theorem shd_int {n : Nat} (i : Int) : ShD n (.int i) := ⟨by simp [PyData.canLay0], by simp [PyData.depth]⟩
theorem shd_bl {n : Nat} (b : Bool) : ShD n (.bool b) := ⟨by simp [PyData.canLay0], by simp [PyData.depth]⟩
theorem shd_non {n : Nat} : ShD n .none := ⟨by simp [PyData.canLay0], by simp [PyData.depth]⟩
theorem shd_str {n : Nat} {x : Str} (h : PyData.canLay0 (.str x) = true) : ShD n (.str x) := ⟨h, by simp [PyData.depth]⟩
theorem shd_all {n : Nat} : ∀ {ds : List PyData}, (∀ d ∈ ds, ShD n d) → PyData.canLayAll0 ds = true ∧ PyData.depthAll ds ≤ n
  | [], _ => ⟨rfl, Nat.zero_le _⟩
  | d :: r, h => by
    have h1 := h d List.mem_cons_self
    have h2 := shd_all (ds := r) fun x m => h x (List.mem_cons_of_mem _ m)
    refine ⟨?_, ?_⟩
    · rw [PyData.canLayAll0, h1.lay, h2.1]
      rfl
    · rw [PyData.depthAll]
      exact Nat.max_le.mpr ⟨h1.dep, h2.2⟩
theorem shd_lst {n : Nat} {ds : List PyData} (h : ∀ d ∈ ds, ShD n d) : ShD (n + 1) (.list ds) := ⟨by rw [PyData.canLay0]; exact (shd_all h).1, by rw [PyData.depth]; exact Nat.succ_le_succ (shd_all h).2⟩
theorem shd_tup {n : Nat} {ds : List PyData} (h : ∀ d ∈ ds, ShD n d) : ShD (n + 1) (.tuple ds) := ⟨by rw [PyData.canLay0]; exact (shd_all h).1, by rw [PyData.depth]; exact Nat.succ_le_succ (shd_all h).2⟩
theorem shd_ints {n : Nat} (ns : List Int) : ShD (n + 1) (.list (ns.map PyData.int)) := shd_lst fun d m => by
  obtain ⟨i, _, rfl⟩ := List.mem_map.mp m
  exact shd_int i
theorem q_eqS {K : PySem.W.Frag} {H : Hp} {x y : V} {d : PyData} {Q : VK} (hx : Dp K H x d) (hy : Dp K H y d) (s : SeqAt.shaped d = true) (h : Q (.bl true) H) : rEqD K x y H Q :=
  ⟨_, _, hx, hy, s, s, by rw [eqv_same s]; exact h⟩
theorem q_neS {K : PySem.W.Frag} {H : Hp} {x y : V} {d : PyData} {Q : VK} (hx : Dp K H x d) (hy : Dp K H y d) (s : SeqAt.shaped d = true) (h : Q (.bl false) H) : rNeD K x y H Q :=
  ⟨_, _, hx, hy, s, s, by rw [eqv_same s]; exact h⟩
/-! ### a body that may let out what is caught -/
theorem pss_ex {X : Cx} {W : WX} {n : Nat} {ss : List Stmt} {r : XK → TS} (h : ∀ E : XK, (∀ cls d σ' H', E cls d H' → σ'.length = n → W cls d σ' H') → PSs X ss (r E)) :
    PSs X ss (fun D σ H => ∃ E : XK, (∀ cls d σ' H', E cls d H' → σ'.length = n → W cls d σ' H') ∧ r E D σ H) :=
  ⟨fun pins s σ H D I ⟨E, hE, q⟩ => (h E hE).run pins s σ H D I q⟩
theorem takes_len {X : Cx} {W : WX} (t : Takes X W) : Takes X (fun c d σ H => σ.length = X.N.length → W c d σ H) := fun u s' ⟨a, B, sI, pins, σ, H, cls, d, e, I, nb, up, sky, na, os, ag, w⟩ =>
  t u s' ⟨a, B, sI, pins, σ, H, cls, d, e, I, nb, up, sky, na, os, ag, w I.len⟩
theorem vk_mono {tl : XK → Hp → VK → Prop} {E : XK} {H : Hp} {R R' : VK} (he : ∀ v H1, R v H1 ↔ R' v H1) (h : tl E H R) : tl E H R' := by
  have e : R = R' := funext fun v => funext fun H1 => propext (he v H1)
  rw [← e]
  exact h
theorem len3 {σ : L2.St} (h : σ.length = 3) : ∃ x y z, σ = [x, y, z] := match σ, h with | [x, y, z], _ => ⟨x, y, z, rfl⟩
/-! ### a def that makes lambdas: its code object is known -/
structure FunC (K : PySem.W.Frag) (x qual : Str) (st : Stmt) (f : Addr) (fd : FuncData) (c : Addr) : Prop where
  ex : ∃ (oc : Value) (od : Option Addr) (kV doc pm : Value) (an : Option Addr) (ct : Value) (osl : Array (Option Value)),
    fd = PySem.W.fnOf x qual (defArgs st) (defBody st) (defScope st) .none kV doc pm an (.ref c) ct ∧ K.lookup f = some ⟨oc, od, .func fd, osl⟩ ∧ PySem.W.codeIn K (.ref c) qual = true
theorem FunC.ok {P : Program} {w : World} {K : PySem.W.Frag} {mg : Str → Option Value} {base : Heap} {x qual : Str} {st : Stmt} {f c : Addr} {fd : FuncData} {N ps : List Str} {k : Nat} {sp : Sp} (F : FunC K x qual st f fd c) (S : FnScope N ps (defScope st)) (len : ∀ vs H Q E, sp vs H Q E → vs.length = ps.length)
    (hbody : ∀ (A : Around) (outer : List Env) (s : Shared) (H : Hp) (vs : List V) (Q : VK) (E : XK), Room k (A.deeper (envOfC qual (defScope st) s.heap.objs.size f (.ref c))) → sp vs H Q E →
      ∃ t, PSs (cxOf CX0 P w K mg base N qual (defScope st) f (.ref c) A outer s H E).nox (defBody st) t ∧ t { nx := fun _ H' => Q .non H', rt := Q } (start N vs) H) : FnOk P w K mg base CX0 (k + 1) f fd ps sp := by
  obtain ⟨oc, od, kV, doc, pm, an, ct, osl, rfl, lk, hcd⟩ := F.ex
  refine fn_of lk hcd S len fun A outer s H vs Q E hr hsp => ?_
  obtain ⟨t, h, q⟩ := hbody A outer s H vs Q E hr hsp
  exact ⟨t, h.nox, q⟩
theorem funC_mk {K : PySem.W.Frag} {x qual : Str} {st : Stmt} {f c0 : Addr} {oc : Value} {od an : Option Addr} {osl : Array (Option Value)} {kV doc pm ct : Value} (l : K.lookup f = some ⟨oc, od, .func (PySem.W.fnOf x qual (defArgs st) (defBody st) (defScope st) .none kV doc pm an (.ref c0) ct), osl⟩)
    (c : PySem.W.codeIn K (.ref c0) qual = true) : FunC K x qual st f (PySem.W.fnOf x qual (defArgs st) (defBody st) (defScope st) .none kV doc pm an (.ref c0) ct) c0 := ⟨⟨oc, od, kV, doc, pm, an, ct, osl, rfl, l, c⟩⟩
/-! ### tables beside draws -/
def UpN (a : Addr) (H H' : Hp) : Prop := ∀ b o, b ≠ a → H b = some o → (∀ ps, o ≠ .tbl ps) → H' b = some o
theorem UpN.refl (a : Addr) (H : Hp) : UpN a H H := fun _ _ _ h _ => h
theorem UpN.trans {a : Addr} {H H1 H2 : Hp} (u : UpN a H H1) (v : UpN a H1 H2) : UpN a H H2 := fun b o n h t => v b o n (u b o n h t) t
theorem Up.n {a : Addr} {H H' : Hp} (u : Up a H H') : UpN a H H' := fun b o n h _ => u b o n h
theorem ext_n {a : Addr} {H H' : Hp} (x : LamX.ExtN H H') : UpN a H H' := fun b o _ h t => x b o h t
theorem Src.ext {a : Addr} {H H' : Hp} (x : LamX.ExtN H H') (s : Src H a) : Src H' a := by
  obtain ⟨u, v, e, r⟩ := s
  exact ⟨u, v, x _ _ e (fun ps z => by cases z), r⟩
theorem tabs_up {T : List (Addr × Str)} {a : Addr} {H H' : Hp} (t : LamX.Tabs T H) (u : Up a H H') (s : Src H a) : LamX.Tabs T H' := fun p hp => by
  obtain ⟨x, y, e, _⟩ := s
  obtain ⟨ps, h1, h2, h3⟩ := t p hp
  refine ⟨ps, u _ _ (fun z => ?_) h1, h2, fun pos cv hc => ?_⟩
  · rw [z, e] at h1
    cases h1
  · obtain ⟨c, e1, e2⟩ := h3 pos cv hc
    refine ⟨c, e1, u _ _ (fun z => ?_) e2⟩
    rw [z, e] at e2
    unfold LamX.CodeO at e2
    cases e2
theorem tabs_same {T : List (Addr × Str)} {H H' : Hp} (t : LamX.Tabs T H) (s : Same H H') : LamX.Tabs T H' := t.ext fun b o e => s b o e
theorem ext_same {H H' : Hp} (s : Same H H') : LamX.ExtN H H' := fun b o e _ => s b o e
theorem UpN.to {a : Addr} {G H H' : Hp} (u : UpN a H H') (x : LamX.ExtN G H) (n : G a = none) : LamX.ExtN G H' := fun b o e t => u b o (ne_of_none e n) (x b o e t) t
theorem ext_seq {K : PySem.W.Frag} {H H' : Hp} {a : Addr} {xs : List V} (x : LamX.ExtN H H') (h : SqL K H a xs) : SqL K H' a xs := by
  rcases h with (h | ⟨o, h⟩) | h
  · exact .inl (.inl (x _ _ h (fun ps z => nomatch z)))
  · exact .inl (.inr ⟨o, x _ _ h (fun ps z => nomatch z)⟩)
  · exact .inr h
/-! ### the value of bits -/
theorem valI_lt : ∀ (n : Nat) (xs : List Int), xs.length = n → AreBits xs → ∃ z : Nat, valI xs = (z : Int) ∧ z < 2 ^ n
  | 0, xs, h, _ => by
    rw [List.length_eq_zero_iff.mp h]
    exact ⟨0, rfl, by decide⟩
  | n + 1, xs, h, hb => by
    rcases List.eq_nil_or_concat xs with rfl | ⟨ys, y, rfl⟩
    · cases h
    have hl : ys.length = n := by
      rw [List.length_concat] at h
      omega
    rw [List.concat_eq_append] at hb ⊢
    obtain ⟨z, hz, hz2⟩ := valI_lt n ys hl fun b m => hb b (List.mem_append_left _ m)
    have hb2 := hb y (List.mem_append_right _ (List.mem_singleton.mpr rfl))
    rw [valI_snoc, hz]
    have p : 2 ^ (n + 1) = 2 * 2 ^ n := by rw [Nat.pow_succ, Nat.mul_comm]
    exact ⟨2 * z + y.toNat, by omega, by omega⟩
/-! ### digits with zeros ahead -/
theorem bitsW_zero : ∀ d, bitsW d 0 = List.replicate d 0
  | 0 => rfl
  | d + 1 => by
    rw [bitsW, Nat.zero_div, bitsW_zero d, List.replicate_succ']
theorem bitsW_pad (d : Nat) : ∀ w n, n < 2 ^ w → bitsW (d + w) n = List.replicate d 0 ++ bitsW w n
  | 0, n, h => by
    have e : n = 0 := by omega
    subst e
    rw [Nat.add_zero, bitsW_zero, bitsW, List.append_nil]
  | w + 1, n, h => by
    have p : 2 ^ (w + 1) = 2 * 2 ^ w := by rw [Nat.pow_succ, Nat.mul_comm]
    show bitsW (d + w + 1) n = _
    rw [bitsW, bitsW, bitsW_pad d w (n / 2) (by omega), List.append_assoc]
theorem bitsI_pad (d w n : Nat) (h : n < 2 ^ w) : bitsI (d + w) n = List.replicate d 0 ++ bitsI w n := by
  unfold bitsI
  rw [bitsW_pad d w n h, List.map_append, List.map_replicate]
  rfl
end My
namespace My
open PySem PySem.Spec PyProof.Rows L2
/-! ### xs[i] op= e, for a list -/
theorem get_list {X : Cx} : PGet X (rIxL X.K) := by
  intro pins s σ H o i ov iv Q I ro ri h
  obtain ⟨p, xs, i, z, rfl, rfl, hq, he, q⟩ := h
  cases ro
  obtain ⟨t, rfl⟩ := ri
  obtain ⟨its, r, pl, hz⟩ := I.list hq
  obtain ⟨j, h1, h2, h3, h4, h5⟩ := atI_get he
  obtain ⟨w, ew, rw'⟩ := r.get h2
  have hl := r.length
  have hn := line63
  have fin : EP X pins σ Q w s := ⟨z, H, I, rw', q⟩
  by_cases h0 : 0 ≤ i
  · have hj : i.toNat = j := by
      rw [seqIndex_of h0 h5] at h1
      exact Option.some.inj h1
    exact wpAny_getItem_list pl.isList h0 (by omega) (by rw [hj]; simpa using ew) fin
  · have hj : (i + (its.toArray.size : Int)).toNat = j := by
      rw [seqIndex_neg (by omega) h4] at h1
      rw [List.size_toArray, ← hl]
      exact Option.some.inj h1
    exact wpAny_getItem_list_neg pl.isList (by omega) (by rw [List.size_toArray] <;> omega) (by omega) (by rw [hj]; simpa using ew) fin
/-! ### sum and for over a list or a tuple -/
def SqS (K : PySem.W.Frag) (H : Hp) (p : Addr) (xs : List V) : Prop := SqL K H p xs ∨ SqT K H p xs
def rSumS (K : PySem.W.Frag) : List V → Hp → VK → Prop := fun vs H Q => ∃ (a : Addr) (ns : List Int), vs = [V.ref a] ∧ SqS K H a (ns.map V.int) ∧ Q (.int ns.sum) H
theorem cr_sumS {X : Cx} (hc : X.calm = true) : CallR X (.builtin "sum") (rSumS X.K) := by
  intro pins s σ H vs us Q I r h
  obtain ⟨a, ns, rfl, hs, q⟩ := h
  rcases hs with hs | hs
  · exact cr_sum hc pins s σ H _ us Q I r ⟨a, ns, rfl, hs, q⟩
  · obtain ⟨its, rv, p, _⟩ := I.tuple hs
    rw [Vals.ref1 r]
    obtain ⟨xs, e⟩ := rv.ints.allInts.items
    have hn : numsOf (intItems xs).toList = ns := by rw [← e]; exact rv.ints.numsOf
    rw [nums_intItems] at hn
    have p2 : s.heap.IsTuple a (intItems xs) := by rw [← e]; exact p
    refine PySem.W.ktm_sumG (I.ok.hd hc) p2 fun h' tk t' hk => ?_
    rw [preSum_eq, List.take_of_length_le (by simp), hn]
    exact ⟨.int _, H, I.kept hk, ⟨_, rfl⟩, q⟩
def iSeq (K : PySem.W.Frag) (tl : TE) : TI := fun σ H R => tl σ H fun x H1 => ∃ a, x = .ref a ∧ (((∃ xs, SqL K H1 a xs) ∧ R (Itl K a) H1) ∨ ((∃ xs, SqT K H1 a xs) ∧ R (Itt K a) H1))
theorem pi_seq {X : Cx} {tg l : Expr} {tl : TE} (hl : PE X l tl) : PI X tg l (iSeq X.K tl) := by
  refine ⟨fun pins s σ H R I h => ?_⟩
  refine thn (hl.run pins s σ H _ I h) fun v s1 ⟨x, H1, I1, r1, q1⟩ => ?_
  obtain ⟨a, e, q⟩ := q1
  subst e
  cases r1
  rcases q with ⟨⟨xs, hq⟩, q⟩ | ⟨⟨xs, hq⟩, q⟩
  · obtain ⟨its, rv, p, hz⟩ := I1.list hq
    refine wpAny_pyIter_list p.isList ?_
    refine ⟨s1.heap.objs.size, [s1.heap.objs.size], _, _, H1, rfl, I1.kept (t' := s1.toks) fun b o e => Heap.get?_push_of_some _ e, turn_list a _, ⟨_, Heap.get?_push_size _ rfl, rfl, rfl⟩, fun b hb => ?_, q⟩
    have e : b = s1.heap.objs.size := by simpa using hb
    subst e
    exact I1.fpOk (Nat.le_refl _) (I1.hok.fresh (Nat.le_refl _))
  · obtain ⟨its, rv, p, hz⟩ := I1.tuple hq
    refine wpAny_pyIter_tuple (show s1.heap.IsTuple a its.toArray from p) ?_
    refine ⟨s1.heap.objs.size, [s1.heap.objs.size], _, _, H1, rfl, I1.kept (t' := s1.toks) fun b o e => Heap.get?_push_of_some _ e, turn_tuple a _, ⟨_, Heap.get?_push_size _ rfl, rfl, rfl⟩, fun b hb => ?_, q⟩
    have e : b = s1.heap.objs.size := by simpa using hb
    subst e
    exact I1.fpOk (Nat.le_refl _) (I1.hok.fresh (Nat.le_refl _))
theorem same_seqT {K : PySem.W.Frag} {H H' : Hp} {a : Addr} {xs : List V} (e : Same H H') (h : SqT K H a xs) : SqT K H' a xs := by
  rcases h with (h | ⟨o, h⟩) | h
  · exact .inl (.inl (e _ _ h))
  · exact .inl (.inr ⟨o, e _ _ h⟩)
  · exact .inr h
theorem same_seqS {K : PySem.W.Frag} {H H' : Hp} {a : Addr} {xs : List V} (e : Same H H') (h : SqS K H a xs) : SqS K H' a xs := by
  rcases h with h | h
  · exact .inl (e.seq h)
  · exact .inr (same_seqT e h)
theorem for_seq {K : PySem.W.Frag} {a : Addr} {xs : List V} {g : TG} {tb : TS} {D : Ends} {σ : L2.St} {H : Hp} (Pv : Nat → L2.St → Hp → Prop) (h0 : Pv 0 σ H) (hl : (∀ i σ' H', i ≤ xs.length → Pv i σ' H' → SqL K H' a xs) ∨ (∀ i σ' H', i ≤ xs.length → Pv i σ' H' → SqT K H' a xs))
    (hs : ∀ i x σ H, xs[i]? = some x → Pv i σ H → g x σ H fun σ2 H2 => tb { D with nx := Pv (i + 1), ct := Pv (i + 1), bk := D.nx } σ2 H2) (hd : ∀ σ H, Pv xs.length σ H → D.nx σ H) :
    ((∃ ys, SqL K H a ys) ∧ ∃ W : Nat → Nat → L2.St → Hp → Prop, (∃ m, W 0 m σ H) ∧ ∀ i m σ H, W i m σ H →
      ((Itl K a).stop i H ∧ D.nx σ H) ∨ ((Itl K a).go i H ∧ ∃ N : L2.St → Hp → Prop, (∀ σ' H', N σ' H' → ∃ m', m' < m ∧ W (i + 1) m' σ' H') ∧ ∀ x H', (Itl K a).yld i H x H' → g x σ H' fun σ2 H2 => tb { D with nx := N, ct := N, bk := D.nx } σ2 H2)) ∨
    ((∃ ys, SqT K H a ys) ∧ ∃ W : Nat → Nat → L2.St → Hp → Prop, (∃ m, W 0 m σ H) ∧ ∀ i m σ H, W i m σ H →
      ((Itt K a).stop i H ∧ D.nx σ H) ∨ ((Itt K a).go i H ∧ ∃ N : L2.St → Hp → Prop, (∀ σ' H', N σ' H' → ∃ m', m' < m ∧ W (i + 1) m' σ' H') ∧ ∀ x H', (Itt K a).yld i H x H' → g x σ H' fun σ2 H2 => tb { D with nx := N, ct := N, bk := D.nx } σ2 H2)) := by
  rcases hl with h | h
  · exact .inl ⟨⟨_, h _ _ _ (Nat.zero_le _) h0⟩, for_list Pv h0 h hs hd⟩
  · exact .inr ⟨⟨_, h _ _ _ (Nat.zero_le _) h0⟩, for_tup Pv h0 h hs hd⟩
end My
namespace My
open PySem PySem.Spec PyProof.Rows L2
/-! ### classes: makers, methods, properties, handed round as one fact each -/
theorem passN {X : Cx} : Passes (L2.CX X.prog X.w) X C8.E0 := fun _ _ _ _ _ _ _ c => by
  obtain ⟨_, _, _, _, _, _, _, _, _, _, _, _, z⟩ := c
  exact z.elim
section
variable {X : Cx} {CX : CXT} {k j : Nat} {f C : Addr} {fd : FuncData} {ps ks : List Str} {sp : Sp} {E : XK} {x m : Str} {p pos apos : Pos} {e o : Expr} {es : List Expr} {kws : List Keyword} {ta : TE} {t tk : TA} {g : List Value → List Value → List Value} {gV : List V → List V → List V}
/-- o.m(k = v, ..), nothing by position -/
def tMethK (C : Addr) (m : Str) (n : Nat) (sp : Sp) (E : XK) (ta : TE) (tk : TA) : TE := fun σ H Q => ta σ H fun x H1 => ∃ a dx fs, x = .ref a ∧ H1 a = some (.ins C dx fs) ∧ fs.lookup m = none ∧ tk σ H1 fun zs H2 => zs.length = n ∧ sp (x :: zs) H2 Q E
theorem pe_methK {pl : Sem Bool} (he : PE X o ta) (c : Cls X.K C) (hm : Meth X.K C m f) (F : FnOk X.prog X.w X.K X.mg X.base CX k f fd ps sp) (hr : Room k X.A) (hb : KBn X.K fd ps 1 ks (fun us ws => us ++ ws) (fun vs zs => vs ++ zs)) (hx : Passes CX X E) (hkw : PK X kws tk)
    (hall : (backToKw pos (keywordEach kws X.env)).all (·.1.isSome) = true := by rfl) (hks : (backToKw pos (keywordEach kws X.env)).filterMap (·.1) = ks := by rfl)
    (hpl : ((backTo pos (starEach [] X.env)).any (·.1) || (backToKw pos (keywordEach kws X.env)).any (·.1.isNone)) = false := by rfl)
    (ht : eval (.Call (.Attribute o m apos) [] kws pos) X.env = (do
      let ov ← eval o X.env
      standAt apos.atName
      let (f, first) ← holding [ov] (getMethod ov m pl)
      callWith pos f first (backTo pos (starEach [] X.env)) (backToKw pos (keywordEach kws X.env))) := by rfl) :
    PE X (.Call (.Attribute o m apos) [] kws pos) (tMethK C m ks.length sp E ta tk) := by
  refine ⟨fun pins s σ H Q I h => ?_⟩
  refine PySem.W.methodCall_KW (pl := pl) (thn (he.run pins s σ H _ I h) fun u s1 ⟨x, H1, I1, rx, a, dx, fs, ex, ea, l, q⟩ => ?_) ht
  subst ex
  obtain rfl : u = Value.ref a := rx
  refine getmeth_ok I1 ea c hm l ?_
  refine PySem.W.callWith_KW0 (first := [.ref a]) (h₀ := X.base) I.ok.mod.kin hm.kp hall ?_ hpl
  refine thn (hkw.run pos pins s1 σ H1 _ I1 q) fun ws s2 ⟨zs, H2, I2, rz, l2, q2⟩ => ⟨I2.kIn, ?_⟩
  rw [hks]
  exact run_fnN (us := [.ref a]) (vs := [.ref a]) F hr hb hx I2 (.cons rfl .nil) rz rfl l2 q2
end
/-- a method that may be called -/
structure CalM (P : Program) (w : World) (K : PySem.W.Frag) (mg : Str → Option Value) (base : Heap) (k : Nat) (C : Addr) (m : Str) (ks : List Str) (sp : Sp) : Prop where
  ex : ∃ (f : Addr) (fd : FuncData) (ps : List Str), Meth K C m f ∧ FnOk P w K mg base (L2.CX P w) k f fd ps sp ∧ Binds K fd ps [] ∧ KBn K fd ps 1 ks (fun us ws => us ++ ws) (fun vs zs => vs ++ zs)
/-- a class that may be called -/
structure CalC (P : Program) (w : World) (K : PySem.W.Frag) (mg : Str → Option Value) (base : Heap) (k : Nat) (x : Str) (C : Addr) (ks : List Str) (sp : Sp) : Prop where
  gl : mg x = some (.ref C)
  ex : ∃ (f : Addr) (fd : FuncData) (ps : List Str), Mk K C f ∧ FnOk P w K mg base (L2.CX P w) k f fd ps sp ∧ Binds K fd ps [] ∧ KBn K fd ps 1 ks (fun us ws => us ++ ws) (fun vs zs => vs ++ zs)
/-- a property that may be read -/
structure CalP (P : Program) (w : World) (K : PySem.W.Frag) (mg : Str → Option Value) (base : Heap) (k : Nat) (C : Addr) (f : Str) (sp : Sp) : Prop where
  ex : ∃ (p g : Addr) (fd : FuncData) (ps : List Str), PropOf K C f p g ∧ FnOk P w K mg base CX0 k g fd ps sp ∧ Binds K fd ps []
section
variable {X : Cx} {k j : Nat} {C : Addr} {ks : List Str} {sp : Sp} {E : XK} {x m : Str} {p pos apos : Pos} {e o : Expr} {es : List Expr} {kws : List Keyword} {ta : TE} {t tk : TA}
/-- o.m(e, ..); E: what is wanted of an exception -/
theorem pe_mx {pl : Sem Bool} (M : CalM X.prog X.w X.K X.mg X.base k C m ks sp) (c : Cls X.K C) (hr : Room j X.A) (hk : k ≤ j) (hx : Passes (L2.CX X.prog X.w) X E) (he : PE X o ta) (ha : PA X (e :: es) t)
    (hst : starEach (e :: es) X.env = (false, eval e X.env) :: starEach es X.env := by rfl) (hpl : (backTo pos (starEach es X.env)).any (·.1) = false := by rfl)
    (ht : eval (.Call (.Attribute o m apos) (e :: es) [] pos) X.env = (do
      let ov ← eval o X.env
      standAt apos.atName
      let (f, first) ← holding [ov] (getMethod ov m pl)
      callWith pos f first (backTo pos (starEach (e :: es) X.env)) (backToKw pos (keywordEach [] X.env))) := by rfl) :
    PE X (.Call (.Attribute o m apos) (e :: es) [] pos) (tMeth C m sp [] E ta t) := by
  obtain ⟨f, fd, ps, hm, F, hb, _⟩ := M.ex
  exact pe_meth he c hm F (hr.mono hk) hb .nil hx ha hst hpl ht
/-- o.m() -/
theorem pe_mx0 {pl : Sem Bool} (M : CalM X.prog X.w X.K X.mg X.base k C m ks sp) (c : Cls X.K C) (hr : Room j X.A) (hk : k ≤ j) (hx : Passes (L2.CX X.prog X.w) X E) (he : PE X o ta)
    (ht : eval (.Call (.Attribute o m apos) [] [] pos) X.env = (do
      let ov ← eval o X.env
      standAt apos.atName
      let (f, first) ← holding [ov] (getMethod ov m pl)
      callWith pos f first (backTo pos (starEach [] X.env)) (backToKw pos (keywordEach [] X.env))) := by rfl) :
    PE X (.Call (.Attribute o m apos) [] [] pos) (tMeth C m sp [] E ta tNil) := by
  obtain ⟨f, fd, ps, hm, F, hb, _⟩ := M.ex
  exact pe_meth0 he c hm F (hr.mono hk) hb .nil hx ht
/-- o.m(k = v, ..) -/
theorem pe_mxK {pl : Sem Bool} (M : CalM X.prog X.w X.K X.mg X.base k C m ks sp) (c : Cls X.K C) (hr : Room j X.A) (hk : k ≤ j) (hx : Passes (L2.CX X.prog X.w) X E) (he : PE X o ta) (hkw : PK X kws tk)
    (hall : (backToKw pos (keywordEach kws X.env)).all (·.1.isSome) = true := by rfl) (hks : (backToKw pos (keywordEach kws X.env)).filterMap (·.1) = ks := by rfl)
    (hpl : ((backTo pos (starEach [] X.env)).any (·.1) || (backToKw pos (keywordEach kws X.env)).any (·.1.isNone)) = false := by rfl)
    (ht : eval (.Call (.Attribute o m apos) [] kws pos) X.env = (do
      let ov ← eval o X.env
      standAt apos.atName
      let (f, first) ← holding [ov] (getMethod ov m pl)
      callWith pos f first (backTo pos (starEach [] X.env)) (backToKw pos (keywordEach kws X.env))) := by rfl) :
    PE X (.Call (.Attribute o m apos) [] kws pos) (tMethK C m ks.length sp E ta tk) := by
  obtain ⟨f, fd, ps, hm, F, _, hb⟩ := M.ex
  exact pe_methK he c hm F (hr.mono hk) hb hx hkw hall hks hpl ht
/-- C(e, ..) -/
theorem pe_new (M : CalC X.prog X.w X.K X.mg X.base k x C ks sp) (hr : Room j X.A) (hk : k + 1 ≤ j) (hg : Gl X x) (hx : Passes (L2.CX X.prog X.w) X E) (ha : PA X (e :: es) t) (hdb : (x == ("__debug__" : Str)) = false := by decide)
    (he : starEach (e :: es) X.env = (false, eval e X.env) :: starEach es X.env := by rfl) (hpl : (backTo pos (starEach es X.env)).any (·.1) = false := by rfl) :
    PE X (.Call (.Name x p) (e :: es) [] pos) (tMake C sp [] E t) := by
  obtain ⟨f, fd, ps, hm, F, hb, _⟩ := M.ex
  exact pe_make hm F (hr.mono hk) hg M.gl hb .nil hx ha hdb he hpl
/-- C() -/
theorem pe_new0 (M : CalC X.prog X.w X.K X.mg X.base k x C ks sp) (hr : Room j X.A) (hk : k + 1 ≤ j) (hg : Gl X x) (hx : Passes (L2.CX X.prog X.w) X E) (hdb : (x == ("__debug__" : Str)) = false := by decide) :
    PE X (.Call (.Name x p) [] [] pos) (tMake C sp [] E tNil) := by
  obtain ⟨f, fd, ps, hm, F, hb, _⟩ := M.ex
  exact pe_make0 hm F (hr.mono hk) hg M.gl hb .nil hx hdb
/-- C(k = v, ..) -/
theorem pe_newK (M : CalC X.prog X.w X.K X.mg X.base k x C ks sp) (hr : Room j X.A) (hk : k + 1 ≤ j) (hg : Gl X x) (hx : Passes (L2.CX X.prog X.w) X E) (hkw : PK X kws tk)
    (hall : (backToKw pos (keywordEach kws X.env)).all (·.1.isSome) = true := by rfl) (hks : (backToKw pos (keywordEach kws X.env)).filterMap (·.1) = ks := by rfl) (hdb : (x == ("__debug__" : Str)) = false := by decide)
    (hpl : ((backTo pos (starEach [] X.env)).any (·.1) || (backToKw pos (keywordEach kws X.env)).any (·.1.isNone)) = false := by rfl) :
    PE X (.Call (.Name x p) [] kws pos) (tMakeK C 0 ks.length sp (fun vs zs => vs ++ zs) E tNil tk) := by
  obtain ⟨f, fd, ps, hm, F, _, hb⟩ := M.ex
  exact pe_makeK0 hm F (hr.mono hk) hg M.gl hb hx hkw hall hks hdb hpl
/-- e.f, a property -/
theorem pe_pr {f : Str} (M : CalP X.prog X.w X.K X.mg X.base k C f sp) (c : Cls X.K C) (hr : Room j X.A) (hk : k + 1 ≤ j) (he : PE X e ta) (hab : attributeBase e f X.env (eval e X.env) = eval e X.env) : PE X (.Attribute e f pos) (tProp C sp [] C8.E0 ta) := by
  obtain ⟨p, g, fd, ps, hp, F, hb⟩ := M.ex
  exact pe_prop he c hp F (hr.mono hk) hb .nil pass0 hab
end
end My
namespace My
open PySem PySem.Spec PyProof.Rows L2
/-! ### exceptions with a field of their own -/
/-- isinstance of the exception that a suite holds, where it has its own dict -/
theorem call_isEd {X : Cx} {a D : Addr} {oe : Obj} {cls : Value} {d : Option Addr} {pn : List (Addr × Obj)} (C : ExcC X.K D) (hz : Zc cls d oe) (hf : ∃ vs, oe.data = .fields vs) :
    CallR (X.suite a ((a, oe) :: pn)) (.builtin "isinstance") (fun xs H Q => cls = .ref D ∧ (∃ dd fs, d = some dd ∧ H dd = some (.xd fs)) ∧ rIsE X.K D a xs H Q) := by
  intro pins s σ H xs us Q I r h
  obtain ⟨e1, ⟨dd, fs, e2, ea⟩, c, cv, b, rfl, hcv, e, q⟩ := h
  subst e1 e2
  cases r with
  | cons rx rr =>
    cases rr with
    | cons rt rr =>
      cases rr
      cases rx
      have ec := hcv _ rt
      subst ec
      obtain ⟨hget, _⟩ := I.pin (a, oe) (List.mem_append.mpr (.inl List.mem_cons_self))
      obtain ⟨vs, hv⟩ := hf
      have hx : ObjOk X.prog X.w H s.heap dd (.xd fs) := I.hok dd _ ea
      obtain ⟨mA, hns, hr⟩ := hx
      obtain ⟨od, ho, hl⟩ := lookIn_ns hns
      have J : PySem.W.InstAt s.heap a oe D (some od) := ⟨hget, hz.1, by unfold PySem.W.notCls; rw [hv] <;> rfl, by rw [hz.2]; exact ho⟩
      have hcl : (PySem.W.clsIn X.K D).isSome = true := by
        obtain ⟨cd, hc, _⟩ := PySem.W.any_some C.hd
        rw [hc]
        rfl
      exact PySem.W.kia_one (PySem.W.kitx_exc hcl C.hg C.hk C.hs C.ha C.hn C.ht C.hm) I.kIn J e (fun z => nomatch z) fun tk => ⟨.bl b, H, I.kept (t' := tk) fun _ _ z => z, rfl, q⟩
/-- its __init__: self.f = what is given -/
def spIni (C : Addr) (f : Str) : Sp := fun vs H Q _ => ∃ (a : Addr) (v : V), vs = [.ref a, v] ∧ H a = some (exo a C none) ∧ ∀ dx, H dx = none → dx ≠ a → Q .non (upd (upd H dx (exd dx [(f, v)])) a (exo a C (some dx)))
/-- an own exception class x with one field f, at C -/
structure XDef (P : Program) (w : World) (K : PySem.W.Frag) (mg : Str → Option Value) (base : Heap) (x f : Str) (C : Addr) : Prop where
  gC : mg x = some (.ref C)
  oex : OexC K C
  xf : XfC K C
  no : PySem.W.findIn K (.ref C) f = some none
  isx : ExcC K C
  em : PySem.W.exmOne K (.ref C) (.ref C) = some true
  ini : ∃ (fI : Addr) (fd : FuncData), PySem.W.findIn K (.ref C) "__init__" = some (some (.ref fI)) ∧ PySem.W.typeIn K (.ref fI) = some (.type "function") ∧ FnOk P w K mg base CX0 1 fI fd ["self", f] (spIni C f) ∧ Binds K fd ["self", f] []
theorem pmk_x {X : Cx} {x f : Str} {C : Addr} {j : Nat} {p pos : Pos} {e : Expr} {te : TE} (D : XDef X.prog X.w X.K X.mg X.base x f C) (hr : Room j X.A) (h2 : 2 ≤ j) (hg : Gl X x) (he : PE X e te) (hdb : (x == ("__debug__" : Str)) = false := by decide)
    (hst : starEach [e] X.env = (false, eval e X.env) :: starEach [] X.env := by rfl) : PMk X (.Call (.Name x p) [e] [] pos) (tMkO C (spIni C f) [] (tCons te tNil)) := by
  obtain ⟨fI, fd, iC, tI, F, hb⟩ := D.ini
  exact pmk_oex D.oex iC tI F (hr.mono h2) hb .nil pass0 hg D.gC (pa_cons (hs := hst) he pa_nil) hdb hst (by rfl)
/-- what is made: an exception whose dict holds the field, all else as it was -/
theorem mkx_in {C : Addr} {f : Str} {v : V} {H1 : Hp} {Q : XK} (h : ∀ (d : Addr) (H2 : Hp), H1 d = none → Same H1 H2 → H2 d = some (.xd [(f, v)]) → Q (.ref C) (some d) H2) :
    [v].length ≤ 1000 ∧ ∀ a, H1 a = none → spIni C f (.ref a :: ([v] ++ [])) (upd H1 a (exo a C none))
      (fun u H2 => u = .non ∧ ∃ (d : Addr) (fs : List (Str × V)), H2 a = some (exo a C (some d)) ∧ H2 d = some (exd d fs) ∧ H1 d = none ∧ Q (.ref C) (some d) (upd (del H2 a) d (.xd fs))) (fun _ _ _ => False) := by
  refine ⟨by show 1 ≤ 1000; decide, fun a na => ⟨a, v, rfl, upd_same, fun dx ndx hne => ⟨rfl, dx, [(f, v)], upd_same, (upd_ne hne).trans upd_same, ?_, ?_⟩⟩⟩
  · rw [upd_ne hne] at ndx
    exact ndx
  · have nd : H1 dx = none := by
      rw [upd_ne hne] at ndx
      exact ndx
    refine h dx _ nd (fun b o e => ?_) upd_same
    have b1 := ne_of_none e na
    have b2 := ne_of_none e nd
    rw [upd_ne b2, del_ne b1, upd_ne b1, upd_ne b2, upd_ne b1]
    exact e
end My
namespace My
open PySem PySem.Spec PyProof.Rows L2
local macro_rules | `(tactic| walk_at "sq") => `(tactic| first | assumption | exact .inl (.inl (by assumption)) | exact .inl (.inl upd_same))
local macro_rules | `(tactic| walk_at "st") => `(tactic| first
  | refine ⟨_, rfl, ?_⟩
  | refine ⟨_, _, rfl, rfl, ?_⟩
  | refine ⟨cmull (by omega) (by omega), ?_⟩
  | refine ⟨cmulr (by omega) (by omega), ?_⟩
  | refine ⟨cdivw (by omega) (by omega), ?_⟩
  | refine ⟨(⟨by decide, by decide⟩ : CDiv _ _), ?_⟩
  | refine ⟨(show (0 : Int) < _ by omega), ?_⟩
  | refine ⟨(show (0 : Int) ≤ _ by omega), ?_⟩
  | refine ⟨(⟨by decide, by decide, by decide⟩ : CPow _ _), ?_⟩
  | refine ⟨(⟨by omega, by omega, by omega⟩ : CPow _ _), ?_⟩
  | refine .inl ⟨_, rfl, ?_⟩
  | refine .inr ⟨_, rfl, ?_⟩
  | refine ⟨_, _, _, _, _, rfl, .ty _, .base (.int _), kit_ii, ?_⟩
  | refine ⟨_, _, _, _, _, rfl, .ty _, .base (.int _), kit_ib, ?_⟩
  | refine ⟨_, _, _, _, _, rfl, .ty _, .base (.tup (by assumption)), kit_tt, ?_⟩
  | refine ⟨_, _, _, _, _, rfl, .ty _, .base (.lst (by assumption)), kit_ll, ?_⟩
  | refine iteT ?_
  | refine iteF ?_
  | refine ⟨_, _, rfl, .inl (.inl (by first | assumption | exact upd_same)), rfl, ?_⟩
  | refine ⟨_, _, rfl, ?_⟩
  | refine ⟨cmulr (by split <;> decide) (by split <;> decide), ?_⟩
  | refine ⟨_, _, rfl, .inl (by walk_at "sq"), ?_⟩
  | refine ⟨_, _, rfl, .inr (by walk_at "sq"), ?_⟩
  | refine ⟨_, _, _, _, rfl, rfl, (by walk_at "sq"), rfl, ?_⟩
  | refine ⟨rfl, ?_⟩
  | (refine ite2 (fun hc => ?_) (fun hc => ?_) <;> (try simp only [decide_eq_true_eq, Bool.not_eq_true', decide_eq_false_iff_not, Bool.not_eq_true, Bool.not_eq_false', Bool.false_eq_true, reduceCtorEq, V.int.injEq, not_true_eq_false, not_false_eq_true] at hc) <;> (try (exfalso; omega))))
local macro_rules | `(tactic| walk_at "ev") => `(tactic| repeat' walk_at "st")
def top (i : Nat) : Stmt := PySem.Challenge.pw_narrowingbits_k04_hex_texts_both_ways.main.body.getD i (.Pass ⟨0, 0, 0, 0⟩)
abbrev s_is_number : Stmt := top 6
theorem sc_is_number : FnScope ["thing"] ["thing"] (defScope s_is_number) := ⟨rfl, rfl, rfl, by decide +kernel, rfl, by decide +kernel, by decide +kernel⟩
abbrev s_check_bits : Stmt := top 7
theorem sc_check_bits : FnScope ["bits", "bit"] ["bits"] (defScope s_check_bits) := ⟨rfl, rfl, rfl, by decide +kernel, rfl, by decide +kernel, by decide +kernel⟩
abbrev s_number_of : Stmt := top 8
theorem sc_number_of : FnScope ["bits", "number", "bit"] ["bits"] (defScope s_number_of) := ⟨rfl, rfl, rfl, by decide +kernel, rfl, by decide +kernel, by decide +kernel⟩
abbrev s_fixed : Stmt := top 9
theorem sc_fixed : FnScope ["n", "w", "text", "digit"] ["n", "w"] (defScope s_fixed) := ⟨rfl, rfl, rfl, by decide +kernel, rfl, by decide +kernel, by decide +kernel⟩
abbrev s_hex_of : Stmt := top 13
theorem sc_hex_of : FnScope ["bits", "filling", "filled", "at", "digits"] ["bits"] (defScope s_hex_of) := ⟨rfl, rfl, rfl, by decide +kernel, rfl, by decide +kernel, by decide +kernel⟩
abbrev s_bits_of : Stmt := top 14
theorem sc_bits_of : FnScope ["text", "digits", "_", "rest", "filled", "kept"] ["text"] (defScope s_bits_of) := ⟨rfl, rfl, rfl, by decide +kernel, rfl, by decide +kernel, by decide +kernel⟩
abbrev s_bits_of_digits : Stmt := top 15
theorem sc_bits_of_digits : FnScope ["digits", "filled", "digit"] ["digits"] (defScope s_bits_of_digits) := ⟨rfl, rfl, rfl, by decide +kernel, rfl, by decide +kernel, by decide +kernel⟩
abbrev s_law_pool : Stmt := top 17
theorem sc_law_pool : FnScope ["_law_script", "_law_k", "_law_cell", "_law_big", "_law_mixed"] ["_law_script", "_law_k"] (defScope s_law_pool) := ⟨rfl, rfl, rfl, by decide +kernel, rfl, by decide +kernel, by decide +kernel⟩
abbrev s_law_take : Stmt := top 18
theorem sc_law_take : FnScope ["_law_source", "_law_most", "_law_drawn"] ["_law_source", "_law_most"] (defScope s_law_take) := ⟨rfl, rfl, rfl, by decide +kernel, rfl, by decide +kernel, by decide +kernel⟩
abbrev s_law_one : Stmt := top 19
theorem sc_law_one : FnScope ["_law_source", "_law_things"] ["_law_source", "_law_things"] (defScope s_law_one) := ⟨rfl, rfl, rfl, by decide +kernel, rfl, by decide +kernel, by decide +kernel⟩
abbrev s_law_bits : Stmt := top 20
theorem sc_law_bits : FnScope ["_law_source", "_law_most", "_law_turn"] ["_law_source", "_law_most"] (defScope s_law_bits) := ⟨rfl, rfl, rfl, by decide +kernel, rfl, by decide +kernel, by decide +kernel⟩
abbrev s_law_are_bits : Stmt := top 21
theorem sc_law_are_bits : FnScope ["_law_told", "_law_one_here"] ["_law_told"] (defScope s_law_are_bits) := ⟨rfl, rfl, rfl, by decide +kernel, rfl, by decide +kernel, by decide +kernel⟩
abbrev s_law_hex : Stmt := top 22
theorem sc_law_hex : FnScope ["_law_bits_here", "_law_many", "_law_whole", "_law_found", "_law_at"] ["_law_bits_here"] (defScope s_law_hex) := ⟨rfl, rfl, rfl, by decide +kernel, rfl, by decide +kernel, by decide +kernel⟩
abbrev s_law_back : Stmt := top 23
theorem sc_law_back : FnScope ["_law_text", "_law_bits_here", "_law_sign", "_law_worth", "_law_many", "_law_kept"] ["_law_text"] (defScope s_law_back) := ⟨rfl, rfl, rfl, by decide +kernel, rfl, by decide +kernel, by decide +kernel⟩
abbrev s_law_word : Stmt := top 24
theorem sc_law_word : FnScope ["_law_text", "_law_told", "e"] ["_law_text"] (defScope s_law_word) := ⟨rfl, rfl, rfl, by decide +kernel, rfl, by decide +kernel, by decide +kernel⟩
abbrev s_law_bent : Stmt := top 25
theorem sc_law_bent : FnScope ["_law_source", "_law_text", "_law_signs", "_law_at", "_law_sign", "_law_way", "_law_odds"] ["_law_source", "_law_text"] (defScope s_law_bent) := ⟨rfl, rfl, rfl, by decide +kernel, rfl, by decide +kernel, by decide +kernel⟩
abbrev s_law_is_refused : Stmt := top 26
theorem sc_law_is_refused : FnScope ["_law_bits_here", "_law_told", "e"] ["_law_bits_here"] (defScope s_law_is_refused) := ⟨rfl, rfl, rfl, by decide +kernel, rfl, by decide +kernel, by decide +kernel⟩
abbrev s_law : Stmt := top 27
theorem sc_law : FnScope ["_law_script", "_law_k", "_law_source", "_law_bits_here", "_law_kept", "_law_text", "_law_turn", "_law_bent_here", "_law_due", "_law_ends"] ["_law_script"] (defScope s_law) := ⟨rfl, rfl, rfl, by decide +kernel, rfl, by decide +kernel, by decide +kernel⟩
abbrev s_BadText_init : Stmt := inClass (top 4) 0
theorem sc_BadText_init : FnScope ["self", "row"] ["self", "row"] (defScope s_BadText_init) := ⟨rfl, rfl, rfl, by decide +kernel, rfl, by decide +kernel, by decide +kernel⟩
section
variable {P : Program} {w : World} {K : PySem.W.Frag} {mg : Str → Option Value} {base : Heap}
structure Txt (mg : Str → Option Value) : Prop where
  z_int : mg "int" = none
  z_len : mg "len" = none
  z_max : mg "max" = none
  z_min : mg "min" = none
  z_range : mg "range" = none
  z_isinstance : mg "isinstance" = none
  z_bool : mg "bool" = none
  z_list : mg "list" = none
/-! ### fixed -/
def spFixed : Sp := fun vs H Q _ => ∃ (n w : Nat), vs = [.int n, .int w] ∧ n < 2 ^ w ∧ w ≤ 900 ∧ ∀ (p : Addr) (H' : Hp), H p = none → Same H H' → H' p = some (.lst ((bitsI w n).map V.int)) → Q (.ref p) H'
theorem ok_fixed {f : Addr} {fd : FuncData} {k : Nat} (F : Fun K "fixed" "fixed" s_fixed f fd) (T : Txt mg) : FnOk P w K mg base CX0 (k + 1) f fd ["n", "w"] spFixed := by
  refine F.ok sc_fixed (fun vs H Q E h => ?_) (fun cdv A outer s H vs Q E hr h => ?_)
  · obtain ⟨n, w, rfl, _⟩ := h
    rfl
  · obtain ⟨n, w, rfl, hn, hw, q⟩ := h
    have hb : Builtin.Int.intBits (n : Int) ≤ w := PyProof.Rows.intBits_le (by omega)
    refine ⟨_, (pss_cons (ps_if (PW.pt (pw_or (pt_cmpR op_lt (pv 0) pe_int (nomark _)) (pw_or (pt_cmpR op_lt (pv 1) pe_int (nomark _)) (pw_or1 (pt_cmpR op_gt (pe_bits (pv 0)) (pv 1) (nomark _)))))) (pss_one ps_never) pss_nil)
    (pss_cons (ps_set (i := 2) sc_fixed.nd rfl (Or.inl rfl) (pe_joined1 (pe_fmtB (pe_op op_add (pe_op op_shl pe_int (pv 1)) (pv 0)))))
    (pss_one (ps_ret (pe_lc (own := [("digit", 3)]) (g := (gName 3)) (tt := tYes) rfl sc_fixed.nd (pi_str (pe_slice C8.sl_txt (pv 2) (po_some pe_int) po_none)) (blkOk_by (N := ["n", "w", "text", "digit"]) (sc := defScope s_fixed) (by decide +kernel)) (fun _ _ _ _ _ => pg_name (i := 3) sc_fixed.nd rfl (Or.inl rfl)) (fun _ _ _ _ _ => pts_nil) (fun _ _ _ _ _ => (pe_callTy call_int_str (by rfl) T.z_int PyProof.Rows.boot_int (pa_cons (pv 3) pa_nil)))))))), ?_⟩
    walk_at "ev"
    have e0 : (1 : Int) * 2 ^ (w : Int).toNat + (n : Int) = ((2 ^ w + n : Nat) : Int) := by
      rw [Int.one_mul, Int.toNat_natCast, Int.natCast_add, Int.natCast_pow]
      rfl
    have eL : (binCodes (2 ^ w + n)).length = w + 1 := by
      rw [binCodes_pow w n hn, List.length_cons, List.length_map, bitsW_len]
    have eD : (Nat.toDigits 2 (2 ^ w + n)).length ≤ sizeLine := by
      have := eL
      unfold binCodes at this
      rw [List.length_map] at this
      rw [this]
      exact Nat.le_of_lt (small1000 (by omega))
    refine ⟨by rw [e0]; exact Int.natCast_nonneg _, ?_⟩
    rw [e0, Int.natAbs_natCast]
    refine ⟨eD, ?_⟩
    have es : Txt.slice (SX.S (binCodes (2 ^ w + n))) (some 1) none = SX.S ((bitsW w n).map (48 + ·)) := by
      rw [SX.slice_from (by decide), binCodes_pow w n hn]
      rfl
    have eN : (SX.S ((bitsW w n).map (48 + ·))).cps.size = w := by
      show ((bitsW w n).map (48 + ·)).toArray.size = w
      rw [List.size_toArray, List.length_map, bitsW_len]
    walk_at "ev"
    refine ⟨by rw [SX.S_len, eL]; exact Nat.le_of_lt (small1000 (by omega)), ?_⟩
    rw [es]
    walk_at "ev"
    intro D hD
    refine lc_it (walk_str (z := SX.S ((bitsW w n).map (48 + ·)))) (fun i H1 => Same H H1 ∧ H1 D = some (.lst (((bitsI w n).take i).map V.int))) ⟨same_upd hD, upd_same⟩ (fun _ _ _ _ => trivial) ?_ ?_
    · rintro i x H1 H2 hi ⟨s1, e1⟩ ⟨rfl, c, hc, rfl⟩
      rw [eN] at hi
      have hb : i < (bitsW w n).length := by rw [bitsW_len]; exact hi
      have ec : c = 48 + (bitsW w n)[i] := by
        have h2 : ((bitsW w n).map (48 + ·)).toArray[i]? = some c := hc
        rw [List.getElem?_toArray, List.getElem?_map, List.getElem?_eq_getElem hb] at h2
        exact (Option.some.inj h2).symm
      subst ec
      have hb2 : (bitsW w n)[i] < 2 := bitsW_bit w n _ (List.getElem_mem _)
      have gi : (bitsI w n)[i]? = some ((bitsW w n)[i] : Int) := by
        rw [bitsI, List.getElem?_map, List.getElem?_eq_getElem hb]
        rfl
      walk_at "ev"
      refine ⟨_, _, rfl, digit_int hb2, (by decide : 1 ≤ 640), _, e1, ?_, ?_, ?_⟩
      · rw [List.length_map, List.length_take]
        exact Nat.lt_of_le_of_lt (Nat.min_le_left _ _) (small1000 (by omega))
      · exact fun b o e => by
          rw [upd_ne (ne_of_none e hD)]
          exact s1 b o e
      · rw [upd_same, ← take_snoc gi, List.map_append]
        rfl
    · rintro H1 ⟨s1, e1⟩
      refine q D H1 hD s1 ?_
      rw [e1, eN, List.take_of_length_le (by rw [bitsI_len]; exact Nat.le_refl _)]
/-! ### a draw -/
def spTake : Sp := fun vs H Q _ => ∃ (a : Addr) (m : Int), vs = [.ref a, .int m] ∧ Src H a ∧ 0 < m ∧ m < 18446744073709551616 ∧ ∀ (r : Int) (H' : Hp), 0 ≤ r → r < m → Src H' a → But a H H' → Q (.int r) H'
theorem ok_take {f : Addr} {fd : FuncData} {k : Nat} (F : Fun K "_law_take" "_law_take" s_law_take f fd) (T : Txt mg) : FnOk P w K mg base CX0 (k + 1) f fd ["_law_source", "_law_most"] spTake := by
  refine F.ok sc_law_take (fun vs H Q E h => ?_) (fun cdv A outer s H vs Q E hr h => ?_)
  · obtain ⟨a, m, rfl, _⟩ := h
    rfl
  · obtain ⟨a, m, rfl, ⟨x, y, ha, hx, hy, hy2⟩, hm, hm2, q⟩ := h
    refine ⟨_, (pss_cons (ps_if (pt_cmpR op_gt (pe_ix ix_list (pv 0) pe_int (fun _ _ => rfl)) pe_int (nomark _)) (pss_cons (ps_set (i := 2) sc_law_take.nd rfl (Or.inl rfl) (pe_op op_mod (pe_callTy call_int1 (by rfl) T.z_int PyProof.Rows.boot_int (pa_cons (pe_ix ix_list (pv 0) pe_int (fun _ _ => rfl)) pa_nil)) (pv 1)))
    (pss_cons (ps_asg (pe_op op_fdivW (pe_ix ix_list (pv 0) pe_int (fun _ _ => rfl)) (pv 1)) (pg_sub (pv 0) pe_int set_list))
    (pss_one (ps_ret (pv 2))))) pss_nil)
    (pss_cons (ps_asg (pe_op op_mod (pe_callTy call_int1 (by rfl) T.z_int PyProof.Rows.boot_int (pa_cons (pe_op op_add (pe_op op_mul (pe_ix ix_list (pv 0) pe_int (fun _ _ => rfl)) pe_int) pe_int) pa_nil)) pe_int) (pg_sub (pv 0) pe_int set_list))
    (pss_one (ps_ret (pe_op op_mod (pe_callTy call_int1 (by rfl) T.z_int PyProof.Rows.boot_int (pa_cons (pe_op op_fdiv (pe_op op_mod (pe_callTy call_int1 (by rfl) T.z_int PyProof.Rows.boot_int (pa_cons (pe_op op_mul (pe_ix ix_list (pv 0) pe_int (fun _ _ => rfl)) (pe_ix ix_list (pv 0) pe_int (fun _ _ => rfl))) pa_nil)) pe_int) pe_int) pa_nil)) (pv 1)))))), ?_⟩
    walk_at "ev"
    · refine q _ _ (Int.emod_nonneg _ (by omega)) (Int.emod_lt_of_pos _ hm) ⟨_, _, upd_same, Int.ediv_nonneg hx (by omega), hy, hy2⟩ But.upd
    · refine q _ _ (Int.emod_nonneg _ (by omega)) (Int.emod_lt_of_pos _ hm) ⟨_, _, upd_same, hx, Int.emod_nonneg _ (by omega), Int.emod_lt_of_pos _ (by omega)⟩ But.upd
/-! ### the pool of a cell -/
def spPool (K : PySem.W.Frag) : Sp := fun vs H Q _ => ∃ (a : Addr) (ns : List Int) (k : Int), vs = [.ref a, .int k] ∧ SqL K H a (ns.map V.int) ∧ 0 ≤ k ∧ k < 100 ∧ ∀ (p : Addr) (H' : Hp), H p = none → Same H H' → Src H' p → Q (.ref p) H'
theorem ok_pool {f : Addr} {fd : FuncData} {k : Nat} (F : Fun K "_law_pool" "_law_pool" s_law_pool f fd) (T : Txt mg) : FnOk P w K mg base CX0 (k + 1) f fd ["_law_script", "_law_k"] (spPool K) := by
  refine F.ok sc_law_pool (fun vs H Q E h => ?_) (fun cdv A outer s H vs Q E hr h => ?_)
  · obtain ⟨a, ns, k, rfl, _⟩ := h
    rfl
  · obtain ⟨a, ns, k, rfl, hS, hk, hk2, q⟩ := h
    refine ⟨_, (pss_cons (ps_set (i := 2) sc_law_pool.nd rfl (Or.inl rfl) pe_int)
    (pss_cons (ps_if (pt_cmpR op_lt (pv 1) (pe_callB call_len_seq (by rfl) T.z_len PySem.boot_len (pa_cons (pv 0) pa_nil)) (nomark _)) (pss_one (ps_set (i := 2) sc_law_pool.nd rfl (Or.inl rfl) (pe_ix ix_list (pv 0) (pv 1) (fun _ _ => rfl)))) pss_nil)
    (pss_cons (ps_set (i := 3) sc_law_pool.nd rfl (Or.inl rfl) (pe_callB (call_max2 rfl) (by rfl) T.z_max PyProof.Rows.boot_max (pa_cons (pe_callTy call_int1 (by rfl) T.z_int PyProof.Rows.boot_int (pa_cons (pv 2) pa_nil)) (pa_cons (pe_callTy call_int1 (by rfl) T.z_int PyProof.Rows.boot_int (pa_cons (pe_op op_sub (pe_un un_neg pe_int) (pv 2)) pa_nil)) pa_nil))))
    (pss_cons (ps_set (i := 4) sc_law_pool.nd rfl (Or.inl rfl) (pe_op op_mod (pe_callTy call_int1 (by rfl) T.z_int PyProof.Rows.boot_int (pa_cons (pe_op op_mul (pe_op op_add (pe_op op_add (pe_op op_add (pe_op op_mod (pe_callTy call_int1 (by rfl) T.z_int PyProof.Rows.boot_int (pa_cons (pv 3) pa_nil)) pe_int) (pe_op op_mul (pe_op op_mul pe_int (pv 1)) (pv 1))) (pe_op op_mul pe_int (pv 1))) pe_int) pe_int) pa_nil)) pe_int))
    (pss_one (ps_ret (pe_lst (pa_cons (pe_op op_mul (pv 3) (pe_callTy call_int1 (by rfl) T.z_int PyProof.Rows.boot_int (pa_cons (pe_cmpR op_ge (pv 3) (pe_op (op_powc (a := 10) (b := 18) (c := 1000000000000000000) ⟨by decide, by decide, by decide⟩ (by decide +kernel)) pe_int pe_int) (nomark _)) pa_nil))) (pa_cons (pv 4) pa_nil))))))))), ?_⟩
    walk_at "ev"
    · obtain ⟨z, hz⟩ := at_lt hk (by assumption)
      refine ⟨_, _, _, _, rfl, rfl, hS, hz, ?_⟩
      walk_at "ev"
      refine ⟨(by show 2 ≤ sizeLine; decide), fun p np => q p _ np (same_upd np) ⟨_, _, upd_same, pool_nn _ _, Int.emod_nonneg _ (by omega), Int.emod_lt_of_pos _ (by omega)⟩⟩
    · refine ⟨(by show 2 ≤ sizeLine; decide), fun p np => q p _ np (same_upd np) ⟨_, _, upd_same, pool_nn _ _, Int.emod_nonneg _ (by omega), Int.emod_lt_of_pos _ (by omega)⟩⟩
/-! ### one of some things -/
def spOne : Sp := fun vs H Q _ => ∃ (a t : Addr) (xs : List V), vs = [.ref a, .ref t] ∧ Src H a ∧ t ≠ a ∧ H t = some (.lst xs) ∧ xs ≠ [] ∧ xs.length ≤ 1000 ∧ ∀ (v : V) (H' : Hp), v ∈ xs → Src H' a → But a H H' → Q v H'
theorem ok_one {f : Addr} {fd : FuncData} {k : Nat} (F : Fun K "_law_one" "_law_one" s_law_one f fd) (T : Txt mg) (c_law_take : C8.Cal P w K mg base 1 "_law_take" spTake []) : FnOk P w K mg base CX0 (k + 2) f fd ["_law_source", "_law_things"] spOne := by
  refine F.ok sc_law_one (fun vs H Q E h => ?_) (fun cdv A outer s H vs Q E hr h => ?_)
  · obtain ⟨a, t, xs, rfl, _⟩ := h
    rfl
  · obtain ⟨a, t, xs, rfl, ha, hta, ht, hx, hl, q⟩ := h
    refine ⟨_, (pss_one (ps_ret (pe_ix ix_list (pv 1) (C8.pe_c c_law_take hr (by omega) (by rfl) (pa_cons (pv 0) (pa_cons (pe_callB call_len_seq (by rfl) T.z_len PySem.boot_len (pa_cons (pv 1) pa_nil)) pa_nil))) (fun _ _ => rfl)))), ?_⟩
    walk_at "ev"
    have hp : 0 < xs.length := List.length_pos_iff.mpr hx
    refine ⟨ha, (by omega), (by omega), fun r H' h0 h1 s1 u1 => ?_⟩
    obtain ⟨v, hv, hm⟩ := at_mem (xs := xs) h0 h1
    exact ⟨_, _, _, _, rfl, rfl, .inl (.inl (u1.at hta ht)), hv, q v H' hm s1 u1⟩
/-! ### bits -/
def spIsNum : Sp := fun vs H Q _ => ∃ (z : Int), vs = [.int z] ∧ Q (.bl true) H
theorem ok_is_number {f : Addr} {fd : FuncData} {k : Nat} (F : Fun K "is_number" "is_number" s_is_number f fd) (T : Txt mg) : FnOk P w K mg base CX0 (k + 1) f fd ["thing"] spIsNum := by
  refine F.ok sc_is_number (fun vs H Q E h => ?_) (fun cdv A outer s H vs Q E hr h => ?_)
  · obtain ⟨z, rfl, _⟩ := h
    rfl
  · obtain ⟨z, rfl, q⟩ := h
    refine ⟨_, (pss_one (ps_ret (pe_and (pe_callB call_isi (by rfl) T.z_isinstance PyProof.Rows.boot_isinstance (pa_cons (pv 0) (pa_cons (pe_bltn (v := .ty "int") (by rfl) T.z_int PyProof.Rows.boot_int rfl) pa_nil))) (pe_one (pe_not (pe_callB call_isi (by rfl) T.z_isinstance PyProof.Rows.boot_isinstance (pa_cons (pv 0) (pa_cons (pe_bltn (v := .ty "bool") (by rfl) T.z_bool PyProof.Rows.boot_bool rfl) pa_nil)))))))), ?_⟩
    walk_at "ev"
    exact q
def spCheckB : Sp := fun vs H Q _ => ∃ (p : Addr) (xs : List Int), vs = [.ref p] ∧ H p = some (.lst (xs.map V.int)) ∧ AreBits xs ∧ Q .non H
theorem ok_check_bits {f : Addr} {fd : FuncData} {k : Nat} (F : Fun K "check_bits" "check_bits" s_check_bits f fd) (c_is_number : C8.Cal P w K mg base 1 "is_number" spIsNum []) : FnOk P w K mg base CX0 (k + 2) f fd ["bits"] spCheckB := by
  refine F.ok sc_check_bits (fun vs H Q E h => ?_) (fun cdv A outer s H vs Q E hr h => ?_)
  · obtain ⟨p, xs, rfl, _⟩ := h
    rfl
  · obtain ⟨p, xs, rfl, hp, hb, q⟩ := h
    refine ⟨_, (pss_one (ps_for PassesOwn.never rfl (pi_list (pv 0)) (pg_name (i := 1) sc_check_bits.nd rfl (Or.inl rfl))
      (pss_one (ps_if (PW.pt (pw_or (pt_not (pt_val (C8.pe_c c_is_number hr (by omega) (by rfl) (pa_cons (pv 1) pa_nil)))) (pw_or1 (pt_not (pt_chain op_le op_le pe_int (pv 1) pe_int))))) (pss_one ps_never) pss_nil)))), ?_⟩
    walk_at "ev"
    refine ⟨⟨_, .inl (.inl hp)⟩, for_list (K := K) (a := p) (xs := xs.map V.int) (fun _ σ H1 => ∃ v, σ = [some (.ref p), v] ∧ H1 = H) ⟨_, rfl, rfl⟩ (fun _ _ _ _ ⟨_, _, e⟩ => by rw [e]; exact .inl (.inl hp)) ?_ ?_⟩
    · rintro i x σ H1 hx ⟨v, rfl, rfl⟩
      rw [List.getElem?_map] at hx
      obtain ⟨z, hz, rfl⟩ := Option.map_eq_some_iff.mp hx
      have hz2 := hb z (List.mem_of_getElem? hz)
      walk_at "ev"
      rfl
    · rintro σ H1 ⟨v, rfl, rfl⟩
      exact q
def spNumber : Sp := fun vs H Q _ => ∃ (p : Addr) (xs : List Int), vs = [.ref p] ∧ H p = some (.lst (xs.map V.int)) ∧ Q (.int (valI xs)) H
theorem ok_number_of {f : Addr} {fd : FuncData} {k : Nat} (F : Fun K "number_of" "number_of" s_number_of f fd) : FnOk P w K mg base CX0 (k + 1) f fd ["bits"] spNumber := by
  refine F.ok sc_number_of (fun vs H Q E h => ?_) (fun cdv A outer s H vs Q E hr h => ?_)
  · obtain ⟨p, xs, rfl, _⟩ := h
    rfl
  · obtain ⟨p, xs, rfl, hp, q⟩ := h
    refine ⟨_, (pss_cons (ps_set (i := 1) sc_number_of.nd rfl (Or.inl rfl) pe_int)
    (pss_cons (ps_for PassesOwn.never rfl (pi_list (pv 0)) (pg_name (i := 2) sc_number_of.nd rfl (Or.inl rfl))
      (pss_one (ps_set (i := 1) sc_number_of.nd rfl (Or.inl rfl) (pe_op op_add (pe_op op_mul pe_int (pv 1)) (pv 2)))))
    (pss_one (ps_ret (pv 1))))), ?_⟩
    walk_at "ev"
    refine ⟨⟨_, .inl (.inl hp)⟩, for_list (K := K) (a := p) (xs := xs.map V.int) (fun i σ H1 => ∃ v, σ = [some (.ref p), some (.int (valI (xs.take i))), v] ∧ H1 = H) ⟨_, rfl, rfl⟩ (fun _ _ _ _ ⟨_, _, e⟩ => by rw [e]; exact .inl (.inl hp)) ?_ ?_⟩
    · rintro i x σ H1 hx ⟨v, rfl, rfl⟩
      rw [List.getElem?_map] at hx
      obtain ⟨z, hz, rfl⟩ := Option.map_eq_some_iff.mp hx
      walk_at "ev"
      refine ⟨some (.int z), ?_, rfl⟩
      rw [← take_snoc hz, valI_snoc]
      rfl
    · rintro σ H1 ⟨v, rfl, rfl⟩
      walk_at "ev"
      rw [List.length_map, List.take_length]
      exact q
/-! ### reading that may be refused -/
inductive BadV (H : Hp) : V → Prop
  | int (z : Int) (h : z < 0 ∨ 1 < z) : BadV H (.int z)
  | non : BadV H .non
  | str (s : Str) : BadV H (.str s)
  | lst {a : Addr} {xs : List V} (h : H a = some (.lst xs)) : BadV H (.ref a)
structure BadAt (H : Hp) (p : Addr) : Prop where
  ex : ∃ (vs : List V) (j : Nat) (v : V), H p = some (.lst vs) ∧ vs[j]? = some v ∧ BadV H v ∧ ∀ i, i < j → ∃ z : Int, vs[i]? = some (.int z) ∧ 0 ≤ z ∧ z ≤ 1
theorem kit_ni {K : PySem.W.Frag} : PySem.W.kitOne K (.type "NoneType") (.type "int") = some false := kit_ty (by decide +kernel)
theorem kit_si {K : PySem.W.Frag} : PySem.W.kitOne K (.type "str") (.type "int") = some false := kit_ty (by decide +kernel)
theorem kit_li {K : PySem.W.Frag} : PySem.W.kitOne K (.type "list") (.type "int") = some false := kit_ty (by decide +kernel)
/-- is_number of anything -/
inductive NumV (H : Hp) : V → Bool → Prop
  | int (z : Int) : NumV H (.int z) true
  | non : NumV H .non false
  | str (s : Str) : NumV H (.str s) false
  | lst {a : Addr} {xs : List V} (h : H a = some (.lst xs)) : NumV H (.ref a) false
def spIsNumV : Sp := fun vs H Q _ => ∃ (v : V) (b : Bool), vs = [v] ∧ NumV H v b ∧ Q (.bl b) H
theorem ok_is_numberV {f : Addr} {fd : FuncData} {k : Nat} (F : Fun K "is_number" "is_number" s_is_number f fd) (T : Txt mg) : FnOk P w K mg base CX0 (k + 1) f fd ["thing"] spIsNumV := by
  refine F.ok sc_is_number (fun vs H Q E h => ?_) (fun cdv A outer s H vs Q E hr h => ?_)
  · obtain ⟨v, b, rfl, _⟩ := h
    rfl
  · obtain ⟨v, b, rfl, hv, q⟩ := h
    refine ⟨_, (pss_one (ps_ret (pe_and (pe_callB call_isi (by rfl) T.z_isinstance PyProof.Rows.boot_isinstance (pa_cons (pv 0) (pa_cons (pe_bltn (v := .ty "int") (by rfl) T.z_int PyProof.Rows.boot_int rfl) pa_nil))) (pe_one (pe_not (pe_callB call_isi (by rfl) T.z_isinstance PyProof.Rows.boot_isinstance (pa_cons (pv 0) (pa_cons (pe_bltn (v := .ty "bool") (by rfl) T.z_bool PyProof.Rows.boot_bool rfl) pa_nil)))))))), ?_⟩
    cases hv with
    | int z =>
      walk_at "ev"
      exact q
    | non =>
      walk_at "ev"
      refine ⟨_, _, _, _, _, rfl, .ty _, .base .non, kit_ni, ?_⟩
      walk_at "ev"
      exact q
    | str z =>
      walk_at "ev"
      refine ⟨_, _, _, _, _, rfl, .ty _, .base (.str _), kit_si, ?_⟩
      walk_at "ev"
      exact q
    | lst e =>
      walk_at "ev"
      refine ⟨_, _, _, _, _, rfl, .ty _, .base (.lst e), kit_li, ?_⟩
      walk_at "ev"
      exact q
def spCheckBX (B : Addr) : Sp := fun vs H Q E => ∃ (p : Addr), vs = [.ref p] ∧ ((∃ xs : List Int, H p = some (.lst (xs.map V.int)) ∧ AreBits xs ∧ Q .non H) ∨ (BadAt H p ∧ E (.ref B) none H))
theorem ok_check_bitsX {f B : Addr} {fd : FuncData} {k : Nat} (F : Fun K "check_bits" "check_bits" s_check_bits f fd) (e_BadBits : ECls K mg "BadBits" B) (c_is_number : C8.Cal P w K mg base 1 "is_number" spIsNumV []) : FnOk P w K mg base (L2.CX P w) (k + 2) f fd ["bits"] (spCheckBX B) := by
  refine F.okX sc_check_bits (fun vs H Q E h => ?_) (fun cdv A outer s H vs Q E hr h => ?_)
  · obtain ⟨p, rfl, _⟩ := h
    rfl
  · obtain ⟨p, rfl, h⟩ := h
    refine ⟨_, (pss_one (ps_for (passes_of rfl) rfl (pi_list (pv 0)) (pg_name (i := 1) sc_check_bits.nd rfl (Or.inl rfl))
      (pss_one (ps_if (PW.pt (pw_or (pt_not (pt_val (C8.pe_c c_is_number hr (by omega) (by rfl) (pa_cons (pv 1) pa_nil)))) (pw_or1 (pt_not (pt_chain op_le op_le pe_int (pv 1) pe_int))))) (pss_one (ps_raise rfl (takes_of rfl rfl rfl rfl) (pmk_none PySem.F.excBase_ValueError e_BadBits.xC e_BadBits.gC e_BadBits.kC (raises_own e_BadBits.bC e_BadBits.tC) (by rfl)))) pss_nil)))), ?_⟩
    rcases h with ⟨xs, hp, hb, q⟩ | ⟨⟨ys, j, v, hp, hj, hv, hlt⟩, q⟩
    · walk_at "ev"
      refine ⟨⟨_, .inl (.inl hp)⟩, for_list (K := K) (a := p) (xs := xs.map V.int) (fun _ σ H1 => ∃ v, σ = [some (.ref p), v] ∧ H1 = H) ⟨_, rfl, rfl⟩ (fun _ _ _ _ ⟨_, _, e⟩ => by rw [e]; exact .inl (.inl hp)) ?_ ?_⟩
      · rintro i x σ H1 hx ⟨v, rfl, rfl⟩
        rw [List.getElem?_map] at hx
        obtain ⟨z, hz, rfl⟩ := Option.map_eq_some_iff.mp hx
        have hz2 := hb z (List.mem_of_getElem? hz)
        walk_at "ev"
        refine ⟨_, _, rfl, .int z, ?_⟩
        walk_at "ev"
        rfl
      · rintro σ H1 ⟨v, rfl, rfl⟩
        exact q
    · walk_at "ev"
      refine ⟨⟨_, .inl (.inl hp)⟩, for_list (K := K) (a := p) (xs := ys) (fun i σ H1 => i ≤ j ∧ ∃ v, σ = [some (.ref p), v] ∧ H1 = H) ⟨Nat.zero_le _, _, rfl, rfl⟩ (fun _ _ _ _ ⟨_, _, _, e⟩ => by rw [e]; exact .inl (.inl hp)) ?_ ?_⟩
      · rintro i x σ H1 hx ⟨hi, v1, rfl, rfl⟩
        by_cases e : i = j
        · subst e
          obtain rfl : x = v := Option.some.inj (hx.symm.trans hj)
          cases hv with
          | int z h =>
            walk_at "ev"
            refine ⟨_, _, rfl, .int z, ?_⟩
            walk_at "ev"
            all_goals exact q
          | non =>
            walk_at "ev"
            refine ⟨_, _, rfl, .non, ?_⟩
            walk_at "ev"
            all_goals exact q
          | str s =>
            walk_at "ev"
            refine ⟨_, _, rfl, .str _, ?_⟩
            walk_at "ev"
            all_goals exact q
          | lst h =>
            walk_at "ev"
            refine ⟨_, _, rfl, .lst h, ?_⟩
            walk_at "ev"
            all_goals exact q
        · obtain ⟨z, hz, z0, z1⟩ := hlt i (by omega)
          obtain rfl : x = V.int z := Option.some.inj (hx.symm.trans hz)
          walk_at "ev"
          refine ⟨_, _, rfl, .int z, ?_⟩
          walk_at "ev"
          exact ⟨by omega, _, rfl, rfl⟩
      · rintro σ H1 ⟨hi, v1, rfl, rfl⟩
        have := (List.getElem?_eq_some_iff.mp hj).1
        exfalso
        omega
/-! ### drawn bits -/
def spBits : Sp := fun vs H Q _ => ∃ (a : Addr) (m : Int), vs = [.ref a, .int m] ∧ Src H a ∧ 0 ≤ m ∧ m ≤ 100 ∧ ∀ (p : Addr) (xs : List Int) (H' : Hp), H p = none → (xs.length : Int) ≤ m → AreBits xs → H' p = some (.lst (xs.map V.int)) → Src H' a → Up a H H' → Q (.ref p) H'
theorem ok_bits {f : Addr} {fd : FuncData} {k : Nat} (F : Fun K "_law_bits" "_law_bits" s_law_bits f fd) (T : Txt mg) (c_law_take : C8.Cal P w K mg base 1 "_law_take" spTake []) : FnOk P w K mg base CX0 (k + 2) f fd ["_law_source", "_law_most"] spBits := by
  refine F.ok sc_law_bits (fun vs H Q E h => ?_) (fun cdv A outer s H vs Q E hr h => ?_)
  · obtain ⟨a, m, rfl, _⟩ := h
    rfl
  · obtain ⟨a, m, rfl, ha, hm, hm2, q⟩ := h
    refine ⟨_, (pss_one (ps_ret (pe_lc (own := [("_law_turn", 2)]) (g := (gName 2)) (tt := tYes) rfl sc_law_bits.nd (pi_range1 (by rfl) T.z_range (pa_cons (C8.pe_c c_law_take hr (by omega) (by rfl) (pa_cons (pv 0) (pa_cons (pe_op op_add (pv 1) pe_int) pa_nil))) pa_nil)) (blkOk_by (N := ["_law_source", "_law_most", "_law_turn"]) (sc := defScope s_law_bits) (by decide +kernel)) (fun _ _ _ _ _ => pg_name (i := 2) sc_law_bits.nd rfl (Or.inl rfl)) (fun _ _ _ _ _ => pts_nil) (fun _ _ _ _ _ => (C8.pe_c c_law_take hr (by omega) (by rfl) (pa_cons (pv 0) (pa_cons pe_int pa_nil))))))), ?_⟩
    walk_at "ev"
    refine ⟨ha, (by omega), (by omega), fun r H1 h0 h1 s1 u1 => ?_⟩
    walk_at "ev"
    refine ⟨by omega, by omega, fun D nD => ?_⟩
    have nDa : a ≠ D := s1.ne nD
    refine lc_it walk_range (fun t H2 => ∃ xs : List Int, xs.length = t ∧ AreBits xs ∧ H2 D = some (.lst (xs.map V.int)) ∧ Src H2 a ∧ Up a H1 H2) ⟨[], rfl, fun _ m => absurd m (List.not_mem_nil), upd_same, src_same (same_upd nD) s1, up_same (same_upd nD)⟩ (fun _ _ _ _ => trivial) ?_ ?_
    · rintro t x H2 H3 ht ⟨xs, hl, hb, e2, s2, u2⟩ ⟨rfl, rfl⟩
      walk_at "ev"
      refine ⟨s2, (by decide), (by decide), fun r2 H4 g0 g1 s4 u4 => ?_⟩
      walk_at "ev"
      refine ⟨_, (u4 D nDa.symm).trans e2, ?_, xs ++ [r2], ?_, ?_, ?_, ?_, ?_⟩
      · rw [List.length_map]
        exact small1000 (by omega)
      · rw [List.length_append, hl]
        rfl
      · exact hb.app fun z m => by
          rw [List.mem_singleton.mp m]
          omega
      · rw [upd_same, List.map_append]
        rfl
      · exact src_keep nDa s4
      · exact fun b o nb e => by
          rw [upd_ne (ne_of_none e nD)]
          exact (u4 b nb).trans (u2 b o nb e)
    · rintro H2 ⟨xs, hl, hb, e2, s2, u2⟩
      exact q D xs H2 (u1.up.new s1 nD) (by omega) hb e2 s2 (u1.up.trans u2)
/-! ### whether bits are told -/
def spAreBits : Sp := fun vs H Q _ => ∃ (p : Addr) (xs : List Int), vs = [.ref p] ∧ H p = some (.lst (xs.map V.int)) ∧ AreBits xs ∧ ∀ H', Same H H' → Q (.bl true) H'
theorem ok_are_bits {f : Addr} {fd : FuncData} {k : Nat} (F : Fun K "_law_are_bits" "_law_are_bits" s_law_are_bits f fd) (T : Txt mg) : FnOk P w K mg base CX0 (k + 1) f fd ["_law_told"] spAreBits := by
  refine F.ok sc_law_are_bits (fun vs H Q E h => ?_) (fun cdv A outer s H vs Q E hr h => ?_)
  · obtain ⟨p, xs, rfl, _⟩ := h
    rfl
  · obtain ⟨p, xs, rfl, hp, hb, q⟩ := h
    have hu := hr.units
    refine ⟨_, (pss_one (ps_ret (pe_and (pe_callB call_isi (by rfl) T.z_isinstance PyProof.Rows.boot_isinstance (pa_cons (pv 0) (pa_cons (pe_bltn (v := .ty "list") (by rfl) T.z_list PyProof.Rows.boot_list rfl) pa_nil))) (pe_one (pe_cmpR (op_eqD hu) (pe_lc (own := [("_law_one_here", 1)]) (g := (gName 1)) (tt := _) rfl sc_law_are_bits.nd (pi_list (pv 0)) (blkOk_by (N := ["_law_told", "_law_one_here"]) (sc := defScope s_law_are_bits) (by decide +kernel)) (fun _ _ _ _ _ => pg_name (i := 1) sc_law_are_bits.nd rfl (Or.inl rfl)) (fun _ _ _ _ _ => (pts_one (PW.pt (pw_or (pt_val (pe_callB (call_isi : CallR _ (.builtin "isinstance") (rIsi K)) (by rfl) T.z_isinstance PyProof.Rows.boot_isinstance (pa_cons (pv 1) (pa_cons (pe_bltn (v := .ty "bool") (by rfl) T.z_bool PyProof.Rows.boot_bool rfl) pa_nil)))) (pw_or1 (pt_cmpR (op_notIn_seq : OpR _ (compareOp .NotIn) (rIn K true)) (pv 1) (pe_tup (pa_cons pe_int (pa_cons pe_int pa_nil))) (by rfl))))))) (fun _ _ _ _ _ => (pv 1))) (pe_lst pa_nil) (nomark _)))))), ?_⟩
    walk_at "ev"
    refine ⟨⟨_, .inl (.inl hp)⟩, fun D nD => ?_⟩
    refine lc_it (walk_list (xs := xs.map V.int)) (fun _ H2 => Same H H2 ∧ H2 D = some (.lst [])) ⟨same_upd nD, upd_same⟩ (fun _ _ _ h => .inl (.inl (h.1 _ _ hp))) ?_ ?_
    · rintro t x H2 H3 ht ⟨s2, e2⟩ y
      obtain ⟨rfl, hx⟩ := y
      rw [List.getElem?_map] at hx
      obtain ⟨z, hz, rfl⟩ := Option.map_eq_some_iff.mp hx
      have hz2 := hb z (List.mem_of_getElem? hz)
      rcases (by omega : z = 0 ∨ z = 1) with rfl | rfl
      all_goals
        walk_at "ev"
        refine ⟨(by show 2 ≤ sizeLine; decide), fun t2 nt2 => ?_⟩
        refine ⟨t2, _, rfl, .inr (.inl (.inl upd_same)), rfl, rfl, ?_⟩
        refine ⟨_, rfl, ?_⟩
        exact iteF ⟨s2.trans (same_upd nt2), new_at e2 nt2⟩
    · rintro H2 ⟨s2, e2⟩
      walk_at "ev"
      refine ⟨(by show 0 ≤ sizeLine; decide), fun t2 nt2 => q_eqI (ns := []) (new_at e2 nt2) upd_same ?_⟩
      walk_at "ev"
      exact q _ (s2.trans (same_upd nt2))
/-! ### counts -/
/-! ### hex digits -/
def hexC : List Nat := [48, 49, 50, 51, 52, 53, 54, 55, 56, 57, 97, 98, 99, 100, 101, 102]
def hxc (n : Nat) : Nat := hexC.getD n 0
def hvl (c : Nat) : Nat := hexC.idxOf c
def nibs (d : List Nat) : List Int := (d.map fun c => bitsI 4 (hvl c)).flatten
def quads : List Int → List Nat
  | a :: b :: c :: e :: r => (8 * a + 4 * b + 2 * c + e).toNat :: quads r
  | _ => []
theorem hvl_lt {c : Nat} (h : c ∈ hexC) : hvl c < 16 := List.idxOf_lt_length_of_mem h
theorem hxc_hvl {c : Nat} (h : c ∈ hexC) : hxc (hvl c) = c := by
  have : ∀ c ∈ hexC, hxc (hvl c) = c := by decide +kernel
  exact this c h
theorem hvl_hxc {n : Nat} (h : n < 16) : hvl (hxc n) = n := by
  have : ∀ n < 16, hvl (hxc n) = n := by decide +kernel
  exact this n h
theorem hxc_mem {n : Nat} (h : n < 16) : hxc n ∈ hexC := by
  have : ∀ n < 16, hxc n ∈ hexC := by decide +kernel
  exact this n h
theorem hxc_get {n : Nat} (h : n < 16) : hexC[n]? = some (hxc n) := by
  have : ∀ n < 16, hexC[n]? = some (hxc n) := by decide +kernel
  exact this n h
theorem nib4 {n : Nat} (h : n < 16) : bitsI 4 n = [((n / 8 : Nat) : Int), ((n / 4 % 2 : Nat) : Int), ((n / 2 % 2 : Nat) : Int), ((n % 2 : Nat) : Int)] := by
  have : ∀ n < 16, bitsI 4 n = [((n / 8 : Nat) : Int), ((n / 4 % 2 : Nat) : Int), ((n / 2 % 2 : Nat) : Int), ((n % 2 : Nat) : Int)] := by decide +kernel
  exact this n h
theorem nibs_cons (c : Nat) (d : List Nat) : nibs (c :: d) = bitsI 4 (hvl c) ++ nibs d := rfl
theorem nibs_app (d e : List Nat) : nibs (d ++ e) = nibs d ++ nibs e := by
  unfold nibs
  rw [List.map_append, List.flatten_append]
theorem nibs_len : ∀ d : List Nat, (nibs d).length = 4 * d.length
  | [] => rfl
  | c :: d => by
    rw [nibs_cons, List.length_append, bitsI_len, nibs_len d, List.length_cons]
    omega
theorem nibs_bits : ∀ d : List Nat, AreBits (nibs d)
  | [] => fun _ m => absurd m List.not_mem_nil
  | c :: d => by
    rw [nibs_cons]
    exact AreBits.app (fun _ m => bitsI_bit m) (nibs_bits d)
theorem quads_nibs : ∀ {d : List Nat}, (∀ c ∈ d, c ∈ hexC) → (quads (nibs d)).map hxc = d
  | [], _ => rfl
  | c :: d, h => by
    have hc := h c List.mem_cons_self
    have hl := hvl_lt hc
    rw [nibs_cons, nib4 hl]
    show hxc (8 * ((hvl c / 8 : Nat) : Int) + 4 * ((hvl c / 4 % 2 : Nat) : Int) + 2 * ((hvl c / 2 % 2 : Nat) : Int) + ((hvl c % 2 : Nat) : Int)).toNat :: (quads (nibs d)).map hxc = c :: d
    rw [quads_nibs fun x m => h x (List.mem_cons_of_mem _ m), show (8 * ((hvl c / 8 : Nat) : Int) + 4 * ((hvl c / 4 % 2 : Nat) : Int) + 2 * ((hvl c / 2 % 2 : Nat) : Int) + ((hvl c % 2 : Nat) : Int)).toNat = hvl c by omega, hxc_hvl hc]
theorem bit_cases {a : Int} (h : 0 ≤ a ∧ a ≤ 1) : a = 0 ∨ a = 1 := by omega
theorem quad_nib {a b c e : Int} (ha : 0 ≤ a ∧ a ≤ 1) (hb : 0 ≤ b ∧ b ≤ 1) (hc : 0 ≤ c ∧ c ≤ 1) (he : 0 ≤ e ∧ e ≤ 1) : (8 * a + 4 * b + 2 * c + e).toNat < 16 ∧ bitsI 4 (8 * a + 4 * b + 2 * c + e).toNat = [a, b, c, e] := by
  rcases bit_cases ha with rfl | rfl <;> rcases bit_cases hb with rfl | rfl <;> rcases bit_cases hc with rfl | rfl <;> rcases bit_cases he with rfl | rfl <;> decide +kernel
theorem nibs_quads : ∀ (m : Nat) {bs : List Int}, AreBits bs → bs.length = 4 * m → nibs ((quads bs).map hxc) = bs ∧ ((quads bs).length = m ∧ ∀ c ∈ (quads bs).map hxc, c ∈ hexC)
  | 0, bs, _, h => by
    rw [List.length_eq_zero_iff.mp h]
    exact ⟨rfl, rfl, fun _ m => absurd m List.not_mem_nil⟩
  | m + 1, a :: b :: c :: e :: r, hb, h => by
    have h1 := quad_nib (hb a (by simp)) (hb b (by simp)) (hb c (by simp)) (hb e (by simp))
    have ih := nibs_quads m (bs := r) (fun x mx => hb x (by simp [mx])) (by simp only [List.length_cons] at h; omega)
    refine ⟨?_, ?_, ?_⟩
    · show nibs (hxc (8 * a + 4 * b + 2 * c + e).toNat :: (quads r).map hxc) = _
      rw [nibs_cons, hvl_hxc h1.1, h1.2, ih.1]
      rfl
    · show (quads r).length + 1 = m + 1
      rw [ih.2.1]
    · intro x mx
      rcases List.mem_cons.mp (show x ∈ hxc (8 * a + 4 * b + 2 * c + e).toNat :: (quads r).map hxc from mx) with z | z
      · rw [z]
        exact hxc_mem h1.1
      · exact ih.2.2 x z
  | m + 1, [], _, h => by simp at h
  | m + 1, [_], _, h => by simp at h; omega
  | m + 1, [_, _], _, h => by simp at h; omega
  | m + 1, [_, _, _], _, h => by simp at h; omega
/-! ### texts of bits -/
def fil (n : Nat) : Nat := (4 - n % 4) % 4
theorem fil_lt (n : Nat) : fil n < 4 := Nat.mod_lt _ (by decide)
theorem fil_int (n : Nat) : (-(n : Int)) % 4 = (fil n : Int) := by
  unfold fil
  omega
theorem fil_four (n : Nat) : ∃ m, n + fil n = 4 * m := ⟨(n + fil n) / 4, by unfold fil; omega⟩
def padB (bs : List Int) : List Int := bs ++ List.replicate (fil bs.length) 0
theorem padB_bits {bs : List Int} (h : AreBits bs) : AreBits (padB bs) := h.app (AreBits.zeros _)
theorem padB_len (bs : List Int) : (padB bs).length = bs.length + fil bs.length := by
  unfold padB
  rw [List.length_append, List.length_replicate]
def hexS (bs : List Int) : List Nat := (quads (padB bs)).map hxc ++ [46, 48 + fil bs.length]
structure OK (t d : List Nat) (f : Nat) : Prop where
  e : t = d ++ [46, 48 + f]
  f4 : f < 4
  hx : ∀ c ∈ d, c ∈ hexC
  le : f ≤ 4 * d.length
  z : (nibs d).drop (4 * d.length - f) = List.replicate f 0
def kept (d : List Nat) (f : Nat) : List Int := (nibs d).take (4 * d.length - f)
theorem kept_len {d : List Nat} {f : Nat} : (kept d f).length = 4 * d.length - f := by
  unfold kept
  rw [List.length_take, nibs_len]
  omega
theorem kept_bits (d : List Nat) (f : Nat) : AreBits (kept d f) := (nibs_bits d).take _
theorem ok_hexS {bs : List Int} (hb : AreBits bs) : OK (hexS bs) ((quads (padB bs)).map hxc) (fil bs.length) ∧ kept ((quads (padB bs)).map hxc) (fil bs.length) = bs := by
  obtain ⟨m, hm⟩ := fil_four bs.length
  obtain ⟨h1, h2, h3⟩ := nibs_quads m (padB_bits hb) (by rw [padB_len, hm])
  have hl : ((quads (padB bs)).map hxc).length = m := by rw [List.length_map, h2]
  refine ⟨⟨rfl, fil_lt _, h3, by rw [hl]; omega, ?_⟩, ?_⟩
  · rw [hl, h1, show 4 * m - fil bs.length = bs.length by omega]
    exact List.drop_left' rfl
  · unfold kept
    rw [hl, h1, show 4 * m - fil bs.length = bs.length by omega]
    exact List.take_left' rfl
theorem fil_kept {d : List Nat} {f : Nat} (f4 : f < 4) (le : f ≤ 4 * d.length) : fil (kept d f).length = f := by
  rw [kept_len]
  unfold fil
  omega
theorem hexS_kept {d : List Nat} {f : Nat} (f4 : f < 4) (hx : ∀ c ∈ d, c ∈ hexC) (le : f ≤ 4 * d.length) : hexS (kept d f) = d ++ [46, 48 + f] ↔ (nibs d).drop (4 * d.length - f) = List.replicate f 0 := by
  have hf := fil_kept f4 le
  constructor
  · intro h
    unfold hexS at h
    rw [hf] at h
    have h2 := List.append_cancel_right h
    have hp : (padB (kept d f)).length = 4 * d.length := by
      rw [padB_len, hf, kept_len]
      omega
    have h3 := (nibs_quads d.length (padB_bits (kept_bits d f)) hp).1
    rw [h2] at h3
    rw [h3]
    unfold padB
    rw [hf]
    exact List.drop_left' kept_len
  · intro h
    have e : padB (kept d f) = nibs d := by
      unfold padB
      rw [hf, ← h]
      exact List.take_append_drop _ _
    unfold hexS
    rw [e, hf, quads_nibs hx]
theorem OK.hexS {t d : List Nat} {f : Nat} (h : OK t d f) : hexS (kept d f) = t := by
  rw [(hexS_kept h.f4 h.hx h.le).mpr h.z, h.e]
theorem hexC_dot {c : Nat} (h : c ∈ hexC) : c ≠ 46 := by
  rintro rfl
  exact absurd h (by decide)
theorem ok_badtext {f C : Addr} {fd : FuncData} {k : Nat} (F : Fun K "__init__" "BadText.__init__" s_BadText_init f fd) (T : OexC K C) (n : PySem.W.findIn K (.ref C) "row" = some none) : FnOk P w K mg base CX0 (k + 1) f fd ["self", "row"] (spIni C "row") := by
  refine F.ok sc_BadText_init (fun vs H Q E h => ?_) (fun cdv A outer s H vs Q E hr h => ?_)
  · obtain ⟨a, v, rfl, _⟩ := h
    rfl
  · obtain ⟨a, v, rfl, ha, q⟩ := h
    refine ⟨_, (pss_one (ps_ost (pv 0) (pv 1))), ?_⟩
    walk_at "ev"
    exact ⟨a, C, rfl, T, n, .inl ⟨ha, q⟩⟩
theorem str_hexC : (Str.ofString "0123456789abcdef" : Str) = SX.S hexC := by decide +kernel
theorem occ_hex {c : Nat} (h : c ∈ hexC) : Builtin.Str.occurrences (SX.S hexC) (SX.S [c]) 0 (SX.S hexC).length 1 = [hvl c] := by
  have : ∀ c ∈ hexC, Builtin.Str.occurrences (SX.S hexC) (SX.S [c]) 0 (SX.S hexC).length 1 = [hvl c] := by decide +kernel
  exact this c h
theorem occ_in (c : Nat) : (Builtin.Str.occurrences (Str.ofString "0123456789abcdef") (SX.S [c]) 0 (Str.ofString "0123456789abcdef").length 1).isEmpty = !decide (c ∈ hexC) := by
  rw [str_hexC, ← SX.in_one, Bool.not_not]
/-! ### the digits of a text -/
def Row0 (H : Hp) (BT : Addr) (E : XK) : Prop := ∀ (dd : Addr) (H' : Hp), H dd = none → Same H H' → H' dd = some (.xd [("row", .int 0)]) → E (.ref BT) (some dd) H'
def spDigs (BT : Addr) : Sp := fun vs H Q E => ∃ (d : List Nat), vs = [.str (SX.S d)] ∧ d.length ≤ 200 ∧
  (((∀ c ∈ d, c ∈ hexC) ∧ ∀ (p : Addr) (H' : Hp), H p = none → Same H H' → H' p = some (.lst ((nibs d).map V.int)) → Q (.ref p) H') ∨ ((∃ c ∈ d, c ∉ hexC) ∧ Row0 H BT E))
theorem ok_digs {f BT : Addr} {fd : FuncData} {k : Nat} {t : Tok} (F : Fun K "_bits_of_digits" "_bits_of_digits" s_bits_of_digits f fd) (T : Txt mg) (hDG : mg "DIGITS" = some (.str "0123456789abcdef" t)) (x_BadText : XDef P w K mg base "BadText" "row" BT) (c_fixed : C8.Cal P w K mg base 1 "fixed" spFixed []) :
    FnOk P w K mg base (L2.CX P w) (k + 3) f fd ["digits"] (spDigs BT) := by
  refine F.okX sc_bits_of_digits (fun vs H Q E h => ?_) (fun cdv A outer s H vs Q E hr h => ?_)
  · obtain ⟨d, rfl, _⟩ := h
    rfl
  · obtain ⟨d, rfl, hd, h⟩ := h
    refine ⟨_, (pss_cons (ps_set (i := 1) sc_bits_of_digits.nd rfl (Or.inl rfl) (pe_lst pa_nil))
    (pss_cons (ps_for (passes_of rfl) rfl (pi_str (pv 0)) (pg_name (i := 2) sc_bits_of_digits.nd rfl (Or.inl rfl))
      (pss_cons (ps_if (pt_cmpR op_notin_str (pv 2) (pe_glob (v := .str "0123456789abcdef") (by rfl) hDG ⟨_, rfl⟩) (by rfl)) (pss_one (ps_raise rfl (takes_of rfl rfl rfl rfl) (pmk_x x_BadText hr (by omega) (by rfl) pe_int))) pss_nil)
    (pss_one (ps_expr (pe_bm PySem.F.plainAttrs_list PySem.F.slot_list_extend PySem.F.type_list_extend mt_extend (pv 1) (pa_cons (C8.pe_c c_fixed hr (by omega) (by rfl) (pa_cons (pe_m1 PySem.F.slot_str_index PySem.F.type_str_index mt_sindex (pe_glob (v := .str "0123456789abcdef") (by rfl) hDG ⟨_, rfl⟩) (pv 2)) (pa_cons pe_int pa_nil))) pa_nil))))))
    (pss_one (ps_ret (pv 1))))), ?_⟩
    refine ⟨(by show 0 ≤ sizeLine; decide), fun D nD => ?_⟩
    walk_at "ev"
    refine for_it (walk_str (z := SX.S d)) (fun i σ H1 => ∃ v2, σ = [some (.str (SX.S d)), some (.ref D), v2] ∧ Same H H1 ∧ H1 D = some (.lst ((nibs (d.take i)).map V.int)) ∧ ∀ c ∈ d.take i, c ∈ hexC) ⟨_, rfl, same_upd nD, upd_same, fun _ m => absurd m List.not_mem_nil⟩ (fun _ _ _ _ _ => trivial) ?_ ?_
    · rintro i x σ H1 H2 hi ⟨v2, rfl, s1, e1, hx⟩ ⟨rfl, c, hc, rfl⟩
      have hc2 : d[i]? = some c := by
        rw [← List.getElem?_toArray]
        exact hc
      have hoc := occ_in c
      walk_at "ev"
      · rename_i hcc
        rw [show ({ cps := #[c] } : Str) = SX.S [c] from rfl, hoc] at hcc
        have hn : c ∉ hexC := by simpa using hcc
        obtain ⟨hall, _⟩ | ⟨_, x⟩ := h
        · exact absurd (hall c (List.mem_of_getElem? hc2)) hn
        · exact mkx_in fun dd H3 nd s3 e3 => x dd H3 (s1.free nd) (s1.trans s3) e3
      · rename_i hcc
        rw [show ({ cps := #[c] } : Str) = SX.S [c] from rfl, hoc] at hcc
        have hm : c ∈ hexC := by simpa using hcc
        refine ⟨.inl ⟨rfl, _, .inl (.inl e1)⟩, ?_⟩
        walk_at "ev"
        refine ⟨⟨_, rfl⟩, ?_⟩
        walk_at "ev"
        refine ⟨_, _, hvl c, [], rfl, rfl, (by rw [str_hexC]; exact occ_hex hm), ?_⟩
        walk_at "ev"
        refine ⟨Nat.lt_of_lt_of_le (hvl_lt hm) (by decide), by decide, fun p H3 np s3 e3 => ?_⟩
        have hm4 : (nibs (d.take i)).length ≤ 800 := by
          rw [nibs_len, List.length_take]
          omega
        have h4 : (bitsI 4 (hvl c)).length = 4 := bitsI_len _ _
        refine ⟨D, p, _, _, rfl, rfl, s3 _ _ e1, e3, Nat.le_of_lt (small1000 (by rw [List.length_map, List.length_map, h4]; omega)), ?_⟩
        refine ⟨_, rfl, fun b o e => ?_, ?_, ?_⟩
        · rw [upd_ne (ne_of_none e nD)]
          exact s3 _ _ (s1 _ _ e)
        · rw [upd_same, ← take_snoc hc2, nibs_app, List.map_append]
          rfl
        · intro y my
          rw [← take_snoc hc2] at my
          rcases List.mem_append.mp my with z | z
          · exact hx y z
          · rw [List.mem_singleton.mp z]
            exact hm
    · rintro σ H1 ⟨v2, rfl, s1, e1, hx⟩
      have eN : (SX.S d).cps.size = d.length := by show d.toArray.size = d.length; rw [List.size_toArray]
      rw [eN, List.take_length] at e1 hx
      walk_at "ev"
      obtain ⟨_, q⟩ | ⟨⟨c, m, n⟩, _⟩ := h
      · exact q D H1 nD s1 e1
      · exact absurd (hx c m) n
/-! ### the bits of a text -/
theorem split_uniq : ∀ {d e r q : List Nat}, d ++ 46 :: r = e ++ 46 :: q → 46 ∉ d → 46 ∉ e → d = e ∧ r = q
  | [], [], r, q, h, _, _ => ⟨rfl, (List.cons.inj h).2⟩
  | [], y :: e, r, q, h, _, n => absurd (by rw [(List.cons.inj h).1]; exact List.mem_cons_self) n
  | x :: d, [], r, q, h, n, _ => absurd (by rw [← (List.cons.inj h).1]; exact List.mem_cons_self) n
  | x :: d, y :: e, r, q, h, n, n' => by
    obtain ⟨h1, h2⟩ := List.cons.inj h
    obtain ⟨rfl, h3⟩ := split_uniq h2 (fun m => n (List.mem_cons_of_mem _ m)) (fun m => n' (List.mem_cons_of_mem _ m))
    exact ⟨by rw [h1], h3⟩
theorem cut_from {xs : List V} {y : Int} {k : Nat} (hy : y = (k : Int)) (hk : k ≤ xs.length) : cutV xs (some y) none = xs.drop k := by
  subst hy
  unfold cutV
  rw [HT.sIx_none, HT.sIx_nat, Nat.min_eq_left hk]
  exact List.take_of_length_le (by rw [List.length_drop]; exact Nat.le_refl _)
theorem first_split : ∀ {t : List Nat}, 46 ∈ t → ∃ d r, t = d ++ 46 :: r ∧ 46 ∉ d
  | [], h => absurd h List.not_mem_nil
  | c :: t, h => by
    by_cases e : c = 46
    · subst e
      exact ⟨[], t, rfl, List.not_mem_nil⟩
    · obtain ⟨d, r, rfl, n⟩ := first_split (t := t) ((List.mem_cons.mp h).elim (fun z => absurd z.symm e) id)
      exact ⟨c :: d, r, rfl, fun m => (List.mem_cons.mp m).elim (fun z => e z.symm) n⟩
theorem OK.uniq {t d d0 r0 : List Nat} {f : Nat} (h : OK t d f) (e : t = d0 ++ 46 :: r0) (n : 46 ∉ d0) : d0 = d ∧ r0 = [48 + f] :=
  split_uniq (e.symm.trans h.e) n (fun m => hexC_dot (h.hx _ m) rfl)
theorem digs_str {f : Nat} (h : f < 4) : (SX.S [48 + f] = Str.ofString "0" ∧ f = 0) ∨ (SX.S [48 + f] = Str.ofString "1" ∧ f = 1) ∨ (SX.S [48 + f] = Str.ofString "2" ∧ f = 2) ∨ (SX.S [48 + f] = Str.ofString "3" ∧ f = 3) := by
  have : f = 0 ∨ f = 1 ∨ f = 2 ∨ f = 3 := by omega
  rcases this with rfl | rfl | rfl | rfl
  · exact .inl ⟨by decide +kernel, rfl⟩
  · exact .inr (.inl ⟨by decide +kernel, rfl⟩)
  · exact .inr (.inr (.inl ⟨by decide +kernel, rfl⟩))
  · exact .inr (.inr (.inr ⟨by decide +kernel, rfl⟩))
theorem eqV_S (a b : List Nat) : eqV (.str (SX.S a)) (.str (SX.S b)) = decide (a = b) := SX.S_beq_eq
theorem str_0123 : (Str.ofString "0" : Str) = SX.S [48] ∧ (Str.ofString "1" : Str) = SX.S [49] ∧ (Str.ofString "2" : Str) = SX.S [50] ∧ (Str.ofString "3" : Str) = SX.S [51] := by decide +kernel
theorem in_fill (r : List Nat) : inV (.str (SX.S r)) [.str "0", .str "1", .str "2", .str "3"] = decide (∃ f, f < 4 ∧ r = [48 + f]) := by
  have e : inV (.str (SX.S r)) [.str "0", .str "1", .str "2", .str "3"] = (decide ([48] = r) || (decide ([49] = r) || (decide ([50] = r) || (decide ([51] = r) || false)))) := by
    rw [str_0123.1, str_0123.2.1, str_0123.2.2.1, str_0123.2.2.2]
    unfold inV
    simp only [List.any_cons, List.any_nil, eqV_S]
  rw [e]
  by_cases h : ∃ f, f < 4 ∧ r = [48 + f]
  · rw [decide_eq_true h]
    obtain ⟨f, hf, rfl⟩ := h
    have : f = 0 ∨ f = 1 ∨ f = 2 ∨ f = 3 := by omega
    rcases this with rfl | rfl | rfl | rfl <;> decide
  · rw [decide_eq_false h, decide_eq_false (fun z => h ⟨0, by decide, z.symm⟩), decide_eq_false (fun z => h ⟨1, by decide, z.symm⟩), decide_eq_false (fun z => h ⟨2, by decide, z.symm⟩), decide_eq_false (fun z => h ⟨3, by decide, z.symm⟩)]
    rfl
theorem int_fill {f : Nat} (h : f < 4) : PySem.intText? (SX.S [48 + f]) = some (f : Int) := by
  have : f = 0 ∨ f = 1 ∨ f = 2 ∨ f = 3 := by omega
  rcases this with rfl | rfl | rfl | rfl <;> exact SX.int_S (by decide) (by decide) (by decide)
theorem in_one_i (zs : List Int) : inV (.int 1) (zs.map V.int) = decide ((1 : Int) ∈ zs) := by
  unfold inV
  induction zs with
  | nil => rfl
  | cons z r ih =>
    rw [List.map_cons, List.any_cons, ih]
    by_cases h : z = 1
    · subst h
      rw [decide_eq_true (List.mem_cons_self)]
      rfl
    · have e : eqV (.int z) (.int 1) = false := beq_eq_false_iff_ne.mpr h
      rw [e, Bool.false_or]
      by_cases m : (1 : Int) ∈ r
      · rw [decide_eq_true m, decide_eq_true (List.mem_cons_of_mem _ m)]
      · rw [decide_eq_false m, decide_eq_false (fun x => (List.mem_cons.mp x).elim (fun y => h y.symm) m)]
theorem bits_zero {zs : List Int} (hb : AreBits zs) (h : (1 : Int) ∉ zs) : zs = List.replicate zs.length 0 := by
  refine List.eq_replicate_iff.mpr ⟨rfl, fun b m => ?_⟩
  rcases bit_cases (hb b m) with z | z
  · exact z
  · rw [z] at m
    exact absurd m h
def isOK (t : List Nat) : Prop := ∃ d f, OK t d f
def spBitsOf (BT : Addr) : Sp := fun vs H Q E => ∃ (t : List Nat), vs = [.str (SX.S t)] ∧ t.length ≤ 200 ∧
  ((∃ d f, OK t d f ∧ ∀ (p : Addr) (H' : Hp), H p = none → Same H H' → H' p = some (.lst ((kept d f).map V.int)) → Q (.ref p) H') ∨ (¬ isOK t ∧ Row0 H BT E))
theorem ok_bits_of {f BT F0 fD : Addr} {fd fdD : FuncData} {k : Nat} (F : Fun K "bits_of" "bits_of" s_bits_of f fd) (T : Txt mg) (hFL : mg "FILLINGS" = some (.ref F0)) (hF0 : ∀ H : Hp, SqT K H F0 [.str "0", .str "1", .str "2", .str "3"]) (x_BadText : XDef P w K mg base "BadText" "row" BT)
    (G_bits_of_digits : FnOk P w K mg base (L2.CX P w) 3 fD fdD ["digits"] (spDigs BT)) (g_bits_of_digits : mg "_bits_of_digits" = some (.ref fD)) (k_bits_of_digits : PySem.W.keepIn K (.ref fD) = true) (b_bits_of_digits : Binds K fdD ["digits"] []) :
    FnOk P w K mg base (L2.CX P w) (k + 4) f fd ["text"] (spBitsOf BT) := by
  refine F.okX sc_bits_of (fun vs H Q E h => ?_) (fun cdv A outer s H vs Q E hr h => ?_)
  · obtain ⟨t, rfl, _⟩ := h
    rfl
  · obtain ⟨t, rfl, ht, h⟩ := h
    refine ⟨_, (pss_cons (ps_asg (pe_partition (pv 0) pe_str) (pg_tup rfl (pgs_cons (pg_name (i := 1) sc_bits_of.nd rfl (Or.inl rfl)) (pgs_cons (pg_name (i := 2) sc_bits_of.nd rfl (Or.inl rfl)) (pgs_cons (pg_name (i := 3) sc_bits_of.nd rfl (Or.inl rfl)) pgs_nil)))))
    (pss_cons (ps_if (pt_cmpR op_notIn_seq (pv 3) (pe_glob (v := .ref F0) (by rfl) hFL rfl) (by rfl)) (pss_one (ps_raise rfl (takes_of rfl rfl rfl rfl) (pmk_x x_BadText hr (by omega) (by rfl) pe_int))) pss_nil)
    (pss_cons (ps_set (i := 4) sc_bits_of.nd rfl (Or.inl rfl) (pe_call G_bits_of_digits (hr.mono (by omega)) (by rfl) g_bits_of_digits k_bits_of_digits b_bits_of_digits .nil (passes_call (takes_of rfl rfl rfl rfl) (fun _ _ _ _ h => h)) (pa_cons (pv 1) pa_nil)))
    (pss_cons (ps_set (i := 5) sc_bits_of.nd rfl (Or.inl rfl) (pe_op op_sub (pe_callB call_len_seq (by rfl) T.z_len PySem.boot_len (pa_cons (pv 4) pa_nil)) (pe_callTy call_int_str (by rfl) T.z_int PyProof.Rows.boot_int (pa_cons (pv 3) pa_nil))))
    (pss_cons (ps_if (PW.pt (pw_or (pt_cmpR op_lt (pv 5) pe_int (nomark _)) (pw_or1 (pt_cmpR op_in_seq pe_int (pe_slice sl_list (pv 4) (po_some (pv 5)) po_none) (by rfl))))) (pss_one (ps_raise rfl (takes_of rfl rfl rfl rfl) (pmk_x x_BadText hr (by omega) (by rfl) pe_int))) pss_nil)
    (pss_one (ps_ret (pe_slice sl_list (pv 4) po_none (po_some (pv 5)))))))))), ?_⟩
    have dotS : (Str.ofString "." : Str) = SX.S [46] := by decide +kernel
    have hlen : (SX.S t).length ≤ sizeLine := by
      rw [SX.S_len]
      exact Nat.le_of_lt (small1000 (by omega))
    walk_at "ev"
    refine ⟨⟨_, rfl⟩, _, _, rfl, rfl, (by decide +kernel), hlen, fun T0 nT => ?_⟩
    rw [dotS]
    have sT := fun o => same_upd (o := o) nT
    refine ⟨T0, _, rfl, .inl (.inl upd_same), rfl, ?_⟩
    generalize hG : upd H T0 (.tup [.str (Txt.partition (SX.S t) (SX.S [46])).1, .str (Txt.partition (SX.S t) (SX.S [46])).2.1, .str (Txt.partition (SX.S t) (SX.S [46])).2.2]) = G
    have sG : Same H G := by
      rw [← hG]
      exact sT _
    by_cases hdot : 46 ∈ t
    case neg =>
      rw [SX.partition_none (by decide) (SX.par_head_none hdot)]
      have hno : ¬ isOK t := by
        rintro ⟨d, f, ok⟩
        refine hdot ?_
        rw [ok.e]
        simp
      walk_at "ev"
      refine ⟨F0, _, rfl, .inr (hF0 _), rfl, rfl, ?_⟩
      rw [in_fill, if_pos rfl, decide_eq_false (by rintro ⟨f, _, z⟩; cases z)]
      refine ⟨_, rfl, ?_⟩
      obtain ⟨d, f, ok, _⟩ | ⟨_, x⟩ := h
      · exact absurd ⟨d, f, ok⟩ hno
      · exact mkx_in fun dd H3 nd s3 e3 => x dd H3 (sG.free nd) (sG.trans s3) e3
    obtain ⟨d, r, ht2, hd⟩ := first_split hdot
    rw [SX.partition_some (p := d) (q := r) (by decide) (by rw [ht2]; exact SX.par_head (sep := []) r hd)]
    have hlr : d.length + r.length + 1 ≤ 200 := by
      rw [ht2, List.length_append, List.length_cons] at ht
      omega
    walk_at "ev"
    refine ⟨F0, _, rfl, .inr (hF0 _), rfl, rfl, ?_⟩
    rw [in_fill, if_pos rfl]
    by_cases hr4 : ∃ f, f < 4 ∧ r = [48 + f]
    case neg =>
      rw [decide_eq_false hr4]
      refine ⟨_, rfl, ?_⟩
      obtain ⟨d', f, ok, _⟩ | ⟨_, x⟩ := h
      · exact absurd ⟨f, ok.f4, (ok.uniq ht2 hd).2⟩ hr4
      · exact mkx_in fun dd H3 nd s3 e3 => x dd H3 (sG.free nd) (sG.trans s3) e3
    rw [decide_eq_true hr4]
    obtain ⟨f, f4, rfl⟩ := hr4
    refine ⟨_, rfl, ?_⟩
    walk_at "ev"
    refine ⟨by omega, ?_⟩
    by_cases hx : ∀ c ∈ d, c ∈ hexC
    case neg =>
      refine .inr ⟨?_, ?_⟩
      · obtain ⟨c, hc⟩ := Classical.not_forall.mp hx
        exact ⟨c, Classical.not_imp.mp hc⟩
      · obtain ⟨d', f', ok, _⟩ | ⟨_, x⟩ := h
        · rw [(ok.uniq ht2 hd).1] at hx
          exact absurd ok.hx hx
        · exact fun dd H3 nd s3 e3 => x dd H3 (sG.free nd) (sG.trans s3) e3
    refine .inl ⟨hx, fun p H1 np s1 e1 => ?_⟩
    have sA := sG.trans s1
    have hl1 : ((nibs d).map V.int).length = 4 * d.length := by rw [List.length_map, nibs_len]
    walk_at "ev"
    refine ⟨_, _, rfl, int_fill f4, by show (SX.S [48 + f]).length ≤ 640; rw [SX.S_len]; exact (by decide : 1 ≤ 640), ?_⟩
    walk_at "ev"
    · rename_i hneg
      obtain ⟨d', f', ok, _⟩ | ⟨_, x⟩ := h
      · obtain ⟨rfl, h2⟩ := ok.uniq ht2 hd
        have h3 : f = f' := by
          have := (List.cons.inj h2).1
          omega
        subst h3
        have := ok.le
        omega
      · exact mkx_in fun dd H3 nd s3 e3 => x dd H3 (sA.free nd) (sA.trans s3) e3
    rename_i hneg
    have le : f ≤ 4 * d.length := by omega
    refine ⟨p, _, rfl, .inl (.inl e1), fun p1 n1 => ?_⟩
    rw [cut_from (k := 4 * d.length - f) (by omega) (by omega), ← List.map_drop]
    have s2 := sA.trans (same_upd (o := .lst (((nibs d).drop (4 * d.length - f)).map V.int)) n1)
    refine ⟨p1, _, rfl, .inl (.inl (.inl upd_same)), rfl, (by rw [List.all_map]; exact List.all_eq_true.mpr fun _ _ => rfl), ?_⟩
    rw [in_one_i, if_neg Bool.false_ne_true]
    by_cases hone : (1 : Int) ∈ (nibs d).drop (4 * d.length - f)
    · rw [decide_eq_true hone]
      refine ⟨_, rfl, ?_⟩
      obtain ⟨d', f', ok, _⟩ | ⟨_, x⟩ := h
      · obtain ⟨rfl, h2⟩ := ok.uniq ht2 hd
        have h3 : f = f' := by
          have := (List.cons.inj h2).1
          omega
        subst h3
        rw [ok.z] at hone
        exact absurd (List.mem_replicate.mp hone).2 (by decide)
      · exact mkx_in fun dd H3 nd s3 e3 => x dd H3 (s2.free nd) (s2.trans s3) e3
    rw [decide_eq_false hone]
    refine ⟨_, rfl, ?_⟩
    have hz := bits_zero (zs := (nibs d).drop (4 * d.length - f)) (fun b m => nibs_bits d b (List.mem_of_mem_drop m)) hone
    rw [List.length_drop, nibs_len, show 4 * d.length - (4 * d.length - f) = f by omega] at hz
    have ok0 : OK t d f := ⟨ht2, f4, hx, le, hz⟩
    have e1b := new_at (o' := .lst (((nibs d).drop (4 * d.length - f)).map V.int)) e1 n1
    obtain ⟨d', f', ok, q⟩ | ⟨n, _⟩ := h
    case inr => exact absurd ⟨d, f, ok0⟩ n
    obtain ⟨rfl, h2⟩ := ok.uniq ht2 hd
    have h3 : f = f' := by
      have := (List.cons.inj h2).1
      omega
    subst h3
    walk_at "ev"
    refine ⟨p, _, rfl, .inl (.inl e1b), fun p2 n2 => ?_⟩
    rw [cut_to (k := 4 * d.length - f) (by omega) (by omega), ← List.map_take]
    exact q p2 _ (s2.free n2) (s2.trans (same_upd n2)) upd_same
theorem rgc4 {j : Int} {m : Nat} (h : j = 4 * (m : Int)) (hm : m ≤ 1000) : RgC 0 j 4 m := by
  have hs : Builtin.Range.rangeSize 0 j 4 = (m : Int) := by
    unfold Builtin.Range.rangeSize
    rw [if_pos (by decide)]
    split <;> omega
  refine ⟨by decide, by decide, ?_, hs⟩
  unfold Builtin.Range.small
  rw [hs]
  have f : ∀ x : Int, -10000 ≤ x → x ≤ 10000 → Builtin.Range.rangeFitsLong x = true := fun x h1 h2 => by
    unfold Builtin.Range.rangeFitsLong
    simp only [Bool.and_eq_true, decide_eq_true_eq]
    omega
  rw [f 0 (by decide) (by decide), f j (by omega) (by omega), f 4 (by decide) (by decide), f m (by omega) (by omega), if_pos (by decide), f (j + (4 - 1)) (by omega) (by omega)]
  cases ((m : Int) == 0) <;> rfl
/-- the quad at a place -/
theorem quads_get : ∀ (i : Nat) {bs : List Int}, 4 * i + 4 ≤ bs.length → (quads bs)[i]? = some (valI ((bs.drop (4 * i)).take 4)).toNat
  | 0, a :: b :: c :: e :: r, _ => by
    show some (8 * a + 4 * b + 2 * c + e).toNat = some (valI [a, b, c, e]).toNat
    have : valI [a, b, c, e] = 8 * a + 4 * b + 2 * c + e := by
      show 2 * (2 * (2 * (2 * 0 + a) + b) + c) + e = _
      omega
    rw [this]
  | i + 1, a :: b :: c :: e :: r, h => by
    show (quads r)[i]? = _
    rw [quads_get i (by simp only [List.length_cons] at h; omega), show 4 * (i + 1) = 4 * i + 1 + 1 + 1 + 1 by omega]
    rfl
  | 0, [], h => by simp at h
  | 0, [_], h => by simp at h
  | 0, [_, _], h => by simp at h
  | 0, [_, _, _], h => by simp at h
  | i + 1, [], h => by simp at h
  | i + 1, [_], h => by simp at h
  | i + 1, [_, _], h => by simp at h
  | i + 1, [_, _, _], h => by simp at h
theorem quad_val {zs : List Int} (h : zs.length = 4) (hb : AreBits zs) : 0 ≤ valI zs ∧ valI zs < 16 := by
  obtain ⟨z, e, hz⟩ := valI_lt 4 zs h hb
  rw [e]
  exact ⟨by omega, by omega⟩
theorem hexC_at {n : Int} (h0 : 0 ≤ n) (h : n < 16) : atI (SX.S hexC).cps.toList n = some (hxc n.toNat) := by
  have e : ixN hexC.length n = some n.toNat := by
    unfold ixN
    rw [if_pos h0, if_pos (by show n < 16; exact h)]
  show (ixN hexC.length n).bind (fun j => hexC[j]?) = _
  rw [e]
  exact hxc_get (by omega)
theorem joinL_one : ∀ cs : List Nat, TL.joinL [] (cs.map fun c => [c]) = cs
  | [] => rfl
  | [c] => rfl
  | c :: d :: r => by
    show [c] ++ ([] ++ TL.joinL [] ((d :: r).map fun c => [c])) = _
    rw [joinL_one (d :: r)]
    rfl
theorem join_cs (cs : List Nat) : Txt.join (Str.ofString "") (cs.map fun c => SX.S [c]) = SX.S cs := by
  have e := SX.join_S [] (cs.map fun c => [c])
  rw [joinL_one, List.map_map] at e
  exact e
theorem sum_ones : ∀ cs : List Nat, ((cs.map fun c => SX.S [c]).map (·.length)).sum = cs.length
  | [] => rfl
  | c :: r => by
    rw [List.map_cons, List.map_cons, List.sum_cons, sum_ones r, List.length_cons, SX.S_len]
    show 1 + _ = _
    omega
theorem fil_text {f : Nat} (h : f < 4) : (toString ((f : Nat) : Int) : String) = toString ((f : Nat) : Int) ∧ (Str.ofString (toString ((f : Nat) : Int)) : Str) = SX.S [48 + f] := by
  refine ⟨rfl, ?_⟩
  rw [SX.num_S, TL.numL_lt (by omega)]
def spHexOf (B : Addr) : Sp := fun vs H Q E => ∃ (p : Addr), vs = [.ref p] ∧
  ((∃ bs : List Int, H p = some (.lst (bs.map V.int)) ∧ AreBits bs ∧ bs.length ≤ 200 ∧ ∀ H', Same H H' → Q (.str (SX.S (hexS bs))) H') ∨ (BadAt H p ∧ E (.ref B) none H))
theorem ok_hex_of {f B fC : Addr} {fd fdC : FuncData} {k : Nat} {t : Tok} (F : Fun K "hex_of" "hex_of" s_hex_of f fd) (T : Txt mg) (hDG : mg "DIGITS" = some (.str "0123456789abcdef" t))
    (G_check_bits : FnOk P w K mg base (L2.CX P w) 2 fC fdC ["bits"] (spCheckBX B)) (g_check_bits : mg "check_bits" = some (.ref fC)) (k_check_bits : PySem.W.keepIn K (.ref fC) = true) (b_check_bits : Binds K fdC ["bits"] []) (c_number_of : C8.Cal P w K mg base 1 "number_of" spNumber []) :
    FnOk P w K mg base (L2.CX P w) (k + 3) f fd ["bits"] (spHexOf B) := by
  refine F.okX sc_hex_of (fun vs H Q E h => ?_) (fun cdv A outer s H vs Q E hr h => ?_)
  · obtain ⟨p, rfl, _⟩ := h
    rfl
  · obtain ⟨p, rfl, h⟩ := h
    refine ⟨_, (pss_cons (ps_expr (pe_call G_check_bits (hr.mono (by omega)) (by rfl) g_check_bits k_check_bits b_check_bits .nil (passes_call (takes_of rfl rfl rfl rfl) (fun _ _ _ _ h => h)) (pa_cons (pv 0) pa_nil)))
    (pss_cons (ps_set (i := 1) sc_hex_of.nd rfl (Or.inl rfl) (pe_op op_mod (pe_un un_neg (pe_callB call_len_seq (by rfl) T.z_len PySem.boot_len (pa_cons (pv 0) pa_nil))) pe_int))
    (pss_cons (ps_set (i := 2) sc_hex_of.nd rfl (Or.inr rfl) (pe_op op_cat (pe_callTy call_list_of (by rfl) T.z_list PyProof.Rows.boot_list (pa_cons (pv 0) pa_nil)) (pe_op op_rep (pe_lst (pa_cons pe_int pa_nil)) (pv 1))))
    (pss_cons (ps_setLc (i := 4) (own := [("at", 3)]) (g := (gName 3)) (tt := tYes) rfl sc_hex_of.nd rfl rfl (sw_true rfl rfl rfl (by decide +kernel)) (pi_range3 (by rfl) T.z_range (pa_cons pe_int (pa_cons (pe_callB call_len_seq (by rfl) T.z_len PySem.boot_len (pa_cons (pv 2) pa_nil)) (pa_cons pe_int pa_nil)))) (blkOk_by (N := ["bits", "filling", "filled", "at", "digits"]) (sc := defScope s_hex_of) (by decide +kernel)) (fun _ _ _ _ _ => pg_name (i := 3) sc_hex_of.nd rfl (Or.inl rfl)) (fun _ _ _ _ _ => pts_nil) (fun _ _ _ _ _ => (pe_ix ix_str (pe_glob (v := .str "0123456789abcdef") (by rfl) hDG ⟨_, rfl⟩) (C8.pe_c c_number_of hr (by omega) (by rfl) (pa_cons (pe_slice (sl_list : SlR _ (rSlL K)) (pv 2) (po_some (pv 3)) (po_some (pe_op op_add (pv 3) pe_int))) pa_nil)) (fun _ _ => rfl))))
    (pss_one (ps_ret (pe_op op_add_str (pe_join pe_str (pv 4)) (pe_joined (.cons pe_str (.cons (pe_fmt (pv 1)) .nil)))))))))), ?_⟩
    obtain ⟨bs, hp, hb, hl, q⟩ | ⟨hb, x⟩ := h
    case inr =>
      walk_at "ev"
      exact .inr ⟨hb, x⟩
    have hlb : (bs.map V.int).length = bs.length := List.length_map _
    obtain ⟨m, hm⟩ := fil_four bs.length
    have hf := fil_lt bs.length
    walk_at "ev"
    refine .inl ⟨bs, hp, hb, ?_⟩
    walk_at "ev"
    refine fun p1 n1 => ?_
    walk_at "ev"
    refine ⟨(by show 1 ≤ sizeLine; decide), fun p2 n2 => ?_⟩
    walk_at "ev"
    refine ⟨p2, _, _, rfl, rfl, upd_same, by omega, by omega, ?_, fun p3 n3 => ?_⟩
    · show 1 * _ ≤ sizeLine
      exact Nat.le_of_lt (small1000 (by omega))
    have eC : ∀ q : Hp, (List.replicate ((-((bs.map V.int).length : Int)) % 4).toNat [V.int 0]).flatten = (List.replicate (fil bs.length) (0 : Int)).map V.int := fun _ => by
      rw [flat_zeros, hlb, fil_int]
      rfl
    refine ⟨p1, p3, _, _, rfl, rfl, new_at (new_at upd_same n2) n3, upd_same, ?_, fun p4 n4 => ?_⟩
    · rw [eC H, List.length_map, List.length_map, List.length_replicate]
      exact Nat.le_of_lt (small1000 (by omega))
    have s4 := (same_upd (o := .lst (bs.map V.int)) n1).trans ((same_upd (o := .lst [V.int 0]) n2).trans ((same_upd (o := .lst (List.replicate ((-((bs.map V.int).length : Int)) % 4).toNat [V.int 0]).flatten) n3).trans (same_upd (o := .lst (bs.map V.int ++ (List.replicate ((-((bs.map V.int).length : Int)) % 4).toNat [V.int 0]).flatten)) n4)))
    have e4 : ∀ G : Hp, upd G p4 (.lst (bs.map V.int ++ (List.replicate ((-((bs.map V.int).length : Int)) % 4).toNat [V.int 0]).flatten)) p4 = some (.lst ((padB bs).map V.int)) := fun G => by
      rw [upd_same, eC H, ← List.map_append]
      rfl
    have e4b := e4 (upd (upd (upd H p1 (.lst (bs.map V.int))) p2 (.lst [V.int 0])) p3 (.lst (List.replicate ((-((bs.map V.int).length : Int)) % 4).toNat [V.int 0]).flatten))
    generalize upd (upd (upd (upd H p1 (.lst (bs.map V.int))) p2 (.lst [V.int 0])) p3 (.lst (List.replicate ((-((bs.map V.int).length : Int)) % 4).toNat [V.int 0]).flatten)) p4 (.lst (bs.map V.int ++ (List.replicate ((-((bs.map V.int).length : Int)) % 4).toNat [V.int 0]).flatten)) = G at s4 e4b ⊢
    have hpl : ((padB bs).map V.int).length = 4 * m := by rw [List.length_map, padB_len, hm]
    walk_at "ev"
    refine ⟨0, _, 4, m, rfl, rgc4 (by rw [hpl]; omega) (by omega), fun D nD => ?_⟩
    refine lc_it walk_rangeC (fun i H2 => Same G H2 ∧ H2 D = some (.lst ((((quads (padB bs)).map hxc).take i).map fun c => V.str (SX.S [c])))) ⟨same_upd nD, upd_same⟩ (fun _ _ _ _ => trivial) ?_ ?_
    · rintro i x H2 H3 hi ⟨s2, e2⟩ ⟨rfl, rfl⟩
      have hq := quads_get i (bs := padB bs) (by rw [padB_len, hm]; omega)
      have hv := quad_val (zs := ((padB bs).drop (4 * i)).take 4) (by rw [List.length_take, List.length_drop, padB_len, hm]; omega) (fun b mb => padB_bits hb b (List.mem_of_mem_drop (List.mem_of_mem_take mb)))
      walk_at "ev"
      refine ⟨p4, _, rfl, .inl (.inl (s2 _ _ e4b)), fun p5 n5 => ?_⟩
      have hcut : cutV ((padB bs).map V.int) (some (0 + (i : Int) * 4)) (some (0 + (i : Int) * 4 + 4)) = (((padB bs).drop (4 * i)).take 4).map V.int := by
        rw [cut_int (i := 4 * i) (k := 4 * i + 4) (by omega) (by omega) (by omega) (by omega), ← List.map_drop, ← List.map_take, show 4 * i + 4 - 4 * i = 4 by omega]
      rw [hcut]
      walk_at "ev"
      refine ⟨p5, ((padB bs).drop (4 * i)).take 4, rfl, upd_same, ?_⟩
      refine ⟨_, _, hxc (valI (((padB bs).drop (4 * i)).take 4)).toNat, rfl, rfl, (by decide +kernel), (by rw [str_hexC]; exact hexC_at hv.1 hv.2), ?_⟩
      have e5 := fun o => new_at (o' := o) e2 n5
      have hh : ((quads (padB bs)).map hxc)[i]? = some (hxc (valI (((padB bs).drop (4 * i)).take 4)).toNat) := by
        rw [List.getElem?_map, hq]
        rfl
      refine ⟨_, e5 _, small1000 (by rw [List.length_map, List.length_take]; omega), fun b o e => ?_, ?_⟩
      · rw [upd_ne (ne_of_none e nD)]
        exact (s2.trans (same_upd n5)) _ _ e
      · rw [upd_same, ← take_snoc hh, List.map_append]
        rfl
    · rintro H2 ⟨s2, e2⟩
      have hqm : ((quads (padB bs)).map hxc).length = m := by
        rw [List.length_map, (nibs_quads m (padB_bits hb) (by rw [padB_len, hm])).2.1]
      rw [List.take_of_length_le (by omega)] at e2
      have hS : hexS bs = (quads (padB bs)).map hxc ++ [46, 48 + fil bs.length] := rfl
      rw [hS] at q
      generalize (quads (padB bs)).map hxc = qs at e2 hqm q
      walk_at "ev"
      refine ⟨⟨_, rfl⟩, ?_⟩
      walk_at "ev"
      refine ⟨_, D, qs.map (fun c => SX.S [c]), rfl, rfl, .inl (.inl (.inl (by rw [e2, List.map_map]; rfl))), ?_, ?_⟩
      · rw [sum_ones, List.length_map, hqm]
        show m + m * 0 ≤ _
        omega
      rw [join_cs]
      walk_at "ev"
      refine ⟨by decide +kernel, ?_⟩
      walk_at "ev"
      have hE : Str.empty ++ Str.ofString "." ++ Str.ofString (toString ((fil bs.length : Nat) : Int)) = SX.S [46, 48 + fil bs.length] := by
        rw [(fil_text hf).2, show (Str.empty ++ Str.ofString ".") = SX.S [46] from by decide +kernel, SX.S_cat]
        rfl
      rw [hlb, fil_int]
      refine ⟨?_, _, rfl, ?_, ?_⟩
      · rw [Int.natAbs_natCast]
        exact Nat.lt_of_le_of_lt (Nat.log2_le_self _) (by omega)
      · rw [hE, SX.S_len]
        exact (by decide : 2 ≤ sizeLine)
      rw [hE]
      refine ⟨_, _, rfl, rfl, ?_, ?_⟩
      · rw [SX.S_len, SX.S_len, hqm]
        exact Nat.le_of_lt (small1000 (by show m + 2 ≤ 1000; omega))
      rw [SX.S_cat]
      exact q _ (s4.trans s2)
theorem quads_at : ∀ (i : Nat) {bs : List Int}, 4 * i + 4 ≤ bs.length → ∃ a b c e, bs[4 * i]? = some a ∧ bs[4 * i + 1]? = some b ∧ bs[4 * i + 2]? = some c ∧ bs[4 * i + 3]? = some e ∧ (quads bs)[i]? = some (8 * a + 4 * b + 2 * c + e).toNat
  | 0, a :: b :: c :: e :: r, _ => ⟨a, b, c, e, rfl, rfl, rfl, rfl, rfl⟩
  | i + 1, _ :: _ :: _ :: _ :: r, h => by
    obtain ⟨a, b, c, e, h1, h2, h3, h4, h5⟩ := quads_at i (bs := r) (by simp only [List.length_cons] at h; omega)
    exact ⟨a, b, c, e, h1, h2, h3, h4, h5⟩
  | 0, [], h => by simp at h
  | 0, [_], h => by simp at h
  | 0, [_, _], h => by simp at h
  | 0, [_, _, _], h => by simp at h
  | i + 1, [], h => by simp at h
  | i + 1, [_], h => by simp at h
  | i + 1, [_, _], h => by simp at h
  | i + 1, [_, _, _], h => by simp at h
theorem dotS : (Str.ofString "." : Str) = SX.S [46] := by decide +kernel
theorem dot_len : (Str.ofString "." : Str).length = 1 := by decide +kernel
theorem str_0123s : (Str.ofString "0123" : Str) = SX.S [48, 49, 50, 51] := by decide +kernel
theorem dig4 {f : Nat} (h : f < 4) : atI (Str.ofString "0123").cps.toList (f : Int) = some (48 + f) := by
  rw [str_0123s]
  have : f = 0 ∨ f = 1 ∨ f = 2 ∨ f = 3 := by omega
  rcases this with rfl | rfl | rfl | rfl <;> rfl
def spHexL : Sp := fun vs H Q _ => ∃ (p : Addr) (bs : List Int), vs = [.ref p] ∧ H p = some (.lst (bs.map V.int)) ∧ AreBits bs ∧ bs.length ≤ 900 ∧ ∀ H', Same H H' → Q (.str (SX.S (hexS bs))) H'
theorem ok_hexL {f : Addr} {fd : FuncData} {k : Nat} (F : Fun K "_law_hex" "_law_hex" s_law_hex f fd) (T : Txt mg) : FnOk P w K mg base CX0 (k + 1) f fd ["_law_bits_here"] spHexL := by
  refine F.ok sc_law_hex (fun vs H Q E h => ?_) (fun cdv A outer s H vs Q E hr h => ?_)
  · obtain ⟨p, bs, rfl, _⟩ := h
    rfl
  · obtain ⟨p, bs, rfl, hp, hb, hl, q⟩ := h
    refine ⟨_, (pss_cons (ps_set (i := 1) sc_law_hex.nd rfl (Or.inl rfl) (pe_op op_mod (pe_op op_sub pe_int (pe_callB call_len_seq (by rfl) T.z_len PySem.boot_len (pa_cons (pv 0) pa_nil))) pe_int))
    (pss_cons (ps_par (i := 2) (j := 3) rfl sc_law_hex.nd rfl rfl (by decide) rfl rfl (pa_cons (pe_op op_cat (pv 0) (pe_op op_rep (pe_lst (pa_cons pe_int pa_nil)) (pv 1))) (pa_cons pe_str pa_nil)) rfl)
    (pss_cons (ps_for PassesOwn.never rfl (pi_range3 (by rfl) T.z_range (pa_cons pe_int (pa_cons (pe_callB call_len_seq (by rfl) T.z_len PySem.boot_len (pa_cons (pv 2) pa_nil)) (pa_cons pe_int pa_nil)))) (pg_name (i := 4) sc_law_hex.nd rfl (Or.inl rfl))
      (pss_one (ps_set (i := 3) sc_law_hex.nd rfl (Or.inl rfl) (pe_op op_add_str (pv 3) (pe_ix ix_str pe_str (pe_op op_add (pe_op op_add (pe_op op_add (pe_op op_mul pe_int (pe_ix ix_list (pv 2) (pv 4) (fun _ _ => rfl))) (pe_op op_mul pe_int (pe_ix ix_list (pv 2) (pe_op op_add (pv 4) pe_int) (fun _ _ => rfl)))) (pe_op op_mul pe_int (pe_ix ix_list (pv 2) (pe_op op_add (pv 4) pe_int) (fun _ _ => rfl)))) (pe_ix ix_list (pv 2) (pe_op op_add (pv 4) pe_int) (fun _ _ => rfl))) (fun _ _ => rfl))))))
    (pss_one (ps_ret (pe_op op_add_str (pe_op op_add_str (pv 3) pe_str) (pe_ix ix_str pe_str (pv 1) (fun _ _ => rfl)))))))), ?_⟩
    have hlb : (bs.map V.int).length = bs.length := List.length_map _
    obtain ⟨m, hm⟩ := fil_four bs.length
    have hf := fil_lt bs.length
    walk_at "ev"
    refine ⟨(by show 1 ≤ sizeLine; decide), fun p2 n2 => ?_⟩
    walk_at "ev"
    refine ⟨p2, _, _, rfl, rfl, upd_same, by omega, by omega, ?_, fun p3 n3 => ?_⟩
    · show 1 * _ ≤ sizeLine
      exact Nat.le_of_lt (small1000 (by omega))
    have eC : (List.replicate (((0 : Int) - ((bs.map V.int).length : Int)) % 4).toNat [V.int 0]).flatten = (List.replicate (fil bs.length) (0 : Int)).map V.int := by
      rw [flat_zeros, hlb, Int.zero_sub, fil_int]
      rfl
    refine ⟨p, p3, _, _, rfl, rfl, new_at (new_at hp n2) n3, upd_same, ?_, fun p4 n4 => ?_⟩
    · rw [eC, List.length_map, List.length_map, List.length_replicate]
      exact Nat.le_of_lt (small1000 (by omega))
    have s4 := (same_upd (o := .lst [V.int 0]) n2).trans ((same_upd (o := .lst (List.replicate (((0 : Int) - ((bs.map V.int).length : Int)) % 4).toNat [V.int 0]).flatten) n3).trans (same_upd (o := .lst (bs.map V.int ++ (List.replicate (((0 : Int) - ((bs.map V.int).length : Int)) % 4).toNat [V.int 0]).flatten)) n4))
    have e4 : ∀ G : Hp, upd G p4 (.lst (bs.map V.int ++ (List.replicate (((0 : Int) - ((bs.map V.int).length : Int)) % 4).toNat [V.int 0]).flatten)) p4 = some (.lst ((padB bs).map V.int)) := fun G => by
      rw [upd_same, eC, ← List.map_append]
      rfl
    have e4b := e4 (upd (upd H p2 (.lst [V.int 0])) p3 (.lst (List.replicate (((0 : Int) - ((bs.map V.int).length : Int)) % 4).toNat [V.int 0]).flatten))
    generalize upd (upd (upd H p2 (.lst [V.int 0])) p3 (.lst (List.replicate (((0 : Int) - ((bs.map V.int).length : Int)) % 4).toNat [V.int 0]).flatten)) p4 (.lst (bs.map V.int ++ (List.replicate (((0 : Int) - ((bs.map V.int).length : Int)) % 4).toNat [V.int 0]).flatten)) = G at s4 e4b ⊢
    have hpl : ((padB bs).map V.int).length = 4 * m := by rw [List.length_map, padB_len, hm]
    have hpl2 : (padB bs).length = 4 * m := by rw [padB_len, hm]
    have hqm : ((quads (padB bs)).map hxc).length = m := by
      rw [List.length_map, (nibs_quads m (padB_bits hb) (by rw [padB_len, hm])).2.1]
    walk_at "ev"
    refine ⟨0, _, 4, m, rfl, rgc4 (by rw [hpl]; omega) (by omega), ?_⟩
    refine for_it walk_rangeC (fun i σ H2 => ∃ v4, σ = [some (.ref p), some (.int ((0 - ((bs.map V.int).length : Int)) % 4)), some (.ref p4), some (.str (SX.S (((quads (padB bs)).map hxc).take i))), v4] ∧ H2 = G) ⟨_, rfl, rfl⟩ (fun _ _ _ _ _ => trivial) ?_ ?_
    · rintro i x σ H2 H3 hi ⟨v4, rfl, rfl⟩ ⟨rfl, rfl⟩
      obtain ⟨a, b, c, e, h1, h2, h3, h4, h5⟩ := quads_at i (bs := padB bs) (by omega)
      have ba := padB_bits hb a (List.mem_of_getElem? h1)
      have bb := padB_bits hb b (List.mem_of_getElem? h2)
      have bc := padB_bits hb c (List.mem_of_getElem? h3)
      have be := padB_bits hb e (List.mem_of_getElem? h4)
      have g : ∀ {j : Nat} {z y : Int}, (padB bs)[j]? = some z → y = (j : Int) → atI ((padB bs).map V.int) y = some (.int z) := fun hz hy => at_of hy (by rw [List.getElem?_map, hz]; rfl)
      walk_at "ev"
      refine ⟨_, _, _, _, rfl, rfl, .inl (.inl e4b), g h1 (by omega), ?_⟩
      walk_at "ev"
      refine ⟨_, _, _, _, rfl, rfl, .inl (.inl e4b), g h2 (by omega), ?_⟩
      walk_at "ev"
      refine ⟨_, _, _, _, rfl, rfl, .inl (.inl e4b), g h3 (by omega), ?_⟩
      walk_at "ev"
      refine ⟨_, _, _, _, rfl, rfl, .inl (.inl e4b), g h4 (by omega), ?_⟩
      walk_at "ev"
      refine ⟨_, _, hxc (8 * a + 4 * b + 2 * c + e).toNat, rfl, rfl, (by decide +kernel), (by rw [str_hexC]; exact hexC_at (by omega) (by omega)), ?_⟩
      have hh : ((quads (padB bs)).map hxc)[i]? = some (hxc (8 * a + 4 * b + 2 * c + e).toNat) := by
        rw [List.getElem?_map, h5]
        rfl
      refine ⟨_, _, rfl, rfl, ?_, some (.int (0 + (i : Int) * 4)), ?_, rfl⟩
      · rw [SX.S_len, SX.S_len, List.length_take, hqm]
        exact Nat.le_of_lt (small1000 (by show min i m + 1 ≤ 1000; omega))
      · rw [← take_snoc hh, ← SX.S_cat]
        rfl
    · rintro σ H2 ⟨v4, rfl, rfl⟩
      rw [List.take_of_length_le (by omega)]
      walk_at "ev"
      refine ⟨by rw [SX.S_len, hqm, dot_len]; exact Nat.le_of_lt (small1000 (by omega)), ?_⟩
      walk_at "ev"
      refine ⟨_, _, 48 + fil bs.length, rfl, rfl, (by decide +kernel), (by rw [hlb, Int.zero_sub, fil_int]; exact dig4 hf), ?_⟩
      refine ⟨_, _, rfl, rfl, ?_, ?_⟩
      · rw [dotS, SX.S_cat, SX.S_len, SX.S_len, List.length_append, hqm]
        exact Nat.le_of_lt (small1000 (by show m + 1 + 1 ≤ 1000; omega))
      rw [dotS, SX.S_cat, SX.S_cat, List.append_assoc]
      exact q _ s4
theorem snoc2 {t : List Nat} (h : 2 ≤ t.length) : ∃ d x y, t = d ++ [x, y] := by
  obtain ⟨u, hu⟩ : ∃ u, u = t.drop (t.length - 2) := ⟨_, rfl⟩
  have hl : u.length = 2 := by rw [hu, List.length_drop]; omega
  match u, hl with
  | [x, y], _ => exact ⟨t.take (t.length - 2), x, y, by rw [hu, List.take_append_drop]⟩
theorem at_m2 (d : List Nat) (x y : Nat) : atI (SX.S (d ++ [x, y])).cps.toList (-2) = some x := by
  show atI (d ++ [x, y]) (-2) = some x
  unfold atI ixN
  rw [if_neg (by decide), if_pos (by simp; omega)]
  show (d ++ [x, y])[((-2 : Int) + ((d ++ [x, y]).length : Int)).toNat]? = some x
  rw [show ((-2 : Int) + ((d ++ [x, y]).length : Int)).toNat = d.length by simp; omega, List.getElem?_append_right (Nat.le_refl _), Nat.sub_self]
  rfl
theorem at_m1 (d : List Nat) (x y : Nat) : atI (SX.S (d ++ [x, y])).cps.toList (-1) = some y := by
  show atI (d ++ [x, y]) (-1) = some y
  unfold atI ixN
  rw [if_neg (by decide), if_pos (by simp; omega)]
  show (d ++ [x, y])[((-1 : Int) + ((d ++ [x, y]).length : Int)).toNat]? = some y
  rw [show ((-1 : Int) + ((d ++ [x, y]).length : Int)).toNat = d.length + 1 by simp; omega, List.getElem?_append_right (by omega), show d.length + 1 - d.length = 1 by omega]
  rfl
theorem cut_m2 (d : List Nat) (x y : Nat) : cutS (SX.S (d ++ [x, y])) none (some (-2)) = SX.S d := by
  unfold cutS
  rw [HT.sIx_none, SX.S_len]
  have e : HT.sIx (d ++ [x, y]).length (d ++ [x, y]).length (some (-2)) = d.length := by
    show (if (-2 : Int) < 0 then ((-2 : Int) + ((d ++ [x, y]).length : Int)).toNat else min (-2 : Int).toNat (d ++ [x, y]).length) = _
    rw [if_pos (by decide), List.length_append]
    show ((-2 : Int) + ((d.length + 2 : Nat) : Int)).toNat = _
    omega
  rw [e]
  show SX.S (((d ++ [x, y]).drop 0).take (d.length - 0)) = SX.S d
  rw [List.drop_zero, Nat.sub_zero, List.take_left' rfl]
theorem mem_fill {y : Nat} : y ∈ [48, 49, 50, 51] ↔ ∃ f, f < 4 ∧ y = 48 + f := by
  constructor
  · intro m
    simp only [List.mem_cons, List.not_mem_nil, or_false] at m
    rcases m with rfl | rfl | rfl | rfl
    · exact ⟨0, by decide, rfl⟩
    · exact ⟨1, by decide, rfl⟩
    · exact ⟨2, by decide, rfl⟩
    · exact ⟨3, by decide, rfl⟩
  · rintro ⟨f, hf, rfl⟩
    have : f = 0 ∨ f = 1 ∨ f = 2 ∨ f = 3 := by omega
    rcases this with rfl | rfl | rfl | rfl <;> decide
theorem occ_fill (y : Nat) : (Builtin.Str.occurrences (Str.ofString "0123") (SX.S [y]) 0 (Str.ofString "0123").length 1).isEmpty = !decide (y ∈ [48, 49, 50, 51]) := by
  rw [str_0123s, ← SX.in_one, Bool.not_not]
theorem occ_fill_at {f : Nat} (h : f < 4) : Builtin.Str.occurrences (Str.ofString "0123") (SX.S [48 + f]) 0 (Str.ofString "0123").length 1 = [f] := by
  have : ∀ f < 4, Builtin.Str.occurrences (Str.ofString "0123") (SX.S [48 + f]) 0 (Str.ofString "0123").length 1 = [f] := by decide +kernel
  exact this f h
theorem OK.two {d0 : List Nat} {x y : Nat} {d : List Nat} {f : Nat} (h : OK (d0 ++ [x, y]) d f) : d0 = d ∧ x = 46 ∧ y = 48 + f := by
  have e := h.e
  have h1 := List.append_inj' e (by simp)
  obtain ⟨h2, h3⟩ := h1
  have h4 := List.cons.inj h3
  exact ⟨h2, h4.1, (List.cons.inj h4.2).1⟩
theorem OK.len2 {t d : List Nat} {f : Nat} (h : OK t d f) : 2 ≤ t.length := by
  rw [h.e]
  simp
def spBackL : Sp := fun vs H Q _ => ∃ (t : List Nat), vs = [.str (SX.S t)] ∧ t.length ≤ 200 ∧
  ((∃ d f, OK t d f ∧ ∀ (p : Addr) (H' : Hp), H p = none → Same H H' → H' p = some (.lst ((kept d f).map V.int)) → Q (.ref p) H') ∨ (¬ isOK t ∧ ∀ H', Same H H' → Q .non H'))
theorem ok_backL {f : Addr} {fd : FuncData} {k : Nat} (F : Fun K "_law_back" "_law_back" s_law_back f fd) (T : Txt mg) (c_law_hex : C8.Cal P w K mg base 1 "_law_hex" spHexL []) : FnOk P w K mg base CX0 (k + 2) f fd ["_law_text"] spBackL := by
  refine F.ok sc_law_back (fun vs H Q E h => ?_) (fun cdv A outer s H vs Q E hr h => ?_)
  · obtain ⟨t, rfl, _⟩ := h
    rfl
  · obtain ⟨t, rfl, ht, h⟩ := h
    refine ⟨_, (pss_cons (ps_if (PW.pt (pw_or (pt_cmpR op_lt (pe_callB call_len_str (by rfl) T.z_len PySem.boot_len (pa_cons (pv 0) pa_nil)) pe_int (nomark _)) (pw_or (pt_cmpR op_ne (pe_ix ix_str (pv 0) (pe_un un_neg pe_int) (fun _ _ => rfl)) pe_str (nomark _)) (pw_or1 (pt_cmpR op_notin_str (pe_ix ix_str (pv 0) (pe_un un_neg pe_int) (fun _ _ => rfl)) pe_str (by rfl)))))) (pss_one (ps_ret pe_non)) pss_nil)
    (pss_cons (ps_set (i := 1) sc_law_back.nd rfl (Or.inl rfl) (pe_lst pa_nil))
    (pss_cons (ps_for PassesOwn.never rfl (pi_str (pe_slice sl_str (pv 0) po_none (po_some (pe_un un_neg pe_int)))) (pg_name (i := 2) sc_law_back.nd rfl (Or.inl rfl))
      (pss_cons (ps_if (pt_cmpR op_notin_str (pv 2) pe_str (by rfl)) (pss_one (ps_ret pe_non)) pss_nil)
    (pss_cons (ps_set (i := 3) sc_law_back.nd rfl (Or.inl rfl) (pe_m1 PySem.F.slot_str_index PySem.F.type_str_index mt_sindex pe_str (pv 2)))
    (pss_one (ps_set (i := 1) sc_law_back.nd rfl (Or.inl rfl) (pe_op op_cat (pv 1) (pe_lst (pa_cons (pe_op op_fdiv (pv 3) pe_int) (pa_cons (pe_op op_mod (pe_op op_fdiv (pv 3) pe_int) pe_int) (pa_cons (pe_op op_mod (pe_op op_fdiv (pv 3) pe_int) pe_int) (pa_cons (pe_op op_mod (pv 3) pe_int) pa_nil)))))))))))
    (pss_cons (ps_set (i := 4) sc_law_back.nd rfl (Or.inl rfl) (pe_m1 PySem.F.slot_str_index PySem.F.type_str_index mt_sindex pe_str (pe_ix ix_str (pv 0) (pe_un un_neg pe_int) (fun _ _ => rfl))))
    (pss_cons (ps_if (pt_cmpR op_gt (pv 4) (pe_callB call_len_seq (by rfl) T.z_len PySem.boot_len (pa_cons (pv 1) pa_nil)) (nomark _)) (pss_one (ps_ret pe_non)) pss_nil)
    (pss_cons (ps_set (i := 5) sc_law_back.nd rfl (Or.inl rfl) (pe_slice sl_list (pv 1) po_none (po_some (pe_op op_sub (pe_callB call_len_seq (by rfl) T.z_len PySem.boot_len (pa_cons (pv 1) pa_nil)) (pv 4)))))
    (pss_one (ps_ret (pe_ifExp (pt_cmpR op_eq (C8.pe_c c_law_hex hr (by omega) (by rfl) (pa_cons (pv 5) pa_nil)) (pv 0) (nomark _)) (pv 5) pe_non))))))))), ?_⟩
    have hz : (SX.S t).length ≤ sizeLine := by
      rw [SX.S_len]
      exact Nat.le_of_lt (small1000 (by omega))
    walk_at "ev"
    refine ⟨hz, ?_⟩
    by_cases hl2 : 2 ≤ t.length
    case neg =>
      have hno : ¬ isOK t := fun ⟨d, f, ok⟩ => hl2 ok.len2
      have hl : (SX.S t).length < 2 := by rw [SX.S_len]; omega
      walk_at "ev"
      obtain ⟨d, f, ok, _⟩ | ⟨_, q⟩ := h
      · exact absurd ⟨d, f, ok⟩ hno
      · exact q H (Same.refl H)
    obtain ⟨d, x, y, rfl⟩ := snoc2 hl2
    have hl : 2 ≤ (SX.S (d ++ [x, y])).length := by rw [SX.S_len]; exact hl2
    walk_at "ev"
    refine ⟨_, _, x, rfl, rfl, hz, at_m2 d x y, ?_⟩
    have one : ∀ c : Nat, ({ cps := #[c] } : Str) = SX.S [c] := fun _ => rfl
    have hof := occ_fill y
    by_cases hx : x = 46
    case neg =>
      have hno : ¬ isOK (d ++ [x, y]) := fun ⟨d', f, ok⟩ => hx ok.two.2.1
      have hne : V.str { cps := #[x] } ≠ V.str (Str.ofString ".") := fun z => by
        have z2 := V.str.inj z
        rw [one, dotS] at z2
        exact hx (List.cons.inj (SX.S_inj z2)).1
      walk_at "ev"
      · obtain ⟨d, f, ok, _⟩ | ⟨_, q⟩ := h
        · exact absurd ⟨d, f, ok⟩ hno
        · exact q H (Same.refl H)
      · rename_i hc
        exact absurd hne hc
    subst hx
    have heq : V.str { cps := #[46] } = V.str (Str.ofString ".") := by rw [dotS]
    walk_at "ev"
    refine ⟨_, _, y, rfl, rfl, hz, at_m1 d 46 y, ?_⟩
    have hld : d.length + 2 ≤ 200 := by
      rw [List.length_append] at ht
      exact ht
    by_cases hy : y ∈ [48, 49, 50, 51]
    case neg =>
      have hno : ¬ isOK (d ++ [46, y]) := fun ⟨d', f, ok⟩ => hy (mem_fill.mpr ⟨f, ok.f4, ok.two.2.2⟩)
      rw [decide_eq_false hy] at hof
      walk_at "ev"
      · obtain ⟨d, f, ok, _⟩ | ⟨_, q⟩ := h
        · exact absurd ⟨d, f, ok⟩ hno
        · exact q H (Same.refl H)
      · rename_i hc
        rw [one, hof] at hc
        cases hc
    rw [decide_eq_true hy] at hof
    obtain ⟨f, f4, rfl⟩ := mem_fill.mp hy
    walk_at "ev"
    · rename_i hc
      rw [one, hof] at hc
      cases hc
    refine ⟨(by show 0 ≤ sizeLine; decide), fun D nD => ?_⟩
    walk_at "ev"
    refine ⟨hz, ?_⟩
    rw [cut_m2]
    walk_at "ev"
    refine for_it (walk_str (z := SX.S d)) (fun i σ H1 => ∃ p v2 v3, σ = [some (.str (SX.S (d ++ [46, 48 + f]))), some (.ref p), v2, v3, none, none] ∧ Same H H1 ∧ H p = none ∧ H1 p = some (.lst ((nibs (d.take i)).map V.int)) ∧ ∀ c ∈ d.take i, c ∈ hexC) ⟨D, _, _, rfl, same_upd nD, nD, upd_same, fun _ m => absurd m List.not_mem_nil⟩ (fun _ _ _ _ _ => trivial) ?_ ?_
    · rintro i x σ H1 H2 hi ⟨p, v2, v3, rfl, s1, np, e1, hx⟩ ⟨rfl, c, hc, rfl⟩
      have hc2 : d[i]? = some c := by
        rw [← List.getElem?_toArray]
        exact hc
      have hoc := occ_in c
      walk_at "ev"
      · rename_i hcc
        rw [one, hoc] at hcc
        have hn : c ∉ hexC := by simpa using hcc
        obtain ⟨d', f', ok, _⟩ | ⟨_, q⟩ := h
        · obtain ⟨rfl, _⟩ := ok.two
          exact absurd (ok.hx c (List.mem_of_getElem? hc2)) hn
        · exact q _ s1
      · rename_i hcc
        rw [one, hoc] at hcc
        have hm : c ∈ hexC := by simpa using hcc
        have hv := hvl_lt hm
        refine ⟨⟨_, rfl⟩, ?_⟩
        walk_at "ev"
        refine ⟨_, _, hvl c, [], rfl, rfl, (by rw [str_hexC]; exact occ_hex hm), ?_⟩
        walk_at "ev"
        refine ⟨(by show 4 ≤ sizeLine; decide), fun p2 n2 => ?_⟩
        have hm4 : (nibs (d.take i)).length ≤ 800 := by
          rw [nibs_len, List.length_take]
          omega
        refine ⟨p, p2, _, _, rfl, rfl, new_at e1 n2, upd_same, Nat.le_of_lt (small1000 (by rw [List.length_map]; show _ + 4 ≤ _; omega)), fun p3 n3 => ?_⟩
        have s3 := s1.trans ((same_upd (o := .lst [V.int ((hvl c : Int) / 8), .int ((hvl c : Int) / 4 % 2), .int ((hvl c : Int) / 2 % 2), .int ((hvl c : Int) % 2)]) n2).trans (same_upd (o := .lst ((nibs (d.take i)).map V.int ++ [V.int ((hvl c : Int) / 8), .int ((hvl c : Int) / 4 % 2), .int ((hvl c : Int) / 2 % 2), .int ((hvl c : Int) % 2)])) n3))
        refine ⟨p3, _, _, rfl, s3, (s1.trans (same_upd n2)).free n3, ?_, ?_⟩
        · rw [upd_same, ← take_snoc hc2, nibs_app, List.map_append]
          show _ = some (HO.lst (_ ++ List.map V.int (bitsI 4 (hvl c) ++ [])))
          rw [nib4 hv]
          rfl
        · intro y my
          rw [← take_snoc hc2] at my
          rcases List.mem_append.mp my with z | z
          · exact hx y z
          · rw [List.mem_singleton.mp z]
            exact hm
    · rintro σ H1 ⟨p, v2, v3, rfl, s1, np, e1, hx⟩
      have eN : (SX.S d).cps.size = d.length := by show d.toArray.size = d.length; rw [List.size_toArray]
      rw [eN, List.take_length] at e1 hx
      have hl1 : ((nibs d).map V.int).length = 4 * d.length := by rw [List.length_map, nibs_len]
      walk_at "ev"
      refine ⟨⟨_, rfl⟩, ?_⟩
      walk_at "ev"
      refine ⟨_, _, 48 + f, rfl, rfl, hz, at_m1 d 46 (48 + f), ?_⟩
      refine ⟨_, _, f, [], rfl, rfl, occ_fill_at f4, ?_⟩
      walk_at "ev"
      · rename_i hneg
        obtain ⟨d', f', ok, _⟩ | ⟨_, q⟩ := h
        · obtain ⟨rfl, _, h3⟩ := ok.two
          have h4 : f = f' := by omega
          subst h4
          have := ok.le
          omega
        · exact q _ s1
      rename_i hneg
      have le : f ≤ 4 * d.length := by omega
      refine ⟨p, _, rfl, .inl (.inl e1), fun p1 n1 => ?_⟩
      have hcut : cutV ((nibs d).map V.int) none (some ((((nibs d).map V.int).length : Int) - (f : Int))) = (kept d f).map V.int := by
        rw [cut_to (k := 4 * d.length - f) (by omega) (by omega), ← List.map_take]
        rfl
      rw [hcut]
      have sK := s1.trans (same_upd (o := .lst ((kept d f).map V.int)) n1)
      walk_at "ev"
      refine ⟨p1, kept d f, rfl, upd_same, kept_bits d f, by rw [kept_len]; omega, fun H3 s3 => ?_⟩
      have sF := sK.trans s3
      have eF := s3 _ _ (upd_same (H := H1) (a := p1) (o := .lst ((kept d f).map V.int)))
      by_cases hk : hexS (kept d f) = d ++ [46, 48 + f]
      · have ok0 : OK (d ++ [46, 48 + f]) d f := ⟨rfl, f4, hx, le, (hexS_kept f4 hx le).mp hk⟩
        rw [hk]
        walk_at "ev"
        obtain ⟨d', f', ok, q⟩ | ⟨n, _⟩ := h
        case inr => exact absurd ⟨d, f, ok0⟩ n
        obtain ⟨rfl, _, h3⟩ := ok.two
        have h4 : f = f' := by omega
        subst h4
        exact q p1 H3 (s1.free n1) sF eF
      · have hno : ¬ isOK (d ++ [46, 48 + f]) := fun ⟨d', f', ok⟩ => by
          obtain ⟨rfl, _, h3⟩ := ok.two
          have h4 : f = f' := by omega
          subst h4
          exact hk ok.hexS
        have hne : V.str (SX.S (hexS (kept d f))) ≠ V.str (SX.S (d ++ [46, 48 + f])) := fun z => hk (SX.S_inj (V.str.inj z))
        walk_at "ev"
        · rename_i hc
          exact absurd hc hne
        · obtain ⟨d, f, ok, _⟩ | ⟨_, q⟩ := h
          · exact absurd ⟨d, f, ok⟩ hno
          · exact q _ sF
/-! ### what bits_of tells of a text -/
def spWord4 : Sp := fun vs H Q _ => ∃ (t : List Nat), vs = [.str (SX.S t)] ∧ t.length ≤ 200 ∧
  ((∃ d f, OK t d f ∧ ∀ (q p : Addr) (H' : Hp), H q = none → Same H H' → H' q = some (.tup [.str "told", .ref p]) → H' p = some (.lst ((kept d f).map V.int)) → Q (.ref q) H') ∨
    (¬ isOK t ∧ ∀ (q : Addr) (H' : Hp), H q = none → Same H H' → H' q = some (.tup [.str "text", .int 0, .bl true, .bl false]) → Q (.ref q) H'))
theorem ok_word4 {f BT N B fX : Addr} {fd fdX : FuncData} {k : Nat} (F : Fun K "_law_word" "_law_word" s_law_word f fd) (T : Txt mg) (x : XDef P w K mg base "BadText" "row" BT) (gN : mg "NarrowError" = some (.ref N)) (gB : mg "BadBits" = some (.ref B)) (oN : PySem.W.kitOne K (.ref BT) (.ref N) = some true) (oB : PySem.W.kitOne K (.ref BT) (.ref B) = some false)
    (GX : FnOk P w K mg base (L2.CX P w) 4 fX fdX ["text"] (spBitsOf BT)) (gX : mg "bits_of" = some (.ref fX)) (kX : PySem.W.keepIn K (.ref fX) = true) (bX : Binds K fdX ["text"] []) : FnOk P w K mg base CX0 (k + 5) f fd ["_law_text"] spWord4 := by
  refine F.ok sc_law_word (fun vs H Q E h => ?_) (fun cdv A outer s H vs Q E hr h => ?_)
  · obtain ⟨t, rfl, _⟩ := h
    rfl
  · obtain ⟨t, rfl, ht, h⟩ := h
    refine ⟨_, pss_cons (ps_try_as (i := 2) rfl rfl sc_law_word.nd rfl rfl ⟨rfl, by decide, .inl x.gC⟩ takes0
        (fun W pn xe tk _ => pss_one (ps_set (i := 1) sc_law_word.nd rfl (Or.inl rfl) (pe_tup (pa_cons pe_str (pa_cons (pe_callS GX (hr.mono (by omega)) (by rfl) gX kX bX (fun σ => passAt tk σ) (pa_cons (pv 0) pa_nil)) pa_nil)))))
        (fun a oe cls d pn hz hf => pss_one (ps_set (i := 1) sc_law_word.nd rfl (Or.inl rfl) (pe_tup (pa_cons pe_str (pa_cons (pe_xf x.xf x.no hz hf (pv 2))
          (pa_cons (pe_callB (call_isEd x.isx hz hf) (by rfl) T.z_isinstance PyProof.Rows.boot_isinstance (pa_cons (pv 2) (pa_cons (pe_glob (v := .ref N) (by rfl) gN rfl) pa_nil)))
          (pa_cons (pe_callB (call_isEd x.isx hz hf) (by rfl) T.z_isinstance PyProof.Rows.boot_isinstance (pa_cons (pv 2) (pa_cons (pe_glob (v := .ref B) (by rfl) gB rfl) pa_nil))) pa_nil))))))))
      (pss_one (ps_ret (pv 1))), ?_⟩
    walk_at "ev"
    refine ⟨ht, ?_⟩
    obtain ⟨d, f, ok, q⟩ | ⟨hno, q⟩ := h
    · refine .inl ⟨d, f, ok, fun p H1 np s1 e1 => ?_⟩
      refine ⟨(by show 2 ≤ sizeLine; decide), fun r nr => ?_⟩
      walk_at "ev"
      exact q r p _ (s1.free nr) (s1.trans (same_upd nr)) upd_same (new_at e1 nr)
    · refine .inr ⟨hno, fun dd H1 nd s1 e1 => ?_⟩
      refine ⟨true, x.em, fun _ a0 _ => ?_, fun z => nomatch z⟩
      walk_at "ev"
      refine ⟨dd, _, _, rfl, e1, rfl, ?_⟩
      walk_at "ev"
      refine ⟨⟨dd, _, rfl, e1⟩, _, .ref N, true, rfl, fun _ z => z, oN, ?_⟩
      walk_at "ev"
      refine ⟨⟨dd, _, rfl, e1⟩, _, .ref B, false, rfl, fun _ z => z, oB, ?_⟩
      refine ⟨(by show 4 ≤ sizeLine; decide), fun r nr => ?_⟩
      walk_at "ev"
      exact q r _ (s1.free nr) (s1.trans (same_upd nr)) upd_same
/-! ### a bent text -/
theorem app_len (x y : Str) : (x ++ y).length = x.length + y.length := by
  rw [← SX.S_tl x, ← SX.S_tl y, SX.S_cat, SX.S_len, SX.S_len, SX.S_len, List.length_append]
theorem cut_len (x : Str) (lo hi : Option Int) : (cutS x lo hi).length ≤ x.length := by
  show (((x.cps.toList.drop _).take _).toArray).size ≤ x.cps.size
  rw [List.size_toArray, List.length_take, List.length_drop, Array.length_toList]
  omega
def spBent : Sp := fun vs H Q _ => ∃ (a : Addr) (t : List Nat), vs = [.ref a, .str (SX.S t)] ∧ Src H a ∧ t.length ≤ 90 ∧ ∀ (z : List Nat) (H' : Hp), z.length ≤ 200 → Src H' a → Up a H H' → Q (.str (SX.S z)) H'
theorem ok_bent {f : Addr} {fd : FuncData} {k : Nat} (F : Fun K "_law_bent" "_law_bent" s_law_bent f fd) (T : Txt mg) (c_law_take : C8.Cal P w K mg base 1 "_law_take" spTake []) (c_law_one : C8.Cal P w K mg base 2 "_law_one" spOne []) : FnOk P w K mg base CX0 (k + 3) f fd ["_law_source", "_law_text"] spBent := by
  refine F.ok sc_law_bent (fun vs H Q E h => ?_) (fun cdv A outer s H vs Q E hr h => ?_)
  · obtain ⟨a, t, rfl, _⟩ := h
    rfl
  · obtain ⟨a, t, rfl, ha, ht, q⟩ := h
    refine ⟨_, (pss_cons (ps_set (i := 2) sc_law_bent.nd rfl (Or.inl rfl) (pe_lst (pa_cons pe_str (pa_cons pe_str (pa_cons pe_str (pa_cons pe_str (pa_cons pe_str (pa_cons pe_str (pa_cons pe_str (pa_cons pe_str (pa_cons pe_str (pa_cons pe_str (pa_cons pe_str (pa_cons pe_str (pa_cons pe_str (pa_cons pe_str pa_nil))))))))))))))))
    (pss_cons (ps_par (i := 3) (j := 4) rfl sc_law_bent.nd rfl rfl (by decide) rfl rfl (pa_cons (C8.pe_c c_law_take hr (by omega) (by rfl) (pa_cons (pv 0) (pa_cons (pe_op op_add (pe_callB call_len_str (by rfl) T.z_len PySem.boot_len (pa_cons (pv 1) pa_nil)) pe_int) pa_nil))) (pa_cons (C8.pe_c c_law_one hr (by omega) (by rfl) (pa_cons (pv 0) (pa_cons (pv 2) pa_nil))) pa_nil)) rfl)
    (pss_cons (ps_set (i := 5) sc_law_bent.nd rfl (Or.inl rfl) (C8.pe_c c_law_take hr (by omega) (by rfl) (pa_cons (pv 0) (pa_cons pe_int pa_nil))))
    (pss_cons (ps_if (pt_cmpR op_eq (pv 5) pe_int (nomark _)) (pss_one (ps_ret (pe_op op_add_str (pe_op op_add_str (pe_slice sl_str (pv 1) po_none (po_some (pv 3))) (pv 4)) (pe_slice sl_str (pv 1) (po_some (pv 3)) po_none)))) pss_nil)
    (pss_cons (ps_if (pt_cmpR op_eq (pv 5) pe_int (nomark _)) (pss_one (ps_ret (pe_op op_add_str (pe_slice sl_str (pv 1) po_none (po_some (pv 3))) (pe_slice sl_str (pv 1) (po_some (pe_op op_add (pv 3) pe_int)) po_none)))) pss_nil)
    (pss_cons (ps_if (pt_cmpR op_eq (pv 5) pe_int (nomark _)) (pss_one (ps_ret (pe_op op_add_str (pe_op op_add_str (pe_slice sl_str (pv 1) po_none (po_some (pv 3))) (pv 4)) (pe_slice sl_str (pv 1) (po_some (pe_op op_add (pv 3) pe_int)) po_none)))) pss_nil)
    (pss_cons (ps_if (pt_cmpR op_eq (pv 5) pe_int (nomark _)) (pss_one (ps_ret (pe_op op_add_str (pe_slice sl_str (pv 1) po_none (po_some (pe_un un_neg pe_int))) (C8.pe_c c_law_one hr (by omega) (by rfl) (pa_cons (pv 0) (pa_cons (pe_lst (pa_cons pe_str (pa_cons pe_str (pa_cons pe_str (pa_cons pe_str (pa_cons pe_str (pa_cons pe_str (pa_cons pe_str (pa_cons pe_str (pa_cons pe_str (pa_cons pe_str pa_nil))))))))))) pa_nil)))))) pss_nil)
    (pss_cons (ps_set (i := 6) sc_law_bent.nd rfl (Or.inl rfl) (pe_lst (pa_cons (pe_op op_add_str (pe_op op_add_str (pv 1) pe_str) (pv 4)) (pa_cons (pe_slice sl_str (pv 1) po_none (po_some (pe_un un_neg pe_int))) (pa_cons (pe_op op_add_str pe_str (pv 1)) (pa_cons (pe_op op_add_str pe_str (pv 1)) (pa_cons (pe_op op_add_str (pv 1) pe_str) pa_nil)))))))
    (pss_one (ps_ret (C8.pe_c c_law_one hr (by omega) (by rfl) (pa_cons (pv 0) (pa_cons (pe_op op_cat (pe_lst (pa_cons pe_str (pa_cons pe_str (pa_cons pe_str (pa_cons pe_str (pa_cons pe_str pa_nil)))))) (pv 6)) pa_nil))))))))))))), ?_⟩
    have hz : (SX.S t).length ≤ sizeLine := by
      rw [SX.S_len]
      exact Nat.le_of_lt (small1000 (by omega))
    have hzl : (SX.S t).length ≤ 90 := by rw [SX.S_len]; exact ht
    have q' : ∀ (y : Str) (H' : Hp), y.length ≤ 200 → Src H' a → Up a H H' → Q (.str y) H' := fun y H' hy s u => by
      rw [← SX.S_tl y]
      refine q _ H' ?_ s u
      rw [Array.length_toList]
      exact hy
    have sz : ∀ {n : Nat}, n ≤ 1000 → n ≤ sizeLine := fun h => Nat.le_of_lt (small1000 h)
    generalize SX.S t = w at hz hzl ⊢
    refine ⟨(by show 14 ≤ sizeLine; decide), fun L nL => ?_⟩
    have La : L ≠ a := (ha.ne nL).symm
    have s0 := fun o => src_same (same_upd (o := o) nL) ha
    have u0 := fun o => up_same (a := a) (same_upd (o := o) nL)
    walk_at "ev"
    refine ⟨hz, ?_⟩
    walk_at "ev"
    refine ⟨s0 _, by omega, by omega, fun r1 H1 r10 r11 s1 u1 => ?_⟩
    walk_at "ev"
    refine ⟨a, L, _, rfl, s1, La, u1.up _ _ La upd_same, (by simp), (by show 14 ≤ 1000; decide), fun v H2 hv s2 u2 => ?_⟩
    obtain ⟨sg, hsg, rfl⟩ := List.mem_map.mp (show v ∈ List.map V.str ["0", "1", "2", "3", "4", "8", "f", "g", "A", "F", ".", " ", "-", "x"] from hv)
    have hsl : sg.length ≤ 1 := (by decide +kernel : ∀ y ∈ (["0", "1", "2", "3", "4", "8", "f", "g", "A", "F", ".", " ", "-", "x"] : List Str), y.length ≤ 1) sg hsg
    have uA : Up a H H2 := (u0 _).trans (u1.up.trans u2.up)
    walk_at "ev"
    refine ⟨s2, by decide, by decide, fun r2 H3 r20 r21 s3 u3 => ?_⟩
    have uB := uA.trans u3.up
    have k1 := cut_len w none (some r1)
    have k2 := cut_len w (some r1) none
    have k3 := cut_len w (some (r1 + 1)) none
    have k4 := cut_len w none (some (-1))
    have k5 := cut_len w none (some (-2))
    walk_at "ev"
    · refine ⟨hz, ?_⟩
      walk_at "ev"
      refine ⟨sz (by omega), ?_⟩
      walk_at "ev"
      refine ⟨hz, ?_⟩
      refine ⟨_, _, rfl, rfl, sz (by rw [app_len]; omega), ?_⟩
      exact q' _ _ (by rw [app_len, app_len]; omega) s3 uB
    · refine ⟨hz, ?_⟩
      walk_at "ev"
      refine ⟨hz, ?_⟩
      refine ⟨_, _, rfl, rfl, sz (by omega), ?_⟩
      exact q' _ _ (by rw [app_len]; omega) s3 uB
    · refine ⟨hz, ?_⟩
      walk_at "ev"
      refine ⟨sz (by omega), ?_⟩
      walk_at "ev"
      refine ⟨hz, ?_⟩
      refine ⟨_, _, rfl, rfl, sz (by rw [app_len]; omega), ?_⟩
      exact q' _ _ (by rw [app_len, app_len]; omega) s3 uB
    · refine ⟨hz, ?_⟩
      walk_at "ev"
      refine ⟨(by show 10 ≤ sizeLine; decide), fun L2 nL2 => ?_⟩
      refine ⟨a, L2, _, rfl, src_same (same_upd nL2) s3, (s3.ne nL2).symm, upd_same, (by simp), (by show 10 ≤ 1000; decide), fun v2 H4 hv2 s4 u4 => ?_⟩
      obtain ⟨y, hy, rfl⟩ := List.mem_map.mp (show v2 ∈ List.map V.str ["0", "1", "2", "3", "4", "", "00", "01", "1.", " "] from hv2)
      have hyl : y.length ≤ 2 := (by decide +kernel : ∀ y ∈ (["0", "1", "2", "3", "4", "", "00", "01", "1.", " "] : List Str), y.length ≤ 2) y hy
      refine ⟨_, _, rfl, rfl, sz (by omega), ?_⟩
      exact q' _ _ (by rw [app_len]; omega) s4 (uB.trans ((up_same (same_upd nL2)).trans u4.up))
    · have d1 : (Str.ofString "." : Str).length = 1 := by decide +kernel
      have d2 : (Str.ofString ".0" : Str).length = 2 := by decide +kernel
      have d3 : (Str.ofString " " : Str).length = 1 := by decide +kernel
      refine ⟨sz (by omega), ?_⟩
      walk_at "ev"
      refine ⟨sz (by rw [app_len]; omega), ?_⟩
      walk_at "ev"
      refine ⟨hz, ?_⟩
      walk_at "ev"
      refine ⟨sz (by omega), ?_⟩
      walk_at "ev"
      refine ⟨sz (by omega), ?_⟩
      walk_at "ev"
      refine ⟨sz (by omega), ?_⟩
      walk_at "ev"
      refine ⟨(by show 5 ≤ sizeLine; decide), fun L2 nL2 => ?_⟩
      walk_at "ev"
      refine ⟨(by show 5 ≤ sizeLine; decide), fun L3 nL3 => ?_⟩
      walk_at "ev"
      refine ⟨L3, L2, _, _, rfl, rfl, upd_same, new_at upd_same nL3, (by show 5 + 5 ≤ sizeLine; decide), fun L4 nL4 => ?_⟩
      have sC := ((same_upd (o := .lst [V.str (w ++ "." ++ sg), V.str (cutS w none (some (-2))), V.str ("." ++ w), V.str (".0" ++ w), V.str (w ++ " ")]) nL2).trans (same_upd (o := .lst [V.str "", V.str ".", V.str ".1", V.str "0", V.str "0."]) nL3))
      have sD := fun o => sC.trans (same_upd (o := o) nL4)
      refine ⟨a, L4, _, rfl, src_same (sD _) s3, ((src_same sC s3).ne nL4).symm, upd_same, (by simp), (by show 10 ≤ 1000; decide), fun v2 H4 hv2 s4 u4 => ?_⟩
      obtain ⟨y, hy, rfl⟩ := List.mem_map.mp (show v2 ∈ List.map V.str ["", ".", ".1", "0", "0.", w ++ "." ++ sg, cutS w none (some (-2)), "." ++ w, ".0" ++ w, w ++ " "] from hv2)
      have hyl : y.length ≤ 200 := by
        simp only [List.mem_cons, List.not_mem_nil, or_false] at hy
        rcases hy with rfl | rfl | rfl | rfl | rfl | rfl | rfl | rfl | rfl | rfl
        · decide +kernel
        · decide +kernel
        · decide +kernel
        · decide +kernel
        · decide +kernel
        · rw [app_len, app_len]
          omega
        · omega
        · rw [app_len]
          omega
        · rw [app_len]
          omega
        · rw [app_len]
          omega
      exact q' _ _ hyl s4 (uB.trans ((up_same (sD _)).trans u4.up))
/-! ### bits that are no bits -/
def spRef4 : Sp := fun vs H Q _ => ∃ (p : Addr), vs = [.ref p] ∧ BadAt H p ∧ ∀ H', Same H H' → Q (.bl true) H'
theorem ok_ref4 {f BT N B fX : Addr} {fd fdX : FuncData} {k : Nat} (F : Fun K "_law_is_refused" "_law_is_refused" s_law_is_refused f fd) (T : Txt mg) (e : ECls K mg "BadBits" B) (gN : mg "NarrowError" = some (.ref N)) (gT : mg "BadText" = some (.ref BT)) (oN : PySem.W.kitOne K (.ref B) (.ref N) = some true) (oT : PySem.W.kitOne K (.ref B) (.ref BT) = some false)
    (GX : FnOk P w K mg base (L2.CX P w) 3 fX fdX ["bits"] (spHexOf B)) (gX : mg "hex_of" = some (.ref fX)) (kX : PySem.W.keepIn K (.ref fX) = true) (bX : Binds K fdX ["bits"] []) : FnOk P w K mg base CX0 (k + 4) f fd ["_law_bits_here"] spRef4 := by
  refine F.ok sc_law_is_refused (fun vs H Q E h => ?_) (fun cdv A outer s H vs Q E hr h => ?_)
  · obtain ⟨p, rfl, _⟩ := h
    rfl
  · obtain ⟨p, rfl, hb, q⟩ := h
    refine ⟨_, pss_cons (ps_set (i := 1) sc_law_is_refused.nd rfl (Or.inl rfl) pe_bl) (pss_cons (ps_try_as (i := 2) rfl rfl sc_law_is_refused.nd rfl rfl ⟨rfl, by decide, .inl e.gC⟩ takes0
        (fun W pn xe tk _ => pss_one (ps_expr (pe_callS GX (hr.mono (by omega)) (by rfl) gX kX bX (fun σ => passAt tk σ) (pa_cons (pv 0) pa_nil))))
        (fun a oe cls d pn hz hf => pss_one (ps_set (i := 1) sc_law_is_refused.nd rfl (Or.inl rfl) (pe_and (pe_callB (call_isE1 e.ex hz hf) (by rfl) T.z_isinstance PyProof.Rows.boot_isinstance (pa_cons (pv 2) (pa_cons (pe_glob (v := .ref N) (by rfl) gN rfl) pa_nil)))
          (pe_one (pe_not (pe_callB (call_isE1 e.ex hz hf) (by rfl) T.z_isinstance PyProof.Rows.boot_isinstance (pa_cons (pv 2) (pa_cons (pe_glob (v := .ref BT) (by rfl) gT rfl) pa_nil)))))))))
      (pss_one (ps_ret (pv 1)))), ?_⟩
    walk_at "ev"
    refine .inr ⟨hb, true, e.em, fun _ a0 _ => ?_, fun z => nomatch z⟩
    walk_at "ev"
    refine ⟨_, .ref N, true, rfl, fun _ z => z, oN, ?_⟩
    walk_at "ev"
    refine ⟨_, .ref BT, false, rfl, fun _ z => z, oT, ?_⟩
    walk_at "ev"
    exact q H (Same.refl H)
/-! ### the law -/
theorem bad_here {H : Hp} {p : Addr} {bs : List Int} {r : Nat} {v : V} (hb : AreBits bs) (hr : r ≤ bs.length) (hp : H p = some (.lst ((bs.map V.int).take r ++ [v] ++ (bs.map V.int).drop r))) (hv : BadV H v) : BadAt H p := by
  have hl : ((bs.map V.int).take r).length = r := by rw [List.length_take, List.length_map]; omega
  refine ⟨_, r, v, hp, ?_, hv, fun i hi => ?_⟩
  · rw [List.append_assoc, List.getElem?_append_right (by omega), hl, Nat.sub_self]
    rfl
  · obtain ⟨z, hz⟩ : ∃ z, bs[i]? = some z := ⟨bs[i]'(by omega), List.getElem?_eq_getElem (by omega)⟩
    refine ⟨z, ?_, hb z (List.mem_of_getElem? hz)⟩
    rw [List.append_assoc, List.getElem?_append_left (by omega), List.getElem?_take_of_lt hi, List.getElem?_map, hz]
    rfl
theorem hexS_len {bs : List Int} (hb : AreBits bs) (hl : bs.length ≤ 200) : (hexS bs).length ≤ 53 := by
  obtain ⟨m, hm⟩ := fil_four bs.length
  have hf := fil_lt bs.length
  have hq := (nibs_quads m (padB_bits hb) (by rw [padB_len, hm])).2.1
  unfold hexS
  rw [List.length_append, List.length_map, hq]
  show m + 2 ≤ 53
  omega
def tupT : HO := .tup [.str "text", .int 0, .bl true, .bl false]
theorem sh_told4 (xs : List Int) : SeqAt.shaped (.tuple [.str "told", .list (xs.map PyData.int)]) = true := (shd_tup (n := 1) fun d m => by
  rcases List.mem_cons.mp m with rfl | m
  · exact shd_str (by decide +kernel)
  · rw [List.mem_singleton.mp m]
    exact shd_ints (n := 0) _).sh (by decide)
theorem sh_text : SeqAt.shaped (.tuple [.str "text", .int 0, .bool true, .bool false]) = true := by decide +kernel
def spLaw (K : PySem.W.Frag) : Sp := fun vs H Q _ => ∃ (a : Addr) (ns : List Int), vs = [.ref a] ∧ SqL K H a (ns.map V.int) ∧ ns.length ≤ 63 ∧ ∀ H', Q (.bl true) H'
theorem ok_law {f B BT fX fY : Addr} {fd fdX fdY : FuncData} {k : Nat} (F : Fun K "law" "law" s_law f fd) (T : Txt mg)
    (c_law_pool : C8.Cal P w K mg base 1 "_law_pool" (spPool K) []) (c_law_take : C8.Cal P w K mg base 1 "_law_take" spTake []) (c_law_one : C8.Cal P w K mg base 2 "_law_one" spOne []) (c_law_bits : C8.Cal P w K mg base 2 "_law_bits" spBits []) (c_law_hex : C8.Cal P w K mg base 1 "_law_hex" spHexL []) (c_law_are_bits : C8.Cal P w K mg base 1 "_law_are_bits" spAreBits [])
    (c_law_bent : C8.Cal P w K mg base 3 "_law_bent" spBent []) (c_law_back : C8.Cal P w K mg base 2 "_law_back" spBackL []) (c_law_word : C8.Cal P w K mg base 5 "_law_word" spWord4 []) (c_law_is_refused : C8.Cal P w K mg base 4 "_law_is_refused" spRef4 [])
    (G_hex_of : FnOk P w K mg base (L2.CX P w) 3 fX fdX ["bits"] (spHexOf B)) (g_hex_of : mg "hex_of" = some (.ref fX)) (k_hex_of : PySem.W.keepIn K (.ref fX) = true) (b_hex_of : Binds K fdX ["bits"] []) (kb_hex_of : KBn K fdX ["bits"] 0 ["bits"] (fun _ ws => ws) (fun _ zs => zs))
    (G_bits_of : FnOk P w K mg base (L2.CX P w) 4 fY fdY ["text"] (spBitsOf BT)) (g_bits_of : mg "bits_of" = some (.ref fY)) (k_bits_of : PySem.W.keepIn K (.ref fY) = true) (b_bits_of : Binds K fdY ["text"] []) (kb_bits_of : KBn K fdY ["text"] 0 ["text"] (fun _ ws => ws) (fun _ zs => zs)) :
    FnOk P w K mg base CX0 (k + 6) f fd ["_law_script"] (spLaw K) := by
  refine F.ok sc_law (fun vs H Q E h => ?_) (fun cdv A outer s H vs Q E hr h => ?_)
  · obtain ⟨a, ns, rfl, _⟩ := h
    rfl
  · obtain ⟨a, ns, rfl, hS, hl, q⟩ := h
    have hu := hr.units
    refine ⟨_, (pss_cons (ps_for PassesOwn.never rfl (pi_range1 (by rfl) T.z_range (pa_cons (pe_callB (call_max2 rfl) (by rfl) T.z_max PyProof.Rows.boot_max (pa_cons pe_int (pa_cons (pe_callB (call_min2 rfl) (by rfl) T.z_min PyProof.Rows.boot_min (pa_cons (pe_callB call_len_seq (by rfl) T.z_len PySem.boot_len (pa_cons (pv 0) pa_nil)) (pa_cons pe_int pa_nil))) pa_nil))) pa_nil)) (pg_name (i := 1) sc_law.nd rfl (Or.inl rfl))
      (pss_cons (ps_set (i := 2) sc_law.nd rfl (Or.inl rfl) (C8.pe_c c_law_pool hr (by omega) (by rfl) (pa_cons (pv 0) (pa_cons (pv 1) pa_nil))))
    (pss_cons (ps_set (i := 3) sc_law.nd rfl (Or.inl rfl) (C8.pe_c c_law_bits hr (by omega) (by rfl) (pa_cons (pv 2) (pa_cons pe_int pa_nil))))
    (pss_cons (ps_par (i := 4) (j := 5) rfl sc_law.nd rfl rfl (by decide) rfl rfl (pa_cons (pe_callTy call_list_of (by rfl) T.z_list PyProof.Rows.boot_list (pa_cons (pv 3) pa_nil)) (pa_cons (C8.pe_c c_law_hex hr (by omega) (by rfl) (pa_cons (pv 3) pa_nil)) pa_nil)) rfl)
    (pss_cons (ps_if (PW.pt (pw_or (pt_cmpR op_ne (pe_call G_hex_of (hr.mono (by omega)) (by rfl) g_hex_of k_hex_of b_hex_of .nil passN (pa_cons (pv 3) pa_nil)) (pv 5) (nomark _)) (pw_or (pt_cmpR (op_neD hu) (pv 3) (pv 4) (nomark _)) (pw_or (pt_not (pt_val (C8.pe_c c_law_are_bits hr (by omega) (by rfl) (pa_cons (pe_call G_bits_of (hr.mono (by omega)) (by rfl) g_bits_of k_bits_of b_bits_of .nil passN (pa_cons (pv 5) pa_nil)) pa_nil)))) (pw_or1 (pt_cmpR (op_neD hu) (pe_call G_bits_of (hr.mono (by omega)) (by rfl) g_bits_of k_bits_of b_bits_of .nil passN (pa_cons (pv 5) pa_nil)) (pv 4) (nomark _))))))) (pss_one (ps_ret pe_bl)) pss_nil)
    (pss_cons (ps_for PassesOwn.never rfl (pi_range1 (by rfl) T.z_range (pa_cons pe_int pa_nil)) (pg_name (i := 6) sc_law.nd rfl (Or.inl rfl))
      (pss_cons (ps_set (i := 7) sc_law.nd rfl (Or.inl rfl) (C8.pe_c c_law_bent hr (by omega) (by rfl) (pa_cons (pv 2) (pa_cons (pv 5) pa_nil))))
    (pss_cons (ps_set (i := 8) sc_law.nd rfl (Or.inl rfl) (C8.pe_c c_law_back hr (by omega) (by rfl) (pa_cons (pv 7) pa_nil)))
    (pss_one (ps_if (pt_cmpR (op_neD hu) (C8.pe_c c_law_word hr (by omega) (by rfl) (pa_cons (pv 7) pa_nil)) (pe_ifExp (pt_cmpR op_isN (pv 8) pe_non (nomark _)) (pe_tup (pa_cons pe_str (pa_cons pe_int (pa_cons pe_bl (pa_cons pe_bl pa_nil))))) (pe_tup (pa_cons pe_str (pa_cons (pv 8) pa_nil)))) (nomark _)) (pss_one (ps_ret pe_bl)) pss_nil)))))
    (pss_cons (ps_expr (pe_bm PySem.F.plainAttrs_list PySem.F.slot_list_insert PySem.F.type_list_insert mt_insert (pv 3) (pa_cons (C8.pe_c c_law_take hr (by omega) (by rfl) (pa_cons (pv 2) (pa_cons (pe_op op_add (pe_callB call_len_seq (by rfl) T.z_len PySem.boot_len (pa_cons (pv 3) pa_nil)) pe_int) pa_nil))) (pa_cons (C8.pe_c c_law_one hr (by omega) (by rfl) (pa_cons (pv 2) (pa_cons (pe_lst (pa_cons pe_int (pa_cons (pe_un un_neg pe_int) (pa_cons pe_non (pa_cons pe_str (pa_cons (pe_lst pa_nil) (pa_cons (pe_op (op_powc (a := 10) (b := 21) (c := 1000000000000000000000) ⟨by decide, by decide, by decide⟩ (by decide +kernel)) pe_int pe_int) pa_nil))))))) pa_nil))) pa_nil))))
    (pss_one (ps_if (pt_not (pt_val (C8.pe_c c_law_is_refused hr (by omega) (by rfl) (pa_cons (pv 3) pa_nil)))) (pss_one (ps_ret pe_bl)) pss_nil)))))))))
    (pss_cons (ps_set (i := 9) sc_law.nd rfl (Or.inl rfl) (pe_lst (pa_cons (pe_call G_hex_of (hr.mono (by omega)) (by rfl) g_hex_of k_hex_of b_hex_of .nil passN (pa_cons (pe_lst pa_nil) pa_nil)) (pa_cons (pe_call G_hex_of (hr.mono (by omega)) (by rfl) g_hex_of k_hex_of b_hex_of .nil passN (pa_cons (pe_lst (pa_cons pe_int (pa_cons pe_int (pa_cons pe_int pa_nil)))) pa_nil)) (pa_cons (pe_kw0 G_hex_of (hr.mono (by omega)) (by rfl) g_hex_of k_hex_of kb_hex_of passN (pk_cons (pe_lst (pa_cons pe_int (pa_cons pe_int (pa_cons pe_int (pa_cons pe_int (pa_cons pe_int (pa_cons pe_int (pa_cons pe_int (pa_cons pe_int pa_nil))))))))) pk_nil)) (pa_cons (pe_kw0 G_bits_of (hr.mono (by omega)) (by rfl) g_bits_of k_bits_of kb_bits_of passN (pk_cons pe_str pk_nil)) (pa_cons (pe_call G_bits_of (hr.mono (by omega)) (by rfl) g_bits_of k_bits_of b_bits_of .nil passN (pa_cons pe_str pa_nil)) pa_nil)))))))
    (pss_one (ps_ret (pe_cmpR (op_eqD hu) (pv 9) (pe_lst (pa_cons pe_str (pa_cons pe_str (pa_cons pe_str (pa_cons (pe_lst pa_nil) (pa_cons (pe_lst (pa_cons pe_int pa_nil)) pa_nil)))))) (nomark _)))))), ?_⟩
    walk_at "ev"
    refine ⟨(by split <;> split <;> omega), (by split <;> split <;> omega), ?_⟩
    refine for_range (fun i σ H1 => ∃ v1 v2 v3 v4 v5 v6 v7 v8, σ = [some (.ref a), v1, v2, v3, v4, v5, v6, v7, v8, none] ∧ Same H H1) ⟨_, _, _, _, _, _, _, _, rfl, Same.refl H⟩ ?_ ?_
    · rintro i σ H1 hi ⟨v1, v2, v3, v4, v5, v6, v7, v8, rfl, x1⟩
      walk_at "ev"
      refine ⟨_, _, _, rfl, x1.seq hS, (by omega), ?_, fun p H2 np sm hs => ?_⟩
      · split at hi <;> split at hi <;> omega
      have x2 := x1.trans sm
      have np0 := x1.free np
      walk_at "ev"
      refine ⟨hs, by decide, by decide, fun bp bs H3 nb hbl hb e3 s3 u3 => ?_⟩
      have bpp : bp ≠ p := (hs.ne nb).symm
      have hlb : (bs.map V.int).length = bs.length := List.length_map _
      walk_at "ev"
      refine fun kp nk => ?_
      have ek := upd_same (H := H3) (a := kp) (o := .lst (bs.map V.int))
      have eb := new_at (o' := .lst (bs.map V.int)) e3 nk
      have s4 := src_same (same_upd (o := .lst (bs.map V.int)) nk) s3
      have u4 : Up p H2 (upd H3 kp (.lst (bs.map V.int))) := u3.trans (up_same (same_upd nk))
      have kpp : kp ≠ p := (s3.ne nk).symm
      have kpb : kp ≠ bp := (ne_of_none e3 nk).symm
      generalize upd H3 kp (.lst (bs.map V.int)) = G4 at ek eb s4 u4 ⊢
      walk_at "ev"
      refine ⟨bp, bs, rfl, eb, hb, by omega, fun H5 z5 => ?_⟩
      walk_at "ev"
      refine .inl ⟨bs, z5 _ _ eb, hb, by omega, fun H6 z6 => ?_⟩
      have z56 := z5.trans z6
      walk_at "ev"
      refine q_neI (z56 _ _ eb) (z56 _ _ ek) ?_
      obtain ⟨ok, hk⟩ := ok_hexS hb
      have htl := hexS_len hb (by omega)
      generalize (quads (padB bs)).map hxc = dd at ok hk
      generalize fil bs.length = ff at ok hk
      walk_at "ev"
      refine ⟨by omega, .inl ⟨dd, ff, ok, fun q7 H7 n7 s7 e7 => ?_⟩⟩
      rw [hk] at e7
      walk_at "ev"
      refine ⟨q7, bs, rfl, e7, hb, fun H8 s8 => ?_⟩
      walk_at "ev"
      refine ⟨by omega, .inl ⟨dd, ff, ok, fun q9 H9 n9 s9 e9 => ?_⟩⟩
      rw [hk] at e9
      have z9 := z56.trans (s7.trans (s8.trans s9))
      walk_at "ev"
      refine q_neI e9 (z9 _ _ ek) ?_
      have s10 := src_same z9 s4
      have u10 := u4.trans (up_same (a := p) z9)
      have eb10 := z9 _ _ eb
      walk_at "ev"
      refine ⟨by omega, by omega, for_range (fun j σ Hx => ∃ w6 w7 w8, σ = [some (.ref a), some (.int (0 + (i : Int))), some (.ref p), some (.ref bp), some (.ref kp), some (.str (SX.S (hexS bs))), w6, w7, w8, none] ∧ Src Hx p ∧ Up p H9 Hx) ⟨_, _, _, rfl, s10, Up.refl p H9⟩ ?_ ?_⟩
      · rintro j σ Hx hj ⟨w6, w7, w8, rfl, sx, ux⟩
        walk_at "ev"
        refine ⟨sx, by omega, fun z Hy hzl sy uy => ?_⟩
        walk_at "ev"
        refine ⟨by omega, ?_⟩
        have u0 := ux.trans uy
        by_cases hok : isOK z
        · obtain ⟨d1, f1, ok1⟩ := hok
          refine .inl ⟨d1, f1, ok1, fun r1 Hz nr1 sz1 er1 => ?_⟩
          walk_at "ev"
          refine ⟨by omega, .inl ⟨d1, f1, ok1, fun r2 r3 Hw nr2 sw2 er2 er3 => ?_⟩⟩
          walk_at "ev"
          refine ⟨(by show 2 ≤ sizeLine; decide), fun t4 nt4 => ?_⟩
          have er1b := new_at (o' := .tup [.str "told", .ref r1]) (sw2 _ _ er1) nt4
          have er2b := new_at (o' := .tup [.str "told", .ref r1]) er2 nt4
          have er3b := new_at (o' := .tup [.str "told", .ref r1]) er3 nt4
          refine q_neS (d := .tuple [.str "told", .list ((kept d1 f1).map PyData.int)]) (.tup (.inl (.inl er2b)) (.cons (.str _) (.cons (dp_ints (.inl (.inl er3b))) .nil))) (.tup (.inl (.inl upd_same)) (.cons (.str _) (.cons (dp_ints (.inl (.inl er1b))) .nil))) (sh_told4 _) ?_
          walk_at "ev"
          have sT := sz1.trans (sw2.trans (same_upd (o := .tup [.str "told", .ref r1]) nt4))
          exact ⟨_, _, _, rfl, src_same sT sy, u0.trans (up_same sT)⟩
        · refine .inr ⟨hok, fun Hz sz1 => ?_⟩
          walk_at "ev"
          refine ⟨by omega, .inr ⟨hok, fun r2 Hw nr2 sw2 er2 => ?_⟩⟩
          walk_at "ev"
          refine ⟨(by show 4 ≤ sizeLine; decide), fun t4 nt4 => ?_⟩
          have er2b := new_at (o' := .tup [.str "text", .int 0, .bl true, .bl false]) er2 nt4
          refine q_neS (d := .tuple [.str "text", .int 0, .bool true, .bool false]) (.tup (.inl (.inl er2b)) (.cons (.str _) (.cons (.int _) (.cons (.bl _) (.cons (.bl _) .nil))))) (.tup (.inl (.inl upd_same)) (.cons (.str _) (.cons (.int _) (.cons (.bl _) (.cons (.bl _) .nil))))) sh_text ?_
          walk_at "ev"
          have sT := sz1.trans (sw2.trans (same_upd (o := .tup [.str "text", .int 0, .bl true, .bl false]) nt4))
          exact ⟨_, _, _, rfl, src_same sT sy, u0.trans (up_same sT)⟩
      · rintro σ Hx ⟨w6, w7, w8, rfl, sx, ux⟩
        walk_at "ev"
        have ebx := ux _ _ bpp eb10
        refine ⟨.inl ⟨rfl, _, .inl (.inl ebx)⟩, ?_⟩
        walk_at "ev"
        refine ⟨sx, by omega, by omega, fun r Hy r0 r1 sy uy => ?_⟩
        have eby := uy.up _ _ bpp ebx
        walk_at "ev"
        refine ⟨(by show 0 ≤ sizeLine; decide), fun L0 nL0 => ?_⟩
        walk_at "ev"
        refine ⟨(by show 6 ≤ sizeLine; decide), fun L1 nL1 => ?_⟩
        have hL0p : L0 ≠ p := (sy.ne nL0).symm
        have eL0 := new_at (o' := .lst [V.int 2, .int (-1), .non, .str "0", .ref L0, .int 1000000000000000000000]) (upd_same (H := Hy) (a := L0) (o := .lst [])) nL1
        have sB := (same_upd (o := .lst []) nL0).trans (same_upd (o := .lst [V.int 2, .int (-1), .non, .str "0", .ref L0, .int 1000000000000000000000]) nL1)
        have sBy := src_same sB sy
        refine ⟨p, L1, _, rfl, sBy, ((src_same (same_upd nL0) sy).ne nL1).symm, upd_same, (by simp), (by show 6 ≤ 1000; decide), fun v Hz hv sz uz => ?_⟩
        have eLz := uz.up _ _ hL0p eL0
        have ebz := uz.up _ _ bpp (sB _ _ eby)
        have hL0b : L0 ≠ bp := by
          rintro rfl
          rw [eby] at nL0
          cases nL0
        walk_at "ev"
        have hrn : ((r.toNat : Nat) : Int) = r := Int.toNat_of_nonneg r0
        refine ⟨bp, _, r, v, rfl, rfl, ebz, small1000 (by omega), r0, by omega, ?_⟩
        have hbad : BadAt (upd Hz bp (.lst ((bs.map V.int).take r.toNat ++ [v] ++ (bs.map V.int).drop r.toNat))) bp := by
          refine bad_here hb (by omega) upd_same ?_
          simp only [List.mem_cons, List.not_mem_nil, or_false] at hv
          rcases hv with rfl | rfl | rfl | rfl | rfl | rfl
          · exact .int _ (.inr (by decide))
          · exact .int _ (.inl (by decide))
          · exact .non
          · exact .str _
          · exact .lst (by rw [upd_ne hL0b]; exact eLz)
          · exact .int _ (.inr (by decide))
        have uAll : Up p H2 Hz := ((u10.trans ux).trans uy.up).trans ((up_same sB).trans uz.up)
        have nb1 : H1 bp = none := sm.free nb
        have sEnd : Same H (upd Hz bp (.lst ((bs.map V.int).take r.toNat ++ [v] ++ (bs.map V.int).drop r.toNat))) := fun b o e => by
          rw [upd_ne (ne_of_none (x1 _ _ e) nb1)]
          exact uAll b o (ne_of_none e np0) (x2 _ _ e)
        walk_at "ev"
        refine ⟨hbad, fun Hq sq => ?_⟩
        walk_at "ev"
        exact ⟨_, _, _, _, _, _, _, _, rfl, sEnd.trans sq⟩
    · rintro σ H1 ⟨v1, v2, v3, v4, v5, v6, v7, v8, rfl, x1⟩
      walk_at "ev"
      refine ⟨(by show 0 ≤ sizeLine; decide), fun p1 n1 => ?_⟩
      walk_at "ev"
      refine .inl ⟨[], upd_same, (fun _ m => absurd m List.not_mem_nil), by decide, fun H2 s2 => ?_⟩
      walk_at "ev"
      refine ⟨(by show 3 ≤ sizeLine; decide), fun p3 n3 => ?_⟩
      walk_at "ev"
      refine .inl ⟨[1, 0, 1], upd_same, (by intro x m; simp only [List.mem_cons, List.not_mem_nil, or_false] at m; omega), by decide, fun H4 s4 => ?_⟩
      walk_at "ev"
      refine ⟨(by show 8 ≤ sizeLine; decide), fun p5 n5 => ?_⟩
      walk_at "ev"
      refine .inl ⟨[1, 1, 1, 1, 0, 0, 0, 0], upd_same, (by intro x m; simp only [List.mem_cons, List.not_mem_nil, or_false] at m; omega), by decide, fun H6 s6 => ?_⟩
      have tS : (Str.ofString ".0" : Str) = SX.S [46, 48] := by decide +kernel
      have tS3 : (Str.ofString "0.3" : Str) = SX.S [48, 46, 51] := by decide +kernel
      have okA : OK [46, 48] [] 0 := ⟨rfl, by decide, (fun _ m => absurd m List.not_mem_nil), by decide, rfl⟩
      have okB : OK [48, 46, 51] [48] 3 := ⟨rfl, by decide, by decide, by decide, by decide +kernel⟩
      have kA : kept [] 0 = [] := rfl
      have kB : kept [48] 3 = [0] := by decide +kernel
      refine ⟨rfl, [46, 48], (by rw [tS]), by decide, .inl ⟨[], 0, okA, fun p7 H7 n7 s7 e7 => ?_⟩⟩
      refine ⟨[48, 46, 51], (by rw [tS3]; rfl), by decide, .inl ⟨[48], 3, okB, fun p8 H8 n8 s8 e8 => ?_⟩⟩
      rw [kA] at e7
      rw [kB] at e8
      have h1 : SX.S (hexS []) = Str.ofString ".0" := by decide +kernel
      have h2 : SX.S (hexS [1, 0, 1]) = Str.ofString "a.1" := by decide +kernel
      have h3 : SX.S (hexS [1, 1, 1, 1, 0, 0, 0, 0]) = Str.ofString "f0.0" := by decide +kernel
      rw [h1, h2, h3]
      refine ⟨(by show 5 ≤ sizeLine; decide), fun e nE => ?_⟩
      walk_at "ev"
      refine ⟨(by show 0 ≤ sizeLine; decide), fun g1 ng1 => ?_⟩
      walk_at "ev"
      refine ⟨(by show 1 ≤ sizeLine; decide), fun g2 ng2 => ?_⟩
      walk_at "ev"
      refine ⟨(by show 5 ≤ sizeLine; decide), fun g3 ng3 => ?_⟩
      refine q_eqS (d := .list [.str ".0", .str "a.1", .str "f0.0", .list [], .list [.int 0]])
        (.lst (.inl (.inl (new_at (new_at (new_at upd_same ng1) ng2) ng3))) (.cons (.str _) (.cons (.str _) (.cons (.str _) (.cons (dp_ints (ns := []) (.inl (.inl (new_at (new_at (new_at (new_at (s8 _ _ e7) nE) ng1) ng2) ng3)))) (.cons (dp_ints (ns := [0]) (.inl (.inl (new_at (new_at (new_at (new_at e8 nE) ng1) ng2) ng3)))) .nil))))))
        (.lst (.inl (.inl upd_same)) (.cons (.str _) (.cons (.str _) (.cons (.str _) (.cons (dp_ints (ns := []) (.inl (.inl (new_at (new_at upd_same ng2) ng3)))) (.cons (dp_ints (ns := [0]) (.inl (.inl (new_at upd_same ng3)))) .nil)))))) (by decide +kernel) ?_
      exact q _
end
/-! ### what the top has written -/
theorem kbn1 {K : PySem.W.Frag} {x qual p : Str} {params : Arguments} {body : List Stmt} {scope : Scope} {kV doc pm cd ct : Value} {an : Option Addr} (h : ∀ u, bindArgs (PySem.W.fnOf x qual params body scope .none kV doc pm an cd ct) ⟨[], [(p, u)]⟩ = pure [(p, u)]) : KBn K (PySem.W.fnOf x qual params body scope .none kV doc pm an cd ct) [p] 0 [p] (fun _ ws => ws) (fun _ zs => zs) :=
  ⟨fun s us ws _ h1 h2 => match us, ws, h1, h2 with | [], [u], _, _ => .of_eq (h u), fun _ r => r⟩
theorem kbn2 {K : PySem.W.Frag} {x qual p p2 : Str} {params : Arguments} {body : List Stmt} {scope : Scope} {kV doc pm cd ct : Value} {an : Option Addr} (h : ∀ u v, bindArgs (PySem.W.fnOf x qual params body scope .none kV doc pm an cd ct) ⟨[], [(p, u), (p2, v)]⟩ = pure [(p, u), (p2, v)]) : KBn K (PySem.W.fnOf x qual params body scope .none kV doc pm an cd ct) [p, p2] 0 [p, p2] (fun _ ws => ws) (fun _ zs => zs) :=
  ⟨fun s us ws _ h1 h2 => match us, ws, h1, h2 with | [], [u, v], _, _ => .of_eq (h u v), fun _ r => r⟩
theorem kbn3 {K : PySem.W.Frag} {x qual p p2 p3 : Str} {params : Arguments} {body : List Stmt} {scope : Scope} {kV doc pm cd ct : Value} {an : Option Addr} (h : ∀ u v w, bindArgs (PySem.W.fnOf x qual params body scope .none kV doc pm an cd ct) ⟨[], [(p, u), (p2, v), (p3, w)]⟩ = pure [(p, u), (p2, v), (p3, w)]) : KBn K (PySem.W.fnOf x qual params body scope .none kV doc pm an cd ct) [p, p2, p3] 0 [p, p2, p3] (fun _ ws => ws) (fun _ zs => zs) :=
  ⟨fun s us ws _ h1 h2 => match us, ws, h1, h2 with | [], [u, v, w], _, _ => .of_eq (h u v w), fun _ r => r⟩
theorem kbm1 {K : PySem.W.Frag} {x qual s p : Str} {params : Arguments} {body : List Stmt} {scope : Scope} {kV doc pm cd ct : Value} {an : Option Addr} (h : ∀ z u, bindArgs (PySem.W.fnOf x qual params body scope .none kV doc pm an cd ct) ⟨[z], [(p, u)]⟩ = pure [(s, z), (p, u)]) : KBn K (PySem.W.fnOf x qual params body scope .none kV doc pm an cd ct) [s, p] 1 [p] (fun us ws => us ++ ws) (fun vs zs => vs ++ zs) :=
  ⟨fun st us ws _ h1 h2 => match us, ws, h1, h2 with | [z], [u], _, _ => .of_eq (h z u), fun r1 r2 => r1.append r2⟩
theorem all_mk {l : PySem.W.OpenLaw} {w : World} {K : PySem.W.Frag} {h : Heap} {mg : Str → Option Value} {fa : Addr} (X : K.In h) (G : h.Ns mainGlobals mg) (hfa : mg "law" = some (.ref fa))
    {BT NSBT : Addr} {nmBT qnBT : Str} {bsBT bmBT suBT : List Value} {slBT : List Str} {abBT : Bool} {coBT : Option Bool} {ddBT : Option Addr} {kaBT kbBT kcBT kdBT keBT : Option Value} (eBT : PySem.W.nsIn K mainGlobals "BadText" = some (some (.ref BT))) (lcBT : K.lookup BT = some (excClassObj nmBT qnBT BT NSBT bsBT bmBT true slBT suBT abBT coBT ddBT kaBT kbBT kcBT kdBT keBT "ValueError.__new__")) (rvBT : PySem.HandSPX.refsVE bmBT = true) (saBT : PySem.W.findIn K (.ref BT) "__setattr__" = some (some (.builtin "object.__setattr__"))) (exBT : PySem.W.subIn K (.ref BT) (.type "BaseException") = some true) (tyBT : PySem.W.typeIn K (.ref BT) = some (.type "type")) (kpBT : PySem.W.keepIn K (.ref BT) = true) (gaBT : PySem.W.findIn K (.ref BT) "__getattribute__" = some (some (.builtin "BaseException.__getattribute__"))) (ggBT : PySem.W.findIn K (.ref BT) "__getattr__" = some none) (hdBT : PySem.W.hasDictIn K BT = true) (naBT : PySem.W.findIn K (.ref BT) "row" = some none) (caBT : PySem.W.findIn K (.ref BT) "__class__" = some (some (.builtin "object.__class__"))) (moBT : PySem.W.mroIn K BT (.type "object") = some true) (sBTBT : PySem.W.subIn K (.ref BT) (.ref BT) = some true)
    {od0 an0 : Option Addr} {sl0 : Array (Option Value)} {oc0 kV0 dc0 pm0 cd0 ct0 : Value} {f0 : Addr}
    (a0 : PySem.W.nsIn K mainGlobals "is_number" = some (some (.ref f0))) (l0 : K.lookup f0 = some ⟨oc0, od0, .func (PySem.W.fnOf "is_number" "is_number" (defArgs s_is_number) (defBody s_is_number) (defScope s_is_number) .none kV0 dc0 pm0 an0 cd0 ct0), sl0⟩) (c0 : PySem.W.codeIn K cd0 "is_number" = true) (k0 : PySem.W.keepIn K (.ref f0) = true)
    {od1 an1 : Option Addr} {sl1 : Array (Option Value)} {oc1 kV1 dc1 pm1 cd1 ct1 : Value} {f1 : Addr}
    (a1 : PySem.W.nsIn K mainGlobals "check_bits" = some (some (.ref f1))) (l1 : K.lookup f1 = some ⟨oc1, od1, .func (PySem.W.fnOf "check_bits" "check_bits" (defArgs s_check_bits) (defBody s_check_bits) (defScope s_check_bits) .none kV1 dc1 pm1 an1 cd1 ct1), sl1⟩) (c1 : PySem.W.codeIn K cd1 "check_bits" = true) (k1 : PySem.W.keepIn K (.ref f1) = true)
    {od2 an2 : Option Addr} {sl2 : Array (Option Value)} {oc2 kV2 dc2 pm2 cd2 ct2 : Value} {f2 : Addr}
    (a2 : PySem.W.nsIn K mainGlobals "number_of" = some (some (.ref f2))) (l2 : K.lookup f2 = some ⟨oc2, od2, .func (PySem.W.fnOf "number_of" "number_of" (defArgs s_number_of) (defBody s_number_of) (defScope s_number_of) .none kV2 dc2 pm2 an2 cd2 ct2), sl2⟩) (c2 : PySem.W.codeIn K cd2 "number_of" = true) (k2 : PySem.W.keepIn K (.ref f2) = true)
    {od3 an3 : Option Addr} {sl3 : Array (Option Value)} {oc3 kV3 dc3 pm3 cd3 ct3 : Value} {f3 : Addr}
    (a3 : PySem.W.nsIn K mainGlobals "fixed" = some (some (.ref f3))) (l3 : K.lookup f3 = some ⟨oc3, od3, .func (PySem.W.fnOf "fixed" "fixed" (defArgs s_fixed) (defBody s_fixed) (defScope s_fixed) .none kV3 dc3 pm3 an3 cd3 ct3), sl3⟩) (c3 : PySem.W.codeIn K cd3 "fixed" = true) (k3 : PySem.W.keepIn K (.ref f3) = true)
    {od4 an4 : Option Addr} {sl4 : Array (Option Value)} {oc4 kV4 dc4 pm4 cd4 ct4 : Value} {f4 : Addr}
    (a4 : PySem.W.nsIn K mainGlobals "hex_of" = some (some (.ref f4))) (l4 : K.lookup f4 = some ⟨oc4, od4, .func (PySem.W.fnOf "hex_of" "hex_of" (defArgs s_hex_of) (defBody s_hex_of) (defScope s_hex_of) .none kV4 dc4 pm4 an4 cd4 ct4), sl4⟩) (c4 : PySem.W.codeIn K cd4 "hex_of" = true) (k4 : PySem.W.keepIn K (.ref f4) = true)
    {od5 an5 : Option Addr} {sl5 : Array (Option Value)} {oc5 kV5 dc5 pm5 cd5 ct5 : Value} {f5 : Addr}
    (a5 : PySem.W.nsIn K mainGlobals "bits_of" = some (some (.ref f5))) (l5 : K.lookup f5 = some ⟨oc5, od5, .func (PySem.W.fnOf "bits_of" "bits_of" (defArgs s_bits_of) (defBody s_bits_of) (defScope s_bits_of) .none kV5 dc5 pm5 an5 cd5 ct5), sl5⟩) (c5 : PySem.W.codeIn K cd5 "bits_of" = true) (k5 : PySem.W.keepIn K (.ref f5) = true)
    {od6 an6 : Option Addr} {sl6 : Array (Option Value)} {oc6 kV6 dc6 pm6 cd6 ct6 : Value} {f6 : Addr}
    (a6 : PySem.W.nsIn K mainGlobals "_bits_of_digits" = some (some (.ref f6))) (l6 : K.lookup f6 = some ⟨oc6, od6, .func (PySem.W.fnOf "_bits_of_digits" "_bits_of_digits" (defArgs s_bits_of_digits) (defBody s_bits_of_digits) (defScope s_bits_of_digits) .none kV6 dc6 pm6 an6 cd6 ct6), sl6⟩) (c6 : PySem.W.codeIn K cd6 "_bits_of_digits" = true) (k6 : PySem.W.keepIn K (.ref f6) = true)
    {od7 an7 : Option Addr} {sl7 : Array (Option Value)} {oc7 kV7 dc7 pm7 cd7 ct7 : Value} {f7 : Addr}
    (a7 : PySem.W.findIn K (.ref BT) "__init__" = some (some (.ref f7))) (i7 : PySem.W.isFn K (.ref f7) = true)
    (l7 : K.lookup f7 = some ⟨oc7, od7, .func (PySem.W.fnOf "__init__" "BadText.__init__" (defArgs s_BadText_init) (defBody s_BadText_init) (defScope s_BadText_init) .none kV7 dc7 pm7 an7 cd7 ct7), sl7⟩) (c7 : PySem.W.codeIn K cd7 "BadText.__init__" = true) (k7 : PySem.W.keepIn K (.ref f7) = true)
    {od8 an8 : Option Addr} {sl8 : Array (Option Value)} {oc8 kV8 dc8 pm8 cd8 ct8 : Value} {f8 : Addr}
    (a8 : PySem.W.nsIn K mainGlobals "_law_pool" = some (some (.ref f8))) (l8 : K.lookup f8 = some ⟨oc8, od8, .func (PySem.W.fnOf "_law_pool" "_law_pool" (defArgs s_law_pool) (defBody s_law_pool) (defScope s_law_pool) .none kV8 dc8 pm8 an8 cd8 ct8), sl8⟩) (c8 : PySem.W.codeIn K cd8 "_law_pool" = true) (k8 : PySem.W.keepIn K (.ref f8) = true)
    {od9 an9 : Option Addr} {sl9 : Array (Option Value)} {oc9 kV9 dc9 pm9 cd9 ct9 : Value} {f9 : Addr}
    (a9 : PySem.W.nsIn K mainGlobals "_law_take" = some (some (.ref f9))) (l9 : K.lookup f9 = some ⟨oc9, od9, .func (PySem.W.fnOf "_law_take" "_law_take" (defArgs s_law_take) (defBody s_law_take) (defScope s_law_take) .none kV9 dc9 pm9 an9 cd9 ct9), sl9⟩) (c9 : PySem.W.codeIn K cd9 "_law_take" = true) (k9 : PySem.W.keepIn K (.ref f9) = true)
    {od10 an10 : Option Addr} {sl10 : Array (Option Value)} {oc10 kV10 dc10 pm10 cd10 ct10 : Value} {f10 : Addr}
    (a10 : PySem.W.nsIn K mainGlobals "_law_one" = some (some (.ref f10))) (l10 : K.lookup f10 = some ⟨oc10, od10, .func (PySem.W.fnOf "_law_one" "_law_one" (defArgs s_law_one) (defBody s_law_one) (defScope s_law_one) .none kV10 dc10 pm10 an10 cd10 ct10), sl10⟩) (c10 : PySem.W.codeIn K cd10 "_law_one" = true) (k10 : PySem.W.keepIn K (.ref f10) = true)
    {od11 an11 : Option Addr} {sl11 : Array (Option Value)} {oc11 kV11 dc11 pm11 cd11 ct11 : Value} {f11 : Addr}
    (a11 : PySem.W.nsIn K mainGlobals "_law_bits" = some (some (.ref f11))) (l11 : K.lookup f11 = some ⟨oc11, od11, .func (PySem.W.fnOf "_law_bits" "_law_bits" (defArgs s_law_bits) (defBody s_law_bits) (defScope s_law_bits) .none kV11 dc11 pm11 an11 cd11 ct11), sl11⟩) (c11 : PySem.W.codeIn K cd11 "_law_bits" = true) (k11 : PySem.W.keepIn K (.ref f11) = true)
    {od12 an12 : Option Addr} {sl12 : Array (Option Value)} {oc12 kV12 dc12 pm12 cd12 ct12 : Value} {f12 : Addr}
    (a12 : PySem.W.nsIn K mainGlobals "_law_are_bits" = some (some (.ref f12))) (l12 : K.lookup f12 = some ⟨oc12, od12, .func (PySem.W.fnOf "_law_are_bits" "_law_are_bits" (defArgs s_law_are_bits) (defBody s_law_are_bits) (defScope s_law_are_bits) .none kV12 dc12 pm12 an12 cd12 ct12), sl12⟩) (c12 : PySem.W.codeIn K cd12 "_law_are_bits" = true) (k12 : PySem.W.keepIn K (.ref f12) = true)
    {od13 an13 : Option Addr} {sl13 : Array (Option Value)} {oc13 kV13 dc13 pm13 cd13 ct13 : Value} {f13 : Addr}
    (a13 : PySem.W.nsIn K mainGlobals "_law_hex" = some (some (.ref f13))) (l13 : K.lookup f13 = some ⟨oc13, od13, .func (PySem.W.fnOf "_law_hex" "_law_hex" (defArgs s_law_hex) (defBody s_law_hex) (defScope s_law_hex) .none kV13 dc13 pm13 an13 cd13 ct13), sl13⟩) (c13 : PySem.W.codeIn K cd13 "_law_hex" = true) (k13 : PySem.W.keepIn K (.ref f13) = true)
    {od14 an14 : Option Addr} {sl14 : Array (Option Value)} {oc14 kV14 dc14 pm14 cd14 ct14 : Value} {f14 : Addr}
    (a14 : PySem.W.nsIn K mainGlobals "_law_back" = some (some (.ref f14))) (l14 : K.lookup f14 = some ⟨oc14, od14, .func (PySem.W.fnOf "_law_back" "_law_back" (defArgs s_law_back) (defBody s_law_back) (defScope s_law_back) .none kV14 dc14 pm14 an14 cd14 ct14), sl14⟩) (c14 : PySem.W.codeIn K cd14 "_law_back" = true) (k14 : PySem.W.keepIn K (.ref f14) = true)
    {od15 an15 : Option Addr} {sl15 : Array (Option Value)} {oc15 kV15 dc15 pm15 cd15 ct15 : Value} {f15 : Addr}
    (a15 : PySem.W.nsIn K mainGlobals "_law_word" = some (some (.ref f15))) (l15 : K.lookup f15 = some ⟨oc15, od15, .func (PySem.W.fnOf "_law_word" "_law_word" (defArgs s_law_word) (defBody s_law_word) (defScope s_law_word) .none kV15 dc15 pm15 an15 cd15 ct15), sl15⟩) (c15 : PySem.W.codeIn K cd15 "_law_word" = true) (k15 : PySem.W.keepIn K (.ref f15) = true)
    {od16 an16 : Option Addr} {sl16 : Array (Option Value)} {oc16 kV16 dc16 pm16 cd16 ct16 : Value} {f16 : Addr}
    (a16 : PySem.W.nsIn K mainGlobals "_law_bent" = some (some (.ref f16))) (l16 : K.lookup f16 = some ⟨oc16, od16, .func (PySem.W.fnOf "_law_bent" "_law_bent" (defArgs s_law_bent) (defBody s_law_bent) (defScope s_law_bent) .none kV16 dc16 pm16 an16 cd16 ct16), sl16⟩) (c16 : PySem.W.codeIn K cd16 "_law_bent" = true) (k16 : PySem.W.keepIn K (.ref f16) = true)
    {od17 an17 : Option Addr} {sl17 : Array (Option Value)} {oc17 kV17 dc17 pm17 cd17 ct17 : Value} {f17 : Addr}
    (a17 : PySem.W.nsIn K mainGlobals "_law_is_refused" = some (some (.ref f17))) (l17 : K.lookup f17 = some ⟨oc17, od17, .func (PySem.W.fnOf "_law_is_refused" "_law_is_refused" (defArgs s_law_is_refused) (defBody s_law_is_refused) (defScope s_law_is_refused) .none kV17 dc17 pm17 an17 cd17 ct17), sl17⟩) (c17 : PySem.W.codeIn K cd17 "_law_is_refused" = true) (k17 : PySem.W.keepIn K (.ref f17) = true)
    {od18 an18 : Option Addr} {sl18 : Array (Option Value)} {oc18 kV18 dc18 pm18 cd18 ct18 : Value} {f18 : Addr}
    (a18 : PySem.W.nsIn K mainGlobals "law" = some (some (.ref f18))) (l18 : K.lookup f18 = some ⟨oc18, od18, .func (PySem.W.fnOf "law" "law" (defArgs s_law) (defBody s_law) (defScope s_law) .none kV18 dc18 pm18 an18 cd18 ct18), sl18⟩) (c18 : PySem.W.codeIn K cd18 "law" = true) (k18 : PySem.W.keepIn K (.ref f18) = true)
    {B N : Addr} {R0 : Addr} {dR : Option Addr} {u1 u2 u3 u4 : Tok} {nR : Nat} {sR : Array (Option Value)} {td : Tok} 
    (y0 : PySem.W.nsIn K mainGlobals "int" = some none)
    (y1 : PySem.W.nsIn K mainGlobals "len" = some none)
    (y2 : PySem.W.nsIn K mainGlobals "max" = some none)
    (y3 : PySem.W.nsIn K mainGlobals "min" = some none)
    (y4 : PySem.W.nsIn K mainGlobals "range" = some none)
    (y5 : PySem.W.nsIn K mainGlobals "isinstance" = some none)
    (y6 : PySem.W.nsIn K mainGlobals "bool" = some none)
    (y7 : PySem.W.nsIn K mainGlobals "list" = some none)
    (eB : PySem.W.nsIn K mainGlobals "BadBits" = some (some (.ref B)))
    (eN : PySem.W.nsIn K mainGlobals "NarrowError" = some (some (.ref N)))
    (m4 : PySem.W.specialIn K (.builtin "object.__class__") "__get__" = some (some (.builtin "getset_descriptor.__get__")))
    (m5 : PySem.W.takesIn K (.builtin "object.__class__") = some true)
    (exB : PySem.W.excIn K B [.type "ValueError", .type "Exception", .type "BaseException", .type "object"] "ValueError.__new__" = true)
    (kBc : PySem.W.keepIn K (.ref B) = true)
    (bBc : PySem.W.subIn K (.ref B) (.type "BaseException") = some true)
    (tBc : PySem.W.typeIn K (.ref B) = some (.type "type"))
    (m0B : PySem.W.findIn K (.ref B) "__getattribute__" = some (some (.builtin "BaseException.__getattribute__")))
    (m1B : PySem.W.findIn K (.ref B) "__getattr__" = some none)
    (m2B : PySem.W.hasDictIn K B = true)
    (m3B : PySem.W.findIn K (.ref B) "__class__" = some (some (.builtin "object.__class__")))
    (m6B : PySem.W.mroIn K B (.type "object") = some true)
    (sBB : PySem.W.subIn K (.ref B) (.ref B) = some true)
    (iNc : PySem.W.isClsIn K N = true)
    (tNc : PySem.W.typeIn K (.ref N) = some (.type "type"))
    (iBTc : PySem.W.isClsIn K BT = true)
    (tBTc : PySem.W.typeIn K (.ref BT) = some (.type "type"))
    (iBc : PySem.W.isClsIn K B = true)
    (sBN : PySem.W.subIn K (.ref B) (.ref N) = some true)
    (sBBT : PySem.W.subIn K (.ref B) (.ref BT) = some false)
    (sBTN : PySem.W.subIn K (.ref BT) (.ref N) = some true)
    (sBTB : PySem.W.subIn K (.ref BT) (.ref B) = some false)
    (gd : PySem.W.nsIn K mainGlobals "DIGITS" = some (some (.str "0123456789abcdef" td)))
    (gF : PySem.W.nsIn K mainGlobals "FILLINGS" = some (some (.ref R0)))
    (lF : K.lookup R0 = some ⟨.type "tuple", dR, .seq #[.str "0" u1, .str "1" u2, .str "2" u3, .str "3" u4] nR, sR⟩)
    (tiBT : PySem.W.typeIn K (.ref f7) = some (.type "function")) :
    ∃ fd : FuncData, (∀ (s : Shared) (v : Value), BindsTo s fd ⟨[v], []⟩ [("_law_script", v)]) ∧ ∀ base : Heap, K.In base → base.Ns mainGlobals mg → FnOk l.prog w K mg base CX0 6 fa fd ["_law_script"] (spLaw K) := by
  have e := hfa.symm.trans (PySem.W.mg_of X G a18)
  cases e
  have T : Txt mg := ⟨PySem.W.mg_none_of X G y0, PySem.W.mg_none_of X G y1, PySem.W.mg_none_of X G y2, PySem.W.mg_none_of X G y3, PySem.W.mg_none_of X G y4, PySem.W.mg_none_of X G y5, PySem.W.mg_none_of X G y6, PySem.W.mg_none_of X G y7⟩
  have EB : ECls K mg "BadBits" B := ⟨PySem.W.mg_of X G eB, exB, kBc, bBc, tBc, ⟨m0B, m1B, bBc, m2B, m3B, m4, m5, m6B⟩, PySem.W.exm_ref bBc m2B tBc sBB⟩
  have rBN := kit_ref iNc tNc sBN fun _ => sBB
  have rBBT := kit_ref iBTc tBTc sBBT fun _ => sBB
  have rBTN := kit_ref iNc tNc sBTN fun _ => sBTBT
  have rBTB := kit_ref iBc tBc sBTB fun _ => sBTBT
  have c_gd := PySem.W.mg_of X G gd
  have glBT := PySem.W.mg_of X G eBT
  have oxBT : OexC K BT := ⟨⟨_, _, _, _, _, _, _, _, _, _, _, _, _, _, _, lcBT, rvBT⟩, saBT, exBT, tyBT, kpBT⟩
  have xfBT : XfC K BT := ⟨gaBT, ggBT, exBT, hdBT⟩
  have isBT : ExcC K BT := ⟨gaBT, ggBT, exBT, hdBT, caBT, m4, m5, moBT⟩
  have emBT := PySem.W.exm_ref exBT hdBT tyBT sBTBT
  have F0 := fun_mk (st := s_is_number) l0 c0 k0
  have b0 := F0.binds (ps := ["thing"]) fun _ _ _ _ _ _ us hl => match us, hl with | [_], _ => rfl
  have F1 := fun_mk (st := s_check_bits) l1 c1 k1
  have b1 := F1.binds (ps := ["bits"]) fun _ _ _ _ _ _ us hl => match us, hl with | [_], _ => rfl
  have F2 := fun_mk (st := s_number_of) l2 c2 k2
  have b2 := F2.binds (ps := ["bits"]) fun _ _ _ _ _ _ us hl => match us, hl with | [_], _ => rfl
  have F3 := fun_mk (st := s_fixed) l3 c3 k3
  have b3 := F3.binds (ps := ["n", "w"]) fun _ _ _ _ _ _ us hl => match us, hl with | [_, _], _ => rfl
  have F4 := fun_mk (st := s_hex_of) l4 c4 k4
  have b4 := F4.binds (ps := ["bits"]) fun _ _ _ _ _ _ us hl => match us, hl with | [_], _ => rfl
  have F5 := fun_mk (st := s_bits_of) l5 c5 k5
  have b5 := F5.binds (ps := ["text"]) fun _ _ _ _ _ _ us hl => match us, hl with | [_], _ => rfl
  have F6 := fun_mk (st := s_bits_of_digits) l6 c6 k6
  have b6 := F6.binds (ps := ["digits"]) fun _ _ _ _ _ _ us hl => match us, hl with | [_], _ => rfl
  have F7 := fun_mk (st := s_BadText_init) l7 c7 k7
  have b7 := F7.binds (ps := ["self", "row"]) fun _ _ _ _ _ _ us hl => match us, hl with | [_, _], _ => rfl
  have F8 := fun_mk (st := s_law_pool) l8 c8 k8
  have b8 := F8.binds (ps := ["_law_script", "_law_k"]) fun _ _ _ _ _ _ us hl => match us, hl with | [_, _], _ => rfl
  have F9 := fun_mk (st := s_law_take) l9 c9 k9
  have b9 := F9.binds (ps := ["_law_source", "_law_most"]) fun _ _ _ _ _ _ us hl => match us, hl with | [_, _], _ => rfl
  have F10 := fun_mk (st := s_law_one) l10 c10 k10
  have b10 := F10.binds (ps := ["_law_source", "_law_things"]) fun _ _ _ _ _ _ us hl => match us, hl with | [_, _], _ => rfl
  have F11 := fun_mk (st := s_law_bits) l11 c11 k11
  have b11 := F11.binds (ps := ["_law_source", "_law_most"]) fun _ _ _ _ _ _ us hl => match us, hl with | [_, _], _ => rfl
  have F12 := fun_mk (st := s_law_are_bits) l12 c12 k12
  have b12 := F12.binds (ps := ["_law_told"]) fun _ _ _ _ _ _ us hl => match us, hl with | [_], _ => rfl
  have F13 := fun_mk (st := s_law_hex) l13 c13 k13
  have b13 := F13.binds (ps := ["_law_bits_here"]) fun _ _ _ _ _ _ us hl => match us, hl with | [_], _ => rfl
  have F14 := fun_mk (st := s_law_back) l14 c14 k14
  have b14 := F14.binds (ps := ["_law_text"]) fun _ _ _ _ _ _ us hl => match us, hl with | [_], _ => rfl
  have F15 := fun_mk (st := s_law_word) l15 c15 k15
  have b15 := F15.binds (ps := ["_law_text"]) fun _ _ _ _ _ _ us hl => match us, hl with | [_], _ => rfl
  have F16 := fun_mk (st := s_law_bent) l16 c16 k16
  have b16 := F16.binds (ps := ["_law_source", "_law_text"]) fun _ _ _ _ _ _ us hl => match us, hl with | [_, _], _ => rfl
  have F17 := fun_mk (st := s_law_is_refused) l17 c17 k17
  have b17 := F17.binds (ps := ["_law_bits_here"]) fun _ _ _ _ _ _ us hl => match us, hl with | [_], _ => rfl
  have F18 := fun_mk (st := s_law) l18 c18 k18
  have b18 := F18.binds (ps := ["_law_script"]) fun _ _ _ _ _ _ us hl => match us, hl with | [_], _ => rfl
  refine ⟨PySem.W.fnOf "law" "law" (defArgs s_law) (defBody s_law) (defScope s_law) .none kV18 dc18 pm18 an18 cd18 ct18, fun s v => .of_eq rfl, fun base _ _ => ?_⟩
  have Z0 : C8.Cal l.prog w K mg base 1 "is_number" spIsNum [] := ⟨_, _, _, _, ok_is_number F0 T, PySem.W.mg_of X G a0, k0, b0, .nil⟩
  have CV : C8.Cal l.prog w K mg base 1 "is_number" spIsNumV [] := ⟨_, _, _, _, ok_is_numberV F0 T, PySem.W.mg_of X G a0, k0, b0, .nil⟩
  have Z2 : C8.Cal l.prog w K mg base 1 "number_of" spNumber [] := ⟨_, _, _, _, ok_number_of F2, PySem.W.mg_of X G a2, k2, b2, .nil⟩
  have Z3 : C8.Cal l.prog w K mg base 1 "fixed" spFixed [] := ⟨_, _, _, _, ok_fixed F3 T, PySem.W.mg_of X G a3, k3, b3, .nil⟩
  have GB := ok_check_bitsX (P := l.prog) (w := w) (base := base) (k := 0) F1 EB CV
  have GH := ok_hex_of (P := l.prog) (w := w) (base := base) (k := 0) F4 T c_gd GB (PySem.W.mg_of X G a1) k1 b1 Z2
  have XB : XDef l.prog w K mg base "BadText" "row" BT := ⟨glBT, oxBT, xfBT, naBT, isBT, emBT, ⟨_, _, a7, tiBT, ok_badtext (k := 0) F7 oxBT naBT, b7⟩⟩
  have GD := ok_digs (P := l.prog) (w := w) (base := base) (k := 0) F6 T c_gd XB Z3
  have hF0 : ∀ H : Hp, SqT K H R0 [.str "0", .str "1", .str "2", .str "3"] := fun H => .inr ⟨_, _, _, lF, rfl, rfl, (by show 4 ≤ sizeLine; decide), .cons ⟨_, rfl⟩ (.cons ⟨_, rfl⟩ (.cons ⟨_, rfl⟩ (.cons ⟨_, rfl⟩ .nil)))⟩
  have GO := ok_bits_of (P := l.prog) (w := w) (base := base) (k := 0) F5 T (PySem.W.mg_of X G gF) hF0 XB GD (PySem.W.mg_of X G a6) k6 b6
  have Z8 : C8.Cal l.prog w K mg base 1 "_law_pool" (spPool K) [] := ⟨_, _, _, _, ok_pool F8 T, PySem.W.mg_of X G a8, k8, b8, .nil⟩
  have Z9 : C8.Cal l.prog w K mg base 1 "_law_take" spTake [] := ⟨_, _, _, _, ok_take F9 T, PySem.W.mg_of X G a9, k9, b9, .nil⟩
  have Z10 : C8.Cal l.prog w K mg base 2 "_law_one" spOne [] := ⟨_, _, _, _, ok_one F10 T Z9, PySem.W.mg_of X G a10, k10, b10, .nil⟩
  have Z11 : C8.Cal l.prog w K mg base 2 "_law_bits" spBits [] := ⟨_, _, _, _, ok_bits F11 T Z9, PySem.W.mg_of X G a11, k11, b11, .nil⟩
  have Z12 : C8.Cal l.prog w K mg base 1 "_law_are_bits" spAreBits [] := ⟨_, _, _, _, ok_are_bits F12 T, PySem.W.mg_of X G a12, k12, b12, .nil⟩
  have Z13 : C8.Cal l.prog w K mg base 1 "_law_hex" spHexL [] := ⟨_, _, _, _, ok_hexL F13 T, PySem.W.mg_of X G a13, k13, b13, .nil⟩
  have Z14 : C8.Cal l.prog w K mg base 2 "_law_back" spBackL [] := ⟨_, _, _, _, ok_backL F14 T Z13, PySem.W.mg_of X G a14, k14, b14, .nil⟩
  have Z15 : C8.Cal l.prog w K mg base 5 "_law_word" spWord4 [] := ⟨_, _, _, _, ok_word4 F15 T XB (PySem.W.mg_of X G eN) EB.gC rBTN rBTB GO (PySem.W.mg_of X G a5) k5 b5, PySem.W.mg_of X G a15, k15, b15, .nil⟩
  have Z16 : C8.Cal l.prog w K mg base 3 "_law_bent" spBent [] := ⟨_, _, _, _, ok_bent F16 T Z9 Z10, PySem.W.mg_of X G a16, k16, b16, .nil⟩
  have Z17 : C8.Cal l.prog w K mg base 4 "_law_is_refused" spRef4 [] := ⟨_, _, _, _, ok_ref4 F17 T EB (PySem.W.mg_of X G eN) glBT rBN rBBT GH (PySem.W.mg_of X G a4) k4 b4, PySem.W.mg_of X G a17, k17, b17, .nil⟩
  exact ok_law F18 T Z8 Z9 Z10 Z11 Z13 Z12 Z16 Z14 Z15 Z17 GH (PySem.W.mg_of X G a4) k4 b4 (kbn1 fun _ => rfl) GO (PySem.W.mg_of X G a5) k5 b5 (kbn1 fun _ => rfl)
end My
open PySem PySem.W PyProof.Rows
set_option maxRecDepth 100000 in
set_option maxHeartbeats 0 in
theorem PySem.Challenge.cw_narrowingbits_k04_hex_texts_both_ways_holds : PySem.Challenge.rw_narrowingbits_k04_hex_texts_both_ways.Holds := by
  w_on; o_law; k_head; (case hw => w_witness2)
  k_fill
  refine L2.walk_of (l := PySem.Challenge.rw_narrowingbits_k04_hex_texts_both_ways) (n := 63) (k := 6) (x := "_law_script") (CX := fun _ => L2.CX0) (sp := fun w => My.spLaw _) rfl (by decide) rfl ⟨rfl, by decide, by decide⟩ (fun w h Y => PySem.W.kIn_of Y) ?F (fun _ _ a ns hl _ hS => ⟨a, ns, rfl, hS, hl, fun _ => rfl⟩) (fun _ _ _ _ _ h => h)
  case F =>
    intro w mg fa h KX G hmg
    refine' My.all_mk KX G hmg ?eBT ?lcBT ?rvBT ?saBT ?exBT ?tyBT ?kpBT ?gaBT ?ggBT ?hdBT ?naBT ?caBT ?moBT ?sBTBT ?a0 ?l0 ?c0 ?k0 ?a1 ?l1 ?c1 ?k1 ?a2 ?l2 ?c2 ?k2 ?a3 ?l3 ?c3 ?k3 ?a4 ?l4 ?c4 ?k4 ?a5 ?l5 ?c5 ?k5 ?a6 ?l6 ?c6 ?k6 ?a7 ?i7 ?l7 ?c7 ?k7 ?a8 ?l8 ?c8 ?k8 ?a9 ?l9 ?c9 ?k9 ?a10 ?l10 ?c10 ?k10 ?a11 ?l11 ?c11 ?k11 ?a12 ?l12 ?c12 ?k12 ?a13 ?l13 ?c13 ?k13 ?a14 ?l14 ?c14 ?k14 ?a15 ?l15 ?c15 ?k15 ?a16 ?l16 ?c16 ?k16 ?a17 ?l17 ?c17 ?k17 ?a18 ?l18 ?c18 ?k18 ?y0 ?y1 ?y2 ?y3 ?y4 ?y5 ?y6 ?y7 ?eB ?eN ?m4 ?m5 ?exB ?kBc ?bBc ?tBc ?m0B ?m1B ?m2B ?m3B ?m6B ?sBB ?iNc ?tNc ?iBTc ?tBTc ?iBc ?sBN ?sBBT ?sBTN ?sBTB ?gd ?gF ?lF ?tiBT
    (case eBT => k_is)
    (case lcBT => k_is)
    (case rvBT => rfl)
    (case saBT => k_is)
    (case exBT => k_is)
    (case tyBT => k_is)
    (case kpBT => k_is)
    (case gaBT => k_is)
    (case ggBT => k_is)
    (case hdBT => k_is)
    (case naBT => k_is)
    (case caBT => k_is)
    (case moBT => k_is)
    (case sBTBT => k_is)
    (case a0 => k_is); (case l0 => k_is); (case c0 => k_is); (case k0 => k_is)
    (case a1 => k_is); (case l1 => k_is); (case c1 => k_is); (case k1 => k_is)
    (case a2 => k_is); (case l2 => k_is); (case c2 => k_is); (case k2 => k_is)
    (case a3 => k_is); (case l3 => k_is); (case c3 => k_is); (case k3 => k_is)
    (case a4 => k_is); (case l4 => k_is); (case c4 => k_is); (case k4 => k_is)
    (case a5 => k_is); (case l5 => k_is); (case c5 => k_is); (case k5 => k_is)
    (case a6 => k_is); (case l6 => k_is); (case c6 => k_is); (case k6 => k_is)
    (case a7 => k_is); (case i7 => k_is); (case l7 => k_is); (case c7 => k_is); (case k7 => k_is)
    (case a8 => k_is); (case l8 => k_is); (case c8 => k_is); (case k8 => k_is)
    (case a9 => k_is); (case l9 => k_is); (case c9 => k_is); (case k9 => k_is)
    (case a10 => k_is); (case l10 => k_is); (case c10 => k_is); (case k10 => k_is)
    (case a11 => k_is); (case l11 => k_is); (case c11 => k_is); (case k11 => k_is)
    (case a12 => k_is); (case l12 => k_is); (case c12 => k_is); (case k12 => k_is)
    (case a13 => k_is); (case l13 => k_is); (case c13 => k_is); (case k13 => k_is)
    (case a14 => k_is); (case l14 => k_is); (case c14 => k_is); (case k14 => k_is)
    (case a15 => k_is); (case l15 => k_is); (case c15 => k_is); (case k15 => k_is)
    (case a16 => k_is); (case l16 => k_is); (case c16 => k_is); (case k16 => k_is)
    (case a17 => k_is); (case l17 => k_is); (case c17 => k_is); (case k17 => k_is)
    (case a18 => k_is); (case l18 => k_is); (case c18 => k_is); (case k18 => k_is)
    (case y0 => k_is)
    (case y1 => k_is)
    (case y2 => k_is)
    (case y3 => k_is)
    (case y4 => k_is)
    (case y5 => k_is)
    (case y6 => k_is)
    (case y7 => k_is)
    (case eB => k_is)
    (case eN => k_is)
    (case m4 => k_is)
    (case m5 => k_is)
    (case kBc => k_is)
    (case bBc => k_is)
    (case tBc => k_is)
    (case m0B => k_is)
    (case m1B => k_is)
    (case m2B => k_is)
    (case m3B => k_is)
    (case m6B => k_is)
    (case sBB => k_is)
    (case iNc => k_is)
    (case tNc => k_is)
    (case iBTc => k_is)
    (case tBTc => k_is)
    (case iBc => k_is)
    (case sBN => k_is)
    (case sBBT => k_is)
    (case sBTN => k_is)
    (case sBTB => k_is)
    (case gd => k_is)
    (case gF => k_is)
    (case lF => k_is)
    (case tiBT => k_is)
    (case exB => k_exc)
