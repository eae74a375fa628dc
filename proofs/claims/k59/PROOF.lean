import PyProof.Rows.All
import Wide.All
import OpenK.AllK
import Wide.FinOn
import HandS.ForMost
import HandS.Wide
import HandS.IsInst
import HandS.Codes
import HandS.Style
import HandS.EndBits
import HandS.Walk
import HandS.FStr
import HandS.WideBits
import HandS.Defaults
import HandS.Exc
import HandS.TryOnly
import HandS.ExcOwn
import HandS.WordsExc
import HandS.ExcIs
import HandS.Lambda
import HandS.EndTab
import KE.KTupSum
import HandS.Iter
import HandS.Property
import HandS.ForList
import HandS.MakeKw
import HandS.MakeKwOnly
import KE.KExcIs
import HandS.ExcInit
import HandS.ExcField
import HandS.Replace
import HandS.More
import HandS.Text
import PySem.Challenge.RW_narrowingbits_k59_damage_that_is_told
set_option Elab.async false
set_option linter.all false
set_option maxRecDepth 100000
set_option maxHeartbeats 4000000
namespace My
open PySem PySem.Spec PyProof.Rows L2
/-! ### arithmetic -/
theorem cdivw {i j : Int} (h : 0 < j) (h2 : j < 18446744073709551616) : CDivW i j := wide_div (b := 64) h (by omega) (by decide) (by decide)
theorem cmull {i j : Int} (h : -18446744073709551616 < i) (h2 : i < 18446744073709551616) : CMul i j := .inl ⟨by omega, by omega⟩
theorem cmulr {i j : Int} (h : -18446744073709551616 < j) (h2 : j < 18446744073709551616) : CMul i j := .inr ⟨by omega, by omega⟩
theorem pow18 : ((10 : Int) ^ (18 : Int).toNat) = 1000000000000000000 := by decide +kernel
theorem pow30 : ((10 : Int) ^ (30 : Int).toNat) = 1000000000000000000000000000000 := by decide +kernel
theorem pow9 : ((10 : Int) ^ (9 : Int).toNat) = 1000000000 := by decide +kernel
theorem pool_nn (c : Int) (b : Bool) : 0 ≤ (if -1 - c > c then -1 - c else c) * (if b = true then 1 else 0) := by
  refine Int.mul_nonneg ?_ ?_
  · split <;> omega
  · split <;> decide
theorem at_lt {ns : List Int} {k : Int} (h0 : 0 ≤ k) (h : k < ((ns.map V.int).length : Int)) : ∃ z, atI (ns.map V.int) k = some (.int z) := by
  rw [List.length_map] at h
  refine ⟨ns[k.toNat]'(by omega), at_of (j := k.toNat) (by omega) ?_⟩
  rw [List.getElem?_map, List.getElem?_eq_getElem (by omega)]
  rfl
theorem at_mem {xs : List V} {r : Int} (h0 : 0 ≤ r) (h : r < (xs.length : Int)) : ∃ v, atI xs r = some v ∧ v ∈ xs := by
  refine ⟨xs[r.toNat]'(by omega), at_of (j := r.toNat) (by omega) (List.getElem?_eq_getElem (by omega)), List.getElem_mem _⟩
/-! ### heaps -/
theorem same_upd {H : Hp} {p : Addr} {o : HO} (h : H p = none) : Same H (upd H p o) := fun b x e => by
  rw [upd_ne (ne_of_none e h)]
  exact e
/-- a source of draws stands at a -/
def Src (H : Hp) (a : Addr) : Prop := ∃ x y : Int, H a = some (.lst [.int x, .int y]) ∧ 0 ≤ x ∧ 0 ≤ y ∧ y < 2147483647
/-- all but a is as it was -/
def But (a : Addr) (H H' : Hp) : Prop := ∀ b, b ≠ a → H' b = H b
theorem But.refl (a : Addr) (H : Hp) : But a H H := fun _ _ => rfl
theorem But.trans {a : Addr} {H H1 H2 : Hp} (u : But a H H1) (v : But a H1 H2) : But a H H2 := fun b e => (v b e).trans (u b e)
theorem But.upd {a : Addr} {H : Hp} {o : HO} : But a H (upd H a o) := fun b e => upd_ne e
theorem But.at {a b : Addr} {H H' : Hp} {o : HO} (u : But a H H') (n : b ≠ a) (h : H b = some o) : H' b = some o := (u b n).trans h
theorem src_same {H H' : Hp} {a : Addr} (s : Same H H') (h : Src H a) : Src H' a := by
  obtain ⟨x, y, e, r⟩ := h
  exact ⟨x, y, s _ _ e, r⟩
theorem Src.ne {H : Hp} {a p : Addr} (h : Src H a) (n : H p = none) : a ≠ p := by
  obtain ⟨x, y, e, r⟩ := h
  exact ne_of_none e n
theorem same_but {a : Addr} {G H H' : Hp} (s : Same G H) (u : But a H H') (n : G a = none) : Same G H' := fun b o e => by
  rw [u b (ne_of_none e n)]
  exact s b o e
theorem kit_ii {K : PySem.W.Frag} : PySem.W.kitOne K (.type "int") (.type "int") = some true := kit_ty (by decide +kernel)
theorem kit_ib {K : PySem.W.Frag} : PySem.W.kitOne K (.type "int") (.type "bool") = some false := kit_ty (by decide +kernel)
theorem kit_bi {K : PySem.W.Frag} : PySem.W.kitOne K (.type "bool") (.type "int") = some true := kit_ty (by decide +kernel)
theorem kit_bb {K : PySem.W.Frag} : PySem.W.kitOne K (.type "bool") (.type "bool") = some true := kit_ty (by decide +kernel)
theorem kit_tt {K : PySem.W.Frag} : PySem.W.kitOne K (.type "tuple") (.type "tuple") = some true := kit_ty (by decide +kernel)
theorem kit_ll {K : PySem.W.Frag} : PySem.W.kitOne K (.type "list") (.type "list") = some true := kit_ty (by decide +kernel)
theorem kit_tl {K : PySem.W.Frag} : PySem.W.kitOne K (.type "tuple") (.type "list") = some false := kit_ty (by decide +kernel)
theorem kit_lt {K : PySem.W.Frag} : PySem.W.kitOne K (.type "list") (.type "tuple") = some false := kit_ty (by decide +kernel)
theorem op_powc {X : Cx} {a b c : Int} (hc : CPow a b) (h : a ^ b.toNat = c) : OpR X (binaryOp .Pow) (fun x y H Q => x = .int a ∧ y = .int b ∧ Q (.int c) H) := by
  intro pins s σ H x y v u Q I rx ry h'
  obtain ⟨rfl, rfl, q⟩ := h'
  exact op_pow pins s σ H _ _ v u Q I rx ry ⟨_, _, rfl, rfl, hc, by subst h; exact q⟩
theorem dp_pair {K : PySem.W.Frag} {H : Hp} {p : Addr} {a b : Int} (h : H p = some (.tup [.int a, .int b])) : Dp K H (.ref p) (.tuple [.int a, .int b]) := .tup (.inl (.inl h)) (.cons (.int _) (.cons (.int _) .nil))
theorem eq_pair (a b : Int) : PyData.eqv (.tuple [.int a, .int b]) (.tuple [.int a, .int b]) = true := by
  simp [PyData.eqv, PyData.eqvAll]
theorem tup_eq {H : Hp} {p : Addr} {x x' y y' : Int} (h : H p = some (.tup [.int x, .int y])) (h1 : x = x') (h2 : y = y') : H p = some (.tup [.int x', .int y']) := by
  rw [← h1, ← h2]
  exact h
end My
namespace My
section
open PySem PySem.W PyProof.Rows Builtin Builtin.Str Builtin.Int Builtin.Float
def binCodes (n : Nat) : List Nat := (Nat.toDigits 2 n).map Char.toNat
theorem field_plain (ds : List Nat) (h : ds.isEmpty = false) : intField' { align := 62, type := some 98 } false [] ds [] 4 = ⟨ds.toArray⟩ := by
  unfold intField'
  simp [h]
theorem digs_ne (n : Nat) : ((Nat.toDigits 2 n).map fun c => ((if ((98 : Nat) == 88) = true then c.toUpper else c) : Char).toNat).isEmpty = false := by
  cases e : Nat.toDigits 2 n with
  | nil =>
    have := tDigits_len_ge 2 n
    rw [e] at this
    cases this
  | cons a l => rfl
theorem meets_bin {x : Int} {t : Tok} (h0 : 0 ≤ x) (hL : (Nat.toDigits 2 x.natAbs).length ≤ sizeLine) :
    ∀ u, Meets (Builtin.«int.__format__» ⟨[.int x t, .str (Str.ofString "b") u], []⟩) (fun _ R s => ∀ t' k, R (.ok (.ret (.str ⟨(binCodes x.natAbs).toArray⟩ t'))) { s with toks := k }) := by
  intro u
  apply KPc.meets_of
  intro prog w A E s Q h
  unfold Builtin.«int.__format__»
  refine wpAny_bind (wpAny_of_eq (a := (_, _)) rfl ?_)
  refine wpAny_bind (wpAny_of_eq (a := _) rfl ?_)
  kxf_if
  refine wpAny_bind (wpAny_typeNameOf (T := "str") (typeIs_str _ _ _) (by decide) fun _ => ?_)
  refine wpAny_bind (wpAny_of_eq (a := some _) rfl ?_)
  kxf_if
  kxf_if
  refine wpAny_bind (wpAny_typeNameOfCut_int ?_)
  repeat kxf_if
  refine KXf.ret_text (T := ⟨(binCodes x.natAbs).toArray⟩) ?e ?l h
  case e =>
    have hx : decide (x < 0) = false := decide_eq_false (by omega)
    rw [hx]
    show intField' { align := 62, type := some 98 } false [] ((Nat.toDigits 2 x.natAbs).map fun c => ((if ((98 : Nat) == 88) = true then c.toUpper else c) : Char).toNat) [] 4 = _
    exact field_plain _ (digs_ne _)
  case l =>
    have hx : decide (x < 0) = false := decide_eq_false (by omega)
    rw [hx]
    show (intField' { align := 62, type := some 98 } false [] ((Nat.toDigits 2 x.natAbs).map fun c => ((if ((98 : Nat) == 88) = true then c.toUpper else c) : Char).toNat) [] 4).length ≤ sizeLine
    rw [field_plain _ (digs_ne _)]
    show ((binCodes x.natAbs).toArray).size ≤ sizeLine
    rw [List.size_toArray, binCodes, List.length_map]
    exact hL
end
end My
namespace My
open PySem PySem.Spec PyProof.Rows L2
/-! ### an f-string's field in binary -/
section
variable {X : Cx}
theorem pe_fmtB {e : Expr} {te : TE} {k : Nat} {pos p1 p2 : Pos} (he : PE X e te) : PE X (.FormattedValue e (-1) (some (.JoinedStr [.Constant (.str "b") k p1] p2)) pos)
    (fun σ H Q => te σ H fun x H1 => ∃ i : Int, x = .int i ∧ 0 ≤ i ∧ (Nat.toDigits 2 i.natAbs).length ≤ sizeLine ∧ Q (.str (SX.S (binCodes i.natAbs))) H1) := by
  refine ⟨fun pins s σ H Q I h => ?_⟩
  refine wpAny_FormattedValue_spec (thn (he.run pins s σ H _ I h) fun v s1 hv => ?_)
  obtain ⟨x, H1, I1, r1, i, rfl, h0, hL, q⟩ := hv
  obtain ⟨t, rfl⟩ := r1
  refine thn ((pe_joined1 (X := X) (pe_str (x := "b") (j := k) (pos := p1)) (pos := p2)).run pins s1 σ H1 (fun y H2 => y = .str "b" ∧ H2 = H1) I1 ⟨rfl, rfl⟩) fun r s2 hr => ?_
  obtain ⟨y, H2, I2, r2, rfl, rfl⟩ := hr
  obtain ⟨t2, rfl⟩ := r2
  exact ⟨_, t2, rfl, PySem.W.KXf.field_int rfl rfl (by decide) (meets_bin h0 hL) fun t' k => ⟨.str _, _, I2.tok _, ⟨_, rfl⟩, q⟩⟩
/-- a call by keywords alone -/
theorem pe_kw0 {CX : CXT} {k : Nat} {f : Addr} {fd : FuncData} {ps ks : List Str} {sp : Sp} {E : XK} {x : Str} {p pos : Pos} {kws : List Keyword} {tk : TA} {g : List Value → List Value → List Value} {gV : List V → List V → List V}
    (F : FnOk X.prog X.w X.K X.mg X.base CX k f fd ps sp) (hr : Room k X.A) (hg : Gl X x) (hm : X.mg x = some (.ref f)) (hk : PySem.W.keepIn X.K (.ref f) = true) (hb : KBn X.K fd ps 0 ks g gV) (hx : Passes CX X E) (hkw : PK X kws tk)
    (hall : (backToKw pos (keywordEach kws X.env)).all (·.1.isSome) = true := by rfl) (hks : (backToKw pos (keywordEach kws X.env)).filterMap (·.1) = ks := by rfl) (hdb : (x == ("__debug__" : Str)) = false := by decide)
    (hpl : ((backTo pos (starEach [] X.env)).any (·.1) || (backToKw pos (keywordEach kws X.env)).any (·.1.isNone)) = false := by rfl) :
    PE X (.Call (.Name x p) [] kws pos) (fun σ H Q => tk σ H fun zs H2 => zs.length = ks.length ∧ sp (gV [] zs) H2 Q E) := by
  refine ⟨fun pins s σ H Q I h => ?_⟩
  refine wpAny_Call_Name_kw (ld_glob I hg hm ?_ hdb)
  refine PySem.W.callWith_KW0 (h₀ := X.base) I.ok.mod.kin hk hall ?_ hpl
  refine thn (hkw.run pos pins s σ H _ I h) fun ws s2 ⟨zs, H2, I2, rz, l2, q2⟩ => ⟨I2.kIn, ?_⟩
  rw [hks]
  exact run_fnN (us := []) (vs := []) F hr hb hx I2 .nil rz rfl l2 q2
/-- a def that may be called by keywords alone -/
structure CalK (P : Program) (w : World) (K : PySem.W.Frag) (mg : Str → Option Value) (base : Heap) (k : Nat) (x : Str) (ks : List Str) (sp : Sp) : Prop where
  ex : ∃ (f : Addr) (fd : FuncData) (ps : List Str), FnOk P w K mg base CX0 k f fd ps sp ∧ mg x = some (.ref f) ∧ PySem.W.keepIn K (.ref f) = true ∧ KBn K fd ps 0 ks (fun _ ws => ws) (fun _ zs => zs)
theorem pe_ck {k j : Nat} {ks : List Str} {sp : Sp} {x : Str} {p pos : Pos} {kws : List Keyword} {tk : TA} (c : CalK X.prog X.w X.K X.mg X.base k x ks sp) (hr : Room j X.A) (hk : k ≤ j) (hg : Gl X x) (hkw : PK X kws tk)
    (hall : (backToKw pos (keywordEach kws X.env)).all (·.1.isSome) = true := by rfl) (hks : (backToKw pos (keywordEach kws X.env)).filterMap (·.1) = ks := by rfl) (hdb : (x == ("__debug__" : Str)) = false := by decide)
    (hpl : ((backTo pos (starEach [] X.env)).any (·.1) || (backToKw pos (keywordEach kws X.env)).any (·.1.isNone)) = false := by rfl) :
    PE X (.Call (.Name x p) [] kws pos) (fun σ H Q => tk σ H fun zs H2 => zs.length = ks.length ∧ sp zs H2 Q E0) := by
  obtain ⟨f, fd, ps, F, hm, hkp, hb⟩ := c.ex
  exact pe_kw0 F (hr.mono hk) hg hm hkp hb pass0 hkw hall hks hdb hpl
end
/-! ### digits -/
/-- the w binary digits of n, the highest first -/
def bitsW : Nat → Nat → List Nat
  | 0, _ => []
  | w + 1, n => bitsW w (n / 2) ++ [n % 2]
theorem bitsW_len : ∀ w n, (bitsW w n).length = w
  | 0, _ => rfl
  | w + 1, n => by rw [bitsW, List.length_append, bitsW_len w (n / 2)]; rfl
theorem bitsW_bit : ∀ w n, ∀ b ∈ bitsW w n, b < 2
  | 0, _, b, h => by cases h
  | w + 1, n, b, h => by
    rw [bitsW, List.mem_append] at h
    rcases h with h | h
    · exact bitsW_bit w _ b h
    · rw [List.mem_singleton] at h
      omega
theorem digit_code {b : Nat} (h : b < 2) : (Nat.digitChar b).toNat = 48 + b := by
  match b, h with
  | 0, _ => rfl
  | 1, _ => rfl
theorem binCodes_pow : ∀ w n, n < 2 ^ w → binCodes (2 ^ w + n) = 49 :: (bitsW w n).map (48 + ·)
  | 0, n, h => by
    have e : n = 0 := by omega
    subst e
    rfl
  | w + 1, n, h => by
    have p : 2 ^ (w + 1) = 2 * 2 ^ w := by rw [Nat.pow_succ, Nat.mul_comm]
    have g : 0 < 2 ^ w := Nat.two_pow_pos w
    have ih := binCodes_pow w (n / 2) (by omega)
    unfold binCodes at ih ⊢
    rw [Nat.toDigits_of_base_le (by decide) (by omega), List.map_append, show (2 ^ (w + 1) + n) / 2 = 2 ^ w + n / 2 by omega, ih, show (2 ^ (w + 1) + n) % 2 = n % 2 by omega, bitsW, List.map_append]
    show 49 :: _ ++ [(Nat.digitChar (n % 2)).toNat] = _
    rw [digit_code (Nat.mod_lt _ (by decide))]
    rfl
/-- the digits as numbers -/
def bitsI (w n : Nat) : List Int := (bitsW w n).map fun (b : Nat) => (b : Int)
theorem bitsI_len (w n : Nat) : (bitsI w n).length = w := by rw [bitsI, List.length_map, bitsW_len]
theorem digit_int {b : Nat} (h : b < 2) : PySem.intText? ⟨#[48 + b]⟩ = some (b : Int) := by
  match b, h with
  | 0, _ => decide +kernel
  | 1, _ => decide +kernel
theorem take_snoc {α : Type} {l : List α} {i : Nat} {x : α} (h : l[i]? = some x) : l.take i ++ [x] = l.take (i + 1) := by
  rw [List.take_add_one, h]
  rfl
end My
namespace My
open PySem PySem.Spec PyProof.Rows L2
/-! ### lists of numbers compared -/
theorem eqv_same {d : PyData} (h : SeqAt.shaped d = true) : PyData.eqv d d = true := SeqAt.eqv_refl d (SeqAt.canLay_of_shaped h)
theorem dpall_ints {K : PySem.W.Frag} {H : Hp} : ∀ ns : List Int, DpAll K H (ns.map V.int) (ns.map PyData.int)
  | [] => .nil
  | n :: r => .cons (.int n) (dpall_ints r)
theorem dp_ints {K : PySem.W.Frag} {H : Hp} {p : Addr} {ns : List Int} (h : SqL K H p (ns.map V.int)) : Dp K H (.ref p) (.list (ns.map PyData.int)) := .lst h (dpall_ints ns)
theorem sh_ints (ns : List Int) : SeqAt.shaped (.list (ns.map PyData.int)) = true := PySem.W.ke_shaped_ints ns
theorem q_eqI {K : PySem.W.Frag} {H : Hp} {p q : Addr} {ns : List Int} {Q : VK} (hp : H p = some (.lst (ns.map V.int))) (hq : H q = some (.lst (ns.map V.int))) (h : Q (.bl true) H) : rEqD K (.ref p) (.ref q) H Q :=
  ⟨_, _, dp_ints (.inl (.inl hp)), dp_ints (.inl (.inl hq)), sh_ints ns, sh_ints ns, by rw [eqv_same (sh_ints ns)]; exact h⟩
theorem q_neI {K : PySem.W.Frag} {H : Hp} {p q : Addr} {ns : List Int} {Q : VK} (hp : H p = some (.lst (ns.map V.int))) (hq : H q = some (.lst (ns.map V.int))) (h : Q (.bl false) H) : rNeD K (.ref p) (.ref q) H Q :=
  ⟨_, _, dp_ints (.inl (.inl hp)), dp_ints (.inl (.inl hq)), sh_ints ns, sh_ints ns, by rw [eqv_same (sh_ints ns)]; exact h⟩
/-! ### all but the source stays -/
def Up (a : Addr) (H H' : Hp) : Prop := ∀ b o, b ≠ a → H b = some o → H' b = some o
theorem Up.refl (a : Addr) (H : Hp) : Up a H H := fun _ _ _ h => h
theorem up_same {a : Addr} {H H' : Hp} (s : Same H H') : Up a H H' := fun b o _ h => s b o h
theorem But.up {a : Addr} {H H' : Hp} (u : But a H H') : Up a H H' := fun b o n h => (u b n).trans h
theorem Up.trans {a : Addr} {H H1 H2 : Hp} (u : Up a H H1) (v : Up a H1 H2) : Up a H H2 := fun b o n h => v b o n (u b o n h)
theorem Up.to {a : Addr} {G H H' : Hp} (u : Up a H H') (s : Same G H) (n : G a = none) : Same G H' := fun b o e => u b o (ne_of_none e n) (s b o e)
theorem Up.new {a p : Addr} {H H' : Hp} (u : Up a H H') (hs : Src H' a) (n : H' p = none) : H p = none := by
  cases e : H p with
  | none => rfl
  | some o =>
    have := u p o (hs.ne n).symm e
    rw [n] at this
    cases this
theorem src_keep {a p : Addr} {H : Hp} {o : HO} (n : a ≠ p) (h : Src H a) : Src (upd H p o) a := by
  obtain ⟨x, y, e, r⟩ := h
  exact ⟨x, y, by rw [upd_ne n]; exact e, r⟩
/-! ### digits by place -/
theorem bitsW_get : ∀ w n i, i < w → (bitsW w n)[i]? = some (n / 2 ^ (w - 1 - i) % 2)
  | 0, _, i, h => absurd h (Nat.not_lt_zero i)
  | w + 1, n, i, h => by
    rw [bitsW]
    by_cases e : i = w
    · subst e
      rw [List.getElem?_append_right (by rw [bitsW_len]; exact Nat.le_refl _), bitsW_len, show i - i = 0 by omega, show i + 1 - 1 - i = 0 by omega, Nat.pow_zero, Nat.div_one]
      rfl
    · rw [List.getElem?_append_left (by rw [bitsW_len]; omega), bitsW_get w (n / 2) i (by omega), Nat.div_div_eq_div_mul, show w + 1 - 1 - i = (w - 1 - i) + 1 by omega, Nat.pow_succ, Nat.mul_comm]
theorem bitsI_get {w n i : Nat} (h : i < w) : (bitsI w n)[i]? = some (((n / 2 ^ (w - 1 - i) % 2 : Nat)) : Int) := by
  rw [bitsI, List.getElem?_map, bitsW_get w n i h]
  rfl
end My
namespace My
open PySem PySem.Spec PyProof.Rows L2
section
variable {X : Cx}
/-- X(), X an own exception class without own __init__ -/
theorem pmk_none {C : Addr} {bmB : List Value} {B newId initId : String} {x : Str} {p pos : Pos} (F : ExcBaseFacts B newId initId bmB) (q : PySem.W.excIn X.K C bmB newId = true) (gC : X.mg x = some (.ref C)) (kC : PySem.W.keepIn X.K (.ref C) = true) (r : Raises X (.ref C)) (hg : Gl X x)
    (hdb : (x == ("__debug__" : Str)) = false := by decide) : PMk X (.Call (.Name x p) [] [] pos) (fun _ H Q => Q (.ref C) none H) := by
  intro pins s σ H Q I h
  refine wpAny_Call_Name_kw (ld_glob I hg gC (PySem.W.callWith_K0 I.kIn kC ?_) hdb)
  obtain ⟨bm, N, nm, qn, bs, hdct, sn, sub, ab, col, dd, k0, k1, k2, k3, k5, mN, hC, hN, hni, T⟩ := exc_obj I.kIn q
  exact wpAny_call_exc_subT F T hC hN hni (fun _ _ hm => mk_of I hm r h (I.hok.gone hm.new)) (Nat.zero_le _)
/-- isinstance of an own class against another one -/
theorem kit_ref {K : PySem.W.Frag} {C N : Addr} {b : Bool} (i : PySem.W.isClsIn K N = true) (t : PySem.W.typeIn K (.ref N) = some (.type "type")) (s : PySem.W.subIn K (.ref C) (.ref N) = some b) (n : b = false → PySem.W.subIn K (.ref C) (.ref C) = some true) :
    PySem.W.kitOne K (.ref C) (.ref N) = some b := by
  unfold PySem.W.kitOne
  by_cases e : ((Value.ref C) == (Value.ref N)) = true
  · rw [if_pos e]
    have e2 : C = N := Value.ref.inj (beq_iff_eq.mp e)
    subst e2
    cases b with
    | true => rfl
    | false =>
      rw [n rfl] at s
      cases s
  · rw [if_neg e]
    unfold PySem.W.kitCls
    have h : ((PySem.W.clsIn K N).isSome && PySem.W.typeIn K (.ref N) == some (.type "type")) = true := by
      rw [t, Bool.and_eq_true]
      exact ⟨i, by rfl⟩
    show (if _ then _ else _) = _
    rw [if_pos h]
    exact s
/-- an own exception class at C, as the top has written it -/
structure ECls (K : PySem.W.Frag) (mg : Str → Option Value) (x : Str) (C : Addr) : Prop where
  gC : mg x = some (.ref C)
  xC : PySem.W.excIn K C [.type "ValueError", .type "Exception", .type "BaseException", .type "object"] "ValueError.__new__" = true
  kC : PySem.W.keepIn K (.ref C) = true
  bC : PySem.W.subIn K (.ref C) (.type "BaseException") = some true
  tC : PySem.W.typeIn K (.ref C) = some (.type "type")
  ex : ExcC K C
  em : PySem.W.exmOne K (.ref C) (.ref C) = some true
/-- isinstance of the exception that a suite holds, its class told in the reading -/
theorem call_isE1 {a D : Addr} {oe : Obj} {cls : Value} {d : Option Addr} {pn : List (Addr × Obj)} (C : ExcC X.K D) (hz : Zc cls d oe) (hf : ∃ vs, oe.data = .fields vs) :
    CallR (X.suite a ((a, oe) :: pn)) (.builtin "isinstance") (fun xs H Q => cls = .ref D ∧ d = none ∧ rIsE X.K D a xs H Q) := by
  intro pins s σ H xs us Q I r h
  obtain ⟨e1, e2, h⟩ := h
  subst e1 e2
  exact call_isE C hz hf pins s σ H xs us Q I r h
end
end My
namespace My
open PySem PySem.Spec PyProof.Rows L2
/-! ### bit lengths, digits, values -/
def bl (n : Nat) : Nat := Builtin.Int.intBits (n : Int)
theorem bl_zero : bl 0 = 0 := rfl
theorem bl_pos {n : Nat} (h : 0 < n) : bl n = n.log2 + 1 := by
  unfold bl Builtin.Int.intBits
  rw [if_neg (by simp; omega), Int.natAbs_natCast]
theorem bl_lt (n : Nat) : n < 2 ^ bl n := by
  cases n with
  | zero => decide
  | succ n =>
    rw [bl_pos (Nat.succ_pos n)]
    exact Nat.lt_log2_self
theorem bl_le {n k : Nat} (h : n < 2 ^ k) : bl n ≤ k := PyProof.Rows.intBits_le (by rw [Int.natAbs_natCast]; exact h)
theorem bl_half {n : Nat} (h : 0 < n) : bl n = bl (n / 2) + 1 := by
  rw [bl_pos h]
  by_cases e : n = 1
  · subst e
    decide
  · rw [bl_pos (by omega), Nat.log2_def, if_pos (by omega)]
theorem bitsI_succ (w n : Nat) : bitsI (w + 1) n = bitsI w (n / 2) ++ [((n % 2 : Nat) : Int)] := by
  unfold bitsI
  rw [bitsW, List.map_append]
  rfl
def digs (n : Nat) : List Int := bitsI (bl n) n
theorem digs_zero : digs 0 = [] := rfl
theorem digs_step {n : Nat} (h : 0 < n) : digs n = digs (n / 2) ++ [((n % 2 : Nat) : Int)] := by
  unfold digs
  rw [bl_half h, bitsI_succ]
theorem digs_len (n : Nat) : (digs n).length = bl n := bitsI_len _ _
theorem digs_head : ∀ {n : Nat}, 0 < n → ∃ r, digs n = 1 :: r := by
  intro n
  induction n using Nat.strongRecOn with
  | _ n ih =>
    intro h
    rw [digs_step h]
    by_cases e : n = 1
    · subst e
      exact ⟨[], rfl⟩
    · obtain ⟨r, hr⟩ := ih (n / 2) (by omega) (by omega)
      rw [hr]
      exact ⟨r ++ [((n % 2 : Nat) : Int)], rfl⟩
def valI (xs : List Int) : Int := xs.foldl (fun v b => 2 * v + b) 0
theorem valI_snoc (xs : List Int) (b : Int) : valI (xs ++ [b]) = 2 * valI xs + b := by
  unfold valI
  rw [List.foldl_append]
  rfl
theorem valI_bits : ∀ w n, n < 2 ^ w → valI (bitsI w n) = n
  | 0, n, h => by
    have e : n = 0 := by omega
    subst e
    rfl
  | w + 1, n, h => by
    have p : 2 ^ (w + 1) = 2 * 2 ^ w := by rw [Nat.pow_succ, Nat.mul_comm]
    rw [bitsI_succ, valI_snoc, valI_bits w (n / 2) (by omega)]
    omega
theorem valI_digs (n : Nat) : valI (digs n) = n := valI_bits _ _ (bl_lt n)
theorem bitsI_bit {w n : Nat} {x : Int} (h : x ∈ bitsI w n) : 0 ≤ x ∧ x ≤ 1 := by
  obtain ⟨b, hb, rfl⟩ := List.mem_map.mp h
  have := bitsW_bit w n b hb
  omega
/-- all of them are bits -/
def AreBits (xs : List Int) : Prop := ∀ x ∈ xs, 0 ≤ x ∧ x ≤ 1
theorem AreBits.app {xs ys : List Int} (h : AreBits xs) (g : AreBits ys) : AreBits (xs ++ ys) := fun x m => by
  rcases List.mem_append.mp m with m | m
  · exact h x m
  · exact g x m
theorem AreBits.take {xs : List Int} (h : AreBits xs) (n : Nat) : AreBits (xs.take n) := fun x m => h x (List.mem_of_mem_take m)
theorem AreBits.zeros (n : Nat) : AreBits (List.replicate n 0) := fun x m => by
  rw [(List.mem_replicate.mp m).2]
  decide
/-- the code of a count -/
def code (c : Nat) : List Int := List.replicate (bl (c + 1) - 1) 0 ++ digs (c + 1)
theorem code_len (c : Nat) : (code c).length = 2 * bl (c + 1) - 1 := by
  have := bl_half (n := c + 1) (by omega)
  unfold code
  rw [List.length_append, List.length_replicate, digs_len]
  omega
theorem code_bits (c : Nat) : AreBits (code c) := (AreBits.zeros _).app fun _ m => bitsI_bit m
theorem flat_zeros (n : Nat) : (List.replicate n [V.int 0]).flatten = (List.replicate n (0 : Int)).map V.int := by
  induction n with
  | zero => rfl
  | succ n ih =>
    rw [List.replicate_succ, List.flatten_cons, ih, List.replicate_succ]
    rfl
theorem new_at {a p : Addr} {H : Hp} {o o' : HO} (h : H a = some o) (n : H p = none) : (upd H p o') a = some o := by
  rw [upd_ne (ne_of_none h n)]
  exact h
theorem cut_int {xs : List V} {x y : Int} {i k : Nat} (hx : x = (i : Int)) (hy : y = (k : Int)) (hik : i ≤ xs.length) (hk : k ≤ xs.length) : cutV xs (some x) (some y) = (xs.drop i).take (k - i) := by
  subst hx hy
  unfold cutV
  rw [HT.sIx_nat, HT.sIx_nat, Nat.min_eq_left hik, Nat.min_eq_left hk]
theorem cut_to {xs : List V} {y : Int} {k : Nat} (hy : y = (k : Int)) (hk : k ≤ xs.length) : cutV xs none (some y) = xs.take k := by
  subst hy
  unfold cutV
  rw [HT.sIx_none, HT.sIx_nat, Nat.min_eq_left hk, List.drop_zero, Nat.sub_zero]
theorem cut_any {xs : List V} {x y : Int} {i k : Nat} (hx : x = (i : Int)) (hy : y = (k : Int)) (hik : i ≤ xs.length) : cutV xs (some x) (some y) = (xs.drop i).take (k - i) := by
  subst hx hy
  unfold cutV
  rw [HT.sIx_nat, HT.sIx_nat, Nat.min_eq_left hik]
  by_cases h : k ≤ xs.length
  · rw [Nat.min_eq_left h]
  · rw [Nat.min_eq_right (by omega), List.take_of_length_le (by rw [List.length_drop]; omega), List.take_of_length_le (by rw [List.length_drop]; omega)]
/-! ### reading a count -/
/-- zeros ahead of the first 1 -/
def lz : List Int → Nat
  | [] => 0
  | x :: r => if x = 0 then lz r + 1 else 0
theorem lz_le : ∀ l : List Int, lz l ≤ l.length
  | [] => Nat.le_refl _
  | x :: r => by
    have := lz_le r
    simp only [lz, List.length_cons]
    split <;> omega
theorem lz_more : ∀ {l : List Int} {k : Nat}, k ≤ lz l → l[k]? = some 0 → k + 1 ≤ lz l
  | [], k, _, h => by simp at h
  | x :: r, 0, _, h => by
    have e : x = 0 := Option.some.inj h
    simp only [lz, e, if_true]
    omega
  | x :: r, k + 1, hk, h => by
    simp only [lz] at hk ⊢
    by_cases e : x = 0
    · rw [if_pos e] at hk ⊢
      have := lz_more (l := r) (k := k) (by omega) h
      omega
    · rw [if_neg e] at hk
      omega
theorem lz_stop : ∀ {l : List Int} {k : Nat} {x : Int}, k ≤ lz l → l[k]? = some x → x ≠ 0 → lz l = k
  | [], k, _, _, h, _ => by simp at h
  | y :: r, 0, x, _, h, hx => by
    have e : y = x := Option.some.inj h
    simp only [lz, e, if_neg hx]
  | y :: r, k + 1, x, hk, h, hx => by
    simp only [lz] at hk ⊢
    by_cases e : y = 0
    · rw [if_pos e] at hk ⊢
      have := lz_stop (l := r) (k := k) (x := x) (by omega) h hx
      omega
    · rw [if_neg e] at hk
      omega
theorem lz_zeros : ∀ (k : Nat) (l : List Int), lz (List.replicate k 0 ++ l) = k + lz l
  | 0, l => by simp
  | k + 1, l => by
    rw [List.replicate_succ, List.cons_append, lz, if_pos rfl, lz_zeros k l]
    omega
inductive RC where
  | long : RC
  | short : RC
  | read (v : Int) (stop : Nat) : RC
def readC (xs : List Int) (a : Nat) : RC :=
  if 40 < lz (xs.drop a) then .long else if xs.length < a + lz (xs.drop a) + 1 + lz (xs.drop a) then .short
  else .read (valI ((xs.drop (a + lz (xs.drop a))).take (lz (xs.drop a) + 1)) - 1) (a + lz (xs.drop a) + 1 + lz (xs.drop a))
def rcV : RC → List V
  | .long => [.str "long"]
  | .short => [.str "short"]
  | .read v s => [.str "read", .int v, .int s]
/-- a signed number of a count -/
def sgnR : RC → RC
  | .read v s => .read (if v % 2 = 0 then v / 2 else (-(v + 1)) / 2) s
  | r => r
theorem read_code {A B : List Int} {c : Nat} (h : c + 1 < 2 ^ 41) : readC (A ++ code c ++ B) A.length = .read c (A.length + (code c).length) := by
  obtain ⟨r, hr⟩ := digs_head (n := c + 1) (by omega)
  have l1 := bl_half (n := c + 1) (by omega)
  have l2 : bl (c + 1) ≤ 41 := bl_le h
  have e1 : (A ++ code c ++ B).drop A.length = List.replicate (bl (c + 1) - 1) 0 ++ (digs (c + 1) ++ B) := by
    rw [List.append_assoc, List.drop_left' rfl, code, List.append_assoc]
  have e2 : lz ((A ++ code c ++ B).drop A.length) = bl (c + 1) - 1 := by
    rw [e1, lz_zeros, hr]
    simp [lz]
  have e3 : (A ++ code c ++ B).drop (A.length + (bl (c + 1) - 1)) = digs (c + 1) ++ B := by
    rw [← List.drop_drop, e1, List.drop_left' (by rw [List.length_replicate])]
  have e4 : (digs (c + 1) ++ B).take (bl (c + 1) - 1 + 1) = digs (c + 1) := by
    rw [List.take_left' (by rw [digs_len]; omega)]
  unfold readC
  rw [e2, if_neg (by omega), if_neg (by rw [List.length_append, List.length_append, code_len]; omega), e3, e4, valI_digs, code_len]
  congr 1
  · omega
  · omega
theorem read_cut {A : List Int} {c t : Nat} (h : c + 1 < 2 ^ 41) (ht : t < (code c).length) : readC (A ++ (code c).take t) A.length = .short := by
  obtain ⟨r, hr⟩ := digs_head (n := c + 1) (by omega)
  have l1 := bl_half (n := c + 1) (by omega)
  have l2 : bl (c + 1) ≤ 41 := bl_le h
  rw [code_len] at ht
  have e0 : (A ++ (code c).take t).length = A.length + t := by
    rw [List.length_append, List.length_take, code_len]
    omega
  have e1 : (A ++ (code c).take t).drop A.length = (code c).take t := List.drop_left' rfl
  by_cases q : t ≤ bl (c + 1) - 1
  · have e2 : (code c).take t = List.replicate t 0 := by
      unfold code
      rw [List.take_append_of_le_length (by rw [List.length_replicate]; exact q), List.take_replicate, Nat.min_eq_left q]
    have e3 : lz ((A ++ (code c).take t).drop A.length) = t := by
      rw [e1, e2]
      have := lz_zeros t []
      rw [List.append_nil] at this
      rw [this]
      rfl
    unfold readC
    rw [e3, if_neg (by omega), if_pos (by rw [e0]; omega)]
  · have e2 : (code c).take t = List.replicate (bl (c + 1) - 1) 0 ++ (digs (c + 1)).take (t - (bl (c + 1) - 1)) := by
      unfold code
      rw [List.take_append, List.length_replicate, List.take_of_length_le (by rw [List.length_replicate]; omega)]
    have e3 : lz ((A ++ (code c).take t).drop A.length) = bl (c + 1) - 1 := by
      rw [e1, e2, lz_zeros, hr]
      obtain ⟨m, hm⟩ : ∃ m, t - (bl (c + 1) - 1) = m + 1 := ⟨t - (bl (c + 1) - 1) - 1, by omega⟩
      rw [hm, List.take_succ_cons]
      simp [lz]
    unfold readC
    rw [e3, if_neg (by omega), if_pos (by rw [e0]; omega)]
/-! ### what is told, as data -/
def rcD : RC → List PyData
  | .long => [.str "long"]
  | .short => [.str "short"]
  | .read v s => [.str "read", .int v, .int s]
theorem dp_rc {K : PySem.W.Frag} {H : Hp} {p : Addr} {r : RC} (h : H p = some (.tup (rcV r))) : Dp K H (.ref p) (.tuple (rcD r)) := by
  cases r with
  | long => exact .tup (.inl (.inl h)) (.cons (.str _) .nil)
  | short => exact .tup (.inl (.inl h)) (.cons (.str _) .nil)
  | read v s => exact .tup (.inl (.inl h)) (.cons (.str _) (.cons (.int _) (.cons (.int _) .nil)))
theorem sh_rc (r : RC) : SeqAt.shaped (.tuple (rcD r)) = true := by
  cases r with
  | long => decide +kernel
  | short => decide +kernel
  | read v s =>
    have h : PyData.canLay0 (.str "read") = true := by decide +kernel
    simp [SeqAt.shaped, rcD, PyData.canLay0, PyData.canLayAll0, PyData.depth, PyData.depthAll] at h ⊢
    try exact h
theorem q_neR {K : PySem.W.Frag} {H : Hp} {p q : Addr} {r : RC} {Q : VK} (hp : H p = some (.tup (rcV r))) (hq : H q = some (.tup (rcV r))) (h : Q (.bl false) H) : rNeD K (.ref p) (.ref q) H Q :=
  ⟨_, _, dp_rc hp, dp_rc hq, sh_rc r, sh_rc r, by rw [eqv_same (sh_rc r)]; exact h⟩
end My
namespace My
open PySem PySem.Spec PyProof.Rows L2
/-! ### several except clauses, each with a name -/
abbrev Clause := Value × Nat × (Addr → Value → Option Addr → TS)
def wAll (K : PySem.W.Frag) (Wout : WX) (D : Ends) : List Clause → WX
  | [] => Wout
  | (c, i, ts) :: more => wAs K c i ts (wAll K Wout D more) D
inductive Clauses (X : Cx) : List ExceptHandler → List Clause → Prop
  | done : Clauses X [] []
  | step {x n : Str} {c : Value} {i : Nat} {ts : Addr → Value → Option Addr → TS} {first : Stmt} {others : List Stmt} {p1 p2 : Pos} {hds : List ExceptHandler} {cs : List Clause}
      (cl : Names X x c) (slot : X.N[i]? = some n) (lo : X.env.kindOf n = some .local)
      (body : ∀ (a : Addr) (oe : Obj) (cls : Value) (d : Option Addr) (pn : List (Addr × Obj)), Zc cls d oe → (∃ vs, oe.data = .fields vs) → PSs (X.suite a ((a, oe) :: pn)) (first :: others) (ts a cls d))
      (more : Clauses X hds cs) : Clauses X (.ExceptHandler (some (.Name x p1)) (some n) (first :: others) p2 :: hds) ((c, i, ts) :: cs)
section
variable {X : Cx} {todo : List Stmt} {h0 : ExceptHandler} {hds : List ExceptHandler} {cs : List Clause} {pos : Pos} {tb : WX → TS} {Wout : WX}
theorem ps_try_all (e1 : X.stack = X.env :: X.outer) (e2 : X.env.frame = some X.env.locals) (nd : X.N.Nodup) (tk : Takes X Wout)
    (run : ∀ (W : WX) (pn : List (Addr × Obj)) (xe : Value → Shared → Prop), Takes (X.tr pn xe) W → PassesOwn (model X.prog X.w) X.A X.env xe → PSs (X.tr pn xe) todo (tb W))
    (all : Clauses X (h0 :: hds) cs) : PS X (.Try todo (h0 :: hds) [] [] pos) (fun D σ H => tb (wAll X.K Wout D cs) D σ H) := by
  constructor
  intro pins s σ H D I reading
  have here := I.ok
  have fr : X.A.frames = some (X.env :: X.outer) := by
    rw [here.frames, e1]
  apply wpAny_Try_except
  refine wpAny_mono ((run (wAll X.K Wout D cs) (X.pn ++ pins) _ (fun u t caught => ?landing) PassesOwn.looking).run [] s σ H D (I.toTry _) reading) (fun f t out => ?through) (fun _ _ z => z)
  case through =>
    cases f with
    | ret v =>
      obtain ⟨x, σ', H', J, rx, q⟩ := out
      exact ⟨x, σ', H', J.ofTry here, rx, q⟩
    | cont =>
      obtain ⟨σ', H', J, q⟩ := out
      exact ⟨σ', H', J.ofTry here, q⟩
    | brk =>
      obtain ⟨σ', H', J, q⟩ := out
      exact ⟨σ', H', J.ofTry here, q⟩
    | next =>
      obtain ⟨σ', H', J, q⟩ := out
      exact wpAny_execs_nil ⟨σ', H', J.ofTry here, q⟩
  case landing =>
    obtain ⟨a, B, sI, old, σ', H', cls, d, rfl, J0, nb, grown, sky0, fresh, os, bare, wish⟩ := caught
    have J : Inv X pins σ' H' sI := J0.ofTry here
    have sky : Sky B (X.env :: X.outer) a (Zc cls d) X.env.locals t.heap := e1 ▸ sky0
    refine Sky.land Zc.steady fr e2 sky (fun g fly up => ?_)
    have JG : Inv X pins σ' H' { t with heap := g } := J.landed nb fly.1 (grown.trans up) os bare
    obtain ⟨oe, vs, hoe, hz, hdat⟩ := fly.there
    have apart : a ∉ frs (X.env :: X.outer) := by
      intro m
      obtain ⟨_, o2, g2, no⟩ := fly.2.2.1.mem m
      rw [hoe] at g2
      cases g2
      exact no _ hdat
    have aL : a ≠ X.env.locals := by
      intro z
      exact apart (List.mem_filterMap.mpr ⟨X.env, List.mem_cons_self, by rw [e2, z]⟩)
    have aF : a ∉ X.fs := by
      intro m
      obtain ⟨ev, me, q⟩ := List.mem_filterMap.mp m
      exact apart (List.mem_filterMap.mpr ⟨ev, List.mem_cons_of_mem _ me, q⟩)
    have SG := JG.suite hoe hdat fresh aL aF
    have goOn : ∀ {hs2 : List ExceptHandler} {cs2 : List Clause}, Clauses X hs2 cs2 → wAll X.K Wout D cs2 cls d σ' H' → wpAny (model X.prog X.w) X.A (handleBy (.ref a) X.env hs2) (SP X pins D) X.xe { t with heap := g } := by
      intro hs2 cs2 k
      induction k with
      | done =>
        intro wsh
        apply wpAny_handleBy_nil
        obtain ⟨_, _, _, ob, fs, T, oT, ts', g1, z1, d1, f1, _⟩ := id fly
        have leave : wpAny (model X.prog X.w) X.A (setFlight (.ref a) X.env.frame) (fun _ t2 => wpAny (model X.prog X.w) X.A (throw (.ref a) : Sem Flow) (SP X pins D) X.xe t2) X.xe { t with heap := g } := by
          rw [e2]
          exact HandSPX.setFlight_upZ fly fun g3 fly3 up3 => wpAny_throw (tk _ _ ⟨a, B, sI, pins, σ', H', cls, d, rfl, J, nb, (grown.trans up).trans up3, .inr (.inr (e1.symm ▸ fly3)), fresh, os, bare, wsh⟩)
        unfold PySem.passOn
        apply wpAny_bind
        refine wpAny_field g1 d1 f1 ?_
        rw [if_neg (by simp)]
        first
          | exact wpAny_bind leave
          | exact wpAny_bind (wpAny_pure (wpAny_bind leave))
      | @step x n c i ts fst oth p1 p2 hs3 cs3 cl slot lo body more ih =>
        intro wsh
        obtain ⟨b, hb, yes, no⟩ := wsh
        have tyOf : PySem.W.Looks (model X.prog X.w) g (typeOf (.ref a)) cls := fun _ _ _ _ k q => wpAny_typeOf_ref (k _ _ hoe) (hz.1.symm ▸ q)
        have ask := PySem.W.exm_one (M := model X.prog X.w) JG.kIn tyOf hb
        refine wpAny_handleBy_cons (codeAny_handlers_test ?_) (fun z => by cases z)
        have named : ∀ {Q : Value → Shared → Prop} {E : Value → Shared → Prop}, Q c { t with heap := g } → wpAny (model X.prog X.w) (X.A.mark (some (.ref a))) (eval (.Name x p1) X.env) Q E { t with heap := g } := by
          intro Q E q
          obtain ⟨isG, nodbg, isM | ⟨isM, isB, nn⟩⟩ := cl
          · exact ld_glob (X := X.suite a ((a, oe) :: (X.pn ++ pins))) SG isG isM q nodbg
          · exact ld_blt (X := X.suite a ((a, oe) :: (X.pn ++ pins))) SG isG isM isB q nn nodbg
        refine named (ask.here ?_)
        cases b with
        | false => exact ih (no rfl)
        | true =>
          apply codeAny_handlers_suite_as
          refine HandSPX.lands_againZ fly (fun g4 fly4 up4 => ?_)
          have J4 : Inv X pins σ' H' { t with heap := g4 } := J.landed nb fly4.1 ((grown.trans up).trans up4) os bare
          obtain ⟨oe4, vs4, hoe4, hz4, hdat4⟩ := fly4.there
          have S4 := J4.suite hoe4 hdat4 fresh aL aF
          refine store_ok (X := X.suite a ((a, oe4) :: (X.pn ++ pins))) (v := .ref a) S4 nd slot (.inl lo) rfl (fun t5 S5 => ?_) (.inr lo)
          refine wpAny_mono ((body a oe4 cls d (X.pn ++ pins) hz4 ⟨_, hdat4⟩).run [] t5 _ H' _ S5 (yes rfl a fresh)) (fun f t6 out => ?_) (fun _ _ z => z.elim)
          have unname : ∀ {σ6 : L2.St} {H6 : Hp} {Q : Shared → Prop}, Inv (X.suite a ((a, oe4) :: (X.pn ++ pins))) [] σ6 H6 t6 → (∀ t7, Inv X pins (σ6.set i none) H6 t7 → Q t7) →
              wpAny (model X.prog X.w) X.A (do bindName X.env n .none; unbindBehindTheSuite X.env n p2) (fun _ t7 => Q t7) X.xe t6 := by
            intro σ6 H6 Q S6 hq
            exact gone_ok (S6.unsuite here) nd slot lo hq
          cases f with
          | ret u =>
            obtain ⟨v6, σ6, H6, S6, r6, q6⟩ := out
            exact unname S6 fun t7 J7 => ⟨v6, _, _, J7, r6, q6⟩
          | cont =>
            obtain ⟨σ6, H6, S6, q6⟩ := out
            exact unname S6 fun t7 J7 => ⟨_, _, J7, q6⟩
          | brk =>
            obtain ⟨σ6, H6, S6, q6⟩ := out
            exact unname S6 fun t7 J7 => ⟨_, _, J7, q6⟩
          | next =>
            obtain ⟨σ6, H6, S6, q6⟩ := out
            exact unname S6 fun t7 J7 => ⟨_, _, J7, q6⟩
    exact goOn all wish
end
end My
namespace My
open PySem PySem.Spec PyProof.Rows L2
/-! ### shapes of data, for comparing -/
structure ShD (n : Nat) (d : PyData) : Prop where
  lay : d.canLay0 = true
  dep : d.depth ≤ n
theorem ShD.sh {n : Nat} {d : PyData} (h : ShD n d) (hn : n ≤ 64) : SeqAt.shaped d = true := by
  unfold SeqAt.shaped
  rw [h.lay, decide_eq_true (Nat.le_trans h.dep hn)]
  rfl
theorem ShD.mono {n m : Nat} {d : PyData} (h : ShD n d) (hn : n ≤ m) : ShD m d := ⟨h.lay, Nat.le_trans h.dep hn⟩
theorem shd_int {n : Nat} (i : Int) : ShD n (.int i) := ⟨by simp [PyData.canLay0], by simp [PyData.depth]⟩
theorem shd_bl {n : Nat} (b : Bool) : ShD n (.bool b) := ⟨by simp [PyData.canLay0], by simp [PyData.depth]⟩
theorem shd_non {n : Nat} : ShD n .none := ⟨by simp [PyData.canLay0], by simp [PyData.depth]⟩
theorem shd_str {n : Nat} {x : Str} (h : PyData.canLay0 (.str x) = true) : ShD n (.str x) := ⟨h, by simp [PyData.depth]⟩
theorem shd_all {n : Nat} : ∀ {ds : List PyData}, (∀ d ∈ ds, ShD n d) → PyData.canLayAll0 ds = true ∧ PyData.depthAll ds ≤ n
  | [], _ => ⟨rfl, Nat.zero_le _⟩
  | d :: r, h => by
    have h1 := h d List.mem_cons_self
    have h2 := shd_all (ds := r) fun x m => h x (List.mem_cons_of_mem _ m)
    refine ⟨?_, ?_⟩
    · rw [PyData.canLayAll0, h1.lay, h2.1]
      rfl
    · rw [PyData.depthAll]
      exact Nat.max_le.mpr ⟨h1.dep, h2.2⟩
theorem shd_lst {n : Nat} {ds : List PyData} (h : ∀ d ∈ ds, ShD n d) : ShD (n + 1) (.list ds) := ⟨by rw [PyData.canLay0]; exact (shd_all h).1, by rw [PyData.depth]; exact Nat.succ_le_succ (shd_all h).2⟩
theorem shd_tup {n : Nat} {ds : List PyData} (h : ∀ d ∈ ds, ShD n d) : ShD (n + 1) (.tuple ds) := ⟨by rw [PyData.canLay0]; exact (shd_all h).1, by rw [PyData.depth]; exact Nat.succ_le_succ (shd_all h).2⟩
theorem shd_ints {n : Nat} (ns : List Int) : ShD (n + 1) (.list (ns.map PyData.int)) := shd_lst fun d m => by
  obtain ⟨i, _, rfl⟩ := List.mem_map.mp m
  exact shd_int i
theorem q_eqS {K : PySem.W.Frag} {H : Hp} {x y : V} {d : PyData} {Q : VK} (hx : Dp K H x d) (hy : Dp K H y d) (s : SeqAt.shaped d = true) (h : Q (.bl true) H) : rEqD K x y H Q :=
  ⟨_, _, hx, hy, s, s, by rw [eqv_same s]; exact h⟩
theorem q_neS {K : PySem.W.Frag} {H : Hp} {x y : V} {d : PyData} {Q : VK} (hx : Dp K H x d) (hy : Dp K H y d) (s : SeqAt.shaped d = true) (h : Q (.bl false) H) : rNeD K x y H Q :=
  ⟨_, _, hx, hy, s, s, by rw [eqv_same s]; exact h⟩
/-! ### a body that may let out what is caught -/
theorem pss_ex {X : Cx} {W : WX} {n : Nat} {ss : List Stmt} {r : XK → TS} (h : ∀ E : XK, (∀ cls d σ' H', E cls d H' → σ'.length = n → W cls d σ' H') → PSs X ss (r E)) :
    PSs X ss (fun D σ H => ∃ E : XK, (∀ cls d σ' H', E cls d H' → σ'.length = n → W cls d σ' H') ∧ r E D σ H) :=
  ⟨fun pins s σ H D I ⟨E, hE, q⟩ => (h E hE).run pins s σ H D I q⟩
theorem takes_len {X : Cx} {W : WX} (t : Takes X W) : Takes X (fun c d σ H => σ.length = X.N.length → W c d σ H) := fun u s' ⟨a, B, sI, pins, σ, H, cls, d, e, I, nb, up, sky, na, os, ag, w⟩ =>
  t u s' ⟨a, B, sI, pins, σ, H, cls, d, e, I, nb, up, sky, na, os, ag, w I.len⟩
theorem vk_mono {tl : XK → Hp → VK → Prop} {E : XK} {H : Hp} {R R' : VK} (he : ∀ v H1, R v H1 ↔ R' v H1) (h : tl E H R) : tl E H R' := by
  have e : R = R' := funext fun v => funext fun H1 => propext (he v H1)
  rw [← e]
  exact h
theorem len3 {σ : L2.St} (h : σ.length = 3) : ∃ x y z, σ = [x, y, z] := match σ, h with | [x, y, z], _ => ⟨x, y, z, rfl⟩
/-! ### a def that makes lambdas: its code object is known -/
structure FunC (K : PySem.W.Frag) (x qual : Str) (st : Stmt) (f : Addr) (fd : FuncData) (c : Addr) : Prop where
  ex : ∃ (oc : Value) (od : Option Addr) (kV doc pm : Value) (an : Option Addr) (ct : Value) (osl : Array (Option Value)),
    fd = PySem.W.fnOf x qual (defArgs st) (defBody st) (defScope st) .none kV doc pm an (.ref c) ct ∧ K.lookup f = some ⟨oc, od, .func fd, osl⟩ ∧ PySem.W.codeIn K (.ref c) qual = true
theorem FunC.ok {P : Program} {w : World} {K : PySem.W.Frag} {mg : Str → Option Value} {base : Heap} {x qual : Str} {st : Stmt} {f c : Addr} {fd : FuncData} {N ps : List Str} {k : Nat} {sp : Sp} (F : FunC K x qual st f fd c) (S : FnScope N ps (defScope st)) (len : ∀ vs H Q E, sp vs H Q E → vs.length = ps.length)
    (hbody : ∀ (A : Around) (outer : List Env) (s : Shared) (H : Hp) (vs : List V) (Q : VK) (E : XK), Room k (A.deeper (envOfC qual (defScope st) s.heap.objs.size f (.ref c))) → sp vs H Q E →
      ∃ t, PSs (cxOf CX0 P w K mg base N qual (defScope st) f (.ref c) A outer s H E).nox (defBody st) t ∧ t { nx := fun _ H' => Q .non H', rt := Q } (start N vs) H) : FnOk P w K mg base CX0 (k + 1) f fd ps sp := by
  obtain ⟨oc, od, kV, doc, pm, an, ct, osl, rfl, lk, hcd⟩ := F.ex
  refine fn_of lk hcd S len fun A outer s H vs Q E hr hsp => ?_
  obtain ⟨t, h, q⟩ := hbody A outer s H vs Q E hr hsp
  exact ⟨t, h.nox, q⟩
theorem funC_mk {K : PySem.W.Frag} {x qual : Str} {st : Stmt} {f c0 : Addr} {oc : Value} {od an : Option Addr} {osl : Array (Option Value)} {kV doc pm ct : Value} (l : K.lookup f = some ⟨oc, od, .func (PySem.W.fnOf x qual (defArgs st) (defBody st) (defScope st) .none kV doc pm an (.ref c0) ct), osl⟩)
    (c : PySem.W.codeIn K (.ref c0) qual = true) : FunC K x qual st f (PySem.W.fnOf x qual (defArgs st) (defBody st) (defScope st) .none kV doc pm an (.ref c0) ct) c0 := ⟨⟨oc, od, kV, doc, pm, an, ct, osl, rfl, l, c⟩⟩
/-! ### tables beside draws -/
def UpN (a : Addr) (H H' : Hp) : Prop := ∀ b o, b ≠ a → H b = some o → (∀ ps, o ≠ .tbl ps) → H' b = some o
theorem UpN.refl (a : Addr) (H : Hp) : UpN a H H := fun _ _ _ h _ => h
theorem UpN.trans {a : Addr} {H H1 H2 : Hp} (u : UpN a H H1) (v : UpN a H1 H2) : UpN a H H2 := fun b o n h t => v b o n (u b o n h t) t
theorem Up.n {a : Addr} {H H' : Hp} (u : Up a H H') : UpN a H H' := fun b o n h _ => u b o n h
theorem ext_n {a : Addr} {H H' : Hp} (x : LamX.ExtN H H') : UpN a H H' := fun b o _ h t => x b o h t
theorem Src.ext {a : Addr} {H H' : Hp} (x : LamX.ExtN H H') (s : Src H a) : Src H' a := by
  obtain ⟨u, v, e, r⟩ := s
  exact ⟨u, v, x _ _ e (fun ps z => by cases z), r⟩
theorem tabs_up {T : List (Addr × Str)} {a : Addr} {H H' : Hp} (t : LamX.Tabs T H) (u : Up a H H') (s : Src H a) : LamX.Tabs T H' := fun p hp => by
  obtain ⟨x, y, e, _⟩ := s
  obtain ⟨ps, h1, h2, h3⟩ := t p hp
  refine ⟨ps, u _ _ (fun z => ?_) h1, h2, fun pos cv hc => ?_⟩
  · rw [z, e] at h1
    cases h1
  · obtain ⟨c, e1, e2⟩ := h3 pos cv hc
    refine ⟨c, e1, u _ _ (fun z => ?_) e2⟩
    rw [z, e] at e2
    unfold LamX.CodeO at e2
    cases e2
theorem tabs_same {T : List (Addr × Str)} {H H' : Hp} (t : LamX.Tabs T H) (s : Same H H') : LamX.Tabs T H' := t.ext fun b o e => s b o e
theorem ext_same {H H' : Hp} (s : Same H H') : LamX.ExtN H H' := fun b o e _ => s b o e
theorem UpN.to {a : Addr} {G H H' : Hp} (u : UpN a H H') (x : LamX.ExtN G H) (n : G a = none) : LamX.ExtN G H' := fun b o e t => u b o (ne_of_none e n) (x b o e t) t
theorem ext_seq {K : PySem.W.Frag} {H H' : Hp} {a : Addr} {xs : List V} (x : LamX.ExtN H H') (h : SqL K H a xs) : SqL K H' a xs := by
  rcases h with (h | ⟨o, h⟩) | h
  · exact .inl (.inl (x _ _ h (fun ps z => nomatch z)))
  · exact .inl (.inr ⟨o, x _ _ h (fun ps z => nomatch z)⟩)
  · exact .inr h
/-! ### the value of bits -/
theorem valI_lt : ∀ (n : Nat) (xs : List Int), xs.length = n → AreBits xs → ∃ z : Nat, valI xs = (z : Int) ∧ z < 2 ^ n
  | 0, xs, h, _ => by
    rw [List.length_eq_zero_iff.mp h]
    exact ⟨0, rfl, by decide⟩
  | n + 1, xs, h, hb => by
    rcases List.eq_nil_or_concat xs with rfl | ⟨ys, y, rfl⟩
    · cases h
    have hl : ys.length = n := by
      rw [List.length_concat] at h
      omega
    rw [List.concat_eq_append] at hb ⊢
    obtain ⟨z, hz, hz2⟩ := valI_lt n ys hl fun b m => hb b (List.mem_append_left _ m)
    have hb2 := hb y (List.mem_append_right _ (List.mem_singleton.mpr rfl))
    rw [valI_snoc, hz]
    have p : 2 ^ (n + 1) = 2 * 2 ^ n := by rw [Nat.pow_succ, Nat.mul_comm]
    exact ⟨2 * z + y.toNat, by omega, by omega⟩
/-! ### digits with zeros ahead -/
theorem bitsW_zero : ∀ d, bitsW d 0 = List.replicate d 0
  | 0 => rfl
  | d + 1 => by
    rw [bitsW, Nat.zero_div, bitsW_zero d, List.replicate_succ']
theorem bitsW_pad (d : Nat) : ∀ w n, n < 2 ^ w → bitsW (d + w) n = List.replicate d 0 ++ bitsW w n
  | 0, n, h => by
    have e : n = 0 := by omega
    subst e
    rw [Nat.add_zero, bitsW_zero, bitsW, List.append_nil]
  | w + 1, n, h => by
    have p : 2 ^ (w + 1) = 2 * 2 ^ w := by rw [Nat.pow_succ, Nat.mul_comm]
    show bitsW (d + w + 1) n = _
    rw [bitsW, bitsW, bitsW_pad d w (n / 2) (by omega), List.append_assoc]
theorem bitsI_pad (d w n : Nat) (h : n < 2 ^ w) : bitsI (d + w) n = List.replicate d 0 ++ bitsI w n := by
  unfold bitsI
  rw [bitsW_pad d w n h, List.map_append, List.map_replicate]
  rfl
end My
namespace My
open PySem PySem.Spec PyProof.Rows L2
/-! ### xs[i] op= e, for a list -/
theorem get_list {X : Cx} : PGet X (rIxL X.K) := by
  intro pins s σ H o i ov iv Q I ro ri h
  obtain ⟨p, xs, i, z, rfl, rfl, hq, he, q⟩ := h
  cases ro
  obtain ⟨t, rfl⟩ := ri
  obtain ⟨its, r, pl, hz⟩ := I.list hq
  obtain ⟨j, h1, h2, h3, h4, h5⟩ := atI_get he
  obtain ⟨w, ew, rw'⟩ := r.get h2
  have hl := r.length
  have hn := line63
  have fin : EP X pins σ Q w s := ⟨z, H, I, rw', q⟩
  by_cases h0 : 0 ≤ i
  · have hj : i.toNat = j := by
      rw [seqIndex_of h0 h5] at h1
      exact Option.some.inj h1
    exact wpAny_getItem_list pl.isList h0 (by omega) (by rw [hj]; simpa using ew) fin
  · have hj : (i + (its.toArray.size : Int)).toNat = j := by
      rw [seqIndex_neg (by omega) h4] at h1
      rw [List.size_toArray, ← hl]
      exact Option.some.inj h1
    exact wpAny_getItem_list_neg pl.isList (by omega) (by rw [List.size_toArray] <;> omega) (by omega) (by rw [hj]; simpa using ew) fin
/-! ### sum and for over a list or a tuple -/
def SqS (K : PySem.W.Frag) (H : Hp) (p : Addr) (xs : List V) : Prop := SqL K H p xs ∨ SqT K H p xs
def rSumS (K : PySem.W.Frag) : List V → Hp → VK → Prop := fun vs H Q => ∃ (a : Addr) (ns : List Int), vs = [V.ref a] ∧ SqS K H a (ns.map V.int) ∧ Q (.int ns.sum) H
theorem cr_sumS {X : Cx} (hc : X.calm = true) : CallR X (.builtin "sum") (rSumS X.K) := by
  intro pins s σ H vs us Q I r h
  obtain ⟨a, ns, rfl, hs, q⟩ := h
  rcases hs with hs | hs
  · exact cr_sum hc pins s σ H _ us Q I r ⟨a, ns, rfl, hs, q⟩
  · obtain ⟨its, rv, p, _⟩ := I.tuple hs
    rw [Vals.ref1 r]
    obtain ⟨xs, e⟩ := rv.ints.allInts.items
    have hn : numsOf (intItems xs).toList = ns := by rw [← e]; exact rv.ints.numsOf
    rw [nums_intItems] at hn
    have p2 : s.heap.IsTuple a (intItems xs) := by rw [← e]; exact p
    refine PySem.W.ktm_sumG (I.ok.hd hc) p2 fun h' tk t' hk => ?_
    rw [preSum_eq, List.take_of_length_le (by simp), hn]
    exact ⟨.int _, H, I.kept hk, ⟨_, rfl⟩, q⟩
def iSeq (K : PySem.W.Frag) (tl : TE) : TI := fun σ H R => tl σ H fun x H1 => ∃ a, x = .ref a ∧ (((∃ xs, SqL K H1 a xs) ∧ R (Itl K a) H1) ∨ ((∃ xs, SqT K H1 a xs) ∧ R (Itt K a) H1))
theorem pi_seq {X : Cx} {tg l : Expr} {tl : TE} (hl : PE X l tl) : PI X tg l (iSeq X.K tl) := by
  refine ⟨fun pins s σ H R I h => ?_⟩
  refine thn (hl.run pins s σ H _ I h) fun v s1 ⟨x, H1, I1, r1, q1⟩ => ?_
  obtain ⟨a, e, q⟩ := q1
  subst e
  cases r1
  rcases q with ⟨⟨xs, hq⟩, q⟩ | ⟨⟨xs, hq⟩, q⟩
  · obtain ⟨its, rv, p, hz⟩ := I1.list hq
    refine wpAny_pyIter_list p.isList ?_
    refine ⟨s1.heap.objs.size, [s1.heap.objs.size], _, _, H1, rfl, I1.kept (t' := s1.toks) fun b o e => Heap.get?_push_of_some _ e, turn_list a _, ⟨_, Heap.get?_push_size _ rfl, rfl, rfl⟩, fun b hb => ?_, q⟩
    have e : b = s1.heap.objs.size := by simpa using hb
    subst e
    exact I1.fpOk (Nat.le_refl _) (I1.hok.fresh (Nat.le_refl _))
  · obtain ⟨its, rv, p, hz⟩ := I1.tuple hq
    refine wpAny_pyIter_tuple (show s1.heap.IsTuple a its.toArray from p) ?_
    refine ⟨s1.heap.objs.size, [s1.heap.objs.size], _, _, H1, rfl, I1.kept (t' := s1.toks) fun b o e => Heap.get?_push_of_some _ e, turn_tuple a _, ⟨_, Heap.get?_push_size _ rfl, rfl, rfl⟩, fun b hb => ?_, q⟩
    have e : b = s1.heap.objs.size := by simpa using hb
    subst e
    exact I1.fpOk (Nat.le_refl _) (I1.hok.fresh (Nat.le_refl _))
theorem same_seqT {K : PySem.W.Frag} {H H' : Hp} {a : Addr} {xs : List V} (e : Same H H') (h : SqT K H a xs) : SqT K H' a xs := by
  rcases h with (h | ⟨o, h⟩) | h
  · exact .inl (.inl (e _ _ h))
  · exact .inl (.inr ⟨o, e _ _ h⟩)
  · exact .inr h
theorem same_seqS {K : PySem.W.Frag} {H H' : Hp} {a : Addr} {xs : List V} (e : Same H H') (h : SqS K H a xs) : SqS K H' a xs := by
  rcases h with h | h
  · exact .inl (e.seq h)
  · exact .inr (same_seqT e h)
theorem for_seq {K : PySem.W.Frag} {a : Addr} {xs : List V} {g : TG} {tb : TS} {D : Ends} {σ : L2.St} {H : Hp} (Pv : Nat → L2.St → Hp → Prop) (h0 : Pv 0 σ H) (hl : (∀ i σ' H', i ≤ xs.length → Pv i σ' H' → SqL K H' a xs) ∨ (∀ i σ' H', i ≤ xs.length → Pv i σ' H' → SqT K H' a xs))
    (hs : ∀ i x σ H, xs[i]? = some x → Pv i σ H → g x σ H fun σ2 H2 => tb { D with nx := Pv (i + 1), ct := Pv (i + 1), bk := D.nx } σ2 H2) (hd : ∀ σ H, Pv xs.length σ H → D.nx σ H) :
    ((∃ ys, SqL K H a ys) ∧ ∃ W : Nat → Nat → L2.St → Hp → Prop, (∃ m, W 0 m σ H) ∧ ∀ i m σ H, W i m σ H →
      ((Itl K a).stop i H ∧ D.nx σ H) ∨ ((Itl K a).go i H ∧ ∃ N : L2.St → Hp → Prop, (∀ σ' H', N σ' H' → ∃ m', m' < m ∧ W (i + 1) m' σ' H') ∧ ∀ x H', (Itl K a).yld i H x H' → g x σ H' fun σ2 H2 => tb { D with nx := N, ct := N, bk := D.nx } σ2 H2)) ∨
    ((∃ ys, SqT K H a ys) ∧ ∃ W : Nat → Nat → L2.St → Hp → Prop, (∃ m, W 0 m σ H) ∧ ∀ i m σ H, W i m σ H →
      ((Itt K a).stop i H ∧ D.nx σ H) ∨ ((Itt K a).go i H ∧ ∃ N : L2.St → Hp → Prop, (∀ σ' H', N σ' H' → ∃ m', m' < m ∧ W (i + 1) m' σ' H') ∧ ∀ x H', (Itt K a).yld i H x H' → g x σ H' fun σ2 H2 => tb { D with nx := N, ct := N, bk := D.nx } σ2 H2)) := by
  rcases hl with h | h
  · exact .inl ⟨⟨_, h _ _ _ (Nat.zero_le _) h0⟩, for_list Pv h0 h hs hd⟩
  · exact .inr ⟨⟨_, h _ _ _ (Nat.zero_le _) h0⟩, for_tup Pv h0 h hs hd⟩
end My
namespace My
open PySem PySem.Spec PyProof.Rows L2
/-! ### classes: makers, methods, properties, handed round as one fact each -/
theorem passN {X : Cx} : Passes (L2.CX X.prog X.w) X C8.E0 := fun _ _ _ _ _ _ _ c => by
  obtain ⟨_, _, _, _, _, _, _, _, _, _, _, _, z⟩ := c
  exact z.elim
section
variable {X : Cx} {CX : CXT} {k j : Nat} {f C : Addr} {fd : FuncData} {ps ks : List Str} {sp : Sp} {E : XK} {x m : Str} {p pos apos : Pos} {e o : Expr} {es : List Expr} {kws : List Keyword} {ta : TE} {t tk : TA} {g : List Value → List Value → List Value} {gV : List V → List V → List V}
/-- o.m(k = v, ..), nothing by position -/
def tMethK (C : Addr) (m : Str) (n : Nat) (sp : Sp) (E : XK) (ta : TE) (tk : TA) : TE := fun σ H Q => ta σ H fun x H1 => ∃ a dx fs, x = .ref a ∧ H1 a = some (.ins C dx fs) ∧ fs.lookup m = none ∧ tk σ H1 fun zs H2 => zs.length = n ∧ sp (x :: zs) H2 Q E
theorem pe_methK {pl : Sem Bool} (he : PE X o ta) (c : Cls X.K C) (hm : Meth X.K C m f) (F : FnOk X.prog X.w X.K X.mg X.base CX k f fd ps sp) (hr : Room k X.A) (hb : KBn X.K fd ps 1 ks (fun us ws => us ++ ws) (fun vs zs => vs ++ zs)) (hx : Passes CX X E) (hkw : PK X kws tk)
    (hall : (backToKw pos (keywordEach kws X.env)).all (·.1.isSome) = true := by rfl) (hks : (backToKw pos (keywordEach kws X.env)).filterMap (·.1) = ks := by rfl)
    (hpl : ((backTo pos (starEach [] X.env)).any (·.1) || (backToKw pos (keywordEach kws X.env)).any (·.1.isNone)) = false := by rfl)
    (ht : eval (.Call (.Attribute o m apos) [] kws pos) X.env = (do
      let ov ← eval o X.env
      standAt apos.atName
      let (f, first) ← holding [ov] (getMethod ov m pl)
      callWith pos f first (backTo pos (starEach [] X.env)) (backToKw pos (keywordEach kws X.env))) := by rfl) :
    PE X (.Call (.Attribute o m apos) [] kws pos) (tMethK C m ks.length sp E ta tk) := by
  refine ⟨fun pins s σ H Q I h => ?_⟩
  refine PySem.W.methodCall_KW (pl := pl) (thn (he.run pins s σ H _ I h) fun u s1 ⟨x, H1, I1, rx, a, dx, fs, ex, ea, l, q⟩ => ?_) ht
  subst ex
  obtain rfl : u = Value.ref a := rx
  refine getmeth_ok I1 ea c hm l ?_
  refine PySem.W.callWith_KW0 (first := [.ref a]) (h₀ := X.base) I.ok.mod.kin hm.kp hall ?_ hpl
  refine thn (hkw.run pos pins s1 σ H1 _ I1 q) fun ws s2 ⟨zs, H2, I2, rz, l2, q2⟩ => ⟨I2.kIn, ?_⟩
  rw [hks]
  exact run_fnN (us := [.ref a]) (vs := [.ref a]) F hr hb hx I2 (.cons rfl .nil) rz rfl l2 q2
end
/-- a method that may be called -/
structure CalM (P : Program) (w : World) (K : PySem.W.Frag) (mg : Str → Option Value) (base : Heap) (k : Nat) (C : Addr) (m : Str) (ks : List Str) (sp : Sp) : Prop where
  ex : ∃ (f : Addr) (fd : FuncData) (ps : List Str), Meth K C m f ∧ FnOk P w K mg base (L2.CX P w) k f fd ps sp ∧ Binds K fd ps [] ∧ KBn K fd ps 1 ks (fun us ws => us ++ ws) (fun vs zs => vs ++ zs)
/-- a class that may be called -/
structure CalC (P : Program) (w : World) (K : PySem.W.Frag) (mg : Str → Option Value) (base : Heap) (k : Nat) (x : Str) (C : Addr) (ks : List Str) (sp : Sp) : Prop where
  gl : mg x = some (.ref C)
  ex : ∃ (f : Addr) (fd : FuncData) (ps : List Str), Mk K C f ∧ FnOk P w K mg base (L2.CX P w) k f fd ps sp ∧ Binds K fd ps [] ∧ KBn K fd ps 1 ks (fun us ws => us ++ ws) (fun vs zs => vs ++ zs)
/-- a property that may be read -/
structure CalP (P : Program) (w : World) (K : PySem.W.Frag) (mg : Str → Option Value) (base : Heap) (k : Nat) (C : Addr) (f : Str) (sp : Sp) : Prop where
  ex : ∃ (p g : Addr) (fd : FuncData) (ps : List Str), PropOf K C f p g ∧ FnOk P w K mg base CX0 k g fd ps sp ∧ Binds K fd ps []
section
variable {X : Cx} {k j : Nat} {C : Addr} {ks : List Str} {sp : Sp} {E : XK} {x m : Str} {p pos apos : Pos} {e o : Expr} {es : List Expr} {kws : List Keyword} {ta : TE} {t tk : TA}
/-- o.m(e, ..); E: what is wanted of an exception -/
theorem pe_mx {pl : Sem Bool} (M : CalM X.prog X.w X.K X.mg X.base k C m ks sp) (c : Cls X.K C) (hr : Room j X.A) (hk : k ≤ j) (hx : Passes (L2.CX X.prog X.w) X E) (he : PE X o ta) (ha : PA X (e :: es) t)
    (hst : starEach (e :: es) X.env = (false, eval e X.env) :: starEach es X.env := by rfl) (hpl : (backTo pos (starEach es X.env)).any (·.1) = false := by rfl)
    (ht : eval (.Call (.Attribute o m apos) (e :: es) [] pos) X.env = (do
      let ov ← eval o X.env
      standAt apos.atName
      let (f, first) ← holding [ov] (getMethod ov m pl)
      callWith pos f first (backTo pos (starEach (e :: es) X.env)) (backToKw pos (keywordEach [] X.env))) := by rfl) :
    PE X (.Call (.Attribute o m apos) (e :: es) [] pos) (tMeth C m sp [] E ta t) := by
  obtain ⟨f, fd, ps, hm, F, hb, _⟩ := M.ex
  exact pe_meth he c hm F (hr.mono hk) hb .nil hx ha hst hpl ht
/-- o.m() -/
theorem pe_mx0 {pl : Sem Bool} (M : CalM X.prog X.w X.K X.mg X.base k C m ks sp) (c : Cls X.K C) (hr : Room j X.A) (hk : k ≤ j) (hx : Passes (L2.CX X.prog X.w) X E) (he : PE X o ta)
    (ht : eval (.Call (.Attribute o m apos) [] [] pos) X.env = (do
      let ov ← eval o X.env
      standAt apos.atName
      let (f, first) ← holding [ov] (getMethod ov m pl)
      callWith pos f first (backTo pos (starEach [] X.env)) (backToKw pos (keywordEach [] X.env))) := by rfl) :
    PE X (.Call (.Attribute o m apos) [] [] pos) (tMeth C m sp [] E ta tNil) := by
  obtain ⟨f, fd, ps, hm, F, hb, _⟩ := M.ex
  exact pe_meth0 he c hm F (hr.mono hk) hb .nil hx ht
/-- o.m(k = v, ..) -/
theorem pe_mxK {pl : Sem Bool} (M : CalM X.prog X.w X.K X.mg X.base k C m ks sp) (c : Cls X.K C) (hr : Room j X.A) (hk : k ≤ j) (hx : Passes (L2.CX X.prog X.w) X E) (he : PE X o ta) (hkw : PK X kws tk)
    (hall : (backToKw pos (keywordEach kws X.env)).all (·.1.isSome) = true := by rfl) (hks : (backToKw pos (keywordEach kws X.env)).filterMap (·.1) = ks := by rfl)
    (hpl : ((backTo pos (starEach [] X.env)).any (·.1) || (backToKw pos (keywordEach kws X.env)).any (·.1.isNone)) = false := by rfl)
    (ht : eval (.Call (.Attribute o m apos) [] kws pos) X.env = (do
      let ov ← eval o X.env
      standAt apos.atName
      let (f, first) ← holding [ov] (getMethod ov m pl)
      callWith pos f first (backTo pos (starEach [] X.env)) (backToKw pos (keywordEach kws X.env))) := by rfl) :
    PE X (.Call (.Attribute o m apos) [] kws pos) (tMethK C m ks.length sp E ta tk) := by
  obtain ⟨f, fd, ps, hm, F, _, hb⟩ := M.ex
  exact pe_methK he c hm F (hr.mono hk) hb hx hkw hall hks hpl ht
/-- C(e, ..) -/
theorem pe_new (M : CalC X.prog X.w X.K X.mg X.base k x C ks sp) (hr : Room j X.A) (hk : k + 1 ≤ j) (hg : Gl X x) (hx : Passes (L2.CX X.prog X.w) X E) (ha : PA X (e :: es) t) (hdb : (x == ("__debug__" : Str)) = false := by decide)
    (he : starEach (e :: es) X.env = (false, eval e X.env) :: starEach es X.env := by rfl) (hpl : (backTo pos (starEach es X.env)).any (·.1) = false := by rfl) :
    PE X (.Call (.Name x p) (e :: es) [] pos) (tMake C sp [] E t) := by
  obtain ⟨f, fd, ps, hm, F, hb, _⟩ := M.ex
  exact pe_make hm F (hr.mono hk) hg M.gl hb .nil hx ha hdb he hpl
/-- C() -/
theorem pe_new0 (M : CalC X.prog X.w X.K X.mg X.base k x C ks sp) (hr : Room j X.A) (hk : k + 1 ≤ j) (hg : Gl X x) (hx : Passes (L2.CX X.prog X.w) X E) (hdb : (x == ("__debug__" : Str)) = false := by decide) :
    PE X (.Call (.Name x p) [] [] pos) (tMake C sp [] E tNil) := by
  obtain ⟨f, fd, ps, hm, F, hb, _⟩ := M.ex
  exact pe_make0 hm F (hr.mono hk) hg M.gl hb .nil hx hdb
/-- C(k = v, ..) -/
theorem pe_newK (M : CalC X.prog X.w X.K X.mg X.base k x C ks sp) (hr : Room j X.A) (hk : k + 1 ≤ j) (hg : Gl X x) (hx : Passes (L2.CX X.prog X.w) X E) (hkw : PK X kws tk)
    (hall : (backToKw pos (keywordEach kws X.env)).all (·.1.isSome) = true := by rfl) (hks : (backToKw pos (keywordEach kws X.env)).filterMap (·.1) = ks := by rfl) (hdb : (x == ("__debug__" : Str)) = false := by decide)
    (hpl : ((backTo pos (starEach [] X.env)).any (·.1) || (backToKw pos (keywordEach kws X.env)).any (·.1.isNone)) = false := by rfl) :
    PE X (.Call (.Name x p) [] kws pos) (tMakeK C 0 ks.length sp (fun vs zs => vs ++ zs) E tNil tk) := by
  obtain ⟨f, fd, ps, hm, F, _, hb⟩ := M.ex
  exact pe_makeK0 hm F (hr.mono hk) hg M.gl hb hx hkw hall hks hdb hpl
/-- e.f, a property -/
theorem pe_pr {f : Str} (M : CalP X.prog X.w X.K X.mg X.base k C f sp) (c : Cls X.K C) (hr : Room j X.A) (hk : k + 1 ≤ j) (he : PE X e ta) (hab : attributeBase e f X.env (eval e X.env) = eval e X.env) : PE X (.Attribute e f pos) (tProp C sp [] C8.E0 ta) := by
  obtain ⟨p, g, fd, ps, hp, F, hb⟩ := M.ex
  exact pe_prop he c hp F (hr.mono hk) hb .nil pass0 hab
end
end My
namespace My
open PySem PySem.Spec PyProof.Rows L2
/-! ### exceptions with a field of their own -/
/-- isinstance of the exception that a suite holds, where it has its own dict -/
theorem call_isEd {X : Cx} {a D : Addr} {oe : Obj} {cls : Value} {d : Option Addr} {pn : List (Addr × Obj)} (C : ExcC X.K D) (hz : Zc cls d oe) (hf : ∃ vs, oe.data = .fields vs) :
    CallR (X.suite a ((a, oe) :: pn)) (.builtin "isinstance") (fun xs H Q => cls = .ref D ∧ (∃ dd fs, d = some dd ∧ H dd = some (.xd fs)) ∧ rIsE X.K D a xs H Q) := by
  intro pins s σ H xs us Q I r h
  obtain ⟨e1, ⟨dd, fs, e2, ea⟩, c, cv, b, rfl, hcv, e, q⟩ := h
  subst e1 e2
  cases r with
  | cons rx rr =>
    cases rr with
    | cons rt rr =>
      cases rr
      cases rx
      have ec := hcv _ rt
      subst ec
      obtain ⟨hget, _⟩ := I.pin (a, oe) (List.mem_append.mpr (.inl List.mem_cons_self))
      obtain ⟨vs, hv⟩ := hf
      have hx : ObjOk X.prog X.w H s.heap dd (.xd fs) := I.hok dd _ ea
      obtain ⟨mA, hns, hr⟩ := hx
      obtain ⟨od, ho, hl⟩ := lookIn_ns hns
      have J : PySem.W.InstAt s.heap a oe D (some od) := ⟨hget, hz.1, by unfold PySem.W.notCls; rw [hv] <;> rfl, by rw [hz.2]; exact ho⟩
      have hcl : (PySem.W.clsIn X.K D).isSome = true := by
        obtain ⟨cd, hc, _⟩ := PySem.W.any_some C.hd
        rw [hc]
        rfl
      exact PySem.W.kia_one (PySem.W.kitx_exc hcl C.hg C.hk C.hs C.ha C.hn C.ht C.hm) I.kIn J e (fun z => nomatch z) fun tk => ⟨.bl b, H, I.kept (t' := tk) fun _ _ z => z, rfl, q⟩
/-- its __init__: self.f = what is given -/
def spIni (C : Addr) (f : Str) : Sp := fun vs H Q _ => ∃ (a : Addr) (v : V), vs = [.ref a, v] ∧ H a = some (exo a C none) ∧ ∀ dx, H dx = none → dx ≠ a → Q .non (upd (upd H dx (exd dx [(f, v)])) a (exo a C (some dx)))
/-- an own exception class x with one field f, at C -/
structure XDef (P : Program) (w : World) (K : PySem.W.Frag) (mg : Str → Option Value) (base : Heap) (x f : Str) (C : Addr) : Prop where
  gC : mg x = some (.ref C)
  oex : OexC K C
  xf : XfC K C
  no : PySem.W.findIn K (.ref C) f = some none
  isx : ExcC K C
  em : PySem.W.exmOne K (.ref C) (.ref C) = some true
  ini : ∃ (fI : Addr) (fd : FuncData), PySem.W.findIn K (.ref C) "__init__" = some (some (.ref fI)) ∧ PySem.W.typeIn K (.ref fI) = some (.type "function") ∧ FnOk P w K mg base CX0 1 fI fd ["self", f] (spIni C f) ∧ Binds K fd ["self", f] []
theorem pmk_x {X : Cx} {x f : Str} {C : Addr} {j : Nat} {p pos : Pos} {e : Expr} {te : TE} (D : XDef X.prog X.w X.K X.mg X.base x f C) (hr : Room j X.A) (h2 : 2 ≤ j) (hg : Gl X x) (he : PE X e te) (hdb : (x == ("__debug__" : Str)) = false := by decide)
    (hst : starEach [e] X.env = (false, eval e X.env) :: starEach [] X.env := by rfl) : PMk X (.Call (.Name x p) [e] [] pos) (tMkO C (spIni C f) [] (tCons te tNil)) := by
  obtain ⟨fI, fd, iC, tI, F, hb⟩ := D.ini
  exact pmk_oex D.oex iC tI F (hr.mono h2) hb .nil pass0 hg D.gC (pa_cons (hs := hst) he pa_nil) hdb hst (by rfl)
/-- what is made: an exception whose dict holds the field, all else as it was -/
theorem mkx_in {C : Addr} {f : Str} {v : V} {H1 : Hp} {Q : XK} (h : ∀ (d : Addr) (H2 : Hp), H1 d = none → Same H1 H2 → H2 d = some (.xd [(f, v)]) → Q (.ref C) (some d) H2) :
    [v].length ≤ 1000 ∧ ∀ a, H1 a = none → spIni C f (.ref a :: ([v] ++ [])) (upd H1 a (exo a C none))
      (fun u H2 => u = .non ∧ ∃ (d : Addr) (fs : List (Str × V)), H2 a = some (exo a C (some d)) ∧ H2 d = some (exd d fs) ∧ H1 d = none ∧ Q (.ref C) (some d) (upd (del H2 a) d (.xd fs))) (fun _ _ _ => False) := by
  refine ⟨by show 1 ≤ 1000; decide, fun a na => ⟨a, v, rfl, upd_same, fun dx ndx hne => ⟨rfl, dx, [(f, v)], upd_same, (upd_ne hne).trans upd_same, ?_, ?_⟩⟩⟩
  · rw [upd_ne hne] at ndx
    exact ndx
  · have nd : H1 dx = none := by
      rw [upd_ne hne] at ndx
      exact ndx
    refine h dx _ nd (fun b o e => ?_) upd_same
    have b1 := ne_of_none e na
    have b2 := ne_of_none e nd
    rw [upd_ne b2, del_ne b1, upd_ne b1, upd_ne b2, upd_ne b1]
    exact e
end My
namespace My
open PySem PySem.Spec PyProof.Rows L2
local macro_rules | `(tactic| walk_at "sq") => `(tactic| first | assumption | exact .inl (.inl (by assumption)) | exact .inl (.inl upd_same))
local macro_rules | `(tactic| walk_at "st") => `(tactic| first
  | refine ⟨_, rfl, ?_⟩
  | refine ⟨_, _, rfl, rfl, ?_⟩
  | refine ⟨cmull (by omega) (by omega), ?_⟩
  | refine ⟨cmulr (by omega) (by omega), ?_⟩
  | refine ⟨cdivw (by omega) (by omega), ?_⟩
  | refine ⟨(⟨by decide, by decide⟩ : CDiv _ _), ?_⟩
  | refine ⟨(show (0 : Int) < _ by omega), ?_⟩
  | refine ⟨(show (0 : Int) ≤ _ by omega), ?_⟩
  | refine ⟨(⟨by decide, by decide, by decide⟩ : CPow _ _), ?_⟩
  | refine ⟨(⟨by omega, by omega, by omega⟩ : CPow _ _), ?_⟩
  | refine .inl ⟨_, rfl, ?_⟩
  | refine .inr ⟨_, rfl, ?_⟩
  | refine ⟨_, _, _, _, _, rfl, .ty _, .base (.int _), kit_ii, ?_⟩
  | refine ⟨_, _, _, _, _, rfl, .ty _, .base (.int _), kit_ib, ?_⟩
  | refine ⟨_, _, _, _, _, rfl, .ty _, .base (.tup (by assumption)), kit_tt, ?_⟩
  | refine ⟨_, _, _, _, _, rfl, .ty _, .base (.lst (by assumption)), kit_ll, ?_⟩
  | refine iteT ?_
  | refine iteF ?_
  | refine ⟨_, _, rfl, .inl (.inl (by first | assumption | exact upd_same)), rfl, ?_⟩
  | refine ⟨_, _, rfl, ?_⟩
  | refine ⟨cmulr (by split <;> decide) (by split <;> decide), ?_⟩
  | refine ⟨_, _, rfl, .inl (by walk_at "sq"), ?_⟩
  | refine ⟨_, _, rfl, .inr (by walk_at "sq"), ?_⟩
  | refine ⟨_, _, _, _, rfl, rfl, (by walk_at "sq"), rfl, ?_⟩
  | refine ⟨rfl, ?_⟩
  | (refine ite2 (fun hc => ?_) (fun hc => ?_) <;> (try simp only [decide_eq_true_eq, Bool.not_eq_true', decide_eq_false_iff_not, Bool.not_eq_true, Bool.not_eq_false', Bool.false_eq_true, reduceCtorEq, V.int.injEq, not_true_eq_false, not_false_eq_true] at hc) <;> (try (exfalso; omega))))
local macro_rules | `(tactic| walk_at "ev") => `(tactic| repeat' walk_at "st")
def top (i : Nat) : Stmt := PySem.Challenge.pw_narrowingbits_k59_damage_that_is_told.main.body.getD i (.Pass ⟨0, 0, 0, 0⟩)
abbrev s_is_number : Stmt := top 6
theorem sc_is_number : FnScope ["thing"] ["thing"] (defScope s_is_number) := ⟨rfl, rfl, rfl, by decide +kernel, rfl, by decide +kernel, by decide +kernel⟩
abbrev s_check_bits : Stmt := top 7
theorem sc_check_bits : FnScope ["bits", "bit"] ["bits"] (defScope s_check_bits) := ⟨rfl, rfl, rfl, by decide +kernel, rfl, by decide +kernel, by decide +kernel⟩
abbrev s_fixed : Stmt := top 8
theorem sc_fixed : FnScope ["n", "w", "text", "digit"] ["n", "w"] (defScope s_fixed) := ⟨rfl, rfl, rfl, by decide +kernel, rfl, by decide +kernel, by decide +kernel⟩
abbrev s_check : Stmt := top 12
theorem sc_check : FnScope ["bits"] ["bits"] (defScope s_check) := ⟨rfl, rfl, rfl, by decide +kernel, rfl, by decide +kernel, by decide +kernel⟩
abbrev s_check_of : Stmt := top 13
theorem sc_check_of : FnScope ["bits", "held", "bit", "top"] ["bits"] (defScope s_check_of) := ⟨rfl, rfl, rfl, by decide +kernel, rfl, by decide +kernel, by decide +kernel⟩
abbrev s_good : Stmt := top 18
theorem sc_good : FnScope ["protected", "group", "cell"] ["protected", "group"] (defScope s_good) := ⟨rfl, rfl, rfl, by decide +kernel, rfl, by decide +kernel, by decide +kernel⟩
abbrev s_parts_of : Stmt := top 19
theorem sc_parts_of : FnScope ["things", "size", "at"] ["things", "size"] (defScope s_parts_of) := ⟨rfl, rfl, rfl, by decide +kernel, rfl, by decide +kernel, by decide +kernel⟩
abbrev s_is_good : Stmt := top 20
theorem sc_is_good : FnScope ["cell"] ["cell"] (defScope s_is_good) := ⟨rfl, rfl, rfl, by decide +kernel, rfl, by decide +kernel, by decide +kernel⟩
abbrev s_check_group : Stmt := top 21
theorem sc_check_group : FnScope ["group"] ["group"] (defScope s_check_group) := ⟨rfl, rfl, rfl, by decide +kernel, rfl, by decide +kernel, by decide +kernel⟩
abbrev s_check_cells : Stmt := top 22
theorem sc_check_cells : FnScope ["protected", "group", "cell_count"] ["protected", "group"] (defScope s_check_cells) := ⟨rfl, rfl, rfl, by decide +kernel, rfl, by decide +kernel, by decide +kernel⟩
abbrev s_law_well : Stmt := top 24
theorem sc_law_well : FnScope ["_law_script", "_law_k", "_law_cell", "_law_depth"] ["_law_script", "_law_k"] (defScope s_law_well) := ⟨rfl, rfl, rfl, by decide +kernel, rfl, by decide +kernel, by decide +kernel⟩
abbrev s_law_drop : Stmt := top 25
theorem sc_law_drop : FnScope ["_law_well_here", "_law_top", "_law_part"] ["_law_well_here", "_law_top"] (defScope s_law_drop) := ⟨rfl, rfl, rfl, by decide +kernel, rfl, by decide +kernel, by decide +kernel⟩
abbrev s_law_one : Stmt := top 26
theorem sc_law_one : FnScope ["_law_well_here", "_law_things"] ["_law_well_here", "_law_things"] (defScope s_law_one) := ⟨rfl, rfl, rfl, by decide +kernel, rfl, by decide +kernel, by decide +kernel⟩
abbrev s_law_spots : Stmt := top 27
theorem sc_law_spots : FnScope ["_law_well_here", "_law_turn", "_law_found", "_law_spot", "_law_begin", "_law_step"] ["_law_well_here"] (defScope s_law_spots) := ⟨rfl, rfl, rfl, by decide +kernel, rfl, by decide +kernel, by decide +kernel⟩
abbrev s_law_turned : Stmt := top 28
theorem sc_law_turned : FnScope ["_law_cell", "_law_spots_here", "_law_at"] ["_law_cell", "_law_spots_here"] (defScope s_law_turned) := ⟨rfl, rfl, rfl, by decide +kernel, rfl, by decide +kernel, by decide +kernel⟩
abbrev s_law : Stmt := top 29
theorem sc_law : FnScope ["_law_script", "_law_k", "_law_well_here", "_law_turn", "_law_load", "_law_cell", "_law_other"] ["_law_script"] (defScope s_law) := ⟨rfl, rfl, rfl, by decide +kernel, rfl, by decide +kernel, by decide +kernel⟩
/-! ### checks, as numbers below 256 -/
def cst (h : Nat) (b : Int) : Nat := (2 * h % 256) ^^^ (7 * ((h / 128) ^^^ b.toNat))
def crcN (xs : List Int) : Nat := xs.foldl cst 0
def crcI (xs : List Int) : List Int := bitsI 8 (crcN xs)
theorem crcI_len (xs : List Int) : (crcI xs).length = 8 := bitsI_len _ _
theorem bit_top {b : Int} (hb : 0 ≤ b ∧ b ≤ 1) : b = 0 ∨ b = 1 := by omega
theorem cst_top {h : Nat} {b : Int} (hh : h < 256) (hb : 0 ≤ b ∧ b ≤ 1) : (h / 128) ^^^ b.toNat = 0 ∨ (h / 128) ^^^ b.toNat = 1 := by
  have h1 : h / 128 = 0 ∨ h / 128 = 1 := by omega
  rcases h1 with h1 | h1 <;> rcases bit_top hb with rfl | rfl <;> rw [h1] <;> decide
theorem cst_lt {h : Nat} {b : Int} (hh : h < 256) (hb : 0 ≤ b ∧ b ≤ 1) : cst h b < 256 := by
  unfold cst
  refine Nat.xor_lt_two_pow (n := 8) (Nat.mod_lt _ (by decide)) ?_
  rcases cst_top hh hb with e | e <;> rw [e] <;> decide
theorem crcN_snoc (xs : List Int) (b : Int) : crcN (xs ++ [b]) = cst (crcN xs) b := by
  unfold crcN
  rw [List.foldl_append]
  rfl
theorem crcN_lt : ∀ {xs : List Int}, AreBits xs → crcN xs < 256 := by
  intro xs h
  have key : ∀ (n : Nat), n ≤ xs.length → crcN (xs.take n) < 256 := by
    intro n
    induction n with
    | zero => intro _; rw [List.take_zero]; decide
    | succ n ih =>
      intro hn
      have g : xs[n]? = some xs[n] := List.getElem?_eq_getElem (by omega)
      rw [← take_snoc g, crcN_snoc]
      exact cst_lt (ih (by omega)) (h _ (List.getElem_mem _))
  have := key xs.length (Nat.le_refl _)
  rwa [List.take_length] at this
/-- the exclusive or of bits -/
def bx (a b : Int) : Int := ((a.toNat ^^^ b.toNat : Nat) : Int)
theorem bx_toNat (a b : Int) : (bx a b).toNat = a.toNat ^^^ b.toNat := Int.toNat_natCast _
theorem bx_bit {a b : Int} (ha : 0 ≤ a ∧ a ≤ 1) (hb : 0 ≤ b ∧ b ≤ 1) : 0 ≤ bx a b ∧ bx a b ≤ 1 := by
  rcases bit_top ha with rfl | rfl <;> rcases bit_top hb with rfl | rfl <;> decide
theorem bx_zero {a : Int} (ha : 0 ≤ a) : bx a 0 = a := by
  unfold bx
  simp
  omega
theorem bx_one {a : Int} (ha : 0 ≤ a ∧ a ≤ 1) : bx a 1 = 1 - a := by
  rcases bit_top ha with rfl | rfl <;> decide
theorem xor4 (a b c d : Nat) : (a ^^^ b) ^^^ (c ^^^ d) = (a ^^^ c) ^^^ (b ^^^ d) := by
  rw [Nat.xor_assoc, Nat.xor_assoc, ← Nat.xor_assoc b c d, Nat.xor_comm b c, Nat.xor_assoc c b d]
theorem xor_div (a b k : Nat) : (a ^^^ b) / 2 ^ k = (a / 2 ^ k) ^^^ (b / 2 ^ k) := by
  rw [← Nat.shiftRight_eq_div_pow, ← Nat.shiftRight_eq_div_pow, ← Nat.shiftRight_eq_div_pow, Nat.shiftRight_xor_distrib]
theorem xor_mod2 (a b : Nat) : (a ^^^ b) % 2 = (a % 2) ^^^ (b % 2) := by
  have h := Nat.xor_mod_two_pow (a := a) (b := b) (n := 1)
  exact h
theorem cst_lin {h g : Nat} {a b : Int} (hh : h < 256) (hg : g < 256) (ha : 0 ≤ a ∧ a ≤ 1) (hb : 0 ≤ b ∧ b ≤ 1) : cst (h ^^^ g) (bx a b) = cst h a ^^^ cst g b := by
  unfold cst
  have e1 : 2 * (h ^^^ g) % 256 = (2 * h % 256) ^^^ (2 * g % 256) := by
    rw [← Nat.xor_mod_two_pow (n := 8)]
    congr 1
    rw [Nat.mul_comm 2, Nat.mul_comm 2, Nat.mul_comm 2]
    have := Nat.shiftLeft_xor_distrib (a := h) (b := g) (i := 1)
    rw [Nat.shiftLeft_eq, Nat.shiftLeft_eq, Nat.shiftLeft_eq] at this
    exact this
  have e2 : (h ^^^ g) / 128 = (h / 128) ^^^ (g / 128) := xor_div h g 7
  rw [e1, e2, bx_toNat, xor4 (h / 128) (g / 128)]
  have e3 : 7 * (((h / 128) ^^^ a.toNat) ^^^ ((g / 128) ^^^ b.toNat)) = (7 * ((h / 128) ^^^ a.toNat)) ^^^ (7 * ((g / 128) ^^^ b.toNat)) := by
    rcases cst_top hh ha with e | e <;> rcases cst_top hg hb with f | f <;> rw [e, f] <;> decide
  rw [e3, xor4]
theorem crcN_lin : ∀ {xs ys : List Int}, xs.length = ys.length → AreBits xs → AreBits ys → crcN (List.zipWith bx xs ys) = crcN xs ^^^ crcN ys := by
  intro xs ys hl hx hy
  have key : ∀ (us vs : List Int) (h g : Nat), us.length = vs.length → AreBits us → AreBits vs → h < 256 → g < 256 → (List.zipWith bx us vs).foldl cst (h ^^^ g) = us.foldl cst h ^^^ vs.foldl cst g := by
    intro us
    induction us with
    | nil =>
      intro vs h g e _ _ _ _
      rw [List.length_eq_zero_iff.mp e.symm]
      rfl
    | cons u us ih =>
      intro vs h g e hu hv hh hg
      cases vs with
      | nil => cases e
      | cons v vs =>
        have bu := hu u List.mem_cons_self
        have bv := hv v List.mem_cons_self
        rw [List.zipWith_cons_cons, List.foldl_cons, List.foldl_cons, List.foldl_cons, cst_lin hh hg bu bv]
        exact ih vs _ _ (by simpa using e) (fun x m => hu x (List.mem_cons_of_mem _ m)) (fun x m => hv x (List.mem_cons_of_mem _ m)) (cst_lt hh bu) (cst_lt hg bv)
  exact key xs ys 0 0 hl hx hy (by decide) (by decide)
theorem bitsI_xor (w a b : Nat) : bitsI w (a ^^^ b) = List.zipWith bx (bitsI w a) (bitsI w b) := by
  refine List.ext_getElem? fun i => ?_
  rw [List.getElem?_zipWith]
  by_cases h : i < w
  · rw [bitsI_get h, bitsI_get h, bitsI_get h, xor_div, xor_mod2]
    simp only [bx, Int.toNat_natCast]
  · rw [List.getElem?_eq_none (by rw [bitsI_len]; omega), List.getElem?_eq_none (by rw [bitsI_len]; omega)]
theorem crcI_lin {xs ys : List Int} (hl : xs.length = ys.length) (hx : AreBits xs) (hy : AreBits ys) : crcI (List.zipWith bx xs ys) = List.zipWith bx (crcI xs) (crcI ys) := by
  unfold crcI
  rw [crcN_lin hl hx hy, bitsI_xor]
theorem crcI_bits (xs : List Int) : AreBits (crcI xs) := fun _ m => bitsI_bit m
/-! ### cells: 48 bits and their check -/
def goodC (c : List Int) : Bool := decide (crcI (c.take 48) = c.drop 48)
/-- a pattern of n places -/
def pat (n : Nat) (f : Nat → Bool) : List Int := (List.range n).map fun i => if f i = true then 1 else 0
def turnC (c : List Int) (f : Nat → Bool) : List Int := List.zipWith bx c (pat c.length f)
theorem pat_len (n : Nat) (f : Nat → Bool) : (pat n f).length = n := by
  unfold pat
  rw [List.length_map, List.length_range]
theorem pat_bits (n : Nat) (f : Nat → Bool) : AreBits (pat n f) := fun x m => by
  obtain ⟨i, _, rfl⟩ := List.mem_map.mp m
  show 0 ≤ (if f i = true then (1 : Int) else 0) ∧ _
  split <;> decide
theorem pat_xor (n : Nat) (f g : Nat → Bool) : pat n (fun i => f i ^^ g i) = List.zipWith bx (pat n f) (pat n g) := by
  unfold pat
  rw [List.zipWith_map, List.zipWith_self]
  refine List.map_congr_left fun i _ => ?_
  show (if (f i ^^ g i) = true then (1 : Int) else 0) = bx _ _
  cases f i <;> cases g i <;> rfl
theorem zw_take {α : Type} (f : α → α → α) (n : Nat) (a b : List α) : (List.zipWith f a b).take n = List.zipWith f (a.take n) (b.take n) := List.take_zipWith
theorem zw_drop {α : Type} (f : α → α → α) (n : Nat) (a b : List α) : (List.zipWith f a b).drop n = List.zipWith f (a.drop n) (b.drop n) := List.drop_zipWith
theorem AreBits.drop {xs : List Int} (h : AreBits xs) (n : Nat) : AreBits (xs.drop n) := fun x m => h x (List.mem_of_mem_drop m)
theorem AreBits.zw {xs ys : List Int} (h : AreBits xs) (g : AreBits ys) : AreBits (List.zipWith bx xs ys) := fun x m => by
  rw [List.mem_iff_getElem?] at m
  obtain ⟨i, hi⟩ := m
  rw [List.getElem?_zipWith] at hi
  cases e : xs[i]? with
  | none => rw [e] at hi; cases hi
  | some u =>
    cases e2 : ys[i]? with
    | none => rw [e, e2] at hi; cases hi
    | some v =>
      rw [e, e2] at hi
      rw [← Option.some.inj hi]
      exact bx_bit (h _ (List.mem_of_getElem? e)) (g _ (List.mem_of_getElem? e2))
/-- the syndrome of 56 bits -/
def synL (c : List Int) : List Int := List.zipWith bx (crcI (c.take 48)) (c.drop 48)
theorem bx_self (a : Int) : bx a a = 0 := by
  unfold bx
  rw [Nat.xor_self]
  rfl
theorem bx_eq_zero {a b : Int} (ha : 0 ≤ a) (hb : 0 ≤ b) (h : bx a b = 0) : a = b := by
  unfold bx at h
  have h2 : a.toNat ^^^ b.toNat = 0 := by omega
  have h3 : a.toNat = b.toNat := by
    have := congrArg (· ^^^ b.toNat) h2
    simpa [Nat.xor_assoc] using this
  omega
theorem bx4 (a b c d : Int) : bx (bx a b) (bx c d) = bx (bx a c) (bx b d) := by
  unfold bx
  simp only [Int.toNat_natCast]
  rw [xor4]
theorem zw4 (a b c d : List Int) : List.zipWith bx (List.zipWith bx a b) (List.zipWith bx c d) = List.zipWith bx (List.zipWith bx a c) (List.zipWith bx b d) := by
  refine List.ext_getElem? fun i => ?_
  simp only [List.getElem?_zipWith]
  cases a[i]? <;> cases b[i]? <;> cases c[i]? <;> cases d[i]? <;> simp only [bx4]
theorem zw_zero_iff : ∀ {a b : List Int}, a.length = b.length → AreBits a → AreBits b → (List.zipWith bx a b = List.replicate a.length 0 ↔ a = b)
  | [], [], _, _, _ => by simp
  | [], y :: ys, h, _, _ => by cases h
  | x :: xs, [], h, _, _ => by cases h
  | x :: xs, y :: ys, h, ha, hb => by
    have ih := zw_zero_iff (a := xs) (b := ys) (by simpa using h) (fun z m => ha z (List.mem_cons_of_mem _ m)) (fun z m => hb z (List.mem_cons_of_mem _ m))
    have hx := ha x List.mem_cons_self
    have hy := hb y List.mem_cons_self
    rw [List.zipWith_cons_cons, List.length_cons, List.replicate_succ, List.cons.injEq, List.cons.injEq, ih]
    constructor
    · rintro ⟨e, r⟩
      exact ⟨bx_eq_zero hx.1 hy.1 e, r⟩
    · rintro ⟨rfl, r⟩
      exact ⟨bx_self _, r⟩
theorem good_iff {c : List Int} (hl : c.length = 56) (hb : AreBits c) : goodC c = true ↔ synL c = List.replicate 8 0 := by
  unfold goodC synL
  rw [decide_eq_true_eq]
  have := zw_zero_iff (a := crcI (c.take 48)) (b := c.drop 48) (by rw [crcI_len, List.length_drop]; omega) (crcI_bits _) (hb.drop _)
  rw [crcI_len] at this
  exact this.symm
theorem syn_lin {c d : List Int} (hl : c.length = 56) (hm : d.length = 56) (hb : AreBits c) (hd : AreBits d) : synL (List.zipWith bx c d) = List.zipWith bx (synL c) (synL d) := by
  unfold synL
  rw [zw_take, zw_drop, crcI_lin (by rw [List.length_take, List.length_take]; omega) (hb.take _) (hd.take _), zw4]
theorem syn_len {c : List Int} (hl : c.length = 56) : (synL c).length = 8 := by
  unfold synL
  rw [List.length_zipWith, crcI_len, List.length_drop]
  omega
theorem zw_zeros : ∀ {a : List Int}, AreBits a → List.zipWith bx (List.replicate a.length 0) a = a
  | [], _ => rfl
  | x :: xs, h => by
    have hx := h x List.mem_cons_self
    rw [List.length_cons, List.replicate_succ, List.zipWith_cons_cons, zw_zeros fun z m => h z (List.mem_cons_of_mem _ m)]
    congr 1
    rcases bit_top hx with rfl | rfl <;> decide
theorem syn_bits {c : List Int} (hb : AreBits c) : AreBits (synL c) := (crcI_bits _).zw (hb.drop _)
/-- a good cell turned by a pattern is good just if the pattern's syndrome is nothing -/
theorem good_turn {c : List Int} {f : Nat → Bool} (hl : c.length = 56) (hb : AreBits c) (hg : goodC c = true) : goodC (turnC c f) = true ↔ synL (pat 56 f) = List.replicate 8 0 := by
  have e : turnC c f = List.zipWith bx c (pat 56 f) := by unfold turnC; rw [hl]
  rw [e, good_iff (by rw [List.length_zipWith, hl, pat_len]; rfl) (hb.zw (pat_bits _ _)), syn_lin hl (pat_len _ _) hb (pat_bits _ _), (good_iff hl hb).mp hg]
  have := zw_zeros (a := synL (pat 56 f)) (syn_bits (pat_bits _ _))
  rw [syn_len (pat_len _ _)] at this
  rw [this]
/-! ### patterns that are told -/
def sTab : List Nat := [236, 118, 59, 158, 79, 164, 82, 41, 151, 200, 100, 50, 25, 143, 196, 98, 49, 155, 206, 103, 176, 88, 44, 22, 11, 134, 67, 162, 81, 171, 214, 107, 182, 91, 174, 87, 168, 84, 42, 21, 137, 199, 224, 112, 56, 28, 14, 7, 128, 64, 32, 16, 8, 4, 2, 1]
def sAt (i : Nat) : Nat := sTab.getD i 0
def xorAll (l : List Nat) : Nat := l.foldl (· ^^^ ·) 0
theorem xorAll_go (l : List Nat) : ∀ a, l.foldl (· ^^^ ·) a = a ^^^ xorAll l := by
  unfold xorAll
  induction l with
  | nil => intro a; simp
  | cons x r ih =>
    intro a
    rw [List.foldl_cons, ih, List.foldl_cons, ih (0 ^^^ x), Nat.zero_xor, Nat.xor_assoc]
theorem xorAll_cons (x : Nat) (l : List Nat) : xorAll (x :: l) = x ^^^ xorAll l := by
  rw [xorAll, List.foldl_cons, xorAll_go, Nat.zero_xor]
theorem pat_congr {n : Nat} {f g : Nat → Bool} (h : ∀ i, i < n → f i = g i) : pat n f = pat n g := by
  unfold pat
  refine List.map_congr_left fun i m => ?_
  rw [h i (List.mem_range.mp m)]
theorem syn_unit : ∀ a, a < 56 → synL (pat 56 (fun i => i == a)) = bitsI 8 (sAt a) := by decide +kernel
theorem syn_set : ∀ (l : List Nat), l.Nodup → (∀ a ∈ l, a < 56) → synL (pat 56 (fun i => decide (i ∈ l))) = bitsI 8 (xorAll (l.map sAt))
  | [], _, _ => by
    rw [pat_congr (g := fun _ => false) (fun i _ => by simp)]
    decide +kernel
  | a :: l, hn, hl => by
    have ih := syn_set l (List.nodup_cons.mp hn).2 fun x m => hl x (List.mem_cons_of_mem _ m)
    rw [pat_congr (g := fun i => (i == a) ^^ decide (i ∈ l)) (fun i _ => ?_), pat_xor, syn_lin (pat_len _ _) (pat_len _ _) (pat_bits _ _) (pat_bits _ _), syn_unit a (hl a List.mem_cons_self), ih, ← bitsI_xor, List.map_cons, xorAll_cons]
    by_cases e : i = a
    · subst e
      have : i ∉ l := (List.nodup_cons.mp hn).1
      simp [this]
    · have h1 : (i == a) = false := by simp [e]
      rw [h1]
      simp [e]
theorem syn_fun (f : Nat → Bool) : synL (pat 56 f) = bitsI 8 (xorAll (((List.range 56).filter f).map sAt)) := by
  rw [← syn_set _ (List.Pairwise.sublist List.filter_sublist List.nodup_range) fun a m => List.mem_range.mp (List.mem_filter.mp m).1]
  congr 1
  refine pat_congr fun i hi => ?_
  simp [List.mem_filter, hi]
theorem bits8_zero : ∀ n, n < 256 → (bitsI 8 n = List.replicate 8 0 ↔ n = 0) := by decide +kernel
theorem sTab_lt : ∀ x ∈ sTab, x < 256 := by decide +kernel
theorem xorAll_lt {l : List Nat} (h : ∀ x ∈ l, x < 256) : xorAll l < 256 := by
  induction l with
  | nil => decide
  | cons x r ih =>
    rw [xorAll_cons]
    exact Nat.xor_lt_two_pow (n := 8) (h x List.mem_cons_self) (ih fun y m => h y (List.mem_cons_of_mem _ m))
theorem sTab_map : (List.range 56).map sAt = sTab := by decide +kernel
/-- no row of one to k of them comes to nothing -/
def okUp : Nat → Nat → List Nat → Bool
  | 0, _, _ => true
  | _ + 1, _, [] => true
  | k + 1, acc, x :: r => (acc ^^^ x != 0) && okUp k (acc ^^^ x) r && okUp (k + 1) acc r
theorem okUp_sub : ∀ {l s : List Nat} (_ : List.Sublist s l) (k acc : Nat), okUp k acc l = true → s ≠ [] → s.length ≤ k → acc ^^^ xorAll s ≠ 0 := by
  intro l s h
  induction h with
  | slnil => intro k acc _ h; exact absurd rfl h
  | @cons s r x h ih =>
    intro k acc hk hs hl
    cases k with
    | zero =>
      cases s with
      | nil => exact absurd rfl hs
      | cons y s => cases hl
    | succ k =>
      rw [okUp, Bool.and_eq_true] at hk
      exact ih (k + 1) acc hk.2 hs hl
  | @cons_cons s r x h ih =>
    intro k acc hk hs hl
    cases k with
    | zero => cases hl
    | succ k =>
      rw [okUp, Bool.and_eq_true, Bool.and_eq_true] at hk
      rw [xorAll_cons, ← Nat.xor_assoc]
      cases s with
      | nil =>
        have := hk.1.1
        simp only [bne_iff_ne, ne_eq] at this
        simpa [xorAll] using this
      | cons y s => exact ih k _ hk.1.2 (by simp) (by simpa using hl)
theorem ok3 : okUp 3 0 sTab = true := by decide +kernel
theorem ok8 : ∀ b, b < 49 → okUp 8 0 ((sTab.drop b).take 8) = true := by decide +kernel
theorem sub_len : ∀ {l m : List Nat}, l.Nodup → (∀ x ∈ l, x ∈ m) → l.length ≤ m.length
  | [], _, _, _ => Nat.zero_le _
  | x :: l, m, hn, hs => by
    have h1 := sub_len (l := l) (m := m.erase x) (List.nodup_cons.mp hn).2 fun y my => by
      have ne : y ≠ x := fun e => (List.nodup_cons.mp hn).1 (e ▸ my)
      exact (List.mem_erase_of_ne ne).mpr (hs y (List.mem_cons_of_mem _ my))
    have h2 := List.length_erase_of_mem (hs x List.mem_cons_self)
    have h3 := List.length_pos_of_mem (hs x List.mem_cons_self)
    rw [List.length_cons]
    omega
/-- one to three places, or some within eight neighbouring ones -/
def Told (f : Nat → Bool) : Prop := (∃ i, i < 56 ∧ f i = true) ∧ ((∃ l : List Nat, l.length ≤ 3 ∧ ∀ i, i < 56 → f i = true → i ∈ l) ∨ (∃ b, b < 49 ∧ ∀ i, i < 56 → f i = true → b ≤ i ∧ i < b + 8))
theorem told_syn {f : Nat → Bool} (h : Told f) : synL (pat 56 f) ≠ List.replicate 8 0 := by
  rw [syn_fun, ne_eq, bits8_zero _ (xorAll_lt fun x m => ?_)]
  · obtain ⟨⟨i, hi, fi⟩, h⟩ := h
    have ne : ((List.range 56).filter f).map sAt ≠ [] := fun e => by
      have m : i ∈ (List.range 56).filter f := List.mem_filter.mpr ⟨List.mem_range.mpr hi, fi⟩
      rw [List.map_eq_nil_iff.mp e] at m
      cases m
    rcases h with ⟨l, hl, hf⟩ | ⟨b, hb, hf⟩
    · have sb : List.Sublist (((List.range 56).filter f).map sAt) sTab := sTab_map ▸ (List.filter_sublist).map sAt
      have := okUp_sub sb 3 0 ok3 ne (by
        rw [List.length_map]
        exact Nat.le_trans (sub_len (List.Pairwise.sublist List.filter_sublist List.nodup_range) fun x m => hf x (List.mem_range.mp (List.mem_filter.mp m).1) (List.mem_filter.mp m).2) hl)
      simpa using this
    · have e : (List.range 56).filter f = (((List.range 56).drop b).take 8).filter f := by
        have p : List.range 56 = (List.range 56).take b ++ (((List.range 56).drop b).take 8 ++ ((List.range 56).drop b).drop 8) := by
          rw [List.take_append_drop, List.take_append_drop]
        have nf : ∀ (r : List Nat), (∀ x ∈ r, f x = false) → r.filter f = [] := fun r hr => List.filter_eq_nil_iff.mpr fun x m => by rw [hr x m]; decide
        have h1 : ((List.range 56).take b).filter f = [] := nf _ fun x m => by
          rw [List.take_range, List.mem_range] at m
          cases e : f x with
          | false => rfl
          | true =>
            have := hf x (by omega) e
            omega
        have h2 : (((List.range 56).drop b).drop 8).filter f = [] := nf _ fun x m => by
          rw [List.drop_drop, List.mem_iff_getElem?] at m
          obtain ⟨j, hj⟩ := m
          rw [List.getElem?_drop] at hj
          obtain ⟨hj1, hj2⟩ := List.getElem?_eq_some_iff.mp hj
          rw [List.getElem_range] at hj2
          rw [List.length_range] at hj1
          cases e : f x with
          | false => rfl
          | true =>
            have := hf x (by omega) e
            omega
        rw [congrArg (List.filter f) p, List.filter_append, List.filter_append, h1, h2, List.nil_append, List.append_nil]
      rw [e] at ne ⊢
      have sb : List.Sublist ((((List.range 56).drop b).take 8).filter f |>.map sAt) ((sTab.drop b).take 8) := by
        rw [← sTab_map, ← List.map_drop, ← List.map_take]
        exact (List.filter_sublist).map sAt
      have := okUp_sub sb 8 0 (ok8 b hb) ne (Nat.le_trans sb.length_le (by rw [List.length_take]; omega))
      simpa using this
  · obtain ⟨i, m2, rfl⟩ := List.mem_map.mp m
    refine sTab_lt _ ?_
    rw [← sTab_map]
    exact List.mem_map.mpr ⟨i, (List.mem_filter.mp m2).1, rfl⟩
theorem good_told {c : List Int} {f : Nat → Bool} (hl : c.length = 56) (hb : AreBits c) (hg : goodC c = true) (h : Told f) : goodC (turnC c f) = false := by
  cases e : goodC (turnC c f) with
  | false => rfl
  | true => exact absurd ((good_turn hl hb hg).mp e) (told_syn h)
section
variable {P : Program} {w : World} {K : PySem.W.Frag} {mg : Str → Option Value} {base : Heap}
structure Txt (mg : Str → Option Value) : Prop where
  z_int : mg "int" = none
  z_len : mg "len" = none
  z_max : mg "max" = none
  z_min : mg "min" = none
  z_range : mg "range" = none
  z_isinstance : mg "isinstance" = none
  z_bool : mg "bool" = none
  z_list : mg "list" = none
/-- the numbers that the top gives names to -/
structure Con (mg : Str → Option Value) (t1 t2 t3 t4 t5 : Tok) : Prop where
  check : mg "CHECK_BITS" = some (.int 8 t1)
  feed : mg "FEEDBACK" = some (.int 7 t2)
  load : mg "LOAD_BITS" = some (.int 48 t3)
  cell : mg "CELL_BITS" = some (.int 56 t4)
  group : mg "MOST_GROUP" = some (.int 8 t5)
variable {t1 t2 t3 t4 t5 : Tok}
/-! ### fixed -/
def spFixed : Sp := fun vs H Q _ => ∃ (n w : Nat), vs = [.int n, .int w] ∧ n < 2 ^ w ∧ w ≤ 900 ∧ ∀ (p : Addr) (H' : Hp), H p = none → Same H H' → H' p = some (.lst ((bitsI w n).map V.int)) → Q (.ref p) H'
theorem ok_fixed {f : Addr} {fd : FuncData} {k : Nat} (F : Fun K "fixed" "fixed" s_fixed f fd) (T : Txt mg) : FnOk P w K mg base CX0 (k + 1) f fd ["n", "w"] spFixed := by
  refine F.ok sc_fixed (fun vs H Q E h => ?_) (fun cdv A outer s H vs Q E hr h => ?_)
  · obtain ⟨n, w, rfl, _⟩ := h
    rfl
  · obtain ⟨n, w, rfl, hn, hw, q⟩ := h
    have hb : Builtin.Int.intBits (n : Int) ≤ w := PyProof.Rows.intBits_le (by omega)
    refine ⟨_, (pss_cons (ps_if (PW.pt (pw_or (pt_cmpR op_lt (pv 0) pe_int (nomark _)) (pw_or (pt_cmpR op_lt (pv 1) pe_int (nomark _)) (pw_or1 (pt_cmpR op_gt (pe_bits (pv 0)) (pv 1) (nomark _)))))) (pss_one ps_never) pss_nil)
    (pss_cons (ps_set (i := 2) sc_fixed.nd rfl (Or.inl rfl) (pe_joined1 (pe_fmtB (pe_op op_add (pe_op op_shl pe_int (pv 1)) (pv 0)))))
    (pss_one (ps_ret (pe_lc (own := [("digit", 3)]) (g := (gName 3)) (tt := tYes) rfl sc_fixed.nd (pi_str (pe_slice C8.sl_txt (pv 2) (po_some pe_int) po_none)) (blkOk_by (N := ["n", "w", "text", "digit"]) (sc := defScope s_fixed) (by decide +kernel)) (fun _ _ _ _ _ => pg_name (i := 3) sc_fixed.nd rfl (Or.inl rfl)) (fun _ _ _ _ _ => pts_nil) (fun _ _ _ _ _ => (pe_callTy call_int_str (by rfl) T.z_int PyProof.Rows.boot_int (pa_cons (pv 3) pa_nil)))))))), ?_⟩
    walk_at "ev"
    have e0 : (1 : Int) * 2 ^ (w : Int).toNat + (n : Int) = ((2 ^ w + n : Nat) : Int) := by
      rw [Int.one_mul, Int.toNat_natCast, Int.natCast_add, Int.natCast_pow]
      rfl
    have eL : (binCodes (2 ^ w + n)).length = w + 1 := by
      rw [binCodes_pow w n hn, List.length_cons, List.length_map, bitsW_len]
    have eD : (Nat.toDigits 2 (2 ^ w + n)).length ≤ sizeLine := by
      have := eL
      unfold binCodes at this
      rw [List.length_map] at this
      rw [this]
      exact Nat.le_of_lt (small1000 (by omega))
    refine ⟨by rw [e0]; exact Int.natCast_nonneg _, ?_⟩
    rw [e0, Int.natAbs_natCast]
    refine ⟨eD, ?_⟩
    have es : Txt.slice (SX.S (binCodes (2 ^ w + n))) (some 1) none = SX.S ((bitsW w n).map (48 + ·)) := by
      rw [SX.slice_from (by decide), binCodes_pow w n hn]
      rfl
    have eN : (SX.S ((bitsW w n).map (48 + ·))).cps.size = w := by
      show ((bitsW w n).map (48 + ·)).toArray.size = w
      rw [List.size_toArray, List.length_map, bitsW_len]
    walk_at "ev"
    refine ⟨by rw [SX.S_len, eL]; exact Nat.le_of_lt (small1000 (by omega)), ?_⟩
    rw [es]
    walk_at "ev"
    intro D hD
    refine lc_it (walk_str (z := SX.S ((bitsW w n).map (48 + ·)))) (fun i H1 => Same H H1 ∧ H1 D = some (.lst (((bitsI w n).take i).map V.int))) ⟨same_upd hD, upd_same⟩ (fun _ _ _ _ => trivial) ?_ ?_
    · rintro i x H1 H2 hi ⟨s1, e1⟩ ⟨rfl, c, hc, rfl⟩
      rw [eN] at hi
      have hb : i < (bitsW w n).length := by rw [bitsW_len]; exact hi
      have ec : c = 48 + (bitsW w n)[i] := by
        have h2 : ((bitsW w n).map (48 + ·)).toArray[i]? = some c := hc
        rw [List.getElem?_toArray, List.getElem?_map, List.getElem?_eq_getElem hb] at h2
        exact (Option.some.inj h2).symm
      subst ec
      have hb2 : (bitsW w n)[i] < 2 := bitsW_bit w n _ (List.getElem_mem _)
      have gi : (bitsI w n)[i]? = some ((bitsW w n)[i] : Int) := by
        rw [bitsI, List.getElem?_map, List.getElem?_eq_getElem hb]
        rfl
      walk_at "ev"
      refine ⟨_, _, rfl, digit_int hb2, (by decide : 1 ≤ 640), _, e1, ?_, ?_, ?_⟩
      · rw [List.length_map, List.length_take]
        exact Nat.lt_of_le_of_lt (Nat.min_le_left _ _) (small1000 (by omega))
      · exact fun b o e => by
          rw [upd_ne (ne_of_none e hD)]
          exact s1 b o e
      · rw [upd_same, ← take_snoc gi, List.map_append]
        rfl
    · rintro H1 ⟨s1, e1⟩
      refine q D H1 hD s1 ?_
      rw [e1, eN, List.take_of_length_le (by rw [bitsI_len]; exact Nat.le_refl _)]
def spIsNum : Sp := fun vs H Q _ => ∃ (z : Int), vs = [.int z] ∧ Q (.bl true) H
theorem ok_is_number {f : Addr} {fd : FuncData} {k : Nat} (F : Fun K "is_number" "is_number" s_is_number f fd) (T : Txt mg) : FnOk P w K mg base CX0 (k + 1) f fd ["thing"] spIsNum := by
  refine F.ok sc_is_number (fun vs H Q E h => ?_) (fun cdv A outer s H vs Q E hr h => ?_)
  · obtain ⟨z, rfl, _⟩ := h
    rfl
  · obtain ⟨z, rfl, q⟩ := h
    refine ⟨_, (pss_one (ps_ret (pe_and (pe_callB call_isi (by rfl) T.z_isinstance PyProof.Rows.boot_isinstance (pa_cons (pv 0) (pa_cons (pe_bltn (v := .ty "int") (by rfl) T.z_int PyProof.Rows.boot_int rfl) pa_nil))) (pe_one (pe_not (pe_callB call_isi (by rfl) T.z_isinstance PyProof.Rows.boot_isinstance (pa_cons (pv 0) (pa_cons (pe_bltn (v := .ty "bool") (by rfl) T.z_bool PyProof.Rows.boot_bool rfl) pa_nil)))))))), ?_⟩
    walk_at "ev"
    exact q
def spCheckB : Sp := fun vs H Q _ => ∃ (p : Addr) (xs : List Int), vs = [.ref p] ∧ H p = some (.lst (xs.map V.int)) ∧ AreBits xs ∧ Q .non H
theorem ok_check_bits {f : Addr} {fd : FuncData} {k : Nat} (F : Fun K "check_bits" "check_bits" s_check_bits f fd) (c_is_number : C8.Cal P w K mg base 1 "is_number" spIsNum []) : FnOk P w K mg base CX0 (k + 2) f fd ["bits"] spCheckB := by
  refine F.ok sc_check_bits (fun vs H Q E h => ?_) (fun cdv A outer s H vs Q E hr h => ?_)
  · obtain ⟨p, xs, rfl, _⟩ := h
    rfl
  · obtain ⟨p, xs, rfl, hp, hb, q⟩ := h
    refine ⟨_, (pss_one (ps_for PassesOwn.never rfl (pi_list (pv 0)) (pg_name (i := 1) sc_check_bits.nd rfl (Or.inl rfl))
      (pss_one (ps_if (PW.pt (pw_or (pt_not (pt_val (C8.pe_c c_is_number hr (by omega) (by rfl) (pa_cons (pv 1) pa_nil)))) (pw_or1 (pt_not (pt_chain op_le op_le pe_int (pv 1) pe_int))))) (pss_one ps_never) pss_nil)))), ?_⟩
    walk_at "ev"
    refine ⟨⟨_, .inl (.inl hp)⟩, for_list (K := K) (a := p) (xs := xs.map V.int) (fun _ σ H1 => ∃ v, σ = [some (.ref p), v] ∧ H1 = H) ⟨_, rfl, rfl⟩ (fun _ _ _ _ ⟨_, _, e⟩ => by rw [e]; exact .inl (.inl hp)) ?_ ?_⟩
    · rintro i x σ H1 hx ⟨v, rfl, rfl⟩
      rw [List.getElem?_map] at hx
      obtain ⟨z, hz, rfl⟩ := Option.map_eq_some_iff.mp hx
      have hz2 := hb z (List.mem_of_getElem? hz)
      walk_at "ev"
      rfl
    · rintro σ H1 ⟨v, rfl, rfl⟩
      exact q
/-! ### check_of, check -/
theorem pr_top {h : Nat} {z : Int} (hz : 0 ≤ z) : Builtin.bitXor ((h : Int) / 2 ^ ((8 : Int) - 1).toNat) z = (((h / 128) ^^^ z.toNat : Nat) : Int) := by
  have e : (h : Int) / 2 ^ ((8 : Int) - 1).toNat = ((h / 128 : Nat) : Int) := by
    rw [show (2 : Int) ^ ((8 : Int) - 1).toNat = 128 by decide]
    omega
  rw [e, Bits.bitXor_pp (by omega) hz, Int.toNat_natCast]
theorem pr_held (h : Nat) : Builtin.bitAnd (2 * (h : Int)) (1 * 2 ^ Int.toNat 8 - 1) = ((2 * h % 256 : Nat) : Int) := by
  rw [show (1 * 2 ^ Int.toNat 8 - 1 : Int) = 2 ^ 8 - 1 by decide, PySem.W.kbt_mask]
  omega
theorem pr_feed (n : Nat) : Builtin.bitXor (n : Int) 7 = ((n ^^^ 7 : Nat) : Int) := by
  rw [Bits.bitXor_pp (by omega) (by decide), Int.toNat_natCast]
  rfl
def spCheckOf : Sp := fun vs H Q _ => ∃ (p : Addr) (xs : List Int), vs = [.ref p] ∧ H p = some (.lst (xs.map V.int)) ∧ AreBits xs ∧ ∀ (q : Addr) (H' : Hp), H q = none → Same H H' → H' q = some (.lst ((crcI xs).map V.int)) → Q (.ref q) H'
theorem ok_check_of {f : Addr} {fd : FuncData} {k : Nat} (F : Fun K "check_of" "check_of" s_check_of f fd) (CN : Con mg t1 t2 t3 t4 t5) (c_fixed : C8.Cal P w K mg base 1 "fixed" spFixed []) : FnOk P w K mg base CX0 (k + 2) f fd ["bits"] spCheckOf := by
  refine F.ok sc_check_of (fun vs H Q E h => ?_) (fun cdv A outer s H vs Q E hr h => ?_)
  · obtain ⟨p, xs, rfl, _⟩ := h
    rfl
  · obtain ⟨p, xs, rfl, hp, hb, q⟩ := h
    refine ⟨_, (pss_cons (ps_set (i := 1) sc_check_of.nd rfl (Or.inl rfl) pe_int)
    (pss_cons (ps_for PassesOwn.never rfl (pi_list (pv 0)) (pg_name (i := 2) sc_check_of.nd rfl (Or.inl rfl))
      (pss_cons (ps_set (i := 3) sc_check_of.nd rfl (Or.inl rfl) (pe_op op_xor (pe_op op_shr (pv 1) (pe_op op_sub (pe_glob (v := .int 8) (by rfl) CN.check ⟨_, rfl⟩) pe_int)) (pv 2)))
    (pss_cons (ps_set (i := 1) sc_check_of.nd rfl (Or.inl rfl) (pe_op op_and (pe_op op_mul pe_int (pv 1)) (pe_op op_sub (pe_op op_shl pe_int (pe_glob (v := .int 8) (by rfl) CN.check ⟨_, rfl⟩)) pe_int)))
    (pss_one (ps_if (pt_cmpR op_eq (pv 3) pe_int (nomark _)) (pss_one (ps_set (i := 1) sc_check_of.nd rfl (Or.inl rfl) (pe_op op_xor (pv 1) (pe_glob (v := .int 7) (by rfl) CN.feed ⟨_, rfl⟩)))) pss_nil)))))
    (pss_one (ps_ret (C8.pe_c c_fixed hr (by omega) (by rfl) (pa_cons (pv 1) (pa_cons (pe_glob (v := .int 8) (by rfl) CN.check ⟨_, rfl⟩) pa_nil))))))), ?_⟩
    walk_at "ev"
    refine ⟨⟨_, .inl (.inl hp)⟩, for_list (K := K) (a := p) (xs := xs.map V.int) (fun i σ H1 => ∃ v t, σ = [some (.ref p), some (.int (crcN (xs.take i))), v, t] ∧ H1 = H) ⟨_, _, rfl, rfl⟩ (fun _ _ _ _ ⟨_, _, _, e⟩ => by rw [e]; exact .inl (.inl hp)) ?_ ?_⟩
    · rintro i x σ H1 hx ⟨v, t, rfl, rfl⟩
      rw [List.getElem?_map] at hx
      obtain ⟨z, hz, rfl⟩ := Option.map_eq_some_iff.mp hx
      have hz2 := hb z (List.mem_of_getElem? hz)
      have hh := crcN_lt (hb.take i)
      have es := crcN_snoc (xs.take i) z
      rw [take_snoc hz] at es
      generalize crcN (xs.take i) = h at *
      walk_at "ev"
      · rename_i hc
        rw [pr_top hz2.1] at hc
        have ht : (h / 128) ^^^ z.toNat = 1 := by omega
        refine ⟨some (.int z), some (.int (Builtin.bitXor (↑h / 2 ^ ((8 : Int) - 1).toNat) z)), ?_, rfl⟩
        rw [es, cst, ht]
        show [_, some (V.int (Builtin.bitXor (Builtin.bitAnd (2 * ↑h) (1 * 2 ^ Int.toNat 8 - 1)) 7)), _, _] = _
        rw [pr_held, pr_feed]
      · rename_i hc
        rw [pr_top hz2.1] at hc
        have ht : (h / 128) ^^^ z.toNat = 0 := (cst_top hh hz2).resolve_right (by omega)
        refine ⟨some (.int z), some (.int (Builtin.bitXor (↑h / 2 ^ ((8 : Int) - 1).toNat) z)), ?_, rfl⟩
        rw [es, cst, ht]
        show [_, some (V.int (Builtin.bitAnd (2 * ↑h) (1 * 2 ^ Int.toNat 8 - 1))), _, _] = _
        rw [pr_held, Nat.mul_zero, Nat.xor_zero]
    · rintro σ H1 ⟨v, t, rfl, rfl⟩
      walk_at "ev"
      rw [List.length_map, List.take_length]
      exact ⟨crcN_lt hb, by decide, q⟩
theorem ok_check {f : Addr} {fd : FuncData} {k : Nat} (F : Fun K "check" "check" s_check f fd) (c_check_bits : C8.Cal P w K mg base 2 "check_bits" spCheckB []) (c_check_of : C8.Cal P w K mg base 2 "check_of" spCheckOf []) : FnOk P w K mg base CX0 (k + 3) f fd ["bits"] spCheckOf := by
  refine F.ok sc_check (fun vs H Q E h => ?_) (fun cdv A outer s H vs Q E hr h => ?_)
  · obtain ⟨p, xs, rfl, _⟩ := h
    rfl
  · obtain ⟨p, xs, rfl, hp, hb, q⟩ := h
    refine ⟨_, (pss_cons (ps_expr (C8.pe_c c_check_bits hr (by omega) (by rfl) (pa_cons (pv 0) pa_nil)))
    (pss_one (ps_ret (C8.pe_c c_check_of hr (by omega) (by rfl) (pa_cons (pv 0) pa_nil))))), ?_⟩
    walk_at "ev"
    refine ⟨p, xs, rfl, hp, hb, ?_⟩
    walk_at "ev"
    exact ⟨p, xs, rfl, hp, hb, q⟩
/-! ### parts, cells -/
/-- lists at addresses -/
def Rws (H : Hp) (rs : List Addr) (ls : List (List V)) : Prop := rs.length = ls.length ∧ ∀ (i : Nat) (r : Addr), rs[i]? = some r → ∃ l, ls[i]? = some l ∧ H r = some (.lst l)
theorem Rws.same {H H' : Hp} {rs : List Addr} {ls : List (List V)} (s : Same H H') (h : Rws H rs ls) : Rws H' rs ls := ⟨h.1, fun i r e => by
  obtain ⟨l, e1, e2⟩ := h.2 i r e
  exact ⟨l, e1, s _ _ e2⟩⟩
def chunks {α : Type} (xs : List α) (n : Nat) : List (List α) := (List.range ((xs.length + n - 1) / n)).map fun i => (xs.drop (i * n)).take n
theorem chunks_map {α β : Type} (f : α → β) (xs : List α) (n : Nat) : chunks (xs.map f) n = (chunks xs n).map (·.map f) := by
  unfold chunks
  rw [List.length_map, List.map_map]
  refine List.map_congr_left fun i _ => ?_
  show _ = List.map f _
  rw [List.map_take, List.map_drop]
theorem chunks_len {α : Type} (xs : List α) (n : Nat) : (chunks xs n).length = (xs.length + n - 1) / n := by
  unfold chunks
  rw [List.length_map, List.length_range]
theorem chunks_get {α : Type} {xs : List α} {n i : Nat} {l : List α} (h : (chunks xs n)[i]? = some l) : l = (xs.drop (i * n)).take n := by
  unfold chunks at h
  rw [List.getElem?_map] at h
  obtain ⟨j, hj, rfl⟩ := Option.map_eq_some_iff.mp h
  have := (List.getElem?_eq_some_iff.mp hj).2
  rw [List.getElem_range] at this
  rw [this]
theorem rs_parts {m n : Nat} (hn : 0 < n) : Builtin.Range.rangeSize 0 (m : Int) (n : Int) = (((m + n - 1) / n : Nat) : Int) := by
  unfold Builtin.Range.rangeSize
  rw [if_pos (by omega)]
  by_cases h : m = 0
  · subst h
    rw [if_neg (by omega), Nat.div_eq_of_lt (by omega)]
    rfl
  · have e : (m + n - 1) / n = (m - 1) / n + 1 := by
      rw [show m + n - 1 = (m - 1) + n by omega, Nat.add_div_right _ hn]
    rw [if_pos (by omega), e, Int.natCast_add, Int.natCast_ediv, show ((m - 1 : Nat) : Int) = (m : Int) - 0 - 1 by omega]
    rfl
theorem rg_parts {m n : Nat} (hn : 0 < n) (hn2 : n < 100000) (hm : m < 1000000) : RgC 0 (m : Int) (n : Int) ((m + n - 1) / n) := by
  refine ⟨by omega, by omega, ?_, rs_parts hn⟩
  have h : (m + n - 1) / n ≤ m + n - 1 := Nat.div_le_self _ _
  unfold Builtin.Range.small
  rw [rs_parts hn]
  generalize (m + n - 1) / n = q at h ⊢
  simp only [Builtin.Range.rangeFitsLong, Bool.and_eq_true, Bool.or_eq_true, decide_eq_true_eq, beq_iff_eq, show ((n : Int) > 0) by omega, if_true]
  repeat' (first | omega | refine ⟨?_, ?_⟩ | split)
theorem tn_le {t m n : Nat} (hn : 0 < n) (h : t < (m + n - 1) / n) : t * n ≤ m := by
  have h2 := (Nat.lt_div_iff_mul_lt hn).mp h
  have h3 : n * t = t * n := Nat.mul_comm _ _
  omega
theorem cd_le (m n : Nat) : (m + n - 1) / n ≤ m := by
  rcases Nat.eq_zero_or_pos n with rfl | hn
  · simp
  · rcases Nat.eq_zero_or_pos m with rfl | hm
    · rw [Nat.div_eq_of_lt (by omega)]
      exact Nat.le_refl _
    · refine Nat.div_le_of_le_mul ?_
      have : m + n ≤ n * m + 1 := by
        obtain ⟨a, rfl⟩ : ∃ a, n = a + 1 := ⟨n - 1, by omega⟩
        obtain ⟨b, rfl⟩ : ∃ b, m = b + 1 := ⟨m - 1, by omega⟩
        rw [Nat.add_mul, Nat.mul_add]
        omega
      omega
def spParts : Sp := fun vs H Q _ => ∃ (p : Addr) (xs : List V) (n : Nat), vs = [.ref p, .int n] ∧ H p = some (.lst xs) ∧ 0 < n ∧ n < 100000 ∧ xs.length < 1000000 ∧ ∀ (q : Addr) (rs : List Addr) (H' : Hp), H q = none → Same H H' → H' q = some (.lst (rs.map V.ref)) → Rws H' rs (chunks xs n) → (∀ r ∈ rs, H r = none ∧ r ≠ q) → rs.Nodup → Q (.ref q) H'
theorem small_m {n : Nat} (h : n < 1000000) : n < sizeLine := Nat.lt_of_lt_of_le h (by decide)
theorem ok_parts {f : Addr} {fd : FuncData} {k : Nat} (F : Fun K "parts_of" "parts_of" s_parts_of f fd) (T : Txt mg) : FnOk P w K mg base CX0 (k + 1) f fd ["things", "size"] spParts := by
  refine F.ok sc_parts_of (fun vs H Q E h => ?_) (fun cdv A outer s H vs Q E hr h => ?_)
  · obtain ⟨p, xs, n, rfl, _⟩ := h
    rfl
  · obtain ⟨p, xs, n, rfl, hp, hn, hn2, hl, q⟩ := h
    refine ⟨_, (pss_one (ps_ret (pe_lc (own := [("at", 2)]) (g := (gName 2)) (tt := tYes) rfl sc_parts_of.nd (pi_range3 (by rfl) T.z_range (pa_cons pe_int (pa_cons (pe_callB call_len_seq (by rfl) T.z_len PySem.boot_len (pa_cons (pv 0) pa_nil)) (pa_cons (pv 1) pa_nil)))) (blkOk_by (N := ["things", "size", "at"]) (sc := defScope s_parts_of) (by decide +kernel)) (fun _ _ _ _ _ => pg_name (i := 2) sc_parts_of.nd rfl (Or.inl rfl)) (fun _ _ _ _ _ => pts_nil) (fun _ _ _ _ _ => (pe_callTy (call_list_of : CallR _ (.type "list") (fun xs H Q => ∃ p ys, xs = [.ref p] ∧ (SqL K H p ys ∨ SqT K H p ys) ∧ ∀ (l : Addr), H l = none → Q (.ref l) (upd H l (.lst ys)))) (by rfl) T.z_list PyProof.Rows.boot_list (pa_cons (pe_slice (sl_list : SlR _ (rSlL K)) (pv 0) (po_some (pv 2)) (po_some (pe_op op_add (pv 2) (pv 1)))) pa_nil)))))), ?_⟩
    walk_at "ev"
    refine ⟨_, _, _, _, rfl, rg_parts hn hn2 hl, fun D nD => ?_⟩
    refine lc_it walk_rangeC (fun t H2 => ∃ rs : List Addr, rs.length = t ∧ H2 D = some (.lst (rs.map V.ref)) ∧ Same H H2 ∧ Rws H2 rs ((chunks xs n).take t) ∧ (∀ r ∈ rs, H r = none ∧ r ≠ D) ∧ rs.Nodup) ?_ (fun _ _ _ _ => trivial) ?_ ?_
    · exact ⟨[], rfl, upd_same, same_upd nD, ⟨by rw [List.take_zero]; rfl, fun i r e => by simp at e⟩, fun _ m => absurd m List.not_mem_nil, List.nodup_nil⟩
    · rintro t x H2 H3 ht ⟨rs, h1, h2, h3, h4, h5, h6⟩ ⟨rfl, rfl⟩
      walk_at "ev"
      refine ⟨p, xs, rfl, .inl (.inl (h3 _ _ hp)), fun p1 n1 => ?_⟩
      rw [cut_any (i := t * n) (k := t * n + n) (by rw [Int.natCast_mul]; omega) (by rw [Int.natCast_add, Int.natCast_mul]; omega) (tn_le hn ht), show t * n + n - t * n = n by omega]
      refine ⟨p1, _, rfl, .inl (.inl (.inl upd_same)), fun l nl => ?_⟩
      have n1l := ne_of_none (upd_same (H := H3) (o := .lst ((xs.drop (t * n)).take n))) nl
      have nl3 : H3 l = none := by rwa [upd_ne n1l.symm] at nl
      have d1 := ne_of_none h2 n1
      have dl := ne_of_none h2 nl3
      have kp : ∀ b o, H3 b = some o → b ≠ D → upd (upd (upd H3 p1 (.lst ((xs.drop (t * n)).take n))) l (.lst ((xs.drop (t * n)).take n))) D (.lst (rs.map V.ref ++ [.ref l])) b = some o := fun b o e nb => by
        rw [upd_ne nb, upd_ne (ne_of_none e nl3), upd_ne (ne_of_none e n1)]
        exact e
      refine ⟨_, (by rw [upd_ne dl, upd_ne d1]; exact h2), ?_, rs ++ [l], ?_, ?_, ?_, ⟨?_, fun i r e => ?_⟩, ?_, ?_⟩
      · rw [List.length_map, h1]
        exact small_m (Nat.lt_of_lt_of_le ht (Nat.le_trans (cd_le _ _) (Nat.le_of_lt hl)))
      · rw [List.length_append, h1]
        rfl
      · rw [upd_same, List.map_append]
        rfl
      · exact fun b o e => kp b o (h3 b o e) (ne_of_none e nD)
      · rw [List.length_append, List.length_take, chunks_len, h1, Nat.min_eq_left (by omega)]
        rfl
      · by_cases hi : i < t
        · rw [List.getElem?_append_left (by omega)] at e
          obtain ⟨l2, f1, f2⟩ := h4.2 i r e
          refine ⟨l2, ?_, ?_⟩
          · rw [List.getElem?_take_of_lt hi] at f1
            rw [List.getElem?_take_of_lt (by omega)]
            exact f1
          · exact kp _ _ f2 (h5 r (List.mem_of_getElem? e)).2
        · have hj : i = t := by
            have := (List.getElem?_eq_some_iff.mp e).1
            rw [List.length_append, h1] at this
            simp at this
            omega
          subst hj
          rw [List.getElem?_append_right (by omega), h1, Nat.sub_self] at e
          cases e
          refine ⟨(xs.drop (i * n)).take n, ?_, ?_⟩
          · rw [List.getElem?_take_of_lt (by omega), chunks, List.getElem?_map, List.getElem?_range ht]
            rfl
          · rw [upd_ne dl.symm, upd_same]
      · intro r m
        rcases List.mem_append.mp m with m | m
        · exact h5 r m
        · rw [List.mem_singleton.mp m]
          exact ⟨h3.free nl3, dl.symm⟩
      · refine List.nodup_append.mpr ⟨h6, by simp, fun a ma b mb => ?_⟩
        rw [List.mem_singleton.mp mb]
        rintro rfl
        obtain ⟨i, hi⟩ := List.mem_iff_getElem?.mp ma
        obtain ⟨l2, _, f2⟩ := h4.2 i a hi
        rw [nl3] at f2
        cases f2
    · rintro H2 ⟨rs, h1, h2, h3, h4, h5, h6⟩
      rw [List.take_of_length_le (by rw [chunks_len]; exact Nat.le_refl _)] at h4
      exact q D rs H2 nD h3 h2 h4 h5 h6
theorem eqv_ints (a b : List Int) : PyData.eqv (.list (a.map PyData.int)) (.list (b.map PyData.int)) = decide (a = b) := by
  rw [PyData.eqv]
  exact PySem.W.ked_eqvAll a b
theorem q_eqII {K : PySem.W.Frag} {H : Hp} {p q : Addr} {ns ms : List Int} {Q : VK} (hp : H p = some (.lst (ns.map V.int))) (hq : H q = some (.lst (ms.map V.int))) (h : Q (.bl (decide (ns = ms))) H) : rEqD K (.ref p) (.ref q) H Q :=
  ⟨_, _, dp_ints (.inl (.inl hp)), dp_ints (.inl (.inl hq)), sh_ints ns, sh_ints ms, by rw [eqv_ints]; exact h⟩
theorem q_neII {K : PySem.W.Frag} {H : Hp} {p q : Addr} {ns ms : List Int} {Q : VK} (hp : H p = some (.lst (ns.map V.int))) (hq : H q = some (.lst (ms.map V.int))) (h : Q (.bl (!decide (ns = ms))) H) : rNeD K (.ref p) (.ref q) H Q :=
  ⟨_, _, dp_ints (.inl (.inl hp)), dp_ints (.inl (.inl hq)), sh_ints ns, sh_ints ms, by rw [eqv_ints]; exact h⟩
def spIsGood : Sp := fun vs H Q _ => ∃ (p : Addr) (xs : List Int), vs = [.ref p] ∧ H p = some (.lst (xs.map V.int)) ∧ AreBits xs ∧ xs.length = 56 ∧ ∀ H', Same H H' → Q (.bl (goodC xs)) H'
theorem ok_is_good {f : Addr} {fd : FuncData} {k : Nat} (F : Fun K "is_good" "is_good" s_is_good f fd) (CN : Con mg t1 t2 t3 t4 t5) (c_check_of : C8.Cal P w K mg base 2 "check_of" spCheckOf []) : FnOk P w K mg base CX0 (k + 3) f fd ["cell"] spIsGood := by
  refine F.ok sc_is_good (fun vs H Q E h => ?_) (fun cdv A outer s H vs Q E hr h => ?_)
  · obtain ⟨p, xs, rfl, _⟩ := h
    rfl
  · obtain ⟨p, xs, rfl, hp, hb, hl, q⟩ := h
    have hu := hr.units
    refine ⟨_, (pss_one (ps_ret (pe_cmpR (op_eqD hu) (C8.pe_c c_check_of hr (by omega) (by rfl) (pa_cons (pe_slice sl_list (pv 0) po_none (po_some (pe_glob (v := .int 48) (by rfl) CN.load ⟨_, rfl⟩))) pa_nil)) (pe_slice sl_list (pv 0) (po_some (pe_glob (v := .int 48) (by rfl) CN.load ⟨_, rfl⟩)) po_none) (nomark _)))), ?_⟩
    walk_at "ev"
    refine ⟨p, _, rfl, .inl (.inl hp), fun p1 n1 => ?_⟩
    have e1 : cutV (xs.map V.int) none (some 48) = (xs.take 48).map V.int := by
      rw [cut_to (y := 48) (k := 48) rfl (by rw [List.length_map, hl]; decide), List.map_take]
    rw [e1]
    refine ⟨p1, _, rfl, upd_same, hb.take _, fun p2 H2 n2 s2 e2 => ?_⟩
    walk_at "ev"
    have sA := (same_upd (o := .lst ((xs.take 48).map V.int)) n1).trans s2
    refine ⟨p, _, rfl, .inl (.inl (sA _ _ hp)), fun p3 n3 => ?_⟩
    have e3 : cutV (xs.map V.int) (some 48) none = (xs.drop 48).map V.int := by
      unfold cutV
      rw [HT.sIx_none, show (48 : Int) = ((48 : Nat) : Int) from rfl, HT.sIx_nat, List.length_map, hl, List.take_of_length_le (by rw [List.length_drop, List.length_map, hl]; decide), ← List.map_drop]
      rfl
    rw [e3]
    refine q_eqII (new_at e2 n3) upd_same ?_
    exact q _ (sA.trans (same_upd n3))
def spGroup : Sp := fun vs H Q _ => ∃ (g : Int), vs = [.int g] ∧ 1 ≤ g ∧ g ≤ 8 ∧ Q .non H
theorem ok_check_group {f : Addr} {fd : FuncData} {k : Nat} (F : Fun K "check_group" "check_group" s_check_group f fd) (CN : Con mg t1 t2 t3 t4 t5) : FnOk P w K mg base CX0 (k + 1) f fd ["group"] spGroup := by
  refine F.ok sc_check_group (fun vs H Q E h => ?_) (fun cdv A outer s H vs Q E hr h => ?_)
  · obtain ⟨g, rfl, _⟩ := h
    rfl
  · obtain ⟨g, rfl, h1, h2, q⟩ := h
    refine ⟨_, (pss_one (ps_if (pt_not (pt_chain op_le op_le pe_int (pv 0) (pe_glob (v := .int 8) (by rfl) CN.group ⟨_, rfl⟩))) (pss_one ps_never) pss_nil)), ?_⟩
    walk_at "ev"
    exact q
def spCells : Sp := fun vs H Q _ => ∃ (p : Addr) (xs : List Int) (m g : Nat), vs = [.ref p, .int g] ∧ H p = some (.lst (xs.map V.int)) ∧ AreBits xs ∧ xs.length = 56 * m ∧ 1 ≤ m ∧ 1 ≤ g ∧ g ≤ 8 ∧ m % (g + 1) ≠ 1 ∧ Q .non H
theorem ok_check_cells {f : Addr} {fd : FuncData} {k : Nat} (F : Fun K "check_cells" "check_cells" s_check_cells f fd) (T : Txt mg) (CN : Con mg t1 t2 t3 t4 t5) (c_check_bits : C8.Cal P w K mg base 2 "check_bits" spCheckB []) (c_check_group : C8.Cal P w K mg base 1 "check_group" spGroup []) : FnOk P w K mg base CX0 (k + 3) f fd ["protected", "group"] spCells := by
  refine F.ok sc_check_cells (fun vs H Q E h => ?_) (fun cdv A outer s H vs Q E hr h => ?_)
  · obtain ⟨p, xs, m, g, rfl, _⟩ := h
    rfl
  · obtain ⟨p, xs, m, g, rfl, hp, hb, hl, hm, h1, h2, h3, q⟩ := h
    have hL : ((List.map V.int xs).length : Int) = 56 * m := by
      rw [List.length_map, hl]
      omega
    have hD : ((List.map V.int xs).length : Int) / 56 = m := by omega
    refine ⟨_, (pss_cons (ps_expr (C8.pe_c c_check_bits hr (by omega) (by rfl) (pa_cons (pv 0) pa_nil)))
    (pss_cons (ps_expr (C8.pe_c c_check_group hr (by omega) (by rfl) (pa_cons (pv 1) pa_nil)))
    (pss_cons (ps_set (i := 2) sc_check_cells.nd rfl (Or.inl rfl) (pe_op op_fdiv (pe_callB call_len_seq (by rfl) T.z_len PySem.boot_len (pa_cons (pv 0) pa_nil)) (pe_glob (v := .int 56) (by rfl) CN.cell ⟨_, rfl⟩)))
    (pss_one (ps_if (PW.pt (pw_or (pt_cmpR op_lt (pv 2) pe_int (nomark _)) (pw_or (pt_cmpR op_ne (pe_op op_mod (pe_callB call_len_seq (by rfl) T.z_len PySem.boot_len (pa_cons (pv 0) pa_nil)) (pe_glob (v := .int 56) (by rfl) CN.cell ⟨_, rfl⟩)) pe_int (nomark _)) (pw_or1 (pt_cmpR op_eq (pe_op op_mod (pv 2) (pe_op op_add (pv 1) pe_int)) pe_int (nomark _)))))) (pss_one ps_never) pss_nil))))), ?_⟩
    walk_at "ev"
    refine ⟨p, xs, rfl, hp, hb, ?_⟩
    walk_at "ev"
    refine ⟨by omega, ?_⟩
    walk_at "ev"
    · rename_i hc
      rw [hD] at hc
      have hc2 : ((m % (g + 1) : Nat) : Int) = 1 := by
        rw [Int.natCast_emod]
        exact hc
      omega
    · exact q
def spGood : Sp := fun vs H Q _ => ∃ (p : Addr) (xs : List Int) (m g : Nat), vs = [.ref p, .int g] ∧ H p = some (.lst (xs.map V.int)) ∧ AreBits xs ∧ xs.length = 56 * m ∧ 1 ≤ m ∧ m ≤ 1000 ∧ 1 ≤ g ∧ g ≤ 8 ∧ m % (g + 1) ≠ 1 ∧ ∀ (q : Addr) (H' : Hp), H q = none → Same H H' → H' q = some (.lst (((chunks xs 56).map goodC).map V.bl)) → Q (.ref q) H'
theorem ok_good {f : Addr} {fd : FuncData} {k : Nat} (F : Fun K "good" "good" s_good f fd) (CN : Con mg t1 t2 t3 t4 t5) (c_check_cells : C8.Cal P w K mg base 3 "check_cells" spCells []) (c_parts_of : C8.Cal P w K mg base 1 "parts_of" spParts []) (c_is_good : C8.Cal P w K mg base 3 "is_good" spIsGood []) : FnOk P w K mg base CX0 (k + 4) f fd ["protected", "group"] spGood := by
  refine F.ok sc_good (fun vs H Q E h => ?_) (fun cdv A outer s H vs Q E hr h => ?_)
  · obtain ⟨p, xs, m, g, rfl, _⟩ := h
    rfl
  · obtain ⟨p, xs, m, g, rfl, hp, hb, hl, hm, hm2, h1, h2, h3, q⟩ := h
    refine ⟨_, (pss_cons (ps_expr (C8.pe_c c_check_cells hr (by omega) (by rfl) (pa_cons (pv 0) (pa_cons (pv 1) pa_nil))))
    (pss_one (ps_ret (pe_lc (own := [("cell", 2)]) (g := (gName 2)) (tt := tYes) rfl sc_good.nd (pi_list (C8.pe_c c_parts_of hr (by omega) (by rfl) (pa_cons (pv 0) (pa_cons (pe_glob (v := .int 56) (by rfl) CN.cell ⟨_, rfl⟩) pa_nil)))) (blkOk_by (N := ["protected", "group", "cell"]) (sc := defScope s_good) (by decide +kernel)) (fun _ _ _ _ _ => pg_name (i := 2) sc_good.nd rfl (Or.inl rfl)) (fun _ _ _ _ _ => pts_nil) (fun _ _ _ _ _ => (C8.pe_c c_is_good hr (by omega) (by rfl) (pa_cons (pv 2) pa_nil))))))), ?_⟩
    walk_at "ev"
    refine ⟨p, xs, m, g, rfl, hp, hb, hl, hm, h1, h2, h3, ?_⟩
    walk_at "ev"
    refine ⟨p, _, 56, rfl, hp, by decide, by decide, by rw [List.length_map, hl]; omega, fun r rs H1 n1 s1 e1 rw1 fr1 nd1 => ?_⟩
    rw [chunks_map] at rw1
    have hlen : rs.length = (chunks xs 56).length := by rw [rw1.1, List.length_map]
    have hcl : (chunks xs 56).length ≤ 1000 := by rw [chunks_len, hl]; omega
    refine ⟨r, rfl, ⟨_, .inl (.inl e1)⟩, fun D nD => ?_⟩
    refine lc_it (walk_list (xs := rs.map V.ref)) (fun t H2 => Same H1 H2 ∧ H2 D = some (.lst ((((chunks xs 56).take t).map goodC).map V.bl))) ⟨same_upd nD, upd_same⟩ (fun _ _ _ h => .inl (.inl (h.1 _ _ e1))) ?_ ?_
    · rintro t x H2 H3 ht ⟨s2, e2⟩ ⟨rfl, hx⟩
      rw [List.length_map] at ht
      rw [List.getElem?_map] at hx
      obtain ⟨a, ha, rfl⟩ := Option.map_eq_some_iff.mp hx
      obtain ⟨l, f1, f2⟩ := rw1.2 t a ha
      rw [List.getElem?_map] at f1
      obtain ⟨c, hc, rfl⟩ := Option.map_eq_some_iff.mp f1
      have ec := chunks_get hc
      walk_at "ev"
      refine ⟨a, c, rfl, s2 _ _ f2, by rw [ec]; exact (hb.drop _).take _, ?_, fun H4 s4 => ?_⟩
      · have hb2 := (List.getElem?_eq_some_iff.mp hc).1
        rw [chunks_len, hl] at hb2
        rw [ec, List.length_take, List.length_drop, hl]
        omega
      · refine ⟨_, s4 _ _ e2, ?_, fun b o e => ?_, ?_⟩
        · rw [List.length_map, List.length_map, List.length_take]
          exact Nat.lt_of_le_of_lt (Nat.min_le_left _ _) (small1000 (by omega))
        · rw [upd_ne (ne_of_none e nD)]
          exact s4 _ _ (s2 b o e)
        · rw [upd_same, ← take_snoc hc, List.map_append, List.map_append]
          rfl
    · rintro H2 ⟨s2, e2⟩
      rw [List.length_map, hlen, List.take_length] at e2
      exact q D H2 (s1.free nD) (s1.trans s2) e2
/-! ### draws -/
def spTake : Sp := fun vs H Q _ => ∃ (a : Addr) (m : Int), vs = [.ref a, .int m] ∧ Src H a ∧ 0 < m ∧ m < 18446744073709551616 ∧ ∀ (r : Int) (H' : Hp), 0 ≤ r → r < m → Src H' a → But a H H' → Q (.int r) H'
theorem ok_drop {f : Addr} {fd : FuncData} {k : Nat} (F : Fun K "_law_drop" "_law_drop" s_law_drop f fd) (T : Txt mg) : FnOk P w K mg base CX0 (k + 1) f fd ["_law_well_here", "_law_top"] spTake := by
  refine F.ok sc_law_drop (fun vs H Q E h => ?_) (fun cdv A outer s H vs Q E hr h => ?_)
  · obtain ⟨a, m, rfl, _⟩ := h
    rfl
  · obtain ⟨a, m, rfl, ⟨x, y, ha, hx, hy, hy2⟩, hm, hm2, q⟩ := h
    refine ⟨_, (pss_cons (ps_if (pt_cmpR op_gt (pe_ix ix_list (pv 0) pe_int (fun _ _ => rfl)) pe_int (nomark _)) (pss_cons (ps_set (i := 2) sc_law_drop.nd rfl (Or.inl rfl) (pe_op op_mod (pe_callTy call_int1 (by rfl) T.z_int PyProof.Rows.boot_int (pa_cons (pe_ix ix_list (pv 0) pe_int (fun _ _ => rfl)) pa_nil)) (pv 1)))
    (pss_cons (ps_asg (pe_op op_fdivW (pe_ix ix_list (pv 0) pe_int (fun _ _ => rfl)) (pv 1)) (pg_sub (pv 0) pe_int set_list))
    (pss_one (ps_ret (pv 2))))) pss_nil)
    (pss_cons (ps_asg (pe_op op_mod (pe_callTy call_int1 (by rfl) T.z_int PyProof.Rows.boot_int (pa_cons (pe_op op_add (pe_op op_mul (pe_ix ix_list (pv 0) pe_int (fun _ _ => rfl)) pe_int) pe_int) pa_nil)) pe_int) (pg_sub (pv 0) pe_int set_list))
    (pss_one (ps_ret (pe_op op_mod (pe_callTy call_int1 (by rfl) T.z_int PyProof.Rows.boot_int (pa_cons (pe_op op_fdiv (pe_op op_mod (pe_callTy call_int1 (by rfl) T.z_int PyProof.Rows.boot_int (pa_cons (pe_op op_mul (pe_ix ix_list (pv 0) pe_int (fun _ _ => rfl)) (pe_ix ix_list (pv 0) pe_int (fun _ _ => rfl))) pa_nil)) pe_int) pe_int) pa_nil)) (pv 1)))))), ?_⟩
    walk_at "ev"
    · refine q _ _ (Int.emod_nonneg _ (by omega)) (Int.emod_lt_of_pos _ hm) ⟨_, _, upd_same, Int.ediv_nonneg hx (by omega), hy, hy2⟩ But.upd
    · refine q _ _ (Int.emod_nonneg _ (by omega)) (Int.emod_lt_of_pos _ hm) ⟨_, _, upd_same, hx, Int.emod_nonneg _ (by omega), Int.lt_trans (Int.emod_lt_of_pos _ (by omega)) (by decide)⟩ But.upd
def spWell (K : PySem.W.Frag) : Sp := fun vs H Q _ => ∃ (a : Addr) (ns : List Int) (k : Int), vs = [.ref a, .int k] ∧ SqL K H a (ns.map V.int) ∧ 0 ≤ k ∧ k < 100 ∧ ∀ (p : Addr) (H' : Hp), H p = none → Same H H' → Src H' p → Q (.ref p) H'
theorem ok_well {f : Addr} {fd : FuncData} {k : Nat} (F : Fun K "_law_well" "_law_well" s_law_well f fd) (T : Txt mg) : FnOk P w K mg base CX0 (k + 1) f fd ["_law_script", "_law_k"] (spWell K) := by
  refine F.ok sc_law_well (fun vs H Q E h => ?_) (fun cdv A outer s H vs Q E hr h => ?_)
  · obtain ⟨a, ns, k, rfl, _⟩ := h
    rfl
  · obtain ⟨a, ns, k, rfl, hS, hk, hk2, q⟩ := h
    have fin : ∀ (x y : Int) (G : Hp), Same H G → 0 ≤ x → [V.int x, V.int (y % 2147483629)].length ≤ sizeLine ∧ ∀ p : Addr, G p = none → Q (.ref p) (upd G p (.lst [.int x, .int (y % 2147483629)])) := fun x y G sG hx =>
      ⟨(by show 2 ≤ sizeLine; decide), fun p np => q p _ (sG.free np) (sG.trans (same_upd np)) ⟨_, _, upd_same, hx, Int.emod_nonneg _ (by decide), Int.lt_trans (Int.emod_lt_of_pos _ (by decide)) (by decide)⟩⟩
    refine ⟨_, (pss_cons (ps_set (i := 2) sc_law_well.nd rfl (Or.inl rfl) (pe_ifExp (pt_cmpR op_lt (pv 1) (pe_callB call_len_seq (by rfl) T.z_len PySem.boot_len (pa_cons (pv 0) pa_nil)) (nomark _)) (pe_ix ix_list (pv 0) (pv 1) (fun _ _ => rfl)) pe_int))
    (pss_cons (ps_set (i := 3) sc_law_well.nd rfl (Or.inl rfl) (pe_ifExp (pt_cmpR op_ge (pv 2) pe_int (nomark _)) (pv 2) (pe_op op_sub pe_int (pv 2))))
    (pss_one (ps_ret (pe_lst (pa_cons (pe_ifExp (pt_cmpR op_ge (pv 3) (pe_op (op_powc (a := 10) (b := 18) (c := 1000000000000000000) ⟨by decide, by decide, by decide⟩ (by decide +kernel)) pe_int pe_int) (nomark _)) (pv 3) pe_int) (pa_cons (pe_op op_mod (pe_callTy call_int1 (by rfl) T.z_int PyProof.Rows.boot_int (pa_cons (pe_op op_add (pe_op op_add (pe_op op_add (pe_op op_mul (pe_op op_mod (pe_callTy call_int1 (by rfl) T.z_int PyProof.Rows.boot_int (pa_cons (pv 3) pa_nil)) pe_int) pe_int) (pe_op op_mul pe_int (pv 1))) (pe_callTy call_int1 (by rfl) T.z_int PyProof.Rows.boot_int (pa_cons (pe_cmpR op_lt (pv 2) pe_int (nomark _)) pa_nil))) pe_int) pa_nil)) pe_int) pa_nil))))))), ?_⟩
    walk_at "ev"
    · obtain ⟨z, hz⟩ := at_lt hk (by assumption)
      refine ⟨_, _, _, _, rfl, rfl, hS, hz, ?_⟩
      walk_at "ev"
      all_goals exact fin _ _ _ (fun _ _ e => e) (by omega)
    · exact fin _ _ _ (fun _ _ e => e) (by omega)
/-- some draws make a row of bits, all below m -/
theorem lst_src {a p : Addr} {H : Hp} {xs : List V} (s : Src H a) (h : H p = some (.lst xs)) (l : xs.length ≠ 2) : a ≠ p := by
  rintro rfl
  obtain ⟨x, y, e, _⟩ := s
  rw [h] at e
  cases e
  exact l rfl
/-! ### what is turned -/
theorem inV_ints (x : Int) : ∀ ns : List Int, inV (.int x) (ns.map V.int) = decide (x ∈ ns)
  | [] => rfl
  | n :: r => by
    have ih := inV_ints x r
    unfold inV at ih ⊢
    rw [List.map_cons, List.any_cons, ih]
    show (decide (n = x) || decide (x ∈ r)) = _
    by_cases e : n = x
    · subst e
      simp
    · have e2 : ¬ x = n := fun z => e z.symm
      simp [e, e2]
theorem flat_ints : ∀ ns : List Int, (ns.map V.int).all flatV = true
  | [] => rfl
  | n :: r => by
    rw [List.map_cons, List.all_cons, flat_ints r]
    rfl
def inF (ns : List Int) (i : Nat) : Bool := decide ((i : Int) ∈ ns)
theorem told_few {ns : List Int} (h0 : ns ≠ []) (h1 : ns.length ≤ 3) (h2 : ∀ x ∈ ns, 0 ≤ x ∧ x < 56) : Told (inF ns) := by
  obtain ⟨x, r, rfl⟩ : ∃ x r, ns = x :: r := by
    cases ns with
    | nil => exact absurd rfl h0
    | cons x r => exact ⟨x, r, rfl⟩
  have hx := h2 x List.mem_cons_self
  refine ⟨⟨x.toNat, by omega, ?_⟩, .inl ⟨(x :: r).map Int.toNat, by rw [List.length_map]; exact h1, fun i _ hi => ?_⟩⟩
  · unfold inF
    rw [Int.toNat_of_nonneg hx.1]
    simp
  · have := of_decide_eq_true hi
    exact List.mem_map.mpr ⟨_, this, Int.toNat_natCast _⟩
theorem told_near {ns : List Int} {b : Int} (h0 : ns ≠ []) (hb : 0 ≤ b) (hb2 : b < 49) (h2 : ∀ x ∈ ns, b ≤ x ∧ x < b + 8) : Told (inF ns) := by
  obtain ⟨x, r, rfl⟩ : ∃ x r, ns = x :: r := by
    cases ns with
    | nil => exact absurd rfl h0
    | cons x r => exact ⟨x, r, rfl⟩
  have hx := h2 x List.mem_cons_self
  refine ⟨⟨x.toNat, by omega, ?_⟩, .inr ⟨b.toNat, by omega, fun i _ hi => ?_⟩⟩
  · unfold inF
    rw [Int.toNat_of_nonneg (by omega)]
    simp
  · have := h2 _ (of_decide_eq_true hi)
    omega
def spSpots : Sp := fun vs H Q _ => ∃ (a : Addr), vs = [.ref a] ∧ Src H a ∧ ∀ (p : Addr) (f : Nat → Bool) (H' : Hp), H p = none → Told f → H' p = some (.lst (((List.range 56).filter f).map fun (i : Nat) => V.int i)) → Src H' a → Up a H H' → Q (.ref p) H'
theorem ok_spots {f : Addr} {fd : FuncData} {k : Nat} (F : Fun K "_law_spots" "_law_spots" s_law_spots f fd) (T : Txt mg) (c_law_drop : C8.Cal P w K mg base 1 "_law_drop" spTake []) : FnOk P w K mg base CX0 (k + 2) f fd ["_law_well_here"] spSpots := by
  refine F.ok sc_law_spots (fun vs H Q E h => ?_) (fun cdv A outer s H vs Q E hr h => ?_)
  · obtain ⟨a, rfl, _⟩ := h
    rfl
  · obtain ⟨a, rfl, ha, q⟩ := h
    refine ⟨_, (pss_cons (ps_if (pt_cmpR op_eq (C8.pe_c c_law_drop hr (by omega) (by rfl) (pa_cons (pv 0) (pa_cons pe_int pa_nil))) pe_int (nomark _)) (pss_cons (ps_set (i := 2) sc_law_spots.nd rfl (Or.inr rfl) (pe_lc (own := [("_law_turn", 1)]) (g := (gName 1)) (tt := tYes) rfl sc_law_spots.nd (pi_range1 (by rfl) T.z_range (pa_cons (pe_op op_add pe_int (C8.pe_c c_law_drop hr (by omega) (by rfl) (pa_cons (pv 0) (pa_cons pe_int pa_nil)))) pa_nil)) (blkOk_by (N := ["_law_well_here", "_law_turn", "_law_found", "_law_spot", "_law_begin", "_law_step"]) (sc := defScope s_law_spots) (by decide +kernel)) (fun _ _ _ _ _ => pg_name (i := 1) sc_law_spots.nd rfl (Or.inl rfl)) (fun _ _ _ _ _ => pts_nil) (fun _ _ _ _ _ => (C8.pe_c c_law_drop hr (by omega) (by rfl) (pa_cons (pv 0) (pa_cons pe_int pa_nil))))))
    (pss_one (ps_ret (pe_lc (own := [("_law_spot", 3)]) (g := (gName 3)) (tt := _) rfl sc_law_spots.nd (pi_range1 (by rfl) T.z_range (pa_cons pe_int pa_nil)) (blkOk_by (N := ["_law_well_here", "_law_turn", "_law_found", "_law_spot", "_law_begin", "_law_step"]) (sc := defScope s_law_spots) (by decide +kernel)) (fun _ _ _ _ _ => pg_name (i := 3) sc_law_spots.nd rfl (Or.inl rfl)) (fun _ _ _ _ _ => (pts_one (pt_cmpR (op_in_seq : OpR _ (compareOp .In) (rIn K false)) (pv 3) (pv 2) (by rfl)))) (fun _ _ _ _ _ => (pv 3)))))) pss_nil)
    (pss_cons (ps_set (i := 4) sc_law_spots.nd rfl (Or.inr rfl) (C8.pe_c c_law_drop hr (by omega) (by rfl) (pa_cons (pv 0) (pa_cons pe_int pa_nil))))
    (pss_cons (ps_set (i := 2) sc_law_spots.nd rfl (Or.inr rfl) (pe_op op_cat (pe_lst (pa_cons (pe_op op_add (pv 4) (C8.pe_c c_law_drop hr (by omega) (by rfl) (pa_cons (pv 0) (pa_cons pe_int pa_nil)))) pa_nil)) (pe_lc (own := [("_law_step", 5)]) (g := (gName 5)) (tt := _) rfl sc_law_spots.nd (pi_range1 (by rfl) T.z_range (pa_cons pe_int pa_nil)) (blkOk_by (N := ["_law_well_here", "_law_turn", "_law_found", "_law_spot", "_law_begin", "_law_step"]) (sc := defScope s_law_spots) (by decide +kernel)) (fun _ _ _ _ _ => pg_name (i := 5) sc_law_spots.nd rfl (Or.inl rfl)) (fun _ _ _ _ _ => (pts_one (pt_cmpR op_eq (C8.pe_c c_law_drop hr (by omega) (by rfl) (pa_cons (pv 0) (pa_cons pe_int pa_nil))) pe_int (nomark _)))) (fun _ _ _ _ _ => (pe_op op_add (pv 4) (pv 5))))))
    (pss_one (ps_ret (pe_lc (own := [("_law_spot", 3)]) (g := (gName 3)) (tt := _) rfl sc_law_spots.nd (pi_range1 (by rfl) T.z_range (pa_cons pe_int pa_nil)) (blkOk_by (N := ["_law_well_here", "_law_turn", "_law_found", "_law_spot", "_law_begin", "_law_step"]) (sc := defScope s_law_spots) (by decide +kernel)) (fun _ _ _ _ _ => pg_name (i := 3) sc_law_spots.nd rfl (Or.inl rfl)) (fun _ _ _ _ _ => (pts_one (pt_cmpR (op_in_seq : OpR _ (compareOp .In) (rIn K false)) (pv 3) (pv 2) (by rfl)))) (fun _ _ _ _ _ => (pv 3)))))))), ?_⟩
    walk_at "ev"
    refine ⟨ha, (by omega), (by omega), fun r H1 h0 h1 s1 u1 => ?_⟩
    walk_at "ev"
    · refine ⟨s1, by decide, by decide, fun r2 H2 g0 g1 s2 u2 => ?_⟩
      walk_at "ev"
      refine ⟨by omega, by omega, fun DF nDF => ?_⟩
      have nDa : a ≠ DF := s2.ne nDF
      refine lc_it walk_range (fun t H3 => ∃ ns : List Int, ns.length = t ∧ (∀ x ∈ ns, 0 ≤ x ∧ x < 56) ∧ H3 DF = some (.lst (ns.map V.int)) ∧ Src H3 a ∧ Up a H2 H3) ⟨[], rfl, fun _ m => absurd m List.not_mem_nil, upd_same, src_same (same_upd nDF) s2, up_same (same_upd nDF)⟩ (fun _ _ _ _ => trivial) ?_ ?_
      · rintro t x H3 H4 ht ⟨ns, hl, hb, e2, s3, u3⟩ ⟨rfl, rfl⟩
        walk_at "ev"
        refine ⟨s3, by decide, by decide, fun r4 H5 k0 k1 s5 u5 => ?_⟩
        walk_at "ev"
        refine ⟨_, (u5 DF nDa.symm).trans e2, by rw [List.length_map]; exact small1000 (by omega), ns ++ [r4], by rw [List.length_append, hl]; rfl, fun z m => ?_, ?_, src_keep nDa s5, fun b o nb e => ?_⟩
        · rcases List.mem_append.mp m with m | m
          · exact hb z m
          · rw [List.mem_singleton.mp m]
            exact ⟨k0, k1⟩
        · rw [upd_same, List.map_append]
          rfl
        · rw [upd_ne (ne_of_none e nDF)]
          exact (u5 b nb).trans (u3 b o nb e)
      rintro HB ⟨ns, hl, hb, eF, sF, uF⟩
      walk_at "ev"
      refine ⟨by omega, by omega, fun D2 nD2 => ?_⟩
      refine lc_it walk_range (fun t H4 => Same HB H4 ∧ H4 D2 = some (.lst (((List.range t).filter (inF ns)).map fun (i : Nat) => V.int i))) ⟨same_upd nD2, upd_same⟩ (fun _ _ _ _ => trivial) ?_ ?_
      · rintro t x H4 H5 ht ⟨s4, e4⟩ ⟨rfl, rfl⟩
        walk_at "ev"
        refine ⟨DF, _, rfl, .inl (.inl (.inl (s4 _ _ eF))), rfl, flat_ints _, _, rfl, ?_⟩
        show (if inV (.int (0 + (t : Int))) (ns.map V.int) = true then _ else _)
        rw [Int.zero_add, inV_ints]
        have eR : (List.range (t + 1)).filter (inF ns) = (List.range t).filter (inF ns) ++ (if inF ns t = true then [t] else []) := by
          rw [List.range_succ, List.filter_append, List.filter_cons, List.filter_nil]
        by_cases hm : (t : Int) ∈ ns
        · rw [decide_eq_true hm, if_pos rfl]
          walk_at "ev"
          have hl4 : ((List.range t).filter (inF ns)).length ≤ t := Nat.le_trans (List.length_filter_le _ _) (by rw [List.length_range]; exact Nat.le_refl _)
          refine ⟨_, e4, by rw [List.length_map]; exact small1000 (Nat.le_trans hl4 (by omega)), fun b o e => ?_, ?_⟩
          · rw [upd_ne (ne_of_none e nD2)]
            exact s4 _ _ e
          · rw [upd_same, eR, if_pos (show inF ns t = true from decide_eq_true hm), List.map_append]
            simp
        · rw [decide_eq_false hm, if_neg (by decide)]
          rw [eR, if_neg (show ¬ inF ns t = true from by unfold inF; rw [decide_eq_false hm]; decide), List.append_nil]
          exact ⟨s4, e4⟩
      · rintro H4 ⟨s4, e4⟩
        have uA : Up a H H4 := (u1.up.trans u2.up).trans (uF.trans (up_same s4))
        exact q D2 (inF ns) H4 ((u1.up.trans u2.up).trans uF |>.new sF nD2) (told_few (fun z => by rw [z] at hl; simp at hl; omega) (by omega) hb) e4 (src_same s4 sF) uA
    · refine ⟨s1, by decide, by decide, fun r2 H2 g0 g1 s2 u2 => ?_⟩
      walk_at "ev"
      refine ⟨s2, by decide, by decide, fun r3 H3 k0 k1 s3 u3 => ?_⟩
      walk_at "ev"
      refine ⟨by show 1 ≤ sizeLine; decide, fun p1 n1 => ?_⟩
      walk_at "ev"
      refine ⟨by omega, by omega, fun DF nDF => ?_⟩
      have e1 : upd H3 p1 (.lst [.int (r2 + r3)]) p1 = some (.lst [.int (r2 + r3)]) := upd_same
      have sq1 : Src (upd H3 p1 (.lst [.int (r2 + r3)])) a := src_keep (s3.ne n1) s3
      have nDa : a ≠ DF := sq1.ne nDF
      have n1F : p1 ≠ DF := ne_of_none e1 nDF
      have n1a : p1 ≠ a := (s3.ne n1).symm
      have uP : Up a H3 (upd H3 p1 (.lst [.int (r2 + r3)])) := up_same (same_upd n1)
      generalize upd H3 p1 (.lst [.int (r2 + r3)]) = HP at *
      refine lc_it walk_range (fun t H4 => ∃ ns : List Int, ns.length ≤ t ∧ (∀ x ∈ ns, r2 ≤ x ∧ x < r2 + 8) ∧ H4 DF = some (.lst (ns.map V.int)) ∧ Src H4 a ∧ Up a HP H4) ⟨[], Nat.le_refl _, fun _ m => absurd m List.not_mem_nil, upd_same, src_same (same_upd nDF) sq1, up_same (same_upd nDF)⟩ (fun _ _ _ _ => trivial) ?_ ?_
      · rintro t x H4 H5 ht ⟨ns, hl, hb, e2, s4, u4⟩ ⟨rfl, rfl⟩
        walk_at "ev"
        refine ⟨s4, by decide, by decide, fun r5 H6 l0 l1 s6 u6 => ?_⟩
        walk_at "ev"
        · refine ⟨_, (u6 DF nDa.symm).trans e2, by rw [List.length_map]; exact small1000 (by omega), ns ++ [r2 + (0 + (t : Int))], by rw [List.length_append]; exact Nat.succ_le_succ hl, fun z m => ?_, ?_, src_keep nDa s6, fun b o nb e => ?_⟩
          · rcases List.mem_append.mp m with m | m
            · exact hb z m
            · rw [List.mem_singleton.mp m]
              omega
          · rw [upd_same, List.map_append]
            rfl
          · rw [upd_ne (ne_of_none e nDF)]
            exact (u6 b nb).trans (u4 b o nb e)
        · exact ⟨ns, by omega, hb, (u6 DF nDa.symm).trans e2, s6, fun b o nb e => (u6 b nb).trans (u4 b o nb e)⟩
      rintro HQ ⟨ns0, hl, hb, eQ, sQ, uQ⟩
      refine ⟨p1, DF, _, _, rfl, rfl, uQ _ _ n1a e1, eQ, ?_, fun DG nDG => ?_⟩
      · rw [List.length_map]
        exact Nat.le_of_lt (small1000 (by rw [List.length_cons, List.length_nil]; omega))
      have eF : upd HQ DG (.lst ([V.int (r2 + r3)] ++ ns0.map V.int)) DG = some (.lst (((r2 + r3) :: ns0).map V.int)) := upd_same
      have sF : Src (upd HQ DG (.lst ([V.int (r2 + r3)] ++ ns0.map V.int))) a := src_keep (sQ.ne nDG) sQ
      have uF : Up a H3 (upd HQ DG (.lst ([V.int (r2 + r3)] ++ ns0.map V.int))) := (uP.trans uQ).trans (up_same (same_upd nDG))
      have tF : Told (inF ((r2 + r3) :: ns0)) := told_near (by simp) g0 g1 fun x m => by
        rcases List.mem_cons.mp m with rfl | m
        · omega
        · exact hb x m
      generalize upd HQ DG (.lst ([V.int (r2 + r3)] ++ ns0.map V.int)) = HB at *
      generalize (r2 + r3) :: ns0 = ns at *
      walk_at "ev"
      refine ⟨by omega, by omega, fun D2 nD2 => ?_⟩
      refine lc_it walk_range (fun t H4 => Same HB H4 ∧ H4 D2 = some (.lst (((List.range t).filter (inF ns)).map fun (i : Nat) => V.int i))) ⟨same_upd nD2, upd_same⟩ (fun _ _ _ _ => trivial) ?_ ?_
      · rintro t x H4 H5 ht ⟨s4, e4⟩ ⟨rfl, rfl⟩
        walk_at "ev"
        refine ⟨DG, _, rfl, .inl (.inl (.inl (s4 _ _ eF))), rfl, flat_ints _, _, rfl, ?_⟩
        show (if inV (.int (0 + (t : Int))) (ns.map V.int) = true then _ else _)
        rw [Int.zero_add, inV_ints]
        have eR : (List.range (t + 1)).filter (inF ns) = (List.range t).filter (inF ns) ++ (if inF ns t = true then [t] else []) := by
          rw [List.range_succ, List.filter_append, List.filter_cons, List.filter_nil]
        by_cases hm : (t : Int) ∈ ns
        · rw [decide_eq_true hm, if_pos rfl]
          walk_at "ev"
          have hl4 : ((List.range t).filter (inF ns)).length ≤ t := Nat.le_trans (List.length_filter_le _ _) (by rw [List.length_range]; exact Nat.le_refl _)
          refine ⟨_, e4, by rw [List.length_map]; exact small1000 (Nat.le_trans hl4 (by omega)), fun b o e => ?_, ?_⟩
          · rw [upd_ne (ne_of_none e nD2)]
            exact s4 _ _ e
          · rw [upd_same, eR, if_pos (show inF ns t = true from decide_eq_true hm), List.map_append]
            simp
        · rw [decide_eq_false hm, if_neg (by decide)]
          rw [eR, if_neg (show ¬ inF ns t = true from by unfold inF; rw [decide_eq_false hm]; decide), List.append_nil]
          exact ⟨s4, e4⟩
      · rintro H4 ⟨s4, e4⟩
        have uA : Up a H H4 := ((u1.up.trans u2.up).trans u3.up).trans (uF.trans (up_same s4))
        exact q D2 (inF ns) H4 (((u1.up.trans u2.up).trans u3.up).trans uF |>.new sF nD2) tF e4 (src_same s4 sF) uA
def spTurned : Sp := fun vs H Q _ => ∃ (p q0 : Addr) (xs : List Int) (f : Nat → Bool), vs = [.ref p, .ref q0] ∧ H p = some (.lst (xs.map V.int)) ∧ AreBits xs ∧ xs.length = 56 ∧ H q0 = some (.lst (((List.range 56).filter f).map fun (i : Nat) => V.int i)) ∧ ∀ (q : Addr) (H' : Hp), H q = none → Same H H' → H' q = some (.lst ((turnC xs f).map V.int)) → Q (.ref q) H'
theorem ok_turned {f : Addr} {fd : FuncData} {k : Nat} (F : Fun K "_law_turned" "_law_turned" s_law_turned f fd) (T : Txt mg) : FnOk P w K mg base CX0 (k + 1) f fd ["_law_cell", "_law_spots_here"] spTurned := by
  refine F.ok sc_law_turned (fun vs H Q E h => ?_) (fun cdv A outer s H vs Q E hr h => ?_)
  · obtain ⟨p, q0, xs, g, rfl, _⟩ := h
    rfl
  · obtain ⟨p, q0, xs, g, rfl, hp, hb, hl, hq, q⟩ := h
    refine ⟨_, (pss_one (ps_ret (pe_lc (own := [("_law_at", 2)]) (g := (gName 2)) (tt := tYes) rfl sc_law_turned.nd (pi_range1 (by rfl) T.z_range (pa_cons (pe_callB call_len_seq (by rfl) T.z_len PySem.boot_len (pa_cons (pv 0) pa_nil)) pa_nil)) (blkOk_by (N := ["_law_cell", "_law_spots_here", "_law_at"]) (sc := defScope s_law_turned) (by decide +kernel)) (fun _ _ _ _ _ => pg_name (i := 2) sc_law_turned.nd rfl (Or.inl rfl)) (fun _ _ _ _ _ => pts_nil) (fun _ _ _ _ _ => (pe_ifExp (pt_cmpR (op_in_seq : OpR _ (compareOp .In) (rIn K false)) (pv 2) (pv 1) (by rfl)) (pe_op op_sub pe_int (pe_ix (ix_list : IxR _ (rIxL K)) (pv 0) (pv 2) (fun _ _ => rfl))) (pe_ix (ix_list : IxR _ (rIxL K)) (pv 0) (pv 2) (fun _ _ => rfl))))))), ?_⟩
    walk_at "ev"
    rw [List.length_map, hl]
    refine ⟨by omega, by omega, fun D nD => ?_⟩
    have hm0 : (((List.range 56).filter g).map fun (i : Nat) => V.int i) = (((List.range 56).filter g).map fun (i : Nat) => (i : Int)).map V.int := by
      rw [List.map_map]
      rfl
    rw [hm0] at hq
    have htl : (turnC xs g).length = 56 := by
      unfold turnC
      rw [List.length_zipWith, pat_len, hl]
      rfl
    refine lc_it walk_range (fun t H2 => Same H H2 ∧ H2 D = some (.lst (((turnC xs g).take t).map V.int))) ⟨same_upd nD, upd_same⟩ (fun _ _ _ _ => trivial) ?_ ?_
    · rintro t x H2 H3 ht ⟨s2, e2⟩ ⟨rfl, rfl⟩
      have ht2 : t < 56 := ht
      obtain ⟨z, hx⟩ : ∃ z, xs[t]? = some z := ⟨_, List.getElem?_eq_getElem (by omega)⟩
      have hbx := hb _ (List.mem_of_getElem? hx)
      have hat : atI (xs.map V.int) (0 + (t : Int)) = some (.int z) := at_of (j := t) (by omega) (by rw [List.getElem?_map, hx]; rfl)
      have hmem : decide ((t : Int) ∈ (((List.range 56).filter g).map fun (i : Nat) => (i : Int))) = g t := by
        cases e : g t with
        | true =>
          refine decide_eq_true (List.mem_map.mpr ⟨t, List.mem_filter.mpr ⟨List.mem_range.mpr ht2, e⟩, rfl⟩)
        | false =>
          refine decide_eq_false fun m => ?_
          obtain ⟨j, mj, ej⟩ := List.mem_map.mp m
          have ej2 : j = t := by omega
          rw [ej2, List.mem_filter, e] at mj
          cases mj.2
      have hgt : (turnC xs g)[t]? = some (if g t = true then 1 - z else z) := by
        unfold turnC pat
        rw [hl, List.getElem?_zipWith, hx, List.getElem?_map, List.getElem?_range ht2]
        cases e : g t with
        | true =>
          show some (bx z (if g t = true then 1 else 0)) = _
          rw [e]
          exact congrArg some (bx_one hbx)
        | false =>
          show some (bx z (if g t = true then 1 else 0)) = _
          rw [e]
          exact congrArg some (bx_zero hbx.1)
      have fin : ∀ y, y = (if g t = true then 1 - z else z) → ∃ acc, H3 D = some (.lst acc) ∧ acc.length < sizeLine ∧ Same H (upd H3 D (.lst (acc ++ [.int y]))) ∧ upd H3 D (.lst (acc ++ [.int y])) D = some (.lst (((turnC xs g).take (t + 1)).map V.int)) := fun y hy => by
        refine ⟨_, e2, by rw [List.length_map, List.length_take, htl]; exact small1000 (Nat.le_trans (Nat.min_le_right _ _) (by omega)), fun b o e => ?_, ?_⟩
        · rw [upd_ne (ne_of_none e nD)]
          exact s2 _ _ e
        · rw [upd_same, ← take_snoc hgt, List.map_append, hy]
          rfl
      walk_at "ev"
      refine ⟨q0, _, rfl, .inl (.inl (.inl (s2 _ _ hq))), rfl, flat_ints _, _, rfl, ?_⟩
      show (if inV (.int (0 + (t : Int))) _ = true then _ else _)
      rw [Int.zero_add, inV_ints, hmem]
      have sp := s2 _ _ hp
      cases e : g t with
      | true =>
        rw [if_pos rfl]
        rw [e] at fin
        walk_at "ev"
        refine ⟨p, _, _, _, rfl, rfl, .inl (.inl sp), hat, ?_⟩
        walk_at "ev"
        exact fin _ rfl
      | false =>
        rw [if_neg (by decide)]
        rw [e] at fin
        walk_at "ev"
        refine ⟨p, _, _, _, rfl, rfl, .inl (.inl sp), hat, ?_⟩
        exact fin _ rfl
    · rintro H2 ⟨s2, e2⟩
      rw [show Int.toNat ((56 : Nat) : Int) = 56 from rfl, List.take_of_length_le (by omega)] at e2
      exact q D H2 nD s2 e2
theorem dpall_bls {K : PySem.W.Frag} {H : Hp} : ∀ ns : List Bool, DpAll K H (ns.map V.bl) (ns.map PyData.bool)
  | [] => .nil
  | n :: r => .cons (.bl n) (dpall_bls r)
theorem sh_bls (ns : List Bool) : SeqAt.shaped (.list (ns.map PyData.bool)) = true := (shd_lst (n := 1) fun d m => by
  obtain ⟨i, _, rfl⟩ := List.mem_map.mp m
  exact shd_bl i).sh (by decide)
theorem q_neB {K : PySem.W.Frag} {H : Hp} {p q : Addr} {ns : List Bool} {Q : VK} (hp : H p = some (.lst (ns.map V.bl))) (hq : H q = some (.lst (ns.map V.bl))) (h : Q (.bl false) H) : rNeD K (.ref p) (.ref q) H Q :=
  ⟨_, _, .lst (.inl (.inl hp)) (dpall_bls ns), .lst (.inl (.inl hq)) (dpall_bls ns), sh_bls ns, sh_bls ns, by rw [eqv_same (sh_bls ns)]; exact h⟩
theorem goodC_own {l : List Int} (h : l.length = 48) : goodC (l ++ crcI l) = true := by
  unfold goodC
  rw [List.take_left' h, List.drop_left' h]
  exact decide_eq_true rfl
theorem chunks_two {a b : List Int} (ha : a.length = 56) (hb : b.length = 56) : chunks (a ++ b) 56 = [a, b] := by
  unfold chunks
  rw [List.length_append, ha, hb]
  show [((a ++ b).drop 0).take 56, ((a ++ b).drop 56).take 56] = _
  rw [List.drop_zero, List.take_left' ha, List.drop_left' ha, List.take_of_length_le (by omega)]
theorem turnC_ne {c : List Int} {f : Nat → Bool} (hl : c.length = 56) (hb : AreBits c) (hg : goodC c = true) (h : Told f) : turnC c f ≠ c := fun e => by
  have := good_told hl hb hg h
  rw [e, hg] at this
  cases this
theorem turnC_len {c : List Int} {f : Nat → Bool} : (turnC c f).length = c.length := by
  unfold turnC
  rw [List.length_zipWith, pat_len, Nat.min_self]
theorem turnC_bits {c : List Int} {f : Nat → Bool} (hb : AreBits c) : AreBits (turnC c f) := hb.zw (pat_bits _ _)
def spLaw (K : PySem.W.Frag) : Sp := fun vs H Q _ => ∃ (a : Addr) (ns : List Int), vs = [.ref a] ∧ SqL K H a (ns.map V.int) ∧ ns.length ≤ 63 ∧ ∀ H', Q (.bl true) H'
theorem ok_law {f : Addr} {fd : FuncData} {k : Nat} (F : Fun K "law" "law" s_law f fd) (T : Txt mg) (c_law_well : C8.Cal P w K mg base 1 "_law_well" (spWell K) []) (c_law_drop : C8.Cal P w K mg base 1 "_law_drop" spTake []) (c_check : C8.Cal P w K mg base 3 "check" spCheckOf [])
    (c_good : C8.Cal P w K mg base 4 "good" spGood []) (c_law_spots : C8.Cal P w K mg base 2 "_law_spots" spSpots []) (c_law_turned : C8.Cal P w K mg base 1 "_law_turned" spTurned []) : FnOk P w K mg base CX0 (k + 5) f fd ["_law_script"] (spLaw K) := by
  refine F.ok sc_law (fun vs H Q E h => ?_) (fun cdv A outer s H vs Q E hr h => ?_)
  · obtain ⟨a, ns, rfl, _⟩ := h
    rfl
  · obtain ⟨a, ns, rfl, hS, hl, q⟩ := h
    have hu := hr.units
    refine ⟨_, (pss_cons (ps_for PassesOwn.never rfl (pi_range1 (by rfl) T.z_range (pa_cons (pe_callB (call_max2 rfl) (by rfl) T.z_max PyProof.Rows.boot_max (pa_cons pe_int (pa_cons (pe_callB (call_min2 rfl) (by rfl) T.z_min PyProof.Rows.boot_min (pa_cons (pe_callB call_len_seq (by rfl) T.z_len PySem.boot_len (pa_cons (pv 0) pa_nil)) (pa_cons pe_int pa_nil))) pa_nil))) pa_nil)) (pg_name (i := 1) sc_law.nd rfl (Or.inl rfl))
      (pss_cons (ps_set (i := 2) sc_law.nd rfl (Or.inr rfl) (C8.pe_c c_law_well hr (by omega) (by rfl) (pa_cons (pv 0) (pa_cons (pv 1) pa_nil))))
    (pss_cons (ps_setLc (i := 4) (own := [("_law_turn", 3)]) (g := (gName 3)) (tt := tYes) rfl sc_law.nd rfl rfl (sw_true rfl rfl rfl (by decide +kernel)) (pi_range1 (by rfl) T.z_range (pa_cons pe_int pa_nil)) (blkOk_by (N := ["_law_script", "_law_k", "_law_well_here", "_law_turn", "_law_load", "_law_cell", "_law_other"]) (sc := defScope s_law) (by decide +kernel)) (fun _ _ _ _ _ => pg_name (i := 3) sc_law.nd rfl (Or.inl rfl)) (fun _ _ _ _ _ => pts_nil) (fun _ _ _ _ _ => (C8.pe_c c_law_drop hr (by omega) (by rfl) (pa_cons (pv 2) (pa_cons pe_int pa_nil)))))
    (pss_cons (ps_set (i := 5) sc_law.nd rfl (Or.inl rfl) (pe_op op_cat (pv 4) (C8.pe_c c_check hr (by omega) (by rfl) (pa_cons (pv 4) pa_nil))))
    (pss_cons (ps_if (PW.pt (pw_or (pt_cmpR op_ne (pe_callB call_len_seq (by rfl) T.z_len PySem.boot_len (pa_cons (pv 5) pa_nil)) pe_int (nomark _)) (pw_or1 (pt_cmpR (op_neD hu) (C8.pe_c c_good hr (by omega) (by rfl) (pa_cons (pe_op op_cat (pv 5) (pv 5)) (pa_cons pe_int pa_nil))) (pe_lst (pa_cons pe_bl (pa_cons pe_bl pa_nil))) (nomark _))))) (pss_one (ps_ret pe_bl)) pss_nil)
    (pss_one (ps_for PassesOwn.never rfl (pi_range1 (by rfl) T.z_range (pa_cons pe_int pa_nil)) (pg_name (i := 3) sc_law.nd rfl (Or.inl rfl))
      (pss_cons (ps_set (i := 6) sc_law.nd rfl (Or.inl rfl) (C8.pe_c c_law_turned hr (by omega) (by rfl) (pa_cons (pv 5) (pa_cons (C8.pe_c c_law_spots hr (by omega) (by rfl) (pa_cons (pv 2) pa_nil)) pa_nil))))
    (pss_cons (ps_if (pt_cmpR (op_eqD hu) (pv 6) (pv 5) (nomark _)) (pss_one (ps_ret pe_bl)) pss_nil)
    (pss_one (ps_if (PW.pt (pw_or (pt_cmpR (op_neD hu) (C8.pe_c c_good hr (by omega) (by rfl) (pa_cons (pe_op op_cat (pv 6) (pv 5)) (pa_cons pe_int pa_nil))) (pe_lst (pa_cons pe_bl (pa_cons pe_bl pa_nil))) (nomark _)) (pw_or1 (pt_cmpR (op_neD hu) (C8.pe_c c_good hr (by omega) (by rfl) (pa_cons (pe_op op_cat (pv 5) (pv 6)) (pa_cons pe_int pa_nil))) (pe_lst (pa_cons pe_bl (pa_cons pe_bl pa_nil))) (nomark _))))) (pss_one (ps_ret pe_bl)) pss_nil)))))))))))
    (pss_one (ps_ret pe_bl))), ?_⟩
    refine ⟨_, rfl, a, _, rfl, .inl hS, ?_⟩
    walk_at "ev"
    refine ⟨(by split <;> split <;> omega), (by split <;> split <;> omega), ?_⟩
    refine for_range (fun i σ H1 => ∃ v1 v2 v3 v4 v5 v6, σ = [some (.ref a), v1, v2, v3, v4, v5, v6] ∧ Same H H1) ⟨_, _, _, _, _, _, rfl, Same.refl H⟩ ?_ ?_
    · rintro i σ H1 hi ⟨v1, v2, v3, v4, v5, v6, rfl, s1⟩
      walk_at "ev"
      refine ⟨_, _, _, rfl, s1.seq hS, (by omega), ?_, fun p H2 np sm hs => ?_⟩
      · split at hi <;> split at hi <;> omega
      have s2 : Same H H2 := s1.trans sm
      have npH : H p = none := s1.free np
      walk_at "ev"
      refine ⟨by omega, by omega, fun D nD => ?_⟩
      have nDa : p ≠ D := hs.ne nD
      refine lc_it walk_range (fun t H3 => ∃ xs : List Int, xs.length = t ∧ AreBits xs ∧ H3 D = some (.lst (xs.map V.int)) ∧ Src H3 p ∧ Up p H2 H3) ⟨[], rfl, fun _ m => absurd m List.not_mem_nil, upd_same, src_same (same_upd nD) hs, up_same (same_upd nD)⟩ (fun _ _ _ _ => trivial) ?_ ?_
      · rintro t x H3 H4 ht ⟨xs, hl, hb, e2, s3, u3⟩ ⟨rfl, rfl⟩
        walk_at "ev"
        refine ⟨s3, by decide, by decide, fun r4 H5 k0 k1 s5 u5 => ?_⟩
        walk_at "ev"
        refine ⟨_, (u5 D nDa.symm).trans e2, by rw [List.length_map]; exact small1000 (by omega), xs ++ [r4], by rw [List.length_append, hl]; rfl, hb.app fun z m => ?_, ?_, src_keep nDa s5, fun b o nb e => ?_⟩
        · rw [List.mem_singleton.mp m]
          omega
        · rw [upd_same, List.map_append]
          rfl
        · rw [upd_ne (ne_of_none e nD)]
          exact (u5 b nb).trans (u3 b o nb e)
      rintro H3 ⟨xs, hxl, hxb, e3, hs3, u3⟩
      have hxl : xs.length = 48 := hxl
      walk_at "ev"
      refine ⟨D, xs, rfl, e3, hxb, fun q1 H4 n4 s4 e4 => ?_⟩
      refine ⟨D, q1, _, _, rfl, rfl, s4 _ _ e3, e4, ?_, fun p5 n5 => ?_⟩
      · rw [List.length_map, List.length_map, hxl, crcI_len]
        exact Nat.le_of_lt (small1000 (by decide))
      rw [← List.map_append]
      have hcl : (xs ++ crcI xs).length = 56 := by rw [List.length_append, hxl, crcI_len]
      have hcb : AreBits (xs ++ crcI xs) := hxb.app (crcI_bits _)
      have hcg : goodC (xs ++ crcI xs) = true := goodC_own hxl
      have e5 : upd H4 p5 (.lst ((xs ++ crcI xs).map V.int)) p5 = some (.lst ((xs ++ crcI xs).map V.int)) := upd_same
      have u5 : Up p H2 (upd H4 p5 (.lst ((xs ++ crcI xs).map V.int))) := (u3.trans (up_same s4)).trans (up_same (same_upd n5))
      have hs5 : Src (upd H4 p5 (.lst ((xs ++ crcI xs).map V.int))) p := src_same (s4.trans (same_upd n5)) hs3
      generalize upd H4 p5 (.lst ((xs ++ crcI xs).map V.int)) = H5 at *
      generalize xs ++ crcI xs = c at *
      have hcI : ((List.map V.int c).length : Int) = 56 := by rw [List.length_map, hcl]; rfl
      walk_at "ev"
      have two : ∀ (x y : List Int), x.length = 56 → y.length = 56 → (x.map V.int).length + (y.map V.int).length ≤ sizeLine := fun x y h1 h2 => by
        rw [List.length_map, List.length_map, h1, h2]
        exact Nat.le_of_lt (small1000 (by decide))
      refine ⟨p5, p5, _, _, rfl, rfl, e5, e5, two _ _ hcl hcl, fun p6 n6 => ?_⟩
      rw [← List.map_append]
      refine ⟨p6, c ++ c, 2, 1, rfl, upd_same, hcb.app hcb, by rw [List.length_append, hcl], by decide, by decide, by decide, by decide, by decide, fun p7 H7 n7 s7 e7 => ?_⟩
      rw [chunks_two hcl hcl] at e7
      replace e7 : H7 p7 = some (.lst ([goodC c, goodC c].map V.bl)) := e7
      rw [hcg] at e7
      have s57 : Same H5 H7 := (same_upd n6).trans s7
      walk_at "ev"
      refine ⟨by show 2 ≤ sizeLine; decide, fun p8 n8 => ?_⟩
      refine q_neB (ns := [true, true]) (new_at e7 n8) upd_same ?_
      have s58 := s57.trans (same_upd (o := .lst [.bl true, .bl true]) n8)
      have hs8 := src_same s58 hs5
      have e58 := s58 _ _ e5
      have u8 := u5.trans (up_same s58)
      generalize upd H7 p8 (.lst [.bl true, .bl true]) = H8 at *
      walk_at "ev"
      refine ⟨by omega, by omega, ?_⟩
      refine for_range (fun j σ H9 => ∃ w3 w6, σ = [some (.ref a), some (.int (0 + (i : Int))), some (.ref p), w3, some (.ref D), some (.ref p5), w6] ∧ Src H9 p ∧ Up p H8 H9 ∧ H9 p5 = some (.lst (c.map V.int))) ⟨_, _, rfl, hs8, Up.refl _ _, e58⟩ ?_ ?_
      · rintro j σ H9 hj ⟨w3, w6, rfl, hs9, u9, e9⟩
        walk_at "ev"
        have p5p : p5 ≠ p := (lst_src hs9 e9 (by rw [List.length_map, hcl]; decide)).symm
        refine ⟨hs9, fun ps g H10 ns tg e10 hs10 u10 => ?_⟩
        refine ⟨p5, ps, c, g, rfl, u10 _ _ p5p e9, hcb, hcl, e10, fun q2 H11 n11 s11 e11 => ?_⟩
        have f5 := s11 _ _ (u10 _ _ p5p e9)
        have hs11 := src_same s11 hs10
        have htl : (turnC c g).length = 56 := turnC_len.trans hcl
        have htb : AreBits (turnC c g) := turnC_bits hcb
        have hng := good_told hcl hcb hcg tg
        have hne := turnC_ne hcl hcb hcg tg
        have u11 : Up p H8 H11 := (u9.trans u10).trans (up_same s11)
        generalize turnC c g = d at *
        walk_at "ev"
        refine q_eqII e11 f5 ?_
        rw [decide_eq_false hne]
        walk_at "ev"
        refine ⟨q2, p5, _, _, rfl, rfl, e11, f5, two _ _ htl hcl, fun p12 n12 => ?_⟩
        rw [← List.map_append]
        refine ⟨p12, d ++ c, 2, 1, rfl, upd_same, htb.app hcb, by rw [List.length_append, hcl, htl], by decide, by decide, by decide, by decide, by decide, fun p13 H13 n13 s13 e13 => ?_⟩
        rw [chunks_two htl hcl] at e13
        replace e13 : H13 p13 = some (.lst ([goodC d, goodC c].map V.bl)) := e13
        rw [hcg, hng] at e13
        have t13 : Same H11 H13 := (same_upd n12).trans s13
        walk_at "ev"
        refine ⟨by show 2 ≤ sizeLine; decide, fun p14 n14 => ?_⟩
        refine q_neB (ns := [false, true]) (new_at e13 n14) upd_same ?_
        have t14 := t13.trans (same_upd (o := .lst [.bl false, .bl true]) n14)
        generalize upd H13 p14 (.lst [.bl false, .bl true]) = H14 at *
        walk_at "ev"
        refine ⟨p5, q2, _, _, rfl, rfl, t14 _ _ f5, t14 _ _ e11, two _ _ hcl htl, fun p15 n15 => ?_⟩
        rw [← List.map_append]
        refine ⟨p15, c ++ d, 2, 1, rfl, upd_same, hcb.app htb, by rw [List.length_append, hcl, htl], by decide, by decide, by decide, by decide, by decide, fun p16 H16 n16 s16 e16 => ?_⟩
        rw [chunks_two hcl htl] at e16
        replace e16 : H16 p16 = some (.lst ([goodC c, goodC d].map V.bl)) := e16
        rw [hcg, hng] at e16
        have t16 : Same H14 H16 := (same_upd n15).trans s16
        walk_at "ev"
        refine ⟨by show 2 ≤ sizeLine; decide, fun p17 n17 => ?_⟩
        refine q_neB (ns := [true, false]) (new_at e16 n17) upd_same ?_
        have t17 := t14.trans (t16.trans (same_upd (o := .lst [.bl true, .bl false]) n17))
        generalize upd H16 p17 (.lst [.bl true, .bl false]) = H17 at *
        walk_at "ev"
        exact ⟨src_same t17 hs11, u11.trans (up_same t17), t17 _ _ f5⟩
      · rintro σ H9 ⟨w3, w6, rfl, hs9, u9, e9⟩
        exact ⟨_, _, _, _, _, _, rfl, (u8.trans u9).to s2 npH⟩
    · rintro σ H1 ⟨v1, v2, v3, v4, v5, v6, rfl, s1⟩
      walk_at "ev"
      exact q _
end
/-! ### what the top has written -/
theorem kbm1 {K : PySem.W.Frag} {x qual s p : Str} {params : Arguments} {body : List Stmt} {scope : Scope} {kV doc pm cd ct : Value} {an : Option Addr} (h : ∀ z u, bindArgs (PySem.W.fnOf x qual params body scope .none kV doc pm an cd ct) ⟨[z], [(p, u)]⟩ = pure [(s, z), (p, u)]) : KBn K (PySem.W.fnOf x qual params body scope .none kV doc pm an cd ct) [s, p] 1 [p] (fun us ws => us ++ ws) (fun vs zs => vs ++ zs) :=
  ⟨fun st us ws _ h1 h2 => match us, ws, h1, h2 with | [z], [u], _, _ => .of_eq (h z u), fun r1 r2 => r1.append r2⟩
theorem all_mk {l : PySem.W.OpenLaw} {w : World} {K : PySem.W.Frag} {h : Heap} {mg : Str → Option Value} {fa : Addr} (X : K.In h) (G : h.Ns mainGlobals mg) (hfa : mg "law" = some (.ref fa))
    {od0 an0 : Option Addr} {sl0 : Array (Option Value)} {oc0 kV0 dc0 pm0 cd0 ct0 : Value} {f0 : Addr}
    (a0 : PySem.W.nsIn K mainGlobals "is_number" = some (some (.ref f0))) (l0 : K.lookup f0 = some ⟨oc0, od0, .func (PySem.W.fnOf "is_number" "is_number" (defArgs s_is_number) (defBody s_is_number) (defScope s_is_number) .none kV0 dc0 pm0 an0 cd0 ct0), sl0⟩) (c0 : PySem.W.codeIn K cd0 "is_number" = true) (k0 : PySem.W.keepIn K (.ref f0) = true)
    {od1 an1 : Option Addr} {sl1 : Array (Option Value)} {oc1 kV1 dc1 pm1 cd1 ct1 : Value} {f1 : Addr}
    (a1 : PySem.W.nsIn K mainGlobals "check_bits" = some (some (.ref f1))) (l1 : K.lookup f1 = some ⟨oc1, od1, .func (PySem.W.fnOf "check_bits" "check_bits" (defArgs s_check_bits) (defBody s_check_bits) (defScope s_check_bits) .none kV1 dc1 pm1 an1 cd1 ct1), sl1⟩) (c1 : PySem.W.codeIn K cd1 "check_bits" = true) (k1 : PySem.W.keepIn K (.ref f1) = true)
    {od2 an2 : Option Addr} {sl2 : Array (Option Value)} {oc2 kV2 dc2 pm2 cd2 ct2 : Value} {f2 : Addr}
    (a2 : PySem.W.nsIn K mainGlobals "fixed" = some (some (.ref f2))) (l2 : K.lookup f2 = some ⟨oc2, od2, .func (PySem.W.fnOf "fixed" "fixed" (defArgs s_fixed) (defBody s_fixed) (defScope s_fixed) .none kV2 dc2 pm2 an2 cd2 ct2), sl2⟩) (c2 : PySem.W.codeIn K cd2 "fixed" = true) (k2 : PySem.W.keepIn K (.ref f2) = true)
    {od3 an3 : Option Addr} {sl3 : Array (Option Value)} {oc3 kV3 dc3 pm3 cd3 ct3 : Value} {f3 : Addr}
    (a3 : PySem.W.nsIn K mainGlobals "check" = some (some (.ref f3))) (l3 : K.lookup f3 = some ⟨oc3, od3, .func (PySem.W.fnOf "check" "check" (defArgs s_check) (defBody s_check) (defScope s_check) .none kV3 dc3 pm3 an3 cd3 ct3), sl3⟩) (c3 : PySem.W.codeIn K cd3 "check" = true) (k3 : PySem.W.keepIn K (.ref f3) = true)
    {od4 an4 : Option Addr} {sl4 : Array (Option Value)} {oc4 kV4 dc4 pm4 cd4 ct4 : Value} {f4 : Addr}
    (a4 : PySem.W.nsIn K mainGlobals "check_of" = some (some (.ref f4))) (l4 : K.lookup f4 = some ⟨oc4, od4, .func (PySem.W.fnOf "check_of" "check_of" (defArgs s_check_of) (defBody s_check_of) (defScope s_check_of) .none kV4 dc4 pm4 an4 cd4 ct4), sl4⟩) (c4 : PySem.W.codeIn K cd4 "check_of" = true) (k4 : PySem.W.keepIn K (.ref f4) = true)
    {od5 an5 : Option Addr} {sl5 : Array (Option Value)} {oc5 kV5 dc5 pm5 cd5 ct5 : Value} {f5 : Addr}
    (a5 : PySem.W.nsIn K mainGlobals "good" = some (some (.ref f5))) (l5 : K.lookup f5 = some ⟨oc5, od5, .func (PySem.W.fnOf "good" "good" (defArgs s_good) (defBody s_good) (defScope s_good) .none kV5 dc5 pm5 an5 cd5 ct5), sl5⟩) (c5 : PySem.W.codeIn K cd5 "good" = true) (k5 : PySem.W.keepIn K (.ref f5) = true)
    {od6 an6 : Option Addr} {sl6 : Array (Option Value)} {oc6 kV6 dc6 pm6 cd6 ct6 : Value} {f6 : Addr}
    (a6 : PySem.W.nsIn K mainGlobals "parts_of" = some (some (.ref f6))) (l6 : K.lookup f6 = some ⟨oc6, od6, .func (PySem.W.fnOf "parts_of" "parts_of" (defArgs s_parts_of) (defBody s_parts_of) (defScope s_parts_of) .none kV6 dc6 pm6 an6 cd6 ct6), sl6⟩) (c6 : PySem.W.codeIn K cd6 "parts_of" = true) (k6 : PySem.W.keepIn K (.ref f6) = true)
    {od7 an7 : Option Addr} {sl7 : Array (Option Value)} {oc7 kV7 dc7 pm7 cd7 ct7 : Value} {f7 : Addr}
    (a7 : PySem.W.nsIn K mainGlobals "is_good" = some (some (.ref f7))) (l7 : K.lookup f7 = some ⟨oc7, od7, .func (PySem.W.fnOf "is_good" "is_good" (defArgs s_is_good) (defBody s_is_good) (defScope s_is_good) .none kV7 dc7 pm7 an7 cd7 ct7), sl7⟩) (c7 : PySem.W.codeIn K cd7 "is_good" = true) (k7 : PySem.W.keepIn K (.ref f7) = true)
    {od8 an8 : Option Addr} {sl8 : Array (Option Value)} {oc8 kV8 dc8 pm8 cd8 ct8 : Value} {f8 : Addr}
    (a8 : PySem.W.nsIn K mainGlobals "check_group" = some (some (.ref f8))) (l8 : K.lookup f8 = some ⟨oc8, od8, .func (PySem.W.fnOf "check_group" "check_group" (defArgs s_check_group) (defBody s_check_group) (defScope s_check_group) .none kV8 dc8 pm8 an8 cd8 ct8), sl8⟩) (c8 : PySem.W.codeIn K cd8 "check_group" = true) (k8 : PySem.W.keepIn K (.ref f8) = true)
    {od9 an9 : Option Addr} {sl9 : Array (Option Value)} {oc9 kV9 dc9 pm9 cd9 ct9 : Value} {f9 : Addr}
    (a9 : PySem.W.nsIn K mainGlobals "check_cells" = some (some (.ref f9))) (l9 : K.lookup f9 = some ⟨oc9, od9, .func (PySem.W.fnOf "check_cells" "check_cells" (defArgs s_check_cells) (defBody s_check_cells) (defScope s_check_cells) .none kV9 dc9 pm9 an9 cd9 ct9), sl9⟩) (c9 : PySem.W.codeIn K cd9 "check_cells" = true) (k9 : PySem.W.keepIn K (.ref f9) = true)
    {od10 an10 : Option Addr} {sl10 : Array (Option Value)} {oc10 kV10 dc10 pm10 cd10 ct10 : Value} {f10 : Addr}
    (a10 : PySem.W.nsIn K mainGlobals "_law_well" = some (some (.ref f10))) (l10 : K.lookup f10 = some ⟨oc10, od10, .func (PySem.W.fnOf "_law_well" "_law_well" (defArgs s_law_well) (defBody s_law_well) (defScope s_law_well) .none kV10 dc10 pm10 an10 cd10 ct10), sl10⟩) (c10 : PySem.W.codeIn K cd10 "_law_well" = true) (k10 : PySem.W.keepIn K (.ref f10) = true)
    {od11 an11 : Option Addr} {sl11 : Array (Option Value)} {oc11 kV11 dc11 pm11 cd11 ct11 : Value} {f11 : Addr}
    (a11 : PySem.W.nsIn K mainGlobals "_law_drop" = some (some (.ref f11))) (l11 : K.lookup f11 = some ⟨oc11, od11, .func (PySem.W.fnOf "_law_drop" "_law_drop" (defArgs s_law_drop) (defBody s_law_drop) (defScope s_law_drop) .none kV11 dc11 pm11 an11 cd11 ct11), sl11⟩) (c11 : PySem.W.codeIn K cd11 "_law_drop" = true) (k11 : PySem.W.keepIn K (.ref f11) = true)
    {od12 an12 : Option Addr} {sl12 : Array (Option Value)} {oc12 kV12 dc12 pm12 cd12 ct12 : Value} {f12 : Addr}
    (a12 : PySem.W.nsIn K mainGlobals "_law_spots" = some (some (.ref f12))) (l12 : K.lookup f12 = some ⟨oc12, od12, .func (PySem.W.fnOf "_law_spots" "_law_spots" (defArgs s_law_spots) (defBody s_law_spots) (defScope s_law_spots) .none kV12 dc12 pm12 an12 cd12 ct12), sl12⟩) (c12 : PySem.W.codeIn K cd12 "_law_spots" = true) (k12 : PySem.W.keepIn K (.ref f12) = true)
    {od13 an13 : Option Addr} {sl13 : Array (Option Value)} {oc13 kV13 dc13 pm13 cd13 ct13 : Value} {f13 : Addr}
    (a13 : PySem.W.nsIn K mainGlobals "_law_turned" = some (some (.ref f13))) (l13 : K.lookup f13 = some ⟨oc13, od13, .func (PySem.W.fnOf "_law_turned" "_law_turned" (defArgs s_law_turned) (defBody s_law_turned) (defScope s_law_turned) .none kV13 dc13 pm13 an13 cd13 ct13), sl13⟩) (c13 : PySem.W.codeIn K cd13 "_law_turned" = true) (k13 : PySem.W.keepIn K (.ref f13) = true)
    {od14 an14 : Option Addr} {sl14 : Array (Option Value)} {oc14 kV14 dc14 pm14 cd14 ct14 : Value} {f14 : Addr}
    (a14 : PySem.W.nsIn K mainGlobals "law" = some (some (.ref f14))) (l14 : K.lookup f14 = some ⟨oc14, od14, .func (PySem.W.fnOf "law" "law" (defArgs s_law) (defBody s_law) (defScope s_law) .none kV14 dc14 pm14 an14 cd14 ct14), sl14⟩) (c14 : PySem.W.codeIn K cd14 "law" = true) (k14 : PySem.W.keepIn K (.ref f14) = true)
    {t1 t2 t3 t4 t5 : Tok} 
    (y0 : PySem.W.nsIn K mainGlobals "int" = some none)
    (y1 : PySem.W.nsIn K mainGlobals "len" = some none)
    (y2 : PySem.W.nsIn K mainGlobals "max" = some none)
    (y3 : PySem.W.nsIn K mainGlobals "min" = some none)
    (y4 : PySem.W.nsIn K mainGlobals "range" = some none)
    (y5 : PySem.W.nsIn K mainGlobals "isinstance" = some none)
    (y6 : PySem.W.nsIn K mainGlobals "bool" = some none)
    (y7 : PySem.W.nsIn K mainGlobals "list" = some none)
    (gk : PySem.W.nsIn K mainGlobals "CHECK_BITS" = some (some (.int 8 t1)))
    (gf : PySem.W.nsIn K mainGlobals "FEEDBACK" = some (some (.int 7 t2)))
    (gl : PySem.W.nsIn K mainGlobals "LOAD_BITS" = some (some (.int 48 t3)))
    (gc : PySem.W.nsIn K mainGlobals "CELL_BITS" = some (some (.int 56 t4)))
    (gm : PySem.W.nsIn K mainGlobals "MOST_GROUP" = some (some (.int 8 t5))) :
    ∃ fd : FuncData, (∀ (s : Shared) (v : Value), BindsTo s fd ⟨[v], []⟩ [("_law_script", v)]) ∧ ∀ base : Heap, K.In base → base.Ns mainGlobals mg → FnOk l.prog w K mg base CX0 5 fa fd ["_law_script"] (spLaw K) := by
  have e := hfa.symm.trans (PySem.W.mg_of X G a14)
  cases e
  have T : Txt mg := ⟨PySem.W.mg_none_of X G y0, PySem.W.mg_none_of X G y1, PySem.W.mg_none_of X G y2, PySem.W.mg_none_of X G y3, PySem.W.mg_none_of X G y4, PySem.W.mg_none_of X G y5, PySem.W.mg_none_of X G y6, PySem.W.mg_none_of X G y7⟩
  have c_gk := PySem.W.mg_of X G gk
  have c_gf := PySem.W.mg_of X G gf
  have c_gl := PySem.W.mg_of X G gl
  have c_gc := PySem.W.mg_of X G gc
  have c_gm := PySem.W.mg_of X G gm
  have F0 := fun_mk (st := s_is_number) l0 c0 k0
  have b0 := F0.binds (ps := ["thing"]) fun _ _ _ _ _ _ us hl => match us, hl with | [_], _ => rfl
  have F1 := fun_mk (st := s_check_bits) l1 c1 k1
  have b1 := F1.binds (ps := ["bits"]) fun _ _ _ _ _ _ us hl => match us, hl with | [_], _ => rfl
  have F2 := fun_mk (st := s_fixed) l2 c2 k2
  have b2 := F2.binds (ps := ["n", "w"]) fun _ _ _ _ _ _ us hl => match us, hl with | [_, _], _ => rfl
  have F3 := fun_mk (st := s_check) l3 c3 k3
  have b3 := F3.binds (ps := ["bits"]) fun _ _ _ _ _ _ us hl => match us, hl with | [_], _ => rfl
  have F4 := fun_mk (st := s_check_of) l4 c4 k4
  have b4 := F4.binds (ps := ["bits"]) fun _ _ _ _ _ _ us hl => match us, hl with | [_], _ => rfl
  have F5 := fun_mk (st := s_good) l5 c5 k5
  have b5 := F5.binds (ps := ["protected", "group"]) fun _ _ _ _ _ _ us hl => match us, hl with | [_, _], _ => rfl
  have F6 := fun_mk (st := s_parts_of) l6 c6 k6
  have b6 := F6.binds (ps := ["things", "size"]) fun _ _ _ _ _ _ us hl => match us, hl with | [_, _], _ => rfl
  have F7 := fun_mk (st := s_is_good) l7 c7 k7
  have b7 := F7.binds (ps := ["cell"]) fun _ _ _ _ _ _ us hl => match us, hl with | [_], _ => rfl
  have F8 := fun_mk (st := s_check_group) l8 c8 k8
  have b8 := F8.binds (ps := ["group"]) fun _ _ _ _ _ _ us hl => match us, hl with | [_], _ => rfl
  have F9 := fun_mk (st := s_check_cells) l9 c9 k9
  have b9 := F9.binds (ps := ["protected", "group"]) fun _ _ _ _ _ _ us hl => match us, hl with | [_, _], _ => rfl
  have F10 := fun_mk (st := s_law_well) l10 c10 k10
  have b10 := F10.binds (ps := ["_law_script", "_law_k"]) fun _ _ _ _ _ _ us hl => match us, hl with | [_, _], _ => rfl
  have F11 := fun_mk (st := s_law_drop) l11 c11 k11
  have b11 := F11.binds (ps := ["_law_well_here", "_law_top"]) fun _ _ _ _ _ _ us hl => match us, hl with | [_, _], _ => rfl
  have F12 := fun_mk (st := s_law_spots) l12 c12 k12
  have b12 := F12.binds (ps := ["_law_well_here"]) fun _ _ _ _ _ _ us hl => match us, hl with | [_], _ => rfl
  have F13 := fun_mk (st := s_law_turned) l13 c13 k13
  have b13 := F13.binds (ps := ["_law_cell", "_law_spots_here"]) fun _ _ _ _ _ _ us hl => match us, hl with | [_, _], _ => rfl
  have F14 := fun_mk (st := s_law) l14 c14 k14
  have b14 := F14.binds (ps := ["_law_script"]) fun _ _ _ _ _ _ us hl => match us, hl with | [_], _ => rfl
  refine ⟨PySem.W.fnOf "law" "law" (defArgs s_law) (defBody s_law) (defScope s_law) .none kV14 dc14 pm14 an14 cd14 ct14, fun s v => .of_eq rfl, fun base _ _ => ?_⟩
  have CN : Con mg t1 t2 t3 t4 t5 := ⟨c_gk, c_gf, c_gl, c_gc, c_gm⟩
  have Z0 : C8.Cal l.prog w K mg base 1 "is_number" spIsNum [] := ⟨_, _, _, _, ok_is_number F0 T, PySem.W.mg_of X G a0, k0, b0, .nil⟩
  have Z1 : C8.Cal l.prog w K mg base 2 "check_bits" spCheckB [] := ⟨_, _, _, _, ok_check_bits F1 Z0, PySem.W.mg_of X G a1, k1, b1, .nil⟩
  have Z2 : C8.Cal l.prog w K mg base 1 "fixed" spFixed [] := ⟨_, _, _, _, ok_fixed F2 T, PySem.W.mg_of X G a2, k2, b2, .nil⟩
  have Z4 : C8.Cal l.prog w K mg base 2 "check_of" spCheckOf [] := ⟨_, _, _, _, ok_check_of F4 CN Z2, PySem.W.mg_of X G a4, k4, b4, .nil⟩
  have Z3 : C8.Cal l.prog w K mg base 3 "check" spCheckOf [] := ⟨_, _, _, _, ok_check F3 Z1 Z4, PySem.W.mg_of X G a3, k3, b3, .nil⟩
  have Z6 : C8.Cal l.prog w K mg base 1 "parts_of" spParts [] := ⟨_, _, _, _, ok_parts F6 T, PySem.W.mg_of X G a6, k6, b6, .nil⟩
  have Z7 : C8.Cal l.prog w K mg base 3 "is_good" spIsGood [] := ⟨_, _, _, _, ok_is_good F7 CN Z4, PySem.W.mg_of X G a7, k7, b7, .nil⟩
  have Z8 : C8.Cal l.prog w K mg base 1 "check_group" spGroup [] := ⟨_, _, _, _, ok_check_group F8 CN, PySem.W.mg_of X G a8, k8, b8, .nil⟩
  have Z9 : C8.Cal l.prog w K mg base 3 "check_cells" spCells [] := ⟨_, _, _, _, ok_check_cells F9 T CN Z1 Z8, PySem.W.mg_of X G a9, k9, b9, .nil⟩
  have Z5 : C8.Cal l.prog w K mg base 4 "good" spGood [] := ⟨_, _, _, _, ok_good F5 CN Z9 Z6 Z7, PySem.W.mg_of X G a5, k5, b5, .nil⟩
  have Z10 : C8.Cal l.prog w K mg base 1 "_law_well" (spWell K) [] := ⟨_, _, _, _, ok_well F10 T, PySem.W.mg_of X G a10, k10, b10, .nil⟩
  have Z11 : C8.Cal l.prog w K mg base 1 "_law_drop" spTake [] := ⟨_, _, _, _, ok_drop F11 T, PySem.W.mg_of X G a11, k11, b11, .nil⟩
  have Z12 : C8.Cal l.prog w K mg base 2 "_law_spots" spSpots [] := ⟨_, _, _, _, ok_spots F12 T Z11, PySem.W.mg_of X G a12, k12, b12, .nil⟩
  have Z13 : C8.Cal l.prog w K mg base 1 "_law_turned" spTurned [] := ⟨_, _, _, _, ok_turned F13 T, PySem.W.mg_of X G a13, k13, b13, .nil⟩
  exact ok_law F14 T Z10 Z11 Z3 Z5 Z12 Z13
end My
open PySem PySem.W PyProof.Rows
set_option maxRecDepth 100000 in
set_option maxHeartbeats 0 in
theorem PySem.Challenge.cw_narrowingbits_k59_damage_that_is_told_holds : PySem.Challenge.rw_narrowingbits_k59_damage_that_is_told.Holds := by
  w_on; o_law; k_head; (case hw => w_witness2)
  k_fill
  refine L2.walk_of (l := PySem.Challenge.rw_narrowingbits_k59_damage_that_is_told) (n := 63) (k := 5) (x := "_law_script") (CX := fun _ => L2.CX0) (sp := fun w => My.spLaw _) rfl (by decide) rfl ⟨rfl, by decide, by decide⟩ (fun w h Y => PySem.W.kIn_of Y) ?F (fun _ _ a ns hl _ hS => ⟨a, ns, rfl, hS, hl, fun _ => rfl⟩) (fun _ _ _ _ _ h => h)
  case F =>
    intro w mg fa h KX G hmg
    refine' My.all_mk KX G hmg  ?a0 ?l0 ?c0 ?k0 ?a1 ?l1 ?c1 ?k1 ?a2 ?l2 ?c2 ?k2 ?a3 ?l3 ?c3 ?k3 ?a4 ?l4 ?c4 ?k4 ?a5 ?l5 ?c5 ?k5 ?a6 ?l6 ?c6 ?k6 ?a7 ?l7 ?c7 ?k7 ?a8 ?l8 ?c8 ?k8 ?a9 ?l9 ?c9 ?k9 ?a10 ?l10 ?c10 ?k10 ?a11 ?l11 ?c11 ?k11 ?a12 ?l12 ?c12 ?k12 ?a13 ?l13 ?c13 ?k13 ?a14 ?l14 ?c14 ?k14 ?y0 ?y1 ?y2 ?y3 ?y4 ?y5 ?y6 ?y7 ?gk ?gf ?gl ?gc ?gm
    (case a0 => k_is); (case l0 => k_is); (case c0 => k_is); (case k0 => k_is)
    (case a1 => k_is); (case l1 => k_is); (case c1 => k_is); (case k1 => k_is)
    (case a2 => k_is); (case l2 => k_is); (case c2 => k_is); (case k2 => k_is)
    (case a3 => k_is); (case l3 => k_is); (case c3 => k_is); (case k3 => k_is)
    (case a4 => k_is); (case l4 => k_is); (case c4 => k_is); (case k4 => k_is)
    (case a5 => k_is); (case l5 => k_is); (case c5 => k_is); (case k5 => k_is)
    (case a6 => k_is); (case l6 => k_is); (case c6 => k_is); (case k6 => k_is)
    (case a7 => k_is); (case l7 => k_is); (case c7 => k_is); (case k7 => k_is)
    (case a8 => k_is); (case l8 => k_is); (case c8 => k_is); (case k8 => k_is)
    (case a9 => k_is); (case l9 => k_is); (case c9 => k_is); (case k9 => k_is)
    (case a10 => k_is); (case l10 => k_is); (case c10 => k_is); (case k10 => k_is)
    (case a11 => k_is); (case l11 => k_is); (case c11 => k_is); (case k11 => k_is)
    (case a12 => k_is); (case l12 => k_is); (case c12 => k_is); (case k12 => k_is)
    (case a13 => k_is); (case l13 => k_is); (case c13 => k_is); (case k13 => k_is)
    (case a14 => k_is); (case l14 => k_is); (case c14 => k_is); (case k14 => k_is)
    (case y0 => k_is)
    (case y1 => k_is)
    (case y2 => k_is)
    (case y3 => k_is)
    (case y4 => k_is)
    (case y5 => k_is)
    (case y6 => k_is)
    (case y7 => k_is)
    (case gk => k_is)
    (case gf => k_is)
    (case gl => k_is)
    (case gc => k_is)
    (case gm => k_is)
