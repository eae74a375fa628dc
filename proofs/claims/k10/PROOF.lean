import PyProof.Rows.All
import Wide.All
import OpenK.AllK
import Wide.FinOn
import HandS.ForMost
import HandS.Wide
import HandS.IsInst
import HandS.Codes
import HandS.Style
import HandS.EndBits
import HandS.Walk
import HandS.FStr
import HandS.WideBits
import HandS.Defaults
import HandS.Exc
import HandS.TryOnly
import HandS.ExcOwn
import HandS.WordsExc
import HandS.ExcIs
import HandS.Lambda
import HandS.EndTab
import KE.KTupSum
import HandS.Iter
import HandS.Property
import HandS.ForList
import HandS.MakeKw
import HandS.MakeKwOnly
import KE.KExcIs
import HandS.ExcInit
import HandS.ExcField
import HandS.Replace
import HandS.More
import HandS.Text
import HandS.TryMany
import HandS.Deep
import KE.DataFind
import PyProof.ReprLen
import PyProof.FitsInt
import PyProof.P3Eq
import HandS.DictComp
import PyProof.ReprRoads
import HandS.Words
import PySem.Challenge.RW_narrowingbits_k10_told_letters_by_fracti
set_option Elab.async false
set_option linter.all false
set_option maxRecDepth 100000
set_option maxHeartbeats 4000000
namespace My
open PySem PySem.Spec PyProof.Rows L2
/-! ### arithmetic -/
theorem cdivw {i j : Int} (h : 0 < j) (h2 : j < 18446744073709551616) : CDivW i j := wide_div (b := 64) h (by omega) (by decide) (by decide)
theorem cmull {i j : Int} (h : -18446744073709551616 < i) (h2 : i < 18446744073709551616) : CMul i j := .inl ⟨by omega, by omega⟩
theorem cmulr {i j : Int} (h : -18446744073709551616 < j) (h2 : j < 18446744073709551616) : CMul i j := .inr ⟨by omega, by omega⟩
theorem pow18 : ((10 : Int) ^ (18 : Int).toNat) = 1000000000000000000 := by decide +kernel
theorem pow30 : ((10 : Int) ^ (30 : Int).toNat) = 1000000000000000000000000000000 := by decide +kernel
theorem pow9 : ((10 : Int) ^ (9 : Int).toNat) = 1000000000 := by decide +kernel
theorem pool_nn (c : Int) (b : Bool) : 0 ≤ (if -1 - c > c then -1 - c else c) * (if b = true then 1 else 0) := by
  refine Int.mul_nonneg ?_ ?_
  · split <;> omega
  · split <;> decide
theorem at_lt {ns : List Int} {k : Int} (h0 : 0 ≤ k) (h : k < ((ns.map V.int).length : Int)) : ∃ z, atI (ns.map V.int) k = some (.int z) := by
  rw [List.length_map] at h
  refine ⟨ns[k.toNat]'(by omega), at_of (j := k.toNat) (by omega) ?_⟩
  rw [List.getElem?_map, List.getElem?_eq_getElem (by omega)]
  rfl
theorem at_mem {xs : List V} {r : Int} (h0 : 0 ≤ r) (h : r < (xs.length : Int)) : ∃ v, atI xs r = some v ∧ v ∈ xs := by
  refine ⟨xs[r.toNat]'(by omega), at_of (j := r.toNat) (by omega) (List.getElem?_eq_getElem (by omega)), List.getElem_mem _⟩
/-! ### heaps -/
theorem same_upd {H : Hp} {p : Addr} {o : HO} (h : H p = none) : Same H (upd H p o) := fun b x e => by
  rw [upd_ne (ne_of_none e h)]
  exact e
/-- a source of draws stands at a -/
def Src (H : Hp) (a : Addr) : Prop := ∃ x y : Int, H a = some (.lst [.int x, .int y]) ∧ 0 ≤ x ∧ 0 ≤ y ∧ y < 2147483647
/-- all but a is as it was -/
def But (a : Addr) (H H' : Hp) : Prop := ∀ b, b ≠ a → H' b = H b
theorem But.refl (a : Addr) (H : Hp) : But a H H := fun _ _ => rfl
theorem But.trans {a : Addr} {H H1 H2 : Hp} (u : But a H H1) (v : But a H1 H2) : But a H H2 := fun b e => (v b e).trans (u b e)
theorem But.upd {a : Addr} {H : Hp} {o : HO} : But a H (upd H a o) := fun b e => upd_ne e
theorem But.at {a b : Addr} {H H' : Hp} {o : HO} (u : But a H H') (n : b ≠ a) (h : H b = some o) : H' b = some o := (u b n).trans h
theorem src_same {H H' : Hp} {a : Addr} (s : Same H H') (h : Src H a) : Src H' a := by
  obtain ⟨x, y, e, r⟩ := h
  exact ⟨x, y, s _ _ e, r⟩
theorem Src.ne {H : Hp} {a p : Addr} (h : Src H a) (n : H p = none) : a ≠ p := by
  obtain ⟨x, y, e, r⟩ := h
  exact ne_of_none e n
theorem same_but {a : Addr} {G H H' : Hp} (s : Same G H) (u : But a H H') (n : G a = none) : Same G H' := fun b o e => by
  rw [u b (ne_of_none e n)]
  exact s b o e
theorem kit_ii {K : PySem.W.Frag} : PySem.W.kitOne K (.type "int") (.type "int") = some true := kit_ty (by decide +kernel)
theorem kit_ib {K : PySem.W.Frag} : PySem.W.kitOne K (.type "int") (.type "bool") = some false := kit_ty (by decide +kernel)
theorem kit_bi {K : PySem.W.Frag} : PySem.W.kitOne K (.type "bool") (.type "int") = some true := kit_ty (by decide +kernel)
theorem kit_bb {K : PySem.W.Frag} : PySem.W.kitOne K (.type "bool") (.type "bool") = some true := kit_ty (by decide +kernel)
theorem kit_tt {K : PySem.W.Frag} : PySem.W.kitOne K (.type "tuple") (.type "tuple") = some true := kit_ty (by decide +kernel)
theorem kit_ll {K : PySem.W.Frag} : PySem.W.kitOne K (.type "list") (.type "list") = some true := kit_ty (by decide +kernel)
theorem kit_tl {K : PySem.W.Frag} : PySem.W.kitOne K (.type "tuple") (.type "list") = some false := kit_ty (by decide +kernel)
theorem kit_lt {K : PySem.W.Frag} : PySem.W.kitOne K (.type "list") (.type "tuple") = some false := kit_ty (by decide +kernel)
theorem op_powc {X : Cx} {a b c : Int} (hc : CPow a b) (h : a ^ b.toNat = c) : OpR X (binaryOp .Pow) (fun x y H Q => x = .int a ∧ y = .int b ∧ Q (.int c) H) := by
  intro pins s σ H x y v u Q I rx ry h'
  obtain ⟨rfl, rfl, q⟩ := h'
  exact op_pow pins s σ H _ _ v u Q I rx ry ⟨_, _, rfl, rfl, hc, by subst h; exact q⟩
theorem dp_pair {K : PySem.W.Frag} {H : Hp} {p : Addr} {a b : Int} (h : H p = some (.tup [.int a, .int b])) : Dp K H (.ref p) (.tuple [.int a, .int b]) := .tup (.inl (.inl h)) (.cons (.int _) (.cons (.int _) .nil))
theorem eq_pair (a b : Int) : PyData.eqv (.tuple [.int a, .int b]) (.tuple [.int a, .int b]) = true := by
  simp [PyData.eqv, PyData.eqvAll]
theorem tup_eq {H : Hp} {p : Addr} {x x' y y' : Int} (h : H p = some (.tup [.int x, .int y])) (h1 : x = x') (h2 : y = y') : H p = some (.tup [.int x', .int y']) := by
  rw [← h1, ← h2]
  exact h
end My
namespace My
section
open PySem PySem.W PyProof.Rows Builtin Builtin.Str Builtin.Int Builtin.Float
def binCodes (n : Nat) : List Nat := (Nat.toDigits 2 n).map Char.toNat
theorem field_plain (ds : List Nat) (h : ds.isEmpty = false) : intField' { align := 62, type := some 98 } false [] ds [] 4 = ⟨ds.toArray⟩ := by
  unfold intField'
  simp [h]
theorem digs_ne (n : Nat) : ((Nat.toDigits 2 n).map fun c => ((if ((98 : Nat) == 88) = true then c.toUpper else c) : Char).toNat).isEmpty = false := by
  cases e : Nat.toDigits 2 n with
  | nil =>
    have := tDigits_len_ge 2 n
    rw [e] at this
    cases this
  | cons a l => rfl
theorem meets_bin {x : Int} {t : Tok} (h0 : 0 ≤ x) (hL : (Nat.toDigits 2 x.natAbs).length ≤ sizeLine) :
    ∀ u, Meets (Builtin.«int.__format__» ⟨[.int x t, .str (Str.ofString "b") u], []⟩) (fun _ R s => ∀ t' k, R (.ok (.ret (.str ⟨(binCodes x.natAbs).toArray⟩ t'))) { s with toks := k }) := by
  intro u
  apply KPc.meets_of
  intro prog w A E s Q h
  unfold Builtin.«int.__format__»
  refine wpAny_bind (wpAny_of_eq (a := (_, _)) rfl ?_)
  refine wpAny_bind (wpAny_of_eq (a := _) rfl ?_)
  kxf_if
  refine wpAny_bind (wpAny_typeNameOf (T := "str") (typeIs_str _ _ _) (by decide) fun _ => ?_)
  refine wpAny_bind (wpAny_of_eq (a := some _) rfl ?_)
  kxf_if
  kxf_if
  refine wpAny_bind (wpAny_typeNameOfCut_int ?_)
  repeat kxf_if
  refine KXf.ret_text (T := ⟨(binCodes x.natAbs).toArray⟩) ?e ?l h
  case e =>
    have hx : decide (x < 0) = false := decide_eq_false (by omega)
    rw [hx]
    show intField' { align := 62, type := some 98 } false [] ((Nat.toDigits 2 x.natAbs).map fun c => ((if ((98 : Nat) == 88) = true then c.toUpper else c) : Char).toNat) [] 4 = _
    exact field_plain _ (digs_ne _)
  case l =>
    have hx : decide (x < 0) = false := decide_eq_false (by omega)
    rw [hx]
    show (intField' { align := 62, type := some 98 } false [] ((Nat.toDigits 2 x.natAbs).map fun c => ((if ((98 : Nat) == 88) = true then c.toUpper else c) : Char).toNat) [] 4).length ≤ sizeLine
    rw [field_plain _ (digs_ne _)]
    show ((binCodes x.natAbs).toArray).size ≤ sizeLine
    rw [List.size_toArray, binCodes, List.length_map]
    exact hL
end
end My
namespace My
open PySem PySem.Spec PyProof.Rows L2
/-! ### an f-string's field in binary -/
section
variable {X : Cx}
theorem pe_fmtB {e : Expr} {te : TE} {k : Nat} {pos p1 p2 : Pos} (he : PE X e te) : PE X (.FormattedValue e (-1) (some (.JoinedStr [.Constant (.str "b") k p1] p2)) pos)
    (fun σ H Q => te σ H fun x H1 => ∃ i : Int, x = .int i ∧ 0 ≤ i ∧ (Nat.toDigits 2 i.natAbs).length ≤ sizeLine ∧ Q (.str (SX.S (binCodes i.natAbs))) H1) := by
  refine ⟨fun pins s σ H Q I h => ?_⟩
  refine wpAny_FormattedValue_spec (thn (he.run pins s σ H _ I h) fun v s1 hv => ?_)
  obtain ⟨x, H1, I1, r1, i, rfl, h0, hL, q⟩ := hv
  obtain ⟨t, rfl⟩ := r1
  refine thn ((pe_joined1 (X := X) (pe_str (x := "b") (j := k) (pos := p1)) (pos := p2)).run pins s1 σ H1 (fun y H2 => y = .str "b" ∧ H2 = H1) I1 ⟨rfl, rfl⟩) fun r s2 hr => ?_
  obtain ⟨y, H2, I2, r2, rfl, rfl⟩ := hr
  obtain ⟨t2, rfl⟩ := r2
  exact ⟨_, t2, rfl, PySem.W.KXf.field_int rfl rfl (by decide) (meets_bin h0 hL) fun t' k => ⟨.str _, _, I2.tok _, ⟨_, rfl⟩, q⟩⟩
/-- a call by keywords alone -/
theorem pe_kw0 {CX : CXT} {k : Nat} {f : Addr} {fd : FuncData} {ps ks : List Str} {sp : Sp} {E : XK} {x : Str} {p pos : Pos} {kws : List Keyword} {tk : TA} {g : List Value → List Value → List Value} {gV : List V → List V → List V}
    (F : FnOk X.prog X.w X.K X.mg X.base CX k f fd ps sp) (hr : Room k X.A) (hg : Gl X x) (hm : X.mg x = some (.ref f)) (hk : PySem.W.keepIn X.K (.ref f) = true) (hb : KBn X.K fd ps 0 ks g gV) (hx : Passes CX X E) (hkw : PK X kws tk)
    (hall : (backToKw pos (keywordEach kws X.env)).all (·.1.isSome) = true := by rfl) (hks : (backToKw pos (keywordEach kws X.env)).filterMap (·.1) = ks := by rfl) (hdb : (x == ("__debug__" : Str)) = false := by decide)
    (hpl : ((backTo pos (starEach [] X.env)).any (·.1) || (backToKw pos (keywordEach kws X.env)).any (·.1.isNone)) = false := by rfl) :
    PE X (.Call (.Name x p) [] kws pos) (fun σ H Q => tk σ H fun zs H2 => zs.length = ks.length ∧ sp (gV [] zs) H2 Q E) := by
  refine ⟨fun pins s σ H Q I h => ?_⟩
  refine wpAny_Call_Name_kw (ld_glob I hg hm ?_ hdb)
  refine PySem.W.callWith_KW0 (h₀ := X.base) I.ok.mod.kin hk hall ?_ hpl
  refine thn (hkw.run pos pins s σ H _ I h) fun ws s2 ⟨zs, H2, I2, rz, l2, q2⟩ => ⟨I2.kIn, ?_⟩
  rw [hks]
  exact run_fnN (us := []) (vs := []) F hr hb hx I2 .nil rz rfl l2 q2
/-- a def that may be called by keywords alone -/
structure CalK (P : Program) (w : World) (K : PySem.W.Frag) (mg : Str → Option Value) (base : Heap) (k : Nat) (x : Str) (ks : List Str) (sp : Sp) : Prop where
  ex : ∃ (f : Addr) (fd : FuncData) (ps : List Str), FnOk P w K mg base CX0 k f fd ps sp ∧ mg x = some (.ref f) ∧ PySem.W.keepIn K (.ref f) = true ∧ KBn K fd ps 0 ks (fun _ ws => ws) (fun _ zs => zs)
theorem pe_ck {k j : Nat} {ks : List Str} {sp : Sp} {x : Str} {p pos : Pos} {kws : List Keyword} {tk : TA} (c : CalK X.prog X.w X.K X.mg X.base k x ks sp) (hr : Room j X.A) (hk : k ≤ j) (hg : Gl X x) (hkw : PK X kws tk)
    (hall : (backToKw pos (keywordEach kws X.env)).all (·.1.isSome) = true := by rfl) (hks : (backToKw pos (keywordEach kws X.env)).filterMap (·.1) = ks := by rfl) (hdb : (x == ("__debug__" : Str)) = false := by decide)
    (hpl : ((backTo pos (starEach [] X.env)).any (·.1) || (backToKw pos (keywordEach kws X.env)).any (·.1.isNone)) = false := by rfl) :
    PE X (.Call (.Name x p) [] kws pos) (fun σ H Q => tk σ H fun zs H2 => zs.length = ks.length ∧ sp zs H2 Q E0) := by
  obtain ⟨f, fd, ps, F, hm, hkp, hb⟩ := c.ex
  exact pe_kw0 F (hr.mono hk) hg hm hkp hb pass0 hkw hall hks hdb hpl
end
/-! ### digits -/
/-- the w binary digits of n, the highest first -/
def bitsW : Nat → Nat → List Nat
  | 0, _ => []
  | w + 1, n => bitsW w (n / 2) ++ [n % 2]
theorem bitsW_len : ∀ w n, (bitsW w n).length = w
  | 0, _ => rfl
  | w + 1, n => by rw [bitsW, List.length_append, bitsW_len w (n / 2)]; rfl
theorem bitsW_bit : ∀ w n, ∀ b ∈ bitsW w n, b < 2
  | 0, _, b, h => by cases h
  | w + 1, n, b, h => by
    rw [bitsW, List.mem_append] at h
    rcases h with h | h
    · exact bitsW_bit w _ b h
    · rw [List.mem_singleton] at h
      omega
theorem digit_code {b : Nat} (h : b < 2) : (Nat.digitChar b).toNat = 48 + b := by
  match b, h with
  | 0, _ => rfl
  | 1, _ => rfl
theorem binCodes_pow : ∀ w n, n < 2 ^ w → binCodes (2 ^ w + n) = 49 :: (bitsW w n).map (48 + ·)
  | 0, n, h => by
    have e : n = 0 := by omega
    subst e
    rfl
  | w + 1, n, h => by
    have p : 2 ^ (w + 1) = 2 * 2 ^ w := by rw [Nat.pow_succ, Nat.mul_comm]
    have g : 0 < 2 ^ w := Nat.two_pow_pos w
    have ih := binCodes_pow w (n / 2) (by omega)
    unfold binCodes at ih ⊢
    rw [Nat.toDigits_of_base_le (by decide) (by omega), List.map_append, show (2 ^ (w + 1) + n) / 2 = 2 ^ w + n / 2 by omega, ih, show (2 ^ (w + 1) + n) % 2 = n % 2 by omega, bitsW, List.map_append]
    show 49 :: _ ++ [(Nat.digitChar (n % 2)).toNat] = _
    rw [digit_code (Nat.mod_lt _ (by decide))]
    rfl
/-- the digits as numbers -/
def bitsI (w n : Nat) : List Int := (bitsW w n).map fun (b : Nat) => (b : Int)
theorem bitsI_len (w n : Nat) : (bitsI w n).length = w := by rw [bitsI, List.length_map, bitsW_len]
theorem digit_int {b : Nat} (h : b < 2) : PySem.intText? ⟨#[48 + b]⟩ = some (b : Int) := by
  match b, h with
  | 0, _ => decide +kernel
  | 1, _ => decide +kernel
theorem take_snoc {α : Type} {l : List α} {i : Nat} {x : α} (h : l[i]? = some x) : l.take i ++ [x] = l.take (i + 1) := by
  rw [List.take_add_one, h]
  rfl
end My
namespace My
open PySem PySem.Spec PyProof.Rows L2
/-! ### lists of numbers compared -/
theorem eqv_same {d : PyData} (h : SeqAt.shaped d = true) : PyData.eqv d d = true := SeqAt.eqv_refl d (SeqAt.canLay_of_shaped h)
theorem dpall_ints {K : PySem.W.Frag} {H : Hp} : ∀ ns : List Int, DpAll K H (ns.map V.int) (ns.map PyData.int)
  | [] => .nil
  | n :: r => .cons (.int n) (dpall_ints r)
theorem dp_ints {K : PySem.W.Frag} {H : Hp} {p : Addr} {ns : List Int} (h : SqL K H p (ns.map V.int)) : Dp K H (.ref p) (.list (ns.map PyData.int)) := .lst h (dpall_ints ns)
theorem sh_ints (ns : List Int) : SeqAt.shaped (.list (ns.map PyData.int)) = true := PySem.W.ke_shaped_ints ns
theorem q_eqI {K : PySem.W.Frag} {H : Hp} {p q : Addr} {ns : List Int} {Q : VK} (hp : H p = some (.lst (ns.map V.int))) (hq : H q = some (.lst (ns.map V.int))) (h : Q (.bl true) H) : rEqD K (.ref p) (.ref q) H Q :=
  ⟨_, _, dp_ints (.inl (.inl hp)), dp_ints (.inl (.inl hq)), sh_ints ns, sh_ints ns, by rw [eqv_same (sh_ints ns)]; exact h⟩
theorem q_neI {K : PySem.W.Frag} {H : Hp} {p q : Addr} {ns : List Int} {Q : VK} (hp : H p = some (.lst (ns.map V.int))) (hq : H q = some (.lst (ns.map V.int))) (h : Q (.bl false) H) : rNeD K (.ref p) (.ref q) H Q :=
  ⟨_, _, dp_ints (.inl (.inl hp)), dp_ints (.inl (.inl hq)), sh_ints ns, sh_ints ns, by rw [eqv_same (sh_ints ns)]; exact h⟩
/-! ### all but the source stays -/
def Up (a : Addr) (H H' : Hp) : Prop := ∀ b o, b ≠ a → H b = some o → H' b = some o
theorem Up.refl (a : Addr) (H : Hp) : Up a H H := fun _ _ _ h => h
theorem up_same {a : Addr} {H H' : Hp} (s : Same H H') : Up a H H' := fun b o _ h => s b o h
theorem But.up {a : Addr} {H H' : Hp} (u : But a H H') : Up a H H' := fun b o n h => (u b n).trans h
theorem Up.trans {a : Addr} {H H1 H2 : Hp} (u : Up a H H1) (v : Up a H1 H2) : Up a H H2 := fun b o n h => v b o n (u b o n h)
theorem Up.to {a : Addr} {G H H' : Hp} (u : Up a H H') (s : Same G H) (n : G a = none) : Same G H' := fun b o e => u b o (ne_of_none e n) (s b o e)
theorem Up.new {a p : Addr} {H H' : Hp} (u : Up a H H') (hs : Src H' a) (n : H' p = none) : H p = none := by
  cases e : H p with
  | none => rfl
  | some o =>
    have := u p o (hs.ne n).symm e
    rw [n] at this
    cases this
theorem src_keep {a p : Addr} {H : Hp} {o : HO} (n : a ≠ p) (h : Src H a) : Src (upd H p o) a := by
  obtain ⟨x, y, e, r⟩ := h
  exact ⟨x, y, by rw [upd_ne n]; exact e, r⟩
/-! ### digits by place -/
theorem bitsW_get : ∀ w n i, i < w → (bitsW w n)[i]? = some (n / 2 ^ (w - 1 - i) % 2)
  | 0, _, i, h => absurd h (Nat.not_lt_zero i)
  | w + 1, n, i, h => by
    rw [bitsW]
    by_cases e : i = w
    · subst e
      rw [List.getElem?_append_right (by rw [bitsW_len]; exact Nat.le_refl _), bitsW_len, show i - i = 0 by omega, show i + 1 - 1 - i = 0 by omega, Nat.pow_zero, Nat.div_one]
      rfl
    · rw [List.getElem?_append_left (by rw [bitsW_len]; omega), bitsW_get w (n / 2) i (by omega), Nat.div_div_eq_div_mul, show w + 1 - 1 - i = (w - 1 - i) + 1 by omega, Nat.pow_succ, Nat.mul_comm]
theorem bitsI_get {w n i : Nat} (h : i < w) : (bitsI w n)[i]? = some (((n / 2 ^ (w - 1 - i) % 2 : Nat)) : Int) := by
  rw [bitsI, List.getElem?_map, bitsW_get w n i h]
  rfl
end My
namespace My
open PySem PySem.Spec PyProof.Rows L2
section
variable {X : Cx}
/-- X(), X an own exception class without own __init__ -/
theorem pmk_none {C : Addr} {bmB : List Value} {B newId initId : String} {x : Str} {p pos : Pos} (F : ExcBaseFacts B newId initId bmB) (q : PySem.W.excIn X.K C bmB newId = true) (gC : X.mg x = some (.ref C)) (kC : PySem.W.keepIn X.K (.ref C) = true) (r : Raises X (.ref C)) (hg : Gl X x)
    (hdb : (x == ("__debug__" : Str)) = false := by decide) : PMk X (.Call (.Name x p) [] [] pos) (fun _ H Q => Q (.ref C) none H) := by
  intro pins s σ H Q I h
  refine wpAny_Call_Name_kw (ld_glob I hg gC (PySem.W.callWith_K0 I.kIn kC ?_) hdb)
  obtain ⟨bm, N, nm, qn, bs, hdct, sn, sub, ab, col, dd, k0, k1, k2, k3, k5, mN, hC, hN, hni, T⟩ := exc_obj I.kIn q
  exact wpAny_call_exc_subT F T hC hN hni (fun _ _ hm => mk_of I hm r h (I.hok.gone hm.new)) (Nat.zero_le _)
/-- isinstance of an own class against another one -/
theorem kit_ref {K : PySem.W.Frag} {C N : Addr} {b : Bool} (i : PySem.W.isClsIn K N = true) (t : PySem.W.typeIn K (.ref N) = some (.type "type")) (s : PySem.W.subIn K (.ref C) (.ref N) = some b) (n : b = false → PySem.W.subIn K (.ref C) (.ref C) = some true) :
    PySem.W.kitOne K (.ref C) (.ref N) = some b := by
  unfold PySem.W.kitOne
  by_cases e : ((Value.ref C) == (Value.ref N)) = true
  · rw [if_pos e]
    have e2 : C = N := Value.ref.inj (beq_iff_eq.mp e)
    subst e2
    cases b with
    | true => rfl
    | false =>
      rw [n rfl] at s
      cases s
  · rw [if_neg e]
    unfold PySem.W.kitCls
    have h : ((PySem.W.clsIn K N).isSome && PySem.W.typeIn K (.ref N) == some (.type "type")) = true := by
      rw [t, Bool.and_eq_true]
      exact ⟨i, by rfl⟩
    show (if _ then _ else _) = _
    rw [if_pos h]
    exact s
/-- an own exception class at C, as the top has written it -/
structure ECls (K : PySem.W.Frag) (mg : Str → Option Value) (x : Str) (C : Addr) : Prop where
  gC : mg x = some (.ref C)
  xC : PySem.W.excIn K C [.type "ValueError", .type "Exception", .type "BaseException", .type "object"] "ValueError.__new__" = true
  kC : PySem.W.keepIn K (.ref C) = true
  bC : PySem.W.subIn K (.ref C) (.type "BaseException") = some true
  tC : PySem.W.typeIn K (.ref C) = some (.type "type")
  ex : ExcC K C
  em : PySem.W.exmOne K (.ref C) (.ref C) = some true
/-- isinstance of the exception that a suite holds, its class told in the reading -/
theorem call_isE1 {a D : Addr} {oe : Obj} {cls : Value} {d : Option Addr} {pn : List (Addr × Obj)} (C : ExcC X.K D) (hz : Zc cls d oe) (hf : ∃ vs, oe.data = .fields vs) :
    CallR (X.suite a ((a, oe) :: pn)) (.builtin "isinstance") (fun xs H Q => cls = .ref D ∧ d = none ∧ rIsE X.K D a xs H Q) := by
  intro pins s σ H xs us Q I r h
  obtain ⟨e1, e2, h⟩ := h
  subst e1 e2
  exact call_isE C hz hf pins s σ H xs us Q I r h
end
end My
namespace My
open PySem PySem.Spec PyProof.Rows L2
/-! ### bit lengths, digits, values -/
def bl (n : Nat) : Nat := Builtin.Int.intBits (n : Int)
theorem bl_zero : bl 0 = 0 := rfl
theorem bl_pos {n : Nat} (h : 0 < n) : bl n = n.log2 + 1 := by
  unfold bl Builtin.Int.intBits
  rw [if_neg (by simp; omega), Int.natAbs_natCast]
theorem bl_lt (n : Nat) : n < 2 ^ bl n := by
  cases n with
  | zero => decide
  | succ n =>
    rw [bl_pos (Nat.succ_pos n)]
    exact Nat.lt_log2_self
theorem bl_le {n k : Nat} (h : n < 2 ^ k) : bl n ≤ k := PyProof.Rows.intBits_le (by rw [Int.natAbs_natCast]; exact h)
theorem bl_half {n : Nat} (h : 0 < n) : bl n = bl (n / 2) + 1 := by
  rw [bl_pos h]
  by_cases e : n = 1
  · subst e
    decide
  · rw [bl_pos (by omega), Nat.log2_def, if_pos (by omega)]
theorem bitsI_succ (w n : Nat) : bitsI (w + 1) n = bitsI w (n / 2) ++ [((n % 2 : Nat) : Int)] := by
  unfold bitsI
  rw [bitsW, List.map_append]
  rfl
def digs (n : Nat) : List Int := bitsI (bl n) n
theorem digs_zero : digs 0 = [] := rfl
theorem digs_step {n : Nat} (h : 0 < n) : digs n = digs (n / 2) ++ [((n % 2 : Nat) : Int)] := by
  unfold digs
  rw [bl_half h, bitsI_succ]
theorem digs_len (n : Nat) : (digs n).length = bl n := bitsI_len _ _
theorem digs_head : ∀ {n : Nat}, 0 < n → ∃ r, digs n = 1 :: r := by
  intro n
  induction n using Nat.strongRecOn with
  | _ n ih =>
    intro h
    rw [digs_step h]
    by_cases e : n = 1
    · subst e
      exact ⟨[], rfl⟩
    · obtain ⟨r, hr⟩ := ih (n / 2) (by omega) (by omega)
      rw [hr]
      exact ⟨r ++ [((n % 2 : Nat) : Int)], rfl⟩
def valI (xs : List Int) : Int := xs.foldl (fun v b => 2 * v + b) 0
theorem valI_snoc (xs : List Int) (b : Int) : valI (xs ++ [b]) = 2 * valI xs + b := by
  unfold valI
  rw [List.foldl_append]
  rfl
theorem valI_bits : ∀ w n, n < 2 ^ w → valI (bitsI w n) = n
  | 0, n, h => by
    have e : n = 0 := by omega
    subst e
    rfl
  | w + 1, n, h => by
    have p : 2 ^ (w + 1) = 2 * 2 ^ w := by rw [Nat.pow_succ, Nat.mul_comm]
    rw [bitsI_succ, valI_snoc, valI_bits w (n / 2) (by omega)]
    omega
theorem valI_digs (n : Nat) : valI (digs n) = n := valI_bits _ _ (bl_lt n)
theorem bitsI_bit {w n : Nat} {x : Int} (h : x ∈ bitsI w n) : 0 ≤ x ∧ x ≤ 1 := by
  obtain ⟨b, hb, rfl⟩ := List.mem_map.mp h
  have := bitsW_bit w n b hb
  omega
/-- all of them are bits -/
def AreBits (xs : List Int) : Prop := ∀ x ∈ xs, 0 ≤ x ∧ x ≤ 1
theorem AreBits.app {xs ys : List Int} (h : AreBits xs) (g : AreBits ys) : AreBits (xs ++ ys) := fun x m => by
  rcases List.mem_append.mp m with m | m
  · exact h x m
  · exact g x m
theorem AreBits.take {xs : List Int} (h : AreBits xs) (n : Nat) : AreBits (xs.take n) := fun x m => h x (List.mem_of_mem_take m)
theorem AreBits.zeros (n : Nat) : AreBits (List.replicate n 0) := fun x m => by
  rw [(List.mem_replicate.mp m).2]
  decide
/-- the code of a count -/
def code (c : Nat) : List Int := List.replicate (bl (c + 1) - 1) 0 ++ digs (c + 1)
theorem code_len (c : Nat) : (code c).length = 2 * bl (c + 1) - 1 := by
  have := bl_half (n := c + 1) (by omega)
  unfold code
  rw [List.length_append, List.length_replicate, digs_len]
  omega
theorem code_bits (c : Nat) : AreBits (code c) := (AreBits.zeros _).app fun _ m => bitsI_bit m
theorem flat_zeros (n : Nat) : (List.replicate n [V.int 0]).flatten = (List.replicate n (0 : Int)).map V.int := by
  induction n with
  | zero => rfl
  | succ n ih =>
    rw [List.replicate_succ, List.flatten_cons, ih, List.replicate_succ]
    rfl
theorem new_at {a p : Addr} {H : Hp} {o o' : HO} (h : H a = some o) (n : H p = none) : (upd H p o') a = some o := by
  rw [upd_ne (ne_of_none h n)]
  exact h
theorem cut_int {xs : List V} {x y : Int} {i k : Nat} (hx : x = (i : Int)) (hy : y = (k : Int)) (hik : i ≤ xs.length) (hk : k ≤ xs.length) : cutV xs (some x) (some y) = (xs.drop i).take (k - i) := by
  subst hx hy
  unfold cutV
  rw [HT.sIx_nat, HT.sIx_nat, Nat.min_eq_left hik, Nat.min_eq_left hk]
theorem cut_to {xs : List V} {y : Int} {k : Nat} (hy : y = (k : Int)) (hk : k ≤ xs.length) : cutV xs none (some y) = xs.take k := by
  subst hy
  unfold cutV
  rw [HT.sIx_none, HT.sIx_nat, Nat.min_eq_left hk, List.drop_zero, Nat.sub_zero]
theorem cut_any {xs : List V} {x y : Int} {i k : Nat} (hx : x = (i : Int)) (hy : y = (k : Int)) (hik : i ≤ xs.length) : cutV xs (some x) (some y) = (xs.drop i).take (k - i) := by
  subst hx hy
  unfold cutV
  rw [HT.sIx_nat, HT.sIx_nat, Nat.min_eq_left hik]
  by_cases h : k ≤ xs.length
  · rw [Nat.min_eq_left h]
  · rw [Nat.min_eq_right (by omega), List.take_of_length_le (by rw [List.length_drop]; omega), List.take_of_length_le (by rw [List.length_drop]; omega)]
/-! ### reading a count -/
/-- zeros ahead of the first 1 -/
def lz : List Int → Nat
  | [] => 0
  | x :: r => if x = 0 then lz r + 1 else 0
theorem lz_le : ∀ l : List Int, lz l ≤ l.length
  | [] => Nat.le_refl _
  | x :: r => by
    have := lz_le r
    simp only [lz, List.length_cons]
    split <;> omega
theorem lz_more : ∀ {l : List Int} {k : Nat}, k ≤ lz l → l[k]? = some 0 → k + 1 ≤ lz l
  | [], k, _, h => by simp at h
  | x :: r, 0, _, h => by
    have e : x = 0 := Option.some.inj h
    simp only [lz, e, if_true]
    omega
  | x :: r, k + 1, hk, h => by
    simp only [lz] at hk ⊢
    by_cases e : x = 0
    · rw [if_pos e] at hk ⊢
      have := lz_more (l := r) (k := k) (by omega) h
      omega
    · rw [if_neg e] at hk
      omega
theorem lz_stop : ∀ {l : List Int} {k : Nat} {x : Int}, k ≤ lz l → l[k]? = some x → x ≠ 0 → lz l = k
  | [], k, _, _, h, _ => by simp at h
  | y :: r, 0, x, _, h, hx => by
    have e : y = x := Option.some.inj h
    simp only [lz, e, if_neg hx]
  | y :: r, k + 1, x, hk, h, hx => by
    simp only [lz] at hk ⊢
    by_cases e : y = 0
    · rw [if_pos e] at hk ⊢
      have := lz_stop (l := r) (k := k) (x := x) (by omega) h hx
      omega
    · rw [if_neg e] at hk
      omega
theorem lz_zeros : ∀ (k : Nat) (l : List Int), lz (List.replicate k 0 ++ l) = k + lz l
  | 0, l => by simp
  | k + 1, l => by
    rw [List.replicate_succ, List.cons_append, lz, if_pos rfl, lz_zeros k l]
    omega
inductive RC where
  | long : RC
  | short : RC
  | read (v : Int) (stop : Nat) : RC
def readC (xs : List Int) (a : Nat) : RC :=
  if 40 < lz (xs.drop a) then .long else if xs.length < a + lz (xs.drop a) + 1 + lz (xs.drop a) then .short
  else .read (valI ((xs.drop (a + lz (xs.drop a))).take (lz (xs.drop a) + 1)) - 1) (a + lz (xs.drop a) + 1 + lz (xs.drop a))
def rcV : RC → List V
  | .long => [.str "long"]
  | .short => [.str "short"]
  | .read v s => [.str "read", .int v, .int s]
/-- a signed number of a count -/
def sgnR : RC → RC
  | .read v s => .read (if v % 2 = 0 then v / 2 else (-(v + 1)) / 2) s
  | r => r
theorem read_code {A B : List Int} {c : Nat} (h : c + 1 < 2 ^ 41) : readC (A ++ code c ++ B) A.length = .read c (A.length + (code c).length) := by
  obtain ⟨r, hr⟩ := digs_head (n := c + 1) (by omega)
  have l1 := bl_half (n := c + 1) (by omega)
  have l2 : bl (c + 1) ≤ 41 := bl_le h
  have e1 : (A ++ code c ++ B).drop A.length = List.replicate (bl (c + 1) - 1) 0 ++ (digs (c + 1) ++ B) := by
    rw [List.append_assoc, List.drop_left' rfl, code, List.append_assoc]
  have e2 : lz ((A ++ code c ++ B).drop A.length) = bl (c + 1) - 1 := by
    rw [e1, lz_zeros, hr]
    simp [lz]
  have e3 : (A ++ code c ++ B).drop (A.length + (bl (c + 1) - 1)) = digs (c + 1) ++ B := by
    rw [← List.drop_drop, e1, List.drop_left' (by rw [List.length_replicate])]
  have e4 : (digs (c + 1) ++ B).take (bl (c + 1) - 1 + 1) = digs (c + 1) := by
    rw [List.take_left' (by rw [digs_len]; omega)]
  unfold readC
  rw [e2, if_neg (by omega), if_neg (by rw [List.length_append, List.length_append, code_len]; omega), e3, e4, valI_digs, code_len]
  congr 1
  · omega
  · omega
theorem read_cut {A : List Int} {c t : Nat} (h : c + 1 < 2 ^ 41) (ht : t < (code c).length) : readC (A ++ (code c).take t) A.length = .short := by
  obtain ⟨r, hr⟩ := digs_head (n := c + 1) (by omega)
  have l1 := bl_half (n := c + 1) (by omega)
  have l2 : bl (c + 1) ≤ 41 := bl_le h
  rw [code_len] at ht
  have e0 : (A ++ (code c).take t).length = A.length + t := by
    rw [List.length_append, List.length_take, code_len]
    omega
  have e1 : (A ++ (code c).take t).drop A.length = (code c).take t := List.drop_left' rfl
  by_cases q : t ≤ bl (c + 1) - 1
  · have e2 : (code c).take t = List.replicate t 0 := by
      unfold code
      rw [List.take_append_of_le_length (by rw [List.length_replicate]; exact q), List.take_replicate, Nat.min_eq_left q]
    have e3 : lz ((A ++ (code c).take t).drop A.length) = t := by
      rw [e1, e2]
      have := lz_zeros t []
      rw [List.append_nil] at this
      rw [this]
      rfl
    unfold readC
    rw [e3, if_neg (by omega), if_pos (by rw [e0]; omega)]
  · have e2 : (code c).take t = List.replicate (bl (c + 1) - 1) 0 ++ (digs (c + 1)).take (t - (bl (c + 1) - 1)) := by
      unfold code
      rw [List.take_append, List.length_replicate, List.take_of_length_le (by rw [List.length_replicate]; omega)]
    have e3 : lz ((A ++ (code c).take t).drop A.length) = bl (c + 1) - 1 := by
      rw [e1, e2, lz_zeros, hr]
      obtain ⟨m, hm⟩ : ∃ m, t - (bl (c + 1) - 1) = m + 1 := ⟨t - (bl (c + 1) - 1) - 1, by omega⟩
      rw [hm, List.take_succ_cons]
      simp [lz]
    unfold readC
    rw [e3, if_neg (by omega), if_pos (by rw [e0]; omega)]
/-! ### what is told, as data -/
def rcD : RC → List PyData
  | .long => [.str "long"]
  | .short => [.str "short"]
  | .read v s => [.str "read", .int v, .int s]
theorem dp_rc {K : PySem.W.Frag} {H : Hp} {p : Addr} {r : RC} (h : H p = some (.tup (rcV r))) : Dp K H (.ref p) (.tuple (rcD r)) := by
  cases r with
  | long => exact .tup (.inl (.inl h)) (.cons (.str _) .nil)
  | short => exact .tup (.inl (.inl h)) (.cons (.str _) .nil)
  | read v s => exact .tup (.inl (.inl h)) (.cons (.str _) (.cons (.int _) (.cons (.int _) .nil)))
theorem sh_rc (r : RC) : SeqAt.shaped (.tuple (rcD r)) = true := by
  cases r with
  | long => decide +kernel
  | short => decide +kernel
  | read v s =>
    have h : PyData.canLay0 (.str "read") = true := by decide +kernel
    simp [SeqAt.shaped, rcD, PyData.canLay0, PyData.canLayAll0, PyData.depth, PyData.depthAll] at h ⊢
    try exact h
theorem q_neR {K : PySem.W.Frag} {H : Hp} {p q : Addr} {r : RC} {Q : VK} (hp : H p = some (.tup (rcV r))) (hq : H q = some (.tup (rcV r))) (h : Q (.bl false) H) : rNeD K (.ref p) (.ref q) H Q :=
  ⟨_, _, dp_rc hp, dp_rc hq, sh_rc r, sh_rc r, by rw [eqv_same (sh_rc r)]; exact h⟩
end My
namespace My
open PySem PySem.Spec PyProof.Rows L2
/-! ### several except clauses, each with a name -/
abbrev Clause := Value × Nat × (Addr → Value → Option Addr → TS)
def wAll (K : PySem.W.Frag) (Wout : WX) (D : Ends) : List Clause → WX
  | [] => Wout
  | (c, i, ts) :: more => wAs K c i ts (wAll K Wout D more) D
inductive Clauses (X : Cx) : List ExceptHandler → List Clause → Prop
  | done : Clauses X [] []
  | step {x n : Str} {c : Value} {i : Nat} {ts : Addr → Value → Option Addr → TS} {first : Stmt} {others : List Stmt} {p1 p2 : Pos} {hds : List ExceptHandler} {cs : List Clause}
      (cl : Names X x c) (slot : X.N[i]? = some n) (lo : X.env.kindOf n = some .local)
      (body : ∀ (a : Addr) (oe : Obj) (cls : Value) (d : Option Addr) (pn : List (Addr × Obj)), Zc cls d oe → (∃ vs, oe.data = .fields vs) → PSs (X.suite a ((a, oe) :: pn)) (first :: others) (ts a cls d))
      (more : Clauses X hds cs) : Clauses X (.ExceptHandler (some (.Name x p1)) (some n) (first :: others) p2 :: hds) ((c, i, ts) :: cs)
section
variable {X : Cx} {todo : List Stmt} {h0 : ExceptHandler} {hds : List ExceptHandler} {cs : List Clause} {pos : Pos} {tb : WX → TS} {Wout : WX}
theorem ps_try_all (e1 : X.stack = X.env :: X.outer) (e2 : X.env.frame = some X.env.locals) (nd : X.N.Nodup) (tk : Takes X Wout)
    (run : ∀ (W : WX) (pn : List (Addr × Obj)) (xe : Value → Shared → Prop), Takes (X.tr pn xe) W → PassesOwn (model X.prog X.w) X.A X.env xe → PSs (X.tr pn xe) todo (tb W))
    (all : Clauses X (h0 :: hds) cs) : PS X (.Try todo (h0 :: hds) [] [] pos) (fun D σ H => tb (wAll X.K Wout D cs) D σ H) := by
  constructor
  intro pins s σ H D I reading
  have here := I.ok
  have fr : X.A.frames = some (X.env :: X.outer) := by
    rw [here.frames, e1]
  apply wpAny_Try_except
  refine wpAny_mono ((run (wAll X.K Wout D cs) (X.pn ++ pins) _ (fun u t caught => ?landing) PassesOwn.looking).run [] s σ H D (I.toTry _) reading) (fun f t out => ?through) (fun _ _ z => z)
  case through =>
    cases f with
    | ret v =>
      obtain ⟨x, σ', H', J, rx, q⟩ := out
      exact ⟨x, σ', H', J.ofTry here, rx, q⟩
    | cont =>
      obtain ⟨σ', H', J, q⟩ := out
      exact ⟨σ', H', J.ofTry here, q⟩
    | brk =>
      obtain ⟨σ', H', J, q⟩ := out
      exact ⟨σ', H', J.ofTry here, q⟩
    | next =>
      obtain ⟨σ', H', J, q⟩ := out
      exact wpAny_execs_nil ⟨σ', H', J.ofTry here, q⟩
  case landing =>
    obtain ⟨a, B, sI, old, σ', H', cls, d, rfl, J0, nb, grown, sky0, fresh, os, bare, wish⟩ := caught
    have J : Inv X pins σ' H' sI := J0.ofTry here
    have sky : Sky B (X.env :: X.outer) a (Zc cls d) X.env.locals t.heap := e1 ▸ sky0
    refine Sky.land Zc.steady fr e2 sky (fun g fly up => ?_)
    have JG : Inv X pins σ' H' { t with heap := g } := J.landed nb fly.1 (grown.trans up) os bare
    obtain ⟨oe, vs, hoe, hz, hdat⟩ := fly.there
    have apart : a ∉ frs (X.env :: X.outer) := by
      intro m
      obtain ⟨_, o2, g2, no⟩ := fly.2.2.1.mem m
      rw [hoe] at g2
      cases g2
      exact no _ hdat
    have aL : a ≠ X.env.locals := by
      intro z
      exact apart (List.mem_filterMap.mpr ⟨X.env, List.mem_cons_self, by rw [e2, z]⟩)
    have aF : a ∉ X.fs := by
      intro m
      obtain ⟨ev, me, q⟩ := List.mem_filterMap.mp m
      exact apart (List.mem_filterMap.mpr ⟨ev, List.mem_cons_of_mem _ me, q⟩)
    have SG := JG.suite hoe hdat fresh aL aF
    have goOn : ∀ {hs2 : List ExceptHandler} {cs2 : List Clause}, Clauses X hs2 cs2 → wAll X.K Wout D cs2 cls d σ' H' → wpAny (model X.prog X.w) X.A (handleBy (.ref a) X.env hs2) (SP X pins D) X.xe { t with heap := g } := by
      intro hs2 cs2 k
      induction k with
      | done =>
        intro wsh
        apply wpAny_handleBy_nil
        obtain ⟨_, _, _, ob, fs, T, oT, ts', g1, z1, d1, f1, _⟩ := id fly
        have leave : wpAny (model X.prog X.w) X.A (setFlight (.ref a) X.env.frame) (fun _ t2 => wpAny (model X.prog X.w) X.A (throw (.ref a) : Sem Flow) (SP X pins D) X.xe t2) X.xe { t with heap := g } := by
          rw [e2]
          exact HandSPX.setFlight_upZ fly fun g3 fly3 up3 => wpAny_throw (tk _ _ ⟨a, B, sI, pins, σ', H', cls, d, rfl, J, nb, (grown.trans up).trans up3, .inr (.inr (e1.symm ▸ fly3)), fresh, os, bare, wsh⟩)
        unfold PySem.passOn
        apply wpAny_bind
        refine wpAny_field g1 d1 f1 ?_
        rw [if_neg (by simp)]
        first
          | exact wpAny_bind leave
          | exact wpAny_bind (wpAny_pure (wpAny_bind leave))
      | @step x n c i ts fst oth p1 p2 hs3 cs3 cl slot lo body more ih =>
        intro wsh
        obtain ⟨b, hb, yes, no⟩ := wsh
        have tyOf : PySem.W.Looks (model X.prog X.w) g (typeOf (.ref a)) cls := fun _ _ _ _ k q => wpAny_typeOf_ref (k _ _ hoe) (hz.1.symm ▸ q)
        have ask := PySem.W.exm_one (M := model X.prog X.w) JG.kIn tyOf hb
        refine wpAny_handleBy_cons (codeAny_handlers_test ?_) (fun z => by cases z)
        have named : ∀ {Q : Value → Shared → Prop} {E : Value → Shared → Prop}, Q c { t with heap := g } → wpAny (model X.prog X.w) (X.A.mark (some (.ref a))) (eval (.Name x p1) X.env) Q E { t with heap := g } := by
          intro Q E q
          obtain ⟨isG, nodbg, isM | ⟨isM, isB, nn⟩⟩ := cl
          · exact ld_glob (X := X.suite a ((a, oe) :: (X.pn ++ pins))) SG isG isM q nodbg
          · exact ld_blt (X := X.suite a ((a, oe) :: (X.pn ++ pins))) SG isG isM isB q nn nodbg
        refine named (ask.here ?_)
        cases b with
        | false => exact ih (no rfl)
        | true =>
          apply codeAny_handlers_suite_as
          refine HandSPX.lands_againZ fly (fun g4 fly4 up4 => ?_)
          have J4 : Inv X pins σ' H' { t with heap := g4 } := J.landed nb fly4.1 ((grown.trans up).trans up4) os bare
          obtain ⟨oe4, vs4, hoe4, hz4, hdat4⟩ := fly4.there
          have S4 := J4.suite hoe4 hdat4 fresh aL aF
          refine store_ok (X := X.suite a ((a, oe4) :: (X.pn ++ pins))) (v := .ref a) S4 nd slot (.inl lo) rfl (fun t5 S5 => ?_) (.inr lo)
          refine wpAny_mono ((body a oe4 cls d (X.pn ++ pins) hz4 ⟨_, hdat4⟩).run [] t5 _ H' _ S5 (yes rfl a fresh)) (fun f t6 out => ?_) (fun _ _ z => z.elim)
          have unname : ∀ {σ6 : L2.St} {H6 : Hp} {Q : Shared → Prop}, Inv (X.suite a ((a, oe4) :: (X.pn ++ pins))) [] σ6 H6 t6 → (∀ t7, Inv X pins (σ6.set i none) H6 t7 → Q t7) →
              wpAny (model X.prog X.w) X.A (do bindName X.env n .none; unbindBehindTheSuite X.env n p2) (fun _ t7 => Q t7) X.xe t6 := by
            intro σ6 H6 Q S6 hq
            exact gone_ok (S6.unsuite here) nd slot lo hq
          cases f with
          | ret u =>
            obtain ⟨v6, σ6, H6, S6, r6, q6⟩ := out
            exact unname S6 fun t7 J7 => ⟨v6, _, _, J7, r6, q6⟩
          | cont =>
            obtain ⟨σ6, H6, S6, q6⟩ := out
            exact unname S6 fun t7 J7 => ⟨_, _, J7, q6⟩
          | brk =>
            obtain ⟨σ6, H6, S6, q6⟩ := out
            exact unname S6 fun t7 J7 => ⟨_, _, J7, q6⟩
          | next =>
            obtain ⟨σ6, H6, S6, q6⟩ := out
            exact unname S6 fun t7 J7 => ⟨_, _, J7, q6⟩
    exact goOn all wish
end
end My
namespace My
open PySem PySem.Spec PyProof.Rows L2
/-! ### shapes of data, for comparing -/
structure ShD (n : Nat) (d : PyData) : Prop where
  lay : d.canLay0 = true
  dep : d.depth ≤ n
theorem ShD.sh {n : Nat} {d : PyData} (h : ShD n d) (hn : n ≤ 64) : SeqAt.shaped d = true := by
  unfold SeqAt.shaped
  rw [h.lay, decide_eq_true (Nat.le_trans h.dep hn)]
  rfl
theorem ShD.mono {n m : Nat} {d : PyData} (h : ShD n d) (hn : n ≤ m) : ShD m d := ⟨h.lay, Nat.le_trans h.dep hn⟩
theorem shd_int {n : Nat} (i : Int) : ShD n (.int i) := ⟨by simp [PyData.canLay0], by simp [PyData.depth]⟩
theorem shd_bl {n : Nat} (b : Bool) : ShD n (.bool b) := ⟨by simp [PyData.canLay0], by simp [PyData.depth]⟩
theorem shd_non {n : Nat} : ShD n .none := ⟨by simp [PyData.canLay0], by simp [PyData.depth]⟩
theorem shd_str {n : Nat} {x : Str} (h : PyData.canLay0 (.str x) = true) : ShD n (.str x) := ⟨h, by simp [PyData.depth]⟩
theorem shd_all {n : Nat} : ∀ {ds : List PyData}, (∀ d ∈ ds, ShD n d) → PyData.canLayAll0 ds = true ∧ PyData.depthAll ds ≤ n
  | [], _ => ⟨rfl, Nat.zero_le _⟩
  | d :: r, h => by
    have h1 := h d List.mem_cons_self
    have h2 := shd_all (ds := r) fun x m => h x (List.mem_cons_of_mem _ m)
    refine ⟨?_, ?_⟩
    · rw [PyData.canLayAll0, h1.lay, h2.1]
      rfl
    · rw [PyData.depthAll]
      exact Nat.max_le.mpr ⟨h1.dep, h2.2⟩
theorem shd_lst {n : Nat} {ds : List PyData} (h : ∀ d ∈ ds, ShD n d) : ShD (n + 1) (.list ds) := ⟨by rw [PyData.canLay0]; exact (shd_all h).1, by rw [PyData.depth]; exact Nat.succ_le_succ (shd_all h).2⟩
theorem shd_tup {n : Nat} {ds : List PyData} (h : ∀ d ∈ ds, ShD n d) : ShD (n + 1) (.tuple ds) := ⟨by rw [PyData.canLay0]; exact (shd_all h).1, by rw [PyData.depth]; exact Nat.succ_le_succ (shd_all h).2⟩
theorem shd_ints {n : Nat} (ns : List Int) : ShD (n + 1) (.list (ns.map PyData.int)) := shd_lst fun d m => by
  obtain ⟨i, _, rfl⟩ := List.mem_map.mp m
  exact shd_int i
theorem q_eqS {K : PySem.W.Frag} {H : Hp} {x y : V} {d : PyData} {Q : VK} (hx : Dp K H x d) (hy : Dp K H y d) (s : SeqAt.shaped d = true) (h : Q (.bl true) H) : rEqD K x y H Q :=
  ⟨_, _, hx, hy, s, s, by rw [eqv_same s]; exact h⟩
theorem q_neS {K : PySem.W.Frag} {H : Hp} {x y : V} {d : PyData} {Q : VK} (hx : Dp K H x d) (hy : Dp K H y d) (s : SeqAt.shaped d = true) (h : Q (.bl false) H) : rNeD K x y H Q :=
  ⟨_, _, hx, hy, s, s, by rw [eqv_same s]; exact h⟩
/-! ### a body that may let out what is caught -/
theorem pss_ex {X : Cx} {W : WX} {n : Nat} {ss : List Stmt} {r : XK → TS} (h : ∀ E : XK, (∀ cls d σ' H', E cls d H' → σ'.length = n → W cls d σ' H') → PSs X ss (r E)) :
    PSs X ss (fun D σ H => ∃ E : XK, (∀ cls d σ' H', E cls d H' → σ'.length = n → W cls d σ' H') ∧ r E D σ H) :=
  ⟨fun pins s σ H D I ⟨E, hE, q⟩ => (h E hE).run pins s σ H D I q⟩
theorem takes_len {X : Cx} {W : WX} (t : Takes X W) : Takes X (fun c d σ H => σ.length = X.N.length → W c d σ H) := fun u s' ⟨a, B, sI, pins, σ, H, cls, d, e, I, nb, up, sky, na, os, ag, w⟩ =>
  t u s' ⟨a, B, sI, pins, σ, H, cls, d, e, I, nb, up, sky, na, os, ag, w I.len⟩
theorem vk_mono {tl : XK → Hp → VK → Prop} {E : XK} {H : Hp} {R R' : VK} (he : ∀ v H1, R v H1 ↔ R' v H1) (h : tl E H R) : tl E H R' := by
  have e : R = R' := funext fun v => funext fun H1 => propext (he v H1)
  rw [← e]
  exact h
theorem len3 {σ : L2.St} (h : σ.length = 3) : ∃ x y z, σ = [x, y, z] := match σ, h with | [x, y, z], _ => ⟨x, y, z, rfl⟩
/-! ### a def that makes lambdas: its code object is known -/
structure FunC (K : PySem.W.Frag) (x qual : Str) (st : Stmt) (f : Addr) (fd : FuncData) (c : Addr) : Prop where
  ex : ∃ (oc : Value) (od : Option Addr) (kV doc pm : Value) (an : Option Addr) (ct : Value) (osl : Array (Option Value)),
    fd = PySem.W.fnOf x qual (defArgs st) (defBody st) (defScope st) .none kV doc pm an (.ref c) ct ∧ K.lookup f = some ⟨oc, od, .func fd, osl⟩ ∧ PySem.W.codeIn K (.ref c) qual = true
theorem FunC.ok {P : Program} {w : World} {K : PySem.W.Frag} {mg : Str → Option Value} {base : Heap} {x qual : Str} {st : Stmt} {f c : Addr} {fd : FuncData} {N ps : List Str} {k : Nat} {sp : Sp} (F : FunC K x qual st f fd c) (S : FnScope N ps (defScope st)) (len : ∀ vs H Q E, sp vs H Q E → vs.length = ps.length)
    (hbody : ∀ (A : Around) (outer : List Env) (s : Shared) (H : Hp) (vs : List V) (Q : VK) (E : XK), Room k (A.deeper (envOfC qual (defScope st) s.heap.objs.size f (.ref c))) → sp vs H Q E →
      ∃ t, PSs (cxOf CX0 P w K mg base N qual (defScope st) f (.ref c) A outer s H E).nox (defBody st) t ∧ t { nx := fun _ H' => Q .non H', rt := Q } (start N vs) H) : FnOk P w K mg base CX0 (k + 1) f fd ps sp := by
  obtain ⟨oc, od, kV, doc, pm, an, ct, osl, rfl, lk, hcd⟩ := F.ex
  refine fn_of lk hcd S len fun A outer s H vs Q E hr hsp => ?_
  obtain ⟨t, h, q⟩ := hbody A outer s H vs Q E hr hsp
  exact ⟨t, h.nox, q⟩
theorem funC_mk {K : PySem.W.Frag} {x qual : Str} {st : Stmt} {f c0 : Addr} {oc : Value} {od an : Option Addr} {osl : Array (Option Value)} {kV doc pm ct : Value} (l : K.lookup f = some ⟨oc, od, .func (PySem.W.fnOf x qual (defArgs st) (defBody st) (defScope st) .none kV doc pm an (.ref c0) ct), osl⟩)
    (c : PySem.W.codeIn K (.ref c0) qual = true) : FunC K x qual st f (PySem.W.fnOf x qual (defArgs st) (defBody st) (defScope st) .none kV doc pm an (.ref c0) ct) c0 := ⟨⟨oc, od, kV, doc, pm, an, ct, osl, rfl, l, c⟩⟩
/-! ### tables beside draws -/
def UpN (a : Addr) (H H' : Hp) : Prop := ∀ b o, b ≠ a → H b = some o → (∀ ps, o ≠ .tbl ps) → H' b = some o
theorem UpN.refl (a : Addr) (H : Hp) : UpN a H H := fun _ _ _ h _ => h
theorem UpN.trans {a : Addr} {H H1 H2 : Hp} (u : UpN a H H1) (v : UpN a H1 H2) : UpN a H H2 := fun b o n h t => v b o n (u b o n h t) t
theorem Up.n {a : Addr} {H H' : Hp} (u : Up a H H') : UpN a H H' := fun b o n h _ => u b o n h
theorem ext_n {a : Addr} {H H' : Hp} (x : LamX.ExtN H H') : UpN a H H' := fun b o _ h t => x b o h t
theorem Src.ext {a : Addr} {H H' : Hp} (x : LamX.ExtN H H') (s : Src H a) : Src H' a := by
  obtain ⟨u, v, e, r⟩ := s
  exact ⟨u, v, x _ _ e (fun ps z => by cases z), r⟩
theorem tabs_up {T : List (Addr × Str)} {a : Addr} {H H' : Hp} (t : LamX.Tabs T H) (u : Up a H H') (s : Src H a) : LamX.Tabs T H' := fun p hp => by
  obtain ⟨x, y, e, _⟩ := s
  obtain ⟨ps, h1, h2, h3⟩ := t p hp
  refine ⟨ps, u _ _ (fun z => ?_) h1, h2, fun pos cv hc => ?_⟩
  · rw [z, e] at h1
    cases h1
  · obtain ⟨c, e1, e2⟩ := h3 pos cv hc
    refine ⟨c, e1, u _ _ (fun z => ?_) e2⟩
    rw [z, e] at e2
    unfold LamX.CodeO at e2
    cases e2
theorem tabs_same {T : List (Addr × Str)} {H H' : Hp} (t : LamX.Tabs T H) (s : Same H H') : LamX.Tabs T H' := t.ext fun b o e => s b o e
theorem ext_same {H H' : Hp} (s : Same H H') : LamX.ExtN H H' := fun b o e _ => s b o e
theorem UpN.to {a : Addr} {G H H' : Hp} (u : UpN a H H') (x : LamX.ExtN G H) (n : G a = none) : LamX.ExtN G H' := fun b o e t => u b o (ne_of_none e n) (x b o e t) t
theorem ext_seq {K : PySem.W.Frag} {H H' : Hp} {a : Addr} {xs : List V} (x : LamX.ExtN H H') (h : SqL K H a xs) : SqL K H' a xs := by
  rcases h with (h | ⟨o, h⟩) | h
  · exact .inl (.inl (x _ _ h (fun ps z => nomatch z)))
  · exact .inl (.inr ⟨o, x _ _ h (fun ps z => nomatch z)⟩)
  · exact .inr h
/-! ### the value of bits -/
theorem valI_lt : ∀ (n : Nat) (xs : List Int), xs.length = n → AreBits xs → ∃ z : Nat, valI xs = (z : Int) ∧ z < 2 ^ n
  | 0, xs, h, _ => by
    rw [List.length_eq_zero_iff.mp h]
    exact ⟨0, rfl, by decide⟩
  | n + 1, xs, h, hb => by
    rcases List.eq_nil_or_concat xs with rfl | ⟨ys, y, rfl⟩
    · cases h
    have hl : ys.length = n := by
      rw [List.length_concat] at h
      omega
    rw [List.concat_eq_append] at hb ⊢
    obtain ⟨z, hz, hz2⟩ := valI_lt n ys hl fun b m => hb b (List.mem_append_left _ m)
    have hb2 := hb y (List.mem_append_right _ (List.mem_singleton.mpr rfl))
    rw [valI_snoc, hz]
    have p : 2 ^ (n + 1) = 2 * 2 ^ n := by rw [Nat.pow_succ, Nat.mul_comm]
    exact ⟨2 * z + y.toNat, by omega, by omega⟩
/-! ### digits with zeros ahead -/
theorem bitsW_zero : ∀ d, bitsW d 0 = List.replicate d 0
  | 0 => rfl
  | d + 1 => by
    rw [bitsW, Nat.zero_div, bitsW_zero d, List.replicate_succ']
theorem bitsW_pad (d : Nat) : ∀ w n, n < 2 ^ w → bitsW (d + w) n = List.replicate d 0 ++ bitsW w n
  | 0, n, h => by
    have e : n = 0 := by omega
    subst e
    rw [Nat.add_zero, bitsW_zero, bitsW, List.append_nil]
  | w + 1, n, h => by
    have p : 2 ^ (w + 1) = 2 * 2 ^ w := by rw [Nat.pow_succ, Nat.mul_comm]
    show bitsW (d + w + 1) n = _
    rw [bitsW, bitsW, bitsW_pad d w (n / 2) (by omega), List.append_assoc]
theorem bitsI_pad (d w n : Nat) (h : n < 2 ^ w) : bitsI (d + w) n = List.replicate d 0 ++ bitsI w n := by
  unfold bitsI
  rw [bitsW_pad d w n h, List.map_append, List.map_replicate]
  rfl
end My
namespace My
open PySem PySem.Spec PyProof.Rows L2
/-! ### xs[i] op= e, for a list -/
theorem get_list {X : Cx} : PGet X (rIxL X.K) := by
  intro pins s σ H o i ov iv Q I ro ri h
  obtain ⟨p, xs, i, z, rfl, rfl, hq, he, q⟩ := h
  cases ro
  obtain ⟨t, rfl⟩ := ri
  obtain ⟨its, r, pl, hz⟩ := I.list hq
  obtain ⟨j, h1, h2, h3, h4, h5⟩ := atI_get he
  obtain ⟨w, ew, rw'⟩ := r.get h2
  have hl := r.length
  have hn := line63
  have fin : EP X pins σ Q w s := ⟨z, H, I, rw', q⟩
  by_cases h0 : 0 ≤ i
  · have hj : i.toNat = j := by
      rw [seqIndex_of h0 h5] at h1
      exact Option.some.inj h1
    exact wpAny_getItem_list pl.isList h0 (by omega) (by rw [hj]; simpa using ew) fin
  · have hj : (i + (its.toArray.size : Int)).toNat = j := by
      rw [seqIndex_neg (by omega) h4] at h1
      rw [List.size_toArray, ← hl]
      exact Option.some.inj h1
    exact wpAny_getItem_list_neg pl.isList (by omega) (by rw [List.size_toArray] <;> omega) (by omega) (by rw [hj]; simpa using ew) fin
/-! ### sum and for over a list or a tuple -/
def SqS (K : PySem.W.Frag) (H : Hp) (p : Addr) (xs : List V) : Prop := SqL K H p xs ∨ SqT K H p xs
def rSumS (K : PySem.W.Frag) : List V → Hp → VK → Prop := fun vs H Q => ∃ (a : Addr) (ns : List Int), vs = [V.ref a] ∧ SqS K H a (ns.map V.int) ∧ Q (.int ns.sum) H
theorem cr_sumS {X : Cx} (hc : X.calm = true) : CallR X (.builtin "sum") (rSumS X.K) := by
  intro pins s σ H vs us Q I r h
  obtain ⟨a, ns, rfl, hs, q⟩ := h
  rcases hs with hs | hs
  · exact cr_sum hc pins s σ H _ us Q I r ⟨a, ns, rfl, hs, q⟩
  · obtain ⟨its, rv, p, _⟩ := I.tuple hs
    rw [Vals.ref1 r]
    obtain ⟨xs, e⟩ := rv.ints.allInts.items
    have hn : numsOf (intItems xs).toList = ns := by rw [← e]; exact rv.ints.numsOf
    rw [nums_intItems] at hn
    have p2 : s.heap.IsTuple a (intItems xs) := by rw [← e]; exact p
    refine PySem.W.ktm_sumG (I.ok.hd hc) p2 fun h' tk t' hk => ?_
    rw [preSum_eq, List.take_of_length_le (by simp), hn]
    exact ⟨.int _, H, I.kept hk, ⟨_, rfl⟩, q⟩
def iSeq (K : PySem.W.Frag) (tl : TE) : TI := fun σ H R => tl σ H fun x H1 => ∃ a, x = .ref a ∧ (((∃ xs, SqL K H1 a xs) ∧ R (Itl K a) H1) ∨ ((∃ xs, SqT K H1 a xs) ∧ R (Itt K a) H1))
theorem pi_seq {X : Cx} {tg l : Expr} {tl : TE} (hl : PE X l tl) : PI X tg l (iSeq X.K tl) := by
  refine ⟨fun pins s σ H R I h => ?_⟩
  refine thn (hl.run pins s σ H _ I h) fun v s1 ⟨x, H1, I1, r1, q1⟩ => ?_
  obtain ⟨a, e, q⟩ := q1
  subst e
  cases r1
  rcases q with ⟨⟨xs, hq⟩, q⟩ | ⟨⟨xs, hq⟩, q⟩
  · obtain ⟨its, rv, p, hz⟩ := I1.list hq
    refine wpAny_pyIter_list p.isList ?_
    refine ⟨s1.heap.objs.size, [s1.heap.objs.size], _, _, H1, rfl, I1.kept (t' := s1.toks) fun b o e => Heap.get?_push_of_some _ e, turn_list a _, ⟨_, Heap.get?_push_size _ rfl, rfl, rfl⟩, fun b hb => ?_, q⟩
    have e : b = s1.heap.objs.size := by simpa using hb
    subst e
    exact I1.fpOk (Nat.le_refl _) (I1.hok.fresh (Nat.le_refl _))
  · obtain ⟨its, rv, p, hz⟩ := I1.tuple hq
    refine wpAny_pyIter_tuple (show s1.heap.IsTuple a its.toArray from p) ?_
    refine ⟨s1.heap.objs.size, [s1.heap.objs.size], _, _, H1, rfl, I1.kept (t' := s1.toks) fun b o e => Heap.get?_push_of_some _ e, turn_tuple a _, ⟨_, Heap.get?_push_size _ rfl, rfl, rfl⟩, fun b hb => ?_, q⟩
    have e : b = s1.heap.objs.size := by simpa using hb
    subst e
    exact I1.fpOk (Nat.le_refl _) (I1.hok.fresh (Nat.le_refl _))
theorem same_seqT {K : PySem.W.Frag} {H H' : Hp} {a : Addr} {xs : List V} (e : Same H H') (h : SqT K H a xs) : SqT K H' a xs := by
  rcases h with (h | ⟨o, h⟩) | h
  · exact .inl (.inl (e _ _ h))
  · exact .inl (.inr ⟨o, e _ _ h⟩)
  · exact .inr h
theorem same_seqS {K : PySem.W.Frag} {H H' : Hp} {a : Addr} {xs : List V} (e : Same H H') (h : SqS K H a xs) : SqS K H' a xs := by
  rcases h with h | h
  · exact .inl (e.seq h)
  · exact .inr (same_seqT e h)
theorem for_seq {K : PySem.W.Frag} {a : Addr} {xs : List V} {g : TG} {tb : TS} {D : Ends} {σ : L2.St} {H : Hp} (Pv : Nat → L2.St → Hp → Prop) (h0 : Pv 0 σ H) (hl : (∀ i σ' H', i ≤ xs.length → Pv i σ' H' → SqL K H' a xs) ∨ (∀ i σ' H', i ≤ xs.length → Pv i σ' H' → SqT K H' a xs))
    (hs : ∀ i x σ H, xs[i]? = some x → Pv i σ H → g x σ H fun σ2 H2 => tb { D with nx := Pv (i + 1), ct := Pv (i + 1), bk := D.nx } σ2 H2) (hd : ∀ σ H, Pv xs.length σ H → D.nx σ H) :
    ((∃ ys, SqL K H a ys) ∧ ∃ W : Nat → Nat → L2.St → Hp → Prop, (∃ m, W 0 m σ H) ∧ ∀ i m σ H, W i m σ H →
      ((Itl K a).stop i H ∧ D.nx σ H) ∨ ((Itl K a).go i H ∧ ∃ N : L2.St → Hp → Prop, (∀ σ' H', N σ' H' → ∃ m', m' < m ∧ W (i + 1) m' σ' H') ∧ ∀ x H', (Itl K a).yld i H x H' → g x σ H' fun σ2 H2 => tb { D with nx := N, ct := N, bk := D.nx } σ2 H2)) ∨
    ((∃ ys, SqT K H a ys) ∧ ∃ W : Nat → Nat → L2.St → Hp → Prop, (∃ m, W 0 m σ H) ∧ ∀ i m σ H, W i m σ H →
      ((Itt K a).stop i H ∧ D.nx σ H) ∨ ((Itt K a).go i H ∧ ∃ N : L2.St → Hp → Prop, (∀ σ' H', N σ' H' → ∃ m', m' < m ∧ W (i + 1) m' σ' H') ∧ ∀ x H', (Itt K a).yld i H x H' → g x σ H' fun σ2 H2 => tb { D with nx := N, ct := N, bk := D.nx } σ2 H2)) := by
  rcases hl with h | h
  · exact .inl ⟨⟨_, h _ _ _ (Nat.zero_le _) h0⟩, for_list Pv h0 h hs hd⟩
  · exact .inr ⟨⟨_, h _ _ _ (Nat.zero_le _) h0⟩, for_tup Pv h0 h hs hd⟩
end My
namespace My
open PySem PySem.Spec PyProof.Rows L2
/-! ### classes: makers, methods, properties, handed round as one fact each -/
theorem passN {X : Cx} : Passes (L2.CX X.prog X.w) X C8.E0 := fun _ _ _ _ _ _ _ c => by
  obtain ⟨_, _, _, _, _, _, _, _, _, _, _, _, z⟩ := c
  exact z.elim
section
variable {X : Cx} {CX : CXT} {k j : Nat} {f C : Addr} {fd : FuncData} {ps ks : List Str} {sp : Sp} {E : XK} {x m : Str} {p pos apos : Pos} {e o : Expr} {es : List Expr} {kws : List Keyword} {ta : TE} {t tk : TA} {g : List Value → List Value → List Value} {gV : List V → List V → List V}
/-- o.m(k = v, ..), nothing by position -/
def tMethK (C : Addr) (m : Str) (n : Nat) (sp : Sp) (E : XK) (ta : TE) (tk : TA) : TE := fun σ H Q => ta σ H fun x H1 => ∃ a dx fs, x = .ref a ∧ H1 a = some (.ins C dx fs) ∧ fs.lookup m = none ∧ tk σ H1 fun zs H2 => zs.length = n ∧ sp (x :: zs) H2 Q E
theorem pe_methK {pl : Sem Bool} (he : PE X o ta) (c : Cls X.K C) (hm : Meth X.K C m f) (F : FnOk X.prog X.w X.K X.mg X.base CX k f fd ps sp) (hr : Room k X.A) (hb : KBn X.K fd ps 1 ks (fun us ws => us ++ ws) (fun vs zs => vs ++ zs)) (hx : Passes CX X E) (hkw : PK X kws tk)
    (hall : (backToKw pos (keywordEach kws X.env)).all (·.1.isSome) = true := by rfl) (hks : (backToKw pos (keywordEach kws X.env)).filterMap (·.1) = ks := by rfl)
    (hpl : ((backTo pos (starEach [] X.env)).any (·.1) || (backToKw pos (keywordEach kws X.env)).any (·.1.isNone)) = false := by rfl)
    (ht : eval (.Call (.Attribute o m apos) [] kws pos) X.env = (do
      let ov ← eval o X.env
      standAt apos.atName
      let (f, first) ← holding [ov] (getMethod ov m pl)
      callWith pos f first (backTo pos (starEach [] X.env)) (backToKw pos (keywordEach kws X.env))) := by rfl) :
    PE X (.Call (.Attribute o m apos) [] kws pos) (tMethK C m ks.length sp E ta tk) := by
  refine ⟨fun pins s σ H Q I h => ?_⟩
  refine PySem.W.methodCall_KW (pl := pl) (thn (he.run pins s σ H _ I h) fun u s1 ⟨x, H1, I1, rx, a, dx, fs, ex, ea, l, q⟩ => ?_) ht
  subst ex
  obtain rfl : u = Value.ref a := rx
  refine getmeth_ok I1 ea c hm l ?_
  refine PySem.W.callWith_KW0 (first := [.ref a]) (h₀ := X.base) I.ok.mod.kin hm.kp hall ?_ hpl
  refine thn (hkw.run pos pins s1 σ H1 _ I1 q) fun ws s2 ⟨zs, H2, I2, rz, l2, q2⟩ => ⟨I2.kIn, ?_⟩
  rw [hks]
  exact run_fnN (us := [.ref a]) (vs := [.ref a]) F hr hb hx I2 (.cons rfl .nil) rz rfl l2 q2
end
/-- a method that may be called -/
structure CalM (P : Program) (w : World) (K : PySem.W.Frag) (mg : Str → Option Value) (base : Heap) (k : Nat) (C : Addr) (m : Str) (ks : List Str) (sp : Sp) : Prop where
  ex : ∃ (f : Addr) (fd : FuncData) (ps : List Str), Meth K C m f ∧ FnOk P w K mg base (L2.CX P w) k f fd ps sp ∧ Binds K fd ps [] ∧ KBn K fd ps 1 ks (fun us ws => us ++ ws) (fun vs zs => vs ++ zs)
/-- a class that may be called -/
structure CalC (P : Program) (w : World) (K : PySem.W.Frag) (mg : Str → Option Value) (base : Heap) (k : Nat) (x : Str) (C : Addr) (ks : List Str) (sp : Sp) : Prop where
  gl : mg x = some (.ref C)
  ex : ∃ (f : Addr) (fd : FuncData) (ps : List Str), Mk K C f ∧ FnOk P w K mg base (L2.CX P w) k f fd ps sp ∧ Binds K fd ps [] ∧ KBn K fd ps 1 ks (fun us ws => us ++ ws) (fun vs zs => vs ++ zs)
/-- a property that may be read -/
structure CalP (P : Program) (w : World) (K : PySem.W.Frag) (mg : Str → Option Value) (base : Heap) (k : Nat) (C : Addr) (f : Str) (sp : Sp) : Prop where
  ex : ∃ (p g : Addr) (fd : FuncData) (ps : List Str), PropOf K C f p g ∧ FnOk P w K mg base CX0 k g fd ps sp ∧ Binds K fd ps []
section
variable {X : Cx} {k j : Nat} {C : Addr} {ks : List Str} {sp : Sp} {E : XK} {x m : Str} {p pos apos : Pos} {e o : Expr} {es : List Expr} {kws : List Keyword} {ta : TE} {t tk : TA}
/-- o.m(e, ..); E: what is wanted of an exception -/
theorem pe_mx {pl : Sem Bool} (M : CalM X.prog X.w X.K X.mg X.base k C m ks sp) (c : Cls X.K C) (hr : Room j X.A) (hk : k ≤ j) (hx : Passes (L2.CX X.prog X.w) X E) (he : PE X o ta) (ha : PA X (e :: es) t)
    (hst : starEach (e :: es) X.env = (false, eval e X.env) :: starEach es X.env := by rfl) (hpl : (backTo pos (starEach es X.env)).any (·.1) = false := by rfl)
    (ht : eval (.Call (.Attribute o m apos) (e :: es) [] pos) X.env = (do
      let ov ← eval o X.env
      standAt apos.atName
      let (f, first) ← holding [ov] (getMethod ov m pl)
      callWith pos f first (backTo pos (starEach (e :: es) X.env)) (backToKw pos (keywordEach [] X.env))) := by rfl) :
    PE X (.Call (.Attribute o m apos) (e :: es) [] pos) (tMeth C m sp [] E ta t) := by
  obtain ⟨f, fd, ps, hm, F, hb, _⟩ := M.ex
  exact pe_meth he c hm F (hr.mono hk) hb .nil hx ha hst hpl ht
/-- o.m() -/
theorem pe_mx0 {pl : Sem Bool} (M : CalM X.prog X.w X.K X.mg X.base k C m ks sp) (c : Cls X.K C) (hr : Room j X.A) (hk : k ≤ j) (hx : Passes (L2.CX X.prog X.w) X E) (he : PE X o ta)
    (ht : eval (.Call (.Attribute o m apos) [] [] pos) X.env = (do
      let ov ← eval o X.env
      standAt apos.atName
      let (f, first) ← holding [ov] (getMethod ov m pl)
      callWith pos f first (backTo pos (starEach [] X.env)) (backToKw pos (keywordEach [] X.env))) := by rfl) :
    PE X (.Call (.Attribute o m apos) [] [] pos) (tMeth C m sp [] E ta tNil) := by
  obtain ⟨f, fd, ps, hm, F, hb, _⟩ := M.ex
  exact pe_meth0 he c hm F (hr.mono hk) hb .nil hx ht
/-- o.m(k = v, ..) -/
theorem pe_mxK {pl : Sem Bool} (M : CalM X.prog X.w X.K X.mg X.base k C m ks sp) (c : Cls X.K C) (hr : Room j X.A) (hk : k ≤ j) (hx : Passes (L2.CX X.prog X.w) X E) (he : PE X o ta) (hkw : PK X kws tk)
    (hall : (backToKw pos (keywordEach kws X.env)).all (·.1.isSome) = true := by rfl) (hks : (backToKw pos (keywordEach kws X.env)).filterMap (·.1) = ks := by rfl)
    (hpl : ((backTo pos (starEach [] X.env)).any (·.1) || (backToKw pos (keywordEach kws X.env)).any (·.1.isNone)) = false := by rfl)
    (ht : eval (.Call (.Attribute o m apos) [] kws pos) X.env = (do
      let ov ← eval o X.env
      standAt apos.atName
      let (f, first) ← holding [ov] (getMethod ov m pl)
      callWith pos f first (backTo pos (starEach [] X.env)) (backToKw pos (keywordEach kws X.env))) := by rfl) :
    PE X (.Call (.Attribute o m apos) [] kws pos) (tMethK C m ks.length sp E ta tk) := by
  obtain ⟨f, fd, ps, hm, F, _, hb⟩ := M.ex
  exact pe_methK he c hm F (hr.mono hk) hb hx hkw hall hks hpl ht
/-- C(e, ..) -/
theorem pe_new (M : CalC X.prog X.w X.K X.mg X.base k x C ks sp) (hr : Room j X.A) (hk : k + 1 ≤ j) (hg : Gl X x) (hx : Passes (L2.CX X.prog X.w) X E) (ha : PA X (e :: es) t) (hdb : (x == ("__debug__" : Str)) = false := by decide)
    (he : starEach (e :: es) X.env = (false, eval e X.env) :: starEach es X.env := by rfl) (hpl : (backTo pos (starEach es X.env)).any (·.1) = false := by rfl) :
    PE X (.Call (.Name x p) (e :: es) [] pos) (tMake C sp [] E t) := by
  obtain ⟨f, fd, ps, hm, F, hb, _⟩ := M.ex
  exact pe_make hm F (hr.mono hk) hg M.gl hb .nil hx ha hdb he hpl
/-- C() -/
theorem pe_new0 (M : CalC X.prog X.w X.K X.mg X.base k x C ks sp) (hr : Room j X.A) (hk : k + 1 ≤ j) (hg : Gl X x) (hx : Passes (L2.CX X.prog X.w) X E) (hdb : (x == ("__debug__" : Str)) = false := by decide) :
    PE X (.Call (.Name x p) [] [] pos) (tMake C sp [] E tNil) := by
  obtain ⟨f, fd, ps, hm, F, hb, _⟩ := M.ex
  exact pe_make0 hm F (hr.mono hk) hg M.gl hb .nil hx hdb
/-- C(k = v, ..) -/
theorem pe_newK (M : CalC X.prog X.w X.K X.mg X.base k x C ks sp) (hr : Room j X.A) (hk : k + 1 ≤ j) (hg : Gl X x) (hx : Passes (L2.CX X.prog X.w) X E) (hkw : PK X kws tk)
    (hall : (backToKw pos (keywordEach kws X.env)).all (·.1.isSome) = true := by rfl) (hks : (backToKw pos (keywordEach kws X.env)).filterMap (·.1) = ks := by rfl) (hdb : (x == ("__debug__" : Str)) = false := by decide)
    (hpl : ((backTo pos (starEach [] X.env)).any (·.1) || (backToKw pos (keywordEach kws X.env)).any (·.1.isNone)) = false := by rfl) :
    PE X (.Call (.Name x p) [] kws pos) (tMakeK C 0 ks.length sp (fun vs zs => vs ++ zs) E tNil tk) := by
  obtain ⟨f, fd, ps, hm, F, _, hb⟩ := M.ex
  exact pe_makeK0 hm F (hr.mono hk) hg M.gl hb hx hkw hall hks hdb hpl
/-- e.f, a property -/
theorem pe_pr {f : Str} (M : CalP X.prog X.w X.K X.mg X.base k C f sp) (c : Cls X.K C) (hr : Room j X.A) (hk : k + 1 ≤ j) (he : PE X e ta) (hab : attributeBase e f X.env (eval e X.env) = eval e X.env) : PE X (.Attribute e f pos) (tProp C sp [] C8.E0 ta) := by
  obtain ⟨p, g, fd, ps, hp, F, hb⟩ := M.ex
  exact pe_prop he c hp F (hr.mono hk) hb .nil pass0 hab
end
end My
namespace My
open PySem PySem.Spec PyProof.Rows L2
/-! ### exceptions with a field of their own -/
/-- isinstance of the exception that a suite holds, where it has its own dict -/
theorem call_isEd {X : Cx} {a D : Addr} {oe : Obj} {cls : Value} {d : Option Addr} {pn : List (Addr × Obj)} (C : ExcC X.K D) (hz : Zc cls d oe) (hf : ∃ vs, oe.data = .fields vs) :
    CallR (X.suite a ((a, oe) :: pn)) (.builtin "isinstance") (fun xs H Q => cls = .ref D ∧ (∃ dd fs, d = some dd ∧ H dd = some (.xd fs)) ∧ rIsE X.K D a xs H Q) := by
  intro pins s σ H xs us Q I r h
  obtain ⟨e1, ⟨dd, fs, e2, ea⟩, c, cv, b, rfl, hcv, e, q⟩ := h
  subst e1 e2
  cases r with
  | cons rx rr =>
    cases rr with
    | cons rt rr =>
      cases rr
      cases rx
      have ec := hcv _ rt
      subst ec
      obtain ⟨hget, _⟩ := I.pin (a, oe) (List.mem_append.mpr (.inl List.mem_cons_self))
      obtain ⟨vs, hv⟩ := hf
      have hx : ObjOk X.prog X.w H s.heap dd (.xd fs) := I.hok dd _ ea
      obtain ⟨mA, hns, hr⟩ := hx
      obtain ⟨od, ho, hl⟩ := lookIn_ns hns
      have J : PySem.W.InstAt s.heap a oe D (some od) := ⟨hget, hz.1, by unfold PySem.W.notCls; rw [hv] <;> rfl, by rw [hz.2]; exact ho⟩
      have hcl : (PySem.W.clsIn X.K D).isSome = true := by
        obtain ⟨cd, hc, _⟩ := PySem.W.any_some C.hd
        rw [hc]
        rfl
      exact PySem.W.kia_one (PySem.W.kitx_exc hcl C.hg C.hk C.hs C.ha C.hn C.ht C.hm) I.kIn J e (fun z => nomatch z) fun tk => ⟨.bl b, H, I.kept (t' := tk) fun _ _ z => z, rfl, q⟩
/-- its __init__: self.f = what is given -/
def spIni (C : Addr) (f : Str) : Sp := fun vs H Q _ => ∃ (a : Addr) (v : V), vs = [.ref a, v] ∧ H a = some (exo a C none) ∧ ∀ dx, H dx = none → dx ≠ a → Q .non (upd (upd H dx (exd dx [(f, v)])) a (exo a C (some dx)))
/-- an own exception class x with one field f, at C -/
structure XDef (P : Program) (w : World) (K : PySem.W.Frag) (mg : Str → Option Value) (base : Heap) (x f : Str) (C : Addr) : Prop where
  gC : mg x = some (.ref C)
  oex : OexC K C
  xf : XfC K C
  no : PySem.W.findIn K (.ref C) f = some none
  isx : ExcC K C
  em : PySem.W.exmOne K (.ref C) (.ref C) = some true
  ini : ∃ (fI : Addr) (fd : FuncData), PySem.W.findIn K (.ref C) "__init__" = some (some (.ref fI)) ∧ PySem.W.typeIn K (.ref fI) = some (.type "function") ∧ FnOk P w K mg base CX0 1 fI fd ["self", f] (spIni C f) ∧ Binds K fd ["self", f] []
theorem pmk_x {X : Cx} {x f : Str} {C : Addr} {j : Nat} {p pos : Pos} {e : Expr} {te : TE} (D : XDef X.prog X.w X.K X.mg X.base x f C) (hr : Room j X.A) (h2 : 2 ≤ j) (hg : Gl X x) (he : PE X e te) (hdb : (x == ("__debug__" : Str)) = false := by decide)
    (hst : starEach [e] X.env = (false, eval e X.env) :: starEach [] X.env := by rfl) : PMk X (.Call (.Name x p) [e] [] pos) (tMkO C (spIni C f) [] (tCons te tNil)) := by
  obtain ⟨fI, fd, iC, tI, F, hb⟩ := D.ini
  exact pmk_oex D.oex iC tI F (hr.mono h2) hb .nil pass0 hg D.gC (pa_cons (hs := hst) he pa_nil) hdb hst (by rfl)
/-- what is made: an exception whose dict holds the field, all else as it was -/
theorem mkx_in {C : Addr} {f : Str} {v : V} {H1 : Hp} {Q : XK} (h : ∀ (d : Addr) (H2 : Hp), H1 d = none → Same H1 H2 → H2 d = some (.xd [(f, v)]) → Q (.ref C) (some d) H2) :
    [v].length ≤ 1000 ∧ ∀ a, H1 a = none → spIni C f (.ref a :: ([v] ++ [])) (upd H1 a (exo a C none))
      (fun u H2 => u = .non ∧ ∃ (d : Addr) (fs : List (Str × V)), H2 a = some (exo a C (some d)) ∧ H2 d = some (exd d fs) ∧ H1 d = none ∧ Q (.ref C) (some d) (upd (del H2 a) d (.xd fs))) (fun _ _ _ => False) := by
  refine ⟨by show 1 ≤ 1000; decide, fun a na => ⟨a, v, rfl, upd_same, fun dx ndx hne => ⟨rfl, dx, [(f, v)], upd_same, (upd_ne hne).trans upd_same, ?_, ?_⟩⟩⟩
  · rw [upd_ne hne] at ndx
    exact ndx
  · have nd : H1 dx = none := by
      rw [upd_ne hne] at ndx
      exact ndx
    refine h dx _ nd (fun b o e => ?_) upd_same
    have b1 := ne_of_none e na
    have b2 := ne_of_none e nd
    rw [upd_ne b2, del_ne b1, upd_ne b1, upd_ne b2, upd_ne b1]
    exact e
end My
namespace My
open PySem PySem.Spec PyProof.Rows L2
/-! ### dict comprehensions whose keys are tuples -/
/-- key, value, the dict, the heap: what is asked so that the pair may be put in -/
abbrev TPut := V → V → Addr → Hp → (Hp → Prop) → Prop
def putT : TPut := fun y z D G N => ∃ (kvs : List (List Key × V)) (ks : List Key) (b : Addr), y = .ref b ∧ G D = some (.dT kvs) ∧ G b = some (.tup (ks.map kV)) ∧ kvs.length < sizeLine ∧ N (upd G D (.dT (putK kvs ks z)))
theorem put_in {Y : Cx} {ps : List (Addr × Obj)} {τ : L2.St} {G : Hp} {sh : Shared} {EE : Value → Shared → Prop} {D : Addr} {y z : V} {uy uz : Value} {N : Hp → Prop} {QQ : Unit → Shared → Prop} (room : Y.A.units < cLine)
    (inv : Inv Y ps τ G sh) (ry : RelV y uy) (rz : RelV z uz) (wish : putT y z D G N) (go : ∀ sh' G', Inv Y ps τ G' sh' → N G' → QQ () sh') : wpAny (model Y.prog Y.w) Y.A (dictSet D uy uz) QQ EE sh := by
  obtain ⟨kvs, ks, b, rfl, eD, eb, few, n⟩ := wish
  obtain rfl : uy = Value.ref b := ry
  obtain ⟨_, nosys, xs, same, dd⟩ := dt_of inv.hok eD
  have lx : xs.length ≤ sizeLine := by
    have := Paired.length same
    omega
  have lp := length_putK kvs ks z
  refine wpAny_dictSet_heap (hsz := lx) room (key_of inv.hok eb) dd fun hp' stands but => go _ _ ?_ n
  obtain ⟨ob, ents, ep, g1, g2, g3, g4, _, g5⟩ := stands
  have lay : KT (upd G D (.dT (putK kvs ks z))) (putK kvs ks z) (storedH xs ks b uz) := (same.put ks eb rz).keeps fun c ys ec => by
    rw [upd_ne (ne_of ec eD (fun q => nomatch q))]
    exact ec
  exact d_write inv (by rw [eD]; exact True.intro) but ⟨ob, g1⟩ ⟨by omega, nosys, _, lay, ob, ents, ep, g1, g2, g3, g4, g5⟩
/-- {k: v for target in iter if ..}, the keys tuples: D the new dict -/
def tDcT (wi : TI) (g : TG) (tt : TT) (tk tv : TE) (vs : List Nat) : TE := fun σ G Q => wi σ G fun J G1 => ∀ D, G1 D = none → ∃ W : Nat → Nat → Hp → Prop, (∃ m, W 0 m (upd G1 D (.dT []))) ∧ ∀ i m G2, W i m G2 →
  (J.stop i G2 ∧ Q (.ref D) G2) ∨ (J.go i G2 ∧ ∃ N : Hp → Prop, (∀ G', N G' → ∃ m', m' < m ∧ W (i + 1) m' G') ∧ ∀ x G', J.yld i G2 x G' → g x (wipe σ vs) G' fun τ G3 => wipe τ vs = wipe σ vs ∧ tt τ G3 fun b G4 =>
    if b = true then tk τ G4 fun y G5 => tv τ G5 fun z G6 => putT y z D G6 N else N G4)
section
variable {X : Cx}
theorem dcT_core {pins : List (Addr × Obj)} {s : Shared} {σ : L2.St} {H : Hp} {Q : VK} {kx vx tg src : Expr} {ifs : List Expr} {sc : Scope} {own : List (Str × Nat)} {pos at_ : Pos} {wi : TI} {g : TG} {tt : TT} {tk tv : TE} {use : Option (Value → Sem Unit)} {Qf : Value → Shared → Prop}
    (calm : X.calm = true) (room : X.A.units < cLine) (nd : X.N.Nodup) (I : Inv X pins σ H s) (walks : PI X tg src wi) (blk : BlkOk X.N X.env.scope sc own)
    (hg : ∀ (z : Shared) (G : Hp) (C : Addr) (cl : List (Str × Addr)) (fp : List Addr), PG (X.blk z G sc (compEnvC sc cl C X.env) fp) tg g) (ht : ∀ (z : Shared) (G : Hp) (C : Addr) (cl : List (Str × Addr)) (fp : List Addr), PTs (X.blk z G sc (compEnvC sc cl C X.env) fp) ifs tt)
    (hk : ∀ (z : Shared) (G : Hp) (C : Addr) (cl : List (Str × Addr)) (fp : List Addr), PE (X.blk z G sc (compEnvC sc cl C X.env) fp) kx tk) (hv : ∀ (z : Shared) (G : Hp) (C : Addr) (cl : List (Str × Addr)) (fp : List Addr), PE (X.blk z G sc (compEnvC sc cl C X.env) fp) vx tv)
    (plain : ∀ x, foldedSetIterable src X.env x = pure x) (h : tDcT wi g tt tk tv (own.map (·.2)) σ H Q)
    (back : ∀ D C z m G, Inv X pins σ G z → Q (.ref D) G → z.heap.Ns C m → FpOk X pins G C → compPost (model X.prog X.w) X.A X.xe use Qf (.ref D) C (.ok .next) z) :
    wpAny (model X.prog X.w) X.A (comprehension (.DictComp kx vx [⟨tg, src, ifs, 0⟩] sc pos) sc X.env at_ newDict false (eval src X.env) use) Qf X.xe s := by
  have clo : ∀ y ∈ sc.names, y.2 = .free → ∃ c, X.env.cells.lookup y.1 = some c := fun y hy e => (blk.free y hy e).elim (fun k => I.ok.has _ (.inl k)) fun k => I.ok.has _ (.inr k)
  refine wpAny_comprehension_free (use := use) rfl plain (closure_ok clo) blk.kind (fun y hy e => by rw [blk.uniq y hy, e]) (thn (walks.run pins s σ H _ I h) fun xv sa ha => thn ha fun itv sb hb => ?_)
  obtain ⟨it, fp, tn, J, Hb, rfl, Ib, T, tb, fb, ask⟩ := hb
  refine wpAny_newObj_type (newEnv_comp ?_)
  have youngD : Hb sb.heap.objs.size = none := Ib.hok.fresh (Nat.le_refl _)
  obtain ⟨W, ⟨m0, w0⟩, turn⟩ := ask sb.heap.objs.size youngD
  generalize eD : sb.heap.objs.size = D at youngD w0 turn
  obtain ⟨sc0, esc0⟩ : ∃ z : Shared, z = { sb with heap := sb.heap.push { cls := .type "dict", data := .dict #[] } } := ⟨_, rfl⟩
  have hpc : sc0.heap = sb.heap.push { cls := .type "dict", data := .dict #[] } := congrArg Shared.heap esc0
  have older : ∀ b o, sb.heap.get? b = some o → sc0.heap.get? b = some o := fun b o e => hpc ▸ Heap.get?_push_of_some _ e
  obtain ⟨Hc, eHc⟩ : ∃ G : Hp, G = upd Hb D (.dT []) := ⟨_, rfl⟩
  have Ic : Inv X pins σ Hc sc0 := by
    subst esc0 eHc eD
    exact Ib.laid (t' := sb.toks) (fun b o e => Heap.get?_push_of_some _ e) (Nat.le_refl _) (dt_empty sb.heap Ib.big)
  have inside : ∀ b ∈ fp, b < sb.heap.objs.size := fun b hb => (T.obj _ _ tb b hb).elim fun o q => Heap.lt_size q.1
  have okc : ∀ b ∈ fp, FpOk X pins Hc b ∧ b < sc0.heap.objs.size := fun b hb => by
    have lt := inside b hb
    have nb : b ≠ D := eD ▸ Nat.ne_of_lt lt
    exact ⟨⟨by rw [eHc, upd_ne nb]; exact (fb b hb).1, (fb b hb).2⟩, by rw [hpc, Heap.size_push]; exact Nat.lt_succ_of_lt lt⟩
  have tc : tn 0 sc0.heap := T.keep _ _ _ tb fun b _ o e => older b o e
  have Id := block_start Ic blk nd okc
  rw [← eHc] at w0
  obtain ⟨cl, ecl⟩ : ∃ c, c = cellsFrom (sc0.heap.objs.size + 1) sc.names (cloFrom X.env.cells sc.names []) := ⟨_, rfl⟩
  rw [← ecl] at Id
  obtain ⟨ce, ece⟩ : ∃ c, c = compEnvC sc cl sc0.heap.objs.size X.env := ⟨_, rfl⟩
  have g0 := hg sc0 Hc sc0.heap.objs.size cl fp
  have t0 := ht sc0 Hc sc0.heap.objs.size cl fp
  have k0 := hk sc0 Hc sc0.heap.objs.size cl fp
  have v0 := hv sc0 Hc sc0.heap.objs.size cl fp
  rw [← ece] at Id g0 t0 k0 v0
  have locs : ce.locals = sc0.heap.objs.size := by rw [ece]; rfl
  obtain ⟨sd, esd⟩ : ∃ z : Shared, z = { sc0 with heap := pushCells (sc0.heap.push { cls := .type "dict", data := .dict #[] }) sc.names } := ⟨_, rfl⟩
  rw [← esd] at Id
  have td : tn 0 sd.heap := T.keep _ _ _ tc fun b _ o e => by rw [esd]; exact pushCells_keeps _ _ _ _ (Heap.get?_push_of_some _ e)
  have noFp : ∀ b ∈ fp, Hc b = none := fun b hb => (okc b hb).1.1
  have still : ∀ {τ : L2.St} {G : Hp} {z : Shared}, Inv (X.blk sc0 Hc sc ce fp) [] τ G z → (∀ b ∈ fp, G b = none) → ∀ b ∈ fp, FpOk (X.blk sc0 Hc sc ce fp) [] G b := fun {τ G z} J0 no b hb =>
    ⟨no b hb, (J0.ok.exf b hb).1, J0.ok.exfs b hb, .inl hb, fun x c e => (J0.ok.exf b hb).2 x c e, fun p hp => absurd (show p ∈ ([] : List (Addr × Obj)) ++ [] from hp) (by simp)⟩
  suffices loop : codeAny (model X.prog X.w) X.A (.compLoop (.DictComp kx vx [⟨tg, src, ifs, 0⟩] sc pos) 0 (.ref it) (.ref D) ce) (compPost (model X.prog X.w) X.A X.xe use Qf (.ref D) sc0.heap.objs.size) sd by
    have fin := codeAny_compStart_dict loop (T.self X.A 0 _ _ _ td loop)
    subst ece ecl esd eHc esc0 eD
    exact fin
  refine compLoop_anyD (fun n z => ∃ i G, Inv (X.blk sc0 Hc sc ce fp) [] (wipe σ (own.map (·.2))) G z ∧ tn i z.heap ∧ (∀ b ∈ fp, G b = none) ∧ W i n G) ?_ m0 ⟨0, Hc, Id, td, noFp, w0⟩
  rintro n z1 ⟨i, G1, I1, t1, n1, w1⟩
  rcases turn i n G1 w1 with ⟨stop, over⟩ | ⟨goes, N, dec, step⟩
  · refine thnF (T.done (X.blk sc0 Hc sc ce fp) rfl rfl rfl calm i [] z1 _ G1 (fun _ _ => False) I1 (still I1 n1) t1 stop) fun r z2 ⟨er, I2⟩ => ?_
    subst er
    have Iz : Inv X pins σ G1 z2 := Ic.call' (ch := fp) I2.os I2.base I2.hok I2.bare fun b hb => ⟨(okc b hb).1.2.2.2.1, (okc b hb).1.2.1, (okc b hb).1.2.2.2.2.1, (okc b hb).1.2.2.2.2.2⟩
    have noC : G1 sc0.heap.objs.size = none := locs ▸ (show G1 ce.locals = none from I2.free)
    obtain ⟨m, hns, _⟩ := I2.loc
    exact back D sc0.heap.objs.size z2 m G1 Iz over (locs ▸ (show z2.heap.Ns ce.locals m from hns)) (Ic.fpOk (Nat.le_refl _) noC)
  · refine thnF (T.item (X.blk sc0 Hc sc ce fp) rfl rfl rfl calm i [] z1 _ G1 (fun _ _ => False) I1 (still I1 n1) t1 goes) fun r z2 ⟨u, er, h2⟩ => ?_
    subst er
    refine thnF h2 fun _ z3 ⟨x, G3, I3, r3, y3, t3, n3⟩ => ?_
    have I3p := I3.pinned (still I3 n3) (T.obj _ _ t3)
    refine thnF (g0.run _ z3 _ G3 x u _ I3p r3 (step x G3 y3)) fun _ z4 ⟨τ, G4, I4, wp, h4⟩ => ?_
    refine thnF (t0.run _ z4 τ G4 _ I4 h4) fun b z5 ⟨G5, I5, h5⟩ => ?_
    have next : ∀ {z : Shared} {G : Hp}, Inv (X.blk sc0 Hc sc ce fp) ([] ++ pinsAt fp z3.heap) τ G z → N G → ∃ m, m < n ∧ ∃ j G', Inv (X.blk sc0 Hc sc ce fp) [] (wipe σ (own.map (·.2))) G' z ∧ tn j z.heap ∧ (∀ b ∈ fp, G' b = none) ∧ W j m G' := fun {z G} J0 nx => by
      obtain ⟨m', lt, w2⟩ := dec G nx
      have held : ∀ b ∈ fp, ∀ o, z3.heap.get? b = some o → z.heap.get? b = some o ∧ G b = none := fun b hb o e => by
        have q := J0.pin (b, o) (List.mem_append_right _ (List.mem_append_right _ (mem_pinsAt hb e)))
        exact ⟨q.1, q.2.1⟩
      refine ⟨m', lt, i + 1, G, (J0.unpinned (pins := [])).weak (by rw [← wp, wipe_length]) (fun j v e => (wipe_some (wp.symm ▸ e)).1), T.keep _ _ _ t3 fun b hb o e => (held b hb o e).1, fun b hb => ?_, w2⟩
      obtain ⟨o, e, _⟩ := T.obj _ _ t3 b hb
      exact (held b hb o e).2
    have h5 : if b = true then (tk τ G5 fun y G6 => tv τ G6 fun z G7 => putT y z D G7 N) else N G5 := h5
    by_cases yes : b = true
    · subst yes
      rw [if_pos rfl] at h5 ⊢
      refine thnF (k0.run _ z5 τ G5 _ I5 h5) fun uk z6 ⟨yk, G6, I6, r6, h6⟩ => ?_
      refine thnF (v0.run _ z6 τ G6 _ I6 h6) fun uv z7 ⟨yv, G7, I7, r7, h7⟩ => ?_
      exact put_in (Y := X.blk sc0 Hc sc ce fp) room I7 r6 r7 h7 fun z8 G8 I8 nx => next I8 nx
    · rw [if_neg yes] at h5 ⊢
      exact next I5 h5
theorem pe_dcT {kx vx tg src : Expr} {ifs : List Expr} {sc : Scope} {own : List (Str × Nat)} {pos : Pos} {wi : TI} {g : TG} {tt : TT} {tk tv : TE} (calm : X.calm = true) (room : X.A.units < cLine) (nd : X.N.Nodup) (walks : PI X tg src wi) (blk : BlkOk X.N X.env.scope sc own)
    (hg : ∀ (z : Shared) (G : Hp) (C : Addr) (cl : List (Str × Addr)) (fp : List Addr), PG (X.blk z G sc (compEnvC sc cl C X.env) fp) tg g) (ht : ∀ (z : Shared) (G : Hp) (C : Addr) (cl : List (Str × Addr)) (fp : List Addr), PTs (X.blk z G sc (compEnvC sc cl C X.env) fp) ifs tt)
    (hk : ∀ (z : Shared) (G : Hp) (C : Addr) (cl : List (Str × Addr)) (fp : List Addr), PE (X.blk z G sc (compEnvC sc cl C X.env) fp) kx tk) (hv : ∀ (z : Shared) (G : Hp) (C : Addr) (cl : List (Str × Addr)) (fp : List Addr), PE (X.blk z G sc (compEnvC sc cl C X.env) fp) vx tv)
    (plain : ∀ x, foldedSetIterable src X.env x = pure x := by intro _; rfl) : PE X (.DictComp kx vx [⟨tg, src, ifs, 0⟩] sc pos) (tDcT wi g tt tk tv (own.map (·.2))) := by
  refine ⟨fun pins s σ H Q I h => ?_⟩
  rw [arm_eval_DictComp]
  refine dcT_core calm room nd I walks blk hg ht hk hv plain h fun D C z m G J0 q ns fp => ⟨m, ns, fun hp gone => ?_⟩
  exact ⟨.ref D, G, J0.turned (t' := z.toks) (fun b o hb e => (gone.2 b hb).trans e) fp.1 fp.2.1 fp.2.2.2.1 fp.2.2.2.2.1 fp.2.2.2.2.2, rfl, q⟩
end
end My
namespace My
open PySem PySem.Spec PyProof.Rows L2
section
variable {J : It} {n : Nat} {G : Hp → Prop} {Y : Nat → Hp → V → Hp → Prop}
/-- over a walk, no test: P by the turn and the heap -/
theorem dcT_it (w : Walk J n G Y) {g : TG} {tk tv : TE} {vs : List Nat} {σ : L2.St} {H1 : Hp} {D : Addr} {Qd : Hp → Prop} (P : Nat → Hp → Prop) (h0 : P 0 (upd H1 D (.dT []))) (hG : ∀ i H, i ≤ n → P i H → G H)
    (turn : ∀ i x H H', i < n → P i H → Y i H x H' → g x (wipe σ vs) H' fun τ H2 => wipe τ vs = wipe σ vs ∧ tk τ H2 fun y H3 => tv τ H3 fun z H4 => putT y z D H4 (P (i + 1))) (hd : ∀ H, P n H → Qd H) :
    ∃ W : Nat → Nat → Hp → Prop, (∃ m, W 0 m (upd H1 D (.dT []))) ∧ ∀ i m G2, W i m G2 →
      (J.stop i G2 ∧ Qd G2) ∨ (J.go i G2 ∧ ∃ N : Hp → Prop, (∀ G', N G' → ∃ m', m' < m ∧ W (i + 1) m' G') ∧ ∀ x G', J.yld i G2 x G' → g x (wipe σ vs) G' fun τ G3 => wipe τ vs = wipe σ vs ∧ tYes τ G3 fun b G4 =>
        if b = true then tk τ G4 fun y G5 => tv τ G5 fun z G6 => putT y z D G6 N else N G4) := by
  refine ⟨fun i m H => i ≤ n ∧ m = n - i ∧ P i H, ⟨n, Nat.zero_le _, rfl, h0⟩, ?_⟩
  rintro i m H ⟨hi, rfl, p⟩
  rcases Nat.lt_or_ge i n with lt | ge
  · refine .inr ⟨w.goes i H lt (hG i H hi p), P (i + 1), fun H' q => ⟨n - (i + 1), by omega, lt, rfl, q⟩, fun x H' y => ?_⟩
    exact turn i x H H' lt p (w.yields i H x H' lt (hG i H hi p) y)
  · obtain rfl : i = n := by omega
    exact .inl ⟨w.stops H (hG i H hi p), hd H p⟩
end
end My
namespace My
open PySem PySem.Spec PyProof.Rows L2
section
variable {J J1 : It} {n n1 : Nat} {G G1 : Hp → Prop} {Y Y1 : Nat → Hp → V → Hp → Prop}
/-- the outer walk of a comprehension with two for, no test at the outer one -/
theorem lc2_it (w : Walk J n G Y) {g g1 : TG} {tt1 : TT} {te : TE} {wi1 : TI} {vs vs1 : List Nat} {σ : L2.St} {H1 : Hp} {D : Addr} {Qd : Hp → Prop} (P : Nat → Hp → Prop) (h0 : P 0 (upd H1 D (.lst []))) (hG : ∀ i H, i ≤ n → P i H → G H)
    (turn : ∀ i x H H', i < n → P i H → Y i H x H' → g x (wipe σ vs) H' fun τ H2 => wipe τ vs = wipe σ vs ∧ wi1 τ H2 fun J1 H3 => ∃ W1 : Nat → Nat → Hp → Prop, (∃ m, W1 0 m H3) ∧ ∀ j k H, W1 j k H →
      (J1.stop j H ∧ P (i + 1) H) ∨ (J1.go j H ∧ ∃ N1 : Hp → Prop, (∀ H', N1 H' → ∃ k', k' < k ∧ W1 (j + 1) k' H') ∧ ∀ x H', J1.yld j H x H' → g1 x (wipe τ vs1) H' fun τ3 H5 => wipe τ3 vs1 = wipe τ vs1 ∧ tt1 τ3 H5 fun b H6 =>
        if b = true then te τ3 H6 fun y H7 => ∃ acc, H7 D = some (.lst acc) ∧ acc.length < sizeLine ∧ N1 (upd H7 D (.lst (acc ++ [y]))) else N1 H6)) (hd : ∀ H, P n H → Qd H) :
    ∃ W : Nat → Nat → Hp → Prop, (∃ m, W 0 m (upd H1 D (.lst []))) ∧ ∀ i m G2, W i m G2 →
      (J.stop i G2 ∧ Qd G2) ∨ (J.go i G2 ∧ ∃ N : Hp → Prop, (∀ G', N G' → ∃ m', m' < m ∧ W (i + 1) m' G') ∧ ∀ x G', J.yld i G2 x G' → g x (wipe σ vs) G' fun τ G3 => wipe τ vs = wipe σ vs ∧ tYes τ G3 fun b G4 =>
        if b = true then wi1 τ G4 fun J1 H4 => ∃ W1 : Nat → Nat → Hp → Prop, (∃ m, W1 0 m H4) ∧ ∀ j k H, W1 j k H →
          (J1.stop j H ∧ N H) ∨ (J1.go j H ∧ ∃ N1 : Hp → Prop, (∀ H', N1 H' → ∃ k', k' < k ∧ W1 (j + 1) k' H') ∧ ∀ x H', J1.yld j H x H' → g1 x (wipe τ vs1) H' fun τ3 H5 => wipe τ3 vs1 = wipe τ vs1 ∧ tt1 τ3 H5 fun b H6 =>
            if b = true then te τ3 H6 fun y H7 => ∃ acc, H7 D = some (.lst acc) ∧ acc.length < sizeLine ∧ N1 (upd H7 D (.lst (acc ++ [y]))) else N1 H6)
        else N G4) := by
  refine ⟨fun i m H => i ≤ n ∧ m = n - i ∧ P i H, ⟨n, Nat.zero_le _, rfl, h0⟩, ?_⟩
  rintro i m H ⟨hi, rfl, p⟩
  rcases Nat.lt_or_ge i n with lt | ge
  · refine .inr ⟨w.goes i H lt (hG i H hi p), P (i + 1), fun H' q => ⟨n - (i + 1), by omega, lt, rfl, q⟩, fun x H' y => ?_⟩
    exact turn i x H H' lt p (w.yields i H x H' lt (hG i H hi p) y)
  · obtain rfl : i = n := by omega
    exact .inl ⟨w.stops H (hG i H hi p), hd H p⟩
/-- the inner walk, no test -/
theorem lc2_in (w : Walk J1 n1 G1 Y1) {g1 : TG} {te : TE} {vs1 : List Nat} {τ : L2.St} {H3 : Hp} {D : Addr} {Nx : Hp → Prop} (P : Nat → Hp → Prop) (h0 : P 0 H3) (hG : ∀ j H, j ≤ n1 → P j H → G1 H)
    (turn : ∀ j x H H', j < n1 → P j H → Y1 j H x H' → g1 x (wipe τ vs1) H' fun τ3 H5 => wipe τ3 vs1 = wipe τ vs1 ∧ te τ3 H5 fun y H7 => ∃ acc, H7 D = some (.lst acc) ∧ acc.length < sizeLine ∧ P (j + 1) (upd H7 D (.lst (acc ++ [y])))) (hd : ∀ H, P n1 H → Nx H) :
    ∃ W1 : Nat → Nat → Hp → Prop, (∃ m, W1 0 m H3) ∧ ∀ j k H, W1 j k H →
      (J1.stop j H ∧ Nx H) ∨ (J1.go j H ∧ ∃ N1 : Hp → Prop, (∀ H', N1 H' → ∃ k', k' < k ∧ W1 (j + 1) k' H') ∧ ∀ x H', J1.yld j H x H' → g1 x (wipe τ vs1) H' fun τ3 H5 => wipe τ3 vs1 = wipe τ vs1 ∧ tYes τ3 H5 fun b H6 =>
        if b = true then te τ3 H6 fun y H7 => ∃ acc, H7 D = some (.lst acc) ∧ acc.length < sizeLine ∧ N1 (upd H7 D (.lst (acc ++ [y]))) else N1 H6) := by
  refine ⟨fun j k H => j ≤ n1 ∧ k = n1 - j ∧ P j H, ⟨n1, Nat.zero_le _, rfl, h0⟩, ?_⟩
  rintro j k H ⟨hj, rfl, p⟩
  rcases Nat.lt_or_ge j n1 with lt | ge
  · refine .inr ⟨w.goes j H lt (hG j H hj p), P (j + 1), fun H' q => ⟨n1 - (j + 1), by omega, lt, rfl, q⟩, fun x H' y => ?_⟩
    exact turn j x H H' lt p (w.yields j H x H' lt (hG j H hj p) y)
  · obtain rfl : j = n1 := by omega
    exact .inl ⟨w.stops H (hG j H hj p), hd H p⟩
end
end My
namespace My
open PySem PySem.Spec PyProof.Rows L2
/-- a list walked within a comprehension: the written part told -/
theorem pi_listC {X : Cx} {K : PySem.W.Frag} {e tg : Expr} {te : TE} (hK : X.K = K) (h : PE X e te) : PI X tg e (iList K te) := by
  subst hK
  exact pi_list h
end My
namespace My
open PySem PySem.Spec PyProof.Rows L2
/-! ### several except clauses, each with a name or without -/
/-- an exception that stands in the heap h of the def that looks at it -/
structure Lnd (X : Cx) (pins : List (Addr × Obj)) (z : Shared) (a : Addr) (cls : Value) (d : Option Addr) (σ : L2.St) (H : Hp) : Prop where
  ex : ∃ (B : Heap) (y : Shared), Inv X pins σ H y ∧ (∀ b o, y.heap.get? b = some o → b ∉ frs X.stack → B.get? b = some o) ∧ y.heap.UpToSlots z.heap ∧
    HandSPX.FlyingZ B (X.env :: X.outer) a (Zc cls d) z.heap ∧ z.os = y.os ∧ AllBare z.gens
  no : H a = none
section
variable {X : Cx} {pins : List (Addr × Obj)} {z : Shared} {a : Addr} {cls : Value} {d : Option Addr} {σ : L2.St} {H : Hp}
theorem Lnd.inv (l : Lnd X pins z a cls d σ H) : Inv X pins σ H z := by
  obtain ⟨B, y, I, keeps, grown, f, o, g⟩ := l.ex
  exact I.landed keeps f.1 grown o g
/-- the object itself -/
theorem Lnd.obj (l : Lnd X pins z a cls d σ H) : ∃ (oe : Obj) (vs : Array Value), z.heap.get? a = some oe ∧ Zc cls d oe ∧ oe.data = .fields vs := by
  obtain ⟨B, y, I, keeps, grown, f, o, g⟩ := l.ex
  obtain ⟨oe, vs, h1, h2, h3⟩ := f.there
  exact ⟨oe, vs, h1, h2, h3⟩
/-- it is no frame -/
theorem Lnd.nofr (l : Lnd X pins z a cls d σ H) : a ∉ frs (X.env :: X.outer) := fun m => by
  obtain ⟨B, y, I, keeps, grown, f, o, g⟩ := l.ex
  obtain ⟨oe, vs, h1, h2, h3⟩ := f.there
  obtain ⟨e0, o2, h4, h5⟩ := f.2.2.1.mem m
  have : oe = o2 := Option.some.inj (h1.symm.trans h4)
  exact h5 vs (this ▸ h3)
theorem Lnd.suite (hf : X.env.frame = some X.env.locals) (l : Lnd X pins z a cls d σ H) {oe : Obj} {vs : Array Value} (h1 : z.heap.get? a = some oe) (h3 : oe.data = .fields vs) : Inv (X.suite a ((a, oe) :: (X.pn ++ pins))) [] σ H z := by
  refine l.inv.suite h1 h3 l.no (fun e => l.nofr ?_) (fun m => l.nofr ?_)
  · exact List.mem_filterMap.mpr ⟨_, List.mem_cons_self, hf.trans (congrArg some e.symm)⟩
  · obtain ⟨e, me, q⟩ := List.mem_filterMap.mp m
    exact List.mem_filterMap.mpr ⟨e, List.mem_cons_of_mem _ me, q⟩
/-- how the clauses hds deal with it -/
def Hnd (X : Cx) (hds : List ExceptHandler) (w : Ends → WX) : Prop := ∀ (pins : List (Addr × Obj)) (z : Shared) (a : Addr) (cls : Value) (d : Option Addr) (σ : L2.St) (H : Hp) (D : Ends), Lnd X pins z a cls d σ H → w D cls d σ H →
  wpAny (model X.prog X.w) X.A (handleBy (.ref a) X.env hds) (SP X pins D) X.xe z
theorem hnd_nil {Wout : WX} (hs : X.stack = X.env :: X.outer) (hf : X.env.frame = some X.env.locals) (tk : Takes X Wout) : Hnd X [] (fun _ => Wout) := by
  intro pins z a cls d σ H D l hw
  refine wpAny_handleBy_nil ?_
  obtain ⟨B, y, I, keeps, grown, f, o, g⟩ := l.ex
  obtain ⟨q1, q2, q3, oe, vs, T, oT, ts, q4, q5, q6, q7, q8⟩ := id f
  unfold PySem.passOn
  refine wpAny_bind (wpAny_field q4 q6 q7 ?_)
  rw [if_neg (by simp : ¬ ((Value.ref T == Value.none) = true))]
  have out : wpAny (model X.prog X.w) X.A (setFlight (.ref a) X.env.frame) (fun _ s4 => wpAny (model X.prog X.w) X.A (throw (.ref a) : Sem Flow) (SP X pins D) X.xe s4) X.xe z := by
    rw [hf]
    refine HandSPX.setFlight_upZ f fun h4 held up4 => wpAny_throw (tk _ _ ⟨a, B, y, pins, σ, H, cls, d, rfl, I, keeps, grown.trans up4, .inr (.inr (hs ▸ held)), l.no, o, g, hw⟩)
  first
    | exact wpAny_bind (wpAny_pure (wpAny_bind out))
    | exact wpAny_bind out
theorem Lnd.names {x : Str} {c : Value} {np : Pos} (hf : X.env.frame = some X.env.locals) (l : Lnd X pins z a cls d σ H) (hc : Names X x c) {Q E : Value → Shared → Prop} (q : Q c z) :
    wpAny (model X.prog X.w) (X.A.mark (some (.ref a))) (eval (.Name x np) X.env) Q E z := by
  obtain ⟨oe, vs, h1, h2, h3⟩ := l.obj
  have S := l.suite hf h1 h3
  rcases hc with ⟨hg, nd, hm | ⟨hm, hv, hn⟩⟩
  · exact ld_glob (X := X.suite a _) S hg hm q nd
  · exact ld_blt (X := X.suite a _) S hg hm hv q hn nd
theorem Lnd.test {c : Value} {b : Bool} (l : Lnd X pins z a cls d σ H) (h : PySem.W.exmOne X.K cls c = some b) {Q : Bool → Shared → Prop} {E : Value → Shared → Prop} (q : Q b z) :
    wpAny (model X.prog X.w) (X.A.mark (some (.ref a))) (excMatches (.ref a) c) Q E z := by
  obtain ⟨oe, vs, h1, h2, h3⟩ := l.obj
  exact (PySem.W.exm_one (M := model X.prog X.w) l.inv.kIn (fun _ _ _ _ k q => wpAny_typeOf_ref (k _ _ h1) (h2.1.symm ▸ q)) h).here q
/-- the flight set to none: the exception stands as before -/
theorem Lnd.again (l : Lnd X pins z a cls d σ H) {M : Model} {A : Around} {E : Value → Shared → Prop} {Q : Unit → Shared → Prop} (q : ∀ z', Lnd X pins z' a cls d σ H → Q () z') : wpAny M A (setFlight (.ref a) none) Q E z := by
  obtain ⟨B, y, I, keeps, grown, f, o, g⟩ := l.ex
  exact HandSPX.lands_againZ f fun h4 f4 up4 => q _ ⟨⟨B, y, I, keeps, grown.trans up4, f4, o, g⟩, l.no⟩
section
variable {x n : Str} {c : Value} {i : Nat} {b₀ : Stmt} {su : List Stmt} {np pos : Pos} {hds : List ExceptHandler} {w : Ends → WX} {ts : Addr → Value → Option Addr → TS}
/-- what a clause without a name wishes -/
def wOne (K : PySem.W.Frag) (c : Value) (ts : Addr → Value → Option Addr → TS) (w : Ends → WX) : Ends → WX := fun D cls d σ H =>
  ∃ b, PySem.W.exmOne K cls c = some b ∧ (b = true → ∀ a, H a = none → ts a cls d D σ H) ∧ (b = false → w D cls d σ H)
/-- the ends behind a suite whose name i goes -/
def Ends.go (D : Ends) (i : Nat) : Ends := ⟨fun σ' H' => D.nx (σ'.set i none) H', D.rt, fun σ' H' => D.bk (σ'.set i none) H', fun σ' H' => D.ct (σ'.set i none) H'⟩
/-- .. a clause with a name, whose place is i -/
def wNam (K : PySem.W.Frag) (c : Value) (i : Nat) (ts : Addr → Value → Option Addr → TS) (w : Ends → WX) : Ends → WX := fun D cls d σ H =>
  ∃ b, PySem.W.exmOne K cls c = some b ∧ (b = true → ∀ a, H a = none → ts a cls d (Ends.go D i) (σ.set i (some (.ref a))) H) ∧ (b = false → w D cls d σ H)
theorem hnd_one (hf : X.env.frame = some X.env.locals) (hc : Names X x c)
    (hsu : ∀ (a : Addr) (oe : Obj) (cls : Value) (d : Option Addr) (pn : List (Addr × Obj)), Zc cls d oe → (∃ vs, oe.data = .fields vs) → PSs (X.suite a ((a, oe) :: pn)) (b₀ :: su) (ts a cls d)) (r : Hnd X hds w) :
    Hnd X (.ExceptHandler (some (.Name x np)) none (b₀ :: su) pos :: hds) (wOne X.K c ts w) := by
  rintro pins z a cls d σ H D l ⟨b, hb, yes, no⟩
  have ok := l.inv.ok
  refine wpAny_handleBy_cons (codeAny_handlers_test (l.names hf hc (l.test hb ?_))) (fun q => nomatch q)
  cases b with
  | false => exact r pins z a cls d σ H D l (no rfl)
  | true =>
    refine codeAny_handlers_suite (l.again fun z2 l2 => ?_)
    obtain ⟨oe, vs, h1, h2, h3⟩ := l2.obj
    refine wpAny_mono ((hsu a oe cls d (X.pn ++ pins) h2 ⟨vs, h3⟩).run [] z2 σ H D (l2.suite hf h1 h3) (yes rfl a l2.no)) (fun f y hy => ?_) (fun _ _ e => e.elim)
    match f, hy with
    | .next, ⟨_, _, J, q⟩ => exact ⟨_, _, J.unsuite ok, q⟩
    | .brk, ⟨_, _, J, q⟩ => exact ⟨_, _, J.unsuite ok, q⟩
    | .cont, ⟨_, _, J, q⟩ => exact ⟨_, _, J.unsuite ok, q⟩
    | .ret u, ⟨_, _, _, J, rv, q⟩ => exact ⟨_, _, _, J.unsuite ok, rv, q⟩
theorem hnd_nam (hf : X.env.frame = some X.env.locals) (hN : X.N.Nodup) (hi : X.N[i]? = some n) (hln : X.env.kindOf n = some .local) (hc : Names X x c)
    (hsu : ∀ (a : Addr) (oe : Obj) (cls : Value) (d : Option Addr) (pn : List (Addr × Obj)), Zc cls d oe → (∃ vs, oe.data = .fields vs) → PSs (X.suite a ((a, oe) :: pn)) (b₀ :: su) (ts a cls d)) (r : Hnd X hds w) :
    Hnd X (.ExceptHandler (some (.Name x np)) (some n) (b₀ :: su) pos :: hds) (wNam X.K c i ts w) := by
  rintro pins z a cls d σ H D l ⟨b, hb, yes, no⟩
  have ok := l.inv.ok
  refine wpAny_handleBy_cons (codeAny_handlers_test (l.names hf hc (l.test hb ?_))) (fun q => nomatch q)
  cases b with
  | false => exact r pins z a cls d σ H D l (no rfl)
  | true =>
    refine codeAny_handlers_suite_as (l.again fun z2 l2 => ?_)
    obtain ⟨oe, vs, h1, h2, h3⟩ := l2.obj
    refine store_ok (X := X.suite a _) (v := .ref a) (l2.suite hf h1 h3) hN hi (Or.inl hln) rfl (fun z3 I3 => ?_) (Or.inr hln)
    refine wpAny_mono ((hsu a oe cls d (X.pn ++ pins) h2 ⟨vs, h3⟩).run [] z3 _ H _ I3 (yes rfl a l2.no)) (fun f y hy => ?_) (fun _ _ e => e.elim)
    match f, hy with
    | .next, ⟨_, _, J, q⟩ => exact gone_ok (J.unsuite ok) hN hi hln fun _ J2 => ⟨_, _, J2, q⟩
    | .brk, ⟨_, _, J, q⟩ => exact gone_ok (J.unsuite ok) hN hi hln fun _ J2 => ⟨_, _, J2, q⟩
    | .cont, ⟨_, _, J, q⟩ => exact gone_ok (J.unsuite ok) hN hi hln fun _ J2 => ⟨_, _, J2, q⟩
    | .ret u, ⟨_, _, _, J, rv, q⟩ => exact gone_ok (J.unsuite ok) hN hi hln fun _ J2 => ⟨_, _, _, J2, rv, q⟩
/-- try with such clauses -/
theorem ps_tryN {body : List Stmt} {h₀ : ExceptHandler} {tb : WX → TS} (hs : X.stack = X.env :: X.outer) (hf : X.env.frame = some X.env.locals)
    (hb : ∀ (W : WX) (pn : List (Addr × Obj)) (xe : Value → Shared → Prop), Takes (X.tr pn xe) W → PassesOwn (model X.prog X.w) X.A X.env xe → PSs (X.tr pn xe) body (tb W)) (hh : Hnd X (h₀ :: hds) w) :
    PS X (.Try body (h₀ :: hds) [] [] pos) (fun D σ H => tb (w D) D σ H) := by
  refine ⟨fun pins s σ H D I h => wpAny_Try_except ?_⟩
  have ok := I.ok
  have back : ∀ {pn' : List (Addr × Obj)} {xe : Value → Shared → Prop} {σ' : L2.St} {H' : Hp} {y : Shared}, Inv (X.tr (X.pn ++ pins) xe) pn' σ' H' y → Inv X pins σ' H' y := fun J => J.ofTry ok
  have run := (hb (w D) (X.pn ++ pins) (fun e z => wpAny (model X.prog X.w) X.A (noteFrame e X.env) (fun _ z2 => wpAny (model X.prog X.w) X.A (setFlight e none) (fun _ z3 => wpAny (model X.prog X.w) X.A (handleBy e X.env (h₀ :: hds)) (SP X pins D) X.xe z3) X.xe z2) X.xe z) ?_ PassesOwn.looking).run [] s σ H D (I.toTry _) h
  · refine wpAny_mono run (fun f y hy => ?_) (fun _ _ e => e)
    match f, hy with
    | .next, ⟨_, _, J, q⟩ => exact wpAny_execs_nil ⟨_, _, back J, q⟩
    | .brk, ⟨_, _, J, q⟩ => exact ⟨_, _, back J, q⟩
    | .cont, ⟨_, _, J, q⟩ => exact ⟨_, _, back J, q⟩
    | .ret u, ⟨_, _, _, J, rv, q⟩ => exact ⟨_, _, _, back J, rv, q⟩
  · rintro u z ⟨a, B, y, pins2, σ', H', cls, d, rfl, J, keeps, grown, sky, na, o, g, hw⟩
    have frs_eq : X.A.frames = some (X.env :: X.outer) := hs ▸ ok.frames
    refine Sky.land Zc.steady frs_eq hf (hs ▸ sky) fun h3 f3 up3 => ?_
    exact hh pins { z with heap := h3 } a cls d σ' H' D ⟨⟨B, y, back J, keeps, grown.trans up3, f3, o, g⟩, na⟩ hw
end
end
end My
/-! GD1: defs that show data (repr): nothing is being shown around them. -/
namespace GdX
open PySem PySem.Spec PyProof.Rows L2
/-- a promise, kept where no repr is under way -/
structure FnG (P : Program) (w : World) (K : PySem.W.Frag) (mg : Str → Option Value) (base : Heap) (CX : CXT) (k : Nat) (f : Addr) (fd : FuncData) (ps : List Str) (sp : Sp) : Prop where
  many : ∀ xs J Q E, sp xs J Q E → xs.length = ps.length
  go : ∀ (B : Around) (up : List Env) (t : Shared) (J : Hp) (ar : Args) (ys : List Value) (xs : List V) (Q : VK) (E : XK), B.guards = some [] → Room k B → Env0 P w K mg base B up t J → BindsTo t fd ar (ps.zip ys) → Vals xs ys → sp xs J Q E → codeAny (model P w) B (.call (.ref f) ar) (CR CX up P w J t Q E) t
section
variable {P : Program} {w : World} {K : PySem.W.Frag} {mg : Str → Option Value} {base : Heap}
theorem fnG_of {CX : CXT} {k : Nat} {f : Addr} {nm ql : Str} {pr : Arguments} {bd : List Stmt} {sc : Scope} {dV kV dc pm cdv ct oc : Value} {an od : Option Addr} {sl : Array (Option Value)} {N ps : List Str} {sp : Sp}
    (lk : K.lookup f = some ⟨oc, od, .func (PySem.W.fnOf nm ql pr bd sc dV kV dc pm an cdv ct), sl⟩) (hc : PySem.W.codeIn K cdv ql = true) (S : FnScope N ps sc) (many : ∀ xs J Q E, sp xs J Q E → xs.length = ps.length)
    (hb : ∀ (B : Around) (up : List Env) (t : Shared) (J : Hp) (xs : List V) (Q : VK) (E : XK), B.guards = some [] → Room k (B.deeper (envOfC ql sc t.heap.objs.size f cdv)) → sp xs J Q E →
      ∃ r, PSs (cxOf CX P w K mg base N ql sc f cdv B up t J E) bd r ∧ r { nx := fun _ J' => Q .non J', rt := Q } (L2.start N xs) J) : FnG P w K mg base CX (k + 1) f (PySem.W.fnOf nm ql pr bd sc dV kV dc pm an cdv ct) ps sp := by
  constructor
  · exact many
  intro B up t J ar ys xs Q E hgd hrm en hbd hv hs
  have hm := many _ _ _ _ hs
  have kIn : K.In t.heap := en.mod.kin.keeps fun b o e => (en.bs b o e).1
  have noL : t.heap.NoLimit := en.mod.nolimit.keeps fun b o e => (en.bs b o e).1
  have kinds : ∀ y ∈ ps.zip ys, sc.names.lookup y.1 = some .local ∨ (sc.names.lookup y.1 = some .cell ∧ ((cellsFrom (t.heap.objs.size + 1) sc.names []).lookup y.1).isSome = true) := by
    rintro ⟨n, v⟩ hy
    exact (S.par n (List.of_mem_zip hy).1).imp id fun q => ⟨q, PySem.W.cellsFrom_some _ _ _ (.inl q)⟩
  refine codeAny_call_function hrm.depth (kIn _ _ lk) rfl S.co S.gen rfl (PySem.W.codeRec_of kIn hc) (hbd _ _ _ _ ?_)
  refine wpAny_newFunctionEnv_cells S.kind kinds ?_
  intro env he t1 x
  subst he
  refine ⟨noL.keeps x.toInCall.keep, codeAny_func ?_⟩
  obtain ⟨r, pr, hq⟩ := hb B up t J xs Q E hgd (hrm.deeper _) hs
  have st : Inv (cxOf CX P w K mg base N ql sc f cdv B up t J E) [] (L2.start N xs) J t1 := inv_start S hrm.hd en hm hv x
  refine wpAny_mono (pr.run [] t1 (L2.start N xs) J _ st hq) ?_ (fun _ _ z => z)
  intro fl t2 hf
  match fl, hf with
  | .ret u, ⟨v, σ', J', I', rv, q⟩ => exact ⟨v, J', I'.os, I'.bare, I'.base, I'.hok, rv, q⟩
  | .next, ⟨σ', J', I', q⟩ => exact ⟨V.non, J', I'.os, I'.bare, I'.base, I'.hok, rfl, q⟩
  | .brk, ⟨_, _, _, q⟩ => exact q.elim
  | .cont, ⟨_, _, _, q⟩ => exact q.elim
/-- the def as the text has it -/
theorem funG {x ql : Str} {st : Stmt} {f : Addr} {fd : FuncData} {N ps : List Str} {k : Nat} {sp : Sp} (F : L2.Fun K x ql st f fd) (S : FnScope N ps (L2.defScope st)) (many : ∀ xs J Q E, sp xs J Q E → xs.length = ps.length)
    (hb : ∀ (cdv : Value) (B : Around) (up : List Env) (t : Shared) (J : Hp) (xs : List V) (Q : VK) (E : XK), B.guards = some [] → Room k (B.deeper (envOfC ql (L2.defScope st) t.heap.objs.size f cdv)) → sp xs J Q E →
      ∃ r, PSs (cxOf L2.CX0 P w K mg base N ql (L2.defScope st) f cdv B up t J E).nox (L2.defBody st) r ∧ r { nx := fun _ J' => Q .non J', rt := Q } (L2.start N xs) J) : FnG P w K mg base L2.CX0 (k + 1) f fd ps sp := by
  obtain ⟨oc, od, kV, dc, pm, an, cdv, ct, sl, e, lk, hc⟩ := F.ex
  rw [e] at lk ⊢
  exact fnG_of lk hc S many fun B up t J xs Q E g r h => (hb cdv B up t J xs Q E g r h).imp fun _ z => ⟨z.1.nox, z.2⟩
end
/-! ### the call -/
section
variable {X : Cx} {CX : CXT} {k j : Nat} {f : Addr} {fd : FuncData} {ps : List Str} {sp : Sp} {E : XK} {x : Str} {p pos : Pos} {e : Expr} {es : List Expr} {t : TA}
theorem runG {pins : List (Addr × Obj)} {σ : L2.St} {J : Hp} {s : Shared} {Q : VK} {ys : List Value} {xs : List V} (F : FnG X.prog X.w X.K X.mg X.base CX k f fd ps sp) (hgd : X.A.guards = some []) (hr : Room k X.A) (hb : Binds X.K fd ps []) (hx : Passes CX X E)
    (I : Inv X pins σ J s) (r : Vals xs ys) (h : sp xs J Q E) : wpAny (model X.prog X.w) X.A (call (.ref f) ys) (EP X pins σ Q) X.xe s := by
  have hn : (ys ++ []).length = ps.length := by rw [List.append_nil, ← r.length]; exact F.many _ _ _ _ h
  have hb' := hb s ys I.kIn hn
  rw [List.append_nil] at hb'
  refine wpAny_call (codeAny_mono (F.go X.A X.stack s J ⟨ys, []⟩ ys xs Q E hgd hr I.env0 hb' r h) ?_)
  intro a s' hq
  match a, hq with
  | .error z, hq => exact hx pins σ J s z s' I hq
  | .ok (.ret u), hq => exact I.after hq
/-- f(e, ..) -/
theorem pe_cG (F : FnG X.prog X.w X.K X.mg X.base CX k f fd ps sp) (hgd : X.A.guards = some []) (hr : Room j X.A) (hk : k ≤ j) (hg : Gl X x) (hm : X.mg x = some (.ref f)) (kp : PySem.W.keepIn X.K (.ref f) = true) (hb : Binds X.K fd ps []) (hx : Passes CX X E) (ha : PA X (e :: es) t)
    (hdb : (x == ("__debug__" : Str)) = false := by decide) (he : starEach (e :: es) X.env = (false, eval e X.env) :: starEach es X.env := by rfl) (hpl : (backTo pos (starEach es X.env)).any (·.1) = false := by rfl) : PE X (.Call (.Name x p) (e :: es) [] pos) (tCall sp [] E t) := by
  constructor
  intro pins s σ J Q I h
  apply wpAny_Call_Name_kw
  apply ld_glob I hg hm ?_ hdb
  apply PySem.W.callWith_K (h₀ := X.base) I.ok.mod.kin kp ?_ he hpl
  apply thn (ha.run pos pins s σ J _ I h)
  rintro ys s1 ⟨xs, J1, I1, r, q⟩
  exact ⟨I1.kIn, runG F hgd (hr.mono hk) hb hx I1 r (by rw [List.append_nil] at q; exact q)⟩
end
/-! ### the head of a law -/
def topH (K : PySem.W.Frag) (a : Addr) (lo : Obj) (ns : List Int) (ts : List Addr) : Hp := fun b => if b = a then (if K.lookup a = none then some (.frz lo (.lst (ns.map V.int))) else none) else if b ∈ ts then some (.tbl #[]) else none
theorem topH_cases (K : PySem.W.Frag) (a : Addr) (lo : Obj) (ns : List Int) (ts : List Addr) (b : Addr) :
    topH K a lo ns ts b = none ∨ (b = a ∧ K.lookup a = none ∧ topH K a lo ns ts b = some (.frz lo (.lst (ns.map V.int)))) ∨ (b ≠ a ∧ b ∈ ts ∧ topH K a lo ns ts b = some (.tbl #[])) := by
  unfold topH
  by_cases h1 : b = a
  · rw [if_pos h1]
    by_cases h2 : K.lookup a = none
    · rw [if_pos h2]; exact .inr (.inl ⟨h1, h2, rfl⟩)
    · rw [if_neg h2]; exact .inl rfl
  · rw [if_neg h1]
    by_cases h3 : b ∈ ts
    · rw [if_pos h3]; exact .inr (.inr ⟨h1, h3, rfl⟩)
    · rw [if_neg h3]; exact .inl rfl
theorem law_callG {P : Program} {w : World} {K : PySem.W.Frag} {mg mb : Str → Option Value} {CX : CXT} {k : Nat} {fa a : Addr} {cs : List (Addr × Addr)} {fd : FuncData} {x : Str} {sp : Sp} {t : Shared} {vs : List Value} {ns : List Int}
    (kIn : K.In t.heap) (hg : t.heap.Ns mainGlobals mg) (hbn : t.heap.Ns builtinsNs mb) (hbb : ∀ x : Str, x ≠ "__name__" → mb x = bootBuiltins x) (noL : t.heap.NoLimit) (gen0 : t.gens = #[])
    (tab : ∀ p ∈ cs, t.heap.get? p.2 = some { cls := .none, data := .fields #[] }) (own : ∀ p ∈ cs, K.lookup p.2 = none) (cod : ∀ p ∈ cs, PySem.W.CodeHd t.heap p.1 p.2)
    (hbm : ∃ (bm : Addr) (ob : Obj), mg "__builtins__" = some (.ref bm) ∧ bm ≠ builtinsNs ∧ t.heap.get? bm = some ob ∧ ob.cls = .type "module" ∧ ob.dict = some builtinsNs ∧ ob.data = .plain)
    (hl : t.heap.get? a = some { cls := .type "list", data := .seq vs.toArray }) (hi : IntsAre vs ns) (hz : ns.length ≤ sizeLine) (hr : Room k callerA)
    (F : ∀ base : Heap, K.In base → base.Ns mainGlobals mg → (∀ p ∈ cs, LamX.TabB base mg p.1 p.2) → FnG P w K mg base CX k fa fd [x] sp) (hbd : ∀ (s : Shared) (u : Value), BindsTo s fd ⟨[u], []⟩ [(x, u)])
    (hsp : ∀ H : Hp, (∀ p ∈ cs, H p.2 = some (.tbl #[])) → SqL K H a (ns.map V.int) → sp [.ref a] H (fun v _ => v = .bl true) fun _ _ _ => False)
    (hCX : ∀ H e s', CX [] H t (fun _ _ _ => False) e s' → False) :
    codeAny (model P w) callerA (.call (.ref fa) ⟨[.ref a], []⟩) (fun r s' => r = .ok (.ret (.bool true)) ∧ OldK t.heap s'.heap ∧ s'.os = t.os ∧ AllBare s'.gens) t := by
  have rv := vals_ints hi
  have hlen : vs.length = ns.length := hi.length
  obtain ⟨ts, ets⟩ : ∃ ts : List Addr, ts = cs.map (·.2) := ⟨_, rfl⟩
  have inT : ∀ p ∈ cs, p.2 ∈ ts := fun p hp => by rw [ets]; exact List.mem_map_of_mem hp
  have ofT : ∀ b ∈ ts, ∃ p ∈ cs, p.2 = b := fun b hb => by rw [ets] at hb; simpa using hb
  have tabT : ∀ b ∈ ts, t.heap.get? b = some { cls := .none, data := .fields #[] } := fun b hb => by
    obtain ⟨p, hp, rfl⟩ := ofT b hb
    exact tab p hp
  have an : a ∉ ts := fun hb => by
    have z := tabT a hb
    rw [hl] at z
    have z := congrArg Obj.data (Option.some.inj z)
    cases (show Data.seq vs.toArray _ = Data.fields #[] from z)
  obtain ⟨H, eH⟩ : ∃ H, H = topH K a { cls := .type "list", data := .seq vs.toArray } ns ts := ⟨_, rfl⟩
  have cases3 := fun b => topH_cases K a { cls := .type "list", data := .seq vs.toArray } ns ts b
  rw [← eH] at cases3
  have hT : ∀ p ∈ cs, H p.2 = some (.tbl #[]) := fun p hp => by
    have hne : p.2 ≠ a := fun z => an (z ▸ inT p hp)
    rw [eH]
    unfold topH
    rw [if_neg hne, if_pos (inT p hp)]
  have hS : SqL K H a (ns.map V.int) := by
    by_cases q : K.lookup a = none
    · refine .inl (.inr ⟨{ cls := .type "list", data := .seq vs.toArray }, ?_⟩)
      rw [eH]
      unfold topH
      rw [if_pos rfl, if_pos q]
    · obtain ⟨o, ho⟩ := Option.ne_none_iff_exists'.mp q
      have z := kIn a o ho
      rw [hl] at z
      cases z
      exact .inr ⟨_, vs.toArray, _, ho, rfl, rfl, rfl, by rw [List.size_toArray, hlen]; exact hz, by simpa using rv⟩
  have hok : HOk P w H t.heap := fun b u z => by
    rcases cases3 b with q | ⟨rfl, _, q⟩ | ⟨_, hb, q⟩
    · rw [q] at z; cases z
    · rw [q] at z; cases z
      exact ⟨hl, by rw [List.length_map]; exact hz, vs, _, rv, hl⟩
    · rw [q] at z; cases z
      exact tabT b hb
  have off : ∀ {b : Addr} {o : Obj}, t.heap.get? b = some o → (∀ xs n, o.data ≠ .seq xs n) → o.data ≠ .fields #[] → H b = none := fun {b o} e h1 h2 => by
    rcases cases3 b with q | ⟨rfl, _, _⟩ | ⟨_, hb, _⟩
    · exact q
    · rw [hl] at e; cases e; exact (h1 _ _ rfl).elim
    · rw [tabT b hb] at e; cases e; exact (h2 rfl).elim
  have seen : ∀ {b : Addr} {o : Obj}, t.heap.get? b = some o → (∀ xs n, o.data ≠ .seq xs n) → o.data ≠ .fields #[] → (hidT t.heap H).get? b = some o := fun e h1 h2 => hidT_get e (off e h1 h2)
  have nsOf : ∀ {b : Addr} {m : Str → Option Value}, t.heap.Ns b m → (hidT t.heap H).Ns b m := by
    rintro b m ⟨o, es, ep, e, hd, r⟩
    exact ⟨o, es, ep, seen e (fun _ _ z => by rw [hd] at z; cases z) (fun z => by rw [hd] at z; cases z), hd, r⟩
  have kHid : K.In (hidT t.heap H) := fun b o ho => by
    have e := kIn b o ho
    rcases cases3 b with q | ⟨rfl, q, _⟩ | ⟨_, hb, _⟩
    · exact hidT_get e q
    · rw [q] at ho; cases ho
    · obtain ⟨p, hp, rfl⟩ := ofT b hb
      rw [own p hp] at ho; cases ho
  have md : L2.Mod K mg (hidT t.heap H) := ⟨kHid, nsOf hg, ⟨mb, nsOf hbn, hbb⟩, noL.elim fun mc z => ⟨mc, nsOf z.1, z.2⟩⟩
  have gNot : ∀ b, t.heap.get? b = some { cls := .none, data := .fields #[] } → mainGlobals ≠ b := fun b z q => by
    obtain ⟨o, es, ep, e, hd, _⟩ := hg
    rw [q, z] at e
    cases e
    cases hd
  have TB : ∀ p ∈ cs, LamX.TabB (hidT t.heap H) mg p.1 p.2 := fun p hp => by
    obtain ⟨o, us, fl, tf, flags, tg, inF, tx, tt, e1, r1, r2, r3, rest⟩ := cod p hp
    obtain ⟨bm, ob, b1, b2, b3, b4, b5, b6⟩ := hbm
    refine ⟨⟨o, us, fl, tf, flags, tg, inF, tx, tt, seen e1 (fun _ _ z => ?_) (fun z => ?_), r1, r2, r3, rest⟩, ⟨bm, ob, b1, b2, fun q => ?_, fun q => ?_, seen b3 (fun _ _ z => ?_) (fun z => ?_), b4, b5, b6⟩, gNot _ (tab p hp)⟩
    · rw [r2] at z; cases z
    · rw [r2] at z; cases z; simp at r3
    · obtain ⟨o', es, ep, e, hd, _⟩ := hg
      rw [← q, b3] at e
      cases e
      rw [b6] at hd
      cases hd
    · rw [q, tab p hp] at b3
      cases b3
      cases b6
    · rw [b6] at z; cases z
    · rw [b6] at z; cases z
  have en : Env0 P w K mg (hidT t.heap H) callerA [] t H := ⟨rfl, md, fun b o e => of_hidT e, Nat.le_of_eq (hidT_size _ _), trivial, fun b hb => (List.not_mem_nil hb).elim, hok, .of_eq gen0⟩
  refine codeAny_mono ((F _ kHid (nsOf hg) TB).go callerA [] t H ⟨[.ref a], []⟩ [.ref a] [.ref a] _ _ rfl hr en (hbd t (.ref a)) (.cons rfl .nil) (hsp H hT hS)) ?_
  intro r t' hq
  match r, hq with
  | .error e, hq => exact (hCX H e t' hq).elim
  | .ok (.ret u), ⟨v, H', os, bare, un, hok', r', q⟩ =>
    have q : v = .bl true := q
    subst q
    obtain rfl : u = Value.bool true := r'
    have keep : ∀ b o, b ∉ ts → t.heap.get? b = some o → t'.heap.get? b = some o := fun b o nb e => by
      rcases cases3 b with z | ⟨_, _, z⟩ | ⟨_, z, _⟩
      · exact un.keep b o e z (fun y => by cases y) (fun y => by cases y)
      · obtain ⟨e1, _⟩ := hok b _ z
        obtain ⟨e2, _⟩ := hok' b _ (un.frzs b _ _ z)
        rw [e] at e1
        cases e1
        exact e2
      · exact (nb z).elim
    have more : ∀ p ∈ cs, ∃ m : Array Value, t'.heap.get? p.2 = some { cls := .none, data := .fields m } := fun p hp => by
      obtain ⟨m, z⟩ := un.tbls p.2 #[] (hT p hp)
      exact ⟨_, hok' p.2 _ z⟩
    refine ⟨rfl, ⟨fun b o e => ?_, fun b o e => ?_⟩, os, bare⟩
    · by_cases hb : b ∈ ts
      · obtain ⟨p, hp, rfl⟩ := ofT b hb
        obtain ⟨m, hm⟩ := more p hp
        rw [tab p hp] at e
        cases e
        exact .inr (.inl ⟨((cod p hp).tab (tab p hp)).isCodeTable, rfl, #[], m, rfl, by rw [Array.empty_append]; exact hm⟩)
      · exact .inl (keep b o hb e)
    · by_cases hb : b ∈ ts
      · obtain ⟨p, hp, rfl⟩ := ofT b hb
        obtain ⟨m, hm⟩ := more p hp
        exact ⟨_, hm⟩
      · exact ⟨o, keep b o hb e⟩
/-- what is known of the law's promise where the head has run -/
def LawG (l : PySem.W.OpenLaw) (w : World) (K : PySem.W.Frag) (CX : CXT) (k n : Nat) (x : Str) (mg : Str → Option Value) (fa : Addr) (h : Heap) : Prop :=
  ∃ (fd : FuncData) (cs : List (Addr × Addr)) (sp : Sp), (∀ p ∈ cs, h.get? p.2 = some { cls := .none, data := .fields #[] }) ∧ (∀ p ∈ cs, K.lookup p.2 = none) ∧ (∀ p ∈ cs, PySem.W.CodeHd h p.1 p.2) ∧ (∀ (s : Shared) (u : Value), BindsTo s fd ⟨[u], []⟩ [(x, u)]) ∧
    (∀ (J : Hp) (a : Addr) (ns : List Int), ns.length ≤ n → (∀ z ∈ ns, Builtin.Int.intBits z ≤ 1048576) → (∀ p ∈ cs, J p.2 = some (.tbl #[])) → SqL K J a (ns.map V.int) → sp [.ref a] J (fun v _ => v = .bl true) fun _ _ _ => False) ∧
    ∀ base : Heap, K.In base → base.Ns mainGlobals mg → (∀ p ∈ cs, LamX.TabB base mg p.1 p.2) → FnG l.prog w K mg base CX k fa fd [x] sp
theorem walk_ofG {l : PySem.W.OpenLaw} {n k : Nat} {q : Program} {loose : List Str} {XP : (Str → Option Value) → Heap → Prop} {YP : World → Heap → Prop} {d : DefRec} {K : Params → PySem.W.Frag} {CX : World → CXT} {x : Str}
    (hn : l.most = some n) (hz : n ≤ sizeLine) (hdf : d.params.defaults = []) (hr : Room k callerA) (hY : ∀ (w : World) (h : Heap), YP w h → (K w.params).In h)
    (F : ∀ (w : World) (mg : Str → Option Value) (fa : Addr) (h : Heap), YP w h → (K w.params).In h → h.Ns mainGlobals mg → mg d.name = some (.ref fa) → LawG l w (K w.params) (CX w) k n x mg fa h)
    (hCX : ∀ (w : World) (J : Hp) (s : Shared) (e : Value) (s' : Shared), CX w [] J s (fun _ _ _ => False) e s' → False) :
    PySem.W.WalkO q loose XP YP l.row.toRowW d [] (fun f vs => PySem.call f vs) := by
  apply Att.attach_callB hn hdf
  intro w s0 t mg mb fa o pm cd dc a vs ns G Y _ _ _ hmg hob hin hle hbt hgn
  have kIn := hY w _ Y
  obtain ⟨fd, cs, sp, h1, h2, h3, h4, h5, h6⟩ := F w mg fa _ Y kIn G.T.g hmg
  exact law_callG kIn G.T.g G.T.b G.T.builtins G.T.nolimit hgn h1 h2 h3 G.T.bmain hob hin (Nat.le_trans hle hz) hr h6 h4 (fun J hJ hS => h5 J a ns hle hbt hJ hS) fun J e s' => hCX w J t e s'
end GdX
namespace GdX
open PySem PySem.Spec PyProof.Rows L2
/-- repr(d), d data without dicts -/
def rShow (K : PySem.W.Frag) : List V → Hp → VK → Prop := fun vs H Q => ∃ (a : Addr) (d : PyData), vs = [V.ref a] ∧ Dp K H (.ref a) d ∧ d.showable = true ∧ d.hasDict = false ∧ d.depth ≤ 20 ∧ d.shown.length ≤ sizeLine ∧ Q (.str d.shown) H
theorem cr_show {X : Cx} (hgd : X.A.guards = some []) (hu : X.A.units + 64 < cLine) : CallR X (.builtin "repr") (rShow X.K) := by
  intro pins s σ H vs us Q I r h
  obtain ⟨a, d, rfl, hd, h1, h2, h3, h4, q⟩ := h
  obtain ⟨as, z⟩ := Dp.reads I d _ _ hd (show RelV (.ref a) (.ref a) from rfl)
  rw [Vals.ref1 r]
  refine repr_of_reads' z h1 (PyData.noDict_hsm h2) hgd (by omega) (fun _ _ e => e) (fun h' u tk hk => ?_) h4
  exact ⟨.str _, H, I.kept hk, ⟨_, rfl⟩, q⟩
end GdX
namespace My
open PySem PySem.Spec PyProof.Rows L2
local macro_rules | `(tactic| walk_at "sq") => `(tactic| first | assumption | exact .inl (.inl (by assumption)) | exact .inl (.inl upd_same))
local macro_rules | `(tactic| walk_at "st") => `(tactic| first
  | refine ⟨_, rfl, ?_⟩
  | refine ⟨_, _, rfl, rfl, ?_⟩
  | refine ⟨cmull (by omega) (by omega), ?_⟩
  | refine ⟨cmulr (by omega) (by omega), ?_⟩
  | refine ⟨cdivw (by omega) (by omega), ?_⟩
  | refine ⟨(⟨by decide, by decide⟩ : CDiv _ _), ?_⟩
  | refine ⟨(show (0 : Int) < _ by omega), ?_⟩
  | refine ⟨(show (0 : Int) ≤ _ by omega), ?_⟩
  | refine ⟨(⟨by decide, by decide, by decide⟩ : CPow _ _), ?_⟩
  | refine ⟨(⟨by omega, by omega, by omega⟩ : CPow _ _), ?_⟩
  | refine .inl ⟨_, rfl, ?_⟩
  | refine .inr ⟨_, rfl, ?_⟩
  | refine ⟨_, _, _, _, _, rfl, .ty _, .base (.int _), kit_ii, ?_⟩
  | refine ⟨_, _, _, _, _, rfl, .ty _, .base (.int _), kit_ib, ?_⟩
  | refine ⟨_, _, _, _, _, rfl, .ty _, .base (.tup (by assumption)), kit_tt, ?_⟩
  | refine ⟨_, _, _, _, _, rfl, .ty _, .base (.lst (by assumption)), kit_ll, ?_⟩
  | refine iteT ?_
  | refine iteF ?_
  | refine ⟨_, _, rfl, .inl (.inl (by first | assumption | exact upd_same)), rfl, ?_⟩
  | refine ⟨_, _, rfl, ?_⟩
  | refine ⟨cmulr (by split <;> decide) (by split <;> decide), ?_⟩
  | refine ⟨_, _, rfl, .inl (by walk_at "sq"), ?_⟩
  | refine ⟨_, _, rfl, .inr (by walk_at "sq"), ?_⟩
  | refine ⟨_, _, _, _, rfl, rfl, (by walk_at "sq"), rfl, ?_⟩
  | refine ⟨rfl, ?_⟩
  | (refine ite2 (fun hc => ?_) (fun hc => ?_) <;> (try simp only [decide_eq_true_eq, Bool.not_eq_true', decide_eq_false_iff_not, Bool.not_eq_true, Bool.not_eq_false', Bool.false_eq_true, reduceCtorEq, V.int.injEq, not_true_eq_false, not_false_eq_true] at hc) <;> (try (exfalso; omega))))
local macro_rules | `(tactic| walk_at "ev") => `(tactic| repeat' walk_at "st")
def top (i : Nat) : Stmt := PySem.Challenge.pw_narrowingbits_k10_told_letters_by_fracti.main.body.getD i (.Pass ⟨0, 0, 0, 0⟩)
abbrev s_wall : Stmt := top 0
theorem sc_wall : FnScope ["k"] ["k"] (defScope s_wall) := ⟨rfl, rfl, rfl, by decide +kernel, rfl, by decide +kernel, by decide +kernel⟩
abbrev s_is_number : Stmt := top 7
theorem sc_is_number : FnScope ["thing"] ["thing"] (defScope s_is_number) := ⟨rfl, rfl, rfl, by decide +kernel, rfl, by decide +kernel, by decide +kernel⟩
abbrev s_check_bits : Stmt := top 8
theorem sc_check_bits : FnScope ["bits", "bit"] ["bits"] (defScope s_check_bits) := ⟨rfl, rfl, rfl, by decide +kernel, rfl, by decide +kernel, by decide +kernel⟩
abbrev s_borders : Stmt := top 12
theorem sc_borders : FnScope ["width", "counts", "total", "ahead", "found", "count"] ["width", "counts"] (defScope s_borders) := ⟨rfl, rfl, rfl, by decide +kernel, rfl, by decide +kernel, by decide +kernel⟩
abbrev s_doublings_of : Stmt := top 13
theorem sc_doublings_of : FnScope ["width", "times"] ["width"] (defScope s_doublings_of) := ⟨rfl, rfl, rfl, by decide +kernel, rfl, by decide +kernel, by decide +kernel⟩
abbrev s_told_letters : Stmt := top 16
theorem sc_told_letters : FnScope ["bits", "model", "window", "letters", "letter"] ["bits", "model"] (defScope s_told_letters) := ⟨rfl, rfl, rfl, by decide +kernel, rfl, by decide +kernel, by decide +kernel⟩
abbrev s_check_rect : Stmt := top 18
theorem sc_check_rect : FnScope ["rect", "x0", "x1", "y0", "y1"] ["rect"] (defScope s_check_rect) := ⟨rfl, rfl, rfl, by decide +kernel, rfl, by decide +kernel, by decide +kernel⟩
abbrev s_cells_of : Stmt := top 19
theorem sc_cells_of : FnScope ["rect", "x0", "x1", "y0", "y1", "y", "x"] ["rect"] (defScope s_cells_of) := ⟨rfl, rfl, rfl, by decide +kernel, rfl, by decide +kernel, by decide +kernel⟩
abbrev s_neighbours_of : Stmt := top 33
theorem sc_neighbours_of : FnScope ["cells", "k", "cell", "places", "found", "x", "y", "beside"] ["cells"] (defScope s_neighbours_of) := ⟨rfl, rfl, rfl, by decide +kernel, rfl, by decide +kernel, by decide +kernel⟩
abbrev s_law_pool : Stmt := top 35
theorem sc_law_pool : FnScope ["_law_script", "_law_k", "_law_cell", "_law_big", "_law_mixed"] ["_law_script", "_law_k"] (defScope s_law_pool) := ⟨rfl, rfl, rfl, by decide +kernel, rfl, by decide +kernel, by decide +kernel⟩
abbrev s_law_take : Stmt := top 36
theorem sc_law_take : FnScope ["_law_source", "_law_most", "_law_drawn_here"] ["_law_source", "_law_most"] (defScope s_law_take) := ⟨rfl, rfl, rfl, by decide +kernel, rfl, by decide +kernel, by decide +kernel⟩
abbrev s_law_one : Stmt := top 37
theorem sc_law_one : FnScope ["_law_source", "_law_things"] ["_law_source", "_law_things"] (defScope s_law_one) := ⟨rfl, rfl, rfl, by decide +kernel, rfl, by decide +kernel, by decide +kernel⟩
abbrev s_law_bits : Stmt := top 38
theorem sc_law_bits : FnScope ["_law_source", "_law_most", "_law_turn"] ["_law_source", "_law_most"] (defScope s_law_bits) := ⟨rfl, rfl, rfl, by decide +kernel, rfl, by decide +kernel, by decide +kernel⟩
abbrev s_law_borders : Stmt := top 39
theorem sc_law_borders : FnScope ["_law_width", "_law_counts", "_law_at", "_law_ahead", "_law_one_here"] ["_law_width", "_law_counts"] (defScope s_law_borders) := ⟨rfl, rfl, rfl, by decide +kernel, rfl, by decide +kernel, by decide +kernel⟩
abbrev s_law_child : Stmt := top 40
theorem sc_law_child : FnScope ["_law_node", "_law_counts", "_law_letter", "_law_left", "_law_width", "_law_scale", "_law_borders_here"] ["_law_node", "_law_counts", "_law_letter"] (defScope s_law_child) := ⟨rfl, rfl, rfl, by decide +kernel, rfl, by decide +kernel, by decide +kernel⟩
abbrev s_law_line : Stmt := top 41
theorem sc_law_line : FnScope ["_law_source", "_law_most", "_law_x0", "_law_y0", "_law_wide", "_law_high", "_law_planes"] ["_law_source", "_law_most"] (defScope s_law_line) := ⟨rfl, rfl, rfl, by decide +kernel, rfl, by decide +kernel, by decide +kernel⟩
abbrev s_law_wants : Stmt := top 42
theorem sc_law_wants : FnScope ["_law_model"] ["_law_model"] (defScope s_law_wants) := ⟨rfl, rfl, rfl, by decide +kernel, rfl, by decide +kernel, by decide +kernel⟩
abbrev s_law_holds : Stmt := top 43
theorem sc_law_holds : FnScope ["_law_node", "_law_value", "_law_many", "_law_left", "_law_width", "_law_scale"] ["_law_node", "_law_value", "_law_many"] (defScope s_law_holds) := ⟨rfl, rfl, rfl, by decide +kernel, rfl, by decide +kernel, by decide +kernel⟩
abbrev s_law_due : Stmt := top 44
theorem sc_law_due : FnScope ["_law_bits_here", "_law_model", "_law_value", "_law_node", "_law_found", "_law_one_here", "_law_turn", "_law_counts", "_law_letter", "_law_below", "_law_held"] ["_law_bits_here", "_law_model"] (defScope s_law_due) := ⟨rfl, rfl, rfl, by decide +kernel, rfl, by decide +kernel, by decide +kernel⟩
abbrev s_law_led : Stmt := top 45
theorem sc_law_led : FnScope ["_law_source", "_law_model", "_law_node", "_law_turn", "_law_counts", "_law_letter"] ["_law_source", "_law_model"] (defScope s_law_led) := ⟨rfl, rfl, rfl, by decide +kernel, rfl, by decide +kernel, by decide +kernel⟩
abbrev s_law_drawn : Stmt := top 46
theorem sc_law_drawn : FnScope ["_law_source", "_law_model", "_law_way", "_law_left", "_law_width", "_law_scale", "_law_value", "_law_at", "_law_bits_here", "_law_last"] ["_law_source", "_law_model"] (defScope s_law_drawn) := ⟨rfl, rfl, rfl, by decide +kernel, rfl, by decide +kernel, by decide +kernel⟩
abbrev s_law_is_refused : Stmt := top 47
theorem sc_law_is_refused : FnScope ["_law_bits_here", "_law_model", "_law_before", "_law_told", "e"] ["_law_bits_here", "_law_model"] (defScope s_law_is_refused) := ⟨rfl, rfl, rfl, by decide +kernel, rfl, by decide +kernel, by decide +kernel⟩
abbrev s_law_right : Stmt := top 48
theorem sc_law_right : FnScope ["_law_source", "_law_rect", "_law_planes", "_law_models", "_law_ahead", "_law_turn", "_law_letter", "_law_model", "_law_bits_here", "_law_kept", "_law_spoilt", "_law_told", "_law_due_here"] ["_law_source"] (defScope s_law_right) := ⟨rfl, rfl, rfl, by decide +kernel, rfl, by decide +kernel, by decide +kernel⟩
abbrev s_law : Stmt := top 49
theorem sc_law : FnScope ["_law_script", "_law_k"] ["_law_script"] (defScope s_law) := ⟨rfl, rfl, rfl, by decide +kernel, rfl, by decide +kernel, by decide +kernel⟩
abbrev s_Window_init : Stmt := inClass (top 15) 0
theorem sc_Window_init : FnScope ["self", "bits"] ["self", "bits"] (defScope s_Window_init) := ⟨rfl, rfl, rfl, by decide +kernel, rfl, by decide +kernel, by decide +kernel⟩
abbrev s_Window_letter : Stmt := inClass (top 15) 1
theorem sc_Window_letter : FnScope ["self", "counts", "edges", "j"] ["self", "counts"] (defScope s_Window_letter) := ⟨rfl, rfl, rfl, by decide +kernel, rfl, by decide +kernel, by decide +kernel⟩
abbrev s_Window_double : Stmt := inClass (top 15) 2
theorem sc_Window_double : FnScope ["self", "times", "_"] ["self", "times"] (defScope s_Window_double) := ⟨rfl, rfl, rfl, by decide +kernel, rfl, by decide +kernel, by decide +kernel⟩
abbrev s_Table_init : Stmt := inClass (top 22) 0
theorem sc_Table_init : FnScope ["self", "m"] ["self", "m"] (defScope s_Table_init) := ⟨rfl, rfl, rfl, by decide +kernel, rfl, by decide +kernel, by decide +kernel⟩
abbrev s_Table_counts : Stmt := inClass (top 22) 1
theorem sc_Table_counts : FnScope ["self"] ["self"] (defScope s_Table_counts) := ⟨rfl, rfl, rfl, by decide +kernel, rfl, by decide +kernel, by decide +kernel⟩
abbrev s_Table_total : Stmt := inClass (top 22) 2
theorem sc_Table_total : FnScope ["self"] ["self"] (defScope s_Table_total) := ⟨rfl, rfl, rfl, by decide +kernel, rfl, by decide +kernel, by decide +kernel⟩
abbrev s_Table_learn : Stmt := inClass (top 22) 3
theorem sc_Table_learn : FnScope ["self", "j", "count"] ["self", "j"] (defScope s_Table_learn) := ⟨rfl, rfl, rfl, by decide +kernel, rfl, by decide +kernel, by decide +kernel⟩
abbrev s_LineModel_init : Stmt := inClass (top 32) 0
theorem sc_LineModel_init : FnScope ["self", "rect", "planes", "greatest", "_", "size"] ["self", "rect", "planes"] (defScope s_LineModel_init) := ⟨rfl, rfl, rfl, by decide +kernel, rfl, by decide +kernel, by decide +kernel⟩
abbrev s_LineModel_wanted : Stmt := inClass (top 32) 1
theorem sc_LineModel_wanted : FnScope ["self", "number", "_", "k"] ["self"] (defScope s_LineModel_wanted) := ⟨rfl, rfl, rfl, by decide +kernel, rfl, by decide +kernel, by decide +kernel⟩
abbrev s_LineModel_wanted_counts : Stmt := inClass (top 32) 2
theorem sc_LineModel_wanted_counts : FnScope ["self"] ["self"] (defScope s_LineModel_wanted_counts) := ⟨rfl, rfl, rfl, by decide +kernel, rfl, by decide +kernel, by decide +kernel⟩
abbrev s_LineModel_take : Stmt := inClass (top 32) 3
theorem sc_LineModel_take : FnScope ["self", "letter", "number", "kind", "k"] ["self", "letter"] (defScope s_LineModel_take) := ⟨rfl, rfl, rfl, by decide +kernel, rfl, by decide +kernel, by decide +kernel⟩
abbrev s_LineModel_stretches : Stmt := inClass (top 32) 4
theorem sc_LineModel_stretches : FnScope ["self"] ["self"] (defScope s_LineModel_stretches) := ⟨rfl, rfl, rfl, by decide +kernel, rfl, by decide +kernel, by decide +kernel⟩
abbrev s_LineModel_pass_number : Stmt := inClass (top 32) 5
theorem sc_LineModel_pass_number : FnScope ["self"] ["self"] (defScope s_LineModel_pass_number) := ⟨rfl, rfl, rfl, by decide +kernel, rfl, by decide +kernel, by decide +kernel⟩
abbrev s_LineModel_is_complete : Stmt := inClass (top 32) 6
theorem sc_LineModel_is_complete : FnScope ["self"] ["self"] (defScope s_LineModel_is_complete) := ⟨rfl, rfl, rfl, by decide +kernel, rfl, by decide +kernel, by decide +kernel⟩
abbrev s_LineModel_table_number : Stmt := inClass (top 32) 7
theorem sc_LineModel_table_number : FnScope ["self", "kind", "k"] ["self"] (defScope s_LineModel_table_number) := ⟨rfl, rfl, rfl, by decide +kernel, rfl, by decide +kernel, by decide +kernel⟩
abbrev s_LineModel_begin_plane : Stmt := inClass (top 32) 8
theorem sc_LineModel_begin_plane : FnScope ["self", "passes", "k", "kind"] ["self"] (defScope s_LineModel_begin_plane) := ⟨rfl, rfl, rfl, by decide +kernel, rfl, by decide +kernel, by decide +kernel⟩
abbrev s_LineModel_kind_of : Stmt := inClass (top 32) 9
theorem sc_LineModel_kind_of : FnScope ["self", "k"] ["self", "k"] (defScope s_LineModel_kind_of) := ⟨rfl, rfl, rfl, by decide +kernel, rfl, by decide +kernel, by decide +kernel⟩
abbrev s_LineModel_sharpen : Stmt := inClass (top 32) 10
theorem sc_LineModel_sharpen : FnScope ["self", "k", "letter", "low", "high", "half"] ["self", "k", "letter"] (defScope s_LineModel_sharpen) := ⟨rfl, rfl, rfl, by decide +kernel, rfl, by decide +kernel, by decide +kernel⟩
abbrev s_LineModel_tell_sign : Stmt := inClass (top 32) 11
theorem sc_LineModel_tell_sign : FnScope ["self", "k", "letter", "least", "greatest", "beside"] ["self", "k", "letter"] (defScope s_LineModel_tell_sign) := ⟨rfl, rfl, rfl, by decide +kernel, rfl, by decide +kernel, by decide +kernel⟩
section
variable {P : Program} {w : World} {K : PySem.W.Frag} {mg : Str → Option Value} {base : Heap}
structure Txt (mg : Str → Option Value) : Prop where
  z_int : mg "int" = none
  z_bool : mg "bool" = none
  z_len : mg "len" = none
  z_max : mg "max" = none
  z_min : mg "min" = none
  z_range : mg "range" = none
  z_isinstance : mg "isinstance" = none
  z_list : mg "list" = none
  z_sum : mg "sum" = none
  z_enumerate : mg "enumerate" = none
  z_repr : mg "repr" = none
theorem blk_in {N : List Str} {sc0 scope0 scope : Scope} {own : List (Str × Nat)} {cl : List (Str × Addr)} {C : Addr} {env : Env} (hs : env.scope = sc0) (h : blkC N (relS scope0 sc0) scope own = true) : BlkOk N (compEnvC scope0 cl C env).scope scope own := by
  subst hs
  exact blkOk_by h
theorem lk_here {k : Str} {v : V} {r : List (Str × V)} : List.lookup k ((k, v) :: r) = some v := by
  have e : (k == k) = true := beq_self_eq_true k
  simp only [List.lookup, e]
theorem lk_past {k g : Str} {v : V} {r : List (Str × V)} (h : (k == g) = false) : List.lookup k ((g, v) :: r) = List.lookup k r := by
  simp only [List.lookup, h]
theorem put_here {f : Str} {v x : V} {r : List (Str × V)} : putF f v ((f, x) :: r) = (f, v) :: r := if_pos rfl
/-! ### lists of objects -/
def ObjsA (N : Addr → Prop) (H : Hp) (as : List Addr) (os : List HO) : Prop := as.length = os.length ∧ ∀ (i : Nat) (b : Addr) (o : HO), as[i]? = some b → os[i]? = some o → N b ∧ H b = some o
theorem ObjsA.nil {N : Addr → Prop} {H : Hp} : ObjsA N H [] [] := ⟨rfl, fun i b r e => nomatch e⟩
theorem ObjsA.up {N M : Addr → Prop} {H H' : Hp} {as : List Addr} {os : List HO} (h : ObjsA N H as os) (u : ∀ b o, N b → H b = some o → M b ∧ H' b = some o) : ObjsA M H' as os :=
  ⟨h.1, fun i b r e1 e2 => by
    obtain ⟨n, e⟩ := h.2 i b r e1 e2
    exact u b _ n e⟩
theorem ObjsA.app {N : Addr → Prop} {H : Hp} {as : List Addr} {os : List HO} {b : Addr} {o : HO} (h : ObjsA N H as os) (n : N b) (e : H b = some o) : ObjsA N H (as ++ [b]) (os ++ [o]) := by
  refine ⟨by rw [List.length_append, List.length_append, h.1]; rfl, fun i c s e1 e2 => ?_⟩
  by_cases hi : i < as.length
  · rw [List.getElem?_append_left hi] at e1
    rw [List.getElem?_append_left (by rw [← h.1]; exact hi)] at e2
    exact h.2 i c s e1 e2
  · have hi2 : as.length ≤ i := Nat.le_of_not_lt hi
    rw [List.getElem?_append_right hi2] at e1
    rw [List.getElem?_append_right (by rw [← h.1]; exact hi2), ← h.1] at e2
    cases hk : i - as.length with
    | zero =>
      rw [hk] at e1 e2
      cases e1
      cases e2
      exact ⟨n, e⟩
    | succ k =>
      rw [hk] at e1
      cases e1
theorem ObjsA.get {N : Addr → Prop} {H : Hp} {as : List Addr} {os : List HO} (h : ObjsA N H as os) {i : Nat} {o : HO} (e : os[i]? = some o) : ∃ b, as[i]? = some b ∧ N b ∧ H b = some o := by
  have hi : i < as.length := by
    rw [h.1]
    exact (List.getElem?_eq_some_iff.mp e).1
  exact ⟨as[i], List.getElem?_eq_getElem hi, h.2 i _ o (List.getElem?_eq_getElem hi) e⟩
def Objs (N : Addr → Prop) (H : Hp) (p : Addr) (os : List HO) : Prop := N p ∧ ∃ as : List Addr, H p = some (.lst (as.map V.ref)) ∧ ObjsA N H as os
theorem Objs.up {N M : Addr → Prop} {H H' : Hp} {p : Addr} {os : List HO} (h : Objs N H p os) (u : ∀ b o, N b → H b = some o → M b ∧ H' b = some o) : Objs M H' p os := by
  obtain ⟨n, as, e, r⟩ := h
  obtain ⟨m, e'⟩ := u p _ n e
  exact ⟨m, as, e', r.up u⟩
/-! ### the cells of a rect -/
abbrev Cell := Int × Int
def tpc (c : Cell) : HO := .tup [.int c.1, .int c.2]
def rowL (x0 : Int) (w : Nat) (y : Int) : List Cell := (List.range w).map fun (i : Nat) => (x0 + (i : Int), y)
def cellsL (x0 y0 : Int) (w h : Nat) : List Cell := ((List.range h).map fun (j : Nat) => rowL x0 w (y0 + (j : Int))).flatten
theorem rowL_len (x0 : Int) (w : Nat) (y : Int) : (rowL x0 w y).length = w := by
  rw [rowL, List.length_map, List.length_range]
theorem rowL_snoc (x0 : Int) (w : Nat) (y : Int) : rowL x0 (w + 1) y = rowL x0 w y ++ [(x0 + (w : Int), y)] := by
  rw [rowL, List.range_succ, List.map_append]
  rfl
theorem cellsL_snoc (x0 y0 : Int) (w h : Nat) : cellsL x0 y0 w (h + 1) = cellsL x0 y0 w h ++ rowL x0 w (y0 + (h : Int)) := by
  rw [cellsL, List.range_succ, List.map_append, List.flatten_append]
  show _ ++ ([rowL x0 w (y0 + (h : Int))] : List (List Cell)).flatten = _
  rw [List.flatten_singleton]
  rfl
theorem cellsL_len (x0 y0 : Int) (w : Nat) : ∀ h : Nat, (cellsL x0 y0 w h).length = h * w
  | 0 => by
    rw [Nat.zero_mul]
    rfl
  | h + 1 => by rw [cellsL_snoc, List.length_append, cellsL_len x0 y0 w h, rowL_len, Nat.succ_mul]
/-- a rect that callers hand: its sides -/
structure RectW (x0 x1 y0 y1 : Int) (w h : Nat) : Prop where
  ex : x1 = x0 + (w : Int)
  ey : y1 = y0 + (h : Int)
  lx : -4000000000 ≤ x0 ∧ x0 ≤ 4000000000
  ly : -4000000000 ≤ y0 ∧ y0 ≤ 4000000000
  few : h * w ≤ 900
  mw : w ≤ 900
  mh : h ≤ 900
def spCellsOf (K : PySem.W.Frag) : Sp := fun vs H Q _ => ∃ (rp : Addr) (x0 x1 y0 y1 : Int) (w h : Nat), vs = [.ref rp] ∧ SqT K H rp [.int x0, .int x1, .int y0, .int y1] ∧ RectW x0 x1 y0 y1 w h ∧
  ∀ (q : Addr) (H' : Hp), Same H H' → Objs (fun b => H b = none) H' q ((cellsL x0 y0 w h).map tpc) → Q (.ref q) H'
theorem ok_cells_of {f : Addr} {fd : FuncData} {k : Nat} (F : Fun K "cells_of" "cells_of" s_cells_of f fd) (T : Txt mg) : FnOk P w K mg base CX0 (k + 1) f fd ["rect"] (spCellsOf K) := by
  refine F.ok sc_cells_of (fun vs H Q E h => ?_) (fun cdv A outer s H vs Q E hr h => ?_)
  · obtain ⟨rp, x0, x1, y0, y1, w, h, rfl, _⟩ := h
    rfl
  · obtain ⟨rp, x0, x1, y0, y1, w, h, rfl, hrp, ⟨rfl, rfl, ⟨lx0, lx1⟩, ⟨ly0, ly1⟩, few, mw, mh⟩, q⟩ := h
    refine ⟨_, (pss_cons (ps_asg (pv 0) (pg_tup rfl (pgs_cons (pg_name (i := 1) sc_cells_of.nd rfl (Or.inr rfl)) (pgs_cons (pg_name (i := 2) sc_cells_of.nd rfl (Or.inr rfl)) (pgs_cons (pg_name (i := 3) sc_cells_of.nd rfl (Or.inl rfl)) (pgs_cons (pg_name (i := 4) sc_cells_of.nd rfl (Or.inl rfl)) pgs_nil))))))
    (pss_one (ps_ret (pe_lc2 (own := [("y", 5), ("x", 6)]) (vs1 := [6]) (g := (gName 5)) (g1 := (gName 6)) (tt := tYes) (tt1 := tYes) rfl sc_cells_of.nd (pi_range2 (by rfl) T.z_range (pa_cons (pv 3) (pa_cons (pv 4) pa_nil))) (blkOk_by (N := ["rect", "x0", "x1", "y0", "y1", "y", "x"]) (sc := defScope s_cells_of) (by decide +kernel)) (by decide) (fun _ _ _ _ _ => pg_name (i := 5) sc_cells_of.nd rfl (by first | exact Or.inl rfl | exact Or.inr rfl)) (fun _ _ _ _ _ => pts_nil) (fun _ _ _ _ _ => (pi_range2 (by rfl) T.z_range (pa_cons (pv 1) (pa_cons (pv 2) pa_nil)))) (fun _ _ _ _ _ => pg_name (i := 6) sc_cells_of.nd rfl (by first | exact Or.inl rfl | exact Or.inr rfl)) (fun _ _ _ _ _ => pts_nil) (fun _ _ _ _ _ => (pe_tup (pa_cons (pv 6) (pa_cons (pv 5) pa_nil)))))))), ?_⟩
    walk_at "ev"
    refine ⟨rp, _, rfl, hrp, rfl, ?_⟩
    walk_at "ev"
    refine ⟨⟨by omega, by omega, by omega, by omega⟩, fun D nD => ?_⟩
    rw [show (y0 + (h : Int) - y0).toNat = h by omega]
    refine lc2_it walk_range (fun j H2 => Same H H2 ∧ ∃ as, H2 D = some (.lst (as.map V.ref)) ∧ ObjsA (fun b => H b = none ∧ b ≠ D) H2 as ((cellsL x0 y0 w j).map tpc)) ⟨same_upd nD, [], upd_same, .nil⟩ (fun _ _ _ _ => trivial) ?_ ?_
    · rintro j x H2 H3 hj ⟨s2, as, e2, hA⟩ ⟨rfl, rfl⟩
      walk_at "ev"
      refine ⟨⟨by omega, by omega, by omega, by omega⟩, ?_⟩
      rw [show (x0 + (w : Int) - x0).toNat = w by omega]
      refine lc2_in walk_range (fun i H4 => Same H H4 ∧ ∃ as, H4 D = some (.lst (as.map V.ref)) ∧ ObjsA (fun b => H b = none ∧ b ≠ D) H4 as ((cellsL x0 y0 w j ++ rowL x0 i (y0 + (j : Int))).map tpc)) ⟨s2, as, e2, by rw [show rowL x0 0 (y0 + (j : Int)) = [] from rfl, List.append_nil]; exact hA⟩ (fun _ _ _ _ => trivial) ?_ ?_
      · rintro i x H4 H5 hi ⟨s4, bs, e4, hB⟩ ⟨rfl, rfl⟩
        walk_at "ev"
        refine ⟨(by show 2 ≤ sizeLine; decide), fun t nt => ?_⟩
        have ntD : t ≠ D := fun z => by
          rw [z, e4] at nt
          cases nt
        have hl : bs.length ≤ 999 := by
          rw [hB.1, List.length_map, List.length_append, cellsL_len, rowL_len]
          have : (j + 1) * w ≤ h * w := Nat.mul_le_mul_right _ hj
          rw [Nat.succ_mul] at this
          omega
        refine ⟨_, new_at e4 nt, small1000 (by rw [List.length_map]; omega), ?_, bs ++ [t], by rw [upd_same, List.map_append]; rfl, ?_⟩
        · exact fun b o e => by
            rw [upd_ne (ne_of_none e nD), upd_ne (ne_of_none (s4 _ _ e) nt)]
            exact s4 _ _ e
        · rw [rowL_snoc, ← List.append_assoc, List.map_append]
          refine (hB.up fun b o n e => ⟨n, ?_⟩).app ⟨s4.free nt, ntD⟩ ?_
          · rw [upd_ne n.2, upd_ne (ne_of_none e nt)]
            exact e
          · rw [upd_ne ntD, upd_same]
            rfl
      · rintro H4 ⟨s4, bs, e4, hB⟩
        refine ⟨s4, bs, e4, ?_⟩
        rw [cellsL_snoc]
        exact hB
    · rintro H2 ⟨s2, as, e2, hA⟩
      exact q D H2 s2 ⟨nD, as, e2, hA.up fun b o n e => ⟨n.1, e⟩⟩
/-! ### who stands beside whom -/
def keyC (c : Cell) : List Key := [.inl c.1, .inl c.2]
theorem keyC_inj {c d : Cell} (h : keyC c = keyC d) : c = d := by
  obtain ⟨a, b⟩ := c
  obtain ⟨x, y⟩ := d
  simp only [keyC, List.cons.injEq, Sum.inl.injEq, and_true] at h
  rw [h.1, h.2]
def plcN (cs : List Cell) : Nat → List (List Key × V)
  | 0 => []
  | n + 1 => match cs[n]? with
    | some c => putK (plcN cs n) (keyC c) (.int (n : Int))
    | none => plcN cs n
/-- the place of a cell among the first n -/
def idxN (cs : List Cell) (c : Cell) : Nat → Option Nat
  | 0 => none
  | n + 1 => if cs[n]? = some c then some n else idxN cs c n
def natV (k : Nat) : V := .int (k : Int)
theorem plc_val (cs : List Cell) (c : Cell) : ∀ n, valV (plcN cs n) (keyC c) = (idxN cs c n).map natV
  | 0 => rfl
  | n + 1 => by
    have ih := plc_val cs c n
    unfold plcN idxN
    cases e : cs[n]? with
    | none =>
      rw [if_neg (by intro z; cases z)]
      exact ih
    | some d =>
      show valV (putK (plcN cs n) (keyC d) (.int (n : Int))) (keyC c) = _
      rw [valV_put]
      by_cases z : c = d
      · subst z
        rw [if_pos rfl, if_pos rfl]
        rfl
      · rw [if_neg (fun q => z (keyC_inj q)), if_neg (fun q => z (Option.some.inj q).symm)]
        exact ih
theorem plc_len (cs : List Cell) : ∀ n, (plcN cs n).length ≤ n
  | 0 => Nat.le_refl _
  | n + 1 => by
    have ih := plc_len cs n
    unfold plcN
    split
    · rename_i c _
      have := length_putK (plcN cs n) (keyC c) (.int (n : Int))
      omega
    · omega
theorem idx_lt {cs : List Cell} {c : Cell} : ∀ {n k : Nat}, idxN cs c n = some k → k < n ∧ cs[k]? = some c
  | 0, k, h => nomatch h
  | n + 1, k, h => by
    unfold idxN at h
    split at h
    · rename_i e
      obtain rfl := Option.some.inj h
      exact ⟨Nat.lt_succ_self _, e⟩
    · obtain ⟨a, b⟩ := idx_lt h
      exact ⟨Nat.lt_succ_of_lt a, b⟩
def fourC (c : Cell) : List Cell := [(c.1 - 1, c.2), (c.1 + 1, c.2), (c.1, c.2 - 1), (c.1, c.2 + 1)]
def besC (cs : List Cell) (c : Cell) : List Nat := (fourC c).filterMap fun d => idxN cs d cs.length
def natsO (ks : List Nat) : HO := .lst (ks.map natV)
theorem besC_len (cs : List Cell) (c : Cell) : (besC cs c).length ≤ 4 := List.length_filterMap_le _ _
theorem besC_lt {cs : List Cell} {c : Cell} {k : Nat} (h : k ∈ besC cs c) : k < cs.length := by
  obtain ⟨d, _, e⟩ := List.mem_filterMap.mp h
  exact (idx_lt e).1
def spNbrs : Sp := fun vs H Q _ => ∃ (p : Addr) (cs : List Cell), vs = [.ref p] ∧ Objs (fun _ => True) H p (cs.map tpc) ∧ cs.length ≤ 900 ∧
  ∀ (q : Addr) (H' : Hp), Same H H' → Objs (fun b => H b = none) H' q (cs.map fun c => natsO (besC cs c)) → Q (.ref q) H'
theorem ok_nbrs {f : Addr} {fd : FuncData} {k : Nat} (F : Fun K "_neighbours_of" "_neighbours_of" s_neighbours_of f fd) (T : Txt mg) : FnOk P w K mg base CX0 (k + 1) f fd ["cells"] spNbrs := by
  refine F.ok sc_neighbours_of (fun vs H Q E h => ?_) (fun cdv A outer s H vs Q E hr h => ?_)
  · obtain ⟨p, cs, rfl, _⟩ := h
    rfl
  · obtain ⟨p, cs, rfl, ⟨_, as, ep, hA⟩, hl, q⟩ := h
    have hu := hr.units
    have hu1 := hu_of hr
    have lal : as.length = cs.length := by rw [hA.1, List.length_map]
    refine ⟨_, (pss_cons (ps_set (i := 3) sc_neighbours_of.nd rfl (Or.inr rfl) (pe_dcT (own := [("k", 1), ("cell", 2)]) (g := (gTup K 2 (gCons (gName 1) (gCons (gName 2) gNil)))) (tt := tYes) rfl (Nat.lt_of_le_of_lt (Nat.le_add_right _ 64) hu) sc_neighbours_of.nd (pi_enum (by rfl) T.z_enumerate (pa_cons (pv 0) pa_nil)) (blkOk_by (N := ["cells", "k", "cell", "places", "found", "x", "y", "beside"]) (sc := defScope s_neighbours_of) (by decide +kernel)) (fun _ _ _ _ _ => pg_tup rfl (pgs_cons (pg_name (i := 1) sc_neighbours_of.nd rfl (by first | exact Or.inl rfl | exact Or.inr rfl)) (pgs_cons (pg_name (i := 2) sc_neighbours_of.nd rfl (by first | exact Or.inl rfl | exact Or.inr rfl)) pgs_nil))) (fun _ _ _ _ _ => pts_nil) (fun _ _ _ _ _ => (pv 2)) (fun _ _ _ _ _ => (pv 1))))
    (pss_cons (ps_set (i := 4) sc_neighbours_of.nd rfl (Or.inl rfl) (pe_lst pa_nil))
    (pss_cons (ps_for PassesOwn.never rfl (pi_list (pv 0)) (pg_tup rfl (pgs_cons (pg_name (i := 5) sc_neighbours_of.nd rfl (Or.inl rfl)) (pgs_cons (pg_name (i := 6) sc_neighbours_of.nd rfl (Or.inl rfl)) pgs_nil)))
      (pss_cons (ps_set (i := 7) sc_neighbours_of.nd rfl (Or.inl rfl) (pe_lst (pa_cons (pe_tup (pa_cons (pe_op op_sub (pv 5) pe_int) (pa_cons (pv 6) pa_nil))) (pa_cons (pe_tup (pa_cons (pe_op op_add (pv 5) pe_int) (pa_cons (pv 6) pa_nil))) (pa_cons (pe_tup (pa_cons (pv 5) (pa_cons (pe_op op_sub (pv 6) pe_int) pa_nil))) (pa_cons (pe_tup (pa_cons (pv 5) (pa_cons (pe_op op_add (pv 6) pe_int) pa_nil))) pa_nil))))))
    (pss_one (ps_expr (pe_bm PySem.F.plainAttrs_list PySem.F.slot_list_append PySem.F.type_list_append mt_append (pv 4) (pa_cons (pe_lc (own := [("cell", 2)]) (g := (gName 2)) (tt := _) rfl sc_neighbours_of.nd (pi_list (pv 7)) (blkOk_by (N := ["cells", "k", "cell", "places", "found", "x", "y", "beside"]) (sc := defScope s_neighbours_of) (by decide +kernel)) (fun _ _ _ _ _ => pg_name (i := 2) sc_neighbours_of.nd rfl (by first | exact Or.inl rfl | exact Or.inr rfl)) (fun _ _ _ _ _ => (pts_one (pt_cmp (pc_din hu1 (pv 2) (pv 3))))) (fun _ _ _ _ _ => (pe_dget hu1 (pv 3) (pv 2) (fun _ _ => rfl)))) pa_nil))))))
    (pss_one (ps_ret (pv 4)))))), ?_⟩
    walk_at "ev"
    refine ⟨p, _, rfl, .inl (.inl ep), fun D nD => ?_⟩
    refine dcT_it walk_enum (fun i H2 => Same H H2 ∧ H2 D = some (.dT (plcN cs i))) ⟨same_upd nD, upd_same⟩ (fun i H2 _ h => .inl (.inl (h.1 _ _ ep))) ?_ ?_
    · rintro i x H2 H3 hi ⟨s2, e2⟩ ⟨t, u, v, rfl, nt, rfl, e3, e4⟩
      obtain rfl := Option.some.inj e3
      rw [List.length_map] at hi
      obtain ⟨c, hc⟩ : ∃ c, cs[i]? = some c := ⟨_, List.getElem?_eq_getElem (by omega)⟩
      obtain ⟨b, hb, _, hbH⟩ := hA.get (i := i) (o := tpc c) (by rw [List.getElem?_map, hc]; rfl)
      have e4' : ((as.map V.ref)[i]?) = some v := e4
      rw [List.getElem?_map, hb] at e4'
      obtain rfl := Option.some.inj e4'
      refine ⟨t, _, rfl, .inl (.inl upd_same), rfl, ?_⟩
      walk_at "ev"
      have ntD : t ≠ D := fun z => by
        rw [z, e2] at nt
        cases nt
      have hpn : plcN cs (i + 1) = putK (plcN cs i) (keyC c) (.int (i : Int)) := by
        show (match cs[i]? with | some c => putK (plcN cs i) (keyC c) (.int (i : Int)) | none => plcN cs i) = _
        rw [hc]
      refine ⟨plcN cs i, keyC c, b, rfl, new_at e2 nt, new_at (s2 _ _ hbH) nt, small1000 (by have := plc_len cs i; omega), fun b' o e => ?_, by rw [upd_same, hpn]⟩
      rw [upd_ne (ne_of_none e nD), upd_ne (ne_of_none (s2 _ _ e) nt)]
      exact s2 _ _ e
    · rintro H2 ⟨s2, e2⟩
      rw [List.length_map, lal] at e2
      walk_at "ev"
      refine ⟨(by show 0 ≤ sizeLine; decide), fun F0 nF => ?_⟩
      have nFD : F0 ≠ D := fun z => by
        rw [z, e2] at nF
        cases nF
      walk_at "ev"
      have sF := s2.trans (same_upd (o := .lst []) nF)
      refine ⟨⟨_, .inl (.inl (sF _ _ ep))⟩, ?_⟩
      refine for_it (walk_list (xs := as.map V.ref)) (fun i σ H3 => ∃ v5 v6 v7, σ = [some (.ref p), none, none, some (.ref D), some (.ref F0), v5, v6, v7] ∧ Same H H3 ∧ H3 D = some (.dT (plcN cs cs.length)) ∧ ∃ bs, H3 F0 = some (.lst (bs.map V.ref)) ∧ ObjsA (fun b => H b = none ∧ b ≠ F0) H3 bs ((cs.take i).map fun c => natsO (besC cs c))) ⟨_, _, _, rfl, sF, new_at e2 nF, [], upd_same, .nil⟩ (fun i σ H3 _ h => ?_) ?_ ?_
      · obtain ⟨_, _, _, _, s3, _⟩ := h
        exact .inl (.inl (s3 _ _ ep))
      · rintro i x σ H3 H4 hi ⟨v5, v6, v7, rfl, s3, e3, bs, e4, hB⟩ ⟨rfl, hx⟩
        rw [List.length_map, lal] at hi
        obtain ⟨c, hc⟩ : ∃ c, cs[i]? = some c := ⟨_, List.getElem?_eq_getElem hi⟩
        obtain ⟨b, hb, _, hbH⟩ := hA.get (i := i) (o := tpc c) (by rw [List.getElem?_map, hc]; rfl)
        rw [List.getElem?_map, hb] at hx
        obtain rfl := Option.some.inj hx
        refine ⟨b, _, rfl, .inl (.inl (s3 _ _ hbH)), rfl, ?_⟩
        walk_at "ev"
        refine ⟨(by show 2 ≤ sizeLine; decide), fun t1 n1 => ?_⟩
        walk_at "ev"
        refine ⟨(by show 2 ≤ sizeLine; decide), fun t2 n2 => ?_⟩
        walk_at "ev"
        refine ⟨(by show 2 ≤ sizeLine; decide), fun t3 n3 => ?_⟩
        walk_at "ev"
        refine ⟨(by show 2 ≤ sizeLine; decide), fun t4 n4 => ?_⟩
        walk_at "ev"
        refine ⟨(by show 4 ≤ sizeLine; decide), fun B nB => ?_⟩
        have hF : ∀ {t : Addr} {G : Hp}, Same H4 G → G t = none → t ≠ F0 := fun sg n z => by
          rw [z, sg _ _ e4] at n
          cases n
        have sg1 := same_upd (o := .tup [.int (c.1 - 1), .int c.2]) n1
        have sg2 := sg1.trans (same_upd (o := .tup [.int (c.1 + 1), .int c.2]) n2)
        have sg3 := sg2.trans (same_upd (o := .tup [.int c.1, .int (c.2 - 1)]) n3)
        have sg4 := sg3.trans (same_upd (o := .tup [.int c.1, .int (c.2 + 1)]) n4)
        have hB5 : ObjsA (fun _ => True) (upd (upd (upd (upd (upd H4 t1 (.tup [.int (c.1 - 1), .int c.2])) t2 (.tup [.int (c.1 + 1), .int c.2])) t3 (.tup [.int c.1, .int (c.2 - 1)])) t4 (.tup [.int c.1, .int (c.2 + 1)])) B (.lst [.ref t1, .ref t2, .ref t3, .ref t4])) [t1, t2, t3, t4] ((fourC c).map tpc) := by
          refine ((((ObjsA.nil.app trivial ?_).app trivial ?_).app trivial ?_).app trivial ?_)
          · exact new_at (new_at (new_at (new_at upd_same n2) n3) n4) nB
          · exact new_at (new_at (new_at upd_same n3) n4) nB
          · exact new_at (new_at upd_same n4) nB
          · exact new_at upd_same nB
        have s5 := sg4.trans (same_upd (o := .lst [.ref t1, .ref t2, .ref t3, .ref t4]) nB)
        have eB : upd (upd (upd (upd (upd H4 t1 (.tup [.int (c.1 - 1), .int c.2])) t2 (.tup [.int (c.1 + 1), .int c.2])) t3 (.tup [.int c.1, .int (c.2 - 1)])) t4 (.tup [.int c.1, .int (c.2 + 1)])) B (.lst [.ref t1, .ref t2, .ref t3, .ref t4]) B = some (.lst ([t1, t2, t3, t4].map V.ref)) := upd_same
        generalize upd (upd (upd (upd (upd H4 t1 (.tup [.int (c.1 - 1), .int c.2])) t2 (.tup [.int (c.1 + 1), .int c.2])) t3 (.tup [.int c.1, .int (c.2 - 1)])) t4 (.tup [.int c.1, .int (c.2 + 1)])) B (.lst [.ref t1, .ref t2, .ref t3, .ref t4]) = H5 at hB5 s5 eB ⊢
        clear n1 n2 n3 n4 nB sg1 sg2 sg3 sg4
        walk_at "ev"
        have e45 := s5 _ _ e4
        have e35 := s5 _ _ e3
        refine ⟨.inl ⟨rfl, _, .inl (.inl e45)⟩, ?_⟩
        walk_at "ev"
        refine ⟨⟨_, .inl (.inl eB)⟩, fun E2 nE => ?_⟩
        have nEF : E2 ≠ F0 := fun z => by
          rw [z, e45] at nE
          cases nE
        refine lc_it (walk_list (xs := [t1, t2, t3, t4].map V.ref)) (fun t G => Same H5 G ∧ G E2 = some (.lst ((((fourC c).take t).filterMap fun d => idxN cs d cs.length).map natV))) ⟨same_upd nE, upd_same⟩ (fun t G _ h => .inl (.inl (h.1 _ _ eB))) ?_ ?_
        · rintro t y G G' ht ⟨sG, eG⟩ ⟨rfl, hy⟩
          obtain ⟨d, hd⟩ : ∃ d, (fourC c)[t]? = some d := ⟨_, List.getElem?_eq_getElem (show t < (fourC c).length from ht)⟩
          obtain ⟨b4, hb4, _, hb4H⟩ := hB5.get (i := t) (o := tpc d) (by rw [List.getElem?_map, hd]; rfl)
          rw [List.getElem?_map, hb4] at hy
          obtain rfl := Option.some.inj hy
          walk_at "ev"
          have hg := DGet.t (sG _ _ e35) (k := keyC d) (sG _ _ hb4H)
          rw [plc_val] at hg
          refine ⟨D, _, rfl, hg, ?_⟩
          refine ⟨_, rfl, ?_⟩
          have htk : (fourC c).take (t + 1) = (fourC c).take t ++ [d] := (take_snoc hd).symm
          have lG : ((((fourC c).take t).filterMap fun d => idxN cs d cs.length).map natV).length ≤ 900 := by
            rw [List.length_map]
            have := List.length_filterMap_le (fun d => idxN cs d cs.length) ((fourC c).take t)
            rw [List.length_take] at this
            have : (fourC c).length = 4 := rfl
            omega
          cases hi : idxN cs d cs.length with
          | none =>
            refine iteF ?_
            refine ⟨sG, ?_⟩
            rw [htk, List.filterMap_append, List.filterMap_cons, hi]
            show _ = some (HO.lst (List.map natV (_ ++ [])))
            rw [List.append_nil]
            exact eG
          | some kk =>
            refine iteT ?_
            walk_at "ev"
            rw [hi] at hg
            refine ⟨D, _, rfl, hg, ?_⟩
            refine ⟨_, eG, small1000 (by omega), fun b o e => ?_, ?_⟩
            · rw [upd_ne (ne_of_none e nE)]
              exact sG _ _ e
            · rw [upd_same, htk, List.filterMap_append, List.filterMap_cons, hi, List.map_append]
              rfl
        · rintro G ⟨sG, eG⟩
          have eFG := sG _ _ e45
          rw [show ((fourC c).take ([t1, t2, t3, t4].map V.ref).length) = fourC c from rfl] at eG
          walk_at "ev"
          refine ⟨F0, _, _, rfl, rfl, eFG, small1000 (by rw [List.length_map, hB.1, List.length_map, List.length_take]; omega), ?_⟩
          have sH := s3.trans (s5.trans sG)
          have hB2 := hB.up (M := fun b => H b = none ∧ b ≠ F0) (H' := upd G F0 (.lst (bs.map V.ref ++ [V.ref E2]))) fun b o n e => ⟨n, by rw [upd_ne n.2]; exact sG _ _ (s5 _ _ e)⟩
          refine ⟨_, _, _, rfl, fun b o e => ?_, ?_, bs ++ [E2], by rw [upd_same, List.map_append]; rfl, ?_⟩
          · rw [upd_ne (ne_of_none e (s2.free nF))]
            exact sH _ _ e
          · rw [upd_ne nFD.symm]
            exact sG _ _ e35
          · rw [← take_snoc hc, List.map_append]
            refine hB2.app ⟨(s3.trans s5).free nE, nEF⟩ ?_
            rw [upd_ne nEF]
            exact eG
      · rintro σ H3 ⟨v5, v6, v7, rfl, s3, e3, bs, e4, hB⟩
        rw [List.length_map, lal, List.take_length] at hB
        walk_at "ev"
        exact q F0 H3 s3 ⟨s2.free nF, bs, e4, hB.up fun b o n e => ⟨n.1, e⟩⟩
/-! ### borders, doublings -/
def pre (cs : List Int) (i : Nat) : Int := (cs.take i).sum
def brd (W : Int) (cs : List Int) (i : Nat) : Int := W * pre cs i / cs.sum
def brds (W : Int) (cs : List Int) (n : Nat) : List Int := (List.range n).map (brd W cs)
structure GoodC (cs : List Int) : Prop where
  l2 : 2 ≤ cs.length
  l3 : cs.length ≤ 3
  pos : ∀ c ∈ cs, 1 ≤ c
  sum : cs.sum ≤ 64
theorem pre_succ {cs : List Int} {i : Nat} {c : Int} (h : cs[i]? = some c) : pre cs (i + 1) = pre cs i + c := by
  unfold pre
  rw [← take_snoc h, List.sum_append]
  simp
theorem pre_zero (cs : List Int) : pre cs 0 = 0 := rfl
theorem pre_len (cs : List Int) : pre cs cs.length = cs.sum := by
  unfold pre
  rw [List.take_length]
theorem sum_ge : ∀ {cs : List Int}, (∀ c ∈ cs, 1 ≤ c) → (cs.length : Int) ≤ cs.sum
  | [], _ => by simp
  | c :: r, h => by
    have h1 := h c List.mem_cons_self
    have h2 := sum_ge (cs := r) fun x m => h x (List.mem_cons_of_mem _ m)
    rw [List.sum_cons, List.length_cons]
    omega
theorem pre_nn {cs : List Int} (h : ∀ c ∈ cs, 1 ≤ c) (i : Nat) : 0 ≤ pre cs i := by
  have := sum_ge (cs := cs.take i) fun c m => h c (List.mem_of_mem_take m)
  unfold pre
  omega
theorem pre_le {cs : List Int} (h : ∀ c ∈ cs, 1 ≤ c) (i : Nat) : pre cs i ≤ cs.sum := by
  have e : cs.sum = pre cs i + (cs.drop i).sum := by
    unfold pre
    rw [← List.sum_append, List.take_append_drop]
  have := sum_ge (cs := cs.drop i) fun c m => h c (List.mem_of_mem_drop m)
  omega
theorem GoodC.sp {cs : List Int} (g : GoodC cs) : 2 ≤ cs.sum := by
  have := sum_ge g.pos
  have := g.l2
  omega
theorem brd_zero (W : Int) (cs : List Int) : brd W cs 0 = 0 := by
  unfold brd
  rw [pre_zero, Int.mul_zero, Int.zero_ediv]
theorem brd_len {W : Int} {cs : List Int} (g : GoodC cs) : brd W cs cs.length = W := by
  unfold brd
  rw [pre_len]
  exact Int.mul_ediv_cancel _ (by have := g.sp; omega)
theorem brd_nn {W : Int} {cs : List Int} (hW : 0 ≤ W) (g : GoodC cs) (i : Nat) : 0 ≤ brd W cs i :=
  Int.ediv_nonneg (Int.mul_nonneg hW (pre_nn g.pos i)) (by have := g.sp; omega)
theorem brd_le {W : Int} {cs : List Int} (hW : 0 ≤ W) (g : GoodC cs) (i : Nat) : brd W cs i ≤ W := by
  unfold brd
  have h := Int.mul_le_mul_of_nonneg_left (pre_le g.pos i) hW
  have h2 := Int.ediv_le_ediv (by have := g.sp; omega : 0 < cs.sum) h
  rw [Int.mul_ediv_cancel _ (by have := g.sp; omega)] at h2
  exact h2
theorem brd_step {W : Int} {cs : List Int} {i : Nat} (hW : 65536 ≤ W) (g : GoodC cs) (hi : i < cs.length) : brd W cs i + 1024 ≤ brd W cs (i + 1) := by
  obtain ⟨c, hc⟩ : ∃ c, cs[i]? = some c := ⟨cs[i], List.getElem?_eq_getElem hi⟩
  have hc1 := g.pos c (List.mem_of_getElem? hc)
  have hs := g.sp
  have hs2 := g.sum
  unfold brd
  rw [pre_succ hc]
  refine (Int.le_ediv_iff_mul_le (by omega)).mpr ?_
  rw [Int.add_mul, Int.mul_add]
  have h1 := Int.ediv_mul_le (W * pre cs i) (by omega : cs.sum ≠ 0)
  have h2 : 1024 * cs.sum ≤ W * c := by
    have a1 : 1024 * cs.sum ≤ 65536 := by omega
    have a2 : W * 1 ≤ W * c := Int.mul_le_mul_of_nonneg_left hc1 (by omega)
    omega
  omega
theorem brds_len (W : Int) (cs : List Int) (n : Nat) : (brds W cs n).length = n := by simp [brds]
theorem brds_get {W : Int} {cs : List Int} {n i : Nat} (h : i < n) : (brds W cs n)[i]? = some (brd W cs i) := by
  unfold brds
  rw [List.getElem?_map, List.getElem?_range h]
  rfl
theorem brds_succ (W : Int) (cs : List Int) (n : Nat) : brds W cs (n + 1) = brds W cs n ++ [brd W cs n] := by
  unfold brds
  rw [List.range_succ, List.map_append]
  rfl
def dbl (n : Int) : Nat := if 65536 ≤ n then 0 else if 32768 ≤ n then 1 else if 16384 ≤ n then 2 else if 8192 ≤ n then 3 else if 4096 ≤ n then 4 else if 2048 ≤ n then 5 else 6
theorem dbl_le (n : Int) : dbl n ≤ 6 := by
  unfold dbl
  repeat' split
  all_goals omega
theorem dbl_lt {n : Int} (h : 1024 ≤ n) {t : Nat} (ht : t ≤ 6) : n * 2 ^ t < 65536 ↔ t < dbl n := by
  unfold dbl
  match t, ht with
  | 0, _ => show n * 1 < 65536 ↔ _; (repeat' split) <;> omega
  | 1, _ => show n * 2 < 65536 ↔ _; (repeat' split) <;> omega
  | 2, _ => show n * 4 < 65536 ↔ _; (repeat' split) <;> omega
  | 3, _ => show n * 8 < 65536 ↔ _; (repeat' split) <;> omega
  | 4, _ => show n * 16 < 65536 ↔ _; (repeat' split) <;> omega
  | 5, _ => show n * 32 < 65536 ↔ _; (repeat' split) <;> omega
  | 6, _ => show n * 64 < 65536 ↔ _; (repeat' split) <;> omega
def spBorders (K : PySem.W.Frag) : Sp := fun vs H Q _ => ∃ (W : Int) (p : Addr) (cs : List Int), vs = [.int W, .ref p] ∧ 0 ≤ W ∧ W < 4294967296 ∧ SqS K H p (cs.map V.int) ∧ GoodC cs ∧ ∀ (q : Addr) (H' : Hp), H q = none → Same H H' → H' q = some (.lst ((brds W cs (cs.length + 1)).map V.int)) → Q (.ref q) H'
theorem ok_borders {f : Addr} {fd : FuncData} {k : Nat} (F : Fun K "borders" "borders" s_borders f fd) (T : Txt mg) : FnOk P w K mg base CX0 (k + 1) f fd ["width", "counts"] (spBorders K) := by
  refine F.ok sc_borders (fun vs H Q E h => ?_) (fun cdv A outer s H vs Q E hr h => ?_)
  · obtain ⟨W, p, cs, rfl, _⟩ := h
    rfl
  · obtain ⟨W, p, cs, rfl, hW, hW2, hS, g, q⟩ := h
    have hs := g.sp
    have hs2 := g.sum
    have hl3 := g.l3
    have eL : ∀ {m : Nat}, m ≤ 1000 → m ≤ sizeLine := fun h => Nat.le_of_lt (small1000 h)
    refine ⟨_, (pss_cons (ps_set (i := 2) sc_borders.nd rfl (Or.inl rfl) (pe_callB (cr_sumS rfl) (by rfl) T.z_sum PyProof.Rows.boot_sum (pa_cons (pv 1) pa_nil)))
    (pss_cons (ps_set (i := 3) sc_borders.nd rfl (Or.inl rfl) pe_int)
    (pss_cons (ps_set (i := 4) sc_borders.nd rfl (Or.inl rfl) (pe_lst (pa_cons pe_int pa_nil)))
    (pss_cons (ps_for PassesOwn.never rfl (pi_seq (pv 1)) (pg_name (i := 5) sc_borders.nd rfl (Or.inl rfl))
      (pss_cons (ps_set (i := 3) sc_borders.nd rfl (Or.inl rfl) (pe_op op_add (pv 3) (pv 5)))
    (pss_one (ps_expr (pe_bm PySem.F.plainAttrs_list PySem.F.slot_list_append PySem.F.type_list_append mt_append (pv 4) (pa_cons (pe_op op_fdivW (pe_op op_mul (pv 0) (pv 3)) (pv 2)) pa_nil))))))
    (pss_one (ps_ret (pv 4))))))), ?_⟩
    walk_at "ev"
    refine ⟨_, _, rfl, hS, ?_⟩
    walk_at "ev"
    refine ⟨(by show 1 ≤ sizeLine; decide), fun d nd => ?_⟩
    walk_at "ev"
    refine for_seq (K := K) (a := p) (xs := cs.map V.int) (fun i σ H1 => ∃ v, σ = [some (.int W), some (.ref p), some (.int cs.sum), some (.int (pre cs i)), some (.ref d), v] ∧ Same H H1 ∧ H1 d = some (.lst ((brds W cs (i + 1)).map V.int))) ⟨_, rfl, same_upd nd, by
      rw [upd_same, brds_succ, brd_zero]
      rfl⟩ (hS.elim (fun h => .inl fun _ _ _ _ ⟨_, _, s1, _⟩ => s1.seq h) (fun h => .inr fun _ _ _ _ ⟨_, _, s1, _⟩ => same_seqT s1 h)) ?_ ?_
    · rintro i x σ H1 hx ⟨v, rfl, s1, e1⟩
      rw [List.getElem?_map] at hx
      obtain ⟨z, hz, rfl⟩ := Option.map_eq_some_iff.mp hx
      have hp := pre_succ hz
      have hi : i < cs.length := (List.getElem?_eq_some_iff.mp hz).1
      walk_at "ev"
      refine ⟨.inl ⟨rfl, _, .inl (.inl e1)⟩, ?_⟩
      walk_at "ev"
      refine ⟨d, _, _, rfl, rfl, e1, small1000 (by rw [List.length_map, brds_len]; omega), some (.int z), ?_, ?_, ?_⟩
      · rw [hp]
        rfl
      · exact fun b o e => by
          rw [upd_ne (ne_of_none e nd)]
          exact s1 b o e
      · rw [upd_same, brds_succ W cs (i + 1), List.map_append]
        unfold brd
        rw [hp]
        rfl
    · rintro σ H1 ⟨v, rfl, s1, e1⟩
      rw [List.length_map] at *
      walk_at "ev"
      exact q d H1 nd s1 e1
def spDbl : Sp := fun vs H Q _ => ∃ (n : Int), vs = [.int n] ∧ 1024 ≤ n ∧ n < 131072 ∧ Q (.int (dbl n : Int)) H
theorem ok_doublings {f : Addr} {fd : FuncData} {k : Nat} {t : Tok} (F : Fun K "doublings_of" "doublings_of" s_doublings_of f fd) (hLW : mg "LEAST_WIDTH" = some (.int 65536 t)) : FnOk P w K mg base CX0 (k + 1) f fd ["width"] spDbl := by
  refine F.ok sc_doublings_of (fun vs H Q E h => ?_) (fun cdv A outer s H vs Q E hr h => ?_)
  · obtain ⟨n, rfl, _⟩ := h
    rfl
  · obtain ⟨n, rfl, hn, hn2, q⟩ := h
    refine ⟨_, (pss_cons (ps_set (i := 1) sc_doublings_of.nd rfl (Or.inl rfl) pe_int)
    (pss_cons (ps_while PassesOwn.never (pt_cmpR op_lt (pe_op op_shl (pv 0) (pv 1)) (pe_glob (v := .int 65536) (by rfl) hLW ⟨_, rfl⟩) (nomark _))
      (pss_one (ps_aug (i := 1) sc_doublings_of.nd rfl (Or.inl rfl) pe_int ip_add)))
    (pss_one (ps_ret (pv 1))))), ?_⟩
    walk_at "ev"
    refine ⟨fun m σ H1 => ∃ t : Nat, σ = [some (.int n), some (.int t)] ∧ H1 = H ∧ t ≤ dbl n ∧ m = dbl n - t, ⟨_, 0, rfl, rfl, Nat.zero_le _, rfl⟩, ?_⟩
    rintro m σ H1 ⟨t, rfl, rfl, ht, rfl⟩
    have h6 := dbl_le n
    have hd := dbl_lt hn (t := t) (by omega)
    walk_at "ev"
    · rename_i hc
      have hlt := hd.mp hc
      refine ⟨_, fun σ' H' h => h, ?_⟩
      walk_at "ev"
      exact ⟨dbl n - (t + 1), by omega, t + 1, rfl, rfl, by omega, rfl⟩
    · rename_i hc
      have e : t = dbl n := by
        have : ¬ t < dbl n := fun z => hc (hd.mpr z)
        omega
      subst e
      exact q
/-! ### a node's child -/
def chT (W : Int) (cs : List Int) (j : Nat) : Nat := dbl (brd W cs (j + 1) - brd W cs j)
def chV (l W s : Int) (cs : List Int) (j : Nat) : List V := [.int ((l + brd W cs j) * 2 ^ chT W cs j), .int ((brd W cs (j + 1) - brd W cs j) * 2 ^ chT W cs j), .int (s + chT W cs j)]
structure NodeB (l W s : Int) : Prop where
  l0 : 0 ≤ l
  l1 : l < 2305843009213693952
  w0 : 65536 ≤ W
  w1 : W < 131072
  s0 : 16 ≤ s
  s1 : s ≤ 61
/-! ### a table of counts -/
def TabAt (C : Addr) (H : Hp) (x l : Addr) (cs : List Int) : Prop := ∃ dx, H x = some (.ins C dx [("_counts", .ref l)]) ∧ H l = some (.lst (cs.map V.int))
/-- all but x and l stays -/
def OffT (x l : Addr) (H H' : Hp) : Prop := ∀ b o, b ≠ x → b ≠ l → H b = some o → H' b = some o
structure TabK (K : PySem.W.Frag) (C : Addr) : Prop where
  cl : Cls K C
  na : NoAttr K C "_counts"
/-- a number added twice at a place -/
def bump (cs : List Int) (j : Nat) : List Int := cs.modify j (· + 2)
def halve (cs : List Int) : List Int := cs.map fun c => (c + 1) / 2
def lrn (cs : List Int) (j : Nat) : List Int := if (bump cs j).sum > 64 then halve (bump cs j) else bump cs j
theorem bump_len (cs : List Int) (j : Nat) : (bump cs j).length = cs.length := List.length_modify _ _ _
theorem bump_get (cs : List Int) (j i : Nat) : (bump cs j)[i]? = (cs[i]?).map fun c => c + 2 * (if i = j then 1 else 0) := by
  unfold bump
  rw [List.getElem?_modify]
  cases cs[i]? with
  | none => rfl
  | some c =>
    show some (if j = i then c + 2 else c) = some (c + 2 * (if i = j then 1 else 0))
    by_cases h : j = i
    · rw [if_pos h, if_pos h.symm, Int.mul_one]
    · rw [if_neg h, if_neg fun e => h e.symm, Int.mul_zero, Int.add_zero]
theorem bump_set {cs : List Int} {j : Nat} {c : Int} (h : cs[j]? = some c) : bump cs j = cs.set j (c + 2) := by
  unfold bump
  refine List.ext_getElem? fun i => ?_
  rw [List.getElem?_modify, List.getElem?_set]
  by_cases e : j = i
  · subst e
    have hl := (List.getElem?_eq_some_iff.mp h).1
    rw [if_pos rfl, if_pos hl, h]
    show some (if j = j then c + 2 else c) = _
    rw [if_pos rfl]
  · rw [if_neg e]
    cases cs[i]? with
    | none => rfl
    | some d =>
      show some (if j = i then d + 2 else d) = some d
      rw [if_neg e]
theorem sum_bump : ∀ {cs : List Int} {j : Nat}, j < cs.length → (bump cs j).sum = cs.sum + 2
  | [], j, h => absurd h (Nat.not_lt_zero j)
  | c :: r, 0, _ => by
    show ((c + 2) :: r).sum = _
    rw [List.sum_cons, List.sum_cons]
    omega
  | c :: r, j + 1, h => by
    show (c :: bump r j).sum = _
    rw [List.sum_cons, List.sum_cons, sum_bump (cs := r) (j := j) (by simpa using h)]
    omega
theorem bump_pos {cs : List Int} {j : Nat} (h : ∀ c ∈ cs, 1 ≤ c) : ∀ c ∈ bump cs j, 1 ≤ c := fun c m => by
  obtain ⟨i, hi⟩ := List.getElem?_of_mem m
  rw [bump_get] at hi
  obtain ⟨d, hd, rfl⟩ := Option.map_eq_some_iff.mp hi
  have := h d (List.mem_of_getElem? hd)
  split <;> omega
theorem halve_pos {cs : List Int} (h : ∀ c ∈ cs, 1 ≤ c) : ∀ c ∈ halve cs, 1 ≤ c := fun c m => by
  obtain ⟨d, hd, rfl⟩ := List.mem_map.mp m
  have := h d hd
  show 1 ≤ (d + 1) / 2
  omega
theorem sum_halve : ∀ {cs : List Int}, 2 * (halve cs).sum ≤ cs.sum + cs.length
  | [] => by simp [halve]
  | c :: r => by
    have h := sum_halve (cs := r)
    show 2 * (((c + 1) / 2) :: halve r).sum ≤ _
    rw [List.sum_cons, List.sum_cons, List.length_cons]
    omega
theorem halve_len (cs : List Int) : (halve cs).length = cs.length := List.length_map _
theorem lrn_len (cs : List Int) (j : Nat) : (lrn cs j).length = cs.length := by
  unfold lrn
  split
  · rw [halve_len, bump_len]
  · exact bump_len _ _
theorem GoodC.lrn {cs : List Int} (g : GoodC cs) {j : Nat} (h : j < cs.length) : GoodC (lrn cs j) := by
  refine ⟨by rw [lrn_len]; exact g.l2, by rw [lrn_len]; exact g.l3, ?_, ?_⟩
  · unfold My.lrn
    split
    · exact halve_pos (bump_pos g.pos)
    · exact bump_pos g.pos
  · unfold My.lrn
    split
    · have h1 := sum_halve (cs := bump cs j)
      have h2 := sum_bump h
      have h3 := g.sum
      have h4 := g.l3
      rw [bump_len] at h1
      omega
    · omega
theorem good_ones {m : Nat} (h : m = 2 ∨ m = 3) : GoodC (List.replicate m 1) := by
  rcases h with rfl | rfl
  · exact ⟨by decide, by decide, by decide, by decide⟩
  · exact ⟨by decide, by decide, by decide, by decide⟩
/-! ### its defs -/
theorem in23 (m : Int) : inV (.int m) [.int 2, .int 3] = decide (m = 2 ∨ m = 3) := by
  unfold inV eqV
  by_cases h2 : m = 2
  · subst h2
    decide
  · by_cases h3 : m = 3
    · subst h3
      decide
    · have e2 : ((2 : Int) == m) = false := beq_eq_false_iff_ne.mpr fun z => h2 z.symm
      have e3 : ((3 : Int) == m) = false := beq_eq_false_iff_ne.mpr fun z => h3 z.symm
      rw [decide_eq_false (fun z => z.elim h2 h3)]
      simp only [List.any_cons, List.any_nil, e2, e3, Bool.or_false]
def spInit (C O : Addr) : Sp := fun vs H Q E => ∃ (x dx : Addr) (m : Int), vs = [.ref x, .int m] ∧ H x = some (.ins C dx []) ∧
  (((m = 2 ∨ m = 3) ∧ ∀ (l : Addr) (H' : Hp), H l = none → (∀ b o, b ≠ x → H b = some o → H' b = some o) → TabAt C H' x l (List.replicate m.toNat 1) → Q .non H') ∨ (m ≠ 2 ∧ m ≠ 3 ∧ ∀ H', Same H H' → E (.ref O) none H'))
theorem ok_init {f C O : Addr} {fd : FuncData} {k : Nat} (F : Fun K "__init__" "Table.__init__" s_Table_init f fd) (D : TabK K C) (e_Outside : ECls K mg "Outside" O) : FnOk P w K mg base (L2.CX P w) (k + 1) f fd ["self", "m"] (spInit C O) := by
  refine F.okX sc_Table_init (fun vs H Q E h => ?_) (fun cdv A outer s H vs Q E hr h => ?_)
  · obtain ⟨x, dx, m, rfl, _⟩ := h
    rfl
  · refine ⟨_, (pss_cons (ps_if (pt_cmpR op_notIn_seq (pv 1) (pe_tup (pa_cons pe_int (pa_cons pe_int pa_nil))) (by rfl)) (pss_one (ps_raise rfl (takes_of rfl rfl rfl rfl) (pmk_none PySem.F.excBase_ValueError e_Outside.xC e_Outside.gC e_Outside.kC (raises_own e_Outside.bC e_Outside.tC) (by rfl)))) pss_nil)
    (pss_one (ps_fld (pv 0) (pe_op op_rep (pe_lst (pa_cons pe_int pa_nil)) (pv 1)) rfl))), ?_⟩
    obtain ⟨x, dx, m, rfl, hx, h⟩ := h
    walk_at "ev"
    refine ⟨(by show 2 ≤ sizeLine; decide), fun t nt => ?_⟩
    have hx2 := new_at (o' := .tup [.int 2, .int 3]) hx nt
    have s2 := same_upd (o := .tup [.int 2, .int 3]) nt
    refine ⟨t, _, rfl, .inr (.inl (.inl upd_same)), rfl, rfl, ?_⟩
    rw [in23, if_pos rfl]
    obtain ⟨hm, q⟩ | ⟨h2, h3, x⟩ := h
    case inr =>
      rw [decide_eq_false (fun z => z.elim h2 h3)]
      exact ⟨_, rfl, x _ s2⟩
    rw [decide_eq_true hm]
    refine ⟨_, rfl, ?_⟩
    generalize upd H t (.tup [.int 2, .int 3]) = G at hx2 s2 ⊢
    walk_at "ev"
    refine ⟨(by show 1 ≤ sizeLine; decide), fun p0 n0 => ?_⟩
    walk_at "ev"
    refine ⟨p0, _, _, rfl, rfl, upd_same, by omega, by omega, ?_, fun p1 n1 => ?_⟩
    · show 1 * _ ≤ sizeLine
      exact Nat.le_of_lt (small1000 (by omega))
    have s3 := s2.trans ((same_upd (o := .lst [V.int 1]) n0).trans (same_upd (o := .lst (List.replicate m.toNat [V.int 1]).flatten) n1))
    walk_at "ev"
    refine ⟨x, C, dx, [], rfl, new_at (new_at hx2 n0) n1, D.cl, D.na, by decide, ?_⟩
    have n1x : p1 ≠ x := fun z => by
      subst z
      rw [new_at hx2 n0] at n1
      cases n1
    refine q p1 _ ((s2.trans (same_upd n0)).free n1) (fun b o nb e => by rw [upd_ne nb]; exact s3 b o e) ⟨dx, upd_same, ?_⟩
    rw [upd_ne n1x, upd_same]
    rcases hm with rfl | rfl <;> rfl
def spCounts (C : Addr) : Sp := fun vs H Q _ => ∃ (x l : Addr) (cs : List Int), vs = [.ref x] ∧ TabAt C H x l cs ∧ ∀ (q : Addr) (H' : Hp), H q = none → Same H H' → H' q = some (.lst (cs.map V.int)) → Q (.ref q) H'
theorem ok_tcounts {f C : Addr} {fd : FuncData} {k : Nat} (F : Fun K "counts" "Table.counts" s_Table_counts f fd) (T : Txt mg) (D : TabK K C) : FnOk P w K mg base CX0 (k + 1) f fd ["self"] (spCounts C) := by
  refine F.ok sc_Table_counts (fun vs H Q E h => ?_) (fun cdv A outer s H vs Q E hr h => ?_)
  · obtain ⟨x, l, cs, rfl, _⟩ := h
    rfl
  · obtain ⟨x, l, cs, rfl, ⟨dx, hx, hl⟩, q⟩ := h
    refine ⟨_, (pss_one (ps_ret (pe_callTy call_list_of (by rfl) T.z_list PyProof.Rows.boot_list (pa_cons (pe_fld (pv 0) rfl) pa_nil)))), ?_⟩
    walk_at "ev"
    refine ⟨x, C, dx, _, _, rfl, hx, D.cl, D.na, lk_here, ?_⟩
    walk_at "ev"
    exact fun p np => q p _ np (same_upd np) upd_same
def spTotal (C : Addr) : Sp := fun vs H Q _ => ∃ (x l : Addr) (cs : List Int), vs = [.ref x] ∧ TabAt C H x l cs ∧ Q (.int cs.sum) H
theorem ok_total {f C : Addr} {fd : FuncData} {k : Nat} (F : Fun K "total" "Table.total" s_Table_total f fd) (T : Txt mg) (D : TabK K C) : FnOk P w K mg base CX0 (k + 1) f fd ["self"] (spTotal C) := by
  refine F.ok sc_Table_total (fun vs H Q E h => ?_) (fun cdv A outer s H vs Q E hr h => ?_)
  · obtain ⟨x, l, cs, rfl, _⟩ := h
    rfl
  · obtain ⟨x, l, cs, rfl, ⟨dx, hx, hl⟩, q⟩ := h
    refine ⟨_, (pss_one (ps_ret (pe_callB (cr_sumS rfl) (by rfl) T.z_sum PyProof.Rows.boot_sum (pa_cons (pe_fld (pv 0) rfl) pa_nil)))), ?_⟩
    walk_at "ev"
    refine ⟨x, C, dx, _, _, rfl, hx, D.cl, D.na, lk_here, ?_⟩
    exact ⟨_, _, rfl, .inl (.inl (.inl hl)), q⟩
def spLearn (C O : Addr) : Sp := fun vs H Q E => ∃ (x l : Addr) (cs : List Int) (j : Int), vs = [.ref x, .int j] ∧ TabAt C H x l cs ∧ GoodC cs ∧
  ((∃ i : Nat, j = (i : Int) ∧ i < cs.length ∧ ∀ (l' : Addr) (H' : Hp), (l' = l ∨ H l' = none) → OffT x l H H' → (∀ b, H' b = none → H b = none) → TabAt C H' x l' (lrn cs i) → Q .non H') ∨ ((j < 0 ∨ (cs.length : Int) ≤ j) ∧ E (.ref O) none H))
theorem ok_learn {f C O : Addr} {fd : FuncData} {k : Nat} {t : Tok} (F : Fun K "learn" "Table.learn" s_Table_learn f fd) (T : Txt mg) (D : TabK K C) (e_Outside : ECls K mg "Outside" O) (hMT : mg "MOST_TOTAL" = some (.int 64 t)) : FnOk P w K mg base (L2.CX P w) (k + 1) f fd ["self", "j"] (spLearn C O) := by
  refine F.okX sc_Table_learn (fun vs H Q E h => ?_) (fun cdv A outer s H vs Q E hr h => ?_)
  · obtain ⟨x, l, cs, j, rfl, _⟩ := h
    rfl
  · refine ⟨_, (pss_cons (ps_if (pt_not (pt_chain op_le op_lt pe_int (pv 1) (pe_callB call_len_seq (by rfl) T.z_len PySem.boot_len (pa_cons (pe_fld (pv 0) rfl) pa_nil)))) (pss_one (ps_raise rfl (takes_of rfl rfl rfl rfl) (pmk_none PySem.F.excBase_ValueError e_Outside.xC e_Outside.gC e_Outside.kC (raises_own e_Outside.bC e_Outside.tC) (by rfl)))) pss_nil)
    (pss_cons (ps_augS (pe_fld (pv 0) rfl) (pv 1) get_list pe_int ip_add set_list)
    (pss_one (ps_if (pt_cmpR op_gt (pe_callB (cr_sumS rfl) (by rfl) T.z_sum PyProof.Rows.boot_sum (pa_cons (pe_fld (pv 0) rfl) pa_nil)) (pe_glob (v := .int 64) (by rfl) hMT ⟨_, rfl⟩) (nomark _)) (pss_one (ps_fld (pv 0) (pe_lc (own := [("count", 2)]) (g := (gName 2)) (tt := tYes) rfl sc_Table_learn.nd (pi_list (pe_fld (pv 0) rfl)) (blkOk_by (N := ["self", "j", "count"]) (sc := defScope s_Table_learn) (by decide +kernel)) (fun _ _ _ _ _ => pg_name (i := 2) sc_Table_learn.nd rfl (by first | exact Or.inl rfl | exact Or.inr rfl)) (fun _ _ _ _ _ => pts_nil) (fun _ _ _ _ _ => (pe_op op_fdiv (pe_op op_add (pv 2) pe_int) pe_int))) rfl)) pss_nil)))), ?_⟩
    obtain ⟨x, l, cs, j, rfl, ⟨dx, hx, hl⟩, g, h⟩ := h
    have hcl : (cs.map V.int).length = cs.length := List.length_map _
    have hl3 := g.l3
    have hxl : x ≠ l := fun z => by
      subst z
      rw [hx] at hl
      cases hl
    obtain ⟨i, rfl, hi, q⟩ | ⟨hj, x⟩ := h
    case inr =>
      walk_at "ev"
      · refine ⟨_, C, dx, _, _, rfl, hx, D.cl, D.na, lk_here, ?_⟩
        refine ⟨_, _, rfl, .inl (.inl (.inl hl)), ?_⟩
        walk_at "ev"
        exact x
      · exact x
    obtain ⟨c, hc⟩ : ∃ c, cs[i]? = some c := ⟨cs[i], List.getElem?_eq_getElem hi⟩
    have hg : atI (cs.map V.int) (i : Int) = some (.int c) := at_of (j := i) (by omega) (by rw [List.getElem?_map, hc]; rfl)
    walk_at "ev"
    refine ⟨x, C, dx, _, _, rfl, hx, D.cl, D.na, lk_here, ?_⟩
    refine ⟨_, _, rfl, .inl (.inl (.inl hl)), ?_⟩
    walk_at "ev"
    refine ⟨x, C, dx, _, _, rfl, hx, D.cl, D.na, lk_here, ?_⟩
    walk_at "ev"
    refine ⟨_, _, _, _, rfl, rfl, .inl (.inl hl), hg, ?_⟩
    walk_at "ev"
    refine ⟨l, _, _, i, rfl, rfl, hl, ?_, ?_⟩
    · unfold ixN
      rw [if_pos (by omega), if_pos (by omega)]
      rfl
    have e1 : upd H l (.lst ((cs.map V.int).set i (.int (c + 2)))) l = some (.lst ((bump cs i).map V.int)) := by
      rw [upd_same, bump_set hc, List.map_set]
    have hx1 : upd H l (.lst ((cs.map V.int).set i (.int (c + 2)))) x = some (.ins C dx [("_counts", .ref l)]) := by
      rw [upd_ne hxl]
      exact hx
    have o1 : OffT x l H (upd H l (.lst ((cs.map V.int).set i (.int (c + 2))))) := fun b o nx nl e => by
      rw [upd_ne nl]
      exact e
    have f1 : ∀ p, upd H l (.lst ((cs.map V.int).set i (.int (c + 2)))) p = none → H p = none := fun p e => by
      by_cases z : p = l
      · subst z
        rw [upd_same] at e
        cases e
      · rw [upd_ne z] at e
        exact e
    generalize upd H l (.lst ((cs.map V.int).set i (.int (c + 2)))) = G at e1 hx1 o1 f1 ⊢
    walk_at "ev"
    refine ⟨x, C, dx, _, _, rfl, hx1, D.cl, D.na, lk_here, ?_⟩
    refine ⟨_, _, rfl, .inl (.inl (.inl e1)), ?_⟩
    have hgt : lrn cs i = if (bump cs i).sum > 64 then halve (bump cs i) else bump cs i := rfl
    walk_at "ev"
    · rename_i hc2
      rw [if_pos hc2] at hgt
      refine ⟨x, C, dx, _, _, rfl, hx1, D.cl, D.na, lk_here, ?_⟩
      refine ⟨l, rfl, ⟨_, .inl (.inl e1)⟩, fun D2 nD => ?_⟩
      have hbl : (bump cs i).length = cs.length := bump_len cs i
      refine lc_it (walk_list (xs := (bump cs i).map V.int)) (fun t H3 => Same G H3 ∧ H3 D2 = some (.lst (((halve (bump cs i)).take t).map V.int))) ⟨same_upd nD, upd_same⟩ (fun _ _ _ h => .inl (.inl (h.1 _ _ e1))) ?_ ?_
      · rintro t z H3 H4 ht ⟨s3, e4⟩ ⟨rfl, hz⟩
        rw [List.getElem?_map] at hz
        obtain ⟨d, hd, rfl⟩ := Option.map_eq_some_iff.mp hz
        walk_at "ev"
        refine ⟨_, e4, small1000 (by rw [List.length_map, List.length_take, halve_len]; omega), fun b o e => ?_, ?_⟩
        · rw [upd_ne (ne_of_none e nD)]
          exact s3 _ _ e
        · have hh : (halve (bump cs i))[t]? = some ((d + 1) / 2) := by
            unfold halve
            rw [List.getElem?_map, hd]
            rfl
          rw [upd_same, ← take_snoc hh, List.map_append]
          rfl
      · rintro H3 ⟨s3, e4⟩
        rw [List.length_map, ← halve_len, List.take_length] at e4
        have hxx := s3 _ _ hx1
        have nxD : D2 ≠ x := fun z => by
          subst z
          rw [hx1] at nD
          cases nD
        walk_at "ev"
        refine ⟨x, C, dx, _, rfl, hxx, D.cl, D.na, (by show 1 < 1000; decide), ?_⟩
        rw [put_here]
        refine q D2 _ (.inr (f1 _ nD)) (fun b o nx nl e => ?_) (fun b e => ?_) ⟨dx, upd_same, ?_⟩
        · rw [upd_ne nx]
          exact s3 _ _ (o1 b o nx nl e)
        · by_cases z : b = x
          · rw [z, upd_same] at e
            cases e
          · rw [upd_ne z] at e
            exact f1 b (s3.free e)
        · rw [upd_ne nxD, hgt]
          exact e4
    · rename_i hc2
      rw [if_neg hc2] at hgt
      refine q l _ (.inl rfl) o1 f1 ⟨dx, hx1, ?_⟩
      rw [hgt]
      exact e1
/-! ### the model of a line -/
structure LM where
  cs : List Cell
  wid : Int
  pl : Int
  str : List Cell
  since : List (Option Int)
  nb : List Int
  tabs : List (List Int)
  cur : Int
  qu : List Cell
  place : Nat
def optV : Option Int → V
  | none => .non
  | some i => .int i
def lmF (a1 a2 a3 a4 a5 a6 a7 : Addr) (m : LM) : List (Str × V) :=
  [("_width", .int m.wid), ("_planes", .int m.pl), ("_cells", .ref a1), ("_neighbours", .ref a2), ("_stretches", .ref a3), ("_since", .ref a4), ("_nonzero_beside", .ref a5), ("_tables", .ref a6), ("_plane", .int m.cur), ("_queue", .ref a7), ("_place", .int (m.place : Int))]
structure LMK (K : PySem.W.Frag) (C : Addr) : Prop where
  cl : Cls K C
  n0 : NoAttr K C "_width"
  n1 : NoAttr K C "_planes"
  n2 : NoAttr K C "_cells"
  n3 : NoAttr K C "_neighbours"
  n4 : NoAttr K C "_stretches"
  n5 : NoAttr K C "_since"
  n6 : NoAttr K C "_nonzero_beside"
  n7 : NoAttr K C "_tables"
  n8 : NoAttr K C "_plane"
  n9 : NoAttr K C "_queue"
  n10 : NoAttr K C "_place"
/-- the names of the module -/
structure LMC (K : PySem.W.Frag) (mg : Str → Option Value) : Prop where
  near : ∃ t, mg "NEAR" = some (.int 0 t)
  sharp : ∃ t, mg "SHARPER" = some (.int 1 t)
  far : ∃ t, mg "FAR" = some (.int 2 t)
  passes : ∃ t, mg "PASSES" = some (.int 3 t)
  fresh : ∃ t, mg "FRESH_TABLE" = some (.int 3 t)
  old : ∃ t, mg "OLD_TABLE" = some (.int 4 t)
  most : ∃ t, mg "MOST_PLANES" = some (.int 20 t)
  sizes : ∃ R, mg "TABLE_SIZES" = some (.ref R) ∧ ∀ H : Hp, SqT K H R [.int 3, .int 3, .int 3, .int 2, .int 2]
/-- what is the model's own, by kinds: 0 no part of it, 1 never written, else by what it is -/
abbrev Tag := Addr → Nat
structure LMA (tag : Tag) (CT : Addr) (H : Hp) (m : LM) (a1 a2 a3 a4 a5 a6 a7 : Addr) (as ts ls : List Addr) : Prop where
  cells : Objs (fun b => tag b = 1) H a1 (m.cs.map tpc)
  nbrs : Objs (fun b => tag b = 1) H a2 (m.cs.map fun c => natsO (besC m.cs c))
  str : H a3 = some (.lst (as.map V.ref)) ∧ tag a3 = 3 ∧ ObjsA (fun b => tag b = 1) H as (m.str.map tpc)
  since : H a4 = some (.lst (m.since.map optV)) ∧ tag a4 = 4
  nb : H a5 = some (.lst (m.nb.map V.int)) ∧ tag a5 = 5
  tabs : H a6 = some (.lst (ts.map V.ref)) ∧ tag a6 = 1
  lts : ts.length = 5 ∧ ls.length = 5 ∧ m.tabs.length = 5
  tab : ∀ (i : Nat) (t l : Addr) (cs : List Int), ts[i]? = some t → ls[i]? = some l → m.tabs[i]? = some cs → tag t = 10 + i ∧ tag l = 20 + i ∧ TabAt CT H t l cs
  qu : Objs (fun b => tag b = 1) H a7 (m.qu.map tpc)
  sup : ∀ b, H b = none → tag b = 0
def LMAt (tag : Tag) (C CT : Addr) (H : Hp) (x : Addr) (m : LM) : Prop := ∃ dx a1 a2 a3 a4 a5 a6 a7 as ts ls, H x = some (.ins C dx (lmF a1 a2 a3 a4 a5 a6 a7 m)) ∧ tag x = 2 ∧ LMA tag CT H m a1 a2 a3 a4 a5 a6 a7 as ts ls
/-- all stays but what is the model's and written -/
def Frm (tag : Tag) (H H' : Hp) : Prop := ∀ b o, tag b ≤ 1 → H b = some o → H' b = some o
theorem frm_same {tag : Tag} {H H' : Hp} (s : Same H H') : Frm tag H H' := fun b o _ e => s b o e
theorem LMA.same {tag tag' : Tag} {CT : Addr} {H H' : Hp} {m : LM} {a1 a2 a3 a4 a5 a6 a7 : Addr} {as ts ls : List Addr} (h : LMA tag CT H m a1 a2 a3 a4 a5 a6 a7 as ts ls) (s : ∀ b o, tag b ≠ 0 → tag b ≠ 2 → H b = some o → tag' b = tag b ∧ H' b = some o) (sup : ∀ b, H' b = none → tag' b = 0) :
    LMA tag' CT H' m a1 a2 a3 a4 a5 a6 a7 as ts ls := by
  have one : ∀ b o, tag b = 1 → H b = some o → tag' b = 1 ∧ H' b = some o := fun b o n e => by
    obtain ⟨x, y⟩ := s b o (by rw [n]; decide) (by rw [n]; decide) e
    exact ⟨x.trans n, y⟩
  have any : ∀ {n b o}, tag b = n → n ≠ 0 ∧ n ≠ 2 → H b = some o → H' b = some o ∧ tag' b = n := fun {n b o} e z eo => by
    obtain ⟨x, y⟩ := s b o (by rw [e]; exact z.1) (by rw [e]; exact z.2) eo
    exact ⟨y, x.trans e⟩
  refine ⟨h.cells.up one, h.nbrs.up one, ?_, any h.since.2 (by decide) h.since.1, any h.nb.2 (by decide) h.nb.1, any h.tabs.2 (by decide) h.tabs.1, h.lts, fun i t l cs e1 e2 e3 => ?_, h.qu.up one, sup⟩
  · obtain ⟨x, y, z⟩ := h.str
    obtain ⟨p, q⟩ := any y (by decide) x
    exact ⟨p, q, z.up one⟩
  · obtain ⟨g1, g2, dx, g3, g4⟩ := h.tab i t l cs e1 e2 e3
    obtain ⟨p, q⟩ := any g1 (by omega) g3
    obtain ⟨u, v⟩ := any g2 (by omega) g4
    exact ⟨q, v, dx, p, u⟩
theorem LMAt.same {tag tag' : Tag} {C CT x : Addr} {H H' : Hp} {m : LM} (h : LMAt tag C CT H x m) (s : ∀ b o, tag b ≠ 0 → H b = some o → tag' b = tag b ∧ H' b = some o) (sup : ∀ b, H' b = none → tag' b = 0) : LMAt tag' C CT H' x m := by
  obtain ⟨dx, a1, a2, a3, a4, a5, a6, a7, as, ts, ls, hx, tx, hA⟩ := h
  obtain ⟨p, q⟩ := s x _ (by rw [tx]; decide) hx
  exact ⟨dx, a1, a2, a3, a4, a5, a6, a7, as, ts, ls, q, p.trans tx, hA.same (fun b o n _ => s b o n) sup⟩
/-! ### its small methods -/
def fin (m : LM) : Bool := decide (m.place = m.qu.length)
def spFin (C CT : Addr) : Sp := fun vs H Q _ => ∃ (x : Addr) (tag : Tag) (m : LM), vs = [.ref x] ∧ LMAt tag C CT H x m ∧ Q (.bl (fin m)) H
theorem ok_fin {f C CT : Addr} {fd : FuncData} {k : Nat} (F : Fun K "_is_complete" "LineModel._is_complete" s_LineModel_is_complete f fd) (T : Txt mg) (D : LMK K C) : FnOk P w K mg base CX0 (k + 1) f fd ["self"] (spFin C CT) := by
  refine F.ok sc_LineModel_is_complete (fun vs H Q E h => ?_) (fun cdv A outer s H vs Q E hr h => ?_)
  · obtain ⟨x, tag, m, rfl, _⟩ := h
    rfl
  · obtain ⟨x, tag, m, rfl, ⟨dx, a1, a2, a3, a4, a5, a6, a7, as, ts, ls, hx, tx, hA⟩, q⟩ := h
    obtain ⟨_, qs, hq, hQ⟩ := hA.qu
    refine ⟨_, (pss_one (ps_ret (pe_cmpR op_eq (pe_fld (pv 0) rfl) (pe_callB call_len_seq (by rfl) T.z_len PySem.boot_len (pa_cons (pe_fld (pv 0) rfl) pa_nil)) (nomark _)))), ?_⟩
    walk_at "ev"
    refine ⟨x, C, dx, _, .int (m.place : Int), rfl, hx, D.cl, D.n10, rfl, ?_⟩
    walk_at "ev"
    refine ⟨x, C, dx, _, .ref a7, rfl, hx, D.cl, D.n9, rfl, ?_⟩
    walk_at "ev"
    have e : decide (V.int (m.place : Int) = V.int ((qs.map V.ref).length : Nat)) = fin m := by
      unfold fin
      refine decide_eq_decide.mpr ⟨fun z => ?_, fun z => ?_⟩
      · have z := V.int.inj z
        rw [List.length_map, hQ.1, List.length_map] at z
        omega
      · rw [List.length_map, hQ.1, List.length_map, z]
    rw [e]
    exact q
def kindOf (m : LM) (k : Nat) : Int := if (m.since.getD k none).isSome then 1 else if 0 < m.nb.getD k 0 then 0 else 2
theorem at_list {α : Type} {f : α → V} {xs : List α} {k : Nat} {x : α} (h : xs[k]? = some x) : atI (xs.map f) (k : Int) = some (f x) := atI_nat (by rw [List.getElem?_map, h]; rfl)
def spKind (C CT : Addr) : Sp := fun vs H Q _ => ∃ (x : Addr) (tag : Tag) (m : LM) (k : Nat), vs = [.ref x, .int (k : Int)] ∧ LMAt tag C CT H x m ∧ k < m.since.length ∧ k < m.nb.length ∧ Q (.int (kindOf m k)) H
theorem ok_kind {f C CT : Addr} {fd : FuncData} {k : Nat} (F : Fun K "_kind_of" "LineModel._kind_of" s_LineModel_kind_of f fd) (T : Txt mg) (D : LMK K C) (LC : LMC K mg) : FnOk P w K mg base CX0 (k + 1) f fd ["self", "k"] (spKind C CT) := by
  obtain ⟨⟨_, hNEAR⟩, ⟨_, hSHARPER⟩, ⟨_, hFAR⟩, ⟨_, hPASSES⟩, ⟨_, hFRESH⟩, ⟨_, hOLD⟩, ⟨_, hMOST⟩, ⟨RS, hSIZES, hRS⟩⟩ := LC
  refine F.ok sc_LineModel_kind_of (fun vs H Q E h => ?_) (fun cdv A outer s H vs Q E hr h => ?_)
  · obtain ⟨x, tag, m, k, rfl, _⟩ := h
    rfl
  · obtain ⟨x, tag, m, k, rfl, ⟨dx, a1, a2, a3, a4, a5, a6, a7, as, ts, ls, hx, tx, hA⟩, k1, k2, q⟩ := h
    refine ⟨_, (pss_cons (ps_if (pt_cmpR op_notN (pe_ix ix_list (pe_fld (pv 0) rfl) (pv 1) (fun _ _ => rfl)) pe_non (nomark _)) (pss_one (ps_ret (pe_glob (v := .int 1) (by rfl) hSHARPER ⟨_, rfl⟩))) pss_nil)
    (pss_one (ps_ret (pe_ifExp (pt_cmpR op_gt (pe_ix ix_list (pe_fld (pv 0) rfl) (pv 1) (fun _ _ => rfl)) pe_int (nomark _)) (pe_glob (v := .int 0) (by rfl) hNEAR ⟨_, rfl⟩) (pe_glob (v := .int 2) (by rfl) hFAR ⟨_, rfl⟩))))), ?_⟩
    obtain ⟨o, ho⟩ : ∃ o, m.since[k]? = some o := ⟨_, List.getElem?_eq_getElem k1⟩
    obtain ⟨n, hn⟩ : ∃ n, m.nb[k]? = some n := ⟨_, List.getElem?_eq_getElem k2⟩
    have eo : m.since.getD k none = o := by rw [List.getD_eq_getElem?_getD, ho]; rfl
    have en : m.nb.getD k 0 = n := by rw [List.getD_eq_getElem?_getD, hn]; rfl
    have ek : kindOf m k = if o.isSome then 1 else if 0 < n then 0 else 2 := by rw [kindOf, eo, en]
    walk_at "ev"
    refine ⟨x, C, dx, _, .ref a4, rfl, hx, D.cl, D.n5, rfl, ?_⟩
    walk_at "ev"
    refine ⟨_, _, _, _, rfl, rfl, .inl (.inl hA.since.1), at_list ho, ?_⟩
    cases o with
    | some i =>
      rw [ek] at q
      walk_at "ev"
      exact q
    | none =>
      rw [ek] at q
      walk_at "ev"
      refine ⟨x, C, dx, _, .ref a5, rfl, hx, D.cl, D.n6, rfl, ?_⟩
      walk_at "ev"
      refine ⟨_, _, _, _, rfl, rfl, .inl (.inl hA.nb.1), at_list hn, ?_⟩
      walk_at "ev"
      · rename_i hc
        rw [if_neg (show ¬ ((none : Option Int).isSome = true) by decide), if_pos hc] at q
        exact q
      · rename_i hc
        rw [if_neg (show ¬ ((none : Option Int).isSome = true) by decide), if_neg hc] at q
        exact q
def tabNo (m : LM) : Nat := match m.qu[m.place]? with
  | some (kd, k) => if kd ≠ 1 then (if m.nb.getD k.toNat 0 < 2 then (m.nb.getD k.toNat 0).toNat else 2) else if m.since.getD k.toNat none = some (m.cur + 1) then 3 else 4
  | none => 0
/-- what holds of a model at all times -/
structure LMW (m : LM) : Prop where
  few : m.cs.length ≤ 900
  lstr : m.str.length = m.cs.length
  lsince : m.since.length = m.cs.length
  lnb : m.nb.length = m.cs.length
  qk : ∀ c ∈ m.qu, ∃ (q k : Nat), c = ((q : Int), (k : Int)) ∧ q ≤ 2 ∧ k < m.cs.length
  ql : m.qu.length ≤ m.cs.length
  tabs : ∀ (i : Nat) (cs : List Int), m.tabs[i]? = some cs → GoodC cs ∧ cs.length = (if i < 3 then 3 else 2)
  ltab : m.tabs.length = 5
  nb0 : ∀ n ∈ m.nb, 0 ≤ n
  cur : 0 ≤ m.cur ∧ m.cur ≤ 20
  pos : m.place ≤ m.qu.length
theorem LMW.here {m : LM} (W : LMW m) (h : fin m = false) : ∃ (q k : Nat), m.qu[m.place]? = some ((q : Int), (k : Int)) ∧ q ≤ 2 ∧ k < m.cs.length := by
  have hp : m.place < m.qu.length := by
    have := of_decide_eq_false h
    have := W.pos
    omega
  obtain ⟨q, k, e, a, b⟩ := W.qk _ (List.getElem_mem hp)
  exact ⟨q, k, by rw [List.getElem?_eq_getElem hp, e], a, b⟩
theorem tabNo_lt {m : LM} (W : LMW m) : tabNo m < 5 := by
  unfold tabNo
  split
  · split
    · split
      · rename_i h
        omega
      · decide
    · split <;> decide
  · decide
def spTabNo (C CT : Addr) : Sp := fun vs H Q _ => ∃ (x : Addr) (tag : Tag) (m : LM), vs = [.ref x] ∧ LMAt tag C CT H x m ∧ LMW m ∧ fin m = false ∧ Q (.int (tabNo m : Nat)) H
theorem ok_tabno {f C CT : Addr} {fd : FuncData} {k : Nat} (F : Fun K "_table_number" "LineModel._table_number" s_LineModel_table_number f fd) (T : Txt mg) (D : LMK K C) (LC : LMC K mg) : FnOk P w K mg base CX0 (k + 1) f fd ["self"] (spTabNo C CT) := by
  obtain ⟨⟨_, hNEAR⟩, ⟨_, hSHARPER⟩, ⟨_, hFAR⟩, ⟨_, hPASSES⟩, ⟨_, hFRESH⟩, ⟨_, hOLD⟩, ⟨_, hMOST⟩, ⟨RS, hSIZES, hRS⟩⟩ := LC
  refine F.ok sc_LineModel_table_number (fun vs H Q E h => ?_) (fun cdv A outer s H vs Q E hr h => ?_)
  · obtain ⟨x, tag, m, rfl, _⟩ := h
    rfl
  · obtain ⟨x, tag, m, rfl, ⟨dx, a1, a2, a3, a4, a5, a6, a7, as, ts, ls, hx, tx, hA⟩, W, hf, q⟩ := h
    obtain ⟨kd, k, hq, kd2, kn⟩ := W.here hf
    obtain ⟨_, qs, eq, hQ⟩ := hA.qu
    obtain ⟨b, hb, _, hbH⟩ := hQ.get (i := m.place) (o := tpc ((kd : Int), (k : Int))) (by rw [List.getElem?_map, hq]; rfl)
    refine ⟨_, (pss_cons (ps_asg (pe_ix ix_list (pe_fld (pv 0) rfl) (pe_fld (pv 0) rfl) (fun _ _ => rfl)) (pg_tup rfl (pgs_cons (pg_name (i := 1) sc_LineModel_table_number.nd rfl (Or.inl rfl)) (pgs_cons (pg_name (i := 2) sc_LineModel_table_number.nd rfl (Or.inl rfl)) pgs_nil))))
    (pss_cons (ps_if (pt_cmpR op_ne (pv 1) (pe_glob (v := .int 1) (by rfl) hSHARPER ⟨_, rfl⟩) (nomark _)) (pss_one (ps_ret (pe_callB (call_min2 rfl) (by rfl) T.z_min PyProof.Rows.boot_min (pa_cons pe_int (pa_cons (pe_ix ix_list (pe_fld (pv 0) rfl) (pv 2) (fun _ _ => rfl)) pa_nil))))) pss_nil)
    (pss_one (ps_ret (pe_ifExp (pt_cmpR op_eq (pe_ix ix_list (pe_fld (pv 0) rfl) (pv 2) (fun _ _ => rfl)) (pe_op op_add (pe_fld (pv 0) rfl) pe_int) (nomark _)) (pe_glob (v := .int 3) (by rfl) hFRESH ⟨_, rfl⟩) (pe_glob (v := .int 4) (by rfl) hOLD ⟨_, rfl⟩)))))), ?_⟩
    obtain ⟨o, ho⟩ : ∃ o, m.since[k]? = some o := ⟨_, List.getElem?_eq_getElem (by rw [W.lsince]; exact kn)⟩
    obtain ⟨n, hn⟩ : ∃ n, m.nb[k]? = some n := ⟨_, List.getElem?_eq_getElem (by rw [W.lnb]; exact kn)⟩
    have n0 : 0 ≤ n := W.nb0 n (List.mem_of_getElem? hn)
    have eo : m.since.getD ((k : Int)).toNat none = o := by rw [Int.toNat_natCast, List.getD_eq_getElem?_getD, ho]; rfl
    have en : m.nb.getD ((k : Int)).toNat 0 = n := by rw [Int.toNat_natCast, List.getD_eq_getElem?_getD, hn]; rfl
    have ek : tabNo m = if (kd : Int) ≠ 1 then (if n < 2 then n.toNat else 2) else if o = some (m.cur + 1) then 3 else 4 := by
      unfold tabNo
      rw [hq]
      show (if (kd : Int) ≠ 1 then (if m.nb.getD ((k : Int)).toNat 0 < 2 then (m.nb.getD ((k : Int)).toNat 0).toNat else 2) else if m.since.getD ((k : Int)).toNat none = some (m.cur + 1) then 3 else 4) = _
      rw [eo, en]
    rw [ek] at q
    walk_at "ev"
    refine ⟨x, C, dx, _, .ref a7, rfl, hx, D.cl, D.n9, rfl, ?_⟩
    walk_at "ev"
    refine ⟨x, C, dx, _, .int (m.place : Int), rfl, hx, D.cl, D.n10, rfl, ?_⟩
    walk_at "ev"
    refine ⟨_, _, _, _, rfl, rfl, .inl (.inl eq), at_list hb, ?_⟩
    refine ⟨b, _, rfl, .inl (.inl hbH), rfl, ?_⟩
    walk_at "ev"
    · rename_i hc
      refine ⟨x, C, dx, _, .ref a5, rfl, hx, D.cl, D.n6, rfl, ?_⟩
      walk_at "ev"
      refine ⟨_, _, _, _, rfl, rfl, .inl (.inl hA.nb.1), at_list hn, ?_⟩
      walk_at "ev"
      have hc' : (kd : Int) ≠ 1 := by
        intro z
        rw [z] at hc
        exact hc rfl
      rw [if_pos hc'] at q
      have e : (((if n < 2 then n.toNat else 2 : Nat)) : Int) = if n < 2 then n else 2 := by
        split <;> omega
      rw [e] at q
      exact q
    · rename_i hc
      rw [if_neg hc] at q
      refine ⟨x, C, dx, _, .ref a4, rfl, hx, D.cl, D.n5, rfl, ?_⟩
      walk_at "ev"
      refine ⟨_, _, _, _, rfl, rfl, .inl (.inl hA.since.1), at_list ho, ?_⟩
      walk_at "ev"
      refine ⟨x, C, dx, _, .int m.cur, rfl, hx, D.cl, D.n8, rfl, ?_⟩
      walk_at "ev"
      cases o with
      | none =>
        rw [if_neg (by intro z; cases z)] at q
        walk_at "ev"
        exact q
      | some i =>
        walk_at "ev"
        · rename_i hz
          rw [if_pos (congrArg some (V.int.inj hz))] at q
          exact q
        · rename_i hz
          rw [if_neg (fun y => hz (congrArg V.int (Option.some.inj y)))] at q
          exact q
/-! ### a plane begins -/
def passL (m : LM) (n : Nat) (q : Int) : List Nat := (List.range n).filter fun k => decide (kindOf m k = q)
theorem passL_succ (m : LM) (n : Nat) (q : Int) : passL m (n + 1) q = passL m n q ++ if kindOf m n = q then [n] else [] := by
  rw [passL, List.range_succ, List.filter_append]
  show _ ++ List.filter _ [n] = _
  by_cases h : kindOf m n = q
  · rw [if_pos h, List.filter_cons_of_pos (by rw [h]; exact decide_eq_true rfl)]
    rfl
  · rw [if_neg h, List.filter_cons_of_neg (by rw [decide_eq_true_eq]; exact h)]
    rfl
theorem passL_len (m : LM) (n : Nat) (q : Int) : (passL m n q).length ≤ n := by
  have := List.length_filter_le (fun k => decide (kindOf m k = q)) (List.range n)
  rw [List.length_range] at this
  exact this
theorem kindOf_3 (m : LM) (k : Nat) : kindOf m k = 0 ∨ kindOf m k = 1 ∨ kindOf m k = 2 := by
  unfold kindOf
  split
  · exact .inr (.inl rfl)
  · split
    · exact .inl rfl
    · exact .inr (.inr rfl)
theorem passL_sum (m : LM) : ∀ n, (passL m n 0).length + (passL m n 1).length + (passL m n 2).length = n
  | 0 => rfl
  | n + 1 => by
    have ih := passL_sum m n
    rw [passL_succ, passL_succ, passL_succ, List.length_append, List.length_append, List.length_append]
    rcases kindOf_3 m n with e | e | e
    · rw [e, if_pos rfl, if_neg (by decide), if_neg (by decide)]
      show _ + 1 + (_ + 0) + (_ + 0) = _
      omega
    · rw [e, if_neg (by decide), if_pos rfl, if_neg (by decide)]
      show _ + 0 + (_ + 1) + (_ + 0) = _
      omega
    · rw [e, if_neg (by decide), if_neg (by decide), if_pos rfl]
      show _ + 0 + (_ + 0) + (_ + 1) = _
      omega
def quL (m : LM) (n : Nat) (q : Int) : List Cell := (passL m n q).map fun (k : Nat) => (q, (k : Int))
def quP (m : LM) (n : Nat) : Nat → List Cell
  | 0 => []
  | i + 1 => quP m n i ++ quL m n (i : Int)
theorem quL_len (m : LM) (n : Nat) (q : Int) : (quL m n q).length = (passL m n q).length := List.length_map _
theorem quP_len (m : LM) (n : Nat) : ∀ i, i ≤ 3 → (quP m n i).length ≤ n := fun i hi => by
  have h := passL_sum m n
  match i, hi with
  | 0, _ => exact Nat.zero_le _
  | 1, _ =>
    show ([] ++ quL m n 0).length ≤ n
    rw [List.nil_append, quL_len]
    omega
  | 2, _ =>
    show ([] ++ quL m n 0 ++ quL m n 1).length ≤ n
    rw [List.nil_append, List.length_append, quL_len, quL_len]
    omega
  | 3, _ =>
    show ([] ++ quL m n 0 ++ quL m n 1 ++ quL m n 2).length ≤ n
    rw [List.nil_append, List.length_append, List.length_append, quL_len, quL_len, quL_len]
    omega
def begin (m : LM) : LM := { m with cur := m.cur - 1, qu := quP m m.cs.length 3, place := 0 }
/-- what is new becomes the model's own, never to be written -/
def tagN (tag : Tag) (H H' : Hp) : Tag := fun b => match H b with
  | some _ => tag b
  | none => match H' b with
    | some _ => 1
    | none => 0
theorem tagN_old {tag : Tag} {H H' : Hp} {b : Addr} {o : HO} (h : H b = some o) : tagN tag H H' b = tag b := by
  unfold tagN
  rw [h]
theorem tagN_new {tag : Tag} {H H' : Hp} {b : Addr} {o : HO} (h : H b = none) (h' : H' b = some o) : tagN tag H H' b = 1 := by
  unfold tagN
  rw [h, h']
theorem tagN_none {tag : Tag} {H H' : Hp} {b : Addr} (m : ∀ b, H' b = none → H b = none) (h : H' b = none) : tagN tag H H' b = 0 := by
  unfold tagN
  rw [m b h, h]
/-- what is promised of all that a method leaves -/
def Leaves (tag : Tag) (C CT : Addr) (H : Hp) (x : Addr) (m' : LM) (Q : VK) : Prop := ∀ (H' : Hp) (tag' : Tag), Frm tag H H' → (∀ b, H' b = none → H b = none) → (∀ b o, H b = some o → tag' b = tag b) → LMAt tag' C CT H' x m' → Q .non H'
theorem lst3 {k : Int} {p0 p1 p2 : Addr} (h : k = 0 ∨ k = 1 ∨ k = 2) : ∃ p, atI [V.ref p0, V.ref p1, V.ref p2] k = some (.ref p) ∧ p = (if k = 0 then p0 else if k = 1 then p1 else p2) := by
  rcases h with rfl | rfl | rfl
  · exact ⟨p0, rfl, rfl⟩
  · exact ⟨p1, rfl, rfl⟩
  · exact ⟨p2, rfl, rfl⟩
def spBegin (C CT : Addr) : Sp := fun vs H Q _ => ∃ (x : Addr) (tag : Tag) (m : LM), vs = [.ref x] ∧ LMAt tag C CT H x m ∧ m.since.length = m.cs.length ∧ m.nb.length = m.cs.length ∧ m.cs.length ≤ 900 ∧ Leaves tag C CT H x (begin m) Q
theorem ok_begin {f C CT : Addr} {fd : FuncData} {k : Nat} (F : Fun K "_begin_plane" "LineModel._begin_plane" s_LineModel_begin_plane f fd) (T : Txt mg) (D : LMK K C) (LC : LMC K mg) (M_kind : CalM P w K mg base 1 C "_kind_of" ["k"] (spKind C CT)) : FnOk P w K mg base CX0 (k + 2) f fd ["self"] (spBegin C CT) := by
  obtain ⟨⟨_, hNEAR⟩, ⟨_, hSHARPER⟩, ⟨_, hFAR⟩, ⟨_, hPASSES⟩, ⟨_, hFRESH⟩, ⟨_, hOLD⟩, ⟨_, hMOST⟩, ⟨RS, hSIZES, hRS⟩⟩ := LC
  refine F.ok sc_LineModel_begin_plane (fun vs H Q E h => ?_) (fun cdv A outer s H vs Q E hr h => ?_)
  · obtain ⟨x, tag, m, rfl, _⟩ := h
    rfl
  · obtain ⟨x, tag, m, rfl, ⟨dx, a1, a2, a3, a4, a5, a6, a7, as, ts, ls, hx, tx, hA⟩, l1, l2, few, q⟩ := h
    refine ⟨_, (pss_cons (ps_fldaug (pv 0) pe_int in_sub)
    (pss_cons (ps_set (i := 1) sc_LineModel_begin_plane.nd rfl (Or.inr rfl) (pe_lst (pa_cons (pe_lst pa_nil) (pa_cons (pe_lst pa_nil) (pa_cons (pe_lst pa_nil) pa_nil)))))
    (pss_cons (ps_for PassesOwn.never rfl (pi_range1 (by rfl) T.z_range (pa_cons (pe_callB call_len_seq (by rfl) T.z_len PySem.boot_len (pa_cons (pe_fld (pv 0) rfl) pa_nil)) pa_nil)) (pg_name (i := 2) sc_LineModel_begin_plane.nd rfl (Or.inl rfl))
      (pss_one (ps_expr (pe_bm PySem.F.plainAttrs_list PySem.F.slot_list_append PySem.F.type_list_append mt_append (pe_ix ix_list (pv 1) (pe_mx M_kind D.cl hr (by omega) passN (pv 0) (pa_cons (pv 2) pa_nil)) (fun _ _ => rfl)) (pa_cons (pv 2) pa_nil)))))
    (pss_cons (ps_fld (pv 0) (pe_lc2 (own := [("kind", 3), ("k", 2)]) (vs1 := [2]) (g := (gName 3)) (g1 := (gName 2)) (tt := tYes) (tt1 := tYes) rfl sc_LineModel_begin_plane.nd (pi_range1 (by rfl) T.z_range (pa_cons (pe_glob (v := .int 3) (by rfl) hPASSES ⟨_, rfl⟩) pa_nil)) (blkOk_by (N := ["self", "passes", "k", "kind"]) (sc := defScope s_LineModel_begin_plane) (by decide +kernel)) (by decide) (fun _ _ _ _ _ => pg_name (i := 3) sc_LineModel_begin_plane.nd rfl (by first | exact Or.inl rfl | exact Or.inr rfl)) (fun _ _ _ _ _ => pts_nil) (fun _ _ _ _ _ => (pi_listC (K := K) rfl (pe_ix (ix_list : IxR _ (rIxL K)) (pv 1) (pv 3) (fun _ _ => rfl)))) (fun _ _ _ _ _ => pg_name (i := 2) sc_LineModel_begin_plane.nd rfl (by first | exact Or.inl rfl | exact Or.inr rfl)) (fun _ _ _ _ _ => pts_nil) (fun _ _ _ _ _ => (pe_tup (pa_cons (pv 3) (pa_cons (pv 2) pa_nil))))) rfl)
    (pss_one (ps_fld (pv 0) pe_int rfl)))))), ?_⟩
    walk_at "ev"
    refine ⟨x, C, dx, _, .int m.cur, rfl, hx, D.cl, D.n8, rfl, ?_⟩
    walk_at "ev"
    refine ⟨dx, _, hx, by show 11 < 1000; decide, ?_⟩
    have hx1 : upd H x (.ins C dx (lmF a1 a2 a3 a4 a5 a6 a7 { m with cur := m.cur - 1 })) x = some (.ins C dx (lmF a1 a2 a3 a4 a5 a6 a7 { m with cur := m.cur - 1 })) := upd_same
    have o1 : ∀ b, b ≠ x → upd H x (.ins C dx (lmF a1 a2 a3 a4 a5 a6 a7 { m with cur := m.cur - 1 })) b = H b := fun b n => upd_ne n
    show tSeq _ _ _ _ (upd H x (.ins C dx (lmF a1 a2 a3 a4 a5 a6 a7 { m with cur := m.cur - 1 })))
    generalize upd H x (.ins C dx (lmF a1 a2 a3 a4 a5 a6 a7 { m with cur := m.cur - 1 })) = H1 at hx1 o1 ⊢
    have nx : ∀ {b : Addr} {n : Nat}, tag b = n → n ≠ 2 → b ≠ x := fun e z y => z (by rw [← e, y, tx])
    have hA1 : LMA tag CT H1 { m with cur := m.cur - 1 } a1 a2 a3 a4 a5 a6 a7 as ts ls := by
      have h0 := hA.same (tag' := tag) (H' := H1) (fun b o n0 n2 e => ⟨rfl, (o1 b (nx rfl n2)).trans e⟩) (fun b e => hA.sup b ((o1 b (fun z => by rw [z, hx1] at e; cases e)).symm.trans e))
      exact ⟨h0.cells, h0.nbrs, h0.str, h0.since, h0.nb, h0.tabs, h0.lts, h0.tab, h0.qu, h0.sup⟩
    have fr1 : ∀ b, H1 b = none → H b = none := fun b e => (o1 b (fun z => by rw [z, hx1] at e; cases e)).symm.trans e
    walk_at "ev"
    refine ⟨(by show 0 ≤ sizeLine; decide), fun p0 n0 => ?_⟩
    walk_at "ev"
    refine ⟨(by show 0 ≤ sizeLine; decide), fun p1 n1 => ?_⟩
    walk_at "ev"
    refine ⟨(by show 0 ≤ sizeLine; decide), fun p2 n2 => ?_⟩
    walk_at "ev"
    refine ⟨(by show 3 ≤ sizeLine; decide), fun pP nP => ?_⟩
    have d01 : p0 ≠ p1 := (ne_of_none upd_same n1)
    have d02 : p0 ≠ p2 := (ne_of_none (new_at upd_same n1) n2)
    have d12 : p1 ≠ p2 := (ne_of_none upd_same n2)
    have d0P : p0 ≠ pP := (ne_of_none (new_at (new_at upd_same n1) n2) nP)
    have d1P : p1 ≠ pP := (ne_of_none (new_at upd_same n2) nP)
    have d2P : p2 ≠ pP := (ne_of_none upd_same nP)
    have s1 := same_upd (o := .lst []) n0
    have s2 := s1.trans (same_upd (o := .lst []) n1)
    have s3 := s2.trans (same_upd (o := .lst []) n2)
    have s4 := s3.trans (same_upd (o := .lst [.ref p0, .ref p1, .ref p2]) nP)
    have f0 := n0
    have f1 := s1.free n1
    have f2 := s2.free n2
    have fP := s3.free nP
    have e0 := new_at (o' := .lst [.ref p0, .ref p1, .ref p2]) (new_at (o' := .lst []) (new_at (o' := .lst []) (upd_same (H := H1) (a := p0) (o := .lst [])) n1) n2) nP
    have e1 := new_at (o' := .lst [.ref p0, .ref p1, .ref p2]) (new_at (o' := .lst []) (upd_same (H := upd H1 p0 (.lst [])) (a := p1) (o := .lst [])) n2) nP
    have e2 := new_at (o' := .lst [.ref p0, .ref p1, .ref p2]) (upd_same (H := upd (upd H1 p0 (.lst [])) p1 (.lst [])) (a := p2) (o := .lst [])) nP
    have eP := upd_same (H := upd (upd (upd H1 p0 (.lst [])) p1 (.lst [])) p2 (.lst [])) (a := pP) (o := .lst [.ref p0, .ref p1, .ref p2])
    generalize upd (upd (upd (upd H1 p0 (.lst [])) p1 (.lst [])) p2 (.lst [])) pP (.lst [.ref p0, .ref p1, .ref p2]) = H5 at s4 e0 e1 e2 eP ⊢
    clear n0 n1 n2 nP s1 s2 s3
    walk_at "ev"
    obtain ⟨tc, cl, ec, hC⟩ := hA1.cells
    have lcl : cl.length = m.cs.length := by rw [hC.1, List.length_map]
    refine ⟨x, C, dx, _, .ref a1, rfl, s4 _ _ hx1, D.cl, D.n2, rfl, ?_⟩
    walk_at "ev"
    refine ⟨_, _, rfl, .inl (.inl (.inl (s4 _ _ ec))), ?_⟩
    walk_at "ev"
    refine ⟨by rw [List.length_map]; omega, by rw [List.length_map]; omega, ?_⟩
    rw [show (((cl.map V.ref).length : Nat) : Int).toNat = m.cs.length by rw [List.length_map, lcl]; omega]
    refine for_range (fun i σ G => ∃ v2 v3, σ = [some (.ref x), some (.ref pP), v2, v3] ∧ Same H1 G ∧ G pP = some (.lst [.ref p0, .ref p1, .ref p2]) ∧ G p0 = some (natsO (passL m i 0)) ∧ G p1 = some (natsO (passL m i 1)) ∧ G p2 = some (natsO (passL m i 2))) ⟨_, _, rfl, s4, eP, e0, e1, e2⟩ ?_ ?_
    · rintro i σ G hi ⟨v2, v3, rfl, sG, gP, g0, g1, g2⟩
      have hAG := hA1.same (tag' := tag) (H' := G) (fun b o _ _ e => ⟨rfl, sG _ _ e⟩) (fun b e => hA1.sup b (sG.free e))
      walk_at "ev"
      refine ⟨x, dx, _, rfl, sG _ _ hx1, ?_⟩
      walk_at "ev"
      refine ⟨x, tag, { m with cur := m.cur - 1 }, i, by rw [Int.zero_add]; rfl, ⟨dx, a1, a2, a3, a4, a5, a6, a7, as, ts, ls, sG _ _ hx1, tx, hAG⟩, ?_, ?_, ?_⟩
      · show i < m.since.length
        omega
      · show i < m.nb.length
        omega
      obtain ⟨pk, hpk, epk⟩ := lst3 (p0 := p0) (p1 := p1) (p2 := p2) (kindOf_3 m i)
      show rIxL _ _ (V.int (kindOf m i)) _ _
      refine ⟨_, _, _, _, rfl, rfl, .inl (.inl gP), hpk, ?_⟩
      have lo : ∀ q, (passL m i q).length < sizeLine := fun q => small1000 (by have := passL_len m i q; omega)
      have nl : ∀ q, ((passL m i q).map natV).length < sizeLine := fun q => by rw [List.length_map]; exact lo q
      have snoc : ∀ q, kindOf m i = q → HO.lst ((passL m i q).map natV ++ [V.int (0 + (i : Int))]) = natsO (passL m (i + 1) q) := fun q e => by
        rw [natsO, passL_succ, if_pos e, List.map_append, Int.zero_add]
        rfl
      have keep : ∀ q, kindOf m i ≠ q → passL m (i + 1) q = passL m i q := fun q e => by rw [passL_succ, if_neg e, List.append_nil]
      rcases kindOf_3 m i with e | e | e
      · rw [e, if_pos rfl] at epk
        subst epk
        refine ⟨.inl ⟨rfl, _, .inl (.inl g0)⟩, ?_⟩
        walk_at "ev"
        refine ⟨pk, _, _, rfl, rfl, g0, nl 0, ?_⟩
        refine ⟨_, _, rfl, fun b o z => ?_, ?_, ?_, ?_, ?_⟩
        · rw [upd_ne (ne_of_none z f0)]
          exact sG _ _ z
        · rw [upd_ne d0P.symm]
          exact gP
        · rw [upd_same, snoc 0 e]
        · rw [upd_ne d01.symm, keep 1 (by rw [e]; decide)]
          exact g1
        · rw [upd_ne d02.symm, keep 2 (by rw [e]; decide)]
          exact g2
      · rw [e, if_neg (by decide), if_pos rfl] at epk
        subst epk
        refine ⟨.inl ⟨rfl, _, .inl (.inl g1)⟩, ?_⟩
        walk_at "ev"
        refine ⟨pk, _, _, rfl, rfl, g1, nl 1, ?_⟩
        refine ⟨_, _, rfl, fun b o z => ?_, ?_, ?_, ?_, ?_⟩
        · rw [upd_ne (ne_of_none z f1)]
          exact sG _ _ z
        · rw [upd_ne d1P.symm]
          exact gP
        · rw [upd_ne d01, keep 0 (by rw [e]; decide)]
          exact g0
        · rw [upd_same, snoc 1 e]
        · rw [upd_ne d12.symm, keep 2 (by rw [e]; decide)]
          exact g2
      · rw [e, if_neg (by decide), if_neg (by decide)] at epk
        subst epk
        refine ⟨.inl ⟨rfl, _, .inl (.inl g2)⟩, ?_⟩
        walk_at "ev"
        refine ⟨pk, _, _, rfl, rfl, g2, nl 2, ?_⟩
        refine ⟨_, _, rfl, fun b o z => ?_, ?_, ?_, ?_, ?_⟩
        · rw [upd_ne (ne_of_none z f2)]
          exact sG _ _ z
        · rw [upd_ne d2P.symm]
          exact gP
        · rw [upd_ne d02, keep 0 (by rw [e]; decide)]
          exact g0
        · rw [upd_ne d12, keep 1 (by rw [e]; decide)]
          exact g1
        · rw [upd_same, snoc 2 e]
    · rintro σ G ⟨v2, v3, rfl, sG, gP, g0, g1, g2⟩
      walk_at "ev"
      refine ⟨by decide, by decide, fun Dq nD => ?_⟩
      rw [show ((3 : Int)).toNat = 3 from rfl]
      have gp : ∀ (i : Nat), i < 3 → ∃ p, atI [V.ref p0, V.ref p1, V.ref p2] (i : Int) = some (.ref p) ∧ G p = some (natsO (passL m m.cs.length (i : Int))) := fun i hi => by
        match i, hi with
        | 0, _ => exact ⟨p0, rfl, g0⟩
        | 1, _ => exact ⟨p1, rfl, g1⟩
        | 2, _ => exact ⟨p2, rfl, g2⟩
      refine lc2_it walk_range (fun i G2 => Same G G2 ∧ ∃ qs, G2 Dq = some (.lst (qs.map V.ref)) ∧ ObjsA (fun b => G b = none ∧ b ≠ Dq) G2 qs ((quP m m.cs.length i).map tpc)) ⟨same_upd nD, [], upd_same, .nil⟩ (fun _ _ _ _ => trivial) ?_ ?_
      · rintro i y G2 G3 hi ⟨sG2, qs, eq, hQ⟩ ⟨rfl, rfl⟩
        obtain ⟨pi, hpi, gpi⟩ := gp i hi
        walk_at "ev"
        refine ⟨_, _, _, _, rfl, rfl, .inl (.inl (sG2 _ _ gP)), by rw [Int.zero_add]; exact hpi, ?_⟩
        refine ⟨pi, rfl, ⟨_, .inl (.inl (sG2 _ _ gpi))⟩, ?_⟩
        refine lc2_in (walk_list (xs := (passL m m.cs.length (i : Int)).map natV)) (fun j G4 => Same G G4 ∧ ∃ qs, G4 Dq = some (.lst (qs.map V.ref)) ∧ ObjsA (fun b => G b = none ∧ b ≠ Dq) G4 qs ((quP m m.cs.length i ++ (quL m m.cs.length (i : Int)).take j).map tpc)) ⟨sG2, qs, eq, by rw [List.take_zero, List.append_nil]; exact hQ⟩ (fun j G4 _ h => .inl (.inl (h.1 _ _ gpi))) ?_ ?_
        · rintro j y G4 G5 hj ⟨s4', ks, ek, hK⟩ ⟨rfl, hy⟩
          rw [List.length_map] at hj
          obtain ⟨kk, hkk⟩ : ∃ kk, (passL m m.cs.length (i : Int))[j]? = some kk := ⟨_, List.getElem?_eq_getElem hj⟩
          rw [List.getElem?_map, hkk] at hy
          obtain rfl := Option.some.inj hy
          walk_at "ev"
          refine ⟨(by show 2 ≤ sizeLine; decide), fun t nt => ?_⟩
          have ntD : t ≠ Dq := fun z => by
            rw [z, ek] at nt
            cases nt
          have hqu : (quL m m.cs.length (i : Int))[j]? = some ((i : Int), (kk : Int)) := by rw [quL, List.getElem?_map, hkk]; rfl
          have lks : ks.length ≤ 900 := by
            have a := quP_len m m.cs.length (i + 1) (by omega)
            rw [show quP m m.cs.length (i + 1) = quP m m.cs.length i ++ quL m m.cs.length (i : Int) from rfl, List.length_append] at a
            rw [hK.1, List.length_map, List.length_append, List.length_take]
            omega
          refine ⟨_, new_at ek nt, small1000 (by rw [List.length_map]; omega), fun b o e => ?_, ks ++ [t], by rw [upd_same, List.map_append]; rfl, ?_⟩
          · rw [upd_ne (ne_of_none e nD), upd_ne (ne_of_none (s4' _ _ e) nt)]
            exact s4' _ _ e
          · rw [← take_snoc hqu, ← List.append_assoc, List.map_append]
            refine (hK.up fun b o n e => ⟨n, ?_⟩).app ⟨s4'.free nt, ntD⟩ ?_
            · rw [upd_ne n.2, upd_ne (ne_of_none e nt)]
              exact e
            · rw [upd_ne ntD, upd_same]
              show some (HO.tup [V.int (0 + (i : Int)), natV kk]) = some (tpc ((i : Int), (kk : Int)))
              rw [Int.zero_add]
              rfl
        · rintro G4 ⟨s4', ks, ek, hK⟩
          rw [List.length_map, ← quL_len, List.take_length] at hK
          exact ⟨s4', ks, ek, hK⟩
      · rintro G2 ⟨sG2, qs, eq, hQ⟩
        walk_at "ev"
        have hx2 := sG2 _ _ (sG _ _ hx1)
        have s12 := sG.trans sG2
        refine ⟨x, C, dx, _, rfl, hx2, D.cl, D.n9, by show 11 < 1000; decide, ?_⟩
        walk_at "ev"
        refine ⟨x, C, dx, _, rfl, upd_same, D.cl, D.n10, by show 11 < 1000; decide, ?_⟩
        have hxf : ∀ (G : Hp), (upd (upd G x (.ins C dx (putF "_queue" (.ref Dq) (lmF a1 a2 a3 a4 a5 a6 a7 { m with cur := m.cur - 1 })))) x (.ins C dx (putF "_place" (.int 0) (putF "_queue" (.ref Dq) (lmF a1 a2 a3 a4 a5 a6 a7 { m with cur := m.cur - 1 }))))) x = some (.ins C dx (lmF a1 a2 a3 a4 a5 a6 Dq (begin m))) := fun G => upd_same
        have hof : ∀ (G : Hp) (b : Addr), b ≠ x → (upd (upd G x (.ins C dx (putF "_queue" (.ref Dq) (lmF a1 a2 a3 a4 a5 a6 a7 { m with cur := m.cur - 1 })))) x (.ins C dx (putF "_place" (.int 0) (putF "_queue" (.ref Dq) (lmF a1 a2 a3 a4 a5 a6 a7 { m with cur := m.cur - 1 }))))) b = G b := fun G b n => by rw [upd_ne n, upd_ne n]
        have hxf := hxf G2
        have hof := hof G2
        show Q .non (upd (upd G2 x (.ins C dx (putF "_queue" (.ref Dq) (lmF a1 a2 a3 a4 a5 a6 a7 { m with cur := m.cur - 1 })))) x (.ins C dx (putF "_place" (.int 0) (putF "_queue" (.ref Dq) (lmF a1 a2 a3 a4 a5 a6 a7 { m with cur := m.cur - 1 })))))
        generalize upd (upd G2 x (.ins C dx (putF "_queue" (.ref Dq) (lmF a1 a2 a3 a4 a5 a6 a7 { m with cur := m.cur - 1 })))) x (.ins C dx (putF "_place" (.int 0) (putF "_queue" (.ref Dq) (lmF a1 a2 a3 a4 a5 a6 a7 { m with cur := m.cur - 1 })))) = Hf at hxf hof ⊢
        have nxf : ∀ b, Hf b = none → b ≠ x := fun b e z => by
          rw [z, hxf] at e
          cases e
        have fromH : ∀ b o, b ≠ x → H b = some o → Hf b = some o := fun b o n e => (hof b n).trans (s12 _ _ ((o1 b n).trans e))
        have dom : ∀ b, Hf b = none → H b = none := fun b e => fr1 b (s12.free ((hof b (nxf b e)).symm.trans e))
        have G2x : ∀ b, G b = none → b ≠ x := fun b e z => by
          rw [z, sG _ _ hx1] at e
          cases e
        have HG : ∀ b, G b = none → H b = none := fun b e => fr1 b (sG.free e)
        refine q Hf (tagN tag H Hf) (fun b o n e => fromH b o (fun z => by rw [z, tx] at n; exact absurd n (by decide)) e) dom (fun b o e => tagN_old e) ?_
        have hB := hA.same (tag' := tagN tag H Hf) (H' := Hf) (fun b o n0 n2 e => ⟨tagN_old e, fromH b o (nx rfl n2) e⟩) (fun b e => tagN_none dom e)
        refine ⟨dx, a1, a2, a3, a4, a5, a6, Dq, as, ts, ls, hxf, (tagN_old hx).trans tx, hB.cells, hB.nbrs, hB.str, hB.since, hB.nb, hB.tabs, hB.lts, hB.tab, ?_, hB.sup⟩
        have hD : Hf Dq = some (.lst (qs.map V.ref)) := (hof Dq (G2x _ nD)).trans eq
        refine ⟨tagN_new (HG _ nD) hD, qs, hD, hQ.up fun b o n e => ?_⟩
        have hb : Hf b = some o := (hof b (G2x _ n.1)).trans e
        exact ⟨tagN_new (HG _ n.1) hb, hb⟩
/-! ### a letter told of a cell -/
def halfOf (m : LM) : Int := 2 ^ m.cur.toNat
def sharpC (m : LM) (c : Cell) (j : Int) : Cell := if (decide (0 < c.1)) = (decide (j = 1)) then (c.1 + halfOf m, c.2) else (c.1, c.2 - halfOf m)
def sharp (m : LM) (k : Nat) (j : Int) : LM := { m with str := m.str.set k (sharpC m (m.str.getD k (0, 0)) j) }
/-- one stretch is written anew -/
theorem LMA.put {tag tag' : Tag} {CT : Addr} {H H' : Hp} {m : LM} {a1 a2 a3 a4 a5 a6 a7 : Addr} {as ts ls : List Addr} (h : LMA tag CT H m a1 a2 a3 a4 a5 a6 a7 as ts ls) {k : Nat} {t : Addr} {c : Cell} (s : ∀ b o, tag b ≠ 0 → tag b ≠ 2 → tag b ≠ 3 → H b = some o → tag' b = tag b ∧ H' b = some o) (sup : ∀ b, H' b = none → tag' b = 0)
    (e3 : H' a3 = some (.lst ((as.map V.ref).set k (.ref t)))) (t3 : tag' a3 = 3) (et : H' t = some (tpc c)) (tt : tag' t = 1) :
    LMA tag' CT H' { m with str := m.str.set k c } a1 a2 a3 a4 a5 a6 a7 (as.set k t) ts ls := by
  have one : ∀ b o, tag b = 1 → H b = some o → tag' b = 1 ∧ H' b = some o := fun b o n e => by
    obtain ⟨x, y⟩ := s b o (by rw [n]; decide) (by rw [n]; decide) (by rw [n]; decide) e
    exact ⟨x.trans n, y⟩
  have any : ∀ {n b o}, tag b = n → n ≠ 0 ∧ n ≠ 2 ∧ n ≠ 3 → H b = some o → H' b = some o ∧ tag' b = n := fun {n b o} e z eo => by
    obtain ⟨x, y⟩ := s b o (by rw [e]; exact z.1) (by rw [e]; exact z.2.1) (by rw [e]; exact z.2.2) eo
    exact ⟨y, x.trans e⟩
  refine ⟨h.cells.up one, h.nbrs.up one, ⟨by rw [e3, List.map_set], t3, ?_⟩, any h.since.2 (by decide) h.since.1, any h.nb.2 (by decide) h.nb.1, any h.tabs.2 (by decide) h.tabs.1, h.lts, fun i t l cs e1 e2 e3 => ?_, h.qu.up one, sup⟩
  · have hS := h.str.2.2.up one
    refine ⟨by rw [List.length_set, hS.1, List.length_map, List.length_map, List.length_set], fun i b o e1 e2 => ?_⟩
    rw [List.map_set] at e2
    rw [List.getElem?_set] at e1 e2
    by_cases z : k = i
    · subst z
      rw [if_pos rfl] at e1 e2
      split at e1
      · obtain rfl := Option.some.inj e1
        split at e2
        · obtain rfl := Option.some.inj e2
          exact ⟨tt, et⟩
        · cases e2
      · cases e1
    · rw [if_neg z] at e1 e2
      exact hS.2 i b o e1 e2
  · obtain ⟨g1, g2, dx, g3, g4⟩ := h.tab i t l cs e1 e2 e3
    obtain ⟨p, q⟩ := any g1 (by omega) g3
    obtain ⟨u, v⟩ := any g2 (by omega) g4
    exact ⟨q, v, dx, p, u⟩
theorem ixn {α : Type} {xs : List α} {k : Nat} (h : k < xs.length) : ixN xs.length (k : Int) = some k := by
  unfold ixN
  rw [if_pos (by omega), if_pos (by omega)]
  rfl
def spSharp (C CT : Addr) : Sp := fun vs H Q _ => ∃ (x : Addr) (tag : Tag) (m : LM) (k : Nat) (j : Int), vs = [.ref x, .int (k : Int), .int j] ∧ LMAt tag C CT H x m ∧ k < m.str.length ∧ 0 ≤ m.cur ∧ m.cur ≤ 20 ∧ Leaves tag C CT H x (sharp m k j) Q
theorem ok_sharp {f C CT : Addr} {fd : FuncData} {k : Nat} (F : Fun K "_sharpen" "LineModel._sharpen" s_LineModel_sharpen f fd) (T : Txt mg) (D : LMK K C) : FnOk P w K mg base CX0 (k + 1) f fd ["self", "k", "letter"] (spSharp C CT) := by
  refine F.ok sc_LineModel_sharpen (fun vs H Q E h => ?_) (fun cdv A outer s H vs Q E hr h => ?_)
  · obtain ⟨x, tag, m, k, j, rfl, _⟩ := h
    rfl
  · obtain ⟨x, tag, m, k, j, rfl, ⟨dx, a1, a2, a3, a4, a5, a6, a7, as, ts, ls, hx, tx, hA⟩, kn, c0, c20, q⟩ := h
    refine ⟨_, (pss_cons (ps_asg (pe_ix ix_list (pe_fld (pv 0) rfl) (pv 1) (fun _ _ => rfl)) (pg_tup rfl (pgs_cons (pg_name (i := 3) sc_LineModel_sharpen.nd rfl (Or.inl rfl)) (pgs_cons (pg_name (i := 4) sc_LineModel_sharpen.nd rfl (Or.inl rfl)) pgs_nil))))
    (pss_cons (ps_set (i := 5) sc_LineModel_sharpen.nd rfl (Or.inl rfl) (pe_op op_shl pe_int (pe_fld (pv 0) rfl)))
    (pss_one (ps_if (pt_cmpR op_eq (pe_cmpR op_gt (pv 3) pe_int (nomark _)) (pe_cmpR op_eq (pv 2) pe_int (nomark _)) (nomark _)) (pss_one (ps_asg (pe_tup (pa_cons (pe_op op_add (pv 3) (pv 5)) (pa_cons (pv 4) pa_nil))) (pg_sub (pe_fld (pv 0) rfl) (pv 1) set_list))) (pss_one (ps_asg (pe_tup (pa_cons (pv 3) (pa_cons (pe_op op_sub (pv 4) (pv 5)) pa_nil))) (pg_sub (pe_fld (pv 0) rfl) (pv 1) set_list))))))), ?_⟩
    obtain ⟨h3, t3, hS⟩ := hA.str
    obtain ⟨c, hc⟩ : ∃ c, m.str[k]? = some c := ⟨_, List.getElem?_eq_getElem kn⟩
    obtain ⟨b, hb, _, hbH⟩ := hS.get (i := k) (o := tpc c) (by rw [List.getElem?_map, hc]; rfl)
    have las : k < (as.map V.ref).length := by
      rw [List.length_map]
      exact (List.getElem?_eq_some_iff.mp hb).1
    have ec : m.str.getD k (0, 0) = c := by rw [List.getD_eq_getElem?_getD, hc]; rfl
    have fin2 : ∀ (t : Addr) (c' : Cell), H t = none → c' = sharpC m c j → Q .non (upd (upd H t (tpc c')) a3 (.lst ((as.map V.ref).set k (.ref t)))) := fun t c' nt e => by
      subst e
      have n3 : t ≠ a3 := fun z => by
        rw [z, h3] at nt
        cases nt
      have et : upd (upd H t (tpc (sharpC m c j))) a3 (.lst ((as.map V.ref).set k (.ref t))) t = some (tpc (sharpC m c j)) := by rw [upd_ne n3, upd_same]
      have e3 : upd (upd H t (tpc (sharpC m c j))) a3 (.lst ((as.map V.ref).set k (.ref t))) a3 = some (.lst ((as.map V.ref).set k (.ref t))) := upd_same
      have off : ∀ b, b ≠ a3 → ∀ o, H b = some o → upd (upd H t (tpc (sharpC m c j))) a3 (.lst ((as.map V.ref).set k (.ref t))) b = some o := fun b n o e => by
        rw [upd_ne n, upd_ne (ne_of_none e nt)]
        exact e
      have dom : ∀ b, upd (upd H t (tpc (sharpC m c j))) a3 (.lst ((as.map V.ref).set k (.ref t))) b = none → H b = none := fun b e => by
        cases z : H b with
        | none => rfl
        | some o =>
          by_cases n : b = a3
          · rw [n, e3] at e
            cases e
          · rw [off b n o z] at e
            cases e
      generalize upd (upd H t (tpc (sharpC m c j))) a3 (.lst ((as.map V.ref).set k (.ref t))) = Hf at et e3 off dom ⊢
      have nt3 : ∀ {b n}, tag b = n → n ≠ 3 → b ≠ a3 := fun e z y => z (by rw [← e, y, t3])
      refine q Hf (tagN tag H Hf) (fun b o n e => off b (nt3 rfl (by omega)) o e) dom (fun b o e => tagN_old e) ?_
      have hP := hA.put (tag' := tagN tag H Hf) (H' := Hf) (k := k) (t := t) (c := sharpC m c j) (fun b o _ _ n e => ⟨tagN_old e, off b (nt3 rfl n) o e⟩) (fun b e => tagN_none dom e) e3 ((tagN_old h3).trans t3) et (tagN_new nt et)
      refine ⟨dx, a1, a2, a3, a4, a5, a6, a7, as.set k t, ts, ls, off x (nt3 tx (by decide)) _ hx, (tagN_old hx).trans tx, ?_⟩
      unfold sharp
      rw [ec]
      exact hP
    walk_at "ev"
    refine ⟨x, C, dx, _, .ref a3, rfl, hx, D.cl, D.n4, rfl, ?_⟩
    walk_at "ev"
    refine ⟨_, _, _, _, rfl, rfl, .inl (.inl h3), at_list hb, ?_⟩
    refine ⟨b, _, rfl, .inl (.inl hbH), rfl, ?_⟩
    walk_at "ev"
    refine ⟨x, C, dx, _, .int m.cur, rfl, hx, D.cl, D.n8, rfl, ?_⟩
    walk_at "ev"
    · rename_i hz
      refine ⟨(by show 2 ≤ sizeLine; decide), fun t nt => ?_⟩
      walk_at "ev"
      refine ⟨x, C, dx, _, .ref a3, rfl, new_at hx nt, D.cl, D.n4, rfl, ?_⟩
      walk_at "ev"
      refine ⟨a3, _, _, k, rfl, rfl, new_at h3 nt, ixn las, ?_⟩
      refine fin2 t (c.1 + 1 * 2 ^ m.cur.toNat, c.2) nt ?_
      unfold sharpC halfOf
      rw [if_pos (V.bl.inj hz), Int.one_mul]
    · rename_i hz
      refine ⟨(by show 2 ≤ sizeLine; decide), fun t nt => ?_⟩
      walk_at "ev"
      refine ⟨x, C, dx, _, .ref a3, rfl, new_at hx nt, D.cl, D.n4, rfl, ?_⟩
      walk_at "ev"
      refine ⟨a3, _, _, k, rfl, rfl, new_at h3 nt, ixn las, ?_⟩
      refine fin2 t (c.1, c.2 - 1 * 2 ^ m.cur.toNat) nt ?_
      unfold sharpC halfOf
      rw [if_neg (fun z => hz (congrArg V.bl z)), Int.one_mul]
/-! ### a sign told of a cell -/
def nbUp (nb : List Int) (ks : List Nat) : List Int := ks.foldl (fun nb k => nb.set k (nb.getD k 0 + 1)) nb
theorem nbUp_len (nb : List Int) (ks : List Nat) : (nbUp nb ks).length = nb.length := by
  unfold nbUp
  induction ks generalizing nb with
  | nil => rfl
  | cons k r ih => rw [List.foldl_cons, ih, List.length_set]
theorem nbUp_snoc (nb : List Int) (ks : List Nat) (k : Nat) : nbUp nb (ks ++ [k]) = (nbUp nb ks).set k ((nbUp nb ks).getD k 0 + 1) := by
  unfold nbUp
  rw [List.foldl_append]
  rfl
def signC (m : LM) (j : Int) : Cell := if j = 0 then (1 - halfOf m, halfOf m - 1) else if j = 1 then (halfOf m, 2 * halfOf m - 1) else (-(2 * halfOf m - 1), -halfOf m)
def tell (m : LM) (k : Nat) (j : Int) : LM :=
  if j = 0 then { m with str := m.str.set k (signC m j) }
  else { m with str := m.str.set k (signC m j), since := m.since.set k (some m.cur), nb := nbUp m.nb (besC m.cs (m.cs.getD k (0, 0))) }
theorem LMA.putSince {tag : Tag} {CT : Addr} {H : Hp} {m : LM} {a1 a2 a3 a4 a5 a6 a7 : Addr} {as ts ls : List Addr} (h : LMA tag CT H m a1 a2 a3 a4 a5 a6 a7 as ts ls) (k : Nat) (o : Option Int) :
    LMA tag CT (upd H a4 (.lst ((m.since.map optV).set k (optV o)))) { m with since := m.since.set k o } a1 a2 a3 a4 a5 a6 a7 as ts ls := by
  have n4 : ∀ {b : Addr} {n : Nat}, tag b = n → n ≠ 4 → b ≠ a4 := fun e z y => z (by rw [← e, y, h.since.2])
  have off : ∀ {b : Addr} {n : Nat} {o' : HO}, tag b = n → n ≠ 4 → H b = some o' → upd H a4 (.lst ((m.since.map optV).set k (optV o))) b = some o' := fun e z eo => by rw [upd_ne (n4 e z)]; exact eo
  refine ⟨h.cells.up fun b o n e => ⟨n, off n (by decide) e⟩, h.nbrs.up fun b o n e => ⟨n, off n (by decide) e⟩, ⟨off h.str.2.1 (by decide) h.str.1, h.str.2.1, h.str.2.2.up fun b o n e => ⟨n, off n (by decide) e⟩⟩, ⟨by rw [upd_same, List.map_set], h.since.2⟩, ⟨off h.nb.2 (by decide) h.nb.1, h.nb.2⟩, ⟨off h.tabs.2 (by decide) h.tabs.1, h.tabs.2⟩, h.lts, fun i t l cs e1 e2 e3 => ?_, h.qu.up fun b o n e => ⟨n, off n (by decide) e⟩, fun b e => ?_⟩
  · obtain ⟨g1, g2, dx, g3, g4⟩ := h.tab i t l cs e1 e2 e3
    exact ⟨g1, g2, dx, off g1 (by omega) g3, off g2 (by omega) g4⟩
  · by_cases z : b = a4
    · rw [z, upd_same] at e
      cases e
    · rw [upd_ne z] at e
      exact h.sup b e
theorem LMA.putNb {tag : Tag} {CT : Addr} {H : Hp} {m : LM} {a1 a2 a3 a4 a5 a6 a7 : Addr} {as ts ls : List Addr} (h : LMA tag CT H m a1 a2 a3 a4 a5 a6 a7 as ts ls) (k : Nat) (n0 : Int) :
    LMA tag CT (upd H a5 (.lst ((m.nb.map V.int).set k (.int n0)))) { m with nb := m.nb.set k n0 } a1 a2 a3 a4 a5 a6 a7 as ts ls := by
  have n5 : ∀ {b : Addr} {n : Nat}, tag b = n → n ≠ 5 → b ≠ a5 := fun e z y => z (by rw [← e, y, h.nb.2])
  have off : ∀ {b : Addr} {n : Nat} {o' : HO}, tag b = n → n ≠ 5 → H b = some o' → upd H a5 (.lst ((m.nb.map V.int).set k (.int n0))) b = some o' := fun e z eo => by rw [upd_ne (n5 e z)]; exact eo
  refine ⟨h.cells.up fun b o n e => ⟨n, off n (by decide) e⟩, h.nbrs.up fun b o n e => ⟨n, off n (by decide) e⟩, ⟨off h.str.2.1 (by decide) h.str.1, h.str.2.1, h.str.2.2.up fun b o n e => ⟨n, off n (by decide) e⟩⟩, ⟨off h.since.2 (by decide) h.since.1, h.since.2⟩, ⟨by rw [upd_same, List.map_set], h.nb.2⟩, ⟨off h.tabs.2 (by decide) h.tabs.1, h.tabs.2⟩, h.lts, fun i t l cs e1 e2 e3 => ?_, h.qu.up fun b o n e => ⟨n, off n (by decide) e⟩, fun b e => ?_⟩
  · obtain ⟨g1, g2, dx, g3, g4⟩ := h.tab i t l cs e1 e2 e3
    exact ⟨g1, g2, dx, off g1 (by omega) g3, off g2 (by omega) g4⟩
  · by_cases z : b = a5
    · rw [z, upd_same] at e
      cases e
    · rw [upd_ne z] at e
      exact h.sup b e
def spTell (C CT : Addr) : Sp := fun vs H Q _ => ∃ (x : Addr) (tag : Tag) (m : LM) (k : Nat) (j : Int), vs = [.ref x, .int (k : Int), .int j] ∧ LMAt tag C CT H x m ∧ k < m.cs.length ∧ m.str.length = m.cs.length ∧ m.since.length = m.cs.length ∧ m.nb.length = m.cs.length ∧ 0 ≤ m.cur ∧ m.cur ≤ 20 ∧ Leaves tag C CT H x (tell m k j) Q
theorem ok_tell {f C CT : Addr} {fd : FuncData} {k : Nat} (F : Fun K "_tell_sign" "LineModel._tell_sign" s_LineModel_tell_sign f fd) (T : Txt mg) (D : LMK K C) : FnOk P w K mg base CX0 (k + 1) f fd ["self", "k", "letter"] (spTell C CT) := by
  refine F.ok sc_LineModel_tell_sign (fun vs H Q E h => ?_) (fun cdv A outer s H vs Q E hr h => ?_)
  · obtain ⟨x, tag, m, k, j, rfl, _⟩ := h
    rfl
  · obtain ⟨x, tag, m, k, j, rfl, ⟨dx, a1, a2, a3, a4, a5, a6, a7, as, ts, ls, hx, tx, hA⟩, kn, l1, l2, l3, c0, c20, q⟩ := h
    refine ⟨_, (pss_cons (ps_set (i := 3) sc_LineModel_tell_sign.nd rfl (Or.inl rfl) (pe_op op_shl pe_int (pe_fld (pv 0) rfl)))
    (pss_cons (ps_if (pt_cmpR op_eq (pv 2) pe_int (nomark _)) (pss_cons (ps_asg (pe_tup (pa_cons (pe_op op_sub pe_int (pv 3)) (pa_cons (pe_op op_sub (pv 3) pe_int) pa_nil))) (pg_sub (pe_fld (pv 0) rfl) (pv 1) set_list))
    (pss_one ps_retN)) pss_nil)
    (pss_cons (ps_set (i := 4) sc_LineModel_tell_sign.nd rfl (Or.inl rfl) (pe_op op_sub (pe_op op_mul pe_int (pv 3)) pe_int))
    (C8.pss_cut (ps_asg (pe_ifExp (pt_cmpR op_eq (pv 2) pe_int (nomark _)) (pe_tup (pa_cons (pv 3) (pa_cons (pv 4) pa_nil))) (pe_tup (pa_cons (pe_un un_neg (pv 4)) (pa_cons (pe_un un_neg (pv 3)) pa_nil)))) (pg_sub (pe_fld (pv 0) rfl) (pv 1) set_list))
    (pss_cons (ps_asg (pe_fld (pv 0) rfl) (pg_sub (pe_fld (pv 0) rfl) (pv 1) set_list))
    (pss_one (ps_for PassesOwn.never rfl (pi_list (pe_ix ix_list (pe_fld (pv 0) rfl) (pv 1) (fun _ _ => rfl))) (pg_name (i := 5) sc_LineModel_tell_sign.nd rfl (Or.inl rfl))
      (pss_one (ps_augS (pe_fld (pv 0) rfl) (pv 5) get_list pe_int ip_add set_list))))))))), ?_⟩
    obtain ⟨h3, t3, hS⟩ := hA.str
    have las : k < (as.map V.ref).length := by
      rw [List.length_map, hS.1, List.length_map]
      omega
    have fin2 : ∀ (t : Addr) (c' : Cell), H t = none → ∃ (Hf : Hp) (tag' : Tag), Hf = upd (upd H t (tpc c')) a3 (.lst ((as.map V.ref).set k (.ref t))) ∧ Frm tag H Hf ∧ (∀ b, Hf b = none → H b = none) ∧ (∀ b o, H b = some o → tag' b = tag b) ∧ Hf x = some (.ins C dx (lmF a1 a2 a3 a4 a5 a6 a7 m)) ∧ tag' x = 2 ∧ LMA tag' CT Hf { m with str := m.str.set k c' } a1 a2 a3 a4 a5 a6 a7 (as.set k t) ts ls := fun t c' nt => by
      have n3 : t ≠ a3 := fun z => by
        rw [z, h3] at nt
        cases nt
      have et : upd (upd H t (tpc c')) a3 (.lst ((as.map V.ref).set k (.ref t))) t = some (tpc c') := by rw [upd_ne n3, upd_same]
      have e3 : upd (upd H t (tpc c')) a3 (.lst ((as.map V.ref).set k (.ref t))) a3 = some (.lst ((as.map V.ref).set k (.ref t))) := upd_same
      have off : ∀ b, b ≠ a3 → ∀ o, H b = some o → upd (upd H t (tpc c')) a3 (.lst ((as.map V.ref).set k (.ref t))) b = some o := fun b n o e => by
        rw [upd_ne n, upd_ne (ne_of_none e nt)]
        exact e
      have dom : ∀ b, upd (upd H t (tpc c')) a3 (.lst ((as.map V.ref).set k (.ref t))) b = none → H b = none := fun b e => by
        cases z : H b with
        | none => rfl
        | some o =>
          by_cases n : b = a3
          · rw [n, e3] at e
            cases e
          · rw [off b n o z] at e
            cases e
      refine ⟨_, tagN tag H (upd (upd H t (tpc c')) a3 (.lst ((as.map V.ref).set k (.ref t)))), rfl, ?_⟩
      generalize upd (upd H t (tpc c')) a3 (.lst ((as.map V.ref).set k (.ref t))) = Hf at et e3 off dom ⊢
      have nt3 : ∀ {b n}, tag b = n → n ≠ 3 → b ≠ a3 := fun e z y => z (by rw [← e, y, t3])
      refine ⟨fun b o n e => off b (nt3 rfl (by omega)) o e, dom, fun b o e => tagN_old e, off x (nt3 tx (by decide)) _ hx, (tagN_old hx).trans tx, ?_⟩
      exact hA.put (tag' := tagN tag H Hf) (H' := Hf) (k := k) (t := t) (c := c') (fun b o _ _ n e => ⟨tagN_old e, off b (nt3 rfl n) o e⟩) (fun b e => tagN_none dom e) e3 ((tagN_old h3).trans t3) et (tagN_new nt et)
    walk_at "ev"
    refine ⟨x, C, dx, _, .int m.cur, rfl, hx, D.cl, D.n8, rfl, ?_⟩
    walk_at "ev"
    · rename_i hz
      refine ⟨(by show 2 ≤ sizeLine; decide), fun t nt => ?_⟩
      walk_at "ev"
      refine ⟨x, C, dx, _, .ref a3, rfl, new_at hx nt, D.cl, D.n4, rfl, ?_⟩
      walk_at "ev"
      refine ⟨a3, _, _, k, rfl, rfl, new_at h3 nt, ixn las, ?_⟩
      obtain ⟨Hf, tag', rfl, f1, f2, f3, f4, f5, f6⟩ := fin2 t (1 - 1 * 2 ^ m.cur.toNat, 1 * 2 ^ m.cur.toNat - 1) nt
      have ez : j = 0 := by omega
      have em : tell m k j = { m with str := m.str.set k (1 - 1 * 2 ^ m.cur.toNat, 1 * 2 ^ m.cur.toNat - 1) } := by
        unfold tell signC halfOf
        rw [if_pos ez, if_pos ez, Int.one_mul]
      rw [em] at q
      exact q _ tag' f1 f2 f3 ⟨dx, a1, a2, a3, a4, a5, a6, a7, _, _, _, f4, f5, f6⟩
    · rename_i hz
      have ez : j ≠ 0 := by omega
      have em : tell m k j = { m with str := m.str.set k (signC m j), since := m.since.set k (some m.cur), nb := nbUp m.nb (besC m.cs (m.cs.getD k (0, 0))) } := if_neg ez
      rw [em] at q
      refine ⟨fun σ G => ∃ (tag' : Tag) (t : Addr), σ = [some (.ref x), some (.int (k : Int)), some (.int j), some (.int (1 * 2 ^ m.cur.toNat)), some (.int (2 * (1 * 2 ^ m.cur.toNat) - 1)), none] ∧ Frm tag H G ∧ (∀ b, G b = none → H b = none) ∧ (∀ b o, H b = some o → tag' b = tag b) ∧ G x = some (.ins C dx (lmF a1 a2 a3 a4 a5 a6 a7 m)) ∧ tag' x = 2 ∧ LMA tag' CT G { m with str := m.str.set k (signC m j) } a1 a2 a3 a4 a5 a6 a7 (as.set k t) ts ls, ?_, ?_⟩
      · walk_at "ev"
        · rename_i hj
          refine ⟨(by show 2 ≤ sizeLine; decide), fun t nt => ?_⟩
          walk_at "ev"
          refine ⟨x, C, dx, _, .ref a3, rfl, new_at hx nt, D.cl, D.n4, rfl, ?_⟩
          walk_at "ev"
          refine ⟨a3, _, _, k, rfl, rfl, new_at h3 nt, ixn las, ?_⟩
          obtain ⟨Hf, tag', rfl, f1, f2, f3, f4, f5, f6⟩ := fin2 t (1 * 2 ^ m.cur.toNat, 2 * (1 * 2 ^ m.cur.toNat) - 1) nt
          have es : signC m j = (1 * 2 ^ m.cur.toNat, 2 * (1 * 2 ^ m.cur.toNat) - 1) := by
            unfold signC halfOf
            rw [if_neg ez, if_pos hj, Int.one_mul]
          rw [es]
          exact ⟨tag', t, rfl, f1, f2, f3, f4, f5, f6⟩
        · rename_i hj
          refine ⟨(by show 2 ≤ sizeLine; decide), fun t nt => ?_⟩
          walk_at "ev"
          refine ⟨x, C, dx, _, .ref a3, rfl, new_at hx nt, D.cl, D.n4, rfl, ?_⟩
          walk_at "ev"
          refine ⟨a3, _, _, k, rfl, rfl, new_at h3 nt, ixn las, ?_⟩
          obtain ⟨Hf, tag', rfl, f1, f2, f3, f4, f5, f6⟩ := fin2 t (-(2 * (1 * 2 ^ m.cur.toNat) - 1), -(1 * 2 ^ m.cur.toNat)) nt
          have es : signC m j = (-(2 * (1 * 2 ^ m.cur.toNat) - 1), -(1 * 2 ^ m.cur.toNat)) := by
            unfold signC halfOf
            rw [if_neg ez, if_neg hj, Int.one_mul]
          rw [es]
          exact ⟨tag', t, rfl, f1, f2, f3, f4, f5, f6⟩
      · rintro σ G ⟨tag', t, rfl, f1, f2, f3, f4, f5, f6⟩
        walk_at "ev"
        refine ⟨x, C, dx, _, .int m.cur, rfl, f4, D.cl, D.n8, rfl, ?_⟩
        walk_at "ev"
        refine ⟨x, C, dx, _, .ref a4, rfl, f4, D.cl, D.n5, rfl, ?_⟩
        walk_at "ev"
        have lsn : k < (m.since.map optV).length := by
          rw [List.length_map]
          omega
        refine ⟨a4, _, _, k, rfl, rfl, f6.since.1, ixn lsn, ?_⟩
        have g6 := f6.putSince k (some m.cur)
        have n4x : x ≠ a4 := fun z => by
          have := f6.since.2
          rw [← z, f5] at this
          exact absurd this (by decide)
        have t4 : tag a4 = 4 := hA.since.2
        have f4' : upd G a4 (.lst ((m.since.map optV).set k (optV (some m.cur)))) x = some (.ins C dx (lmF a1 a2 a3 a4 a5 a6 a7 m)) := (upd_ne n4x).trans f4
        have f1' : Frm tag H (upd G a4 (.lst ((m.since.map optV).set k (optV (some m.cur))))) := fun b o n e => by
          rw [upd_ne (fun z => by rw [z, t4] at n; exact absurd n (by decide))]
          exact f1 b o n e
        have f2' : ∀ b, upd G a4 (.lst ((m.since.map optV).set k (optV (some m.cur)))) b = none → H b = none := fun b e => by
          by_cases z : b = a4
          · rw [z, upd_same] at e
            cases e
          · rw [upd_ne z] at e
            exact f2 b e
        have el : (m.since.map optV).set k (optV (some m.cur)) = (m.since.map optV).set k (V.int m.cur) := rfl
        rw [el] at g6 f4' f1' f2'
        generalize upd G a4 (.lst ((m.since.map optV).set k (V.int m.cur))) = G1 at g6 f4' f1' f2' ⊢
        obtain ⟨_, bs, eb, hB⟩ := g6.nbrs
        obtain ⟨c, hc⟩ : ∃ c, m.cs[k]? = some c := ⟨_, List.getElem?_eq_getElem kn⟩
        have ec : m.cs.getD k (0, 0) = c := by rw [List.getD_eq_getElem?_getD, hc]; rfl
        rw [ec] at q
        obtain ⟨b0, hb0, tb0, hbH0⟩ := hB.get (i := k) (o := natsO (besC m.cs c)) (by show (m.cs.map fun c => natsO (besC m.cs c))[k]? = _; rw [List.getElem?_map, hc]; rfl)
        walk_at "ev"
        refine ⟨x, C, dx, _, .ref a2, rfl, f4', D.cl, D.n3, rfl, ?_⟩
        walk_at "ev"
        refine ⟨_, _, _, _, rfl, rfl, .inl (.inl eb), atI_nat (by rw [List.getElem?_map, hb0]; rfl), ?_⟩
        refine ⟨b0, rfl, ⟨_, .inl (.inl hbH0)⟩, ?_⟩
        refine for_it (walk_list (xs := (besC m.cs c).map natV)) (fun i σ G2 => ∃ v, σ = [some (.ref x), some (.int (k : Int)), some (.int j), some (.int (1 * 2 ^ m.cur.toNat)), some (.int (2 * (1 * 2 ^ m.cur.toNat) - 1)), v] ∧ Frm tag H G2 ∧ (∀ b, G2 b = none → H b = none) ∧ G2 x = some (.ins C dx (lmF a1 a2 a3 a4 a5 a6 a7 m)) ∧ LMA tag' CT G2 { m with str := m.str.set k (signC m j), since := m.since.set k (some m.cur), nb := nbUp m.nb ((besC m.cs c).take i) } a1 a2 a3 a4 a5 a6 a7 (as.set k t) ts ls ∧ G2 b0 = some (natsO (besC m.cs c))) ⟨_, rfl, f1', f2', f4', g6, hbH0⟩ (fun i σ G2 _ h => ?_) ?_ ?_
        · obtain ⟨_, _, _, _, _, _, z⟩ := h
          exact .inl (.inl z)
        · rintro i y σ G2 G3 hi ⟨v, rfl, u1, u2, u4, u6, ub⟩ ⟨rfl, hy⟩
          rw [List.length_map] at hi
          obtain ⟨kb, hkb⟩ : ∃ kb, (besC m.cs c)[i]? = some kb := ⟨_, List.getElem?_eq_getElem hi⟩
          rw [List.getElem?_map, hkb] at hy
          obtain rfl := Option.some.inj hy
          have hkn : kb < m.cs.length := besC_lt (List.mem_of_getElem? hkb)
          have lnb : (nbUp m.nb ((besC m.cs c).take i)).length = m.cs.length := by rw [nbUp_len, l3]
          obtain ⟨n, hn⟩ : ∃ n, (nbUp m.nb ((besC m.cs c).take i))[kb]? = some n := ⟨_, List.getElem?_eq_getElem (by omega)⟩
          have en : (nbUp m.nb ((besC m.cs c).take i)).getD kb 0 = n := by rw [List.getD_eq_getElem?_getD, hn]; rfl
          have h5 := u6.nb.1
          have t5 : tag' a5 = 5 := u6.nb.2
          have t5' : tag a5 = 5 := hA.nb.2
          have g7 := u6.putNb kb (n + 1)
          have n5x : x ≠ a5 := fun z => by
            rw [← z, f5] at t5
            exact absurd t5 (by decide)
          have nb5 : b0 ≠ a5 := fun z => by
            rw [← z] at t5
            have : tag' b0 = 1 := tb0
            rw [t5] at this
            exact absurd this (by decide)
          walk_at "ev"
          refine ⟨x, C, dx, _, .ref a5, rfl, u4, D.cl, D.n6, rfl, ?_⟩
          walk_at "ev"
          refine ⟨_, _, _, _, rfl, rfl, .inl (.inl h5), at_list hn, ?_⟩
          walk_at "ev"
          refine ⟨a5, _, _, kb, rfl, rfl, h5, ixn (by rw [List.length_map]; show kb < (nbUp m.nb ((besC m.cs c).take i)).length; omega), ?_⟩
          refine ⟨_, rfl, fun b o nn e => ?_, fun b e => ?_, (upd_ne n5x).trans u4, ?_, (upd_ne nb5).trans ub⟩
          · rw [upd_ne (fun z => by rw [z, t5'] at nn; exact absurd nn (by decide))]
            exact u1 b o nn e
          · by_cases z : b = a5
            · rw [z, upd_same] at e
              cases e
            · rw [upd_ne z] at e
              exact u2 b e
          · rw [← take_snoc hkb, nbUp_snoc, en]
            exact g7
        · rintro σ G2 ⟨v, rfl, u1, u2, u4, u6, ub⟩
          rw [List.length_map, List.take_length] at u6
          walk_at "ev"
          exact q _ tag' u1 u2 f3 ⟨dx, a1, a2, a3, a4, a5, a6, a7, _, _, _, u4, f5, u6⟩
/-! ### a letter is taken -/
def learnT (m : LM) (j : Nat) : LM := { m with tabs := m.tabs.set (tabNo m) (lrn (m.tabs.getD (tabNo m) []) j) }
theorem LMA.putTab {tag tag' : Tag} {CT : Addr} {H H' : Hp} {m : LM} {a1 a2 a3 a4 a5 a6 a7 : Addr} {as ts ls : List Addr} (h : LMA tag CT H m a1 a2 a3 a4 a5 a6 a7 as ts ls) {i : Nat} {t l l' : Addr} {cs : List Int} (hi : i < 5) (et : ts[i]? = some t) (el : ls[i]? = some l)
    (off : OffT t l H H') (ht : tag t = 10 + i) (hl : tag l = 20 + i) (old : ∀ b o, H b = some o → tag' b = tag b) (sup : ∀ b, H' b = none → tag' b = 0) (hT : TabAt CT H' t l' cs) (tl : tag' l' = 20 + i) (tt : tag' t = 10 + i) :
    LMA tag' CT H' { m with tabs := m.tabs.set i cs } a1 a2 a3 a4 a5 a6 a7 as ts (ls.set i l') := by
  have st : ∀ {b : Addr} {n : Nat} {o : HO}, tag b = n → n ≠ 10 + i ∧ n ≠ 20 + i → H b = some o → H' b = some o ∧ tag' b = n := fun {b n o} e z eo =>
    ⟨off b o (fun y => z.1 (by rw [← e, y, ht])) (fun y => z.2 (by rw [← e, y, hl])) eo, (old b o eo).trans e⟩
  have one : ∀ b o, tag b = 1 → H b = some o → tag' b = 1 ∧ H' b = some o := fun b o n e => by
    obtain ⟨p, q⟩ := st n (by omega) e
    exact ⟨q, p⟩
  refine ⟨h.cells.up one, h.nbrs.up one, ⟨(st h.str.2.1 (by omega) h.str.1).1, (st h.str.2.1 (by omega) h.str.1).2, h.str.2.2.up one⟩, st h.since.2 (by omega) h.since.1, st h.nb.2 (by omega) h.nb.1, st h.tabs.2 (by omega) h.tabs.1, ⟨h.lts.1, by rw [List.length_set]; exact h.lts.2.1, by show (m.tabs.set i cs).length = 5; rw [List.length_set]; exact h.lts.2.2⟩, fun i' t' l2 cs' e1 e2 e3 => ?_, h.qu.up one, sup⟩
  have e3 : (m.tabs.set i cs)[i']? = some cs' := e3
  have l5 : i' < 5 := by
    have := (List.getElem?_eq_some_iff.mp e1).1
    rw [h.lts.1] at this
    exact this
  rw [List.getElem?_set] at e2 e3
  by_cases z : i = i'
  · subst z
    rw [if_pos rfl] at e2 e3
    rw [et] at e1
    obtain rfl := Option.some.inj e1
    split at e2
    · obtain rfl := Option.some.inj e2
      split at e3
      · obtain rfl := Option.some.inj e3
        exact ⟨tt, tl, hT⟩
      · cases e3
    · cases e2
  · rw [if_neg z] at e2 e3
    obtain ⟨g1, g2, dx, g3, g4⟩ := h.tab i' t' l2 cs' e1 e2 e3
    obtain ⟨p, q⟩ := st g1 (by omega) g3
    obtain ⟨u, v⟩ := st g2 (by omega) g4
    exact ⟨q, v, dx, p, u⟩
def told (m : LM) (k : Nat) (kd : Int) (j : Int) : LM := if kd = 1 then sharp m k j else tell m k j
def stepOf (m : LM) (j : Nat) : LM :=
  let c := m.qu.getD m.place (0, 0)
  { told (learnT m j) c.2.toNat c.1 (j : Int) with place := m.place + 1 }
def next (m : LM) (j : Nat) : LM := if (stepOf m j).place = (stepOf m j).qu.length ∧ 0 < (stepOf m j).cur then begin (stepOf m j) else stepOf m j
def sizeAt (m : LM) : Nat := if tabNo m < 3 then 3 else 2
theorem told_fix (m : LM) (k : Nat) (kd j : Int) : (told m k kd j).cs = m.cs ∧ (told m k kd j).qu = m.qu ∧ (told m k kd j).cur = m.cur ∧ (told m k kd j).place = m.place ∧ (told m k kd j).tabs = m.tabs ∧ (told m k kd j).pl = m.pl ∧ (told m k kd j).wid = m.wid ∧ (told m k kd j).str.length = m.str.length ∧ (told m k kd j).since.length = m.since.length ∧ (told m k kd j).nb.length = m.nb.length := by
  unfold told
  split
  · exact ⟨rfl, rfl, rfl, rfl, rfl, rfl, rfl, List.length_set, rfl, rfl⟩
  · unfold tell
    split
    · exact ⟨rfl, rfl, rfl, rfl, rfl, rfl, rfl, List.length_set, rfl, rfl⟩
    · exact ⟨rfl, rfl, rfl, rfl, rfl, rfl, rfl, List.length_set, List.length_set, nbUp_len _ _⟩
theorem nbUp_pos {nb : List Int} (h : ∀ n ∈ nb, 0 ≤ n) (ks : List Nat) : ∀ n ∈ nbUp nb ks, 0 ≤ n := by
  unfold nbUp
  induction ks generalizing nb with
  | nil => exact h
  | cons k r ih =>
    refine ih fun n m => ?_
    rcases List.mem_or_eq_of_mem_set m with m | rfl
    · exact h n m
    · rw [List.getD_eq_getElem?_getD]
      cases e : nb[k]? with
      | none => decide
      | some v =>
        have := h v (List.mem_of_getElem? e)
        show 0 ≤ v + 1
        omega
theorem told_nb {m : LM} (h : ∀ n ∈ m.nb, 0 ≤ n) (k : Nat) (kd j : Int) : ∀ n ∈ (told m k kd j).nb, 0 ≤ n := by
  unfold told
  split
  · exact h
  · unfold tell
    split
    · exact h
    · exact nbUp_pos h _
theorem quL_mem {m : LM} {n i : Nat} {c : Cell} (h : c ∈ quL m n (i : Int)) : ∃ k : Nat, c = ((i : Int), (k : Int)) ∧ k < n := by
  obtain ⟨k, hk, rfl⟩ := List.mem_map.mp h
  exact ⟨k, rfl, List.mem_range.mp (List.mem_filter.mp hk).1⟩
theorem LMW.begin {m : LM} (W : LMW m) (h : 0 < m.cur) : LMW (begin m) := by
  refine ⟨W.few, W.lstr, W.lsince, W.lnb, fun c hc => ?_, quP_len m m.cs.length 3 (by decide), W.tabs, W.ltab, W.nb0, ?_, Nat.zero_le _⟩
  · have hc : c ∈ quP m m.cs.length 3 := hc
    have key : ∀ i, c ∈ quP m m.cs.length i → ∃ q k : Nat, c = ((q : Int), (k : Int)) ∧ q < i ∧ k < m.cs.length := fun i => by
      induction i with
      | zero => exact fun h => nomatch h
      | succ i ih =>
        intro h
        rcases List.mem_append.mp h with h | h
        · obtain ⟨q, k, e, a, b⟩ := ih h
          exact ⟨q, k, e, by omega, b⟩
        · obtain ⟨k, e, b⟩ := quL_mem h
          exact ⟨i, k, e, by omega, b⟩
    obtain ⟨q, k, e, a, b⟩ := key 3 hc
    exact ⟨q, k, e, by omega, b⟩
  · have := W.cur
    show 0 ≤ m.cur - 1 ∧ m.cur - 1 ≤ 20
    omega
theorem LMW.tabGood {m : LM} (W : LMW m) : ∃ cs, m.tabs[tabNo m]? = some cs ∧ GoodC cs ∧ cs.length = sizeAt m := by
  have h : tabNo m < m.tabs.length := by
    rw [W.ltab]
    exact tabNo_lt W
  obtain ⟨g, l⟩ := W.tabs _ _ (List.getElem?_eq_getElem h)
  exact ⟨_, List.getElem?_eq_getElem h, g, l⟩
theorem LMW.step {m : LM} (W : LMW m) (hf : fin m = false) {j : Nat} (hj : j < sizeAt m) : LMW (stepOf m j) := by
  obtain ⟨q, k, hq, _, hk⟩ := W.here hf
  obtain ⟨f1, f2, f3, f4, f5, f6, f7, f8, f9, f10⟩ := told_fix (learnT m j) (m.qu.getD m.place (0, 0)).2.toNat (m.qu.getD m.place (0, 0)).1 (j : Int)
  obtain ⟨cs, hcs, g, l⟩ := W.tabGood
  refine ⟨?_, ?_, ?_, ?_, ?_, ?_, ?_, ?_, ?_, ?_, ?_⟩
  · show (told _ _ _ _).cs.length ≤ 900
    rw [f1]
    exact W.few
  · show (told _ _ _ _).str.length = (told _ _ _ _).cs.length
    rw [f1, f8]
    exact W.lstr
  · show (told _ _ _ _).since.length = (told _ _ _ _).cs.length
    rw [f1, f9]
    exact W.lsince
  · show (told _ _ _ _).nb.length = (told _ _ _ _).cs.length
    rw [f1, f10]
    exact W.lnb
  · show ∀ c ∈ (told _ _ _ _).qu, ∃ (q k : Nat), c = ((q : Int), (k : Int)) ∧ q ≤ 2 ∧ k < (told _ _ _ _).cs.length
    rw [f1, f2]
    exact W.qk
  · show (told _ _ _ _).qu.length ≤ (told _ _ _ _).cs.length
    rw [f1, f2]
    exact W.ql
  · show ∀ (i : Nat) (cs : List Int), (told _ _ _ _).tabs[i]? = some cs → GoodC cs ∧ cs.length = (if i < 3 then 3 else 2)
    rw [f5]
    intro i cs' e
    have e : (m.tabs.set (tabNo m) (lrn (m.tabs.getD (tabNo m) []) j))[i]? = some cs' := e
    rw [List.getElem?_set] at e
    by_cases z : tabNo m = i
    · rw [if_pos z] at e
      split at e
      · obtain rfl := Option.some.inj e
        rw [List.getD_eq_getElem?_getD, hcs]
        show GoodC (lrn cs j) ∧ (lrn cs j).length = _
        rw [lrn_len, l, ← z]
        exact ⟨g.lrn (by rw [l]; exact hj), rfl⟩
      · cases e
    · rw [if_neg z] at e
      exact W.tabs i cs' e
  · show (told _ _ _ _).tabs.length = 5
    rw [f5]
    show (m.tabs.set _ _).length = 5
    rw [List.length_set]
    exact W.ltab
  · exact told_nb (m := learnT m j) W.nb0 _ _ _
  · show 0 ≤ (told _ _ _ _).cur ∧ (told _ _ _ _).cur ≤ 20
    rw [f3]
    exact W.cur
  · show m.place + 1 ≤ (told _ _ _ _).qu.length
    rw [f2]
    have := (List.getElem?_eq_some_iff.mp hq).1
    exact this
theorem LMW.next {m : LM} (W : LMW m) (hf : fin m = false) {j : Nat} (hj : j < sizeAt m) : LMW (next m j) := by
  unfold My.next
  split
  · rename_i h
    exact (W.step hf hj).begin h.2
  · exact W.step hf hj
/-- how the heap has gone on -/
structure Gone (tag tag' : Tag) (H H' : Hp) : Prop where
  frm : Frm tag H H'
  dom : ∀ b, H' b = none → H b = none
  old : ∀ b o, H b = some o → tag' b = tag b
theorem Gone.trans {t1 t2 t3 : Tag} {H1 H2 H3 : Hp} (a : Gone t1 t2 H1 H2) (b : Gone t2 t3 H2 H3) : Gone t1 t3 H1 H3 := by
  have un : ∀ c o, H1 c = some o → ∃ o', H2 c = some o' := fun c o e => by
    cases z : H2 c with
    | some o' => exact ⟨o', rfl⟩
    | none =>
      rw [a.dom c z] at e
      cases e
  refine ⟨fun c o n e => b.frm c o (by rw [a.old c o e]; exact n) (a.frm c o n e), fun c e => a.dom c (b.dom c e), fun c o e => ?_⟩
  obtain ⟨o', e'⟩ := un c o e
  exact (b.old c o' e').trans (a.old c o e)
theorem Gone.refl (tag : Tag) (H : Hp) : Gone tag tag H H := ⟨fun _ _ _ e => e, fun _ e => e, fun _ _ _ => rfl⟩
theorem LMAt.setPlace {tag : Tag} {C CT x dx a1 a2 a3 a4 a5 a6 a7 : Addr} {as ts ls : List Addr} {H : Hp} {m : LM} (n : Nat) (hx : H x = some (.ins C dx (lmF a1 a2 a3 a4 a5 a6 a7 m))) (tx : tag x = 2) (hA : LMA tag CT H m a1 a2 a3 a4 a5 a6 a7 as ts ls) :
    LMAt tag C CT (upd H x (.ins C dx (lmF a1 a2 a3 a4 a5 a6 a7 { m with place := n }))) x { m with place := n } ∧ Gone tag tag H (upd H x (.ins C dx (lmF a1 a2 a3 a4 a5 a6 a7 { m with place := n }))) := by
  have dom : ∀ b, upd H x (.ins C dx (lmF a1 a2 a3 a4 a5 a6 a7 { m with place := n })) b = none → H b = none := fun b e => by
    by_cases z : b = x
    · rw [z, upd_same] at e
      cases e
    · rw [upd_ne z] at e
      exact e
  have h0 := hA.same (tag' := tag) (H' := upd H x (.ins C dx (lmF a1 a2 a3 a4 a5 a6 a7 { m with place := n }))) (fun b o n0 n2 e => ⟨rfl, (upd_ne (fun z => n2 (by rw [z, tx]))).trans e⟩) (fun b e => hA.sup b (dom b e))
  refine ⟨⟨dx, a1, a2, a3, a4, a5, a6, a7, as, ts, ls, upd_same, tx, h0.cells, h0.nbrs, h0.str, h0.since, h0.nb, h0.tabs, h0.lts, h0.tab, h0.qu, h0.sup⟩, fun b o nn e => (upd_ne (fun z => by rw [z, tx] at nn; exact absurd nn (by decide))).trans e, dom, fun _ _ _ => rfl⟩
theorem fin_learn (m : LM) (j : Nat) : fin (learnT m j) = fin m := rfl
def spTakeM (C CT O : Addr) : Sp := fun vs H Q E => ∃ (x : Addr) (tag : Tag) (m : LM) (j : Int), vs = [.ref x, .int j] ∧ LMAt tag C CT H x m ∧ LMW m ∧
  ((fin m = false ∧ ∃ jn : Nat, j = (jn : Int) ∧ jn < sizeAt m ∧ ∀ (H' : Hp) (tag' : Tag), Gone tag tag' H H' → LMAt tag' C CT H' x (next m jn) → Q .non H') ∨ ((fin m = true ∨ j < 0 ∨ (sizeAt m : Int) ≤ j) ∧ E (.ref O) none H))
theorem ok_takeM {f C CT O : Addr} {fd : FuncData} {k : Nat} (F : Fun K "take" "LineModel.take" s_LineModel_take f fd) (T : Txt mg) (D : LMK K C) (TK : TabK K CT) (LC : LMC K mg) (e_Outside : ECls K mg "Outside" O)
    (M_fin : CalM P w K mg base 1 C "_is_complete" [] (spFin C CT)) (M_tabno : CalM P w K mg base 1 C "_table_number" [] (spTabNo C CT)) (M_learn : CalM P w K mg base 1 CT "learn" ["j"] (spLearn CT O)) (M_sharp : CalM P w K mg base 1 C "_sharpen" ["k", "letter"] (spSharp C CT)) (M_tell : CalM P w K mg base 1 C "_tell_sign" ["k", "letter"] (spTell C CT)) (M_begin : CalM P w K mg base 2 C "_begin_plane" [] (spBegin C CT)) :
    FnOk P w K mg base (L2.CX P w) (k + 3) f fd ["self", "letter"] (spTakeM C CT O) := by
  obtain ⟨⟨_, hNEAR⟩, ⟨_, hSHARPER⟩, ⟨_, hFAR⟩, ⟨_, hPASSES⟩, ⟨_, hFRESH⟩, ⟨_, hOLD⟩, ⟨_, hMOST⟩, ⟨RS, hSIZES, hRS⟩⟩ := LC
  refine F.okX sc_LineModel_take (fun vs H Q E h => ?_) (fun cdv A outer s H vs Q E hr h => ?_)
  · obtain ⟨x, tag, m, j, rfl, _⟩ := h
    rfl
  · refine ⟨_, (pss_cons (ps_if (pt_val (pe_mx0 M_fin D.cl hr (by omega) (passes_call (takes_of rfl rfl rfl rfl) (fun _ _ _ _ h => h)) (pv 0))) (pss_one (ps_raise rfl (takes_of rfl rfl rfl rfl) (pmk_none PySem.F.excBase_ValueError e_Outside.xC e_Outside.gC e_Outside.kC (raises_own e_Outside.bC e_Outside.tC) (by rfl)))) pss_nil)
    (pss_cons (ps_set (i := 2) sc_LineModel_take.nd rfl (Or.inl rfl) (pe_mx0 M_tabno D.cl hr (by omega) (passes_call (takes_of rfl rfl rfl rfl) (fun _ _ _ _ h => h)) (pv 0)))
    (C8.pss_cut (ps_expr (pe_mx M_learn TK.cl hr (by omega) (passes_call (takes_of rfl rfl rfl rfl) (fun _ _ _ _ h => h)) (pe_ix ix_list (pe_fld (pv 0) rfl) (pv 2) (fun _ _ => rfl)) (pa_cons (pv 1) pa_nil)))
    (C8.pss_cut (ps_asg (pe_ix ix_list (pe_fld (pv 0) rfl) (pe_fld (pv 0) rfl) (fun _ _ => rfl)) (pg_tup rfl (pgs_cons (pg_name (i := 3) sc_LineModel_take.nd rfl (Or.inl rfl)) (pgs_cons (pg_name (i := 4) sc_LineModel_take.nd rfl (Or.inl rfl)) pgs_nil))))
    (C8.pss_cut (ps_if (pt_cmpR op_eq (pv 3) (pe_glob (v := .int 1) (by rfl) hSHARPER ⟨_, rfl⟩) (nomark _)) (pss_one (ps_expr (pe_mx M_sharp D.cl hr (by omega) (passes_call (takes_of rfl rfl rfl rfl) (fun _ _ _ _ h => h)) (pv 0) (pa_cons (pv 4) (pa_cons (pv 1) pa_nil))))) (pss_one (ps_expr (pe_mx M_tell D.cl hr (by omega) (passes_call (takes_of rfl rfl rfl rfl) (fun _ _ _ _ h => h)) (pv 0) (pa_cons (pv 4) (pa_cons (pv 1) pa_nil))))))
    (pss_cons (ps_fldaug (pv 0) pe_int in_add)
    (pss_one (ps_if (PW.pt (pw_and (pt_cmpR op_eq (pe_fld (pv 0) rfl) (pe_callB call_len_seq (by rfl) T.z_len PySem.boot_len (pa_cons (pe_fld (pv 0) rfl) pa_nil)) (nomark _)) (pw_and1 (pt_cmpR op_gt (pe_fld (pv 0) rfl) pe_int (nomark _))))) (pss_one (ps_expr (pe_mx0 M_begin D.cl hr (by omega) (passes_call (takes_of rfl rfl rfl rfl) (fun _ _ _ _ h => h)) (pv 0)))) pss_nil)))))))), ?_⟩
    obtain ⟨x, tag, m, j, rfl, hM, W, h⟩ := h
    obtain ⟨dx, a1, a2, a3, a4, a5, a6, a7, as, ts, ls, hx, tx, hA⟩ := _root_.id hM
    walk_at "ev"
    refine ⟨x, dx, _, rfl, hx, ?_⟩
    walk_at "ev"
    refine ⟨x, tag, m, rfl, hM, ?_⟩
    cases hf : fin m with
    | true =>
      walk_at "ev"
      obtain ⟨hh, _⟩ | ⟨_, e⟩ := h
      · rw [hf] at hh
        cases hh
      · exact e
    | false =>
      walk_at "ev"
      refine ⟨x, dx, _, rfl, hx, ?_⟩
      walk_at "ev"
      refine ⟨x, tag, m, rfl, hM, W, hf, ?_⟩
      walk_at "ev"
      obtain ⟨cs, hcs, gC, lcs⟩ := W.tabGood
      have tl5 := tabNo_lt W
      obtain ⟨t, ht⟩ : ∃ t, ts[tabNo m]? = some t := ⟨_, List.getElem?_eq_getElem (by rw [hA.lts.1]; exact tl5)⟩
      obtain ⟨l, hl⟩ : ∃ l, ls[tabNo m]? = some l := ⟨_, List.getElem?_eq_getElem (by rw [hA.lts.2.1]; exact tl5)⟩
      obtain ⟨tt, tl, hT⟩ := hA.tab _ _ _ _ ht hl hcs
      obtain ⟨dt, hTx, hTl⟩ := _root_.id hT
      obtain ⟨q0, k0, hq0, _, hk0⟩ := W.here hf
      obtain ⟨_, jn, rfl, hj, q⟩ | ⟨bad, e⟩ := h
      · refine ⟨fun σ G => ∃ tag1, σ = [some (.ref x), some (.int (jn : Int)), some (.int (tabNo m : Nat)), none, none] ∧ Gone tag tag1 H G ∧ LMAt tag1 C CT G x (learnT m jn), ?_, ?_⟩
        · walk_at "ev"
          refine ⟨x, C, dx, _, .ref a6, rfl, hx, D.cl, D.n7, rfl, ?_⟩
          walk_at "ev"
          refine ⟨_, _, _, _, rfl, rfl, .inl (.inl hA.tabs.1), atI_nat (by rw [List.getElem?_map, ht]; rfl), ?_⟩
          walk_at "ev"
          refine ⟨t, dt, _, rfl, hTx, ?_⟩
          walk_at "ev"
          refine ⟨t, l, cs, _, rfl, hT, gC, .inl ⟨jn, rfl, by rw [lcs]; exact hj, fun l' H1 hl' off dom hT1 => ?_⟩⟩
          have hT1' := hT1
          obtain ⟨dt', e1, e2⟩ := hT1'
          have l5 : 10 + tabNo m ≠ 20 + tabNo m := by omega
          have htg : ∀ b o, H b = some o → (if b = l' then 20 + tabNo m else tagN tag H H1 b) = tag b := fun b o e => by
            by_cases z : b = l'
            · rw [if_pos z, z]
              rcases hl' with r | r
              · rw [r, tl]
              · rw [z, r] at e
                cases e
            · rw [if_neg z, tagN_old e]
          have nt : ∀ {b : Addr} {n : Nat}, tag b = n → n ≠ 10 + tabNo m → b ≠ t := fun e z y => z (by rw [← e, y, tt])
          have nl : ∀ {b : Addr} {n : Nat}, tag b = n → n ≠ 20 + tabNo m → b ≠ l := fun e z y => z (by rw [← e, y, tl])
          have hx1 : H1 x = some (.ins C dx (lmF a1 a2 a3 a4 a5 a6 a7 m)) := off x _ (nt tx (by omega)) (nl tx (by omega)) hx
          have sup : ∀ b, H1 b = none → (if b = l' then 20 + tabNo m else tagN tag H H1 b) = 0 := fun b e => by
            rw [if_neg (fun z => by rw [z, e2] at e; cases e)]
            exact tagN_none dom e
          have hB := hA.putTab (tag' := fun b => if b = l' then 20 + tabNo m else tagN tag H H1 b) (H' := H1) tl5 ht hl off tt tl htg sup hT1 (if_pos rfl) ((htg t _ hTx).trans tt)
          have el : learnT m jn = { m with tabs := m.tabs.set (tabNo m) (lrn cs jn) } := by
            unfold learnT
            rw [List.getD_eq_getElem?_getD, hcs]
            rfl
          refine ⟨_, rfl, ⟨fun b o n e => off b o (nt rfl (by omega)) (nl rfl (by omega)) e, dom, htg⟩, ?_⟩
          rw [el]
          exact ⟨dx, a1, a2, a3, a4, a5, a6, a7, as, ts, _, hx1, (htg x _ hx).trans tx, hB⟩
        · rintro σ G ⟨tag1, rfl, g1, hM1⟩
          obtain ⟨dx1, b1, b2, b3, b4, b5, b6, b7, as1, ts1, ls1, hx1, tx1, hA1⟩ := _root_.id hM1
          obtain ⟨_, qs, eqs, hQ⟩ := hA1.qu
          obtain ⟨b, hb, _, hbH⟩ := hQ.get (i := m.place) (o := tpc ((q0 : Int), (k0 : Int))) (by show (m.qu.map tpc)[m.place]? = _; rw [List.getElem?_map, hq0]; rfl)
          refine ⟨fun σ G' => G' = G ∧ σ = [some (.ref x), some (.int (jn : Int)), some (.int (tabNo m : Nat)), some (.int (q0 : Int)), some (.int (k0 : Int))], ?_, ?_⟩
          · walk_at "ev"
            refine ⟨x, C, dx1, _, .ref b7, rfl, hx1, D.cl, D.n9, rfl, ?_⟩
            walk_at "ev"
            refine ⟨x, C, dx1, _, .int (m.place : Int), rfl, hx1, D.cl, D.n10, rfl, ?_⟩
            walk_at "ev"
            refine ⟨_, _, _, _, rfl, rfl, .inl (.inl eqs), at_list hb, ?_⟩
            refine ⟨b, _, rfl, .inl (.inl hbH), rfl, ?_⟩
            walk_at "ev"
            rfl
          rintro σ G' ⟨rfl, rfl⟩
          have ecur := W.cur
          refine ⟨fun σ G2 => ∃ tag2, σ = [some (.ref x), some (.int (jn : Int)), some (.int (tabNo m : Nat)), some (.int (q0 : Int)), some (.int (k0 : Int))] ∧ Gone tag tag2 H G2 ∧ LMAt tag2 C CT G2 x (told (learnT m jn) k0 (q0 : Int) (jn : Int)), ?_, ?_⟩
          · walk_at "ev"
            · rename_i hz
              refine ⟨x, dx1, _, rfl, hx1, ?_⟩
              walk_at "ev"
              refine ⟨x, tag1, learnT m jn, k0, (jn : Int), rfl, hM1, ?_, ecur.1, ecur.2, fun H2 tag2 u1 u2 u3 hM2 => ?_⟩
              · show k0 < m.str.length
                rw [W.lstr]
                exact hk0
              · refine ⟨tag2, rfl, g1.trans ⟨u1, u2, u3⟩, ?_⟩
                unfold told
                rw [if_pos hz]
                exact hM2
            · rename_i hz
              refine ⟨x, dx1, _, rfl, hx1, ?_⟩
              walk_at "ev"
              refine ⟨x, tag1, learnT m jn, k0, (jn : Int), rfl, hM1, hk0, W.lstr, W.lsince, W.lnb, ecur.1, ecur.2, fun H2 tag2 u1 u2 u3 hM2 => ?_⟩
              refine ⟨tag2, rfl, g1.trans ⟨u1, u2, u3⟩, ?_⟩
              unfold told
              rw [if_neg hz]
              exact hM2
          rintro σ G2 ⟨tag2, rfl, g2, hM2⟩
          have est : stepOf m jn = { told (learnT m jn) k0 (q0 : Int) (jn : Int) with place := m.place + 1 } := by
            unfold stepOf
            rw [List.getD_eq_getElem?_getD, hq0]
            rfl
          have fx := told_fix (learnT m jn) k0 (q0 : Int) (jn : Int)
          generalize told (learnT m jn) k0 (q0 : Int) (jn : Int) = m2 at hM2 est fx
          obtain ⟨fx1, fx2, fx3, fx4, fx5, fx6, fx7, fx8, fx9, fx10⟩ := fx
          have fx4 : m2.place = m.place := fx4
          obtain ⟨dx2, c1, c2, c3, c4, c5, c6, c7, as2, ts2, ls2, hx2, tx2, hA2⟩ := _root_.id hM2
          walk_at "ev"
          refine ⟨x, C, dx2, _, .int (m2.place : Int), rfl, hx2, D.cl, D.n10, rfl, ?_⟩
          walk_at "ev"
          refine ⟨dx2, _, hx2, by show 11 < 1000; decide, ?_⟩
          obtain ⟨hM3, g3⟩ := LMAt.setPlace (m.place + 1) hx2 tx2 hA2
          have ep : putF "_place" (V.int ((m2.place : Int) + 1)) (lmF c1 c2 c3 c4 c5 c6 c7 m2) = lmF c1 c2 c3 c4 c5 c6 c7 { m2 with place := m.place + 1 } := by
            rw [fx4]
            rfl
          rw [ep]
          generalize hn : upd G2 x (.ins C dx2 (lmF c1 c2 c3 c4 c5 c6 c7 { m2 with place := m.place + 1 })) = G3 at hM3 g3 ⊢
          have em : ({ m2 with place := m.place + 1 } : LM) = stepOf m jn := est.symm
          rw [em] at hM3
          have q1 : (stepOf m jn).place = (stepOf m jn).qu.length ∧ 0 < (stepOf m jn).cur → next m jn = begin (stepOf m jn) := fun z => if_pos z
          have q2 : ¬ ((stepOf m jn).place = (stepOf m jn).qu.length ∧ 0 < (stepOf m jn).cur) → next m jn = stepOf m jn := fun z => if_neg z
          have Ws := W.step hf hj
          have g4 := g2.trans g3
          clear hn ep em est g2 g3
          generalize stepOf m jn = m3 at hM3 q1 q2 Ws
          obtain ⟨dx3, d1, d2, d3, d4, d5, d6, d7, as3, ts3, ls3, hx3, tx3, hA3⟩ := _root_.id hM3
          obtain ⟨_, qs3, eqs3, hQ3⟩ := hA3.qu
          have lq3 : qs3.length = m3.qu.length := by rw [hQ3.1, List.length_map]
          walk_at "ev"
          refine ⟨x, C, dx3, _, .int (m3.place : Int), rfl, hx3, D.cl, D.n10, rfl, ?_⟩
          walk_at "ev"
          refine ⟨x, C, dx3, _, .ref d7, rfl, hx3, D.cl, D.n9, rfl, ?_⟩
          walk_at "ev"
          · rename_i hz
            have hz' : m3.place = m3.qu.length := by
              rw [List.length_map, lq3] at hz
              omega
            refine ⟨x, C, dx3, _, .int m3.cur, rfl, hx3, D.cl, D.n8, rfl, ?_⟩
            walk_at "ev"
            · rename_i hp
              refine ⟨x, dx3, _, rfl, hx3, ?_⟩
              walk_at "ev"
              refine ⟨x, tag2, m3, rfl, hM3, Ws.lsince, Ws.lnb, Ws.few, fun H5 tag5 u1 u2 u3 hM5 => ?_⟩
              refine q H5 tag5 (g4.trans ⟨u1, u2, u3⟩) ?_
              rw [q1 ⟨hz', hp⟩]
              exact hM5
            · rename_i hp
              refine q _ tag2 g4 ?_
              rw [q2 (fun z => hp z.2)]
              exact hM3
          · rename_i hz
            refine q _ tag2 g4 ?_
            rw [q2 (fun z => hz (by rw [List.length_map, lq3, z.1]))]
            exact hM3
      · refine ⟨fun _ _ => False, ?_, fun _ _ z => z.elim⟩
        walk_at "ev"
        refine ⟨x, C, dx, _, .ref a6, rfl, hx, D.cl, D.n7, rfl, ?_⟩
        walk_at "ev"
        refine ⟨_, _, _, _, rfl, rfl, .inl (.inl hA.tabs.1), atI_nat (by rw [List.getElem?_map, ht]; rfl), ?_⟩
        walk_at "ev"
        refine ⟨t, dt, _, rfl, hTx, ?_⟩
        walk_at "ev"
        refine ⟨t, l, cs, _, rfl, hT, gC, .inr ⟨?_, e⟩⟩
        rw [lcs]
        rcases bad with b | b
        · rw [hf] at b
          cases b
        · exact b
/-! ### what is wanted -/
theorem at_sizes {n : Nat} (h : n < 5) : atI [V.int 3, V.int 3, V.int 3, V.int 2, V.int 2] (n : Int) = some (.int ((if n < 3 then 3 else 2 : Nat) : Int)) := by
  match n, h with
  | 0, _ => rfl
  | 1, _ => rfl
  | 2, _ => rfl
  | 3, _ => rfl
  | 4, _ => rfl
def spWant (C CT : Addr) : Sp := fun vs H Q _ => ∃ (x : Addr) (tag : Tag) (m : LM), vs = [.ref x] ∧ LMAt tag C CT H x m ∧ LMW m ∧ (fin m = true → Q .non H) ∧
  (fin m = false → ∀ (p c : Addr), H p = none → H c = some (tpc (m.cs.getD (m.qu.getD m.place (0, 0)).2.toNat (0, 0))) → tag c = 1 → Q (.ref p) (upd H p (.tup [.int (tabNo m : Nat), .int (sizeAt m : Nat), .ref c])))
theorem ok_want {f C CT : Addr} {fd : FuncData} {k : Nat} (F : Fun K "wanted" "LineModel.wanted" s_LineModel_wanted f fd) (T : Txt mg) (D : LMK K C) (LC : LMC K mg) (M_fin : CalM P w K mg base 1 C "_is_complete" [] (spFin C CT)) (M_tabno : CalM P w K mg base 1 C "_table_number" [] (spTabNo C CT)) :
    FnOk P w K mg base CX0 (k + 2) f fd ["self"] (spWant C CT) := by
  obtain ⟨⟨_, hNEAR⟩, ⟨_, hSHARPER⟩, ⟨_, hFAR⟩, ⟨_, hPASSES⟩, ⟨_, hFRESH⟩, ⟨_, hOLD⟩, ⟨_, hMOST⟩, ⟨RS, hSIZES, hRS⟩⟩ := LC
  refine F.ok sc_LineModel_wanted (fun vs H Q E h => ?_) (fun cdv A outer s H vs Q E hr h => ?_)
  · obtain ⟨x, tag, m, rfl, _⟩ := h
    rfl
  · obtain ⟨x, tag, m, rfl, hM, W, qa, qb⟩ := h
    refine ⟨_, (pss_cons (ps_if (pt_val (pe_mx0 M_fin D.cl hr (by omega) passN (pv 0))) (pss_one (ps_ret pe_non)) pss_nil)
    (pss_cons (ps_set (i := 1) sc_LineModel_wanted.nd rfl (Or.inl rfl) (pe_mx0 M_tabno D.cl hr (by omega) passN (pv 0)))
    (pss_cons (ps_asg (pe_ix ix_list (pe_fld (pv 0) rfl) (pe_fld (pv 0) rfl) (fun _ _ => rfl)) (pg_tup rfl (pgs_cons (pg_name (i := 2) sc_LineModel_wanted.nd rfl (Or.inl rfl)) (pgs_cons (pg_name (i := 3) sc_LineModel_wanted.nd rfl (Or.inl rfl)) pgs_nil))))
    (pss_one (ps_ret (pe_tup (pa_cons (pv 1) (pa_cons (pe_ix ix_tup (pe_glob (v := .ref RS) (by rfl) hSIZES rfl) (pv 1) (fun _ _ => rfl)) (pa_cons (pe_ix ix_list (pe_fld (pv 0) rfl) (pv 3) (fun _ _ => rfl)) pa_nil))))))))), ?_⟩
    obtain ⟨dx, a1, a2, a3, a4, a5, a6, a7, as, ts, ls, hx, tx, hA⟩ := _root_.id hM
    walk_at "ev"
    refine ⟨x, dx, _, rfl, hx, ?_⟩
    walk_at "ev"
    refine ⟨x, tag, m, rfl, hM, ?_⟩
    cases hf : fin m with
    | true =>
      walk_at "ev"
      exact qa hf
    | false =>
      walk_at "ev"
      refine ⟨x, dx, _, rfl, hx, ?_⟩
      walk_at "ev"
      refine ⟨x, tag, m, rfl, hM, W, hf, ?_⟩
      walk_at "ev"
      obtain ⟨q0, k0, hq0, _, hk0⟩ := W.here hf
      obtain ⟨_, qs, eqs, hQ⟩ := hA.qu
      obtain ⟨b, hb, _, hbH⟩ := hQ.get (i := m.place) (o := tpc ((q0 : Int), (k0 : Int))) (by rw [List.getElem?_map, hq0]; rfl)
      obtain ⟨_, cl, ecl, hC⟩ := hA.cells
      obtain ⟨c, hc⟩ : ∃ c, m.cs[k0]? = some c := ⟨_, List.getElem?_eq_getElem hk0⟩
      obtain ⟨b2, hb2, tb2, hb2H⟩ := hC.get (i := k0) (o := tpc c) (by rw [List.getElem?_map, hc]; rfl)
      have ec : m.cs.getD (m.qu.getD m.place (0, 0)).2.toNat (0, 0) = c := by
        rw [List.getD_eq_getElem?_getD (l := m.qu), hq0]
        show m.cs.getD ((k0 : Int)).toNat (0, 0) = c
        rw [Int.toNat_natCast, List.getD_eq_getElem?_getD, hc]
        rfl
      refine ⟨x, C, dx, _, .ref a7, rfl, hx, D.cl, D.n9, rfl, ?_⟩
      walk_at "ev"
      refine ⟨x, C, dx, _, .int (m.place : Int), rfl, hx, D.cl, D.n10, rfl, ?_⟩
      walk_at "ev"
      refine ⟨_, _, _, _, rfl, rfl, .inl (.inl eqs), at_list hb, ?_⟩
      refine ⟨b, _, rfl, .inl (.inl hbH), rfl, ?_⟩
      walk_at "ev"
      refine ⟨_, _, _, _, rfl, rfl, hRS _, at_sizes (tabNo_lt W), ?_⟩
      walk_at "ev"
      refine ⟨x, C, dx, _, .ref a1, rfl, hx, D.cl, D.n2, rfl, ?_⟩
      walk_at "ev"
      refine ⟨_, _, _, _, rfl, rfl, .inl (.inl ecl), at_list hb2, ?_⟩
      walk_at "ev"
      refine ⟨(by show 3 ≤ sizeLine; decide), fun p np => ?_⟩
      exact qb hf p b2 np (by rw [ec]; exact hb2H) tb2
def spWantC (C CT : Addr) : Sp := fun vs H Q _ => ∃ (x : Addr) (tag : Tag) (m : LM), vs = [.ref x] ∧ LMAt tag C CT H x m ∧ LMW m ∧ (fin m = true → ∀ p, H p = none → Q (.ref p) (upd H p (.lst []))) ∧
  (fin m = false → ∀ (p : Addr) (H' : Hp), H p = none → Same H H' → H' p = some (.lst ((m.tabs.getD (tabNo m) []).map V.int)) → Q (.ref p) H')
theorem ok_wantC {f C CT : Addr} {fd : FuncData} {k : Nat} (F : Fun K "wanted_counts" "LineModel.wanted_counts" s_LineModel_wanted_counts f fd) (T : Txt mg) (D : LMK K C) (TK : TabK K CT) (M_fin : CalM P w K mg base 1 C "_is_complete" [] (spFin C CT)) (M_tabno : CalM P w K mg base 1 C "_table_number" [] (spTabNo C CT)) (M_counts : CalP P w K mg base 1 CT "counts" (spCounts CT)) :
    FnOk P w K mg base CX0 (k + 3) f fd ["self"] (spWantC C CT) := by
  refine F.ok sc_LineModel_wanted_counts (fun vs H Q E h => ?_) (fun cdv A outer s H vs Q E hr h => ?_)
  · obtain ⟨x, tag, m, rfl, _⟩ := h
    rfl
  · obtain ⟨x, tag, m, rfl, hM, W, qa, qb⟩ := h
    refine ⟨_, (pss_cons (ps_if (pt_val (pe_mx0 M_fin D.cl hr (by omega) passN (pv 0))) (pss_one (ps_ret (pe_lst pa_nil))) pss_nil)
    (pss_one (ps_ret (pe_pr M_counts TK.cl hr (by omega) (pe_ix ix_list (pe_fld (pv 0) rfl) (pe_mx0 M_tabno D.cl hr (by omega) passN (pv 0)) (fun _ _ => rfl)) rfl)))), ?_⟩
    obtain ⟨dx, a1, a2, a3, a4, a5, a6, a7, as, ts, ls, hx, tx, hA⟩ := _root_.id hM
    walk_at "ev"
    refine ⟨x, dx, _, rfl, hx, ?_⟩
    walk_at "ev"
    refine ⟨x, tag, m, rfl, hM, ?_⟩
    cases hf : fin m with
    | true =>
      walk_at "ev"
      exact ⟨(by show 0 ≤ sizeLine; decide), fun p np => qa hf p np⟩
    | false =>
      walk_at "ev"
      obtain ⟨cs, hcs, gC, lcs⟩ := W.tabGood
      have tl5 := tabNo_lt W
      obtain ⟨t, ht⟩ : ∃ t, ts[tabNo m]? = some t := ⟨_, List.getElem?_eq_getElem (by rw [hA.lts.1]; exact tl5)⟩
      obtain ⟨l, hl⟩ : ∃ l, ls[tabNo m]? = some l := ⟨_, List.getElem?_eq_getElem (by rw [hA.lts.2.1]; exact tl5)⟩
      obtain ⟨tt, tl, hT⟩ := hA.tab _ _ _ _ ht hl hcs
      obtain ⟨dt, hTx, hTl⟩ := _root_.id hT
      have ec : m.tabs.getD (tabNo m) [] = cs := by rw [List.getD_eq_getElem?_getD, hcs]; rfl
      refine ⟨x, C, dx, _, .ref a6, rfl, hx, D.cl, D.n7, rfl, ?_⟩
      walk_at "ev"
      refine ⟨x, dx, _, rfl, hx, ?_⟩
      walk_at "ev"
      refine ⟨x, tag, m, rfl, hM, W, hf, ?_⟩
      walk_at "ev"
      refine ⟨_, _, _, _, rfl, rfl, .inl (.inl hA.tabs.1), atI_nat (by rw [List.getElem?_map, ht]; rfl), ?_⟩
      refine ⟨t, dt, _, rfl, hTx, t, l, cs, rfl, hT, fun p H' np sm e => ?_⟩
      exact qb hf p H' np sm (by rw [ec]; exact e)
def spChk (K : PySem.W.Frag) : Sp := fun vs H Q _ => ∃ (rp : Addr) (x0 x1 y0 y1 : Int), vs = [.ref rp] ∧ SqT K H rp [.int x0, .int x1, .int y0, .int y1] ∧ x0 ≤ x1 ∧ y0 ≤ y1 ∧ Q .non H
theorem ok_chk {f : Addr} {fd : FuncData} {k : Nat} (F : Fun K "check_rect" "check_rect" s_check_rect f fd) (T : Txt mg) : FnOk P w K mg base CX0 (k + 1) f fd ["rect"] (spChk K) := by
  refine F.ok sc_check_rect (fun vs H Q E h => ?_) (fun cdv A outer s H vs Q E hr h => ?_)
  · obtain ⟨rp, x0, x1, y0, y1, rfl, _⟩ := h
    rfl
  · obtain ⟨rp, x0, x1, y0, y1, rfl, hrp, hx, hy, q⟩ := h
    refine ⟨_, (pss_cons (ps_asg (pv 0) (pg_tup rfl (pgs_cons (pg_name (i := 1) sc_check_rect.nd rfl (Or.inl rfl)) (pgs_cons (pg_name (i := 2) sc_check_rect.nd rfl (Or.inl rfl)) (pgs_cons (pg_name (i := 3) sc_check_rect.nd rfl (Or.inl rfl)) (pgs_cons (pg_name (i := 4) sc_check_rect.nd rfl (Or.inl rfl)) pgs_nil))))))
    (pss_one (ps_if (PW.pt (pw_or (pt_cmpR op_gt (pv 1) (pv 2) (nomark _)) (pw_or1 (pt_cmpR op_gt (pv 3) (pv 4) (nomark _))))) (pss_one ps_never) pss_nil))), ?_⟩
    walk_at "ev"
    refine ⟨rp, _, rfl, hrp, rfl, ?_⟩
    walk_at "ev"
    exact q
/-! ### a model is made -/
structure Base (tag : Tag) (H G : Hp) (x : Addr) : Prop where
  off : ∀ b o, b ≠ x → H b = some o → G b = some o ∧ tag b = 0
  sup : ∀ b, G b = none → tag b = 0
  tx : tag x = 2
structure Stp (tag tag' : Tag) (G G' : Hp) (x : Addr) : Prop where
  keep : ∀ b o, b ≠ x → G b = some o → G' b = some o ∧ tag' b = tag b
  sup : ∀ b, G' b = none → tag' b = 0
  tx : tag' x = 2
theorem Base.stp {tag tag' : Tag} {H G G' : Hp} {x : Addr} (b : Base tag H G x) (s : Stp tag tag' G G' x) : Base tag' H G' x :=
  ⟨fun c o n e => by
    obtain ⟨p, q⟩ := b.off c o n e
    obtain ⟨u, v⟩ := s.keep c o n p
    exact ⟨u, v.trans q⟩, s.sup, s.tx⟩
theorem Stp.trans {t1 t2 t3 : Tag} {G1 G2 G3 : Hp} {x : Addr} (a : Stp t1 t2 G1 G2 x) (b : Stp t2 t3 G2 G3 x) : Stp t1 t3 G1 G3 x :=
  ⟨fun c o n e => by
    obtain ⟨p, q⟩ := a.keep c o n e
    obtain ⟨u, v⟩ := b.keep c o n p
    exact ⟨u, v.trans q⟩, b.sup, b.tx⟩
/-- an object of the model's own stands on -/
theorem Stp.at {tag tag' : Tag} {G G' : Hp} {x b : Addr} {n : Nat} {o : HO} (s : Stp tag tag' G G' x) (h : tag b = n) (tx : tag x = 2) (n2 : n ≠ 2) (e : G b = some o) : G' b = some o ∧ tag' b = n := by
  obtain ⟨u, v⟩ := s.keep b o (fun z => n2 (by rw [← h, z, tx])) e
  exact ⟨u, v.trans h⟩
theorem Stp.objs {tag tag' : Tag} {G G' : Hp} {x p : Addr} {os : List HO} (s : Stp tag tag' G G' x) (tx : tag x = 2) (h : Objs (fun b => tag b = 1) G p os) : Objs (fun b => tag' b = 1) G' p os := h.up fun b o n e => by
  obtain ⟨u, v⟩ := s.at n tx (by decide) e
  exact ⟨v, u⟩
theorem Stp.objsA {tag tag' : Tag} {G G' : Hp} {x : Addr} {as : List Addr} {os : List HO} (s : Stp tag tag' G G' x) (tx : tag x = 2) (h : ObjsA (fun b => tag b = 1) G as os) : ObjsA (fun b => tag' b = 1) G' as os := h.up fun b o n e => by
  obtain ⟨u, v⟩ := s.at n tx (by decide) e
  exact ⟨v, u⟩
/-- a field of the object itself is written -/
theorem stp_x {tag : Tag} {G : Hp} {x : Addr} {o : HO} (sup : ∀ b, G b = none → tag b = 0) (tx : tag x = 2) : Stp tag tag G (upd G x o) x :=
  ⟨fun b o' n e => ⟨(upd_ne n).trans e, rfl⟩, fun b e => sup b (by
    by_cases z : b = x
    · rw [z, upd_same] at e
      cases e
    · rw [upd_ne z] at e
      exact e), tx⟩
/-- new objects: D of kind n, the others never to be written -/
def tagD (tag : Tag) (G G' : Hp) (D : Addr) (n : Nat) : Tag := fun b => if b = D then n else tagN tag G G' b
theorem stp_new {tag : Tag} {G G' : Hp} {x D : Addr} {n : Nat} {ox oD : HO} (s : Same G G') (nD : G D = none) (eD : G' D = some oD) (hx : G x = some ox) (tx : tag x = 2) : Stp tag (tagD tag G G' D n) G G' x := by
  have ne : ∀ b o, G b = some o → b ≠ D := fun b o e => ne_of_none e nD
  refine ⟨fun b o _ e => ⟨s b o e, ?_⟩, fun b e => ?_, ?_⟩
  · show (if b = D then n else tagN tag G G' b) = tag b
    rw [if_neg (ne b o e), tagN_old e]
  · show (if b = D then n else tagN tag G G' b) = 0
    rw [if_neg (fun z => by rw [z, eD] at e; cases e)]
    exact tagN_none (fun c e => s.free e) e
  · show (if x = D then n else tagN tag G G' x) = 2
    rw [if_neg (ne x ox hx), tagN_old hx, tx]
theorem tagD_D {tag : Tag} {G G' : Hp} {D : Addr} {n : Nat} : tagD tag G G' D n D = n := if_pos rfl
theorem tagD_new {tag : Tag} {G G' : Hp} {D b : Addr} {n : Nat} {o : HO} (nb : b ≠ D) (h : G b = none) (h' : G' b = some o) : tagD tag G G' D n b = 1 := by
  show (if b = D then n else tagN tag G G' b) = 1
  rw [if_neg nb, tagN_new h h']
theorem sqt_off {K : PySem.W.Frag} {H : Hp} {a x : Addr} {xs : List V} {o : HO} (n : a ≠ x) (h : SqT K H a xs) : SqT K (upd H x o) a xs := by
  rcases h with (h | ⟨o', h⟩) | h
  · exact .inl (.inl ((upd_ne n).trans h))
  · exact .inl (.inr ⟨o', (upd_ne n).trans h⟩)
  · exact .inr h
def szL : List Nat := [3, 3, 3, 2, 2]
def tabs0 : List (List Int) := szL.map fun n => List.replicate n 1
def lm0 (x0 y0 : Int) (w h : Nat) (p : Nat) : LM := { cs := cellsL x0 y0 w h, wid := (w : Int), pl := (p : Int), str := List.replicate (h * w) (-(2 ^ p - 1), 2 ^ p - 1), since := List.replicate (h * w) none, nb := List.replicate (h * w) 0, tabs := tabs0, cur := (p : Int), qu := [], place := 0 }
def lmI (x0 y0 : Int) (w h : Nat) (p : Nat) : LM := begin (lm0 x0 y0 w h p)
theorem lmw0 {x0 y0 : Int} {w h p : Nat} (few : h * w ≤ 900) (p1 : p ≤ 20) : LMW (lm0 x0 y0 w h p) := by
  have lc : (cellsL x0 y0 w h).length = h * w := cellsL_len _ _ _ _
  refine ⟨by show (cellsL x0 y0 w h).length ≤ 900; omega, by show (List.replicate _ _).length = (cellsL x0 y0 w h).length; rw [List.length_replicate, lc], by show (List.replicate _ _).length = (cellsL x0 y0 w h).length; rw [List.length_replicate, lc], by show (List.replicate _ _).length = (cellsL x0 y0 w h).length; rw [List.length_replicate, lc], fun c m => (nomatch m), Nat.zero_le _, fun i cs e => ?_, rfl, fun n m => ?_, ?_, Nat.zero_le _⟩
  · have e : tabs0[i]? = some cs := e
    match i, e with
    | 0, e => cases e; exact ⟨good_ones (.inr rfl), rfl⟩
    | 1, e => cases e; exact ⟨good_ones (.inr rfl), rfl⟩
    | 2, e => cases e; exact ⟨good_ones (.inr rfl), rfl⟩
    | 3, e => cases e; exact ⟨good_ones (.inl rfl), rfl⟩
    | 4, e => cases e; exact ⟨good_ones (.inl rfl), rfl⟩
  · rw [(List.mem_replicate.mp m).2]
    decide
  · show 0 ≤ (p : Int) ∧ (p : Int) ≤ 20
    omega
def szV : List V := szL.map fun (n : Nat) => V.int (n : Int)
/-- the first n tables -/
structure TabsL (tag : Tag) (CT : Addr) (H : Hp) (n : Nat) (ts ls : List Addr) : Prop where
  lt : ts.length = n
  ll : ls.length = n
  tab : ∀ (i : Nat) (t l : Addr) (cs : List Int), ts[i]? = some t → ls[i]? = some l → tabs0[i]? = some cs → tag t = 10 + i ∧ tag l = 20 + i ∧ TabAt CT H t l cs
theorem sz_at {t : Nat} {y : V} (h : szV[t]? = some y) : ∃ n : Nat, tabs0[t]? = some (List.replicate n 1) ∧ y = .int (n : Int) ∧ (n = 2 ∨ n = 3) := by
  unfold szV at h
  rw [List.getElem?_map] at h
  obtain ⟨n, hn, rfl⟩ := Option.map_eq_some_iff.mp h
  refine ⟨n, by rw [tabs0, List.getElem?_map, hn]; rfl, rfl, ?_⟩
  have m := List.mem_of_getElem? hn
  simp only [szL, List.mem_cons, List.not_mem_nil, or_false] at m
  omega
def spLMInit (K : PySem.W.Frag) (C CT : Addr) : Sp := fun vs H Q _ => ∃ (x dx rp : Addr) (x0 x1 y0 y1 : Int) (w h p : Nat), vs = [.ref x, .ref rp, .int (p : Int)] ∧ H x = some (.ins C dx []) ∧ rp ≠ x ∧ SqT K H rp [.int x0, .int x1, .int y0, .int y1] ∧ RectW x0 x1 y0 y1 w h ∧ 1 ≤ p ∧ p ≤ 20 ∧
  ∀ (H' : Hp) (tag : Tag), (∀ b o, b ≠ x → H b = some o → H' b = some o ∧ tag b = 0) → LMAt tag C CT H' x (lmI x0 y0 w h p) → Q .non H'
theorem ok_lminit {f C CT O : Addr} {fd : FuncData} {k : Nat} (F : Fun K "__init__" "LineModel.__init__" s_LineModel_init f fd) (T : Txt mg) (D : LMK K C) (LC : LMC K mg) (c_check_rect : C8.Cal P w K mg base 1 "check_rect" (spChk K) []) (c_cells_of : C8.Cal P w K mg base 1 "cells_of" (spCellsOf K) []) (c_neighbours_of : C8.Cal P w K mg base 1 "_neighbours_of" spNbrs [])
    (M_Table : CalC P w K mg base 1 "Table" CT ["m"] (spInit CT O)) (M_begin : CalM P w K mg base 2 C "_begin_plane" [] (spBegin C CT)) : FnOk P w K mg base CX0 (k + 3) f fd ["self", "rect", "planes"] (spLMInit K C CT) := by
  obtain ⟨⟨_, hNEAR⟩, ⟨_, hSHARPER⟩, ⟨_, hFAR⟩, ⟨_, hPASSES⟩, ⟨_, hFRESH⟩, ⟨_, hOLD⟩, ⟨_, hMOST⟩, ⟨RS, hSIZES, hRS⟩⟩ := LC
  refine F.ok sc_LineModel_init (fun vs H Q E h => ?_) (fun cdv A outer s H vs Q E hr h => ?_)
  · obtain ⟨x, dx, rp, x0, x1, y0, y1, w, h, p, rfl, _⟩ := h
    rfl
  · obtain ⟨x, dx, rp, x0, x1, y0, y1, w, h, p, rfl, hx, nrx, hrp, hR, p1, p2, q⟩ := h
    have hu := hr.units
    refine ⟨_, (pss_cons (ps_expr (C8.pe_c c_check_rect hr (by omega) (by rfl) (pa_cons (pv 1) pa_nil)))
    (pss_cons (ps_if (pt_not (pt_chain op_le op_le pe_int (pv 2) (pe_glob (v := .int 20) (by rfl) hMOST ⟨_, rfl⟩))) (pss_one ps_never) pss_nil)
    (pss_cons (ps_fld (pv 0) (pe_op op_sub (pe_ix ix_tup (pv 1) pe_int (fun _ _ => rfl)) (pe_ix ix_tup (pv 1) pe_int (fun _ _ => rfl))) rfl)
    (pss_cons (ps_fld (pv 0) (pv 2) rfl)
    (pss_cons (ps_fld (pv 0) (C8.pe_c c_cells_of hr (by omega) (by rfl) (pa_cons (pv 1) pa_nil)) rfl)
    (C8.pss_cut (ps_fld (pv 0) (C8.pe_c c_neighbours_of hr (by omega) (by rfl) (pa_cons (pe_fld (pv 0) rfl) pa_nil)) rfl)
    (pss_cons (ps_set (i := 3) sc_LineModel_init.nd rfl (Or.inr rfl) (pe_op op_sub (pe_op op_shl pe_int (pv 2)) pe_int))
    (C8.pss_cut (ps_fld (pv 0) (pe_lc (own := [("_", 4)]) (g := (gName 4)) (tt := tYes) rfl sc_LineModel_init.nd (pi_list (pe_fld (pv 0) rfl)) (blkOk_by (N := ["self", "rect", "planes", "greatest", "_", "size"]) (sc := defScope s_LineModel_init) (by decide +kernel)) (fun _ _ _ _ _ => pg_name (i := 4) sc_LineModel_init.nd rfl (by first | exact Or.inl rfl | exact Or.inr rfl)) (fun _ _ _ _ _ => pts_nil) (fun _ _ _ _ _ => (pe_tup (pa_cons (pe_un un_neg (pv 3)) (pa_cons (pv 3) pa_nil))))) rfl)
    (C8.pss_cut (ps_fld (pv 0) (pe_lc (own := [("_", 4)]) (g := (gName 4)) (tt := tYes) rfl sc_LineModel_init.nd (pi_list (pe_fld (pv 0) rfl)) (blkOk_by (N := ["self", "rect", "planes", "greatest", "_", "size"]) (sc := defScope s_LineModel_init) (by decide +kernel)) (fun _ _ _ _ _ => pg_name (i := 4) sc_LineModel_init.nd rfl (by first | exact Or.inl rfl | exact Or.inr rfl)) (fun _ _ _ _ _ => pts_nil) (fun _ _ _ _ _ => pe_non)) rfl)
    (C8.pss_cut (ps_fld (pv 0) (pe_lc (own := [("_", 4)]) (g := (gName 4)) (tt := tYes) rfl sc_LineModel_init.nd (pi_list (pe_fld (pv 0) rfl)) (blkOk_by (N := ["self", "rect", "planes", "greatest", "_", "size"]) (sc := defScope s_LineModel_init) (by decide +kernel)) (fun _ _ _ _ _ => pg_name (i := 4) sc_LineModel_init.nd rfl (by first | exact Or.inl rfl | exact Or.inr rfl)) (fun _ _ _ _ _ => pts_nil) (fun _ _ _ _ _ => pe_int)) rfl)
    (C8.pss_cut (ps_fld (pv 0) (pe_lc (own := [("size", 5)]) (g := (gName 5)) (tt := tYes) rfl sc_LineModel_init.nd (pi_tup (pe_glob (v := .ref RS) (by rfl) hSIZES rfl)) (blkOk_by (N := ["self", "rect", "planes", "greatest", "_", "size"]) (sc := defScope s_LineModel_init) (by decide +kernel)) (fun _ _ _ _ _ => pg_name (i := 5) sc_LineModel_init.nd rfl (by first | exact Or.inl rfl | exact Or.inr rfl)) (fun _ _ _ _ _ => pts_nil) (fun _ _ _ _ _ => (pe_new M_Table hr (by omega) (by rfl) passN (pa_cons (pv 5) pa_nil)))) rfl)
    (pss_cons (ps_fld (pv 0) (pv 2) rfl)
    (pss_cons (ps_fld (pv 0) (pe_lst pa_nil) rfl)
    (pss_cons (ps_fld (pv 0) pe_int rfl)
    (pss_one (ps_expr (pe_mx0 M_begin D.cl hr (by omega) passN (pv 0)))))))))))))))))), ?_⟩
    walk_at "ev"
    refine ⟨rp, x0, x1, y0, y1, rfl, hrp, by have := hR.ex; omega, by have := hR.ey; omega, ?_⟩
    walk_at "ev"
    obtain ⟨hRx, hRy, _, _, few, mw, mh⟩ := _root_.id hR
    refine ⟨x, C, dx, _, rfl, hx, D.cl, D.n0, by show 0 < 1000; decide, ?_⟩
    walk_at "ev"
    refine ⟨x, C, dx, _, rfl, upd_same, D.cl, D.n1, by show 1 < 1000; decide, ?_⟩
    walk_at "ev"
    refine ⟨rp, x0, x1, y0, y1, w, h, rfl, sqt_off nrx (sqt_off nrx hrp), hR, fun a1 G1 s1 hC1 => ?_⟩
    have ex1 : x1 - x0 = (w : Int) := by omega
    have e1 : HO.ins C dx (putF "_planes" (V.int (p : Int)) (putF "_width" ((fun i j => V.int (i - j)) x1 x0) [])) = HO.ins C dx [("_width", .int (w : Int)), ("_planes", .int (p : Int))] := by
      show HO.ins C dx [("_width", V.int (x1 - x0)), ("_planes", V.int (p : Int))] = _
      rw [ex1]
    rw [e1] at s1 hC1
    generalize hG0 : upd (upd H x (.ins C dx (putF "_width" ((fun i j => V.int (i - j)) x1 x0) []))) x (.ins C dx [("_width", .int (w : Int)), ("_planes", .int (p : Int))]) = G0 at s1 hC1
    have hx0 : G0 x = some (.ins C dx [("_width", .int (w : Int)), ("_planes", .int (p : Int))]) := by rw [← hG0]; exact upd_same
    have ho0 : ∀ b, b ≠ x → G0 b = H b := fun b n => by rw [← hG0, upd_ne n, upd_ne n]
    clear hG0 e1
    walk_at "ev"
    refine ⟨x, C, dx, _, rfl, s1 _ _ hx0, D.cl, D.n2, by show 2 < 1000; decide, ?_⟩
    obtain ⟨nA1, cl, ec1, hCA⟩ := hC1
    have n1x : a1 ≠ x := fun z => by
      rw [z, hx0] at nA1
      cases nA1
    refine ⟨fun σ G => ∃ (tag : Tag) (a1 a2 : Addr), σ = [some (.ref x), some (.ref rp), some (.int (p : Int)), none, none, none] ∧ G x = some (.ins C dx [("_width", .int (w : Int)), ("_planes", .int (p : Int)), ("_cells", .ref a1), ("_neighbours", .ref a2)]) ∧ Base tag H G x ∧ Objs (fun b => tag b = 1) G a1 ((cellsL x0 y0 w h).map tpc) ∧ Objs (fun b => tag b = 1) G a2 ((cellsL x0 y0 w h).map fun c => natsO (besC (cellsL x0 y0 w h) c)), ?_, ?_⟩
    · walk_at "ev"
      refine ⟨x, C, dx, _, .ref a1, rfl, upd_same, D.cl, D.n2, rfl, ?_⟩
      walk_at "ev"
      refine ⟨a1, cellsL x0 y0 w h, rfl, ⟨trivial, cl, (upd_ne n1x).trans ec1, hCA.up fun b o n e => ⟨trivial, (upd_ne (fun z => by rw [z, hx0] at n; cases n)).trans e⟩⟩, by rw [cellsL_len]; omega, fun a2 G2 s2 hC2 => ?_⟩
      walk_at "ev"
      refine ⟨x, C, dx, _, rfl, s2 _ _ upd_same, D.cl, D.n3, by show 3 < 1000; decide, ?_⟩
      have g1 : ∀ b o, b ≠ x → G1 b = some o → upd G2 x (.ins C dx (putF "_neighbours" (.ref a2) (putF "_cells" (.ref a1) [("_width", .int (w : Int)), ("_planes", .int (p : Int))]))) b = some o := fun b o n e => (upd_ne n).trans (s2 _ _ ((upd_ne n).trans e))
      have g2 : ∀ b o, b ≠ x → G2 b = some o → upd G2 x (.ins C dx (putF "_neighbours" (.ref a2) (putF "_cells" (.ref a1) [("_width", .int (w : Int)), ("_planes", .int (p : Int))]))) b = some o := fun b o n e => (upd_ne n).trans e
      have gx : upd G2 x (.ins C dx (putF "_neighbours" (.ref a2) (putF "_cells" (.ref a1) [("_width", .int (w : Int)), ("_planes", .int (p : Int))]))) x = some (.ins C dx [("_width", .int (w : Int)), ("_planes", .int (p : Int)), ("_cells", .ref a1), ("_neighbours", .ref a2)]) := upd_same
      have gn : ∀ b, upd G2 x (.ins C dx (putF "_neighbours" (.ref a2) (putF "_cells" (.ref a1) [("_width", .int (w : Int)), ("_planes", .int (p : Int))]))) b = none → H b = none := fun b e => by
        by_cases z : b = x
        · rw [z, upd_same] at e
          cases e
        · rw [upd_ne z] at e
          have e := s2.free e
          rw [upd_ne z] at e
          rw [← ho0 b z]
          exact s1.free e
      have n0 : ∀ b, G0 b = none → H b = none ∧ b ≠ x := fun b e => by
        have z : b ≠ x := fun z => by
          rw [z, hx0] at e
          cases e
        exact ⟨(ho0 b z).symm.trans e, z⟩
      have n2 : ∀ {o1 : HO} (b : Addr), upd G1 x o1 b = none → H b = none ∧ b ≠ x := fun {o1} b e => by
        have z : b ≠ x := fun z => by
          rw [z, upd_same] at e
          cases e
        rw [upd_ne z] at e
        exact n0 b (s1.free e)
      show ∃ (tag : Tag) (b1 b2 : Addr), _ ∧ upd G2 x (.ins C dx (putF "_neighbours" (.ref a2) (putF "_cells" (.ref a1) [("_width", .int (w : Int)), ("_planes", .int (p : Int))]))) x = some (.ins C dx [("_width", .int (w : Int)), ("_planes", .int (p : Int)), ("_cells", .ref b1), ("_neighbours", .ref b2)]) ∧ Base tag H (upd G2 x (.ins C dx (putF "_neighbours" (.ref a2) (putF "_cells" (.ref a1) [("_width", .int (w : Int)), ("_planes", .int (p : Int))])))) x ∧ Objs (fun b => tag b = 1) (upd G2 x (.ins C dx (putF "_neighbours" (.ref a2) (putF "_cells" (.ref a1) [("_width", .int (w : Int)), ("_planes", .int (p : Int))])))) b1 _ ∧ Objs (fun b => tag b = 1) (upd G2 x (.ins C dx (putF "_neighbours" (.ref a2) (putF "_cells" (.ref a1) [("_width", .int (w : Int)), ("_planes", .int (p : Int))])))) b2 _
      generalize upd G2 x (.ins C dx (putF "_neighbours" (.ref a2) (putF "_cells" (.ref a1) [("_width", .int (w : Int)), ("_planes", .int (p : Int))]))) = Gf at g1 g2 gx gn ⊢
      refine ⟨tagN (fun b => if b = x then 2 else 0) H Gf, a1, a2, rfl, gx, ⟨fun b o n e => ⟨g1 b o n (s1 _ _ ((ho0 b n).trans e)), ?_⟩, fun b e => tagN_none gn e, ?_⟩, ?_, ?_⟩
      · rw [tagN_old e]
        exact if_neg n
      · rw [tagN_old hx]
        exact if_pos rfl
      · have hG : Objs (fun b => G0 b = none) G1 a1 ((cellsL x0 y0 w h).map tpc) := ⟨nA1, cl, ec1, hCA⟩
        exact Objs.up hG fun b o n e => ⟨tagN_new (n0 b n).1 (g1 b o (n0 b n).2 e), g1 b o (n0 b n).2 e⟩
      · exact Objs.up hC2 fun b o n e => ⟨tagN_new (n2 b n).1 (g2 b o (n2 b n).2 e), g2 b o (n2 b n).2 e⟩
    · rintro σ G ⟨tag, a1, a2, rfl, hxG, hB, hC, hN⟩
      walk_at "ev"
      obtain ⟨tA1, cl, ec1, hCA⟩ := _root_.id hC
      have lcl : (cl.map V.ref).length = h * w := by rw [List.length_map, hCA.1, List.length_map, cellsL_len]
      refine ⟨fun σ G' => ∃ (tag' : Tag) (a3 : Addr) (as : List Addr), σ = [some (.ref x), some (.ref rp), some (.int (p : Int)), some (.int (1 * 2 ^ p - 1)), none, none] ∧ G' x = some (.ins C dx [("_width", .int (w : Int)), ("_planes", .int (p : Int)), ("_cells", .ref a1), ("_neighbours", .ref a2), ("_stretches", .ref a3)]) ∧ Stp tag tag' G G' x ∧ G' a3 = some (.lst (as.map V.ref)) ∧ tag' a3 = 3 ∧ ObjsA (fun b => tag' b = 1) G' as (List.replicate (h * w) (tpc (-(1 * 2 ^ p - 1), 1 * 2 ^ p - 1))), ?_, ?_⟩
      · walk_at "ev"
        refine ⟨x, C, dx, _, .ref a1, rfl, hxG, D.cl, D.n2, rfl, ?_⟩
        refine ⟨a1, rfl, ⟨_, .inl (.inl ec1)⟩, fun D3 nD => ?_⟩
        refine lc_it (walk_list (xs := cl.map V.ref)) (fun t G2 => Same G G2 ∧ ∃ as, G2 D3 = some (.lst (as.map V.ref)) ∧ ObjsA (fun b => G b = none ∧ b ≠ D3) G2 as (List.replicate t (tpc (-(1 * 2 ^ p - 1), 1 * 2 ^ p - 1)))) ⟨same_upd nD, [], upd_same, .nil⟩ (fun t G2 _ h => .inl (.inl (h.1 _ _ ec1))) ?_ ?_
        · rintro t y G2 G3 ht ⟨s2, as, e2, hA⟩ ⟨rfl, hy⟩
          walk_at "ev"
          refine ⟨(by show 2 ≤ sizeLine; decide), fun t2 nt => ?_⟩
          have ntD : t2 ≠ D3 := fun z => by
            rw [z, e2] at nt
            cases nt
          have las : as.length ≤ 900 := by
            rw [hA.1, List.length_replicate]
            omega
          refine ⟨_, new_at e2 nt, small1000 (by rw [List.length_map]; omega), fun b o e => ?_, as ++ [t2], by rw [upd_same, List.map_append]; rfl, ?_⟩
          · rw [upd_ne (ne_of_none e nD), upd_ne (ne_of_none (s2 _ _ e) nt)]
            exact s2 _ _ e
          · rw [List.replicate_succ']
            refine (hA.up fun b o n e => ⟨n, ?_⟩).app ⟨s2.free nt, ntD⟩ ?_
            · rw [upd_ne n.2, upd_ne (ne_of_none e nt)]
              exact e
            · rw [upd_ne ntD, upd_same]
              rfl
        · rintro G2 ⟨s2, as, e2, hA⟩
          rw [lcl] at hA
          walk_at "ev"
          refine ⟨x, C, dx, _, rfl, s2 _ _ hxG, D.cl, D.n4, by show 4 < 1000; decide, ?_⟩
          have sp := (stp_new (n := 3) s2 nD e2 hxG hB.tx).trans (stp_x (G := G2) (o := .ins C dx (putF "_stretches" (.ref D3) [("_width", .int (w : Int)), ("_planes", .int (p : Int)), ("_cells", .ref a1), ("_neighbours", .ref a2)])) (stp_new (n := 3) s2 nD e2 hxG hB.tx).sup (stp_new (n := 3) s2 nD e2 hxG hB.tx).tx)
          have nDx : D3 ≠ x := fun z => by
            rw [z, hxG] at nD
            cases nD
          refine ⟨_, D3, as, rfl, upd_same, sp, (upd_ne nDx).trans e2, tagD_D, hA.up fun b o n e => ⟨tagD_new n.2 n.1 e, ?_⟩⟩
          rw [upd_ne (fun z => by rw [z, hxG] at n; cases n.1)]
          exact e
      · rintro σ G' ⟨tag', a3, as, rfl, hxG', sp, e3, t3, hA3⟩
        have tA1' : tag a1 = 1 := tA1
        have ec2 := (sp.at tA1' hB.tx (by decide) ec1)
        refine ⟨fun σ G'' => ∃ (tag'' : Tag) (a4 : Addr), σ = [some (.ref x), some (.ref rp), some (.int (p : Int)), some (.int (1 * 2 ^ p - 1)), none, none] ∧ G'' x = some (.ins C dx [("_width", .int (w : Int)), ("_planes", .int (p : Int)), ("_cells", .ref a1), ("_neighbours", .ref a2), ("_stretches", .ref a3), ("_since", .ref a4)]) ∧ Stp tag' tag'' G' G'' x ∧ G'' a4 = some (.lst (List.replicate (h * w) V.non)) ∧ tag'' a4 = 4, ?_, ?_⟩
        · walk_at "ev"
          refine ⟨x, C, dx, _, .ref a1, rfl, hxG', D.cl, D.n2, rfl, ?_⟩
          refine ⟨a1, rfl, ⟨_, .inl (.inl ec2.1)⟩, fun D3 nD => ?_⟩
          refine lc_it (walk_list (xs := cl.map V.ref)) (fun t G2 => Same G' G2 ∧ G2 D3 = some (.lst (List.replicate t V.non))) ⟨same_upd nD, upd_same⟩ (fun t G2 _ h => .inl (.inl (h.1 _ _ ec2.1))) ?_ ?_
          · rintro t y G2 G3 ht ⟨s2, e2⟩ ⟨rfl, hy⟩
            walk_at "ev"
            refine ⟨_, e2, small1000 (by rw [List.length_replicate]; omega), fun b o e => ?_, ?_⟩
            · rw [upd_ne (ne_of_none e nD)]
              exact s2 _ _ e
            · rw [upd_same, List.replicate_succ']
          · rintro G2 ⟨s2, e2⟩
            rw [lcl] at e2
            walk_at "ev"
            refine ⟨x, C, dx, _, rfl, s2 _ _ hxG', D.cl, D.n5, by show 5 < 1000; decide, ?_⟩
            have sp0 := stp_new (n := 4) s2 nD e2 hxG' sp.tx
            have nDx : D3 ≠ x := fun z => by
              rw [z, hxG'] at nD
              cases nD
            exact ⟨_, D3, rfl, upd_same, sp0.trans (stp_x sp0.sup sp0.tx), (upd_ne nDx).trans e2, tagD_D⟩
        · rintro σ G5 ⟨tag5, a4, rfl, hxG5, sp5, e4, t4⟩
          have ec5 := (sp5.at ec2.2 sp.tx (by decide) ec2.1)
          refine ⟨fun σ G'' => ∃ (tag'' : Tag) (a5 : Addr), σ = [some (.ref x), some (.ref rp), some (.int (p : Int)), some (.int (1 * 2 ^ p - 1)), none, none] ∧ G'' x = some (.ins C dx ([("_width", .int (w : Int)), ("_planes", .int (p : Int)), ("_cells", .ref a1), ("_neighbours", .ref a2), ("_stretches", .ref a3), ("_since", .ref a4), ("_nonzero_beside", .ref a5)])) ∧ Stp tag5 tag'' G5 G'' x ∧ G'' a5 = some (.lst (List.replicate (h * w) (V.int 0))) ∧ tag'' a5 = 5, ?_, ?_⟩
          · walk_at "ev"
            refine ⟨x, C, dx, _, .ref a1, rfl, hxG5, D.cl, D.n2, rfl, ?_⟩
            refine ⟨a1, rfl, ⟨_, .inl (.inl ec5.1)⟩, fun D3 nD => ?_⟩
            refine lc_it (walk_list (xs := cl.map V.ref)) (fun t G2 => Same G5 G2 ∧ G2 D3 = some (.lst (List.replicate t (V.int 0)))) ⟨same_upd nD, upd_same⟩ (fun t G2 _ h => .inl (.inl (h.1 _ _ ec5.1))) ?_ ?_
            · rintro t y G2 G3 ht ⟨s2, e2⟩ ⟨rfl, hy⟩
              walk_at "ev"
              refine ⟨_, e2, small1000 (by rw [List.length_replicate]; omega), fun b o e => ?_, ?_⟩
              · rw [upd_ne (ne_of_none e nD)]
                exact s2 _ _ e
              · rw [upd_same, List.replicate_succ']
            · rintro G2 ⟨s2, e2⟩
              rw [lcl] at e2
              walk_at "ev"
              refine ⟨x, C, dx, _, rfl, s2 _ _ hxG5, D.cl, D.n6, by show 6 < 1000; decide, ?_⟩
              have sp0 := stp_new (n := 5) s2 nD e2 hxG5 sp5.tx
              have nDx : D3 ≠ x := fun z => by
                rw [z, hxG5] at nD
                cases nD
              exact ⟨_, D3, rfl, upd_same, sp0.trans (stp_x sp0.sup sp0.tx), (upd_ne nDx).trans e2, tagD_D⟩
          · rintro σ G6 ⟨tag6, a5, rfl, hxG6, sp6, e5, t5⟩
            refine ⟨fun σ G'' => ∃ (tag7 : Tag) (a6 : Addr) (ts ls : List Addr), σ = [some (.ref x), some (.ref rp), some (.int (p : Int)), some (.int (1 * 2 ^ p - 1)), none, none] ∧ G'' x = some (.ins C dx [("_width", .int (w : Int)), ("_planes", .int (p : Int)), ("_cells", .ref a1), ("_neighbours", .ref a2), ("_stretches", .ref a3), ("_since", .ref a4), ("_nonzero_beside", .ref a5), ("_tables", .ref a6)]) ∧ Stp tag6 tag7 G6 G'' x ∧ G'' a6 = some (.lst (ts.map V.ref)) ∧ tag7 a6 = 1 ∧ TabsL tag7 CT G'' 5 ts ls, ?_, ?_⟩
            · walk_at "ev"
              refine ⟨⟨_, hRS _⟩, fun D3 nD => ?_⟩
              have sp0 := stp_new (n := 1) (same_upd (o := .lst []) nD) nD upd_same hxG6 sp6.tx
              refine lc_it (walk_tup (xs := szV)) (fun t G2 => ∃ (tag2 : Tag) (ts ls : List Addr), Stp tag6 tag2 G6 G2 x ∧ G2 x = some (.ins C dx [("_width", .int (w : Int)), ("_planes", .int (p : Int)), ("_cells", .ref a1), ("_neighbours", .ref a2), ("_stretches", .ref a3), ("_since", .ref a4), ("_nonzero_beside", .ref a5)]) ∧ G2 D3 = some (.lst (ts.map V.ref)) ∧ tag2 D3 = 1 ∧ TabsL tag2 CT G2 t ts ls) ⟨_, [], [], sp0, new_at hxG6 nD, upd_same, tagD_D, rfl, rfl, fun i t l cs e => nomatch e⟩ (fun _ _ _ _ => hRS _) ?_ ?_
              · rintro t y G2 G3 ht ⟨tag2, ts, ls, s2, ex2, e2, t2, hL⟩ ⟨rfl, hy⟩
                obtain ⟨n, hn, rfl, hn23⟩ := sz_at hy
                walk_at "ev"
                intro tn dx' ntn ndx' nex
                refine ⟨tn, dx', (n : Int), rfl, upd_same, .inl ⟨by omega, fun l H' nl off hT => ⟨rfl, ?_⟩⟩⟩
                rw [Int.toNat_natCast] at hT
                obtain ⟨dt, eT, eL⟩ := _root_.id hT
                have ntD : tn ≠ D3 := fun z => by
                  rw [z, e2] at ntn
                  cases ntn
                have g3 : ∀ b o, b ≠ tn → G3 b = some o → H' b = some o := fun b o nb e => off b o nb (by rw [upd_ne nb, upd_ne (ne_of_none e ndx')]; exact e)
                have nlt : l ≠ tn := fun z => by
                  rw [z, upd_same] at nl
                  cases nl
                have nl3 : G3 l = none := by
                  cases z : G3 l with
                  | none => rfl
                  | some o =>
                    rw [upd_ne nlt, upd_ne (ne_of_none z ndx'), z] at nl
                    cases nl
                have nlD : l ≠ D3 := fun z => by
                  rw [z, e2] at nl3
                  cases nl3
                have eD' : H' D3 = some (.lst (ts.map V.ref)) := g3 D3 _ ntD.symm e2
                have hf : ∀ b o, b ≠ tn → b ≠ D3 → G3 b = some o → upd H' D3 (.lst (ts.map V.ref ++ [V.ref tn])) b = some o := fun b o nb nD' e => (upd_ne nD').trans (g3 b o nb e)
                have dom : ∀ b, upd H' D3 (.lst (ts.map V.ref ++ [V.ref tn])) b = none → G3 b = none ∧ b ≠ tn ∧ b ≠ l := fun b e => by
                  by_cases zD : b = D3
                  · rw [zD, upd_same] at e
                    cases e
                  · rw [upd_ne zD] at e
                    have z1 : b ≠ tn := fun z => by
                      rw [z, eT] at e
                      cases e
                    have z2 : b ≠ l := fun z => by
                      rw [z, eL] at e
                      cases e
                    refine ⟨?_, z1, z2⟩
                    cases z : G3 b with
                    | none => rfl
                    | some o =>
                      rw [g3 b o z1 z] at e
                      cases e
                have ltt : ts.length ≤ 5 := by
                  have : szV.length = 5 := rfl
                  rw [hL.lt]
                  omega
                refine ⟨_, eD', small1000 (by rw [List.length_map]; omega), fun b => if b = tn then 10 + t else if b = l then 20 + t else tagN tag2 G3 (upd H' D3 (.lst (ts.map V.ref ++ [V.ref tn]))) b, ts ++ [tn], ls ++ [l], ⟨fun b o nx e => ?_, fun b e => ?_, ?_⟩, hf x _ (ne_of_none ex2 ntn) (fun z => by rw [← z, hxG6] at nD; cases nD) ex2, by rw [upd_same, List.map_append]; rfl, ?_, ?_⟩
                · obtain ⟨u, v⟩ := s2.keep b o nx e
                  have z1 : b ≠ tn := ne_of_none u ntn
                  have z2 : b ≠ l := ne_of_none u nl3
                  refine ⟨hf b o z1 (ne_of_none e nD) u, ?_⟩
                  show (if b = tn then 10 + t else if b = l then 20 + t else tagN tag2 G3 (upd H' D3 (.lst (ts.map V.ref ++ [V.ref tn]))) b) = tag6 b
                  rw [if_neg z1, if_neg z2, tagN_old u, v]
                · obtain ⟨u, v, z⟩ := dom b e
                  show (if b = tn then 10 + t else if b = l then 20 + t else tagN tag2 G3 (upd H' D3 (.lst (ts.map V.ref ++ [V.ref tn]))) b) = 0
                  rw [if_neg v, if_neg z]
                  exact tagN_none (fun c e => (dom c e).1) e
                · have ux := s2.tx
                  cases z : G3 x with
                  | none =>
                    rw [s2.sup x z] at ux
                    cases ux
                  | some o =>
                    show (if x = tn then 10 + t else if x = l then 20 + t else tagN tag2 G3 (upd H' D3 (.lst (ts.map V.ref ++ [V.ref tn]))) x) = 2
                    rw [if_neg (ne_of_none z ntn), if_neg (ne_of_none z nl3), tagN_old z, ux]
                · show (if D3 = tn then 10 + t else if D3 = l then 20 + t else tagN tag2 G3 (upd H' D3 (.lst (ts.map V.ref ++ [V.ref tn]))) D3) = 1
                  rw [if_neg ntD.symm, if_neg nlD.symm, tagN_old e2, t2]
                · refine ⟨by rw [List.length_append, hL.lt]; rfl, by rw [List.length_append, hL.ll]; rfl, fun i tt l2 cs e1 e3 e4 => ?_⟩
                  by_cases zi : i < t
                  · rw [List.getElem?_append_left (by rw [hL.lt]; exact zi)] at e1
                    rw [List.getElem?_append_left (by rw [hL.ll]; exact zi)] at e3
                    obtain ⟨u1, u2, dd, u3, u4⟩ := hL.tab i tt l2 cs e1 e3 e4
                    have a1' : tt ≠ tn := ne_of_none u3 ntn
                    have a2' : tt ≠ l := ne_of_none u3 nl3
                    have a3' : tt ≠ D3 := fun z => by
                      rw [z, t2] at u1
                      omega
                    have b1' : l2 ≠ tn := ne_of_none u4 ntn
                    have b2' : l2 ≠ l := ne_of_none u4 nl3
                    have b3' : l2 ≠ D3 := fun z => by
                      rw [z, t2] at u2
                      omega
                    refine ⟨?_, ?_, dd, hf _ _ a1' a3' u3, hf _ _ b1' b3' u4⟩
                    · show (if tt = tn then 10 + t else if tt = l then 20 + t else tagN tag2 G3 (upd H' D3 (.lst (ts.map V.ref ++ [V.ref tn]))) tt) = 10 + i
                      rw [if_neg a1', if_neg a2', tagN_old u3, u1]
                    · show (if l2 = tn then 10 + t else if l2 = l then 20 + t else tagN tag2 G3 (upd H' D3 (.lst (ts.map V.ref ++ [V.ref tn]))) l2) = 20 + i
                      rw [if_neg b1', if_neg b2', tagN_old u4, u2]
                  · have zl : (ts ++ [tn]).length = t + 1 := by rw [List.length_append, hL.lt]; rfl
                    have zi2 := (List.getElem?_eq_some_iff.mp e1).1
                    obtain rfl : i = t := by omega
                    rw [List.getElem?_append_right (by rw [hL.lt]; exact Nat.le_refl _), hL.lt, Nat.sub_self] at e1
                    rw [List.getElem?_append_right (by rw [hL.ll]; exact Nat.le_refl _), hL.ll, Nat.sub_self] at e3
                    obtain rfl : tn = tt := Option.some.inj e1
                    obtain rfl : l = l2 := Option.some.inj e3
                    rw [hn] at e4
                    obtain rfl := Option.some.inj e4
                    refine ⟨if_pos rfl, ?_, dt, (upd_ne ntD).trans eT, (upd_ne nlD).trans eL⟩
                    show (if l = tn then 10 + i else if l = l then 20 + i else tagN tag2 G3 (upd H' D3 (.lst (ts.map V.ref ++ [V.ref tn]))) l) = 20 + i
                    rw [if_neg nlt, if_pos rfl]
              · rintro G2 ⟨tag2, ts, ls, s2, ex2, e2, t2, hL⟩
                walk_at "ev"
                refine ⟨x, C, dx, _, rfl, ex2, D.cl, D.n7, by show 7 < 1000; decide, ?_⟩
                have nDx : D3 ≠ x := fun z => by
                  rw [z, hxG6] at nD
                  cases nD
                have sx := s2.trans (stp_x (o := .ins C dx (putF "_tables" (.ref D3) [("_width", .int (w : Int)), ("_planes", .int (p : Int)), ("_cells", .ref a1), ("_neighbours", .ref a2), ("_stretches", .ref a3), ("_since", .ref a4), ("_nonzero_beside", .ref a5)])) s2.sup s2.tx)
                refine ⟨tag2, D3, ts, ls, rfl, upd_same, sx, (upd_ne nDx).trans e2, t2, hL.lt, hL.ll, fun i t l cs e1 e3 e4 => ?_⟩
                obtain ⟨u1, u2, dd, u3, u4⟩ := hL.tab i t l cs e1 e3 e4
                have tx2 := s2.tx
                exact ⟨u1, u2, dd, (upd_ne (fun z => by rw [z, tx2] at u1; omega)).trans u3, (upd_ne (fun z => by rw [z, tx2] at u2; omega)).trans u4⟩
            · rintro σ G7 ⟨tag7, a6, ts, ls, rfl, hxG7, sp7, e7, t7, hL⟩
              walk_at "ev"
              refine ⟨x, C, dx, _, rfl, hxG7, D.cl, D.n8, by show 8 < 1000; decide, ?_⟩
              have sa : Stp tag7 tag7 G7 (upd G7 x (.ins C dx [("_width", .int (w : Int)), ("_planes", .int (p : Int)), ("_cells", .ref a1), ("_neighbours", .ref a2), ("_stretches", .ref a3), ("_since", .ref a4), ("_nonzero_beside", .ref a5), ("_tables", .ref a6), ("_plane", .int (p : Int))])) x := stp_x sp7.sup sp7.tx
              have hxa : upd G7 x (.ins C dx [("_width", .int (w : Int)), ("_planes", .int (p : Int)), ("_cells", .ref a1), ("_neighbours", .ref a2), ("_stretches", .ref a3), ("_since", .ref a4), ("_nonzero_beside", .ref a5), ("_tables", .ref a6), ("_plane", .int (p : Int))]) x = some (.ins C dx [("_width", .int (w : Int)), ("_planes", .int (p : Int)), ("_cells", .ref a1), ("_neighbours", .ref a2), ("_stretches", .ref a3), ("_since", .ref a4), ("_nonzero_beside", .ref a5), ("_tables", .ref a6), ("_plane", .int (p : Int))]) := upd_same
              walk_at "ev"
              refine ⟨(by show 0 ≤ sizeLine; decide), fun Dq nD => ?_⟩
              have sb := sa.trans (stp_new (n := 1) (same_upd (o := .lst []) nD) nD upd_same hxa sa.tx)
              have nDx : Dq ≠ x := fun z => by
                have nD : upd G7 x (.ins C dx [("_width", .int (w : Int)), ("_planes", .int (p : Int)), ("_cells", .ref a1), ("_neighbours", .ref a2), ("_stretches", .ref a3), ("_since", .ref a4), ("_nonzero_beside", .ref a5), ("_tables", .ref a6), ("_plane", .int (p : Int))]) Dq = none := nD
                rw [z, hxa] at nD
                cases nD
              have tq := tagD_D (tag := tag7) (G := upd G7 x (.ins C dx [("_width", .int (w : Int)), ("_planes", .int (p : Int)), ("_cells", .ref a1), ("_neighbours", .ref a2), ("_stretches", .ref a3), ("_since", .ref a4), ("_nonzero_beside", .ref a5), ("_tables", .ref a6), ("_plane", .int (p : Int))])) (G' := upd (upd G7 x (.ins C dx [("_width", .int (w : Int)), ("_planes", .int (p : Int)), ("_cells", .ref a1), ("_neighbours", .ref a2), ("_stretches", .ref a3), ("_since", .ref a4), ("_nonzero_beside", .ref a5), ("_tables", .ref a6), ("_plane", .int (p : Int))])) Dq (.lst [])) (D := Dq) (n := 1)
              generalize tagD tag7 (upd G7 x (.ins C dx [("_width", .int (w : Int)), ("_planes", .int (p : Int)), ("_cells", .ref a1), ("_neighbours", .ref a2), ("_stretches", .ref a3), ("_since", .ref a4), ("_nonzero_beside", .ref a5), ("_tables", .ref a6), ("_plane", .int (p : Int))])) (upd (upd G7 x (.ins C dx [("_width", .int (w : Int)), ("_planes", .int (p : Int)), ("_cells", .ref a1), ("_neighbours", .ref a2), ("_stretches", .ref a3), ("_since", .ref a4), ("_nonzero_beside", .ref a5), ("_tables", .ref a6), ("_plane", .int (p : Int))])) Dq (.lst [])) Dq 1 = tagb at sb tq
              walk_at "ev"
              refine ⟨x, C, dx, _, rfl, new_at hxa nD, D.cl, D.n9, by show 9 < 1000; decide, ?_⟩
              walk_at "ev"
              refine ⟨x, C, dx, _, rfl, upd_same, D.cl, D.n10, by show 10 < 1000; decide, ?_⟩
              walk_at "ev"
              refine ⟨x, dx, _, rfl, upd_same, ?_⟩
              walk_at "ev"
              have sc : Stp tag7 tagb G7 (upd (upd (upd G7 x (.ins C dx [("_width", .int (w : Int)), ("_planes", .int (p : Int)), ("_cells", .ref a1), ("_neighbours", .ref a2), ("_stretches", .ref a3), ("_since", .ref a4), ("_nonzero_beside", .ref a5), ("_tables", .ref a6), ("_plane", .int (p : Int))])) Dq (.lst [])) x (.ins C dx [("_width", .int (w : Int)), ("_planes", .int (p : Int)), ("_cells", .ref a1), ("_neighbours", .ref a2), ("_stretches", .ref a3), ("_since", .ref a4), ("_nonzero_beside", .ref a5), ("_tables", .ref a6), ("_plane", .int (p : Int)), ("_queue", .ref Dq)])) x := sb.trans (stp_x sb.sup sb.tx)
              have sd : Stp tag7 tagb G7 (upd (upd (upd (upd G7 x (.ins C dx [("_width", .int (w : Int)), ("_planes", .int (p : Int)), ("_cells", .ref a1), ("_neighbours", .ref a2), ("_stretches", .ref a3), ("_since", .ref a4), ("_nonzero_beside", .ref a5), ("_tables", .ref a6), ("_plane", .int (p : Int))])) Dq (.lst [])) x (.ins C dx [("_width", .int (w : Int)), ("_planes", .int (p : Int)), ("_cells", .ref a1), ("_neighbours", .ref a2), ("_stretches", .ref a3), ("_since", .ref a4), ("_nonzero_beside", .ref a5), ("_tables", .ref a6), ("_plane", .int (p : Int)), ("_queue", .ref Dq)])) x (.ins C dx [("_width", .int (w : Int)), ("_planes", .int (p : Int)), ("_cells", .ref a1), ("_neighbours", .ref a2), ("_stretches", .ref a3), ("_since", .ref a4), ("_nonzero_beside", .ref a5), ("_tables", .ref a6), ("_plane", .int (p : Int)), ("_queue", .ref Dq), ("_place", .int 0)])) x := sc.trans (stp_x sc.sup sc.tx)
              have hxd : (upd (upd (upd (upd G7 x (.ins C dx [("_width", .int (w : Int)), ("_planes", .int (p : Int)), ("_cells", .ref a1), ("_neighbours", .ref a2), ("_stretches", .ref a3), ("_since", .ref a4), ("_nonzero_beside", .ref a5), ("_tables", .ref a6), ("_plane", .int (p : Int))])) Dq (.lst [])) x (.ins C dx [("_width", .int (w : Int)), ("_planes", .int (p : Int)), ("_cells", .ref a1), ("_neighbours", .ref a2), ("_stretches", .ref a3), ("_since", .ref a4), ("_nonzero_beside", .ref a5), ("_tables", .ref a6), ("_plane", .int (p : Int)), ("_queue", .ref Dq)])) x (.ins C dx [("_width", .int (w : Int)), ("_planes", .int (p : Int)), ("_cells", .ref a1), ("_neighbours", .ref a2), ("_stretches", .ref a3), ("_since", .ref a4), ("_nonzero_beside", .ref a5), ("_tables", .ref a6), ("_plane", .int (p : Int)), ("_queue", .ref Dq), ("_place", .int 0)])) x = some (.ins C dx (lmF a1 a2 a3 a4 a5 a6 Dq (lm0 x0 y0 w h p))) := upd_same
              have eqd : (upd (upd (upd (upd G7 x (.ins C dx [("_width", .int (w : Int)), ("_planes", .int (p : Int)), ("_cells", .ref a1), ("_neighbours", .ref a2), ("_stretches", .ref a3), ("_since", .ref a4), ("_nonzero_beside", .ref a5), ("_tables", .ref a6), ("_plane", .int (p : Int))])) Dq (.lst [])) x (.ins C dx [("_width", .int (w : Int)), ("_planes", .int (p : Int)), ("_cells", .ref a1), ("_neighbours", .ref a2), ("_stretches", .ref a3), ("_since", .ref a4), ("_nonzero_beside", .ref a5), ("_tables", .ref a6), ("_plane", .int (p : Int)), ("_queue", .ref Dq)])) x (.ins C dx [("_width", .int (w : Int)), ("_planes", .int (p : Int)), ("_cells", .ref a1), ("_neighbours", .ref a2), ("_stretches", .ref a3), ("_since", .ref a4), ("_nonzero_beside", .ref a5), ("_tables", .ref a6), ("_plane", .int (p : Int)), ("_queue", .ref Dq), ("_place", .int 0)])) Dq = some (.lst []) := (upd_ne nDx).trans ((upd_ne nDx).trans upd_same)
              have t1 := sp6.trans (sp7.trans sd)
              have t2' := sp5.trans t1
              have t3' := sp.trans t2'
              have hBd := (hB.stp sp).stp t2'
              have b7 := sp7.trans sd
              have e3d := t2'.at t3 sp.tx (by decide) e3
              have hA3d := t2'.objsA sp.tx hA3
              have e4d := t1.at t4 sp5.tx (by decide) e4
              have e5d := b7.at t5 sp6.tx (by decide) e5
              have e7d := sd.at t7 sp7.tx (by decide) e7
              have hCd := t3'.objs hB.tx hC
              have hNd := t3'.objs hB.tx hN
              refine ⟨x, tagb, lm0 x0 y0 w h p, rfl, ⟨dx, a1, a2, a3, a4, a5, a6, Dq, as, ts, ls, hxd, sd.tx, hCd, hNd, ⟨e3d.1, e3d.2, ?_⟩, ⟨?_, e4d.2⟩, ⟨?_, e5d.2⟩, e7d, ⟨hL.lt, hL.ll, rfl⟩, fun i t l cs e1 e2 e3 => ?_, ⟨tq, [], eqd, .nil⟩, sd.sup⟩, ?_, ?_, ?_, fun H' tag2 f1 f2 f3 hM => ?_⟩
              · show ObjsA _ _ as ((List.replicate (h * w) ((-(2 ^ p - 1), 2 ^ p - 1) : Cell)).map tpc)
                rw [List.map_replicate]
                have hA3d := hA3d
                rw [Int.one_mul] at hA3d
                exact hA3d
              · show _ = some (HO.lst ((List.replicate (h * w) (none : Option Int)).map optV))
                rw [List.map_replicate]
                exact e4d.1
              · show _ = some (HO.lst ((List.replicate (h * w) (0 : Int)).map V.int))
                rw [List.map_replicate]
                exact e5d.1
              · obtain ⟨u1, u2, dd, u3, u4⟩ := hL.tab i t l cs e1 e2 e3
                have v3 := sd.at u1 sp7.tx (by omega) u3
                have v4 := sd.at u2 sp7.tx (by omega) u4
                exact ⟨v3.2, v4.2, dd, v3.1, v4.1⟩
              · show (List.replicate (h * w) (none : Option Int)).length = (cellsL x0 y0 w h).length
                rw [List.length_replicate, cellsL_len]
              · show (List.replicate (h * w) (0 : Int)).length = (cellsL x0 y0 w h).length
                rw [List.length_replicate, cellsL_len]
              · show (cellsL x0 y0 w h).length ≤ 900
                rw [cellsL_len]
                exact few
              · refine q H' tag2 (fun b o n e => ?_) hM
                obtain ⟨u, v⟩ := hBd.off b o n e
                exact ⟨f1 b o (by rw [v]; decide) u, (f3 b o u).trans v⟩
/-! ### the mathematics of ends -/
def Fits (L R : Int) (s i : Nat) (v : Int) : Prop := L * 2 ^ i ≤ v * 2 ^ s ∧ (v + 1) * 2 ^ s ≤ (L + R) * 2 ^ i
instance (L R : Int) (s i : Nat) (v : Int) : Decidable (Fits L R s i v) := by unfold Fits; infer_instance
theorem fits_iff {L R v : Int} (i k : Nat) : Fits L R (i + k) i v ↔ L ≤ v * 2 ^ k ∧ (v + 1) * 2 ^ k ≤ L + R := by
  have g : (0 : Int) < 2 ^ i := Int.pow_pos (by decide)
  have e : ∀ x : Int, x * 2 ^ (i + k) = (x * 2 ^ k) * 2 ^ i := fun x => by rw [Int.pow_add, Int.mul_assoc, Int.mul_comm (2 ^ k)]
  unfold Fits
  rw [e, e, Int.mul_le_mul_iff_of_pos_right g, Int.mul_le_mul_iff_of_pos_right g]
structure NodeOk (L R : Int) (s : Nat) : Prop where
  s0 : 16 ≤ s
  s1 : s ≤ 800
  r0 : 65536 ≤ R
  r1 : R ≤ 131071
  l0 : 0 ≤ L
  l1 : L + R ≤ 2 ^ s
def endN (L R : Int) (s : Nat) : Nat := if (-(-L / 65536) + 1) * 65536 ≤ L + R then s - 16 else s - 15
def endW (L R : Int) : Int := if (-(-L / 65536) + 1) * 65536 ≤ L + R then -(-L / 65536) else -(-L / 32768)
theorem not_wide {L R j : Int} {s i : Nat} (h1 : R ≤ 131071) (hi : i + 17 ≤ s) : ¬ Fits L R s i j := by
  obtain ⟨k, rfl⟩ : ∃ k, s = i + (17 + k) := ⟨s - i - 17, by omega⟩
  rw [fits_iff]
  rintro ⟨a, b⟩
  have g : (1 : Int) ≤ 2 ^ k := by
    have := Int.pow_pos (n := 2) (m := k) (by decide)
    omega
  have e : (2 : Int) ^ (17 + k) = 131072 * 2 ^ k := by rw [Int.pow_add]; rfl
  rw [Int.add_mul, Int.one_mul, e] at b
  rw [e] at a
  omega
theorem end_le {L R : Int} {s : Nat} (h : NodeOk L R s) : endN L R s ≤ s - 15 := by
  unfold endN
  split <;> omega
theorem end_fits {L R : Int} {s : Nat} (h : NodeOk L R s) : Fits L R s (endN L R s) (endW L R) := by
  obtain ⟨s0, s1, r0, r1, l0, l1⟩ := h
  unfold endN endW
  split
  · obtain ⟨n, rfl⟩ : ∃ n, s = n + 16 := ⟨s - 16, by omega⟩
    rw [show n + 16 - 16 = n by omega, fits_iff]
    rw [show (2 : Int) ^ 16 = 65536 by decide]
    omega
  · obtain ⟨n, rfl⟩ : ∃ n, s = n + 15 := ⟨s - 15, by omega⟩
    rw [show n + 15 - 15 = n by omega, fits_iff]
    rw [show (2 : Int) ^ 15 = 32768 by decide]
    omega
theorem end_room {L R : Int} {s : Nat} (h : NodeOk L R s) : 0 ≤ endW L R ∧ endW L R < 2 ^ endN L R s := by
  have f := end_fits h
  obtain ⟨s0, s1, r0, r1, l0, l1⟩ := h
  refine ⟨?_, ?_⟩
  · unfold endW
    split <;> omega
  · obtain ⟨k, hk⟩ : ∃ k, s = endN L R s + k := ⟨s - endN L R s, by unfold endN; split <;> omega⟩
    generalize endN L R s = n at *
    generalize endW L R = v at *
    subst hk
    rw [fits_iff] at f
    have g : (0 : Int) < 2 ^ k := Int.pow_pos (by decide)
    have b := Int.le_trans f.2 l1
    rw [Int.pow_add, Int.mul_le_mul_iff_of_pos_right g] at b
    omega
theorem lt_pow {v : Int} {n : Nat} (h0 : 0 ≤ v) (h : v < 2 ^ n) : v.toNat < 2 ^ n := by
  refine (Int.toNat_lt h0).mpr ?_
  rw [Int.natCast_pow]
  exact h
theorem shl_nat (i : Nat) : (1 : Int) * 2 ^ (i : Int).toNat = ((2 ^ i : Nat) : Int) := by
  rw [Int.one_mul, Int.toNat_natCast, Int.natCast_pow]
  rfl
theorem bit_at (j i t : Nat) (h : t < i) : Builtin.bitAnd ((j : Int) / 2 ^ ((i : Int) - 1 - (t : Int)).toNat) 1 = ((j / 2 ^ (i - 1 - t) % 2 : Nat) : Int) := by
  rw [bitAnd_m1, show ((i : Int) - 1 - (t : Int)).toNat = i - 1 - t by omega]
  simp only [Int.natCast_emod, Int.natCast_ediv, Int.natCast_pow]
  rfl
theorem end_first {L R : Int} {s i : Nat} {j : Int} (h : NodeOk L R s) (hj : i < endN L R s ∨ i = endN L R s ∧ j < endW L R) : ¬ Fits L R s i j := by
  obtain ⟨s0, s1, r0, r1, l0, l1⟩ := h
  by_cases w : i + 17 ≤ s
  · exact not_wide r1 w
  · unfold endN endW at hj
    split at hj
    · have e : s = i + 16 := by omega
      subst e
      rw [fits_iff, show (2 : Int) ^ 16 = 65536 by decide]
      omega
    · by_cases w2 : i + 16 = s
      · subst w2
        rw [fits_iff, show (2 : Int) ^ 16 = 65536 by decide]
        omega
      · have e : s = i + 15 := by omega
        subst e
        rw [fits_iff, show (2 : Int) ^ 15 = 32768 by decide]
        omega
/-! ### nodes of any depth -/
def chL (L R : Int) (cs : List Int) (j : Nat) : Int := (L + brd R cs j) * 2 ^ chT R cs j
def chR (R : Int) (cs : List Int) (j : Nat) : Int := (brd R cs (j + 1) - brd R cs j) * 2 ^ chT R cs j
theorem NodeOk.child {L R : Int} {s : Nat} {cs : List Int} {j : Nat} (h : NodeOk L R s) (g : GoodC cs) (hj : j < cs.length) (hs : s ≤ 794) : NodeOk (chL L R cs j) (chR R cs j) (s + chT R cs j) := by
  obtain ⟨s0, s1, r0, r1, l0, l1⟩ := h
  have bs := brd_step r0 g hj
  have b0 := brd_nn (by omega : 0 ≤ R) g j
  have b1 := brd_le (by omega : 0 ≤ R) g (j + 1)
  have d6 := dbl_le (brd R cs (j + 1) - brd R cs j)
  have hT : chT R cs j = dbl (brd R cs (j + 1) - brd R cs j) := rfl
  have up := dbl_lt (n := brd R cs (j + 1) - brd R cs j) (by omega) (t := dbl (brd R cs (j + 1) - brd R cs j)) d6
  have pp : (0 : Int) < 2 ^ chT R cs j := Int.pow_pos (by decide)
  refine ⟨by omega, by omega, ?_, ?_, ?_, ?_⟩
  · unfold chR
    rw [hT]
    exact Int.not_lt.mp fun z => Nat.lt_irrefl _ (up.mp z)
  · unfold chR
    cases e : chT R cs j with
    | zero =>
      show (brd R cs (j + 1) - brd R cs j) * 2 ^ 0 ≤ 131071
      rw [Int.pow_zero, Int.mul_one]
      omega
    | succ t =>
      have lt := (dbl_lt (n := brd R cs (j + 1) - brd R cs j) (by omega) (t := t) (by omega)).mpr (by rw [← hT, e]; exact Nat.lt_succ_self t)
      rw [Int.pow_succ, ← Int.mul_assoc]
      omega
  · unfold chL
    exact Int.mul_nonneg (by omega) (Int.le_of_lt pp)
  · unfold chL chR
    rw [← Int.add_mul, Int.pow_add]
    refine Int.mul_le_mul_of_nonneg_right ?_ (Int.le_of_lt pp)
    omega
theorem low_bits {L : Int} {s : Nat} (h0 : 0 ≤ L) (h1 : L < 2 ^ s) : (Builtin.Int.intBits L : Int) ≤ s := by
  have : L.natAbs < 2 ^ s := by
    have e : ((2 ^ s : Nat) : Int) = (2 : Int) ^ s := Int.natCast_pow 2 s
    omega
  have := PyProof.Rows.intBits_le this
  omega
/-- the module's root -/
structure RootK (K : PySem.W.Frag) (mg : Str → Option Value) : Prop where
  ex : ∃ R, mg "ROOT" = some (.ref R) ∧ ∀ H : Hp, SqT K H R [.int 0, .int 65536, .int 16]
/-! ### the window on bits -/
structure Wn where
  place : Nat
  off : Int
  size : Int
  width : Int
def dblW (bits : List Int) (w : Wn) : Wn := if w.place < bits.length then { place := w.place + 1, off := 2 * w.off + bits.getD w.place 0, size := w.size, width := 2 * w.width } else { place := w.place, off := 2 * w.off, size := 2 * w.size, width := 2 * w.width }
def dblN (bits : List Int) : Nat → Wn → Wn
  | 0, w => w
  | n + 1, w => dblW bits (dblN bits n w)
structure WnK (K : PySem.W.Frag) (C : Addr) : Prop where
  cl : Cls K C
  n0 : NoAttr K C "_bits"
  n1 : NoAttr K C "_place"
  n2 : NoAttr K C "_offset"
  n3 : NoAttr K C "_size"
  n4 : NoAttr K C "_width"
def wnF (bp : Addr) (v : Wn) : List (Str × V) := [("_bits", .ref bp), ("_place", .int (v.place : Int)), ("_offset", .int v.off), ("_size", .int v.size), ("_width", .int v.width)]
def WnAt (C : Addr) (H : Hp) (x bp : Addr) (v : Wn) : Prop := ∃ dx, H x = some (.ins C dx (wnF bp v))
/-- all but x stays, and nothing goes -/
structure OnlyX (x : Addr) (H H' : Hp) : Prop where
  off : ∀ b o, b ≠ x → H b = some o → H' b = some o
  dom : ∀ b, H' b = none → H b = none
theorem OnlyX.refl (x : Addr) (H : Hp) : OnlyX x H H := ⟨fun _ _ _ e => e, fun _ e => e⟩
theorem OnlyX.upd {x : Addr} {H G : Hp} {o : HO} (a : OnlyX x H G) (hx : ∃ o', G x = some o') : OnlyX x H (upd G x o) :=
  ⟨fun b o' n e => (upd_ne n).trans (a.off b o' n e), fun b e => by
    by_cases z : b = x
    · rw [z, upd_same] at e
      cases e
    · rw [upd_ne z] at e
      exact a.dom b e⟩
theorem OnlyX.same {x : Addr} {H G G' : Hp} (a : OnlyX x H G) (s : Same G G') : OnlyX x H G' := ⟨fun b o n e => s b o (a.off b o n e), fun b e => a.dom b (s.free e)⟩
theorem OnlyX.seq {K : PySem.W.Frag} {x bp : Addr} {H H' : Hp} {xs : List V} (a : OnlyX x H H') (n : bp ≠ x) (h : SqL K H bp xs) : SqL K H' bp xs := by
  rcases h with (h | ⟨o', h⟩) | h
  · exact .inl (.inl (a.off _ _ n h))
  · exact .inl (.inr ⟨o', a.off _ _ n h⟩)
  · exact .inr h
def spDblW (K : PySem.W.Frag) (C : Addr) : Sp := fun vs H Q _ => ∃ (x bp : Addr) (bits : List Int) (v : Wn) (t : Nat), vs = [.ref x, .int (t : Int)] ∧ WnAt C H x bp v ∧ SqL K H bp (bits.map V.int) ∧ bp ≠ x ∧ t ≤ 900 ∧ ∀ H' : Hp, OnlyX x H H' → WnAt C H' x bp (dblN bits t v) → Q .non H'
theorem ok_dblw {f C : Addr} {fd : FuncData} {k : Nat} (F : Fun K "_double" "Window._double" s_Window_double f fd) (T : Txt mg) (D : WnK K C) : FnOk P w K mg base CX0 (k + 1) f fd ["self", "times"] (spDblW K C) := by
  refine F.ok sc_Window_double (fun vs H Q E h => ?_) (fun cdv A outer s H vs Q E hr h => ?_)
  · obtain ⟨x, bp, bits, v, t, rfl, _⟩ := h
    rfl
  · obtain ⟨x, bp, bits, v, t, rfl, ⟨dx, hx⟩, hb, nbx, ht, q⟩ := h
    refine ⟨_, (pss_one (ps_for PassesOwn.never rfl (pi_range1 (by rfl) T.z_range (pa_cons (pv 1) pa_nil)) (pg_name (i := 2) sc_Window_double.nd rfl (Or.inl rfl))
      (pss_cons (ps_fld (pv 0) (pe_op op_mul pe_int (pe_fld (pv 0) rfl)) rfl)
    (pss_cons (ps_fld (pv 0) (pe_op op_mul pe_int (pe_fld (pv 0) rfl)) rfl)
    (pss_one (ps_if (pt_cmpR op_lt (pe_fld (pv 0) rfl) (pe_callB call_len_seq (by rfl) T.z_len PySem.boot_len (pa_cons (pe_fld (pv 0) rfl) pa_nil)) (nomark _)) (pss_cons (ps_fld (pv 0) (pe_op op_add (pe_fld (pv 0) rfl) (pe_ix ix_list (pe_fld (pv 0) rfl) (pe_fld (pv 0) rfl) (fun _ _ => rfl))) rfl)
    (pss_one (ps_fldaug (pv 0) pe_int in_add))) (pss_one (ps_fld (pv 0) (pe_op op_mul pe_int (pe_fld (pv 0) rfl)) rfl)))))))), ?_⟩
    walk_at "ev"
    refine ⟨by omega, by omega, ?_⟩
    rw [show ((t : Int)).toNat = t by omega]
    refine for_range (fun i σ G => ∃ v2, σ = [some (.ref x), some (.int (t : Int)), v2] ∧ OnlyX x H G ∧ G x = some (.ins C dx (wnF bp (dblN bits i v)))) ⟨_, rfl, OnlyX.refl x H, hx⟩ ?_ ?_
    · rintro i σ G hi ⟨v2, rfl, oX, hxG⟩
      have ed : dblN bits (i + 1) v = dblW bits (dblN bits i v) := rfl
      generalize dblN bits i v = u at hxG ed
      rw [ed]
      clear ed
      have hbG := oX.seq nbx hb
      walk_at "ev"
      refine ⟨x, C, dx, _, .int u.width, rfl, hxG, D.cl, D.n4, rfl, ?_⟩
      walk_at "ev"
      refine ⟨x, C, dx, _, rfl, hxG, D.cl, D.n4, by show 5 < 1000; decide, ?_⟩
      walk_at "ev"
      refine ⟨x, C, dx, _, .int u.off, rfl, upd_same, D.cl, D.n2, rfl, ?_⟩
      walk_at "ev"
      refine ⟨x, C, dx, _, rfl, upd_same, D.cl, D.n2, by show 5 < 1000; decide, ?_⟩
      have o1 := (oX.upd (o := .ins C dx (putF "_width" ((fun i j => V.int (i * j)) 2 u.width) (wnF bp u))) ⟨_, hxG⟩)
      have o2 := o1.upd (o := .ins C dx (putF "_offset" ((fun i j => V.int (i * j)) 2 u.off) (putF "_width" ((fun i j => V.int (i * j)) 2 u.width) (wnF bp u)))) ⟨_, upd_same⟩
      have hx2 : upd (upd G x (.ins C dx (putF "_width" ((fun i j => V.int (i * j)) 2 u.width) (wnF bp u)))) x (.ins C dx (putF "_offset" ((fun i j => V.int (i * j)) 2 u.off) (putF "_width" ((fun i j => V.int (i * j)) 2 u.width) (wnF bp u)))) x = some (.ins C dx (wnF bp { place := u.place, off := 2 * u.off, size := u.size, width := 2 * u.width })) := upd_same
      generalize upd (upd G x (.ins C dx (putF "_width" ((fun i j => V.int (i * j)) 2 u.width) (wnF bp u)))) x (.ins C dx (putF "_offset" ((fun i j => V.int (i * j)) 2 u.off) (putF "_width" ((fun i j => V.int (i * j)) 2 u.width) (wnF bp u)))) = G2 at o2 hx2
      have hb2 := o2.seq nbx hb
      clear o1
      walk_at "ev"
      refine ⟨x, C, dx, _, .int (u.place : Int), rfl, hx2, D.cl, D.n1, rfl, ?_⟩
      walk_at "ev"
      refine ⟨x, C, dx, _, .ref bp, rfl, hx2, D.cl, D.n0, rfl, ?_⟩
      walk_at "ev"
      · rename_i hc
        have hlt : u.place < bits.length := by
          rw [List.length_map] at hc
          omega
        obtain ⟨b0, hb0⟩ : ∃ b0, bits[u.place]? = some b0 := ⟨_, List.getElem?_eq_getElem hlt⟩
        have eg : bits.getD u.place 0 = b0 := by rw [List.getD_eq_getElem?_getD, hb0]; rfl
        have ew : dblW bits u = { place := u.place + 1, off := 2 * u.off + b0, size := u.size, width := 2 * u.width } := by
          unfold dblW
          rw [if_pos hlt, eg]
        rw [ew]
        refine ⟨x, C, dx, _, .int (2 * u.off), rfl, hx2, D.cl, D.n2, rfl, ?_⟩
        walk_at "ev"
        refine ⟨x, C, dx, _, .ref bp, rfl, hx2, D.cl, D.n0, rfl, ?_⟩
        walk_at "ev"
        refine ⟨x, C, dx, _, .int (u.place : Int), rfl, hx2, D.cl, D.n1, rfl, ?_⟩
        walk_at "ev"
        refine ⟨_, _, _, _, rfl, rfl, hb2, at_list hb0, ?_⟩
        walk_at "ev"
        refine ⟨x, C, dx, _, rfl, hx2, D.cl, D.n2, by show 5 < 1000; decide, ?_⟩
        walk_at "ev"
        refine ⟨x, C, dx, _, .int (u.place : Int), rfl, upd_same, D.cl, D.n1, rfl, ?_⟩
        walk_at "ev"
        refine ⟨dx, _, upd_same, by show 5 < 1000; decide, ?_⟩
        exact ⟨_, rfl, (o2.upd ⟨_, hx2⟩).upd ⟨_, upd_same⟩, upd_same⟩
      · rename_i hc
        have hlt : ¬ u.place < bits.length := by
          rw [List.length_map] at hc
          omega
        have ew : dblW bits u = { place := u.place, off := 2 * u.off, size := 2 * u.size, width := 2 * u.width } := by
          unfold dblW
          rw [if_neg hlt]
        rw [ew]
        refine ⟨x, C, dx, _, .int u.size, rfl, hx2, D.cl, D.n3, rfl, ?_⟩
        walk_at "ev"
        refine ⟨x, C, dx, _, rfl, hx2, D.cl, D.n3, by show 5 < 1000; decide, ?_⟩
        exact ⟨_, rfl, o2.upd ⟨_, hx2⟩, upd_same⟩
    · rintro σ G ⟨v2, rfl, oX, hxG⟩
      exact q G oX ⟨dx, hxG⟩
def wn0 : Wn := { place := 0, off := 0, size := 1, width := 1 }
def spWnI (K : PySem.W.Frag) (C : Addr) : Sp := fun vs H Q _ => ∃ (x dx bp : Addr) (bits : List Int), vs = [.ref x, .ref bp] ∧ H x = some (.ins C dx []) ∧ SqL K H bp (bits.map V.int) ∧ bp ≠ x ∧ ∀ H' : Hp, OnlyX x H H' → WnAt C H' x bp (dblN bits 16 wn0) → Q .non H'
theorem ok_wni {f C : Addr} {fd : FuncData} {k : Nat} (F : Fun K "__init__" "Window.__init__" s_Window_init f fd) (T : Txt mg) (D : WnK K C) (RK : RootK K mg) (M_dbl : CalM P w K mg base 1 C "_double" ["times"] (spDblW K C)) : FnOk P w K mg base CX0 (k + 2) f fd ["self", "bits"] (spWnI K C) := by
  obtain ⟨RT, hROOT, hRT⟩ := RK.ex
  refine F.ok sc_Window_init (fun vs H Q E h => ?_) (fun cdv A outer s H vs Q E hr h => ?_)
  · obtain ⟨x, dx, bp, bits, rfl, _⟩ := h
    rfl
  · obtain ⟨x, dx, bp, bits, rfl, hx, hb, nbx, q⟩ := h
    refine ⟨_, (pss_cons (ps_fld (pv 0) (pv 1) rfl)
    (pss_cons (ps_fld (pv 0) pe_int rfl)
    (pss_cons (ps_fld (pv 0) pe_int rfl)
    (pss_cons (ps_fld (pv 0) pe_int rfl)
    (pss_cons (ps_fld (pv 0) pe_int rfl)
    (pss_one (ps_expr (pe_mx M_dbl D.cl hr (by omega) passN (pv 0) (pa_cons (pe_ix ix_tup (pe_glob (v := .ref RT) (by rfl) hROOT rfl) pe_int (fun _ _ => rfl)) pa_nil))))))))), ?_⟩
    walk_at "ev"
    refine ⟨x, C, dx, _, rfl, hx, D.cl, D.n0, by show 0 < 1000; decide, ?_⟩
    walk_at "ev"
    refine ⟨x, C, dx, _, rfl, upd_same, D.cl, D.n1, by show 1 < 1000; decide, ?_⟩
    walk_at "ev"
    refine ⟨x, C, dx, _, rfl, upd_same, D.cl, D.n2, by show 2 < 1000; decide, ?_⟩
    walk_at "ev"
    refine ⟨x, C, dx, _, rfl, upd_same, D.cl, D.n3, by show 3 < 1000; decide, ?_⟩
    walk_at "ev"
    refine ⟨x, C, dx, _, rfl, upd_same, D.cl, D.n4, by show 4 < 1000; decide, ?_⟩
    walk_at "ev"
    refine ⟨x, dx, _, rfl, upd_same, ?_⟩
    walk_at "ev"
    refine ⟨_, _, _, _, rfl, rfl, hRT _, (rfl : atI [V.int 0, V.int 65536, V.int 16] 2 = some (.int 16)), ?_⟩
    have oo := (((((OnlyX.refl x H).upd (o := .ins C dx (putF "_bits" (.ref bp) [])) ⟨_, hx⟩).upd (o := .ins C dx (putF "_place" (.int 0) (putF "_bits" (.ref bp) []))) ⟨_, upd_same⟩).upd (o := .ins C dx (putF "_offset" (.int 0) (putF "_place" (.int 0) (putF "_bits" (.ref bp) [])))) ⟨_, upd_same⟩).upd (o := .ins C dx (putF "_size" (.int 1) (putF "_offset" (.int 0) (putF "_place" (.int 0) (putF "_bits" (.ref bp) []))))) ⟨_, upd_same⟩).upd (o := .ins C dx (putF "_width" (.int 1) (putF "_size" (.int 1) (putF "_offset" (.int 0) (putF "_place" (.int 0) (putF "_bits" (.ref bp) [])))))) ⟨_, upd_same⟩
    refine ⟨x, bp, bits, wn0, 16, rfl, ⟨dx, upd_same⟩, oo.seq nbx hb, nbx, by decide, fun H' o1 hW => ?_⟩
    exact q H' ⟨fun b o n e => o1.off b o n (oo.off b o n e), fun b e => oo.dom b (o1.dom b e)⟩ hW
/-! ### one letter read -/
def okJ (v : Wn) (cs : List Int) (j : Nat) : Prop := brd v.width cs j ≤ v.off ∧ v.off + v.size ≤ brd v.width cs (j + 1)
instance (v : Wn) (cs : List Int) (j : Nat) : Decidable (okJ v cs j) := by unfold okJ; infer_instance
def findJ (v : Wn) (cs : List Int) : Option Nat := (List.range cs.length).find? fun j => decide (okJ v cs j)
theorem findJ_some {v : Wn} {cs : List Int} {i : Nat} (h : ∀ j, j < i → ¬ okJ v cs j) (hi : i < cs.length) (ok : okJ v cs i) : findJ v cs = some i := by
  unfold findJ
  rw [List.find?_eq_some_iff_getElem]
  refine ⟨decide_eq_true ok, i, by rw [List.length_range]; exact hi, by rw [List.getElem_range], fun j hj => ?_⟩
  rw [List.getElem_range, Bool.not_eq_true']
  exact decide_eq_false (h j hj)
theorem findJ_none {v : Wn} {cs : List Int} (h : ∀ j, j < cs.length → ¬ okJ v cs j) : findJ v cs = none := by
  unfold findJ
  rw [List.find?_eq_none]
  intro j hj
  rw [decide_eq_true_eq]
  exact h j (List.mem_range.mp hj)
def stepW (bits : List Int) (v : Wn) (cs : List Int) (j : Nat) : Wn := dblN bits (chT v.width cs j) { place := v.place, off := v.off - brd v.width cs j, size := v.size, width := brd v.width cs (j + 1) - brd v.width cs j }
def spWnL (K : PySem.W.Frag) (C : Addr) : Sp := fun vs H Q _ => ∃ (x bp p : Addr) (bits : List Int) (v : Wn) (cs : List Int), vs = [.ref x, .ref p] ∧ WnAt C H x bp v ∧ SqL K H bp (bits.map V.int) ∧ bp ≠ x ∧ H p = some (.lst (cs.map V.int)) ∧ GoodC cs ∧ 65536 ≤ v.width ∧ v.width ≤ 131071 ∧
  (findJ v cs = none → ∀ H', Same H H' → Q .non H') ∧ (∀ j, findJ v cs = some j → ∀ H', OnlyX x H H' → WnAt C H' x bp (stepW bits v cs j) → Q (.int (j : Int)) H')
theorem ok_wnl {f C : Addr} {fd : FuncData} {k : Nat} (F : Fun K "letter" "Window.letter" s_Window_letter f fd) (T : Txt mg) (D : WnK K C) (M_dbl : CalM P w K mg base 1 C "_double" ["times"] (spDblW K C)) (c_borders : C8.Cal P w K mg base 1 "borders" (spBorders K) []) (c_doublings_of : C8.Cal P w K mg base 1 "doublings_of" spDbl []) : FnOk P w K mg base CX0 (k + 2) f fd ["self", "counts"] (spWnL K C) := by
  refine F.ok sc_Window_letter (fun vs H Q E h => ?_) (fun cdv A outer s H vs Q E hr h => ?_)
  · obtain ⟨x, bp, p, bits, v, cs, rfl, _⟩ := h
    rfl
  · obtain ⟨x, bp, p, bits, v, cs, rfl, ⟨dx, hx⟩, hb, nbx, hp, g, w0, w1, qn, qs⟩ := h
    refine ⟨_, (pss_cons (ps_set (i := 2) sc_Window_letter.nd rfl (Or.inl rfl) (C8.pe_c c_borders hr (by omega) (by rfl) (pa_cons (pe_fld (pv 0) rfl) (pa_cons (pv 1) pa_nil))))
    (pss_cons (ps_for PassesOwn.never rfl (pi_range1 (by rfl) T.z_range (pa_cons (pe_callB call_len_seq (by rfl) T.z_len PySem.boot_len (pa_cons (pv 1) pa_nil)) pa_nil)) (pg_name (i := 3) sc_Window_letter.nd rfl (Or.inl rfl))
      (pss_one (ps_if (PW.pt (pw_and (pt_cmpR op_le (pe_ix ix_list (pv 2) (pv 3) (fun _ _ => rfl)) (pe_fld (pv 0) rfl) (nomark _)) (pw_and1 (pt_cmpR op_le (pe_op op_add (pe_fld (pv 0) rfl) (pe_fld (pv 0) rfl)) (pe_ix ix_list (pv 2) (pe_op op_add (pv 3) pe_int) (fun _ _ => rfl)) (nomark _))))) (pss_cons (ps_fld (pv 0) (pe_op op_sub (pe_fld (pv 0) rfl) (pe_ix ix_list (pv 2) (pv 3) (fun _ _ => rfl))) rfl)
    (pss_cons (ps_fld (pv 0) (pe_op op_sub (pe_ix ix_list (pv 2) (pe_op op_add (pv 3) pe_int) (fun _ _ => rfl)) (pe_ix ix_list (pv 2) (pv 3) (fun _ _ => rfl))) rfl)
    (pss_cons (ps_expr (pe_mx M_dbl D.cl hr (by omega) passN (pv 0) (pa_cons (C8.pe_c c_doublings_of hr (by omega) (by rfl) (pa_cons (pe_fld (pv 0) rfl) pa_nil)) pa_nil)))
    (pss_one (ps_ret (pv 3)))))) pss_nil)))
    (pss_one (ps_ret pe_non)))), ?_⟩
    have npx : p ≠ x := fun z => by
      rw [z, hx] at hp
      cases hp
    have l3 := g.l3
    walk_at "ev"
    refine ⟨x, C, dx, _, .int v.width, rfl, hx, D.cl, D.n4, rfl, ?_⟩
    walk_at "ev"
    refine ⟨v.width, p, cs, rfl, by omega, by omega, .inl (.inl (.inl hp)), g, fun e H1 ne s1 eE => ?_⟩
    have nex : e ≠ x := fun z => by
      rw [z, hx] at ne
      cases ne
    walk_at "ev"
    have hp1 := s1 _ _ hp
    have hx1 := s1 _ _ hx
    refine ⟨_, _, rfl, .inl (.inl (.inl hp1)), ?_⟩
    walk_at "ev"
    refine ⟨by rw [List.length_map]; omega, by rw [List.length_map]; omega, ?_⟩
    rw [show (((cs.map V.int).length : Nat) : Int).toNat = cs.length by rw [List.length_map]; omega]
    refine for_range (fun i σ G => ∃ v3, σ = [some (.ref x), some (.ref p), some (.ref e), v3] ∧ G = H1 ∧ ∀ j, j < i → ¬ okJ v cs j) ⟨_, rfl, rfl, fun j h => absurd h (Nat.not_lt_zero j)⟩ ?_ ?_
    · rintro i σ G hi ⟨v3, rfl, rfl, no⟩
      have g1 : atI ((brds v.width cs (cs.length + 1)).map V.int) (0 + (i : Int) + 1) = some (.int (brd v.width cs (i + 1))) := at_of (j := i + 1) (by omega) (by rw [List.getElem?_map, brds_get (by omega)]; rfl)
      have g2 : atI ((brds v.width cs (cs.length + 1)).map V.int) (0 + (i : Int)) = some (.int (brd v.width cs i)) := at_of (j := i) (by omega) (by rw [List.getElem?_map, brds_get (by omega)]; rfl)
      have b0 := brd_nn (by omega : 0 ≤ v.width) g i
      have bs := brd_step w0 g hi
      have b1 := brd_le (by omega : 0 ≤ v.width) g (i + 1)
      walk_at "ev"
      refine ⟨_, _, _, _, rfl, rfl, .inl (.inl eE), g2, ?_⟩
      walk_at "ev"
      refine ⟨x, C, dx, _, .int v.off, rfl, hx1, D.cl, D.n2, rfl, ?_⟩
      walk_at "ev"
      · rename_i hc1
        refine ⟨x, C, dx, _, .int v.off, rfl, hx1, D.cl, D.n2, rfl, ?_⟩
        walk_at "ev"
        refine ⟨x, C, dx, _, .int v.size, rfl, hx1, D.cl, D.n3, rfl, ?_⟩
        walk_at "ev"
        refine ⟨_, _, _, _, rfl, rfl, .inl (.inl eE), g1, ?_⟩
        walk_at "ev"
        · rename_i hc2
          have ok : okJ v cs i := ⟨hc1, hc2⟩
          refine ⟨x, C, dx, _, .int v.off, rfl, hx1, D.cl, D.n2, rfl, ?_⟩
          walk_at "ev"
          refine ⟨_, _, _, _, rfl, rfl, .inl (.inl eE), g2, ?_⟩
          walk_at "ev"
          refine ⟨x, C, dx, _, rfl, hx1, D.cl, D.n2, by show 5 < 1000; decide, ?_⟩
          walk_at "ev"
          refine ⟨_, _, _, _, rfl, rfl, .inl (.inl ((upd_ne nex).trans eE)), g1, ?_⟩
          walk_at "ev"
          refine ⟨_, _, _, _, rfl, rfl, .inl (.inl ((upd_ne nex).trans eE)), g2, ?_⟩
          walk_at "ev"
          refine ⟨x, C, dx, _, rfl, upd_same, D.cl, D.n4, by show 5 < 1000; decide, ?_⟩
          walk_at "ev"
          refine ⟨x, dx, _, rfl, upd_same, ?_⟩
          walk_at "ev"
          refine ⟨x, C, dx, _, .int (brd v.width cs (i + 1) - brd v.width cs i), rfl, upd_same, D.cl, D.n4, rfl, ?_⟩
          walk_at "ev"
          refine ⟨by omega, by omega, ?_⟩
          walk_at "ev"
          have oo := (((OnlyX.refl x H).same s1).upd (o := .ins C dx (putF "_offset" ((fun i j => V.int (i - j)) v.off (brd v.width cs i)) (wnF bp v))) ⟨_, hx1⟩).upd (o := .ins C dx (putF "_width" ((fun i j => V.int (i - j)) (brd v.width cs (i + 1)) (brd v.width cs i)) (putF "_offset" ((fun i j => V.int (i - j)) v.off (brd v.width cs i)) (wnF bp v)))) ⟨_, upd_same⟩
          refine ⟨x, bp, bits, { place := v.place, off := v.off - brd v.width cs i, size := v.size, width := brd v.width cs (i + 1) - brd v.width cs i }, chT v.width cs i, rfl, ⟨dx, upd_same⟩, oo.seq nbx hb, nbx, ?_, fun H' o1 hW => ?_⟩
          · have := dbl_le (brd v.width cs (i + 1) - brd v.width cs i)
            show dbl (brd v.width cs (i + 1) - brd v.width cs i) ≤ 900
            omega
          walk_at "ev"
          rw [Int.zero_add]
          exact qs i (findJ_some no hi ok) H' ⟨fun b o n e => o1.off b o n (oo.off b o n e), fun b e => oo.dom b (o1.dom b e)⟩ hW
        · rename_i hc2
          intro j hj
          rcases Nat.lt_or_ge j i with lt | ge
          · exact no j lt
          · obtain rfl : j = i := by omega
            exact fun z => hc2 z.2
      · rename_i hc1
        intro j hj
        rcases Nat.lt_or_ge j i with lt | ge
        · exact no j lt
        · obtain rfl : j = i := by omega
          exact fun z => hc1 z.1
    · rintro σ G ⟨v3, rfl, rfl, no⟩
      walk_at "ev"
      exact qn (findJ_none no) _ s1
/-! ### bits -/
def spIsNum : Sp := fun vs H Q _ => ∃ (z : Int), vs = [.int z] ∧ Q (.bl true) H
theorem ok_is_number {f : Addr} {fd : FuncData} {k : Nat} (F : Fun K "is_number" "is_number" s_is_number f fd) (T : Txt mg) : FnOk P w K mg base CX0 (k + 1) f fd ["thing"] spIsNum := by
  refine F.ok sc_is_number (fun vs H Q E h => ?_) (fun cdv A outer s H vs Q E hr h => ?_)
  · obtain ⟨z, rfl, _⟩ := h
    rfl
  · obtain ⟨z, rfl, q⟩ := h
    refine ⟨_, (pss_one (ps_ret (pe_and (pe_callB call_isi (by rfl) T.z_isinstance PyProof.Rows.boot_isinstance (pa_cons (pv 0) (pa_cons (pe_bltn (v := .ty "int") (by rfl) T.z_int PyProof.Rows.boot_int rfl) pa_nil))) (pe_one (pe_not (pe_callB call_isi (by rfl) T.z_isinstance PyProof.Rows.boot_isinstance (pa_cons (pv 0) (pa_cons (pe_bltn (v := .ty "bool") (by rfl) T.z_bool PyProof.Rows.boot_bool rfl) pa_nil)))))))), ?_⟩
    walk_at "ev"
    exact q
def spCheckB : Sp := fun vs H Q _ => ∃ (p : Addr) (xs : List Int), vs = [.ref p] ∧ H p = some (.lst (xs.map V.int)) ∧ AreBits xs ∧ Q .non H
theorem ok_check_bits {f : Addr} {fd : FuncData} {k : Nat} (F : Fun K "check_bits" "check_bits" s_check_bits f fd) (c_is_number : C8.Cal P w K mg base 1 "is_number" spIsNum []) : FnOk P w K mg base CX0 (k + 2) f fd ["bits"] spCheckB := by
  refine F.ok sc_check_bits (fun vs H Q E h => ?_) (fun cdv A outer s H vs Q E hr h => ?_)
  · obtain ⟨p, xs, rfl, _⟩ := h
    rfl
  · obtain ⟨p, xs, rfl, hp, hb, q⟩ := h
    refine ⟨_, (pss_one (ps_for PassesOwn.never rfl (pi_list (pv 0)) (pg_name (i := 1) sc_check_bits.nd rfl (Or.inl rfl))
      (pss_one (ps_if (PW.pt (pw_or (pt_not (pt_val (C8.pe_c c_is_number hr (by omega) (by rfl) (pa_cons (pv 1) pa_nil)))) (pw_or1 (pt_not (pt_chain op_le op_le pe_int (pv 1) pe_int))))) (pss_one ps_never) pss_nil)))), ?_⟩
    walk_at "ev"
    refine ⟨⟨_, .inl (.inl hp)⟩, for_list (K := K) (a := p) (xs := xs.map V.int) (fun _ σ H1 => ∃ v, σ = [some (.ref p), v] ∧ H1 = H) ⟨_, rfl, rfl⟩ (fun _ _ _ _ ⟨_, _, e⟩ => by rw [e]; exact .inl (.inl hp)) ?_ ?_⟩
    · rintro i x σ H1 hx ⟨v, rfl, rfl⟩
      rw [List.getElem?_map] at hx
      obtain ⟨z, hz, rfl⟩ := Option.map_eq_some_iff.mp hx
      have hz2 := hb z (List.mem_of_getElem? hz)
      walk_at "ev"
      rfl
    · rintro σ H1 ⟨v, rfl, rfl⟩
      exact q
/-! ### how many letters are left -/
structure LMV (m : LM) : Prop where
  ql : m.qu.length = m.cs.length
  last : m.place = m.qu.length → m.cur = 0 ∨ m.cs.length = 0
def rem (m : LM) : Nat := (m.qu.length - m.place) + m.cur.toNat * m.cs.length
theorem quP_all (m : LM) (n : Nat) : (quP m n 3).length = n := by
  have h := passL_sum m n
  show ([] ++ quL m n 0 ++ quL m n 1 ++ quL m n 2).length = n
  rw [List.nil_append, List.length_append, List.length_append, quL_len, quL_len, quL_len]
  exact h
theorem LMV.begin (m : LM) : LMV (begin m) := by
  refine ⟨quP_all m m.cs.length, fun h => .inr ?_⟩
  have e : (My.begin m).qu.length = m.cs.length := quP_all m m.cs.length
  have z : (My.begin m).place = 0 := rfl
  rw [e, z] at h
  exact h.symm
theorem step_fix (m : LM) (j : Nat) : (stepOf m j).cs = m.cs ∧ (stepOf m j).qu = m.qu ∧ (stepOf m j).cur = m.cur ∧ (stepOf m j).place = m.place + 1 := by
  obtain ⟨f1, f2, f3, _⟩ := told_fix (learnT m j) (m.qu.getD m.place (0, 0)).2.toNat (m.qu.getD m.place (0, 0)).1 (j : Int)
  exact ⟨f1, f2, f3, rfl⟩
theorem LMV.next {m : LM} (V : LMV m) (W : LMW m) (j : Nat) : LMV (next m j) := by
  obtain ⟨f1, f2, f3, f4⟩ := step_fix m j
  have c := W.cur
  unfold My.next
  split
  · exact LMV.begin _
  · rename_i h
    refine ⟨by rw [f1, f2]; exact V.ql, fun e => .inl ?_⟩
    rw [f3]
    rw [f3] at h
    by_cases z : 0 < m.cur
    · exact absurd ⟨e, z⟩ h
    · omega
theorem next_cs (m : LM) (j : Nat) : (next m j).cs = m.cs := by
  obtain ⟨f1, _⟩ := step_fix m j
  unfold next
  split
  · exact f1
  · exact f1
theorem rem_next {m : LM} (V : LMV m) (W : LMW m) (hf : fin m = false) (j : Nat) : rem (next m j) + 1 = rem m := by
  obtain ⟨f1, f2, f3, f4⟩ := step_fix m j
  have c := W.cur
  have p := W.pos
  have hp : m.place ≠ m.qu.length := of_decide_eq_false hf
  have q := V.ql
  unfold My.next
  split
  · rename_i h
    obtain ⟨h1, h2⟩ := h
    rw [f2, f4] at h1
    rw [f3] at h2
    have e1 : (begin (stepOf m j)).qu.length = m.cs.length := by
      show (quP (stepOf m j) (stepOf m j).cs.length 3).length = _
      rw [quP_all, f1]
    have e2 : (begin (stepOf m j)).cur = m.cur - 1 := by
      show (stepOf m j).cur - 1 = _
      rw [f3]
    have e3 : (begin (stepOf m j)).cs = m.cs := f1
    have e4 : (begin (stepOf m j)).place = 0 := rfl
    unfold rem
    rw [e1, e2, e3, e4]
    have e5 : m.cur.toNat = (m.cur - 1).toNat + 1 := by omega
    rw [e5, Nat.succ_mul]
    omega
  · unfold rem
    rw [f1, f2, f3, f4]
    omega
theorem rem_zero {m : LM} (h : fin m = false) (W : LMW m) : rem m ≠ 0 := by
  have hp : m.place ≠ m.qu.length := of_decide_eq_false h
  have := W.pos
  unfold rem
  omega
theorem fin_of {m : LM} (V : LMV m) (W : LMW m) : fin m = true ↔ rem m = 0 := by
  have p := W.pos
  unfold fin rem
  rw [decide_eq_true_eq]
  constructor
  · intro e
    rcases V.last e with z | z
    · rw [e, z]
      show _ + 0 * _ = 0
      omega
    · rw [z, Nat.mul_zero]
      omega
  · intro e
    omega
theorem rem_init (x0 y0 : Int) (w h p : Nat) (hp : 1 ≤ p) : rem (lmI x0 y0 w h p) = p * (h * w) := by
  have e1 : (lmI x0 y0 w h p).qu.length = h * w := by
    show (quP _ (cellsL x0 y0 w h).length 3).length = _
    rw [quP_all, cellsL_len]
  have e2 : (lmI x0 y0 w h p).cur = (p : Int) - 1 := rfl
  have e3 : (lmI x0 y0 w h p).cs.length = h * w := cellsL_len _ _ _ _
  have e4 : (lmI x0 y0 w h p).place = 0 := rfl
  unfold rem
  rw [e1, e2, e3, e4]
  have e5 : ((p : Int) - 1).toNat = p - 1 := by omega
  rw [e5, Nat.sub_zero]
  obtain ⟨k, rfl⟩ : ∃ k, p = k + 1 := ⟨p - 1, by omega⟩
  rw [Nat.succ_mul, Nat.add_sub_cancel]
  omega
/-! ### letters told -/
def cts (m : LM) : List Int := m.tabs.getD (tabNo m) []
def toldF (bits : List Int) : Nat → LM → Wn → List Nat → List Nat × LM
  | 0, m, _, acc => (acc, m)
  | n + 1, m, v, acc => if fin m = true then (acc, m) else match findJ v (cts m) with
    | none => (acc, m)
    | some j => toldF bits n (next m j) (stepW bits v (cts m) j) (acc ++ [j])
theorem cts_good {m : LM} (W : LMW m) : GoodC (cts m) ∧ (cts m).length = sizeAt m := by
  obtain ⟨cs, h, g, l⟩ := W.tabGood
  unfold cts
  rw [List.getD_eq_getElem?_getD, h]
  exact ⟨g, l⟩
theorem findJ_lt {v : Wn} {cs : List Int} {j : Nat} (h : findJ v cs = some j) : j < cs.length := List.mem_range.mp (List.mem_of_find?_eq_some h)
theorem dblN_width (bits : List Int) (v : Wn) : ∀ n, (dblN bits n v).width = v.width * 2 ^ n
  | 0 => by
    show v.width = v.width * 2 ^ 0
    rw [Int.pow_zero, Int.mul_one]
  | n + 1 => by
    have ih := dblN_width bits v n
    show (dblW bits (dblN bits n v)).width = _
    have e : (dblW bits (dblN bits n v)).width = 2 * (dblN bits n v).width := by
      unfold dblW
      split <;> rfl
    rw [e, ih, Int.pow_succ]
    generalize (2 : Int) ^ n = z
    rw [← Int.mul_assoc, Int.mul_comm 2 v.width, Int.mul_assoc, Int.mul_comm 2 z]
theorem ch_rng {R : Int} {cs : List Int} {j : Nat} (r0 : 65536 ≤ R) (r1 : R ≤ 131071) (g : GoodC cs) (hj : j < cs.length) : 65536 ≤ chR R cs j ∧ chR R cs j ≤ 131071 := by
  have e17 : (2 : Int) ^ 17 = 131072 := by decide
  have h : NodeOk 0 R 17 := ⟨by decide, by decide, r0, r1, Int.le_refl _, by rw [Int.zero_add, e17]; omega⟩
  have c := h.child g hj (by decide)
  exact ⟨c.r0, c.r1⟩
theorem stepW_width (bits : List Int) (v : Wn) (cs : List Int) (j : Nat) : (stepW bits v cs j).width = chR v.width cs j := dblN_width _ _ _
theorem Gone.only {t t' : Tag} {H G G' : Hp} {w : Addr} (a : Gone t t' H G) (o : OnlyX w G G') (hw : H w = none) : Gone t t' H G' :=
  ⟨fun b u n e => o.off b u (ne_of_none e hw) (a.frm b u n e), fun b e => a.dom b (o.dom b e), a.old⟩
theorem Gone.more {t t' : Tag} {H G G' : Hp} (a : Gone t t' H G) (s : Same G G') : Gone t t' H G' :=
  ⟨fun b u n e => s b u (a.frm b u n e), fun b e => a.dom b (s.free e), a.old⟩
theorem LMAt.sup {tag : Tag} {C CT x : Addr} {H : Hp} {m : LM} (h : LMAt tag C CT H x m) : ∀ b, H b = none → tag b = 0 := by
  obtain ⟨_, _, _, _, _, _, _, _, _, _, _, _, _, hA⟩ := h
  exact hA.sup
theorem LMAt.more {tag : Tag} {C CT x : Addr} {H H' : Hp} {m : LM} (h : LMAt tag C CT H x m) (s : Same H H') : LMAt tag C CT H' x m := h.same (fun b o _ e => ⟨rfl, s b o e⟩) fun b e => h.sup b (s.free e)
theorem LMAt.only {tag : Tag} {C CT x w : Addr} {H H' : Hp} {m : LM} (h : LMAt tag C CT H x m) (o : OnlyX w H H') (tw : tag w = 0) : LMAt tag C CT H' x m := h.same (fun b u n e => ⟨rfl, o.off b u (fun z => n (by rw [z, tw])) e⟩) fun b e => h.sup b (o.dom b e)
theorem LMAt.obj {tag : Tag} {C CT x : Addr} {H : Hp} {m : LM} (h : LMAt tag C CT H x m) : ∃ dx fs, H x = some (.ins C dx fs) ∧ tag x = 2 := by
  obtain ⟨dx, _, _, _, _, _, _, _, _, _, _, hx, tx, _⟩ := h
  exact ⟨dx, _, hx, tx⟩
/-! ### told_letters -/
def WTold (H : Hp) (tag : Tag) (C CT CW : Addr) (bits : List Int) (m : LM) (bp x wx F0 : Addr) (n : Nat) (σ : L2.St) (G : Hp) : Prop := ∃ (tag' : Tag) (m' : LM) (v' : Wn) (acc : List Nat) (v4 : Option V), σ = [some (.ref bp), some (.ref x), some (.ref wx), some (.ref F0), v4] ∧ rem m' = n ∧ toldF bits n m' v' acc = toldF bits (rem m) m (dblN bits 16 wn0) [] ∧ LMW m' ∧ LMV m' ∧ acc.length + n = rem m ∧ 65536 ≤ v'.width ∧ v'.width ≤ 131071 ∧ Gone tag tag' H G ∧ LMAt tag' C CT G x m' ∧ WnAt CW G wx bp v' ∧ tag' wx = 0 ∧ G F0 = some (natsO acc) ∧ tag' F0 = 0 ∧ G bp = some (.lst (bits.map V.int))
def spTold (C CT : Addr) : Sp := fun vs H Q _ => ∃ (bp x : Addr) (tag : Tag) (m : LM) (bits : List Int), vs = [.ref bp, .ref x] ∧ H bp = some (.lst (bits.map V.int)) ∧ AreBits bits ∧ tag bp = 0 ∧ LMAt tag C CT H x m ∧ LMW m ∧ LMV m ∧ rem m ≤ 900 ∧
  ∀ (q : Addr) (H' : Hp) (tag' : Tag), Gone tag tag' H H' → LMAt tag' C CT H' x (toldF bits (rem m) m (dblN bits 16 wn0) []).2 → H q = none → tag' q = 0 → H' q = some (natsO (toldF bits (rem m) m (dblN bits 16 wn0) []).1) → Q (.ref q) H'
theorem ok_told {f C CT CW O : Addr} {fd : FuncData} {k : Nat} (F : Fun K "told_letters" "told_letters" s_told_letters f fd) (T : Txt mg) (DL : LMK K C) (DW : WnK K CW) (c_check_bits : C8.Cal P w K mg base 2 "check_bits" spCheckB []) (M_Window : CalC P w K mg base 2 "Window" CW ["bits"] (spWnI K CW)) (M_letter : CalM P w K mg base 2 CW "letter" ["counts"] (spWnL K CW))
    (M_want : CalM P w K mg base 2 C "wanted" [] (spWant C CT)) (M_wantC : CalM P w K mg base 3 C "wanted_counts" [] (spWantC C CT)) (M_takeM : CalM P w K mg base 3 C "take" ["letter"] (spTakeM C CT O)) : FnOk P w K mg base CX0 (k + 4) f fd ["bits", "model"] (spTold C CT) := by
  refine F.ok sc_told_letters (fun vs H Q E h => ?_) (fun cdv A outer s H vs Q E hr h => ?_)
  · obtain ⟨bp, x, tag, m, bits, rfl, _⟩ := h
    rfl
  · obtain ⟨bp, x, tag, m, bits, rfl, hbp, hbits, tbp, hM, W, LV, few, q⟩ := h
    refine ⟨_, (pss_cons (ps_expr (C8.pe_c c_check_bits hr (by omega) (by rfl) (pa_cons (pv 0) pa_nil)))
    (pss_cons (ps_set (i := 2) sc_told_letters.nd rfl (Or.inl rfl) (pe_new M_Window hr (by omega) (by rfl) passN (pa_cons (pv 0) pa_nil)))
    (pss_cons (ps_set (i := 3) sc_told_letters.nd rfl (Or.inl rfl) (pe_lst pa_nil))
    (pss_cons (ps_while PassesOwn.never (pt_cmpR op_notN (pe_mx0 M_want DL.cl hr (by omega) passN (pv 1)) pe_non (nomark _))
      (pss_cons (ps_set (i := 4) sc_told_letters.nd rfl (Or.inl rfl) (pe_mx M_letter DW.cl hr (by omega) passN (pv 2) (pa_cons (pe_mx0 M_wantC DL.cl hr (by omega) passN (pv 1)) pa_nil)))
    (pss_cons (ps_if (pt_cmpR op_isN (pv 4) pe_non (nomark _)) (pss_one ps_break) pss_nil)
    (pss_cons (ps_expr (pe_mx M_takeM DL.cl hr (by omega) passN (pv 1) (pa_cons (pv 4) pa_nil)))
    (pss_one (ps_expr (pe_bm PySem.F.plainAttrs_list PySem.F.slot_list_append PySem.F.type_list_append mt_append (pv 3) (pa_cons (pv 4) pa_nil))))))))
    (pss_one (ps_ret (pv 3))))))), ?_⟩
    obtain ⟨dxm, fsm, hxm, txm⟩ := hM.obj
    have nbx : bp ≠ x := fun z => by
      rw [z, hxm] at hbp
      cases hbp
    walk_at "ev"
    refine ⟨bp, bits, rfl, hbp, hbits, ?_⟩
    walk_at "ev"
    intro wx dw nw ndw nexw
    have s0 := ((same_upd (o := .own wx) ndw).trans (same_upd (o := .ins CW dw []) (by rw [upd_ne nexw.symm]; exact nw)) : Same H (upd (upd H dw (.own wx)) wx (.ins CW dw [])))
    refine ⟨wx, dw, bp, bits, rfl, upd_same, .inl (.inl (s0 _ _ hbp)), ne_of_none hbp nw, fun H1 o1 hW1 => ⟨rfl, ?_⟩⟩
    have g1 : Gone tag tag H H1 := ((Gone.refl tag H).more s0).only o1 nw
    have hM1 : LMAt tag C CT H1 x m := (hM.more s0).only o1 (hM.sup wx nw)
    have hb1 : H1 bp = some (.lst (bits.map V.int)) := o1.off _ _ (ne_of_none hbp nw) (s0 _ _ hbp)
    have twx : tag wx = 0 := hM.sup wx nw
    walk_at "ev"
    refine ⟨(by show 0 ≤ sizeLine; decide), fun F0 nF => ?_⟩
    have nF1 : H1 F0 = none := nF
    have nFH : H F0 = none := g1.dom F0 nF1
    have tF : tag F0 = 0 := hM.sup F0 nFH
    obtain ⟨dw1, hw1⟩ := hW1
    have nFw : F0 ≠ wx := fun z => by
      rw [z, hw1] at nF1
      cases nF1
    refine ⟨WTold H tag C CT CW bits m bp x wx F0, ⟨rem m, tag, m, dblN bits 16 wn0, [], none, rfl, rfl, rfl, W, LV, by rw [List.length_nil, Nat.zero_add], ?_, ?_, ?_, ?_, ?_, twx, upd_same, tF, ?_⟩, ?_⟩
    · rw [dblN_width]
      decide
    · rw [dblN_width]
      decide
    · exact g1.more (same_upd nF)
    · exact hM1.more (same_upd nF)
    · exact ⟨dw1, new_at hw1 nF⟩
    · exact new_at hb1 nF
    · rintro n σ G ⟨tag', m', v', acc, v4, rfl, hn, hT, W', LV', hal, w0, w1, gG, hMG, ⟨dwG, hwG⟩, twG, hFG, tFG, hbG⟩
      obtain ⟨dxG, b1, b2, b3, b4, b5, b6, b7, _, _, _, hxG, txG, _⟩ := _root_.id hMG
      walk_at "ev"
      refine ⟨x, dxG, _, rfl, hxG, ?_⟩
      walk_at "ev"
      refine ⟨x, tag', m', rfl, hMG, W', fun hf => ?_, fun hf p c np hc tc => ?_⟩
      · walk_at "ev"
        have r0 := (fin_of LV' W').mp hf
        have eT : toldF bits n m' v' acc = (acc, m') := by
          rw [← hn, r0]
          rfl
        rw [eT] at hT
        exact q F0 G tag' gG (by rw [← hT]; exact hMG) nFH tFG (by rw [← hT]; exact hFG)
      · walk_at "ev"
        have n1 : 1 ≤ n := by
          have := rem_zero hf W'
          omega
        refine ⟨WTold H tag C CT CW bits m bp x wx F0 (n - 1), fun σ' H' h => ⟨n - 1, by omega, h⟩, ?_⟩
        have sp : Same G (upd G p (.tup [.int (tabNo m' : Nat), .int (sizeAt m' : Nat), .ref c])) := same_upd np
        generalize upd G p (.tup [.int (tabNo m' : Nat), .int (sizeAt m' : Nat), .ref c]) = G1 at sp ⊢
        walk_at "ev"
        refine ⟨wx, dwG, _, rfl, sp _ _ hwG, ?_⟩
        walk_at "ev"
        refine ⟨x, dxG, _, rfl, sp _ _ hxG, ?_⟩
        walk_at "ev"
        refine ⟨x, tag', m', rfl, hMG.more sp, W', fun z => (by rw [hf] at z; cases z), fun _ p2 G2 np2 s2 e2 => ?_⟩
        have s12 := sp.trans s2
        have gC := cts_good W'
        walk_at "ev"
        refine ⟨wx, bp, p2, bits, v', cts m', rfl, ⟨dwG, s12 _ _ hwG⟩, .inl (.inl (s12 _ _ hbG)), ?_, e2, gC.1, w0, w1, fun hj G3 s3 => ?_, fun j hj G3 o3 hW3 => ?_⟩
        · intro z
          rw [z] at hbG
          rw [hwG] at hbG
          cases hbG
        · walk_at "ev"
          have eT : toldF bits n m' v' acc = (acc, m') := by
            obtain ⟨k, rfl⟩ : ∃ k, n = k + 1 := ⟨n - 1, by omega⟩
            unfold toldF
            rw [if_neg (by rw [hf]; decide), hj]
          rw [eT] at hT
          have s13 := s12.trans s3
          exact q F0 G3 tag' (gG.more s13) (by rw [← hT]; exact hMG.more s13) nFH tFG (by rw [← hT]; exact s13 _ _ hFG)
        · walk_at "ev"
          have eT : toldF bits n m' v' acc = toldF bits (n - 1) (next m' j) (stepW bits v' (cts m') j) (acc ++ [j]) := by
            obtain ⟨k, rfl⟩ : ∃ k, n = k + 1 := ⟨n - 1, by omega⟩
            show (if fin m' = true then (acc, m') else match findJ v' (cts m') with | none => (acc, m') | some j => toldF bits k (next m' j) (stepW bits v' (cts m') j) (acc ++ [j])) = _
            rw [if_neg (by rw [hf]; decide), hj]
            rfl
          have jl := findJ_lt hj
          have nxw : x ≠ wx := fun z => by
            rw [z, twG] at txG
            cases txG
          have nFw3 : F0 ≠ wx := nFw
          have nbw : bp ≠ wx := fun z => by
            rw [z, hwG] at hbG
            cases hbG
          have hx3 := o3.off _ _ nxw (s12 _ _ hxG)
          have hM3 := (hMG.more s12).only o3 twG
          have hF3 := o3.off _ _ nFw3 (s12 _ _ hFG)
          have hb3 := o3.off _ _ nbw (s12 _ _ hbG)
          obtain ⟨dw3, hw3⟩ := hW3
          refine ⟨x, dxG, _, rfl, hx3, ?_⟩
          walk_at "ev"
          refine ⟨x, tag', m', (j : Int), rfl, hM3, W', .inl ⟨hf, j, rfl, by rw [← gC.2]; exact jl, fun G4 tag4 g4 hM4 => ?_⟩⟩
          have hF4 := g4.frm F0 _ (by rw [tFG]; decide) hF3
          have tF4 := (g4.old F0 _ hF3).trans tFG
          have hw4 := g4.frm wx _ (by rw [twG]; decide) hw3
          have tw4 := (g4.old wx _ hw3).trans twG
          have hb4 : G4 bp = some (.lst (bits.map V.int)) ∧ True := ⟨by
            have tb : tag' bp = 0 := (gG.old bp _ hbp).trans tbp
            exact g4.frm bp _ (by rw [tb]; decide) hb3, trivial⟩
          walk_at "ev"
          refine ⟨.inl ⟨rfl, _, .inl (.inl hF4)⟩, ?_⟩
          walk_at "ev"
          refine ⟨F0, _, _, rfl, rfl, hF4, small1000 (by rw [List.length_map]; omega), ?_⟩
          have oF : OnlyX F0 G4 (upd G4 F0 (.lst (acc.map natV ++ [V.int (j : Int)]))) := (OnlyX.refl F0 G4).upd ⟨_, hF4⟩
          have gH : Gone tag tag4 H (upd G4 F0 (.lst (acc.map natV ++ [V.int (j : Int)]))) := by
            have a1 := (gG.more s12).only o3 nw
            exact (a1.trans g4).only oF nFH
          have nbF : bp ≠ F0 := ne_of_none hbp nFH
          refine ⟨tag4, next m' j, stepW bits v' (cts m') j, acc ++ [j], _, rfl, by have := rem_next LV' W' hf j; omega, eT.symm.trans hT, W'.next hf (by rw [← gC.2]; exact jl), LV'.next W' j, by rw [List.length_append]; show acc.length + 1 + (n - 1) = _; omega, ?_, ?_, gH, hM4.only oF tF4, ⟨dw3, (upd_ne nFw.symm).trans hw4⟩, tw4, ?_, tF4, (upd_ne nbF).trans hb4.1⟩
          · rw [stepW_width]
            exact (ch_rng w0 w1 gC.1 jl).1
          · rw [stepW_width]
            exact (ch_rng w0 w1 gC.1 jl).2
          · rw [upd_same]
            show _ = some (HO.lst ((acc ++ [j]).map natV))
            rw [List.map_append]
            rfl
/-! ### what bits tell: the mathematics -/
def InN (bits : List Int) (L R : Int) (s : Nat) : Prop := Fits L R s bits.length (valI bits)
structure WI (bits : List Int) (v : Wn) (L R : Int) (s : Nat) : Prop where
  wd : v.width = R
  pl : v.place = min s bits.length
  sz : v.size = 2 ^ (s - bits.length)
  of : v.off + L = valI (bits.take s) * 2 ^ (s - bits.length)
theorem valI_take {bits : List Int} {s : Nat} (h : s < bits.length) : valI (bits.take (s + 1)) = 2 * valI (bits.take s) + bits.getD s 0 := by
  rw [List.take_add_one, List.getElem?_eq_getElem h]
  show valI (bits.take s ++ [bits[s]]) = _
  rw [valI_snoc, List.getD_eq_getElem?_getD, List.getElem?_eq_getElem h]
  rfl
theorem WI.dbl {bits : List Int} {v : Wn} {L R : Int} {s : Nat} (h : WI bits v L R s) : WI bits (dblW bits v) (2 * L) (2 * R) (s + 1) := by
  obtain ⟨h1, h2, h3, h4⟩ := h
  unfold dblW
  by_cases hs : s < bits.length
  · have e0 : s - bits.length = 0 := by omega
    have e1 : s + 1 - bits.length = 0 := by omega
    have ep : v.place = s := by omega
    rw [e0] at h3 h4
    rw [ep, if_pos hs]
    refine ⟨by show 2 * v.width = _; rw [h1], by show s + 1 = _; omega, by rw [e1]; exact h3, ?_⟩
    show 2 * v.off + bits.getD s 0 + 2 * L = _
    rw [e1, valI_take hs]
    rw [Int.pow_zero, Int.mul_one] at h4 ⊢
    omega
  · have ep : v.place = bits.length := by omega
    have e1 : s + 1 - bits.length = (s - bits.length) + 1 := by omega
    have t0 : bits.take s = bits := List.take_of_length_le (by omega)
    have t1 : bits.take (s + 1) = bits := List.take_of_length_le (by omega)
    rw [ep, if_neg (Nat.lt_irrefl _)]
    rw [t0] at h4
    refine ⟨by show 2 * v.width = _; rw [h1], by show bits.length = _; omega, ?_, ?_⟩
    · show 2 * v.size = _
      rw [h3, e1, Int.pow_succ, Int.mul_comm]
    · show 2 * v.off + 2 * L = _
      rw [t1, e1, Int.pow_succ, ← Int.mul_assoc, ← h4]
      omega
theorem WI.dblN {bits : List Int} {v : Wn} {L R : Int} {s : Nat} (h : WI bits v L R s) : ∀ t, WI bits (My.dblN bits t v) (L * 2 ^ t) (R * 2 ^ t) (s + t)
  | 0 => by
    rw [Int.pow_zero, Int.mul_one, Int.mul_one]
    exact h
  | t + 1 => by
    have ih := (WI.dblN h t).dbl
    have e : ∀ x : Int, x * 2 ^ (t + 1) = 2 * (x * 2 ^ t) := fun x => by rw [Int.pow_succ, ← Int.mul_assoc, Int.mul_comm]
    rw [e, e]
    exact ih
theorem WI.start (bits : List Int) : WI bits (My.dblN bits 16 wn0) 0 65536 16 := by
  have h : WI bits wn0 0 1 0 := by
    refine ⟨rfl, by show 0 = _; omega, ?_, ?_⟩
    · rw [Nat.zero_sub]
      rfl
    · rw [Nat.zero_sub]
      rfl
  have := h.dblN 16
  rw [Int.zero_mul, Nat.zero_add, show (1 : Int) * 2 ^ 16 = 65536 by decide] at this
  exact this
theorem WI.step {bits : List Int} {v : Wn} {L R : Int} {s : Nat} (h : WI bits v L R s) (cs : List Int) (j : Nat) : WI bits (stepW bits v cs j) (chL L R cs j) (chR R cs j) (s + chT R cs j) := by
  obtain ⟨h1, h2, h3, h4⟩ := h
  have g : WI bits { place := v.place, off := v.off - brd v.width cs j, size := v.size, width := brd v.width cs (j + 1) - brd v.width cs j } (L + brd R cs j) (brd R cs (j + 1) - brd R cs j) s := by
    refine ⟨by show brd v.width cs (j + 1) - brd v.width cs j = _; rw [h1], h2, h3, ?_⟩
    show v.off - brd v.width cs j + (L + brd R cs j) = _
    rw [h1, ← h4]
    omega
  have := g.dblN (chT R cs j)
  unfold stepW
  rw [h1] at this ⊢
  exact this
theorem fits_scale {L R v : Int} {s i : Nat} (t : Nat) : Fits (L * 2 ^ t) (R * 2 ^ t) (s + t) i v ↔ Fits L R s i v := by
  have g : (0 : Int) < 2 ^ t := Int.pow_pos (by decide)
  unfold Fits
  have e1 : L * 2 ^ t * 2 ^ i = (L * 2 ^ i) * 2 ^ t := by rw [Int.mul_assoc, Int.mul_comm (2 ^ t), ← Int.mul_assoc]
  have e2 : ∀ x : Int, x * 2 ^ (s + t) = x * 2 ^ s * 2 ^ t := fun x => by rw [Int.pow_add, Int.mul_assoc]
  have e3 : (L * 2 ^ t + R * 2 ^ t) * 2 ^ i = ((L + R) * 2 ^ i) * 2 ^ t := by rw [← Int.add_mul, Int.mul_assoc, Int.mul_comm (2 ^ t), ← Int.mul_assoc]
  rw [e1, e2, e2, e3, Int.mul_le_mul_iff_of_pos_right g, Int.mul_le_mul_iff_of_pos_right g]
theorem val_split {bits : List Int} (hb : AreBits bits) (s : Nat) (hs : s ≤ bits.length) : valI (bits.take s) * 2 ^ (bits.length - s) ≤ valI bits ∧ valI bits + 1 ≤ (valI (bits.take s) + 1) * 2 ^ (bits.length - s) := by
  obtain ⟨d, hd⟩ : ∃ d, bits.length = s + d := ⟨bits.length - s, by omega⟩
  have key : ∀ d, s + d ≤ bits.length → valI (bits.take s) * 2 ^ d ≤ valI (bits.take (s + d)) ∧ valI (bits.take (s + d)) + 1 ≤ (valI (bits.take s) + 1) * 2 ^ d := fun d => by
    induction d with
    | zero =>
      intro _
      rw [Int.pow_zero, Int.mul_one, Int.mul_one]
      exact ⟨Int.le_refl _, Int.le_refl _⟩
    | succ d ih =>
      intro h
      obtain ⟨a, b⟩ := ih (by omega)
      have e := valI_take (bits := bits) (s := s + d) (by omega)
      have hx := hb (bits[s + d]'(by omega)) (List.getElem_mem _)
      have ex : bits.getD (s + d) 0 = bits[s + d]'(by omega) := by
        rw [List.getD_eq_getElem?_getD, List.getElem?_eq_getElem (by omega)]
        rfl
      rw [show s + (d + 1) = s + d + 1 by omega, e, ex, Int.pow_succ, ← Int.mul_assoc, ← Int.mul_assoc]
      omega
  have k := key d (by omega)
  rw [hd, show s + d - s = d by omega]
  rw [show bits.take (s + d) = bits from List.take_of_length_le (by omega)] at k
  exact k
theorem okJ_iff {bits : List Int} {v : Wn} {L R : Int} {s : Nat} (hb : AreBits bits) (h : WI bits v L R s) (cs : List Int) (j : Nat) : okJ v cs j ↔ InN bits (chL L R cs j) (chR R cs j) (s + chT R cs j) := by
  obtain ⟨h1, h2, h3, h4⟩ := h
  unfold InN chL chR
  rw [fits_scale]
  unfold okJ
  rw [h1, h3]
  generalize brd R cs j = b0
  generalize brd R cs (j + 1) = b1
  have eo : v.off = valI (bits.take s) * 2 ^ (s - bits.length) - L := by omega
  rw [eo]
  by_cases hs : bits.length ≤ s
  · obtain ⟨d, rfl⟩ : ∃ d, s = bits.length + d := ⟨s - bits.length, by omega⟩
    rw [fits_iff, show bits.length + d - bits.length = d by omega, show bits.take (bits.length + d) = bits from List.take_of_length_le (by omega), Int.add_mul, Int.one_mul]
    omega
  · obtain ⟨d, hd⟩ : ∃ d, bits.length = s + d := ⟨bits.length - s, by omega⟩
    obtain ⟨a, b⟩ := val_split hb s (by omega)
    rw [hd, show s + d - s = d by omega] at a b
    rw [show s - bits.length = 0 by omega, Int.pow_zero, Int.mul_one]
    have g : (0 : Int) < 2 ^ d := Int.pow_pos (by decide)
    unfold Fits
    have gs : (0 : Int) < 2 ^ s := Int.pow_pos (by decide)
    rw [hd]
    have e1 : ∀ x : Int, x * 2 ^ (s + d) = x * 2 ^ d * 2 ^ s := fun x => by rw [Int.pow_add, Int.mul_comm (2 ^ s), Int.mul_assoc]
    rw [e1, e1, Int.mul_le_mul_iff_of_pos_right gs, Int.mul_le_mul_iff_of_pos_right gs, show L + b0 + (b1 - b0) = L + b1 by omega]
    generalize valI (bits.take s) = X at a b
    generalize valI bits = Vv at a b
    constructor
    · rintro ⟨p, q⟩
      have p' : (L + b0) * 2 ^ d ≤ X * 2 ^ d := Int.mul_le_mul_of_nonneg_right (by omega) (Int.le_of_lt g)
      have q' : (X + 1) * 2 ^ d ≤ (L + b1) * 2 ^ d := Int.mul_le_mul_of_nonneg_right (by omega) (Int.le_of_lt g)
      exact ⟨Int.le_trans p' a, Int.le_trans b q'⟩
    · rintro ⟨p, q⟩
      have p1 : (L + b0) * 2 ^ d < (X + 1) * 2 ^ d := by omega
      have q1 : X * 2 ^ d < (L + b1) * 2 ^ d := by omega
      have p2 := Int.lt_of_mul_lt_mul_right p1 (Int.le_of_lt g)
      have q2 := Int.lt_of_mul_lt_mul_right q1 (Int.le_of_lt g)
      omega
/-! ### the way of letters -/
structure Nd where
  L : Int
  R : Int
  s : Nat
def nxN (m : LM) (d : Nd) (j : Nat) : Nd := ⟨chL d.L d.R (cts m) j, chR d.R (cts m) j, d.s + chT d.R (cts m) j⟩
def runM : LM → List Nat → LM
  | m, [] => m
  | m, j :: r => runM (next m j) r
def runN : LM → Nd → List Nat → Nd
  | _, d, [] => d
  | m, d, j :: r => runN (next m j) (nxN m d j) r
/-- letters that may come, one after the other -/
def PathP : LM → List Nat → Prop
  | _, [] => True
  | m, j :: r => fin m = false ∧ j < sizeAt m ∧ PathP (next m j) r
def InD (bits : List Int) (d : Nd) : Prop := InN bits d.L d.R d.s
abbrev OkD (d : Nd) : Prop := NodeOk d.L d.R d.s
theorem chT_le (R : Int) (cs : List Int) (j : Nat) : chT R cs j ≤ 6 := dbl_le _
theorem OkD.nx {m : LM} {d : Nd} {j : Nat} (h : OkD d) (W : LMW m) (hj : j < sizeAt m) (hs : d.s ≤ 794) : OkD (nxN m d j) := NodeOk.child h (cts_good W).1 (by rw [(cts_good W).2]; exact hj) hs
theorem pathP_take : ∀ {m : LM} {js : List Nat} (t : Nat), PathP m js → PathP m (js.take t)
  | _, _, 0, _ => trivial
  | _, [], _ + 1, _ => trivial
  | _, _ :: _, t + 1, h => ⟨h.1, h.2.1, pathP_take t h.2.2⟩
theorem in_nest {bits : List Int} {m : LM} {d : Nd} {j : Nat} (W : LMW m) (hd : OkD d) (hj : j < sizeAt m) (h : InD bits (nxN m d j)) : InD bits d := by
  obtain ⟨g, l⟩ := cts_good W
  have r0 := hd.r0
  have b0 := brd_nn (by omega : 0 ≤ d.R) g j
  have b1 := brd_le (by omega : 0 ≤ d.R) g (j + 1)
  unfold InD InN nxN chL chR at h
  rw [fits_scale] at h
  obtain ⟨p, q⟩ := h
  have e : d.L + brd d.R (cts m) j + (brd d.R (cts m) (j + 1) - brd d.R (cts m) j) = d.L + brd d.R (cts m) (j + 1) := by omega
  rw [e] at q
  have gn : (0 : Int) ≤ 2 ^ bits.length := Int.le_of_lt (Int.pow_pos (by decide))
  exact ⟨Int.le_trans (Int.mul_le_mul_of_nonneg_right (by omega) gn) p, Int.le_trans q (Int.mul_le_mul_of_nonneg_right (by omega) gn)⟩
theorem run_nest {bits : List Int} : ∀ {js : List Nat} {m : LM} {d : Nd}, LMW m → LMV m → OkD d → d.s + 6 * js.length ≤ 800 → PathP m js → InD bits (runN m d js) → InD bits d
  | [], _, _, _, _, _, _, _, h => h
  | j :: r, m, d, W, Vv, hd, hs, hp, h => by
    have ht := chT_le d.R (cts m) j
    rw [List.length_cons] at hs
    have := run_nest (W.next hp.1 hp.2.1) (Vv.next W j) (hd.nx W hp.2.1 (by omega)) (by show d.s + chT d.R (cts m) j + 6 * r.length ≤ 800; omega) hp.2.2 h
    exact in_nest W hd hp.2.1 this
theorem brd_mono {R : Int} {cs : List Int} (hR : 65536 ≤ R) (g : GoodC cs) : ∀ {i k : Nat}, i ≤ k → k ≤ cs.length → brd R cs i ≤ brd R cs k := fun {i k} h hk => by
  obtain ⟨d, rfl⟩ : ∃ d, k = i + d := ⟨k - i, by omega⟩
  clear h
  induction d with
  | zero => exact Int.le_refl _
  | succ d ih =>
    have := brd_step hR g (i := i + d) (by omega)
    have := ih (by omega)
    rw [show i + (d + 1) = i + d + 1 by omega]
    omega
theorem in_one {bits : List Int} {m : LM} {d : Nd} {j k : Nat} (W : LMW m) (hd : OkD d) (hj : j < sizeAt m) (hk : k < sizeAt m) (h1 : InD bits (nxN m d j)) (h2 : InD bits (nxN m d k)) : j = k := by
  obtain ⟨g, l⟩ := cts_good W
  have key : ∀ {a b : Nat}, a < b → b < sizeAt m → InD bits (nxN m d a) → InD bits (nxN m d b) → False := fun {a b} hab hb h1 h2 => by
    unfold InD InN nxN chL chR at h1 h2
    rw [fits_scale] at h1 h2
    obtain ⟨_, q⟩ := h1
    obtain ⟨p, _⟩ := h2
    have mo := brd_mono hd.r0 g (i := a + 1) (k := b) hab (by rw [l]; omega)
    have e : d.L + brd d.R (cts m) a + (brd d.R (cts m) (a + 1) - brd d.R (cts m) a) = d.L + brd d.R (cts m) (a + 1) := by omega
    rw [e] at q
    have gn : (0 : Int) ≤ 2 ^ bits.length := Int.le_of_lt (Int.pow_pos (by decide))
    have gs : (0 : Int) < 2 ^ d.s := Int.pow_pos (by decide)
    have t : (d.L + brd d.R (cts m) (a + 1)) * 2 ^ bits.length ≤ (d.L + brd d.R (cts m) b) * 2 ^ bits.length := Int.mul_le_mul_of_nonneg_right (by omega) gn
    rw [Int.add_mul, Int.one_mul] at q
    omega
  rcases Nat.lt_trichotomy j k with z | z | z
  · exact (key z hk h1 h2).elim
  · exact z
  · exact (key z hj h2 h1).elim
/-- what is told of a way's letters -/
theorem told_path {bits ref : List Int} (hb : AreBits bits) (hc : ∀ d, InD bits d → InD ref d) : ∀ {js : List Nat} {m : LM} {d : Nd} {v : Wn} {acc : List Nat}, LMW m → LMV m → OkD d → d.s + 6 * js.length ≤ 800 → PathP m js → fin (runM m js) = true → WI bits v d.L d.R d.s → InD bits d → InD ref (runN m d js) →
    ∃ t, t ≤ js.length ∧ toldF bits (rem m) m v acc = (acc ++ js.take t, runM m (js.take t)) ∧ InD bits (runN m d (js.take t)) ∧ ∀ t', t < t' → t' ≤ js.length → ¬ InD bits (runN m d (js.take t'))
  | [], m, d, v, acc, W, Vv, hd, hs, hp, hf, hw, hi, hr => by
    have r0 := (fin_of Vv W).mp hf
    refine ⟨0, Nat.le_refl _, ?_, hi, fun t' a b => ?_⟩
    · rw [r0]
      show (acc, m) = (acc ++ [], m)
      rw [List.append_nil]
    · have : t' ≤ 0 := b
      omega
  | j :: r, m, d, v, acc, W, Vv, hd, hs, hp, hf, hw, hi, hr => by
    obtain ⟨p1, p2, p3⟩ := hp
    obtain ⟨g, l⟩ := cts_good W
    have ht := chT_le d.R (cts m) j
    rw [List.length_cons] at hs
    have W' := W.next p1 p2
    have V' := Vv.next W j
    have hd' := hd.nx W p2 (by omega)
    have hs' : (nxN m d j).s + 6 * r.length ≤ 800 := by
      show d.s + chT d.R (cts m) j + 6 * r.length ≤ 800
      omega
    have rr := rem_next Vv W p1 j
    have hr' : InD ref (nxN m d j) := run_nest W' V' hd' hs' p3 hr
    have ok : ∀ k, okJ v (cts m) k ↔ InD bits (nxN m d k) := fun k => okJ_iff hb hw (cts m) k
    have eT : toldF bits (rem m) m v acc = if fin m = true then (acc, m) else match findJ v (cts m) with
        | none => (acc, m)
        | some j => toldF bits (rem (next m j)) (next m j) (stepW bits v (cts m) j) (acc ++ [j]) := by
      rw [← rr]
      show (if fin m = true then (acc, m) else match findJ v (cts m) with
        | none => (acc, m)
        | some k => toldF bits (rem (next m j)) (next m k) (stepW bits v (cts m) k) (acc ++ [k])) = _
      congr 1
      cases findJ v (cts m) with
      | none => rfl
      | some k =>
        have e : rem (next m j) = rem (next m k) := by
          have := rem_next Vv W p1 k
          omega
        show toldF bits (rem (next m j)) (next m k) _ _ = toldF bits (rem (next m k)) (next m k) _ _
        rw [e]
    rw [if_neg (by rw [p1]; decide)] at eT
    by_cases hIn : InD bits (nxN m d j)
    · have ef : findJ v (cts m) = some j := findJ_some (fun k hk z => by
        have := in_one W hd p2 (by omega) hIn ((ok k).mp z)
        omega) (by rw [l]; exact p2) ((ok j).mpr hIn)
      rw [ef] at eT
      obtain ⟨t, h1, h2, h3, h4⟩ := told_path hb hc (js := r) (acc := acc ++ [j]) W' V' hd' hs' p3 hf (hw.step (cts m) j) hIn hr
      refine ⟨t + 1, Nat.succ_le_succ h1, ?_, h3, fun t' a b => ?_⟩
      · rw [eT]
        show toldF bits (rem (next m j)) (next m j) (stepW bits v (cts m) j) (acc ++ [j]) = _
        rw [h2, List.append_assoc]
        rfl
      · obtain ⟨u, rfl⟩ : ∃ u, t' = u + 1 := ⟨t' - 1, by omega⟩
        exact h4 u (by omega) (Nat.le_of_succ_le_succ b)
    · have ef : findJ v (cts m) = none := findJ_none fun k hk z => by
        have z1 := (ok k).mp z
        have := in_one W hd p2 (by rw [l] at hk; exact hk) hr' (hc _ z1)
        subst this
        exact hIn z1
      rw [ef] at eT
      refine ⟨0, Nat.zero_le _, ?_, hi, fun t' a b z => ?_⟩
      · rw [eT]
        show (acc, m) = (acc ++ [], m)
        rw [List.append_nil]
      · obtain ⟨u, rfl⟩ : ∃ u, t' = u + 1 := ⟨t' - 1, by omega⟩
        have lu : (r.take u).length ≤ r.length := by
          rw [List.length_take]
          omega
        exact hIn (run_nest (js := r.take u) W' V' hd' (by omega) (pathP_take u p3) z)
/-! ### a draw -/
def spTake : Sp := fun vs H Q _ => ∃ (a : Addr) (m : Int), vs = [.ref a, .int m] ∧ Src H a ∧ 0 < m ∧ m < 18446744073709551616 ∧ ∀ (r : Int) (H' : Hp), 0 ≤ r → r < m → Src H' a → But a H H' → Q (.int r) H'
theorem ok_take {f : Addr} {fd : FuncData} {k : Nat} (F : Fun K "_law_take" "_law_take" s_law_take f fd) (T : Txt mg) : FnOk P w K mg base CX0 (k + 1) f fd ["_law_source", "_law_most"] spTake := by
  refine F.ok sc_law_take (fun vs H Q E h => ?_) (fun cdv A outer s H vs Q E hr h => ?_)
  · obtain ⟨a, m, rfl, _⟩ := h
    rfl
  · obtain ⟨a, m, rfl, ⟨x, y, ha, hx, hy, hy2⟩, hm, hm2, q⟩ := h
    refine ⟨_, (pss_cons (ps_if (pt_cmpR op_gt (pe_ix ix_list (pv 0) pe_int (fun _ _ => rfl)) pe_int (nomark _)) (pss_cons (ps_set (i := 2) sc_law_take.nd rfl (Or.inl rfl) (pe_op op_mod (pe_callTy call_int1 (by rfl) T.z_int PyProof.Rows.boot_int (pa_cons (pe_ix ix_list (pv 0) pe_int (fun _ _ => rfl)) pa_nil)) (pv 1)))
    (pss_cons (ps_asg (pe_op op_fdivW (pe_ix ix_list (pv 0) pe_int (fun _ _ => rfl)) (pv 1)) (pg_sub (pv 0) pe_int set_list))
    (pss_one (ps_ret (pv 2))))) pss_nil)
    (pss_cons (ps_asg (pe_op op_mod (pe_callTy call_int1 (by rfl) T.z_int PyProof.Rows.boot_int (pa_cons (pe_op op_add (pe_op op_mul (pe_ix ix_list (pv 0) pe_int (fun _ _ => rfl)) pe_int) pe_int) pa_nil)) pe_int) (pg_sub (pv 0) pe_int set_list))
    (pss_one (ps_ret (pe_op op_mod (pe_callTy call_int1 (by rfl) T.z_int PyProof.Rows.boot_int (pa_cons (pe_op op_fdiv (pe_op op_mod (pe_callTy call_int1 (by rfl) T.z_int PyProof.Rows.boot_int (pa_cons (pe_op op_mul (pe_ix ix_list (pv 0) pe_int (fun _ _ => rfl)) (pe_ix ix_list (pv 0) pe_int (fun _ _ => rfl))) pa_nil)) pe_int) pe_int) pa_nil)) (pv 1)))))), ?_⟩
    walk_at "ev"
    · refine q _ _ (Int.emod_nonneg _ (by omega)) (Int.emod_lt_of_pos _ hm) ⟨_, _, upd_same, Int.ediv_nonneg hx (by omega), hy, hy2⟩ But.upd
    · refine q _ _ (Int.emod_nonneg _ (by omega)) (Int.emod_lt_of_pos _ hm) ⟨_, _, upd_same, hx, Int.emod_nonneg _ (by omega), Int.emod_lt_of_pos _ (by omega)⟩ But.upd
/-! ### the pool of a cell -/
def spPool (K : PySem.W.Frag) : Sp := fun vs H Q _ => ∃ (a : Addr) (ns : List Int) (k : Int), vs = [.ref a, .int k] ∧ SqL K H a (ns.map V.int) ∧ 0 ≤ k ∧ k < 100 ∧ ∀ (p : Addr) (H' : Hp), H p = none → Same H H' → Src H' p → Q (.ref p) H'
theorem ok_pool {f : Addr} {fd : FuncData} {k : Nat} (F : Fun K "_law_pool" "_law_pool" s_law_pool f fd) (T : Txt mg) : FnOk P w K mg base CX0 (k + 1) f fd ["_law_script", "_law_k"] (spPool K) := by
  refine F.ok sc_law_pool (fun vs H Q E h => ?_) (fun cdv A outer s H vs Q E hr h => ?_)
  · obtain ⟨a, ns, k, rfl, _⟩ := h
    rfl
  · obtain ⟨a, ns, k, rfl, hS, hk, hk2, q⟩ := h
    refine ⟨_, (pss_cons (ps_set (i := 2) sc_law_pool.nd rfl (Or.inl rfl) pe_int)
    (pss_cons (ps_if (pt_cmpR op_lt (pv 1) (pe_callB call_len_seq (by rfl) T.z_len PySem.boot_len (pa_cons (pv 0) pa_nil)) (nomark _)) (pss_one (ps_set (i := 2) sc_law_pool.nd rfl (Or.inl rfl) (pe_ix ix_list (pv 0) (pv 1) (fun _ _ => rfl)))) pss_nil)
    (pss_cons (ps_set (i := 3) sc_law_pool.nd rfl (Or.inl rfl) (pe_callB (call_max2 rfl) (by rfl) T.z_max PyProof.Rows.boot_max (pa_cons (pe_callTy call_int1 (by rfl) T.z_int PyProof.Rows.boot_int (pa_cons (pv 2) pa_nil)) (pa_cons (pe_callTy call_int1 (by rfl) T.z_int PyProof.Rows.boot_int (pa_cons (pe_op op_sub (pe_un un_neg pe_int) (pv 2)) pa_nil)) pa_nil))))
    (pss_cons (ps_set (i := 4) sc_law_pool.nd rfl (Or.inl rfl) (pe_op op_mod (pe_callTy call_int1 (by rfl) T.z_int PyProof.Rows.boot_int (pa_cons (pe_op op_mul (pe_op op_add (pe_op op_add (pe_op op_add (pe_op op_mod (pe_callTy call_int1 (by rfl) T.z_int PyProof.Rows.boot_int (pa_cons (pv 3) pa_nil)) pe_int) (pe_op op_mul (pe_op op_mul pe_int (pv 1)) (pv 1))) (pe_op op_mul pe_int (pv 1))) pe_int) pe_int) pa_nil)) pe_int))
    (pss_one (ps_ret (pe_lst (pa_cons (pe_op op_mul (pv 3) (pe_callTy call_int1 (by rfl) T.z_int PyProof.Rows.boot_int (pa_cons (pe_cmpR op_ge (pv 3) (pe_op (op_powc (a := 10) (b := 18) (c := 1000000000000000000) ⟨by decide, by decide, by decide⟩ (by decide +kernel)) pe_int pe_int) (nomark _)) pa_nil))) (pa_cons (pv 4) pa_nil))))))))), ?_⟩
    walk_at "ev"
    · obtain ⟨z, hz⟩ := at_lt hk (by assumption)
      refine ⟨_, _, _, _, rfl, rfl, hS, hz, ?_⟩
      walk_at "ev"
      refine ⟨(by show 2 ≤ sizeLine; decide), fun p np => q p _ np (same_upd np) ⟨_, _, upd_same, pool_nn _ _, Int.emod_nonneg _ (by omega), Int.emod_lt_of_pos _ (by omega)⟩⟩
    · refine ⟨(by show 2 ≤ sizeLine; decide), fun p np => q p _ np (same_upd np) ⟨_, _, upd_same, pool_nn _ _, Int.emod_nonneg _ (by omega), Int.emod_lt_of_pos _ (by omega)⟩⟩
/-! ### one of some things -/
def spOne : Sp := fun vs H Q _ => ∃ (a t : Addr) (xs : List V), vs = [.ref a, .ref t] ∧ Src H a ∧ t ≠ a ∧ H t = some (.lst xs) ∧ xs ≠ [] ∧ xs.length ≤ 1000 ∧ ∀ (v : V) (H' : Hp), v ∈ xs → Src H' a → But a H H' → Q v H'
theorem ok_one {f : Addr} {fd : FuncData} {k : Nat} (F : Fun K "_law_one" "_law_one" s_law_one f fd) (T : Txt mg) (c_law_take : C8.Cal P w K mg base 1 "_law_take" spTake []) : FnOk P w K mg base CX0 (k + 2) f fd ["_law_source", "_law_things"] spOne := by
  refine F.ok sc_law_one (fun vs H Q E h => ?_) (fun cdv A outer s H vs Q E hr h => ?_)
  · obtain ⟨a, t, xs, rfl, _⟩ := h
    rfl
  · obtain ⟨a, t, xs, rfl, ha, hta, ht, hx, hl, q⟩ := h
    refine ⟨_, (pss_one (ps_ret (pe_ix ix_list (pv 1) (C8.pe_c c_law_take hr (by omega) (by rfl) (pa_cons (pv 0) (pa_cons (pe_callB call_len_seq (by rfl) T.z_len PySem.boot_len (pa_cons (pv 1) pa_nil)) pa_nil))) (fun _ _ => rfl)))), ?_⟩
    walk_at "ev"
    have hp : 0 < xs.length := List.length_pos_iff.mpr hx
    refine ⟨ha, (by omega), (by omega), fun r H' h0 h1 s1 u1 => ?_⟩
    obtain ⟨v, hv, hm⟩ := at_mem (xs := xs) h0 h1
    exact ⟨_, _, _, _, rfl, rfl, .inl (.inl (u1.at hta ht)), hv, q v H' hm s1 u1⟩
/-! ### bits that are drawn -/
def spBits : Sp := fun vs H Q _ => ∃ (a : Addr) (m : Int), vs = [.ref a, .int m] ∧ Src H a ∧ 0 ≤ m ∧ m ≤ 100 ∧ ∀ (q : Addr) (H' : Hp) (bits : List Int), H q = none → Src H' a → Up a H H' → H' q = some (.lst (bits.map V.int)) → AreBits bits → bits.length ≤ 100 → Q (.ref q) H'
theorem ok_bits {f : Addr} {fd : FuncData} {k : Nat} (F : Fun K "_law_bits" "_law_bits" s_law_bits f fd) (T : Txt mg) (c_law_take : C8.Cal P w K mg base 1 "_law_take" spTake []) : FnOk P w K mg base CX0 (k + 2) f fd ["_law_source", "_law_most"] spBits := by
  refine F.ok sc_law_bits (fun vs H Q E h => ?_) (fun cdv A outer s H vs Q E hr h => ?_)
  · obtain ⟨a, m, rfl, _⟩ := h
    rfl
  · obtain ⟨a, m, rfl, ha, m0, m1, q⟩ := h
    refine ⟨_, (pss_one (ps_ret (pe_lc (own := [("_law_turn", 2)]) (g := (gName 2)) (tt := tYes) rfl sc_law_bits.nd (pi_range1 (by rfl) T.z_range (pa_cons (C8.pe_c c_law_take hr (by omega) (by rfl) (pa_cons (pv 0) (pa_cons (pe_op op_add (pv 1) pe_int) pa_nil))) pa_nil)) (blkOk_by (N := ["_law_source", "_law_most", "_law_turn"]) (sc := defScope s_law_bits) (by decide +kernel)) (fun _ _ _ _ _ => pg_name (i := 2) sc_law_bits.nd rfl (by first | exact Or.inl rfl | exact Or.inr rfl)) (fun _ _ _ _ _ => pts_nil) (fun _ _ _ _ _ => (C8.pe_c c_law_take hr (by omega) (by rfl) (pa_cons (pv 0) (pa_cons pe_int pa_nil))))))), ?_⟩
    walk_at "ev"
    refine ⟨ha, by omega, by omega, fun r H1 r0 r1 s1 u1 => ?_⟩
    walk_at "ev"
    refine ⟨by omega, by omega, fun D nD => ?_⟩
    have nDa : D ≠ a := (s1.ne nD).symm
    refine lc_it walk_range (fun i H2 => Up a H1 H2 ∧ Src H2 a ∧ ∃ bits : List Int, H2 D = some (.lst (bits.map V.int)) ∧ AreBits bits ∧ bits.length = i) ⟨up_same (same_upd nD), src_same (same_upd nD) s1, [], upd_same, fun _ m => absurd m List.not_mem_nil, rfl⟩ (fun _ _ _ _ => trivial) ?_ ?_
    · rintro i x H2 H3 hi ⟨u2, s2, bits, e2, hb, hl⟩ ⟨rfl, rfl⟩
      walk_at "ev"
      refine ⟨s2, by decide, by decide, fun z H4 z0 z1 s4 u4 => ?_⟩
      have e4 := u4.up _ _ nDa e2
      refine ⟨_, e4, small1000 (by rw [List.length_map]; omega), fun b o nb e => by
        rw [upd_ne (ne_of_none e nD)]
        exact u4.up _ _ nb (u2 _ _ nb e), src_keep nDa.symm s4, bits ++ [z], by rw [upd_same, List.map_append]; rfl, fun y my => ?_, by rw [List.length_append, hl]; rfl⟩
      rcases List.mem_append.mp my with my | my
      · exact hb y my
      · rw [List.mem_singleton.mp my]
        omega
    · rintro H2 ⟨u2, s2, bits, e2, hb, hl⟩
      exact q D H2 bits (u1.up.new s1 nD) s2 (u1.up.trans u2) e2 hb (by omega)
/-! ### a node's child, by the law -/
theorem cut_take {xs : List V} {y : Int} {k : Nat} (hy : y = (k : Int)) (hk : k ≤ xs.length) : cutV xs none (some y) = xs.take k := by
  subst hy
  unfold cutV
  rw [HT.sIx_none, HT.sIx_nat, Nat.min_eq_left hk]
  rfl
theorem snoc_range {α : Type} (f : Nat → α) (n : Nat) : (List.range (n + 1)).map f = (List.range n).map f ++ [f n] := by
  rw [List.range_succ, List.map_append]
  rfl
def spLBorders (K : PySem.W.Frag) : Sp := fun vs H Q _ => ∃ (W : Int) (p : Addr) (cs : List Int), vs = [.int W, .ref p] ∧ 0 ≤ W ∧ W < 4294967296 ∧ SqL K H p (cs.map V.int) ∧ GoodC cs ∧ ∀ (q : Addr) (H' : Hp), H q = none → Same H H' → H' q = some (.lst ((brds W cs (cs.length + 1)).map V.int)) → Q (.ref q) H'
theorem ok_lborders {f : Addr} {fd : FuncData} {k : Nat} (F : Fun K "_law_borders" "_law_borders" s_law_borders f fd) (T : Txt mg) : FnOk P w K mg base CX0 (k + 1) f fd ["_law_width", "_law_counts"] (spLBorders K) := by
  refine F.ok sc_law_borders (fun vs H Q E h => ?_) (fun cdv A outer s H vs Q E hr h => ?_)
  · obtain ⟨W, p, cs, rfl, _⟩ := h
    rfl
  · obtain ⟨W, p, cs, rfl, w0, w1, hp, g, q⟩ := h
    have l3 := g.l3
    have hsum := g.sum
    have hsp := g.sp
    refine ⟨_, (pss_cons (ps_setLc (i := 3) (own := [("_law_at", 2)]) (g := (gName 2)) (tt := tYes) rfl sc_law_borders.nd rfl rfl (sw_true rfl rfl rfl (by decide +kernel)) (pi_range1 (by rfl) T.z_range (pa_cons (pe_op op_add (pe_callB call_len_seq (by rfl) T.z_len PySem.boot_len (pa_cons (pv 1) pa_nil)) pe_int) pa_nil)) (blkOk_by (N := ["_law_width", "_law_counts", "_law_at", "_law_ahead", "_law_one_here"]) (sc := defScope s_law_borders) (by decide +kernel)) (fun _ _ _ _ _ => pg_name (i := 2) sc_law_borders.nd rfl (by first | exact Or.inl rfl | exact Or.inr rfl)) (fun _ _ _ _ _ => pts_nil) (fun _ _ _ _ _ => (pe_callB (cr_sumS rfl : CallR _ (.builtin "sum") (rSumS K)) (by rfl) T.z_sum PyProof.Rows.boot_sum (pa_cons (pe_slice (sl_list : SlR _ (rSlL K)) (pv 1) po_none (po_some (pv 2))) pa_nil))))
    (pss_one (ps_ret (pe_lc (own := [("_law_one_here", 4)]) (g := (gName 4)) (tt := tYes) rfl sc_law_borders.nd (pi_list (pv 3)) (blkOk_by (N := ["_law_width", "_law_counts", "_law_at", "_law_ahead", "_law_one_here"]) (sc := defScope s_law_borders) (by decide +kernel)) (fun _ _ _ _ _ => pg_name (i := 4) sc_law_borders.nd rfl (by first | exact Or.inl rfl | exact Or.inr rfl)) (fun _ _ _ _ _ => pts_nil) (fun _ _ _ _ _ => (pe_op op_fdivW (pe_op op_mul (pv 0) (pv 4)) (pe_callB (cr_sumS rfl : CallR _ (.builtin "sum") (rSumS K)) (by rfl) T.z_sum PyProof.Rows.boot_sum (pa_cons (pv 1) pa_nil)))))))), ?_⟩
    walk_at "ev"
    have hlm : (List.map V.int cs).length = cs.length := List.length_map _
    refine ⟨by rw [hlm]; omega, by rw [hlm]; omega, fun D nD => ?_⟩
    rw [show (((List.map V.int cs).length : Int) + 1).toNat = cs.length + 1 by rw [hlm]; omega]
    refine lc_it walk_range (fun i G => Same H G ∧ G D = some (.lst (((List.range i).map (pre cs)).map V.int))) ⟨same_upd nD, upd_same⟩ (fun _ _ _ _ => trivial) ?_ ?_
    · rintro i x G G2 hi ⟨s2, e2⟩ ⟨rfl, ex⟩
      have ex : x = V.int (i : Int) := by
        rw [ex]
        show V.int (0 + (i : Int)) = _
        rw [Int.zero_add]
      subst ex
      have hp2 := s2.seq hp
      walk_at "ev"
      refine ⟨p, _, rfl, hp2, fun l nl => ?_⟩
      rw [cut_take (k := i) rfl (by rw [hlm]; omega), ← List.map_take]
      walk_at "ev"
      refine ⟨_, new_at e2 nl, small1000 (by rw [List.length_map, List.length_map, List.length_range]; omega), fun b o e => ?_, ?_⟩
      · rw [upd_ne (ne_of_none e nD)]
        exact new_at (s2 _ _ e) nl
      · rw [upd_same, snoc_range, List.map_append]
        rfl
    · rintro G ⟨s2, e2⟩
      have hp2 := s2.seq hp
      have e2' : SqL K G D (((List.range (cs.length + 1)).map (pre cs)).map V.int) := .inl (.inl e2)
      walk_at "ev"
      refine ⟨⟨_, e2'⟩, fun D2 nD2 => ?_⟩
      have n2D : D2 ≠ D := fun z => by rw [z, e2] at nD2; cases nD2
      refine lc_it (walk_list (xs := ((List.range (cs.length + 1)).map (pre cs)).map V.int)) (fun i G3 => Same G G3 ∧ G3 D2 = some (.lst (((brds W cs i)).map V.int))) ⟨same_upd nD2, upd_same⟩ (fun _ _ _ h => h.1.seq e2') ?_ ?_
      · rintro i x G3 G4 hi ⟨s3, e3⟩ ⟨rfl, hx⟩
        rw [List.length_map, List.length_map, List.length_range] at hi
        rw [List.getElem?_map, List.getElem?_map, List.getElem?_range hi] at hx
        obtain rfl : x = V.int (pre cs i) := (Option.some.inj hx).symm
        have p0 := pre_nn g.pos i
        have p1 := pre_le g.pos i
        have hp4 := s3.seq hp2
        walk_at "ev"
        refine ⟨_, e3, small1000 (by rw [List.length_map, brds_len]; omega), fun b o e => ?_, ?_⟩
        · rw [upd_ne (ne_of_none e nD2)]
          exact s3 _ _ e
        · rw [upd_same, brds_succ, List.map_append]
          rfl
      · rintro G3 ⟨s3, e3⟩
        rw [List.length_map, List.length_map, List.length_range] at e3
        exact q D2 G3 (s2.free nD2) (s2.trans s3) e3
/-- a while that doubles: from t doublings on to those that are wanted -/
def spChild (K : PySem.W.Frag) : Sp := fun vs H Q _ => ∃ (nd p : Addr) (L R : Int) (s : Nat) (cs : List Int) (j : Nat), vs = [.ref nd, .ref p, .int (j : Int)] ∧ SqT K H nd [.int L, .int R, .int (s : Int)] ∧ 65536 ≤ R ∧ R ≤ 131071 ∧ SqL K H p (cs.map V.int) ∧ GoodC cs ∧ j < cs.length ∧
  ∀ (q : Addr) (H' : Hp), H q = none → Same H H' → H' q = some (.tup [.int ((L + brd R cs j) * 2 ^ chT R cs j), .int ((brd R cs (j + 1) - brd R cs j) * 2 ^ chT R cs j), .int ((s + chT R cs j : Nat) : Int)]) → Q (.ref q) H'
theorem ok_child {f : Addr} {fd : FuncData} {k : Nat} (F : Fun K "_law_child" "_law_child" s_law_child f fd) (T : Txt mg) (c_law_borders : C8.Cal P w K mg base 1 "_law_borders" (spLBorders K) []) : FnOk P w K mg base CX0 (k + 2) f fd ["_law_node", "_law_counts", "_law_letter"] (spChild K) := by
  refine F.ok sc_law_child (fun vs H Q E h => ?_) (fun cdv A outer s H vs Q E hr h => ?_)
  · obtain ⟨nd, p, L, R, z, cs, j, rfl, _⟩ := h
    rfl
  · obtain ⟨nd, p, L, R, z, cs, j, rfl, hn, r0, r1, hp, g, hj, q⟩ := h
    refine ⟨_, (pss_cons (ps_asg (pv 0) (pg_tup rfl (pgs_cons (pg_name (i := 3) sc_law_child.nd rfl (Or.inl rfl)) (pgs_cons (pg_name (i := 4) sc_law_child.nd rfl (Or.inl rfl)) (pgs_cons (pg_name (i := 5) sc_law_child.nd rfl (Or.inl rfl)) pgs_nil)))))
    (pss_cons (ps_set (i := 6) sc_law_child.nd rfl (Or.inl rfl) (C8.pe_c c_law_borders hr (by omega) (by rfl) (pa_cons (pv 4) (pa_cons (pv 1) pa_nil))))
    (pss_cons (ps_par (i := 3) (j := 4) rfl sc_law_child.nd rfl rfl (by decide) rfl rfl (pa_cons (pe_op op_add (pv 3) (pe_ix ix_list (pv 6) (pv 2) (fun _ _ => rfl))) (pa_cons (pe_op op_sub (pe_ix ix_list (pv 6) (pe_op op_add (pv 2) pe_int) (fun _ _ => rfl)) (pe_ix ix_list (pv 6) (pv 2) (fun _ _ => rfl))) pa_nil)) rfl)
    (pss_cons (ps_while PassesOwn.never (pt_cmpR op_lt (pv 4) pe_int (nomark _))
      (pss_one (ps_par3 (i := 3) (j := 4) (l := 5) rfl sc_law_child.nd rfl rfl rfl (by decide) (by decide) (by decide) rfl rfl rfl (pa_cons (pe_op op_mul pe_int (pv 3)) (pa_cons (pe_op op_mul pe_int (pv 4)) (pa_cons (pe_op op_add (pv 5) pe_int) pa_nil))) rfl)))
    (pss_one (ps_ret (pe_tup (pa_cons (pv 3) (pa_cons (pv 4) (pa_cons (pv 5) pa_nil)))))))))), ?_⟩
    walk_at "ev"
    refine ⟨nd, _, rfl, hn, rfl, ?_⟩
    walk_at "ev"
    refine ⟨R, p, cs, rfl, by omega, by omega, hp, g, fun d H1 n1 s1 e1 => ?_⟩
    have bl := brds_len R cs (cs.length + 1)
    have a1 : atI ((brds R cs (cs.length + 1)).map V.int) (j : Int) = some (.int (brd R cs j)) := atI_nat (by rw [List.getElem?_map, brds_get (by omega)]; rfl)
    have a2 : atI ((brds R cs (cs.length + 1)).map V.int) ((j : Int) + 1) = some (.int (brd R cs (j + 1))) := atI_nat (j := j + 1) (by rw [List.getElem?_map, brds_get (by omega)]; rfl)
    have eb : SqL K H1 d ((brds R cs (cs.length + 1)).map V.int) := .inl (.inl e1)
    have bs := brd_step r0 g hj
    have b0 := brd_nn (by omega : 0 ≤ R) g j
    have b1 := brd_le (by omega : 0 ≤ R) g (j + 1)
    walk_at "ev"
    refine ⟨_, _, _, _, rfl, rfl, eb, a1, ?_⟩
    walk_at "ev"
    refine ⟨_, _, _, _, rfl, rfl, eb, a2, ?_⟩
    walk_at "ev"
    refine ⟨_, _, _, _, rfl, rfl, eb, a1, ?_⟩
    walk_at "ev"
    have hT : chT R cs j = dbl (brd R cs (j + 1) - brd R cs j) := rfl
    have h6 := dbl_le (brd R cs (j + 1) - brd R cs j)
    rw [← hT] at h6
    generalize hW : brd R cs (j + 1) - brd R cs j = W0 at *
    generalize hL : L + brd R cs j = L0 at *
    refine ⟨fun m σ G => ∃ t : Nat, σ = [some (.ref nd), some (.ref p), some (.int (j : Int)), some (.int (L0 * 2 ^ t)), some (.int (W0 * 2 ^ t)), some (.int ((z + t : Nat) : Int)), some (.ref d)] ∧ G = H1 ∧ t ≤ chT R cs j ∧ m = chT R cs j - t, ⟨_, 0, ?_, rfl, Nat.zero_le _, rfl⟩, ?_⟩
    · show [some (V.ref nd), some (.ref p), some (.int (j : Int)), some (V.int (L + brd R cs j)), some (V.int (brd R cs (j + 1) - brd R cs j)), some (.int (z : Int)), some (.ref d)] = _
      rw [hL, hW, Int.pow_zero, Int.mul_one, Int.mul_one]
      rfl
    · rintro m σ G ⟨t, rfl, rfl, ht, rfl⟩
      have hd := dbl_lt (n := W0) (by omega) (t := t) (by omega)
      rw [← hT] at hd
      have dd : ∀ x : Int, 2 * (x * 2 ^ t) = x * 2 ^ (t + 1) := fun x => by rw [Int.pow_succ, Int.mul_comm 2, Int.mul_assoc]
      walk_at "ev"
      · rename_i hc
        have hlt := hd.mp hc
        refine ⟨_, fun σ' H' h => h, ?_⟩
        walk_at "ev"
        refine ⟨_, _, _, rfl, ?_⟩
        refine ⟨chT R cs j - (t + 1), by omega, t + 1, ?_, rfl, by omega, rfl⟩
        show [some (V.ref nd), some (.ref p), some (.int (j : Int)), some (V.int (2 * (L0 * 2 ^ t))), some (V.int (2 * (W0 * 2 ^ t))), some (V.int (((z + t : Nat) : Int) + 1)), some (.ref d)] = _
        rw [dd, dd]
        rfl
      · rename_i hc
        have e : t = chT R cs j := by
          have : ¬ t < chT R cs j := fun y => hc (hd.mpr y)
          omega
        subst e
        refine ⟨by show 3 ≤ sizeLine; decide, fun q' nq => q q' _ (s1.free nq) (s1.trans (same_upd nq)) upd_same⟩
/-! ### an interval within a node's -/
def spHolds (K : PySem.W.Frag) : Sp := fun vs H Q _ => ∃ (nd : Addr) (L R v : Int) (s n : Nat), vs = [.ref nd, .int v, .int (n : Int)] ∧ SqT K H nd [.int L, .int R, .int (s : Int)] ∧ 0 ≤ L ∧ 0 ≤ R ∧ L + R ≤ 2 ^ s ∧ s ≤ 1000 ∧ 0 ≤ v ∧ v < 2 ^ n ∧ n ≤ 1000 ∧ Q (.bl (decide (Fits L R s n v))) H
theorem bits_le {L : Int} {s : Nat} (h0 : 0 ≤ L) (h1 : L ≤ 2 ^ s) : (Builtin.Int.intBits L : Int) ≤ s + 1 := by
  have : L < 2 ^ (s + 1) := by
    rw [Int.pow_succ]
    have : (0 : Int) < 2 ^ s := Int.pow_pos (by decide)
    omega
  exact low_bits h0 this
theorem ok_holds {f : Addr} {fd : FuncData} {k : Nat} (F : Fun K "_law_holds" "_law_holds" s_law_holds f fd) (T : Txt mg) : FnOk P w K mg base CX0 (k + 1) f fd ["_law_node", "_law_value", "_law_many"] (spHolds K) := by
  refine F.ok sc_law_holds (fun vs H Q E h => ?_) (fun cdv A outer s H vs Q E hr h => ?_)
  · obtain ⟨nd, L, R, v, z, n, rfl, _⟩ := h
    rfl
  · obtain ⟨nd, L, R, v, z, n, rfl, hn, l0, r0, lr, hz, v0, v1, hn9, q⟩ := h
    refine ⟨_, (pss_cons (ps_asg (pv 0) (pg_tup rfl (pgs_cons (pg_name (i := 3) sc_law_holds.nd rfl (Or.inl rfl)) (pgs_cons (pg_name (i := 4) sc_law_holds.nd rfl (Or.inl rfl)) (pgs_cons (pg_name (i := 5) sc_law_holds.nd rfl (Or.inl rfl)) pgs_nil)))))
    (pss_one (ps_ret (pe_and (pe_cmpR op_le (pe_op op_shlN (pv 3) (pv 2)) (pe_op op_shlN (pv 1) (pv 5)) (nomark _)) (pe_one (pe_cmpR op_le (pe_op op_shlN (pe_op op_add (pv 1) pe_int) (pv 5)) (pe_op op_shlN (pe_op op_add (pv 3) (pv 4)) (pv 2)) (nomark _))))))), ?_⟩
    have c1 : CShl L (n : Int) := ⟨by omega, by have := bits_le (s := z) l0 (by omega); omega⟩
    have c2 : CShl v (z : Int) := ⟨by omega, by have := bits_le (s := n) v0 (by omega); omega⟩
    have c3 : CShl (v + 1) (z : Int) := ⟨by omega, by have := bits_le (L := v + 1) (s := n) (by omega) (by omega); omega⟩
    have c4 : CShl (L + R) (n : Int) := ⟨by omega, by have := bits_le (L := L + R) (s := z) (by omega) lr; omega⟩
    walk_at "ev"
    refine ⟨nd, _, rfl, hn, rfl, ?_⟩
    walk_at "ev"
    refine ⟨c1, ?_⟩
    walk_at "ev"
    refine ⟨c2, ?_⟩
    walk_at "ev"
    · rename_i hc
      refine ⟨c3, ?_⟩
      walk_at "ev"
      refine ⟨c4, ?_⟩
      walk_at "ev"
      rw [show decide (Fits L R z n v) = decide ((v + 1) * 2 ^ z ≤ (L + R) * 2 ^ n) from decide_eq_decide.mpr ⟨fun h => h.2, fun h => ⟨hc, h⟩⟩] at q
      exact q
    · rename_i hc
      rw [decide_eq_false (fun z => hc z.1)] at q
      exact q
/-! ### a line is drawn -/
def spLine (K : PySem.W.Frag) : Sp := fun vs H Q _ => ∃ (a : Addr), vs = [.ref a, .int 20] ∧ Src H a ∧ ∀ (q r : Addr) (x0 x1 y0 y1 : Int) (w h p : Nat) (H' : Hp), H q = none → H r = none → q ≠ r → H' q = some (.tup [.ref r, .int (p : Int)]) → H' r = some (.tup [.int x0, .int x1, .int y0, .int y1]) → RectW x0 x1 y0 y1 w h → 1 ≤ w → 1 ≤ h → 1 ≤ p → p ≤ 5 → p * (h * w) ≤ 20 → Src H' a → Up a H H' → Q (.ref q) H'
theorem ok_line {f : Addr} {fd : FuncData} {k : Nat} (F : Fun K "_law_line" "_law_line" s_law_line f fd) (T : Txt mg) (c_law_take : C8.Cal P w K mg base 1 "_law_take" spTake []) (c_law_one : C8.Cal P w K mg base 2 "_law_one" spOne []) : FnOk P w K mg base CX0 (k + 3) f fd ["_law_source", "_law_most"] (spLine K) := by
  refine F.ok sc_law_line (fun vs H Q E h => ?_) (fun cdv A outer s H vs Q E hr h => ?_)
  · obtain ⟨a, rfl, _⟩ := h
    rfl
  · obtain ⟨a, rfl, ha, q⟩ := h
    refine ⟨_, (pss_cons (ps_par (i := 2) (j := 3) rfl sc_law_line.nd rfl rfl (by decide) rfl rfl (pa_cons (pe_op op_sub (C8.pe_c c_law_take hr (by omega) (by rfl) (pa_cons (pv 0) (pa_cons pe_int pa_nil))) pe_int) (pa_cons (pe_op op_sub (C8.pe_c c_law_take hr (by omega) (by rfl) (pa_cons (pv 0) (pa_cons pe_int pa_nil))) pe_int) pa_nil)) rfl)
    (pss_cons (ps_asg (C8.pe_c c_law_one hr (by omega) (by rfl) (pa_cons (pv 0) (pa_cons (pe_lst (pa_cons (pe_tup (pa_cons pe_int (pa_cons pe_int pa_nil))) (pa_cons (pe_tup (pa_cons pe_int (pa_cons pe_int pa_nil))) (pa_cons (pe_tup (pa_cons pe_int (pa_cons pe_int pa_nil))) (pa_cons (pe_tup (pa_cons pe_int (pa_cons pe_int pa_nil))) (pa_cons (pe_tup (pa_cons pe_int (pa_cons pe_int pa_nil))) (pa_cons (pe_tup (pa_cons pe_int (pa_cons pe_int pa_nil))) (pa_cons (pe_tup (pa_cons pe_int (pa_cons pe_int pa_nil))) pa_nil)))))))) pa_nil))) (pg_tup rfl (pgs_cons (pg_name (i := 4) sc_law_line.nd rfl (Or.inl rfl)) (pgs_cons (pg_name (i := 5) sc_law_line.nd rfl (Or.inl rfl)) pgs_nil))))
    (pss_cons (ps_set (i := 6) sc_law_line.nd rfl (Or.inl rfl) (pe_op op_add pe_int (C8.pe_c c_law_take hr (by omega) (by rfl) (pa_cons (pv 0) (pa_cons (pe_callB (call_max2 rfl) (by rfl) T.z_max PyProof.Rows.boot_max (pa_cons pe_int (pa_cons (pe_callB (call_min2 rfl) (by rfl) T.z_min PyProof.Rows.boot_min (pa_cons pe_int (pa_cons (pe_op op_fdivW (pv 1) (pe_op op_mul (pv 4) (pv 5))) pa_nil))) pa_nil))) pa_nil)))))
    (pss_one (ps_ret (pe_tup (pa_cons (pe_tup (pa_cons (pv 2) (pa_cons (pe_op op_add (pv 2) (pv 4)) (pa_cons (pv 3) (pa_cons (pe_op op_add (pv 3) (pv 5)) pa_nil))))) (pa_cons (pv 6) pa_nil)))))))), ?_⟩
    walk_at "ev"
    refine ⟨ha, by decide, by decide, fun r1 H1 h0 h1 s1 u1 => ?_⟩
    walk_at "ev"
    refine ⟨s1, by decide, by decide, fun r2 H2 g0 g1 s2 u2 => ?_⟩
    walk_at "ev"
    walk_at "ev"
    refine ⟨(by show 2 ≤ sizeLine; decide), fun t1 n1 => ?_⟩
    have p1 : Same H2 (upd H2 t1 (HO.tup [V.int 1, V.int 1])) := same_upd n1
    have e1 : upd H2 t1 (HO.tup [V.int 1, V.int 1]) t1 = some (HO.tup [V.int 1, V.int 1]) := upd_same
    generalize upd H2 t1 (HO.tup [V.int 1, V.int 1]) = G1 at p1 e1 ⊢
    walk_at "ev"
    refine ⟨(by show 2 ≤ sizeLine; decide), fun t2 n2 => ?_⟩
    have p2 : Same G1 (upd G1 t2 (HO.tup [V.int 2, V.int 1])) := same_upd n2
    have e2 : upd G1 t2 (HO.tup [V.int 2, V.int 1]) t2 = some (HO.tup [V.int 2, V.int 1]) := upd_same
    generalize upd G1 t2 (HO.tup [V.int 2, V.int 1]) = G2 at p2 e2 ⊢
    walk_at "ev"
    refine ⟨(by show 2 ≤ sizeLine; decide), fun t3 n3 => ?_⟩
    have p3 : Same G2 (upd G2 t3 (HO.tup [V.int 1, V.int 2])) := same_upd n3
    have e3 : upd G2 t3 (HO.tup [V.int 1, V.int 2]) t3 = some (HO.tup [V.int 1, V.int 2]) := upd_same
    generalize upd G2 t3 (HO.tup [V.int 1, V.int 2]) = G3 at p3 e3 ⊢
    walk_at "ev"
    refine ⟨(by show 2 ≤ sizeLine; decide), fun t4 n4 => ?_⟩
    have p4 : Same G3 (upd G3 t4 (HO.tup [V.int 3, V.int 1])) := same_upd n4
    have e4 : upd G3 t4 (HO.tup [V.int 3, V.int 1]) t4 = some (HO.tup [V.int 3, V.int 1]) := upd_same
    generalize upd G3 t4 (HO.tup [V.int 3, V.int 1]) = G4 at p4 e4 ⊢
    walk_at "ev"
    refine ⟨(by show 2 ≤ sizeLine; decide), fun t5 n5 => ?_⟩
    have p5 : Same G4 (upd G4 t5 (HO.tup [V.int 2, V.int 2])) := same_upd n5
    have e5 : upd G4 t5 (HO.tup [V.int 2, V.int 2]) t5 = some (HO.tup [V.int 2, V.int 2]) := upd_same
    generalize upd G4 t5 (HO.tup [V.int 2, V.int 2]) = G5 at p5 e5 ⊢
    walk_at "ev"
    refine ⟨(by show 2 ≤ sizeLine; decide), fun t6 n6 => ?_⟩
    have p6 : Same G5 (upd G5 t6 (HO.tup [V.int 1, V.int 3])) := same_upd n6
    have e6 : upd G5 t6 (HO.tup [V.int 1, V.int 3]) t6 = some (HO.tup [V.int 1, V.int 3]) := upd_same
    generalize upd G5 t6 (HO.tup [V.int 1, V.int 3]) = G6 at p6 e6 ⊢
    walk_at "ev"
    refine ⟨(by show 2 ≤ sizeLine; decide), fun t7 n7 => ?_⟩
    have p7 : Same G6 (upd G6 t7 (HO.tup [V.int 4, V.int 1])) := same_upd n7
    have e7 : upd G6 t7 (HO.tup [V.int 4, V.int 1]) t7 = some (HO.tup [V.int 4, V.int 1]) := upd_same
    generalize upd G6 t7 (HO.tup [V.int 4, V.int 1]) = G7 at p7 e7 ⊢
    walk_at "ev"
    refine ⟨(by show 7 ≤ sizeLine; decide), fun t8 n8 => ?_⟩
    have p8 : Same G7 (upd G7 t8 (HO.lst [V.ref t1, V.ref t2, V.ref t3, V.ref t4, V.ref t5, V.ref t6, V.ref t7])) := same_upd n8
    have e8 : upd G7 t8 (HO.lst [V.ref t1, V.ref t2, V.ref t3, V.ref t4, V.ref t5, V.ref t6, V.ref t7]) t8 = some (HO.lst [V.ref t1, V.ref t2, V.ref t3, V.ref t4, V.ref t5, V.ref t6, V.ref t7]) := upd_same
    have sp : Same H2 G7 := p1.trans (p2.trans (p3.trans (p4.trans (p5.trans (p6.trans p7)))))
    have nt8 : ∀ {o : HO}, H2 a = some o → t8 ≠ a := fun {o} e z => by
      rw [z, sp _ _ e] at n8
      cases n8
    have sp := sp.trans p8
    generalize upd G7 t8 (HO.lst [V.ref t1, V.ref t2, V.ref t3, V.ref t4, V.ref t5, V.ref t6, V.ref t7]) = G8 at p8 e8 sp ⊢
    have e7 := p8 _ _ (e7)
    have e6 := p8 _ _ (p7 _ _ (e6))
    have e5 := p8 _ _ (p7 _ _ (p6 _ _ (e5)))
    have e4 := p8 _ _ (p7 _ _ (p6 _ _ (p5 _ _ (e4))))
    have e3 := p8 _ _ (p7 _ _ (p6 _ _ (p5 _ _ (p4 _ _ (e3)))))
    have e2 := p8 _ _ (p7 _ _ (p6 _ _ (p5 _ _ (p4 _ _ (p3 _ _ (e2))))))
    have e1 := p8 _ _ (p7 _ _ (p6 _ _ (p5 _ _ (p4 _ _ (p3 _ _ (p2 _ _ (e1)))))))
    obtain ⟨sx, sy, sa, sr⟩ := _root_.id s2
    have hs8 : Src G8 a := ⟨sx, sy, sp _ _ sa, sr⟩
    have na : ∀ {t : Addr} {o : List V}, G8 t = some (.tup o) → t ≠ a := fun {t o} e z => by
      rw [z, sp _ _ sa] at e
      cases e
    walk_at "ev"
    refine ⟨a, t8, _, rfl, hs8, nt8 sa, e8, (fun z => nomatch z), (by show 7 ≤ 1000; decide), fun v H3 hm s3 u3 => ?_⟩
    have hv : ∃ (t : Addr) (wn hn : Nat), v = .ref t ∧ H3 t = some (.tup [.int (wn : Int), .int (hn : Int)]) ∧ ((wn = 1 ∧ hn = 1) ∨ (wn = 2 ∧ hn = 1) ∨ (wn = 1 ∧ hn = 2) ∨ (wn = 3 ∧ hn = 1) ∨ (wn = 2 ∧ hn = 2) ∨ (wn = 1 ∧ hn = 3) ∨ (wn = 4 ∧ hn = 1)) := by
      simp only [List.mem_cons, List.not_mem_nil, or_false] at hm
      rcases hm with rfl | rfl | rfl | rfl | rfl | rfl | rfl
      · exact ⟨t1, 1, 1, rfl, u3.at (na e1) e1, by decide⟩
      · exact ⟨t2, 2, 1, rfl, u3.at (na e2) e2, by decide⟩
      · exact ⟨t3, 1, 2, rfl, u3.at (na e3) e3, by decide⟩
      · exact ⟨t4, 3, 1, rfl, u3.at (na e4) e4, by decide⟩
      · exact ⟨t5, 2, 2, rfl, u3.at (na e5) e5, by decide⟩
      · exact ⟨t6, 1, 3, rfl, u3.at (na e6) e6, by decide⟩
      · exact ⟨t7, 4, 1, rfl, u3.at (na e7) e7, by decide⟩
    obtain ⟨t, wn, hn, rfl, ht, hp⟩ := hv
    have hd : CDivW 20 ((wn : Int) * (hn : Int)) := by
      rcases hp with ⟨rfl, rfl⟩ | ⟨rfl, rfl⟩ | ⟨rfl, rfl⟩ | ⟨rfl, rfl⟩ | ⟨rfl, rfl⟩ | ⟨rfl, rfl⟩ | ⟨rfl, rfl⟩ <;> exact ⟨by decide, by decide⟩
    have hm1 : ∃ m : Nat, (if (if 20 / ((wn : Int) * (hn : Int)) < 5 then 20 / ((wn : Int) * (hn : Int)) else 5) > 1 then (if 20 / ((wn : Int) * (hn : Int)) < 5 then 20 / ((wn : Int) * (hn : Int)) else 5) else 1) = (m : Int) ∧ 1 ≤ m ∧ m ≤ 5 ∧ m * (hn * wn) ≤ 20 ∧ 1 ≤ wn ∧ 1 ≤ hn ∧ wn ≤ 4 ∧ hn ≤ 4 ∧ hn * wn ≤ 4 := by
      rcases hp with ⟨rfl, rfl⟩ | ⟨rfl, rfl⟩ | ⟨rfl, rfl⟩ | ⟨rfl, rfl⟩ | ⟨rfl, rfl⟩ | ⟨rfl, rfl⟩ | ⟨rfl, rfl⟩
      · exact ⟨5, by decide⟩
      · exact ⟨5, by decide⟩
      · exact ⟨5, by decide⟩
      · exact ⟨5, by decide⟩
      · exact ⟨5, by decide⟩
      · exact ⟨5, by decide⟩
      · exact ⟨5, by decide⟩
    obtain ⟨mm, em, m1, m5, m12, hw1, hh1, hw4, hh4, hwh⟩ := hm1
    walk_at "ev"
    refine ⟨hd, ?_⟩
    walk_at "ev"
    refine ⟨s3, by rw [em]; omega, by rw [em]; omega, fun r4 H4 k0 k1 s4 u4 => ?_⟩
    rw [em] at k1
    walk_at "ev"
    have k1' : 1 + r4 ≤ (mm : Int) := by omega
    obtain ⟨p, ep⟩ : ∃ p : Nat, 1 + r4 = (p : Int) := ⟨(1 + r4).toNat, by omega⟩
    have pm : p ≤ mm := by omega
    have p12 : p * (hn * wn) ≤ 20 := Nat.le_trans (Nat.mul_le_mul_right _ pm) m12
    have up : Up a H H4 := fun b o n e => (u4.up b o n) ((u3.up b o n) (sp _ _ (u2.up b o n (u1.up b o n e))))
    have fr : ∀ b, H4 b = none → H b = none := fun b e => by
      cases hb : H b with
      | none => rfl
      | some o =>
        by_cases z : b = a
        · obtain ⟨_, _, g, _⟩ := s4
          rw [z, g] at e
          cases e
        · rw [up b o z hb] at e
          cases e
    walk_at "ev"
    refine ⟨(by show 4 ≤ sizeLine; decide), fun rr nr => ?_⟩
    walk_at "ev"
    refine ⟨(by show 2 ≤ sizeLine; decide), fun qq nq => ?_⟩
    have sr : Same H4 (upd H4 rr (HO.tup [V.int (r1 - 3), V.int (r1 - 3 + (wn : Int)), V.int (r2 - 3), V.int (r2 - 3 + (hn : Int))])) := same_upd nr
    have er : upd H4 rr (HO.tup [V.int (r1 - 3), V.int (r1 - 3 + (wn : Int)), V.int (r2 - 3), V.int (r2 - 3 + (hn : Int))]) rr = _ := upd_same
    have nqr : qq ≠ rr := (ne_of_none er nq).symm
    have sq := sr.trans (same_upd (o := HO.tup [V.ref rr, V.int (1 + r4)]) nq)
    obtain ⟨sx4, sy4, sa4, sr4⟩ := s4
    refine q qq rr (r1 - 3) (r1 - 3 + (wn : Int)) (r2 - 3) (r2 - 3 + (hn : Int)) wn hn p _ (fr _ (sr.free nq)) (fr _ nr) nqr ?_ ((upd_ne nqr.symm).trans er) ⟨rfl, rfl, by omega, by omega, by omega, by omega, by omega⟩ hw1 hh1 (by omega) (by omega) p12 ⟨sx4, sy4, sq _ _ sa4, sr4⟩ (fun b o n e => sq _ _ (up b o n e))
    rw [← ep]
    exact upd_same
/-! ### what a model wants, as data -/
def wantD (m : LM) : PyData := .list [if fin m = true then .none else .tuple [.int (tabNo m : Nat), .int (sizeAt m : Nat), .tuple [.int (m.cs.getD (m.qu.getD m.place (0, 0)).2.toNat (0, 0)).1, .int (m.cs.getD (m.qu.getD m.place (0, 0)).2.toNat (0, 0)).2]], .list ((if fin m = true then [] else cts m).map PyData.int)]
def spWants (K : PySem.W.Frag) (C CT : Addr) : Sp := fun vs H Q _ => ∃ (x : Addr) (tag : Tag) (m : LM), vs = [.ref x] ∧ LMAt tag C CT H x m ∧ LMW m ∧ ∀ (q : Addr) (H' : Hp), H q = none → Same H H' → Dp K H' (.ref q) (wantD m) → Q (.ref q) H'
theorem ok_wants {f C CT : Addr} {fd : FuncData} {k : Nat} (F : Fun K "_law_wants" "_law_wants" s_law_wants f fd) (T : Txt mg) (DL : LMK K C) (M_want : CalM P w K mg base 2 C "wanted" [] (spWant C CT)) (M_wantC : CalM P w K mg base 3 C "wanted_counts" [] (spWantC C CT)) : FnOk P w K mg base CX0 (k + 4) f fd ["_law_model"] (spWants K C CT) := by
  refine F.ok sc_law_wants (fun vs H Q E h => ?_) (fun cdv A outer s H vs Q E hr h => ?_)
  · obtain ⟨x, tag, m, rfl, _⟩ := h
    rfl
  · obtain ⟨x, tag, m, rfl, hM, W, q⟩ := h
    obtain ⟨dx, b1, b2, b3, b4, b5, b6, b7, _, _, _, hx, tx, _⟩ := _root_.id hM
    refine ⟨_, (pss_one (ps_ret (pe_lst (pa_cons (pe_mx0 M_want DL.cl hr (by omega) passN (pv 0)) (pa_cons (pe_mx0 M_wantC DL.cl hr (by omega) passN (pv 0)) pa_nil))))), ?_⟩
    walk_at "ev"
    refine ⟨x, dx, _, rfl, hx, ?_⟩
    walk_at "ev"
    refine ⟨x, tag, m, rfl, hM, W, fun hf => ?_, fun hf p c np hc tc => ?_⟩
    · walk_at "ev"
      refine ⟨x, dx, _, rfl, hx, ?_⟩
      walk_at "ev"
      refine ⟨x, tag, m, rfl, hM, W, fun _ p np => ?_, fun z => by rw [hf] at z; cases z⟩
      walk_at "ev"
      refine ⟨by show 2 ≤ sizeLine; decide, fun q' nq => q q' _ ((same_upd np).free nq) ((same_upd np).trans (same_upd nq)) ?_⟩
      unfold wantD
      rw [if_pos hf, if_pos hf]
      exact .lst (.inl (.inl upd_same)) (.cons .non (.cons (.lst (xs := []) (.inl (.inl (new_at upd_same nq))) .nil) .nil))
    · have sp : Same H (upd H p (.tup [.int (tabNo m : Nat), .int (sizeAt m : Nat), .ref c])) := same_upd np
      have ep : upd H p (.tup [.int (tabNo m : Nat), .int (sizeAt m : Nat), .ref c]) p = some (.tup [.int (tabNo m : Nat), .int (sizeAt m : Nat), .ref c]) := upd_same
      generalize upd H p (.tup [.int (tabNo m : Nat), .int (sizeAt m : Nat), .ref c]) = G1 at sp ep ⊢
      walk_at "ev"
      refine ⟨x, dx, _, rfl, sp _ _ hx, ?_⟩
      walk_at "ev"
      refine ⟨x, tag, m, rfl, hM.more sp, W, fun z => (by rw [hf] at z; cases z), fun _ p2 G2 np2 s2 e2 => ?_⟩
      walk_at "ev"
      refine ⟨by show 2 ≤ sizeLine; decide, fun q' nq => q q' _ ((sp.trans s2).free nq) ((sp.trans s2).trans (same_upd nq)) ?_⟩
      have sq := same_upd (o := .lst [.ref p, .ref p2]) nq
      unfold wantD
      rw [if_neg (by rw [hf]; decide), if_neg (by rw [hf]; decide)]
      exact .lst (.inl (.inl upd_same)) (.cons (.tup (.inl (.inl (sq _ _ (s2 _ _ ep)))) (.cons (.int _) (.cons (.int _) (.cons (.tup (.inl (.inl (sq _ _ (s2 _ _ (sp _ _ hc))))) (.cons (.int _) (.cons (.int _) .nil))) .nil)))) (.cons (dp_ints (.inl (.inl (sq _ _ e2)))) .nil))
/-! ### the law's own reading -/
def okF (bits : List Int) (m : LM) (d : Nd) (j : Nat) : Bool := decide (Fits (nxN m d j).L (nxN m d j).R (nxN m d j).s bits.length (valI bits))
def heldL (bits : List Int) (m : LM) (d : Nd) (n : Nat) : List Nat := (List.range n).filter (okF bits m d)
theorem okF_iff {bits : List Int} {m : LM} {d : Nd} {v : Wn} (hb : AreBits bits) (hw : WI bits v d.L d.R d.s) (j : Nat) : okF bits m d j = decide (okJ v (cts m) j) := by
  unfold okF
  exact decide_eq_decide.mpr (okJ_iff hb hw (cts m) j).symm
theorem held_find {bits : List Int} {m : LM} {d : Nd} {v : Wn} (hb : AreBits bits) (hw : WI bits v d.L d.R d.s) : findJ v (cts m) = (heldL bits m d (cts m).length).head? := by
  unfold findJ heldL
  rw [List.head?_filter]
  congr 1
  funext j
  exact (okF_iff hb hw j).symm
theorem held_snoc (bits : List Int) (m : LM) (d : Nd) (n : Nat) : heldL bits m d (n + 1) = if okF bits m d n = true then heldL bits m d n ++ [n] else heldL bits m d n := by
  unfold heldL
  rw [List.range_succ, List.filter_append]
  by_cases h : okF bits m d n = true
  · rw [if_pos h, List.filter_cons_of_pos h]
    rfl
  · rw [if_neg h, List.filter_cons_of_neg h]
    exact List.append_nil _
theorem held_len (bits : List Int) (m : LM) (d : Nd) (n : Nat) : (heldL bits m d n).length ≤ n := by
  have := List.length_filter_le (okF bits m d) (List.range n)
  rw [List.length_range] at this
  exact this
structure DueAt (K : PySem.W.Frag) (C CT : Addr) (H : Hp) (tag : Tag) (bits : List Int) (m : LM) (bp x F0 : Addr) (i : Nat) (nd : Addr) (tag' : Tag) (m' : LM) (v' : Wn) (d : Nd) (acc : List Nat) (G : Hp) : Prop where
  r : rem m' + i = rem m
  al : acc.length = i
  eT : toldF bits (rem m') m' v' acc = toldF bits (rem m) m (dblN bits 16 wn0) []
  wi : WI bits v' d.L d.R d.s
  ok : OkD d
  ds : d.s ≤ 16 + 6 * i
  w : LMW m'
  v : LMV m'
  g : Gone tag tag' H G
  lm : LMAt tag' C CT G x m'
  hn : G nd = some (.tup [.int d.L, .int d.R, .int (d.s : Int)])
  tn : tag' nd = 0
  f : G F0 = some (natsO acc)
  tf : tag' F0 = 0
  b : G bp = some (.lst (bits.map V.int))
section
variable {C CT : Addr} {H : Hp} {tag : Tag} {bits : List Int} {m : LM} {bp x F0 nd : Addr} {i : Nat} {tag' : Tag} {m' : LM} {v' : Wn} {d : Nd} {acc : List Nat} {G G' : Hp}
theorem DueAt.more (h : DueAt K C CT H tag bits m bp x F0 i nd tag' m' v' d acc G) (s : Same G G') : DueAt K C CT H tag bits m bp x F0 i nd tag' m' v' d acc G' :=
  ⟨h.r, h.al, h.eT, h.wi, h.ok, h.ds, h.w, h.v, h.g.more s, h.lm.more s, s _ _ h.hn, h.tn, s _ _ h.f, h.tf, s _ _ h.b⟩
end
theorem okd00 : OkD ⟨0, 65536, 16⟩ := ⟨by decide, by decide, by decide, by decide, by decide, by decide⟩
/-- the nodes of all letters -/
def Below (G : Hp) (tag' : Tag) (m' : LM) (d : Nd) (ns : List Addr) : Prop := ∀ (j : Nat) (a : Addr), ns[j]? = some a → G a = some (.tup [.int (nxN m' d j).L, .int (nxN m' d j).R, .int ((nxN m' d j).s : Int)]) ∧ tag' a = 0
theorem Below.up {G G' : Hp} {tag' : Tag} {m' : LM} {d : Nd} {ns : List Addr} (h : Below G tag' m' d ns) (s : Same G G') : Below G' tag' m' d ns := fun j a e => ⟨s _ _ (h j a e).1, (h j a e).2⟩
theorem get_of' {α : Type} {l : List α} {i : Nat} (h : i < l.length) : ∃ x, l[i]? = some x := ⟨_, List.getElem?_eq_getElem h⟩
theorem natsI (ks : List Nat) : ks.map natV = (ks.map fun n : Nat => (n : Int)).map V.int := by
  rw [List.map_map]
  rfl
theorem q_eqNil {K : PySem.W.Frag} {H : Hp} {p q : Addr} {ks : List Nat} {Q : VK} (hp : H p = some (natsO ks)) (hq : H q = some (.lst [])) (h : Q (.bl (decide (ks = []))) H) : rEqD K (.ref p) (.ref q) H Q := by
  have hp' : H p = some (.lst ((ks.map fun n : Nat => (n : Int)).map V.int)) := by
    rw [← natsI]
    exact hp
  refine ⟨_, _, dp_ints (.inl (.inl hp')), dp_ints (ns := []) (.inl (.inl hq)), sh_ints _, sh_ints [], ?_⟩
  rw [show PyData.eqv (.list ((ks.map fun n : Nat => (n : Int)).map PyData.int)) (.list (([] : List Int).map PyData.int)) = decide ((ks.map fun n : Nat => (n : Int)) = []) from by rw [PyData.eqv]; exact PySem.W.ked_eqvAll _ _]
  rw [show decide ((ks.map fun n : Nat => (n : Int)) = []) = decide (ks = []) from decide_eq_decide.mpr List.map_eq_nil_iff]
  exact h
def spDueL (C CT : Addr) : Sp := fun vs H Q _ => ∃ (bp x : Addr) (tag : Tag) (m : LM) (bits : List Int), vs = [.ref bp, .ref x] ∧ H bp = some (.lst (bits.map V.int)) ∧ AreBits bits ∧ bits.length ≤ 300 ∧ tag bp = 0 ∧ LMAt tag C CT H x m ∧ LMW m ∧ LMV m ∧ rem m ≤ 20 ∧
  ∀ (q : Addr) (H' : Hp) (tag' : Tag), Gone tag tag' H H' → LMAt tag' C CT H' x (toldF bits (rem m) m (dblN bits 16 wn0) []).2 → H q = none → tag' q = 0 → H' q = some (natsO (toldF bits (rem m) m (dblN bits 16 wn0) []).1) → Q (.ref q) H'
theorem valI_snoc' {bits : List Int} {i : Nat} {z : Int} (h : bits[i]? = some z) : 2 * valI (bits.take i) + z = valI (bits.take (i + 1)) := by
  rw [← take_snoc h, valI_snoc]
theorem ok_due {f C CT O : Addr} {fd : FuncData} {k : Nat} (F : Fun K "_law_due" "_law_due" s_law_due f fd) (T : Txt mg) (DL : LMK K C) (c_law_child : C8.Cal P w K mg base 2 "_law_child" (spChild K) []) (c_law_holds : C8.Cal P w K mg base 1 "_law_holds" (spHolds K) [])
    (M_want : CalM P w K mg base 2 C "wanted" [] (spWant C CT)) (M_wantC : CalM P w K mg base 3 C "wanted_counts" [] (spWantC C CT)) (M_takeM : CalM P w K mg base 3 C "take" ["letter"] (spTakeM C CT O)) : FnOk P w K mg base CX0 (k + 4) f fd ["_law_bits_here", "_law_model"] (spDueL C CT) := by
  refine F.ok sc_law_due (fun vs H Q E h => ?_) (fun cdv A outer s H vs Q E hr h => ?_)
  · obtain ⟨bp, x, tag, m, bits, rfl, _⟩ := h
    rfl
  · obtain ⟨bp, x, tag, m, bits, rfl, hbp, hb, hl3, tbp, hM, W, LV, few, q⟩ := h
    have hu := hr.units
    refine ⟨_, (pss_cons (ps_asg (pe_tup (pa_cons pe_int (pa_cons (pe_tup (pa_cons pe_int (pa_cons pe_int (pa_cons pe_int pa_nil)))) (pa_cons (pe_lst pa_nil) pa_nil)))) (pg_tup rfl (pgs_cons (pg_name (i := 2) sc_law_due.nd rfl (Or.inr rfl)) (pgs_cons (pg_name (i := 3) sc_law_due.nd rfl (Or.inr rfl)) (pgs_cons (pg_name (i := 4) sc_law_due.nd rfl (Or.inl rfl)) pgs_nil)))))
    (C8.pss_cut (ps_for PassesOwn.never rfl (pi_list (pv 0)) (pg_name (i := 5) sc_law_due.nd rfl (Or.inl rfl))
      (pss_one (ps_set (i := 2) sc_law_due.nd rfl (Or.inr rfl) (pe_op op_add (pe_op op_mul pe_int (pv 2)) (pv 5)))))
    (pss_cons (ps_for PassesOwn.never rfl (pi_range1 (by rfl) T.z_range (pa_cons pe_int pa_nil)) (pg_name (i := 6) sc_law_due.nd rfl (Or.inl rfl))
      (pss_cons (ps_if (pt_cmpR op_isN (pe_mx0 M_want DL.cl hr (by omega) passN (pv 1)) pe_non (nomark _)) (pss_one (ps_ret (pv 4))) pss_nil)
    (C8.pss_cut (ps_set (i := 7) sc_law_due.nd rfl (Or.inr rfl) (pe_mx0 M_wantC DL.cl hr (by omega) passN (pv 1)))
    (C8.pss_cut (ps_setLc (i := 9) (own := [("_law_letter", 8)]) (g := (gName 8)) (tt := tYes) rfl sc_law_due.nd rfl rfl (sw_true rfl rfl rfl (by decide +kernel)) (pi_range1 (by rfl) T.z_range (pa_cons (pe_callB call_len_seq (by rfl) T.z_len PySem.boot_len (pa_cons (pv 7) pa_nil)) pa_nil)) (blkOk_by (N := ["_law_bits_here", "_law_model", "_law_value", "_law_node", "_law_found", "_law_one_here", "_law_turn", "_law_counts", "_law_letter", "_law_below", "_law_held"]) (sc := defScope s_law_due) (by decide +kernel)) (fun _ _ _ _ _ => pg_name (i := 8) sc_law_due.nd rfl (by first | exact Or.inl rfl | exact Or.inr rfl)) (fun _ _ _ _ _ => pts_nil) (fun _ _ _ _ _ => (C8.pe_c c_law_child hr (by omega) (by rfl) (pa_cons (pv 3) (pa_cons (pv 7) (pa_cons (pv 8) pa_nil))))))
    (C8.pss_cut (ps_setLc (i := 10) (own := [("_law_letter", 8), ("_law_one_here", 5)]) (g := (gTup K 2 (gCons (gName 8) (gCons (gName 5) gNil)))) (tt := _) rfl sc_law_due.nd rfl rfl (sw_true rfl rfl rfl (by decide +kernel)) (pi_enum (by rfl) T.z_enumerate (pa_cons (pv 9) pa_nil)) (blkOk_by (N := ["_law_bits_here", "_law_model", "_law_value", "_law_node", "_law_found", "_law_one_here", "_law_turn", "_law_counts", "_law_letter", "_law_below", "_law_held"]) (sc := defScope s_law_due) (by decide +kernel)) (fun _ _ _ _ _ => pg_tup rfl (pgs_cons (pg_name (i := 8) sc_law_due.nd rfl (by first | exact Or.inl rfl | exact Or.inr rfl)) (pgs_cons (pg_name (i := 5) sc_law_due.nd rfl (by first | exact Or.inl rfl | exact Or.inr rfl)) pgs_nil))) (fun _ _ _ _ _ => (pts_one (pt_val (C8.pe_c c_law_holds hr (by omega) (by rfl) (pa_cons (pv 5) (pa_cons (pv 2) (pa_cons (pe_callB (call_len_seq : CallR _ (.builtin "len") (fun xs H Q => ∃ p ys, xs = [.ref p] ∧ (SqL K H p ys ∨ SqT K H p ys) ∧ Q (.int ys.length) H)) (by rfl) T.z_len PySem.boot_len (pa_cons (pv 0) pa_nil)) pa_nil))))))) (fun _ _ _ _ _ => (pv 8)))
    (C8.pss_cut (ps_if (pt_cmpR (op_eqD hu) (pv 10) (pe_lst pa_nil) (nomark _)) (pss_one (ps_ret (pv 4))) pss_nil)
    (pss_cons (ps_set (i := 3) sc_law_due.nd rfl (Or.inr rfl) (pe_ix ix_list (pv 9) (pe_ix ix_list (pv 10) pe_int (fun _ _ => rfl)) (fun _ _ => rfl)))
    (pss_cons (ps_expr (pe_mx M_takeM DL.cl hr (by omega) passN (pv 1) (pa_cons (pe_ix ix_list (pv 10) pe_int (fun _ _ => rfl)) pa_nil)))
    (pss_one (ps_expr (pe_bm PySem.F.plainAttrs_list PySem.F.slot_list_append PySem.F.type_list_append mt_append (pv 4) (pa_cons (pe_ix ix_list (pv 10) pe_int (fun _ _ => rfl)) pa_nil))))))))))))
    (pss_one (ps_ret (pv 4)))))), ?_⟩
    obtain ⟨zn, hzn, zlt⟩ := valI_lt bits.length bits rfl hb
    obtain ⟨dxm, _, _, _, _, _, _, _, _, _, _, hxm, txm, _⟩ := _root_.id hM
    have nbx : bp ≠ x := fun z => by
      rw [z, hxm] at hbp
      cases hbp
    walk_at "ev"
    refine ⟨by show 3 ≤ sizeLine; decide, fun nd n1 => ?_⟩
    have s1 := same_upd (o := .tup [.int 0, .int 65536, .int 16]) n1
    have e1 : upd H nd (.tup [.int 0, .int 65536, .int 16]) nd = some (.tup [.int 0, .int 65536, .int 16]) := upd_same
    generalize upd H nd (.tup [.int 0, .int 65536, .int 16]) = H1 at s1 e1 ⊢
    refine ⟨by show 0 ≤ sizeLine; decide, fun F0 n2 => ?_⟩
    have s2 := same_upd (o := .lst []) n2
    have e2 : upd H1 F0 (.lst []) F0 = some (.lst []) := upd_same
    generalize upd H1 F0 (.lst []) = H2 at s2 e2 ⊢
    refine ⟨by show 3 ≤ sizeLine; decide, fun T0 n3 => ?_⟩
    have s3 := same_upd (o := .tup [.int 0, .ref nd, .ref F0]) n3
    have e3 : upd H2 T0 (.tup [.int 0, .ref nd, .ref F0]) T0 = some (.tup [.int 0, .ref nd, .ref F0]) := upd_same
    generalize upd H2 T0 (.tup [.int 0, .ref nd, .ref F0]) = H3 at s3 e3 ⊢
    have sZ := (s1.trans s2).trans s3
    have nF : H F0 = none := s1.free n2
    have D0 : DueAt K C CT H tag bits m bp x F0 0 nd tag m (dblN bits 16 wn0) ⟨0, 65536, 16⟩ [] H3 := ⟨by omega, rfl, rfl, WI.start bits, okd00, by decide, W, LV, (Gone.refl tag H).more sZ, hM.more sZ, s3 _ _ (s2 _ _ e1), hM.sup nd n1, s3 _ _ e2, hM.sup F0 nF, sZ _ _ hbp⟩
    clear s1 s2 s3 e1 e2 n1 n2
    walk_at "ev"
    refine ⟨fun σ G => (∃ v5, σ = [some (.ref bp), some (.ref x), some (.int (valI bits)), some (.ref nd), some (.ref F0), v5, none, none, none, none, none]) ∧ G = H3, ?_, ?_⟩
    · have hb3 := D0.b
      walk_at "ev"
      refine ⟨⟨_, .inl (.inl hb3)⟩, ?_⟩
      refine for_it (walk_list (xs := bits.map V.int)) (fun i σ G => (∃ v5, σ = [some (.ref bp), some (.ref x), some (.int (valI (bits.take i))), some (.ref nd), some (.ref F0), v5, none, none, none, none, none]) ∧ G = H3) ⟨⟨_, rfl⟩, rfl⟩ (fun _ _ _ _ h => by rw [h.2]; exact .inl (.inl hb3)) ?_ ?_
      · rintro i y σ G G2 hi ⟨⟨v5, rfl⟩, rfl⟩ ⟨rfl, hy⟩
        rw [List.getElem?_map] at hy
        obtain ⟨z, hz, rfl⟩ := Option.map_eq_some_iff.mp hy
        walk_at "ev"
        refine ⟨⟨some (.int z), ?_⟩, rfl⟩
        show [some (V.ref bp), some (.ref x), some (.int (2 * valI (bits.take i) + z)), some (.ref nd), some (.ref F0), some (.int z), none, none, none, none, none] = _
        rw [valI_snoc' hz]
      · rintro σ G ⟨⟨v5, rfl⟩, rfl⟩
        rw [List.length_map, List.take_length]
        exact ⟨⟨_, rfl⟩, rfl⟩
    rintro σ G ⟨⟨v5, rfl⟩, rfl⟩
    clear e3 sZ
    walk_at "ev"
    refine ⟨by decide, by decide, for_it walk_range (fun i σ G => ∃ nd tag' m' v' d acc v5 v6 v7 v8 v9 v10, σ = [some (.ref bp), some (.ref x), some (.int (valI bits)), some (.ref nd), some (.ref F0), v5, v6, v7, v8, v9, v10] ∧ DueAt K C CT H tag bits m bp x F0 i nd tag' m' v' d acc G)
      ⟨nd, tag, m, dblN bits 16 wn0, ⟨0, 65536, 16⟩, [], _, _, _, _, _, _, rfl, D0⟩ (fun _ _ _ _ _ => trivial) ?_ ?_⟩
    · clear D0
      rintro i y σ G0 G hi ⟨nd, tag', m', v', d, acc, v5, v6, v7, v8, v9, v10, rfl, D⟩ ⟨rfl, ey⟩
      obtain ⟨dxG, b1, b2, b3, b4, b5, b6, b7, _, _, _, hxG, txG, _⟩ := _root_.id D.lm
      walk_at "ev"
      refine ⟨x, dxG, _, rfl, hxG, ?_⟩
      walk_at "ev"
      refine ⟨x, tag', m', rfl, D.lm, D.w, fun hf => ?_, fun hf p c np hc tc => ?_⟩
      · walk_at "ev"
        have r0 := (fin_of D.v D.w).mp hf
        have eT := D.eT
        rw [r0] at eT
        have eT : (acc, m') = toldF bits (rem m) m (dblN bits 16 wn0) [] := eT
        exact q F0 G tag' D.g (by rw [← eT]; exact D.lm) nF D.tf (by rw [← eT]; exact D.f)
      · have sp : Same G (upd G p (.tup [.int (tabNo m' : Nat), .int (sizeAt m' : Nat), .ref c])) := same_upd np
        have D1 := D.more sp
        generalize upd G p (.tup [.int (tabNo m' : Nat), .int (sizeAt m' : Nat), .ref c]) = G1 at sp D1 ⊢
        clear D np
        have gC := cts_good D1.w
        walk_at "ev"
        refine ⟨fun σ G => (∃ p2, σ = [some (.ref bp), some (.ref x), some (.int (valI bits)), some (.ref nd), some (.ref F0), v5, some y, some (.ref p2), v8, v9, v10] ∧ G p2 = some (.lst ((cts m').map V.int))) ∧ DueAt K C CT H tag bits m bp x F0 i nd tag' m' v' d acc G, ?_, ?_⟩
        · walk_at "ev"
          refine ⟨x, dxG, _, rfl, sp _ _ hxG, ?_⟩
          walk_at "ev"
          refine ⟨x, tag', m', rfl, D1.lm, D1.w, fun z => (by rw [hf] at z; cases z), fun _ p2 G2 np2 s2 e2 => ?_⟩
          exact ⟨⟨p2, rfl, e2⟩, D1.more s2⟩
        clear sp D1 hc tc hxG
        rintro σ G2 ⟨⟨p2, rfl, e2⟩, D2⟩
        have l3 := gC.1.l3
        have hcl : (List.map V.int (cts m')).length = (cts m').length := List.length_map _
        refine ⟨fun σ G => (∃ B ns v8, σ = [some (.ref bp), some (.ref x), some (.int (valI bits)), some (.ref nd), some (.ref F0), v5, some y, some (.ref p2), v8, some (.ref B), v10] ∧ G B = some (.lst (ns.map V.ref)) ∧ ns.length = (cts m').length ∧ Below G tag' m' d ns) ∧ DueAt K C CT H tag bits m bp x F0 i nd tag' m' v' d acc G, ?_, ?_⟩
        · have e2' : SqL K G2 p2 ((cts m').map V.int) := .inl (.inl e2)
          walk_at "ev"
          refine ⟨by rw [hcl]; omega, by rw [hcl]; omega, fun B nB => ?_⟩
          rw [show ((List.map V.int (cts m')).length : Int).toNat = (cts m').length by rw [hcl]; omega]
          refine lc_it walk_range (fun j G => Same G2 G ∧ ∃ ns : List Addr, G B = some (.lst (ns.map V.ref)) ∧ ns.length = j ∧ Below G tag' m' d ns) ⟨same_upd nB, [], upd_same, rfl, fun j a e => nomatch e⟩ (fun _ _ _ _ => trivial) ?_ ?_
          · rintro j z G G3 hj ⟨s3, ns, eB, nl, hB⟩ ⟨rfl, ez⟩
            have ez : z = V.int (j : Int) := by
              rw [ez]
              show V.int (0 + (j : Int)) = _
              rw [Int.zero_add]
            subst ez
            have D3 := D2.more s3
            walk_at "ev"
            refine ⟨nd, p2, d.L, d.R, d.s, cts m', j, rfl, .inl (.inl D3.hn), D3.ok.r0, D3.ok.r1, .inl (.inl (s3 _ _ e2)), gC.1, hj, fun a G4 na s4 e4 => ?_⟩
            have naB : a ≠ B := fun y => by rw [y, eB] at na; cases na
            refine ⟨_, s4 _ _ eB, small1000 (by rw [List.length_map]; omega), fun b o e => ?_, ns ++ [a], by rw [upd_same, List.map_append]; rfl, by rw [List.length_append, nl]; rfl, fun t a' ea => ?_⟩
            · rw [upd_ne (ne_of_none e nB)]
              exact s4 _ _ (s3 _ _ e)
            · by_cases ht : t < ns.length
              · rw [List.getElem?_append_left ht] at ea
                obtain ⟨g1, g2⟩ := hB t a' ea
                refine ⟨?_, g2⟩
                rw [upd_ne fun y => by rw [y, eB] at g1; cases g1]
                exact s4 _ _ g1
              · have h2 := (List.getElem?_eq_some_iff.mp ea).1
                rw [List.length_append] at h2
                have h3 : t = ns.length := by
                  simp only [List.length_cons, List.length_nil] at h2
                  omega
                subst h3
                rw [List.getElem?_append_right (Nat.le_refl _), Nat.sub_self] at ea
                cases ea
                refine ⟨?_, D3.lm.sup a na⟩
                rw [upd_ne naB, nl]
                exact e4
          · rintro G ⟨s3, ns, eB, nl, hB⟩
            exact ⟨⟨B, ns, _, rfl, eB, nl, hB⟩, D2.more s3⟩
        clear D2 e2
        rintro σ G3 ⟨⟨B, ns, v8, rfl, eB, nl, hB⟩, D3⟩
        refine ⟨fun σ G => (∃ E0 v5 v8, σ = [some (.ref bp), some (.ref x), some (.int (valI bits)), some (.ref nd), some (.ref F0), v5, some y, some (.ref p2), v8, some (.ref B), some (.ref E0)] ∧ G E0 = some (natsO (heldL bits m' d (cts m').length)) ∧ tag' E0 ≤ 1) ∧ Same G3 G, ?_, ?_⟩
        · have eB' : SqL K G3 B (ns.map V.ref) := .inl (.inl eB)
          walk_at "ev"
          refine ⟨B, _, rfl, eB', fun E0 nE => ?_⟩
          refine lc_it (walk_enum (xs := ns.map V.ref)) (fun j G => Same G3 G ∧ G E0 = some (natsO (heldL bits m' d j))) ⟨same_upd nE, upd_same⟩ (fun _ _ _ h => h.1.seq eB') ?_ ?_
          · rintro j z G G4 hj ⟨s4, e4⟩ ⟨T1, x1, y1, rfl, nT, rfl, ex1, ey1⟩
            obtain rfl : x1 = V.int (j : Int) := (Option.some.inj ex1).symm
            have ey1 : (ns.map V.ref)[j]? = some y1 := ey1
            rw [List.getElem?_map] at ey1
            obtain ⟨a, ha, rfl⟩ := Option.map_eq_some_iff.mp ey1
            rw [List.length_map, nl] at hj
            have sT := same_upd (o := .tup [.int (j : Int), .ref a]) nT
            have eT1 : upd G T1 (.tup [.int (j : Int), .ref a]) T1 = some (.tup [.int (j : Int), .ref a]) := upd_same
            generalize upd G T1 (.tup [.int (j : Int), .ref a]) = G5 at sT eT1 ⊢
            have s5 := s4.trans sT
            have e5 := sT _ _ e4
            have D5 := D3.more s5
            obtain ⟨ea, _⟩ := hB.up s5 j a ha
            have okn : OkD (nxN m' d j) := D5.ok.nx D5.w (by rw [← gC.2]; exact hj) (by have := D5.ds; have := hi; have : (21 : Int).toNat = 21 := rfl; omega)
            have hbl := D5.b
            have hll : (List.map V.int bits).length = bits.length := List.length_map _
            have hlen := held_len bits m' d j
            walk_at "ev"
            refine ⟨a, _, _, _, _, (List.map V.int bits).length, rfl, .inl (.inl ea), okn.l0, by have := okn.r0; omega, okn.l1, by have := okn.s1; omega, by rw [hzn]; omega, by rw [hzn, hll]; exact_mod_cast zlt, by rw [hll]; omega, ?_⟩
            rw [show decide (Fits (nxN m' d j).L (nxN m' d j).R (nxN m' d j).s (List.map V.int bits).length (valI bits)) = okF bits m' d j by rw [hll]; rfl]
            by_cases hk : okF bits m' d j = true
            · rw [hk]
              walk_at "ev"
              refine ⟨_, e5, small1000 (by rw [List.length_map]; omega), fun b o e => ?_, ?_⟩
              · rw [upd_ne (ne_of_none e nE)]
                exact s5 _ _ e
              · rw [upd_same, held_snoc, if_pos hk]
                show _ = some (HO.lst ((heldL bits m' d j ++ [j]).map natV))
                rw [List.map_append]
                rfl
            · rw [show okF bits m' d j = false by cases h : okF bits m' d j; rfl; exact absurd h hk]
              walk_at "ev"
              refine ⟨s5, ?_⟩
              rw [held_snoc, if_neg hk]
              exact e5
          · rintro G ⟨s4, e4⟩
            rw [List.length_map, nl] at e4
            exact ⟨⟨E0, _, _, rfl, e4, by rw [D3.lm.sup E0 nE]; decide⟩, s4⟩
        rintro σ G4 ⟨⟨E0, v5, v8, rfl, eE, tE0⟩, s4⟩
        have D4 := D3.more s4
        have hB4 := hB.up s4
        have eB4 := s4 _ _ eB
        have hfj := held_find (m := m') hb D4.wi
        clear D3 hB eB s4
        cases hh : heldL bits m' d (cts m').length with
        | nil =>
          rw [hh] at eE hfj
          refine ⟨fun _ _ => False, ?_, fun _ _ z => z.elim⟩
          walk_at "ev"
          refine ⟨by show 0 ≤ sizeLine; decide, fun l0 nl0 => ?_⟩
          have sl := same_upd (o := .lst []) nl0
          refine q_eqNil (ks := []) (sl _ _ eE) upd_same ?_
          have D5 := D4.more sl
          walk_at "ev"
          have n1 : 1 ≤ rem m' := by
            have := rem_zero hf D5.w
            omega
          obtain ⟨n, hn⟩ : ∃ n, rem m' = n + 1 := ⟨rem m' - 1, by omega⟩
          have eT := D5.eT
          rw [hn] at eT
          have eT' : toldF bits (n + 1) m' v' acc = (acc, m') := by
            unfold toldF
            rw [if_neg (by rw [hf]; decide), hfj]
            rfl
          rw [eT'] at eT
          exact q F0 _ tag' D5.g (by rw [← eT]; exact D5.lm) nF D5.tf (by rw [← eT]; exact D5.f)
        | cons jn rest =>
          rw [hh] at eE hfj
          have hfj : findJ v' (cts m') = some jn := hfj
          have jl := findJ_lt hfj
          refine ⟨fun σ G => σ = [some (.ref bp), some (.ref x), some (.int (valI bits)), some (.ref nd), some (.ref F0), v5, some y, some (.ref p2), v8, some (.ref B), some (.ref E0)] ∧ Same G4 G, ?_, ?_⟩
          · walk_at "ev"
            refine ⟨by show 0 ≤ sizeLine; decide, fun l0 nl0 => ?_⟩
            have sl := same_upd (o := .lst []) nl0
            refine q_eqNil (sl _ _ eE) upd_same ?_
            rw [show decide (jn :: rest = []) = false from rfl]
            walk_at "ev"
            exact sl
          rintro σ G5 ⟨rfl, s5⟩
          have D5 := D4.more s5
          obtain ⟨a, ha⟩ := get_of' (show jn < ns.length by rw [nl]; exact jl)
          obtain ⟨ea, ta⟩ := hB4.up s5 jn a ha
          have iB : SqL K G5 B (ns.map V.ref) := .inl (.inl (s5 _ _ eB4))
          have iE : SqL K G5 E0 ((jn :: rest).map natV) := .inl (.inl (s5 _ _ eE))
          have aE : atI ((jn :: rest).map natV) 0 = some (.int (jn : Int)) := atI_nat (j := 0) rfl
          have aB : atI (ns.map V.ref) (jn : Int) = some (.ref a) := atI_nat (by rw [List.getElem?_map, ha]; rfl)
          obtain ⟨dxG, b1, b2, b3, b4, b5, b6, b7, _, _, _, hxG, txG, _⟩ := _root_.id D5.lm
          have n1 : 1 ≤ rem m' := by
            have := rem_zero hf D5.w
            omega
          obtain ⟨n, hn⟩ : ∃ n, rem m' = n + 1 := ⟨rem m' - 1, by omega⟩
          have rn := rem_next D5.v D5.w hf jn
          have eT' : toldF bits (n + 1) m' v' acc = toldF bits n (next m' jn) (stepW bits v' (cts m') jn) (acc ++ [jn]) := by
            show (if fin m' = true then (acc, m') else match findJ v' (cts m') with | none => (acc, m') | some j => toldF bits n (next m' j) (stepW bits v' (cts m') j) (acc ++ [j])) = _
            rw [if_neg (by rw [hf]; decide), hfj]
          have js : jn < sizeAt m' := by rw [← gC.2]; exact jl
          walk_at "ev"
          refine ⟨_, _, _, _, rfl, rfl, iE, aE, ?_⟩
          refine ⟨_, _, _, _, rfl, rfl, iB, aB, ?_⟩
          walk_at "ev"
          refine ⟨x, dxG, _, rfl, hxG, ?_⟩
          walk_at "ev"
          refine ⟨_, _, _, _, rfl, rfl, iE, aE, ?_⟩
          walk_at "ev"
          refine ⟨x, tag', m', (jn : Int), rfl, D5.lm, D5.w, .inl ⟨hf, jn, rfl, js, fun G6 tag6 g6 hM6 => ?_⟩⟩
          have eF6 := g6.frm F0 _ (by rw [D5.tf]; decide) D5.f
          have tF6 := (g6.old F0 _ D5.f).trans D5.tf
          have ea6 := g6.frm a _ (by rw [ta]; decide) ea
          have ta6 := (g6.old a _ ea).trans ta
          have tb5 : tag' bp = 0 := (D5.g.old bp _ hbp).trans tbp
          have eb6 := g6.frm bp _ (by rw [tb5]; decide) D5.b
          have tE5 : tag' E0 ≤ 1 := tE0
          have iE6 : SqL K G6 E0 ((jn :: rest).map natV) := .inl (.inl (g6.frm E0 _ tE5 (s5 _ _ eE)))
          walk_at "ev"
          refine ⟨.inl ⟨rfl, _, .inl (.inl eF6)⟩, ?_⟩
          walk_at "ev"
          refine ⟨_, _, _, _, rfl, rfl, iE6, aE, ?_⟩
          walk_at "ev"
          have al := D5.al
          have hi' : i < 21 := hi
          refine ⟨F0, _, _, rfl, rfl, eF6, small1000 (by rw [List.length_map]; omega), ?_⟩
          have oF : OnlyX F0 G6 (upd G6 F0 (.lst (acc.map natV ++ [V.int (jn : Int)]))) := (OnlyX.refl F0 G6).upd ⟨_, eF6⟩
          have naF : a ≠ F0 := fun z => by rw [z, D5.f] at ea; cases ea
          have nbF : bp ≠ F0 := ne_of_none hbp nF
          refine ⟨a, tag6, next m' jn, stepW bits v' (cts m') jn, nxN m' d jn, acc ++ [jn], _, _, _, _, _, _, rfl, by have := D5.r; omega, by rw [List.length_append, al]; rfl, ?_, D5.wi.step (cts m') jn, D5.ok.nx D5.w js (by have := D5.ds; omega), ?_, D5.w.next hf js, D5.v.next D5.w jn, (D5.g.trans g6).only oF nF, hM6.only oF tF6, (upd_ne naF).trans ea6, ta6, ?_, tF6, (upd_ne nbF).trans eb6⟩
          · rw [← D5.eT, hn, eT', show rem (next m' jn) = n by omega]
          · show d.s + chT d.R (cts m') jn ≤ 16 + 6 * (i + 1)
            have := chT_le d.R (cts m') jn
            have := D5.ds
            omega
          · rw [upd_same]
            show _ = some (HO.lst ((acc ++ [jn]).map natV))
            rw [List.map_append]
            rfl
    · rintro σ G1 ⟨nd, tag', m', v', d, acc, v5, v6, v7, v8, v9, v10, rfl, D⟩
      exfalso
      have := D.r
      have : (21 : Int).toNat = 21 := rfl
      omega
/-! ### two models, or three, that share nothing -/
def Apart (t1 t2 : Tag) : Prop := ∀ b, t1 b = 0 ∨ t2 b = 0
theorem Apart.symm {t1 t2 : Tag} (h : Apart t1 t2) : Apart t2 t1 := fun b => (h b).symm
/-- the other model, and what is apart, behind a letter -/
theorem LMAt.other {C CT x : Addr} {t1 t1' t2 : Tag} {H H' : Hp} {m : LM} (h : LMAt t2 C CT H x m) (a : Apart t1 t2) (g : Gone t1 t1' H H') : LMAt t2 C CT H' x m :=
  h.same (fun b o n e => ⟨rfl, g.frm b o (by rcases a b with z | z; omega; exact absurd z n) e⟩) fun b e => h.sup b (g.dom b e)
theorem Apart.gone {C CT x : Addr} {t1 t1' t2 : Tag} {H H' : Hp} {m : LM} (h : LMAt t2 C CT H x m) (a : Apart t1 t2) (g : Gone t1 t1' H H') : Apart t1' t2 := fun b => by
  cases e : H b with
  | none => exact .inr (h.sup b e)
  | some o =>
    rw [g.old b o e]
    exact a b
/-- the model at x with m, taken up so far; what is not its own stays -/
structure Mo (C CT : Addr) (H0 : Hp) (a : Addr) (tag : Tag) (x : Addr) (m : LM) (G : Hp) : Prop where
  lm : LMAt tag C CT G x m
  w : LMW m
  v : LMV m
  s : Src G a
  ta : tag a = 0
section
variable {C CT : Addr} {H0 : Hp} {a : Addr} {tag tag' : Tag} {x : Addr} {m : LM} {G G' : Hp}
theorem Mo.more (h : Mo C CT H0 a tag x m G) (s : Same G G') : Mo C CT H0 a tag x m G' := ⟨h.lm.more s, h.w, h.v, src_same s h.s, h.ta⟩
theorem But.onlyA {a : Addr} {H G : Hp} (u : But a H G) (s : Src G a) : OnlyX a H G := ⟨fun b o n e => (u b n).trans e, fun b e => by
  by_cases z : b = a
  · obtain ⟨_, _, g, _⟩ := s
    rw [z, g] at e
    cases e
  · rw [← u b z]
    exact e⟩
theorem Mo.draw (h : Mo C CT H0 a tag x m G) (u : But a G G') (s : Src G' a) : Mo C CT H0 a tag x m G' := ⟨h.lm.only (But.onlyA u s) h.ta, h.w, h.v, s, h.ta⟩
end
/-! ### the node to which drawn letters lead -/
structure LedAt (K : PySem.W.Frag) (C CT : Addr) (H : Hp) (tag : Tag) (a x : Addr) (i : Nat) (nd : Addr) (tag' : Tag) (m' : LM) (d : Nd) (G : Hp) : Prop where
  lm : LMAt tag' C CT G x m'
  w : LMW m'
  v : LMV m'
  s : Src G a
  ta : tag' a = 0
  ok : OkD d
  ds : d.s ≤ 16 + 6 * i
  hn : G nd = some (.tup [.int d.L, .int d.R, .int (d.s : Int)])
  tn : tag' nd = 0
  nH : H nd = none
  off : ∀ b o, b ≠ a → tag b ≤ 1 → H b = some o → G b = some o
  dom : ∀ b, G b = none → H b = none
  old : ∀ b o, H b = some o → tag' b = tag b
section
variable {C CT : Addr} {H : Hp} {tag : Tag} {a x nd : Addr} {i : Nat} {tag' : Tag} {m' : LM} {d : Nd} {G G' : Hp}
theorem LedAt.more (h : LedAt K C CT H tag a x i nd tag' m' d G) (s : Same G G') : LedAt K C CT H tag a x i nd tag' m' d G' :=
  ⟨h.lm.more s, h.w, h.v, src_same s h.s, h.ta, h.ok, h.ds, s _ _ h.hn, h.tn, h.nH, fun b o n t e => s _ _ (h.off b o n t e), fun b e => h.dom b (s.free e), h.old⟩
theorem LedAt.draw (h : LedAt K C CT H tag a x i nd tag' m' d G) (u : But a G G') (s : Src G' a) : LedAt K C CT H tag a x i nd tag' m' d G' := by
  have o := But.onlyA u s
  have na : nd ≠ a := fun z => by
    obtain ⟨_, _, g, _⟩ := h.s
    rw [← z, h.hn] at g
    cases g
  exact ⟨h.lm.only o h.ta, h.w, h.v, s, h.ta, h.ok, h.ds, o.off _ _ na h.hn, h.tn, h.nH, fun b w n t e => o.off b w n (h.off b w n t e), fun b e => h.dom b (o.dom b e), h.old⟩
end
def spLed (C CT : Addr) : Sp := fun vs H Q _ => ∃ (a x : Addr) (tag : Tag) (m : LM), vs = [.ref a, .ref x] ∧ Src H a ∧ tag a = 0 ∧ LMAt tag C CT H x m ∧ LMW m ∧ LMV m ∧
  ∀ (q : Addr) (H' : Hp) (tag' : Tag) (m' : LM) (d : Nd), LMAt tag' C CT H' x m' → Src H' a → OkD d → d.s ≤ 100 → H' q = some (.tup [.int d.L, .int d.R, .int (d.s : Int)]) → H q = none → (∀ b o, b ≠ a → tag b ≤ 1 → H b = some o → H' b = some o) → (∀ b, H' b = none → H b = none) → (∀ b o, H b = some o → tag' b = tag b) → Q (.ref q) H'
theorem ok_led {f C CT O : Addr} {fd : FuncData} {k : Nat} (F : Fun K "_law_led" "_law_led" s_law_led f fd) (T : Txt mg) (DL : LMK K C) (c_law_take : C8.Cal P w K mg base 1 "_law_take" spTake []) (c_law_child : C8.Cal P w K mg base 2 "_law_child" (spChild K) [])
    (M_want : CalM P w K mg base 2 C "wanted" [] (spWant C CT)) (M_wantC : CalM P w K mg base 3 C "wanted_counts" [] (spWantC C CT)) (M_takeM : CalM P w K mg base 3 C "take" ["letter"] (spTakeM C CT O)) : FnOk P w K mg base CX0 (k + 4) f fd ["_law_source", "_law_model"] (spLed C CT) := by
  refine F.ok sc_law_led (fun vs H Q E h => ?_) (fun cdv A outer s H vs Q E hr h => ?_)
  · obtain ⟨a, x, tag, m, rfl, _⟩ := h
    rfl
  · obtain ⟨a, x, tag, m, rfl, ha, ta, hM, W, LV, q⟩ := h
    refine ⟨_, (pss_cons (ps_set (i := 2) sc_law_led.nd rfl (Or.inl rfl) (pe_tup (pa_cons pe_int (pa_cons pe_int (pa_cons pe_int pa_nil)))))
    (pss_cons (ps_for PassesOwn.never rfl (pi_range1 (by rfl) T.z_range (pa_cons (pe_op op_add pe_int (C8.pe_c c_law_take hr (by omega) (by rfl) (pa_cons (pv 0) (pa_cons pe_int pa_nil)))) pa_nil)) (pg_name (i := 3) sc_law_led.nd rfl (Or.inl rfl))
      (pss_one (ps_if (pt_cmpR op_notN (pe_mx0 M_want DL.cl hr (by omega) passN (pv 1)) pe_non (nomark _)) (pss_cons (ps_set (i := 4) sc_law_led.nd rfl (Or.inl rfl) (pe_mx0 M_wantC DL.cl hr (by omega) passN (pv 1)))
    (pss_cons (ps_set (i := 5) sc_law_led.nd rfl (Or.inl rfl) (C8.pe_c c_law_take hr (by omega) (by rfl) (pa_cons (pv 0) (pa_cons (pe_callB call_len_seq (by rfl) T.z_len PySem.boot_len (pa_cons (pv 4) pa_nil)) pa_nil))))
    (pss_cons (ps_set (i := 2) sc_law_led.nd rfl (Or.inl rfl) (C8.pe_c c_law_child hr (by omega) (by rfl) (pa_cons (pv 2) (pa_cons (pv 4) (pa_cons (pv 5) pa_nil)))))
    (pss_one (ps_expr (pe_mx M_takeM DL.cl hr (by omega) passN (pv 1) (pa_cons (pv 5) pa_nil))))))) pss_nil)))
    (pss_one (ps_ret (pv 2))))), ?_⟩
    walk_at "ev"
    refine ⟨by show 3 ≤ sizeLine; decide, fun nd n1 => ?_⟩
    have s1 := same_upd (o := .tup [.int 0, .int 65536, .int 16]) n1
    have D0 : LedAt K C CT H tag a x 0 nd tag m ⟨0, 65536, 16⟩ (upd H nd (.tup [.int 0, .int 65536, .int 16])) := ⟨hM.more s1, W, LV, src_same s1 ha, ta, okd00, by decide, upd_same, hM.sup nd n1, n1, fun b o _ _ e => s1 _ _ e, fun b e => s1.free e, fun _ _ _ => rfl⟩
    generalize upd H nd (.tup [.int 0, .int 65536, .int 16]) = H1 at D0 ⊢
    clear s1
    walk_at "ev"
    refine ⟨D0.s, by decide, by decide, fun r H2 r0 r1 s2 u2 => ?_⟩
    have D1 := D0.draw u2 s2
    clear D0
    walk_at "ev"
    refine ⟨by omega, by omega, for_it walk_range (fun i σ G => ∃ nd tag' m' d v3 v4 v5, σ = [some (.ref a), some (.ref x), some (.ref nd), v3, v4, v5] ∧ LedAt K C CT H tag a x i nd tag' m' d G) ⟨nd, tag, m, ⟨0, 65536, 16⟩, _, _, _, rfl, D1⟩ (fun _ _ _ _ _ => trivial) ?_ ?_⟩
    · clear D1
      rintro i y σ G0 G hi ⟨nd, tag', m', d, v3, v4, v5, rfl, D⟩ ⟨rfl, ey⟩
      have hi12 : i < 12 := by
        have := hi
        omega
      obtain ⟨dxG, b1, b2, b3, b4, b5, b6, b7, _, _, _, hxG, txG, _⟩ := _root_.id D.lm
      walk_at "ev"
      refine ⟨x, dxG, _, rfl, hxG, ?_⟩
      walk_at "ev"
      refine ⟨x, tag', m', rfl, D.lm, D.w, fun hf => ?_, fun hf p c np hc tc => ?_⟩
      · walk_at "ev"
        exact ⟨nd, tag', m', d, _, _, _, rfl, { D with ds := by have := D.ds; omega }⟩
      · have sp : Same G (upd G p (.tup [.int (tabNo m' : Nat), .int (sizeAt m' : Nat), .ref c])) := same_upd np
        have D1 := D.more sp
        generalize upd G p (.tup [.int (tabNo m' : Nat), .int (sizeAt m' : Nat), .ref c]) = G1 at sp D1 ⊢
        have hx1 := sp _ _ hxG
        clear D np sp hxG hc
        have gC := cts_good D1.w
        walk_at "ev"
        refine ⟨x, dxG, _, rfl, hx1, ?_⟩
        walk_at "ev"
        refine ⟨x, tag', m', rfl, D1.lm, D1.w, fun z => (by rw [hf] at z; cases z), fun _ p2 G2 np2 s2 e2 => ?_⟩
        have D2 := D1.more s2
        have hx2 := s2 _ _ hx1
        have tp2 : tag' p2 = 0 := D1.lm.sup p2 np2
        have np2a : p2 ≠ a := (D1.s.ne np2).symm
        have e2' : SqL K G2 p2 ((cts m').map V.int) := .inl (.inl e2)
        have hcl : (List.map V.int (cts m')).length = (cts m').length := List.length_map _
        have l2 := gC.1.l2
        have l3 := gC.1.l3
        clear D1 s2 hx1
        walk_at "ev"
        refine ⟨D2.s, by rw [hcl]; omega, by rw [hcl]; omega, fun jr G3 j0 j1 s3 u3 => ?_⟩
        obtain ⟨jn, rfl⟩ := Int.eq_ofNat_of_zero_le j0
        have jl : jn < (cts m').length := by rw [hcl] at j1; omega
        have js : jn < sizeAt m' := by rw [← gC.2]; exact jl
        have D3 := D2.draw u3 s3
        have o3 := But.onlyA u3 s3
        have nxa : x ≠ a := fun z => by
          obtain ⟨_, _, g, _⟩ := D2.s
          rw [← z, hx2] at g
          cases g
        have hx3 := o3.off _ _ nxa hx2
        have e3' : SqL K G3 p2 ((cts m').map V.int) := .inl (.inl (o3.off _ _ np2a e2))
        walk_at "ev"
        refine ⟨nd, p2, d.L, d.R, d.s, cts m', jn, rfl, .inl (.inl D3.hn), D3.ok.r0, D3.ok.r1, e3', gC.1, jl, fun nd2 G4 nq s4 e4 => ?_⟩
        have D4 := D3.more s4
        have t2 : tag' nd2 = 0 := D3.lm.sup nd2 nq
        have nH2 : H nd2 = none := D3.dom nd2 nq
        have okn : OkD (nxN m' d jn) := D3.ok.nx D3.w js (by have := D3.ds; omega)
        walk_at "ev"
        refine ⟨x, dxG, _, rfl, s4 _ _ hx3, ?_⟩
        walk_at "ev"
        refine ⟨x, tag', m', (jn : Int), rfl, D4.lm, D4.w, .inl ⟨hf, jn, rfl, js, fun G6 tag6 g6 hM6 => ?_⟩⟩
        obtain ⟨us, vs', gs, rs⟩ := D4.s
        refine ⟨nd2, tag6, next m' jn, nxN m' d jn, _, _, _, rfl, hM6, D4.w.next hf js, D4.v.next D4.w jn, ⟨us, vs', g6.frm a _ (by rw [D4.ta]; decide) gs, rs⟩, (g6.old a _ gs).trans D4.ta, okn, ?_, g6.frm nd2 _ (by rw [t2]; decide) e4, (g6.old nd2 _ e4).trans t2, nH2, fun b o n t e => ?_, fun b e => D4.dom b (g6.dom b e), fun b o e => ?_⟩
        · show d.s + chT d.R (cts m') jn ≤ 16 + 6 * (i + 1)
          have := chT_le d.R (cts m') jn
          have := D4.ds
          omega
        · exact g6.frm b o (by rw [D4.old b o e]; exact t) (D4.off b o n t e)
        · have : ∃ o', G4 b = some o' := by
            cases z : G4 b with
            | none =>
              have := D4.dom b z
              rw [e] at this
              cases this
            | some o' => exact ⟨o', rfl⟩
          obtain ⟨o', eo⟩ := this
          exact (g6.old b o' eo).trans (D4.old b o e)
    · rintro σ G ⟨nd, tag', m', d, v3, v4, v5, rfl, D⟩
      walk_at "ev"
      exact q nd G tag' m' d D.lm D.s D.ok (by have := D.ds; omega) D.hn D.nH D.off D.dom D.old
/-! ### bits that are told, or not -/
def spDrawn (C CT : Addr) : Sp := fun vs H Q _ => ∃ (a x : Addr) (tag : Tag) (m : LM), vs = [.ref a, .ref x] ∧ Src H a ∧ tag a = 0 ∧ LMAt tag C CT H x m ∧ LMW m ∧ LMV m ∧
  ∀ (q : Addr) (H' : Hp) (bits : List Int), Src H' a → H q = none → H' q = some (.lst (bits.map V.int)) → AreBits bits → bits.length ≤ 300 → (∀ b o, b ≠ a → tag b = 0 → H b = some o → H' b = some o) → (∀ b, H' b = none → H b = none) → Q (.ref q) H'
theorem up_dom {a b : Addr} {H H' : Hp} (u : Up a H H') (s : Src H' a) (e : H' b = none) : H b = none := u.new s e
theorem bits_take {bits : List Int} (h : AreBits bits) (n : Nat) : AreBits (bits.take n) := fun z m => h z (List.mem_of_mem_take m)
theorem bits_app {xs ys : List Int} (h : AreBits xs) (g : AreBits ys) : AreBits (xs ++ ys) := fun z m => (List.mem_append.mp m).elim (h z) (g z)
theorem ok_drawn {f C CT : Addr} {fd : FuncData} {k : Nat} (F : Fun K "_law_drawn" "_law_drawn" s_law_drawn f fd) (T : Txt mg) (c_law_take : C8.Cal P w K mg base 1 "_law_take" spTake []) (c_law_bits : C8.Cal P w K mg base 2 "_law_bits" spBits []) (c_law_led : C8.Cal P w K mg base 4 "_law_led" (spLed C CT) []) : FnOk P w K mg base CX0 (k + 5) f fd ["_law_source", "_law_model"] (spDrawn C CT) := by
  refine F.ok sc_law_drawn (fun vs H Q E h => ?_) (fun cdv A outer s H vs Q E hr h => ?_)
  · obtain ⟨a, x, tag, m, rfl, _⟩ := h
    rfl
  · obtain ⟨a, x, tag, m, rfl, ha, ta, hM, W, LV, q⟩ := h
    refine ⟨_, (pss_cons (ps_set (i := 2) sc_law_drawn.nd rfl (Or.inl rfl) (C8.pe_c c_law_take hr (by omega) (by rfl) (pa_cons (pv 0) (pa_cons pe_int pa_nil))))
    (C8.pss_cut (ps_if (pt_cmpR op_eq (pv 2) pe_int (nomark _)) (pss_one (ps_ret (C8.pe_c c_law_bits hr (by omega) (by rfl) (pa_cons (pv 0) (pa_cons pe_int pa_nil))))) pss_nil)
    (pss_cons (ps_asg (C8.pe_c c_law_led hr (by omega) (by rfl) (pa_cons (pv 0) (pa_cons (pv 1) pa_nil))) (pg_tup rfl (pgs_cons (pg_name (i := 3) sc_law_drawn.nd rfl (Or.inl rfl)) (pgs_cons (pg_name (i := 4) sc_law_drawn.nd rfl (Or.inl rfl)) (pgs_cons (pg_name (i := 5) sc_law_drawn.nd rfl (Or.inr rfl)) pgs_nil)))))
    (C8.pss_cut (ps_set (i := 6) sc_law_drawn.nd rfl (Or.inr rfl) (pe_op op_add (pv 3) (pe_ix ix_list (pe_lst (pa_cons pe_int (pa_cons (pe_op op_sub (pv 4) pe_int) (pa_cons (C8.pe_c c_law_take hr (by omega) (by rfl) (pa_cons (pv 0) (pa_cons (pv 4) pa_nil))) (pa_cons (pe_op op_fdivW (pv 4) pe_int) pa_nil))))) (pe_op op_sub (pv 2) pe_int) (fun _ _ => rfl))))
    (C8.pss_cut (ps_setLc (i := 8) (own := [("_law_at", 7)]) (g := (gName 7)) (tt := tYes) rfl sc_law_drawn.nd rfl rfl (sw_true rfl rfl rfl (by decide +kernel)) (pi_range1 (by rfl) T.z_range (pa_cons (pv 5) pa_nil)) (blkOk_by (N := ["_law_source", "_law_model", "_law_way", "_law_left", "_law_width", "_law_scale", "_law_value", "_law_at", "_law_bits_here", "_law_last"]) (sc := defScope s_law_drawn) (by decide +kernel)) (fun _ _ _ _ _ => pg_name (i := 7) sc_law_drawn.nd rfl (by first | exact Or.inl rfl | exact Or.inr rfl)) (fun _ _ _ _ _ => pts_nil) (fun _ _ _ _ _ => (pe_op op_and (pe_op op_shr (pv 6) (pe_op op_sub (pe_op op_sub (pv 5) pe_int) (pv 7))) pe_int)))
    (pss_cons (ps_set (i := 9) sc_law_drawn.nd rfl (Or.inl rfl) (C8.pe_c c_law_take hr (by omega) (by rfl) (pa_cons (pv 0) (pa_cons pe_int pa_nil))))
    (pss_cons (ps_if (pt_cmpR op_eq (pv 9) pe_int (nomark _)) (pss_one (ps_ret (pe_slice sl_list (pv 8) po_none (po_some (C8.pe_c c_law_take hr (by omega) (by rfl) (pa_cons (pv 0) (pa_cons (pe_op op_add (pv 5) pe_int) pa_nil))))))) pss_nil)
    (pss_one (ps_ret (pe_ifExp (pt_cmpR op_eq (pv 9) pe_int (nomark _)) (pe_op op_cat (pv 8) (C8.pe_c c_law_bits hr (by omega) (by rfl) (pa_cons (pv 0) (pa_cons pe_int pa_nil)))) (pv 8))))))))))), ?_⟩
    walk_at "ev"
    refine ⟨ha, by decide, by decide, fun wy H1 w0 w1 s1 u1 => ?_⟩
    have o1 := But.onlyA u1 s1
    have hM1 := hM.only o1 ta
    walk_at "ev"
    refine ⟨fun σ G => σ = [some (.ref a), some (.ref x), some (.int wy), none, none, none, none, none, none, none] ∧ G = H1 ∧ wy ≠ 0, ?_, ?_⟩
    · walk_at "ev"
      · refine ⟨s1, by decide, by decide, fun q' H2 bits nq s2 u2 e2 hb hl => ?_⟩
        exact q q' H2 bits s2 (o1.dom _ nq) e2 hb (by omega) (fun b o n _ e => u2 b o n (o1.off b o n e)) (fun b e => o1.dom _ (up_dom u2 s2 e))
      · rename_i hc
        exact hc
    rintro σ G ⟨rfl, rfl, hw⟩
    walk_at "ev"
    refine ⟨a, x, tag, m, rfl, s1, ta, hM1, W, LV, fun nd H2 tag2 m2 d hM2 s2 okd ds hn nH off dom old => ?_⟩
    have hnS : SqT K H2 nd [.int d.L, .int d.R, .int (d.s : Int)] := .inl (.inl hn)
    walk_at "ev"
    have r0 := okd.r0
    have r1 := okd.r1
    have l0 := okd.l0
    have s0 := okd.s0
    have off2 : ∀ b o, b ≠ a → tag b = 0 → H b = some o → H2 b = some o := fun b o n t e => off b o n (by omega) (o1.off b o n e)
    have dom2 : ∀ b, H2 b = none → H b = none := fun b e => o1.dom b (dom b e)
    clear off dom old hM2
    refine ⟨fun σ G => (∃ n : Nat, σ = [some (.ref a), some (.ref x), some (.int wy), some (.int d.L), some (.int d.R), some (.int (d.s : Int)), some (.int (n : Int)), none, none, none]) ∧ Src G a ∧ (∀ b o, b ≠ a → tag b = 0 → H b = some o → G b = some o) ∧ ∀ b, G b = none → H b = none, ?_, ?_⟩
    · walk_at "ev"
      refine ⟨s2, by omega, by omega, fun r H3 h0 h1 s3 u3 => ?_⟩
      have o3 := But.onlyA u3 s3
      walk_at "ev"
      refine ⟨by show 4 ≤ sizeLine; decide, fun l nl => ?_⟩
      have sl := same_upd (o := .lst [.int 0, .int (d.R - 1), .int r, .int (d.R / 2)]) nl
      have el : upd H3 l (.lst [.int 0, .int (d.R - 1), .int r, .int (d.R / 2)]) l = some (.lst [.int 0, .int (d.R - 1), .int r, .int (d.R / 2)]) := upd_same
      have s4 := src_same sl s3
      have off4 : ∀ b o, b ≠ a → tag b = 0 → H b = some o → upd H3 l (.lst [.int 0, .int (d.R - 1), .int r, .int (d.R / 2)]) b = some o := fun b o n t e => sl _ _ (o3.off b o n (off2 b o n t e))
      have dom4 : ∀ b, upd H3 l (.lst [.int 0, .int (d.R - 1), .int r, .int (d.R / 2)]) b = none → H b = none := fun b e => dom2 b (o3.dom b (sl.free e))
      generalize upd H3 l (.lst [.int 0, .int (d.R - 1), .int r, .int (d.R / 2)]) = H4 at el s4 off4 dom4 ⊢
      obtain ⟨v, hv, hm⟩ := at_mem (xs := [V.int 0, .int (d.R - 1), .int r, .int (d.R / 2)]) (r := wy - 1) (by omega) (by show wy - 1 < 4; omega)
      obtain ⟨z, rfl, z0⟩ : ∃ z, v = V.int z ∧ 0 ≤ z := by
        simp only [List.mem_cons, List.not_mem_nil, or_false] at hm
        rcases hm with e | e | e | e
        · exact ⟨_, e, by decide⟩
        · exact ⟨_, e, by omega⟩
        · exact ⟨_, e, h0⟩
        · exact ⟨_, e, by omega⟩
      have elS : SqL K H4 l [V.int 0, .int (d.R - 1), .int r, .int (d.R / 2)] := .inl (.inl el)
      walk_at "ev"
      refine ⟨_, _, _, _, rfl, rfl, elS, hv, ?_⟩
      walk_at "ev"
      refine ⟨⟨(d.L + z).toNat, ?_⟩, s4, off4, dom4⟩
      show [some (V.ref a), some (.ref x), some (.int wy), some (.int d.L), some (.int d.R), some (.int (d.s : Int)), some (.int (d.L + z)), none, none, none] = _
      rw [Int.toNat_of_nonneg (by omega)]
    clear off2 dom2 s2 hnS hn
    rintro σ G ⟨⟨n, rfl⟩, s2, off2, dom2⟩
    refine ⟨fun σ G => (∃ (bp : Addr) (bits : List Int) (v7 : Option V), σ = [some (.ref a), some (.ref x), some (.int wy), some (.int d.L), some (.int d.R), some (.int (d.s : Int)), some (.int (n : Int)), v7, some (.ref bp), none] ∧ G bp = some (.lst (bits.map V.int)) ∧ AreBits bits ∧ bits.length = d.s ∧ bp ≠ a ∧ H bp = none) ∧ Src G a ∧ (∀ b o, b ≠ a → tag b = 0 → H b = some o → G b = some o) ∧ ∀ b, G b = none → H b = none, ?_, ?_⟩
    · walk_at "ev"
      refine ⟨by omega, by omega, fun D nD => ?_⟩
      rw [show ((d.s : Int)).toNat = d.s from rfl]
      refine lc_it walk_range (fun i G2 => Same G G2 ∧ ∃ bits : List Int, G2 D = some (.lst (bits.map V.int)) ∧ AreBits bits ∧ bits.length = i) ⟨same_upd nD, [], upd_same, fun _ m => absurd m List.not_mem_nil, rfl⟩ (fun _ _ _ _ => trivial) ?_ ?_
      · rintro i y G2 G3 hi ⟨s3, bits, e3, hb, hl⟩ ⟨rfl, ey⟩
        have ey : y = V.int (i : Int) := by
          rw [ey]
          show V.int (0 + (i : Int)) = _
          rw [Int.zero_add]
        subst ey
        walk_at "ev"
        refine ⟨_, e3, small1000 (by rw [List.length_map]; omega), fun b o e => ?_, bits ++ [Builtin.bitAnd ((n : Int) / 2 ^ ((d.s : Int) - 1 - (i : Int)).toNat) 1], by rw [upd_same, List.map_append]; rfl, fun z m => ?_, by rw [List.length_append, hl]; rfl⟩
        · rw [upd_ne (ne_of_none e nD)]
          exact s3 _ _ e
        · rcases List.mem_append.mp m with m | m
          · exact hb z m
          · rw [List.mem_singleton.mp m, bit_at n d.s i hi]
            omega
      · rintro G2 ⟨s3, bits, e3, hb, hl⟩
        exact ⟨⟨D, bits, _, rfl, e3, hb, hl, (s2.ne nD).symm, dom2 D nD⟩, src_same s3 s2, fun b o n t e => s3 _ _ (off2 b o n t e), fun b e => dom2 b (s3.free e)⟩
    clear s2 off2 dom2
    rintro σ G ⟨⟨bp, bits, v7, rfl, ebp, hb, hl, nba, nbH⟩, s2, off2, dom2⟩
    walk_at "ev"
    refine ⟨s2, by decide, by decide, fun la H3 h0 h1 s3 u3 => ?_⟩
    have o3 := But.onlyA u3 s3
    have e3 := o3.off _ _ nba ebp
    have off3 : ∀ b o, b ≠ a → tag b = 0 → H b = some o → H3 b = some o := fun b o n t e => o3.off b o n (off2 b o n t e)
    have dom3 : ∀ b, H3 b = none → H b = none := fun b e => dom2 b (o3.dom b e)
    walk_at "ev"
    · refine ⟨s3, by omega, by have := okd.s1; omega, fun r H4 h0 h1 s4 u4 => ?_⟩
      have o4 := But.onlyA u4 s4
      have e4 := o4.off _ _ nba e3
      obtain ⟨rn, rfl⟩ := Int.eq_ofNat_of_zero_le h0
      refine ⟨_, rfl, bp, _, rfl, .inl (.inl e4), fun l nl => ?_⟩
      rw [cut_take (k := rn) rfl (by rw [List.length_map, hl]; have : (rn : Int) < (d.s : Int) + 1 := h1; omega), ← List.map_take]
      have sl := same_upd (o := .lst ((bits.take rn).map V.int)) nl
      refine q l _ (bits.take rn) (src_same sl s4) (dom3 _ (o4.dom _ nl)) upd_same (bits_take hb _) (by rw [List.length_take]; omega) (fun b o n t e => sl _ _ (o4.off b o n (off3 b o n t e))) (fun b e => dom3 b (o4.dom b (sl.free e)))
    · refine ⟨s3, by decide, by decide, fun q' H4 bits' nq s4 u4 e4 hb' hl' => ?_⟩
      have e3' := u4 _ _ nba e3
      refine ⟨bp, q', _, _, rfl, rfl, e3', e4, ?_, fun l nl => ?_⟩
      · show (bits.map V.int).length + (bits'.map V.int).length ≤ sizeLine
        have h6 : (bits.map V.int).length + (bits'.map V.int).length ≤ 1000 := by rw [List.length_map, List.length_map]; omega
        exact Nat.le_of_lt (small1000 h6)
      rw [← List.map_append]
      have sl := same_upd (o := .lst ((bits ++ bits').map V.int)) nl
      exact q l _ (bits ++ bits') (src_same sl s4) (dom3 _ (up_dom u4 s4 nl)) upd_same (bits_app hb hb') (by rw [List.length_append]; omega) (fun b o n t e => sl _ _ (u4 b o n (off3 b o n t e))) (fun b e => dom3 b (up_dom u4 s4 (sl.free e)))
    · exact q bp H3 bits s3 nbH e3 hb (by omega) off3 dom3
/-! ### reading that may be refused -/
inductive BadV (H : Hp) : V → Prop
  | int (z : Int) (h : z < 0 ∨ 1 < z) : BadV H (.int z)
  | non : BadV H .non
  | str (s : Str) : BadV H (.str s)
  | lst {a : Addr} {xs : List V} (h : H a = some (.lst xs)) : BadV H (.ref a)
structure BadAt (H : Hp) (p : Addr) : Prop where
  ex : ∃ (vs : List V) (j : Nat) (v : V), H p = some (.lst vs) ∧ vs[j]? = some v ∧ BadV H v ∧ ∀ i, i < j → ∃ z : Int, vs[i]? = some (.int z) ∧ 0 ≤ z ∧ z ≤ 1
theorem kit_ni {K : PySem.W.Frag} : PySem.W.kitOne K (.type "NoneType") (.type "int") = some false := kit_ty (by decide +kernel)
theorem kit_si {K : PySem.W.Frag} : PySem.W.kitOne K (.type "str") (.type "int") = some false := kit_ty (by decide +kernel)
theorem kit_li {K : PySem.W.Frag} : PySem.W.kitOne K (.type "list") (.type "int") = some false := kit_ty (by decide +kernel)
/-- is_number of anything -/
inductive NumV (H : Hp) : V → Bool → Prop
  | int (z : Int) : NumV H (.int z) true
  | non : NumV H .non false
  | str (s : Str) : NumV H (.str s) false
  | lst {a : Addr} {xs : List V} (h : H a = some (.lst xs)) : NumV H (.ref a) false
def spIsNumV : Sp := fun vs H Q _ => ∃ (v : V) (b : Bool), vs = [v] ∧ NumV H v b ∧ Q (.bl b) H
theorem ok_is_numberV {f : Addr} {fd : FuncData} {k : Nat} (F : Fun K "is_number" "is_number" s_is_number f fd) (T : Txt mg) : FnOk P w K mg base CX0 (k + 1) f fd ["thing"] spIsNumV := by
  refine F.ok sc_is_number (fun vs H Q E h => ?_) (fun cdv A outer s H vs Q E hr h => ?_)
  · obtain ⟨v, b, rfl, _⟩ := h
    rfl
  · obtain ⟨v, b, rfl, hv, q⟩ := h
    refine ⟨_, (pss_one (ps_ret (pe_and (pe_callB call_isi (by rfl) T.z_isinstance PyProof.Rows.boot_isinstance (pa_cons (pv 0) (pa_cons (pe_bltn (v := .ty "int") (by rfl) T.z_int PyProof.Rows.boot_int rfl) pa_nil))) (pe_one (pe_not (pe_callB call_isi (by rfl) T.z_isinstance PyProof.Rows.boot_isinstance (pa_cons (pv 0) (pa_cons (pe_bltn (v := .ty "bool") (by rfl) T.z_bool PyProof.Rows.boot_bool rfl) pa_nil)))))))), ?_⟩
    cases hv with
    | int z =>
      walk_at "ev"
      exact q
    | non =>
      walk_at "ev"
      refine ⟨_, _, _, _, _, rfl, .ty _, .base .non, kit_ni, ?_⟩
      walk_at "ev"
      exact q
    | str z =>
      walk_at "ev"
      refine ⟨_, _, _, _, _, rfl, .ty _, .base (.str _), kit_si, ?_⟩
      walk_at "ev"
      exact q
    | lst e =>
      walk_at "ev"
      refine ⟨_, _, _, _, _, rfl, .ty _, .base (.lst e), kit_li, ?_⟩
      walk_at "ev"
      exact q
def spCheckBX (B : Addr) : Sp := fun vs H Q E => ∃ (p : Addr), vs = [.ref p] ∧ ((∃ xs : List Int, H p = some (.lst (xs.map V.int)) ∧ AreBits xs ∧ Q .non H) ∨ (BadAt H p ∧ E (.ref B) none H))
theorem ok_check_bitsX {f B : Addr} {fd : FuncData} {k : Nat} (F : Fun K "check_bits" "check_bits" s_check_bits f fd) (e_BadBits : ECls K mg "BadBits" B) (c_is_number : C8.Cal P w K mg base 1 "is_number" spIsNumV []) : FnOk P w K mg base (L2.CX P w) (k + 2) f fd ["bits"] (spCheckBX B) := by
  refine F.okX sc_check_bits (fun vs H Q E h => ?_) (fun cdv A outer s H vs Q E hr h => ?_)
  · obtain ⟨p, rfl, _⟩ := h
    rfl
  · obtain ⟨p, rfl, h⟩ := h
    refine ⟨_, (pss_one (ps_for (passes_of rfl) rfl (pi_list (pv 0)) (pg_name (i := 1) sc_check_bits.nd rfl (Or.inl rfl))
      (pss_one (ps_if (PW.pt (pw_or (pt_not (pt_val (C8.pe_c c_is_number hr (by omega) (by rfl) (pa_cons (pv 1) pa_nil)))) (pw_or1 (pt_not (pt_chain op_le op_le pe_int (pv 1) pe_int))))) (pss_one (ps_raise rfl (takes_of rfl rfl rfl rfl) (pmk_none PySem.F.excBase_ValueError e_BadBits.xC e_BadBits.gC e_BadBits.kC (raises_own e_BadBits.bC e_BadBits.tC) (by rfl)))) pss_nil)))), ?_⟩
    rcases h with ⟨xs, hp, hb, q⟩ | ⟨⟨ys, j, v, hp, hj, hv, hlt⟩, q⟩
    · walk_at "ev"
      refine ⟨⟨_, .inl (.inl hp)⟩, for_list (K := K) (a := p) (xs := xs.map V.int) (fun _ σ H1 => ∃ v, σ = [some (.ref p), v] ∧ H1 = H) ⟨_, rfl, rfl⟩ (fun _ _ _ _ ⟨_, _, e⟩ => by rw [e]; exact .inl (.inl hp)) ?_ ?_⟩
      · rintro i x σ H1 hx ⟨v, rfl, rfl⟩
        rw [List.getElem?_map] at hx
        obtain ⟨z, hz, rfl⟩ := Option.map_eq_some_iff.mp hx
        have hz2 := hb z (List.mem_of_getElem? hz)
        walk_at "ev"
        refine ⟨_, _, rfl, .int z, ?_⟩
        walk_at "ev"
        rfl
      · rintro σ H1 ⟨v, rfl, rfl⟩
        exact q
    · walk_at "ev"
      refine ⟨⟨_, .inl (.inl hp)⟩, for_list (K := K) (a := p) (xs := ys) (fun i σ H1 => i ≤ j ∧ ∃ v, σ = [some (.ref p), v] ∧ H1 = H) ⟨Nat.zero_le _, _, rfl, rfl⟩ (fun _ _ _ _ ⟨_, _, _, e⟩ => by rw [e]; exact .inl (.inl hp)) ?_ ?_⟩
      · rintro i x σ H1 hx ⟨hi, v1, rfl, rfl⟩
        by_cases e : i = j
        · subst e
          obtain rfl : x = v := Option.some.inj (hx.symm.trans hj)
          cases hv with
          | int z h =>
            walk_at "ev"
            refine ⟨_, _, rfl, .int z, ?_⟩
            walk_at "ev"
            all_goals exact q
          | non =>
            walk_at "ev"
            refine ⟨_, _, rfl, .non, ?_⟩
            walk_at "ev"
            all_goals exact q
          | str s =>
            walk_at "ev"
            refine ⟨_, _, rfl, .str _, ?_⟩
            walk_at "ev"
            all_goals exact q
          | lst h =>
            walk_at "ev"
            refine ⟨_, _, rfl, .lst h, ?_⟩
            walk_at "ev"
            all_goals exact q
        · obtain ⟨z, hz, z0, z1⟩ := hlt i (by omega)
          obtain rfl : x = V.int z := Option.some.inj (hx.symm.trans hz)
          walk_at "ev"
          refine ⟨_, _, rfl, .int z, ?_⟩
          walk_at "ev"
          exact ⟨by omega, _, rfl, rfl⟩
      · rintro σ H1 ⟨hi, v1, rfl, rfl⟩
        have := (List.getElem?_eq_some_iff.mp hj).1
        exfalso
        omega
/-! ### bits that are no bits -/
def spToldX (B : Addr) : Sp := fun vs H Q E => ∃ (p x : Addr), vs = [.ref p, .ref x] ∧ BadAt H p ∧ E (.ref B) none H
theorem ok_toldX {f B fc : Addr} {fd fdc : FuncData} {k : Nat} (F : Fun K "told_letters" "told_letters" s_told_letters f fd)
    (G_check_bits : FnOk P w K mg base (L2.CX P w) 2 fc fdc ["bits"] (spCheckBX B)) (g_check_bits : mg "check_bits" = some (.ref fc)) (k_check_bits : PySem.W.keepIn K (.ref fc) = true) (b_check_bits : Binds K fdc ["bits"] []) : FnOk P w K mg base (L2.CX P w) (k + 3) f fd ["bits", "model"] (spToldX B) := by
  refine F.okX sc_told_letters (fun vs H Q E h => ?_) (fun cdv A outer s H vs Q E hr h => ?_)
  · obtain ⟨p, x, rfl, _⟩ := h
    rfl
  · obtain ⟨p, x, rfl, hb, q⟩ := h
    refine ⟨_, (pss_cons (ps_expr (pe_call G_check_bits (hr.mono (by omega)) (by rfl) g_check_bits k_check_bits b_check_bits .nil (passes_call (takes_of rfl rfl rfl rfl) (fun _ _ _ _ h => h)) (pa_cons (pv 0) pa_nil)))
    (pss_cons (ps_never)
    (pss_cons (ps_never)
    (pss_cons (ps_never)
    (pss_one (ps_never)))))), ?_⟩
    walk_at "ev"
    exact .inr ⟨hb, q⟩
/-! ### what a model wants, as it is shown -/
structure ShownBy (m : Nat) (d : PyData) : Prop where
  sh : d.showable = true
  len : d.shown.length ≤ m
theorem shown_int {i : Int} (h : -(10 : Int) ^ 33 < i ∧ i < 10 ^ 33) : ShownBy 34 (.int i) := by
  have hn : i.natAbs < 10 ^ 33 := by omega
  refine ⟨?_, ?_⟩
  · show decide (i.natAbs.log2 < 1920) = true
    refine decide_eq_true ?_
    by_cases z : i.natAbs = 0
    · rw [z]; decide
    · exact (Nat.log2_lt z).mpr (Nat.lt_trans hn (by decide))
  · show (Str.ofString (toString i)).length ≤ 34
    rw [PySem.ofString_length]
    exact int_text_length_le10 (by decide) hn
theorem shown_non : ShownBy 34 .none := ⟨rfl, by show (Str.ofString "None").length ≤ 34; rw [PySem.ofString_length]; decide⟩
theorem shown_sum {m : Nat} : ∀ ds : List PyData, (∀ d ∈ ds, ShownBy m d) → PyData.showableAll ds = true ∧ ((PyData.shownAll ds).map (·.length)).sum ≤ ds.length * m ∧ (PyData.shownAll ds).length = ds.length := by
  intro ds
  induction ds with
  | nil => exact fun _ => ⟨rfl, by simp [PyData.shownAll], rfl⟩
  | cons d ds ih =>
    intro h
    obtain ⟨a, b, c⟩ := ih fun x mx => h x (List.mem_cons_of_mem _ mx)
    have hd := h d List.mem_cons_self
    refine ⟨by rw [PyData.showableAll, hd.sh, a]; rfl, ?_, by rw [PyData.shownAll, List.length_cons, c]; rfl⟩
    rw [PyData.shownAll, List.map_cons, List.sum_cons, List.length_cons, Nat.succ_mul]
    have := hd.len
    omega
theorem shown_lst {m : Nat} {ds : List PyData} (h : ∀ d ∈ ds, ShownBy m d) : ShownBy (ds.length * (m + 2) + 3) (.list ds) := by
  obtain ⟨a, b, c⟩ := shown_sum ds h
  refine ⟨by rw [PyData.showable]; exact a, ?_⟩
  rw [PyData.shown]
  refine Nat.le_trans (listText_len_le _) ?_
  rw [c, Nat.mul_add]
  omega
theorem shown_tup {m : Nat} {ds : List PyData} (h : ∀ d ∈ ds, ShownBy m d) : ShownBy (ds.length * (m + 2) + 3) (.tuple ds) := by
  obtain ⟨a, b, c⟩ := shown_sum ds h
  refine ⟨by rw [PyData.showable]; exact a, ?_⟩
  rw [PyData.shown]
  refine Nat.le_trans (tupleText_len_le _) ?_
  rw [c, Nat.mul_add]
  omega
theorem ShownBy.mono {m n : Nat} {d : PyData} (h : ShownBy m d) (l : m ≤ n) : ShownBy n d := ⟨h.sh, Nat.le_trans h.len l⟩
structure ShowOk (d : PyData) : Prop where
  a : d.showable = true
  b : d.hasDict = false
  c : d.depth ≤ 20
  e : d.shown.length ≤ sizeLine
theorem show_ok {d : PyData} {m n : Nat} (hs : ShD n d) (hn : n ≤ 20) (hm : ShownBy m d) (hz : m ≤ 100000) : ShowOk d :=
  ⟨hm.sh, PyData.hasDict_of_canLay d hs.lay, Nat.le_trans hs.dep hn, Nat.le_trans hm.len (Nat.le_trans hz (by decide))⟩
/-- cells near the middle -/
def Near (m : LM) : Prop := ∀ k : Nat, -5000000000 ≤ (m.cs.getD k (0, 0)).1 ∧ (m.cs.getD k (0, 0)).1 ≤ 5000000000 ∧ -5000000000 ≤ (m.cs.getD k (0, 0)).2 ∧ (m.cs.getD k (0, 0)).2 ≤ 5000000000
theorem Near.next {m : LM} (h : Near m) (j : Nat) : Near (next m j) := by
  unfold Near
  rw [next_cs]
  exact h
theorem mem_le_sum : ∀ {cs : List Int}, (∀ c ∈ cs, 1 ≤ c) → ∀ c ∈ cs, c ≤ cs.sum
  | [], _, _, m => nomatch m
  | x :: xs, h, c, m => by
    have hp : ∀ ys : List Int, (∀ y ∈ ys, 1 ≤ y) → 0 ≤ ys.sum := fun ys => by
      induction ys with
      | nil => exact fun _ => Int.le_refl _
      | cons y ys ih =>
        intro g
        rw [List.sum_cons]
        have := ih fun z mz => g z (List.mem_cons_of_mem _ mz)
        have := g y List.mem_cons_self
        omega
    have h2 : ∀ y ∈ xs, 1 ≤ y := fun y my => h y (List.mem_cons_of_mem _ my)
    rw [List.sum_cons]
    rcases List.mem_cons.mp m with rfl | m
    · have := hp xs h2
      omega
    · have := mem_le_sum h2 c m
      have := h x List.mem_cons_self
      omega
theorem wd_mem {m : LM} (W : LMW m) (hN : Near m) : ∀ d ∈ (if fin m = true then [] else cts m).map PyData.int, ShownBy 34 d := fun d md => by
  obtain ⟨c, mc, rfl⟩ := List.mem_map.mp md
  have g := (cts_good W).1
  split at mc
  · exact nomatch mc
  · have h1 := g.pos c mc
    have h2 := mem_le_sum g.pos c mc
    have h3 := g.sum
    exact shown_int (by omega)
theorem shd_want {m : LM} : ShD 3 (wantD m) := by
  refine shd_lst (n := 2) fun d md => ?_
  simp only [List.mem_cons, List.not_mem_nil, or_false] at md
  rcases md with rfl | rfl
  · split
    · exact shd_non
    · refine shd_tup (n := 1) fun d md => ?_
      simp only [List.mem_cons, List.not_mem_nil, or_false] at md
      rcases md with rfl | rfl | rfl
      · exact shd_int _
      · exact shd_int _
      · refine shd_tup (n := 0) fun d md => ?_
        simp only [List.mem_cons, List.not_mem_nil, or_false] at md
        rcases md with rfl | rfl
        · exact shd_int _
        · exact shd_int _
  · exact (shd_lst (n := 0) fun d md => by
      obtain ⟨c, _, rfl⟩ := List.mem_map.mp md
      exact shd_int _).mono (by decide)
theorem show_want {m : LM} (W : LMW m) (hN : Near m) : ShowOk (wantD m) := by
  refine show_ok shd_want (by decide) (m := 475) ?_ (by decide)
  refine shown_lst (m := 234) (ds := [_, _]) fun d md => ?_
  simp only [List.mem_cons, List.not_mem_nil, or_false] at md
  rcases md with rfl | rfl
  · split
    · exact shown_non.mono (by decide)
    · refine (shown_tup (m := 75) (ds := [_, _, _]) fun d md => ?_).mono (Nat.le_refl 234)
      simp only [List.mem_cons, List.not_mem_nil, or_false] at md
      have ht := tabNo_lt W
      rcases md with rfl | rfl | rfl
      · exact (shown_int (by omega)).mono (by decide)
      · have : sizeAt m ≤ 3 := by unfold sizeAt; split <;> decide
        exact (shown_int (by omega)).mono (by decide)
      · refine shown_tup (m := 34) (ds := [_, _]) fun d md => ?_
        have hc := hN (m.qu.getD m.place (0, 0)).2.toNat
        simp only [List.mem_cons, List.not_mem_nil, or_false] at md
        rcases md with rfl | rfl
        · exact shown_int (by omega)
        · exact shown_int (by omega)
  · refine (shown_lst (m := 34) (wd_mem W hN)).mono ?_
    have g := (cts_good W).1.l3
    rw [List.length_map]
    split
    · exact by decide
    · omega
theorem BadV.same {H H' : Hp} {v : V} (h : BadV H v) (s : Same H H') : BadV H' v := by
  cases h with
  | int z h => exact .int z h
  | non => exact .non
  | str z => exact .str z
  | lst e => exact .lst (s _ _ e)
theorem BadAt.same {H H' : Hp} {p : Addr} (h : BadAt H p) (s : Same H H') : BadAt H' p := by
  obtain ⟨⟨vs, j, v, e, ej, hv, hl⟩⟩ := h
  exact ⟨vs, j, v, s _ _ e, ej, hv.same s, hl⟩
def spRefX (C CT : Addr) : Sp := fun vs H Q _ => ∃ (p x : Addr) (tag : Tag) (m : LM), vs = [.ref p, .ref x] ∧ BadAt H p ∧ LMAt tag C CT H x m ∧ LMW m ∧ Near m ∧ ∀ H', Same H H' → Q (.bl true) H'
theorem ok_refX {f C CT N B fX : Addr} {fd fdX : FuncData} {k : Nat} (F : Fun K "_law_is_refused" "_law_is_refused" s_law_is_refused f fd) (T : Txt mg) (e : ECls K mg "BadBits" B) (gN : mg "NarrowError" = some (.ref N)) (oN : PySem.W.kitOne K (.ref B) (.ref N) = some true)
    (GX : FnOk P w K mg base (L2.CX P w) 3 fX fdX ["bits", "model"] (spToldX B)) (gX : mg "told_letters" = some (.ref fX)) (kX : PySem.W.keepIn K (.ref fX) = true) (bX : Binds K fdX ["bits", "model"] []) (c_law_wants : C8.Cal P w K mg base 4 "_law_wants" (spWants K C CT) []) : GdX.FnG P w K mg base CX0 (k + 5) f fd ["_law_bits_here", "_law_model"] (spRefX C CT) := by
  refine GdX.funG F sc_law_is_refused (fun vs H Q E h => ?_) (fun cdv A outer s H vs Q E hgd hr h => ?_)
  · obtain ⟨p, x, tag, m, rfl, _⟩ := h
    rfl
  · obtain ⟨p, x, tag, m, rfl, hb, hM, W, hN, q⟩ := h
    have hu := hr.units
    have sh := show_want W hN
    refine ⟨_, (pss_cons (ps_par (i := 2) (j := 3) rfl sc_law_is_refused.nd rfl rfl (by decide) rfl rfl (pa_cons (pe_callB (GdX.cr_show hgd hu) (by rfl) T.z_repr PyProof.Rows.boot_repr (pa_cons (C8.pe_c c_law_wants hr (by omega) (by rfl) (pa_cons (pv 1) pa_nil)) pa_nil)) (pa_cons pe_bl pa_nil)) rfl)
    (pss_cons (ps_try_as (i := 4) rfl rfl sc_law_is_refused.nd rfl rfl ⟨rfl, by decide, .inl e.gC⟩ takes0 (fun W pn xe tk _ => pss_one (ps_expr (pe_callS GX (hr.mono (by omega)) (by rfl) gX kX bX (fun σ => passAt tk σ) (pa_cons (pv 0) (pa_cons (pv 1) pa_nil))))) (fun a oe cls d pn hz hf => pss_one (ps_set (i := 3) sc_law_is_refused.nd rfl (Or.inl rfl) (pe_callB (call_isE1 e.ex hz hf) (by rfl) T.z_isinstance PyProof.Rows.boot_isinstance (pa_cons (pv 4) (pa_cons (pe_glob (v := .ref N) (by rfl) gN rfl) pa_nil))))))
    (pss_one (ps_ret (pe_and (pv 3) (pe_one (pe_cmpR op_eq (pe_callB (GdX.cr_show hgd hu) (by rfl) T.z_repr PyProof.Rows.boot_repr (pa_cons (C8.pe_c c_law_wants hr (by omega) (by rfl) (pa_cons (pv 1) pa_nil)) pa_nil)) (pv 2) (nomark _)))))))), ?_⟩
    walk_at "ev"
    refine ⟨x, tag, m, rfl, hM, W, fun q0 H1 n0 s1 d1 => ?_⟩
    walk_at "ev"
    refine ⟨q0, _, rfl, d1, sh.a, sh.b, sh.c, sh.e, ?_⟩
    walk_at "ev"
    refine ⟨hb.same s1, ?_⟩
    refine ⟨true, e.em, fun _ a0 _ => ?_, fun z => nomatch z⟩
    walk_at "ev"
    refine ⟨_, .ref N, true, rfl, fun _ z => z, oN, ?_⟩
    walk_at "ev"
    refine ⟨x, tag, m, rfl, hM.more s1, W, fun q2 H2 n2 s2 d2 => ?_⟩
    walk_at "ev"
    refine ⟨q2, _, rfl, d2, sh.a, sh.b, sh.c, sh.e, ?_⟩
    walk_at "ev"
    show Q (.bl (decide (V.str (wantD m).shown = V.str (wantD m).shown))) H2
    rw [decide_eq_true rfl]
    exact q H2 (s1.trans s2)
/-! ### three models of one line -/
def put {α : Type} (f : Nat → α) (i : Nat) (v : α) : Nat → α := fun k => if k = i then v else f k
theorem put_at {α : Type} {f : Nat → α} {i : Nat} {v : α} : put f i v i = v := if_pos rfl
theorem put_ne {α : Type} {f : Nat → α} {i k : Nat} {v : α} (h : k ≠ i) : put f i v k = f k := if_neg h
theorem put_lt {α : Type} (a b : α) (i : Nat) : put (fun k => if k < i then a else b) i a = fun k => if k < i + 1 then a else b := by
  funext k
  unfold put
  by_cases e : k = i
  · subst e
    rw [if_pos rfl]
    exact (if_pos (Nat.lt_succ_self _)).symm
  · rw [if_neg e]
    show (if k < i then a else b) = if k < i + 1 then a else b
    by_cases h : k < i
    · rw [if_pos h, if_pos (by omega)]
    · rw [if_neg h, if_neg (by omega)]
structure Tri (n : Nat) (C CT : Addr) (H0 : Hp) (a D : Addr) (tg : Nat → Tag) (x : Nat → Addr) (mm : Nat → LM) (G : Hp) : Prop where
  lm : ∀ i, i < n → LMAt (tg i) C CT G (x i) (mm i)
  ap : ∀ i j, i < n → j < n → i ≠ j → Apart (tg i) (tg j)
  s : Src G a
  ta : ∀ i, i < n → tg i a = 0
  eD : G D = some (.lst [.ref (x 0), .ref (x 1), .ref (x 2)])
  tD : ∀ i, i < n → tg i D = 0
  Da : D ≠ a
  dom : ∀ b, G b = none → H0 b = none
  keep : ∀ b o, b ≠ a → H0 b = some o → G b = some o
  t0 : ∀ i, i < n → ∀ b o, b ≠ a → H0 b = some o → tg i b = 0
section
variable {n : Nat} {C CT : Addr} {H0 : Hp} {a D : Addr} {tg : Nat → Tag} {x : Nat → Addr} {mm : Nat → LM} {G G' : Hp}
theorem Tri.gone (h : Tri n C CT H0 a D tg x mm G) {i : Nat} (hi : i < n) {t' : Tag} {m' : LM} (g : Gone (tg i) t' G G') (l : LMAt t' C CT G' (x i) m') : Tri n C CT H0 a D (put tg i t') x (put mm i m') G' := by
  obtain ⟨u, v, gs, r⟩ := h.s
  have kp : ∀ b o, tg i b = 0 → G b = some o → G' b = some o ∧ t' b = 0 := fun b o e z => ⟨g.frm b o (by rw [e]; decide) z, (g.old b o z).trans e⟩
  have tk : ∀ k, k < n → ∀ b o, (∀ j, j < n → tg j b = 0) → G b = some o → put tg i t' k b = 0 := fun k hk b o e z => by
    by_cases q : k = i
    · subst q
      rw [put_at]
      exact (kp b o (e _ hi) z).2
    · rw [put_ne q]
      exact e k hk
  refine ⟨fun k hk => ?_, fun k j hk hj nn => ?_, ⟨u, v, (kp a _ (h.ta i hi) gs).1, r⟩, fun k hk => tk k hk a _ h.ta gs, (kp D _ (h.tD i hi) h.eD).1, fun k hk => tk k hk D _ h.tD h.eD, h.Da, fun b e => h.dom b (g.dom b e), fun b o n e => (kp b o (h.t0 i hi b o n e) (h.keep b o n e)).1, fun k hk b o n e => tk k hk b o (fun j hj => h.t0 j hj b o n e) (h.keep b o n e)⟩
  · by_cases q : k = i
    · subst q
      rw [put_at, put_at]
      exact l
    · rw [put_ne q, put_ne q]
      exact (h.lm k hk).other (h.ap i k hi hk (Ne.symm q)) g
  · by_cases q : k = i
    · subst q
      rw [put_at, put_ne nn.symm]
      exact Apart.gone (h.lm j hj) (h.ap k j hk hj nn) g
    · by_cases q2 : j = i
      · subst q2
        rw [put_at, put_ne q]
        exact (Apart.gone (h.lm k hk) (h.ap j k hj hk nn.symm) g).symm
      · rw [put_ne q, put_ne q2]
        exact h.ap k j hk hj nn
theorem Tri.more (h : Tri n C CT H0 a D tg x mm G) (s : Same G G') : Tri n C CT H0 a D tg x mm G' :=
  ⟨fun i hi => (h.lm i hi).more s, h.ap, src_same s h.s, h.ta, s _ _ h.eD, h.tD, h.Da, fun b e => h.dom b (s.free e), fun b o n e => s _ _ (h.keep b o n e), h.t0⟩
theorem Tri.draw (h : Tri n C CT H0 a D tg x mm G) (u : But a G G') (s : Src G' a) : Tri n C CT H0 a D tg x mm G' := by
  have o := But.onlyA u s
  exact ⟨fun i hi => (h.lm i hi).only o (h.ta i hi), h.ap, s, h.ta, o.off _ _ h.Da h.eD, h.tD, h.Da, fun b e => h.dom b (o.dom b e), fun b w n e => o.off b w n (h.keep b w n e), h.t0⟩
theorem Tri.only (h : Tri n C CT H0 a D tg x mm G) {y : Addr} (o : OnlyX y G G') (ty : ∀ j, j < n → tg j y = 0) (ya : y ≠ a) (Dy : D ≠ y) (yH : H0 y = none) : Tri n C CT H0 a D tg x mm G' := by
  obtain ⟨u, v, gs, r⟩ := h.s
  exact ⟨fun i hi => (h.lm i hi).only o (ty i hi), h.ap, ⟨u, v, o.off _ _ ya.symm gs, r⟩, h.ta, o.off _ _ Dy h.eD, h.tD, h.Da, fun b e => h.dom b (o.dom b e), fun b w n e => o.off b w (ne_of_none e yH) (h.keep b w n e), h.t0⟩
theorem Tri.congr (h : Tri n C CT H0 a D tg x mm G) {mm' : Nat → LM} (e : ∀ i, i < n → mm i = mm' i) : Tri n C CT H0 a D tg x mm' G :=
  ⟨fun i hi => by rw [← e i hi]; exact h.lm i hi, h.ap, h.s, h.ta, h.eD, h.tD, h.Da, h.dom, h.keep, h.t0⟩
theorem Tri.free (h : Tri n C CT H0 a D tg x mm G) {b : Addr} (e : G b = none) {i : Nat} (hi : i < n) : tg i b = 0 := (h.lm i hi).sup b e
theorem Tri.stay (h : Tri n C CT H0 a D tg x mm G) {i : Nat} (hi : i < n) {t' : Tag} (g : Gone (tg i) t' G G') {b : Addr} {o : HO} (e : G b = some o) (z : ∀ j, j < n → tg j b = 0) : G' b = some o ∧ ∀ j, j < n → put tg i t' j b = 0 :=
  ⟨g.frm b o (by rw [z i hi]; decide) e, fun j hj => by
    by_cases q : j = i
    · subst q
      rw [put_at]
      exact (g.old b o e).trans (z _ hi)
    · rw [put_ne q]
      exact z j hj⟩
theorem Tri.drawn {C CT : Addr} {H0 : Hp} {a D : Addr} {tg : Nat → Tag} {x : Nat → Addr} {mm : Nat → LM} {G G' : Hp} (h : Tri 3 C CT H0 a D tg x mm G) (s : Src G' a) (off : ∀ b o, b ≠ a → tg 2 b = 0 → G b = some o → G' b = some o) (dom : ∀ b, G' b = none → G b = none) : Tri 2 C CT H0 a D tg x mm G' := by
  refine ⟨fun i hi => (h.lm i (by omega)).same (fun b o n e => ⟨rfl, off b o (fun z => n (by rw [z]; exact h.ta i (by omega))) ?_ e⟩) (fun b e => (h.lm i (by omega)).sup b (dom b e)), fun i j hi hj => h.ap i j (by omega) (by omega), s, fun i hi => h.ta i (by omega), off D _ h.Da (h.tD 2 (by decide)) h.eD, fun i hi => h.tD i (by omega), h.Da, fun b e => h.dom b (dom b e), fun b o n e => off b o n (h.t0 2 (by decide) b o n e) (h.keep b o n e), fun i hi => h.t0 i (by omega)⟩
  rcases h.ap i 2 (by omega) (by decide) (by omega) b with z | z
  · exact absurd z n
  · exact z
end
/-- a new model -/
structure NewM (C CT : Addr) (G G' : Hp) (x : Addr) (tag : Tag) (m : LM) : Prop where
  same : Same G G'
  old : ∀ b o, G b = some o → tag b = 0
  lm : LMAt tag C CT G' x m
theorem newM {C CT x dx : Addr} {G G' : Hp} {tag : Tag} {m : LM} (nx : G x = none) (ndx : G dx = none) (ne : dx ≠ x) (o1 : ∀ b o, b ≠ x → upd (upd G dx (.own x)) x (.ins C dx []) b = some o → G' b = some o ∧ tag b = 0) (l : LMAt tag C CT G' x m) : NewM C CT G G' x tag m := by
  have sx : Same G (upd (upd G dx (.own x)) x (.ins C dx [])) := (same_upd ndx).trans (same_upd (by rw [upd_ne ne.symm]; exact nx))
  exact ⟨fun b o e => (o1 b o (ne_of_none e nx) (sx _ _ e)).1, fun b o e => (o1 b o (ne_of_none e nx) (sx _ _ e)).2, l⟩
theorem NewM.apart {C CT : Addr} {G0 G1 G2 : Hp} {x y : Addr} {t1 t2 : Tag} {m m2 : LM} (h : LMAt t1 C CT G1 x m) (n : NewM C CT G1 G2 y t2 m2) : Apart t1 t2 := fun b => by
  cases e : G1 b with
  | none => exact .inl (h.sup b e)
  | some o => exact .inr (n.old b o e)
def pick {α : Type} (a b c : α) (i : Nat) : α := if i = 0 then a else if i = 1 then b else c
theorem tri_new {C CT : Addr} {H G0 G1 G2 G3 G4 : Hp} {a D x0 x1 x2 : Addr} {t0 t1 t2 : Tag} {m : LM} (ha : Src G0 a) (dom : ∀ b, G0 b = none → H b = none) (keep : ∀ b o, b ≠ a → H b = some o → G0 b = some o)
    (n0 : NewM C CT G0 G1 x0 t0 m) (n1 : NewM C CT G1 G2 x1 t1 m) (n2 : NewM C CT G2 G3 x2 t2 m) (nD : G3 D = none) (s : Same G3 G4) (eD : G4 D = some (.lst [.ref x0, .ref x1, .ref x2])) : Tri 3 C CT H a D (pick t0 t1 t2) (pick x0 x1 x2) (fun _ => m) G4 := by
  have s01 := n0.same
  have s02 := s01.trans n1.same
  have s03 := s02.trans n2.same
  have nDa : D ≠ a := fun z => by
    obtain ⟨_, _, g, _⟩ := ha
    rw [z, s03 _ _ g] at nD
    cases nD
  have z0 : ∀ i, i < 3 → ∀ b o, G0 b = some o → pick t0 t1 t2 i b = 0 := fun i hi b o e => by
    match i, hi with
    | 0, _ => exact n0.old b o e
    | 1, _ => exact n1.old b o (s01 _ _ e)
    | 2, _ => exact n2.old b o (s02 _ _ e)
  have a01 : Apart t0 t1 := NewM.apart (G0 := G0) n0.lm n1
  have a02 : Apart t0 t2 := NewM.apart (G0 := G0) (n0.lm.more n1.same) n2
  have a12 : Apart t1 t2 := NewM.apart (G0 := G0) n1.lm n2
  refine ⟨fun i hi => ?_, fun i j hi hj n => ?_, src_same (s03.trans s) ha, fun i hi => ?_, eD, fun i hi => ?_, nDa, fun b e => dom b (s03.free (s.free e)), fun b o n e => s _ _ (s03 _ _ (keep b o n e)), fun i hi b o n e => z0 i hi b o (keep b o n e)⟩
  · match i, hi with
    | 0, _ => exact ((n0.lm.more n1.same).more n2.same).more s
    | 1, _ => exact (n1.lm.more n2.same).more s
    | 2, _ => exact n2.lm.more s
  · match i, j, hi, hj, n with
    | 0, 0, _, _, n => exact absurd rfl n
    | 1, 1, _, _, n => exact absurd rfl n
    | 2, 2, _, _, n => exact absurd rfl n
    | 0, 1, _, _, _ => exact a01
    | 0, 2, _, _, _ => exact a02
    | 1, 2, _, _, _ => exact a12
    | 1, 0, _, _, _ => exact a01.symm
    | 2, 0, _, _, _ => exact a02.symm
    | 2, 1, _, _, _ => exact a12.symm
  · obtain ⟨_, _, g, _⟩ := ha
    exact z0 i hi a _ g
  · match i, hi with
    | 0, _ => exact n0.lm.sup D (n1.same.free (n2.same.free nD))
    | 1, _ => exact n1.lm.sup D (n2.same.free nD)
    | 2, _ => exact n2.lm.sup D nD
theorem near_lmI {x0 x1 y0 y1 : Int} {w h p : Nat} (hR : RectW x0 x1 y0 y1 w h) : Near (lmI x0 y0 w h p) := fun k => by
  show -5000000000 ≤ ((cellsL x0 y0 w h).getD k (0, 0)).1 ∧ ((cellsL x0 y0 w h).getD k (0, 0)).1 ≤ 5000000000 ∧ -5000000000 ≤ ((cellsL x0 y0 w h).getD k (0, 0)).2 ∧ ((cellsL x0 y0 w h).getD k (0, 0)).2 ≤ 5000000000
  have lx := hR.lx
  have ly := hR.ly
  have mw := hR.mw
  have mh := hR.mh
  rw [List.getD_eq_getElem?_getD]
  cases e : (cellsL x0 y0 w h)[k]? with
  | none => exact ⟨by decide, by decide, by decide, by decide⟩
  | some c =>
    have m := List.mem_of_getElem? e
    unfold cellsL at m
    obtain ⟨l, ml, mc⟩ := List.mem_flatten.mp m
    obtain ⟨j, hj, rfl⟩ := List.mem_map.mp ml
    unfold rowL at mc
    obtain ⟨i, hi, rfl⟩ := List.mem_map.mp mc
    have hj := List.mem_range.mp hj
    have hi := List.mem_range.mp hi
    show -5000000000 ≤ x0 + (i : Int) ∧ x0 + (i : Int) ≤ 5000000000 ∧ -5000000000 ≤ y0 + (j : Int) ∧ y0 + (j : Int) ≤ 5000000000
    omega
/-- no bits tell nothing -/
theorem told_none {m : LM} (W : LMW m) (acc : List Nat) : toldF [] (rem m) m (dblN [] 16 wn0) acc = (acc, m) := by
  have e : dblN [] 16 wn0 = { place := 0, off := 0, size := 65536, width := 65536 } := rfl
  have g := (cts_good W).1
  have f : findJ (dblN [] 16 wn0) (cts m) = none := findJ_none fun k hk z => by
    rw [e] at z
    obtain ⟨z1, z2⟩ := z
    have z1 : brd 65536 (cts m) k ≤ 0 := z1
    have z2 : 65536 ≤ brd 65536 (cts m) (k + 1) := by
      have : (0 : Int) + 65536 ≤ brd 65536 (cts m) (k + 1) := z2
      omega
    have l2 := g.l2
    by_cases h0 : k = 0
    · subst h0
      have z2 : 65536 ≤ brd 65536 (cts m) 1 := z2
      have h1 : brd 65536 (cts m) 1 + 1024 ≤ brd 65536 (cts m) 2 := brd_step (W := 65536) (by decide) g (show 1 < (cts m).length by omega)
      have := brd_le (W := 65536) (by decide) g 2
      omega
    · obtain ⟨i, rfl⟩ : ∃ i, k = i + 1 := ⟨k - 1, by omega⟩
      have := brd_step (W := 65536) (by decide) g (show i < (cts m).length by omega)
      have := brd_nn (W := 65536) (by decide) g i
      omega
  cases rem m with
  | zero => rfl
  | succ n =>
    show (if fin m = true then (acc, m) else match findJ (dblN [] 16 wn0) (cts m) with
        | none => (acc, m)
        | some j => toldF [] n (next m j) (stepW [] (dblN [] 16 wn0) (cts m) j) (acc ++ [j])) = (acc, m)
    rw [f]
    split <;> rfl
theorem q_eqDD {K : PySem.W.Frag} {H : Hp} {p q : Addr} {d : PyData} {n : Nat} {Q : VK} (hp : Dp K H (.ref p) d) (hq : Dp K H (.ref q) d) (h : ShD n d) (hn : n ≤ 64) (c : Q (.bl true) H) : rEqD K (.ref p) (.ref q) H Q :=
  ⟨d, d, hp, hq, h.sh hn, h.sh hn, by rw [SeqAt.eqv_refl d h.lay]; exact c⟩
theorem q_neNil {K : PySem.W.Frag} {H : Hp} {p q : Addr} {Q : VK} (hp : H p = some (.lst [])) (hq : H q = some (.lst [])) (h : Q (.bl false) H) : rNeD K (.ref p) (.ref q) H Q :=
  ⟨.list [], .list [], .lst (.inl (.inl hp)) .nil, .lst (.inl (.inl hq)) .nil, (shd_lst (n := 0) (ds := []) fun _ m => nomatch m).sh (by decide), (shd_lst (n := 0) (ds := []) fun _ m => nomatch m).sh (by decide), h⟩
theorem told_ok {bits : List Int} : ∀ (n : Nat) {m : LM} {v : Wn} {acc : List Nat}, LMW m → LMW (toldF bits n m v acc).2 := by
  intro n
  induction n with
  | zero => exact fun W => W
  | succ n ih =>
    intro m v acc W
    show LMW (if fin m = true then (acc, m) else match findJ v (cts m) with
        | none => (acc, m)
        | some j => toldF bits n (next m j) (stepW bits v (cts m) j) (acc ++ [j])).2
    by_cases hf : fin m = true
    · rw [if_pos hf]
      exact W
    · rw [if_neg hf]
      cases e : findJ v (cts m) with
      | none => exact W
      | some j =>
        have hj : j < (cts m).length := List.mem_range.mp (List.mem_of_find?_eq_some e)
        rw [(cts_good W).2] at hj
        exact ih (W.next (by cases z : fin m with | true => exact absurd z hf | false => rfl) hj)
theorem told_len {bits : List Int} : ∀ (n : Nat) {m : LM} {v : Wn} {acc : List Nat}, (toldF bits n m v acc).1.length ≤ acc.length + n := by
  intro n
  induction n with
  | zero => exact fun {_ _ _} => Nat.le_refl _
  | succ n ih =>
    intro m v acc
    show (if fin m = true then (acc, m) else match findJ v (cts m) with
        | none => (acc, m)
        | some j => toldF bits n (next m j) (stepW bits v (cts m) j) (acc ++ [j])).1.length ≤ acc.length + (n + 1)
    split
    · exact Nat.le_add_right _ _
    · split
      · exact Nat.le_add_right _ _
      · refine Nat.le_trans ih ?_
        rw [List.length_append, List.length_singleton]
        omega
/-- a bad thing among bits -/
theorem bad_in {H : Hp} {p : Addr} {bits : List Int} {i : Nat} {v : V} (hb : AreBits bits) (hi : i ≤ bits.length) (hv : BadV H v) (e : H p = some (.lst ((bits.map V.int).take i ++ v :: (bits.map V.int).drop i))) : BadAt H p := by
  have hl : ((bits.map V.int).take i).length = i := by rw [List.length_take, List.length_map, Nat.min_eq_left hi]
  refine ⟨_, i, v, e, ?_, hv, fun j hj => ?_⟩
  · rw [List.getElem?_append_right (by rw [hl]; exact Nat.le_refl _), hl, Nat.sub_self]
    rfl
  · rw [List.getElem?_append_left (by rw [hl]; exact hj), List.getElem?_take_of_lt hj, List.getElem?_map]
    have h := List.getElem?_eq_getElem (show j < bits.length by omega)
    rw [h]
    have := hb _ (List.mem_of_getElem? h)
    exact ⟨bits[j], rfl, by omega, by omega⟩
theorem same_seqL {K : PySem.W.Frag} {H H' : Hp} {a : Addr} {xs : List V} (e : Same H H') (h : SqL K H a xs) : SqL K H' a xs := by
  rcases h with (h | ⟨o, h⟩) | h
  · exact .inl (.inl (e _ _ h))
  · exact .inl (.inr ⟨o, e _ _ h⟩)
  · exact .inr h
mutual
theorem dp_same {K : PySem.W.Frag} {H H' : Hp} (s : Same H H') : ∀ {v : V} {d : PyData}, Dp K H v d → Dp K H' v d
  | _, _, .non => .non
  | _, _, .bl b => .bl b
  | _, _, .int i => .int i
  | _, _, .str x => .str x
  | _, _, .lst h ha => .lst (same_seqL s h) (dpa_same s ha)
  | _, _, .tup h ha => .tup (same_seqT s h) (dpa_same s ha)
theorem dpa_same {K : PySem.W.Frag} {H H' : Hp} (s : Same H H') : ∀ {vs : List V} {ds : List PyData}, DpAll K H vs ds → DpAll K H' vs ds
  | _, _, .nil => .nil
  | _, _, .cons h1 h2 => .cons (dp_same s h1) (dpa_same s h2)
end
/-! ### the law of one line -/
theorem lmI_ok {x0 y0 : Int} {w h p : Nat} (few : h * w ≤ 900) (p0 : 1 ≤ p) (p1 : p ≤ 20) : LMW (lmI x0 y0 w h p) ∧ LMV (lmI x0 y0 w h p) := ⟨(lmw0 few p1).begin (by show (0 : Int) < (p : Int); omega), LMV.begin _⟩
structure RT (C CT : Addr) (H : Hp) (a D : Addr) (tg : Nat → Tag) (x : Nat → Addr) (m : LM) (G : Hp) : Prop where
  tri : Tri 3 C CT H a D tg x (fun _ => m) G
  w : LMW m
  v : LMV m
  n : Near m
  r : rem m ≤ 20
def spRight : Sp := fun vs H Q _ => ∃ (a : Addr), vs = [.ref a] ∧ Src H a ∧ ∀ H', Src H' a → Up a H H' → Q (.bl true) H'
theorem ok_right {f fr C CT O : Addr} {fd fdr : FuncData} {k : Nat} (F : Fun K "_law_right" "_law_right" s_law_right f fd) (T : Txt mg) (DL : LMK K C) (c_law_take : C8.Cal P w K mg base 1 "_law_take" spTake []) (c_law_one : C8.Cal P w K mg base 2 "_law_one" spOne []) (c_law_line : C8.Cal P w K mg base 3 "_law_line" (spLine K) []) (c_law_drawn : C8.Cal P w K mg base 6 "_law_drawn" (spDrawn C CT) [])
    (M_LineModel : CalC P w K mg base 3 "LineModel" C ["rect", "planes"] (spLMInit K C CT)) (M_want : CalM P w K mg base 2 C "wanted" [] (spWant C CT)) (M_takeM : CalM P w K mg base 3 C "take" ["letter"] (spTakeM C CT O)) (c_told_letters : C8.Cal P w K mg base 4 "told_letters" (spTold C CT) []) (ck_told_letters : CalK P w K mg base 4 "told_letters" ["bits", "model"] (spTold C CT)) (c_law_due : C8.Cal P w K mg base 5 "_law_due" (spDueL C CT) []) (c_law_wants : C8.Cal P w K mg base 4 "_law_wants" (spWants K C CT) [])
    (G_ref : GdX.FnG P w K mg base CX0 5 fr fdr ["_law_bits_here", "_law_model"] (spRefX C CT)) (g_ref : mg "_law_is_refused" = some (.ref fr)) (k_ref : PySem.W.keepIn K (.ref fr) = true) (b_ref : Binds K fdr ["_law_bits_here", "_law_model"] []) : GdX.FnG P w K mg base CX0 (k + 7) f fd ["_law_source"] spRight := by
  refine GdX.funG F sc_law_right (fun vs H Q E h => ?_) (fun cdv A outer s H vs Q E hgd hr h => ?_)
  · obtain ⟨a, rfl, _⟩ := h
    rfl
  · obtain ⟨a, rfl, ha, q⟩ := h
    have hu := hr.units
    refine ⟨_, (pss_cons (ps_asg (C8.pe_c c_law_line hr (by omega) (by rfl) (pa_cons (pv 0) (pa_cons pe_int pa_nil))) (pg_tup rfl (pgs_cons (pg_name (i := 1) sc_law_right.nd rfl (Or.inl rfl)) (pgs_cons (pg_name (i := 2) sc_law_right.nd rfl (Or.inl rfl)) pgs_nil))))
    (C8.pss_cut (ps_par (i := 3) (j := 4) rfl sc_law_right.nd rfl rfl (by decide) rfl rfl (pa_cons (pe_lst (pa_cons (pe_new M_LineModel hr (by omega) (by rfl) passN (pa_cons (pv 1) (pa_cons (pv 2) pa_nil))) (pa_cons (pe_new M_LineModel hr (by omega) (by rfl) passN (pa_cons (pv 1) (pa_cons (pv 2) pa_nil))) (pa_cons (pe_new M_LineModel hr (by omega) (by rfl) passN (pa_cons (pv 1) (pa_cons (pv 2) pa_nil))) pa_nil)))) (pa_cons (C8.pe_c c_law_take hr (by omega) (by rfl) (pa_cons (pv 0) (pa_cons pe_int pa_nil))) pa_nil)) rfl)
    (C8.pss_cut (ps_for PassesOwn.never rfl (pi_range1 (by rfl) T.z_range (pa_cons (pv 4) pa_nil)) (pg_name (i := 5) sc_law_right.nd rfl (Or.inl rfl))
      (pss_one (ps_if (pt_cmpR op_notN (pe_mx0 M_want DL.cl hr (by omega) passN (pe_ix ix_list (pv 3) pe_int (fun _ _ => rfl))) pe_non (nomark _)) (pss_cons (ps_set (i := 6) sc_law_right.nd rfl (Or.inl rfl) (C8.pe_c c_law_take hr (by omega) (by rfl) (pa_cons (pv 0) (pa_cons (pe_ix ix_tup (pe_mx0 M_want DL.cl hr (by omega) passN (pe_ix ix_list (pv 3) pe_int (fun _ _ => rfl))) pe_int (fun _ _ => rfl)) pa_nil))))
    (pss_one (ps_for PassesOwn.never rfl (pi_list (pv 3)) (pg_name (i := 7) sc_law_right.nd rfl (Or.inl rfl))
      (pss_one (ps_expr (pe_mx M_takeM DL.cl hr (by omega) passN (pv 7) (pa_cons (pv 6) pa_nil))))))) pss_nil)))
    (C8.pss_cut (ps_set (i := 8) sc_law_right.nd rfl (Or.inl rfl) (C8.pe_c c_law_drawn hr (by omega) (by rfl) (pa_cons (pv 0) (pa_cons (pe_ix ix_list (pv 3) pe_int (fun _ _ => rfl)) pa_nil))))
    (C8.pss_cut (ps_par (i := 9) (j := 10) rfl sc_law_right.nd rfl rfl (by decide) rfl rfl (pa_cons (pe_callTy call_list_of (by rfl) T.z_list PyProof.Rows.boot_list (pa_cons (pv 8) pa_nil)) (pa_cons (pe_callTy call_list_of (by rfl) T.z_list PyProof.Rows.boot_list (pa_cons (pv 8) pa_nil)) pa_nil)) rfl)
    (C8.pss_cut (ps_expr (pe_bm PySem.F.plainAttrs_list PySem.F.slot_list_insert PySem.F.type_list_insert mt_insert (pv 10) (pa_cons (C8.pe_c c_law_take hr (by omega) (by rfl) (pa_cons (pv 0) (pa_cons (pe_op op_add (pe_callB call_len_seq (by rfl) T.z_len PySem.boot_len (pa_cons (pv 8) pa_nil)) pe_int) pa_nil))) (pa_cons (C8.pe_c c_law_one hr (by omega) (by rfl) (pa_cons (pv 0) (pa_cons (pe_lst (pa_cons pe_int (pa_cons (pe_un un_neg pe_int) (pa_cons pe_non (pa_cons pe_str (pa_cons (pe_op (op_powc (a := 10) (b := 21) (c := 1000000000000000000000) ⟨by decide, by decide, by decide⟩ (by decide +kernel)) pe_int pe_int) pa_nil)))))) pa_nil))) pa_nil))))
    (C8.pss_cut (ps_if (PW.pt (pw_or (pt_not (pt_val (GdX.pe_cG G_ref hgd hr (by omega) (by rfl) g_ref k_ref b_ref pass0 (pa_cons (pv 10) (pa_cons (pe_ix ix_list (pv 3) pe_int (fun _ _ => rfl)) pa_nil))))) (pw_or1 (pt_cmpR (op_neD hu) (C8.pe_c c_told_letters hr (by omega) (by rfl) (pa_cons (pe_lst pa_nil) (pa_cons (pe_ix ix_list (pv 3) pe_int (fun _ _ => rfl)) pa_nil))) (pe_lst pa_nil) (nomark _))))) (pss_one (ps_ret pe_bl)) pss_nil)
    (C8.pss_cut (ps_par (i := 11) (j := 12) rfl sc_law_right.nd rfl rfl (by decide) rfl rfl (pa_cons (pe_ck ck_told_letters hr (by omega) (by rfl) (pk_cons (pv 8) (pk_cons (pe_ix ix_list (pv 3) pe_int (fun _ _ => rfl)) pk_nil))) (pa_cons (C8.pe_c c_law_due hr (by omega) (by rfl) (pa_cons (pv 9) (pa_cons (pe_ix ix_list (pv 3) pe_int (fun _ _ => rfl)) pa_nil))) pa_nil)) rfl)
    (pss_one (ps_ret (pe_and (pe_cmpR (op_eqD hu) (pv 11) (pv 12) (nomark _)) (pe_and (pe_callB call_isi (by rfl) T.z_isinstance PyProof.Rows.boot_isinstance (pa_cons (pv 11) (pa_cons (pe_bltn (v := .ty "list") (by rfl) T.z_list PyProof.Rows.boot_list rfl) pa_nil))) (pe_and (pe_cmpR (op_eqD hu) (pv 8) (pv 9) (nomark _)) (pe_one (pe_cmpR (op_eqD hu) (C8.pe_c c_law_wants hr (by omega) (by rfl) (pa_cons (pe_ix ix_list (pv 3) pe_int (fun _ _ => rfl)) pa_nil)) (C8.pe_c c_law_wants hr (by omega) (by rfl) (pa_cons (pe_ix ix_list (pv 3) pe_int (fun _ _ => rfl)) pa_nil)) (nomark _)))))))))))))))), ?_⟩
    walk_at "ev"
    refine ⟨ha, fun qq rr x0 x1 y0 y1 wn hn p H1 nq nr nqr eq er hR w1 h1 p1 p5 p20 s1 u1 => ?_⟩
    have hrem := rem_init x0 y0 wn hn p p1
    obtain ⟨okW, okV⟩ := lmI_ok (x0 := x0) (y0 := y0) (w := wn) (h := hn) (p := p) hR.few p1 (by omega)
    have hN : Near (lmI x0 y0 wn hn p) := near_lmI hR
    walk_at "ev"
    refine ⟨fun σ G => ∃ (D : Addr) (ah : Nat) (tg : Nat → Tag) (x : Nat → Addr) (m : LM), σ = [some (.ref a), some (.ref rr), some (.int (p : Int)), some (.ref D), some (.int (ah : Int)), none, none, none, none, none, none, none, none] ∧ ah < 4 ∧ RT C CT H a D tg x m G, ?_, ?_⟩
    · walk_at "ev"
      intro xa da nxa nda nea
      have sa : Same H1 (upd (upd H1 da (.own xa)) xa (.ins C da [])) := (same_upd nda).trans (same_upd (by rw [upd_ne nea.symm]; exact nxa))
      refine ⟨xa, da, rr, x0, x1, y0, y1, wn, hn, p, rfl, upd_same, ne_of_none er nxa, .inl (.inl (sa _ _ er)), hR, p1, by omega, fun H2 t0 o0 l0 => ⟨rfl, ?_⟩⟩
      have n0 := newM nxa nda nea o0 l0
      clear o0 l0 sa
      have er2 := n0.same _ _ er
      walk_at "ev"
      intro xb db nxb ndb neb
      have sb : Same H2 (upd (upd H2 db (.own xb)) xb (.ins C db [])) := (same_upd ndb).trans (same_upd (by rw [upd_ne neb.symm]; exact nxb))
      refine ⟨xb, db, rr, x0, x1, y0, y1, wn, hn, p, rfl, upd_same, ne_of_none er2 nxb, .inl (.inl (sb _ _ er2)), hR, p1, by omega, fun H3 t1 o0 l0 => ⟨rfl, ?_⟩⟩
      have n1 := newM nxb ndb neb o0 l0
      clear o0 l0 sb
      have er3 := n1.same _ _ er2
      walk_at "ev"
      intro xc dc nxc ndc nec
      have sc : Same H3 (upd (upd H3 dc (.own xc)) xc (.ins C dc [])) := (same_upd ndc).trans (same_upd (by rw [upd_ne nec.symm]; exact nxc))
      refine ⟨xc, dc, rr, x0, x1, y0, y1, wn, hn, p, rfl, upd_same, ne_of_none er3 nxc, .inl (.inl (sc _ _ er3)), hR, p1, by omega, fun H4 t2 o0 l0 => ⟨rfl, ?_⟩⟩
      have n2 := newM nxc ndc nec o0 l0
      clear o0 l0 sc
      walk_at "ev"
      refine ⟨(by show 3 ≤ sizeLine; decide), fun D nD => ?_⟩
      have T0 := tri_new (H := H) s1 (fun b e => up_dom u1 s1 e) (fun b o n e => u1 b o n e) n0 n1 n2 nD (same_upd nD) upd_same
      generalize upd H4 D (.lst [.ref xa, .ref xb, .ref xc]) = G at T0 ⊢
      walk_at "ev"
      refine ⟨T0.s, by decide, by decide, fun ah G1 a0 a1 s2 u2 => ?_⟩
      obtain ⟨an, rfl⟩ := Int.eq_ofNat_of_zero_le a0
      walk_at "ev"
      exact ⟨D, an, _, _, _, rfl, by have : (an : Int) < 4 := a1; omega, T0.draw u2 s2, okW, okV, hN, by omega⟩
    rintro σ G ⟨D, ah, tg, x, m, rfl, a4, R⟩
    refine ⟨fun σ G => ∃ (v5 v6 v7 : Option V) (tg : Nat → Tag) (m : LM), σ = [some (.ref a), some (.ref rr), some (.int (p : Int)), some (.ref D), some (.int (ah : Int)), v5, v6, v7, none, none, none, none, none] ∧ RT C CT H a D tg x m G, ?_, ?_⟩
    · walk_at "ev"
      refine ⟨by omega, by omega, for_range (fun i σ G => ∃ (v5 v6 v7 : Option V) (tg : Nat → Tag) (m : LM), σ = [some (.ref a), some (.ref rr), some (.int (p : Int)), some (.ref D), some (.int (ah : Int)), v5, v6, v7, none, none, none, none, none] ∧ RT C CT H a D tg x m G) ⟨none, none, none, tg, m, rfl, R⟩ ?_ ?_⟩
      · rintro i σ G hi ⟨v5, v6, v7, tg, m, rfl, R⟩
        have eD : SqL K G D [V.ref (x 0), .ref (x 1), .ref (x 2)] := .inl (.inl R.tri.eD)
        have l0 := R.tri.lm 0 (by decide)
        obtain ⟨dx0, _, _, _, _, _, _, _, _, _, _, hx0, tx0, _⟩ := _root_.id l0
        walk_at "ev"
        refine ⟨x 0, dx0, _, rfl, hx0, ?_⟩
        walk_at "ev"
        refine ⟨x 0, tg 0, m, rfl, l0, R.w, fun hf => ?_, fun hf p1a c1 np1 hc1 tc1 => ?_⟩
        · walk_at "ev"
          exact ⟨_, _, _, tg, m, rfl, R⟩
        · have sp1 : Same G (upd G p1a (.tup [.int (tabNo m : Nat), .int (sizeAt m : Nat), .ref c1])) := same_upd np1
          have R1 := R.tri.more sp1
          walk_at "ev"
          generalize upd G p1a (.tup [.int (tabNo m : Nat), .int (sizeAt m : Nat), .ref c1]) = G1 at sp1 R1 ⊢
          have eD1 : SqL K G1 D [V.ref (x 0), .ref (x 1), .ref (x 2)] := .inl (.inl R1.eD)
          walk_at "ev"
          refine ⟨x 0, dx0, _, rfl, sp1 _ _ hx0, ?_⟩
          walk_at "ev"
          refine ⟨x 0, tg 0, m, rfl, R1.lm 0 (by decide), R.w, fun z => (by rw [hf] at z; cases z), fun _ p2a c2 np2 hc2 tc2 => ?_⟩
          have sp2 : Same G1 (upd G1 p2a (.tup [.int (tabNo m : Nat), .int (sizeAt m : Nat), .ref c2])) := same_upd np2
          have e2a : upd G1 p2a (.tup [.int (tabNo m : Nat), .int (sizeAt m : Nat), .ref c2]) p2a = _ := upd_same
          have R2 := R1.more sp2
          generalize upd G1 p2a (.tup [.int (tabNo m : Nat), .int (sizeAt m : Nat), .ref c2]) = G2 at sp2 e2a R2 ⊢
          walk_at "ev"
          have sz : sizeAt m = 2 ∨ sizeAt m = 3 := by
            unfold sizeAt
            split
            · exact .inr rfl
            · exact .inl rfl
          refine ⟨R2.s, by omega, by omega, fun r3 H3 h30 h31 s3 u3 => ?_⟩
          have R3 := R2.draw u3 s3
          obtain ⟨jn, rfl⟩ := Int.eq_ofNat_of_zero_le h30
          have hj : jn < sizeAt m := by
            have : (jn : Int) < (sizeAt m : Int) := h31
            omega
          walk_at "ev"
          refine ⟨⟨_, .inl (.inl R3.eD)⟩, for_list (K := K) (a := D) (xs := [V.ref (x 0), .ref (x 1), .ref (x 2)]) (fun t σ G => ∃ (v7 : Option V) (tg : Nat → Tag), σ = [some (.ref a), some (.ref rr), some (.int (p : Int)), some (.ref D), some (.int (ah : Int)), some (.int (0 + (i : Int))), some (.int (jn : Int)), v7, none, none, none, none, none] ∧ Tri 3 C CT H a D tg x (fun k => if k < t then next m jn else m) G) ⟨_, tg, rfl, R3⟩ (fun _ _ _ _ ⟨_, _, _, z⟩ => .inl (.inl z.eD)) ?_ ?_⟩
          · rintro t y σ G4 hy ⟨v7, tg4, rfl, R4⟩
            have ht : t < 3 := (List.getElem?_eq_some_iff.mp hy).1
            have ey : y = .ref (x t) := by
              match t, ht, hy with
              | 0, _, hy => exact (Option.some.inj hy).symm
              | 1, _, hy => exact (Option.some.inj hy).symm
              | 2, _, hy => exact (Option.some.inj hy).symm
            subst ey
            have l4 := R4.lm t ht
            have l4 : LMAt (tg4 t) C CT G4 (x t) m := by
              have e : (if t < t then next m jn else m) = m := if_neg (Nat.lt_irrefl t)
              rw [← e]
              exact l4
            obtain ⟨dx4, _, _, _, _, _, _, _, _, _, _, hx4, tx4, _⟩ := _root_.id l4
            walk_at "ev"
            refine ⟨x t, dx4, _, rfl, hx4, ?_⟩
            walk_at "ev"
            refine ⟨x t, tg4 t, m, (jn : Int), rfl, l4, R.w, .inl ⟨hf, jn, rfl, hj, fun G6 tag6 g6 l6 => ?_⟩⟩
            have R6 := R4.gone ht g6 l6
            rw [put_lt] at R6
            exact ⟨_, _, rfl, R6⟩
          · rintro σ G4 ⟨v7, tg4, rfl, R4⟩
            exact ⟨_, _, _, tg4, next m jn, rfl, ⟨fun k hk => by
              have := R4.lm k hk
              have e : (if k < [V.ref (x 0), V.ref (x 1), V.ref (x 2)].length then next m jn else m) = next m jn := if_pos hk
              rw [e] at this
              exact this, R4.ap, R4.s, R4.ta, R4.eD, R4.tD, R4.Da, R4.dom, R4.keep, R4.t0⟩, R.w.next hf hj, R.v.next R.w jn, R.n.next jn, by have := rem_next R.v R.w hf jn; have := R.r; omega⟩
      · rintro σ G ⟨v5, v6, v7, tg, m, rfl, R⟩
        exact ⟨v5, v6, v7, tg, m, rfl, R⟩
    rintro σ G1 ⟨v5, v6, v7, tg1, m1, rfl, R1⟩
    clear R
    have T1 := R1.tri
    refine ⟨fun σ G => ∃ (bp : Addr) (bits : List Int), σ = [some (.ref a), some (.ref rr), some (.int (p : Int)), some (.ref D), some (.int (ah : Int)), v5, v6, v7, some (.ref bp), none, none, none, none] ∧ Tri 2 C CT H a D tg1 x (fun _ => m1) G ∧ G bp = some (.lst (bits.map V.int)) ∧ AreBits bits ∧ bits.length ≤ 300 ∧ (∀ j, j < 2 → tg1 j bp = 0) ∧ bp ≠ a, ?_, ?_⟩
    · have eD : SqL K G1 D [V.ref (x 0), .ref (x 1), .ref (x 2)] := .inl (.inl T1.eD)
      walk_at "ev"
      refine ⟨a, x 2, tg1 2, m1, rfl, T1.s, T1.ta 2 (by decide), T1.lm 2 (by decide), R1.w, R1.v, fun q' H' bits s2 nq e2 hb hl off dom => ?_⟩
      walk_at "ev"
      exact ⟨q', bits, rfl, T1.drawn s2 off dom, e2, hb, hl, fun j hj => T1.free nq (by omega), (T1.s.ne nq).symm⟩
    rintro σ G2 ⟨bp, bits, rfl, T2, ebp, hb, hl, tbp, nba⟩
    have W := R1.w
    have LV := R1.v
    have hN := R1.n
    have hr20 := R1.r
    clear T1 R1 ha
    refine ⟨fun σ G => ∃ (kp sp : Addr), σ = [some (.ref a), some (.ref rr), some (.int (p : Int)), some (.ref D), some (.int (ah : Int)), v5, v6, v7, some (.ref bp), some (.ref kp), some (.ref sp), none, none] ∧ Tri 2 C CT H a D tg1 x (fun _ => m1) G ∧ G bp = some (.lst (bits.map V.int)) ∧ G kp = some (.lst (bits.map V.int)) ∧ G sp = some (.lst (bits.map V.int)) ∧ (∀ j, j < 2 → tg1 j kp = 0) ∧ (∀ j, j < 2 → tg1 j sp = 0) ∧ kp ≠ a ∧ sp ≠ a ∧ kp ≠ sp ∧ bp ≠ sp ∧ H sp = none ∧ D ≠ sp, ?_, ?_⟩
    · walk_at "ev"
      refine fun kp nk => ?_
      have sk := same_upd (o := .lst (bits.map V.int)) nk
      have T3 := T2.more sk
      have ek : upd G2 kp (.lst (bits.map V.int)) kp = _ := upd_same
      have ebp3 := sk _ _ ebp
      generalize upd G2 kp (.lst (bits.map V.int)) = G3 at sk T3 ek ebp3 ⊢
      walk_at "ev"
      refine fun sp ns => ?_
      have ss := same_upd (o := .lst (bits.map V.int)) ns
      walk_at "ev"
      exact ⟨T3.more ss, ss _ _ (sk _ _ ebp), ss _ _ ek, upd_same, fun j hj => T2.free nk hj, fun j hj => T3.free ns hj, (T2.s.ne nk).symm, (T3.s.ne ns).symm, ne_of_none ek ns, ne_of_none (sk _ _ ebp) ns, T3.dom _ ns, ne_of_none T3.eD ns⟩
    clear T2 ebp
    rintro σ G2 ⟨kp, sp, rfl, T2, ebp, ekp, esp, tkp, tsp, nka, nsa, nks, nbs, nsH, nDs⟩
    refine ⟨fun σ G => σ = [some (.ref a), some (.ref rr), some (.int (p : Int)), some (.ref D), some (.int (ah : Int)), v5, v6, v7, some (.ref bp), some (.ref kp), some (.ref sp), none, none] ∧ Tri 2 C CT H a D tg1 x (fun _ => m1) G ∧ G bp = some (.lst (bits.map V.int)) ∧ G kp = some (.lst (bits.map V.int)) ∧ BadAt G sp, ?_, ?_⟩
    · have eS : SqL K G2 bp (bits.map V.int) := .inl (.inl ebp)
      walk_at "ev"
      refine ⟨.inl ⟨rfl, _, .inl (.inl esp)⟩, ?_⟩
      walk_at "ev"
      refine ⟨T2.s, by omega, by rw [List.length_map]; omega, fun r3 H3 h30 h31 s3 u3 => ?_⟩
      have T3 := T2.draw u3 s3
      have o3 := But.onlyA u3 s3
      have ebp3 := o3.off _ _ nba ebp
      have ekp3 := o3.off _ _ nka ekp
      have esp3 := o3.off _ _ nsa esp
      obtain ⟨i, rfl⟩ := Int.eq_ofNat_of_zero_le h30
      have hi : i ≤ bits.length := by
        have h31 : (i : Int) < ((bits.map V.int).length : Int) + 1 := h31
        rw [List.length_map] at h31
        omega
      walk_at "ev"
      refine ⟨(by show 5 ≤ sizeLine; decide), fun l nl => ?_⟩
      have sl := same_upd (o := .lst [.int 2, .int (-1), .non, .str (Str.ofString "0"), .int 1000000000000000000000]) nl
      have el : upd H3 l (.lst [.int 2, .int (-1), .non, .str (Str.ofString "0"), .int 1000000000000000000000]) l = _ := upd_same
      have T4 := T3.more sl
      have nla : l ≠ a := (T3.s.ne nl).symm
      have ebp4 := sl _ _ ebp3
      have ekp4 := sl _ _ ekp3
      have esp4 := sl _ _ esp3
      generalize upd H3 l (.lst [.int 2, .int (-1), .non, .str (Str.ofString "0"), .int 1000000000000000000000]) = G4 at sl el T4 ebp4 ekp4 esp4 ⊢
      walk_at "ev"
      refine ⟨a, l, _, rfl, T4.s, nla, el, by simp, by decide, fun v H5 mv s5 u5 => ?_⟩
      have T5 := T4.draw u5 s5
      have o5 := But.onlyA u5 s5
      have ebp5 := o5.off _ _ nba ebp4
      have ekp5 := o5.off _ _ nka ekp4
      have esp5 := o5.off _ _ nsa esp4
      walk_at "ev"
      refine ⟨sp, _, (i : Int), v, rfl, rfl, esp5, small1000 (by rw [List.length_map]; omega), by omega, by omega, ?_⟩
      have oS : OnlyX sp H5 (upd H5 sp (.lst ((bits.map V.int).take i ++ [v] ++ (bits.map V.int).drop i))) := (OnlyX.refl sp H5).upd ⟨_, esp5⟩
      refine ⟨rfl, T5.only oS tsp nsa nDs nsH, oS.off _ _ nbs ebp5, oS.off _ _ nks ekp5, bad_in hb hi (v := v) ?_ (by rw [← List.append_cons]; exact upd_same)⟩
      simp only [List.mem_cons, List.not_mem_nil, or_false] at mv
      rcases mv with rfl | rfl | rfl | rfl | rfl
      · exact .int _ (.inr (by decide))
      · exact .int _ (.inl (by decide))
      · exact .non
      · exact .str _
      · exact .int _ (.inr (by decide))
    clear esp T2 ebp ekp
    rintro σ G2 ⟨rfl, T2, ebp, ekp, hbad⟩
    refine ⟨fun σ G => ∃ (tg : Nat → Tag), σ = [some (.ref a), some (.ref rr), some (.int (p : Int)), some (.ref D), some (.int (ah : Int)), v5, v6, v7, some (.ref bp), some (.ref kp), some (.ref sp), none, none] ∧ Tri 2 C CT H a D tg x (fun _ => m1) G ∧ G bp = some (.lst (bits.map V.int)) ∧ G kp = some (.lst (bits.map V.int)) ∧ (∀ j, j < 2 → tg j bp = 0) ∧ (∀ j, j < 2 → tg j kp = 0), ?_, ?_⟩
    · have eD : SqL K G2 D [V.ref (x 0), .ref (x 1), .ref (x 2)] := .inl (.inl T2.eD)
      walk_at "ev"
      refine ⟨sp, x 0, tg1 0, m1, rfl, hbad, T2.lm 0 (by decide), W, hN, fun G3 s3 => ?_⟩
      have T3 := T2.more s3
      walk_at "ev"
      refine ⟨(by show 0 ≤ sizeLine; decide), fun l nl => ?_⟩
      have sl := same_upd (o := .lst []) nl
      have T4 := T3.more sl
      have el : upd G3 l (.lst []) l = some (.lst (([] : List Int).map V.int)) := upd_same
      have tl := fun j (hj : j < 2) => T3.free nl hj
      generalize upd G3 l (.lst []) = G4 at sl T4 el ⊢
      have eD4 : SqL K G4 D [V.ref (x 0), .ref (x 1), .ref (x 2)] := .inl (.inl T4.eD)
      walk_at "ev"
      refine ⟨l, x 0, tg1 0, m1, [], rfl, el, (fun _ m => nomatch m), tl 0 (by decide), T4.lm 0 (by decide), W, LV, by omega, fun q' G5 tag5 g5 l5 nq tq eq => ?_⟩
      have l5 : LMAt tag5 C CT G5 (x 0) m1 := by
        rw [told_none W] at l5
        exact l5
      have eq : G5 q' = some (.lst []) := by
        rw [told_none W] at eq
        exact eq
      have T5 := (T4.gone (i := 0) (by decide) g5 l5).congr (mm' := fun _ => m1) (fun i hi => by
        unfold put
        split <;> rfl)
      obtain ⟨ebp5, tbp5⟩ := T4.stay (i := 0) (by decide) g5 (sl _ _ (s3 _ _ ebp)) tbp
      obtain ⟨ekp5, tkp5⟩ := T4.stay (i := 0) (by decide) g5 (sl _ _ (s3 _ _ ekp)) tkp
      walk_at "ev"
      refine ⟨(by show 0 ≤ sizeLine; decide), fun l2 nl2 => ?_⟩
      have s2 := same_upd (o := .lst []) nl2
      refine q_neNil (s2 _ _ eq) upd_same ?_
      walk_at "ev"
      exact ⟨_, rfl, T5.more s2, s2 _ _ ebp5, s2 _ _ ekp5, tbp5, tkp5⟩
    clear T2 ebp ekp hbad tbp tkp
    rintro σ G2 ⟨tg2, rfl, T2, ebp, ekp, tbp, tkp⟩
    generalize eR : toldF bits (rem m1) m1 (dblN bits 16 wn0) [] = R
    have WR : LMW R.2 := by
      rw [← eR]
      exact told_ok _ W
    refine ⟨fun σ G => ∃ (tp dp : Addr) (tg : Nat → Tag), σ = [some (.ref a), some (.ref rr), some (.int (p : Int)), some (.ref D), some (.int (ah : Int)), v5, v6, v7, some (.ref bp), some (.ref kp), some (.ref sp), some (.ref tp), some (.ref dp)] ∧ Tri 2 C CT H a D tg x (fun _ => R.2) G ∧ G bp = some (.lst (bits.map V.int)) ∧ G kp = some (.lst (bits.map V.int)) ∧ G tp = some (natsO R.1) ∧ G dp = some (natsO R.1), ?_, ?_⟩
    · have eD : SqL K G2 D [V.ref (x 0), .ref (x 1), .ref (x 2)] := .inl (.inl T2.eD)
      walk_at "ev"
      refine ⟨bp, x 0, tg2 0, m1, bits, rfl, ebp, hb, tbp 0 (by decide), T2.lm 0 (by decide), W, LV, by omega, fun tp G3 tag3 g3 l3 nt tt et => ?_⟩
      rw [eR] at l3 et
      have T3 := T2.gone (i := 0) (by decide) g3 l3
      obtain ⟨ebp3, tbp3⟩ := T2.stay (i := 0) (by decide) g3 ebp tbp
      obtain ⟨ekp3, tkp3⟩ := T2.stay (i := 0) (by decide) g3 ekp tkp
      have ttp : ∀ j, j < 2 → put tg2 0 tag3 j tp = 0 := fun j hj => by
        by_cases z : j = 0
        · subst z
          exact tt
        · rw [put_ne z]
          exact T2.free nt hj
      have eD3 : SqL K G3 D [V.ref (x 0), .ref (x 1), .ref (x 2)] := .inl (.inl T3.eD)
      have l1 : LMAt (put tg2 0 tag3 1) C CT G3 (x 1) m1 := T3.lm 1 (by decide)
      walk_at "ev"
      refine ⟨kp, x 1, put tg2 0 tag3 1, m1, bits, rfl, ekp3, hb, hl, tkp3 1 (by decide), l1, W, LV, hr20, fun dp G4 tag4 g4 l4 nd td ed => ?_⟩
      rw [eR] at l4 ed
      have T4 := (T3.gone (i := 1) (by decide) g4 l4).congr (mm' := fun _ => R.2) (fun i hi => by
        match i, hi with
        | 0, _ => rfl
        | 1, _ => rfl)
      obtain ⟨ebp4, _⟩ := T3.stay (i := 1) (by decide) g4 ebp3 tbp3
      obtain ⟨ekp4, _⟩ := T3.stay (i := 1) (by decide) g4 ekp3 tkp3
      obtain ⟨etp4, _⟩ := T3.stay (i := 1) (by decide) g4 et ttp
      walk_at "ev"
      exact ⟨tp, dp, _, rfl, T4, ebp4, ekp4, etp4, ed⟩
    clear T2 ebp ekp tbp tkp
    rintro σ G2 ⟨tp, dp, tg3, rfl, T2, ebp, ekp, etp, edp⟩
    have et : G2 tp = some (.lst ((R.1.map fun n : Nat => (n : Int)).map V.int)) := by
      rw [← natsI]
      exact etp
    have ed : G2 dp = some (.lst ((R.1.map fun n : Nat => (n : Int)).map V.int)) := by
      rw [← natsI]
      exact edp
    have eD : SqL K G2 D [V.ref (x 0), .ref (x 1), .ref (x 2)] := .inl (.inl T2.eD)
    walk_at "ev"
    refine q_eqDD (n := 1) (dp_ints (.inl (.inl et))) (dp_ints (.inl (.inl ed))) (shd_ints _) (by decide) ?_
    walk_at "ev"
    refine q_eqDD (n := 1) (dp_ints (.inl (.inl ebp))) (dp_ints (.inl (.inl ekp))) (shd_ints _) (by decide) ?_
    walk_at "ev"
    refine ⟨x 0, tg3 0, R.2, rfl, T2.lm 0 (by decide), WR, fun q1 G5 n5 s5 d5 => ?_⟩
    have T5 := T2.more s5
    have eD5 : SqL K G5 D [V.ref (x 0), .ref (x 1), .ref (x 2)] := .inl (.inl T5.eD)
    walk_at "ev"
    refine ⟨x 1, tg3 1, R.2, rfl, T5.lm 1 (by decide), WR, fun q2 G6 n6 s6 d6 => ?_⟩
    have T6 := T5.more s6
    walk_at "ev"
    refine q_eqDD (n := 3) (dp_same s6 d5) d6 shd_want (by decide) ?_
    walk_at "ev"
    exact q G6 T6.s fun b o n e => T6.keep b o n e
/-! ### the law -/
def spLaw (K : PySem.W.Frag) : Sp := fun vs H Q _ => ∃ (a : Addr) (ns : List Int), vs = [.ref a] ∧ SqL K H a (ns.map V.int) ∧ ns.length ≤ 63 ∧ ∀ H', Q (.bl true) H'
theorem ok_law {f fr : Addr} {fd fdr : FuncData} {k : Nat} (F : Fun K "law" "law" s_law f fd) (T : Txt mg) (c_law_pool : C8.Cal P w K mg base 1 "_law_pool" (spPool K) [])
    (G_right : GdX.FnG P w K mg base CX0 7 fr fdr ["_law_source"] spRight) (g_right : mg "_law_right" = some (.ref fr)) (k_right : PySem.W.keepIn K (.ref fr) = true) (b_right : Binds K fdr ["_law_source"] []) : GdX.FnG P w K mg base CX0 (k + 8) f fd ["_law_script"] (spLaw K) := by
  refine GdX.funG F sc_law (fun vs H Q E h => ?_) (fun cdv A outer s H vs Q E hgd hr h => ?_)
  · obtain ⟨a, ns, rfl, _⟩ := h
    rfl
  · obtain ⟨a, ns, rfl, hS, hl, q⟩ := h
    have hu := hr.units
    refine ⟨_, (pss_cons (ps_for PassesOwn.never rfl (pi_range1 (by rfl) T.z_range (pa_cons (pe_callB (call_max2 rfl) (by rfl) T.z_max PyProof.Rows.boot_max (pa_cons pe_int (pa_cons (pe_callB (call_min2 rfl) (by rfl) T.z_min PyProof.Rows.boot_min (pa_cons (pe_callB call_len_seq (by rfl) T.z_len PySem.boot_len (pa_cons (pv 0) pa_nil)) (pa_cons pe_int pa_nil))) pa_nil))) pa_nil)) (pg_name (i := 1) sc_law.nd rfl (Or.inl rfl))
      (pss_one (ps_if (pt_not (pt_val (GdX.pe_cG G_right hgd hr (by omega) (by rfl) g_right k_right b_right pass0 (pa_cons (C8.pe_c c_law_pool hr (by omega) (by rfl) (pa_cons (pv 0) (pa_cons (pv 1) pa_nil))) pa_nil)))) (pss_one (ps_ret pe_bl)) pss_nil)))
    (pss_one (ps_ret pe_bl))), ?_⟩
    walk_at "ev"
    refine ⟨(by split <;> split <;> omega), (by split <;> split <;> omega), ?_⟩
    refine for_range (fun i σ H2 => ∃ v1, σ = [some (.ref a), v1] ∧ Same H H2) ⟨_, rfl, Same.refl H⟩ ?_ ?_
    · rintro i σ H2 hi ⟨v1, rfl, x2⟩
      walk_at "ev"
      refine ⟨_, _, _, rfl, x2.seq hS, (by omega), ?_, fun p H3 np sm hs => ?_⟩
      · split at hi <;> split at hi <;> omega
      walk_at "ev"
      refine ⟨hs, fun H4 s4 u4 => ?_⟩
      walk_at "ev"
      exact fun b o e => u4 b o (ne_of_none (x2 _ _ e) np) (sm _ _ (x2 _ _ e))
    · rintro σ H2 ⟨v1, rfl, x2⟩
      walk_at "ev"
      exact q _
end
/-! ### what the top has written -/
theorem calmF {P : Program} {w : World} {K : PySem.W.Frag} {mg : Str → Option Value} {base : Heap} {k : Nat} {f : Addr} {fd : FuncData} {ps : List Str} {sp : Sp} (F : FnOk P w K mg base L2.CX0 k f fd ps sp) : FnOk P w K mg base (L2.CX P w) k f fd ps sp :=
  ⟨F.len, fun A outer s H args us vs Q E hr he hb hv hs => codeAny_mono (F.run A outer s H args us vs Q E hr he hb hv hs) fun r s' h => by
    cases r with
    | ok x => cases x <;> exact h
    | error e => exact h.elim⟩
theorem kbm0 {K : PySem.W.Frag} {x qual s : Str} {params : Arguments} {body : List Stmt} {scope : Scope} {kV doc pm cd ct : Value} {an : Option Addr} (h : ∀ z, bindArgs (PySem.W.fnOf x qual params body scope .none kV doc pm an cd ct) ⟨[z], []⟩ = pure [(s, z)]) : KBn K (PySem.W.fnOf x qual params body scope .none kV doc pm an cd ct) [s] 1 [] (fun us ws => us ++ ws) (fun vs zs => vs ++ zs) :=
  ⟨fun st us ws _ h1 h2 => match us, ws, h1, h2 with | [z], [], _, _ => .of_eq (h z), fun r1 r2 => r1.append r2⟩
theorem kbn1 {K : PySem.W.Frag} {x qual p : Str} {params : Arguments} {body : List Stmt} {scope : Scope} {kV doc pm cd ct : Value} {an : Option Addr} (h : ∀ u, bindArgs (PySem.W.fnOf x qual params body scope .none kV doc pm an cd ct) ⟨[], [(p, u)]⟩ = pure [(p, u)]) : KBn K (PySem.W.fnOf x qual params body scope .none kV doc pm an cd ct) [p] 0 [p] (fun _ ws => ws) (fun _ zs => zs) :=
  ⟨fun s us ws _ h1 h2 => match us, ws, h1, h2 with | [], [u], _, _ => .of_eq (h u), fun _ r => r⟩
theorem kbn2 {K : PySem.W.Frag} {x qual p p2 : Str} {params : Arguments} {body : List Stmt} {scope : Scope} {kV doc pm cd ct : Value} {an : Option Addr} (h : ∀ u v, bindArgs (PySem.W.fnOf x qual params body scope .none kV doc pm an cd ct) ⟨[], [(p, u), (p2, v)]⟩ = pure [(p, u), (p2, v)]) : KBn K (PySem.W.fnOf x qual params body scope .none kV doc pm an cd ct) [p, p2] 0 [p, p2] (fun _ ws => ws) (fun _ zs => zs) :=
  ⟨fun s us ws _ h1 h2 => match us, ws, h1, h2 with | [], [u, v], _, _ => .of_eq (h u v), fun _ r => r⟩
theorem kbn3 {K : PySem.W.Frag} {x qual p p2 p3 : Str} {params : Arguments} {body : List Stmt} {scope : Scope} {kV doc pm cd ct : Value} {an : Option Addr} (h : ∀ u v w, bindArgs (PySem.W.fnOf x qual params body scope .none kV doc pm an cd ct) ⟨[], [(p, u), (p2, v), (p3, w)]⟩ = pure [(p, u), (p2, v), (p3, w)]) : KBn K (PySem.W.fnOf x qual params body scope .none kV doc pm an cd ct) [p, p2, p3] 0 [p, p2, p3] (fun _ ws => ws) (fun _ zs => zs) :=
  ⟨fun s us ws _ h1 h2 => match us, ws, h1, h2 with | [], [u, v, w], _, _ => .of_eq (h u v w), fun _ r => r⟩
theorem kbm1 {K : PySem.W.Frag} {x qual s p : Str} {params : Arguments} {body : List Stmt} {scope : Scope} {kV doc pm cd ct : Value} {an : Option Addr} (h : ∀ z u, bindArgs (PySem.W.fnOf x qual params body scope .none kV doc pm an cd ct) ⟨[z], [(p, u)]⟩ = pure [(s, z), (p, u)]) : KBn K (PySem.W.fnOf x qual params body scope .none kV doc pm an cd ct) [s, p] 1 [p] (fun us ws => us ++ ws) (fun vs zs => vs ++ zs) :=
  ⟨fun st us ws _ h1 h2 => match us, ws, h1, h2 with | [z], [u], _, _ => .of_eq (h z u), fun r1 r2 => r1.append r2⟩
theorem kbm2 {K : PySem.W.Frag} {x qual s p p2 : Str} {params : Arguments} {body : List Stmt} {scope : Scope} {kV doc pm cd ct : Value} {an : Option Addr} (h : ∀ z u v, bindArgs (PySem.W.fnOf x qual params body scope .none kV doc pm an cd ct) ⟨[z], [(p, u), (p2, v)]⟩ = pure [(s, z), (p, u), (p2, v)]) : KBn K (PySem.W.fnOf x qual params body scope .none kV doc pm an cd ct) [s, p, p2] 1 [p, p2] (fun us ws => us ++ ws) (fun vs zs => vs ++ zs) :=
  ⟨fun st us ws _ h1 h2 => match us, ws, h1, h2 with | [z], [u, v], _, _ => .of_eq (h z u v), fun r1 r2 => r1.append r2⟩
theorem all_mk {l : PySem.W.OpenLaw} {w : World} {K : PySem.W.Frag} {h : Heap} {mg : Str → Option Value} {fa : Addr} (X : K.In h) (G : h.Ns mainGlobals mg) (hfa : mg "law" = some (.ref fa))
    {C : Addr} {D : Addr} {U : Addr} (eC : PySem.W.nsIn K mainGlobals "Table" = some (some (.ref C))) (pgC : PySem.W.plainGet K C Str.empty = true) (hdC : PySem.W.hasDictIn K C = true) (poC : PySem.W.plainOver K C = true) (saC : PySem.W.findIn K (.ref C) "__setattr__" = some (some (.builtin "object.__setattr__"))) (mkC : PySem.W.makesIn K C = true) (kcC : PySem.W.keepIn K (.ref C) = true) (naC0 : PySem.W.findIn K (.ref C) "_counts" = some none) (eD : PySem.W.nsIn K mainGlobals "LineModel" = some (some (.ref D))) (pgD : PySem.W.plainGet K D Str.empty = true) (hdD : PySem.W.hasDictIn K D = true) (poD : PySem.W.plainOver K D = true) (saD : PySem.W.findIn K (.ref D) "__setattr__" = some (some (.builtin "object.__setattr__"))) (mkD : PySem.W.makesIn K D = true) (kcD : PySem.W.keepIn K (.ref D) = true) (naD0 : PySem.W.findIn K (.ref D) "_width" = some none) (naD1 : PySem.W.findIn K (.ref D) "_planes" = some none) (naD2 : PySem.W.findIn K (.ref D) "_cells" = some none) (naD3 : PySem.W.findIn K (.ref D) "_neighbours" = some none) (naD4 : PySem.W.findIn K (.ref D) "_stretches" = some none) (naD5 : PySem.W.findIn K (.ref D) "_since" = some none) (naD6 : PySem.W.findIn K (.ref D) "_nonzero_beside" = some none) (naD7 : PySem.W.findIn K (.ref D) "_tables" = some none) (naD8 : PySem.W.findIn K (.ref D) "_plane" = some none) (naD9 : PySem.W.findIn K (.ref D) "_queue" = some none) (naD10 : PySem.W.findIn K (.ref D) "_place" = some none) (eU : PySem.W.nsIn K mainGlobals "Window" = some (some (.ref U))) (pgU : PySem.W.plainGet K U Str.empty = true) (hdU : PySem.W.hasDictIn K U = true) (poU : PySem.W.plainOver K U = true) (saU : PySem.W.findIn K (.ref U) "__setattr__" = some (some (.builtin "object.__setattr__"))) (mkU : PySem.W.makesIn K U = true) (kcU : PySem.W.keepIn K (.ref U) = true) (naU0 : PySem.W.findIn K (.ref U) "_bits" = some none) (naU1 : PySem.W.findIn K (.ref U) "_place" = some none) (naU2 : PySem.W.findIn K (.ref U) "_offset" = some none) (naU3 : PySem.W.findIn K (.ref U) "_size" = some none) (naU4 : PySem.W.findIn K (.ref U) "_width" = some none)
    {od0 an0 : Option Addr} {sl0 : Array (Option Value)} {oc0 kV0 dc0 pm0 cd0 ct0 : Value} {f0 : Addr}
    (a0 : PySem.W.nsIn K mainGlobals "is_number" = some (some (.ref f0))) (l0 : K.lookup f0 = some ⟨oc0, od0, .func (PySem.W.fnOf "is_number" "is_number" (defArgs s_is_number) (defBody s_is_number) (defScope s_is_number) .none kV0 dc0 pm0 an0 cd0 ct0), sl0⟩) (c0 : PySem.W.codeIn K cd0 "is_number" = true) (k0 : PySem.W.keepIn K (.ref f0) = true)
    {od1 an1 : Option Addr} {sl1 : Array (Option Value)} {oc1 kV1 dc1 pm1 cd1 ct1 : Value} {f1 : Addr}
    (a1 : PySem.W.nsIn K mainGlobals "check_bits" = some (some (.ref f1))) (l1 : K.lookup f1 = some ⟨oc1, od1, .func (PySem.W.fnOf "check_bits" "check_bits" (defArgs s_check_bits) (defBody s_check_bits) (defScope s_check_bits) .none kV1 dc1 pm1 an1 cd1 ct1), sl1⟩) (c1 : PySem.W.codeIn K cd1 "check_bits" = true) (k1 : PySem.W.keepIn K (.ref f1) = true)
    {od2 an2 : Option Addr} {sl2 : Array (Option Value)} {oc2 kV2 dc2 pm2 cd2 ct2 : Value} {f2 : Addr}
    (a2 : PySem.W.nsIn K mainGlobals "borders" = some (some (.ref f2))) (l2 : K.lookup f2 = some ⟨oc2, od2, .func (PySem.W.fnOf "borders" "borders" (defArgs s_borders) (defBody s_borders) (defScope s_borders) .none kV2 dc2 pm2 an2 cd2 ct2), sl2⟩) (c2 : PySem.W.codeIn K cd2 "borders" = true) (k2 : PySem.W.keepIn K (.ref f2) = true)
    {od3 an3 : Option Addr} {sl3 : Array (Option Value)} {oc3 kV3 dc3 pm3 cd3 ct3 : Value} {f3 : Addr}
    (a3 : PySem.W.nsIn K mainGlobals "doublings_of" = some (some (.ref f3))) (l3 : K.lookup f3 = some ⟨oc3, od3, .func (PySem.W.fnOf "doublings_of" "doublings_of" (defArgs s_doublings_of) (defBody s_doublings_of) (defScope s_doublings_of) .none kV3 dc3 pm3 an3 cd3 ct3), sl3⟩) (c3 : PySem.W.codeIn K cd3 "doublings_of" = true) (k3 : PySem.W.keepIn K (.ref f3) = true)
    {od4 an4 : Option Addr} {sl4 : Array (Option Value)} {oc4 kV4 dc4 pm4 cd4 ct4 : Value} {f4 : Addr}
    (a4 : PySem.W.findIn K (.ref U) "__init__" = some (some (.ref f4))) (i4 : PySem.W.isFn K (.ref f4) = true)
    (l4 : K.lookup f4 = some ⟨oc4, od4, .func (PySem.W.fnOf "__init__" "Window.__init__" (defArgs s_Window_init) (defBody s_Window_init) (defScope s_Window_init) .none kV4 dc4 pm4 an4 cd4 ct4), sl4⟩) (c4 : PySem.W.codeIn K cd4 "Window.__init__" = true) (k4 : PySem.W.keepIn K (.ref f4) = true)
    {od5 an5 : Option Addr} {sl5 : Array (Option Value)} {oc5 kV5 dc5 pm5 cd5 ct5 : Value} {f5 : Addr}
    (a5 : PySem.W.findIn K (.ref U) "letter" = some (some (.ref f5))) (i5 : PySem.W.isFn K (.ref f5) = true)
    (l5 : K.lookup f5 = some ⟨oc5, od5, .func (PySem.W.fnOf "letter" "Window.letter" (defArgs s_Window_letter) (defBody s_Window_letter) (defScope s_Window_letter) .none kV5 dc5 pm5 an5 cd5 ct5), sl5⟩) (c5 : PySem.W.codeIn K cd5 "Window.letter" = true) (k5 : PySem.W.keepIn K (.ref f5) = true)
    {od6 an6 : Option Addr} {sl6 : Array (Option Value)} {oc6 kV6 dc6 pm6 cd6 ct6 : Value} {f6 : Addr}
    (a6 : PySem.W.findIn K (.ref U) "_double" = some (some (.ref f6))) (i6 : PySem.W.isFn K (.ref f6) = true)
    (l6 : K.lookup f6 = some ⟨oc6, od6, .func (PySem.W.fnOf "_double" "Window._double" (defArgs s_Window_double) (defBody s_Window_double) (defScope s_Window_double) .none kV6 dc6 pm6 an6 cd6 ct6), sl6⟩) (c6 : PySem.W.codeIn K cd6 "Window._double" = true) (k6 : PySem.W.keepIn K (.ref f6) = true)
    {od7 an7 : Option Addr} {sl7 : Array (Option Value)} {oc7 kV7 dc7 pm7 cd7 ct7 : Value} {f7 : Addr}
    (a7 : PySem.W.nsIn K mainGlobals "told_letters" = some (some (.ref f7))) (l7 : K.lookup f7 = some ⟨oc7, od7, .func (PySem.W.fnOf "told_letters" "told_letters" (defArgs s_told_letters) (defBody s_told_letters) (defScope s_told_letters) .none kV7 dc7 pm7 an7 cd7 ct7), sl7⟩) (c7 : PySem.W.codeIn K cd7 "told_letters" = true) (k7 : PySem.W.keepIn K (.ref f7) = true)
    {od8 an8 : Option Addr} {sl8 : Array (Option Value)} {oc8 kV8 dc8 pm8 cd8 ct8 : Value} {f8 : Addr}
    (a8 : PySem.W.nsIn K mainGlobals "check_rect" = some (some (.ref f8))) (l8 : K.lookup f8 = some ⟨oc8, od8, .func (PySem.W.fnOf "check_rect" "check_rect" (defArgs s_check_rect) (defBody s_check_rect) (defScope s_check_rect) .none kV8 dc8 pm8 an8 cd8 ct8), sl8⟩) (c8 : PySem.W.codeIn K cd8 "check_rect" = true) (k8 : PySem.W.keepIn K (.ref f8) = true)
    {od9 an9 : Option Addr} {sl9 : Array (Option Value)} {oc9 kV9 dc9 pm9 cd9 ct9 : Value} {f9 : Addr}
    (a9 : PySem.W.nsIn K mainGlobals "cells_of" = some (some (.ref f9))) (l9 : K.lookup f9 = some ⟨oc9, od9, .func (PySem.W.fnOf "cells_of" "cells_of" (defArgs s_cells_of) (defBody s_cells_of) (defScope s_cells_of) .none kV9 dc9 pm9 an9 cd9 ct9), sl9⟩) (c9 : PySem.W.codeIn K cd9 "cells_of" = true) (k9 : PySem.W.keepIn K (.ref f9) = true)
    {od10 an10 : Option Addr} {sl10 : Array (Option Value)} {oc10 kV10 dc10 pm10 cd10 ct10 : Value} {f10 : Addr}
    (a10 : PySem.W.findIn K (.ref C) "__init__" = some (some (.ref f10))) (i10 : PySem.W.isFn K (.ref f10) = true)
    (l10 : K.lookup f10 = some ⟨oc10, od10, .func (PySem.W.fnOf "__init__" "Table.__init__" (defArgs s_Table_init) (defBody s_Table_init) (defScope s_Table_init) .none kV10 dc10 pm10 an10 cd10 ct10), sl10⟩) (c10 : PySem.W.codeIn K cd10 "Table.__init__" = true) (k10 : PySem.W.keepIn K (.ref f10) = true)
    {od11 an11 : Option Addr} {sl11 : Array (Option Value)} {oc11 kV11 dc11 pm11 cd11 ct11 : Value} {f11 : Addr}
    {p11 : Addr} {rs11 : List Value} (a11 : PySem.W.findIn K (.ref C) "counts" = some (some (.ref p11))) (g11 : PySem.W.specialIn K (.ref p11) "__get__" = some (some (.builtin "property.__get__"))) (t11 : PySem.W.takesIn K (.ref p11) = some true) (r11 : PySem.W.recIn K p11 "property" = some (.ref f11 :: rs11))
    (l11 : K.lookup f11 = some ⟨oc11, od11, .func (PySem.W.fnOf "counts" "Table.counts" (defArgs s_Table_counts) (defBody s_Table_counts) (defScope s_Table_counts) .none kV11 dc11 pm11 an11 cd11 ct11), sl11⟩) (c11 : PySem.W.codeIn K cd11 "Table.counts" = true) (k11 : PySem.W.keepIn K (.ref f11) = true)
    {od12 an12 : Option Addr} {sl12 : Array (Option Value)} {oc12 kV12 dc12 pm12 cd12 ct12 : Value} {f12 : Addr}
    (a12 : PySem.W.findIn K (.ref C) "learn" = some (some (.ref f12))) (i12 : PySem.W.isFn K (.ref f12) = true)
    (l12 : K.lookup f12 = some ⟨oc12, od12, .func (PySem.W.fnOf "learn" "Table.learn" (defArgs s_Table_learn) (defBody s_Table_learn) (defScope s_Table_learn) .none kV12 dc12 pm12 an12 cd12 ct12), sl12⟩) (c12 : PySem.W.codeIn K cd12 "Table.learn" = true) (k12 : PySem.W.keepIn K (.ref f12) = true)
    {od13 an13 : Option Addr} {sl13 : Array (Option Value)} {oc13 kV13 dc13 pm13 cd13 ct13 : Value} {f13 : Addr}
    (a13 : PySem.W.findIn K (.ref D) "__init__" = some (some (.ref f13))) (i13 : PySem.W.isFn K (.ref f13) = true)
    (l13 : K.lookup f13 = some ⟨oc13, od13, .func (PySem.W.fnOf "__init__" "LineModel.__init__" (defArgs s_LineModel_init) (defBody s_LineModel_init) (defScope s_LineModel_init) .none kV13 dc13 pm13 an13 cd13 ct13), sl13⟩) (c13 : PySem.W.codeIn K cd13 "LineModel.__init__" = true) (k13 : PySem.W.keepIn K (.ref f13) = true)
    {od14 an14 : Option Addr} {sl14 : Array (Option Value)} {oc14 kV14 dc14 pm14 cd14 ct14 : Value} {f14 : Addr}
    (a14 : PySem.W.findIn K (.ref D) "wanted" = some (some (.ref f14))) (i14 : PySem.W.isFn K (.ref f14) = true)
    (l14 : K.lookup f14 = some ⟨oc14, od14, .func (PySem.W.fnOf "wanted" "LineModel.wanted" (defArgs s_LineModel_wanted) (defBody s_LineModel_wanted) (defScope s_LineModel_wanted) .none kV14 dc14 pm14 an14 cd14 ct14), sl14⟩) (c14 : PySem.W.codeIn K cd14 "LineModel.wanted" = true) (k14 : PySem.W.keepIn K (.ref f14) = true)
    {od15 an15 : Option Addr} {sl15 : Array (Option Value)} {oc15 kV15 dc15 pm15 cd15 ct15 : Value} {f15 : Addr}
    (a15 : PySem.W.findIn K (.ref D) "wanted_counts" = some (some (.ref f15))) (i15 : PySem.W.isFn K (.ref f15) = true)
    (l15 : K.lookup f15 = some ⟨oc15, od15, .func (PySem.W.fnOf "wanted_counts" "LineModel.wanted_counts" (defArgs s_LineModel_wanted_counts) (defBody s_LineModel_wanted_counts) (defScope s_LineModel_wanted_counts) .none kV15 dc15 pm15 an15 cd15 ct15), sl15⟩) (c15 : PySem.W.codeIn K cd15 "LineModel.wanted_counts" = true) (k15 : PySem.W.keepIn K (.ref f15) = true)
    {od16 an16 : Option Addr} {sl16 : Array (Option Value)} {oc16 kV16 dc16 pm16 cd16 ct16 : Value} {f16 : Addr}
    (a16 : PySem.W.findIn K (.ref D) "take" = some (some (.ref f16))) (i16 : PySem.W.isFn K (.ref f16) = true)
    (l16 : K.lookup f16 = some ⟨oc16, od16, .func (PySem.W.fnOf "take" "LineModel.take" (defArgs s_LineModel_take) (defBody s_LineModel_take) (defScope s_LineModel_take) .none kV16 dc16 pm16 an16 cd16 ct16), sl16⟩) (c16 : PySem.W.codeIn K cd16 "LineModel.take" = true) (k16 : PySem.W.keepIn K (.ref f16) = true)
    {od17 an17 : Option Addr} {sl17 : Array (Option Value)} {oc17 kV17 dc17 pm17 cd17 ct17 : Value} {f17 : Addr}
    (a17 : PySem.W.findIn K (.ref D) "_is_complete" = some (some (.ref f17))) (i17 : PySem.W.isFn K (.ref f17) = true)
    (l17 : K.lookup f17 = some ⟨oc17, od17, .func (PySem.W.fnOf "_is_complete" "LineModel._is_complete" (defArgs s_LineModel_is_complete) (defBody s_LineModel_is_complete) (defScope s_LineModel_is_complete) .none kV17 dc17 pm17 an17 cd17 ct17), sl17⟩) (c17 : PySem.W.codeIn K cd17 "LineModel._is_complete" = true) (k17 : PySem.W.keepIn K (.ref f17) = true)
    {od18 an18 : Option Addr} {sl18 : Array (Option Value)} {oc18 kV18 dc18 pm18 cd18 ct18 : Value} {f18 : Addr}
    (a18 : PySem.W.findIn K (.ref D) "_table_number" = some (some (.ref f18))) (i18 : PySem.W.isFn K (.ref f18) = true)
    (l18 : K.lookup f18 = some ⟨oc18, od18, .func (PySem.W.fnOf "_table_number" "LineModel._table_number" (defArgs s_LineModel_table_number) (defBody s_LineModel_table_number) (defScope s_LineModel_table_number) .none kV18 dc18 pm18 an18 cd18 ct18), sl18⟩) (c18 : PySem.W.codeIn K cd18 "LineModel._table_number" = true) (k18 : PySem.W.keepIn K (.ref f18) = true)
    {od19 an19 : Option Addr} {sl19 : Array (Option Value)} {oc19 kV19 dc19 pm19 cd19 ct19 : Value} {f19 : Addr}
    (a19 : PySem.W.findIn K (.ref D) "_begin_plane" = some (some (.ref f19))) (i19 : PySem.W.isFn K (.ref f19) = true)
    (l19 : K.lookup f19 = some ⟨oc19, od19, .func (PySem.W.fnOf "_begin_plane" "LineModel._begin_plane" (defArgs s_LineModel_begin_plane) (defBody s_LineModel_begin_plane) (defScope s_LineModel_begin_plane) .none kV19 dc19 pm19 an19 cd19 ct19), sl19⟩) (c19 : PySem.W.codeIn K cd19 "LineModel._begin_plane" = true) (k19 : PySem.W.keepIn K (.ref f19) = true)
    {od20 an20 : Option Addr} {sl20 : Array (Option Value)} {oc20 kV20 dc20 pm20 cd20 ct20 : Value} {f20 : Addr}
    (a20 : PySem.W.findIn K (.ref D) "_kind_of" = some (some (.ref f20))) (i20 : PySem.W.isFn K (.ref f20) = true)
    (l20 : K.lookup f20 = some ⟨oc20, od20, .func (PySem.W.fnOf "_kind_of" "LineModel._kind_of" (defArgs s_LineModel_kind_of) (defBody s_LineModel_kind_of) (defScope s_LineModel_kind_of) .none kV20 dc20 pm20 an20 cd20 ct20), sl20⟩) (c20 : PySem.W.codeIn K cd20 "LineModel._kind_of" = true) (k20 : PySem.W.keepIn K (.ref f20) = true)
    {od21 an21 : Option Addr} {sl21 : Array (Option Value)} {oc21 kV21 dc21 pm21 cd21 ct21 : Value} {f21 : Addr}
    (a21 : PySem.W.findIn K (.ref D) "_sharpen" = some (some (.ref f21))) (i21 : PySem.W.isFn K (.ref f21) = true)
    (l21 : K.lookup f21 = some ⟨oc21, od21, .func (PySem.W.fnOf "_sharpen" "LineModel._sharpen" (defArgs s_LineModel_sharpen) (defBody s_LineModel_sharpen) (defScope s_LineModel_sharpen) .none kV21 dc21 pm21 an21 cd21 ct21), sl21⟩) (c21 : PySem.W.codeIn K cd21 "LineModel._sharpen" = true) (k21 : PySem.W.keepIn K (.ref f21) = true)
    {od22 an22 : Option Addr} {sl22 : Array (Option Value)} {oc22 kV22 dc22 pm22 cd22 ct22 : Value} {f22 : Addr}
    (a22 : PySem.W.findIn K (.ref D) "_tell_sign" = some (some (.ref f22))) (i22 : PySem.W.isFn K (.ref f22) = true)
    (l22 : K.lookup f22 = some ⟨oc22, od22, .func (PySem.W.fnOf "_tell_sign" "LineModel._tell_sign" (defArgs s_LineModel_tell_sign) (defBody s_LineModel_tell_sign) (defScope s_LineModel_tell_sign) .none kV22 dc22 pm22 an22 cd22 ct22), sl22⟩) (c22 : PySem.W.codeIn K cd22 "LineModel._tell_sign" = true) (k22 : PySem.W.keepIn K (.ref f22) = true)
    {od23 an23 : Option Addr} {sl23 : Array (Option Value)} {oc23 kV23 dc23 pm23 cd23 ct23 : Value} {f23 : Addr}
    (a23 : PySem.W.nsIn K mainGlobals "_neighbours_of" = some (some (.ref f23))) (l23 : K.lookup f23 = some ⟨oc23, od23, .func (PySem.W.fnOf "_neighbours_of" "_neighbours_of" (defArgs s_neighbours_of) (defBody s_neighbours_of) (defScope s_neighbours_of) .none kV23 dc23 pm23 an23 cd23 ct23), sl23⟩) (c23 : PySem.W.codeIn K cd23 "_neighbours_of" = true) (k23 : PySem.W.keepIn K (.ref f23) = true)
    {od24 an24 : Option Addr} {sl24 : Array (Option Value)} {oc24 kV24 dc24 pm24 cd24 ct24 : Value} {f24 : Addr}
    (a24 : PySem.W.nsIn K mainGlobals "_law_pool" = some (some (.ref f24))) (l24 : K.lookup f24 = some ⟨oc24, od24, .func (PySem.W.fnOf "_law_pool" "_law_pool" (defArgs s_law_pool) (defBody s_law_pool) (defScope s_law_pool) .none kV24 dc24 pm24 an24 cd24 ct24), sl24⟩) (c24 : PySem.W.codeIn K cd24 "_law_pool" = true) (k24 : PySem.W.keepIn K (.ref f24) = true)
    {od25 an25 : Option Addr} {sl25 : Array (Option Value)} {oc25 kV25 dc25 pm25 cd25 ct25 : Value} {f25 : Addr}
    (a25 : PySem.W.nsIn K mainGlobals "_law_take" = some (some (.ref f25))) (l25 : K.lookup f25 = some ⟨oc25, od25, .func (PySem.W.fnOf "_law_take" "_law_take" (defArgs s_law_take) (defBody s_law_take) (defScope s_law_take) .none kV25 dc25 pm25 an25 cd25 ct25), sl25⟩) (c25 : PySem.W.codeIn K cd25 "_law_take" = true) (k25 : PySem.W.keepIn K (.ref f25) = true)
    {od26 an26 : Option Addr} {sl26 : Array (Option Value)} {oc26 kV26 dc26 pm26 cd26 ct26 : Value} {f26 : Addr}
    (a26 : PySem.W.nsIn K mainGlobals "_law_one" = some (some (.ref f26))) (l26 : K.lookup f26 = some ⟨oc26, od26, .func (PySem.W.fnOf "_law_one" "_law_one" (defArgs s_law_one) (defBody s_law_one) (defScope s_law_one) .none kV26 dc26 pm26 an26 cd26 ct26), sl26⟩) (c26 : PySem.W.codeIn K cd26 "_law_one" = true) (k26 : PySem.W.keepIn K (.ref f26) = true)
    {od27 an27 : Option Addr} {sl27 : Array (Option Value)} {oc27 kV27 dc27 pm27 cd27 ct27 : Value} {f27 : Addr}
    (a27 : PySem.W.nsIn K mainGlobals "_law_bits" = some (some (.ref f27))) (l27 : K.lookup f27 = some ⟨oc27, od27, .func (PySem.W.fnOf "_law_bits" "_law_bits" (defArgs s_law_bits) (defBody s_law_bits) (defScope s_law_bits) .none kV27 dc27 pm27 an27 cd27 ct27), sl27⟩) (c27 : PySem.W.codeIn K cd27 "_law_bits" = true) (k27 : PySem.W.keepIn K (.ref f27) = true)
    {od28 an28 : Option Addr} {sl28 : Array (Option Value)} {oc28 kV28 dc28 pm28 cd28 ct28 : Value} {f28 : Addr}
    (a28 : PySem.W.nsIn K mainGlobals "_law_borders" = some (some (.ref f28))) (l28 : K.lookup f28 = some ⟨oc28, od28, .func (PySem.W.fnOf "_law_borders" "_law_borders" (defArgs s_law_borders) (defBody s_law_borders) (defScope s_law_borders) .none kV28 dc28 pm28 an28 cd28 ct28), sl28⟩) (c28 : PySem.W.codeIn K cd28 "_law_borders" = true) (k28 : PySem.W.keepIn K (.ref f28) = true)
    {od29 an29 : Option Addr} {sl29 : Array (Option Value)} {oc29 kV29 dc29 pm29 cd29 ct29 : Value} {f29 : Addr}
    (a29 : PySem.W.nsIn K mainGlobals "_law_child" = some (some (.ref f29))) (l29 : K.lookup f29 = some ⟨oc29, od29, .func (PySem.W.fnOf "_law_child" "_law_child" (defArgs s_law_child) (defBody s_law_child) (defScope s_law_child) .none kV29 dc29 pm29 an29 cd29 ct29), sl29⟩) (c29 : PySem.W.codeIn K cd29 "_law_child" = true) (k29 : PySem.W.keepIn K (.ref f29) = true)
    {od30 an30 : Option Addr} {sl30 : Array (Option Value)} {oc30 kV30 dc30 pm30 cd30 ct30 : Value} {f30 : Addr}
    (a30 : PySem.W.nsIn K mainGlobals "_law_line" = some (some (.ref f30))) (l30 : K.lookup f30 = some ⟨oc30, od30, .func (PySem.W.fnOf "_law_line" "_law_line" (defArgs s_law_line) (defBody s_law_line) (defScope s_law_line) .none kV30 dc30 pm30 an30 cd30 ct30), sl30⟩) (c30 : PySem.W.codeIn K cd30 "_law_line" = true) (k30 : PySem.W.keepIn K (.ref f30) = true)
    {od31 an31 : Option Addr} {sl31 : Array (Option Value)} {oc31 kV31 dc31 pm31 cd31 ct31 : Value} {f31 : Addr}
    (a31 : PySem.W.nsIn K mainGlobals "_law_wants" = some (some (.ref f31))) (l31 : K.lookup f31 = some ⟨oc31, od31, .func (PySem.W.fnOf "_law_wants" "_law_wants" (defArgs s_law_wants) (defBody s_law_wants) (defScope s_law_wants) .none kV31 dc31 pm31 an31 cd31 ct31), sl31⟩) (c31 : PySem.W.codeIn K cd31 "_law_wants" = true) (k31 : PySem.W.keepIn K (.ref f31) = true)
    {od32 an32 : Option Addr} {sl32 : Array (Option Value)} {oc32 kV32 dc32 pm32 cd32 ct32 : Value} {f32 : Addr}
    (a32 : PySem.W.nsIn K mainGlobals "_law_holds" = some (some (.ref f32))) (l32 : K.lookup f32 = some ⟨oc32, od32, .func (PySem.W.fnOf "_law_holds" "_law_holds" (defArgs s_law_holds) (defBody s_law_holds) (defScope s_law_holds) .none kV32 dc32 pm32 an32 cd32 ct32), sl32⟩) (c32 : PySem.W.codeIn K cd32 "_law_holds" = true) (k32 : PySem.W.keepIn K (.ref f32) = true)
    {od33 an33 : Option Addr} {sl33 : Array (Option Value)} {oc33 kV33 dc33 pm33 cd33 ct33 : Value} {f33 : Addr}
    (a33 : PySem.W.nsIn K mainGlobals "_law_due" = some (some (.ref f33))) (l33 : K.lookup f33 = some ⟨oc33, od33, .func (PySem.W.fnOf "_law_due" "_law_due" (defArgs s_law_due) (defBody s_law_due) (defScope s_law_due) .none kV33 dc33 pm33 an33 cd33 ct33), sl33⟩) (c33 : PySem.W.codeIn K cd33 "_law_due" = true) (k33 : PySem.W.keepIn K (.ref f33) = true)
    {od34 an34 : Option Addr} {sl34 : Array (Option Value)} {oc34 kV34 dc34 pm34 cd34 ct34 : Value} {f34 : Addr}
    (a34 : PySem.W.nsIn K mainGlobals "_law_led" = some (some (.ref f34))) (l34 : K.lookup f34 = some ⟨oc34, od34, .func (PySem.W.fnOf "_law_led" "_law_led" (defArgs s_law_led) (defBody s_law_led) (defScope s_law_led) .none kV34 dc34 pm34 an34 cd34 ct34), sl34⟩) (c34 : PySem.W.codeIn K cd34 "_law_led" = true) (k34 : PySem.W.keepIn K (.ref f34) = true)
    {od35 an35 : Option Addr} {sl35 : Array (Option Value)} {oc35 kV35 dc35 pm35 cd35 ct35 : Value} {f35 : Addr}
    (a35 : PySem.W.nsIn K mainGlobals "_law_drawn" = some (some (.ref f35))) (l35 : K.lookup f35 = some ⟨oc35, od35, .func (PySem.W.fnOf "_law_drawn" "_law_drawn" (defArgs s_law_drawn) (defBody s_law_drawn) (defScope s_law_drawn) .none kV35 dc35 pm35 an35 cd35 ct35), sl35⟩) (c35 : PySem.W.codeIn K cd35 "_law_drawn" = true) (k35 : PySem.W.keepIn K (.ref f35) = true)
    {od36 an36 : Option Addr} {sl36 : Array (Option Value)} {oc36 kV36 dc36 pm36 cd36 ct36 : Value} {f36 : Addr}
    (a36 : PySem.W.nsIn K mainGlobals "_law_is_refused" = some (some (.ref f36))) (l36 : K.lookup f36 = some ⟨oc36, od36, .func (PySem.W.fnOf "_law_is_refused" "_law_is_refused" (defArgs s_law_is_refused) (defBody s_law_is_refused) (defScope s_law_is_refused) .none kV36 dc36 pm36 an36 cd36 ct36), sl36⟩) (c36 : PySem.W.codeIn K cd36 "_law_is_refused" = true) (k36 : PySem.W.keepIn K (.ref f36) = true)
    {od37 an37 : Option Addr} {sl37 : Array (Option Value)} {oc37 kV37 dc37 pm37 cd37 ct37 : Value} {f37 : Addr}
    (a37 : PySem.W.nsIn K mainGlobals "_law_right" = some (some (.ref f37))) (l37 : K.lookup f37 = some ⟨oc37, od37, .func (PySem.W.fnOf "_law_right" "_law_right" (defArgs s_law_right) (defBody s_law_right) (defScope s_law_right) .none kV37 dc37 pm37 an37 cd37 ct37), sl37⟩) (c37 : PySem.W.codeIn K cd37 "_law_right" = true) (k37 : PySem.W.keepIn K (.ref f37) = true)
    {od38 an38 : Option Addr} {sl38 : Array (Option Value)} {oc38 kV38 dc38 pm38 cd38 ct38 : Value} {f38 : Addr}
    (a38 : PySem.W.nsIn K mainGlobals "law" = some (some (.ref f38))) (l38 : K.lookup f38 = some ⟨oc38, od38, .func (PySem.W.fnOf "law" "law" (defArgs s_law) (defBody s_law) (defScope s_law) .none kV38 dc38 pm38 an38 cd38 ct38), sl38⟩) (c38 : PySem.W.codeIn K cd38 "law" = true) (k38 : PySem.W.keepIn K (.ref f38) = true)
    {B O N : Addr} {R0 R1 : Addr} {dR dS : Option Addr} {u1 u2 u3 v1 v2 v3 v4 v5 : Tok} {nR nS : Nat} {sR sS : Array (Option Value)} {tg tz q0 q1 q2 q3 q4 q5 q6 : Tok} 
    (y0 : PySem.W.nsIn K mainGlobals "int" = some none)
    (y1 : PySem.W.nsIn K mainGlobals "bool" = some none)
    (y2 : PySem.W.nsIn K mainGlobals "len" = some none)
    (y3 : PySem.W.nsIn K mainGlobals "max" = some none)
    (y4 : PySem.W.nsIn K mainGlobals "min" = some none)
    (y5 : PySem.W.nsIn K mainGlobals "range" = some none)
    (y6 : PySem.W.nsIn K mainGlobals "isinstance" = some none)
    (y7 : PySem.W.nsIn K mainGlobals "list" = some none)
    (y8 : PySem.W.nsIn K mainGlobals "sum" = some none)
    (y9 : PySem.W.nsIn K mainGlobals "enumerate" = some none)
    (y10 : PySem.W.nsIn K mainGlobals "repr" = some none)
    (eB : PySem.W.nsIn K mainGlobals "BadBits" = some (some (.ref B)))
    (eO : PySem.W.nsIn K mainGlobals "Outside" = some (some (.ref O)))
    (eN : PySem.W.nsIn K mainGlobals "NarrowError" = some (some (.ref N)))
    (m4 : PySem.W.specialIn K (.builtin "object.__class__") "__get__" = some (some (.builtin "getset_descriptor.__get__")))
    (m5 : PySem.W.takesIn K (.builtin "object.__class__") = some true)
    (exB : PySem.W.excIn K B [.type "ValueError", .type "Exception", .type "BaseException", .type "object"] "ValueError.__new__" = true)
    (kBc : PySem.W.keepIn K (.ref B) = true)
    (bBc : PySem.W.subIn K (.ref B) (.type "BaseException") = some true)
    (tBc : PySem.W.typeIn K (.ref B) = some (.type "type"))
    (m0B : PySem.W.findIn K (.ref B) "__getattribute__" = some (some (.builtin "BaseException.__getattribute__")))
    (m1B : PySem.W.findIn K (.ref B) "__getattr__" = some none)
    (m2B : PySem.W.hasDictIn K B = true)
    (m3B : PySem.W.findIn K (.ref B) "__class__" = some (some (.builtin "object.__class__")))
    (m6B : PySem.W.mroIn K B (.type "object") = some true)
    (sBB : PySem.W.subIn K (.ref B) (.ref B) = some true)
    (exO : PySem.W.excIn K O [.type "ValueError", .type "Exception", .type "BaseException", .type "object"] "ValueError.__new__" = true)
    (kOc : PySem.W.keepIn K (.ref O) = true)
    (bOc : PySem.W.subIn K (.ref O) (.type "BaseException") = some true)
    (tOc : PySem.W.typeIn K (.ref O) = some (.type "type"))
    (m0O : PySem.W.findIn K (.ref O) "__getattribute__" = some (some (.builtin "BaseException.__getattribute__")))
    (m1O : PySem.W.findIn K (.ref O) "__getattr__" = some none)
    (m2O : PySem.W.hasDictIn K O = true)
    (m3O : PySem.W.findIn K (.ref O) "__class__" = some (some (.builtin "object.__class__")))
    (m6O : PySem.W.mroIn K O (.type "object") = some true)
    (sOO : PySem.W.subIn K (.ref O) (.ref O) = some true)
    (iNc : PySem.W.isClsIn K N = true)
    (tNc : PySem.W.typeIn K (.ref N) = some (.type "type"))
    (sBN : PySem.W.subIn K (.ref B) (.ref N) = some true)
    (gw : PySem.W.nsIn K mainGlobals "LEAST_WIDTH" = some (some (.int 65536 tg)))
    (gm : PySem.W.nsIn K mainGlobals "MOST_TOTAL" = some (some (.int 64 tz)))
    (kq0 : PySem.W.nsIn K mainGlobals "NEAR" = some (some (.int 0 q0)))
    (kq1 : PySem.W.nsIn K mainGlobals "SHARPER" = some (some (.int 1 q1)))
    (kq2 : PySem.W.nsIn K mainGlobals "FAR" = some (some (.int 2 q2)))
    (kq3 : PySem.W.nsIn K mainGlobals "PASSES" = some (some (.int 3 q3)))
    (kq4 : PySem.W.nsIn K mainGlobals "FRESH_TABLE" = some (some (.int 3 q4)))
    (kq5 : PySem.W.nsIn K mainGlobals "OLD_TABLE" = some (some (.int 4 q5)))
    (kq6 : PySem.W.nsIn K mainGlobals "MOST_PLANES" = some (some (.int 20 q6)))
    (gR : PySem.W.nsIn K mainGlobals "ROOT" = some (some (.ref R0)))
    (lR : K.lookup R0 = some ⟨.type "tuple", dR, .seq #[.int 0 u1, .int 65536 u2, .int 16 u3] nR, sR⟩)
    (gS : PySem.W.nsIn K mainGlobals "TABLE_SIZES" = some (some (.ref R1)))
    (lS : K.lookup R1 = some ⟨.type "tuple", dS, .seq #[.int 3 v1, .int 3 v2, .int 3 v3, .int 2 v4, .int 2 v5] nS, sS⟩) :
    GdX.LawG l w K CX0 8 63 "_law_script" mg fa h := by
  have e := hfa.symm.trans (PySem.W.mg_of X G a38)
  cases e
  have T : Txt mg := ⟨PySem.W.mg_none_of X G y0, PySem.W.mg_none_of X G y1, PySem.W.mg_none_of X G y2, PySem.W.mg_none_of X G y3, PySem.W.mg_none_of X G y4, PySem.W.mg_none_of X G y5, PySem.W.mg_none_of X G y6, PySem.W.mg_none_of X G y7, PySem.W.mg_none_of X G y8, PySem.W.mg_none_of X G y9, PySem.W.mg_none_of X G y10⟩
  have EB : ECls K mg "BadBits" B := ⟨PySem.W.mg_of X G eB, exB, kBc, bBc, tBc, ⟨m0B, m1B, bBc, m2B, m3B, m4, m5, m6B⟩, PySem.W.exm_ref bBc m2B tBc sBB⟩
  have EO : ECls K mg "Outside" O := ⟨PySem.W.mg_of X G eO, exO, kOc, bOc, tOc, ⟨m0O, m1O, bOc, m2O, m3O, m4, m5, m6O⟩, PySem.W.exm_ref bOc m2O tOc sOO⟩
  have rBN := kit_ref iNc tNc sBN fun _ => sBB
  have c_gw := PySem.W.mg_of X G gw
  have c_gm := PySem.W.mg_of X G gm
  have c_kq0 := PySem.W.mg_of X G kq0
  have c_kq1 := PySem.W.mg_of X G kq1
  have c_kq2 := PySem.W.mg_of X G kq2
  have c_kq3 := PySem.W.mg_of X G kq3
  have c_kq4 := PySem.W.mg_of X G kq4
  have c_kq5 := PySem.W.mg_of X G kq5
  have c_kq6 := PySem.W.mg_of X G kq6
  have clC : Cls K C := ⟨pgC, hdC, poC, saC⟩
  have glC := PySem.W.mg_of X G eC
  have clD : Cls K D := ⟨pgD, hdD, poD, saD⟩
  have glD := PySem.W.mg_of X G eD
  have clU : Cls K U := ⟨pgU, hdU, poU, saU⟩
  have glU := PySem.W.mg_of X G eU
  have F0 := fun_mk (st := s_is_number) l0 c0 k0
  have b0 := F0.binds (ps := ["thing"]) fun _ _ _ _ _ _ us hl => match us, hl with | [_], _ => rfl
  have F1 := fun_mk (st := s_check_bits) l1 c1 k1
  have b1 := F1.binds (ps := ["bits"]) fun _ _ _ _ _ _ us hl => match us, hl with | [_], _ => rfl
  have F2 := fun_mk (st := s_borders) l2 c2 k2
  have b2 := F2.binds (ps := ["width", "counts"]) fun _ _ _ _ _ _ us hl => match us, hl with | [_, _], _ => rfl
  have F3 := fun_mk (st := s_doublings_of) l3 c3 k3
  have b3 := F3.binds (ps := ["width"]) fun _ _ _ _ _ _ us hl => match us, hl with | [_], _ => rfl
  have F4 := fun_mk (st := s_Window_init) l4 c4 k4
  have b4 := F4.binds (ps := ["self", "bits"]) fun _ _ _ _ _ _ us hl => match us, hl with | [_, _], _ => rfl
  have F5 := fun_mk (st := s_Window_letter) l5 c5 k5
  have b5 := F5.binds (ps := ["self", "counts"]) fun _ _ _ _ _ _ us hl => match us, hl with | [_, _], _ => rfl
  have F6 := fun_mk (st := s_Window_double) l6 c6 k6
  have b6 := F6.binds (ps := ["self", "times"]) fun _ _ _ _ _ _ us hl => match us, hl with | [_, _], _ => rfl
  have F7 := fun_mk (st := s_told_letters) l7 c7 k7
  have b7 := F7.binds (ps := ["bits", "model"]) fun _ _ _ _ _ _ us hl => match us, hl with | [_, _], _ => rfl
  have F8 := fun_mk (st := s_check_rect) l8 c8 k8
  have b8 := F8.binds (ps := ["rect"]) fun _ _ _ _ _ _ us hl => match us, hl with | [_], _ => rfl
  have F9 := fun_mk (st := s_cells_of) l9 c9 k9
  have b9 := F9.binds (ps := ["rect"]) fun _ _ _ _ _ _ us hl => match us, hl with | [_], _ => rfl
  have F10 := fun_mk (st := s_Table_init) l10 c10 k10
  have b10 := F10.binds (ps := ["self", "m"]) fun _ _ _ _ _ _ us hl => match us, hl with | [_, _], _ => rfl
  have F11 := fun_mk (st := s_Table_counts) l11 c11 k11
  have b11 := F11.binds (ps := ["self"]) fun _ _ _ _ _ _ us hl => match us, hl with | [_], _ => rfl
  have F12 := fun_mk (st := s_Table_learn) l12 c12 k12
  have b12 := F12.binds (ps := ["self", "j"]) fun _ _ _ _ _ _ us hl => match us, hl with | [_, _], _ => rfl
  have F13 := fun_mk (st := s_LineModel_init) l13 c13 k13
  have b13 := F13.binds (ps := ["self", "rect", "planes"]) fun _ _ _ _ _ _ us hl => match us, hl with | [_, _, _], _ => rfl
  have F14 := fun_mk (st := s_LineModel_wanted) l14 c14 k14
  have b14 := F14.binds (ps := ["self"]) fun _ _ _ _ _ _ us hl => match us, hl with | [_], _ => rfl
  have F15 := fun_mk (st := s_LineModel_wanted_counts) l15 c15 k15
  have b15 := F15.binds (ps := ["self"]) fun _ _ _ _ _ _ us hl => match us, hl with | [_], _ => rfl
  have F16 := fun_mk (st := s_LineModel_take) l16 c16 k16
  have b16 := F16.binds (ps := ["self", "letter"]) fun _ _ _ _ _ _ us hl => match us, hl with | [_, _], _ => rfl
  have F17 := fun_mk (st := s_LineModel_is_complete) l17 c17 k17
  have b17 := F17.binds (ps := ["self"]) fun _ _ _ _ _ _ us hl => match us, hl with | [_], _ => rfl
  have F18 := fun_mk (st := s_LineModel_table_number) l18 c18 k18
  have b18 := F18.binds (ps := ["self"]) fun _ _ _ _ _ _ us hl => match us, hl with | [_], _ => rfl
  have F19 := fun_mk (st := s_LineModel_begin_plane) l19 c19 k19
  have b19 := F19.binds (ps := ["self"]) fun _ _ _ _ _ _ us hl => match us, hl with | [_], _ => rfl
  have F20 := fun_mk (st := s_LineModel_kind_of) l20 c20 k20
  have b20 := F20.binds (ps := ["self", "k"]) fun _ _ _ _ _ _ us hl => match us, hl with | [_, _], _ => rfl
  have F21 := fun_mk (st := s_LineModel_sharpen) l21 c21 k21
  have b21 := F21.binds (ps := ["self", "k", "letter"]) fun _ _ _ _ _ _ us hl => match us, hl with | [_, _, _], _ => rfl
  have F22 := fun_mk (st := s_LineModel_tell_sign) l22 c22 k22
  have b22 := F22.binds (ps := ["self", "k", "letter"]) fun _ _ _ _ _ _ us hl => match us, hl with | [_, _, _], _ => rfl
  have F23 := fun_mk (st := s_neighbours_of) l23 c23 k23
  have b23 := F23.binds (ps := ["cells"]) fun _ _ _ _ _ _ us hl => match us, hl with | [_], _ => rfl
  have F24 := fun_mk (st := s_law_pool) l24 c24 k24
  have b24 := F24.binds (ps := ["_law_script", "_law_k"]) fun _ _ _ _ _ _ us hl => match us, hl with | [_, _], _ => rfl
  have F25 := fun_mk (st := s_law_take) l25 c25 k25
  have b25 := F25.binds (ps := ["_law_source", "_law_most"]) fun _ _ _ _ _ _ us hl => match us, hl with | [_, _], _ => rfl
  have F26 := fun_mk (st := s_law_one) l26 c26 k26
  have b26 := F26.binds (ps := ["_law_source", "_law_things"]) fun _ _ _ _ _ _ us hl => match us, hl with | [_, _], _ => rfl
  have F27 := fun_mk (st := s_law_bits) l27 c27 k27
  have b27 := F27.binds (ps := ["_law_source", "_law_most"]) fun _ _ _ _ _ _ us hl => match us, hl with | [_, _], _ => rfl
  have F28 := fun_mk (st := s_law_borders) l28 c28 k28
  have b28 := F28.binds (ps := ["_law_width", "_law_counts"]) fun _ _ _ _ _ _ us hl => match us, hl with | [_, _], _ => rfl
  have F29 := fun_mk (st := s_law_child) l29 c29 k29
  have b29 := F29.binds (ps := ["_law_node", "_law_counts", "_law_letter"]) fun _ _ _ _ _ _ us hl => match us, hl with | [_, _, _], _ => rfl
  have F30 := fun_mk (st := s_law_line) l30 c30 k30
  have b30 := F30.binds (ps := ["_law_source", "_law_most"]) fun _ _ _ _ _ _ us hl => match us, hl with | [_, _], _ => rfl
  have F31 := fun_mk (st := s_law_wants) l31 c31 k31
  have b31 := F31.binds (ps := ["_law_model"]) fun _ _ _ _ _ _ us hl => match us, hl with | [_], _ => rfl
  have F32 := fun_mk (st := s_law_holds) l32 c32 k32
  have b32 := F32.binds (ps := ["_law_node", "_law_value", "_law_many"]) fun _ _ _ _ _ _ us hl => match us, hl with | [_, _, _], _ => rfl
  have F33 := fun_mk (st := s_law_due) l33 c33 k33
  have b33 := F33.binds (ps := ["_law_bits_here", "_law_model"]) fun _ _ _ _ _ _ us hl => match us, hl with | [_, _], _ => rfl
  have F34 := fun_mk (st := s_law_led) l34 c34 k34
  have b34 := F34.binds (ps := ["_law_source", "_law_model"]) fun _ _ _ _ _ _ us hl => match us, hl with | [_, _], _ => rfl
  have F35 := fun_mk (st := s_law_drawn) l35 c35 k35
  have b35 := F35.binds (ps := ["_law_source", "_law_model"]) fun _ _ _ _ _ _ us hl => match us, hl with | [_, _], _ => rfl
  have F36 := fun_mk (st := s_law_is_refused) l36 c36 k36
  have b36 := F36.binds (ps := ["_law_bits_here", "_law_model"]) fun _ _ _ _ _ _ us hl => match us, hl with | [_, _], _ => rfl
  have F37 := fun_mk (st := s_law_right) l37 c37 k37
  have b37 := F37.binds (ps := ["_law_source"]) fun _ _ _ _ _ _ us hl => match us, hl with | [_], _ => rfl
  have F38 := fun_mk (st := s_law) l38 c38 k38
  have b38 := F38.binds (ps := ["_law_script"]) fun _ _ _ _ _ _ us hl => match us, hl with | [_], _ => rfl
  refine ⟨PySem.W.fnOf "law" "law" (defArgs s_law) (defBody s_law) (defScope s_law) .none kV38 dc38 pm38 an38 cd38 ct38, [], (spLaw K), (fun _ m => nomatch m), (fun _ m => nomatch m), (fun _ m => nomatch m), fun s v => .of_eq rfl, (fun H a ns hl _ _ hS => ⟨a, ns, rfl, hS, hl, fun _ => rfl⟩), fun base _ _ _ => ?_⟩
  have Z0 : C8.Cal l.prog w K mg base 1 "is_number" spIsNum [] := ⟨_, _, _, _, ok_is_number F0 T, PySem.W.mg_of X G a0, k0, b0, .nil⟩
  have Z1 : C8.Cal l.prog w K mg base 2 "check_bits" spCheckB [] := ⟨_, _, _, _, ok_check_bits F1 Z0, PySem.W.mg_of X G a1, k1, b1, .nil⟩
  have Z2 : C8.Cal l.prog w K mg base 1 "borders" (spBorders K) [] := ⟨_, _, _, _, ok_borders F2 T, PySem.W.mg_of X G a2, k2, b2, .nil⟩
  have Z3 : C8.Cal l.prog w K mg base 1 "doublings_of" spDbl [] := ⟨_, _, _, _, ok_doublings F3 c_gw, PySem.W.mg_of X G a3, k3, b3, .nil⟩
  have Z8 : C8.Cal l.prog w K mg base 1 "check_rect" (spChk K) [] := ⟨_, _, _, _, ok_chk F8 T, PySem.W.mg_of X G a8, k8, b8, .nil⟩
  have Z9 : C8.Cal l.prog w K mg base 1 "cells_of" (spCellsOf K) [] := ⟨_, _, _, _, ok_cells_of F9 T, PySem.W.mg_of X G a9, k9, b9, .nil⟩
  have Z23 : C8.Cal l.prog w K mg base 1 "_neighbours_of" spNbrs [] := ⟨_, _, _, _, ok_nbrs F23 T, PySem.W.mg_of X G a23, k23, b23, .nil⟩
  have TK : TabK K C := ⟨clC, naC0⟩
  have DL : LMK K D := ⟨clD, naD0, naD1, naD2, naD3, naD4, naD5, naD6, naD7, naD8, naD9, naD10⟩
  have DU : WnK K U := ⟨clU, naU0, naU1, naU2, naU3, naU4⟩
  have RK : RootK K mg := ⟨⟨R0, PySem.W.mg_of X G gR, fun H => .inr ⟨_, _, _, lR, rfl, rfl, (by show 3 ≤ sizeLine; decide), .cons ⟨_, rfl⟩ (.cons ⟨_, rfl⟩ (.cons ⟨_, rfl⟩ .nil))⟩⟩⟩
  have LC : LMC K mg := ⟨⟨_, c_kq0⟩, ⟨_, c_kq1⟩, ⟨_, c_kq2⟩, ⟨_, c_kq3⟩, ⟨_, c_kq4⟩, ⟨_, c_kq5⟩, ⟨_, c_kq6⟩, ⟨R1, PySem.W.mg_of X G gS, fun H => .inr ⟨_, _, _, lS, rfl, rfl, (by show 5 ≤ sizeLine; decide), .cons ⟨_, rfl⟩ (.cons ⟨_, rfl⟩ (.cons ⟨_, rfl⟩ (.cons ⟨_, rfl⟩ (.cons ⟨_, rfl⟩ .nil))))⟩⟩⟩
  have MT : CalC l.prog w K mg base 1 "Table" C ["m"] (spInit C O) := ⟨glC, ⟨_, _, _, ⟨mkC, a10, i10, kcC⟩, ok_init (k := 0) F10 TK EO, b10, kbm1 fun _ _ => rfl⟩⟩
  have ML : CalM l.prog w K mg base 1 C "learn" ["j"] (spLearn C O) := ⟨⟨_, _, _, ⟨a12, i12, k12⟩, ok_learn (k := 0) F12 T TK EO c_gm, b12, kbm1 fun _ _ => rfl⟩⟩
  have MC : CalP l.prog w K mg base 1 C "counts" (spCounts C) := ⟨⟨_, _, _, _, ⟨a11, g11, t11, ⟨_, r11⟩⟩, ok_tcounts (k := 0) F11 T TK, b11⟩⟩
  have Mkind : CalM l.prog w K mg base 1 D "_kind_of" ["k"] (spKind D C) := ⟨⟨_, _, _, ⟨a20, i20, k20⟩, (calmF (ok_kind (k := 0) F20 T DL LC)), b20, kbm1 fun _ _ => rfl⟩⟩
  have Mbeg : CalM l.prog w K mg base 2 D "_begin_plane" [] (spBegin D C) := ⟨⟨_, _, _, ⟨a19, i19, k19⟩, (calmF (ok_begin (k := 0) F19 T DL LC Mkind)), b19, kbm0 fun _ => rfl⟩⟩
  have Mfin : CalM l.prog w K mg base 1 D "_is_complete" [] (spFin D C) := ⟨⟨_, _, _, ⟨a17, i17, k17⟩, (calmF (ok_fin (k := 0) F17 T DL)), b17, kbm0 fun _ => rfl⟩⟩
  have Mtab : CalM l.prog w K mg base 1 D "_table_number" [] (spTabNo D C) := ⟨⟨_, _, _, ⟨a18, i18, k18⟩, (calmF (ok_tabno (k := 0) F18 T DL LC)), b18, kbm0 fun _ => rfl⟩⟩
  have Msh : CalM l.prog w K mg base 1 D "_sharpen" ["k", "letter"] (spSharp D C) := ⟨⟨_, _, _, ⟨a21, i21, k21⟩, (calmF (ok_sharp (k := 0) F21 T DL)), b21, kbm2 fun _ _ _ => rfl⟩⟩
  have Mte : CalM l.prog w K mg base 1 D "_tell_sign" ["k", "letter"] (spTell D C) := ⟨⟨_, _, _, ⟨a22, i22, k22⟩, (calmF (ok_tell (k := 0) F22 T DL)), b22, kbm2 fun _ _ _ => rfl⟩⟩
  have Mtk : CalM l.prog w K mg base 3 D "take" ["letter"] (spTakeM D C O) := ⟨⟨_, _, _, ⟨a16, i16, k16⟩, ok_takeM (k := 0) F16 T DL TK LC EO Mfin Mtab ML Msh Mte Mbeg, b16, kbm1 fun _ _ => rfl⟩⟩
  have Mw : CalM l.prog w K mg base 2 D "wanted" [] (spWant D C) := ⟨⟨_, _, _, ⟨a14, i14, k14⟩, (calmF (ok_want (k := 0) F14 T DL LC Mfin Mtab)), b14, kbm0 fun _ => rfl⟩⟩
  have Mwc : CalM l.prog w K mg base 3 D "wanted_counts" [] (spWantC D C) := ⟨⟨_, _, _, ⟨a15, i15, k15⟩, (calmF (ok_wantC (k := 0) F15 T DL TK Mfin Mtab MC)), b15, kbm0 fun _ => rfl⟩⟩
  have MLM : CalC l.prog w K mg base 3 "LineModel" D ["rect", "planes"] (spLMInit K D C) := ⟨glD, ⟨_, _, _, ⟨mkD, a13, i13, kcD⟩, calmF (ok_lminit (k := 0) F13 T DL LC Z8 Z9 Z23 MT Mbeg), b13, kbm2 fun _ _ _ => rfl⟩⟩
  have Mud : CalM l.prog w K mg base 1 U "_double" ["times"] (spDblW K U) := ⟨⟨_, _, _, ⟨a6, i6, k6⟩, (calmF (ok_dblw (k := 0) F6 T DU)), b6, kbm1 fun _ _ => rfl⟩⟩
  have MU : CalC l.prog w K mg base 2 "Window" U ["bits"] (spWnI K U) := ⟨glU, ⟨_, _, _, ⟨mkU, a4, i4, kcU⟩, calmF (ok_wni (k := 0) F4 T DU RK Mud), b4, kbm1 fun _ _ => rfl⟩⟩
  have Mul : CalM l.prog w K mg base 2 U "letter" ["counts"] (spWnL K U) := ⟨⟨_, _, _, ⟨a5, i5, k5⟩, (calmF (ok_wnl (k := 0) F5 T DU Mud Z2 Z3)), b5, kbm1 fun _ _ => rfl⟩⟩
  have OT := ok_told (P := l.prog) (w := w) (base := base) (k := 0) F7 T DL DU Z1 MU Mul Mw Mwc Mtk
  have Z7 : C8.Cal l.prog w K mg base 4 "told_letters" (spTold D C) [] := ⟨_, _, _, _, OT, PySem.W.mg_of X G a7, k7, b7, .nil⟩
  have CK : CalK l.prog w K mg base 4 "told_letters" ["bits", "model"] (spTold D C) := ⟨_, _, _, OT, PySem.W.mg_of X G a7, k7, kbn2 fun _ _ => rfl⟩
  have Z24 : C8.Cal l.prog w K mg base 1 "_law_pool" (spPool K) [] := ⟨_, _, _, _, ok_pool F24 T, PySem.W.mg_of X G a24, k24, b24, .nil⟩
  have Z25 : C8.Cal l.prog w K mg base 1 "_law_take" spTake [] := ⟨_, _, _, _, ok_take F25 T, PySem.W.mg_of X G a25, k25, b25, .nil⟩
  have Z26 : C8.Cal l.prog w K mg base 2 "_law_one" spOne [] := ⟨_, _, _, _, ok_one F26 T Z25, PySem.W.mg_of X G a26, k26, b26, .nil⟩
  have Z30 : C8.Cal l.prog w K mg base 3 "_law_line" (spLine K) [] := ⟨_, _, _, _, ok_line F30 T Z25 Z26, PySem.W.mg_of X G a30, k30, b30, .nil⟩
  have Z27 : C8.Cal l.prog w K mg base 2 "_law_bits" spBits [] := ⟨_, _, _, _, ok_bits F27 T Z25, PySem.W.mg_of X G a27, k27, b27, .nil⟩
  have Z28 : C8.Cal l.prog w K mg base 1 "_law_borders" (spLBorders K) [] := ⟨_, _, _, _, ok_lborders F28 T, PySem.W.mg_of X G a28, k28, b28, .nil⟩
  have Z29 : C8.Cal l.prog w K mg base 2 "_law_child" (spChild K) [] := ⟨_, _, _, _, ok_child F29 T Z28, PySem.W.mg_of X G a29, k29, b29, .nil⟩
  have Z32 : C8.Cal l.prog w K mg base 1 "_law_holds" (spHolds K) [] := ⟨_, _, _, _, ok_holds F32 T, PySem.W.mg_of X G a32, k32, b32, .nil⟩
  have Z31 : C8.Cal l.prog w K mg base 4 "_law_wants" (spWants K D C) [] := ⟨_, _, _, _, ok_wants F31 T DL Mw Mwc, PySem.W.mg_of X G a31, k31, b31, .nil⟩
  have Z33 : C8.Cal l.prog w K mg base 5 "_law_due" (spDueL D C) [] := ⟨_, _, _, _, ok_due F33 T DL Z29 Z32 Mw Mwc Mtk, PySem.W.mg_of X G a33, k33, b33, .nil⟩
  have Z34 : C8.Cal l.prog w K mg base 4 "_law_led" (spLed D C) [] := ⟨_, _, _, _, ok_led F34 T DL Z25 Z29 Mw Mwc Mtk, PySem.W.mg_of X G a34, k34, b34, .nil⟩
  have Z35 : C8.Cal l.prog w K mg base 6 "_law_drawn" (spDrawn D C) [] := ⟨_, _, _, _, ok_drawn F35 T Z25 Z27 Z34, PySem.W.mg_of X G a35, k35, b35, .nil⟩
  have ZV : C8.Cal l.prog w K mg base 1 "is_number" spIsNumV [] := ⟨_, _, _, _, ok_is_numberV F0 T, PySem.W.mg_of X G a0, k0, b0, .nil⟩
  have GCB := ok_check_bitsX (P := l.prog) (w := w) (base := base) (k := 0) F1 EB ZV
  have GTX := ok_toldX (P := l.prog) (w := w) (base := base) (k := 0) F7 GCB (PySem.W.mg_of X G a1) k1 b1
  have GRX := ok_refX (P := l.prog) (w := w) (base := base) (k := 0) F36 T EB (PySem.W.mg_of X G eN) rBN GTX (PySem.W.mg_of X G a7) k7 b7 Z31
  have GRI := ok_right (P := l.prog) (w := w) (base := base) (k := 0) F37 T DL Z25 Z26 Z30 Z35 MLM Mw Mtk Z7 CK Z33 Z31 GRX (PySem.W.mg_of X G a36) k36 b36
  exact ok_law F38 T Z24 GRI (PySem.W.mg_of X G a37) k37 b37
end My
open PySem PySem.W PyProof.Rows
set_option maxRecDepth 100000 in
set_option maxHeartbeats 0 in
theorem PySem.Challenge.cw_narrowingbits_k10_told_letters_by_fracti_holds : PySem.Challenge.rw_narrowingbits_k10_told_letters_by_fracti.Holds := by
  w_on; o_law; k_head; (case hw => w_witness2)
  k_fill
  refine GdX.walk_ofG (l := PySem.Challenge.rw_narrowingbits_k10_told_letters_by_fracti) (n := 63) (k := 8) (x := "_law_script") (CX := fun _ => L2.CX0) rfl (by decide) rfl ⟨rfl, by decide, by decide⟩ (fun w h Y => PySem.W.kIn_of Y) ?F (fun _ _ _ _ _ h => h)
  case F =>
    intro w mg fa h Y KX G hmg
    refine' My.all_mk KX G hmg ?eC ?pgC ?hdC ?poC ?saC ?mkC ?kcC ?naC0 ?eD ?pgD ?hdD ?poD ?saD ?mkD ?kcD ?naD0 ?naD1 ?naD2 ?naD3 ?naD4 ?naD5 ?naD6 ?naD7 ?naD8 ?naD9 ?naD10 ?eU ?pgU ?hdU ?poU ?saU ?mkU ?kcU ?naU0 ?naU1 ?naU2 ?naU3 ?naU4 ?a0 ?l0 ?c0 ?k0 ?a1 ?l1 ?c1 ?k1 ?a2 ?l2 ?c2 ?k2 ?a3 ?l3 ?c3 ?k3 ?a4 ?i4 ?l4 ?c4 ?k4 ?a5 ?i5 ?l5 ?c5 ?k5 ?a6 ?i6 ?l6 ?c6 ?k6 ?a7 ?l7 ?c7 ?k7 ?a8 ?l8 ?c8 ?k8 ?a9 ?l9 ?c9 ?k9 ?a10 ?i10 ?l10 ?c10 ?k10 ?a11 ?g11 ?t11 ?r11 ?l11 ?c11 ?k11 ?a12 ?i12 ?l12 ?c12 ?k12 ?a13 ?i13 ?l13 ?c13 ?k13 ?a14 ?i14 ?l14 ?c14 ?k14 ?a15 ?i15 ?l15 ?c15 ?k15 ?a16 ?i16 ?l16 ?c16 ?k16 ?a17 ?i17 ?l17 ?c17 ?k17 ?a18 ?i18 ?l18 ?c18 ?k18 ?a19 ?i19 ?l19 ?c19 ?k19 ?a20 ?i20 ?l20 ?c20 ?k20 ?a21 ?i21 ?l21 ?c21 ?k21 ?a22 ?i22 ?l22 ?c22 ?k22 ?a23 ?l23 ?c23 ?k23 ?a24 ?l24 ?c24 ?k24 ?a25 ?l25 ?c25 ?k25 ?a26 ?l26 ?c26 ?k26 ?a27 ?l27 ?c27 ?k27 ?a28 ?l28 ?c28 ?k28 ?a29 ?l29 ?c29 ?k29 ?a30 ?l30 ?c30 ?k30 ?a31 ?l31 ?c31 ?k31 ?a32 ?l32 ?c32 ?k32 ?a33 ?l33 ?c33 ?k33 ?a34 ?l34 ?c34 ?k34 ?a35 ?l35 ?c35 ?k35 ?a36 ?l36 ?c36 ?k36 ?a37 ?l37 ?c37 ?k37 ?a38 ?l38 ?c38 ?k38 ?y0 ?y1 ?y2 ?y3 ?y4 ?y5 ?y6 ?y7 ?y8 ?y9 ?y10 ?eB ?eO ?eN ?m4 ?m5 ?exB ?kBc ?bBc ?tBc ?m0B ?m1B ?m2B ?m3B ?m6B ?sBB ?exO ?kOc ?bOc ?tOc ?m0O ?m1O ?m2O ?m3O ?m6O ?sOO ?iNc ?tNc ?sBN ?gw ?gm ?kq0 ?kq1 ?kq2 ?kq3 ?kq4 ?kq5 ?kq6 ?gR ?lR ?gS ?lS
    (case eC => k_is)
    (case pgC => k_is)
    (case hdC => k_is)
    (case poC => k_is)
    (case saC => k_is)
    (case mkC => k_is)
    (case kcC => k_is)
    (case naC0 => k_is)
    (case eD => k_is)
    (case pgD => k_is)
    (case hdD => k_is)
    (case poD => k_is)
    (case saD => k_is)
    (case mkD => k_is)
    (case kcD => k_is)
    (case naD0 => k_is)
    (case naD1 => k_is)
    (case naD2 => k_is)
    (case naD3 => k_is)
    (case naD4 => k_is)
    (case naD5 => k_is)
    (case naD6 => k_is)
    (case naD7 => k_is)
    (case naD8 => k_is)
    (case naD9 => k_is)
    (case naD10 => k_is)
    (case eU => k_is)
    (case pgU => k_is)
    (case hdU => k_is)
    (case poU => k_is)
    (case saU => k_is)
    (case mkU => k_is)
    (case kcU => k_is)
    (case naU0 => k_is)
    (case naU1 => k_is)
    (case naU2 => k_is)
    (case naU3 => k_is)
    (case naU4 => k_is)
    (case a0 => k_is); (case l0 => k_is); (case c0 => k_is); (case k0 => k_is)
    (case a1 => k_is); (case l1 => k_is); (case c1 => k_is); (case k1 => k_is)
    (case a2 => k_is); (case l2 => k_is); (case c2 => k_is); (case k2 => k_is)
    (case a3 => k_is); (case l3 => k_is); (case c3 => k_is); (case k3 => k_is)
    (case a4 => k_is); (case i4 => k_is); (case l4 => k_is); (case c4 => k_is); (case k4 => k_is)
    (case a5 => k_is); (case i5 => k_is); (case l5 => k_is); (case c5 => k_is); (case k5 => k_is)
    (case a6 => k_is); (case i6 => k_is); (case l6 => k_is); (case c6 => k_is); (case k6 => k_is)
    (case a7 => k_is); (case l7 => k_is); (case c7 => k_is); (case k7 => k_is)
    (case a8 => k_is); (case l8 => k_is); (case c8 => k_is); (case k8 => k_is)
    (case a9 => k_is); (case l9 => k_is); (case c9 => k_is); (case k9 => k_is)
    (case a10 => k_is); (case i10 => k_is); (case l10 => k_is); (case c10 => k_is); (case k10 => k_is)
    (case a11 => k_is); (case g11 => k_is); (case t11 => k_is); (case r11 => k_is); (case l11 => k_is); (case c11 => k_is); (case k11 => k_is)
    (case a12 => k_is); (case i12 => k_is); (case l12 => k_is); (case c12 => k_is); (case k12 => k_is)
    (case a13 => k_is); (case i13 => k_is); (case l13 => k_is); (case c13 => k_is); (case k13 => k_is)
    (case a14 => k_is); (case i14 => k_is); (case l14 => k_is); (case c14 => k_is); (case k14 => k_is)
    (case a15 => k_is); (case i15 => k_is); (case l15 => k_is); (case c15 => k_is); (case k15 => k_is)
    (case a16 => k_is); (case i16 => k_is); (case l16 => k_is); (case c16 => k_is); (case k16 => k_is)
    (case a17 => k_is); (case i17 => k_is); (case l17 => k_is); (case c17 => k_is); (case k17 => k_is)
    (case a18 => k_is); (case i18 => k_is); (case l18 => k_is); (case c18 => k_is); (case k18 => k_is)
    (case a19 => k_is); (case i19 => k_is); (case l19 => k_is); (case c19 => k_is); (case k19 => k_is)
    (case a20 => k_is); (case i20 => k_is); (case l20 => k_is); (case c20 => k_is); (case k20 => k_is)
    (case a21 => k_is); (case i21 => k_is); (case l21 => k_is); (case c21 => k_is); (case k21 => k_is)
    (case a22 => k_is); (case i22 => k_is); (case l22 => k_is); (case c22 => k_is); (case k22 => k_is)
    (case a23 => k_is); (case l23 => k_is); (case c23 => k_is); (case k23 => k_is)
    (case a24 => k_is); (case l24 => k_is); (case c24 => k_is); (case k24 => k_is)
    (case a25 => k_is); (case l25 => k_is); (case c25 => k_is); (case k25 => k_is)
    (case a26 => k_is); (case l26 => k_is); (case c26 => k_is); (case k26 => k_is)
    (case a27 => k_is); (case l27 => k_is); (case c27 => k_is); (case k27 => k_is)
    (case a28 => k_is); (case l28 => k_is); (case c28 => k_is); (case k28 => k_is)
    (case a29 => k_is); (case l29 => k_is); (case c29 => k_is); (case k29 => k_is)
    (case a30 => k_is); (case l30 => k_is); (case c30 => k_is); (case k30 => k_is)
    (case a31 => k_is); (case l31 => k_is); (case c31 => k_is); (case k31 => k_is)
    (case a32 => k_is); (case l32 => k_is); (case c32 => k_is); (case k32 => k_is)
    (case a33 => k_is); (case l33 => k_is); (case c33 => k_is); (case k33 => k_is)
    (case a34 => k_is); (case l34 => k_is); (case c34 => k_is); (case k34 => k_is)
    (case a35 => k_is); (case l35 => k_is); (case c35 => k_is); (case k35 => k_is)
    (case a36 => k_is); (case l36 => k_is); (case c36 => k_is); (case k36 => k_is)
    (case a37 => k_is); (case l37 => k_is); (case c37 => k_is); (case k37 => k_is)
    (case a38 => k_is); (case l38 => k_is); (case c38 => k_is); (case k38 => k_is)
    (case y0 => k_is)
    (case y1 => k_is)
    (case y2 => k_is)
    (case y3 => k_is)
    (case y4 => k_is)
    (case y5 => k_is)
    (case y6 => k_is)
    (case y7 => k_is)
    (case y8 => k_is)
    (case y9 => k_is)
    (case y10 => k_is)
    (case eB => k_is)
    (case eO => k_is)
    (case eN => k_is)
    (case m4 => k_is)
    (case m5 => k_is)
    (case kBc => k_is)
    (case bBc => k_is)
    (case tBc => k_is)
    (case m0B => k_is)
    (case m1B => k_is)
    (case m2B => k_is)
    (case m3B => k_is)
    (case m6B => k_is)
    (case sBB => k_is)
    (case kOc => k_is)
    (case bOc => k_is)
    (case tOc => k_is)
    (case m0O => k_is)
    (case m1O => k_is)
    (case m2O => k_is)
    (case m3O => k_is)
    (case m6O => k_is)
    (case sOO => k_is)
    (case iNc => k_is)
    (case tNc => k_is)
    (case sBN => k_is)
    (case gw => k_is)
    (case gm => k_is)
    (case kq0 => k_is)
    (case kq1 => k_is)
    (case kq2 => k_is)
    (case kq3 => k_is)
    (case kq4 => k_is)
    (case kq5 => k_is)
    (case kq6 => k_is)
    (case gR => k_is)
    (case lR => k_is)
    (case gS => k_is)
    (case lS => k_is)
    (case exB => k_exc)
    (case exO => k_exc)
