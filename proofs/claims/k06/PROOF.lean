import PyProof.Rows.All
import Wide.All
import OpenK.AllK
import Wide.FinOn
import HandS.ForMost
import HandS.Wide
import HandS.IsInst
import HandS.Codes
import HandS.Style
import HandS.EndBits
import HandS.Walk
import HandS.FStr
import HandS.WideBits
import HandS.Defaults
import HandS.Exc
import HandS.TryOnly
import HandS.ExcOwn
import HandS.WordsExc
import HandS.ExcIs
import HandS.Lambda
import HandS.EndTab
import KE.KTupSum
import HandS.Iter
import HandS.Property
import HandS.ForList
import HandS.MakeKw
import HandS.MakeKwOnly
import PySem.Challenge.RW_narrowingbits_k06_letters_fill_the_node
set_option Elab.async false
set_option linter.all false
set_option maxRecDepth 100000
set_option maxHeartbeats 4000000
namespace My
open PySem PySem.Spec PyProof.Rows L2
/-! ### arithmetic -/
theorem cdivw {i j : Int} (h : 0 < j) (h2 : j < 18446744073709551616) : CDivW i j := wide_div (b := 64) h (by omega) (by decide) (by decide)
theorem cmull {i j : Int} (h : -18446744073709551616 < i) (h2 : i < 18446744073709551616) : CMul i j := .inl ⟨by omega, by omega⟩
theorem cmulr {i j : Int} (h : -18446744073709551616 < j) (h2 : j < 18446744073709551616) : CMul i j := .inr ⟨by omega, by omega⟩
theorem pow18 : ((10 : Int) ^ (18 : Int).toNat) = 1000000000000000000 := by decide +kernel
theorem pow30 : ((10 : Int) ^ (30 : Int).toNat) = 1000000000000000000000000000000 := by decide +kernel
theorem pow9 : ((10 : Int) ^ (9 : Int).toNat) = 1000000000 := by decide +kernel
theorem pool_nn (c : Int) (b : Bool) : 0 ≤ (if -1 - c > c then -1 - c else c) * (if b = true then 1 else 0) := by
  refine Int.mul_nonneg ?_ ?_
  · split <;> omega
  · split <;> decide
theorem at_lt {ns : List Int} {k : Int} (h0 : 0 ≤ k) (h : k < ((ns.map V.int).length : Int)) : ∃ z, atI (ns.map V.int) k = some (.int z) := by
  rw [List.length_map] at h
  refine ⟨ns[k.toNat]'(by omega), at_of (j := k.toNat) (by omega) ?_⟩
  rw [List.getElem?_map, List.getElem?_eq_getElem (by omega)]
  rfl
theorem at_mem {xs : List V} {r : Int} (h0 : 0 ≤ r) (h : r < (xs.length : Int)) : ∃ v, atI xs r = some v ∧ v ∈ xs := by
  refine ⟨xs[r.toNat]'(by omega), at_of (j := r.toNat) (by omega) (List.getElem?_eq_getElem (by omega)), List.getElem_mem _⟩
/-! ### heaps -/
theorem same_upd {H : Hp} {p : Addr} {o : HO} (h : H p = none) : Same H (upd H p o) := fun b x e => by
  rw [upd_ne (ne_of_none e h)]
  exact e
/-- a source of draws stands at a -/
def Src (H : Hp) (a : Addr) : Prop := ∃ x y : Int, H a = some (.lst [.int x, .int y]) ∧ 0 ≤ x ∧ 0 ≤ y ∧ y < 2147483647
/-- all but a is as it was -/
def But (a : Addr) (H H' : Hp) : Prop := ∀ b, b ≠ a → H' b = H b
theorem But.refl (a : Addr) (H : Hp) : But a H H := fun _ _ => rfl
theorem But.trans {a : Addr} {H H1 H2 : Hp} (u : But a H H1) (v : But a H1 H2) : But a H H2 := fun b e => (v b e).trans (u b e)
theorem But.upd {a : Addr} {H : Hp} {o : HO} : But a H (upd H a o) := fun b e => upd_ne e
theorem But.at {a b : Addr} {H H' : Hp} {o : HO} (u : But a H H') (n : b ≠ a) (h : H b = some o) : H' b = some o := (u b n).trans h
theorem src_same {H H' : Hp} {a : Addr} (s : Same H H') (h : Src H a) : Src H' a := by
  obtain ⟨x, y, e, r⟩ := h
  exact ⟨x, y, s _ _ e, r⟩
theorem Src.ne {H : Hp} {a p : Addr} (h : Src H a) (n : H p = none) : a ≠ p := by
  obtain ⟨x, y, e, r⟩ := h
  exact ne_of_none e n
theorem same_but {a : Addr} {G H H' : Hp} (s : Same G H) (u : But a H H') (n : G a = none) : Same G H' := fun b o e => by
  rw [u b (ne_of_none e n)]
  exact s b o e
theorem kit_ii {K : PySem.W.Frag} : PySem.W.kitOne K (.type "int") (.type "int") = some true := kit_ty (by decide +kernel)
theorem kit_ib {K : PySem.W.Frag} : PySem.W.kitOne K (.type "int") (.type "bool") = some false := kit_ty (by decide +kernel)
theorem kit_bi {K : PySem.W.Frag} : PySem.W.kitOne K (.type "bool") (.type "int") = some true := kit_ty (by decide +kernel)
theorem kit_bb {K : PySem.W.Frag} : PySem.W.kitOne K (.type "bool") (.type "bool") = some true := kit_ty (by decide +kernel)
theorem kit_tt {K : PySem.W.Frag} : PySem.W.kitOne K (.type "tuple") (.type "tuple") = some true := kit_ty (by decide +kernel)
theorem kit_ll {K : PySem.W.Frag} : PySem.W.kitOne K (.type "list") (.type "list") = some true := kit_ty (by decide +kernel)
theorem kit_tl {K : PySem.W.Frag} : PySem.W.kitOne K (.type "tuple") (.type "list") = some false := kit_ty (by decide +kernel)
theorem kit_lt {K : PySem.W.Frag} : PySem.W.kitOne K (.type "list") (.type "tuple") = some false := kit_ty (by decide +kernel)
theorem op_powc {X : Cx} {a b c : Int} (hc : CPow a b) (h : a ^ b.toNat = c) : OpR X (binaryOp .Pow) (fun x y H Q => x = .int a ∧ y = .int b ∧ Q (.int c) H) := by
  intro pins s σ H x y v u Q I rx ry h'
  obtain ⟨rfl, rfl, q⟩ := h'
  exact op_pow pins s σ H _ _ v u Q I rx ry ⟨_, _, rfl, rfl, hc, by subst h; exact q⟩
theorem dp_pair {K : PySem.W.Frag} {H : Hp} {p : Addr} {a b : Int} (h : H p = some (.tup [.int a, .int b])) : Dp K H (.ref p) (.tuple [.int a, .int b]) := .tup (.inl (.inl h)) (.cons (.int _) (.cons (.int _) .nil))
theorem eq_pair (a b : Int) : PyData.eqv (.tuple [.int a, .int b]) (.tuple [.int a, .int b]) = true := by
  simp [PyData.eqv, PyData.eqvAll]
theorem tup_eq {H : Hp} {p : Addr} {x x' y y' : Int} (h : H p = some (.tup [.int x, .int y])) (h1 : x = x') (h2 : y = y') : H p = some (.tup [.int x', .int y']) := by
  rw [← h1, ← h2]
  exact h
end My
namespace My
section
open PySem PySem.W PyProof.Rows Builtin Builtin.Str Builtin.Int Builtin.Float
def binCodes (n : Nat) : List Nat := (Nat.toDigits 2 n).map Char.toNat
theorem field_plain (ds : List Nat) (h : ds.isEmpty = false) : intField' { align := 62, type := some 98 } false [] ds [] 4 = ⟨ds.toArray⟩ := by
  unfold intField'
  simp [h]
theorem digs_ne (n : Nat) : ((Nat.toDigits 2 n).map fun c => ((if ((98 : Nat) == 88) = true then c.toUpper else c) : Char).toNat).isEmpty = false := by
  cases e : Nat.toDigits 2 n with
  | nil =>
    have := tDigits_len_ge 2 n
    rw [e] at this
    cases this
  | cons a l => rfl
theorem meets_bin {x : Int} {t : Tok} (h0 : 0 ≤ x) (hL : (Nat.toDigits 2 x.natAbs).length ≤ sizeLine) :
    ∀ u, Meets (Builtin.«int.__format__» ⟨[.int x t, .str (Str.ofString "b") u], []⟩) (fun _ R s => ∀ t' k, R (.ok (.ret (.str ⟨(binCodes x.natAbs).toArray⟩ t'))) { s with toks := k }) := by
  intro u
  apply KPc.meets_of
  intro prog w A E s Q h
  unfold Builtin.«int.__format__»
  refine wpAny_bind (wpAny_of_eq (a := (_, _)) rfl ?_)
  refine wpAny_bind (wpAny_of_eq (a := _) rfl ?_)
  kxf_if
  refine wpAny_bind (wpAny_typeNameOf (T := "str") (typeIs_str _ _ _) (by decide) fun _ => ?_)
  refine wpAny_bind (wpAny_of_eq (a := some _) rfl ?_)
  kxf_if
  kxf_if
  refine wpAny_bind (wpAny_typeNameOfCut_int ?_)
  repeat kxf_if
  refine KXf.ret_text (T := ⟨(binCodes x.natAbs).toArray⟩) ?e ?l h
  case e =>
    have hx : decide (x < 0) = false := decide_eq_false (by omega)
    rw [hx]
    show intField' { align := 62, type := some 98 } false [] ((Nat.toDigits 2 x.natAbs).map fun c => ((if ((98 : Nat) == 88) = true then c.toUpper else c) : Char).toNat) [] 4 = _
    exact field_plain _ (digs_ne _)
  case l =>
    have hx : decide (x < 0) = false := decide_eq_false (by omega)
    rw [hx]
    show (intField' { align := 62, type := some 98 } false [] ((Nat.toDigits 2 x.natAbs).map fun c => ((if ((98 : Nat) == 88) = true then c.toUpper else c) : Char).toNat) [] 4).length ≤ sizeLine
    rw [field_plain _ (digs_ne _)]
    show ((binCodes x.natAbs).toArray).size ≤ sizeLine
    rw [List.size_toArray, binCodes, List.length_map]
    exact hL
end
end My
namespace My
open PySem PySem.Spec PyProof.Rows L2
/-! ### an f-string's field in binary -/
section
variable {X : Cx}
theorem pe_fmtB {e : Expr} {te : TE} {k : Nat} {pos p1 p2 : Pos} (he : PE X e te) : PE X (.FormattedValue e (-1) (some (.JoinedStr [.Constant (.str "b") k p1] p2)) pos)
    (fun σ H Q => te σ H fun x H1 => ∃ i : Int, x = .int i ∧ 0 ≤ i ∧ (Nat.toDigits 2 i.natAbs).length ≤ sizeLine ∧ Q (.str (SX.S (binCodes i.natAbs))) H1) := by
  refine ⟨fun pins s σ H Q I h => ?_⟩
  refine wpAny_FormattedValue_spec (thn (he.run pins s σ H _ I h) fun v s1 hv => ?_)
  obtain ⟨x, H1, I1, r1, i, rfl, h0, hL, q⟩ := hv
  obtain ⟨t, rfl⟩ := r1
  refine thn ((pe_joined1 (X := X) (pe_str (x := "b") (j := k) (pos := p1)) (pos := p2)).run pins s1 σ H1 (fun y H2 => y = .str "b" ∧ H2 = H1) I1 ⟨rfl, rfl⟩) fun r s2 hr => ?_
  obtain ⟨y, H2, I2, r2, rfl, rfl⟩ := hr
  obtain ⟨t2, rfl⟩ := r2
  exact ⟨_, t2, rfl, PySem.W.KXf.field_int rfl rfl (by decide) (meets_bin h0 hL) fun t' k => ⟨.str _, _, I2.tok _, ⟨_, rfl⟩, q⟩⟩
/-- a call by keywords alone -/
theorem pe_kw0 {CX : CXT} {k : Nat} {f : Addr} {fd : FuncData} {ps ks : List Str} {sp : Sp} {E : XK} {x : Str} {p pos : Pos} {kws : List Keyword} {tk : TA} {g : List Value → List Value → List Value} {gV : List V → List V → List V}
    (F : FnOk X.prog X.w X.K X.mg X.base CX k f fd ps sp) (hr : Room k X.A) (hg : Gl X x) (hm : X.mg x = some (.ref f)) (hk : PySem.W.keepIn X.K (.ref f) = true) (hb : KBn X.K fd ps 0 ks g gV) (hx : Passes CX X E) (hkw : PK X kws tk)
    (hall : (backToKw pos (keywordEach kws X.env)).all (·.1.isSome) = true := by rfl) (hks : (backToKw pos (keywordEach kws X.env)).filterMap (·.1) = ks := by rfl) (hdb : (x == ("__debug__" : Str)) = false := by decide)
    (hpl : ((backTo pos (starEach [] X.env)).any (·.1) || (backToKw pos (keywordEach kws X.env)).any (·.1.isNone)) = false := by rfl) :
    PE X (.Call (.Name x p) [] kws pos) (fun σ H Q => tk σ H fun zs H2 => zs.length = ks.length ∧ sp (gV [] zs) H2 Q E) := by
  refine ⟨fun pins s σ H Q I h => ?_⟩
  refine wpAny_Call_Name_kw (ld_glob I hg hm ?_ hdb)
  refine PySem.W.callWith_KW0 (h₀ := X.base) I.ok.mod.kin hk hall ?_ hpl
  refine thn (hkw.run pos pins s σ H _ I h) fun ws s2 ⟨zs, H2, I2, rz, l2, q2⟩ => ⟨I2.kIn, ?_⟩
  rw [hks]
  exact run_fnN (us := []) (vs := []) F hr hb hx I2 .nil rz rfl l2 q2
/-- a def that may be called by keywords alone -/
structure CalK (P : Program) (w : World) (K : PySem.W.Frag) (mg : Str → Option Value) (base : Heap) (k : Nat) (x : Str) (ks : List Str) (sp : Sp) : Prop where
  ex : ∃ (f : Addr) (fd : FuncData) (ps : List Str), FnOk P w K mg base CX0 k f fd ps sp ∧ mg x = some (.ref f) ∧ PySem.W.keepIn K (.ref f) = true ∧ KBn K fd ps 0 ks (fun _ ws => ws) (fun _ zs => zs)
theorem pe_ck {k j : Nat} {ks : List Str} {sp : Sp} {x : Str} {p pos : Pos} {kws : List Keyword} {tk : TA} (c : CalK X.prog X.w X.K X.mg X.base k x ks sp) (hr : Room j X.A) (hk : k ≤ j) (hg : Gl X x) (hkw : PK X kws tk)
    (hall : (backToKw pos (keywordEach kws X.env)).all (·.1.isSome) = true := by rfl) (hks : (backToKw pos (keywordEach kws X.env)).filterMap (·.1) = ks := by rfl) (hdb : (x == ("__debug__" : Str)) = false := by decide)
    (hpl : ((backTo pos (starEach [] X.env)).any (·.1) || (backToKw pos (keywordEach kws X.env)).any (·.1.isNone)) = false := by rfl) :
    PE X (.Call (.Name x p) [] kws pos) (fun σ H Q => tk σ H fun zs H2 => zs.length = ks.length ∧ sp zs H2 Q E0) := by
  obtain ⟨f, fd, ps, F, hm, hkp, hb⟩ := c.ex
  exact pe_kw0 F (hr.mono hk) hg hm hkp hb pass0 hkw hall hks hdb hpl
end
/-! ### digits -/
/-- the w binary digits of n, the highest first -/
def bitsW : Nat → Nat → List Nat
  | 0, _ => []
  | w + 1, n => bitsW w (n / 2) ++ [n % 2]
theorem bitsW_len : ∀ w n, (bitsW w n).length = w
  | 0, _ => rfl
  | w + 1, n => by rw [bitsW, List.length_append, bitsW_len w (n / 2)]; rfl
theorem bitsW_bit : ∀ w n, ∀ b ∈ bitsW w n, b < 2
  | 0, _, b, h => by cases h
  | w + 1, n, b, h => by
    rw [bitsW, List.mem_append] at h
    rcases h with h | h
    · exact bitsW_bit w _ b h
    · rw [List.mem_singleton] at h
      omega
theorem digit_code {b : Nat} (h : b < 2) : (Nat.digitChar b).toNat = 48 + b := by
  match b, h with
  | 0, _ => rfl
  | 1, _ => rfl
theorem binCodes_pow : ∀ w n, n < 2 ^ w → binCodes (2 ^ w + n) = 49 :: (bitsW w n).map (48 + ·)
  | 0, n, h => by
    have e : n = 0 := by omega
    subst e
    rfl
  | w + 1, n, h => by
    have p : 2 ^ (w + 1) = 2 * 2 ^ w := by rw [Nat.pow_succ, Nat.mul_comm]
    have g : 0 < 2 ^ w := Nat.two_pow_pos w
    have ih := binCodes_pow w (n / 2) (by omega)
    unfold binCodes at ih ⊢
    rw [Nat.toDigits_of_base_le (by decide) (by omega), List.map_append, show (2 ^ (w + 1) + n) / 2 = 2 ^ w + n / 2 by omega, ih, show (2 ^ (w + 1) + n) % 2 = n % 2 by omega, bitsW, List.map_append]
    show 49 :: _ ++ [(Nat.digitChar (n % 2)).toNat] = _
    rw [digit_code (Nat.mod_lt _ (by decide))]
    rfl
/-- the digits as numbers -/
def bitsI (w n : Nat) : List Int := (bitsW w n).map fun (b : Nat) => (b : Int)
theorem bitsI_len (w n : Nat) : (bitsI w n).length = w := by rw [bitsI, List.length_map, bitsW_len]
theorem digit_int {b : Nat} (h : b < 2) : PySem.intText? ⟨#[48 + b]⟩ = some (b : Int) := by
  match b, h with
  | 0, _ => decide +kernel
  | 1, _ => decide +kernel
theorem take_snoc {α : Type} {l : List α} {i : Nat} {x : α} (h : l[i]? = some x) : l.take i ++ [x] = l.take (i + 1) := by
  rw [List.take_add_one, h]
  rfl
end My
namespace My
open PySem PySem.Spec PyProof.Rows L2
/-! ### lists of numbers compared -/
theorem eqv_same {d : PyData} (h : SeqAt.shaped d = true) : PyData.eqv d d = true := SeqAt.eqv_refl d (SeqAt.canLay_of_shaped h)
theorem dpall_ints {K : PySem.W.Frag} {H : Hp} : ∀ ns : List Int, DpAll K H (ns.map V.int) (ns.map PyData.int)
  | [] => .nil
  | n :: r => .cons (.int n) (dpall_ints r)
theorem dp_ints {K : PySem.W.Frag} {H : Hp} {p : Addr} {ns : List Int} (h : SqL K H p (ns.map V.int)) : Dp K H (.ref p) (.list (ns.map PyData.int)) := .lst h (dpall_ints ns)
theorem sh_ints (ns : List Int) : SeqAt.shaped (.list (ns.map PyData.int)) = true := PySem.W.ke_shaped_ints ns
theorem q_eqI {K : PySem.W.Frag} {H : Hp} {p q : Addr} {ns : List Int} {Q : VK} (hp : H p = some (.lst (ns.map V.int))) (hq : H q = some (.lst (ns.map V.int))) (h : Q (.bl true) H) : rEqD K (.ref p) (.ref q) H Q :=
  ⟨_, _, dp_ints (.inl (.inl hp)), dp_ints (.inl (.inl hq)), sh_ints ns, sh_ints ns, by rw [eqv_same (sh_ints ns)]; exact h⟩
theorem q_neI {K : PySem.W.Frag} {H : Hp} {p q : Addr} {ns : List Int} {Q : VK} (hp : H p = some (.lst (ns.map V.int))) (hq : H q = some (.lst (ns.map V.int))) (h : Q (.bl false) H) : rNeD K (.ref p) (.ref q) H Q :=
  ⟨_, _, dp_ints (.inl (.inl hp)), dp_ints (.inl (.inl hq)), sh_ints ns, sh_ints ns, by rw [eqv_same (sh_ints ns)]; exact h⟩
/-! ### all but the source stays -/
def Up (a : Addr) (H H' : Hp) : Prop := ∀ b o, b ≠ a → H b = some o → H' b = some o
theorem Up.refl (a : Addr) (H : Hp) : Up a H H := fun _ _ _ h => h
theorem up_same {a : Addr} {H H' : Hp} (s : Same H H') : Up a H H' := fun b o _ h => s b o h
theorem But.up {a : Addr} {H H' : Hp} (u : But a H H') : Up a H H' := fun b o n h => (u b n).trans h
theorem Up.trans {a : Addr} {H H1 H2 : Hp} (u : Up a H H1) (v : Up a H1 H2) : Up a H H2 := fun b o n h => v b o n (u b o n h)
theorem Up.to {a : Addr} {G H H' : Hp} (u : Up a H H') (s : Same G H) (n : G a = none) : Same G H' := fun b o e => u b o (ne_of_none e n) (s b o e)
theorem Up.new {a p : Addr} {H H' : Hp} (u : Up a H H') (hs : Src H' a) (n : H' p = none) : H p = none := by
  cases e : H p with
  | none => rfl
  | some o =>
    have := u p o (hs.ne n).symm e
    rw [n] at this
    cases this
theorem src_keep {a p : Addr} {H : Hp} {o : HO} (n : a ≠ p) (h : Src H a) : Src (upd H p o) a := by
  obtain ⟨x, y, e, r⟩ := h
  exact ⟨x, y, by rw [upd_ne n]; exact e, r⟩
/-! ### digits by place -/
theorem bitsW_get : ∀ w n i, i < w → (bitsW w n)[i]? = some (n / 2 ^ (w - 1 - i) % 2)
  | 0, _, i, h => absurd h (Nat.not_lt_zero i)
  | w + 1, n, i, h => by
    rw [bitsW]
    by_cases e : i = w
    · subst e
      rw [List.getElem?_append_right (by rw [bitsW_len]; exact Nat.le_refl _), bitsW_len, show i - i = 0 by omega, show i + 1 - 1 - i = 0 by omega, Nat.pow_zero, Nat.div_one]
      rfl
    · rw [List.getElem?_append_left (by rw [bitsW_len]; omega), bitsW_get w (n / 2) i (by omega), Nat.div_div_eq_div_mul, show w + 1 - 1 - i = (w - 1 - i) + 1 by omega, Nat.pow_succ, Nat.mul_comm]
theorem bitsI_get {w n i : Nat} (h : i < w) : (bitsI w n)[i]? = some (((n / 2 ^ (w - 1 - i) % 2 : Nat)) : Int) := by
  rw [bitsI, List.getElem?_map, bitsW_get w n i h]
  rfl
end My
namespace My
open PySem PySem.Spec PyProof.Rows L2
section
variable {X : Cx}
/-- X(), X an own exception class without own __init__ -/
theorem pmk_none {C : Addr} {bmB : List Value} {B newId initId : String} {x : Str} {p pos : Pos} (F : ExcBaseFacts B newId initId bmB) (q : PySem.W.excIn X.K C bmB newId = true) (gC : X.mg x = some (.ref C)) (kC : PySem.W.keepIn X.K (.ref C) = true) (r : Raises X (.ref C)) (hg : Gl X x)
    (hdb : (x == ("__debug__" : Str)) = false := by decide) : PMk X (.Call (.Name x p) [] [] pos) (fun _ H Q => Q (.ref C) none H) := by
  intro pins s σ H Q I h
  refine wpAny_Call_Name_kw (ld_glob I hg gC (PySem.W.callWith_K0 I.kIn kC ?_) hdb)
  obtain ⟨bm, N, nm, qn, bs, hdct, sn, sub, ab, col, dd, k0, k1, k2, k3, k5, mN, hC, hN, hni, T⟩ := exc_obj I.kIn q
  exact wpAny_call_exc_subT F T hC hN hni (fun _ _ hm => mk_of I hm r h (I.hok.gone hm.new)) (Nat.zero_le _)
/-- isinstance of an own class against another one -/
theorem kit_ref {K : PySem.W.Frag} {C N : Addr} {b : Bool} (i : PySem.W.isClsIn K N = true) (t : PySem.W.typeIn K (.ref N) = some (.type "type")) (s : PySem.W.subIn K (.ref C) (.ref N) = some b) (n : b = false → PySem.W.subIn K (.ref C) (.ref C) = some true) :
    PySem.W.kitOne K (.ref C) (.ref N) = some b := by
  unfold PySem.W.kitOne
  by_cases e : ((Value.ref C) == (Value.ref N)) = true
  · rw [if_pos e]
    have e2 : C = N := Value.ref.inj (beq_iff_eq.mp e)
    subst e2
    cases b with
    | true => rfl
    | false =>
      rw [n rfl] at s
      cases s
  · rw [if_neg e]
    unfold PySem.W.kitCls
    have h : ((PySem.W.clsIn K N).isSome && PySem.W.typeIn K (.ref N) == some (.type "type")) = true := by
      rw [t, Bool.and_eq_true]
      exact ⟨i, by rfl⟩
    show (if _ then _ else _) = _
    rw [if_pos h]
    exact s
/-- an own exception class at C, as the top has written it -/
structure ECls (K : PySem.W.Frag) (mg : Str → Option Value) (x : Str) (C : Addr) : Prop where
  gC : mg x = some (.ref C)
  xC : PySem.W.excIn K C [.type "ValueError", .type "Exception", .type "BaseException", .type "object"] "ValueError.__new__" = true
  kC : PySem.W.keepIn K (.ref C) = true
  bC : PySem.W.subIn K (.ref C) (.type "BaseException") = some true
  tC : PySem.W.typeIn K (.ref C) = some (.type "type")
  ex : ExcC K C
  em : PySem.W.exmOne K (.ref C) (.ref C) = some true
/-- isinstance of the exception that a suite holds, its class told in the reading -/
theorem call_isE1 {a D : Addr} {oe : Obj} {cls : Value} {d : Option Addr} {pn : List (Addr × Obj)} (C : ExcC X.K D) (hz : Zc cls d oe) (hf : ∃ vs, oe.data = .fields vs) :
    CallR (X.suite a ((a, oe) :: pn)) (.builtin "isinstance") (fun xs H Q => cls = .ref D ∧ d = none ∧ rIsE X.K D a xs H Q) := by
  intro pins s σ H xs us Q I r h
  obtain ⟨e1, e2, h⟩ := h
  subst e1 e2
  exact call_isE C hz hf pins s σ H xs us Q I r h
end
end My
namespace My
open PySem PySem.Spec PyProof.Rows L2
/-! ### bit lengths, digits, values -/
def bl (n : Nat) : Nat := Builtin.Int.intBits (n : Int)
theorem bl_zero : bl 0 = 0 := rfl
theorem bl_pos {n : Nat} (h : 0 < n) : bl n = n.log2 + 1 := by
  unfold bl Builtin.Int.intBits
  rw [if_neg (by simp; omega), Int.natAbs_natCast]
theorem bl_lt (n : Nat) : n < 2 ^ bl n := by
  cases n with
  | zero => decide
  | succ n =>
    rw [bl_pos (Nat.succ_pos n)]
    exact Nat.lt_log2_self
theorem bl_le {n k : Nat} (h : n < 2 ^ k) : bl n ≤ k := PyProof.Rows.intBits_le (by rw [Int.natAbs_natCast]; exact h)
theorem bl_half {n : Nat} (h : 0 < n) : bl n = bl (n / 2) + 1 := by
  rw [bl_pos h]
  by_cases e : n = 1
  · subst e
    decide
  · rw [bl_pos (by omega), Nat.log2_def, if_pos (by omega)]
theorem bitsI_succ (w n : Nat) : bitsI (w + 1) n = bitsI w (n / 2) ++ [((n % 2 : Nat) : Int)] := by
  unfold bitsI
  rw [bitsW, List.map_append]
  rfl
def digs (n : Nat) : List Int := bitsI (bl n) n
theorem digs_zero : digs 0 = [] := rfl
theorem digs_step {n : Nat} (h : 0 < n) : digs n = digs (n / 2) ++ [((n % 2 : Nat) : Int)] := by
  unfold digs
  rw [bl_half h, bitsI_succ]
theorem digs_len (n : Nat) : (digs n).length = bl n := bitsI_len _ _
theorem digs_head : ∀ {n : Nat}, 0 < n → ∃ r, digs n = 1 :: r := by
  intro n
  induction n using Nat.strongRecOn with
  | _ n ih =>
    intro h
    rw [digs_step h]
    by_cases e : n = 1
    · subst e
      exact ⟨[], rfl⟩
    · obtain ⟨r, hr⟩ := ih (n / 2) (by omega) (by omega)
      rw [hr]
      exact ⟨r ++ [((n % 2 : Nat) : Int)], rfl⟩
def valI (xs : List Int) : Int := xs.foldl (fun v b => 2 * v + b) 0
theorem valI_snoc (xs : List Int) (b : Int) : valI (xs ++ [b]) = 2 * valI xs + b := by
  unfold valI
  rw [List.foldl_append]
  rfl
theorem valI_bits : ∀ w n, n < 2 ^ w → valI (bitsI w n) = n
  | 0, n, h => by
    have e : n = 0 := by omega
    subst e
    rfl
  | w + 1, n, h => by
    have p : 2 ^ (w + 1) = 2 * 2 ^ w := by rw [Nat.pow_succ, Nat.mul_comm]
    rw [bitsI_succ, valI_snoc, valI_bits w (n / 2) (by omega)]
    omega
theorem valI_digs (n : Nat) : valI (digs n) = n := valI_bits _ _ (bl_lt n)
theorem bitsI_bit {w n : Nat} {x : Int} (h : x ∈ bitsI w n) : 0 ≤ x ∧ x ≤ 1 := by
  obtain ⟨b, hb, rfl⟩ := List.mem_map.mp h
  have := bitsW_bit w n b hb
  omega
/-- all of them are bits -/
def AreBits (xs : List Int) : Prop := ∀ x ∈ xs, 0 ≤ x ∧ x ≤ 1
theorem AreBits.app {xs ys : List Int} (h : AreBits xs) (g : AreBits ys) : AreBits (xs ++ ys) := fun x m => by
  rcases List.mem_append.mp m with m | m
  · exact h x m
  · exact g x m
theorem AreBits.take {xs : List Int} (h : AreBits xs) (n : Nat) : AreBits (xs.take n) := fun x m => h x (List.mem_of_mem_take m)
theorem AreBits.zeros (n : Nat) : AreBits (List.replicate n 0) := fun x m => by
  rw [(List.mem_replicate.mp m).2]
  decide
/-- the code of a count -/
def code (c : Nat) : List Int := List.replicate (bl (c + 1) - 1) 0 ++ digs (c + 1)
theorem code_len (c : Nat) : (code c).length = 2 * bl (c + 1) - 1 := by
  have := bl_half (n := c + 1) (by omega)
  unfold code
  rw [List.length_append, List.length_replicate, digs_len]
  omega
theorem code_bits (c : Nat) : AreBits (code c) := (AreBits.zeros _).app fun _ m => bitsI_bit m
theorem flat_zeros (n : Nat) : (List.replicate n [V.int 0]).flatten = (List.replicate n (0 : Int)).map V.int := by
  induction n with
  | zero => rfl
  | succ n ih =>
    rw [List.replicate_succ, List.flatten_cons, ih, List.replicate_succ]
    rfl
theorem new_at {a p : Addr} {H : Hp} {o o' : HO} (h : H a = some o) (n : H p = none) : (upd H p o') a = some o := by
  rw [upd_ne (ne_of_none h n)]
  exact h
theorem cut_int {xs : List V} {x y : Int} {i k : Nat} (hx : x = (i : Int)) (hy : y = (k : Int)) (hik : i ≤ xs.length) (hk : k ≤ xs.length) : cutV xs (some x) (some y) = (xs.drop i).take (k - i) := by
  subst hx hy
  unfold cutV
  rw [HT.sIx_nat, HT.sIx_nat, Nat.min_eq_left hik, Nat.min_eq_left hk]
theorem cut_to {xs : List V} {y : Int} {k : Nat} (hy : y = (k : Int)) (hk : k ≤ xs.length) : cutV xs none (some y) = xs.take k := by
  subst hy
  unfold cutV
  rw [HT.sIx_none, HT.sIx_nat, Nat.min_eq_left hk, List.drop_zero, Nat.sub_zero]
theorem cut_any {xs : List V} {x y : Int} {i k : Nat} (hx : x = (i : Int)) (hy : y = (k : Int)) (hik : i ≤ xs.length) : cutV xs (some x) (some y) = (xs.drop i).take (k - i) := by
  subst hx hy
  unfold cutV
  rw [HT.sIx_nat, HT.sIx_nat, Nat.min_eq_left hik]
  by_cases h : k ≤ xs.length
  · rw [Nat.min_eq_left h]
  · rw [Nat.min_eq_right (by omega), List.take_of_length_le (by rw [List.length_drop]; omega), List.take_of_length_le (by rw [List.length_drop]; omega)]
/-! ### reading a count -/
/-- zeros ahead of the first 1 -/
def lz : List Int → Nat
  | [] => 0
  | x :: r => if x = 0 then lz r + 1 else 0
theorem lz_le : ∀ l : List Int, lz l ≤ l.length
  | [] => Nat.le_refl _
  | x :: r => by
    have := lz_le r
    simp only [lz, List.length_cons]
    split <;> omega
theorem lz_more : ∀ {l : List Int} {k : Nat}, k ≤ lz l → l[k]? = some 0 → k + 1 ≤ lz l
  | [], k, _, h => by simp at h
  | x :: r, 0, _, h => by
    have e : x = 0 := Option.some.inj h
    simp only [lz, e, if_true]
    omega
  | x :: r, k + 1, hk, h => by
    simp only [lz] at hk ⊢
    by_cases e : x = 0
    · rw [if_pos e] at hk ⊢
      have := lz_more (l := r) (k := k) (by omega) h
      omega
    · rw [if_neg e] at hk
      omega
theorem lz_stop : ∀ {l : List Int} {k : Nat} {x : Int}, k ≤ lz l → l[k]? = some x → x ≠ 0 → lz l = k
  | [], k, _, _, h, _ => by simp at h
  | y :: r, 0, x, _, h, hx => by
    have e : y = x := Option.some.inj h
    simp only [lz, e, if_neg hx]
  | y :: r, k + 1, x, hk, h, hx => by
    simp only [lz] at hk ⊢
    by_cases e : y = 0
    · rw [if_pos e] at hk ⊢
      have := lz_stop (l := r) (k := k) (x := x) (by omega) h hx
      omega
    · rw [if_neg e] at hk
      omega
theorem lz_zeros : ∀ (k : Nat) (l : List Int), lz (List.replicate k 0 ++ l) = k + lz l
  | 0, l => by simp
  | k + 1, l => by
    rw [List.replicate_succ, List.cons_append, lz, if_pos rfl, lz_zeros k l]
    omega
inductive RC where
  | long : RC
  | short : RC
  | read (v : Int) (stop : Nat) : RC
def readC (xs : List Int) (a : Nat) : RC :=
  if 40 < lz (xs.drop a) then .long else if xs.length < a + lz (xs.drop a) + 1 + lz (xs.drop a) then .short
  else .read (valI ((xs.drop (a + lz (xs.drop a))).take (lz (xs.drop a) + 1)) - 1) (a + lz (xs.drop a) + 1 + lz (xs.drop a))
def rcV : RC → List V
  | .long => [.str "long"]
  | .short => [.str "short"]
  | .read v s => [.str "read", .int v, .int s]
/-- a signed number of a count -/
def sgnR : RC → RC
  | .read v s => .read (if v % 2 = 0 then v / 2 else (-(v + 1)) / 2) s
  | r => r
theorem read_code {A B : List Int} {c : Nat} (h : c + 1 < 2 ^ 41) : readC (A ++ code c ++ B) A.length = .read c (A.length + (code c).length) := by
  obtain ⟨r, hr⟩ := digs_head (n := c + 1) (by omega)
  have l1 := bl_half (n := c + 1) (by omega)
  have l2 : bl (c + 1) ≤ 41 := bl_le h
  have e1 : (A ++ code c ++ B).drop A.length = List.replicate (bl (c + 1) - 1) 0 ++ (digs (c + 1) ++ B) := by
    rw [List.append_assoc, List.drop_left' rfl, code, List.append_assoc]
  have e2 : lz ((A ++ code c ++ B).drop A.length) = bl (c + 1) - 1 := by
    rw [e1, lz_zeros, hr]
    simp [lz]
  have e3 : (A ++ code c ++ B).drop (A.length + (bl (c + 1) - 1)) = digs (c + 1) ++ B := by
    rw [← List.drop_drop, e1, List.drop_left' (by rw [List.length_replicate])]
  have e4 : (digs (c + 1) ++ B).take (bl (c + 1) - 1 + 1) = digs (c + 1) := by
    rw [List.take_left' (by rw [digs_len]; omega)]
  unfold readC
  rw [e2, if_neg (by omega), if_neg (by rw [List.length_append, List.length_append, code_len]; omega), e3, e4, valI_digs, code_len]
  congr 1
  · omega
  · omega
theorem read_cut {A : List Int} {c t : Nat} (h : c + 1 < 2 ^ 41) (ht : t < (code c).length) : readC (A ++ (code c).take t) A.length = .short := by
  obtain ⟨r, hr⟩ := digs_head (n := c + 1) (by omega)
  have l1 := bl_half (n := c + 1) (by omega)
  have l2 : bl (c + 1) ≤ 41 := bl_le h
  rw [code_len] at ht
  have e0 : (A ++ (code c).take t).length = A.length + t := by
    rw [List.length_append, List.length_take, code_len]
    omega
  have e1 : (A ++ (code c).take t).drop A.length = (code c).take t := List.drop_left' rfl
  by_cases q : t ≤ bl (c + 1) - 1
  · have e2 : (code c).take t = List.replicate t 0 := by
      unfold code
      rw [List.take_append_of_le_length (by rw [List.length_replicate]; exact q), List.take_replicate, Nat.min_eq_left q]
    have e3 : lz ((A ++ (code c).take t).drop A.length) = t := by
      rw [e1, e2]
      have := lz_zeros t []
      rw [List.append_nil] at this
      rw [this]
      rfl
    unfold readC
    rw [e3, if_neg (by omega), if_pos (by rw [e0]; omega)]
  · have e2 : (code c).take t = List.replicate (bl (c + 1) - 1) 0 ++ (digs (c + 1)).take (t - (bl (c + 1) - 1)) := by
      unfold code
      rw [List.take_append, List.length_replicate, List.take_of_length_le (by rw [List.length_replicate]; omega)]
    have e3 : lz ((A ++ (code c).take t).drop A.length) = bl (c + 1) - 1 := by
      rw [e1, e2, lz_zeros, hr]
      obtain ⟨m, hm⟩ : ∃ m, t - (bl (c + 1) - 1) = m + 1 := ⟨t - (bl (c + 1) - 1) - 1, by omega⟩
      rw [hm, List.take_succ_cons]
      simp [lz]
    unfold readC
    rw [e3, if_neg (by omega), if_pos (by rw [e0]; omega)]
/-! ### what is told, as data -/
def rcD : RC → List PyData
  | .long => [.str "long"]
  | .short => [.str "short"]
  | .read v s => [.str "read", .int v, .int s]
theorem dp_rc {K : PySem.W.Frag} {H : Hp} {p : Addr} {r : RC} (h : H p = some (.tup (rcV r))) : Dp K H (.ref p) (.tuple (rcD r)) := by
  cases r with
  | long => exact .tup (.inl (.inl h)) (.cons (.str _) .nil)
  | short => exact .tup (.inl (.inl h)) (.cons (.str _) .nil)
  | read v s => exact .tup (.inl (.inl h)) (.cons (.str _) (.cons (.int _) (.cons (.int _) .nil)))
theorem sh_rc (r : RC) : SeqAt.shaped (.tuple (rcD r)) = true := by
  cases r with
  | long => decide +kernel
  | short => decide +kernel
  | read v s =>
    have h : PyData.canLay0 (.str "read") = true := by decide +kernel
    simp [SeqAt.shaped, rcD, PyData.canLay0, PyData.canLayAll0, PyData.depth, PyData.depthAll] at h ⊢
    try exact h
theorem q_neR {K : PySem.W.Frag} {H : Hp} {p q : Addr} {r : RC} {Q : VK} (hp : H p = some (.tup (rcV r))) (hq : H q = some (.tup (rcV r))) (h : Q (.bl false) H) : rNeD K (.ref p) (.ref q) H Q :=
  ⟨_, _, dp_rc hp, dp_rc hq, sh_rc r, sh_rc r, by rw [eqv_same (sh_rc r)]; exact h⟩
end My
namespace My
open PySem PySem.Spec PyProof.Rows L2
/-! ### several except clauses, each with a name -/
abbrev Clause := Value × Nat × (Addr → Value → Option Addr → TS)
def wAll (K : PySem.W.Frag) (Wout : WX) (D : Ends) : List Clause → WX
  | [] => Wout
  | (c, i, ts) :: more => wAs K c i ts (wAll K Wout D more) D
inductive Clauses (X : Cx) : List ExceptHandler → List Clause → Prop
  | done : Clauses X [] []
  | step {x n : Str} {c : Value} {i : Nat} {ts : Addr → Value → Option Addr → TS} {first : Stmt} {others : List Stmt} {p1 p2 : Pos} {hds : List ExceptHandler} {cs : List Clause}
      (cl : Names X x c) (slot : X.N[i]? = some n) (lo : X.env.kindOf n = some .local)
      (body : ∀ (a : Addr) (oe : Obj) (cls : Value) (d : Option Addr) (pn : List (Addr × Obj)), Zc cls d oe → (∃ vs, oe.data = .fields vs) → PSs (X.suite a ((a, oe) :: pn)) (first :: others) (ts a cls d))
      (more : Clauses X hds cs) : Clauses X (.ExceptHandler (some (.Name x p1)) (some n) (first :: others) p2 :: hds) ((c, i, ts) :: cs)
section
variable {X : Cx} {todo : List Stmt} {h0 : ExceptHandler} {hds : List ExceptHandler} {cs : List Clause} {pos : Pos} {tb : WX → TS} {Wout : WX}
theorem ps_try_all (e1 : X.stack = X.env :: X.outer) (e2 : X.env.frame = some X.env.locals) (nd : X.N.Nodup) (tk : Takes X Wout)
    (run : ∀ (W : WX) (pn : List (Addr × Obj)) (xe : Value → Shared → Prop), Takes (X.tr pn xe) W → PassesOwn (model X.prog X.w) X.A X.env xe → PSs (X.tr pn xe) todo (tb W))
    (all : Clauses X (h0 :: hds) cs) : PS X (.Try todo (h0 :: hds) [] [] pos) (fun D σ H => tb (wAll X.K Wout D cs) D σ H) := by
  constructor
  intro pins s σ H D I reading
  have here := I.ok
  have fr : X.A.frames = some (X.env :: X.outer) := by
    rw [here.frames, e1]
  apply wpAny_Try_except
  refine wpAny_mono ((run (wAll X.K Wout D cs) (X.pn ++ pins) _ (fun u t caught => ?landing) PassesOwn.looking).run [] s σ H D (I.toTry _) reading) (fun f t out => ?through) (fun _ _ z => z)
  case through =>
    cases f with
    | ret v =>
      obtain ⟨x, σ', H', J, rx, q⟩ := out
      exact ⟨x, σ', H', J.ofTry here, rx, q⟩
    | cont =>
      obtain ⟨σ', H', J, q⟩ := out
      exact ⟨σ', H', J.ofTry here, q⟩
    | brk =>
      obtain ⟨σ', H', J, q⟩ := out
      exact ⟨σ', H', J.ofTry here, q⟩
    | next =>
      obtain ⟨σ', H', J, q⟩ := out
      exact wpAny_execs_nil ⟨σ', H', J.ofTry here, q⟩
  case landing =>
    obtain ⟨a, B, sI, old, σ', H', cls, d, rfl, J0, nb, grown, sky0, fresh, os, bare, wish⟩ := caught
    have J : Inv X pins σ' H' sI := J0.ofTry here
    have sky : Sky B (X.env :: X.outer) a (Zc cls d) X.env.locals t.heap := e1 ▸ sky0
    refine Sky.land Zc.steady fr e2 sky (fun g fly up => ?_)
    have JG : Inv X pins σ' H' { t with heap := g } := J.landed nb fly.1 (grown.trans up) os bare
    obtain ⟨oe, vs, hoe, hz, hdat⟩ := fly.there
    have apart : a ∉ frs (X.env :: X.outer) := by
      intro m
      obtain ⟨_, o2, g2, no⟩ := fly.2.2.1.mem m
      rw [hoe] at g2
      cases g2
      exact no _ hdat
    have aL : a ≠ X.env.locals := by
      intro z
      exact apart (List.mem_filterMap.mpr ⟨X.env, List.mem_cons_self, by rw [e2, z]⟩)
    have aF : a ∉ X.fs := by
      intro m
      obtain ⟨ev, me, q⟩ := List.mem_filterMap.mp m
      exact apart (List.mem_filterMap.mpr ⟨ev, List.mem_cons_of_mem _ me, q⟩)
    have SG := JG.suite hoe hdat fresh aL aF
    have goOn : ∀ {hs2 : List ExceptHandler} {cs2 : List Clause}, Clauses X hs2 cs2 → wAll X.K Wout D cs2 cls d σ' H' → wpAny (model X.prog X.w) X.A (handleBy (.ref a) X.env hs2) (SP X pins D) X.xe { t with heap := g } := by
      intro hs2 cs2 k
      induction k with
      | done =>
        intro wsh
        apply wpAny_handleBy_nil
        obtain ⟨_, _, _, ob, fs, T, oT, ts', g1, z1, d1, f1, _⟩ := id fly
        have leave : wpAny (model X.prog X.w) X.A (setFlight (.ref a) X.env.frame) (fun _ t2 => wpAny (model X.prog X.w) X.A (throw (.ref a) : Sem Flow) (SP X pins D) X.xe t2) X.xe { t with heap := g } := by
          rw [e2]
          exact HandSPX.setFlight_upZ fly fun g3 fly3 up3 => wpAny_throw (tk _ _ ⟨a, B, sI, pins, σ', H', cls, d, rfl, J, nb, (grown.trans up).trans up3, .inr (.inr (e1.symm ▸ fly3)), fresh, os, bare, wsh⟩)
        unfold PySem.passOn
        apply wpAny_bind
        refine wpAny_field g1 d1 f1 ?_
        rw [if_neg (by simp)]
        first
          | exact wpAny_bind leave
          | exact wpAny_bind (wpAny_pure (wpAny_bind leave))
      | @step x n c i ts fst oth p1 p2 hs3 cs3 cl slot lo body more ih =>
        intro wsh
        obtain ⟨b, hb, yes, no⟩ := wsh
        have tyOf : PySem.W.Looks (model X.prog X.w) g (typeOf (.ref a)) cls := fun _ _ _ _ k q => wpAny_typeOf_ref (k _ _ hoe) (hz.1.symm ▸ q)
        have ask := PySem.W.exm_one (M := model X.prog X.w) JG.kIn tyOf hb
        refine wpAny_handleBy_cons (codeAny_handlers_test ?_) (fun z => by cases z)
        have named : ∀ {Q : Value → Shared → Prop} {E : Value → Shared → Prop}, Q c { t with heap := g } → wpAny (model X.prog X.w) (X.A.mark (some (.ref a))) (eval (.Name x p1) X.env) Q E { t with heap := g } := by
          intro Q E q
          obtain ⟨isG, nodbg, isM | ⟨isM, isB, nn⟩⟩ := cl
          · exact ld_glob (X := X.suite a ((a, oe) :: (X.pn ++ pins))) SG isG isM q nodbg
          · exact ld_blt (X := X.suite a ((a, oe) :: (X.pn ++ pins))) SG isG isM isB q nn nodbg
        refine named (ask.here ?_)
        cases b with
        | false => exact ih (no rfl)
        | true =>
          apply codeAny_handlers_suite_as
          refine HandSPX.lands_againZ fly (fun g4 fly4 up4 => ?_)
          have J4 : Inv X pins σ' H' { t with heap := g4 } := J.landed nb fly4.1 ((grown.trans up).trans up4) os bare
          obtain ⟨oe4, vs4, hoe4, hz4, hdat4⟩ := fly4.there
          have S4 := J4.suite hoe4 hdat4 fresh aL aF
          refine store_ok (X := X.suite a ((a, oe4) :: (X.pn ++ pins))) (v := .ref a) S4 nd slot (.inl lo) rfl (fun t5 S5 => ?_) (.inr lo)
          refine wpAny_mono ((body a oe4 cls d (X.pn ++ pins) hz4 ⟨_, hdat4⟩).run [] t5 _ H' _ S5 (yes rfl a fresh)) (fun f t6 out => ?_) (fun _ _ z => z.elim)
          have unname : ∀ {σ6 : L2.St} {H6 : Hp} {Q : Shared → Prop}, Inv (X.suite a ((a, oe4) :: (X.pn ++ pins))) [] σ6 H6 t6 → (∀ t7, Inv X pins (σ6.set i none) H6 t7 → Q t7) →
              wpAny (model X.prog X.w) X.A (do bindName X.env n .none; unbindBehindTheSuite X.env n p2) (fun _ t7 => Q t7) X.xe t6 := by
            intro σ6 H6 Q S6 hq
            exact gone_ok (S6.unsuite here) nd slot lo hq
          cases f with
          | ret u =>
            obtain ⟨v6, σ6, H6, S6, r6, q6⟩ := out
            exact unname S6 fun t7 J7 => ⟨v6, _, _, J7, r6, q6⟩
          | cont =>
            obtain ⟨σ6, H6, S6, q6⟩ := out
            exact unname S6 fun t7 J7 => ⟨_, _, J7, q6⟩
          | brk =>
            obtain ⟨σ6, H6, S6, q6⟩ := out
            exact unname S6 fun t7 J7 => ⟨_, _, J7, q6⟩
          | next =>
            obtain ⟨σ6, H6, S6, q6⟩ := out
            exact unname S6 fun t7 J7 => ⟨_, _, J7, q6⟩
    exact goOn all wish
end
end My
namespace My
open PySem PySem.Spec PyProof.Rows L2
/-! ### shapes of data, for comparing -/
structure ShD (n : Nat) (d : PyData) : Prop where
  lay : d.canLay0 = true
  dep : d.depth ≤ n
theorem ShD.sh {n : Nat} {d : PyData} (h : ShD n d) (hn : n ≤ 64) : SeqAt.shaped d = true := by
  unfold SeqAt.shaped
  rw [h.lay, decide_eq_true (Nat.le_trans h.dep hn)]
  rfl
theorem ShD.mono {n m : Nat} {d : PyData} (h : ShD n d) (hn : n ≤ m) : ShD m d := ⟨h.lay, Nat.le_trans h.dep hn⟩
theorem shd_int {n : Nat} (i : Int) : ShD n (.int i) := ⟨by simp [PyData.canLay0], by simp [PyData.depth]⟩
theorem shd_bl {n : Nat} (b : Bool) : ShD n (.bool b) := ⟨by simp [PyData.canLay0], by simp [PyData.depth]⟩
theorem shd_non {n : Nat} : ShD n .none := ⟨by simp [PyData.canLay0], by simp [PyData.depth]⟩
theorem shd_str {n : Nat} {x : Str} (h : PyData.canLay0 (.str x) = true) : ShD n (.str x) := ⟨h, by simp [PyData.depth]⟩
theorem shd_all {n : Nat} : ∀ {ds : List PyData}, (∀ d ∈ ds, ShD n d) → PyData.canLayAll0 ds = true ∧ PyData.depthAll ds ≤ n
  | [], _ => ⟨rfl, Nat.zero_le _⟩
  | d :: r, h => by
    have h1 := h d List.mem_cons_self
    have h2 := shd_all (ds := r) fun x m => h x (List.mem_cons_of_mem _ m)
    refine ⟨?_, ?_⟩
    · rw [PyData.canLayAll0, h1.lay, h2.1]
      rfl
    · rw [PyData.depthAll]
      exact Nat.max_le.mpr ⟨h1.dep, h2.2⟩
theorem shd_lst {n : Nat} {ds : List PyData} (h : ∀ d ∈ ds, ShD n d) : ShD (n + 1) (.list ds) := ⟨by rw [PyData.canLay0]; exact (shd_all h).1, by rw [PyData.depth]; exact Nat.succ_le_succ (shd_all h).2⟩
theorem shd_tup {n : Nat} {ds : List PyData} (h : ∀ d ∈ ds, ShD n d) : ShD (n + 1) (.tuple ds) := ⟨by rw [PyData.canLay0]; exact (shd_all h).1, by rw [PyData.depth]; exact Nat.succ_le_succ (shd_all h).2⟩
theorem shd_ints {n : Nat} (ns : List Int) : ShD (n + 1) (.list (ns.map PyData.int)) := shd_lst fun d m => by
  obtain ⟨i, _, rfl⟩ := List.mem_map.mp m
  exact shd_int i
theorem q_eqS {K : PySem.W.Frag} {H : Hp} {x y : V} {d : PyData} {Q : VK} (hx : Dp K H x d) (hy : Dp K H y d) (s : SeqAt.shaped d = true) (h : Q (.bl true) H) : rEqD K x y H Q :=
  ⟨_, _, hx, hy, s, s, by rw [eqv_same s]; exact h⟩
theorem q_neS {K : PySem.W.Frag} {H : Hp} {x y : V} {d : PyData} {Q : VK} (hx : Dp K H x d) (hy : Dp K H y d) (s : SeqAt.shaped d = true) (h : Q (.bl false) H) : rNeD K x y H Q :=
  ⟨_, _, hx, hy, s, s, by rw [eqv_same s]; exact h⟩
/-! ### a body that may let out what is caught -/
theorem pss_ex {X : Cx} {W : WX} {n : Nat} {ss : List Stmt} {r : XK → TS} (h : ∀ E : XK, (∀ cls d σ' H', E cls d H' → σ'.length = n → W cls d σ' H') → PSs X ss (r E)) :
    PSs X ss (fun D σ H => ∃ E : XK, (∀ cls d σ' H', E cls d H' → σ'.length = n → W cls d σ' H') ∧ r E D σ H) :=
  ⟨fun pins s σ H D I ⟨E, hE, q⟩ => (h E hE).run pins s σ H D I q⟩
theorem takes_len {X : Cx} {W : WX} (t : Takes X W) : Takes X (fun c d σ H => σ.length = X.N.length → W c d σ H) := fun u s' ⟨a, B, sI, pins, σ, H, cls, d, e, I, nb, up, sky, na, os, ag, w⟩ =>
  t u s' ⟨a, B, sI, pins, σ, H, cls, d, e, I, nb, up, sky, na, os, ag, w I.len⟩
theorem vk_mono {tl : XK → Hp → VK → Prop} {E : XK} {H : Hp} {R R' : VK} (he : ∀ v H1, R v H1 ↔ R' v H1) (h : tl E H R) : tl E H R' := by
  have e : R = R' := funext fun v => funext fun H1 => propext (he v H1)
  rw [← e]
  exact h
theorem len3 {σ : L2.St} (h : σ.length = 3) : ∃ x y z, σ = [x, y, z] := match σ, h with | [x, y, z], _ => ⟨x, y, z, rfl⟩
/-! ### a def that makes lambdas: its code object is known -/
structure FunC (K : PySem.W.Frag) (x qual : Str) (st : Stmt) (f : Addr) (fd : FuncData) (c : Addr) : Prop where
  ex : ∃ (oc : Value) (od : Option Addr) (kV doc pm : Value) (an : Option Addr) (ct : Value) (osl : Array (Option Value)),
    fd = PySem.W.fnOf x qual (defArgs st) (defBody st) (defScope st) .none kV doc pm an (.ref c) ct ∧ K.lookup f = some ⟨oc, od, .func fd, osl⟩ ∧ PySem.W.codeIn K (.ref c) qual = true
theorem FunC.ok {P : Program} {w : World} {K : PySem.W.Frag} {mg : Str → Option Value} {base : Heap} {x qual : Str} {st : Stmt} {f c : Addr} {fd : FuncData} {N ps : List Str} {k : Nat} {sp : Sp} (F : FunC K x qual st f fd c) (S : FnScope N ps (defScope st)) (len : ∀ vs H Q E, sp vs H Q E → vs.length = ps.length)
    (hbody : ∀ (A : Around) (outer : List Env) (s : Shared) (H : Hp) (vs : List V) (Q : VK) (E : XK), Room k (A.deeper (envOfC qual (defScope st) s.heap.objs.size f (.ref c))) → sp vs H Q E →
      ∃ t, PSs (cxOf CX0 P w K mg base N qual (defScope st) f (.ref c) A outer s H E).nox (defBody st) t ∧ t { nx := fun _ H' => Q .non H', rt := Q } (start N vs) H) : FnOk P w K mg base CX0 (k + 1) f fd ps sp := by
  obtain ⟨oc, od, kV, doc, pm, an, ct, osl, rfl, lk, hcd⟩ := F.ex
  refine fn_of lk hcd S len fun A outer s H vs Q E hr hsp => ?_
  obtain ⟨t, h, q⟩ := hbody A outer s H vs Q E hr hsp
  exact ⟨t, h.nox, q⟩
theorem funC_mk {K : PySem.W.Frag} {x qual : Str} {st : Stmt} {f c0 : Addr} {oc : Value} {od an : Option Addr} {osl : Array (Option Value)} {kV doc pm ct : Value} (l : K.lookup f = some ⟨oc, od, .func (PySem.W.fnOf x qual (defArgs st) (defBody st) (defScope st) .none kV doc pm an (.ref c0) ct), osl⟩)
    (c : PySem.W.codeIn K (.ref c0) qual = true) : FunC K x qual st f (PySem.W.fnOf x qual (defArgs st) (defBody st) (defScope st) .none kV doc pm an (.ref c0) ct) c0 := ⟨⟨oc, od, kV, doc, pm, an, ct, osl, rfl, l, c⟩⟩
/-! ### tables beside draws -/
def UpN (a : Addr) (H H' : Hp) : Prop := ∀ b o, b ≠ a → H b = some o → (∀ ps, o ≠ .tbl ps) → H' b = some o
theorem UpN.refl (a : Addr) (H : Hp) : UpN a H H := fun _ _ _ h _ => h
theorem UpN.trans {a : Addr} {H H1 H2 : Hp} (u : UpN a H H1) (v : UpN a H1 H2) : UpN a H H2 := fun b o n h t => v b o n (u b o n h t) t
theorem Up.n {a : Addr} {H H' : Hp} (u : Up a H H') : UpN a H H' := fun b o n h _ => u b o n h
theorem ext_n {a : Addr} {H H' : Hp} (x : LamX.ExtN H H') : UpN a H H' := fun b o _ h t => x b o h t
theorem Src.ext {a : Addr} {H H' : Hp} (x : LamX.ExtN H H') (s : Src H a) : Src H' a := by
  obtain ⟨u, v, e, r⟩ := s
  exact ⟨u, v, x _ _ e (fun ps z => by cases z), r⟩
theorem tabs_up {T : List (Addr × Str)} {a : Addr} {H H' : Hp} (t : LamX.Tabs T H) (u : Up a H H') (s : Src H a) : LamX.Tabs T H' := fun p hp => by
  obtain ⟨x, y, e, _⟩ := s
  obtain ⟨ps, h1, h2, h3⟩ := t p hp
  refine ⟨ps, u _ _ (fun z => ?_) h1, h2, fun pos cv hc => ?_⟩
  · rw [z, e] at h1
    cases h1
  · obtain ⟨c, e1, e2⟩ := h3 pos cv hc
    refine ⟨c, e1, u _ _ (fun z => ?_) e2⟩
    rw [z, e] at e2
    unfold LamX.CodeO at e2
    cases e2
theorem tabs_same {T : List (Addr × Str)} {H H' : Hp} (t : LamX.Tabs T H) (s : Same H H') : LamX.Tabs T H' := t.ext fun b o e => s b o e
theorem ext_same {H H' : Hp} (s : Same H H') : LamX.ExtN H H' := fun b o e _ => s b o e
theorem UpN.to {a : Addr} {G H H' : Hp} (u : UpN a H H') (x : LamX.ExtN G H) (n : G a = none) : LamX.ExtN G H' := fun b o e t => u b o (ne_of_none e n) (x b o e t) t
theorem ext_seq {K : PySem.W.Frag} {H H' : Hp} {a : Addr} {xs : List V} (x : LamX.ExtN H H') (h : SqL K H a xs) : SqL K H' a xs := by
  rcases h with (h | ⟨o, h⟩) | h
  · exact .inl (.inl (x _ _ h (fun ps z => nomatch z)))
  · exact .inl (.inr ⟨o, x _ _ h (fun ps z => nomatch z)⟩)
  · exact .inr h
/-! ### the value of bits -/
theorem valI_lt : ∀ (n : Nat) (xs : List Int), xs.length = n → AreBits xs → ∃ z : Nat, valI xs = (z : Int) ∧ z < 2 ^ n
  | 0, xs, h, _ => by
    rw [List.length_eq_zero_iff.mp h]
    exact ⟨0, rfl, by decide⟩
  | n + 1, xs, h, hb => by
    rcases List.eq_nil_or_concat xs with rfl | ⟨ys, y, rfl⟩
    · cases h
    have hl : ys.length = n := by
      rw [List.length_concat] at h
      omega
    rw [List.concat_eq_append] at hb ⊢
    obtain ⟨z, hz, hz2⟩ := valI_lt n ys hl fun b m => hb b (List.mem_append_left _ m)
    have hb2 := hb y (List.mem_append_right _ (List.mem_singleton.mpr rfl))
    rw [valI_snoc, hz]
    have p : 2 ^ (n + 1) = 2 * 2 ^ n := by rw [Nat.pow_succ, Nat.mul_comm]
    exact ⟨2 * z + y.toNat, by omega, by omega⟩
/-! ### digits with zeros ahead -/
theorem bitsW_zero : ∀ d, bitsW d 0 = List.replicate d 0
  | 0 => rfl
  | d + 1 => by
    rw [bitsW, Nat.zero_div, bitsW_zero d, List.replicate_succ']
theorem bitsW_pad (d : Nat) : ∀ w n, n < 2 ^ w → bitsW (d + w) n = List.replicate d 0 ++ bitsW w n
  | 0, n, h => by
    have e : n = 0 := by omega
    subst e
    rw [Nat.add_zero, bitsW_zero, bitsW, List.append_nil]
  | w + 1, n, h => by
    have p : 2 ^ (w + 1) = 2 * 2 ^ w := by rw [Nat.pow_succ, Nat.mul_comm]
    show bitsW (d + w + 1) n = _
    rw [bitsW, bitsW, bitsW_pad d w (n / 2) (by omega), List.append_assoc]
theorem bitsI_pad (d w n : Nat) (h : n < 2 ^ w) : bitsI (d + w) n = List.replicate d 0 ++ bitsI w n := by
  unfold bitsI
  rw [bitsW_pad d w n h, List.map_append, List.map_replicate]
  rfl
end My
namespace My
open PySem PySem.Spec PyProof.Rows L2
/-! ### xs[i] op= e, for a list -/
theorem get_list {X : Cx} : PGet X (rIxL X.K) := by
  intro pins s σ H o i ov iv Q I ro ri h
  obtain ⟨p, xs, i, z, rfl, rfl, hq, he, q⟩ := h
  cases ro
  obtain ⟨t, rfl⟩ := ri
  obtain ⟨its, r, pl, hz⟩ := I.list hq
  obtain ⟨j, h1, h2, h3, h4, h5⟩ := atI_get he
  obtain ⟨w, ew, rw'⟩ := r.get h2
  have hl := r.length
  have hn := line63
  have fin : EP X pins σ Q w s := ⟨z, H, I, rw', q⟩
  by_cases h0 : 0 ≤ i
  · have hj : i.toNat = j := by
      rw [seqIndex_of h0 h5] at h1
      exact Option.some.inj h1
    exact wpAny_getItem_list pl.isList h0 (by omega) (by rw [hj]; simpa using ew) fin
  · have hj : (i + (its.toArray.size : Int)).toNat = j := by
      rw [seqIndex_neg (by omega) h4] at h1
      rw [List.size_toArray, ← hl]
      exact Option.some.inj h1
    exact wpAny_getItem_list_neg pl.isList (by omega) (by rw [List.size_toArray] <;> omega) (by omega) (by rw [hj]; simpa using ew) fin
/-! ### sum and for over a list or a tuple -/
def SqS (K : PySem.W.Frag) (H : Hp) (p : Addr) (xs : List V) : Prop := SqL K H p xs ∨ SqT K H p xs
def rSumS (K : PySem.W.Frag) : List V → Hp → VK → Prop := fun vs H Q => ∃ (a : Addr) (ns : List Int), vs = [V.ref a] ∧ SqS K H a (ns.map V.int) ∧ Q (.int ns.sum) H
theorem cr_sumS {X : Cx} (hc : X.calm = true) : CallR X (.builtin "sum") (rSumS X.K) := by
  intro pins s σ H vs us Q I r h
  obtain ⟨a, ns, rfl, hs, q⟩ := h
  rcases hs with hs | hs
  · exact cr_sum hc pins s σ H _ us Q I r ⟨a, ns, rfl, hs, q⟩
  · obtain ⟨its, rv, p, _⟩ := I.tuple hs
    rw [Vals.ref1 r]
    obtain ⟨xs, e⟩ := rv.ints.allInts.items
    have hn : numsOf (intItems xs).toList = ns := by rw [← e]; exact rv.ints.numsOf
    rw [nums_intItems] at hn
    have p2 : s.heap.IsTuple a (intItems xs) := by rw [← e]; exact p
    refine PySem.W.ktm_sumG (I.ok.hd hc) p2 fun h' tk t' hk => ?_
    rw [preSum_eq, List.take_of_length_le (by simp), hn]
    exact ⟨.int _, H, I.kept hk, ⟨_, rfl⟩, q⟩
def iSeq (K : PySem.W.Frag) (tl : TE) : TI := fun σ H R => tl σ H fun x H1 => ∃ a, x = .ref a ∧ (((∃ xs, SqL K H1 a xs) ∧ R (Itl K a) H1) ∨ ((∃ xs, SqT K H1 a xs) ∧ R (Itt K a) H1))
theorem pi_seq {X : Cx} {tg l : Expr} {tl : TE} (hl : PE X l tl) : PI X tg l (iSeq X.K tl) := by
  refine ⟨fun pins s σ H R I h => ?_⟩
  refine thn (hl.run pins s σ H _ I h) fun v s1 ⟨x, H1, I1, r1, q1⟩ => ?_
  obtain ⟨a, e, q⟩ := q1
  subst e
  cases r1
  rcases q with ⟨⟨xs, hq⟩, q⟩ | ⟨⟨xs, hq⟩, q⟩
  · obtain ⟨its, rv, p, hz⟩ := I1.list hq
    refine wpAny_pyIter_list p.isList ?_
    refine ⟨s1.heap.objs.size, [s1.heap.objs.size], _, _, H1, rfl, I1.kept (t' := s1.toks) fun b o e => Heap.get?_push_of_some _ e, turn_list a _, ⟨_, Heap.get?_push_size _ rfl, rfl, rfl⟩, fun b hb => ?_, q⟩
    have e : b = s1.heap.objs.size := by simpa using hb
    subst e
    exact I1.fpOk (Nat.le_refl _) (I1.hok.fresh (Nat.le_refl _))
  · obtain ⟨its, rv, p, hz⟩ := I1.tuple hq
    refine wpAny_pyIter_tuple (show s1.heap.IsTuple a its.toArray from p) ?_
    refine ⟨s1.heap.objs.size, [s1.heap.objs.size], _, _, H1, rfl, I1.kept (t' := s1.toks) fun b o e => Heap.get?_push_of_some _ e, turn_tuple a _, ⟨_, Heap.get?_push_size _ rfl, rfl, rfl⟩, fun b hb => ?_, q⟩
    have e : b = s1.heap.objs.size := by simpa using hb
    subst e
    exact I1.fpOk (Nat.le_refl _) (I1.hok.fresh (Nat.le_refl _))
theorem same_seqT {K : PySem.W.Frag} {H H' : Hp} {a : Addr} {xs : List V} (e : Same H H') (h : SqT K H a xs) : SqT K H' a xs := by
  rcases h with (h | ⟨o, h⟩) | h
  · exact .inl (.inl (e _ _ h))
  · exact .inl (.inr ⟨o, e _ _ h⟩)
  · exact .inr h
theorem same_seqS {K : PySem.W.Frag} {H H' : Hp} {a : Addr} {xs : List V} (e : Same H H') (h : SqS K H a xs) : SqS K H' a xs := by
  rcases h with h | h
  · exact .inl (e.seq h)
  · exact .inr (same_seqT e h)
theorem for_seq {K : PySem.W.Frag} {a : Addr} {xs : List V} {g : TG} {tb : TS} {D : Ends} {σ : L2.St} {H : Hp} (Pv : Nat → L2.St → Hp → Prop) (h0 : Pv 0 σ H) (hl : (∀ i σ' H', i ≤ xs.length → Pv i σ' H' → SqL K H' a xs) ∨ (∀ i σ' H', i ≤ xs.length → Pv i σ' H' → SqT K H' a xs))
    (hs : ∀ i x σ H, xs[i]? = some x → Pv i σ H → g x σ H fun σ2 H2 => tb { D with nx := Pv (i + 1), ct := Pv (i + 1), bk := D.nx } σ2 H2) (hd : ∀ σ H, Pv xs.length σ H → D.nx σ H) :
    ((∃ ys, SqL K H a ys) ∧ ∃ W : Nat → Nat → L2.St → Hp → Prop, (∃ m, W 0 m σ H) ∧ ∀ i m σ H, W i m σ H →
      ((Itl K a).stop i H ∧ D.nx σ H) ∨ ((Itl K a).go i H ∧ ∃ N : L2.St → Hp → Prop, (∀ σ' H', N σ' H' → ∃ m', m' < m ∧ W (i + 1) m' σ' H') ∧ ∀ x H', (Itl K a).yld i H x H' → g x σ H' fun σ2 H2 => tb { D with nx := N, ct := N, bk := D.nx } σ2 H2)) ∨
    ((∃ ys, SqT K H a ys) ∧ ∃ W : Nat → Nat → L2.St → Hp → Prop, (∃ m, W 0 m σ H) ∧ ∀ i m σ H, W i m σ H →
      ((Itt K a).stop i H ∧ D.nx σ H) ∨ ((Itt K a).go i H ∧ ∃ N : L2.St → Hp → Prop, (∀ σ' H', N σ' H' → ∃ m', m' < m ∧ W (i + 1) m' σ' H') ∧ ∀ x H', (Itt K a).yld i H x H' → g x σ H' fun σ2 H2 => tb { D with nx := N, ct := N, bk := D.nx } σ2 H2)) := by
  rcases hl with h | h
  · exact .inl ⟨⟨_, h _ _ _ (Nat.zero_le _) h0⟩, for_list Pv h0 h hs hd⟩
  · exact .inr ⟨⟨_, h _ _ _ (Nat.zero_le _) h0⟩, for_tup Pv h0 h hs hd⟩
end My
namespace My
open PySem PySem.Spec PyProof.Rows L2
/-! ### classes: makers, methods, properties, handed round as one fact each -/
theorem passN {X : Cx} : Passes (L2.CX X.prog X.w) X C8.E0 := fun _ _ _ _ _ _ _ c => by
  obtain ⟨_, _, _, _, _, _, _, _, _, _, _, _, z⟩ := c
  exact z.elim
section
variable {X : Cx} {CX : CXT} {k j : Nat} {f C : Addr} {fd : FuncData} {ps ks : List Str} {sp : Sp} {E : XK} {x m : Str} {p pos apos : Pos} {e o : Expr} {es : List Expr} {kws : List Keyword} {ta : TE} {t tk : TA} {g : List Value → List Value → List Value} {gV : List V → List V → List V}
/-- o.m(k = v, ..), nothing by position -/
def tMethK (C : Addr) (m : Str) (n : Nat) (sp : Sp) (E : XK) (ta : TE) (tk : TA) : TE := fun σ H Q => ta σ H fun x H1 => ∃ a dx fs, x = .ref a ∧ H1 a = some (.ins C dx fs) ∧ fs.lookup m = none ∧ tk σ H1 fun zs H2 => zs.length = n ∧ sp (x :: zs) H2 Q E
theorem pe_methK {pl : Sem Bool} (he : PE X o ta) (c : Cls X.K C) (hm : Meth X.K C m f) (F : FnOk X.prog X.w X.K X.mg X.base CX k f fd ps sp) (hr : Room k X.A) (hb : KBn X.K fd ps 1 ks (fun us ws => us ++ ws) (fun vs zs => vs ++ zs)) (hx : Passes CX X E) (hkw : PK X kws tk)
    (hall : (backToKw pos (keywordEach kws X.env)).all (·.1.isSome) = true := by rfl) (hks : (backToKw pos (keywordEach kws X.env)).filterMap (·.1) = ks := by rfl)
    (hpl : ((backTo pos (starEach [] X.env)).any (·.1) || (backToKw pos (keywordEach kws X.env)).any (·.1.isNone)) = false := by rfl)
    (ht : eval (.Call (.Attribute o m apos) [] kws pos) X.env = (do
      let ov ← eval o X.env
      standAt apos.atName
      let (f, first) ← holding [ov] (getMethod ov m pl)
      callWith pos f first (backTo pos (starEach [] X.env)) (backToKw pos (keywordEach kws X.env))) := by rfl) :
    PE X (.Call (.Attribute o m apos) [] kws pos) (tMethK C m ks.length sp E ta tk) := by
  refine ⟨fun pins s σ H Q I h => ?_⟩
  refine PySem.W.methodCall_KW (pl := pl) (thn (he.run pins s σ H _ I h) fun u s1 ⟨x, H1, I1, rx, a, dx, fs, ex, ea, l, q⟩ => ?_) ht
  subst ex
  obtain rfl : u = Value.ref a := rx
  refine getmeth_ok I1 ea c hm l ?_
  refine PySem.W.callWith_KW0 (first := [.ref a]) (h₀ := X.base) I.ok.mod.kin hm.kp hall ?_ hpl
  refine thn (hkw.run pos pins s1 σ H1 _ I1 q) fun ws s2 ⟨zs, H2, I2, rz, l2, q2⟩ => ⟨I2.kIn, ?_⟩
  rw [hks]
  exact run_fnN (us := [.ref a]) (vs := [.ref a]) F hr hb hx I2 (.cons rfl .nil) rz rfl l2 q2
end
/-- a method that may be called -/
structure CalM (P : Program) (w : World) (K : PySem.W.Frag) (mg : Str → Option Value) (base : Heap) (k : Nat) (C : Addr) (m : Str) (ks : List Str) (sp : Sp) : Prop where
  ex : ∃ (f : Addr) (fd : FuncData) (ps : List Str), Meth K C m f ∧ FnOk P w K mg base (L2.CX P w) k f fd ps sp ∧ Binds K fd ps [] ∧ KBn K fd ps 1 ks (fun us ws => us ++ ws) (fun vs zs => vs ++ zs)
/-- a class that may be called -/
structure CalC (P : Program) (w : World) (K : PySem.W.Frag) (mg : Str → Option Value) (base : Heap) (k : Nat) (x : Str) (C : Addr) (ks : List Str) (sp : Sp) : Prop where
  gl : mg x = some (.ref C)
  ex : ∃ (f : Addr) (fd : FuncData) (ps : List Str), Mk K C f ∧ FnOk P w K mg base (L2.CX P w) k f fd ps sp ∧ Binds K fd ps [] ∧ KBn K fd ps 1 ks (fun us ws => us ++ ws) (fun vs zs => vs ++ zs)
/-- a property that may be read -/
structure CalP (P : Program) (w : World) (K : PySem.W.Frag) (mg : Str → Option Value) (base : Heap) (k : Nat) (C : Addr) (f : Str) (sp : Sp) : Prop where
  ex : ∃ (p g : Addr) (fd : FuncData) (ps : List Str), PropOf K C f p g ∧ FnOk P w K mg base CX0 k g fd ps sp ∧ Binds K fd ps []
section
variable {X : Cx} {k j : Nat} {C : Addr} {ks : List Str} {sp : Sp} {E : XK} {x m : Str} {p pos apos : Pos} {e o : Expr} {es : List Expr} {kws : List Keyword} {ta : TE} {t tk : TA}
/-- o.m(e, ..); E: what is wanted of an exception -/
theorem pe_mx {pl : Sem Bool} (M : CalM X.prog X.w X.K X.mg X.base k C m ks sp) (c : Cls X.K C) (hr : Room j X.A) (hk : k ≤ j) (hx : Passes (L2.CX X.prog X.w) X E) (he : PE X o ta) (ha : PA X (e :: es) t)
    (hst : starEach (e :: es) X.env = (false, eval e X.env) :: starEach es X.env := by rfl) (hpl : (backTo pos (starEach es X.env)).any (·.1) = false := by rfl)
    (ht : eval (.Call (.Attribute o m apos) (e :: es) [] pos) X.env = (do
      let ov ← eval o X.env
      standAt apos.atName
      let (f, first) ← holding [ov] (getMethod ov m pl)
      callWith pos f first (backTo pos (starEach (e :: es) X.env)) (backToKw pos (keywordEach [] X.env))) := by rfl) :
    PE X (.Call (.Attribute o m apos) (e :: es) [] pos) (tMeth C m sp [] E ta t) := by
  obtain ⟨f, fd, ps, hm, F, hb, _⟩ := M.ex
  exact pe_meth he c hm F (hr.mono hk) hb .nil hx ha hst hpl ht
/-- o.m() -/
theorem pe_mx0 {pl : Sem Bool} (M : CalM X.prog X.w X.K X.mg X.base k C m ks sp) (c : Cls X.K C) (hr : Room j X.A) (hk : k ≤ j) (hx : Passes (L2.CX X.prog X.w) X E) (he : PE X o ta)
    (ht : eval (.Call (.Attribute o m apos) [] [] pos) X.env = (do
      let ov ← eval o X.env
      standAt apos.atName
      let (f, first) ← holding [ov] (getMethod ov m pl)
      callWith pos f first (backTo pos (starEach [] X.env)) (backToKw pos (keywordEach [] X.env))) := by rfl) :
    PE X (.Call (.Attribute o m apos) [] [] pos) (tMeth C m sp [] E ta tNil) := by
  obtain ⟨f, fd, ps, hm, F, hb, _⟩ := M.ex
  exact pe_meth0 he c hm F (hr.mono hk) hb .nil hx ht
/-- o.m(k = v, ..) -/
theorem pe_mxK {pl : Sem Bool} (M : CalM X.prog X.w X.K X.mg X.base k C m ks sp) (c : Cls X.K C) (hr : Room j X.A) (hk : k ≤ j) (hx : Passes (L2.CX X.prog X.w) X E) (he : PE X o ta) (hkw : PK X kws tk)
    (hall : (backToKw pos (keywordEach kws X.env)).all (·.1.isSome) = true := by rfl) (hks : (backToKw pos (keywordEach kws X.env)).filterMap (·.1) = ks := by rfl)
    (hpl : ((backTo pos (starEach [] X.env)).any (·.1) || (backToKw pos (keywordEach kws X.env)).any (·.1.isNone)) = false := by rfl)
    (ht : eval (.Call (.Attribute o m apos) [] kws pos) X.env = (do
      let ov ← eval o X.env
      standAt apos.atName
      let (f, first) ← holding [ov] (getMethod ov m pl)
      callWith pos f first (backTo pos (starEach [] X.env)) (backToKw pos (keywordEach kws X.env))) := by rfl) :
    PE X (.Call (.Attribute o m apos) [] kws pos) (tMethK C m ks.length sp E ta tk) := by
  obtain ⟨f, fd, ps, hm, F, _, hb⟩ := M.ex
  exact pe_methK he c hm F (hr.mono hk) hb hx hkw hall hks hpl ht
/-- C(e, ..) -/
theorem pe_new (M : CalC X.prog X.w X.K X.mg X.base k x C ks sp) (hr : Room j X.A) (hk : k + 1 ≤ j) (hg : Gl X x) (hx : Passes (L2.CX X.prog X.w) X E) (ha : PA X (e :: es) t) (hdb : (x == ("__debug__" : Str)) = false := by decide)
    (he : starEach (e :: es) X.env = (false, eval e X.env) :: starEach es X.env := by rfl) (hpl : (backTo pos (starEach es X.env)).any (·.1) = false := by rfl) :
    PE X (.Call (.Name x p) (e :: es) [] pos) (tMake C sp [] E t) := by
  obtain ⟨f, fd, ps, hm, F, hb, _⟩ := M.ex
  exact pe_make hm F (hr.mono hk) hg M.gl hb .nil hx ha hdb he hpl
/-- C() -/
theorem pe_new0 (M : CalC X.prog X.w X.K X.mg X.base k x C ks sp) (hr : Room j X.A) (hk : k + 1 ≤ j) (hg : Gl X x) (hx : Passes (L2.CX X.prog X.w) X E) (hdb : (x == ("__debug__" : Str)) = false := by decide) :
    PE X (.Call (.Name x p) [] [] pos) (tMake C sp [] E tNil) := by
  obtain ⟨f, fd, ps, hm, F, hb, _⟩ := M.ex
  exact pe_make0 hm F (hr.mono hk) hg M.gl hb .nil hx hdb
/-- C(k = v, ..) -/
theorem pe_newK (M : CalC X.prog X.w X.K X.mg X.base k x C ks sp) (hr : Room j X.A) (hk : k + 1 ≤ j) (hg : Gl X x) (hx : Passes (L2.CX X.prog X.w) X E) (hkw : PK X kws tk)
    (hall : (backToKw pos (keywordEach kws X.env)).all (·.1.isSome) = true := by rfl) (hks : (backToKw pos (keywordEach kws X.env)).filterMap (·.1) = ks := by rfl) (hdb : (x == ("__debug__" : Str)) = false := by decide)
    (hpl : ((backTo pos (starEach [] X.env)).any (·.1) || (backToKw pos (keywordEach kws X.env)).any (·.1.isNone)) = false := by rfl) :
    PE X (.Call (.Name x p) [] kws pos) (tMakeK C 0 ks.length sp (fun vs zs => vs ++ zs) E tNil tk) := by
  obtain ⟨f, fd, ps, hm, F, _, hb⟩ := M.ex
  exact pe_makeK0 hm F (hr.mono hk) hg M.gl hb hx hkw hall hks hdb hpl
/-- e.f, a property -/
theorem pe_pr {f : Str} (M : CalP X.prog X.w X.K X.mg X.base k C f sp) (c : Cls X.K C) (hr : Room j X.A) (hk : k + 1 ≤ j) (he : PE X e ta) (hab : attributeBase e f X.env (eval e X.env) = eval e X.env) : PE X (.Attribute e f pos) (tProp C sp [] C8.E0 ta) := by
  obtain ⟨p, g, fd, ps, hp, F, hb⟩ := M.ex
  exact pe_prop he c hp F (hr.mono hk) hb .nil pass0 hab
end
end My
namespace My
open PySem PySem.Spec PyProof.Rows L2
local macro_rules | `(tactic| walk_at "sq") => `(tactic| first | assumption | exact .inl (.inl (by assumption)) | exact .inl (.inl upd_same))
local macro_rules | `(tactic| walk_at "st") => `(tactic| first
  | refine ⟨_, rfl, ?_⟩
  | refine ⟨_, _, rfl, rfl, ?_⟩
  | refine ⟨cmull (by omega) (by omega), ?_⟩
  | refine ⟨cmulr (by omega) (by omega), ?_⟩
  | refine ⟨cdivw (by omega) (by omega), ?_⟩
  | refine ⟨(⟨by decide, by decide⟩ : CDiv _ _), ?_⟩
  | refine ⟨(show (0 : Int) < _ by omega), ?_⟩
  | refine ⟨(show (0 : Int) ≤ _ by omega), ?_⟩
  | refine ⟨(⟨by decide, by decide, by decide⟩ : CPow _ _), ?_⟩
  | refine ⟨(⟨by omega, by omega, by omega⟩ : CPow _ _), ?_⟩
  | refine .inl ⟨_, rfl, ?_⟩
  | refine .inr ⟨_, rfl, ?_⟩
  | refine ⟨_, _, _, _, _, rfl, .ty _, .base (.int _), kit_ii, ?_⟩
  | refine ⟨_, _, _, _, _, rfl, .ty _, .base (.int _), kit_ib, ?_⟩
  | refine ⟨_, _, _, _, _, rfl, .ty _, .base (.tup (by assumption)), kit_tt, ?_⟩
  | refine ⟨_, _, _, _, _, rfl, .ty _, .base (.lst (by assumption)), kit_ll, ?_⟩
  | refine iteT ?_
  | refine iteF ?_
  | refine ⟨_, _, rfl, .inl (.inl (by first | assumption | exact upd_same)), rfl, ?_⟩
  | refine ⟨_, _, rfl, ?_⟩
  | refine ⟨cmulr (by split <;> decide) (by split <;> decide), ?_⟩
  | refine ⟨_, _, rfl, .inl (by walk_at "sq"), ?_⟩
  | refine ⟨_, _, rfl, .inr (by walk_at "sq"), ?_⟩
  | refine ⟨_, _, _, _, rfl, rfl, (by walk_at "sq"), rfl, ?_⟩
  | refine ⟨rfl, ?_⟩
  | (refine ite2 (fun hc => ?_) (fun hc => ?_) <;> (try simp only [decide_eq_true_eq, Bool.not_eq_true', decide_eq_false_iff_not, Bool.not_eq_true, Bool.not_eq_false', Bool.false_eq_true, reduceCtorEq, V.int.injEq, not_true_eq_false, not_false_eq_true] at hc) <;> (try (exfalso; omega))))
local macro_rules | `(tactic| walk_at "ev") => `(tactic| repeat' walk_at "st")
def top (i : Nat) : Stmt := PySem.Challenge.pw_narrowingbits_k06_letters_fill_the_node.main.body.getD i (.Pass ⟨0, 0, 0, 0⟩)
abbrev s_borders : Stmt := top 6
theorem sc_borders : FnScope ["width", "counts", "total", "ahead", "found", "count"] ["width", "counts"] (defScope s_borders) := ⟨rfl, rfl, rfl, by decide +kernel, rfl, by decide +kernel, by decide +kernel⟩
abbrev s_doublings_of : Stmt := top 7
theorem sc_doublings_of : FnScope ["width", "times"] ["width"] (defScope s_doublings_of) := ⟨rfl, rfl, rfl, by decide +kernel, rfl, by decide +kernel, by decide +kernel⟩
abbrev s_next_node : Stmt := top 8
theorem sc_next_node : FnScope ["node", "counts", "j", "low", "width", "depth", "edges", "narrowed", "times"] ["node", "counts", "j"] (defScope s_next_node) := ⟨rfl, rfl, rfl, by decide +kernel, rfl, by decide +kernel, by decide +kernel⟩
abbrev s_law_pool : Stmt := top 13
theorem sc_law_pool : FnScope ["_law_script", "_law_k", "_law_cell", "_law_big", "_law_mixed"] ["_law_script", "_law_k"] (defScope s_law_pool) := ⟨rfl, rfl, rfl, by decide +kernel, rfl, by decide +kernel, by decide +kernel⟩
abbrev s_law_take : Stmt := top 14
theorem sc_law_take : FnScope ["_law_source", "_law_most", "_law_drawn"] ["_law_source", "_law_most"] (defScope s_law_take) := ⟨rfl, rfl, rfl, by decide +kernel, rfl, by decide +kernel, by decide +kernel⟩
abbrev s_law_one : Stmt := top 15
theorem sc_law_one : FnScope ["_law_source", "_law_things"] ["_law_source", "_law_things"] (defScope s_law_one) := ⟨rfl, rfl, rfl, by decide +kernel, rfl, by decide +kernel, by decide +kernel⟩
abbrev s_law_counts : Stmt := top 16
theorem sc_law_counts : FnScope ["_law_source", "_law_m", "_law_left", "_law_counts_here", "_law_turn", "_law_more"] ["_law_source"] (defScope s_law_counts) := ⟨rfl, rfl, rfl, by decide +kernel, rfl, by decide +kernel, by decide +kernel⟩
abbrev s_law_borders : Stmt := top 17
theorem sc_law_borders : FnScope ["_law_width", "_law_counts_here", "_law_at", "_law_ahead", "_law_one_here"] ["_law_width", "_law_counts_here"] (defScope s_law_borders) := ⟨rfl, rfl, rfl, by decide +kernel, rfl, by decide +kernel, by decide +kernel⟩
abbrev s_law_child : Stmt := top 18
theorem sc_law_child : FnScope ["_law_node_here", "_law_counts_here", "_law_letter", "_law_left", "_law_width", "_law_scale", "_law_borders_here"] ["_law_node_here", "_law_counts_here", "_law_letter"] (defScope s_law_child) := ⟨rfl, rfl, rfl, by decide +kernel, rfl, by decide +kernel, by decide +kernel⟩
abbrev s_law_node : Stmt := top 19
theorem sc_law_node : FnScope ["_law_source", "_law_scale", "_law_width", "_law_room"] ["_law_source"] (defScope s_law_node) := ⟨rfl, rfl, rfl, by decide +kernel, rfl, by decide +kernel, by decide +kernel⟩
abbrev s_law_is_outside : Stmt := top 20
theorem sc_law_is_outside : FnScope ["_law_node_here", "_law_counts_here", "_law_letter", "_law_told", "e"] ["_law_node_here", "_law_counts_here", "_law_letter"] (defScope s_law_is_outside) := ⟨rfl, rfl, rfl, by decide +kernel, rfl, by decide +kernel, by decide +kernel⟩
abbrev s_law_is_right : Stmt := top 21
theorem sc_law_is_right : FnScope ["_law_node_here", "_law_counts_here", "_law_left", "_law_width", "_law_scale", "_law_borders_here", "_law_kept", "_law_at", "_law_letter", "_law_told", "_law_more", "_law_low", "_law_high"] ["_law_node_here", "_law_counts_here"] (defScope s_law_is_right) := ⟨rfl, rfl, rfl, by decide +kernel, rfl, by decide +kernel, by decide +kernel⟩
abbrev s_law_learned : Stmt := top 22
theorem sc_law_learned : FnScope ["_law_counts_here", "_law_letter", "_law_at", "_law_one_here", "_law_found"] ["_law_counts_here", "_law_letter"] (defScope s_law_learned) := ⟨rfl, rfl, rfl, by decide +kernel, rfl, by decide +kernel, by decide +kernel⟩
abbrev s_law_is_refused : Stmt := top 23
theorem sc_law_is_refused : FnScope ["_law_call", "_law_told", "e"] ["_law_call"] (defScope s_law_is_refused) := ⟨rfl, rfl, rfl, by decide +kernel, rfl, by decide +kernel, by decide +kernel⟩
abbrev s_law_table_right : Stmt := top 24
theorem sc_law_table_right : FnScope ["_law_source", "_law_m", "_law_counts_here", "_law_liked", "_law_turn", "_law_letter", "_law_far", "_law_table", "_law_wrong"] ["_law_source"] (defScope s_law_table_right) := ⟨rfl, rfl, rfl, by decide +kernel, rfl, by decide +kernel, by decide +kernel⟩
abbrev s_law : Stmt := top 25
theorem sc_law : FnScope ["_law_script", "_law_k", "_law_source", "_law_node_here", "_law_counts_here", "_law_letter"] ["_law_script"] (defScope s_law) := ⟨rfl, rfl, rfl, by decide +kernel, rfl, by decide +kernel, by decide +kernel⟩
abbrev s_Table_init : Stmt := inClass (top 11) 0
theorem sc_Table_init : FnScope ["self", "m"] ["self", "m"] (defScope s_Table_init) := ⟨rfl, rfl, rfl, by decide +kernel, rfl, by decide +kernel, by decide +kernel⟩
abbrev s_Table_counts : Stmt := inClass (top 11) 1
theorem sc_Table_counts : FnScope ["self"] ["self"] (defScope s_Table_counts) := ⟨rfl, rfl, rfl, by decide +kernel, rfl, by decide +kernel, by decide +kernel⟩
abbrev s_Table_total : Stmt := inClass (top 11) 2
theorem sc_Table_total : FnScope ["self"] ["self"] (defScope s_Table_total) := ⟨rfl, rfl, rfl, by decide +kernel, rfl, by decide +kernel, by decide +kernel⟩
abbrev s_Table_learn : Stmt := inClass (top 11) 3
theorem sc_Table_learn : FnScope ["self", "j", "count"] ["self", "j"] (defScope s_Table_learn) := ⟨rfl, rfl, rfl, by decide +kernel, rfl, by decide +kernel, by decide +kernel⟩
section
variable {P : Program} {w : World} {K : PySem.W.Frag} {mg : Str → Option Value} {base : Heap}
structure Txt (mg : Str → Option Value) : Prop where
  z_int : mg "int" = none
  z_len : mg "len" = none
  z_max : mg "max" = none
  z_min : mg "min" = none
  z_range : mg "range" = none
  z_isinstance : mg "isinstance" = none
  z_list : mg "list" = none
  z_tuple : mg "tuple" = none
  z_sum : mg "sum" = none
  z_enumerate : mg "enumerate" = none
/-! ### a draw -/
def spTake : Sp := fun vs H Q _ => ∃ (a : Addr) (m : Int), vs = [.ref a, .int m] ∧ Src H a ∧ 0 < m ∧ m < 18446744073709551616 ∧ ∀ (r : Int) (H' : Hp), 0 ≤ r → r < m → Src H' a → But a H H' → Q (.int r) H'
theorem ok_take {f : Addr} {fd : FuncData} {k : Nat} (F : Fun K "_law_take" "_law_take" s_law_take f fd) (T : Txt mg) : FnOk P w K mg base CX0 (k + 1) f fd ["_law_source", "_law_most"] spTake := by
  refine F.ok sc_law_take (fun vs H Q E h => ?_) (fun cdv A outer s H vs Q E hr h => ?_)
  · obtain ⟨a, m, rfl, _⟩ := h
    rfl
  · obtain ⟨a, m, rfl, ⟨x, y, ha, hx, hy, hy2⟩, hm, hm2, q⟩ := h
    refine ⟨_, (pss_cons (ps_if (pt_cmpR op_gt (pe_ix ix_list (pv 0) pe_int (fun _ _ => rfl)) pe_int (nomark _)) (pss_cons (ps_set (i := 2) sc_law_take.nd rfl (Or.inl rfl) (pe_op op_mod (pe_callTy call_int1 (by rfl) T.z_int PyProof.Rows.boot_int (pa_cons (pe_ix ix_list (pv 0) pe_int (fun _ _ => rfl)) pa_nil)) (pv 1)))
    (pss_cons (ps_asg (pe_op op_fdivW (pe_ix ix_list (pv 0) pe_int (fun _ _ => rfl)) (pv 1)) (pg_sub (pv 0) pe_int set_list))
    (pss_one (ps_ret (pv 2))))) pss_nil)
    (pss_cons (ps_asg (pe_op op_mod (pe_callTy call_int1 (by rfl) T.z_int PyProof.Rows.boot_int (pa_cons (pe_op op_add (pe_op op_mul (pe_ix ix_list (pv 0) pe_int (fun _ _ => rfl)) pe_int) pe_int) pa_nil)) pe_int) (pg_sub (pv 0) pe_int set_list))
    (pss_one (ps_ret (pe_op op_mod (pe_callTy call_int1 (by rfl) T.z_int PyProof.Rows.boot_int (pa_cons (pe_op op_fdiv (pe_op op_mod (pe_callTy call_int1 (by rfl) T.z_int PyProof.Rows.boot_int (pa_cons (pe_op op_mul (pe_ix ix_list (pv 0) pe_int (fun _ _ => rfl)) (pe_ix ix_list (pv 0) pe_int (fun _ _ => rfl))) pa_nil)) pe_int) pe_int) pa_nil)) (pv 1)))))), ?_⟩
    walk_at "ev"
    · refine q _ _ (Int.emod_nonneg _ (by omega)) (Int.emod_lt_of_pos _ hm) ⟨_, _, upd_same, Int.ediv_nonneg hx (by omega), hy, hy2⟩ But.upd
    · refine q _ _ (Int.emod_nonneg _ (by omega)) (Int.emod_lt_of_pos _ hm) ⟨_, _, upd_same, hx, Int.emod_nonneg _ (by omega), Int.emod_lt_of_pos _ (by omega)⟩ But.upd
/-! ### the pool of a cell -/
def spPool (K : PySem.W.Frag) : Sp := fun vs H Q _ => ∃ (a : Addr) (ns : List Int) (k : Int), vs = [.ref a, .int k] ∧ SqL K H a (ns.map V.int) ∧ 0 ≤ k ∧ k < 100 ∧ ∀ (p : Addr) (H' : Hp), H p = none → Same H H' → Src H' p → Q (.ref p) H'
theorem ok_pool {f : Addr} {fd : FuncData} {k : Nat} (F : Fun K "_law_pool" "_law_pool" s_law_pool f fd) (T : Txt mg) : FnOk P w K mg base CX0 (k + 1) f fd ["_law_script", "_law_k"] (spPool K) := by
  refine F.ok sc_law_pool (fun vs H Q E h => ?_) (fun cdv A outer s H vs Q E hr h => ?_)
  · obtain ⟨a, ns, k, rfl, _⟩ := h
    rfl
  · obtain ⟨a, ns, k, rfl, hS, hk, hk2, q⟩ := h
    refine ⟨_, (pss_cons (ps_set (i := 2) sc_law_pool.nd rfl (Or.inl rfl) pe_int)
    (pss_cons (ps_if (pt_cmpR op_lt (pv 1) (pe_callB call_len_seq (by rfl) T.z_len PySem.boot_len (pa_cons (pv 0) pa_nil)) (nomark _)) (pss_one (ps_set (i := 2) sc_law_pool.nd rfl (Or.inl rfl) (pe_ix ix_list (pv 0) (pv 1) (fun _ _ => rfl)))) pss_nil)
    (pss_cons (ps_set (i := 3) sc_law_pool.nd rfl (Or.inl rfl) (pe_callB (call_max2 rfl) (by rfl) T.z_max PyProof.Rows.boot_max (pa_cons (pe_callTy call_int1 (by rfl) T.z_int PyProof.Rows.boot_int (pa_cons (pv 2) pa_nil)) (pa_cons (pe_callTy call_int1 (by rfl) T.z_int PyProof.Rows.boot_int (pa_cons (pe_op op_sub (pe_un un_neg pe_int) (pv 2)) pa_nil)) pa_nil))))
    (pss_cons (ps_set (i := 4) sc_law_pool.nd rfl (Or.inl rfl) (pe_op op_mod (pe_callTy call_int1 (by rfl) T.z_int PyProof.Rows.boot_int (pa_cons (pe_op op_mul (pe_op op_add (pe_op op_add (pe_op op_add (pe_op op_mod (pe_callTy call_int1 (by rfl) T.z_int PyProof.Rows.boot_int (pa_cons (pv 3) pa_nil)) pe_int) (pe_op op_mul (pe_op op_mul pe_int (pv 1)) (pv 1))) (pe_op op_mul pe_int (pv 1))) pe_int) pe_int) pa_nil)) pe_int))
    (pss_one (ps_ret (pe_lst (pa_cons (pe_op op_mul (pv 3) (pe_callTy call_int1 (by rfl) T.z_int PyProof.Rows.boot_int (pa_cons (pe_cmpR op_ge (pv 3) (pe_op (op_powc (a := 10) (b := 18) (c := 1000000000000000000) ⟨by decide, by decide, by decide⟩ (by decide +kernel)) pe_int pe_int) (nomark _)) pa_nil))) (pa_cons (pv 4) pa_nil))))))))), ?_⟩
    walk_at "ev"
    · obtain ⟨z, hz⟩ := at_lt hk (by assumption)
      refine ⟨_, _, _, _, rfl, rfl, hS, hz, ?_⟩
      walk_at "ev"
      refine ⟨(by show 2 ≤ sizeLine; decide), fun p np => q p _ np (same_upd np) ⟨_, _, upd_same, pool_nn _ _, Int.emod_nonneg _ (by omega), Int.emod_lt_of_pos _ (by omega)⟩⟩
    · refine ⟨(by show 2 ≤ sizeLine; decide), fun p np => q p _ np (same_upd np) ⟨_, _, upd_same, pool_nn _ _, Int.emod_nonneg _ (by omega), Int.emod_lt_of_pos _ (by omega)⟩⟩
/-! ### one of some things -/
def spOne : Sp := fun vs H Q _ => ∃ (a t : Addr) (xs : List V), vs = [.ref a, .ref t] ∧ Src H a ∧ t ≠ a ∧ H t = some (.lst xs) ∧ xs ≠ [] ∧ xs.length ≤ 1000 ∧ ∀ (v : V) (H' : Hp), v ∈ xs → Src H' a → But a H H' → Q v H'
theorem ok_one {f : Addr} {fd : FuncData} {k : Nat} (F : Fun K "_law_one" "_law_one" s_law_one f fd) (T : Txt mg) (c_law_take : C8.Cal P w K mg base 1 "_law_take" spTake []) : FnOk P w K mg base CX0 (k + 2) f fd ["_law_source", "_law_things"] spOne := by
  refine F.ok sc_law_one (fun vs H Q E h => ?_) (fun cdv A outer s H vs Q E hr h => ?_)
  · obtain ⟨a, t, xs, rfl, _⟩ := h
    rfl
  · obtain ⟨a, t, xs, rfl, ha, hta, ht, hx, hl, q⟩ := h
    refine ⟨_, (pss_one (ps_ret (pe_ix ix_list (pv 1) (C8.pe_c c_law_take hr (by omega) (by rfl) (pa_cons (pv 0) (pa_cons (pe_callB call_len_seq (by rfl) T.z_len PySem.boot_len (pa_cons (pv 1) pa_nil)) pa_nil))) (fun _ _ => rfl)))), ?_⟩
    walk_at "ev"
    have hp : 0 < xs.length := List.length_pos_iff.mpr hx
    refine ⟨ha, (by omega), (by omega), fun r H' h0 h1 s1 u1 => ?_⟩
    obtain ⟨v, hv, hm⟩ := at_mem (xs := xs) h0 h1
    exact ⟨_, _, _, _, rfl, rfl, .inl (.inl (u1.at hta ht)), hv, q v H' hm s1 u1⟩
/-! ### borders, doublings -/
def pre (cs : List Int) (i : Nat) : Int := (cs.take i).sum
def brd (W : Int) (cs : List Int) (i : Nat) : Int := W * pre cs i / cs.sum
def brds (W : Int) (cs : List Int) (n : Nat) : List Int := (List.range n).map (brd W cs)
structure GoodC (cs : List Int) : Prop where
  l2 : 2 ≤ cs.length
  l3 : cs.length ≤ 3
  pos : ∀ c ∈ cs, 1 ≤ c
  sum : cs.sum ≤ 64
theorem pre_succ {cs : List Int} {i : Nat} {c : Int} (h : cs[i]? = some c) : pre cs (i + 1) = pre cs i + c := by
  unfold pre
  rw [← take_snoc h, List.sum_append]
  simp
theorem pre_zero (cs : List Int) : pre cs 0 = 0 := rfl
theorem pre_len (cs : List Int) : pre cs cs.length = cs.sum := by
  unfold pre
  rw [List.take_length]
theorem sum_ge : ∀ {cs : List Int}, (∀ c ∈ cs, 1 ≤ c) → (cs.length : Int) ≤ cs.sum
  | [], _ => by simp
  | c :: r, h => by
    have h1 := h c List.mem_cons_self
    have h2 := sum_ge (cs := r) fun x m => h x (List.mem_cons_of_mem _ m)
    rw [List.sum_cons, List.length_cons]
    omega
theorem pre_nn {cs : List Int} (h : ∀ c ∈ cs, 1 ≤ c) (i : Nat) : 0 ≤ pre cs i := by
  have := sum_ge (cs := cs.take i) fun c m => h c (List.mem_of_mem_take m)
  unfold pre
  omega
theorem pre_le {cs : List Int} (h : ∀ c ∈ cs, 1 ≤ c) (i : Nat) : pre cs i ≤ cs.sum := by
  have e : cs.sum = pre cs i + (cs.drop i).sum := by
    unfold pre
    rw [← List.sum_append, List.take_append_drop]
  have := sum_ge (cs := cs.drop i) fun c m => h c (List.mem_of_mem_drop m)
  omega
theorem GoodC.sp {cs : List Int} (g : GoodC cs) : 2 ≤ cs.sum := by
  have := sum_ge g.pos
  have := g.l2
  omega
theorem brd_zero (W : Int) (cs : List Int) : brd W cs 0 = 0 := by
  unfold brd
  rw [pre_zero, Int.mul_zero, Int.zero_ediv]
theorem brd_len {W : Int} {cs : List Int} (g : GoodC cs) : brd W cs cs.length = W := by
  unfold brd
  rw [pre_len]
  exact Int.mul_ediv_cancel _ (by have := g.sp; omega)
theorem brd_nn {W : Int} {cs : List Int} (hW : 0 ≤ W) (g : GoodC cs) (i : Nat) : 0 ≤ brd W cs i :=
  Int.ediv_nonneg (Int.mul_nonneg hW (pre_nn g.pos i)) (by have := g.sp; omega)
theorem brd_le {W : Int} {cs : List Int} (hW : 0 ≤ W) (g : GoodC cs) (i : Nat) : brd W cs i ≤ W := by
  unfold brd
  have h := Int.mul_le_mul_of_nonneg_left (pre_le g.pos i) hW
  have h2 := Int.ediv_le_ediv (by have := g.sp; omega : 0 < cs.sum) h
  rw [Int.mul_ediv_cancel _ (by have := g.sp; omega)] at h2
  exact h2
theorem brd_step {W : Int} {cs : List Int} {i : Nat} (hW : 65536 ≤ W) (g : GoodC cs) (hi : i < cs.length) : brd W cs i + 1024 ≤ brd W cs (i + 1) := by
  obtain ⟨c, hc⟩ : ∃ c, cs[i]? = some c := ⟨cs[i], List.getElem?_eq_getElem hi⟩
  have hc1 := g.pos c (List.mem_of_getElem? hc)
  have hs := g.sp
  have hs2 := g.sum
  unfold brd
  rw [pre_succ hc]
  refine (Int.le_ediv_iff_mul_le (by omega)).mpr ?_
  rw [Int.add_mul, Int.mul_add]
  have h1 := Int.ediv_mul_le (W * pre cs i) (by omega : cs.sum ≠ 0)
  have h2 : 1024 * cs.sum ≤ W * c := by
    have a1 : 1024 * cs.sum ≤ 65536 := by omega
    have a2 : W * 1 ≤ W * c := Int.mul_le_mul_of_nonneg_left hc1 (by omega)
    omega
  omega
theorem brds_len (W : Int) (cs : List Int) (n : Nat) : (brds W cs n).length = n := by simp [brds]
theorem brds_get {W : Int} {cs : List Int} {n i : Nat} (h : i < n) : (brds W cs n)[i]? = some (brd W cs i) := by
  unfold brds
  rw [List.getElem?_map, List.getElem?_range h]
  rfl
theorem brds_succ (W : Int) (cs : List Int) (n : Nat) : brds W cs (n + 1) = brds W cs n ++ [brd W cs n] := by
  unfold brds
  rw [List.range_succ, List.map_append]
  rfl
def dbl (n : Int) : Nat := if 65536 ≤ n then 0 else if 32768 ≤ n then 1 else if 16384 ≤ n then 2 else if 8192 ≤ n then 3 else if 4096 ≤ n then 4 else if 2048 ≤ n then 5 else 6
theorem dbl_le (n : Int) : dbl n ≤ 6 := by
  unfold dbl
  repeat' split
  all_goals omega
theorem dbl_lt {n : Int} (h : 1024 ≤ n) {t : Nat} (ht : t ≤ 6) : n * 2 ^ t < 65536 ↔ t < dbl n := by
  unfold dbl
  match t, ht with
  | 0, _ => show n * 1 < 65536 ↔ _; (repeat' split) <;> omega
  | 1, _ => show n * 2 < 65536 ↔ _; (repeat' split) <;> omega
  | 2, _ => show n * 4 < 65536 ↔ _; (repeat' split) <;> omega
  | 3, _ => show n * 8 < 65536 ↔ _; (repeat' split) <;> omega
  | 4, _ => show n * 16 < 65536 ↔ _; (repeat' split) <;> omega
  | 5, _ => show n * 32 < 65536 ↔ _; (repeat' split) <;> omega
  | 6, _ => show n * 64 < 65536 ↔ _; (repeat' split) <;> omega
def spBorders (K : PySem.W.Frag) : Sp := fun vs H Q _ => ∃ (W : Int) (p : Addr) (cs : List Int), vs = [.int W, .ref p] ∧ 0 ≤ W ∧ W < 4294967296 ∧ SqS K H p (cs.map V.int) ∧ GoodC cs ∧ ∀ (q : Addr) (H' : Hp), H q = none → Same H H' → H' q = some (.lst ((brds W cs (cs.length + 1)).map V.int)) → Q (.ref q) H'
theorem ok_borders {f : Addr} {fd : FuncData} {k : Nat} (F : Fun K "borders" "borders" s_borders f fd) (T : Txt mg) : FnOk P w K mg base CX0 (k + 1) f fd ["width", "counts"] (spBorders K) := by
  refine F.ok sc_borders (fun vs H Q E h => ?_) (fun cdv A outer s H vs Q E hr h => ?_)
  · obtain ⟨W, p, cs, rfl, _⟩ := h
    rfl
  · obtain ⟨W, p, cs, rfl, hW, hW2, hS, g, q⟩ := h
    have hs := g.sp
    have hs2 := g.sum
    have hl3 := g.l3
    have eL : ∀ {m : Nat}, m ≤ 1000 → m ≤ sizeLine := fun h => Nat.le_of_lt (small1000 h)
    refine ⟨_, (pss_cons (ps_set (i := 2) sc_borders.nd rfl (Or.inl rfl) (pe_callB (cr_sumS rfl) (by rfl) T.z_sum PyProof.Rows.boot_sum (pa_cons (pv 1) pa_nil)))
    (pss_cons (ps_set (i := 3) sc_borders.nd rfl (Or.inl rfl) pe_int)
    (pss_cons (ps_set (i := 4) sc_borders.nd rfl (Or.inl rfl) (pe_lst (pa_cons pe_int pa_nil)))
    (pss_cons (ps_for PassesOwn.never rfl (pi_seq (pv 1)) (pg_name (i := 5) sc_borders.nd rfl (Or.inl rfl))
      (pss_cons (ps_set (i := 3) sc_borders.nd rfl (Or.inl rfl) (pe_op op_add (pv 3) (pv 5)))
    (pss_one (ps_expr (pe_bm PySem.F.plainAttrs_list PySem.F.slot_list_append PySem.F.type_list_append mt_append (pv 4) (pa_cons (pe_op op_fdivW (pe_op op_mul (pv 0) (pv 3)) (pv 2)) pa_nil))))))
    (pss_one (ps_ret (pv 4))))))), ?_⟩
    walk_at "ev"
    refine ⟨_, _, rfl, hS, ?_⟩
    walk_at "ev"
    refine ⟨(by show 1 ≤ sizeLine; decide), fun d nd => ?_⟩
    walk_at "ev"
    refine for_seq (K := K) (a := p) (xs := cs.map V.int) (fun i σ H1 => ∃ v, σ = [some (.int W), some (.ref p), some (.int cs.sum), some (.int (pre cs i)), some (.ref d), v] ∧ Same H H1 ∧ H1 d = some (.lst ((brds W cs (i + 1)).map V.int))) ⟨_, rfl, same_upd nd, by
      rw [upd_same, brds_succ, brd_zero]
      rfl⟩ (hS.elim (fun h => .inl fun _ _ _ _ ⟨_, _, s1, _⟩ => s1.seq h) (fun h => .inr fun _ _ _ _ ⟨_, _, s1, _⟩ => same_seqT s1 h)) ?_ ?_
    · rintro i x σ H1 hx ⟨v, rfl, s1, e1⟩
      rw [List.getElem?_map] at hx
      obtain ⟨z, hz, rfl⟩ := Option.map_eq_some_iff.mp hx
      have hp := pre_succ hz
      have hi : i < cs.length := (List.getElem?_eq_some_iff.mp hz).1
      walk_at "ev"
      refine ⟨.inl ⟨rfl, _, .inl (.inl e1)⟩, ?_⟩
      walk_at "ev"
      refine ⟨d, _, _, rfl, rfl, e1, small1000 (by rw [List.length_map, brds_len]; omega), some (.int z), ?_, ?_, ?_⟩
      · rw [hp]
        rfl
      · exact fun b o e => by
          rw [upd_ne (ne_of_none e nd)]
          exact s1 b o e
      · rw [upd_same, brds_succ W cs (i + 1), List.map_append]
        unfold brd
        rw [hp]
        rfl
    · rintro σ H1 ⟨v, rfl, s1, e1⟩
      rw [List.length_map] at *
      walk_at "ev"
      exact q d H1 nd s1 e1
def spDbl : Sp := fun vs H Q _ => ∃ (n : Int), vs = [.int n] ∧ 1024 ≤ n ∧ n < 131072 ∧ Q (.int (dbl n : Int)) H
theorem ok_doublings {f : Addr} {fd : FuncData} {k : Nat} {t : Tok} (F : Fun K "doublings_of" "doublings_of" s_doublings_of f fd) (hLW : mg "LEAST_WIDTH" = some (.int 65536 t)) : FnOk P w K mg base CX0 (k + 1) f fd ["width"] spDbl := by
  refine F.ok sc_doublings_of (fun vs H Q E h => ?_) (fun cdv A outer s H vs Q E hr h => ?_)
  · obtain ⟨n, rfl, _⟩ := h
    rfl
  · obtain ⟨n, rfl, hn, hn2, q⟩ := h
    refine ⟨_, (pss_cons (ps_set (i := 1) sc_doublings_of.nd rfl (Or.inl rfl) pe_int)
    (pss_cons (ps_while PassesOwn.never (pt_cmpR op_lt (pe_op op_shl (pv 0) (pv 1)) (pe_glob (v := .int 65536) (by rfl) hLW ⟨_, rfl⟩) (nomark _))
      (pss_one (ps_aug (i := 1) sc_doublings_of.nd rfl (Or.inl rfl) pe_int ip_add)))
    (pss_one (ps_ret (pv 1))))), ?_⟩
    walk_at "ev"
    refine ⟨fun m σ H1 => ∃ t : Nat, σ = [some (.int n), some (.int t)] ∧ H1 = H ∧ t ≤ dbl n ∧ m = dbl n - t, ⟨_, 0, rfl, rfl, Nat.zero_le _, rfl⟩, ?_⟩
    rintro m σ H1 ⟨t, rfl, rfl, ht, rfl⟩
    have h6 := dbl_le n
    have hd := dbl_lt hn (t := t) (by omega)
    walk_at "ev"
    · rename_i hc
      have hlt := hd.mp hc
      refine ⟨_, fun σ' H' h => h, ?_⟩
      walk_at "ev"
      exact ⟨dbl n - (t + 1), by omega, t + 1, rfl, rfl, by omega, rfl⟩
    · rename_i hc
      have e : t = dbl n := by
        have : ¬ t < dbl n := fun z => hc (hd.mpr z)
        omega
      subst e
      exact q
/-! ### a node's child -/
def chT (W : Int) (cs : List Int) (j : Nat) : Nat := dbl (brd W cs (j + 1) - brd W cs j)
def chV (l W s : Int) (cs : List Int) (j : Nat) : List V := [.int ((l + brd W cs j) * 2 ^ chT W cs j), .int ((brd W cs (j + 1) - brd W cs j) * 2 ^ chT W cs j), .int (s + chT W cs j)]
structure NodeB (l W s : Int) : Prop where
  l0 : 0 ≤ l
  l1 : l < 2305843009213693952
  w0 : 65536 ≤ W
  w1 : W < 131072
  s0 : 16 ≤ s
  s1 : s ≤ 61
def spNext (K : PySem.W.Frag) : Sp := fun vs H Q _ => ∃ (nd p : Addr) (l W s : Int) (cs : List Int) (j : Nat), vs = [.ref nd, .ref p, .int j] ∧ SqT K H nd [.int l, .int W, .int s] ∧ NodeB l W s ∧ SqS K H p (cs.map V.int) ∧ GoodC cs ∧ j < cs.length ∧ ∀ (q : Addr) (H' : Hp), H q = none → Same H H' → H' q = some (.tup (chV l W s cs j)) → Q (.ref q) H'
theorem ok_next {f : Addr} {fd : FuncData} {k : Nat} (F : Fun K "next_node" "next_node" s_next_node f fd) (T : Txt mg) (c_borders : C8.Cal P w K mg base 1 "borders" (spBorders K) []) (c_doublings_of : C8.Cal P w K mg base 1 "doublings_of" spDbl []) : FnOk P w K mg base CX0 (k + 2) f fd ["node", "counts", "j"] (spNext K) := by
  refine F.ok sc_next_node (fun vs H Q E h => ?_) (fun cdv A outer s H vs Q E hr h => ?_)
  · obtain ⟨nd, p, l, W, z, cs, j, rfl, _⟩ := h
    rfl
  · obtain ⟨nd, p, l, W, z, cs, j, rfl, hn, hB, hS, g, hj, q⟩ := h
    obtain ⟨l0, l1, w0, w1, s0, s1⟩ := hB
    have hcl : (cs.map V.int).length = cs.length := List.length_map _
    have b0 := brd_nn (by omega : 0 ≤ W) g j
    have b1 := brd_le (by omega : 0 ≤ W) g (j + 1)
    have b2 := brd_le (by omega : 0 ≤ W) g j
    have bs := brd_step w0 g hj
    refine ⟨_, (pss_cons (ps_if (pt_not (pt_chain op_le op_lt pe_int (pv 2) (pe_callB call_len_seq (by rfl) T.z_len PySem.boot_len (pa_cons (pv 1) pa_nil)))) (pss_one ps_never) pss_nil)
    (pss_cons (ps_asg (pv 0) (pg_tup rfl (pgs_cons (pg_name (i := 3) sc_next_node.nd rfl (Or.inl rfl)) (pgs_cons (pg_name (i := 4) sc_next_node.nd rfl (Or.inl rfl)) (pgs_cons (pg_name (i := 5) sc_next_node.nd rfl (Or.inl rfl)) pgs_nil)))))
    (pss_cons (ps_set (i := 6) sc_next_node.nd rfl (Or.inl rfl) (C8.pe_c c_borders hr (by omega) (by rfl) (pa_cons (pv 4) (pa_cons (pv 1) pa_nil))))
    (pss_cons (ps_set (i := 7) sc_next_node.nd rfl (Or.inl rfl) (pe_op op_sub (pe_ix ix_list (pv 6) (pe_op op_add (pv 2) pe_int) (fun _ _ => rfl)) (pe_ix ix_list (pv 6) (pv 2) (fun _ _ => rfl))))
    (pss_cons (ps_set (i := 8) sc_next_node.nd rfl (Or.inl rfl) (C8.pe_c c_doublings_of hr (by omega) (by rfl) (pa_cons (pv 7) pa_nil)))
    (pss_one (ps_ret (pe_tup (pa_cons (pe_op op_shl (pe_op op_add (pv 3) (pe_ix ix_list (pv 6) (pv 2) (fun _ _ => rfl))) (pv 8)) (pa_cons (pe_op op_shl (pv 7) (pv 8)) (pa_cons (pe_op op_add (pv 5) (pv 8)) pa_nil))))))))))), ?_⟩
    walk_at "ev"
    refine ⟨_, _, rfl, hS, ?_⟩
    walk_at "ev"
    refine ⟨nd, _, rfl, hn, rfl, ?_⟩
    walk_at "ev"
    refine ⟨W, p, cs, rfl, by omega, by omega, hS, g, fun d H1 n1 q1 e1 => ?_⟩
    have g1 : atI ((brds W cs (cs.length + 1)).map V.int) ((j : Int) + 1) = some (.int (brd W cs (j + 1))) := at_of (j := j + 1) (by omega) (by rw [List.getElem?_map, brds_get (by omega)]; rfl)
    have g2 : atI ((brds W cs (cs.length + 1)).map V.int) (j : Int) = some (.int (brd W cs j)) := at_of (j := j) (by omega) (by rw [List.getElem?_map, brds_get (by omega)]; rfl)
    have h6 := dbl_le (brd W cs (j + 1) - brd W cs j)
    walk_at "ev"
    refine ⟨_, _, _, _, rfl, rfl, .inl (.inl e1), g1, ?_⟩
    walk_at "ev"
    refine ⟨_, _, _, _, rfl, rfl, .inl (.inl e1), g2, ?_⟩
    walk_at "ev"
    refine ⟨by omega, by omega, ?_⟩
    walk_at "ev"
    refine ⟨_, _, _, _, rfl, rfl, .inl (.inl e1), g2, ?_⟩
    walk_at "ev"
    refine ⟨(by show 3 ≤ sizeLine; decide), fun q' nq => q q' _ (q1.free nq) (q1.trans (same_upd nq)) ?_⟩
    rw [upd_same]
    rfl
/-- where there is no such letter -/
def spNextX (K : PySem.W.Frag) (O : Addr) : Sp := fun vs H Q E => ∃ (nd : V) (p : Addr) (ys : List V) (j : Int), vs = [nd, .ref p, .int j] ∧ SqS K H p ys ∧ (j < 0 ∨ (ys.length : Int) ≤ j) ∧ E (.ref O) none H
theorem no_next {f O : Addr} {fd : FuncData} {k : Nat} (F : Fun K "next_node" "next_node" s_next_node f fd) (T : Txt mg) (e_Outside : ECls K mg "Outside" O) : FnOk P w K mg base (L2.CX P w) (k + 1) f fd ["node", "counts", "j"] (spNextX K O) := by
  refine F.okX sc_next_node (fun vs H Q E h => ?_) (fun cdv A outer s H vs Q E hr h => ?_)
  · obtain ⟨nd, p, ys, j, rfl, _⟩ := h
    rfl
  · obtain ⟨nd, p, ys, j, rfl, hS, hj, x⟩ := h
    refine ⟨_, pss_cons (ps_if (pt_not (pt_chain op_le op_lt pe_int (pv 2) (pe_callB call_len_seq (by rfl) T.z_len PySem.boot_len (pa_cons (pv 1) pa_nil))))
      (pss_one (ps_raise rfl (takes_of rfl rfl rfl rfl) (pmk_none PySem.F.excBase_ValueError e_Outside.xC e_Outside.gC e_Outside.kC (raises_own e_Outside.bC e_Outside.tC) (by rfl)))) pss_nil) pss_never, ?_⟩
    walk_at "ev"
    · refine ⟨_, _, rfl, hS, ?_⟩
      walk_at "ev"
      exact x
    · exact x
/-! ### drawn counts and nodes -/
def spCnts : Sp := fun vs H Q _ => ∃ (a : Addr), vs = [.ref a] ∧ Src H a ∧ ∀ (p : Addr) (cs : List Int) (H' : Hp), H p = none → GoodC cs → H' p = some (.lst (cs.map V.int)) → Src H' a → Up a H H' → Q (.ref p) H'
theorem ok_counts {f : Addr} {fd : FuncData} {k : Nat} (F : Fun K "_law_counts" "_law_counts" s_law_counts f fd) (T : Txt mg) (c_law_take : C8.Cal P w K mg base 1 "_law_take" spTake []) (c_law_one : C8.Cal P w K mg base 2 "_law_one" spOne []) : FnOk P w K mg base CX0 (k + 3) f fd ["_law_source"] spCnts := by
  refine F.ok sc_law_counts (fun vs H Q E h => ?_) (fun cdv A outer s H vs Q E hr h => ?_)
  · obtain ⟨a, rfl, _⟩ := h
    rfl
  · obtain ⟨a, rfl, ha, q⟩ := h
    have eL : ∀ {m : Nat}, m ≤ 1000 → m ≤ sizeLine := fun h => Nat.le_of_lt (small1000 h)
    refine ⟨_, (pss_cons (ps_set (i := 1) sc_law_counts.nd rfl (Or.inl rfl) (pe_op op_add pe_int (C8.pe_c c_law_take hr (by omega) (by rfl) (pa_cons (pv 0) (pa_cons pe_int pa_nil)))))
    (pss_cons (ps_par (i := 2) (j := 3) rfl sc_law_counts.nd rfl rfl (by decide) rfl rfl (pa_cons (pe_op op_sub pe_int (pv 1)) (pa_cons (pe_lst pa_nil) pa_nil)) rfl)
    (pss_cons (ps_for PassesOwn.never rfl (pi_range1 (by rfl) T.z_range (pa_cons (pv 1) pa_nil)) (pg_name (i := 4) sc_law_counts.nd rfl (Or.inl rfl))
      (pss_cons (ps_set (i := 5) sc_law_counts.nd rfl (Or.inl rfl) (C8.pe_c c_law_one hr (by omega) (by rfl) (pa_cons (pv 0) (pa_cons (pe_lst (pa_cons pe_int (pa_cons (C8.pe_c c_law_take hr (by omega) (by rfl) (pa_cons (pv 0) (pa_cons (pe_op op_add (pv 2) pe_int) pa_nil))) (pa_cons (pe_callB (call_min2 rfl) (by rfl) T.z_min PyProof.Rows.boot_min (pa_cons (pv 2) (pa_cons (C8.pe_c c_law_take hr (by omega) (by rfl) (pa_cons (pv 0) (pa_cons pe_int pa_nil))) pa_nil))) (pa_cons (pv 2) pa_nil))))) pa_nil))))
    (pss_cons (ps_set (i := 2) sc_law_counts.nd rfl (Or.inl rfl) (pe_op op_sub (pv 2) (pv 5)))
    (pss_one (ps_expr (pe_bm PySem.F.plainAttrs_list PySem.F.slot_list_append PySem.F.type_list_append mt_append (pv 3) (pa_cons (pe_op op_add pe_int (pv 5)) pa_nil)))))))
    (pss_one (ps_ret (pv 3)))))), ?_⟩
    walk_at "ev"
    refine ⟨ha, (by decide), (by decide), fun r H1 r0 r1 s1 u1 => ?_⟩
    walk_at "ev"
    refine ⟨(by show 0 ≤ sizeLine; decide), fun d nd => ?_⟩
    have hda : d ≠ a := (s1.ne nd).symm
    walk_at "ev"
    refine ⟨by omega, by omega, for_range (fun i σ H2 => ∃ (left : Int) (cs : List Int) (v4 v5 : Option V), σ = [some (.ref a), some (.int (2 + r)), some (.int left), some (.ref d), v4, v5] ∧ 0 ≤ left ∧ cs.length = i ∧ (∀ c ∈ cs, 1 ≤ c) ∧ cs.sum + left = 62 - r + i ∧ H2 d = some (.lst (cs.map V.int)) ∧ Src H2 a ∧ Up a H1 H2) ⟨64 - (2 + r), [], _, _, rfl, by omega, rfl, (fun _ m => absurd m List.not_mem_nil), by simp; omega, upd_same, src_same (same_upd nd) s1, up_same (same_upd nd)⟩ ?_ ?_⟩
    · rintro i σ H2 hi ⟨left, cs, v4, v5, rfl, hl0, hcl, hpos, hsum, e2, s2, u2⟩
      have hge := sum_ge hpos
      walk_at "ev"
      refine ⟨s2, by omega, by omega, fun r2 H3 r20 r21 s3 u3 => ?_⟩
      walk_at "ev"
      refine ⟨s3, by decide, by decide, fun r3 H4 r30 r31 s4 u4 => ?_⟩
      walk_at "ev"
      refine ⟨(by show 4 ≤ sizeLine; decide), fun t nt => ?_⟩
      refine ⟨_, _, _, rfl, src_same (same_upd nt) s4, (s4.ne nt).symm, upd_same, (by simp), (by show 4 ≤ 1000; decide), fun v H5 hv s5 u5 => ?_⟩
      obtain ⟨m, rfl, m0, m1⟩ : ∃ m, v = V.int m ∧ 0 ≤ m ∧ m ≤ left := by
        simp only [List.mem_cons, List.not_mem_nil, or_false] at hv
        rcases hv with e | e | e | e
        · exact ⟨_, e, by omega, by omega⟩
        · exact ⟨_, e, by omega, by omega⟩
        · exact ⟨_, e, by split <;> omega, by split <;> omega⟩
        · exact ⟨_, e, by omega, by omega⟩
      have e5 := (u5 d hda).trans (new_at ((u4 d hda).trans ((u3 d hda).trans e2)) nt)
      walk_at "ev"
      refine ⟨.inl ⟨rfl, _, .inl (.inl e5)⟩, ?_⟩
      walk_at "ev"
      refine ⟨d, _, _, rfl, rfl, e5, small1000 (by rw [List.length_map]; omega), left - m, cs ++ [1 + m], _, _, rfl, by omega, by rw [List.length_append, hcl]; rfl, ?_, by rw [List.sum_append]; simp; omega, ?_, src_keep hda.symm s5, ?_⟩
      · intro c hc
        rcases List.mem_append.mp hc with z | z
        · exact hpos c z
        · rw [List.mem_singleton.mp z]
          omega
      · rw [upd_same, List.map_append]
        rfl
      · intro b o nb e
        rw [upd_ne (ne_of_none e nd)]
        exact (((u2.trans u3.up).trans u4.up).trans ((up_same (same_upd nt)).trans u5.up)) b o nb e
    · rintro σ H2 ⟨left, cs, v4, v5, rfl, hl0, hcl, hpos, hsum, e2, s2, u2⟩
      walk_at "ev"
      exact q d cs H2 (u1.up.new s1 nd) ⟨by omega, by omega, hpos, by omega⟩ e2 s2 (u1.up.trans u2)
def spNode : Sp := fun vs H Q _ => ∃ (a : Addr), vs = [.ref a] ∧ Src H a ∧ ∀ (p : Addr) (l W s : Int) (H' : Hp), H p = none → NodeB l W s → H' p = some (.tup [.int l, .int W, .int s]) → Src H' a → Up a H H' → Q (.ref p) H'
theorem ok_node {f : Addr} {fd : FuncData} {k : Nat} (F : Fun K "_law_node" "_law_node" s_law_node f fd) (T : Txt mg) (c_law_take : C8.Cal P w K mg base 1 "_law_take" spTake []) (c_law_one : C8.Cal P w K mg base 2 "_law_one" spOne []) : FnOk P w K mg base CX0 (k + 3) f fd ["_law_source"] spNode := by
  refine F.ok sc_law_node (fun vs H Q E h => ?_) (fun cdv A outer s H vs Q E hr h => ?_)
  · obtain ⟨a, rfl, _⟩ := h
    rfl
  · obtain ⟨a, rfl, ha, q⟩ := h
    refine ⟨_, (pss_cons (ps_set (i := 1) sc_law_node.nd rfl (Or.inl rfl) (pe_op op_add pe_int (C8.pe_c c_law_one hr (by omega) (by rfl) (pa_cons (pv 0) (pa_cons (pe_lst (pa_cons pe_int (pa_cons pe_int (pa_cons (C8.pe_c c_law_take hr (by omega) (by rfl) (pa_cons (pv 0) (pa_cons pe_int pa_nil))) (pa_cons (C8.pe_c c_law_take hr (by omega) (by rfl) (pa_cons (pv 0) (pa_cons pe_int pa_nil))) pa_nil))))) pa_nil)))))
    (pss_cons (ps_if (pt_cmpR op_eq (pv 1) pe_int (nomark _)) (pss_one (ps_ret (pe_tup (pa_cons pe_int (pa_cons pe_int (pa_cons pe_int pa_nil)))))) pss_nil)
    (pss_cons (ps_set (i := 2) sc_law_node.nd rfl (Or.inl rfl) (pe_op op_add pe_int (C8.pe_c c_law_one hr (by omega) (by rfl) (pa_cons (pv 0) (pa_cons (pe_lst (pa_cons pe_int (pa_cons pe_int (pa_cons (C8.pe_c c_law_take hr (by omega) (by rfl) (pa_cons (pv 0) (pa_cons pe_int pa_nil))) (pa_cons (C8.pe_c c_law_take hr (by omega) (by rfl) (pa_cons (pv 0) (pa_cons pe_int pa_nil))) (pa_cons pe_int pa_nil)))))) pa_nil)))))
    (pss_cons (ps_set (i := 3) sc_law_node.nd rfl (Or.inl rfl) (pe_op op_sub (pe_op op_shl pe_int (pv 1)) (pv 2)))
    (pss_one (ps_ret (pe_tup (pa_cons (C8.pe_c c_law_one hr (by omega) (by rfl) (pa_cons (pv 0) (pa_cons (pe_lst (pa_cons pe_int (pa_cons (pv 3) (pa_cons (C8.pe_c c_law_take hr (by omega) (by rfl) (pa_cons (pv 0) (pa_cons (pe_op op_add (pv 3) pe_int) pa_nil))) pa_nil)))) pa_nil))) (pa_cons (pv 2) (pa_cons (pv 1) pa_nil)))))))))), ?_⟩
    walk_at "ev"
    refine ⟨ha, (by decide), (by decide), fun r1 H1 r10 r11 s1 u1 => ?_⟩
    walk_at "ev"
    refine ⟨s1, (by decide), (by decide), fun r2 H2 r20 r21 s2 u2 => ?_⟩
    walk_at "ev"
    refine ⟨(by show 4 ≤ sizeLine; decide), fun t nt => ?_⟩
    refine ⟨_, _, _, rfl, src_same (same_upd nt) s2, (s2.ne nt).symm, upd_same, (by simp), (by show 4 ≤ 1000; decide), fun v H3 hv s3 u3 => ?_⟩
    obtain ⟨m, rfl, m0, m1⟩ : ∃ m, v = V.int m ∧ 0 ≤ m ∧ m ≤ 44 := by
      simp only [List.mem_cons, List.not_mem_nil, or_false] at hv
      rcases hv with e | e | e | e <;> exact ⟨_, e, by omega, by omega⟩
    have u3b := (u1.up.trans u2.up).trans ((up_same (same_upd nt)).trans u3.up)
    walk_at "ev"
    · refine ⟨(by show 3 ≤ sizeLine; decide), fun p np => q p _ _ _ _ (u3b.new s3 np) ⟨by decide, by decide, by decide, by decide, by decide, by decide⟩ upd_same (src_same (same_upd np) s3) (u3b.trans (up_same (same_upd np)))⟩
    · rename_i hc
      refine ⟨s3, by decide, by decide, fun r4 H4 r40 r41 s4 u4 => ?_⟩
      walk_at "ev"
      refine ⟨s4, by decide, by decide, fun r5 H5 r50 r51 s5 u5 => ?_⟩
      walk_at "ev"
      refine ⟨(by show 5 ≤ sizeLine; decide), fun t2 nt2 => ?_⟩
      refine ⟨_, _, _, rfl, src_same (same_upd nt2) s5, (s5.ne nt2).symm, upd_same, (by simp), (by show 5 ≤ 1000; decide), fun v2 H6 hv2 s6 u6 => ?_⟩
      obtain ⟨m2, rfl, m20, m21⟩ : ∃ m2, v2 = V.int m2 ∧ 0 ≤ m2 ∧ m2 ≤ 65535 := by
        simp only [List.mem_cons, List.not_mem_nil, or_false] at hv2
        rcases hv2 with e | e | e | e | e <;> exact ⟨_, e, by omega, by omega⟩
      have u6b := u3b.trans ((u4.up.trans u5.up).trans ((up_same (same_upd nt2)).trans u6.up))
      have h1 : (131072 : Int) ≤ 2 ^ (16 + m).toNat := by
        have h := Nat.pow_le_pow_right (n := 2) (by decide) (by omega : 17 ≤ (16 + m).toNat)
        have h3 := Int.ofNat_le.mpr h
        rw [Int.natCast_pow, Int.natCast_pow] at h3
        exact h3
      have h2 : (2 : Int) ^ (16 + m).toNat ≤ 1152921504606846976 := by
        have h := Nat.pow_le_pow_right (n := 2) (by decide) (by omega : (16 + m).toNat ≤ 60)
        have h3 := Int.ofNat_le.mpr h
        rw [Int.natCast_pow, Int.natCast_pow] at h3
        exact h3
      walk_at "ev"
      refine ⟨s6, by omega, by omega, fun r7 H7 r70 r71 s7 u7 => ?_⟩
      walk_at "ev"
      refine ⟨(by show 3 ≤ sizeLine; decide), fun t3 nt3 => ?_⟩
      refine ⟨_, _, _, rfl, src_same (same_upd nt3) s7, (s7.ne nt3).symm, upd_same, (by simp), (by show 3 ≤ 1000; decide), fun v3 H8 hv3 s8 u8 => ?_⟩
      obtain ⟨m3, rfl, m30, m31⟩ : ∃ m3, v3 = V.int m3 ∧ 0 ≤ m3 ∧ m3 ≤ 1152921504606846976 := by
        simp only [List.mem_cons, List.not_mem_nil, or_false] at hv3
        rcases hv3 with e | e | e <;> exact ⟨_, e, by omega, by omega⟩
      have u8b := u6b.trans (u7.up.trans ((up_same (same_upd nt3)).trans u8.up))
      walk_at "ev"
      exact ⟨(by show 3 ≤ sizeLine; decide), fun p np => q p _ _ _ _ (u8b.new s8 np) ⟨by omega, by omega, by omega, by omega, by omega, by omega⟩ upd_same (src_same (same_upd np) s8) (u8b.trans (up_same (same_upd np)))⟩
/-! ### the law's borders -/
def spBordL : Sp := fun vs H Q _ => ∃ (W : Int) (p : Addr) (cs : List Int), vs = [.int W, .ref p] ∧ 0 ≤ W ∧ W < 4294967296 ∧ H p = some (.lst (cs.map V.int)) ∧ GoodC cs ∧ ∀ (q : Addr) (H' : Hp), H q = none → Same H H' → H' q = some (.lst ((brds W cs (cs.length + 1)).map V.int)) → Q (.ref q) H'
theorem ok_bordL {f : Addr} {fd : FuncData} {k : Nat} (F : Fun K "_law_borders" "_law_borders" s_law_borders f fd) (T : Txt mg) : FnOk P w K mg base CX0 (k + 1) f fd ["_law_width", "_law_counts_here"] spBordL := by
  refine F.ok sc_law_borders (fun vs H Q E h => ?_) (fun cdv A outer s H vs Q E hr h => ?_)
  · obtain ⟨W, p, cs, rfl, _⟩ := h
    rfl
  · obtain ⟨W, p, cs, rfl, hW, hW2, hp, g, q⟩ := h
    have hs := g.sp
    have hs2 := g.sum
    have hl3 := g.l3
    have hcl : (cs.map V.int).length = cs.length := List.length_map _
    refine ⟨_, (pss_cons (ps_setLc (i := 3) (own := [("_law_at", 2)]) (g := (gName 2)) (tt := tYes) rfl sc_law_borders.nd rfl rfl (sw_true rfl rfl rfl (by decide +kernel)) (pi_range1 (by rfl) T.z_range (pa_cons (pe_op op_add (pe_callB call_len_seq (by rfl) T.z_len PySem.boot_len (pa_cons (pv 1) pa_nil)) pe_int) pa_nil)) (blkOk_by (N := ["_law_width", "_law_counts_here", "_law_at", "_law_ahead", "_law_one_here"]) (sc := defScope s_law_borders) (by decide +kernel)) (fun _ _ _ _ _ => pg_name (i := 2) sc_law_borders.nd rfl (Or.inl rfl)) (fun _ _ _ _ _ => pts_nil) (fun _ _ _ _ _ => (pe_callB (cr_sumS rfl : CallR _ (.builtin "sum") (rSumS K)) (by rfl) T.z_sum PyProof.Rows.boot_sum (pa_cons (pe_slice (sl_list : SlR _ (rSlL K)) (pv 1) po_none (po_some (pv 2))) pa_nil))))
    (pss_one (ps_ret (pe_lc (own := [("_law_one_here", 4)]) (g := (gName 4)) (tt := tYes) rfl sc_law_borders.nd (pi_list (pv 3)) (blkOk_by (N := ["_law_width", "_law_counts_here", "_law_at", "_law_ahead", "_law_one_here"]) (sc := defScope s_law_borders) (by decide +kernel)) (fun _ _ _ _ _ => pg_name (i := 4) sc_law_borders.nd rfl (Or.inl rfl)) (fun _ _ _ _ _ => pts_nil) (fun _ _ _ _ _ => (pe_op op_fdivW (pe_op op_mul (pv 0) (pv 4)) (pe_callB (cr_sumS rfl : CallR _ (.builtin "sum") (rSumS K)) (by rfl) T.z_sum PyProof.Rows.boot_sum (pa_cons (pv 1) pa_nil)))))))), ?_⟩
    walk_at "ev"
    refine ⟨by omega, by omega, fun D nD => ?_⟩
    refine lc_it walk_range (fun t H2 => Same H H2 ∧ H2 D = some (.lst (((List.range t).map (pre cs)).map V.int))) ⟨same_upd nD, upd_same⟩ (fun _ _ _ _ => trivial) ?_ ?_
    · rintro t x H2 H3 ht ⟨s2, e2⟩ ⟨rfl, rfl⟩
      rw [hcl] at ht
      walk_at "ev"
      refine ⟨p, _, rfl, .inl (.inl (s2 _ _ hp)), fun p1 n1 => ?_⟩
      rw [cut_to (k := t) (by omega) (by rw [hcl]; omega), ← List.map_take]
      refine ⟨p1, _, rfl, .inl (.inl (.inl upd_same)), ?_⟩
      have e2b := new_at (o' := .lst ((cs.take t).map V.int)) e2 n1
      refine ⟨_, e2b, small1000 (by rw [List.length_map, List.length_map, List.length_range]; omega), fun b o e => ?_, ?_⟩
      · rw [upd_ne (ne_of_none e nD)]
        exact (s2.trans (same_upd n1)) _ _ e
      · rw [upd_same, List.range_succ, List.map_append, List.map_append]
        rfl
    · rintro H2 ⟨s2, e2⟩
      have hcn : (((cs.map V.int).length : Int) + 1 - 0).toNat = cs.length + 1 := by rw [hcl]; omega
      have e3 : H2 D = some (.lst (((List.range (cs.length + 1)).map (pre cs)).map V.int)) := by
        rw [e2, ← hcn]
        rfl
      walk_at "ev"
      refine ⟨⟨_, .inl (.inl e3)⟩, fun D2 nD2 => ?_⟩
      refine lc_it (walk_list (xs := ((List.range (cs.length + 1)).map (pre cs)).map V.int)) (fun t H3 => Same H2 H3 ∧ H3 D2 = some (.lst ((brds W cs t).map V.int))) ⟨same_upd nD2, upd_same⟩ (fun _ _ _ h => .inl (.inl (h.1 _ _ e3))) ?_ ?_
      · rintro t x H3 H4 ht ⟨s3, e4⟩ ⟨rfl, hx⟩
        have ht2 : t < cs.length + 1 := by simpa using ht
        have hx2 : x = V.int (pre cs t) := by
          rw [List.getElem?_map, List.getElem?_map, List.getElem?_range ht2] at hx
          exact (Option.some.inj hx).symm
        subst hx2
        walk_at "ev"
        refine ⟨p, cs, rfl, .inl (.inl (.inl (s3 _ _ (s2 _ _ hp)))), ?_⟩
        walk_at "ev"
        refine ⟨_, e4, small1000 (by rw [List.length_map, brds_len]; omega), fun b o e => ?_, ?_⟩
        · rw [upd_ne (ne_of_none e nD2)]
          exact s3 _ _ e
        · rw [upd_same, brds_succ, List.map_append]
          rfl
      · rintro H3 ⟨s3, e4⟩
        have hln : (((List.range (cs.length + 1)).map (pre cs)).map V.int).length = cs.length + 1 := by simp
        rw [hln] at e4
        exact q D2 H3 (s2.free nD2) (s2.trans s3) e4
/-! ### the law's child -/
def spChild : Sp := fun vs H Q _ => ∃ (nd p : Addr) (l W s : Int) (cs : List Int) (j : Nat), vs = [.ref nd, .ref p, .int j] ∧ H nd = some (.tup [.int l, .int W, .int s]) ∧ NodeB l W s ∧ H p = some (.lst (cs.map V.int)) ∧ GoodC cs ∧ j < cs.length ∧ ∀ (q : Addr) (H' : Hp), H q = none → Same H H' → H' q = some (.tup (chV l W s cs j)) → Q (.ref q) H'
theorem ok_child {f : Addr} {fd : FuncData} {k : Nat} (F : Fun K "_law_child" "_law_child" s_law_child f fd) (T : Txt mg) (c_law_borders : C8.Cal P w K mg base 1 "_law_borders" spBordL []) : FnOk P w K mg base CX0 (k + 2) f fd ["_law_node_here", "_law_counts_here", "_law_letter"] spChild := by
  refine F.ok sc_law_child (fun vs H Q E h => ?_) (fun cdv A outer s H vs Q E hr h => ?_)
  · obtain ⟨nd, p, l, W, z, cs, j, rfl, _⟩ := h
    rfl
  · obtain ⟨nd, p, l, W, z, cs, j, rfl, hn, hB, hp, g, hj, q⟩ := h
    obtain ⟨l0, l1, w0, w1, s0, s1⟩ := hB
    have b0 := brd_nn (by omega : 0 ≤ W) g j
    have b1 := brd_le (by omega : 0 ≤ W) g (j + 1)
    have bs := brd_step w0 g hj
    refine ⟨_, (pss_cons (ps_asg (pv 0) (pg_tup rfl (pgs_cons (pg_name (i := 3) sc_law_child.nd rfl (Or.inl rfl)) (pgs_cons (pg_name (i := 4) sc_law_child.nd rfl (Or.inl rfl)) (pgs_cons (pg_name (i := 5) sc_law_child.nd rfl (Or.inl rfl)) pgs_nil)))))
    (pss_cons (ps_set (i := 6) sc_law_child.nd rfl (Or.inl rfl) (C8.pe_c c_law_borders hr (by omega) (by rfl) (pa_cons (pv 4) (pa_cons (pv 1) pa_nil))))
    (pss_cons (ps_par (i := 3) (j := 4) rfl sc_law_child.nd rfl rfl (by decide) rfl rfl (pa_cons (pe_op op_add (pv 3) (pe_ix ix_list (pv 6) (pv 2) (fun _ _ => rfl))) (pa_cons (pe_op op_sub (pe_ix ix_list (pv 6) (pe_op op_add (pv 2) pe_int) (fun _ _ => rfl)) (pe_ix ix_list (pv 6) (pv 2) (fun _ _ => rfl))) pa_nil)) rfl)
    (pss_cons (ps_while PassesOwn.never (pt_cmpR op_lt (pv 4) pe_int (nomark _))
      (pss_one (ps_par3 (i := 3) (j := 4) (l := 5) rfl sc_law_child.nd rfl rfl rfl (by decide) (by decide) (by decide) rfl rfl rfl (pa_cons (pe_op op_mul pe_int (pv 3)) (pa_cons (pe_op op_mul pe_int (pv 4)) (pa_cons (pe_op op_add (pv 5) pe_int) pa_nil))) rfl)))
    (pss_one (ps_ret (pe_tup (pa_cons (pv 3) (pa_cons (pv 4) (pa_cons (pv 5) pa_nil)))))))))), ?_⟩
    walk_at "ev"
    refine ⟨W, p, cs, rfl, by omega, by omega, hp, g, fun d H1 n1 q1 e1 => ?_⟩
    have g1 : atI ((brds W cs (cs.length + 1)).map V.int) ((j : Int) + 1) = some (.int (brd W cs (j + 1))) := at_of (j := j + 1) (by omega) (by rw [List.getElem?_map, brds_get (by omega)]; rfl)
    have g2 : atI ((brds W cs (cs.length + 1)).map V.int) (j : Int) = some (.int (brd W cs j)) := at_of (j := j) (by omega) (by rw [List.getElem?_map, brds_get (by omega)]; rfl)
    have h6 := dbl_le (brd W cs (j + 1) - brd W cs j)
    walk_at "ev"
    refine ⟨_, _, _, _, rfl, rfl, .inl (.inl e1), g2, ?_⟩
    walk_at "ev"
    refine ⟨_, _, _, _, rfl, rfl, .inl (.inl e1), g1, ?_⟩
    walk_at "ev"
    refine ⟨_, _, _, _, rfl, rfl, .inl (.inl e1), g2, ?_⟩
    walk_at "ev"
    refine ⟨fun m σ H2 => ∃ t : Nat, σ = [some (.ref nd), some (.ref p), some (.int j), some (.int ((l + brd W cs j) * 2 ^ t)), some (.int ((brd W cs (j + 1) - brd W cs j) * 2 ^ t)), some (.int (z + t)), some (.ref d)] ∧ H2 = H1 ∧ t ≤ chT W cs j ∧ m = chT W cs j - t, ⟨_, 0, by rw [show (2 : Int) ^ 0 = 1 from rfl, Int.mul_one, Int.mul_one, Int.natCast_zero, Int.add_zero]; rfl, rfl, Nat.zero_le _, rfl⟩, ?_⟩
    rintro m σ H2 ⟨t, rfl, rfl, ht, rfl⟩
    have h6 : chT W cs j ≤ 6 := dbl_le _
    have hd := dbl_lt (n := brd W cs (j + 1) - brd W cs j) (by omega) (t := t) (by omega)
    walk_at "ev"
    · rename_i hc
      have hlt : t < chT W cs j := hd.mp hc
      refine ⟨_, fun σ' H' h => h, ?_⟩
      walk_at "ev"
      refine ⟨_, _, _, rfl, ?_⟩
      walk_at "ev"
      refine ⟨chT W cs j - (t + 1), by omega, t + 1, ?_, rfl, by omega, rfl⟩
      rw [Int.pow_succ, ← Int.mul_assoc, ← Int.mul_assoc, Int.mul_comm _ 2, Int.mul_comm _ 2, Int.natCast_add, ← Int.add_assoc]
      rfl
    · rename_i hc
      have e : t = chT W cs j := by
        have : ¬ t < chT W cs j := fun y => hc (hd.mpr y)
        omega
      subst e
      exact ⟨(by show 3 ≤ sizeLine; decide), fun q' nq => q q' _ (q1.free nq) (q1.trans (same_upd nq)) upd_same⟩
def spIsOut (K : PySem.W.Frag) : Sp := fun vs H Q _ => ∃ (nd : V) (p : Addr) (ys : List V) (j : Int), vs = [nd, .ref p, .int j] ∧ SqS K H p ys ∧ (j < 0 ∨ (ys.length : Int) ≤ j) ∧ Q (.bl true) H
theorem ok_is_out {f O N fX : Addr} {fd fdX : FuncData} {k : Nat} (F : Fun K "_law_is_outside" "_law_is_outside" s_law_is_outside f fd) (T : Txt mg) (e : ECls K mg "Outside" O) (gN : mg "NarrowError" = some (.ref N)) (oN : PySem.W.kitOne K (.ref O) (.ref N) = some true)
    (GX : FnOk P w K mg base (L2.CX P w) 1 fX fdX ["node", "counts", "j"] (spNextX K O)) (gX : mg "next_node" = some (.ref fX)) (kX : PySem.W.keepIn K (.ref fX) = true) (bX : Binds K fdX ["node", "counts", "j"] []) : FnOk P w K mg base CX0 (k + 2) f fd ["_law_node_here", "_law_counts_here", "_law_letter"] (spIsOut K) := by
  refine F.ok sc_law_is_outside (fun vs H Q E h => ?_) (fun cdv A outer s H vs Q E hr h => ?_)
  · obtain ⟨nd, p, ys, j, rfl, _⟩ := h
    rfl
  · obtain ⟨nd, p, ys, j, rfl, hS, hj, q⟩ := h
    refine ⟨_, pss_cons (ps_set (i := 3) sc_law_is_outside.nd rfl (Or.inl rfl) pe_bl) (pss_cons
      (ps_try_as (i := 4) rfl rfl sc_law_is_outside.nd rfl rfl ⟨rfl, by decide, .inl e.gC⟩ takes0
        (fun W pn xe tk _ => pss_one (ps_expr (pe_callS GX (hr.mono (by omega)) (by rfl) gX kX bX (fun σ => passAt tk σ) (pa_cons (pv 0) (pa_cons (pv 1) (pa_cons (pv 2) pa_nil))))))
        (fun a oe cls d pn hz hf => pss_one (ps_set (i := 3) sc_law_is_outside.nd rfl (Or.inl rfl) (pe_callB (call_isE1 e.ex hz hf) (by rfl) T.z_isinstance PyProof.Rows.boot_isinstance (pa_cons (pv 4) (pa_cons (pe_glob (v := .ref N) (by rfl) gN rfl) pa_nil))))))
      (pss_one (ps_ret (pv 3)))), ?_⟩
    walk_at "ev"
    refine ⟨nd, p, ys, j, rfl, hS, hj, true, e.em, fun _ a0 _ => ?_, fun z => nomatch z⟩
    walk_at "ev"
    refine ⟨_, .ref N, true, rfl, fun _ z => z, oN, ?_⟩
    walk_at "ev"
    exact q
/-! ### a node's letters -/
def spIsRight : Sp := fun vs H Q _ => ∃ (nd p : Addr) (l W s : Int) (cs : List Int), vs = [.ref nd, .ref p] ∧ H nd = some (.tup [.int l, .int W, .int s]) ∧ NodeB l W s ∧ H p = some (.lst (cs.map V.int)) ∧ GoodC cs ∧ ∀ H', Same H H' → Q (.bl true) H'
theorem ok_is_right {f : Addr} {fd : FuncData} {k : Nat} (F : Fun K "_law_is_right" "_law_is_right" s_law_is_right f fd) (T : Txt mg) (c_law_borders : C8.Cal P w K mg base 1 "_law_borders" spBordL []) (c_next_node : C8.Cal P w K mg base 2 "next_node" (spNext K) []) (ck_next_node : CalK P w K mg base 2 "next_node" ["node", "counts", "j"] (spNext K)) (c_law_child : C8.Cal P w K mg base 2 "_law_child" spChild []) :
    FnOk P w K mg base CX0 (k + 3) f fd ["_law_node_here", "_law_counts_here"] spIsRight := by
  refine F.ok sc_law_is_right (fun vs H Q E h => ?_) (fun cdv A outer s H vs Q E hr h => ?_)
  · obtain ⟨nd, p, l, W, z, cs, rfl, _⟩ := h
    rfl
  · obtain ⟨nd, p, l, W, z, cs, rfl, hn, hB, hp, g, q⟩ := h
    have hu := hr.units
    have hB2 := hB
    obtain ⟨l0, l1, w0, w1, s0, s1⟩ := hB
    refine ⟨_, (pss_cons (ps_asg (pv 0) (pg_tup rfl (pgs_cons (pg_name (i := 2) sc_law_is_right.nd rfl (Or.inl rfl)) (pgs_cons (pg_name (i := 3) sc_law_is_right.nd rfl (Or.inl rfl)) (pgs_cons (pg_name (i := 4) sc_law_is_right.nd rfl (Or.inl rfl)) pgs_nil)))))
    (pss_cons (ps_par3 (i := 5) (j := 6) (l := 7) rfl sc_law_is_right.nd rfl rfl rfl (by decide) (by decide) (by decide) rfl rfl rfl (pa_cons (C8.pe_c c_law_borders hr (by omega) (by rfl) (pa_cons (pv 3) (pa_cons (pv 1) pa_nil))) (pa_cons (pe_callTy call_list_of (by rfl) T.z_list PyProof.Rows.boot_list (pa_cons (pv 1) pa_nil)) (pa_cons pe_int pa_nil))) rfl)
    (pss_cons (ps_for PassesOwn.never rfl (pi_range1 (by rfl) T.z_range (pa_cons (pe_callB call_len_seq (by rfl) T.z_len PySem.boot_len (pa_cons (pv 1) pa_nil)) pa_nil)) (pg_name (i := 8) sc_law_is_right.nd rfl (Or.inl rfl))
      (pss_cons (ps_set (i := 9) sc_law_is_right.nd rfl (Or.inl rfl) (C8.pe_c c_next_node hr (by omega) (by rfl) (pa_cons (pv 0) (pa_cons (pv 1) (pa_cons (pv 8) pa_nil)))))
    (pss_cons (ps_if (PW.pt (pw_or (pt_not (pt_val (pe_callB call_isi (by rfl) T.z_isinstance PyProof.Rows.boot_isinstance (pa_cons (pv 9) (pa_cons (pe_bltn (v := .ty "tuple") (by rfl) T.z_tuple PyProof.Rows.boot_tuple rfl) pa_nil))))) (pw_or (pt_cmpR op_ne (pe_callB call_len_seq (by rfl) T.z_len PySem.boot_len (pa_cons (pv 9) pa_nil)) pe_int (nomark _)) (pw_or1 (pt_cmpR (op_neD hu) (pv 9) (pe_ck ck_next_node hr (by omega) (by rfl) (pk_cons (pv 0) (pk_cons (pe_callTy call_tuple_of (by rfl) T.z_tuple PyProof.Rows.boot_tuple (pa_cons (pv 6) pa_nil)) (pk_cons (pv 8) pk_nil)))) (nomark _)))))) (pss_one (ps_ret pe_bl)) pss_nil)
    (pss_cons (ps_set (i := 10) sc_law_is_right.nd rfl (Or.inl rfl) (pe_op op_sub (pe_ix ix_tup (pv 9) pe_int (fun _ _ => rfl)) (pv 4)))
    (pss_cons (ps_par (i := 11) (j := 12) rfl sc_law_is_right.nd rfl rfl (by decide) rfl rfl (pa_cons (pe_ix ix_list (pv 5) (pv 8) (fun _ _ => rfl)) (pa_cons (pe_ix ix_list (pv 5) (pe_op op_add (pv 8) pe_int) (fun _ _ => rfl)) pa_nil)) rfl)
    (pss_cons (ps_if (PW.pt (pw_or (pt_cmpR op_lt (pv 10) pe_int (nomark _)) (pw_or (pt_cmpR op_gt (pv 10) pe_int (nomark _)) (pw_or (pt_cmpR op_ne (pe_ix ix_tup (pv 9) pe_int (fun _ _ => rfl)) (pe_op op_shl (pe_op op_add (pv 2) (pv 11)) (pv 10)) (nomark _)) (pw_or1 (pt_cmpR op_ne (pe_ix ix_tup (pv 9) pe_int (fun _ _ => rfl)) (pe_op op_shl (pe_op op_sub (pv 12) (pv 11)) (pv 10)) (nomark _))))))) (pss_one (ps_ret pe_bl)) pss_nil)
    (pss_cons (ps_if (PW.pt (pw_or (pt_not (pt_chain op_le op_lt pe_int (pe_ix ix_tup (pv 9) pe_int (fun _ _ => rfl)) pe_int)) (pw_or1 (PW.pt (pw_and (pt_cmpR op_gt (pv 10) pe_int (nomark _)) (pw_and1 (pt_cmpR op_ge (pe_op op_shl (pe_op op_sub (pv 12) (pv 11)) (pe_op op_sub (pv 10) pe_int)) pe_int (nomark _)))))))) (pss_one (ps_ret pe_bl)) pss_nil)
    (pss_cons (ps_if (PW.pt (pw_or (pt_cmpR op_ne (pe_ix ix_tup (pv 9) pe_int (fun _ _ => rfl)) (pe_op op_shl (pe_op op_add (pv 2) (pv 7)) (pv 10)) (nomark _)) (pw_or1 (pt_cmpR (op_neD hu) (pv 9) (C8.pe_c c_law_child hr (by omega) (by rfl) (pa_cons (pv 0) (pa_cons (pv 6) (pa_cons (pv 8) pa_nil)))) (nomark _))))) (pss_one (ps_ret pe_bl)) pss_nil)
    (pss_one (ps_set (i := 7) sc_law_is_right.nd rfl (Or.inl rfl) (pe_op op_sub (pe_op op_shr (pe_op op_add (pe_ix ix_tup (pv 9) pe_int (fun _ _ => rfl)) (pe_ix ix_tup (pv 9) pe_int (fun _ _ => rfl))) (pv 10)) (pv 2))))))))))))
    (pss_one (ps_ret (pe_and (pe_cmpR op_eq (pv 7) (pv 3) (nomark _)) (pe_one (pe_cmpR (op_eqD hu) (pv 1) (pv 6) (nomark _))))))))), ?_⟩
    have hcl : (cs.map V.int).length = cs.length := List.length_map _
    have hl3 := g.l3
    walk_at "ev"
    refine ⟨W, p, cs, rfl, by omega, by omega, hp, g, fun d H1 n1 q1 e1 => ?_⟩
    have hp1 := q1 _ _ hp
    walk_at "ev"
    refine fun kp nk => ?_
    have q2 := q1.trans (same_upd (o := .lst (cs.map V.int)) nk)
    have e1k := new_at (o' := .lst (cs.map V.int)) e1 nk
    have ekp := upd_same (H := H1) (a := kp) (o := .lst (cs.map V.int))
    have hp2 := q2 _ _ hp
    have hn2 := q2 _ _ hn
    generalize upd H1 kp (.lst (cs.map V.int)) = G at q2 e1k ekp hp2 hn2 ⊢
    walk_at "ev"
    refine ⟨_, _, _, rfl, ?_⟩
    walk_at "ev"
    refine ⟨by omega, by omega, for_range (fun i σ H2 => ∃ v8 v9 v10 v11 v12, σ = [some (.ref nd), some (.ref p), some (.int l), some (.int W), some (.int z), some (.ref d), some (.ref kp), some (.int (brd W cs i)), v8, v9, v10, v11, v12] ∧ Same G H2) ⟨_, _, _, _, _, by rw [brd_zero]; rfl, Same.refl G⟩ ?_ ?_⟩
    · rintro i σ H2 hi ⟨v8, v9, v10, v11, v12, rfl, s2⟩
      rw [show (0 : Int) + (i : Int) = (i : Int) from Int.zero_add _]
      have hi2 : i < cs.length := by omega
      have hpx := s2 _ _ hp2
      have hnx := s2 _ _ hn2
      have hdx := s2 _ _ e1k
      have hkx := s2 _ _ ekp
      have b0 := brd_nn (by omega : 0 ≤ W) g i
      have b1 := brd_le (by omega : 0 ≤ W) g (i + 1)
      have bs := brd_step w0 g hi2
      have h6 : chT W cs i ≤ 6 := dbl_le _
      have hk1 := dbl_lt (n := brd W cs (i + 1) - brd W cs i) (by omega) (t := chT W cs i) h6
      have hk2 : 0 < chT W cs i → (brd W cs (i + 1) - brd W cs i) * 2 ^ (chT W cs i - 1) < 65536 := fun z => (dbl_lt (n := brd W cs (i + 1) - brd W cs i) (by omega) (t := chT W cs i - 1) (by omega)).mpr (by show _ < chT W cs i; omega)
      have hk0 : 65536 ≤ (brd W cs (i + 1) - brd W cs i) * 2 ^ chT W cs i := by
        have : ¬ chT W cs i < chT W cs i := Nat.lt_irrefl _
        have h := mt hk1.mp this
        omega
      walk_at "ev"
      refine ⟨nd, p, l, W, z, cs, i, rfl, .inl (.inl hnx), hB2, .inl (.inl (.inl hpx)), g, hi2, fun t1 G1 m1 c1 f1 => ?_⟩
      simp only [chV] at f1
      generalize hA : (l + brd W cs i) * 2 ^ chT W cs i = A at f1
      generalize hN : (brd W cs (i + 1) - brd W cs i) * 2 ^ chT W cs i = B at f1 hk0
      walk_at "ev"
      refine ⟨kp, _, rfl, .inl ⟨.inl (.inl (c1 _ _ hkx)), fun t2 n2 => ?_⟩⟩
      have x12 := c1.trans (same_upd (o := .tup (cs.map V.int)) n2)
      walk_at "ev"
      refine ⟨nd, t2, l, W, z, cs, i, rfl, .inl (.inl (x12 _ _ hnx)), hB2, .inr (.inl (.inl upd_same)), g, hi2, fun t3 G2 m3 c3 f3 => ?_⟩
      simp only [chV] at f3
      rw [hA, hN] at f3
      have x13 := x12.trans c3
      have f1b := c3 _ _ (new_at (o' := .tup (cs.map V.int)) f1 n2)
      have sh3 : ∀ a b c : Int, SeqAt.shaped (.tuple [.int a, .int b, .int c]) = true := fun a b c => (shd_tup (n := 0) fun d m => by
        rcases List.mem_cons.mp m with rfl | m
        · exact shd_int _
        rcases List.mem_cons.mp m with rfl | m
        · exact shd_int _
        rw [List.mem_singleton.mp m]
        exact shd_int _).sh (by decide)
      have dp3 : ∀ {HH : Hp} {x : Addr} {a b c : Int}, HH x = some (.tup [.int a, .int b, .int c]) → Dp K HH (.ref x) (.tuple [.int a, .int b, .int c]) := fun h => .tup (.inl (.inl h)) (.cons (.int _) (.cons (.int _) (.cons (.int _) .nil)))
      refine q_neS (dp3 f1b) (dp3 f3) (sh3 _ _ _) ?_
      have dx := x13 _ _ hdx
      have g1 : atI ((brds W cs (cs.length + 1)).map V.int) ((i : Int) + 1) = some (.int (brd W cs (i + 1))) := at_of (j := i + 1) (by omega) (by rw [List.getElem?_map, brds_get (by omega)]; rfl)
      have g2 : atI ((brds W cs (cs.length + 1)).map V.int) (i : Int) = some (.int (brd W cs i)) := at_of (j := i) (by omega) (by rw [List.getElem?_map, brds_get (by omega)]; rfl)
      walk_at "ev"
      dsimp only
      rw [show z + (chT W cs i : Int) - z = (chT W cs i : Int) by omega]
      walk_at "ev"
      refine ⟨_, _, _, _, rfl, rfl, .inl (.inl dx), g2, ?_⟩
      walk_at "ev"
      refine ⟨_, _, _, _, rfl, rfl, .inl (.inl dx), g1, ?_⟩
      have hA' : (l + brd W cs i) * 2 ^ ((chT W cs i : Nat) : Int).toNat = A := hA
      have hN' : (brd W cs (i + 1) - brd W cs i) * 2 ^ ((chT W cs i : Nat) : Int).toNat = B := hN
      have hN1 : 0 < chT W cs i → (brd W cs (i + 1) - brd W cs i) * 2 ^ (((chT W cs i : Nat) : Int) - 1).toNat < 65536 := fun y => by
        rw [show (((chT W cs i : Nat) : Int) - 1).toNat = chT W cs i - 1 by omega]
        exact hk2 y
      have hB1 : B < 131072 := by
        cases eT : chT W cs i with
        | zero =>
          rw [eT, Int.pow_zero, Int.mul_one] at hN
          omega
        | succ t =>
          have h := hk2 (by omega)
          rw [eT, Nat.add_sub_cancel] at h
          rw [eT, Int.pow_succ, ← Int.mul_assoc] at hN
          omega
      have hAB : (A + B) / 2 ^ ((chT W cs i : Nat) : Int).toNat - l = brd W cs (i + 1) := by
        have e : A + B = (l + brd W cs (i + 1)) * 2 ^ chT W cs i := by
          rw [← hA, ← hN, ← Int.add_mul]
          congr 1
          omega
        rw [e, show ((chT W cs i : Nat) : Int).toNat = chT W cs i from rfl, Int.mul_ediv_cancel _ (Int.ne_of_gt (Int.pow_pos (by decide)))]
        omega
      walk_at "ev"
      all_goals
        refine ⟨nd, kp, l, W, z, cs, i, rfl, x13 _ _ hnx, hB2, x13 _ _ hkx, g, hi2, fun t5 G3 m5 c5 f5 => ?_⟩
        simp only [chV] at f5
        rw [hA, hN] at f5
        have f1c := c5 _ _ f1b
        refine q_neS (dp3 f1c) (dp3 f5) (sh3 _ _ _) ?_
        walk_at "ev"
        refine ⟨some (.int i), some (.ref t1), some (.int (chT W cs i)), some (.int (brd W cs i)), some (.int (brd W cs (i + 1))), ?_, s2.trans (x13.trans c5)⟩
        rw [← hAB]
        rfl
    · rintro σ H2 ⟨v8, v9, v10, v11, v12, rfl, s2⟩
      rw [show ((cs.map V.int).length : Int).toNat = cs.length from hcl, brd_len g]
      walk_at "ev"
      refine q_eqI (s2 _ _ hp2) (s2 _ _ ekp) ?_
      walk_at "ev"
      exact q _ (q2.trans s2)
/-! ### a table of counts -/
theorem lk_here {k : Str} {v : V} {r : List (Str × V)} : List.lookup k ((k, v) :: r) = some v := by
  have e : (k == k) = true := beq_self_eq_true k
  simp only [List.lookup, e]
theorem lk_past {k g : Str} {v : V} {r : List (Str × V)} (h : (k == g) = false) : List.lookup k ((g, v) :: r) = List.lookup k r := by
  simp only [List.lookup, h]
theorem put_here {f : Str} {v x : V} {r : List (Str × V)} : putF f v ((f, x) :: r) = (f, v) :: r := if_pos rfl
def TabAt (C : Addr) (H : Hp) (x l : Addr) (cs : List Int) : Prop := ∃ dx, H x = some (.ins C dx [("_counts", .ref l)]) ∧ H l = some (.lst (cs.map V.int))
/-- all but x and l stays -/
def OffT (x l : Addr) (H H' : Hp) : Prop := ∀ b o, b ≠ x → b ≠ l → H b = some o → H' b = some o
structure TabK (K : PySem.W.Frag) (C : Addr) : Prop where
  cl : Cls K C
  na : NoAttr K C "_counts"
/-- a number added twice at a place -/
def bump (cs : List Int) (j : Nat) : List Int := cs.modify j (· + 2)
def halve (cs : List Int) : List Int := cs.map fun c => (c + 1) / 2
def lrn (cs : List Int) (j : Nat) : List Int := if (bump cs j).sum > 64 then halve (bump cs j) else bump cs j
theorem bump_len (cs : List Int) (j : Nat) : (bump cs j).length = cs.length := List.length_modify _ _ _
theorem bump_get (cs : List Int) (j i : Nat) : (bump cs j)[i]? = (cs[i]?).map fun c => c + 2 * (if i = j then 1 else 0) := by
  unfold bump
  rw [List.getElem?_modify]
  cases cs[i]? with
  | none => rfl
  | some c =>
    show some (if j = i then c + 2 else c) = some (c + 2 * (if i = j then 1 else 0))
    by_cases h : j = i
    · rw [if_pos h, if_pos h.symm, Int.mul_one]
    · rw [if_neg h, if_neg fun e => h e.symm, Int.mul_zero, Int.add_zero]
theorem bump_set {cs : List Int} {j : Nat} {c : Int} (h : cs[j]? = some c) : bump cs j = cs.set j (c + 2) := by
  unfold bump
  refine List.ext_getElem? fun i => ?_
  rw [List.getElem?_modify, List.getElem?_set]
  by_cases e : j = i
  · subst e
    have hl := (List.getElem?_eq_some_iff.mp h).1
    rw [if_pos rfl, if_pos hl, h]
    show some (if j = j then c + 2 else c) = _
    rw [if_pos rfl]
  · rw [if_neg e]
    cases cs[i]? with
    | none => rfl
    | some d =>
      show some (if j = i then d + 2 else d) = some d
      rw [if_neg e]
theorem sum_bump : ∀ {cs : List Int} {j : Nat}, j < cs.length → (bump cs j).sum = cs.sum + 2
  | [], j, h => absurd h (Nat.not_lt_zero j)
  | c :: r, 0, _ => by
    show ((c + 2) :: r).sum = _
    rw [List.sum_cons, List.sum_cons]
    omega
  | c :: r, j + 1, h => by
    show (c :: bump r j).sum = _
    rw [List.sum_cons, List.sum_cons, sum_bump (cs := r) (j := j) (by simpa using h)]
    omega
theorem bump_pos {cs : List Int} {j : Nat} (h : ∀ c ∈ cs, 1 ≤ c) : ∀ c ∈ bump cs j, 1 ≤ c := fun c m => by
  obtain ⟨i, hi⟩ := List.getElem?_of_mem m
  rw [bump_get] at hi
  obtain ⟨d, hd, rfl⟩ := Option.map_eq_some_iff.mp hi
  have := h d (List.mem_of_getElem? hd)
  split <;> omega
theorem halve_pos {cs : List Int} (h : ∀ c ∈ cs, 1 ≤ c) : ∀ c ∈ halve cs, 1 ≤ c := fun c m => by
  obtain ⟨d, hd, rfl⟩ := List.mem_map.mp m
  have := h d hd
  show 1 ≤ (d + 1) / 2
  omega
theorem sum_halve : ∀ {cs : List Int}, 2 * (halve cs).sum ≤ cs.sum + cs.length
  | [] => by simp [halve]
  | c :: r => by
    have h := sum_halve (cs := r)
    show 2 * (((c + 1) / 2) :: halve r).sum ≤ _
    rw [List.sum_cons, List.sum_cons, List.length_cons]
    omega
theorem halve_len (cs : List Int) : (halve cs).length = cs.length := List.length_map _
theorem lrn_len (cs : List Int) (j : Nat) : (lrn cs j).length = cs.length := by
  unfold lrn
  split
  · rw [halve_len, bump_len]
  · exact bump_len _ _
theorem GoodC.lrn {cs : List Int} (g : GoodC cs) {j : Nat} (h : j < cs.length) : GoodC (lrn cs j) := by
  refine ⟨by rw [lrn_len]; exact g.l2, by rw [lrn_len]; exact g.l3, ?_, ?_⟩
  · unfold My.lrn
    split
    · exact halve_pos (bump_pos g.pos)
    · exact bump_pos g.pos
  · unfold My.lrn
    split
    · have h1 := sum_halve (cs := bump cs j)
      have h2 := sum_bump h
      have h3 := g.sum
      have h4 := g.l3
      rw [bump_len] at h1
      omega
    · omega
theorem good_ones {m : Nat} (h : m = 2 ∨ m = 3) : GoodC (List.replicate m 1) := by
  rcases h with rfl | rfl
  · exact ⟨by decide, by decide, by decide, by decide⟩
  · exact ⟨by decide, by decide, by decide, by decide⟩
/-! ### its defs -/
theorem in23 (m : Int) : inV (.int m) [.int 2, .int 3] = decide (m = 2 ∨ m = 3) := by
  unfold inV eqV
  by_cases h2 : m = 2
  · subst h2
    decide
  · by_cases h3 : m = 3
    · subst h3
      decide
    · have e2 : ((2 : Int) == m) = false := beq_eq_false_iff_ne.mpr fun z => h2 z.symm
      have e3 : ((3 : Int) == m) = false := beq_eq_false_iff_ne.mpr fun z => h3 z.symm
      rw [decide_eq_false (fun z => z.elim h2 h3)]
      simp only [List.any_cons, List.any_nil, e2, e3, Bool.or_false]
def spInit (C O : Addr) : Sp := fun vs H Q E => ∃ (x dx : Addr) (m : Int), vs = [.ref x, .int m] ∧ H x = some (.ins C dx []) ∧
  (((m = 2 ∨ m = 3) ∧ ∀ (l : Addr) (H' : Hp), H l = none → (∀ b o, b ≠ x → H b = some o → H' b = some o) → TabAt C H' x l (List.replicate m.toNat 1) → Q .non H') ∨ (m ≠ 2 ∧ m ≠ 3 ∧ ∀ H', Same H H' → E (.ref O) none H'))
theorem ok_init {f C O : Addr} {fd : FuncData} {k : Nat} (F : Fun K "__init__" "Table.__init__" s_Table_init f fd) (D : TabK K C) (e_Outside : ECls K mg "Outside" O) : FnOk P w K mg base (L2.CX P w) (k + 1) f fd ["self", "m"] (spInit C O) := by
  refine F.okX sc_Table_init (fun vs H Q E h => ?_) (fun cdv A outer s H vs Q E hr h => ?_)
  · obtain ⟨x, dx, m, rfl, _⟩ := h
    rfl
  · refine ⟨_, (pss_cons (ps_if (pt_cmpR op_notIn_seq (pv 1) (pe_tup (pa_cons pe_int (pa_cons pe_int pa_nil))) (by rfl)) (pss_one (ps_raise rfl (takes_of rfl rfl rfl rfl) (pmk_none PySem.F.excBase_ValueError e_Outside.xC e_Outside.gC e_Outside.kC (raises_own e_Outside.bC e_Outside.tC) (by rfl)))) pss_nil)
    (pss_one (ps_fld (pv 0) (pe_op op_rep (pe_lst (pa_cons pe_int pa_nil)) (pv 1)) rfl))), ?_⟩
    obtain ⟨x, dx, m, rfl, hx, h⟩ := h
    walk_at "ev"
    refine ⟨(by show 2 ≤ sizeLine; decide), fun t nt => ?_⟩
    have hx2 := new_at (o' := .tup [.int 2, .int 3]) hx nt
    have s2 := same_upd (o := .tup [.int 2, .int 3]) nt
    refine ⟨t, _, rfl, .inr (.inl (.inl upd_same)), rfl, rfl, ?_⟩
    rw [in23, if_pos rfl]
    obtain ⟨hm, q⟩ | ⟨h2, h3, x⟩ := h
    case inr =>
      rw [decide_eq_false (fun z => z.elim h2 h3)]
      exact ⟨_, rfl, x _ s2⟩
    rw [decide_eq_true hm]
    refine ⟨_, rfl, ?_⟩
    generalize upd H t (.tup [.int 2, .int 3]) = G at hx2 s2 ⊢
    walk_at "ev"
    refine ⟨(by show 1 ≤ sizeLine; decide), fun p0 n0 => ?_⟩
    walk_at "ev"
    refine ⟨p0, _, _, rfl, rfl, upd_same, by omega, by omega, ?_, fun p1 n1 => ?_⟩
    · show 1 * _ ≤ sizeLine
      exact Nat.le_of_lt (small1000 (by omega))
    have s3 := s2.trans ((same_upd (o := .lst [V.int 1]) n0).trans (same_upd (o := .lst (List.replicate m.toNat [V.int 1]).flatten) n1))
    walk_at "ev"
    refine ⟨x, C, dx, [], rfl, new_at (new_at hx2 n0) n1, D.cl, D.na, by decide, ?_⟩
    have n1x : p1 ≠ x := fun z => by
      subst z
      rw [new_at hx2 n0] at n1
      cases n1
    refine q p1 _ ((s2.trans (same_upd n0)).free n1) (fun b o nb e => by rw [upd_ne nb]; exact s3 b o e) ⟨dx, upd_same, ?_⟩
    rw [upd_ne n1x, upd_same]
    rcases hm with rfl | rfl <;> rfl
def spCounts (C : Addr) : Sp := fun vs H Q _ => ∃ (x l : Addr) (cs : List Int), vs = [.ref x] ∧ TabAt C H x l cs ∧ ∀ (q : Addr) (H' : Hp), H q = none → Same H H' → H' q = some (.lst (cs.map V.int)) → Q (.ref q) H'
theorem ok_tcounts {f C : Addr} {fd : FuncData} {k : Nat} (F : Fun K "counts" "Table.counts" s_Table_counts f fd) (T : Txt mg) (D : TabK K C) : FnOk P w K mg base CX0 (k + 1) f fd ["self"] (spCounts C) := by
  refine F.ok sc_Table_counts (fun vs H Q E h => ?_) (fun cdv A outer s H vs Q E hr h => ?_)
  · obtain ⟨x, l, cs, rfl, _⟩ := h
    rfl
  · obtain ⟨x, l, cs, rfl, ⟨dx, hx, hl⟩, q⟩ := h
    refine ⟨_, (pss_one (ps_ret (pe_callTy call_list_of (by rfl) T.z_list PyProof.Rows.boot_list (pa_cons (pe_fld (pv 0) rfl) pa_nil)))), ?_⟩
    walk_at "ev"
    refine ⟨x, C, dx, _, _, rfl, hx, D.cl, D.na, lk_here, ?_⟩
    walk_at "ev"
    exact fun p np => q p _ np (same_upd np) upd_same
def spTotal (C : Addr) : Sp := fun vs H Q _ => ∃ (x l : Addr) (cs : List Int), vs = [.ref x] ∧ TabAt C H x l cs ∧ Q (.int cs.sum) H
theorem ok_total {f C : Addr} {fd : FuncData} {k : Nat} (F : Fun K "total" "Table.total" s_Table_total f fd) (T : Txt mg) (D : TabK K C) : FnOk P w K mg base CX0 (k + 1) f fd ["self"] (spTotal C) := by
  refine F.ok sc_Table_total (fun vs H Q E h => ?_) (fun cdv A outer s H vs Q E hr h => ?_)
  · obtain ⟨x, l, cs, rfl, _⟩ := h
    rfl
  · obtain ⟨x, l, cs, rfl, ⟨dx, hx, hl⟩, q⟩ := h
    refine ⟨_, (pss_one (ps_ret (pe_callB (cr_sumS rfl) (by rfl) T.z_sum PyProof.Rows.boot_sum (pa_cons (pe_fld (pv 0) rfl) pa_nil)))), ?_⟩
    walk_at "ev"
    refine ⟨x, C, dx, _, _, rfl, hx, D.cl, D.na, lk_here, ?_⟩
    exact ⟨_, _, rfl, .inl (.inl (.inl hl)), q⟩
def spLearn (C O : Addr) : Sp := fun vs H Q E => ∃ (x l : Addr) (cs : List Int) (j : Int), vs = [.ref x, .int j] ∧ TabAt C H x l cs ∧ GoodC cs ∧
  ((∃ i : Nat, j = (i : Int) ∧ i < cs.length ∧ ∀ (l' : Addr) (H' : Hp), (l' = l ∨ H l' = none) → OffT x l H H' → TabAt C H' x l' (lrn cs i) → Q .non H') ∨ ((j < 0 ∨ (cs.length : Int) ≤ j) ∧ E (.ref O) none H))
theorem ok_learn {f C O : Addr} {fd : FuncData} {k : Nat} {t : Tok} (F : Fun K "learn" "Table.learn" s_Table_learn f fd) (T : Txt mg) (D : TabK K C) (e_Outside : ECls K mg "Outside" O) (hMT : mg "MOST_TOTAL" = some (.int 64 t)) : FnOk P w K mg base (L2.CX P w) (k + 1) f fd ["self", "j"] (spLearn C O) := by
  refine F.okX sc_Table_learn (fun vs H Q E h => ?_) (fun cdv A outer s H vs Q E hr h => ?_)
  · obtain ⟨x, l, cs, j, rfl, _⟩ := h
    rfl
  · refine ⟨_, (pss_cons (ps_if (pt_not (pt_chain op_le op_lt pe_int (pv 1) (pe_callB call_len_seq (by rfl) T.z_len PySem.boot_len (pa_cons (pe_fld (pv 0) rfl) pa_nil)))) (pss_one (ps_raise rfl (takes_of rfl rfl rfl rfl) (pmk_none PySem.F.excBase_ValueError e_Outside.xC e_Outside.gC e_Outside.kC (raises_own e_Outside.bC e_Outside.tC) (by rfl)))) pss_nil)
    (pss_cons (ps_augS (pe_fld (pv 0) rfl) (pv 1) get_list pe_int ip_add set_list)
    (pss_one (ps_if (pt_cmpR op_gt (pe_callB (cr_sumS rfl) (by rfl) T.z_sum PyProof.Rows.boot_sum (pa_cons (pe_fld (pv 0) rfl) pa_nil)) (pe_glob (v := .int 64) (by rfl) hMT ⟨_, rfl⟩) (nomark _)) (pss_one (ps_fld (pv 0) (pe_lc (own := [("count", 2)]) (g := (gName 2)) (tt := tYes) rfl sc_Table_learn.nd (pi_list (pe_fld (pv 0) rfl)) (blkOk_by (N := ["self", "j", "count"]) (sc := defScope s_Table_learn) (by decide +kernel)) (fun _ _ _ _ _ => pg_name (i := 2) sc_Table_learn.nd rfl (Or.inl rfl)) (fun _ _ _ _ _ => pts_nil) (fun _ _ _ _ _ => (pe_op op_fdiv (pe_op op_add (pv 2) pe_int) pe_int))) rfl)) pss_nil)))), ?_⟩
    obtain ⟨x, l, cs, j, rfl, ⟨dx, hx, hl⟩, g, h⟩ := h
    have hcl : (cs.map V.int).length = cs.length := List.length_map _
    have hl3 := g.l3
    have hxl : x ≠ l := fun z => by
      subst z
      rw [hx] at hl
      cases hl
    obtain ⟨i, rfl, hi, q⟩ | ⟨hj, x⟩ := h
    case inr =>
      walk_at "ev"
      · refine ⟨_, C, dx, _, _, rfl, hx, D.cl, D.na, lk_here, ?_⟩
        refine ⟨_, _, rfl, .inl (.inl (.inl hl)), ?_⟩
        walk_at "ev"
        exact x
      · exact x
    obtain ⟨c, hc⟩ : ∃ c, cs[i]? = some c := ⟨cs[i], List.getElem?_eq_getElem hi⟩
    have hg : atI (cs.map V.int) (i : Int) = some (.int c) := at_of (j := i) (by omega) (by rw [List.getElem?_map, hc]; rfl)
    walk_at "ev"
    refine ⟨x, C, dx, _, _, rfl, hx, D.cl, D.na, lk_here, ?_⟩
    refine ⟨_, _, rfl, .inl (.inl (.inl hl)), ?_⟩
    walk_at "ev"
    refine ⟨x, C, dx, _, _, rfl, hx, D.cl, D.na, lk_here, ?_⟩
    walk_at "ev"
    refine ⟨_, _, _, _, rfl, rfl, .inl (.inl hl), hg, ?_⟩
    walk_at "ev"
    refine ⟨l, _, _, i, rfl, rfl, hl, ?_, ?_⟩
    · unfold ixN
      rw [if_pos (by omega), if_pos (by omega)]
      rfl
    have e1 : upd H l (.lst ((cs.map V.int).set i (.int (c + 2)))) l = some (.lst ((bump cs i).map V.int)) := by
      rw [upd_same, bump_set hc, List.map_set]
    have hx1 : upd H l (.lst ((cs.map V.int).set i (.int (c + 2)))) x = some (.ins C dx [("_counts", .ref l)]) := by
      rw [upd_ne hxl]
      exact hx
    have o1 : OffT x l H (upd H l (.lst ((cs.map V.int).set i (.int (c + 2))))) := fun b o nx nl e => by
      rw [upd_ne nl]
      exact e
    have f1 : ∀ p, upd H l (.lst ((cs.map V.int).set i (.int (c + 2)))) p = none → H p = none := fun p e => by
      by_cases z : p = l
      · subst z
        rw [upd_same] at e
        cases e
      · rw [upd_ne z] at e
        exact e
    generalize upd H l (.lst ((cs.map V.int).set i (.int (c + 2)))) = G at e1 hx1 o1 f1 ⊢
    walk_at "ev"
    refine ⟨x, C, dx, _, _, rfl, hx1, D.cl, D.na, lk_here, ?_⟩
    refine ⟨_, _, rfl, .inl (.inl (.inl e1)), ?_⟩
    have hgt : lrn cs i = if (bump cs i).sum > 64 then halve (bump cs i) else bump cs i := rfl
    walk_at "ev"
    · rename_i hc2
      rw [if_pos hc2] at hgt
      refine ⟨x, C, dx, _, _, rfl, hx1, D.cl, D.na, lk_here, ?_⟩
      refine ⟨l, rfl, ⟨_, .inl (.inl e1)⟩, fun D2 nD => ?_⟩
      have hbl : (bump cs i).length = cs.length := bump_len cs i
      refine lc_it (walk_list (xs := (bump cs i).map V.int)) (fun t H3 => Same G H3 ∧ H3 D2 = some (.lst (((halve (bump cs i)).take t).map V.int))) ⟨same_upd nD, upd_same⟩ (fun _ _ _ h => .inl (.inl (h.1 _ _ e1))) ?_ ?_
      · rintro t z H3 H4 ht ⟨s3, e4⟩ ⟨rfl, hz⟩
        rw [List.getElem?_map] at hz
        obtain ⟨d, hd, rfl⟩ := Option.map_eq_some_iff.mp hz
        walk_at "ev"
        refine ⟨_, e4, small1000 (by rw [List.length_map, List.length_take, halve_len]; omega), fun b o e => ?_, ?_⟩
        · rw [upd_ne (ne_of_none e nD)]
          exact s3 _ _ e
        · have hh : (halve (bump cs i))[t]? = some ((d + 1) / 2) := by
            unfold halve
            rw [List.getElem?_map, hd]
            rfl
          rw [upd_same, ← take_snoc hh, List.map_append]
          rfl
      · rintro H3 ⟨s3, e4⟩
        rw [List.length_map, ← halve_len, List.take_length] at e4
        have hxx := s3 _ _ hx1
        have nxD : D2 ≠ x := fun z => by
          subst z
          rw [hx1] at nD
          cases nD
        walk_at "ev"
        refine ⟨x, C, dx, _, rfl, hxx, D.cl, D.na, (by show 1 < 1000; decide), ?_⟩
        rw [put_here]
        refine q D2 _ (.inr (f1 _ nD)) (fun b o nx nl e => ?_) ⟨dx, upd_same, ?_⟩
        · rw [upd_ne nx]
          exact s3 _ _ (o1 b o nx nl e)
        · rw [upd_ne nxD, hgt]
          exact e4
    · rename_i hc2
      rw [if_neg hc2] at hgt
      refine q l _ (.inl rfl) o1 ⟨dx, hx1, ?_⟩
      rw [hgt]
      exact e1
/-! ### the counts behind a letter, by the law -/
def spLearned : Sp := fun vs H Q _ => ∃ (p : Addr) (cs : List Int) (j : Nat), vs = [.ref p, .int j] ∧ H p = some (.lst (cs.map V.int)) ∧ GoodC cs ∧ j < cs.length ∧ ∀ (q : Addr) (H' : Hp), H q = none → Same H H' → H' q = some (.lst ((lrn cs j).map V.int)) → Q (.ref q) H'
theorem ok_learned {f : Addr} {fd : FuncData} {k : Nat} (F : Fun K "_law_learned" "_law_learned" s_law_learned f fd) (T : Txt mg) : FnOk P w K mg base CX0 (k + 1) f fd ["_law_counts_here", "_law_letter"] spLearned := by
  refine F.ok sc_law_learned (fun vs H Q E h => ?_) (fun cdv A outer s H vs Q E hr h => ?_)
  · obtain ⟨p, cs, j, rfl, _⟩ := h
    rfl
  · obtain ⟨p, cs, j, rfl, hp, g, hj, q⟩ := h
    have hl3 := g.l3
    have hbl : (bump cs j).length = cs.length := bump_len cs j
    refine ⟨_, (pss_cons (ps_setLc (i := 4) (own := [("_law_at", 2), ("_law_one_here", 3)]) (g := (gTup K 2 (gCons (gName 2) (gCons (gName 3) gNil)))) (tt := tYes) rfl sc_law_learned.nd rfl rfl (sw_true rfl rfl rfl (by decide +kernel)) (pi_enum (by rfl) T.z_enumerate (pa_cons (pv 0) pa_nil)) (blkOk_by (N := ["_law_counts_here", "_law_letter", "_law_at", "_law_one_here", "_law_found"]) (sc := defScope s_law_learned) (by decide +kernel)) (fun _ _ _ _ _ => pg_tup rfl (pgs_cons (pg_name (i := 2) sc_law_learned.nd rfl (Or.inl rfl)) (pgs_cons (pg_name (i := 3) sc_law_learned.nd rfl (Or.inl rfl)) pgs_nil))) (fun _ _ _ _ _ => pts_nil) (fun _ _ _ _ _ => (pe_op op_add (pv 3) (pe_op op_mul pe_int (pe_callTy call_int1 (by rfl) T.z_int PyProof.Rows.boot_int (pa_cons (pe_cmpR op_eq (pv 2) (pv 1) (nomark _)) pa_nil))))))
    (pss_one (ps_ret (pe_ifExp (pt_cmpR op_gt (pe_callB (cr_sumS rfl) (by rfl) T.z_sum PyProof.Rows.boot_sum (pa_cons (pv 4) pa_nil)) pe_int (nomark _)) (pe_lc (own := [("_law_one_here", 3)]) (g := (gName 3)) (tt := tYes) rfl sc_law_learned.nd (pi_list (pv 4)) (blkOk_by (N := ["_law_counts_here", "_law_letter", "_law_at", "_law_one_here", "_law_found"]) (sc := defScope s_law_learned) (by decide +kernel)) (fun _ _ _ _ _ => pg_name (i := 3) sc_law_learned.nd rfl (Or.inl rfl)) (fun _ _ _ _ _ => pts_nil) (fun _ _ _ _ _ => (pe_op op_fdiv (pe_op op_add (pv 3) pe_int) pe_int))) (pv 4))))), ?_⟩
    walk_at "ev"
    refine ⟨p, _, rfl, .inl (.inl hp), fun D nD => ?_⟩
    refine lc_it (walk_enum (xs := cs.map V.int)) (fun t H2 => Same H H2 ∧ H2 D = some (.lst (((bump cs j).take t).map V.int))) ⟨same_upd nD, upd_same⟩ (fun _ _ _ h => .inl (.inl (h.1 _ _ hp))) ?_ ?_
    · rintro t x H2 H3 ht ⟨s2, e2⟩ ⟨t0, a, b, rfl, n0, rfl, ha, hb⟩
      dsimp only at ha hb
      rw [List.getElem?_map] at hb
      obtain ⟨c, hc, rfl⟩ := Option.map_eq_some_iff.mp hb
      obtain rfl := Option.some.inj ha
      have e3 := new_at (o' := .tup [.int (t : Int), .int c]) e2 n0
      have hb2 : (bump cs j)[t]? = some (c + 2 * (if decide (V.int (t : Int) = V.int (j : Int)) = true then 1 else 0)) := by
        rw [bump_get, hc]
        by_cases z : t = j
        · subst z
          rw [if_pos (decide_eq_true rfl)]
          show some (c + 2 * (if t = t then 1 else 0)) = _
          rw [if_pos rfl]
        · have zz : decide (V.int (t : Int) = V.int (j : Int)) = false := decide_eq_false fun e => z (Int.ofNat.inj (V.int.inj e))
          rw [zz, if_neg Bool.false_ne_true]
          show some (c + 2 * (if t = j then 1 else 0)) = _
          rw [if_neg z]
      have s3 := s2.trans (same_upd (o := .tup [.int (t : Int), .int c]) n0)
      refine ⟨t0, _, rfl, .inl (.inl upd_same), rfl, ?_⟩
      walk_at "ev"
      refine ⟨_, e3, small1000 (by rw [List.length_map, List.length_take]; omega), fun b o e => ?_, ?_⟩
      · rw [upd_ne (ne_of_none e nD)]
        exact s3 _ _ e
      · rw [upd_same, ← take_snoc hb2, List.map_append]
        rfl
    · rintro H2 ⟨s2, e2⟩
      rw [List.length_map, ← hbl, List.take_length] at e2
      have hgt : lrn cs j = if (bump cs j).sum > 64 then halve (bump cs j) else bump cs j := rfl
      walk_at "ev"
      · rename_i hc2
        rw [if_pos hc2] at hgt
        refine ⟨⟨_, .inl (.inl e2)⟩, fun D2 nD2 => ?_⟩
        refine lc_it (walk_list (xs := (bump cs j).map V.int)) (fun t H3 => Same H2 H3 ∧ H3 D2 = some (.lst (((halve (bump cs j)).take t).map V.int))) ⟨same_upd nD2, upd_same⟩ (fun _ _ _ h => .inl (.inl (h.1 _ _ e2))) ?_ ?_
        · rintro t z H3 H4 ht ⟨s3, e4⟩ ⟨rfl, hz⟩
          rw [List.getElem?_map] at hz
          obtain ⟨d, hd, rfl⟩ := Option.map_eq_some_iff.mp hz
          walk_at "ev"
          refine ⟨_, e4, small1000 (by rw [List.length_map, List.length_take, halve_len]; omega), fun b o e => ?_, ?_⟩
          · rw [upd_ne (ne_of_none e nD2)]
            exact s3 _ _ e
          · have hh : (halve (bump cs j))[t]? = some ((d + 1) / 2) := by
              unfold halve
              rw [List.getElem?_map, hd]
              rfl
            rw [upd_same, ← take_snoc hh, List.map_append]
            rfl
        · rintro H3 ⟨s3, e4⟩
          rw [List.length_map, ← halve_len, List.take_length, ← hgt] at e4
          exact q D2 H3 (s2.free nD2) (s2.trans s3) e4
      · rename_i hc2
        rw [if_neg hc2] at hgt
        rw [← hgt] at e2
        exact q D H2 nD s2 e2
/-! ### what is refused: a lambda handed to a def -/
def refTT (O : Addr) : (XK → Hp → VK → Prop) → Hp → VK → Prop := fun tl H Q =>
  tl (fun cls d H' => cls = .ref O ∧ d = none ∧ Q (.bl true) H') H (fun v H1 => Q (.bl false) H1)
structure RefD (K : PySem.W.Frag) (mg : Str → Option Value) (g O N : Addr) : Prop where
  eO : ECls K mg "Outside" O
  gN : mg "NarrowError" = some (.ref N)
  oN : PySem.W.kitOne K (.ref O) (.ref N) = some true
  zI : mg "isinstance" = none
  hm : mg "_law_is_refused" = some (.ref g)
  hk : PySem.W.keepIn K (.ref g) = true
  df : ∃ (oc kV doc pm cdv ct : Value) (an od : Option Addr) (osl : Array (Option Value)), K.lookup g = some ⟨oc, od, .func (PySem.W.fnOf "_law_is_refused" "_law_is_refused" (defArgs s_law_is_refused) (defBody s_law_is_refused) (defScope s_law_is_refused) .none kV doc pm an cdv ct), osl⟩ ∧
    PySem.W.codeIn K cdv "_law_is_refused" = true ∧ L2.Binds K (PySem.W.fnOf "_law_is_refused" "_law_is_refused" (defArgs s_law_is_refused) (defBody s_law_is_refused) (defScope s_law_is_refused) .none kV doc pm an cdv ct) ["_law_call"] []
theorem ref_gives {X : Cx} {g O N : Addr} {cdg : Value} {q : Str} (e : RefD X.K X.mg g O N) : LamX.GivesTo X ["_law_call", "_law_told", "e"] "_law_is_refused" (defScope s_law_is_refused) g cdg (defBody s_law_is_refused) "_law_call" q (refTT O) := by
  intro f c' s H Q tl act hc h
  refine ⟨_, pss_cons (ps_set (i := 1) sc_law_is_refused.nd rfl (Or.inl rfl) pe_bl) (pss_cons (ps_try_all (X := (cxOf C8.CX0 X.prog X.w X.K X.mg X.base ["_law_call", "_law_told", "e"] "_law_is_refused" (defScope s_law_is_refused) g cdg X.A X.stack s H C8.E0).nox) rfl rfl sc_law_is_refused.nd takes0
      (fun W pn xe tk _ => pss_ex (n := 3) fun E hW => pss_one (ps_expr (act _ pn xe E _ _ (takes_len tk) hW)))
      (.step ⟨rfl, by decide, .inl e.eO.gC⟩ (i := 2) rfl rfl (fun a oe cls d pn hz hf => pss_one (ps_set (i := 1) sc_law_is_refused.nd rfl (Or.inl rfl)
          (pe_callB (call_isE1 e.eO.ex hz hf) (by rfl) e.zI PyProof.Rows.boot_isinstance (pa_cons (pv 2) (pa_cons (pe_glob (v := .ref N) (by rfl) e.gN rfl) pa_nil)))))
        .done))
    (pss_one (ps_ret (pv 1)))), ?_⟩
  refine ⟨fun cls d H' => cls = .ref O ∧ d = none ∧ Q (.bl true) H', ?_, ?_⟩
  · rintro cls d σ' H' ⟨rfl, rfl, k⟩ hlen
    obtain ⟨x1, x2, x3, rfl⟩ := len3 hlen
    refine ⟨true, e.eO.em, fun _ a0 _ => ?_, fun z => nomatch z⟩
    walk_at "ev"
    refine ⟨_, .ref N, true, rfl, fun _ z => z, e.oN, ?_⟩
    walk_at "ev"
    exact k
  · walk_at "ev"
    refine ⟨hc, vk_mono (fun v H1 => ⟨fun k => ?_, fun k => ?_⟩) h⟩
    · walk_at "ev"
      exact k
    · obtain ⟨v1, e1, q1⟩ := k
      obtain rfl := Option.some.inj (Option.some.inj e1)
      exact q1
/-- _law_is_refused(lambda: body) -/
theorem pe_refused {X : Cx} {T : List (Addr × Str)} {g O N c P : Addr} {k : Nat} {params : Arguments} {body : Expr} {scope : Scope} {t : XK → TE} {p lpos pos : Pos} (D : RefD X.K X.mg g O N) (hg : Gl X "_law_is_refused")
    (TB : LamX.TabB X.base X.mg c P) (hcode : X.env.code = .ref c) (hmT : (P, X.env.qual ++ "<lambda>") ∈ T) (hu : ∀ p ∈ T, p.1 = P → p.2 = X.env.qual ++ "<lambda>") (hr : Room (k + 2) X.A)
    (hbody : ∀ (A : Around) (outer : List Env) (s : Shared) (H : Hp) (E : XK) (f c' : Addr), Room k (A.deeper (LamX.lamEnv X scope s.heap.objs.size f c')) → PE (LamX.lamCx X A outer s H E scope f c') body (t E))
    (L : LamX.LamS X.env.scope scope) (hdef : defaultsOf params X.env = ([], [])) (hbind : ∀ (q : Str) (cl : List (Str × Addr)) (pm cv ctv : Value), bindArgs (PySem.W.kla_fn "<lambda>" q params body scope cl pm cv ctv) ⟨[], []⟩ = pure []) :
    PE X (.Call (.Name "_law_is_refused" p) [.Lambda params body scope lpos] [] pos) (LamX.tLam T (refTT O) t) := by
  obtain ⟨oc, kV, doc, pm, cdv, ct, an, od, osl, lk, hcd, hb⟩ := D.df
  exact LamX.pe_lamcall hg D.hm D.hk lk hcd hb sc_law_is_refused rfl (Or.inl rfl) (ref_gives D) TB hcode hmT hu hr L hdef hbind hbody
/-! ### a table against the law's counts -/
def itL : Nat → List Int
  | 0 => [1, 1]
  | n + 1 => lrn (itL n) 0
theorem itL_good : ∀ n, (itL n).length = 2 ∧ GoodC (itL n)
  | 0 => ⟨rfl, good_ones (m := 2) (.inl rfl)⟩
  | n + 1 => ⟨(lrn_len _ _).trans (itL_good n).1, (itL_good n).2.lrn (by rw [(itL_good n).1]; decide)⟩
theorem itL_33 : itL 33 = [35, 1] := by decide +kernel
def tabsR (P0 : Addr) : List (Addr × Str) := [(P0, ("_law_table_right" : Str) ++ (".<locals>." : Str) ++ ("<lambda>" : Str))]
theorem tabs1 (P0 : Addr) : ∀ p ∈ tabsR P0, p.1 = P0 → p.2 = ("_law_table_right" : Str) ++ (".<locals>." : Str) ++ ("<lambda>" : Str) := fun p hp _ => by
  rw [List.mem_singleton.mp hp]
def spTabR (P0 : Addr) : Sp := fun vs H Q _ => ∃ (a : Addr), vs = [.ref a] ∧ Src H a ∧ LamX.Tabs (tabsR P0) H ∧ ∀ (H' : Hp), UpN a H H' → LamX.Tabs (tabsR P0) H' → Q (.bl true) H'
theorem ok_table_right {f cF P0 gR C O N : Addr} {fd : FuncData} {k : Nat} (F : FunC K "_law_table_right" "_law_table_right" s_law_table_right f fd cF) (T : Txt mg) (D : TabK K C) (R : RefD K mg gR O N) (TB : LamX.TabB base mg cF P0)
    (M_Table : CalC P w K mg base 1 "Table" C ["m"] (spInit C O)) (M_learn : CalM P w K mg base 1 C "learn" ["j"] (spLearn C O)) (M_counts : CalP P w K mg base 1 C "counts" (spCounts C)) (M_total : CalP P w K mg base 1 C "total" (spTotal C))
    (c_law_take : C8.Cal P w K mg base 1 "_law_take" spTake []) (c_law_one : C8.Cal P w K mg base 2 "_law_one" spOne []) (c_law_learned : C8.Cal P w K mg base 1 "_law_learned" spLearned []) :
    FnOk P w K mg base CX0 (k + 5) f fd ["_law_source"] (spTabR P0) := by
  refine F.ok sc_law_table_right (fun vs H Q E h => ?_) (fun A outer s H vs Q E hr h => ?_)
  · obtain ⟨a, rfl, _⟩ := h
    rfl
  · obtain ⟨a, rfl, ha, hT, q⟩ := h
    have hu := hr.units
    refine ⟨_, (pss_cons (ps_set (i := 1) sc_law_table_right.nd rfl (Or.inl rfl) (pe_op op_add pe_int (C8.pe_c c_law_take hr (by omega) (by rfl) (pa_cons (pv 0) (pa_cons pe_int pa_nil)))))
    (pss_cons (ps_asg (pe_tup (pa_cons (pe_new M_Table hr (by omega) (by rfl) passN (pa_cons (pv 1) pa_nil)) (pa_cons (pe_op op_rep (pe_lst (pa_cons pe_int pa_nil)) (pv 1)) (pa_cons (C8.pe_c c_law_take hr (by omega) (by rfl) (pa_cons (pv 0) (pa_cons (pv 1) pa_nil))) pa_nil)))) (pg_tup rfl (pgs_cons (pg_name (i := 7) sc_law_table_right.nd rfl (Or.inr rfl)) (pgs_cons (pg_name (i := 2) sc_law_table_right.nd rfl (Or.inl rfl)) (pgs_cons (pg_name (i := 3) sc_law_table_right.nd rfl (Or.inl rfl)) pgs_nil)))))
    (pss_cons (ps_for PassesOwn.never rfl (pi_range1 (by rfl) T.z_range (pa_cons (C8.pe_c c_law_take hr (by omega) (by rfl) (pa_cons (pv 0) (pa_cons pe_int pa_nil))) pa_nil)) (pg_name (i := 4) sc_law_table_right.nd rfl (Or.inl rfl))
      (pss_cons (ps_set (i := 5) sc_law_table_right.nd rfl (Or.inl rfl) (C8.pe_c c_law_one hr (by omega) (by rfl) (pa_cons (pv 0) (pa_cons (pe_lst (pa_cons (pv 3) (pa_cons (pv 3) (pa_cons (pv 3) (pa_cons (C8.pe_c c_law_take hr (by omega) (by rfl) (pa_cons (pv 0) (pa_cons (pv 1) pa_nil))) pa_nil))))) pa_nil))))
    (pss_cons (ps_if (pt_cmpR op_notN (pe_mx M_learn D.cl hr (by omega) passN (pv 7) (pa_cons (pv 5) pa_nil)) pe_non (nomark _)) (pss_one (ps_ret pe_bl)) pss_nil)
    (pss_cons (ps_set (i := 2) sc_law_table_right.nd rfl (Or.inl rfl) (C8.pe_c c_law_learned hr (by omega) (by rfl) (pa_cons (pv 2) (pa_cons (pv 5) pa_nil))))
    (pss_one (ps_if (PW.pt (pw_or (pt_cmpR (op_neD hu) (pe_pr M_counts D.cl hr (by omega) (pv 7) rfl) (pv 2) (nomark _)) (pw_or1 (pt_cmpR op_ne (pe_pr M_total D.cl hr (by omega) (pv 7) rfl) (pe_callB (cr_sumS rfl) (by rfl) T.z_sum PyProof.Rows.boot_sum (pa_cons (pv 2) pa_nil)) (nomark _))))) (pss_one (ps_ret pe_bl)) pss_nil))))))
    (pss_cons (ps_asg (pe_tup (pa_cons (C8.pe_c c_law_one hr (by omega) (by rfl) (pa_cons (pv 0) (pa_cons (pe_lst (pa_cons (pe_un un_neg pe_int) (pa_cons (pv 1) (pa_cons (pe_op op_add (pv 1) pe_int) pa_nil)))) pa_nil))) (pa_cons (C8.pe_c c_law_one hr (by omega) (by rfl) (pa_cons (pv 0) (pa_cons (pe_lst (pa_cons pe_int (pa_cons pe_int (pa_cons pe_int (pa_cons (pe_un un_neg pe_int) pa_nil))))) pa_nil))) pa_nil))) (pg_tup rfl (pgs_cons (pg_name (i := 6) sc_law_table_right.nd rfl (Or.inr rfl)) (pgs_cons (pg_name (i := 8) sc_law_table_right.nd rfl (Or.inr rfl)) pgs_nil))))
    (pss_cons (ps_if (PW.pt (pw_or (pt_not (pt_val (pe_refused (k := 2) R (by rfl) TB rfl (.head _) (tabs1 P0) (hr.mono (by omega)) (fun A outer s H E f c' hr2 => (pe_mx M_learn D.cl hr2 (by omega) (passes_call (takes_of rfl rfl rfl rfl) (fun _ _ _ _ h => h)) (pv 7) (pa_cons (pv 6) pa_nil))) (LamX.lamS_by (by show LamX.lamSB (defScope s_law_table_right) _ = true; decide +kernel)) rfl (fun _ _ _ _ _ => rfl)))) (pw_or1 (pt_cmpR (op_neD hu) (pe_pr M_counts D.cl hr (by omega) (pv 7) rfl) (pv 2) (nomark _))))) (pss_one (ps_ret pe_bl)) pss_nil)
    (pss_cons (ps_if (pt_not (pt_val (pe_refused (k := 2) R (by rfl) TB rfl (.head _) (tabs1 P0) (hr.mono (by omega)) (fun A outer s H E f c' hr2 => (pe_newK M_Table hr2 (by omega) (by rfl) (passes_call (takes_of rfl rfl rfl rfl) (fun _ _ _ _ h => h)) (pk_cons (pv 8) pk_nil))) (LamX.lamS_by (by show LamX.lamSB (defScope s_law_table_right) _ = true; decide +kernel)) rfl (fun _ _ _ _ _ => rfl)))) (pss_one (ps_ret pe_bl)) pss_nil)
    (pss_cons (ps_set (i := 7) sc_law_table_right.nd rfl (Or.inr rfl) (pe_new M_Table hr (by omega) (by rfl) passN (pa_cons pe_int pa_nil)))
    (pss_cons (ps_for PassesOwn.never rfl (pi_range1 (by rfl) T.z_range (pa_cons pe_int pa_nil)) (pg_name (i := 4) sc_law_table_right.nd rfl (Or.inl rfl))
      (pss_one (ps_expr (pe_mxK M_learn D.cl hr (by omega) passN (pv 7) (pk_cons pe_int pk_nil)))))
    (pss_one (ps_ret (pe_cmpR (op_eqD hu) (pe_pr M_counts D.cl hr (by omega) (pv 7) rfl) (pe_lst (pa_cons pe_int (pa_cons pe_int pa_nil))) (nomark _)))))))))))), ?_⟩
    walk_at "ev"
    refine ⟨ha, by decide, by decide, fun r0 H1 r00 r01 s1 u1 => ?_⟩
    have hnx : ∀ {G : Hp} {x : Addr} {l : Addr} {cs : List Int}, TabAt C G x l cs → (∀ p ns, G p = some (.lst ns) → p ≠ x) := fun ⟨dx, hx, _⟩ p ns hp z => by
      rw [z, hx] at hp
      cases hp
    walk_at "ev"
    intro x dx nx nd ndx
    have sA : Same H1 (upd (upd H1 dx (.own x)) x (.ins C dx [])) := (same_upd nd).trans (same_upd (by rw [upd_ne ndx.symm]; exact nx))
    have eA : upd (upd H1 dx (.own x)) x (.ins C dx []) x = some (.ins C dx []) := upd_same
    generalize upd (upd H1 dx (.own x)) x (.ins C dx []) = G1 at sA eA ⊢
    have sG1 := src_same sA s1
    have xa1 : x ≠ a := (s1.ne nx).symm
    refine ⟨x, dx, _, rfl, eA, .inl ⟨by omega, fun l H2 nl oA tA => ⟨rfl, ?_⟩⟩⟩
    have uA : Up a H H2 := fun b o nb e => oA b o (ne_of_none ((u1.up) b o nb e) nx) (sA _ _ (u1.up b o nb e))
    have s2 : Src H2 a := by
      obtain ⟨y1, y2, e, rr⟩ := sG1
      exact ⟨y1, y2, oA _ _ xa1.symm e, rr⟩
    have xH : H x = none := u1.up.new s1 nx
    have lH : H l = none := by
      have := (u1.up.trans (up_same sA)).new sG1 nl
      exact this
    refine ⟨(by show 1 ≤ sizeLine; decide), fun p0 n0 => ?_⟩
    walk_at "ev"
    refine ⟨p0, _, _, rfl, rfl, upd_same, by omega, by omega, ?_, fun p1 n1 => ?_⟩
    · show 1 * _ ≤ sizeLine
      exact Nat.le_of_lt (small1000 (by omega))
    have sB := (same_upd (o := .lst [V.int 1]) n0).trans (same_upd (o := .lst (List.replicate (2 + r0).toNat [V.int 1]).flatten) n1)
    have eB : upd (upd H2 p0 (.lst [V.int 1])) p1 (.lst (List.replicate (2 + r0).toNat [V.int 1]).flatten) p1 = some (.lst ((List.replicate (2 + r0).toNat (1 : Int)).map V.int)) := by
      rw [upd_same]
      have : r0 = 0 ∨ r0 = 1 := by omega
      rcases this with rfl | rfl <;> rfl
    have m1 := ((same_upd (o := .lst [V.int 1]) n0)).free n1
    generalize upd (upd H2 p0 (.lst [V.int 1])) p1 (.lst (List.replicate (2 + r0).toNat [V.int 1]).flatten) = G3 at sB eB ⊢
    walk_at "ev"
    have s3 := src_same sB s2
    have p1a : p1 ≠ a := (s2.ne m1).symm
    refine ⟨s3, by omega, by omega, fun r1 H4 r10 r11 s4 u4 => ?_⟩
    refine ⟨(by show 3 ≤ sizeLine; decide), fun t2 nt2 => ?_⟩
    have e4 := new_at (o' := .tup [.ref x, .ref p1, .int r1]) (u4.up _ _ p1a eB) nt2
    have t4 : TabAt C (upd H4 t2 (.tup [.ref x, .ref p1, .int r1])) x l (List.replicate (2 + r0).toNat 1) := by
      obtain ⟨dx2, e1, e2⟩ := tA
      have xa : x ≠ a := xa1
      have la : l ≠ a := (sG1.ne nl).symm
      exact ⟨dx2, new_at (u4.up _ _ xa (sB _ _ e1)) nt2, new_at (u4.up _ _ la (sB _ _ e2)) nt2⟩
    have s5 := src_same (same_upd (o := .tup [.ref x, .ref p1, .int r1]) nt2) s4
    have uB : Up a H (upd H4 t2 (.tup [.ref x, .ref p1, .int r1])) := (uA.trans (up_same sB)).trans (u4.up.trans (up_same (same_upd nt2)))
    have pl1 : p1 ≠ l := fun z => by
      obtain ⟨dx2, e1, e2⟩ := tA
      rw [z, e2] at m1
      cases m1
    have gA : GoodC (List.replicate (2 + r0).toNat (1 : Int)) := good_ones (by omega)
    have lA : (List.replicate (2 + r0).toNat (1 : Int)).length = (2 + r0).toNat := List.length_replicate
    refine ⟨t2, _, rfl, .inl (.inl upd_same), rfl, ?_⟩
    generalize upd H4 t2 (.tup [.ref x, .ref p1, .int r1]) = G5 at e4 t4 s5 uB ⊢
    generalize List.replicate (2 + r0).toNat (1 : Int) = cs0 at e4 t4 gA lA
    walk_at "ev"
    refine ⟨s5, by decide, by decide, fun r2 H6 r20 r21 s6 u6 => ?_⟩
    have lkL : ∀ l : Addr, List.lookup ("learn" : Str) [(("_counts" : Str), V.ref l)] = none := fun l => (lk_past (by decide +kernel)).trans rfl
    walk_at "ev"
    refine ⟨by omega, by omega, for_range (fun i σ Hx => ∃ (v4 v5 : Option V) (p l : Addr) (cs : List Int), σ = [some (.ref a), some (.int (2 + r0)), some (.ref p), some (.int r1), v4, v5, none, some (.ref x), none] ∧ GoodC cs ∧ cs.length = (2 + r0).toNat ∧ TabAt C Hx x l cs ∧ Hx p = some (.lst (cs.map V.int)) ∧ p ≠ l ∧ p ≠ a ∧ H l = none ∧ Src Hx a ∧ Up a H Hx) ⟨_, _, p1, l, cs0, rfl, gA, lA, ?_, u6.up _ _ p1a e4, pl1, p1a, lH, s6, uB.trans u6.up⟩ ?_ ?_⟩
    · obtain ⟨dx2, e1, e2⟩ := t4
      exact ⟨dx2, u6.up _ _ xa1 e1, u6.up _ _ (by rintro rfl; obtain ⟨y1, y2, e, _⟩ := ha; rw [lH] at e; cases e) e2⟩
    · rintro i σ Hx hi ⟨v4, v5, p, l, cs, rfl, g, lc, tT, ep, npl, pna, lH, sx, ux⟩
      have lna : l ≠ a := by
        rintro rfl
        obtain ⟨y1, y2, e, _⟩ := ha
        rw [lH] at e
        cases e
      walk_at "ev"
      refine ⟨sx, by omega, by omega, fun r3 H7 r30 r31 s7 u7 => ?_⟩
      walk_at "ev"
      refine ⟨(by show 4 ≤ sizeLine; decide), fun t nt => ?_⟩
      refine ⟨_, _, _, rfl, src_same (same_upd nt) s7, (s7.ne nt).symm, upd_same, (by simp), (by show 4 ≤ 1000; decide), fun v H8 hv s8 u8 => ?_⟩
      obtain ⟨j, rfl, hj⟩ : ∃ j : Nat, v = V.int (j : Int) ∧ j < cs.length := by
        simp only [List.mem_cons, List.not_mem_nil, or_false] at hv
        rcases hv with e | e | e | e
        · exact ⟨r1.toNat, by rw [e]; congr 1; omega, by omega⟩
        · exact ⟨r1.toNat, by rw [e]; congr 1; omega, by omega⟩
        · exact ⟨r1.toNat, by rw [e]; congr 1; omega, by omega⟩
        · exact ⟨r3.toNat, by rw [e]; congr 1; omega, by omega⟩
      have v8 : ∀ b o, b ≠ a → Hx b = some o → H8 b = some o := fun b o nb e => u8.up b o nb (new_at (u7.up b o nb e) nt)
      obtain ⟨dx3, eT1, eT2⟩ := tT
      have eT1' := v8 _ _ xa1 eT1
      have eT2' := v8 _ _ lna eT2
      have ep' := v8 _ _ pna ep
      walk_at "ev"
      refine ⟨x, dx3, _, rfl, eT1', lkL l, ?_⟩
      walk_at "ev"
      refine ⟨x, l, cs, _, rfl, ⟨dx3, eT1', eT2'⟩, g, .inl ⟨j, rfl, hj, fun l' H9 hl' o9 t9 => ?_⟩⟩
      have ep9 := o9 _ _ (hnx (l := l) (cs := cs) ⟨dx3, eT1', eT2'⟩ p _ ep') npl ep'
      have u9 : Up a H H9 := fun b o nb e => o9 b o (ne_of_none e xH) (ne_of_none e lH) (v8 b o nb (ux b o nb e))
      have s9 : Src H9 a := by
        obtain ⟨y1, y2, e, rr⟩ := s8
        exact ⟨y1, y2, o9 _ _ xa1.symm lna.symm e, rr⟩
      have npl' : p ≠ l' := by
        rcases hl' with e | e
        · rw [e]
          exact npl
        · rintro rfl
          rw [ep'] at e
          cases e
      have lH' : H l' = none := by
        rcases hl' with e | e
        · rw [e]
          exact lH
        · exact ((ux.trans u7.up).trans ((up_same (same_upd nt)).trans u8.up)).new s8 e
      have g' := g.lrn hj
      walk_at "ev"
      refine ⟨p, cs, j, rfl, ep9, g, hj, fun p' H10 np' s10 e10 => ?_⟩
      obtain ⟨dx4, f1, f2⟩ := t9
      have f1' := s10 _ _ f1
      have f2' := s10 _ _ f2
      walk_at "ev"
      refine ⟨x, dx4, _, rfl, f1', x, l', _, rfl, ⟨dx4, f1', f2'⟩, fun p3 H11 n11 s11 e11 => ?_⟩
      walk_at "ev"
      refine q_neI e11 (s11 _ _ e10) ?_
      walk_at "ev"
      refine ⟨x, dx4, _, rfl, s11 _ _ f1', x, l', _, rfl, ⟨dx4, s11 _ _ f1', s11 _ _ f2'⟩, ?_⟩
      walk_at "ev"
      refine ⟨_, _, rfl, .inl (.inl (.inl (s11 _ _ e10))), ?_⟩
      walk_at "ev"
      exact ⟨some (.int (0 + (i : Int))), some (.int (j : Int)), p', l', lrn cs j, rfl, g', (lrn_len cs j).trans lc, ⟨dx4, s11 _ _ f1', s11 _ _ f2'⟩, s11 _ _ e10, (fun z => by rw [z, f2] at np'; cases np'), (s9.ne np').symm, lH', src_same (s10.trans s11) s9, u9.trans (up_same (s10.trans s11))⟩
    · rintro σ Hx ⟨v4, v5, p, l, cs, rfl, g, lc, tT, ep, npl, pna, lH, sx, ux⟩
      have lna : l ≠ a := by
        rintro rfl
        obtain ⟨y1, y2, e, _⟩ := ha
        rw [lH] at e
        cases e
      walk_at "ev"
      refine ⟨(by show 3 ≤ sizeLine; decide), fun t nt => ?_⟩
      refine ⟨_, _, _, rfl, src_same (same_upd nt) sx, (sx.ne nt).symm, upd_same, (by simp), (by show 3 ≤ 1000; decide), fun v H6 hv s6 u6 => ?_⟩
      obtain ⟨far, rfl, hfar⟩ : ∃ z : Int, v = V.int z ∧ (z < 0 ∨ (cs.length : Int) ≤ z) := by
        simp only [List.mem_cons, List.not_mem_nil, or_false] at hv
        rcases hv with e | e | e
        · exact ⟨_, e, .inl (by decide)⟩
        · exact ⟨_, e, .inr (by omega)⟩
        · exact ⟨_, e, .inr (by omega)⟩
      walk_at "ev"
      refine ⟨(by show 4 ≤ sizeLine; decide), fun t2 nt2 => ?_⟩
      refine ⟨_, _, _, rfl, src_same (same_upd nt2) s6, (s6.ne nt2).symm, upd_same, (by simp), (by show 4 ≤ 1000; decide), fun v2 H7 hv2 s7 u7 => ?_⟩
      obtain ⟨wr, rfl, hwr⟩ : ∃ z : Int, v2 = V.int z ∧ z ≠ 2 ∧ z ≠ 3 := by
        simp only [List.mem_cons, List.not_mem_nil, or_false] at hv2
        rcases hv2 with e | e | e | e <;> exact ⟨_, e, by decide, by decide⟩
      refine ⟨(by show 2 ≤ sizeLine; decide), fun t3 nt3 => ?_⟩
      have u8 : Up a Hx (upd H7 t3 (.tup [.int far, .int wr])) := ((up_same (same_upd nt)).trans u6.up).trans (((up_same (same_upd nt2)).trans u7.up).trans (up_same (same_upd nt3)))
      have s8 := src_same (same_upd (o := .tup [.int far, .int wr]) nt3) s7
      refine ⟨t3, _, rfl, .inl (.inl upd_same), rfl, ?_⟩
      generalize upd H7 t3 (.tup [.int far, .int wr]) = G8 at u8 s8 ⊢
      have ep8 := u8 _ _ pna ep
      obtain ⟨dx3, eT1, eT2⟩ := tT
      have eT1' := u8 _ _ xa1 eT1
      have eT2' := u8 _ _ lna eT2
      have ub := ux.trans u8
      have tb := tabs_up hT ub ha
      walk_at "ev"
      refine ⟨tb, fun H9 x9 tb9 => ?_⟩
      have eT1b := x9 _ _ eT1' (fun _ z => nomatch z)
      have eT2b := x9 _ _ eT2' (fun _ z => nomatch z)
      have epb := x9 _ _ ep8 (fun _ z => nomatch z)
      walk_at "ev"
      refine ⟨x, dx3, _, rfl, eT1b, lkL l, ?_⟩
      walk_at "ev"
      refine ⟨x, l, cs, _, rfl, ⟨dx3, eT1b, eT2b⟩, g, .inr ⟨hfar, rfl, rfl, ?_⟩⟩
      walk_at "ev"
      refine ⟨x, dx3, _, rfl, eT1b, x, l, _, rfl, ⟨dx3, eT1b, eT2b⟩, fun p3 H11 n11 s11 e11 => ?_⟩
      walk_at "ev"
      refine q_neI e11 (s11 _ _ epb) ?_
      walk_at "ev"
      have tb11 := tabs_same tb9 s11
      refine ⟨tb11, fun H12 x12 tb12 => ?_⟩
      walk_at "ev"
      refine fun xw dxw nxw ndw nex => ?_
      have sW : Same H12 (upd (upd H12 dxw (.own xw)) xw (.ins C dxw [])) := (same_upd ndw).trans (same_upd (by rw [upd_ne nex.symm]; exact nxw))
      refine ⟨xw, dxw, wr, rfl, upd_same, .inr ⟨hwr.1, hwr.2, fun H13 s13 => ⟨rfl, rfl, ?_⟩⟩⟩
      have tb13 := tabs_same tb12 (sW.trans s13)
      have uN : UpN a H H13 := (ub.n.trans (ext_n x9)).trans ((up_same s11).n.trans ((ext_n x12).trans (up_same (sW.trans s13)).n))
      walk_at "ev"
      intro x2 dx2 nx2 nd2 ne2
      have sA2 : Same H13 (upd (upd H13 dx2 (.own x2)) x2 (.ins C dx2 [])) := (same_upd nd2).trans (same_upd (by rw [upd_ne ne2.symm]; exact nx2))
      have eA2 : upd (upd H13 dx2 (.own x2)) x2 (.ins C dx2 []) x2 = some (.ins C dx2 []) := upd_same
      generalize upd (upd H13 dx2 (.own x2)) x2 (.ins C dx2 []) = G14 at sA2 eA2 ⊢
      refine ⟨x2, dx2, _, rfl, eA2, .inl ⟨.inl rfl, fun l2 H15 nl2 oA2 tA2 => ⟨rfl, ?_⟩⟩⟩
      walk_at "ev"
      refine ⟨by omega, by omega, for_range (fun i σ Hx => ∃ (v4 : Option V) (l2 : Addr), σ = [some (.ref a), some (.int (2 + r0)), some (.ref p), some (.int r1), v4, v5, some (.int far), some (.ref x2), some (.int wr)] ∧ TabAt C Hx x2 l2 (itL i) ∧ H13 l2 = none ∧ Same H13 Hx) ⟨_, l2, rfl, tA2, sA2.free nl2, fun b o e => oA2 b o (ne_of_none e nx2) (sA2 b o e)⟩ ?_ ?_⟩
      · rintro i σ Hy hi ⟨v4, l3, rfl, ⟨dx5, f1, f2⟩, nl3, sy⟩
        walk_at "ev"
        refine ⟨x2, dx5, _, rfl, f1, lkL l3, ?_⟩
        walk_at "ev"
        refine ⟨x2, l3, itL i, _, rfl, ⟨dx5, f1, f2⟩, (itL_good i).2, .inl ⟨0, rfl, by rw [(itL_good i).1]; decide, fun l4 H16 hl4 o16 t16 => ?_⟩⟩
        refine ⟨_, l4, rfl, t16, ?_, fun b o e => o16 b o (ne_of_none e nx2) (ne_of_none e nl3) (sy b o e)⟩
        rcases hl4 with e | e
        · rw [e]
          exact nl3
        · exact sy.free e
      · rintro σ Hy ⟨v4, l3, rfl, ⟨dx5, f1, f2⟩, nl3, sy⟩
        rw [show Int.toNat 33 = 33 from rfl, itL_33] at f2
        walk_at "ev"
        refine ⟨x2, dx5, _, rfl, f1, x2, l3, _, rfl, ⟨dx5, f1, f2⟩, fun p5 H17 n17 s17 e17 => ?_⟩
        walk_at "ev"
        refine ⟨(by show 2 ≤ sizeLine; decide), fun p6 n6 => ?_⟩
        refine q_eqI (ns := [35, 1]) (new_at e17 n6) upd_same ?_
        walk_at "ev"
        have sz := sy.trans (s17.trans (same_upd (o := .lst [.int 35, .int 1]) n6))
        exact q _ (uN.trans (up_same sz).n) (tabs_same tb13 sz)
/-! ### the law -/
def spLaw (K : PySem.W.Frag) (P0 : Addr) : Sp := fun vs H Q _ => ∃ (a : Addr) (ns : List Int), vs = [.ref a] ∧ SqL K H a (ns.map V.int) ∧ ns.length ≤ 63 ∧ LamX.Tabs (tabsR P0) H ∧ ∀ H', Q (.bl true) H'
theorem ok_law {f P0 R0 : Addr} {fd : FuncData} {k : Nat} (F : Fun K "law" "law" s_law f fd) (T : Txt mg) (hRT : mg "ROOT" = some (.ref R0)) (hR : ∀ H : Hp, SqT K H R0 [.int 0, .int 65536, .int 16])
    (c_law_pool : C8.Cal P w K mg base 1 "_law_pool" (spPool K) []) (c_law_take : C8.Cal P w K mg base 1 "_law_take" spTake []) (c_law_table_right : C8.Cal P w K mg base 5 "_law_table_right" (spTabR P0) []) (c_law_node : C8.Cal P w K mg base 3 "_law_node" spNode []) (c_law_counts : C8.Cal P w K mg base 3 "_law_counts" spCnts [])
    (c_law_is_right : C8.Cal P w K mg base 3 "_law_is_right" spIsRight []) (c_law_is_outside : C8.Cal P w K mg base 2 "_law_is_outside" (spIsOut K) []) (c_next_node : C8.Cal P w K mg base 2 "next_node" (spNext K) []) :
    FnOk P w K mg base CX0 (k + 6) f fd ["_law_script"] (spLaw K P0) := by
  refine F.ok sc_law (fun vs H Q E h => ?_) (fun cdv A outer s H vs Q E hr h => ?_)
  · obtain ⟨a, ns, rfl, _⟩ := h
    rfl
  · obtain ⟨a, ns, rfl, hS, hl, hT, q⟩ := h
    have hu := hr.units
    refine ⟨_, (pss_cons (ps_if (pt_not (pt_val (C8.pe_c c_law_table_right hr (by omega) (by rfl) (pa_cons (C8.pe_c c_law_pool hr (by omega) (by rfl) (pa_cons (pv 0) (pa_cons pe_int pa_nil))) pa_nil)))) (pss_one (ps_ret pe_bl)) pss_nil)
    (pss_cons (ps_for PassesOwn.never rfl (pi_range1 (by rfl) T.z_range (pa_cons (pe_callB (call_max2 rfl) (by rfl) T.z_max PyProof.Rows.boot_max (pa_cons pe_int (pa_cons (pe_callB (call_min2 rfl) (by rfl) T.z_min PyProof.Rows.boot_min (pa_cons (pe_callB call_len_seq (by rfl) T.z_len PySem.boot_len (pa_cons (pv 0) pa_nil)) (pa_cons pe_int pa_nil))) pa_nil))) pa_nil)) (pg_name (i := 1) sc_law.nd rfl (Or.inl rfl))
      (pss_cons (ps_set (i := 2) sc_law.nd rfl (Or.inl rfl) (C8.pe_c c_law_pool hr (by omega) (by rfl) (pa_cons (pv 0) (pa_cons (pv 1) pa_nil))))
    (pss_cons (ps_par (i := 3) (j := 4) rfl sc_law.nd rfl rfl (by decide) rfl rfl (pa_cons (C8.pe_c c_law_node hr (by omega) (by rfl) (pa_cons (pv 2) pa_nil)) (pa_cons (C8.pe_c c_law_counts hr (by omega) (by rfl) (pa_cons (pv 2) pa_nil)) pa_nil)) rfl)
    (pss_cons (ps_if (pt_not (pt_val (C8.pe_c c_law_is_right hr (by omega) (by rfl) (pa_cons (pv 3) (pa_cons (pv 4) pa_nil))))) (pss_one (ps_ret pe_bl)) pss_nil)
    (pss_one (ps_for PassesOwn.never rfl (pi_list (pe_lst (pa_cons (pe_op op_sub (pe_un un_neg pe_int) (C8.pe_c c_law_take hr (by omega) (by rfl) (pa_cons (pv 2) (pa_cons pe_int pa_nil)))) (pa_cons (pe_op op_add (pe_callB call_len_seq (by rfl) T.z_len PySem.boot_len (pa_cons (pv 4) pa_nil)) (C8.pe_c c_law_take hr (by omega) (by rfl) (pa_cons (pv 2) (pa_cons pe_int pa_nil)))) pa_nil)))) (pg_name (i := 5) sc_law.nd rfl (Or.inl rfl))
      (pss_one (ps_if (pt_not (pt_val (C8.pe_c c_law_is_outside hr (by omega) (by rfl) (pa_cons (pv 3) (pa_cons (pv 4) (pa_cons (pv 5) pa_nil)))))) (pss_one (ps_ret pe_bl)) pss_nil))))))))
    (pss_one (ps_ret (pe_and (pe_cmpR (op_eqD hu) (pe_glob (v := .ref R0) (by rfl) hRT rfl) (pe_tup (pa_cons pe_int (pa_cons pe_int (pa_cons pe_int pa_nil)))) (nomark _)) (pe_one (pe_cmpR (op_eqD hu) (C8.pe_c c_next_node hr (by omega) (by rfl) (pa_cons (pe_glob (v := .ref R0) (by rfl) hRT rfl) (pa_cons (pe_lst (pa_cons pe_int (pa_cons pe_int (pa_cons pe_int pa_nil)))) (pa_cons pe_int pa_nil)))) (pe_tup (pa_cons pe_int (pa_cons pe_int (pa_cons pe_int pa_nil)))) (nomark _)))))))), ?_⟩
    walk_at "ev"
    refine ⟨_, _, _, rfl, hS, (by omega), (by omega), fun p0 H0 np0 sm0 hs0 => ?_⟩
    walk_at "ev"
    refine ⟨hs0, tabs_same hT sm0, fun H1 u1 t1 => ?_⟩
    have x1 : SqL K H1 a (ns.map V.int) := ext_seq (u1.to (ext_same sm0) np0) hS
    walk_at "ev"
    refine ⟨(by split <;> split <;> omega), (by split <;> split <;> omega), ?_⟩
    refine for_range (fun i σ H2 => ∃ v1 v2 v3 v4 v5, σ = [some (.ref a), v1, v2, v3, v4, v5] ∧ Same H1 H2) ⟨_, _, _, _, _, rfl, Same.refl H1⟩ ?_ ?_
    · rintro i σ H2 hi ⟨v1, v2, v3, v4, v5, rfl, x2⟩
      walk_at "ev"
      refine ⟨_, _, _, rfl, x2.seq x1, (by omega), ?_, fun p H3 np sm hs => ?_⟩
      · split at hi <;> split at hi <;> omega
      have x3 := x2.trans sm
      have np1 := x2.free np
      walk_at "ev"
      refine ⟨hs, fun nd l W z H4 nnd nb end4 s4 u4 => ?_⟩
      have ndp : nd ≠ p := (hs.ne nnd).symm
      walk_at "ev"
      refine ⟨s4, fun cp cs H5 ncp g ecp s5 u5 => ?_⟩
      have cpp : cp ≠ p := (s4.ne ncp).symm
      have end5 := u5 _ _ ndp end4
      have x5 : Same H1 H5 := (u4.trans u5).to x3 np1
      walk_at "ev"
      refine ⟨nd, cp, l, W, z, cs, rfl, end5, nb, ecp, g, fun H6 s6 => ?_⟩
      have s6p := src_same s6 s5
      walk_at "ev"
      refine ⟨s6p, by decide, by decide, fun r1 H7 r10 r11 s7 u7 => ?_⟩
      have ec7 := u7.up _ _ cpp (s6 _ _ ecp)
      walk_at "ev"
      refine ⟨s7, by decide, by decide, fun r2 H8 r20 r21 s8 u8 => ?_⟩
      have ec8 := u8.up _ _ cpp ec7
      have x8 : Same H1 H8 := (u7.up.trans u8.up).to (x5.trans s6) np1
      walk_at "ev"
      refine ⟨(by show 2 ≤ sizeLine; decide), fun L nL => ?_⟩
      have hcl : (cs.map V.int).length = cs.length := List.length_map _
      have ec9 := new_at (o' := .lst [.int (-1 - r1), .int (((cs.map V.int).length : Int) + r2)]) ec8 nL
      have x9 := x8.trans (same_upd (o := .lst [.int (-1 - r1), .int (((cs.map V.int).length : Int) + r2)]) nL)
      have eL := upd_same (H := H8) (a := L) (o := .lst [.int (-1 - r1), .int (((cs.map V.int).length : Int) + r2)])
      generalize upd H8 L (.lst [.int (-1 - r1), .int (((cs.map V.int).length : Int) + r2)]) = G9 at ec9 x9 eL ⊢
      walk_at "ev"
      refine ⟨⟨_, .inl (.inl eL)⟩, for_list (K := K) (a := L) (xs := [.int (-1 - r1), .int (((cs.map V.int).length : Int) + r2)]) (fun _ σ Hx => ∃ v5, σ = [some (.ref a), some (.int (0 + (i : Int))), some (.ref p), some (.ref nd), some (.ref cp), v5] ∧ Hx = G9) ⟨_, rfl, rfl⟩ (fun _ _ _ _ ⟨_, _, e⟩ => by rw [e]; exact .inl (.inl eL)) ?_ ?_⟩
      · rintro j y σ Hx hy ⟨v5, rfl, rfl⟩
        obtain ⟨jj, rfl, hjj⟩ : ∃ z, y = V.int z ∧ (z < 0 ∨ (cs.length : Int) ≤ z) := by
          match j, hy with
          | 0, hy => exact ⟨_, (Option.some.inj hy).symm, .inl (by omega)⟩
          | 1, hy => exact ⟨_, (Option.some.inj hy).symm, .inr (by omega)⟩
        walk_at "ev"
        walk_at "ev"
        refine ⟨_, cp, _, _, rfl, .inl (.inl (.inl ec9)), (by rw [List.length_map]; exact hjj), ?_⟩
        walk_at "ev"
        exact rfl
      · rintro σ Hx ⟨v5, rfl, rfl⟩
        exact ⟨_, _, _, _, _, rfl, x9⟩
    · rintro σ H2 ⟨v1, v2, v3, v4, v5, rfl, x2⟩
      walk_at "ev"
      refine ⟨(by show 3 ≤ sizeLine; decide), fun t nt => ?_⟩
      have sh3 : ∀ a b c : Int, SeqAt.shaped (.tuple [.int a, .int b, .int c]) = true := fun a b c => (shd_tup (n := 0) fun d m => by
        rcases List.mem_cons.mp m with rfl | m
        · exact shd_int _
        rcases List.mem_cons.mp m with rfl | m
        · exact shd_int _
        rw [List.mem_singleton.mp m]
        exact shd_int _).sh (by decide)
      refine q_eqS (d := .tuple [.int 0, .int 65536, .int 16]) (.tup (hR _) (.cons (.int _) (.cons (.int _) (.cons (.int _) .nil)))) (.tup (.inl (.inl upd_same)) (.cons (.int _) (.cons (.int _) (.cons (.int _) .nil)))) (sh3 _ _ _) ?_
      walk_at "ev"
      refine ⟨(by show 3 ≤ sizeLine; decide), fun L nL => ?_⟩
      walk_at "ev"
      refine ⟨R0, L, 0, 65536, 16, [1, 1, 1], 0, rfl, hR _, ⟨by decide, by decide, by decide, by decide, by decide, by decide⟩, .inl (.inl (.inl upd_same)), good_ones (m := 3) (.inr rfl), by decide, fun q' H3 nq sq eq => ?_⟩
      have e2 : chV 0 65536 16 [1, 1, 1] 0 = [.int 0, .int 87380, .int 18] := by rfl
      rw [e2] at eq
      refine ⟨(by show 3 ≤ sizeLine; decide), fun t2 nt2 => ?_⟩
      refine q_eqS (d := .tuple [.int 0, .int 87380, .int 18]) (.tup (.inl (.inl (new_at eq nt2))) (.cons (.int _) (.cons (.int _) (.cons (.int _) .nil)))) (.tup (.inl (.inl upd_same)) (.cons (.int _) (.cons (.int _) (.cons (.int _) .nil)))) (sh3 _ _ _) ?_
      exact q _
end
/-! ### what the top has written -/
theorem kbn1 {K : PySem.W.Frag} {x qual p : Str} {params : Arguments} {body : List Stmt} {scope : Scope} {kV doc pm cd ct : Value} {an : Option Addr} (h : ∀ u, bindArgs (PySem.W.fnOf x qual params body scope .none kV doc pm an cd ct) ⟨[], [(p, u)]⟩ = pure [(p, u)]) : KBn K (PySem.W.fnOf x qual params body scope .none kV doc pm an cd ct) [p] 0 [p] (fun _ ws => ws) (fun _ zs => zs) :=
  ⟨fun s us ws _ h1 h2 => match us, ws, h1, h2 with | [], [u], _, _ => .of_eq (h u), fun _ r => r⟩
theorem kbn2 {K : PySem.W.Frag} {x qual p p2 : Str} {params : Arguments} {body : List Stmt} {scope : Scope} {kV doc pm cd ct : Value} {an : Option Addr} (h : ∀ u v, bindArgs (PySem.W.fnOf x qual params body scope .none kV doc pm an cd ct) ⟨[], [(p, u), (p2, v)]⟩ = pure [(p, u), (p2, v)]) : KBn K (PySem.W.fnOf x qual params body scope .none kV doc pm an cd ct) [p, p2] 0 [p, p2] (fun _ ws => ws) (fun _ zs => zs) :=
  ⟨fun s us ws _ h1 h2 => match us, ws, h1, h2 with | [], [u, v], _, _ => .of_eq (h u v), fun _ r => r⟩
theorem kbn3 {K : PySem.W.Frag} {x qual p p2 p3 : Str} {params : Arguments} {body : List Stmt} {scope : Scope} {kV doc pm cd ct : Value} {an : Option Addr} (h : ∀ u v w, bindArgs (PySem.W.fnOf x qual params body scope .none kV doc pm an cd ct) ⟨[], [(p, u), (p2, v), (p3, w)]⟩ = pure [(p, u), (p2, v), (p3, w)]) : KBn K (PySem.W.fnOf x qual params body scope .none kV doc pm an cd ct) [p, p2, p3] 0 [p, p2, p3] (fun _ ws => ws) (fun _ zs => zs) :=
  ⟨fun s us ws _ h1 h2 => match us, ws, h1, h2 with | [], [u, v, w], _, _ => .of_eq (h u v w), fun _ r => r⟩
theorem kbm1 {K : PySem.W.Frag} {x qual s p : Str} {params : Arguments} {body : List Stmt} {scope : Scope} {kV doc pm cd ct : Value} {an : Option Addr} (h : ∀ z u, bindArgs (PySem.W.fnOf x qual params body scope .none kV doc pm an cd ct) ⟨[z], [(p, u)]⟩ = pure [(s, z), (p, u)]) : KBn K (PySem.W.fnOf x qual params body scope .none kV doc pm an cd ct) [s, p] 1 [p] (fun us ws => us ++ ws) (fun vs zs => vs ++ zs) :=
  ⟨fun st us ws _ h1 h2 => match us, ws, h1, h2 with | [z], [u], _, _ => .of_eq (h z u), fun r1 r2 => r1.append r2⟩
theorem all_mk {l : PySem.W.OpenLaw} {w : World} {K : PySem.W.Frag} {h : Heap} {mg : Str → Option Value} {fa : Addr} (X : K.In h) (G : h.Ns mainGlobals mg) (hfa : mg "law" = some (.ref fa))
    {C : Addr} (eC : PySem.W.nsIn K mainGlobals "Table" = some (some (.ref C))) (pgC : PySem.W.plainGet K C Str.empty = true) (hdC : PySem.W.hasDictIn K C = true) (poC : PySem.W.plainOver K C = true) (saC : PySem.W.findIn K (.ref C) "__setattr__" = some (some (.builtin "object.__setattr__"))) (mkC : PySem.W.makesIn K C = true) (kcC : PySem.W.keepIn K (.ref C) = true) (naC0 : PySem.W.findIn K (.ref C) "_counts" = some none)
    {od0 an0 : Option Addr} {sl0 : Array (Option Value)} {oc0 kV0 dc0 pm0 cd0 ct0 : Value} {f0 : Addr}
    (a0 : PySem.W.nsIn K mainGlobals "borders" = some (some (.ref f0))) (l0 : K.lookup f0 = some ⟨oc0, od0, .func (PySem.W.fnOf "borders" "borders" (defArgs s_borders) (defBody s_borders) (defScope s_borders) .none kV0 dc0 pm0 an0 cd0 ct0), sl0⟩) (c0 : PySem.W.codeIn K cd0 "borders" = true) (k0 : PySem.W.keepIn K (.ref f0) = true)
    {od1 an1 : Option Addr} {sl1 : Array (Option Value)} {oc1 kV1 dc1 pm1 cd1 ct1 : Value} {f1 : Addr}
    (a1 : PySem.W.nsIn K mainGlobals "doublings_of" = some (some (.ref f1))) (l1 : K.lookup f1 = some ⟨oc1, od1, .func (PySem.W.fnOf "doublings_of" "doublings_of" (defArgs s_doublings_of) (defBody s_doublings_of) (defScope s_doublings_of) .none kV1 dc1 pm1 an1 cd1 ct1), sl1⟩) (c1 : PySem.W.codeIn K cd1 "doublings_of" = true) (k1 : PySem.W.keepIn K (.ref f1) = true)
    {od2 an2 : Option Addr} {sl2 : Array (Option Value)} {oc2 kV2 dc2 pm2 cd2 ct2 : Value} {f2 : Addr}
    (a2 : PySem.W.nsIn K mainGlobals "next_node" = some (some (.ref f2))) (l2 : K.lookup f2 = some ⟨oc2, od2, .func (PySem.W.fnOf "next_node" "next_node" (defArgs s_next_node) (defBody s_next_node) (defScope s_next_node) .none kV2 dc2 pm2 an2 cd2 ct2), sl2⟩) (c2 : PySem.W.codeIn K cd2 "next_node" = true) (k2 : PySem.W.keepIn K (.ref f2) = true)
    {od3 an3 : Option Addr} {sl3 : Array (Option Value)} {oc3 kV3 dc3 pm3 cd3 ct3 : Value} {f3 : Addr}
    (a3 : PySem.W.findIn K (.ref C) "__init__" = some (some (.ref f3))) (i3 : PySem.W.isFn K (.ref f3) = true)
    (l3 : K.lookup f3 = some ⟨oc3, od3, .func (PySem.W.fnOf "__init__" "Table.__init__" (defArgs s_Table_init) (defBody s_Table_init) (defScope s_Table_init) .none kV3 dc3 pm3 an3 cd3 ct3), sl3⟩) (c3 : PySem.W.codeIn K cd3 "Table.__init__" = true) (k3 : PySem.W.keepIn K (.ref f3) = true)
    {od4 an4 : Option Addr} {sl4 : Array (Option Value)} {oc4 kV4 dc4 pm4 cd4 ct4 : Value} {f4 : Addr}
    {p4 : Addr} {rs4 : List Value} (a4 : PySem.W.findIn K (.ref C) "counts" = some (some (.ref p4))) (g4 : PySem.W.specialIn K (.ref p4) "__get__" = some (some (.builtin "property.__get__"))) (t4 : PySem.W.takesIn K (.ref p4) = some true) (r4 : PySem.W.recIn K p4 "property" = some (.ref f4 :: rs4))
    (l4 : K.lookup f4 = some ⟨oc4, od4, .func (PySem.W.fnOf "counts" "Table.counts" (defArgs s_Table_counts) (defBody s_Table_counts) (defScope s_Table_counts) .none kV4 dc4 pm4 an4 cd4 ct4), sl4⟩) (c4 : PySem.W.codeIn K cd4 "Table.counts" = true) (k4 : PySem.W.keepIn K (.ref f4) = true)
    {od5 an5 : Option Addr} {sl5 : Array (Option Value)} {oc5 kV5 dc5 pm5 cd5 ct5 : Value} {f5 : Addr}
    {p5 : Addr} {rs5 : List Value} (a5 : PySem.W.findIn K (.ref C) "total" = some (some (.ref p5))) (g5 : PySem.W.specialIn K (.ref p5) "__get__" = some (some (.builtin "property.__get__"))) (t5 : PySem.W.takesIn K (.ref p5) = some true) (r5 : PySem.W.recIn K p5 "property" = some (.ref f5 :: rs5))
    (l5 : K.lookup f5 = some ⟨oc5, od5, .func (PySem.W.fnOf "total" "Table.total" (defArgs s_Table_total) (defBody s_Table_total) (defScope s_Table_total) .none kV5 dc5 pm5 an5 cd5 ct5), sl5⟩) (c5 : PySem.W.codeIn K cd5 "Table.total" = true) (k5 : PySem.W.keepIn K (.ref f5) = true)
    {od6 an6 : Option Addr} {sl6 : Array (Option Value)} {oc6 kV6 dc6 pm6 cd6 ct6 : Value} {f6 : Addr}
    (a6 : PySem.W.findIn K (.ref C) "learn" = some (some (.ref f6))) (i6 : PySem.W.isFn K (.ref f6) = true)
    (l6 : K.lookup f6 = some ⟨oc6, od6, .func (PySem.W.fnOf "learn" "Table.learn" (defArgs s_Table_learn) (defBody s_Table_learn) (defScope s_Table_learn) .none kV6 dc6 pm6 an6 cd6 ct6), sl6⟩) (c6 : PySem.W.codeIn K cd6 "Table.learn" = true) (k6 : PySem.W.keepIn K (.ref f6) = true)
    {od7 an7 : Option Addr} {sl7 : Array (Option Value)} {oc7 kV7 dc7 pm7 cd7 ct7 : Value} {f7 : Addr}
    (a7 : PySem.W.nsIn K mainGlobals "_law_pool" = some (some (.ref f7))) (l7 : K.lookup f7 = some ⟨oc7, od7, .func (PySem.W.fnOf "_law_pool" "_law_pool" (defArgs s_law_pool) (defBody s_law_pool) (defScope s_law_pool) .none kV7 dc7 pm7 an7 cd7 ct7), sl7⟩) (c7 : PySem.W.codeIn K cd7 "_law_pool" = true) (k7 : PySem.W.keepIn K (.ref f7) = true)
    {od8 an8 : Option Addr} {sl8 : Array (Option Value)} {oc8 kV8 dc8 pm8 cd8 ct8 : Value} {f8 : Addr}
    (a8 : PySem.W.nsIn K mainGlobals "_law_take" = some (some (.ref f8))) (l8 : K.lookup f8 = some ⟨oc8, od8, .func (PySem.W.fnOf "_law_take" "_law_take" (defArgs s_law_take) (defBody s_law_take) (defScope s_law_take) .none kV8 dc8 pm8 an8 cd8 ct8), sl8⟩) (c8 : PySem.W.codeIn K cd8 "_law_take" = true) (k8 : PySem.W.keepIn K (.ref f8) = true)
    {od9 an9 : Option Addr} {sl9 : Array (Option Value)} {oc9 kV9 dc9 pm9 cd9 ct9 : Value} {f9 : Addr}
    (a9 : PySem.W.nsIn K mainGlobals "_law_one" = some (some (.ref f9))) (l9 : K.lookup f9 = some ⟨oc9, od9, .func (PySem.W.fnOf "_law_one" "_law_one" (defArgs s_law_one) (defBody s_law_one) (defScope s_law_one) .none kV9 dc9 pm9 an9 cd9 ct9), sl9⟩) (c9 : PySem.W.codeIn K cd9 "_law_one" = true) (k9 : PySem.W.keepIn K (.ref f9) = true)
    {od10 an10 : Option Addr} {sl10 : Array (Option Value)} {oc10 kV10 dc10 pm10 cd10 ct10 : Value} {f10 : Addr}
    (a10 : PySem.W.nsIn K mainGlobals "_law_counts" = some (some (.ref f10))) (l10 : K.lookup f10 = some ⟨oc10, od10, .func (PySem.W.fnOf "_law_counts" "_law_counts" (defArgs s_law_counts) (defBody s_law_counts) (defScope s_law_counts) .none kV10 dc10 pm10 an10 cd10 ct10), sl10⟩) (c10 : PySem.W.codeIn K cd10 "_law_counts" = true) (k10 : PySem.W.keepIn K (.ref f10) = true)
    {od11 an11 : Option Addr} {sl11 : Array (Option Value)} {oc11 kV11 dc11 pm11 cd11 ct11 : Value} {f11 : Addr}
    (a11 : PySem.W.nsIn K mainGlobals "_law_borders" = some (some (.ref f11))) (l11 : K.lookup f11 = some ⟨oc11, od11, .func (PySem.W.fnOf "_law_borders" "_law_borders" (defArgs s_law_borders) (defBody s_law_borders) (defScope s_law_borders) .none kV11 dc11 pm11 an11 cd11 ct11), sl11⟩) (c11 : PySem.W.codeIn K cd11 "_law_borders" = true) (k11 : PySem.W.keepIn K (.ref f11) = true)
    {od12 an12 : Option Addr} {sl12 : Array (Option Value)} {oc12 kV12 dc12 pm12 cd12 ct12 : Value} {f12 : Addr}
    (a12 : PySem.W.nsIn K mainGlobals "_law_child" = some (some (.ref f12))) (l12 : K.lookup f12 = some ⟨oc12, od12, .func (PySem.W.fnOf "_law_child" "_law_child" (defArgs s_law_child) (defBody s_law_child) (defScope s_law_child) .none kV12 dc12 pm12 an12 cd12 ct12), sl12⟩) (c12 : PySem.W.codeIn K cd12 "_law_child" = true) (k12 : PySem.W.keepIn K (.ref f12) = true)
    {od13 an13 : Option Addr} {sl13 : Array (Option Value)} {oc13 kV13 dc13 pm13 cd13 ct13 : Value} {f13 : Addr}
    (a13 : PySem.W.nsIn K mainGlobals "_law_node" = some (some (.ref f13))) (l13 : K.lookup f13 = some ⟨oc13, od13, .func (PySem.W.fnOf "_law_node" "_law_node" (defArgs s_law_node) (defBody s_law_node) (defScope s_law_node) .none kV13 dc13 pm13 an13 cd13 ct13), sl13⟩) (c13 : PySem.W.codeIn K cd13 "_law_node" = true) (k13 : PySem.W.keepIn K (.ref f13) = true)
    {od14 an14 : Option Addr} {sl14 : Array (Option Value)} {oc14 kV14 dc14 pm14 cd14 ct14 : Value} {f14 : Addr}
    (a14 : PySem.W.nsIn K mainGlobals "_law_is_outside" = some (some (.ref f14))) (l14 : K.lookup f14 = some ⟨oc14, od14, .func (PySem.W.fnOf "_law_is_outside" "_law_is_outside" (defArgs s_law_is_outside) (defBody s_law_is_outside) (defScope s_law_is_outside) .none kV14 dc14 pm14 an14 cd14 ct14), sl14⟩) (c14 : PySem.W.codeIn K cd14 "_law_is_outside" = true) (k14 : PySem.W.keepIn K (.ref f14) = true)
    {od15 an15 : Option Addr} {sl15 : Array (Option Value)} {oc15 kV15 dc15 pm15 cd15 ct15 : Value} {f15 : Addr}
    (a15 : PySem.W.nsIn K mainGlobals "_law_is_right" = some (some (.ref f15))) (l15 : K.lookup f15 = some ⟨oc15, od15, .func (PySem.W.fnOf "_law_is_right" "_law_is_right" (defArgs s_law_is_right) (defBody s_law_is_right) (defScope s_law_is_right) .none kV15 dc15 pm15 an15 cd15 ct15), sl15⟩) (c15 : PySem.W.codeIn K cd15 "_law_is_right" = true) (k15 : PySem.W.keepIn K (.ref f15) = true)
    {od16 an16 : Option Addr} {sl16 : Array (Option Value)} {oc16 kV16 dc16 pm16 cd16 ct16 : Value} {f16 : Addr}
    (a16 : PySem.W.nsIn K mainGlobals "_law_learned" = some (some (.ref f16))) (l16 : K.lookup f16 = some ⟨oc16, od16, .func (PySem.W.fnOf "_law_learned" "_law_learned" (defArgs s_law_learned) (defBody s_law_learned) (defScope s_law_learned) .none kV16 dc16 pm16 an16 cd16 ct16), sl16⟩) (c16 : PySem.W.codeIn K cd16 "_law_learned" = true) (k16 : PySem.W.keepIn K (.ref f16) = true)
    {od17 an17 : Option Addr} {sl17 : Array (Option Value)} {oc17 kV17 dc17 pm17 cd17 ct17 : Value} {f17 : Addr}
    (a17 : PySem.W.nsIn K mainGlobals "_law_is_refused" = some (some (.ref f17))) (l17 : K.lookup f17 = some ⟨oc17, od17, .func (PySem.W.fnOf "_law_is_refused" "_law_is_refused" (defArgs s_law_is_refused) (defBody s_law_is_refused) (defScope s_law_is_refused) .none kV17 dc17 pm17 an17 cd17 ct17), sl17⟩) (c17 : PySem.W.codeIn K cd17 "_law_is_refused" = true) (k17 : PySem.W.keepIn K (.ref f17) = true)
    {od18 an18 : Option Addr} {sl18 : Array (Option Value)} {oc18 kV18 dc18 pm18 ct18 : Value} {f18 cc18 : Addr}
    (a18 : PySem.W.nsIn K mainGlobals "_law_table_right" = some (some (.ref f18))) (l18 : K.lookup f18 = some ⟨oc18, od18, .func (PySem.W.fnOf "_law_table_right" "_law_table_right" (defArgs s_law_table_right) (defBody s_law_table_right) (defScope s_law_table_right) .none kV18 dc18 pm18 an18 (.ref cc18) ct18), sl18⟩) (c18 : PySem.W.codeIn K (.ref cc18) "_law_table_right" = true) (k18 : PySem.W.keepIn K (.ref f18) = true)
    {od19 an19 : Option Addr} {sl19 : Array (Option Value)} {oc19 kV19 dc19 pm19 cd19 ct19 : Value} {f19 : Addr}
    (a19 : PySem.W.nsIn K mainGlobals "law" = some (some (.ref f19))) (l19 : K.lookup f19 = some ⟨oc19, od19, .func (PySem.W.fnOf "law" "law" (defArgs s_law) (defBody s_law) (defScope s_law) .none kV19 dc19 pm19 an19 cd19 ct19), sl19⟩) (c19 : PySem.W.codeIn K cd19 "law" = true) (k19 : PySem.W.keepIn K (.ref f19) = true)
    {O N : Addr} {P0 : Addr} {tc18 : Value} {td18 : Option Addr} {tv18 : Array Value} {ts18 : Array (Option Value)} {R0 : Addr} {dR : Option Addr} {u1 u2 u3 : Tok} {nR : Nat} {sR : Array (Option Value)} {tg tz : Tok} 
    (y0 : PySem.W.nsIn K mainGlobals "int" = some none)
    (y1 : PySem.W.nsIn K mainGlobals "len" = some none)
    (y2 : PySem.W.nsIn K mainGlobals "max" = some none)
    (y3 : PySem.W.nsIn K mainGlobals "min" = some none)
    (y4 : PySem.W.nsIn K mainGlobals "range" = some none)
    (y5 : PySem.W.nsIn K mainGlobals "isinstance" = some none)
    (y6 : PySem.W.nsIn K mainGlobals "list" = some none)
    (y7 : PySem.W.nsIn K mainGlobals "tuple" = some none)
    (y8 : PySem.W.nsIn K mainGlobals "sum" = some none)
    (y9 : PySem.W.nsIn K mainGlobals "enumerate" = some none)
    (eO : PySem.W.nsIn K mainGlobals "Outside" = some (some (.ref O)))
    (eN : PySem.W.nsIn K mainGlobals "NarrowError" = some (some (.ref N)))
    (m4 : PySem.W.specialIn K (.builtin "object.__class__") "__get__" = some (some (.builtin "getset_descriptor.__get__")))
    (m5 : PySem.W.takesIn K (.builtin "object.__class__") = some true)
    (exO : PySem.W.excIn K O [.type "ValueError", .type "Exception", .type "BaseException", .type "object"] "ValueError.__new__" = true)
    (kOc : PySem.W.keepIn K (.ref O) = true)
    (bOc : PySem.W.subIn K (.ref O) (.type "BaseException") = some true)
    (tOc : PySem.W.typeIn K (.ref O) = some (.type "type"))
    (m0O : PySem.W.findIn K (.ref O) "__getattribute__" = some (some (.builtin "BaseException.__getattribute__")))
    (m1O : PySem.W.findIn K (.ref O) "__getattr__" = some none)
    (m2O : PySem.W.hasDictIn K O = true)
    (m3O : PySem.W.findIn K (.ref O) "__class__" = some (some (.builtin "object.__class__")))
    (m6O : PySem.W.mroIn K O (.type "object") = some true)
    (sOO : PySem.W.subIn K (.ref O) (.ref O) = some true)
    (iNc : PySem.W.isClsIn K N = true)
    (tNc : PySem.W.typeIn K (.ref N) = some (.type "type"))
    (sON : PySem.W.subIn K (.ref O) (.ref N) = some true)
    (gw : PySem.W.nsIn K mainGlobals "LEAST_WIDTH" = some (some (.int 65536 tg)))
    (gm : PySem.W.nsIn K mainGlobals "MOST_TOTAL" = some (some (.int 64 tz)))
    (gR : PySem.W.nsIn K mainGlobals "ROOT" = some (some (.ref R0)))
    (lR : K.lookup R0 = some ⟨.type "tuple", dR, .seq #[.int 0 u1, .int 65536 u2, .int 16 u3] nR, sR⟩)
    (tb18 : K.lookup cc18 = some ⟨tc18, td18, .fields tv18, ts18⟩)
    (tp18 : tv18[11]? = some (.ref P0))
    (hd18 : PySem.W.codeHdIn K cc18 P0 = true)
    (nk18 : K.lookup P0 = none)
    (hT0 : h.get? P0 = some { cls := .none, data := .fields #[] }) :
    LamX.LawAtS l w K CX0 6 63 "_law_script" mg fa h := by
  have e := hfa.symm.trans (PySem.W.mg_of X G a19)
  cases e
  have T : Txt mg := ⟨PySem.W.mg_none_of X G y0, PySem.W.mg_none_of X G y1, PySem.W.mg_none_of X G y2, PySem.W.mg_none_of X G y3, PySem.W.mg_none_of X G y4, PySem.W.mg_none_of X G y5, PySem.W.mg_none_of X G y6, PySem.W.mg_none_of X G y7, PySem.W.mg_none_of X G y8, PySem.W.mg_none_of X G y9⟩
  have EO : ECls K mg "Outside" O := ⟨PySem.W.mg_of X G eO, exO, kOc, bOc, tOc, ⟨m0O, m1O, bOc, m2O, m3O, m4, m5, m6O⟩, PySem.W.exm_ref bOc m2O tOc sOO⟩
  have rON := kit_ref iNc tNc sON fun _ => sOO
  have c_gw := PySem.W.mg_of X G gw
  have c_gm := PySem.W.mg_of X G gm
  have clC : Cls K C := ⟨pgC, hdC, poC, saC⟩
  have glC := PySem.W.mg_of X G eC
  have F0 := fun_mk (st := s_borders) l0 c0 k0
  have b0 := F0.binds (ps := ["width", "counts"]) fun _ _ _ _ _ _ us hl => match us, hl with | [_, _], _ => rfl
  have F1 := fun_mk (st := s_doublings_of) l1 c1 k1
  have b1 := F1.binds (ps := ["width"]) fun _ _ _ _ _ _ us hl => match us, hl with | [_], _ => rfl
  have F2 := fun_mk (st := s_next_node) l2 c2 k2
  have b2 := F2.binds (ps := ["node", "counts", "j"]) fun _ _ _ _ _ _ us hl => match us, hl with | [_, _, _], _ => rfl
  have F3 := fun_mk (st := s_Table_init) l3 c3 k3
  have b3 := F3.binds (ps := ["self", "m"]) fun _ _ _ _ _ _ us hl => match us, hl with | [_, _], _ => rfl
  have F4 := fun_mk (st := s_Table_counts) l4 c4 k4
  have b4 := F4.binds (ps := ["self"]) fun _ _ _ _ _ _ us hl => match us, hl with | [_], _ => rfl
  have F5 := fun_mk (st := s_Table_total) l5 c5 k5
  have b5 := F5.binds (ps := ["self"]) fun _ _ _ _ _ _ us hl => match us, hl with | [_], _ => rfl
  have F6 := fun_mk (st := s_Table_learn) l6 c6 k6
  have b6 := F6.binds (ps := ["self", "j"]) fun _ _ _ _ _ _ us hl => match us, hl with | [_, _], _ => rfl
  have F7 := fun_mk (st := s_law_pool) l7 c7 k7
  have b7 := F7.binds (ps := ["_law_script", "_law_k"]) fun _ _ _ _ _ _ us hl => match us, hl with | [_, _], _ => rfl
  have F8 := fun_mk (st := s_law_take) l8 c8 k8
  have b8 := F8.binds (ps := ["_law_source", "_law_most"]) fun _ _ _ _ _ _ us hl => match us, hl with | [_, _], _ => rfl
  have F9 := fun_mk (st := s_law_one) l9 c9 k9
  have b9 := F9.binds (ps := ["_law_source", "_law_things"]) fun _ _ _ _ _ _ us hl => match us, hl with | [_, _], _ => rfl
  have F10 := fun_mk (st := s_law_counts) l10 c10 k10
  have b10 := F10.binds (ps := ["_law_source"]) fun _ _ _ _ _ _ us hl => match us, hl with | [_], _ => rfl
  have F11 := fun_mk (st := s_law_borders) l11 c11 k11
  have b11 := F11.binds (ps := ["_law_width", "_law_counts_here"]) fun _ _ _ _ _ _ us hl => match us, hl with | [_, _], _ => rfl
  have F12 := fun_mk (st := s_law_child) l12 c12 k12
  have b12 := F12.binds (ps := ["_law_node_here", "_law_counts_here", "_law_letter"]) fun _ _ _ _ _ _ us hl => match us, hl with | [_, _, _], _ => rfl
  have F13 := fun_mk (st := s_law_node) l13 c13 k13
  have b13 := F13.binds (ps := ["_law_source"]) fun _ _ _ _ _ _ us hl => match us, hl with | [_], _ => rfl
  have F14 := fun_mk (st := s_law_is_outside) l14 c14 k14
  have b14 := F14.binds (ps := ["_law_node_here", "_law_counts_here", "_law_letter"]) fun _ _ _ _ _ _ us hl => match us, hl with | [_, _, _], _ => rfl
  have F15 := fun_mk (st := s_law_is_right) l15 c15 k15
  have b15 := F15.binds (ps := ["_law_node_here", "_law_counts_here"]) fun _ _ _ _ _ _ us hl => match us, hl with | [_, _], _ => rfl
  have F16 := fun_mk (st := s_law_learned) l16 c16 k16
  have b16 := F16.binds (ps := ["_law_counts_here", "_law_letter"]) fun _ _ _ _ _ _ us hl => match us, hl with | [_, _], _ => rfl
  have F17 := fun_mk (st := s_law_is_refused) l17 c17 k17
  have b17 := F17.binds (ps := ["_law_call"]) fun _ _ _ _ _ _ us hl => match us, hl with | [_], _ => rfl
  have F18 := fun_mk (st := s_law_table_right) l18 c18 k18
  have FC18 := funC_mk (st := s_law_table_right) l18 c18
  have b18 := F18.binds (ps := ["_law_source"]) fun _ _ _ _ _ _ us hl => match us, hl with | [_], _ => rfl
  have F19 := fun_mk (st := s_law) l19 c19 k19
  have b19 := F19.binds (ps := ["_law_script"]) fun _ _ _ _ _ _ us hl => match us, hl with | [_], _ => rfl
  refine ⟨PySem.W.fnOf "law" "law" (defArgs s_law) (defBody s_law) (defScope s_law) .none kV19 dc19 pm19 an19 cd19 ct19, [(cc18, P0)], (spLaw K P0), fun p hp => by
    simp only [List.mem_cons, List.not_mem_nil, or_false] at hp
    rcases hp with rfl
    · exact hT0, fun p hp => by
    simp only [List.mem_cons, List.not_mem_nil, or_false] at hp
    rcases hp with rfl
    · exact nk18, fun p hp => by
    simp only [List.mem_cons, List.not_mem_nil, or_false] at hp
    rcases hp with rfl
    · exact PySem.W.codeHd_of_K X hd18, fun s v => .of_eq rfl, fun H a ns hl _ hH hS => ⟨a, ns, rfl, hS, hl, (fun p hp => by
    rw [List.mem_singleton.mp hp]
    exact LamX.TabS.nil (hH (cc18, P0) (by simp))), fun _ => rfl⟩, fun base _ _ TB => ?_⟩
  have TB0 := TB (cc18, P0) (by simp)
  have Z0 : C8.Cal l.prog w K mg base 1 "borders" (spBorders K) [] := ⟨_, _, _, _, ok_borders F0 T, PySem.W.mg_of X G a0, k0, b0, .nil⟩
  have Z1 : C8.Cal l.prog w K mg base 1 "doublings_of" spDbl [] := ⟨_, _, _, _, ok_doublings F1 c_gw, PySem.W.mg_of X G a1, k1, b1, .nil⟩
  have On := ok_next (P := l.prog) (w := w) (base := base) (k := 0) F2 T Z0 Z1
  have Z2 : C8.Cal l.prog w K mg base 2 "next_node" (spNext K) [] := ⟨_, _, _, _, On, PySem.W.mg_of X G a2, k2, b2, .nil⟩
  have ck_next : CalK l.prog w K mg base 2 "next_node" ["node", "counts", "j"] (spNext K) := ⟨_, _, _, On, PySem.W.mg_of X G a2, k2, kbn3 fun _ _ _ => rfl⟩
  have D : TabK K C := ⟨clC, naC0⟩
  have M0 : CalC l.prog w K mg base 1 "Table" C ["m"] (spInit C O) := ⟨glC, ⟨_, _, _, ⟨mkC, a3, i3, kcC⟩, ok_init (k := 0) F3 D EO, b3, kbm1 fun _ _ => rfl⟩⟩
  have M1 : CalM l.prog w K mg base 1 C "learn" ["j"] (spLearn C O) := ⟨⟨_, _, _, ⟨a6, i6, k6⟩, ok_learn (k := 0) F6 T D EO c_gm, b6, kbm1 fun _ _ => rfl⟩⟩
  have M2 : CalP l.prog w K mg base 1 C "counts" (spCounts C) := ⟨⟨_, _, _, _, ⟨a4, g4, t4, ⟨_, r4⟩⟩, ok_tcounts (k := 0) F4 T D, b4⟩⟩
  have M3 : CalP l.prog w K mg base 1 C "total" (spTotal C) := ⟨⟨_, _, _, _, ⟨a5, g5, t5, ⟨_, r5⟩⟩, ok_total (k := 0) F5 T D, b5⟩⟩
  have Z7 : C8.Cal l.prog w K mg base 1 "_law_pool" (spPool K) [] := ⟨_, _, _, _, ok_pool F7 T, PySem.W.mg_of X G a7, k7, b7, .nil⟩
  have Z8 : C8.Cal l.prog w K mg base 1 "_law_take" spTake [] := ⟨_, _, _, _, ok_take F8 T, PySem.W.mg_of X G a8, k8, b8, .nil⟩
  have Z9 : C8.Cal l.prog w K mg base 2 "_law_one" spOne [] := ⟨_, _, _, _, ok_one F9 T Z8, PySem.W.mg_of X G a9, k9, b9, .nil⟩
  have Z10 : C8.Cal l.prog w K mg base 3 "_law_counts" spCnts [] := ⟨_, _, _, _, ok_counts F10 T Z8 Z9, PySem.W.mg_of X G a10, k10, b10, .nil⟩
  have Z11 : C8.Cal l.prog w K mg base 1 "_law_borders" spBordL [] := ⟨_, _, _, _, ok_bordL F11 T, PySem.W.mg_of X G a11, k11, b11, .nil⟩
  have Z12 : C8.Cal l.prog w K mg base 2 "_law_child" spChild [] := ⟨_, _, _, _, ok_child F12 T Z11, PySem.W.mg_of X G a12, k12, b12, .nil⟩
  have Z13 : C8.Cal l.prog w K mg base 3 "_law_node" spNode [] := ⟨_, _, _, _, ok_node F13 T Z8 Z9, PySem.W.mg_of X G a13, k13, b13, .nil⟩
  have GX := no_next (P := l.prog) (w := w) (base := base) (k := 0) F2 T EO
  have Z14 : C8.Cal l.prog w K mg base 2 "_law_is_outside" (spIsOut K) [] := ⟨_, _, _, _, ok_is_out F14 T EO (PySem.W.mg_of X G eN) rON GX (PySem.W.mg_of X G a2) k2 b2, PySem.W.mg_of X G a14, k14, b14, .nil⟩
  have Z15 : C8.Cal l.prog w K mg base 3 "_law_is_right" spIsRight [] := ⟨_, _, _, _, ok_is_right F15 T Z11 Z2 ck_next Z12, PySem.W.mg_of X G a15, k15, b15, .nil⟩
  have Z16 : C8.Cal l.prog w K mg base 1 "_law_learned" spLearned [] := ⟨_, _, _, _, ok_learned F16 T, PySem.W.mg_of X G a16, k16, b16, .nil⟩
  have R : RefD K mg f17 O N := ⟨EO, PySem.W.mg_of X G eN, rON, PySem.W.mg_none_of X G y5, PySem.W.mg_of X G a17, k17, ⟨_, _, _, _, _, _, _, _, _, l17, c17, b17⟩⟩
  have Z18 : C8.Cal l.prog w K mg base 5 "_law_table_right" (spTabR P0) [] := ⟨_, _, _, _, ok_table_right FC18 T D R TB0 M0 M1 M2 M3 Z8 Z9 Z16, PySem.W.mg_of X G a18, k18, b18, .nil⟩
  have hR : ∀ H : Hp, SqT K H R0 [.int 0, .int 65536, .int 16] := fun H => .inr ⟨_, _, _, lR, rfl, rfl, (by show 3 ≤ sizeLine; decide), .cons ⟨_, rfl⟩ (.cons ⟨_, rfl⟩ (.cons ⟨_, rfl⟩ .nil))⟩
  exact ok_law F19 T (PySem.W.mg_of X G gR) hR Z7 Z8 Z18 Z13 Z10 Z15 Z14 Z2
end My
open PySem PySem.W PyProof.Rows
set_option maxRecDepth 100000 in
set_option maxHeartbeats 0 in
theorem PySem.Challenge.cw_narrowingbits_k06_letters_fill_the_node_holds : PySem.Challenge.rw_narrowingbits_k06_letters_fill_the_node.Holds := by
  w_on; o_law; k_head; (case hw => w_witness2)
  k_fill
  refine LamX.walk_ofTs (l := PySem.Challenge.rw_narrowingbits_k06_letters_fill_the_node) (n := 63) (k := 6) (x := "_law_script") (CX := fun _ => L2.CX0) rfl (by decide) rfl ⟨rfl, by decide, by decide⟩ (fun w h Y => PySem.W.km_in_of Y) ?F (fun _ _ _ _ _ h => h)
  case F =>
    intro w mg fa h Y KX G hmg
    have hT8 := PySem.W.km_tabs_of Y
    refine' My.all_mk KX G hmg ?eC ?pgC ?hdC ?poC ?saC ?mkC ?kcC ?naC0 ?a0 ?l0 ?c0 ?k0 ?a1 ?l1 ?c1 ?k1 ?a2 ?l2 ?c2 ?k2 ?a3 ?i3 ?l3 ?c3 ?k3 ?a4 ?g4 ?t4 ?r4 ?l4 ?c4 ?k4 ?a5 ?g5 ?t5 ?r5 ?l5 ?c5 ?k5 ?a6 ?i6 ?l6 ?c6 ?k6 ?a7 ?l7 ?c7 ?k7 ?a8 ?l8 ?c8 ?k8 ?a9 ?l9 ?c9 ?k9 ?a10 ?l10 ?c10 ?k10 ?a11 ?l11 ?c11 ?k11 ?a12 ?l12 ?c12 ?k12 ?a13 ?l13 ?c13 ?k13 ?a14 ?l14 ?c14 ?k14 ?a15 ?l15 ?c15 ?k15 ?a16 ?l16 ?c16 ?k16 ?a17 ?l17 ?c17 ?k17 ?a18 ?l18 ?c18 ?k18 ?a19 ?l19 ?c19 ?k19 ?y0 ?y1 ?y2 ?y3 ?y4 ?y5 ?y6 ?y7 ?y8 ?y9 ?eO ?eN ?m4 ?m5 ?exO ?kOc ?bOc ?tOc ?m0O ?m1O ?m2O ?m3O ?m6O ?sOO ?iNc ?tNc ?sON ?gw ?gm ?gR ?lR ?tb18 ?tp18 ?hd18 ?nk18 ?hT0
    (case eC => k_is)
    (case pgC => k_is)
    (case hdC => k_is)
    (case poC => k_is)
    (case saC => k_is)
    (case mkC => k_is)
    (case kcC => k_is)
    (case naC0 => k_is)
    (case a0 => k_is); (case l0 => k_is); (case c0 => k_is); (case k0 => k_is)
    (case a1 => k_is); (case l1 => k_is); (case c1 => k_is); (case k1 => k_is)
    (case a2 => k_is); (case l2 => k_is); (case c2 => k_is); (case k2 => k_is)
    (case a3 => k_is); (case i3 => k_is); (case l3 => k_is); (case c3 => k_is); (case k3 => k_is)
    (case a4 => k_is); (case g4 => k_is); (case t4 => k_is); (case r4 => k_is); (case l4 => k_is); (case c4 => k_is); (case k4 => k_is)
    (case a5 => k_is); (case g5 => k_is); (case t5 => k_is); (case r5 => k_is); (case l5 => k_is); (case c5 => k_is); (case k5 => k_is)
    (case a6 => k_is); (case i6 => k_is); (case l6 => k_is); (case c6 => k_is); (case k6 => k_is)
    (case a7 => k_is); (case l7 => k_is); (case c7 => k_is); (case k7 => k_is)
    (case a8 => k_is); (case l8 => k_is); (case c8 => k_is); (case k8 => k_is)
    (case a9 => k_is); (case l9 => k_is); (case c9 => k_is); (case k9 => k_is)
    (case a10 => k_is); (case l10 => k_is); (case c10 => k_is); (case k10 => k_is)
    (case a11 => k_is); (case l11 => k_is); (case c11 => k_is); (case k11 => k_is)
    (case a12 => k_is); (case l12 => k_is); (case c12 => k_is); (case k12 => k_is)
    (case a13 => k_is); (case l13 => k_is); (case c13 => k_is); (case k13 => k_is)
    (case a14 => k_is); (case l14 => k_is); (case c14 => k_is); (case k14 => k_is)
    (case a15 => k_is); (case l15 => k_is); (case c15 => k_is); (case k15 => k_is)
    (case a16 => k_is); (case l16 => k_is); (case c16 => k_is); (case k16 => k_is)
    (case a17 => k_is); (case l17 => k_is); (case c17 => k_is); (case k17 => k_is)
    (case a18 => k_is); (case l18 => k_is); (case c18 => k_is); (case k18 => k_is)
    (case a19 => k_is); (case l19 => k_is); (case c19 => k_is); (case k19 => k_is)
    (case y0 => k_is)
    (case y1 => k_is)
    (case y2 => k_is)
    (case y3 => k_is)
    (case y4 => k_is)
    (case y5 => k_is)
    (case y6 => k_is)
    (case y7 => k_is)
    (case y8 => k_is)
    (case y9 => k_is)
    (case eO => k_is)
    (case eN => k_is)
    (case m4 => k_is)
    (case m5 => k_is)
    (case kOc => k_is)
    (case bOc => k_is)
    (case tOc => k_is)
    (case m0O => k_is)
    (case m1O => k_is)
    (case m2O => k_is)
    (case m3O => k_is)
    (case m6O => k_is)
    (case sOO => k_is)
    (case iNc => k_is)
    (case tNc => k_is)
    (case sON => k_is)
    (case gw => k_is)
    (case gm => k_is)
    (case gR => k_is)
    (case lR => k_is)
    (case tb18 => k_is)
    (case tp18 => rfl)
    (case hd18 => kernel_rfl)
    (case nk18 => kernel_rfl)
    (case exO => k_exc)
    (case hT0 => exact hT8 _ (by k_mem))
