import PyProof.Rows.All
import Wide.All
import OpenK.AllK
import Wide.FinOn
import HandS.ForMost
import HandS.Wide
import HandS.IsInst
import HandS.Codes
import HandS.Style
import HandS.EndBits
import HandS.Walk
import HandS.FStr
import HandS.WideBits
import HandS.Defaults
import HandS.Exc
import HandS.TryOnly
import HandS.ExcOwn
import HandS.WordsExc
import HandS.ExcIs
import PySem.Challenge.RW_narrowingbits_k03_long_ones_and_places
set_option Elab.async false
set_option linter.all false
set_option maxRecDepth 100000
set_option maxHeartbeats 4000000
namespace My
open PySem PySem.Spec PyProof.Rows L2
/-! ### arithmetic -/
theorem cdivw {i j : Int} (h : 0 < j) (h2 : j < 18446744073709551616) : CDivW i j := wide_div (b := 64) h (by omega) (by decide) (by decide)
theorem cmull {i j : Int} (h : -18446744073709551616 < i) (h2 : i < 18446744073709551616) : CMul i j := .inl ⟨by omega, by omega⟩
theorem cmulr {i j : Int} (h : -18446744073709551616 < j) (h2 : j < 18446744073709551616) : CMul i j := .inr ⟨by omega, by omega⟩
theorem pow18 : ((10 : Int) ^ (18 : Int).toNat) = 1000000000000000000 := by decide +kernel
theorem pow30 : ((10 : Int) ^ (30 : Int).toNat) = 1000000000000000000000000000000 := by decide +kernel
theorem pow9 : ((10 : Int) ^ (9 : Int).toNat) = 1000000000 := by decide +kernel
theorem pool_nn (c : Int) (b : Bool) : 0 ≤ (if -1 - c > c then -1 - c else c) * (if b = true then 1 else 0) := by
  refine Int.mul_nonneg ?_ ?_
  · split <;> omega
  · split <;> decide
theorem at_lt {ns : List Int} {k : Int} (h0 : 0 ≤ k) (h : k < ((ns.map V.int).length : Int)) : ∃ z, atI (ns.map V.int) k = some (.int z) := by
  rw [List.length_map] at h
  refine ⟨ns[k.toNat]'(by omega), at_of (j := k.toNat) (by omega) ?_⟩
  rw [List.getElem?_map, List.getElem?_eq_getElem (by omega)]
  rfl
theorem at_mem {xs : List V} {r : Int} (h0 : 0 ≤ r) (h : r < (xs.length : Int)) : ∃ v, atI xs r = some v ∧ v ∈ xs := by
  refine ⟨xs[r.toNat]'(by omega), at_of (j := r.toNat) (by omega) (List.getElem?_eq_getElem (by omega)), List.getElem_mem _⟩
/-! ### heaps -/
theorem same_upd {H : Hp} {p : Addr} {o : HO} (h : H p = none) : Same H (upd H p o) := fun b x e => by
  rw [upd_ne (ne_of_none e h)]
  exact e
/-- a source of draws stands at a -/
def Src (H : Hp) (a : Addr) : Prop := ∃ x y : Int, H a = some (.lst [.int x, .int y]) ∧ 0 ≤ x ∧ 0 ≤ y ∧ y < 2147483647
/-- all but a is as it was -/
def But (a : Addr) (H H' : Hp) : Prop := ∀ b, b ≠ a → H' b = H b
theorem But.refl (a : Addr) (H : Hp) : But a H H := fun _ _ => rfl
theorem But.trans {a : Addr} {H H1 H2 : Hp} (u : But a H H1) (v : But a H1 H2) : But a H H2 := fun b e => (v b e).trans (u b e)
theorem But.upd {a : Addr} {H : Hp} {o : HO} : But a H (upd H a o) := fun b e => upd_ne e
theorem But.at {a b : Addr} {H H' : Hp} {o : HO} (u : But a H H') (n : b ≠ a) (h : H b = some o) : H' b = some o := (u b n).trans h
theorem src_same {H H' : Hp} {a : Addr} (s : Same H H') (h : Src H a) : Src H' a := by
  obtain ⟨x, y, e, r⟩ := h
  exact ⟨x, y, s _ _ e, r⟩
theorem Src.ne {H : Hp} {a p : Addr} (h : Src H a) (n : H p = none) : a ≠ p := by
  obtain ⟨x, y, e, r⟩ := h
  exact ne_of_none e n
theorem same_but {a : Addr} {G H H' : Hp} (s : Same G H) (u : But a H H') (n : G a = none) : Same G H' := fun b o e => by
  rw [u b (ne_of_none e n)]
  exact s b o e
theorem kit_ii {K : PySem.W.Frag} : PySem.W.kitOne K (.type "int") (.type "int") = some true := kit_ty (by decide +kernel)
theorem kit_ib {K : PySem.W.Frag} : PySem.W.kitOne K (.type "int") (.type "bool") = some false := kit_ty (by decide +kernel)
theorem kit_bi {K : PySem.W.Frag} : PySem.W.kitOne K (.type "bool") (.type "int") = some true := kit_ty (by decide +kernel)
theorem kit_bb {K : PySem.W.Frag} : PySem.W.kitOne K (.type "bool") (.type "bool") = some true := kit_ty (by decide +kernel)
theorem kit_tt {K : PySem.W.Frag} : PySem.W.kitOne K (.type "tuple") (.type "tuple") = some true := kit_ty (by decide +kernel)
theorem kit_ll {K : PySem.W.Frag} : PySem.W.kitOne K (.type "list") (.type "list") = some true := kit_ty (by decide +kernel)
theorem kit_tl {K : PySem.W.Frag} : PySem.W.kitOne K (.type "tuple") (.type "list") = some false := kit_ty (by decide +kernel)
theorem kit_lt {K : PySem.W.Frag} : PySem.W.kitOne K (.type "list") (.type "tuple") = some false := kit_ty (by decide +kernel)
theorem op_powc {X : Cx} {a b c : Int} (hc : CPow a b) (h : a ^ b.toNat = c) : OpR X (binaryOp .Pow) (fun x y H Q => x = .int a ∧ y = .int b ∧ Q (.int c) H) := by
  intro pins s σ H x y v u Q I rx ry h'
  obtain ⟨rfl, rfl, q⟩ := h'
  exact op_pow pins s σ H _ _ v u Q I rx ry ⟨_, _, rfl, rfl, hc, by subst h; exact q⟩
theorem dp_pair {K : PySem.W.Frag} {H : Hp} {p : Addr} {a b : Int} (h : H p = some (.tup [.int a, .int b])) : Dp K H (.ref p) (.tuple [.int a, .int b]) := .tup (.inl (.inl h)) (.cons (.int _) (.cons (.int _) .nil))
theorem eq_pair (a b : Int) : PyData.eqv (.tuple [.int a, .int b]) (.tuple [.int a, .int b]) = true := by
  simp [PyData.eqv, PyData.eqvAll]
theorem tup_eq {H : Hp} {p : Addr} {x x' y y' : Int} (h : H p = some (.tup [.int x, .int y])) (h1 : x = x') (h2 : y = y') : H p = some (.tup [.int x', .int y']) := by
  rw [← h1, ← h2]
  exact h
end My
namespace My
section
open PySem PySem.W PyProof.Rows Builtin Builtin.Str Builtin.Int Builtin.Float
def binCodes (n : Nat) : List Nat := (Nat.toDigits 2 n).map Char.toNat
theorem field_plain (ds : List Nat) (h : ds.isEmpty = false) : intField' { align := 62, type := some 98 } false [] ds [] 4 = ⟨ds.toArray⟩ := by
  unfold intField'
  simp [h]
theorem digs_ne (n : Nat) : ((Nat.toDigits 2 n).map fun c => ((if ((98 : Nat) == 88) = true then c.toUpper else c) : Char).toNat).isEmpty = false := by
  cases e : Nat.toDigits 2 n with
  | nil =>
    have := tDigits_len_ge 2 n
    rw [e] at this
    cases this
  | cons a l => rfl
theorem meets_bin {x : Int} {t : Tok} (h0 : 0 ≤ x) (hL : (Nat.toDigits 2 x.natAbs).length ≤ sizeLine) :
    ∀ u, Meets (Builtin.«int.__format__» ⟨[.int x t, .str (Str.ofString "b") u], []⟩) (fun _ R s => ∀ t' k, R (.ok (.ret (.str ⟨(binCodes x.natAbs).toArray⟩ t'))) { s with toks := k }) := by
  intro u
  apply KPc.meets_of
  intro prog w A E s Q h
  unfold Builtin.«int.__format__»
  refine wpAny_bind (wpAny_of_eq (a := (_, _)) rfl ?_)
  refine wpAny_bind (wpAny_of_eq (a := _) rfl ?_)
  kxf_if
  refine wpAny_bind (wpAny_typeNameOf (T := "str") (typeIs_str _ _ _) (by decide) fun _ => ?_)
  refine wpAny_bind (wpAny_of_eq (a := some _) rfl ?_)
  kxf_if
  kxf_if
  refine wpAny_bind (wpAny_typeNameOfCut_int ?_)
  repeat kxf_if
  refine KXf.ret_text (T := ⟨(binCodes x.natAbs).toArray⟩) ?e ?l h
  case e =>
    have hx : decide (x < 0) = false := decide_eq_false (by omega)
    rw [hx]
    show intField' { align := 62, type := some 98 } false [] ((Nat.toDigits 2 x.natAbs).map fun c => ((if ((98 : Nat) == 88) = true then c.toUpper else c) : Char).toNat) [] 4 = _
    exact field_plain _ (digs_ne _)
  case l =>
    have hx : decide (x < 0) = false := decide_eq_false (by omega)
    rw [hx]
    show (intField' { align := 62, type := some 98 } false [] ((Nat.toDigits 2 x.natAbs).map fun c => ((if ((98 : Nat) == 88) = true then c.toUpper else c) : Char).toNat) [] 4).length ≤ sizeLine
    rw [field_plain _ (digs_ne _)]
    show ((binCodes x.natAbs).toArray).size ≤ sizeLine
    rw [List.size_toArray, binCodes, List.length_map]
    exact hL
end
end My
namespace My
open PySem PySem.Spec PyProof.Rows L2
/-! ### an f-string's field in binary -/
section
variable {X : Cx}
theorem pe_fmtB {e : Expr} {te : TE} {k : Nat} {pos p1 p2 : Pos} (he : PE X e te) : PE X (.FormattedValue e (-1) (some (.JoinedStr [.Constant (.str "b") k p1] p2)) pos)
    (fun σ H Q => te σ H fun x H1 => ∃ i : Int, x = .int i ∧ 0 ≤ i ∧ (Nat.toDigits 2 i.natAbs).length ≤ sizeLine ∧ Q (.str (SX.S (binCodes i.natAbs))) H1) := by
  refine ⟨fun pins s σ H Q I h => ?_⟩
  refine wpAny_FormattedValue_spec (thn (he.run pins s σ H _ I h) fun v s1 hv => ?_)
  obtain ⟨x, H1, I1, r1, i, rfl, h0, hL, q⟩ := hv
  obtain ⟨t, rfl⟩ := r1
  refine thn ((pe_joined1 (X := X) (pe_str (x := "b") (j := k) (pos := p1)) (pos := p2)).run pins s1 σ H1 (fun y H2 => y = .str "b" ∧ H2 = H1) I1 ⟨rfl, rfl⟩) fun r s2 hr => ?_
  obtain ⟨y, H2, I2, r2, rfl, rfl⟩ := hr
  obtain ⟨t2, rfl⟩ := r2
  exact ⟨_, t2, rfl, PySem.W.KXf.field_int rfl rfl (by decide) (meets_bin h0 hL) fun t' k => ⟨.str _, _, I2.tok _, ⟨_, rfl⟩, q⟩⟩
/-- a call by keywords alone -/
theorem pe_kw0 {CX : CXT} {k : Nat} {f : Addr} {fd : FuncData} {ps ks : List Str} {sp : Sp} {E : XK} {x : Str} {p pos : Pos} {kws : List Keyword} {tk : TA} {g : List Value → List Value → List Value} {gV : List V → List V → List V}
    (F : FnOk X.prog X.w X.K X.mg X.base CX k f fd ps sp) (hr : Room k X.A) (hg : Gl X x) (hm : X.mg x = some (.ref f)) (hk : PySem.W.keepIn X.K (.ref f) = true) (hb : KBn X.K fd ps 0 ks g gV) (hx : Passes CX X E) (hkw : PK X kws tk)
    (hall : (backToKw pos (keywordEach kws X.env)).all (·.1.isSome) = true := by rfl) (hks : (backToKw pos (keywordEach kws X.env)).filterMap (·.1) = ks := by rfl) (hdb : (x == ("__debug__" : Str)) = false := by decide)
    (hpl : ((backTo pos (starEach [] X.env)).any (·.1) || (backToKw pos (keywordEach kws X.env)).any (·.1.isNone)) = false := by rfl) :
    PE X (.Call (.Name x p) [] kws pos) (fun σ H Q => tk σ H fun zs H2 => zs.length = ks.length ∧ sp (gV [] zs) H2 Q E) := by
  refine ⟨fun pins s σ H Q I h => ?_⟩
  refine wpAny_Call_Name_kw (ld_glob I hg hm ?_ hdb)
  refine PySem.W.callWith_KW0 (h₀ := X.base) I.ok.mod.kin hk hall ?_ hpl
  refine thn (hkw.run pos pins s σ H _ I h) fun ws s2 ⟨zs, H2, I2, rz, l2, q2⟩ => ⟨I2.kIn, ?_⟩
  rw [hks]
  exact run_fnN (us := []) (vs := []) F hr hb hx I2 .nil rz rfl l2 q2
/-- a def that may be called by keywords alone -/
structure CalK (P : Program) (w : World) (K : PySem.W.Frag) (mg : Str → Option Value) (base : Heap) (k : Nat) (x : Str) (ks : List Str) (sp : Sp) : Prop where
  ex : ∃ (f : Addr) (fd : FuncData) (ps : List Str), FnOk P w K mg base CX0 k f fd ps sp ∧ mg x = some (.ref f) ∧ PySem.W.keepIn K (.ref f) = true ∧ KBn K fd ps 0 ks (fun _ ws => ws) (fun _ zs => zs)
theorem pe_ck {k j : Nat} {ks : List Str} {sp : Sp} {x : Str} {p pos : Pos} {kws : List Keyword} {tk : TA} (c : CalK X.prog X.w X.K X.mg X.base k x ks sp) (hr : Room j X.A) (hk : k ≤ j) (hg : Gl X x) (hkw : PK X kws tk)
    (hall : (backToKw pos (keywordEach kws X.env)).all (·.1.isSome) = true := by rfl) (hks : (backToKw pos (keywordEach kws X.env)).filterMap (·.1) = ks := by rfl) (hdb : (x == ("__debug__" : Str)) = false := by decide)
    (hpl : ((backTo pos (starEach [] X.env)).any (·.1) || (backToKw pos (keywordEach kws X.env)).any (·.1.isNone)) = false := by rfl) :
    PE X (.Call (.Name x p) [] kws pos) (fun σ H Q => tk σ H fun zs H2 => zs.length = ks.length ∧ sp zs H2 Q E0) := by
  obtain ⟨f, fd, ps, F, hm, hkp, hb⟩ := c.ex
  exact pe_kw0 F (hr.mono hk) hg hm hkp hb pass0 hkw hall hks hdb hpl
end
/-! ### digits -/
/-- the w binary digits of n, the highest first -/
def bitsW : Nat → Nat → List Nat
  | 0, _ => []
  | w + 1, n => bitsW w (n / 2) ++ [n % 2]
theorem bitsW_len : ∀ w n, (bitsW w n).length = w
  | 0, _ => rfl
  | w + 1, n => by rw [bitsW, List.length_append, bitsW_len w (n / 2)]; rfl
theorem bitsW_bit : ∀ w n, ∀ b ∈ bitsW w n, b < 2
  | 0, _, b, h => by cases h
  | w + 1, n, b, h => by
    rw [bitsW, List.mem_append] at h
    rcases h with h | h
    · exact bitsW_bit w _ b h
    · rw [List.mem_singleton] at h
      omega
theorem digit_code {b : Nat} (h : b < 2) : (Nat.digitChar b).toNat = 48 + b := by
  match b, h with
  | 0, _ => rfl
  | 1, _ => rfl
theorem binCodes_pow : ∀ w n, n < 2 ^ w → binCodes (2 ^ w + n) = 49 :: (bitsW w n).map (48 + ·)
  | 0, n, h => by
    have e : n = 0 := by omega
    subst e
    rfl
  | w + 1, n, h => by
    have p : 2 ^ (w + 1) = 2 * 2 ^ w := by rw [Nat.pow_succ, Nat.mul_comm]
    have g : 0 < 2 ^ w := Nat.two_pow_pos w
    have ih := binCodes_pow w (n / 2) (by omega)
    unfold binCodes at ih ⊢
    rw [Nat.toDigits_of_base_le (by decide) (by omega), List.map_append, show (2 ^ (w + 1) + n) / 2 = 2 ^ w + n / 2 by omega, ih, show (2 ^ (w + 1) + n) % 2 = n % 2 by omega, bitsW, List.map_append]
    show 49 :: _ ++ [(Nat.digitChar (n % 2)).toNat] = _
    rw [digit_code (Nat.mod_lt _ (by decide))]
    rfl
/-- the digits as numbers -/
def bitsI (w n : Nat) : List Int := (bitsW w n).map fun (b : Nat) => (b : Int)
theorem bitsI_len (w n : Nat) : (bitsI w n).length = w := by rw [bitsI, List.length_map, bitsW_len]
theorem digit_int {b : Nat} (h : b < 2) : PySem.intText? ⟨#[48 + b]⟩ = some (b : Int) := by
  match b, h with
  | 0, _ => decide +kernel
  | 1, _ => decide +kernel
theorem take_snoc {α : Type} {l : List α} {i : Nat} {x : α} (h : l[i]? = some x) : l.take i ++ [x] = l.take (i + 1) := by
  rw [List.take_add_one, h]
  rfl
end My
namespace My
open PySem PySem.Spec PyProof.Rows L2
/-! ### lists of numbers compared -/
theorem eqv_same {d : PyData} (h : SeqAt.shaped d = true) : PyData.eqv d d = true := SeqAt.eqv_refl d (SeqAt.canLay_of_shaped h)
theorem dpall_ints {K : PySem.W.Frag} {H : Hp} : ∀ ns : List Int, DpAll K H (ns.map V.int) (ns.map PyData.int)
  | [] => .nil
  | n :: r => .cons (.int n) (dpall_ints r)
theorem dp_ints {K : PySem.W.Frag} {H : Hp} {p : Addr} {ns : List Int} (h : SqL K H p (ns.map V.int)) : Dp K H (.ref p) (.list (ns.map PyData.int)) := .lst h (dpall_ints ns)
theorem sh_ints (ns : List Int) : SeqAt.shaped (.list (ns.map PyData.int)) = true := PySem.W.ke_shaped_ints ns
theorem q_eqI {K : PySem.W.Frag} {H : Hp} {p q : Addr} {ns : List Int} {Q : VK} (hp : H p = some (.lst (ns.map V.int))) (hq : H q = some (.lst (ns.map V.int))) (h : Q (.bl true) H) : rEqD K (.ref p) (.ref q) H Q :=
  ⟨_, _, dp_ints (.inl (.inl hp)), dp_ints (.inl (.inl hq)), sh_ints ns, sh_ints ns, by rw [eqv_same (sh_ints ns)]; exact h⟩
theorem q_neI {K : PySem.W.Frag} {H : Hp} {p q : Addr} {ns : List Int} {Q : VK} (hp : H p = some (.lst (ns.map V.int))) (hq : H q = some (.lst (ns.map V.int))) (h : Q (.bl false) H) : rNeD K (.ref p) (.ref q) H Q :=
  ⟨_, _, dp_ints (.inl (.inl hp)), dp_ints (.inl (.inl hq)), sh_ints ns, sh_ints ns, by rw [eqv_same (sh_ints ns)]; exact h⟩
/-! ### all but the source stays -/
def Up (a : Addr) (H H' : Hp) : Prop := ∀ b o, b ≠ a → H b = some o → H' b = some o
theorem Up.refl (a : Addr) (H : Hp) : Up a H H := fun _ _ _ h => h
theorem up_same {a : Addr} {H H' : Hp} (s : Same H H') : Up a H H' := fun b o _ h => s b o h
theorem But.up {a : Addr} {H H' : Hp} (u : But a H H') : Up a H H' := fun b o n h => (u b n).trans h
theorem Up.trans {a : Addr} {H H1 H2 : Hp} (u : Up a H H1) (v : Up a H1 H2) : Up a H H2 := fun b o n h => v b o n (u b o n h)
theorem Up.to {a : Addr} {G H H' : Hp} (u : Up a H H') (s : Same G H) (n : G a = none) : Same G H' := fun b o e => u b o (ne_of_none e n) (s b o e)
theorem Up.new {a p : Addr} {H H' : Hp} (u : Up a H H') (hs : Src H' a) (n : H' p = none) : H p = none := by
  cases e : H p with
  | none => rfl
  | some o =>
    have := u p o (hs.ne n).symm e
    rw [n] at this
    cases this
theorem src_keep {a p : Addr} {H : Hp} {o : HO} (n : a ≠ p) (h : Src H a) : Src (upd H p o) a := by
  obtain ⟨x, y, e, r⟩ := h
  exact ⟨x, y, by rw [upd_ne n]; exact e, r⟩
/-! ### digits by place -/
theorem bitsW_get : ∀ w n i, i < w → (bitsW w n)[i]? = some (n / 2 ^ (w - 1 - i) % 2)
  | 0, _, i, h => absurd h (Nat.not_lt_zero i)
  | w + 1, n, i, h => by
    rw [bitsW]
    by_cases e : i = w
    · subst e
      rw [List.getElem?_append_right (by rw [bitsW_len]; exact Nat.le_refl _), bitsW_len, show i - i = 0 by omega, show i + 1 - 1 - i = 0 by omega, Nat.pow_zero, Nat.div_one]
      rfl
    · rw [List.getElem?_append_left (by rw [bitsW_len]; omega), bitsW_get w (n / 2) i (by omega), Nat.div_div_eq_div_mul, show w + 1 - 1 - i = (w - 1 - i) + 1 by omega, Nat.pow_succ, Nat.mul_comm]
theorem bitsI_get {w n i : Nat} (h : i < w) : (bitsI w n)[i]? = some (((n / 2 ^ (w - 1 - i) % 2 : Nat)) : Int) := by
  rw [bitsI, List.getElem?_map, bitsW_get w n i h]
  rfl
end My
namespace My
open PySem PySem.Spec PyProof.Rows L2
section
variable {X : Cx}
/-- X(), X an own exception class without own __init__ -/
theorem pmk_none {C : Addr} {bmB : List Value} {B newId initId : String} {x : Str} {p pos : Pos} (F : ExcBaseFacts B newId initId bmB) (q : PySem.W.excIn X.K C bmB newId = true) (gC : X.mg x = some (.ref C)) (kC : PySem.W.keepIn X.K (.ref C) = true) (r : Raises X (.ref C)) (hg : Gl X x)
    (hdb : (x == ("__debug__" : Str)) = false := by decide) : PMk X (.Call (.Name x p) [] [] pos) (fun _ H Q => Q (.ref C) none H) := by
  intro pins s σ H Q I h
  refine wpAny_Call_Name_kw (ld_glob I hg gC (PySem.W.callWith_K0 I.kIn kC ?_) hdb)
  obtain ⟨bm, N, nm, qn, bs, hdct, sn, sub, ab, col, dd, k0, k1, k2, k3, k5, mN, hC, hN, hni, T⟩ := exc_obj I.kIn q
  exact wpAny_call_exc_subT F T hC hN hni (fun _ _ hm => mk_of I hm r h (I.hok.gone hm.new)) (Nat.zero_le _)
/-- isinstance of an own class against another one -/
theorem kit_ref {K : PySem.W.Frag} {C N : Addr} {b : Bool} (i : PySem.W.isClsIn K N = true) (t : PySem.W.typeIn K (.ref N) = some (.type "type")) (s : PySem.W.subIn K (.ref C) (.ref N) = some b) (n : b = false → PySem.W.subIn K (.ref C) (.ref C) = some true) :
    PySem.W.kitOne K (.ref C) (.ref N) = some b := by
  unfold PySem.W.kitOne
  by_cases e : ((Value.ref C) == (Value.ref N)) = true
  · rw [if_pos e]
    have e2 : C = N := Value.ref.inj (beq_iff_eq.mp e)
    subst e2
    cases b with
    | true => rfl
    | false =>
      rw [n rfl] at s
      cases s
  · rw [if_neg e]
    unfold PySem.W.kitCls
    have h : ((PySem.W.clsIn K N).isSome && PySem.W.typeIn K (.ref N) == some (.type "type")) = true := by
      rw [t, Bool.and_eq_true]
      exact ⟨i, by rfl⟩
    show (if _ then _ else _) = _
    rw [if_pos h]
    exact s
/-- an own exception class at C, as the top has written it -/
structure ECls (K : PySem.W.Frag) (mg : Str → Option Value) (x : Str) (C : Addr) : Prop where
  gC : mg x = some (.ref C)
  xC : PySem.W.excIn K C [.type "ValueError", .type "Exception", .type "BaseException", .type "object"] "ValueError.__new__" = true
  kC : PySem.W.keepIn K (.ref C) = true
  bC : PySem.W.subIn K (.ref C) (.type "BaseException") = some true
  tC : PySem.W.typeIn K (.ref C) = some (.type "type")
  ex : ExcC K C
  em : PySem.W.exmOne K (.ref C) (.ref C) = some true
/-- isinstance of the exception that a suite holds, its class told in the reading -/
theorem call_isE1 {a D : Addr} {oe : Obj} {cls : Value} {d : Option Addr} {pn : List (Addr × Obj)} (C : ExcC X.K D) (hz : Zc cls d oe) (hf : ∃ vs, oe.data = .fields vs) :
    CallR (X.suite a ((a, oe) :: pn)) (.builtin "isinstance") (fun xs H Q => cls = .ref D ∧ d = none ∧ rIsE X.K D a xs H Q) := by
  intro pins s σ H xs us Q I r h
  obtain ⟨e1, e2, h⟩ := h
  subst e1 e2
  exact call_isE C hz hf pins s σ H xs us Q I r h
end
end My
namespace My
open PySem PySem.Spec PyProof.Rows L2
/-! ### bit lengths, digits, values -/
def bl (n : Nat) : Nat := Builtin.Int.intBits (n : Int)
theorem bl_zero : bl 0 = 0 := rfl
theorem bl_pos {n : Nat} (h : 0 < n) : bl n = n.log2 + 1 := by
  unfold bl Builtin.Int.intBits
  rw [if_neg (by simp; omega), Int.natAbs_natCast]
theorem bl_lt (n : Nat) : n < 2 ^ bl n := by
  cases n with
  | zero => decide
  | succ n =>
    rw [bl_pos (Nat.succ_pos n)]
    exact Nat.lt_log2_self
theorem bl_le {n k : Nat} (h : n < 2 ^ k) : bl n ≤ k := PyProof.Rows.intBits_le (by rw [Int.natAbs_natCast]; exact h)
theorem bl_half {n : Nat} (h : 0 < n) : bl n = bl (n / 2) + 1 := by
  rw [bl_pos h]
  by_cases e : n = 1
  · subst e
    decide
  · rw [bl_pos (by omega), Nat.log2_def, if_pos (by omega)]
theorem bitsI_succ (w n : Nat) : bitsI (w + 1) n = bitsI w (n / 2) ++ [((n % 2 : Nat) : Int)] := by
  unfold bitsI
  rw [bitsW, List.map_append]
  rfl
def digs (n : Nat) : List Int := bitsI (bl n) n
theorem digs_zero : digs 0 = [] := rfl
theorem digs_step {n : Nat} (h : 0 < n) : digs n = digs (n / 2) ++ [((n % 2 : Nat) : Int)] := by
  unfold digs
  rw [bl_half h, bitsI_succ]
theorem digs_len (n : Nat) : (digs n).length = bl n := bitsI_len _ _
theorem digs_head : ∀ {n : Nat}, 0 < n → ∃ r, digs n = 1 :: r := by
  intro n
  induction n using Nat.strongRecOn with
  | _ n ih =>
    intro h
    rw [digs_step h]
    by_cases e : n = 1
    · subst e
      exact ⟨[], rfl⟩
    · obtain ⟨r, hr⟩ := ih (n / 2) (by omega) (by omega)
      rw [hr]
      exact ⟨r ++ [((n % 2 : Nat) : Int)], rfl⟩
def valI (xs : List Int) : Int := xs.foldl (fun v b => 2 * v + b) 0
theorem valI_snoc (xs : List Int) (b : Int) : valI (xs ++ [b]) = 2 * valI xs + b := by
  unfold valI
  rw [List.foldl_append]
  rfl
theorem valI_bits : ∀ w n, n < 2 ^ w → valI (bitsI w n) = n
  | 0, n, h => by
    have e : n = 0 := by omega
    subst e
    rfl
  | w + 1, n, h => by
    have p : 2 ^ (w + 1) = 2 * 2 ^ w := by rw [Nat.pow_succ, Nat.mul_comm]
    rw [bitsI_succ, valI_snoc, valI_bits w (n / 2) (by omega)]
    omega
theorem valI_digs (n : Nat) : valI (digs n) = n := valI_bits _ _ (bl_lt n)
theorem bitsI_bit {w n : Nat} {x : Int} (h : x ∈ bitsI w n) : 0 ≤ x ∧ x ≤ 1 := by
  obtain ⟨b, hb, rfl⟩ := List.mem_map.mp h
  have := bitsW_bit w n b hb
  omega
/-- all of them are bits -/
def AreBits (xs : List Int) : Prop := ∀ x ∈ xs, 0 ≤ x ∧ x ≤ 1
theorem AreBits.app {xs ys : List Int} (h : AreBits xs) (g : AreBits ys) : AreBits (xs ++ ys) := fun x m => by
  rcases List.mem_append.mp m with m | m
  · exact h x m
  · exact g x m
theorem AreBits.take {xs : List Int} (h : AreBits xs) (n : Nat) : AreBits (xs.take n) := fun x m => h x (List.mem_of_mem_take m)
theorem AreBits.zeros (n : Nat) : AreBits (List.replicate n 0) := fun x m => by
  rw [(List.mem_replicate.mp m).2]
  decide
/-- the code of a count -/
def code (c : Nat) : List Int := List.replicate (bl (c + 1) - 1) 0 ++ digs (c + 1)
theorem code_len (c : Nat) : (code c).length = 2 * bl (c + 1) - 1 := by
  have := bl_half (n := c + 1) (by omega)
  unfold code
  rw [List.length_append, List.length_replicate, digs_len]
  omega
theorem code_bits (c : Nat) : AreBits (code c) := (AreBits.zeros _).app fun _ m => bitsI_bit m
theorem flat_zeros (n : Nat) : (List.replicate n [V.int 0]).flatten = (List.replicate n (0 : Int)).map V.int := by
  induction n with
  | zero => rfl
  | succ n ih =>
    rw [List.replicate_succ, List.flatten_cons, ih, List.replicate_succ]
    rfl
theorem new_at {a p : Addr} {H : Hp} {o o' : HO} (h : H a = some o) (n : H p = none) : (upd H p o') a = some o := by
  rw [upd_ne (ne_of_none h n)]
  exact h
theorem cut_int {xs : List V} {x y : Int} {i k : Nat} (hx : x = (i : Int)) (hy : y = (k : Int)) (hik : i ≤ xs.length) (hk : k ≤ xs.length) : cutV xs (some x) (some y) = (xs.drop i).take (k - i) := by
  subst hx hy
  unfold cutV
  rw [HT.sIx_nat, HT.sIx_nat, Nat.min_eq_left hik, Nat.min_eq_left hk]
theorem cut_to {xs : List V} {y : Int} {k : Nat} (hy : y = (k : Int)) (hk : k ≤ xs.length) : cutV xs none (some y) = xs.take k := by
  subst hy
  unfold cutV
  rw [HT.sIx_none, HT.sIx_nat, Nat.min_eq_left hk, List.drop_zero, Nat.sub_zero]
theorem cut_any {xs : List V} {x y : Int} {i k : Nat} (hx : x = (i : Int)) (hy : y = (k : Int)) (hik : i ≤ xs.length) : cutV xs (some x) (some y) = (xs.drop i).take (k - i) := by
  subst hx hy
  unfold cutV
  rw [HT.sIx_nat, HT.sIx_nat, Nat.min_eq_left hik]
  by_cases h : k ≤ xs.length
  · rw [Nat.min_eq_left h]
  · rw [Nat.min_eq_right (by omega), List.take_of_length_le (by rw [List.length_drop]; omega), List.take_of_length_le (by rw [List.length_drop]; omega)]
/-! ### reading a count -/
/-- zeros ahead of the first 1 -/
def lz : List Int → Nat
  | [] => 0
  | x :: r => if x = 0 then lz r + 1 else 0
theorem lz_le : ∀ l : List Int, lz l ≤ l.length
  | [] => Nat.le_refl _
  | x :: r => by
    have := lz_le r
    simp only [lz, List.length_cons]
    split <;> omega
theorem lz_more : ∀ {l : List Int} {k : Nat}, k ≤ lz l → l[k]? = some 0 → k + 1 ≤ lz l
  | [], k, _, h => by simp at h
  | x :: r, 0, _, h => by
    have e : x = 0 := Option.some.inj h
    simp only [lz, e, if_true]
    omega
  | x :: r, k + 1, hk, h => by
    simp only [lz] at hk ⊢
    by_cases e : x = 0
    · rw [if_pos e] at hk ⊢
      have := lz_more (l := r) (k := k) (by omega) h
      omega
    · rw [if_neg e] at hk
      omega
theorem lz_stop : ∀ {l : List Int} {k : Nat} {x : Int}, k ≤ lz l → l[k]? = some x → x ≠ 0 → lz l = k
  | [], k, _, _, h, _ => by simp at h
  | y :: r, 0, x, _, h, hx => by
    have e : y = x := Option.some.inj h
    simp only [lz, e, if_neg hx]
  | y :: r, k + 1, x, hk, h, hx => by
    simp only [lz] at hk ⊢
    by_cases e : y = 0
    · rw [if_pos e] at hk ⊢
      have := lz_stop (l := r) (k := k) (x := x) (by omega) h hx
      omega
    · rw [if_neg e] at hk
      omega
theorem lz_zeros : ∀ (k : Nat) (l : List Int), lz (List.replicate k 0 ++ l) = k + lz l
  | 0, l => by simp
  | k + 1, l => by
    rw [List.replicate_succ, List.cons_append, lz, if_pos rfl, lz_zeros k l]
    omega
inductive RC where
  | long : RC
  | short : RC
  | read (v : Int) (stop : Nat) : RC
def readC (xs : List Int) (a : Nat) : RC :=
  if 40 < lz (xs.drop a) then .long else if xs.length < a + lz (xs.drop a) + 1 + lz (xs.drop a) then .short
  else .read (valI ((xs.drop (a + lz (xs.drop a))).take (lz (xs.drop a) + 1)) - 1) (a + lz (xs.drop a) + 1 + lz (xs.drop a))
def rcV : RC → List V
  | .long => [.str "long"]
  | .short => [.str "short"]
  | .read v s => [.str "read", .int v, .int s]
/-- a signed number of a count -/
def sgnR : RC → RC
  | .read v s => .read (if v % 2 = 0 then v / 2 else (-(v + 1)) / 2) s
  | r => r
theorem read_code {A B : List Int} {c : Nat} (h : c + 1 < 2 ^ 41) : readC (A ++ code c ++ B) A.length = .read c (A.length + (code c).length) := by
  obtain ⟨r, hr⟩ := digs_head (n := c + 1) (by omega)
  have l1 := bl_half (n := c + 1) (by omega)
  have l2 : bl (c + 1) ≤ 41 := bl_le h
  have e1 : (A ++ code c ++ B).drop A.length = List.replicate (bl (c + 1) - 1) 0 ++ (digs (c + 1) ++ B) := by
    rw [List.append_assoc, List.drop_left' rfl, code, List.append_assoc]
  have e2 : lz ((A ++ code c ++ B).drop A.length) = bl (c + 1) - 1 := by
    rw [e1, lz_zeros, hr]
    simp [lz]
  have e3 : (A ++ code c ++ B).drop (A.length + (bl (c + 1) - 1)) = digs (c + 1) ++ B := by
    rw [← List.drop_drop, e1, List.drop_left' (by rw [List.length_replicate])]
  have e4 : (digs (c + 1) ++ B).take (bl (c + 1) - 1 + 1) = digs (c + 1) := by
    rw [List.take_left' (by rw [digs_len]; omega)]
  unfold readC
  rw [e2, if_neg (by omega), if_neg (by rw [List.length_append, List.length_append, code_len]; omega), e3, e4, valI_digs, code_len]
  congr 1
  · omega
  · omega
theorem read_cut {A : List Int} {c t : Nat} (h : c + 1 < 2 ^ 41) (ht : t < (code c).length) : readC (A ++ (code c).take t) A.length = .short := by
  obtain ⟨r, hr⟩ := digs_head (n := c + 1) (by omega)
  have l1 := bl_half (n := c + 1) (by omega)
  have l2 : bl (c + 1) ≤ 41 := bl_le h
  rw [code_len] at ht
  have e0 : (A ++ (code c).take t).length = A.length + t := by
    rw [List.length_append, List.length_take, code_len]
    omega
  have e1 : (A ++ (code c).take t).drop A.length = (code c).take t := List.drop_left' rfl
  by_cases q : t ≤ bl (c + 1) - 1
  · have e2 : (code c).take t = List.replicate t 0 := by
      unfold code
      rw [List.take_append_of_le_length (by rw [List.length_replicate]; exact q), List.take_replicate, Nat.min_eq_left q]
    have e3 : lz ((A ++ (code c).take t).drop A.length) = t := by
      rw [e1, e2]
      have := lz_zeros t []
      rw [List.append_nil] at this
      rw [this]
      rfl
    unfold readC
    rw [e3, if_neg (by omega), if_pos (by rw [e0]; omega)]
  · have e2 : (code c).take t = List.replicate (bl (c + 1) - 1) 0 ++ (digs (c + 1)).take (t - (bl (c + 1) - 1)) := by
      unfold code
      rw [List.take_append, List.length_replicate, List.take_of_length_le (by rw [List.length_replicate]; omega)]
    have e3 : lz ((A ++ (code c).take t).drop A.length) = bl (c + 1) - 1 := by
      rw [e1, e2, lz_zeros, hr]
      obtain ⟨m, hm⟩ : ∃ m, t - (bl (c + 1) - 1) = m + 1 := ⟨t - (bl (c + 1) - 1) - 1, by omega⟩
      rw [hm, List.take_succ_cons]
      simp [lz]
    unfold readC
    rw [e3, if_neg (by omega), if_pos (by rw [e0]; omega)]
/-! ### what is told, as data -/
def rcD : RC → List PyData
  | .long => [.str "long"]
  | .short => [.str "short"]
  | .read v s => [.str "read", .int v, .int s]
theorem dp_rc {K : PySem.W.Frag} {H : Hp} {p : Addr} {r : RC} (h : H p = some (.tup (rcV r))) : Dp K H (.ref p) (.tuple (rcD r)) := by
  cases r with
  | long => exact .tup (.inl (.inl h)) (.cons (.str _) .nil)
  | short => exact .tup (.inl (.inl h)) (.cons (.str _) .nil)
  | read v s => exact .tup (.inl (.inl h)) (.cons (.str _) (.cons (.int _) (.cons (.int _) .nil)))
theorem sh_rc (r : RC) : SeqAt.shaped (.tuple (rcD r)) = true := by
  cases r with
  | long => decide +kernel
  | short => decide +kernel
  | read v s =>
    have h : PyData.canLay0 (.str "read") = true := by decide +kernel
    simp [SeqAt.shaped, rcD, PyData.canLay0, PyData.canLayAll0, PyData.depth, PyData.depthAll] at h ⊢
    try exact h
theorem q_neR {K : PySem.W.Frag} {H : Hp} {p q : Addr} {r : RC} {Q : VK} (hp : H p = some (.tup (rcV r))) (hq : H q = some (.tup (rcV r))) (h : Q (.bl false) H) : rNeD K (.ref p) (.ref q) H Q :=
  ⟨_, _, dp_rc hp, dp_rc hq, sh_rc r, sh_rc r, by rw [eqv_same (sh_rc r)]; exact h⟩
end My
namespace My
open PySem PySem.Spec PyProof.Rows L2
/-! ### several except clauses, each with a name -/
abbrev Clause := Value × Nat × (Addr → Value → Option Addr → TS)
def wAll (K : PySem.W.Frag) (Wout : WX) (D : Ends) : List Clause → WX
  | [] => Wout
  | (c, i, ts) :: more => wAs K c i ts (wAll K Wout D more) D
inductive Clauses (X : Cx) : List ExceptHandler → List Clause → Prop
  | done : Clauses X [] []
  | step {x n : Str} {c : Value} {i : Nat} {ts : Addr → Value → Option Addr → TS} {first : Stmt} {others : List Stmt} {p1 p2 : Pos} {hds : List ExceptHandler} {cs : List Clause}
      (cl : Names X x c) (slot : X.N[i]? = some n) (lo : X.env.kindOf n = some .local)
      (body : ∀ (a : Addr) (oe : Obj) (cls : Value) (d : Option Addr) (pn : List (Addr × Obj)), Zc cls d oe → (∃ vs, oe.data = .fields vs) → PSs (X.suite a ((a, oe) :: pn)) (first :: others) (ts a cls d))
      (more : Clauses X hds cs) : Clauses X (.ExceptHandler (some (.Name x p1)) (some n) (first :: others) p2 :: hds) ((c, i, ts) :: cs)
section
variable {X : Cx} {todo : List Stmt} {h0 : ExceptHandler} {hds : List ExceptHandler} {cs : List Clause} {pos : Pos} {tb : WX → TS} {Wout : WX}
theorem ps_try_all (e1 : X.stack = X.env :: X.outer) (e2 : X.env.frame = some X.env.locals) (nd : X.N.Nodup) (tk : Takes X Wout)
    (run : ∀ (W : WX) (pn : List (Addr × Obj)) (xe : Value → Shared → Prop), Takes (X.tr pn xe) W → PassesOwn (model X.prog X.w) X.A X.env xe → PSs (X.tr pn xe) todo (tb W))
    (all : Clauses X (h0 :: hds) cs) : PS X (.Try todo (h0 :: hds) [] [] pos) (fun D σ H => tb (wAll X.K Wout D cs) D σ H) := by
  constructor
  intro pins s σ H D I reading
  have here := I.ok
  have fr : X.A.frames = some (X.env :: X.outer) := by
    rw [here.frames, e1]
  apply wpAny_Try_except
  refine wpAny_mono ((run (wAll X.K Wout D cs) (X.pn ++ pins) _ (fun u t caught => ?landing) PassesOwn.looking).run [] s σ H D (I.toTry _) reading) (fun f t out => ?through) (fun _ _ z => z)
  case through =>
    cases f with
    | ret v =>
      obtain ⟨x, σ', H', J, rx, q⟩ := out
      exact ⟨x, σ', H', J.ofTry here, rx, q⟩
    | cont =>
      obtain ⟨σ', H', J, q⟩ := out
      exact ⟨σ', H', J.ofTry here, q⟩
    | brk =>
      obtain ⟨σ', H', J, q⟩ := out
      exact ⟨σ', H', J.ofTry here, q⟩
    | next =>
      obtain ⟨σ', H', J, q⟩ := out
      exact wpAny_execs_nil ⟨σ', H', J.ofTry here, q⟩
  case landing =>
    obtain ⟨a, B, sI, old, σ', H', cls, d, rfl, J0, nb, grown, sky0, fresh, os, bare, wish⟩ := caught
    have J : Inv X pins σ' H' sI := J0.ofTry here
    have sky : Sky B (X.env :: X.outer) a (Zc cls d) X.env.locals t.heap := e1 ▸ sky0
    refine Sky.land Zc.steady fr e2 sky (fun g fly up => ?_)
    have JG : Inv X pins σ' H' { t with heap := g } := J.landed nb fly.1 (grown.trans up) os bare
    obtain ⟨oe, vs, hoe, hz, hdat⟩ := fly.there
    have apart : a ∉ frs (X.env :: X.outer) := by
      intro m
      obtain ⟨_, o2, g2, no⟩ := fly.2.2.1.mem m
      rw [hoe] at g2
      cases g2
      exact no _ hdat
    have aL : a ≠ X.env.locals := by
      intro z
      exact apart (List.mem_filterMap.mpr ⟨X.env, List.mem_cons_self, by rw [e2, z]⟩)
    have aF : a ∉ X.fs := by
      intro m
      obtain ⟨ev, me, q⟩ := List.mem_filterMap.mp m
      exact apart (List.mem_filterMap.mpr ⟨ev, List.mem_cons_of_mem _ me, q⟩)
    have SG := JG.suite hoe hdat fresh aL aF
    have goOn : ∀ {hs2 : List ExceptHandler} {cs2 : List Clause}, Clauses X hs2 cs2 → wAll X.K Wout D cs2 cls d σ' H' → wpAny (model X.prog X.w) X.A (handleBy (.ref a) X.env hs2) (SP X pins D) X.xe { t with heap := g } := by
      intro hs2 cs2 k
      induction k with
      | done =>
        intro wsh
        apply wpAny_handleBy_nil
        obtain ⟨_, _, _, ob, fs, T, oT, ts', g1, z1, d1, f1, _⟩ := id fly
        have leave : wpAny (model X.prog X.w) X.A (setFlight (.ref a) X.env.frame) (fun _ t2 => wpAny (model X.prog X.w) X.A (throw (.ref a) : Sem Flow) (SP X pins D) X.xe t2) X.xe { t with heap := g } := by
          rw [e2]
          exact HandSPX.setFlight_upZ fly fun g3 fly3 up3 => wpAny_throw (tk _ _ ⟨a, B, sI, pins, σ', H', cls, d, rfl, J, nb, (grown.trans up).trans up3, .inr (.inr (e1.symm ▸ fly3)), fresh, os, bare, wsh⟩)
        unfold PySem.passOn
        apply wpAny_bind
        refine wpAny_field g1 d1 f1 ?_
        rw [if_neg (by simp)]
        first
          | exact wpAny_bind leave
          | exact wpAny_bind (wpAny_pure (wpAny_bind leave))
      | @step x n c i ts fst oth p1 p2 hs3 cs3 cl slot lo body more ih =>
        intro wsh
        obtain ⟨b, hb, yes, no⟩ := wsh
        have tyOf : PySem.W.Looks (model X.prog X.w) g (typeOf (.ref a)) cls := fun _ _ _ _ k q => wpAny_typeOf_ref (k _ _ hoe) (hz.1.symm ▸ q)
        have ask := PySem.W.exm_one (M := model X.prog X.w) JG.kIn tyOf hb
        refine wpAny_handleBy_cons (codeAny_handlers_test ?_) (fun z => by cases z)
        have named : ∀ {Q : Value → Shared → Prop} {E : Value → Shared → Prop}, Q c { t with heap := g } → wpAny (model X.prog X.w) (X.A.mark (some (.ref a))) (eval (.Name x p1) X.env) Q E { t with heap := g } := by
          intro Q E q
          obtain ⟨isG, nodbg, isM | ⟨isM, isB, nn⟩⟩ := cl
          · exact ld_glob (X := X.suite a ((a, oe) :: (X.pn ++ pins))) SG isG isM q nodbg
          · exact ld_blt (X := X.suite a ((a, oe) :: (X.pn ++ pins))) SG isG isM isB q nn nodbg
        refine named (ask.here ?_)
        cases b with
        | false => exact ih (no rfl)
        | true =>
          apply codeAny_handlers_suite_as
          refine HandSPX.lands_againZ fly (fun g4 fly4 up4 => ?_)
          have J4 : Inv X pins σ' H' { t with heap := g4 } := J.landed nb fly4.1 ((grown.trans up).trans up4) os bare
          obtain ⟨oe4, vs4, hoe4, hz4, hdat4⟩ := fly4.there
          have S4 := J4.suite hoe4 hdat4 fresh aL aF
          refine store_ok (X := X.suite a ((a, oe4) :: (X.pn ++ pins))) (v := .ref a) S4 nd slot (.inl lo) rfl (fun t5 S5 => ?_) (.inr lo)
          refine wpAny_mono ((body a oe4 cls d (X.pn ++ pins) hz4 ⟨_, hdat4⟩).run [] t5 _ H' _ S5 (yes rfl a fresh)) (fun f t6 out => ?_) (fun _ _ z => z.elim)
          have unname : ∀ {σ6 : L2.St} {H6 : Hp} {Q : Shared → Prop}, Inv (X.suite a ((a, oe4) :: (X.pn ++ pins))) [] σ6 H6 t6 → (∀ t7, Inv X pins (σ6.set i none) H6 t7 → Q t7) →
              wpAny (model X.prog X.w) X.A (do bindName X.env n .none; unbindBehindTheSuite X.env n p2) (fun _ t7 => Q t7) X.xe t6 := by
            intro σ6 H6 Q S6 hq
            exact gone_ok (S6.unsuite here) nd slot lo hq
          cases f with
          | ret u =>
            obtain ⟨v6, σ6, H6, S6, r6, q6⟩ := out
            exact unname S6 fun t7 J7 => ⟨v6, _, _, J7, r6, q6⟩
          | cont =>
            obtain ⟨σ6, H6, S6, q6⟩ := out
            exact unname S6 fun t7 J7 => ⟨_, _, J7, q6⟩
          | brk =>
            obtain ⟨σ6, H6, S6, q6⟩ := out
            exact unname S6 fun t7 J7 => ⟨_, _, J7, q6⟩
          | next =>
            obtain ⟨σ6, H6, S6, q6⟩ := out
            exact unname S6 fun t7 J7 => ⟨_, _, J7, q6⟩
    exact goOn all wish
end
end My
namespace My
open PySem PySem.Spec PyProof.Rows L2
local macro_rules | `(tactic| walk_at "sq") => `(tactic| first | assumption | exact .inl (.inl (by assumption)) | exact .inl (.inl upd_same))
local macro_rules | `(tactic| walk_at "st") => `(tactic| first
  | refine ⟨_, rfl, ?_⟩
  | refine ⟨_, _, rfl, rfl, ?_⟩
  | refine ⟨cmull (by omega) (by omega), ?_⟩
  | refine ⟨cmulr (by omega) (by omega), ?_⟩
  | refine ⟨cdivw (by omega) (by omega), ?_⟩
  | refine ⟨(⟨by decide, by decide⟩ : CDiv _ _), ?_⟩
  | refine ⟨(show (0 : Int) < _ by omega), ?_⟩
  | refine ⟨(show (0 : Int) ≤ _ by omega), ?_⟩
  | refine ⟨(⟨by decide, by decide, by decide⟩ : CPow _ _), ?_⟩
  | refine ⟨(⟨by omega, by omega, by omega⟩ : CPow _ _), ?_⟩
  | refine .inl ⟨_, rfl, ?_⟩
  | refine .inr ⟨_, rfl, ?_⟩
  | refine ⟨_, _, _, _, _, rfl, .ty _, .base (.int _), kit_ii, ?_⟩
  | refine ⟨_, _, _, _, _, rfl, .ty _, .base (.int _), kit_ib, ?_⟩
  | refine ⟨_, _, _, _, _, rfl, .ty _, .base (.tup (by assumption)), kit_tt, ?_⟩
  | refine ⟨_, _, _, _, _, rfl, .ty _, .base (.lst (by assumption)), kit_ll, ?_⟩
  | refine iteT ?_
  | refine iteF ?_
  | refine ⟨_, _, rfl, .inl (.inl (by first | assumption | exact upd_same)), rfl, ?_⟩
  | refine ⟨_, _, rfl, ?_⟩
  | refine ⟨cmulr (by split <;> decide) (by split <;> decide), ?_⟩
  | refine ⟨_, _, rfl, .inl (by walk_at "sq"), ?_⟩
  | refine ⟨_, _, rfl, .inr (by walk_at "sq"), ?_⟩
  | refine ⟨_, _, _, _, rfl, rfl, (by walk_at "sq"), rfl, ?_⟩
  | refine ⟨rfl, ?_⟩
  | (refine ite2 (fun hc => ?_) (fun hc => ?_) <;> (try simp only [decide_eq_true_eq, Bool.not_eq_true', decide_eq_false_iff_not, Bool.not_eq_true, Bool.not_eq_false', Bool.false_eq_true, reduceCtorEq, V.int.injEq, not_true_eq_false, not_false_eq_true] at hc) <;> (try (exfalso; omega))))
local macro_rules | `(tactic| walk_at "ev") => `(tactic| repeat' walk_at "st")
def top (i : Nat) : Stmt := PySem.Challenge.pw_narrowingbits_k03_long_ones_and_places.main.body.getD i (.Pass ⟨0, 0, 0, 0⟩)
abbrev s_is_number : Stmt := top 6
theorem sc_is_number : FnScope ["thing"] ["thing"] (defScope s_is_number) := ⟨rfl, rfl, rfl, by decide +kernel, rfl, by decide +kernel, by decide +kernel⟩
abbrev s_check_bits : Stmt := top 7
theorem sc_check_bits : FnScope ["bits", "bit"] ["bits"] (defScope s_check_bits) := ⟨rfl, rfl, rfl, by decide +kernel, rfl, by decide +kernel, by decide +kernel⟩
abbrev s_number_of : Stmt := top 8
theorem sc_number_of : FnScope ["bits", "number", "bit"] ["bits"] (defScope s_number_of) := ⟨rfl, rfl, rfl, by decide +kernel, rfl, by decide +kernel, by decide +kernel⟩
abbrev s_count_at : Stmt := top 9
theorem sc_count_at : FnScope ["bits", "at", "one", "zeros", "stop"] ["bits", "at"] (defScope s_count_at) := ⟨rfl, rfl, rfl, by decide +kernel, rfl, by decide +kernel, by decide +kernel⟩
abbrev s_signed_at : Stmt := top 10
theorem sc_signed_at : FnScope ["bits", "at", "told", "word", "count", "stop"] ["bits", "at"] (defScope s_signed_at) := ⟨rfl, rfl, rfl, by decide +kernel, rfl, by decide +kernel, by decide +kernel⟩
abbrev s_check_place : Stmt := top 11
theorem sc_check_place : FnScope ["bits", "at"] ["bits", "at"] (defScope s_check_place) := ⟨rfl, rfl, rfl, by decide +kernel, rfl, by decide +kernel, by decide +kernel⟩
abbrev s_read_count : Stmt := top 12
theorem sc_read_count : FnScope ["bits", "at"] ["bits", "at"] (defScope s_read_count) := ⟨rfl, rfl, rfl, by decide +kernel, rfl, by decide +kernel, by decide +kernel⟩
abbrev s_read_signed : Stmt := top 13
theorem sc_read_signed : FnScope ["bits", "at"] ["bits", "at"] (defScope s_read_signed) := ⟨rfl, rfl, rfl, by decide +kernel, rfl, by decide +kernel, by decide +kernel⟩
abbrev s_law_pool : Stmt := top 15
theorem sc_law_pool : FnScope ["_law_script", "_law_k", "_law_cell", "_law_big", "_law_mixed"] ["_law_script", "_law_k"] (defScope s_law_pool) := ⟨rfl, rfl, rfl, by decide +kernel, rfl, by decide +kernel, by decide +kernel⟩
abbrev s_law_take : Stmt := top 16
theorem sc_law_take : FnScope ["_law_source", "_law_most", "_law_drawn"] ["_law_source", "_law_most"] (defScope s_law_take) := ⟨rfl, rfl, rfl, by decide +kernel, rfl, by decide +kernel, by decide +kernel⟩
abbrev s_law_one : Stmt := top 17
theorem sc_law_one : FnScope ["_law_source", "_law_things"] ["_law_source", "_law_things"] (defScope s_law_one) := ⟨rfl, rfl, rfl, by decide +kernel, rfl, by decide +kernel, by decide +kernel⟩
abbrev s_law_bits : Stmt := top 18
theorem sc_law_bits : FnScope ["_law_source", "_law_most", "_law_turn"] ["_law_source", "_law_most"] (defScope s_law_bits) := ⟨rfl, rfl, rfl, by decide +kernel, rfl, by decide +kernel, by decide +kernel⟩
abbrev s_law_list : Stmt := top 19
theorem sc_law_list : FnScope ["_law_source", "_law_near", "_law_many", "_law_last"] ["_law_source"] (defScope s_law_list) := ⟨rfl, rfl, rfl, by decide +kernel, rfl, by decide +kernel, by decide +kernel⟩
abbrev s_law_read : Stmt := top 20
theorem sc_law_read : FnScope ["_law_bits_here", "_law_at", "_law_zeros", "_law_digits", "_law_number", "_law_one_here"] ["_law_bits_here", "_law_at"] (defScope s_law_read) := ⟨rfl, rfl, rfl, by decide +kernel, rfl, by decide +kernel, by decide +kernel⟩
abbrev s_law_signed : Stmt := top 21
theorem sc_law_signed : FnScope ["_law_told", "_law_count"] ["_law_told"] (defScope s_law_signed) := ⟨rfl, rfl, rfl, by decide +kernel, rfl, by decide +kernel, by decide +kernel⟩
abbrev s_law_word : Stmt := top 22
theorem sc_law_word : FnScope ["_law_is_signed", "_law_bits_here", "_law_at", "_law_told", "e"] ["_law_is_signed", "_law_bits_here", "_law_at"] (defScope s_law_word) := ⟨rfl, rfl, rfl, by decide +kernel, rfl, by decide +kernel, by decide +kernel⟩
abbrev s_law_refused_right : Stmt := top 23
theorem sc_law_refused_right : FnScope ["_law_source", "_law_bits_here", "_law_far", "_law_spoilt", "_law_at", "_law_is_signed", "_law_place"] ["_law_source", "_law_bits_here"] (defScope s_law_refused_right) := ⟨rfl, rfl, rfl, by decide +kernel, rfl, by decide +kernel, by decide +kernel⟩
abbrev s_law : Stmt := top 24
theorem sc_law : FnScope ["_law_script", "_law_k", "_law_source", "_law_bits_here", "_law_kept", "_law_at", "_law_due", "_law_ends"] ["_law_script"] (defScope s_law) := ⟨rfl, rfl, rfl, by decide +kernel, rfl, by decide +kernel, by decide +kernel⟩
section
variable {P : Program} {w : World} {K : PySem.W.Frag} {mg : Str → Option Value} {base : Heap}
structure Txt (mg : Str → Option Value) : Prop where
  z_int : mg "int" = none
  z_len : mg "len" = none
  z_max : mg "max" = none
  z_min : mg "min" = none
  z_range : mg "range" = none
  z_isinstance : mg "isinstance" = none
  z_bool : mg "bool" = none
  z_list : mg "list" = none
/-! ### a draw -/
def spTake : Sp := fun vs H Q _ => ∃ (a : Addr) (m : Int), vs = [.ref a, .int m] ∧ Src H a ∧ 0 < m ∧ m < 18446744073709551616 ∧ ∀ (r : Int) (H' : Hp), 0 ≤ r → r < m → Src H' a → But a H H' → Q (.int r) H'
theorem ok_take {f : Addr} {fd : FuncData} {k : Nat} (F : Fun K "_law_take" "_law_take" s_law_take f fd) (T : Txt mg) : FnOk P w K mg base CX0 (k + 1) f fd ["_law_source", "_law_most"] spTake := by
  refine F.ok sc_law_take (fun vs H Q E h => ?_) (fun cdv A outer s H vs Q E hr h => ?_)
  · obtain ⟨a, m, rfl, _⟩ := h
    rfl
  · obtain ⟨a, m, rfl, ⟨x, y, ha, hx, hy, hy2⟩, hm, hm2, q⟩ := h
    refine ⟨_, (pss_cons (ps_if (pt_cmpR op_gt (pe_ix ix_list (pv 0) pe_int (fun _ _ => rfl)) pe_int (nomark _)) (pss_cons (ps_set (i := 2) sc_law_take.nd rfl (Or.inl rfl) (pe_op op_mod (pe_callTy call_int1 (by rfl) T.z_int PyProof.Rows.boot_int (pa_cons (pe_ix ix_list (pv 0) pe_int (fun _ _ => rfl)) pa_nil)) (pv 1)))
    (pss_cons (ps_asg (pe_op op_fdivW (pe_ix ix_list (pv 0) pe_int (fun _ _ => rfl)) (pv 1)) (pg_sub (pv 0) pe_int set_list))
    (pss_one (ps_ret (pv 2))))) pss_nil)
    (pss_cons (ps_asg (pe_op op_mod (pe_callTy call_int1 (by rfl) T.z_int PyProof.Rows.boot_int (pa_cons (pe_op op_add (pe_op op_mul (pe_ix ix_list (pv 0) pe_int (fun _ _ => rfl)) pe_int) pe_int) pa_nil)) pe_int) (pg_sub (pv 0) pe_int set_list))
    (pss_one (ps_ret (pe_op op_mod (pe_callTy call_int1 (by rfl) T.z_int PyProof.Rows.boot_int (pa_cons (pe_op op_fdiv (pe_op op_mod (pe_callTy call_int1 (by rfl) T.z_int PyProof.Rows.boot_int (pa_cons (pe_op op_mul (pe_ix ix_list (pv 0) pe_int (fun _ _ => rfl)) (pe_ix ix_list (pv 0) pe_int (fun _ _ => rfl))) pa_nil)) pe_int) pe_int) pa_nil)) (pv 1)))))), ?_⟩
    walk_at "ev"
    · refine q _ _ (Int.emod_nonneg _ (by omega)) (Int.emod_lt_of_pos _ hm) ⟨_, _, upd_same, Int.ediv_nonneg hx (by omega), hy, hy2⟩ But.upd
    · refine q _ _ (Int.emod_nonneg _ (by omega)) (Int.emod_lt_of_pos _ hm) ⟨_, _, upd_same, hx, Int.emod_nonneg _ (by omega), Int.emod_lt_of_pos _ (by omega)⟩ But.upd
/-! ### the pool of a cell -/
def spPool (K : PySem.W.Frag) : Sp := fun vs H Q _ => ∃ (a : Addr) (ns : List Int) (k : Int), vs = [.ref a, .int k] ∧ SqL K H a (ns.map V.int) ∧ 0 ≤ k ∧ k < 100 ∧ ∀ (p : Addr) (H' : Hp), H p = none → Same H H' → Src H' p → Q (.ref p) H'
theorem ok_pool {f : Addr} {fd : FuncData} {k : Nat} (F : Fun K "_law_pool" "_law_pool" s_law_pool f fd) (T : Txt mg) : FnOk P w K mg base CX0 (k + 1) f fd ["_law_script", "_law_k"] (spPool K) := by
  refine F.ok sc_law_pool (fun vs H Q E h => ?_) (fun cdv A outer s H vs Q E hr h => ?_)
  · obtain ⟨a, ns, k, rfl, _⟩ := h
    rfl
  · obtain ⟨a, ns, k, rfl, hS, hk, hk2, q⟩ := h
    refine ⟨_, (pss_cons (ps_set (i := 2) sc_law_pool.nd rfl (Or.inl rfl) pe_int)
    (pss_cons (ps_if (pt_cmpR op_lt (pv 1) (pe_callB call_len_seq (by rfl) T.z_len PySem.boot_len (pa_cons (pv 0) pa_nil)) (nomark _)) (pss_one (ps_set (i := 2) sc_law_pool.nd rfl (Or.inl rfl) (pe_ix ix_list (pv 0) (pv 1) (fun _ _ => rfl)))) pss_nil)
    (pss_cons (ps_set (i := 3) sc_law_pool.nd rfl (Or.inl rfl) (pe_callB (call_max2 rfl) (by rfl) T.z_max PyProof.Rows.boot_max (pa_cons (pe_callTy call_int1 (by rfl) T.z_int PyProof.Rows.boot_int (pa_cons (pv 2) pa_nil)) (pa_cons (pe_callTy call_int1 (by rfl) T.z_int PyProof.Rows.boot_int (pa_cons (pe_op op_sub (pe_un un_neg pe_int) (pv 2)) pa_nil)) pa_nil))))
    (pss_cons (ps_set (i := 4) sc_law_pool.nd rfl (Or.inl rfl) (pe_op op_mod (pe_callTy call_int1 (by rfl) T.z_int PyProof.Rows.boot_int (pa_cons (pe_op op_mul (pe_op op_add (pe_op op_add (pe_op op_add (pe_op op_mod (pe_callTy call_int1 (by rfl) T.z_int PyProof.Rows.boot_int (pa_cons (pv 3) pa_nil)) pe_int) (pe_op op_mul (pe_op op_mul pe_int (pv 1)) (pv 1))) (pe_op op_mul pe_int (pv 1))) pe_int) pe_int) pa_nil)) pe_int))
    (pss_one (ps_ret (pe_lst (pa_cons (pe_op op_mul (pv 3) (pe_callTy call_int1 (by rfl) T.z_int PyProof.Rows.boot_int (pa_cons (pe_cmpR op_ge (pv 3) (pe_op (op_powc (a := 10) (b := 18) (c := 1000000000000000000) ⟨by decide, by decide, by decide⟩ (by decide +kernel)) pe_int pe_int) (nomark _)) pa_nil))) (pa_cons (pv 4) pa_nil))))))))), ?_⟩
    walk_at "ev"
    · obtain ⟨z, hz⟩ := at_lt hk (by assumption)
      refine ⟨_, _, _, _, rfl, rfl, hS, hz, ?_⟩
      walk_at "ev"
      refine ⟨(by show 2 ≤ sizeLine; decide), fun p np => q p _ np (same_upd np) ⟨_, _, upd_same, pool_nn _ _, Int.emod_nonneg _ (by omega), Int.emod_lt_of_pos _ (by omega)⟩⟩
    · refine ⟨(by show 2 ≤ sizeLine; decide), fun p np => q p _ np (same_upd np) ⟨_, _, upd_same, pool_nn _ _, Int.emod_nonneg _ (by omega), Int.emod_lt_of_pos _ (by omega)⟩⟩
/-! ### one of some things -/
def spOne : Sp := fun vs H Q _ => ∃ (a t : Addr) (xs : List V), vs = [.ref a, .ref t] ∧ Src H a ∧ t ≠ a ∧ H t = some (.lst xs) ∧ xs ≠ [] ∧ xs.length ≤ 1000 ∧ ∀ (v : V) (H' : Hp), v ∈ xs → Src H' a → But a H H' → Q v H'
theorem ok_one {f : Addr} {fd : FuncData} {k : Nat} (F : Fun K "_law_one" "_law_one" s_law_one f fd) (T : Txt mg) (c_law_take : C8.Cal P w K mg base 1 "_law_take" spTake []) : FnOk P w K mg base CX0 (k + 2) f fd ["_law_source", "_law_things"] spOne := by
  refine F.ok sc_law_one (fun vs H Q E h => ?_) (fun cdv A outer s H vs Q E hr h => ?_)
  · obtain ⟨a, t, xs, rfl, _⟩ := h
    rfl
  · obtain ⟨a, t, xs, rfl, ha, hta, ht, hx, hl, q⟩ := h
    refine ⟨_, (pss_one (ps_ret (pe_ix ix_list (pv 1) (C8.pe_c c_law_take hr (by omega) (by rfl) (pa_cons (pv 0) (pa_cons (pe_callB call_len_seq (by rfl) T.z_len PySem.boot_len (pa_cons (pv 1) pa_nil)) pa_nil))) (fun _ _ => rfl)))), ?_⟩
    walk_at "ev"
    have hp : 0 < xs.length := List.length_pos_iff.mpr hx
    refine ⟨ha, (by omega), (by omega), fun r H' h0 h1 s1 u1 => ?_⟩
    obtain ⟨v, hv, hm⟩ := at_mem (xs := xs) h0 h1
    exact ⟨_, _, _, _, rfl, rfl, .inl (.inl (u1.at hta ht)), hv, q v H' hm s1 u1⟩
/-! ### bits -/
def spIsNum : Sp := fun vs H Q _ => ∃ (z : Int), vs = [.int z] ∧ Q (.bl true) H
theorem ok_is_number {f : Addr} {fd : FuncData} {k : Nat} (F : Fun K "is_number" "is_number" s_is_number f fd) (T : Txt mg) : FnOk P w K mg base CX0 (k + 1) f fd ["thing"] spIsNum := by
  refine F.ok sc_is_number (fun vs H Q E h => ?_) (fun cdv A outer s H vs Q E hr h => ?_)
  · obtain ⟨z, rfl, _⟩ := h
    rfl
  · obtain ⟨z, rfl, q⟩ := h
    refine ⟨_, (pss_one (ps_ret (pe_and (pe_callB call_isi (by rfl) T.z_isinstance PyProof.Rows.boot_isinstance (pa_cons (pv 0) (pa_cons (pe_bltn (v := .ty "int") (by rfl) T.z_int PyProof.Rows.boot_int rfl) pa_nil))) (pe_one (pe_not (pe_callB call_isi (by rfl) T.z_isinstance PyProof.Rows.boot_isinstance (pa_cons (pv 0) (pa_cons (pe_bltn (v := .ty "bool") (by rfl) T.z_bool PyProof.Rows.boot_bool rfl) pa_nil)))))))), ?_⟩
    walk_at "ev"
    exact q
def spCheckB : Sp := fun vs H Q _ => ∃ (p : Addr) (xs : List Int), vs = [.ref p] ∧ H p = some (.lst (xs.map V.int)) ∧ AreBits xs ∧ Q .non H
theorem ok_check_bits {f : Addr} {fd : FuncData} {k : Nat} (F : Fun K "check_bits" "check_bits" s_check_bits f fd) (c_is_number : C8.Cal P w K mg base 1 "is_number" spIsNum []) : FnOk P w K mg base CX0 (k + 2) f fd ["bits"] spCheckB := by
  refine F.ok sc_check_bits (fun vs H Q E h => ?_) (fun cdv A outer s H vs Q E hr h => ?_)
  · obtain ⟨p, xs, rfl, _⟩ := h
    rfl
  · obtain ⟨p, xs, rfl, hp, hb, q⟩ := h
    refine ⟨_, (pss_one (ps_for PassesOwn.never rfl (pi_list (pv 0)) (pg_name (i := 1) sc_check_bits.nd rfl (Or.inl rfl))
      (pss_one (ps_if (PW.pt (pw_or (pt_not (pt_val (C8.pe_c c_is_number hr (by omega) (by rfl) (pa_cons (pv 1) pa_nil)))) (pw_or1 (pt_not (pt_chain op_le op_le pe_int (pv 1) pe_int))))) (pss_one ps_never) pss_nil)))), ?_⟩
    walk_at "ev"
    refine ⟨⟨_, .inl (.inl hp)⟩, for_list (K := K) (a := p) (xs := xs.map V.int) (fun _ σ H1 => ∃ v, σ = [some (.ref p), v] ∧ H1 = H) ⟨_, rfl, rfl⟩ (fun _ _ _ _ ⟨_, _, e⟩ => by rw [e]; exact .inl (.inl hp)) ?_ ?_⟩
    · rintro i x σ H1 hx ⟨v, rfl, rfl⟩
      rw [List.getElem?_map] at hx
      obtain ⟨z, hz, rfl⟩ := Option.map_eq_some_iff.mp hx
      have hz2 := hb z (List.mem_of_getElem? hz)
      walk_at "ev"
      rfl
    · rintro σ H1 ⟨v, rfl, rfl⟩
      exact q
def spNumber : Sp := fun vs H Q _ => ∃ (p : Addr) (xs : List Int), vs = [.ref p] ∧ H p = some (.lst (xs.map V.int)) ∧ Q (.int (valI xs)) H
theorem ok_number_of {f : Addr} {fd : FuncData} {k : Nat} (F : Fun K "number_of" "number_of" s_number_of f fd) : FnOk P w K mg base CX0 (k + 1) f fd ["bits"] spNumber := by
  refine F.ok sc_number_of (fun vs H Q E h => ?_) (fun cdv A outer s H vs Q E hr h => ?_)
  · obtain ⟨p, xs, rfl, _⟩ := h
    rfl
  · obtain ⟨p, xs, rfl, hp, q⟩ := h
    refine ⟨_, (pss_cons (ps_set (i := 1) sc_number_of.nd rfl (Or.inl rfl) pe_int)
    (pss_cons (ps_for PassesOwn.never rfl (pi_list (pv 0)) (pg_name (i := 2) sc_number_of.nd rfl (Or.inl rfl))
      (pss_one (ps_set (i := 1) sc_number_of.nd rfl (Or.inl rfl) (pe_op op_add (pe_op op_mul pe_int (pv 1)) (pv 2)))))
    (pss_one (ps_ret (pv 1))))), ?_⟩
    walk_at "ev"
    refine ⟨⟨_, .inl (.inl hp)⟩, for_list (K := K) (a := p) (xs := xs.map V.int) (fun i σ H1 => ∃ v, σ = [some (.ref p), some (.int (valI (xs.take i))), v] ∧ H1 = H) ⟨_, rfl, rfl⟩ (fun _ _ _ _ ⟨_, _, e⟩ => by rw [e]; exact .inl (.inl hp)) ?_ ?_⟩
    · rintro i x σ H1 hx ⟨v, rfl, rfl⟩
      rw [List.getElem?_map] at hx
      obtain ⟨z, hz, rfl⟩ := Option.map_eq_some_iff.mp hx
      walk_at "ev"
      refine ⟨some (.int z), ?_, rfl⟩
      rw [← take_snoc hz, valI_snoc]
      rfl
    · rintro σ H1 ⟨v, rfl, rfl⟩
      walk_at "ev"
      rw [List.length_map, List.take_length]
      exact q
def spCountAt : Sp := fun vs H Q _ => ∃ (p : Addr) (xs : List Int) (a : Nat), vs = [.ref p, .int a] ∧ H p = some (.lst (xs.map V.int)) ∧ AreBits xs ∧ a ≤ xs.length ∧ xs.length ≤ 1000 ∧ ∀ (q : Addr) (H' : Hp), H q = none → Same H H' → H' q = some (.tup (rcV (readC xs a))) → Q (.ref q) H'
theorem ok_count_at {f : Addr} {fd : FuncData} {k : Nat} {t : Tok} (F : Fun K "count_at" "count_at" s_count_at f fd) (T : Txt mg) (hZ : mg "MOST_ZEROS" = some (.int 40 t)) (c_number_of : C8.Cal P w K mg base 1 "number_of" spNumber []) : FnOk P w K mg base CX0 (k + 2) f fd ["bits", "at"] spCountAt := by
  refine F.ok sc_count_at (fun vs H Q E h => ?_) (fun cdv A outer s H vs Q E hr h => ?_)
  · obtain ⟨p, xs, a, rfl, _⟩ := h
    rfl
  · obtain ⟨p, xs, a, rfl, hp, hb, ha, hl, q⟩ := h
    have hz := lz_le (xs.drop a)
    rw [List.length_drop] at hz
    refine ⟨_, (pss_cons (ps_set (i := 2) sc_count_at.nd rfl (Or.inl rfl) (pv 1))
    (pss_cons (ps_while PassesOwn.never (PW.pt (pw_and (pt_cmpR op_lt (pv 2) (pe_callB call_len_seq (by rfl) T.z_len PySem.boot_len (pa_cons (pv 0) pa_nil)) (nomark _)) (pw_and1 (pt_cmpR op_eq (pe_ix ix_list (pv 0) (pv 2) (fun _ _ => rfl)) pe_int (nomark _)))))
      (pss_cons (ps_aug (i := 2) sc_count_at.nd rfl (Or.inl rfl) pe_int ip_add)
    (pss_one (ps_if (pt_cmpR op_gt (pe_op op_sub (pv 2) (pv 1)) (pe_glob (v := .int 40) (by rfl) hZ ⟨_, rfl⟩) (nomark _)) (pss_one (ps_ret (pe_tup (pa_cons pe_str pa_nil)))) pss_nil))))
    (pss_cons (ps_set (i := 3) sc_count_at.nd rfl (Or.inl rfl) (pe_op op_sub (pv 2) (pv 1)))
    (pss_cons (ps_set (i := 4) sc_count_at.nd rfl (Or.inl rfl) (pe_op op_add (pe_op op_add (pv 2) pe_int) (pv 3)))
    (pss_cons (ps_if (pt_cmpR op_gt (pv 4) (pe_callB call_len_seq (by rfl) T.z_len PySem.boot_len (pa_cons (pv 0) pa_nil)) (nomark _)) (pss_one (ps_ret (pe_tup (pa_cons pe_str pa_nil)))) pss_nil)
    (pss_one (ps_ret (pe_tup (pa_cons pe_str (pa_cons (pe_op op_sub (C8.pe_c c_number_of hr (by omega) (by rfl) (pa_cons (pe_slice sl_list (pv 0) (po_some (pv 2)) (po_some (pv 4))) pa_nil)) pe_int) (pa_cons (pv 4) pa_nil))))))))))), ?_⟩
    walk_at "ev"
    refine ⟨fun m σ H1 => ∃ j : Nat, σ = [some (.ref p), some (.int a), some (.int ((a + j : Nat) : Int)), none, none] ∧ H1 = H ∧ j ≤ lz (xs.drop a) ∧ j ≤ 40 ∧ m = xs.length - (a + j), ⟨_, 0, rfl, rfl, Nat.zero_le _, Nat.zero_le _, rfl⟩, ?_⟩
    rintro m σ H1 ⟨j, rfl, rfl, hj, hj2, rfl⟩
    have hml : (xs.map V.int).length = xs.length := List.length_map _
    have sh : ∀ {r}, readC xs a = r → ∀ (o : HO), o = .tup (rcV r) → ∀ (q' : Addr), H1 q' = none → Q (.ref q') (upd H1 q' o) := fun e o eo q' nq => q q' _ nq (same_upd nq) (by rw [upd_same, eo, e])
    walk_at "ev"
    · obtain ⟨z, hz1⟩ : ∃ z, xs[a + j]? = some z := by
        refine ⟨xs[a + j]'?_, List.getElem?_eq_getElem _⟩
        have : ((a + j : Nat) : Int) < ((xs.map V.int).length : Int) := by assumption
        rw [List.length_map] at this
        omega
      have hd : (xs.drop a)[j]? = some z := by
        rw [List.getElem?_drop]
        exact hz1
      have hlt : a + j < xs.length := (List.getElem?_eq_some_iff.mp hz1).1
      refine ⟨_, _, _, _, rfl, rfl, .inl (.inl hp), at_of (j := a + j) rfl (by rw [List.getElem?_map, hz1]; rfl), ?_⟩
      walk_at "ev"
      · have e0 : z = 0 := by assumption
        subst e0
        have hj3 := lz_more hj hd
        refine ⟨_, fun σ' H' h => h, ?_⟩
        walk_at "ev"
        · refine ⟨(by show 1 ≤ sizeLine; decide), sh (r := .long) ?_ _ rfl⟩
          unfold readC
          rw [if_pos (by omega)]
        · refine ⟨xs.length - (a + (j + 1)), by omega, j + 1, rfl, rfl, hj3, by omega, rfl⟩
      · have e0 : z ≠ 0 := by assumption
        have hlz := lz_stop hj hd e0
        refine ⟨(by show 1 ≤ sizeLine; decide), sh (r := .short) ?_ _ rfl⟩
        unfold readC
        rw [hlz, if_neg (by omega), if_pos (by omega)]
      · have e0 : z ≠ 0 := by assumption
        have hlz := lz_stop hj hd e0
        have hst : a + j + 1 + j ≤ xs.length := by omega
        walk_at "ev"
        refine ⟨_, _, rfl, .inl (.inl hp), fun p1 n1 => ?_⟩
        walk_at "ev"
        refine ⟨p1, (xs.drop (a + j)).take (j + 1), rfl, ?_, ?_⟩
        · rw [upd_same, cut_int (i := a + j) (k := a + j + 1 + j) rfl (by omega) (by rw [List.length_map]; omega) (by rw [List.length_map]; omega), List.map_take, List.map_drop, show a + j + 1 + j - (a + j) = j + 1 by omega]
        · walk_at "ev"
          refine ⟨(by show 3 ≤ sizeLine; decide), fun p2 n2 => q p2 _ ((same_upd n1).free n2) ((same_upd n1).trans (same_upd n2)) ?_⟩
          rw [upd_same, show readC xs a = .read (valI ((xs.drop (a + j)).take (j + 1)) - 1) (a + j + 1 + j) by
            unfold readC
            rw [hlz, if_neg (by omega), if_neg (by omega)]]
          have e9 : ((a + j : Nat) : Int) + 1 + (((a + j : Nat) : Int) - (a : Int)) = ((a + j + 1 + j : Nat) : Int) := by omega
          show some (HO.tup [_, V.int _, V.int (((a + j : Nat) : Int) + 1 + (((a + j : Nat) : Int) - (a : Int)))]) = _
          rw [e9]
          rfl
    · have hlz : lz (xs.drop a) = j := by omega
      walk_at "ev"
      refine ⟨(by show 1 ≤ sizeLine; decide), sh (r := .short) ?_ _ rfl⟩
      unfold readC
      rw [hlz, if_neg (by omega), if_pos (by omega)]
def spCheckP : Sp := fun vs H Q _ => ∃ (p : Addr) (xs : List Int) (a : Nat), vs = [.ref p, .int a] ∧ H p = some (.lst (xs.map V.int)) ∧ AreBits xs ∧ a ≤ xs.length ∧ Q .non H
theorem ok_check_place {f : Addr} {fd : FuncData} {k : Nat} (F : Fun K "check_place" "check_place" s_check_place f fd) (T : Txt mg) (c_check_bits : C8.Cal P w K mg base 2 "check_bits" spCheckB []) : FnOk P w K mg base CX0 (k + 3) f fd ["bits", "at"] spCheckP := by
  refine F.ok sc_check_place (fun vs H Q E h => ?_) (fun cdv A outer s H vs Q E hr h => ?_)
  · obtain ⟨p, xs, a, rfl, _⟩ := h
    rfl
  · obtain ⟨p, xs, a, rfl, hp, hb, ha, q⟩ := h
    have hml : (xs.map V.int).length = xs.length := List.length_map _
    refine ⟨_, (pss_cons (ps_expr (C8.pe_c c_check_bits hr (by omega) (by rfl) (pa_cons (pv 0) pa_nil)))
    (pss_one (ps_if (pt_not (pt_chain op_le op_le pe_int (pv 1) (pe_callB call_len_seq (by rfl) T.z_len PySem.boot_len (pa_cons (pv 0) pa_nil)))) (pss_one ps_never) pss_nil))), ?_⟩
    walk_at "ev"
    refine ⟨p, xs, rfl, hp, hb, ?_⟩
    walk_at "ev"
    exact q
def spSignedAt : Sp := fun vs H Q _ => ∃ (p : Addr) (xs : List Int) (a : Nat), vs = [.ref p, .int a] ∧ H p = some (.lst (xs.map V.int)) ∧ AreBits xs ∧ a ≤ xs.length ∧ xs.length ≤ 1000 ∧ ∀ (q : Addr) (H' : Hp), H q = none → Same H H' → H' q = some (.tup (rcV (sgnR (readC xs a)))) → Q (.ref q) H'
theorem ok_signed_at {f : Addr} {fd : FuncData} {k : Nat} (F : Fun K "signed_at" "signed_at" s_signed_at f fd) (c_count_at : C8.Cal P w K mg base 2 "count_at" spCountAt []) : FnOk P w K mg base CX0 (k + 3) f fd ["bits", "at"] spSignedAt := by
  refine F.ok sc_signed_at (fun vs H Q E h => ?_) (fun cdv A outer s H vs Q E hr h => ?_)
  · obtain ⟨p, xs, a, rfl, _⟩ := h
    rfl
  · obtain ⟨p, xs, a, rfl, hp, hb, ha, hl, q⟩ := h
    refine ⟨_, (pss_cons (ps_set (i := 2) sc_signed_at.nd rfl (Or.inl rfl) (C8.pe_c c_count_at hr (by omega) (by rfl) (pa_cons (pv 0) (pa_cons (pv 1) pa_nil))))
    (pss_cons (ps_if (pt_cmpR op_ne (pe_ix ix_tup (pv 2) pe_int (fun _ _ => rfl)) pe_str (nomark _)) (pss_one (ps_ret (pv 2))) pss_nil)
    (pss_cons (ps_asg (pv 2) (pg_tup rfl (pgs_cons (pg_name (i := 3) sc_signed_at.nd rfl (Or.inl rfl)) (pgs_cons (pg_name (i := 4) sc_signed_at.nd rfl (Or.inl rfl)) (pgs_cons (pg_name (i := 5) sc_signed_at.nd rfl (Or.inl rfl)) pgs_nil)))))
    (pss_cons (ps_if (pt_cmpR op_eq (pe_op op_mod (pv 4) pe_int) pe_int (nomark _)) (pss_one (ps_ret (pe_tup (pa_cons (pv 3) (pa_cons (pe_op op_fdiv (pv 4) pe_int) (pa_cons (pv 5) pa_nil)))))) pss_nil)
    (pss_one (ps_ret (pe_tup (pa_cons (pv 3) (pa_cons (pe_op op_fdiv (pe_un un_neg (pe_op op_add (pv 4) pe_int)) pe_int) (pa_cons (pv 5) pa_nil)))))))))), ?_⟩
    walk_at "ev"
    refine ⟨p, xs, a, rfl, hp, hb, ha, hl, fun t H1 n1 s1 ht => ?_⟩
    generalize readC xs a = r at *
    cases r with
    | long =>
      simp only [rcV] at ht
      walk_at "ev"
      exact q t H1 n1 s1 ht
    | short =>
      simp only [rcV] at ht
      walk_at "ev"
      exact q t H1 n1 s1 ht
    | read v s =>
      simp only [rcV] at ht
      walk_at "ev"
      · refine ⟨(by show 3 ≤ sizeLine; decide), fun p2 n2 => q p2 _ (s1.free n2) (s1.trans (same_upd n2)) ?_⟩
        rw [upd_same, sgnR, if_pos (by assumption)]
        rfl
      · refine ⟨(by show 3 ≤ sizeLine; decide), fun p2 n2 => q p2 _ (s1.free n2) (s1.trans (same_upd n2)) ?_⟩
        rw [upd_same, sgnR, if_neg (by assumption)]
        rfl
def spReadS : Sp := fun vs H Q _ => ∃ (p : Addr) (xs : List Int) (a : Nat), vs = [.ref p, .int a] ∧ H p = some (.lst (xs.map V.int)) ∧ AreBits xs ∧ a ≤ xs.length ∧ xs.length ≤ 1000 ∧ ∀ (q : Addr) (H' : Hp), H q = none → Same H H' → H' q = some (.tup (rcV (sgnR (readC xs a)))) → Q (.ref q) H'
theorem ok_read_signed {f : Addr} {fd : FuncData} {k : Nat} (F : Fun K "read_signed" "read_signed" s_read_signed f fd) (c_check_place : C8.Cal P w K mg base 3 "check_place" spCheckP []) (c_signed_at : C8.Cal P w K mg base 3 "signed_at" spSignedAt []) : FnOk P w K mg base CX0 (k + 4) f fd ["bits", "at"] spReadS := by
  refine F.ok sc_read_signed (fun vs H Q E h => ?_) (fun cdv A outer s H vs Q E hr h => ?_)
  · obtain ⟨p, xs, a, rfl, _⟩ := h
    rfl
  · obtain ⟨p, xs, a, rfl, hp, hb, ha, hl, q⟩ := h
    refine ⟨_, (pss_cons (ps_expr (C8.pe_c c_check_place hr (by omega) (by rfl) (pa_cons (pv 0) (pa_cons (pv 1) pa_nil))))
    (pss_one (ps_ret (C8.pe_c c_signed_at hr (by omega) (by rfl) (pa_cons (pv 0) (pa_cons (pv 1) pa_nil)))))), ?_⟩
    walk_at "ev"
    refine ⟨p, xs, a, rfl, hp, hb, ha, ?_⟩
    walk_at "ev"
    refine ⟨p, xs, a, rfl, hp, hb, ha, hl, ?_⟩
    exact q
/-! ### reading that may be refused -/
inductive BadV (H : Hp) : V → Prop
  | int (z : Int) (h : z < 0 ∨ 1 < z) : BadV H (.int z)
  | non : BadV H .non
  | str (s : Str) : BadV H (.str s)
  | lst {a : Addr} {xs : List V} (h : H a = some (.lst xs)) : BadV H (.ref a)
structure BadAt (H : Hp) (p : Addr) : Prop where
  ex : ∃ (vs : List V) (j : Nat) (v : V), H p = some (.lst vs) ∧ vs[j]? = some v ∧ BadV H v ∧ ∀ i, i < j → ∃ z : Int, vs[i]? = some (.int z) ∧ 0 ≤ z ∧ z ≤ 1
theorem kit_ni {K : PySem.W.Frag} : PySem.W.kitOne K (.type "NoneType") (.type "int") = some false := kit_ty (by decide +kernel)
theorem kit_si {K : PySem.W.Frag} : PySem.W.kitOne K (.type "str") (.type "int") = some false := kit_ty (by decide +kernel)
theorem kit_li {K : PySem.W.Frag} : PySem.W.kitOne K (.type "list") (.type "int") = some false := kit_ty (by decide +kernel)
/-- is_number of anything -/
inductive NumV (H : Hp) : V → Bool → Prop
  | int (z : Int) : NumV H (.int z) true
  | non : NumV H .non false
  | str (s : Str) : NumV H (.str s) false
  | lst {a : Addr} {xs : List V} (h : H a = some (.lst xs)) : NumV H (.ref a) false
def spIsNumV : Sp := fun vs H Q _ => ∃ (v : V) (b : Bool), vs = [v] ∧ NumV H v b ∧ Q (.bl b) H
theorem ok_is_numberV {f : Addr} {fd : FuncData} {k : Nat} (F : Fun K "is_number" "is_number" s_is_number f fd) (T : Txt mg) : FnOk P w K mg base CX0 (k + 1) f fd ["thing"] spIsNumV := by
  refine F.ok sc_is_number (fun vs H Q E h => ?_) (fun cdv A outer s H vs Q E hr h => ?_)
  · obtain ⟨v, b, rfl, _⟩ := h
    rfl
  · obtain ⟨v, b, rfl, hv, q⟩ := h
    refine ⟨_, (pss_one (ps_ret (pe_and (pe_callB call_isi (by rfl) T.z_isinstance PyProof.Rows.boot_isinstance (pa_cons (pv 0) (pa_cons (pe_bltn (v := .ty "int") (by rfl) T.z_int PyProof.Rows.boot_int rfl) pa_nil))) (pe_one (pe_not (pe_callB call_isi (by rfl) T.z_isinstance PyProof.Rows.boot_isinstance (pa_cons (pv 0) (pa_cons (pe_bltn (v := .ty "bool") (by rfl) T.z_bool PyProof.Rows.boot_bool rfl) pa_nil)))))))), ?_⟩
    cases hv with
    | int z =>
      walk_at "ev"
      exact q
    | non =>
      walk_at "ev"
      refine ⟨_, _, _, _, _, rfl, .ty _, .base .non, kit_ni, ?_⟩
      walk_at "ev"
      exact q
    | str z =>
      walk_at "ev"
      refine ⟨_, _, _, _, _, rfl, .ty _, .base (.str _), kit_si, ?_⟩
      walk_at "ev"
      exact q
    | lst e =>
      walk_at "ev"
      refine ⟨_, _, _, _, _, rfl, .ty _, .base (.lst e), kit_li, ?_⟩
      walk_at "ev"
      exact q
def spCheckBX (B : Addr) : Sp := fun vs H Q E => ∃ (p : Addr), vs = [.ref p] ∧ ((∃ xs : List Int, H p = some (.lst (xs.map V.int)) ∧ AreBits xs ∧ Q .non H) ∨ (BadAt H p ∧ E (.ref B) none H))
theorem ok_check_bitsX {f B : Addr} {fd : FuncData} {k : Nat} (F : Fun K "check_bits" "check_bits" s_check_bits f fd) (e_BadBits : ECls K mg "BadBits" B) (c_is_number : C8.Cal P w K mg base 1 "is_number" spIsNumV []) : FnOk P w K mg base (L2.CX P w) (k + 2) f fd ["bits"] (spCheckBX B) := by
  refine F.okX sc_check_bits (fun vs H Q E h => ?_) (fun cdv A outer s H vs Q E hr h => ?_)
  · obtain ⟨p, rfl, _⟩ := h
    rfl
  · obtain ⟨p, rfl, h⟩ := h
    refine ⟨_, (pss_one (ps_for (passes_of rfl) rfl (pi_list (pv 0)) (pg_name (i := 1) sc_check_bits.nd rfl (Or.inl rfl))
      (pss_one (ps_if (PW.pt (pw_or (pt_not (pt_val (C8.pe_c c_is_number hr (by omega) (by rfl) (pa_cons (pv 1) pa_nil)))) (pw_or1 (pt_not (pt_chain op_le op_le pe_int (pv 1) pe_int))))) (pss_one (ps_raise rfl (takes_of rfl rfl rfl rfl) (pmk_none PySem.F.excBase_ValueError e_BadBits.xC e_BadBits.gC e_BadBits.kC (raises_own e_BadBits.bC e_BadBits.tC) (by rfl)))) pss_nil)))), ?_⟩
    rcases h with ⟨xs, hp, hb, q⟩ | ⟨⟨ys, j, v, hp, hj, hv, hlt⟩, q⟩
    · walk_at "ev"
      refine ⟨⟨_, .inl (.inl hp)⟩, for_list (K := K) (a := p) (xs := xs.map V.int) (fun _ σ H1 => ∃ v, σ = [some (.ref p), v] ∧ H1 = H) ⟨_, rfl, rfl⟩ (fun _ _ _ _ ⟨_, _, e⟩ => by rw [e]; exact .inl (.inl hp)) ?_ ?_⟩
      · rintro i x σ H1 hx ⟨v, rfl, rfl⟩
        rw [List.getElem?_map] at hx
        obtain ⟨z, hz, rfl⟩ := Option.map_eq_some_iff.mp hx
        have hz2 := hb z (List.mem_of_getElem? hz)
        walk_at "ev"
        refine ⟨_, _, rfl, .int z, ?_⟩
        walk_at "ev"
        rfl
      · rintro σ H1 ⟨v, rfl, rfl⟩
        exact q
    · walk_at "ev"
      refine ⟨⟨_, .inl (.inl hp)⟩, for_list (K := K) (a := p) (xs := ys) (fun i σ H1 => i ≤ j ∧ ∃ v, σ = [some (.ref p), v] ∧ H1 = H) ⟨Nat.zero_le _, _, rfl, rfl⟩ (fun _ _ _ _ ⟨_, _, _, e⟩ => by rw [e]; exact .inl (.inl hp)) ?_ ?_⟩
      · rintro i x σ H1 hx ⟨hi, v1, rfl, rfl⟩
        by_cases e : i = j
        · subst e
          obtain rfl : x = v := Option.some.inj (hx.symm.trans hj)
          cases hv with
          | int z h =>
            walk_at "ev"
            refine ⟨_, _, rfl, .int z, ?_⟩
            walk_at "ev"
            all_goals exact q
          | non =>
            walk_at "ev"
            refine ⟨_, _, rfl, .non, ?_⟩
            walk_at "ev"
            all_goals exact q
          | str s =>
            walk_at "ev"
            refine ⟨_, _, rfl, .str _, ?_⟩
            walk_at "ev"
            all_goals exact q
          | lst h =>
            walk_at "ev"
            refine ⟨_, _, rfl, .lst h, ?_⟩
            walk_at "ev"
            all_goals exact q
        · obtain ⟨z, hz, z0, z1⟩ := hlt i (by omega)
          obtain rfl : x = V.int z := Option.some.inj (hx.symm.trans hz)
          walk_at "ev"
          refine ⟨_, _, rfl, .int z, ?_⟩
          walk_at "ev"
          exact ⟨by omega, _, rfl, rfl⟩
      · rintro σ H1 ⟨hi, v1, rfl, rfl⟩
        have := (List.getElem?_eq_some_iff.mp hj).1
        exfalso
        omega
def spPlaceX (B O : Addr) : Sp := fun vs H Q E => ∃ (p : Addr) (a : Int), vs = [.ref p, .int a] ∧ ((∃ xs : List Int, H p = some (.lst (xs.map V.int)) ∧ AreBits xs ∧ ((0 ≤ a ∧ a ≤ xs.length ∧ Q .non H) ∨ ((a < 0 ∨ (xs.length : Int) < a) ∧ E (.ref O) none H))) ∨ (BadAt H p ∧ E (.ref B) none H))
theorem ok_placeX {f B O f1 : Addr} {fd fd1 : FuncData} {k : Nat} (F : Fun K "check_place" "check_place" s_check_place f fd) (T : Txt mg) (e_Outside : ECls K mg "Outside" O) (G_check_bits : FnOk P w K mg base (L2.CX P w) 2 f1 fd1 ["bits"] (spCheckBX B)) (g_check_bits : mg "check_bits" = some (.ref f1)) (k_check_bits : PySem.W.keepIn K (.ref f1) = true) (b_check_bits : Binds K fd1 ["bits"] []) :
    FnOk P w K mg base (L2.CX P w) (k + 3) f fd ["bits", "at"] (spPlaceX B O) := by
  refine F.okX sc_check_place (fun vs H Q E h => ?_) (fun cdv A outer s H vs Q E hr h => ?_)
  · obtain ⟨p, a, rfl, _⟩ := h
    rfl
  · obtain ⟨p, a, rfl, h⟩ := h
    refine ⟨_, (pss_cons (ps_expr (pe_call G_check_bits (hr.mono (by omega)) (by rfl) g_check_bits k_check_bits b_check_bits .nil (passes_call (takes_of rfl rfl rfl rfl) (fun _ _ _ _ h => h)) (pa_cons (pv 0) pa_nil)))
    (pss_one (ps_if (pt_not (pt_chain op_le op_le pe_int (pv 1) (pe_callB call_len_seq (by rfl) T.z_len PySem.boot_len (pa_cons (pv 0) pa_nil)))) (pss_one (ps_raise rfl (takes_of rfl rfl rfl rfl) (pmk_none PySem.F.excBase_ValueError e_Outside.xC e_Outside.gC e_Outside.kC (raises_own e_Outside.bC e_Outside.tC) (by rfl)))) pss_nil))), ?_⟩
    rcases h with ⟨xs, hp, hb, h⟩ | ⟨hbad, x⟩
    · have hml : (xs.map V.int).length = xs.length := List.length_map _
      walk_at "ev"
      refine .inl ⟨xs, hp, hb, ?_⟩
      rcases h with ⟨h0, h1, q⟩ | ⟨h0, x⟩
      · walk_at "ev"
        exact q
      · walk_at "ev"
        all_goals exact x
    · walk_at "ev"
      exact .inr ⟨hbad, x⟩
/-- what read_count, or read_signed, may do -/
def spReadX (B O : Addr) (g : RC → RC) : Sp := fun vs H Q E => ∃ (p : Addr) (a : Int), vs = [.ref p, .int a] ∧ ((∃ xs : List Int, H p = some (.lst (xs.map V.int)) ∧ AreBits xs ∧ xs.length ≤ 1000 ∧ ((0 ≤ a ∧ a ≤ xs.length ∧ ∀ (q : Addr) (H' : Hp), H q = none → Same H H' → H' q = some (.tup (rcV (g (readC xs a.toNat)))) → Q (.ref q) H') ∨ ((a < 0 ∨ (xs.length : Int) < a) ∧ E (.ref O) none H))) ∨ (BadAt H p ∧ E (.ref B) none H))
theorem ok_read_countX {f B O f1 : Addr} {fd fd1 : FuncData} {k : Nat} (F : Fun K "read_count" "read_count" s_read_count f fd) (G_check_place : FnOk P w K mg base (L2.CX P w) 3 f1 fd1 ["bits", "at"] (spPlaceX B O)) (g_check_place : mg "check_place" = some (.ref f1)) (k_check_place : PySem.W.keepIn K (.ref f1) = true) (b_check_place : Binds K fd1 ["bits", "at"] []) (c_count_at : C8.Cal P w K mg base 2 "count_at" spCountAt []) :
    FnOk P w K mg base (L2.CX P w) (k + 4) f fd ["bits", "at"] (spReadX B O id) := by
  refine F.okX sc_read_count (fun vs H Q E h => ?_) (fun cdv A outer s H vs Q E hr h => ?_)
  · obtain ⟨p, a, rfl, _⟩ := h
    rfl
  · obtain ⟨p, a, rfl, h⟩ := h
    refine ⟨_, (pss_cons (ps_expr (pe_call G_check_place (hr.mono (by omega)) (by rfl) g_check_place k_check_place b_check_place .nil (passes_call (takes_of rfl rfl rfl rfl) (fun _ _ _ _ h => h)) (pa_cons (pv 0) (pa_cons (pv 1) pa_nil))))
    (pss_one (ps_ret (C8.pe_c c_count_at hr (by omega) (by rfl) (pa_cons (pv 0) (pa_cons (pv 1) pa_nil)))))), ?_⟩
    walk_at "ev"
    rcases h with ⟨xs, hp, hb, hl, h⟩ | ⟨hbad, x⟩
    · rcases h with ⟨h0, h1, q⟩ | ⟨h0, x⟩
      · refine .inl ⟨xs, hp, hb, .inl ⟨h0, h1, ?_⟩⟩
        walk_at "ev"
        exact ⟨p, xs, a.toNat, by rw [Int.toNat_of_nonneg h0]; rfl, hp, hb, by omega, hl, q⟩
      · exact .inl ⟨xs, hp, hb, .inr ⟨h0, x⟩⟩
    · exact .inr ⟨hbad, x⟩
theorem ok_read_signedX {f B O f1 : Addr} {fd fd1 : FuncData} {k : Nat} (F : Fun K "read_signed" "read_signed" s_read_signed f fd) (G_check_place : FnOk P w K mg base (L2.CX P w) 3 f1 fd1 ["bits", "at"] (spPlaceX B O)) (g_check_place : mg "check_place" = some (.ref f1)) (k_check_place : PySem.W.keepIn K (.ref f1) = true) (b_check_place : Binds K fd1 ["bits", "at"] []) (c_signed_at : C8.Cal P w K mg base 3 "signed_at" spSignedAt []) :
    FnOk P w K mg base (L2.CX P w) (k + 4) f fd ["bits", "at"] (spReadX B O sgnR) := by
  refine F.okX sc_read_signed (fun vs H Q E h => ?_) (fun cdv A outer s H vs Q E hr h => ?_)
  · obtain ⟨p, a, rfl, _⟩ := h
    rfl
  · obtain ⟨p, a, rfl, h⟩ := h
    refine ⟨_, (pss_cons (ps_expr (pe_call G_check_place (hr.mono (by omega)) (by rfl) g_check_place k_check_place b_check_place .nil (passes_call (takes_of rfl rfl rfl rfl) (fun _ _ _ _ h => h)) (pa_cons (pv 0) (pa_cons (pv 1) pa_nil))))
    (pss_one (ps_ret (C8.pe_c c_signed_at hr (by omega) (by rfl) (pa_cons (pv 0) (pa_cons (pv 1) pa_nil)))))), ?_⟩
    walk_at "ev"
    rcases h with ⟨xs, hp, hb, hl, h⟩ | ⟨hbad, x⟩
    · rcases h with ⟨h0, h1, q⟩ | ⟨h0, x⟩
      · refine .inl ⟨xs, hp, hb, .inl ⟨h0, h1, ?_⟩⟩
        walk_at "ev"
        exact ⟨p, xs, a.toNat, by rw [Int.toNat_of_nonneg h0]; rfl, hp, hb, by omega, hl, q⟩
      · exact .inl ⟨xs, hp, hb, .inr ⟨h0, x⟩⟩
    · exact .inr ⟨hbad, x⟩
/-! ### how a reading is refused -/
def spWord : Sp := fun vs H Q _ => ∃ (s : Bool) (p : Addr) (a : Int), vs = [.bl s, .ref p, .int a] ∧ ((∃ xs : List Int, H p = some (.lst (xs.map V.int)) ∧ AreBits xs ∧ xs.length ≤ 1000 ∧
    ((0 ≤ a ∧ a ≤ xs.length ∧ ∀ (q : Addr) (H' : Hp), H q = none → Same H H' → H' q = some (.tup (rcV (if s = true then sgnR (readC xs a.toNat) else readC xs a.toNat))) → Q (.ref q) H') ∨
      ((a < 0 ∨ (xs.length : Int) < a) ∧ ∀ (q : Addr) (H' : Hp), H q = none → Same H H' → H' q = some (.tup [.str "outside", .bl true, .bl false]) → Q (.ref q) H'))) ∨
    (BadAt H p ∧ ∀ (q : Addr) (H' : Hp), H q = none → Same H H' → H' q = some (.tup [.str "bits", .bl true, .bl false]) → Q (.ref q) H'))
/-- the classes of errors -/
structure Errs (K : PySem.W.Frag) (mg : Str → Option Value) (B O N : Addr) : Prop where
  eB : ECls K mg "BadBits" B
  eO : ECls K mg "Outside" O
  gN : mg "NarrowError" = some (.ref N)
  bN : PySem.W.kitOne K (.ref B) (.ref N) = some true
  bO : PySem.W.kitOne K (.ref B) (.ref O) = some false
  oN : PySem.W.kitOne K (.ref O) (.ref N) = some true
  oB : PySem.W.kitOne K (.ref O) (.ref B) = some false
  xOB : PySem.W.exmOne K (.ref O) (.ref B) = some false
theorem ok_word {f B O N fS fR : Addr} {fd fdS fdR : FuncData} {k : Nat} (F : Fun K "_law_word" "_law_word" s_law_word f fd) (T : Txt mg) (e : Errs K mg B O N)
    (GS : FnOk P w K mg base (L2.CX P w) 4 fS fdS ["bits", "at"] (spReadX B O sgnR)) (gS : mg "read_signed" = some (.ref fS)) (kS : PySem.W.keepIn K (.ref fS) = true) (bS : Binds K fdS ["bits", "at"] [])
    (GR : FnOk P w K mg base (L2.CX P w) 4 fR fdR ["bits", "at"] (spReadX B O id)) (gR : mg "read_count" = some (.ref fR)) (kR : PySem.W.keepIn K (.ref fR) = true) (bR : Binds K fdR ["bits", "at"] []) :
    FnOk P w K mg base CX0 (k + 5) f fd ["_law_is_signed", "_law_bits_here", "_law_at"] spWord := by
  refine F.ok sc_law_word (fun vs H Q E h => ?_) (fun cdv A outer s H vs Q E hr h => ?_)
  · obtain ⟨s, p, a, rfl, _⟩ := h
    rfl
  · obtain ⟨sg, p, a, rfl, h⟩ := h
    refine ⟨_, pss_cons (ps_try_all rfl rfl sc_law_word.nd takes0
        (fun W pn xe tk _ => pss_one (ps_set (i := 3) sc_law_word.nd rfl (Or.inl rfl) (pe_ifExp (pt_val (pv 0))
          (pe_callS GS (hr.mono (by omega)) (by rfl) gS kS bS (fun σ => passAt tk σ) (pa_cons (pv 1) (pa_cons (pv 2) pa_nil)))
          (pe_callS GR (hr.mono (by omega)) (by rfl) gR kR bR (fun σ => passAt tk σ) (pa_cons (pv 1) (pa_cons (pv 2) pa_nil))))))
        (.step ⟨rfl, by decide, .inl e.eB.gC⟩ (i := 4) rfl rfl (fun a oe cls d pn hz hf => pss_one (ps_set (i := 3) sc_law_word.nd rfl (Or.inl rfl) (pe_tup (pa_cons pe_str
            (pa_cons (pe_callB (call_isE1 e.eB.ex hz hf) (by rfl) T.z_isinstance PyProof.Rows.boot_isinstance (pa_cons (pv 4) (pa_cons (pe_glob (v := .ref N) (by rfl) e.gN rfl) pa_nil)))
            (pa_cons (pe_callB (call_isE1 e.eB.ex hz hf) (by rfl) T.z_isinstance PyProof.Rows.boot_isinstance (pa_cons (pv 4) (pa_cons (pe_glob (v := .ref O) (by rfl) e.eO.gC rfl) pa_nil))) pa_nil))))))
          (.step ⟨rfl, by decide, .inl e.eO.gC⟩ (i := 4) rfl rfl (fun a oe cls d pn hz hf => pss_one (ps_set (i := 3) sc_law_word.nd rfl (Or.inl rfl) (pe_tup (pa_cons pe_str
            (pa_cons (pe_callB (call_isE1 e.eO.ex hz hf) (by rfl) T.z_isinstance PyProof.Rows.boot_isinstance (pa_cons (pv 4) (pa_cons (pe_glob (v := .ref N) (by rfl) e.gN rfl) pa_nil)))
            (pa_cons (pe_callB (call_isE1 e.eO.ex hz hf) (by rfl) T.z_isinstance PyProof.Rows.boot_isinstance (pa_cons (pv 4) (pa_cons (pe_glob (v := .ref B) (by rfl) e.eB.gC rfl) pa_nil))) pa_nil)))))) .done)))
      (pss_one (ps_ret (pv 3))), ?_⟩
    cases sg
    all_goals
      walk_at "ev"
      rcases h with ⟨xs, hp, hb, hl, ⟨h0, h1, q⟩ | ⟨h0, q⟩⟩ | ⟨hbad, q⟩
      · refine .inl ⟨xs, hp, hb, hl, .inl ⟨h0, h1, fun r H' n1 s1 e1 => ?_⟩⟩
        walk_at "ev"
        exact q r H' n1 s1 e1
      · refine .inl ⟨xs, hp, hb, hl, .inr ⟨h0, ⟨false, e.xOB, (fun z => nomatch z), fun _ => ⟨true, e.eO.em, fun _ a0 _ => ?_, fun z => nomatch z⟩⟩⟩⟩
        walk_at "ev"
        refine ⟨_, .ref N, true, rfl, fun _ z => z, e.oN, ?_⟩
        walk_at "ev"
        refine ⟨_, .ref B, false, rfl, fun _ z => z, e.oB, ?_⟩
        refine ⟨(by show 3 ≤ sizeLine; decide), fun r nr => ?_⟩
        walk_at "ev"
        exact q r _ nr (same_upd nr) upd_same
      · refine .inr ⟨hbad, ⟨true, e.eB.em, fun _ a0 _ => ?_, fun z => nomatch z⟩⟩
        walk_at "ev"
        refine ⟨_, .ref N, true, rfl, fun _ z => z, e.bN, ?_⟩
        walk_at "ev"
        refine ⟨_, .ref O, false, rfl, fun _ z => z, e.bO, ?_⟩
        refine ⟨(by show 3 ≤ sizeLine; decide), fun r nr => ?_⟩
        walk_at "ev"
        exact q r _ nr (same_upd nr) upd_same
/-! ### drawn bits -/
def spBits : Sp := fun vs H Q _ => ∃ (a : Addr) (m : Int), vs = [.ref a, .int m] ∧ Src H a ∧ 0 ≤ m ∧ m ≤ 100 ∧ ∀ (p : Addr) (xs : List Int) (H' : Hp), H p = none → (xs.length : Int) ≤ m → AreBits xs → H' p = some (.lst (xs.map V.int)) → Src H' a → Up a H H' → Q (.ref p) H'
theorem ok_bits {f : Addr} {fd : FuncData} {k : Nat} (F : Fun K "_law_bits" "_law_bits" s_law_bits f fd) (T : Txt mg) (c_law_take : C8.Cal P w K mg base 1 "_law_take" spTake []) : FnOk P w K mg base CX0 (k + 2) f fd ["_law_source", "_law_most"] spBits := by
  refine F.ok sc_law_bits (fun vs H Q E h => ?_) (fun cdv A outer s H vs Q E hr h => ?_)
  · obtain ⟨a, m, rfl, _⟩ := h
    rfl
  · obtain ⟨a, m, rfl, ha, hm, hm2, q⟩ := h
    refine ⟨_, (pss_one (ps_ret (pe_lc (own := [("_law_turn", 2)]) (g := gName 2) (tt := tYes) rfl sc_law_bits.nd (pi_range1 (by rfl) T.z_range (pa_cons (C8.pe_c c_law_take hr (by omega) (by rfl) (pa_cons (pv 0) (pa_cons (pe_op op_add (pv 1) pe_int) pa_nil))) pa_nil)) (blkOk_by (N := ["_law_source", "_law_most", "_law_turn"]) (sc := defScope s_law_bits) (by decide +kernel)) (fun _ _ _ _ _ => pg_name (i := 2) sc_law_bits.nd rfl (Or.inl rfl)) (fun _ _ _ _ _ => pts_nil) (fun _ _ _ _ _ => (C8.pe_c c_law_take hr (by omega) (by rfl) (pa_cons (pv 0) (pa_cons pe_int pa_nil))))))), ?_⟩
    walk_at "ev"
    refine ⟨ha, (by omega), (by omega), fun r H1 h0 h1 s1 u1 => ?_⟩
    walk_at "ev"
    refine ⟨by omega, by omega, fun D nD => ?_⟩
    have nDa : a ≠ D := s1.ne nD
    refine lc_it walk_range (fun t H2 => ∃ xs : List Int, xs.length = t ∧ AreBits xs ∧ H2 D = some (.lst (xs.map V.int)) ∧ Src H2 a ∧ Up a H1 H2) ⟨[], rfl, fun _ m => absurd m (List.not_mem_nil), upd_same, src_same (same_upd nD) s1, up_same (same_upd nD)⟩ (fun _ _ _ _ => trivial) ?_ ?_
    · rintro t x H2 H3 ht ⟨xs, hl, hb, e2, s2, u2⟩ ⟨rfl, rfl⟩
      walk_at "ev"
      refine ⟨s2, (by decide), (by decide), fun r2 H4 g0 g1 s4 u4 => ?_⟩
      walk_at "ev"
      refine ⟨_, (u4 D nDa.symm).trans e2, ?_, xs ++ [r2], ?_, ?_, ?_, ?_, ?_⟩
      · rw [List.length_map]
        exact small1000 (by omega)
      · rw [List.length_append, hl]
        rfl
      · exact hb.app fun z m => by
          rw [List.mem_singleton.mp m]
          omega
      · rw [upd_same, List.map_append]
        rfl
      · exact src_keep nDa s4
      · exact fun b o nb e => by
          rw [upd_ne (ne_of_none e nD)]
          exact (u4 b nb).trans (u2 b o nb e)
    · rintro H2 ⟨xs, hl, hb, e2, s2, u2⟩
      exact q D xs H2 (u1.up.new s1 nD) (by omega) hb e2 s2 (u1.up.trans u2)
/-! ### drawn lists -/
theorem rep_ints (m : Nat) (x : Int) : (List.replicate m [V.int x]).flatten = (List.replicate m x).map V.int := by
  induction m with
  | zero => rfl
  | succ m ih =>
    rw [List.replicate_succ, List.flatten_cons, ih, List.replicate_succ]
    rfl
theorem AreBits.rep (n : Nat) : AreBits (List.replicate n 0) := AreBits.zeros n
theorem ones_bits : AreBits [1] := fun x m => by
  rw [List.mem_singleton.mp m]
  decide
def spList : Sp := fun vs H Q _ => ∃ (a : Addr), vs = [.ref a] ∧ Src H a ∧ ∀ (p : Addr) (xs : List Int) (H' : Hp), H p = none → AreBits xs → xs.length ≤ 250 → H' p = some (.lst (xs.map V.int)) → Src H' a → Up a H H' → Q (.ref p) H'
theorem ok_list {f : Addr} {fd : FuncData} {k : Nat} (F : Fun K "_law_list" "_law_list" s_law_list f fd) (T : Txt mg) (c_law_take : C8.Cal P w K mg base 1 "_law_take" spTake []) (c_law_one : C8.Cal P w K mg base 2 "_law_one" spOne []) (c_law_bits : C8.Cal P w K mg base 2 "_law_bits" spBits []) : FnOk P w K mg base CX0 (k + 3) f fd ["_law_source"] spList := by
  refine F.ok sc_law_list (fun vs H Q E h => ?_) (fun cdv A outer s H vs Q E hr h => ?_)
  · obtain ⟨a, rfl, _⟩ := h
    rfl
  · obtain ⟨a, rfl, ha, q⟩ := h
    have eL : ∀ {m : Nat}, m ≤ 1000 → m ≤ sizeLine := fun h => Nat.le_of_lt (small1000 h)
    refine ⟨_, (pss_cons (ps_set (i := 1) sc_law_list.nd rfl (Or.inl rfl) (pe_lst (pa_cons (pe_op op_add pe_int (C8.pe_c c_law_take hr (by omega) (by rfl) (pa_cons (pv 0) (pa_cons pe_int pa_nil)))) (pa_cons (pe_op op_add pe_int (C8.pe_c c_law_take hr (by omega) (by rfl) (pa_cons (pv 0) (pa_cons pe_int pa_nil)))) pa_nil))))
    (pss_cons (ps_set (i := 2) sc_law_list.nd rfl (Or.inl rfl) (C8.pe_c c_law_one hr (by omega) (by rfl) (pa_cons (pv 0) (pa_cons (pe_op op_cat (pv 1) (pe_lst (pa_cons (C8.pe_c c_law_take hr (by omega) (by rfl) (pa_cons (pv 0) (pa_cons pe_int pa_nil))) (pa_cons (C8.pe_c c_law_take hr (by omega) (by rfl) (pa_cons (pv 0) (pa_cons pe_int pa_nil))) pa_nil)))) pa_nil))))
    (pss_cons (ps_set (i := 3) sc_law_list.nd rfl (Or.inl rfl) (C8.pe_c c_law_one hr (by omega) (by rfl) (pa_cons (pv 0) (pa_cons (pe_lst (pa_cons (pe_lst pa_nil) (pa_cons (pe_lst (pa_cons pe_int pa_nil)) (pa_cons (pe_op op_cat (pe_lst (pa_cons pe_int pa_nil)) (pe_op op_rep (pe_lst (pa_cons pe_int pa_nil)) (C8.pe_c c_law_take hr (by omega) (by rfl) (pa_cons (pv 0) (pa_cons pe_int pa_nil))))) (pa_cons (pe_op op_cat (pe_op op_cat (pe_lst (pa_cons pe_int pa_nil)) (pe_op op_rep (pe_lst (pa_cons pe_int pa_nil)) pe_int)) (pe_lst (pa_cons pe_int pa_nil))) (pa_cons (C8.pe_c c_law_bits hr (by omega) (by rfl) (pa_cons (pv 0) (pa_cons pe_int pa_nil))) pa_nil)))))) pa_nil))))
    (pss_one (ps_ret (pe_op op_cat (pe_op op_cat (C8.pe_c c_law_bits hr (by omega) (by rfl) (pa_cons (pv 0) (pa_cons pe_int pa_nil))) (pe_op op_rep (pe_lst (pa_cons pe_int pa_nil)) (pv 2))) (pv 3))))))), ?_⟩
    walk_at "ev"
    refine ⟨ha, (by decide), (by decide), fun r1 H1 _ _ s1 u1 => ?_⟩
    walk_at "ev"
    refine ⟨s1, (by decide), (by decide), fun r2 H2 _ _ s2 u2 => ?_⟩
    walk_at "ev"
    refine ⟨(by show 2 ≤ sizeLine; decide), fun t1 nt1 => ?_⟩
    walk_at "ev"
    have t1a := (s2.ne nt1).symm
    refine ⟨src_same (same_upd nt1) s2, (by decide), (by decide), fun r3 H3 _ _ s3 u3 => ?_⟩
    walk_at "ev"
    refine ⟨s3, (by decide), (by decide), fun r4 H4 _ _ s4 u4 => ?_⟩
    walk_at "ev"
    refine ⟨(by show 2 ≤ sizeLine; decide), fun t2 nt2 => ?_⟩
    have g1 := ((u3.trans u4) t1 t1a).trans (upd_same (H := H2) (a := t1) (o := .lst [.int (39 + r1), .int (40 + r2)]))
    refine ⟨t1, t2, _, _, rfl, rfl, new_at g1 nt2, upd_same, (by show 4 ≤ sizeLine; decide), fun t3 nt3 => ?_⟩
    walk_at "ev"
    refine ⟨_, _, _, rfl, src_same ((same_upd nt2).trans (same_upd nt3)) s4, ?_, upd_same, (by simp), (by show 4 ≤ 1000; decide), fun v5 H5 hv5 s5 u5 => ?_⟩
    · exact (Src.ne (src_same (same_upd nt2) s4) nt3).symm
    have u5b := (u1.up.trans u2.up).trans ((up_same (same_upd nt1)).trans ((u3.up.trans u4.up).trans ((up_same ((same_upd nt2).trans (same_upd nt3))).trans u5.up)))
    obtain ⟨z, rfl, hz0, hz1⟩ : ∃ z, v5 = V.int z ∧ 0 ≤ z ∧ z ≤ 90 := by
      simp only [List.mem_cons, List.not_mem_nil, or_false, List.cons_append, List.nil_append] at hv5
      rcases hv5 with e | e | e | e <;> exact ⟨_, e, by omega, by omega⟩
    walk_at "ev"
    refine ⟨(by show 0 ≤ sizeLine; decide), fun p1 n1 => ?_⟩
    have z1 := src_same (same_upd (o := .lst []) n1) s5
    have y1 := (s5.ne n1).symm
    walk_at "ev"
    refine ⟨(by show 1 ≤ sizeLine; decide), fun p2 n2 => ?_⟩
    have z2 := src_same (same_upd (o := .lst [.int 1]) n2) z1
    have y2 := (z1.ne n2).symm
    walk_at "ev"
    refine ⟨(by show 1 ≤ sizeLine; decide), fun p3 n3 => ?_⟩
    have z3 := src_same (same_upd (o := .lst [.int 1]) n3) z2
    have y3 := (z2.ne n3).symm
    walk_at "ev"
    refine ⟨(by show 1 ≤ sizeLine; decide), fun p4 n4 => ?_⟩
    have z4 := src_same (same_upd (o := .lst [.int 0]) n4) z3
    have y4 := (z3.ne n4).symm
    have f1 := new_at (o' := .lst [.int 0]) (new_at (o' := .lst [.int 1]) (new_at (o' := .lst [.int 1]) (upd_same (H := H5) (a := p1) (o := .lst [])) n2) n3) n4
    have f2 := new_at (o' := .lst [.int 0]) (new_at (o' := .lst [.int 1]) (upd_same (a := p2) (o := .lst [.int 1])) n3) n4
    have f3 := new_at (o' := .lst [.int 0]) (upd_same (a := p3) (o := .lst [.int 1])) n4
    have uA := up_same (a := a) (((same_upd (o := .lst []) n1).trans (same_upd (o := .lst [.int 1]) n2)).trans ((same_upd (o := .lst [.int 1]) n3).trans (same_upd (o := .lst [.int 0]) n4)))
    walk_at "ev"
    refine ⟨z4, (by decide), (by decide), fun r6 H6 k60 k61 s6 u6 => ?_⟩
    have h1 := (u6 p1 y1).trans f1
    have h2 := (u6 p2 y2).trans f2
    have h3 := (u6 p3 y3).trans f3
    have h4 := (u6 p4 y4).trans (upd_same (a := p4) (o := .lst [.int 0]))
    have u6b := u5b.trans (uA.trans u6.up)
    walk_at "ev"
    refine ⟨p4, _, _, rfl, rfl, h4, by omega, by omega, eL (by show 1 * _ ≤ _; omega), fun p5 n5 => ?_⟩
    rw [rep_ints]
    walk_at "ev"
    refine ⟨p3, p5, _, _, rfl, rfl, new_at h3 n5, upd_same, eL (by rw [List.length_map, List.length_replicate]; show 1 + _ ≤ _; omega), fun p6 n6 => ?_⟩
    walk_at "ev"
    refine ⟨(by show 1 ≤ sizeLine; decide), fun p7 n7 => ?_⟩
    walk_at "ev"
    refine ⟨(by show 1 ≤ sizeLine; decide), fun p8 n8 => ?_⟩
    walk_at "ev"
    refine ⟨p8, _, _, rfl, rfl, upd_same, by omega, by omega, eL (by decide), fun p9 n9 => ?_⟩
    rw [rep_ints]
    walk_at "ev"
    refine ⟨p7, p9, _, _, rfl, rfl, new_at (new_at upd_same n8) n9, upd_same, eL (by decide), fun p10 n10 => ?_⟩
    walk_at "ev"
    refine ⟨(by show 1 ≤ sizeLine; decide), fun p11 n11 => ?_⟩
    walk_at "ev"
    refine ⟨p10, p11, _, _, rfl, rfl, new_at upd_same n11, upd_same, eL (by decide), fun p12 n12 => ?_⟩
    walk_at "ev"
    have y6 := ((src_same (same_upd n5) s6).ne n6).symm
    have y12 := ((src_same ((same_upd n5).trans ((same_upd n6).trans ((same_upd n7).trans ((same_upd n8).trans ((same_upd n9).trans ((same_upd n10).trans (same_upd n11))))))) s6).ne n12).symm
    refine ⟨src_same ((same_upd n5).trans ((same_upd n6).trans ((same_upd n7).trans ((same_upd n8).trans ((same_upd n9).trans ((same_upd n10).trans ((same_upd n11).trans (same_upd n12)))))))) s6, by decide, by decide, fun p13 xs13 H13 n13 l13 b13 e13 s13 u13 => ?_⟩
    have sB := (same_upd n5).trans ((same_upd n6).trans ((same_upd n7).trans ((same_upd n8).trans ((same_upd n9).trans ((same_upd n10).trans ((same_upd n11).trans (same_upd (o := .lst (([V.int 1] ++ (List.replicate (39 : Int).toNat (0 : Int)).map V.int) ++ [V.int 1])) n12)))))))
    have sC := (same_upd n7).trans ((same_upd n8).trans ((same_upd n9).trans ((same_upd n10).trans ((same_upd n11).trans (same_upd (o := .lst (([V.int 1] ++ (List.replicate (39 : Int).toNat (0 : Int)).map V.int) ++ [V.int 1])) n12)))))
    have w1 := u13 p1 _ y1 (sB _ _ h1)
    have w2 := u13 p2 _ y2 (sB _ _ h2)
    have w6 := u13 p6 _ y6 (sC _ _ upd_same)
    have w12 := u13 p12 _ y12 upd_same
    have y13 : p13 ≠ a := ((src_same sB s6).ne n13).symm
    have u13b := u6b.trans ((up_same sB).trans u13)
    walk_at "ev"
    refine ⟨(by show 5 ≤ sizeLine; decide), fun t5 nt5 => ?_⟩
    refine ⟨_, _, _, rfl, src_same (same_upd nt5) s13, (s13.ne nt5).symm, upd_same, (by simp), (by show 5 ≤ 1000; decide), fun v H14 hv s14 u14 => ?_⟩
    have u14b := u13b.trans ((up_same (same_upd nt5)).trans u14.up)
    obtain ⟨r, ys, rfl, hr, hyb, hyl, yr⟩ : ∃ (r : Addr) (ys : List Int), v = V.ref r ∧ H14 r = some (.lst (ys.map V.int)) ∧ AreBits ys ∧ ys.length ≤ 46 ∧ r ≠ a := by
      simp only [List.mem_cons, List.not_mem_nil, or_false] at hv
      rcases hv with e | e | e | e | e
      · exact ⟨p1, [], e, (u14 p1 y1).trans (new_at w1 nt5), fun _ m => absurd m List.not_mem_nil, by decide, y1⟩
      · exact ⟨p2, [1], e, (u14 p2 y2).trans (new_at w2 nt5), ones_bits, by decide, y2⟩
      · refine ⟨p6, [1] ++ List.replicate r6.toNat 0, e, ?_, ones_bits.app (AreBits.zeros _), by rw [List.length_append, List.length_replicate]; show 1 + _ ≤ 46; omega, y6⟩
        rw [List.map_append]
        exact (u14 p6 y6).trans (new_at w6 nt5)
      · refine ⟨p12, [1] ++ List.replicate 39 0 ++ [1], e, ?_, (ones_bits.app (AreBits.zeros _)).app ones_bits, by decide, y12⟩
        rw [List.map_append, List.map_append]
        exact (u14 p12 y12).trans (new_at w12 nt5)
      · exact ⟨p13, xs13, e, (u14 p13 y13).trans (new_at e13 nt5), b13, by omega, y13⟩
    walk_at "ev"
    refine ⟨s14, by decide, by decide, fun p15 xs15 H15 n15 l15 b15 e15 s15 u15 => ?_⟩
    have hr15 := u15 r _ yr hr
    walk_at "ev"
    refine ⟨(by show 1 ≤ sizeLine; decide), fun p16 n16 => ?_⟩
    walk_at "ev"
    refine ⟨p16, _, _, rfl, rfl, upd_same, by omega, by omega, eL (by show 1 * _ ≤ _; omega), fun p17 n17 => ?_⟩
    rw [rep_ints]
    walk_at "ev"
    refine ⟨p15, p17, _, _, rfl, rfl, new_at (new_at e15 n16) n17, upd_same, eL (by rw [List.length_map, List.length_map, List.length_replicate]; omega), fun p18 n18 => ?_⟩
    walk_at "ev"
    refine ⟨p18, r, _, _, rfl, rfl, upd_same, new_at (new_at (new_at hr15 n16) n17) n18, eL (by rw [List.length_append, List.length_map, List.length_map, List.length_map, List.length_replicate]; omega), fun p19 n19 => ?_⟩
    have sZ := (same_upd n16).trans ((same_upd n17).trans ((same_upd n18).trans (same_upd (o := .lst ((xs15.map V.int ++ (List.replicate z.toNat (0 : Int)).map V.int) ++ ys.map V.int)) n19)))
    have uZ := (u14b.trans u15).trans (up_same ((same_upd n16).trans ((same_upd n17).trans (same_upd (o := .lst (xs15.map V.int ++ (List.replicate z.toNat (0 : Int)).map V.int)) n18))))
    refine q p19 (xs15 ++ List.replicate z.toNat 0 ++ ys) _ (uZ.new (src_same ((same_upd n16).trans ((same_upd n17).trans (same_upd n18))) s15) n19) ((b15.app (AreBits.zeros _)).app hyb) (by rw [List.length_append, List.length_append, List.length_replicate]; omega) ?_ (src_same sZ s15) ((u14b.trans u15).trans (up_same sZ))
    rw [upd_same, List.map_append, List.map_append]
/-! ### the law's own reading -/
theorem ok_read {f : Addr} {fd : FuncData} {k : Nat} (F : Fun K "_law_read" "_law_read" s_law_read f fd) (T : Txt mg) : FnOk P w K mg base CX0 (k + 1) f fd ["_law_bits_here", "_law_at"] spCountAt := by
  refine F.ok sc_law_read (fun vs H Q E h => ?_) (fun cdv A outer s H vs Q E hr h => ?_)
  · obtain ⟨p, xs, a, rfl, _⟩ := h
    rfl
  · obtain ⟨p, xs, a, rfl, hp, hb, ha, hl, q⟩ := h
    have hz := lz_le (xs.drop a)
    rw [List.length_drop] at hz
    have hml : (xs.map V.int).length = xs.length := List.length_map _
    refine ⟨_, (pss_cons (ps_set (i := 2) sc_law_read.nd rfl (Or.inl rfl) pe_int)
    (pss_cons (ps_while PassesOwn.never (PW.pt (pw_and (pt_cmpR op_lt (pe_op op_add (pv 1) (pv 2)) (pe_callB call_len_seq (by rfl) T.z_len PySem.boot_len (pa_cons (pv 0) pa_nil)) (nomark _)) (pw_and1 (pt_cmpR op_eq (pe_ix ix_list (pv 0) (pe_op op_add (pv 1) (pv 2)) (fun _ _ => rfl)) pe_int (nomark _)))))
      (pss_one (ps_set (i := 2) sc_law_read.nd rfl (Or.inl rfl) (pe_op op_add (pv 2) pe_int))))
    (pss_cons (ps_if (pt_cmpR op_gt (pv 2) pe_int (nomark _)) (pss_one (ps_ret (pe_tup (pa_cons pe_str pa_nil)))) pss_nil)
    (pss_cons (ps_set (i := 3) sc_law_read.nd rfl (Or.inl rfl) (pe_slice sl_list (pv 0) (po_some (pe_op op_add (pv 1) (pv 2))) (po_some (pe_op op_add (pe_op op_add (pv 1) (pe_op op_mul pe_int (pv 2))) pe_int))))
    (pss_cons (ps_if (pt_cmpR op_lt (pe_callB call_len_seq (by rfl) T.z_len PySem.boot_len (pa_cons (pv 3) pa_nil)) (pe_op op_add (pv 2) pe_int) (nomark _)) (pss_one (ps_ret (pe_tup (pa_cons pe_str pa_nil)))) pss_nil)
    (pss_cons (ps_set (i := 4) sc_law_read.nd rfl (Or.inl rfl) pe_int)
    (pss_cons (ps_for PassesOwn.never rfl (pi_list (pv 3)) (pg_name (i := 5) sc_law_read.nd rfl (Or.inl rfl))
      (pss_one (ps_set (i := 4) sc_law_read.nd rfl (Or.inl rfl) (pe_op op_add (pe_op op_mul pe_int (pv 4)) (pv 5)))))
    (pss_one (ps_ret (pe_tup (pa_cons pe_str (pa_cons (pe_op op_sub (pv 4) pe_int) (pa_cons (pe_op op_add (pe_op op_add (pv 1) (pe_op op_mul pe_int (pv 2))) pe_int) pa_nil))))))))))))), ?_⟩
    walk_at "ev"
    refine ⟨fun m σ H1 => ∃ j : Nat, σ = [some (.ref p), some (.int a), some (.int j), none, none, none] ∧ H1 = H ∧ j ≤ lz (xs.drop a) ∧ m = xs.length - (a + j), ⟨_, 0, rfl, rfl, Nat.zero_le _, rfl⟩, ?_⟩
    rintro m σ H1 ⟨j, rfl, rfl, hj, rfl⟩
    have sh : ∀ {r}, readC xs a = r → ∀ (o : HO), o = .tup (rcV r) → ∀ (q' : Addr), H1 q' = none → Q (.ref q') (upd H1 q' o) := fun e o eo q' nq => q q' _ nq (same_upd nq) (by rw [upd_same, eo, e])
    have hout : lz (xs.drop a) = j → 40 < j → readC xs a = .long := fun h1 h2 => by
      unfold readC
      rw [h1, if_pos h2]
    have hcut : cutV (xs.map V.int) (some ((a : Int) + j)) (some ((a : Int) + 2 * j + 1)) = ((xs.drop (a + j)).take (j + 1)).map V.int := by
      rw [cut_any (i := a + j) (k := a + 2 * j + 1) (by omega) (by omega) (by omega), List.map_take, List.map_drop, show a + 2 * j + 1 - (a + j) = j + 1 by omega]
    have hcl : ((xs.drop (a + j)).take (j + 1)).length = min (j + 1) (xs.length - (a + j)) := by
      rw [List.length_take, List.length_drop]
    have finish : lz (xs.drop a) = j → ¬ 40 < j → (((xs.drop (a + j)).take (j + 1)).length < j + 1 → readC xs a = .short) ∧ (¬ ((xs.drop (a + j)).take (j + 1)).length < j + 1 → readC xs a = .read (valI ((xs.drop (a + j)).take (j + 1)) - 1) (a + j + 1 + j)) := fun h1 h2 => by
      unfold readC
      rw [h1, if_neg h2, hcl]
      refine ⟨fun h => if_pos (by omega), fun h => if_neg (by omega)⟩
    have hdl : (((xs.drop (a + j)).take (j + 1)).map V.int).length = ((xs.drop (a + j)).take (j + 1)).length := List.length_map _
    walk_at "ev"
    · have hlt : a + j < xs.length := by omega
      obtain ⟨z, hz1⟩ : ∃ z, xs[a + j]? = some z := ⟨xs[a + j]'hlt, List.getElem?_eq_getElem _⟩
      have hd : (xs.drop a)[j]? = some z := by
        rw [List.getElem?_drop]
        exact hz1
      refine ⟨_, _, _, _, rfl, rfl, .inl (.inl hp), at_of (j := a + j) (by omega) (by rw [List.getElem?_map, hz1]; rfl), ?_⟩
      walk_at "ev"
      · have e0 : z = 0 := by assumption
        subst e0
        refine ⟨_, fun σ' H' h => h, ?_⟩
        walk_at "ev"
        exact ⟨xs.length - (a + (j + 1)), by omega, j + 1, rfl, rfl, lz_more hj hd, rfl⟩
      · have hlz := lz_stop hj hd (by assumption)
        exact ⟨(by show 1 ≤ sizeLine; decide), sh (r := .long) (hout hlz (by omega)) _ rfl⟩
      · have hlz := lz_stop hj hd (by assumption)
        have h40 : ¬ 40 < j := by omega
        refine ⟨_, _, rfl, .inl (.inl hp), fun p1 n1 => ?_⟩
        rw [hcut]
        walk_at "ev"
        · refine ⟨(by show 1 ≤ sizeLine; decide), fun q' nq => q q' _ ((same_upd n1).free nq) ((same_upd n1).trans (same_upd nq)) ?_⟩
          rw [upd_same, (finish hlz h40).1 (by have := hdl; omega)]
          rfl
        · refine ⟨⟨_, .inl (.inl upd_same)⟩, for_list (K := K) (a := p1) (xs := ((xs.drop (a + j)).take (j + 1)).map V.int) (fun i σ H2 => ∃ v, σ = [some (.ref p), some (.int a), some (.int j), some (.ref p1), some (.int (valI (((xs.drop (a + j)).take (j + 1)).take i))), v] ∧ H2 = upd H1 p1 (.lst (((xs.drop (a + j)).take (j + 1)).map V.int))) ⟨_, rfl, rfl⟩ (fun _ _ _ _ ⟨_, _, e⟩ => by rw [e]; exact .inl (.inl upd_same)) ?_ ?_⟩
          · rintro i x σ H2 hx ⟨v, rfl, rfl⟩
            rw [List.getElem?_map] at hx
            obtain ⟨z, hz, rfl⟩ := Option.map_eq_some_iff.mp hx
            walk_at "ev"
            refine ⟨some (.int z), ?_, rfl⟩
            rw [← take_snoc hz, valI_snoc]
            rfl
          · rintro σ H2 ⟨v, rfl, rfl⟩
            walk_at "ev"
            refine ⟨(by show 3 ≤ sizeLine; decide), fun q' nq => q q' _ ((same_upd n1).free nq) ((same_upd n1).trans (same_upd nq)) ?_⟩
            rw [upd_same, (finish hlz h40).2 (by have := hdl; omega), List.length_map, List.take_length]
            have e9 : (a : Int) + 2 * (j : Int) + 1 = ((a + j + 1 + j : Nat) : Int) := by omega
            show some (HO.tup [_, V.int _, V.int ((a : Int) + 2 * (j : Int) + 1)]) = _
            rw [e9]
            rfl
    · have hlz : lz (xs.drop a) = j := by omega
      exact ⟨(by show 1 ≤ sizeLine; decide), sh (r := .long) (hout hlz (by omega)) _ rfl⟩
    · have hlz : lz (xs.drop a) = j := by omega
      have h40 : ¬ 40 < j := by omega
      refine ⟨_, _, rfl, .inl (.inl hp), fun p1 n1 => ?_⟩
      rw [hcut]
      walk_at "ev"
      · refine ⟨(by show 1 ≤ sizeLine; decide), fun q' nq => q q' _ ((same_upd n1).free nq) ((same_upd n1).trans (same_upd nq)) ?_⟩
        rw [upd_same, (finish hlz h40).1 (by have := hdl; omega)]
        rfl
def spSgn : Sp := fun vs H Q _ => ∃ (t : Addr) (r : RC), vs = [.ref t] ∧ H t = some (.tup (rcV r)) ∧ ∀ (q : Addr) (H' : Hp), Same H H' → H' q = some (.tup (rcV (sgnR r))) → Q (.ref q) H'
theorem ok_signed {f : Addr} {fd : FuncData} {k : Nat} (F : Fun K "_law_signed" "_law_signed" s_law_signed f fd) : FnOk P w K mg base CX0 (k + 1) f fd ["_law_told"] spSgn := by
  refine F.ok sc_law_signed (fun vs H Q E h => ?_) (fun cdv A outer s H vs Q E hr h => ?_)
  · obtain ⟨t, r, rfl, _⟩ := h
    rfl
  · obtain ⟨t, r, rfl, ht, q⟩ := h
    refine ⟨_, (pss_cons (ps_if (pt_cmpR op_ne (pe_ix ix_tup (pv 0) pe_int (fun _ _ => rfl)) pe_str (nomark _)) (pss_one (ps_ret (pv 0))) pss_nil)
    (pss_cons (ps_set (i := 1) sc_law_signed.nd rfl (Or.inl rfl) (pe_ix ix_tup (pv 0) pe_int (fun _ _ => rfl)))
    (pss_one (ps_ret (pe_tup (pa_cons pe_str (pa_cons (pe_ifExp (pt_cmpR op_eq (pe_op op_mod (pv 1) pe_int) pe_int (nomark _)) (pe_op op_fdiv (pv 1) pe_int) (pe_op op_sub (pe_op op_sub pe_int (pe_op op_fdiv (pv 1) pe_int)) pe_int)) (pa_cons (pe_ix ix_tup (pv 0) pe_int (fun _ _ => rfl)) pa_nil)))))))), ?_⟩
    cases r with
    | long =>
      simp only [rcV] at ht
      walk_at "ev"
      exact q t H (Same.refl H) ht
    | short =>
      simp only [rcV] at ht
      walk_at "ev"
      exact q t H (Same.refl H) ht
    | read v s =>
      simp only [rcV] at ht
      walk_at "ev"
      · refine ⟨(by show 3 ≤ sizeLine; decide), fun p2 n2 => q p2 _ (same_upd n2) ?_⟩
        rw [upd_same, sgnR, if_pos (by assumption)]
        rfl
      · refine ⟨(by show 3 ≤ sizeLine; decide), fun p2 n2 => q p2 _ (same_upd n2) ?_⟩
        rw [upd_same, sgnR, if_neg (by assumption)]
        have e9 : 0 - v / 2 - 1 = (-(v + 1)) / 2 := by omega
        show some (HO.tup [_, V.int (0 - v / 2 - 1), _]) = _
        rw [e9]
        rfl
/-! ### what must be refused -/
def tupW (x : Str) : List PyData := [.str x, .bool true, .bool false]
theorem q_neW {K : PySem.W.Frag} {H : Hp} {p q : Addr} {x : Str} {Q : VK} (hp : H p = some (.tup [.str x, .bl true, .bl false])) (hq : H q = some (.tup [.str x, .bl true, .bl false])) (hs : SeqAt.shaped (.tuple (tupW x)) = true) (h : Q (.bl false) H) : rNeD K (.ref p) (.ref q) H Q :=
  ⟨_, _, .tup (.inl (.inl hp)) (.cons (.str _) (.cons (.bl _) (.cons (.bl _) .nil))), .tup (.inl (.inl hq)) (.cons (.str _) (.cons (.bl _) (.cons (.bl _) .nil))), hs, hs, by
    have e := eqv_same hs
    unfold tupW at e
    rw [e]
    exact h⟩
theorem sh_out : SeqAt.shaped (.tuple (tupW "outside")) = true := by decide +kernel
theorem sh_bits : SeqAt.shaped (.tuple (tupW "bits")) = true := by decide +kernel
theorem BadV.same {H H' : Hp} {v : V} (s : Same H H') (h : BadV H v) : BadV H' v := by
  cases h with
  | int z h => exact .int z h
  | non => exact .non
  | str s => exact .str s
  | lst h => exact .lst (s _ _ h)
theorem BadAt.same {H H' : Hp} {p : Addr} (s : Same H H') (h : BadAt H p) : BadAt H' p := by
  obtain ⟨vs, j, v, h1, h2, h3, h4⟩ := h.ex
  exact ⟨vs, j, v, s _ _ h1, h2, h3.same s, h4⟩
theorem BadV.up {a : Addr} {H H' : Hp} {v : V} (u : Up a H H') (s : Src H' a) (h : BadV H v) : BadV H' v := by
  cases h with
  | int z h => exact .int z h
  | non => exact .non
  | str s => exact .str s
  | @lst b xs h =>
    by_cases e : b = a
    · subst e
      obtain ⟨x, y, e, _⟩ := s
      exact .lst e
    · exact .lst (u _ _ e h)
theorem BadAt.up {a p : Addr} {H H' : Hp} (n : p ≠ a) (u : Up a H H') (s : Src H' a) (h : BadAt H p) : BadAt H' p := by
  obtain ⟨vs, j, v, h1, h2, h3, h4⟩ := h.ex
  exact ⟨vs, j, v, u _ _ n h1, h2, h3.up u s, h4⟩
def spRefused : Sp := fun vs H Q _ => ∃ (a p : Addr) (xs : List Int), vs = [.ref a, .ref p] ∧ Src H a ∧ p ≠ a ∧ H p = some (.lst (xs.map V.int)) ∧ AreBits xs ∧ xs.length ≤ 250 ∧ ∀ (H' : Hp), Src H' a → Up a H H' → Q (.bl true) H'
theorem ok_refused {f : Addr} {fd : FuncData} {k : Nat} (F : Fun K "_law_refused_right" "_law_refused_right" s_law_refused_right f fd) (T : Txt mg) (c_law_take : C8.Cal P w K mg base 1 "_law_take" spTake []) (c_law_one : C8.Cal P w K mg base 2 "_law_one" spOne []) (c_law_word : C8.Cal P w K mg base 5 "_law_word" spWord []) : FnOk P w K mg base CX0 (k + 6) f fd ["_law_source", "_law_bits_here"] spRefused := by
  refine F.ok sc_law_refused_right (fun vs H Q E h => ?_) (fun cdv A outer s H vs Q E hr h => ?_)
  · obtain ⟨a, p, xs, rfl, _⟩ := h
    rfl
  · obtain ⟨a, p, xs, rfl, ha, hpa, hp, hb, hl, q⟩ := h
    have hu := hr.units
    have hml : (xs.map V.int).length = xs.length := List.length_map _
    have eL : ∀ {m : Nat}, m ≤ 1000 → m ≤ sizeLine := fun h => Nat.le_of_lt (small1000 h)
    refine ⟨_, (pss_cons (ps_set (i := 2) sc_law_refused_right.nd rfl (Or.inl rfl) (pe_lst (pa_cons (pe_op op_sub (pe_un un_neg pe_int) (C8.pe_c c_law_take hr (by omega) (by rfl) (pa_cons (pv 0) (pa_cons pe_int pa_nil)))) (pa_cons (pe_op op_add (pe_op op_add (pe_callB call_len_seq (by rfl) T.z_len PySem.boot_len (pa_cons (pv 1) pa_nil)) pe_int) (C8.pe_c c_law_take hr (by omega) (by rfl) (pa_cons (pv 0) (pa_cons pe_int pa_nil)))) pa_nil))))
    (pss_cons (ps_par (i := 3) (j := 4) rfl sc_law_refused_right.nd rfl rfl (by decide) rfl rfl (pa_cons (pe_op op_cat (pv 1) (pe_lst (pa_cons pe_int pa_nil))) (pa_cons (C8.pe_c c_law_take hr (by omega) (by rfl) (pa_cons (pv 0) (pa_cons (pe_op op_add (pe_callB call_len_seq (by rfl) T.z_len PySem.boot_len (pa_cons (pv 1) pa_nil)) pe_int) pa_nil))) pa_nil)) rfl)
    (pss_cons (ps_asg (C8.pe_c c_law_one hr (by omega) (by rfl) (pa_cons (pv 0) (pa_cons (pe_lst (pa_cons pe_int (pa_cons (pe_un un_neg pe_int) (pa_cons pe_non (pa_cons pe_str (pa_cons (pe_lst (pa_cons pe_int pa_nil)) (pa_cons (pe_op (op_powc (a := 10) (b := 21) (c := 1000000000000000000000) ⟨by decide, by decide, by decide⟩ (by decide +kernel)) pe_int pe_int) pa_nil))))))) pa_nil))) (pg_sub (pv 3) (pv 4) set_list))
    (pss_cons (ps_for PassesOwn.never rfl (pi_list (pe_lst (pa_cons pe_bl (pa_cons pe_bl pa_nil)))) (pg_name (i := 5) sc_law_refused_right.nd rfl (Or.inl rfl))
      (pss_cons (ps_for PassesOwn.never rfl (pi_list (pv 2)) (pg_name (i := 6) sc_law_refused_right.nd rfl (Or.inl rfl))
      (pss_one (ps_if (pt_cmpR (op_neD hu) (C8.pe_c c_law_word hr (by omega) (by rfl) (pa_cons (pv 5) (pa_cons (pv 1) (pa_cons (pv 6) pa_nil)))) (pe_tup (pa_cons pe_str (pa_cons pe_bl (pa_cons pe_bl pa_nil)))) (nomark _)) (pss_one (ps_ret pe_bl)) pss_nil)))
    (pss_one (ps_for PassesOwn.never rfl (pi_list (pe_op op_cat (pv 2) (pe_lst (pa_cons (C8.pe_c c_law_take hr (by omega) (by rfl) (pa_cons (pv 0) (pa_cons (pe_callB call_len_seq (by rfl) T.z_len PySem.boot_len (pa_cons (pv 3) pa_nil)) pa_nil))) pa_nil)))) (pg_name (i := 6) sc_law_refused_right.nd rfl (Or.inl rfl))
      (pss_one (ps_if (pt_cmpR (op_neD hu) (C8.pe_c c_law_word hr (by omega) (by rfl) (pa_cons (pv 5) (pa_cons (pv 3) (pa_cons (pv 6) pa_nil)))) (pe_tup (pa_cons pe_str (pa_cons pe_bl (pa_cons pe_bl pa_nil)))) (nomark _)) (pss_one (ps_ret pe_bl)) pss_nil))))))
    (pss_one (ps_ret pe_bl)))))), ?_⟩
    walk_at "ev"
    refine ⟨ha, (by decide), (by decide), fun r1 H1 r10 r11 s1 u1 => ?_⟩
    have p1 := (u1 p hpa).trans hp
    walk_at "ev"
    refine ⟨s1, (by decide), (by decide), fun r2 H2 r20 r21 s2 u2 => ?_⟩
    have p2 := (u2 p hpa).trans p1
    walk_at "ev"
    refine ⟨(by show 2 ≤ sizeLine; decide), fun t nt => ?_⟩
    have t0 := (s2.ne nt).symm
    have p3 := new_at (o' := .lst [.int (-1 - r1), .int (((xs.map V.int).length : Int) + 1 + r2)]) p2 nt
    walk_at "ev"
    refine ⟨(by show 1 ≤ sizeLine; decide), fun t1 nt1 => ?_⟩
    walk_at "ev"
    refine ⟨p, t1, _, _, rfl, rfl, new_at p3 nt1, upd_same, eL (by show _ + 1 ≤ _; omega), fun sp nsp => ?_⟩
    have sA := (same_upd (o := .lst [.int (-1 - r1), .int (((xs.map V.int).length : Int) + 1 + r2)]) nt).trans ((same_upd (o := .lst [.int 0]) nt1).trans (same_upd (o := .lst (xs.map V.int ++ [.int 0])) nsp))
    have sAs := src_same sA s2
    have spa : sp ≠ a := ((src_same ((same_upd (o := .lst [.int (-1 - r1), .int (((xs.map V.int).length : Int) + 1 + r2)]) nt).trans (same_upd (o := .lst [.int 0]) nt1)) s2).ne nsp).symm
    have pA := sA _ _ p2
    have tA := ((same_upd (o := .lst [.int 0]) nt1).trans (same_upd (o := .lst (xs.map V.int ++ [.int 0])) nsp)) _ _ (upd_same (H := H2) (a := t) (o := .lst [.int (-1 - r1), .int (((xs.map V.int).length : Int) + 1 + r2)]))
    walk_at "ev"
    refine ⟨sAs, (by omega), (by omega), fun r3 H3 r30 r31 s3 u3 => ?_⟩
    have pB := (u3 p hpa).trans pA
    have tB := (u3 t t0).trans tA
    have spB := (u3 sp spa).trans (upd_same (a := sp) (o := .lst (xs.map V.int ++ [.int 0])))
    have uB := ((u1.up.trans u2.up).trans ((up_same sA).trans u3.up))
    walk_at "ev"
    refine ⟨(by show 1 ≤ sizeLine; decide), fun w1 nw1 => ?_⟩
    walk_at "ev"
    refine ⟨(by show 6 ≤ sizeLine; decide), fun w2 nw2 => ?_⟩
    have w1B := new_at (o' := .lst [.int 2, .int (-1), .non, .str "1", .ref w1, .int 1000000000000000000000]) (upd_same (H := H3) (a := w1) (o := .lst [.int 1])) nw2
    have y1 := (s3.ne nw1).symm
    refine ⟨_, _, _, rfl, src_same ((same_upd nw1).trans (same_upd nw2)) s3, ?_, upd_same, (by simp), (by show 6 ≤ 1000; decide), fun v H4 hv s4 u4 => ?_⟩
    · exact ((src_same (same_upd nw1) s3).ne nw2).symm
    have pC := (u4 p hpa).trans (new_at (new_at pB nw1) nw2)
    have tC := (u4 t t0).trans (new_at (new_at tB nw1) nw2)
    have spC := (u4 sp spa).trans (new_at (new_at spB nw1) nw2)
    have w1C := (u4 w1 y1).trans w1B
    have uC := uB.trans ((up_same ((same_upd nw1).trans (same_upd nw2))).trans u4.up)
    have hps : p ≠ sp := ne_of_none (new_at p3 nt1) nsp
    have hts : t ≠ sp := ne_of_none (new_at (upd_same (H := H2) (a := t) (o := .lst [.int (-1 - r1), .int (((xs.map V.int).length : Int) + 1 + r2)])) nt1) nsp
    have hws : w1 ≠ sp := (ne_of_none spB nw1).symm
    have hsp0 : H sp = none := ((u1.up.trans u2.up).trans (up_same ((same_upd nt).trans (same_upd nt1)))).new (src_same ((same_upd nt).trans (same_upd nt1)) s2) nsp
    have hlen : (xs.map V.int ++ [V.int 0]).length = xs.length + 1 := by rw [List.length_append, hml]; rfl
    have hr3 : r3.toNat < xs.length + 1 := by omega
    walk_at "ev"
    refine ⟨sp, _, r3, r3.toNat, rfl, rfl, spC, ?_, ?_⟩
    · show (if (0 : Int) ≤ r3 then (if r3 < _ then some r3.toNat else none) else _) = _
      rw [if_pos r30, if_pos (by rw [hlen]; omega)]
    have pD : (upd H4 sp (.lst ((xs.map V.int ++ [V.int 0]).set r3.toNat v))) p = some (.lst (xs.map V.int)) := (upd_ne hps).trans pC
    have tD : (upd H4 sp (.lst ((xs.map V.int ++ [V.int 0]).set r3.toNat v))) t = some (.lst ([-1 - r1, ((xs.map V.int).length : Int) + 1 + r2].map V.int)) := (upd_ne hts).trans tC
    have wD : (upd H4 sp (.lst ((xs.map V.int ++ [V.int 0]).set r3.toNat v))) w1 = some (.lst [.int 1]) := (upd_ne hws).trans w1C
    have sD : Src (upd H4 sp (.lst ((xs.map V.int ++ [V.int 0]).set r3.toNat v))) a := src_keep spa.symm s4
    have uD : Up a H (upd H4 sp (.lst ((xs.map V.int ++ [V.int 0]).set r3.toNat v))) := fun b o nb e => by
      rw [upd_ne (ne_of_none e hsp0)]
      exact uC b o nb e
    have bD : BadAt (upd H4 sp (.lst ((xs.map V.int ++ [V.int 0]).set r3.toNat v))) sp := by
      refine ⟨_, r3.toNat, v, upd_same, ?_, ?_, fun i hi => ?_⟩
      · rw [List.getElem?_set, if_pos rfl, if_pos (by rw [hlen]; exact hr3)]
      · simp only [List.mem_cons, List.not_mem_nil, or_false] at hv
        rcases hv with e | e | e | e | e | e
        · subst e; exact .int _ (by decide)
        · subst e; exact .int _ (by decide)
        · subst e; exact .non
        · subst e; exact .str _
        · subst e; exact .lst wD
        · subst e; exact .int _ (by decide)
      · rw [List.getElem?_set_ne (by omega), List.getElem?_append_left (by rw [hml]; omega), List.getElem?_map]
        have hi2 : i < xs.length := by omega
        rw [List.getElem?_eq_getElem hi2]
        have := hb _ (List.getElem_mem hi2)
        exact ⟨_, rfl, this.1, this.2⟩
    have spD : (upd H4 sp (.lst ((xs.map V.int ++ [V.int 0]).set r3.toNat v))) sp = some (.lst ((xs.map V.int ++ [V.int 0]).set r3.toNat v)) := upd_same
    have hsl : ((xs.map V.int ++ [V.int 0]).set r3.toNat v).length = xs.length + 1 := by rw [List.length_set, hlen]
    generalize (xs.map V.int ++ [V.int 0]).set r3.toNat v = ss at spD hsl bD sD uD wD tD pD ⊢
    generalize upd H4 sp (.lst ss) = H5 at *
    refine ⟨(by show 2 ≤ sizeLine; decide), fun L nL => ?_⟩
    have hLa : L ≠ a := (sD.ne nL).symm
    have uL := up_same (a := a) (same_upd (o := .lst [.bl false, .bl true]) nL)
    refine ⟨L, rfl, ⟨_, .inl (.inl upd_same)⟩, for_list (K := K) (a := L) (xs := [.bl false, .bl true]) (fun _ σ Hx => ∃ v5 v6, σ = [some (.ref a), some (.ref p), some (.ref t), some (.ref sp), some (.int r3), v5, v6] ∧ Up a (upd H5 L (.lst [.bl false, .bl true])) Hx ∧ Src Hx a) ⟨_, _, rfl, Up.refl _ _, src_same (same_upd nL) sD⟩ (fun _ _ Hx _ ⟨_, _, _, u, _⟩ => .inl (.inl (u _ _ hLa upd_same))) ?_ ?_⟩
    · rintro i x σ Hx hx ⟨v5, v6, rfl, ux, sx⟩
      obtain ⟨sg, rfl⟩ : ∃ sg, x = V.bl sg := by
        match i, hx with
        | 0, hx => exact ⟨_, (Option.some.inj hx).symm⟩
        | 1, hx => exact ⟨_, (Option.some.inj hx).symm⟩
      have uLx := uL.trans ux
      have tX := uLx _ _ t0 tD
      walk_at "ev"
      refine ⟨⟨_, .inl (.inl tX)⟩, for_list (K := K) (a := t) (xs := [-1 - r1, ((xs.map V.int).length : Int) + 1 + r2].map V.int) (fun _ σ Hy => ∃ v6, σ = [some (.ref a), some (.ref p), some (.ref t), some (.ref sp), some (.int r3), some (.bl sg), v6] ∧ Up a (upd H5 L (.lst [.bl false, .bl true])) Hy ∧ Src Hy a) ⟨_, rfl, ux, sx⟩ (fun _ _ Hy _ ⟨_, _, u, _⟩ => .inl (.inl ((uL.trans u) _ _ t0 tD))) ?_ ?_⟩
      · rintro j y σ Hy hy ⟨v6, rfl, uy, sy⟩
        obtain ⟨z, rfl, hz⟩ : ∃ z, y = V.int z ∧ (z < 0 ∨ (xs.length : Int) < z) := by
          match j, hy with
          | 0, hy => exact ⟨_, (Option.some.inj hy).symm, .inl (by omega)⟩
          | 1, hy => exact ⟨_, (Option.some.inj hy).symm, .inr (by omega)⟩
        have pY := (uL.trans uy) _ _ hpa pD
        walk_at "ev"
        refine ⟨_, _, _, rfl, .inl ⟨xs, pY, hb, by omega, .inr ⟨hz, fun g Hz ng sz eg => ?_⟩⟩⟩
        walk_at "ev"
        refine ⟨(by show 3 ≤ sizeLine; decide), fun g2 ng2 => q_neW (new_at eg ng2) upd_same sh_out ?_⟩
        walk_at "ev"
        exact ⟨(uy.trans (up_same sz)).trans (up_same (same_upd ng2)), src_same (sz.trans (same_upd ng2)) sy⟩
      · rintro σ Hy ⟨v6, rfl, uy, sy⟩
        have spY := (uL.trans uy) _ _ spa spD
        have tY := (uL.trans uy) _ _ t0 tD
        walk_at "ev"
        refine ⟨sy, (by rw [hsl]; omega), (by rw [hsl]; omega), fun r6 H6 r60 r61 s6 u6 => ?_⟩
        walk_at "ev"
        refine ⟨(by show 1 ≤ sizeLine; decide), fun p7 n7 => ?_⟩
        have tZ := new_at (o' := .lst [.int r6]) ((u6 t t0).trans tY) n7
        refine ⟨t, p7, _, _, rfl, rfl, tZ, upd_same, (by show 3 ≤ sizeLine; decide), fun p8 n8 => ?_⟩
        have sZ := src_same ((same_upd (o := .lst [.int r6]) n7).trans (same_upd (o := .lst ([-1 - r1, ((xs.map V.int).length : Int) + 1 + r2].map V.int ++ [V.int r6])) n8)) s6
        have uZ := (uy.trans u6.up).trans (up_same ((same_upd (o := .lst [.int r6]) n7).trans (same_upd (o := .lst ([-1 - r1, ((xs.map V.int).length : Int) + 1 + r2].map V.int ++ [V.int r6])) n8)))
        have y8 := ((src_same (same_upd (o := .lst [.int r6]) n7) s6).ne n8).symm
        walk_at "ev"
        refine ⟨⟨_, .inl (.inl upd_same)⟩, for_list (K := K) (a := p8) (xs := [-1 - r1, ((xs.map V.int).length : Int) + 1 + r2].map V.int ++ [V.int r6]) (fun _ σ Hw => ∃ v6, σ = [some (.ref a), some (.ref p), some (.ref t), some (.ref sp), some (.int r3), some (.bl sg), v6] ∧ Up a (upd (upd H6 p7 (.lst [.int r6])) p8 (.lst ([-1 - r1, ((xs.map V.int).length : Int) + 1 + r2].map V.int ++ [V.int r6]))) Hw ∧ Src Hw a) ⟨_, rfl, Up.refl _ _, sZ⟩ (fun _ _ Hw _ ⟨_, _, u, _⟩ => .inl (.inl (u _ _ y8 upd_same))) ?_ ?_⟩
        · rintro j y σ Hw hy ⟨v6, rfl, uw, sw⟩
          obtain ⟨z, rfl⟩ : ∃ z, y = V.int z := by
            match j, hy with
            | 0, hy => exact ⟨_, (Option.some.inj hy).symm⟩
            | 1, hy => exact ⟨_, (Option.some.inj hy).symm⟩
            | 2, hy => exact ⟨_, (Option.some.inj hy).symm⟩
          walk_at "ev"
          refine ⟨_, _, _, rfl, .inr ⟨bD.up spa (uL.trans (uZ.trans uw)) sw, fun g Hz ng sz eg => ?_⟩⟩
          walk_at "ev"
          refine ⟨(by show 3 ≤ sizeLine; decide), fun g2 ng2 => q_neW (new_at eg ng2) upd_same sh_bits ?_⟩
          walk_at "ev"
          exact ⟨(uw.trans (up_same sz)).trans (up_same (same_upd ng2)), src_same (sz.trans (same_upd ng2)) sw⟩
        · rintro σ Hw ⟨v6, rfl, uw, sw⟩
          walk_at "ev"
          exact ⟨uZ.trans uw, sw⟩
    · rintro σ Hx ⟨v5, v6, rfl, ux, sx⟩
      exact q _ sx (uD.trans (uL.trans ux))
/-! ### the law -/
theorem ones_rep {n : Nat} : AreBits (List.replicate n 1) := fun b h => by
  rw [List.eq_of_mem_replicate h]
  decide
theorem rd1 : readC (List.replicate 41 0) 0 = .long := by rfl
theorem rd2 : readC (List.replicate 41 0 ++ [1]) 0 = .long := by rfl
theorem rd3 : readC (List.replicate 40 0 ++ List.replicate 41 1) 0 = .read 2199023255550 81 := by rfl
def spLaw (K : PySem.W.Frag) : Sp := fun vs H Q _ => ∃ (a : Addr) (ns : List Int), vs = [.ref a] ∧ SqL K H a (ns.map V.int) ∧ ns.length ≤ 63 ∧ ∀ H', Q (.bl true) H'
def spReadC : Sp := fun vs H Q _ => ∃ (p : Addr) (xs : List Int) (a : Nat), vs = [.ref p, .int a] ∧ H p = some (.lst (xs.map V.int)) ∧ AreBits xs ∧ a ≤ xs.length ∧ xs.length ≤ 1000 ∧ ∀ (q : Addr) (H' : Hp), H q = none → Same H H' → H' q = some (.tup (rcV (readC xs a))) → Q (.ref q) H'
theorem ok_read_count {f : Addr} {fd : FuncData} {k : Nat} (F : Fun K "read_count" "read_count" s_read_count f fd) (c_check_place : C8.Cal P w K mg base 3 "check_place" spCheckP []) (c_count_at : C8.Cal P w K mg base 2 "count_at" spCountAt []) : FnOk P w K mg base CX0 (k + 4) f fd ["bits", "at"] spReadC := by
  refine F.ok sc_read_count (fun vs H Q E h => ?_) (fun cdv A outer s H vs Q E hr h => ?_)
  · obtain ⟨p, xs, a, rfl, _⟩ := h
    rfl
  · obtain ⟨p, xs, a, rfl, hp, hb, ha, hl, q⟩ := h
    refine ⟨_, (pss_cons (ps_expr (C8.pe_c c_check_place hr (by omega) (by rfl) (pa_cons (pv 0) (pa_cons (pv 1) pa_nil))))
    (pss_one (ps_ret (C8.pe_c c_count_at hr (by omega) (by rfl) (pa_cons (pv 0) (pa_cons (pv 1) pa_nil)))))), ?_⟩
    walk_at "ev"
    refine ⟨p, xs, a, rfl, hp, hb, ha, ?_⟩
    walk_at "ev"
    refine ⟨p, xs, a, rfl, hp, hb, ha, hl, ?_⟩
    exact q
theorem ok_law {f : Addr} {fd : FuncData} {k : Nat} (F : Fun K "law" "law" s_law f fd) (T : Txt mg) (c_law_pool : C8.Cal P w K mg base 1 "_law_pool" (spPool K) []) (c_law_take : C8.Cal P w K mg base 1 "_law_take" spTake []) (c_law_list : C8.Cal P w K mg base 3 "_law_list" spList []) (c_law_read : C8.Cal P w K mg base 1 "_law_read" spCountAt []) (c_law_signed : C8.Cal P w K mg base 1 "_law_signed" spSgn [])
    (c_law_word : C8.Cal P w K mg base 5 "_law_word" spWord []) (c_law_refused_right : C8.Cal P w K mg base 6 "_law_refused_right" spRefused []) (c_read_count : C8.Cal P w K mg base 4 "read_count" spReadC []) : FnOk P w K mg base CX0 (k + 7) f fd ["_law_script"] (spLaw K) := by
  refine F.ok sc_law (fun vs H Q E h => ?_) (fun cdv A outer s H vs Q E hr h => ?_)
  · obtain ⟨a, ns, rfl, _⟩ := h
    rfl
  · obtain ⟨a, ns, rfl, hS, hl, q⟩ := h
    have hu := hr.units
    refine ⟨_, (pss_cons (ps_for PassesOwn.never rfl (pi_range1 (by rfl) T.z_range (pa_cons (pe_callB (call_max2 rfl) (by rfl) T.z_max PyProof.Rows.boot_max (pa_cons pe_int (pa_cons (pe_callB (call_min2 rfl) (by rfl) T.z_min PyProof.Rows.boot_min (pa_cons (pe_callB call_len_seq (by rfl) T.z_len PySem.boot_len (pa_cons (pv 0) pa_nil)) (pa_cons pe_int pa_nil))) pa_nil))) pa_nil)) (pg_name (i := 1) sc_law.nd rfl (Or.inl rfl))
      (pss_cons (ps_set (i := 2) sc_law.nd rfl (Or.inl rfl) (C8.pe_c c_law_pool hr (by omega) (by rfl) (pa_cons (pv 0) (pa_cons (pv 1) pa_nil))))
    (pss_cons (ps_set (i := 3) sc_law.nd rfl (Or.inl rfl) (C8.pe_c c_law_list hr (by omega) (by rfl) (pa_cons (pv 2) pa_nil)))
    (pss_cons (ps_set (i := 4) sc_law.nd rfl (Or.inl rfl) (pe_callTy call_list_of (by rfl) T.z_list PyProof.Rows.boot_list (pa_cons (pv 3) pa_nil)))
    (pss_cons (ps_for PassesOwn.never rfl (pi_list (pe_lst (pa_cons (C8.pe_c c_law_take hr (by omega) (by rfl) (pa_cons (pv 2) (pa_cons (pe_op op_add (pe_callB call_len_seq (by rfl) T.z_len PySem.boot_len (pa_cons (pv 3) pa_nil)) pe_int) pa_nil))) (pa_cons pe_int (pa_cons (pe_callB call_len_seq (by rfl) T.z_len PySem.boot_len (pa_cons (pv 3) pa_nil)) (pa_cons (pe_callB (call_min2 rfl) (by rfl) T.z_min PyProof.Rows.boot_min (pa_cons (pe_callB call_len_seq (by rfl) T.z_len PySem.boot_len (pa_cons (pv 3) pa_nil)) (pa_cons (C8.pe_c c_law_take hr (by omega) (by rfl) (pa_cons (pv 2) (pa_cons pe_int pa_nil))) pa_nil))) pa_nil)))))) (pg_name (i := 5) sc_law.nd rfl (Or.inl rfl))
      (pss_cons (ps_set (i := 6) sc_law.nd rfl (Or.inl rfl) (C8.pe_c c_law_read hr (by omega) (by rfl) (pa_cons (pv 4) (pa_cons (pv 5) pa_nil))))
    (pss_one (ps_if (PW.pt (pw_or (pt_cmpR (op_neD hu) (C8.pe_c c_law_word hr (by omega) (by rfl) (pa_cons pe_bl (pa_cons (pv 3) (pa_cons (pv 5) pa_nil)))) (pv 6) (nomark _)) (pw_or1 (pt_cmpR (op_neD hu) (C8.pe_c c_law_word hr (by omega) (by rfl) (pa_cons pe_bl (pa_cons (pv 3) (pa_cons (pv 5) pa_nil)))) (C8.pe_c c_law_signed hr (by omega) (by rfl) (pa_cons (pv 6) pa_nil)) (nomark _))))) (pss_one (ps_ret pe_bl)) pss_nil))))
    (pss_one (ps_if (PW.pt (pw_or (pt_cmpR (op_neD hu) (pv 3) (pv 4) (nomark _)) (pw_or1 (pt_not (pt_val (C8.pe_c c_law_refused_right hr (by omega) (by rfl) (pa_cons (pv 2) (pa_cons (pv 3) pa_nil)))))))) (pss_one (ps_ret pe_bl)) pss_nil)))))))
    (pss_cons (ps_set (i := 7) sc_law.nd rfl (Or.inl rfl) (pe_lst (pa_cons (C8.pe_c c_read_count hr (by omega) (by rfl) (pa_cons (pe_op op_rep (pe_lst (pa_cons pe_int pa_nil)) pe_int) (pa_cons pe_int pa_nil))) (pa_cons (C8.pe_c c_read_count hr (by omega) (by rfl) (pa_cons (pe_op op_cat (pe_op op_rep (pe_lst (pa_cons pe_int pa_nil)) pe_int) (pe_lst (pa_cons pe_int pa_nil))) (pa_cons pe_int pa_nil))) (pa_cons (C8.pe_c c_read_count hr (by omega) (by rfl) (pa_cons (pe_op op_cat (pe_op op_rep (pe_lst (pa_cons pe_int pa_nil)) pe_int) (pe_op op_rep (pe_lst (pa_cons pe_int pa_nil)) pe_int)) (pa_cons pe_int pa_nil))) pa_nil)))))
    (pss_one (ps_ret (pe_cmpR (op_eqD hu) (pv 7) (pe_lst (pa_cons (pe_tup (pa_cons pe_str pa_nil)) (pa_cons (pe_tup (pa_cons pe_str pa_nil)) (pa_cons (pe_tup (pa_cons pe_str (pa_cons (pe_op op_sub (pe_op (op_powc (a := 2) (b := 41) (c := 2199023255552) ⟨by decide, by decide, by decide⟩ (by decide +kernel)) pe_int pe_int) pe_int) (pa_cons pe_int pa_nil)))) pa_nil)))) (nomark _)))))), ?_⟩
    refine ⟨_, rfl, a, _, rfl, .inl hS, ?_⟩
    walk_at "ev"
    refine ⟨(by split <;> split <;> omega), (by split <;> split <;> omega), ?_⟩
    refine for_range (fun i σ H1 => ∃ v1 v2 v3 v4 v5 v6 v7, σ = [some (.ref a), v1, v2, v3, v4, v5, v6, v7] ∧ Same H H1) ⟨_, _, _, _, _, _, _, rfl, Same.refl H⟩ ?_ ?_
    · rintro i σ H1 hi ⟨v1, v2, v3, v4, v5, v6, v7, rfl, s1⟩
      walk_at "ev"
      refine ⟨_, _, _, rfl, s1.seq hS, (by omega), ?_, fun p H2 np sm hs => ?_⟩
      · split at hi <;> split at hi <;> omega
      have n0 : H p = none := s1.free np
      have s2 : Same H H2 := s1.trans sm
      walk_at "ev"
      refine ⟨hs, fun b xs H3 nb hb hbl e3 s3 u3 => ?_⟩
      have hbp : b ≠ p := (hs.ne nb).symm
      have hml : (xs.map V.int).length = xs.length := List.length_map _
      have eL : ∀ {m : Nat}, m ≤ 1000 → m ≤ sizeLine := fun h => Nat.le_of_lt (small1000 h)
      walk_at "ev"
      refine fun kp nk => ?_
      have sk := src_same (same_upd (o := .lst (xs.map V.int)) nk) s3
      have hkp : kp ≠ p := (s3.ne nk).symm
      have e4 := new_at (o' := .lst (xs.map V.int)) e3 nk
      walk_at "ev"
      refine ⟨sk, (by omega), (by omega), fun r1 H4 r10 r11 s4 u4 => ?_⟩
      have e5 := (u4 b hbp).trans e4
      have e5k := (u4 kp hkp).trans (upd_same (H := H3) (a := kp) (o := .lst (xs.map V.int)))
      walk_at "ev"
      refine ⟨s4, (by decide), (by decide), fun r2 H5 r20 r21 s5 u5 => ?_⟩
      have e6 := (u5 b hbp).trans e5
      have e6k := (u5 kp hkp).trans e5k
      walk_at "ev"
      refine ⟨(by show 4 ≤ sizeLine; decide), fun L nL => ?_⟩
      have hLp : L ≠ p := (s5.ne nL).symm
      have e7 := fun o => new_at (o' := o) e6 nL
      have e7k := fun o => new_at (o' := o) e6k nL
      walk_at "ev"
      have s6 := fun o => src_same (same_upd (o := o) nL) s5
      have u6 : ∀ o, Up p H2 (upd H5 L o) := fun o => u3.trans ((up_same (same_upd nk)).trans (u4.up.trans (u5.up.trans (up_same (same_upd nL)))))
      refine ⟨⟨_, .inl (.inl upd_same)⟩, for_list (K := K) (a := L) (xs := [.int r1, .int 0, .int ((xs.map V.int).length : Int), .int (if r2 < ((xs.map V.int).length : Int) then r2 else ((xs.map V.int).length : Int))]) (fun _ σ Hx => ∃ v5 v6, σ = [some (.ref a), some (.int (0 + (i : Int))), some (.ref p), some (.ref b), some (.ref kp), v5, v6, v7] ∧ Up p (upd H5 L (.lst [.int r1, .int 0, .int ((xs.map V.int).length : Int), .int (if r2 < ((xs.map V.int).length : Int) then r2 else ((xs.map V.int).length : Int))])) Hx ∧ Src Hx p) ⟨_, _, rfl, Up.refl _ _, s6 _⟩ (fun _ _ Hx _ ⟨_, _, _, u, _⟩ => .inl (.inl (u _ _ hLp upd_same))) ?_ ?_⟩
      · rintro j y σ Hx hy ⟨v5, v6, rfl, ux, sx⟩
        obtain ⟨z, rfl, hz0, hz1⟩ : ∃ z : Int, y = V.int z ∧ 0 ≤ z ∧ z ≤ (xs.length : Int) := by
          match j, hy with
          | 0, hy => exact ⟨_, (Option.some.inj hy).symm, by omega, by omega⟩
          | 1, hy => exact ⟨_, (Option.some.inj hy).symm, by omega, by omega⟩
          | 2, hy => exact ⟨_, (Option.some.inj hy).symm, by omega, by omega⟩
          | 3, hy => exact ⟨_, (Option.some.inj hy).symm, by split <;> omega, by split <;> omega⟩
        have ez : z = ((z.toNat : Nat) : Int) := (Int.toNat_of_nonneg hz0).symm
        have g1 := ux _ _ hbp (e7 _)
        have g1k := ux _ _ hkp (e7k _)
        walk_at "ev"
        refine ⟨kp, xs, z.toNat, by rw [← ez]; rfl, g1k, hb, by omega, by omega, fun d G1 nd sd ed => ?_⟩
        walk_at "ev"
        refine ⟨_, _, _, rfl, .inl ⟨xs, sd _ _ g1, hb, by omega, .inl ⟨hz0, hz1, fun t1 G2 nt1 st1 et1 => ?_⟩⟩⟩
        walk_at "ev"
        refine q_neR (r := readC xs z.toNat) et1 (st1 _ _ ed) ?_
        walk_at "ev"
        refine ⟨_, _, _, rfl, .inl ⟨xs, st1 _ _ (sd _ _ g1), hb, by omega, .inl ⟨hz0, hz1, fun t2 G3 nt2 st2 et2 => ?_⟩⟩⟩
        walk_at "ev"
        refine ⟨d, readC xs z.toNat, rfl, st2 _ _ (st1 _ _ ed), fun t3 G4 st3 et3 => ?_⟩
        walk_at "ev"
        refine q_neR (r := sgnR (readC xs z.toNat)) (st3 _ _ et2) et3 ?_
        walk_at "ev"
        have sw := sd.trans (st1.trans (st2.trans st3))
        exact ⟨ux.trans (up_same sw), src_same sw sx⟩
      · rintro σ Hx ⟨v5, v6, rfl, ux, sx⟩
        have g1 := ux _ _ hbp (e7 _)
        have g1k := ux _ _ hkp (e7k _)
        walk_at "ev"
        refine q_neI g1 g1k ?_
        walk_at "ev"
        refine ⟨p, b, xs, rfl, sx, hbp, g1, hb, hbl, fun Hy sy uy => ?_⟩
        walk_at "ev"
        exact ⟨_, _, _, _, _, _, _, rfl, ((u6 _).trans (ux.trans uy)).to s2 n0⟩
    · rintro σ H1 ⟨v1, v2, v3, v4, v5, v6, v7, rfl, s1⟩
      have eL : ∀ {m : Nat}, m ≤ 1000 → m ≤ sizeLine := fun h => Nat.le_of_lt (small1000 h)
      walk_at "ev"
      refine ⟨(by show 1 ≤ sizeLine; decide), fun a1 m1 => ?_⟩
      walk_at "ev"
      refine ⟨a1, _, _, rfl, rfl, upd_same, by omega, by omega, eL (by decide), fun a2 m2 => ?_⟩
      rw [rep_ints]
      walk_at "ev"
      refine ⟨a2, List.replicate 41 0, 0, rfl, upd_same, AreBits.zeros _, by decide, by decide, fun t1 G1 n1 c1 f1 => ?_⟩
      rw [rd1] at f1
      walk_at "ev"
      refine ⟨(by show 1 ≤ sizeLine; decide), fun a3 m3 => ?_⟩
      walk_at "ev"
      refine ⟨a3, _, _, rfl, rfl, upd_same, by omega, by omega, eL (by decide), fun a4 m4 => ?_⟩
      rw [rep_ints]
      walk_at "ev"
      refine ⟨(by show 1 ≤ sizeLine; decide), fun a5 m5 => ?_⟩
      walk_at "ev"
      refine ⟨a4, a5, _, _, rfl, rfl, new_at upd_same m5, upd_same, eL (by decide), fun a6 m6 => ?_⟩
      walk_at "ev"
      refine ⟨a6, List.replicate 41 0 ++ [1], 0, rfl, upd_same, (AreBits.zeros _).app ones_bits, by decide, by decide, fun t2 G2 n2 c2 f2 => ?_⟩
      rw [rd2] at f2
      walk_at "ev"
      refine ⟨(by show 1 ≤ sizeLine; decide), fun a7 m7 => ?_⟩
      walk_at "ev"
      refine ⟨a7, _, _, rfl, rfl, upd_same, by omega, by omega, eL (by decide), fun a8 m8 => ?_⟩
      rw [rep_ints]
      walk_at "ev"
      refine ⟨(by show 1 ≤ sizeLine; decide), fun a9 m9 => ?_⟩
      walk_at "ev"
      refine ⟨a9, _, _, rfl, rfl, upd_same, by omega, by omega, eL (by decide), fun a10 m10 => ?_⟩
      rw [rep_ints]
      walk_at "ev"
      refine ⟨a8, a10, _, _, rfl, rfl, new_at (new_at upd_same m9) m10, upd_same, eL (by decide), fun a11 m11 => ?_⟩
      walk_at "ev"
      refine ⟨a11, List.replicate 40 0 ++ List.replicate 41 1, 0, rfl, upd_same, (AreBits.zeros _).app ones_rep, by decide, by decide, fun t3 G3 n3 c3 f3 => ?_⟩
      rw [rd3] at f3
      walk_at "ev"
      refine ⟨(by show 3 ≤ sizeLine; decide), fun e1 w1 => ?_⟩
      walk_at "ev"
      refine ⟨(by show 1 ≤ sizeLine; decide), fun p1 x1 => ?_⟩
      walk_at "ev"
      refine ⟨(by show 1 ≤ sizeLine; decide), fun p2 x2 => ?_⟩
      walk_at "ev"
      refine ⟨(by show 3 ≤ sizeLine; decide), fun p3 x3 => ?_⟩
      walk_at "ev"
      refine ⟨(by show 3 ≤ sizeLine; decide), fun e2 x4 => ?_⟩
      walk_at "ev"
      have z1 := (((same_upd (o := .tup [.str "long"]) x1).trans (same_upd (o := .tup [.str "long"]) x2)).trans (same_upd (o := .tup [.str "read", .int (2199023255552 - 2), .int 81]) x3)).trans (same_upd (o := .lst [.ref p1, .ref p2, .ref p3]) x4)
      have z0 := (same_upd (o := .lst [.ref t1, .ref t2, .ref t3]) w1).trans z1
      have y1 := new_at (o' := .lst [.ref p1, .ref p2, .ref p3]) (new_at (o' := .tup [.str "read", .int (2199023255552 - 2), .int 81]) (new_at (o' := .tup [.str "long"]) (upd_same (H := upd G3 e1 (.lst [.ref t1, .ref t2, .ref t3])) (a := p1) (o := .tup [.str "long"])) x2) x3) x4
      have y2 := new_at (o' := .lst [.ref p1, .ref p2, .ref p3]) (new_at (o' := .tup [.str "read", .int (2199023255552 - 2), .int 81]) (upd_same (H := upd (upd G3 e1 (.lst [.ref t1, .ref t2, .ref t3])) p1 (.tup [.str "long"])) (a := p2) (o := .tup [.str "long"])) x3) x4
      have y3 := new_at (o' := .lst [.ref p1, .ref p2, .ref p3]) (upd_same (H := upd (upd (upd G3 e1 (.lst [.ref t1, .ref t2, .ref t3])) p1 (.tup [.str "long"])) p2 (.tup [.str "long"])) (a := p3) (o := .tup [.str "read", .int (2199023255552 - 2), .int 81])) x4
      have sL := (same_upd (o := .lst [.int 0]) m7).trans ((same_upd (o := .lst ((List.replicate (40 : Int).toNat (0 : Int)).map V.int)) m8).trans ((same_upd (o := .lst [.int 1]) m9).trans ((same_upd (o := .lst ((List.replicate (41 : Int).toNat (1 : Int)).map V.int)) m10).trans (same_upd (o := .lst ((List.replicate (40 : Int).toNat (0 : Int)).map V.int ++ (List.replicate (41 : Int).toNat (1 : Int)).map V.int)) m11))))
      have sK := (same_upd (o := .lst [.int 0]) m3).trans ((same_upd (o := .lst ((List.replicate (41 : Int).toNat (0 : Int)).map V.int)) m4).trans ((same_upd (o := .lst [.int 1]) m5).trans (same_upd (o := .lst ((List.replicate (41 : Int).toNat (0 : Int)).map V.int ++ [V.int 1])) m6)))
      have d1 := dp_rc (K := K) (r := .long) (z0 _ _ (c3 _ _ (sL _ _ (c2 _ _ (sK _ _ f1)))))
      have d2 := dp_rc (K := K) (r := .long) (z0 _ _ (c3 _ _ (sL _ _ f2)))
      have d3 := dp_rc (K := K) (r := .read 2199023255550 81) (z0 _ _ f3)
      have q1 := dp_rc (K := K) (r := .long) y1
      have q2 := dp_rc (K := K) (r := .long) y2
      have q3 := dp_rc (K := K) (r := .read (2199023255552 - 2) 81) y3
      refine ⟨_, _, .lst (.inl (.inl (z1 _ _ upd_same))) (.cons d1 (.cons d2 (.cons d3 .nil))), .lst (.inl (.inl upd_same)) (.cons q1 (.cons q2 (.cons q3 .nil))), by decide +kernel, by decide +kernel, ?_⟩
      exact q _
end
/-! ### what the top has written -/
theorem all_mk {l : PySem.W.OpenLaw} {w : World} {K : PySem.W.Frag} {h : Heap} {mg : Str → Option Value} {fa : Addr} (X : K.In h) (G : h.Ns mainGlobals mg) (hfa : mg "law" = some (.ref fa))
    {od0 an0 : Option Addr} {sl0 : Array (Option Value)} {oc0 kV0 dc0 pm0 cd0 ct0 : Value} {f0 : Addr}
    (a0 : PySem.W.nsIn K mainGlobals "is_number" = some (some (.ref f0))) (l0 : K.lookup f0 = some ⟨oc0, od0, .func (PySem.W.fnOf "is_number" "is_number" (defArgs s_is_number) (defBody s_is_number) (defScope s_is_number) .none kV0 dc0 pm0 an0 cd0 ct0), sl0⟩) (c0 : PySem.W.codeIn K cd0 "is_number" = true) (k0 : PySem.W.keepIn K (.ref f0) = true)
    {od1 an1 : Option Addr} {sl1 : Array (Option Value)} {oc1 kV1 dc1 pm1 cd1 ct1 : Value} {f1 : Addr}
    (a1 : PySem.W.nsIn K mainGlobals "check_bits" = some (some (.ref f1))) (l1 : K.lookup f1 = some ⟨oc1, od1, .func (PySem.W.fnOf "check_bits" "check_bits" (defArgs s_check_bits) (defBody s_check_bits) (defScope s_check_bits) .none kV1 dc1 pm1 an1 cd1 ct1), sl1⟩) (c1 : PySem.W.codeIn K cd1 "check_bits" = true) (k1 : PySem.W.keepIn K (.ref f1) = true)
    {od2 an2 : Option Addr} {sl2 : Array (Option Value)} {oc2 kV2 dc2 pm2 cd2 ct2 : Value} {f2 : Addr}
    (a2 : PySem.W.nsIn K mainGlobals "number_of" = some (some (.ref f2))) (l2 : K.lookup f2 = some ⟨oc2, od2, .func (PySem.W.fnOf "number_of" "number_of" (defArgs s_number_of) (defBody s_number_of) (defScope s_number_of) .none kV2 dc2 pm2 an2 cd2 ct2), sl2⟩) (c2 : PySem.W.codeIn K cd2 "number_of" = true) (k2 : PySem.W.keepIn K (.ref f2) = true)
    {od3 an3 : Option Addr} {sl3 : Array (Option Value)} {oc3 kV3 dc3 pm3 cd3 ct3 : Value} {f3 : Addr}
    (a3 : PySem.W.nsIn K mainGlobals "count_at" = some (some (.ref f3))) (l3 : K.lookup f3 = some ⟨oc3, od3, .func (PySem.W.fnOf "count_at" "count_at" (defArgs s_count_at) (defBody s_count_at) (defScope s_count_at) .none kV3 dc3 pm3 an3 cd3 ct3), sl3⟩) (c3 : PySem.W.codeIn K cd3 "count_at" = true) (k3 : PySem.W.keepIn K (.ref f3) = true)
    {od4 an4 : Option Addr} {sl4 : Array (Option Value)} {oc4 kV4 dc4 pm4 cd4 ct4 : Value} {f4 : Addr}
    (a4 : PySem.W.nsIn K mainGlobals "signed_at" = some (some (.ref f4))) (l4 : K.lookup f4 = some ⟨oc4, od4, .func (PySem.W.fnOf "signed_at" "signed_at" (defArgs s_signed_at) (defBody s_signed_at) (defScope s_signed_at) .none kV4 dc4 pm4 an4 cd4 ct4), sl4⟩) (c4 : PySem.W.codeIn K cd4 "signed_at" = true) (k4 : PySem.W.keepIn K (.ref f4) = true)
    {od5 an5 : Option Addr} {sl5 : Array (Option Value)} {oc5 kV5 dc5 pm5 cd5 ct5 : Value} {f5 : Addr}
    (a5 : PySem.W.nsIn K mainGlobals "check_place" = some (some (.ref f5))) (l5 : K.lookup f5 = some ⟨oc5, od5, .func (PySem.W.fnOf "check_place" "check_place" (defArgs s_check_place) (defBody s_check_place) (defScope s_check_place) .none kV5 dc5 pm5 an5 cd5 ct5), sl5⟩) (c5 : PySem.W.codeIn K cd5 "check_place" = true) (k5 : PySem.W.keepIn K (.ref f5) = true)
    {od6 an6 : Option Addr} {sl6 : Array (Option Value)} {oc6 kV6 dc6 pm6 cd6 ct6 : Value} {f6 : Addr}
    (a6 : PySem.W.nsIn K mainGlobals "read_count" = some (some (.ref f6))) (l6 : K.lookup f6 = some ⟨oc6, od6, .func (PySem.W.fnOf "read_count" "read_count" (defArgs s_read_count) (defBody s_read_count) (defScope s_read_count) .none kV6 dc6 pm6 an6 cd6 ct6), sl6⟩) (c6 : PySem.W.codeIn K cd6 "read_count" = true) (k6 : PySem.W.keepIn K (.ref f6) = true)
    {od7 an7 : Option Addr} {sl7 : Array (Option Value)} {oc7 kV7 dc7 pm7 cd7 ct7 : Value} {f7 : Addr}
    (a7 : PySem.W.nsIn K mainGlobals "read_signed" = some (some (.ref f7))) (l7 : K.lookup f7 = some ⟨oc7, od7, .func (PySem.W.fnOf "read_signed" "read_signed" (defArgs s_read_signed) (defBody s_read_signed) (defScope s_read_signed) .none kV7 dc7 pm7 an7 cd7 ct7), sl7⟩) (c7 : PySem.W.codeIn K cd7 "read_signed" = true) (k7 : PySem.W.keepIn K (.ref f7) = true)
    {od8 an8 : Option Addr} {sl8 : Array (Option Value)} {oc8 kV8 dc8 pm8 cd8 ct8 : Value} {f8 : Addr}
    (a8 : PySem.W.nsIn K mainGlobals "_law_pool" = some (some (.ref f8))) (l8 : K.lookup f8 = some ⟨oc8, od8, .func (PySem.W.fnOf "_law_pool" "_law_pool" (defArgs s_law_pool) (defBody s_law_pool) (defScope s_law_pool) .none kV8 dc8 pm8 an8 cd8 ct8), sl8⟩) (c8 : PySem.W.codeIn K cd8 "_law_pool" = true) (k8 : PySem.W.keepIn K (.ref f8) = true)
    {od9 an9 : Option Addr} {sl9 : Array (Option Value)} {oc9 kV9 dc9 pm9 cd9 ct9 : Value} {f9 : Addr}
    (a9 : PySem.W.nsIn K mainGlobals "_law_take" = some (some (.ref f9))) (l9 : K.lookup f9 = some ⟨oc9, od9, .func (PySem.W.fnOf "_law_take" "_law_take" (defArgs s_law_take) (defBody s_law_take) (defScope s_law_take) .none kV9 dc9 pm9 an9 cd9 ct9), sl9⟩) (c9 : PySem.W.codeIn K cd9 "_law_take" = true) (k9 : PySem.W.keepIn K (.ref f9) = true)
    {od10 an10 : Option Addr} {sl10 : Array (Option Value)} {oc10 kV10 dc10 pm10 cd10 ct10 : Value} {f10 : Addr}
    (a10 : PySem.W.nsIn K mainGlobals "_law_one" = some (some (.ref f10))) (l10 : K.lookup f10 = some ⟨oc10, od10, .func (PySem.W.fnOf "_law_one" "_law_one" (defArgs s_law_one) (defBody s_law_one) (defScope s_law_one) .none kV10 dc10 pm10 an10 cd10 ct10), sl10⟩) (c10 : PySem.W.codeIn K cd10 "_law_one" = true) (k10 : PySem.W.keepIn K (.ref f10) = true)
    {od11 an11 : Option Addr} {sl11 : Array (Option Value)} {oc11 kV11 dc11 pm11 cd11 ct11 : Value} {f11 : Addr}
    (a11 : PySem.W.nsIn K mainGlobals "_law_bits" = some (some (.ref f11))) (l11 : K.lookup f11 = some ⟨oc11, od11, .func (PySem.W.fnOf "_law_bits" "_law_bits" (defArgs s_law_bits) (defBody s_law_bits) (defScope s_law_bits) .none kV11 dc11 pm11 an11 cd11 ct11), sl11⟩) (c11 : PySem.W.codeIn K cd11 "_law_bits" = true) (k11 : PySem.W.keepIn K (.ref f11) = true)
    {od12 an12 : Option Addr} {sl12 : Array (Option Value)} {oc12 kV12 dc12 pm12 cd12 ct12 : Value} {f12 : Addr}
    (a12 : PySem.W.nsIn K mainGlobals "_law_list" = some (some (.ref f12))) (l12 : K.lookup f12 = some ⟨oc12, od12, .func (PySem.W.fnOf "_law_list" "_law_list" (defArgs s_law_list) (defBody s_law_list) (defScope s_law_list) .none kV12 dc12 pm12 an12 cd12 ct12), sl12⟩) (c12 : PySem.W.codeIn K cd12 "_law_list" = true) (k12 : PySem.W.keepIn K (.ref f12) = true)
    {od13 an13 : Option Addr} {sl13 : Array (Option Value)} {oc13 kV13 dc13 pm13 cd13 ct13 : Value} {f13 : Addr}
    (a13 : PySem.W.nsIn K mainGlobals "_law_read" = some (some (.ref f13))) (l13 : K.lookup f13 = some ⟨oc13, od13, .func (PySem.W.fnOf "_law_read" "_law_read" (defArgs s_law_read) (defBody s_law_read) (defScope s_law_read) .none kV13 dc13 pm13 an13 cd13 ct13), sl13⟩) (c13 : PySem.W.codeIn K cd13 "_law_read" = true) (k13 : PySem.W.keepIn K (.ref f13) = true)
    {od14 an14 : Option Addr} {sl14 : Array (Option Value)} {oc14 kV14 dc14 pm14 cd14 ct14 : Value} {f14 : Addr}
    (a14 : PySem.W.nsIn K mainGlobals "_law_signed" = some (some (.ref f14))) (l14 : K.lookup f14 = some ⟨oc14, od14, .func (PySem.W.fnOf "_law_signed" "_law_signed" (defArgs s_law_signed) (defBody s_law_signed) (defScope s_law_signed) .none kV14 dc14 pm14 an14 cd14 ct14), sl14⟩) (c14 : PySem.W.codeIn K cd14 "_law_signed" = true) (k14 : PySem.W.keepIn K (.ref f14) = true)
    {od15 an15 : Option Addr} {sl15 : Array (Option Value)} {oc15 kV15 dc15 pm15 cd15 ct15 : Value} {f15 : Addr}
    (a15 : PySem.W.nsIn K mainGlobals "_law_word" = some (some (.ref f15))) (l15 : K.lookup f15 = some ⟨oc15, od15, .func (PySem.W.fnOf "_law_word" "_law_word" (defArgs s_law_word) (defBody s_law_word) (defScope s_law_word) .none kV15 dc15 pm15 an15 cd15 ct15), sl15⟩) (c15 : PySem.W.codeIn K cd15 "_law_word" = true) (k15 : PySem.W.keepIn K (.ref f15) = true)
    {od16 an16 : Option Addr} {sl16 : Array (Option Value)} {oc16 kV16 dc16 pm16 cd16 ct16 : Value} {f16 : Addr}
    (a16 : PySem.W.nsIn K mainGlobals "_law_refused_right" = some (some (.ref f16))) (l16 : K.lookup f16 = some ⟨oc16, od16, .func (PySem.W.fnOf "_law_refused_right" "_law_refused_right" (defArgs s_law_refused_right) (defBody s_law_refused_right) (defScope s_law_refused_right) .none kV16 dc16 pm16 an16 cd16 ct16), sl16⟩) (c16 : PySem.W.codeIn K cd16 "_law_refused_right" = true) (k16 : PySem.W.keepIn K (.ref f16) = true)
    {od17 an17 : Option Addr} {sl17 : Array (Option Value)} {oc17 kV17 dc17 pm17 cd17 ct17 : Value} {f17 : Addr}
    (a17 : PySem.W.nsIn K mainGlobals "law" = some (some (.ref f17))) (l17 : K.lookup f17 = some ⟨oc17, od17, .func (PySem.W.fnOf "law" "law" (defArgs s_law) (defBody s_law) (defScope s_law) .none kV17 dc17 pm17 an17 cd17 ct17), sl17⟩) (c17 : PySem.W.codeIn K cd17 "law" = true) (k17 : PySem.W.keepIn K (.ref f17) = true)
    {B O N : Addr} {tz : Tok}
    (y0 : PySem.W.nsIn K mainGlobals "int" = some none) (y1 : PySem.W.nsIn K mainGlobals "len" = some none) (y2 : PySem.W.nsIn K mainGlobals "max" = some none) (y3 : PySem.W.nsIn K mainGlobals "min" = some none)
    (y4 : PySem.W.nsIn K mainGlobals "range" = some none) (y5 : PySem.W.nsIn K mainGlobals "isinstance" = some none) (y6 : PySem.W.nsIn K mainGlobals "bool" = some none) (y7 : PySem.W.nsIn K mainGlobals "list" = some none)
    (eB : PySem.W.nsIn K mainGlobals "BadBits" = some (some (.ref B))) (eO : PySem.W.nsIn K mainGlobals "Outside" = some (some (.ref O))) (eN : PySem.W.nsIn K mainGlobals "NarrowError" = some (some (.ref N)))
    (m4 : PySem.W.specialIn K (.builtin "object.__class__") "__get__" = some (some (.builtin "getset_descriptor.__get__"))) (m5 : PySem.W.takesIn K (.builtin "object.__class__") = some true)
    (exB : PySem.W.excIn K B [.type "ValueError", .type "Exception", .type "BaseException", .type "object"] "ValueError.__new__" = true) (kBc : PySem.W.keepIn K (.ref B) = true) (bBc : PySem.W.subIn K (.ref B) (.type "BaseException") = some true) (tBc : PySem.W.typeIn K (.ref B) = some (.type "type"))
    (m0B : PySem.W.findIn K (.ref B) "__getattribute__" = some (some (.builtin "BaseException.__getattribute__"))) (m1B : PySem.W.findIn K (.ref B) "__getattr__" = some none) (m2B : PySem.W.hasDictIn K B = true) (m3B : PySem.W.findIn K (.ref B) "__class__" = some (some (.builtin "object.__class__")))
    (m6B : PySem.W.mroIn K B (.type "object") = some true) (sBB : PySem.W.subIn K (.ref B) (.ref B) = some true)
    (exO : PySem.W.excIn K O [.type "ValueError", .type "Exception", .type "BaseException", .type "object"] "ValueError.__new__" = true) (kOc : PySem.W.keepIn K (.ref O) = true) (bOc : PySem.W.subIn K (.ref O) (.type "BaseException") = some true) (tOc : PySem.W.typeIn K (.ref O) = some (.type "type"))
    (m0O : PySem.W.findIn K (.ref O) "__getattribute__" = some (some (.builtin "BaseException.__getattribute__"))) (m1O : PySem.W.findIn K (.ref O) "__getattr__" = some none) (m2O : PySem.W.hasDictIn K O = true) (m3O : PySem.W.findIn K (.ref O) "__class__" = some (some (.builtin "object.__class__")))
    (m6O : PySem.W.mroIn K O (.type "object") = some true) (sOO : PySem.W.subIn K (.ref O) (.ref O) = some true)
    (iN : PySem.W.isClsIn K N = true) (tN : PySem.W.typeIn K (.ref N) = some (.type "type")) (iBc : PySem.W.isClsIn K B = true) (iOc : PySem.W.isClsIn K O = true)
    (sBN : PySem.W.subIn K (.ref B) (.ref N) = some true) (sON : PySem.W.subIn K (.ref O) (.ref N) = some true) (sBO : PySem.W.subIn K (.ref B) (.ref O) = some false) (sOB : PySem.W.subIn K (.ref O) (.ref B) = some false)
    (gz : PySem.W.nsIn K mainGlobals "MOST_ZEROS" = some (some (.int 40 tz))) :
    ∃ fd : FuncData, (∀ (s : Shared) (v : Value), BindsTo s fd ⟨[v], []⟩ [("_law_script", v)]) ∧ ∀ base : Heap, K.In base → base.Ns mainGlobals mg → FnOk l.prog w K mg base CX0 7 fa fd ["_law_script"] (spLaw K) := by
  have e := hfa.symm.trans (PySem.W.mg_of X G a17)
  cases e
  have T : Txt mg := ⟨PySem.W.mg_none_of X G y0, PySem.W.mg_none_of X G y1, PySem.W.mg_none_of X G y2, PySem.W.mg_none_of X G y3, PySem.W.mg_none_of X G y4, PySem.W.mg_none_of X G y5, PySem.W.mg_none_of X G y6, PySem.W.mg_none_of X G y7⟩
  have EB : ECls K mg "BadBits" B := ⟨PySem.W.mg_of X G eB, exB, kBc, bBc, tBc, ⟨m0B, m1B, bBc, m2B, m3B, m4, m5, m6B⟩, PySem.W.exm_ref bBc m2B tBc sBB⟩
  have EO : ECls K mg "Outside" O := ⟨PySem.W.mg_of X G eO, exO, kOc, bOc, tOc, ⟨m0O, m1O, bOc, m2O, m3O, m4, m5, m6O⟩, PySem.W.exm_ref bOc m2O tOc sOO⟩
  have ER : Errs K mg B O N := ⟨EB, EO, PySem.W.mg_of X G eN, kit_ref iN tN sBN fun _ => sBB, kit_ref iOc tOc sBO fun _ => sBB, kit_ref iN tN sON fun _ => sOO, kit_ref iBc tBc sOB fun _ => sOO, PySem.W.exm_ref bBc m2B tBc sOB⟩
  have hZ := PySem.W.mg_of X G gz
  have F0 := fun_mk (st := s_is_number) l0 c0 k0
  have b0 := F0.binds (ps := ["thing"]) fun _ _ _ _ _ _ us hl => match us, hl with | [_], _ => rfl
  have F1 := fun_mk (st := s_check_bits) l1 c1 k1
  have b1 := F1.binds (ps := ["bits"]) fun _ _ _ _ _ _ us hl => match us, hl with | [_], _ => rfl
  have F2 := fun_mk (st := s_number_of) l2 c2 k2
  have b2 := F2.binds (ps := ["bits"]) fun _ _ _ _ _ _ us hl => match us, hl with | [_], _ => rfl
  have F3 := fun_mk (st := s_count_at) l3 c3 k3
  have b3 := F3.binds (ps := ["bits", "at"]) fun _ _ _ _ _ _ us hl => match us, hl with | [_, _], _ => rfl
  have F4 := fun_mk (st := s_signed_at) l4 c4 k4
  have b4 := F4.binds (ps := ["bits", "at"]) fun _ _ _ _ _ _ us hl => match us, hl with | [_, _], _ => rfl
  have F5 := fun_mk (st := s_check_place) l5 c5 k5
  have b5 := F5.binds (ps := ["bits", "at"]) fun _ _ _ _ _ _ us hl => match us, hl with | [_, _], _ => rfl
  have F6 := fun_mk (st := s_read_count) l6 c6 k6
  have b6 := F6.binds (ps := ["bits", "at"]) fun _ _ _ _ _ _ us hl => match us, hl with | [_, _], _ => rfl
  have F7 := fun_mk (st := s_read_signed) l7 c7 k7
  have b7 := F7.binds (ps := ["bits", "at"]) fun _ _ _ _ _ _ us hl => match us, hl with | [_, _], _ => rfl
  have F8 := fun_mk (st := s_law_pool) l8 c8 k8
  have b8 := F8.binds (ps := ["_law_script", "_law_k"]) fun _ _ _ _ _ _ us hl => match us, hl with | [_, _], _ => rfl
  have F9 := fun_mk (st := s_law_take) l9 c9 k9
  have b9 := F9.binds (ps := ["_law_source", "_law_most"]) fun _ _ _ _ _ _ us hl => match us, hl with | [_, _], _ => rfl
  have F10 := fun_mk (st := s_law_one) l10 c10 k10
  have b10 := F10.binds (ps := ["_law_source", "_law_things"]) fun _ _ _ _ _ _ us hl => match us, hl with | [_, _], _ => rfl
  have F11 := fun_mk (st := s_law_bits) l11 c11 k11
  have b11 := F11.binds (ps := ["_law_source", "_law_most"]) fun _ _ _ _ _ _ us hl => match us, hl with | [_, _], _ => rfl
  have F12 := fun_mk (st := s_law_list) l12 c12 k12
  have b12 := F12.binds (ps := ["_law_source"]) fun _ _ _ _ _ _ us hl => match us, hl with | [_], _ => rfl
  have F13 := fun_mk (st := s_law_read) l13 c13 k13
  have b13 := F13.binds (ps := ["_law_bits_here", "_law_at"]) fun _ _ _ _ _ _ us hl => match us, hl with | [_, _], _ => rfl
  have F14 := fun_mk (st := s_law_signed) l14 c14 k14
  have b14 := F14.binds (ps := ["_law_told"]) fun _ _ _ _ _ _ us hl => match us, hl with | [_], _ => rfl
  have F15 := fun_mk (st := s_law_word) l15 c15 k15
  have b15 := F15.binds (ps := ["_law_is_signed", "_law_bits_here", "_law_at"]) fun _ _ _ _ _ _ us hl => match us, hl with | [_, _, _], _ => rfl
  have F16 := fun_mk (st := s_law_refused_right) l16 c16 k16
  have b16 := F16.binds (ps := ["_law_source", "_law_bits_here"]) fun _ _ _ _ _ _ us hl => match us, hl with | [_, _], _ => rfl
  have F17 := fun_mk (st := s_law) l17 c17 k17
  have b17 := F17.binds (ps := ["_law_script"]) fun _ _ _ _ _ _ us hl => match us, hl with | [_], _ => rfl
  refine ⟨PySem.W.fnOf "law" "law" (defArgs s_law) (defBody s_law) (defScope s_law) .none kV17 dc17 pm17 an17 cd17 ct17, fun s v => .of_eq rfl, fun base _ _ => ?_⟩
  have Z0 : C8.Cal l.prog w K mg base 1 "is_number" spIsNum [] := ⟨_, _, _, _, ok_is_number F0 T, PySem.W.mg_of X G a0, k0, b0, .nil⟩
  have CV : C8.Cal l.prog w K mg base 1 "is_number" spIsNumV [] := ⟨_, _, _, _, ok_is_numberV F0 T, PySem.W.mg_of X G a0, k0, b0, .nil⟩
  have Z1 : C8.Cal l.prog w K mg base 2 "check_bits" spCheckB [] := ⟨_, _, _, _, ok_check_bits F1 Z0, PySem.W.mg_of X G a1, k1, b1, .nil⟩
  have Z2 : C8.Cal l.prog w K mg base 1 "number_of" spNumber [] := ⟨_, _, _, _, ok_number_of F2, PySem.W.mg_of X G a2, k2, b2, .nil⟩
  have Z3 : C8.Cal l.prog w K mg base 2 "count_at" spCountAt [] := ⟨_, _, _, _, ok_count_at F3 T hZ Z2, PySem.W.mg_of X G a3, k3, b3, .nil⟩
  have Z4 : C8.Cal l.prog w K mg base 3 "signed_at" spSignedAt [] := ⟨_, _, _, _, ok_signed_at F4 Z3, PySem.W.mg_of X G a4, k4, b4, .nil⟩
  have Z5 : C8.Cal l.prog w K mg base 3 "check_place" spCheckP [] := ⟨_, _, _, _, ok_check_place F5 T Z1, PySem.W.mg_of X G a5, k5, b5, .nil⟩
  have Z6 : C8.Cal l.prog w K mg base 4 "read_count" spReadC [] := ⟨_, _, _, _, ok_read_count F6 Z5 Z3, PySem.W.mg_of X G a6, k6, b6, .nil⟩
  have GB := ok_check_bitsX (P := l.prog) (w := w) (base := base) (k := 0) F1 EB CV
  have GP := ok_placeX (P := l.prog) (w := w) (base := base) (k := 0) F5 T EO GB (PySem.W.mg_of X G a1) k1 b1
  have GR := ok_read_countX (P := l.prog) (w := w) (base := base) (k := 0) F6 GP (PySem.W.mg_of X G a5) k5 b5 Z3
  have GS := ok_read_signedX (P := l.prog) (w := w) (base := base) (k := 0) F7 GP (PySem.W.mg_of X G a5) k5 b5 Z4
  have Z8 : C8.Cal l.prog w K mg base 1 "_law_pool" (spPool K) [] := ⟨_, _, _, _, ok_pool F8 T, PySem.W.mg_of X G a8, k8, b8, .nil⟩
  have Z9 : C8.Cal l.prog w K mg base 1 "_law_take" spTake [] := ⟨_, _, _, _, ok_take F9 T, PySem.W.mg_of X G a9, k9, b9, .nil⟩
  have Z10 : C8.Cal l.prog w K mg base 2 "_law_one" spOne [] := ⟨_, _, _, _, ok_one F10 T Z9, PySem.W.mg_of X G a10, k10, b10, .nil⟩
  have Z11 : C8.Cal l.prog w K mg base 2 "_law_bits" spBits [] := ⟨_, _, _, _, ok_bits F11 T Z9, PySem.W.mg_of X G a11, k11, b11, .nil⟩
  have Z12 : C8.Cal l.prog w K mg base 3 "_law_list" spList [] := ⟨_, _, _, _, ok_list F12 T Z9 Z10 Z11, PySem.W.mg_of X G a12, k12, b12, .nil⟩
  have Z13 : C8.Cal l.prog w K mg base 1 "_law_read" spCountAt [] := ⟨_, _, _, _, ok_read F13 T, PySem.W.mg_of X G a13, k13, b13, .nil⟩
  have Z14 : C8.Cal l.prog w K mg base 1 "_law_signed" spSgn [] := ⟨_, _, _, _, ok_signed F14, PySem.W.mg_of X G a14, k14, b14, .nil⟩
  have Z15 : C8.Cal l.prog w K mg base 5 "_law_word" spWord [] := ⟨_, _, _, _, ok_word F15 T ER GS (PySem.W.mg_of X G a7) k7 b7 GR (PySem.W.mg_of X G a6) k6 b6, PySem.W.mg_of X G a15, k15, b15, .nil⟩
  have Z16 : C8.Cal l.prog w K mg base 6 "_law_refused_right" spRefused [] := ⟨_, _, _, _, ok_refused F16 T Z9 Z10 Z15, PySem.W.mg_of X G a16, k16, b16, .nil⟩
  exact ok_law F17 T Z8 Z9 Z12 Z13 Z14 Z15 Z16 Z6
end My
open PySem PySem.W PyProof.Rows
set_option maxRecDepth 100000 in
set_option maxHeartbeats 0 in
theorem PySem.Challenge.cw_narrowingbits_k03_long_ones_and_places_holds : PySem.Challenge.rw_narrowingbits_k03_long_ones_and_places.Holds := by
  w_on; o_law; k_head; (case hw => w_witness2)
  k_fill
  refine L2.walk_of (l := PySem.Challenge.rw_narrowingbits_k03_long_ones_and_places) (n := 63) (k := 7) (x := "_law_script") (CX := fun _ => L2.CX0) (sp := fun w => My.spLaw _) rfl (by decide) rfl ⟨rfl, by decide, by decide⟩ (fun w h Y => PySem.W.kIn_of Y) ?F (fun _ _ a ns hl _ hS => ⟨a, ns, rfl, hS, hl, fun _ => rfl⟩) (fun _ _ _ _ _ h => h)
  case F =>
    intro w mg fa h KX G hmg
    refine' My.all_mk KX G hmg ?a0 ?l0 ?c0 ?k0 ?a1 ?l1 ?c1 ?k1 ?a2 ?l2 ?c2 ?k2 ?a3 ?l3 ?c3 ?k3 ?a4 ?l4 ?c4 ?k4 ?a5 ?l5 ?c5 ?k5 ?a6 ?l6 ?c6 ?k6 ?a7 ?l7 ?c7 ?k7 ?a8 ?l8 ?c8 ?k8 ?a9 ?l9 ?c9 ?k9 ?a10 ?l10 ?c10 ?k10 ?a11 ?l11 ?c11 ?k11 ?a12 ?l12 ?c12 ?k12 ?a13 ?l13 ?c13 ?k13 ?a14 ?l14 ?c14 ?k14 ?a15 ?l15 ?c15 ?k15 ?a16 ?l16 ?c16 ?k16 ?a17 ?l17 ?c17 ?k17 ?y0 ?y1 ?y2 ?y3 ?y4 ?y5 ?y6 ?y7 ?eB ?eO ?eN ?m4 ?m5 ?exB ?kBc ?bBc ?tBc ?m0B ?m1B ?m2B ?m3B ?m6B ?sBB ?exO ?kOc ?bOc ?tOc ?m0O ?m1O ?m2O ?m3O ?m6O ?sOO ?iN ?tN ?iBc ?iOc ?sBN ?sON ?sBO ?sOB ?gz
    (case a0 => k_is); (case l0 => k_is); (case c0 => k_is); (case k0 => k_is)
    (case a1 => k_is); (case l1 => k_is); (case c1 => k_is); (case k1 => k_is)
    (case a2 => k_is); (case l2 => k_is); (case c2 => k_is); (case k2 => k_is)
    (case a3 => k_is); (case l3 => k_is); (case c3 => k_is); (case k3 => k_is)
    (case a4 => k_is); (case l4 => k_is); (case c4 => k_is); (case k4 => k_is)
    (case a5 => k_is); (case l5 => k_is); (case c5 => k_is); (case k5 => k_is)
    (case a6 => k_is); (case l6 => k_is); (case c6 => k_is); (case k6 => k_is)
    (case a7 => k_is); (case l7 => k_is); (case c7 => k_is); (case k7 => k_is)
    (case a8 => k_is); (case l8 => k_is); (case c8 => k_is); (case k8 => k_is)
    (case a9 => k_is); (case l9 => k_is); (case c9 => k_is); (case k9 => k_is)
    (case a10 => k_is); (case l10 => k_is); (case c10 => k_is); (case k10 => k_is)
    (case a11 => k_is); (case l11 => k_is); (case c11 => k_is); (case k11 => k_is)
    (case a12 => k_is); (case l12 => k_is); (case c12 => k_is); (case k12 => k_is)
    (case a13 => k_is); (case l13 => k_is); (case c13 => k_is); (case k13 => k_is)
    (case a14 => k_is); (case l14 => k_is); (case c14 => k_is); (case k14 => k_is)
    (case a15 => k_is); (case l15 => k_is); (case c15 => k_is); (case k15 => k_is)
    (case a16 => k_is); (case l16 => k_is); (case c16 => k_is); (case k16 => k_is)
    (case a17 => k_is); (case l17 => k_is); (case c17 => k_is); (case k17 => k_is)
    (case y0 => k_is)
    (case y1 => k_is)
    (case y2 => k_is)
    (case y3 => k_is)
    (case y4 => k_is)
    (case y5 => k_is)
    (case y6 => k_is)
    (case y7 => k_is)
    (case eB => k_is)
    (case eO => k_is)
    (case eN => k_is)
    (case m4 => k_is)
    (case m5 => k_is)
    (case kBc => k_is)
    (case bBc => k_is)
    (case tBc => k_is)
    (case m0B => k_is)
    (case m1B => k_is)
    (case m2B => k_is)
    (case m3B => k_is)
    (case m6B => k_is)
    (case sBB => k_is)
    (case kOc => k_is)
    (case bOc => k_is)
    (case tOc => k_is)
    (case m0O => k_is)
    (case m1O => k_is)
    (case m2O => k_is)
    (case m3O => k_is)
    (case m6O => k_is)
    (case sOO => k_is)
    (case iN => k_is)
    (case tN => k_is)
    (case iBc => k_is)
    (case iOc => k_is)
    (case sBN => k_is)
    (case sON => k_is)
    (case sBO => k_is)
    (case sOB => k_is)
    (case gz => k_is)
    (case exB => k_exc)
    (case exO => k_exc)
