import PyProof.Rows.All
import Wide.All
import OpenK.AllK
import Wide.FinOn
import HandS.ForMost
import HandS.Wide
import HandS.IsInst
import HandS.Codes
import HandS.Style
import HandS.EndBits
import HandS.Walk
import HandS.FStr
import HandS.WideBits
import HandS.Defaults
import HandS.Exc
import HandS.TryOnly
import HandS.ExcOwn
import HandS.WordsExc
import HandS.ExcIs
import PySem.Challenge.RW_narrowingbits_k02_signed_both_ways
set_option Elab.async false
set_option linter.all false
set_option maxRecDepth 100000
set_option maxHeartbeats 4000000
namespace My
open PySem PySem.Spec PyProof.Rows L2
/-! ### arithmetic -/
theorem cdivw {i j : Int} (h : 0 < j) (h2 : j < 18446744073709551616) : CDivW i j := wide_div (b := 64) h (by omega) (by decide) (by decide)
theorem cmull {i j : Int} (h : -18446744073709551616 < i) (h2 : i < 18446744073709551616) : CMul i j := .inl ⟨by omega, by omega⟩
theorem cmulr {i j : Int} (h : -18446744073709551616 < j) (h2 : j < 18446744073709551616) : CMul i j := .inr ⟨by omega, by omega⟩
theorem pow18 : ((10 : Int) ^ (18 : Int).toNat) = 1000000000000000000 := by decide +kernel
theorem pow30 : ((10 : Int) ^ (30 : Int).toNat) = 1000000000000000000000000000000 := by decide +kernel
theorem pow9 : ((10 : Int) ^ (9 : Int).toNat) = 1000000000 := by decide +kernel
theorem pool_nn (c : Int) (b : Bool) : 0 ≤ (if -1 - c > c then -1 - c else c) * (if b = true then 1 else 0) := by
  refine Int.mul_nonneg ?_ ?_
  · split <;> omega
  · split <;> decide
theorem at_lt {ns : List Int} {k : Int} (h0 : 0 ≤ k) (h : k < ((ns.map V.int).length : Int)) : ∃ z, atI (ns.map V.int) k = some (.int z) := by
  rw [List.length_map] at h
  refine ⟨ns[k.toNat]'(by omega), at_of (j := k.toNat) (by omega) ?_⟩
  rw [List.getElem?_map, List.getElem?_eq_getElem (by omega)]
  rfl
theorem at_mem {xs : List V} {r : Int} (h0 : 0 ≤ r) (h : r < (xs.length : Int)) : ∃ v, atI xs r = some v ∧ v ∈ xs := by
  refine ⟨xs[r.toNat]'(by omega), at_of (j := r.toNat) (by omega) (List.getElem?_eq_getElem (by omega)), List.getElem_mem _⟩
/-! ### heaps -/
theorem same_upd {H : Hp} {p : Addr} {o : HO} (h : H p = none) : Same H (upd H p o) := fun b x e => by
  rw [upd_ne (ne_of_none e h)]
  exact e
/-- a source of draws stands at a -/
def Src (H : Hp) (a : Addr) : Prop := ∃ x y : Int, H a = some (.lst [.int x, .int y]) ∧ 0 ≤ x ∧ 0 ≤ y ∧ y < 2147483647
/-- all but a is as it was -/
def But (a : Addr) (H H' : Hp) : Prop := ∀ b, b ≠ a → H' b = H b
theorem But.refl (a : Addr) (H : Hp) : But a H H := fun _ _ => rfl
theorem But.trans {a : Addr} {H H1 H2 : Hp} (u : But a H H1) (v : But a H1 H2) : But a H H2 := fun b e => (v b e).trans (u b e)
theorem But.upd {a : Addr} {H : Hp} {o : HO} : But a H (upd H a o) := fun b e => upd_ne e
theorem But.at {a b : Addr} {H H' : Hp} {o : HO} (u : But a H H') (n : b ≠ a) (h : H b = some o) : H' b = some o := (u b n).trans h
theorem src_same {H H' : Hp} {a : Addr} (s : Same H H') (h : Src H a) : Src H' a := by
  obtain ⟨x, y, e, r⟩ := h
  exact ⟨x, y, s _ _ e, r⟩
theorem Src.ne {H : Hp} {a p : Addr} (h : Src H a) (n : H p = none) : a ≠ p := by
  obtain ⟨x, y, e, r⟩ := h
  exact ne_of_none e n
theorem same_but {a : Addr} {G H H' : Hp} (s : Same G H) (u : But a H H') (n : G a = none) : Same G H' := fun b o e => by
  rw [u b (ne_of_none e n)]
  exact s b o e
theorem kit_ii {K : PySem.W.Frag} : PySem.W.kitOne K (.type "int") (.type "int") = some true := kit_ty (by decide +kernel)
theorem kit_ib {K : PySem.W.Frag} : PySem.W.kitOne K (.type "int") (.type "bool") = some false := kit_ty (by decide +kernel)
theorem kit_bi {K : PySem.W.Frag} : PySem.W.kitOne K (.type "bool") (.type "int") = some true := kit_ty (by decide +kernel)
theorem kit_bb {K : PySem.W.Frag} : PySem.W.kitOne K (.type "bool") (.type "bool") = some true := kit_ty (by decide +kernel)
theorem kit_tt {K : PySem.W.Frag} : PySem.W.kitOne K (.type "tuple") (.type "tuple") = some true := kit_ty (by decide +kernel)
theorem kit_ll {K : PySem.W.Frag} : PySem.W.kitOne K (.type "list") (.type "list") = some true := kit_ty (by decide +kernel)
theorem kit_tl {K : PySem.W.Frag} : PySem.W.kitOne K (.type "tuple") (.type "list") = some false := kit_ty (by decide +kernel)
theorem kit_lt {K : PySem.W.Frag} : PySem.W.kitOne K (.type "list") (.type "tuple") = some false := kit_ty (by decide +kernel)
theorem op_powc {X : Cx} {a b c : Int} (hc : CPow a b) (h : a ^ b.toNat = c) : OpR X (binaryOp .Pow) (fun x y H Q => x = .int a ∧ y = .int b ∧ Q (.int c) H) := by
  intro pins s σ H x y v u Q I rx ry h'
  obtain ⟨rfl, rfl, q⟩ := h'
  exact op_pow pins s σ H _ _ v u Q I rx ry ⟨_, _, rfl, rfl, hc, by subst h; exact q⟩
theorem dp_pair {K : PySem.W.Frag} {H : Hp} {p : Addr} {a b : Int} (h : H p = some (.tup [.int a, .int b])) : Dp K H (.ref p) (.tuple [.int a, .int b]) := .tup (.inl (.inl h)) (.cons (.int _) (.cons (.int _) .nil))
theorem eq_pair (a b : Int) : PyData.eqv (.tuple [.int a, .int b]) (.tuple [.int a, .int b]) = true := by
  simp [PyData.eqv, PyData.eqvAll]
theorem tup_eq {H : Hp} {p : Addr} {x x' y y' : Int} (h : H p = some (.tup [.int x, .int y])) (h1 : x = x') (h2 : y = y') : H p = some (.tup [.int x', .int y']) := by
  rw [← h1, ← h2]
  exact h
end My
namespace My
section
open PySem PySem.W PyProof.Rows Builtin Builtin.Str Builtin.Int Builtin.Float
def binCodes (n : Nat) : List Nat := (Nat.toDigits 2 n).map Char.toNat
theorem field_plain (ds : List Nat) (h : ds.isEmpty = false) : intField' { align := 62, type := some 98 } false [] ds [] 4 = ⟨ds.toArray⟩ := by
  unfold intField'
  simp [h]
theorem digs_ne (n : Nat) : ((Nat.toDigits 2 n).map fun c => ((if ((98 : Nat) == 88) = true then c.toUpper else c) : Char).toNat).isEmpty = false := by
  cases e : Nat.toDigits 2 n with
  | nil =>
    have := tDigits_len_ge 2 n
    rw [e] at this
    cases this
  | cons a l => rfl
theorem meets_bin {x : Int} {t : Tok} (h0 : 0 ≤ x) (hL : (Nat.toDigits 2 x.natAbs).length ≤ sizeLine) :
    ∀ u, Meets (Builtin.«int.__format__» ⟨[.int x t, .str (Str.ofString "b") u], []⟩) (fun _ R s => ∀ t' k, R (.ok (.ret (.str ⟨(binCodes x.natAbs).toArray⟩ t'))) { s with toks := k }) := by
  intro u
  apply KPc.meets_of
  intro prog w A E s Q h
  unfold Builtin.«int.__format__»
  refine wpAny_bind (wpAny_of_eq (a := (_, _)) rfl ?_)
  refine wpAny_bind (wpAny_of_eq (a := _) rfl ?_)
  kxf_if
  refine wpAny_bind (wpAny_typeNameOf (T := "str") (typeIs_str _ _ _) (by decide) fun _ => ?_)
  refine wpAny_bind (wpAny_of_eq (a := some _) rfl ?_)
  kxf_if
  kxf_if
  refine wpAny_bind (wpAny_typeNameOfCut_int ?_)
  repeat kxf_if
  refine KXf.ret_text (T := ⟨(binCodes x.natAbs).toArray⟩) ?e ?l h
  case e =>
    have hx : decide (x < 0) = false := decide_eq_false (by omega)
    rw [hx]
    show intField' { align := 62, type := some 98 } false [] ((Nat.toDigits 2 x.natAbs).map fun c => ((if ((98 : Nat) == 88) = true then c.toUpper else c) : Char).toNat) [] 4 = _
    exact field_plain _ (digs_ne _)
  case l =>
    have hx : decide (x < 0) = false := decide_eq_false (by omega)
    rw [hx]
    show (intField' { align := 62, type := some 98 } false [] ((Nat.toDigits 2 x.natAbs).map fun c => ((if ((98 : Nat) == 88) = true then c.toUpper else c) : Char).toNat) [] 4).length ≤ sizeLine
    rw [field_plain _ (digs_ne _)]
    show ((binCodes x.natAbs).toArray).size ≤ sizeLine
    rw [List.size_toArray, binCodes, List.length_map]
    exact hL
end
end My
namespace My
open PySem PySem.Spec PyProof.Rows L2
/-! ### an f-string's field in binary -/
section
variable {X : Cx}
theorem pe_fmtB {e : Expr} {te : TE} {k : Nat} {pos p1 p2 : Pos} (he : PE X e te) : PE X (.FormattedValue e (-1) (some (.JoinedStr [.Constant (.str "b") k p1] p2)) pos)
    (fun σ H Q => te σ H fun x H1 => ∃ i : Int, x = .int i ∧ 0 ≤ i ∧ (Nat.toDigits 2 i.natAbs).length ≤ sizeLine ∧ Q (.str (SX.S (binCodes i.natAbs))) H1) := by
  refine ⟨fun pins s σ H Q I h => ?_⟩
  refine wpAny_FormattedValue_spec (thn (he.run pins s σ H _ I h) fun v s1 hv => ?_)
  obtain ⟨x, H1, I1, r1, i, rfl, h0, hL, q⟩ := hv
  obtain ⟨t, rfl⟩ := r1
  refine thn ((pe_joined1 (X := X) (pe_str (x := "b") (j := k) (pos := p1)) (pos := p2)).run pins s1 σ H1 (fun y H2 => y = .str "b" ∧ H2 = H1) I1 ⟨rfl, rfl⟩) fun r s2 hr => ?_
  obtain ⟨y, H2, I2, r2, rfl, rfl⟩ := hr
  obtain ⟨t2, rfl⟩ := r2
  exact ⟨_, t2, rfl, PySem.W.KXf.field_int rfl rfl (by decide) (meets_bin h0 hL) fun t' k => ⟨.str _, _, I2.tok _, ⟨_, rfl⟩, q⟩⟩
/-- a call by keywords alone -/
theorem pe_kw0 {CX : CXT} {k : Nat} {f : Addr} {fd : FuncData} {ps ks : List Str} {sp : Sp} {E : XK} {x : Str} {p pos : Pos} {kws : List Keyword} {tk : TA} {g : List Value → List Value → List Value} {gV : List V → List V → List V}
    (F : FnOk X.prog X.w X.K X.mg X.base CX k f fd ps sp) (hr : Room k X.A) (hg : Gl X x) (hm : X.mg x = some (.ref f)) (hk : PySem.W.keepIn X.K (.ref f) = true) (hb : KBn X.K fd ps 0 ks g gV) (hx : Passes CX X E) (hkw : PK X kws tk)
    (hall : (backToKw pos (keywordEach kws X.env)).all (·.1.isSome) = true := by rfl) (hks : (backToKw pos (keywordEach kws X.env)).filterMap (·.1) = ks := by rfl) (hdb : (x == ("__debug__" : Str)) = false := by decide)
    (hpl : ((backTo pos (starEach [] X.env)).any (·.1) || (backToKw pos (keywordEach kws X.env)).any (·.1.isNone)) = false := by rfl) :
    PE X (.Call (.Name x p) [] kws pos) (fun σ H Q => tk σ H fun zs H2 => zs.length = ks.length ∧ sp (gV [] zs) H2 Q E) := by
  refine ⟨fun pins s σ H Q I h => ?_⟩
  refine wpAny_Call_Name_kw (ld_glob I hg hm ?_ hdb)
  refine PySem.W.callWith_KW0 (h₀ := X.base) I.ok.mod.kin hk hall ?_ hpl
  refine thn (hkw.run pos pins s σ H _ I h) fun ws s2 ⟨zs, H2, I2, rz, l2, q2⟩ => ⟨I2.kIn, ?_⟩
  rw [hks]
  exact run_fnN (us := []) (vs := []) F hr hb hx I2 .nil rz rfl l2 q2
/-- a def that may be called by keywords alone -/
structure CalK (P : Program) (w : World) (K : PySem.W.Frag) (mg : Str → Option Value) (base : Heap) (k : Nat) (x : Str) (ks : List Str) (sp : Sp) : Prop where
  ex : ∃ (f : Addr) (fd : FuncData) (ps : List Str), FnOk P w K mg base CX0 k f fd ps sp ∧ mg x = some (.ref f) ∧ PySem.W.keepIn K (.ref f) = true ∧ KBn K fd ps 0 ks (fun _ ws => ws) (fun _ zs => zs)
theorem pe_ck {k j : Nat} {ks : List Str} {sp : Sp} {x : Str} {p pos : Pos} {kws : List Keyword} {tk : TA} (c : CalK X.prog X.w X.K X.mg X.base k x ks sp) (hr : Room j X.A) (hk : k ≤ j) (hg : Gl X x) (hkw : PK X kws tk)
    (hall : (backToKw pos (keywordEach kws X.env)).all (·.1.isSome) = true := by rfl) (hks : (backToKw pos (keywordEach kws X.env)).filterMap (·.1) = ks := by rfl) (hdb : (x == ("__debug__" : Str)) = false := by decide)
    (hpl : ((backTo pos (starEach [] X.env)).any (·.1) || (backToKw pos (keywordEach kws X.env)).any (·.1.isNone)) = false := by rfl) :
    PE X (.Call (.Name x p) [] kws pos) (fun σ H Q => tk σ H fun zs H2 => zs.length = ks.length ∧ sp zs H2 Q E0) := by
  obtain ⟨f, fd, ps, F, hm, hkp, hb⟩ := c.ex
  exact pe_kw0 F (hr.mono hk) hg hm hkp hb pass0 hkw hall hks hdb hpl
end
/-! ### digits -/
/-- the w binary digits of n, the highest first -/
def bitsW : Nat → Nat → List Nat
  | 0, _ => []
  | w + 1, n => bitsW w (n / 2) ++ [n % 2]
theorem bitsW_len : ∀ w n, (bitsW w n).length = w
  | 0, _ => rfl
  | w + 1, n => by rw [bitsW, List.length_append, bitsW_len w (n / 2)]; rfl
theorem bitsW_bit : ∀ w n, ∀ b ∈ bitsW w n, b < 2
  | 0, _, b, h => by cases h
  | w + 1, n, b, h => by
    rw [bitsW, List.mem_append] at h
    rcases h with h | h
    · exact bitsW_bit w _ b h
    · rw [List.mem_singleton] at h
      omega
theorem digit_code {b : Nat} (h : b < 2) : (Nat.digitChar b).toNat = 48 + b := by
  match b, h with
  | 0, _ => rfl
  | 1, _ => rfl
theorem binCodes_pow : ∀ w n, n < 2 ^ w → binCodes (2 ^ w + n) = 49 :: (bitsW w n).map (48 + ·)
  | 0, n, h => by
    have e : n = 0 := by omega
    subst e
    rfl
  | w + 1, n, h => by
    have p : 2 ^ (w + 1) = 2 * 2 ^ w := by rw [Nat.pow_succ, Nat.mul_comm]
    have g : 0 < 2 ^ w := Nat.two_pow_pos w
    have ih := binCodes_pow w (n / 2) (by omega)
    unfold binCodes at ih ⊢
    rw [Nat.toDigits_of_base_le (by decide) (by omega), List.map_append, show (2 ^ (w + 1) + n) / 2 = 2 ^ w + n / 2 by omega, ih, show (2 ^ (w + 1) + n) % 2 = n % 2 by omega, bitsW, List.map_append]
    show 49 :: _ ++ [(Nat.digitChar (n % 2)).toNat] = _
    rw [digit_code (Nat.mod_lt _ (by decide))]
    rfl
/-- the digits as numbers -/
def bitsI (w n : Nat) : List Int := (bitsW w n).map fun (b : Nat) => (b : Int)
theorem bitsI_len (w n : Nat) : (bitsI w n).length = w := by rw [bitsI, List.length_map, bitsW_len]
theorem digit_int {b : Nat} (h : b < 2) : PySem.intText? ⟨#[48 + b]⟩ = some (b : Int) := by
  match b, h with
  | 0, _ => decide +kernel
  | 1, _ => decide +kernel
theorem take_snoc {α : Type} {l : List α} {i : Nat} {x : α} (h : l[i]? = some x) : l.take i ++ [x] = l.take (i + 1) := by
  rw [List.take_add_one, h]
  rfl
end My
namespace My
open PySem PySem.Spec PyProof.Rows L2
/-! ### lists of numbers compared -/
theorem eqv_same {d : PyData} (h : SeqAt.shaped d = true) : PyData.eqv d d = true := SeqAt.eqv_refl d (SeqAt.canLay_of_shaped h)
theorem dpall_ints {K : PySem.W.Frag} {H : Hp} : ∀ ns : List Int, DpAll K H (ns.map V.int) (ns.map PyData.int)
  | [] => .nil
  | n :: r => .cons (.int n) (dpall_ints r)
theorem dp_ints {K : PySem.W.Frag} {H : Hp} {p : Addr} {ns : List Int} (h : SqL K H p (ns.map V.int)) : Dp K H (.ref p) (.list (ns.map PyData.int)) := .lst h (dpall_ints ns)
theorem sh_ints (ns : List Int) : SeqAt.shaped (.list (ns.map PyData.int)) = true := PySem.W.ke_shaped_ints ns
theorem q_eqI {K : PySem.W.Frag} {H : Hp} {p q : Addr} {ns : List Int} {Q : VK} (hp : H p = some (.lst (ns.map V.int))) (hq : H q = some (.lst (ns.map V.int))) (h : Q (.bl true) H) : rEqD K (.ref p) (.ref q) H Q :=
  ⟨_, _, dp_ints (.inl (.inl hp)), dp_ints (.inl (.inl hq)), sh_ints ns, sh_ints ns, by rw [eqv_same (sh_ints ns)]; exact h⟩
theorem q_neI {K : PySem.W.Frag} {H : Hp} {p q : Addr} {ns : List Int} {Q : VK} (hp : H p = some (.lst (ns.map V.int))) (hq : H q = some (.lst (ns.map V.int))) (h : Q (.bl false) H) : rNeD K (.ref p) (.ref q) H Q :=
  ⟨_, _, dp_ints (.inl (.inl hp)), dp_ints (.inl (.inl hq)), sh_ints ns, sh_ints ns, by rw [eqv_same (sh_ints ns)]; exact h⟩
/-! ### all but the source stays -/
def Up (a : Addr) (H H' : Hp) : Prop := ∀ b o, b ≠ a → H b = some o → H' b = some o
theorem Up.refl (a : Addr) (H : Hp) : Up a H H := fun _ _ _ h => h
theorem up_same {a : Addr} {H H' : Hp} (s : Same H H') : Up a H H' := fun b o _ h => s b o h
theorem But.up {a : Addr} {H H' : Hp} (u : But a H H') : Up a H H' := fun b o n h => (u b n).trans h
theorem Up.trans {a : Addr} {H H1 H2 : Hp} (u : Up a H H1) (v : Up a H1 H2) : Up a H H2 := fun b o n h => v b o n (u b o n h)
theorem Up.to {a : Addr} {G H H' : Hp} (u : Up a H H') (s : Same G H) (n : G a = none) : Same G H' := fun b o e => u b o (ne_of_none e n) (s b o e)
theorem Up.new {a p : Addr} {H H' : Hp} (u : Up a H H') (hs : Src H' a) (n : H' p = none) : H p = none := by
  cases e : H p with
  | none => rfl
  | some o =>
    have := u p o (hs.ne n).symm e
    rw [n] at this
    cases this
theorem src_keep {a p : Addr} {H : Hp} {o : HO} (n : a ≠ p) (h : Src H a) : Src (upd H p o) a := by
  obtain ⟨x, y, e, r⟩ := h
  exact ⟨x, y, by rw [upd_ne n]; exact e, r⟩
/-! ### digits by place -/
theorem bitsW_get : ∀ w n i, i < w → (bitsW w n)[i]? = some (n / 2 ^ (w - 1 - i) % 2)
  | 0, _, i, h => absurd h (Nat.not_lt_zero i)
  | w + 1, n, i, h => by
    rw [bitsW]
    by_cases e : i = w
    · subst e
      rw [List.getElem?_append_right (by rw [bitsW_len]; exact Nat.le_refl _), bitsW_len, show i - i = 0 by omega, show i + 1 - 1 - i = 0 by omega, Nat.pow_zero, Nat.div_one]
      rfl
    · rw [List.getElem?_append_left (by rw [bitsW_len]; omega), bitsW_get w (n / 2) i (by omega), Nat.div_div_eq_div_mul, show w + 1 - 1 - i = (w - 1 - i) + 1 by omega, Nat.pow_succ, Nat.mul_comm]
theorem bitsI_get {w n i : Nat} (h : i < w) : (bitsI w n)[i]? = some (((n / 2 ^ (w - 1 - i) % 2 : Nat)) : Int) := by
  rw [bitsI, List.getElem?_map, bitsW_get w n i h]
  rfl
end My
namespace My
open PySem PySem.Spec PyProof.Rows L2
section
variable {X : Cx}
/-- X(), X an own exception class without own __init__ -/
theorem pmk_none {C : Addr} {bmB : List Value} {B newId initId : String} {x : Str} {p pos : Pos} (F : ExcBaseFacts B newId initId bmB) (q : PySem.W.excIn X.K C bmB newId = true) (gC : X.mg x = some (.ref C)) (kC : PySem.W.keepIn X.K (.ref C) = true) (r : Raises X (.ref C)) (hg : Gl X x)
    (hdb : (x == ("__debug__" : Str)) = false := by decide) : PMk X (.Call (.Name x p) [] [] pos) (fun _ H Q => Q (.ref C) none H) := by
  intro pins s σ H Q I h
  refine wpAny_Call_Name_kw (ld_glob I hg gC (PySem.W.callWith_K0 I.kIn kC ?_) hdb)
  obtain ⟨bm, N, nm, qn, bs, hdct, sn, sub, ab, col, dd, k0, k1, k2, k3, k5, mN, hC, hN, hni, T⟩ := exc_obj I.kIn q
  exact wpAny_call_exc_subT F T hC hN hni (fun _ _ hm => mk_of I hm r h (I.hok.gone hm.new)) (Nat.zero_le _)
/-- isinstance of an own class against another one -/
theorem kit_ref {K : PySem.W.Frag} {C N : Addr} {b : Bool} (i : PySem.W.isClsIn K N = true) (t : PySem.W.typeIn K (.ref N) = some (.type "type")) (s : PySem.W.subIn K (.ref C) (.ref N) = some b) (n : b = false → PySem.W.subIn K (.ref C) (.ref C) = some true) :
    PySem.W.kitOne K (.ref C) (.ref N) = some b := by
  unfold PySem.W.kitOne
  by_cases e : ((Value.ref C) == (Value.ref N)) = true
  · rw [if_pos e]
    have e2 : C = N := Value.ref.inj (beq_iff_eq.mp e)
    subst e2
    cases b with
    | true => rfl
    | false =>
      rw [n rfl] at s
      cases s
  · rw [if_neg e]
    unfold PySem.W.kitCls
    have h : ((PySem.W.clsIn K N).isSome && PySem.W.typeIn K (.ref N) == some (.type "type")) = true := by
      rw [t, Bool.and_eq_true]
      exact ⟨i, by rfl⟩
    show (if _ then _ else _) = _
    rw [if_pos h]
    exact s
/-- an own exception class at C, as the top has written it -/
structure ECls (K : PySem.W.Frag) (mg : Str → Option Value) (x : Str) (C : Addr) : Prop where
  gC : mg x = some (.ref C)
  xC : PySem.W.excIn K C [.type "ValueError", .type "Exception", .type "BaseException", .type "object"] "ValueError.__new__" = true
  kC : PySem.W.keepIn K (.ref C) = true
  bC : PySem.W.subIn K (.ref C) (.type "BaseException") = some true
  tC : PySem.W.typeIn K (.ref C) = some (.type "type")
  ex : ExcC K C
  em : PySem.W.exmOne K (.ref C) (.ref C) = some true
/-- isinstance of the exception that a suite holds, its class told in the reading -/
theorem call_isE1 {a D : Addr} {oe : Obj} {cls : Value} {d : Option Addr} {pn : List (Addr × Obj)} (C : ExcC X.K D) (hz : Zc cls d oe) (hf : ∃ vs, oe.data = .fields vs) :
    CallR (X.suite a ((a, oe) :: pn)) (.builtin "isinstance") (fun xs H Q => cls = .ref D ∧ d = none ∧ rIsE X.K D a xs H Q) := by
  intro pins s σ H xs us Q I r h
  obtain ⟨e1, e2, h⟩ := h
  subst e1 e2
  exact call_isE C hz hf pins s σ H xs us Q I r h
end
end My
namespace My
open PySem PySem.Spec PyProof.Rows L2
/-! ### bit lengths, digits, values -/
def bl (n : Nat) : Nat := Builtin.Int.intBits (n : Int)
theorem bl_zero : bl 0 = 0 := rfl
theorem bl_pos {n : Nat} (h : 0 < n) : bl n = n.log2 + 1 := by
  unfold bl Builtin.Int.intBits
  rw [if_neg (by simp; omega), Int.natAbs_natCast]
theorem bl_lt (n : Nat) : n < 2 ^ bl n := by
  cases n with
  | zero => decide
  | succ n =>
    rw [bl_pos (Nat.succ_pos n)]
    exact Nat.lt_log2_self
theorem bl_le {n k : Nat} (h : n < 2 ^ k) : bl n ≤ k := PyProof.Rows.intBits_le (by rw [Int.natAbs_natCast]; exact h)
theorem bl_half {n : Nat} (h : 0 < n) : bl n = bl (n / 2) + 1 := by
  rw [bl_pos h]
  by_cases e : n = 1
  · subst e
    decide
  · rw [bl_pos (by omega), Nat.log2_def, if_pos (by omega)]
theorem bitsI_succ (w n : Nat) : bitsI (w + 1) n = bitsI w (n / 2) ++ [((n % 2 : Nat) : Int)] := by
  unfold bitsI
  rw [bitsW, List.map_append]
  rfl
def digs (n : Nat) : List Int := bitsI (bl n) n
theorem digs_zero : digs 0 = [] := rfl
theorem digs_step {n : Nat} (h : 0 < n) : digs n = digs (n / 2) ++ [((n % 2 : Nat) : Int)] := by
  unfold digs
  rw [bl_half h, bitsI_succ]
theorem digs_len (n : Nat) : (digs n).length = bl n := bitsI_len _ _
theorem digs_head : ∀ {n : Nat}, 0 < n → ∃ r, digs n = 1 :: r := by
  intro n
  induction n using Nat.strongRecOn with
  | _ n ih =>
    intro h
    rw [digs_step h]
    by_cases e : n = 1
    · subst e
      exact ⟨[], rfl⟩
    · obtain ⟨r, hr⟩ := ih (n / 2) (by omega) (by omega)
      rw [hr]
      exact ⟨r ++ [((n % 2 : Nat) : Int)], rfl⟩
def valI (xs : List Int) : Int := xs.foldl (fun v b => 2 * v + b) 0
theorem valI_snoc (xs : List Int) (b : Int) : valI (xs ++ [b]) = 2 * valI xs + b := by
  unfold valI
  rw [List.foldl_append]
  rfl
theorem valI_bits : ∀ w n, n < 2 ^ w → valI (bitsI w n) = n
  | 0, n, h => by
    have e : n = 0 := by omega
    subst e
    rfl
  | w + 1, n, h => by
    have p : 2 ^ (w + 1) = 2 * 2 ^ w := by rw [Nat.pow_succ, Nat.mul_comm]
    rw [bitsI_succ, valI_snoc, valI_bits w (n / 2) (by omega)]
    omega
theorem valI_digs (n : Nat) : valI (digs n) = n := valI_bits _ _ (bl_lt n)
theorem bitsI_bit {w n : Nat} {x : Int} (h : x ∈ bitsI w n) : 0 ≤ x ∧ x ≤ 1 := by
  obtain ⟨b, hb, rfl⟩ := List.mem_map.mp h
  have := bitsW_bit w n b hb
  omega
/-- all of them are bits -/
def AreBits (xs : List Int) : Prop := ∀ x ∈ xs, 0 ≤ x ∧ x ≤ 1
theorem AreBits.app {xs ys : List Int} (h : AreBits xs) (g : AreBits ys) : AreBits (xs ++ ys) := fun x m => by
  rcases List.mem_append.mp m with m | m
  · exact h x m
  · exact g x m
theorem AreBits.take {xs : List Int} (h : AreBits xs) (n : Nat) : AreBits (xs.take n) := fun x m => h x (List.mem_of_mem_take m)
theorem AreBits.zeros (n : Nat) : AreBits (List.replicate n 0) := fun x m => by
  rw [(List.mem_replicate.mp m).2]
  decide
/-- the code of a count -/
def code (c : Nat) : List Int := List.replicate (bl (c + 1) - 1) 0 ++ digs (c + 1)
theorem code_len (c : Nat) : (code c).length = 2 * bl (c + 1) - 1 := by
  have := bl_half (n := c + 1) (by omega)
  unfold code
  rw [List.length_append, List.length_replicate, digs_len]
  omega
theorem code_bits (c : Nat) : AreBits (code c) := (AreBits.zeros _).app fun _ m => bitsI_bit m
theorem flat_zeros (n : Nat) : (List.replicate n [V.int 0]).flatten = (List.replicate n (0 : Int)).map V.int := by
  induction n with
  | zero => rfl
  | succ n ih =>
    rw [List.replicate_succ, List.flatten_cons, ih, List.replicate_succ]
    rfl
theorem new_at {a p : Addr} {H : Hp} {o o' : HO} (h : H a = some o) (n : H p = none) : (upd H p o') a = some o := by
  rw [upd_ne (ne_of_none h n)]
  exact h
theorem cut_int {xs : List V} {x y : Int} {i k : Nat} (hx : x = (i : Int)) (hy : y = (k : Int)) (hik : i ≤ xs.length) (hk : k ≤ xs.length) : cutV xs (some x) (some y) = (xs.drop i).take (k - i) := by
  subst hx hy
  unfold cutV
  rw [HT.sIx_nat, HT.sIx_nat, Nat.min_eq_left hik, Nat.min_eq_left hk]
theorem cut_to {xs : List V} {y : Int} {k : Nat} (hy : y = (k : Int)) (hk : k ≤ xs.length) : cutV xs none (some y) = xs.take k := by
  subst hy
  unfold cutV
  rw [HT.sIx_none, HT.sIx_nat, Nat.min_eq_left hk, List.drop_zero, Nat.sub_zero]
/-! ### reading a count -/
/-- zeros ahead of the first 1 -/
def lz : List Int → Nat
  | [] => 0
  | x :: r => if x = 0 then lz r + 1 else 0
theorem lz_le : ∀ l : List Int, lz l ≤ l.length
  | [] => Nat.le_refl _
  | x :: r => by
    have := lz_le r
    simp only [lz, List.length_cons]
    split <;> omega
theorem lz_more : ∀ {l : List Int} {k : Nat}, k ≤ lz l → l[k]? = some 0 → k + 1 ≤ lz l
  | [], k, _, h => by simp at h
  | x :: r, 0, _, h => by
    have e : x = 0 := Option.some.inj h
    simp only [lz, e, if_true]
    omega
  | x :: r, k + 1, hk, h => by
    simp only [lz] at hk ⊢
    by_cases e : x = 0
    · rw [if_pos e] at hk ⊢
      have := lz_more (l := r) (k := k) (by omega) h
      omega
    · rw [if_neg e] at hk
      omega
theorem lz_stop : ∀ {l : List Int} {k : Nat} {x : Int}, k ≤ lz l → l[k]? = some x → x ≠ 0 → lz l = k
  | [], k, _, _, h, _ => by simp at h
  | y :: r, 0, x, _, h, hx => by
    have e : y = x := Option.some.inj h
    simp only [lz, e, if_neg hx]
  | y :: r, k + 1, x, hk, h, hx => by
    simp only [lz] at hk ⊢
    by_cases e : y = 0
    · rw [if_pos e] at hk ⊢
      have := lz_stop (l := r) (k := k) (x := x) (by omega) h hx
      omega
    · rw [if_neg e] at hk
      omega
theorem lz_zeros : ∀ (k : Nat) (l : List Int), lz (List.replicate k 0 ++ l) = k + lz l
  | 0, l => by simp
  | k + 1, l => by
    rw [List.replicate_succ, List.cons_append, lz, if_pos rfl, lz_zeros k l]
    omega
inductive RC where
  | long : RC
  | short : RC
  | read (v : Int) (stop : Nat) : RC
def readC (xs : List Int) (a : Nat) : RC :=
  if 40 < lz (xs.drop a) then .long else if xs.length < a + lz (xs.drop a) + 1 + lz (xs.drop a) then .short
  else .read (valI ((xs.drop (a + lz (xs.drop a))).take (lz (xs.drop a) + 1)) - 1) (a + lz (xs.drop a) + 1 + lz (xs.drop a))
def rcV : RC → List V
  | .long => [.str "long"]
  | .short => [.str "short"]
  | .read v s => [.str "read", .int v, .int s]
/-- a signed number of a count -/
def sgnR : RC → RC
  | .read v s => .read (if v % 2 = 0 then v / 2 else (-(v + 1)) / 2) s
  | r => r
theorem read_code {A B : List Int} {c : Nat} (h : c + 1 < 2 ^ 41) : readC (A ++ code c ++ B) A.length = .read c (A.length + (code c).length) := by
  obtain ⟨r, hr⟩ := digs_head (n := c + 1) (by omega)
  have l1 := bl_half (n := c + 1) (by omega)
  have l2 : bl (c + 1) ≤ 41 := bl_le h
  have e1 : (A ++ code c ++ B).drop A.length = List.replicate (bl (c + 1) - 1) 0 ++ (digs (c + 1) ++ B) := by
    rw [List.append_assoc, List.drop_left' rfl, code, List.append_assoc]
  have e2 : lz ((A ++ code c ++ B).drop A.length) = bl (c + 1) - 1 := by
    rw [e1, lz_zeros, hr]
    simp [lz]
  have e3 : (A ++ code c ++ B).drop (A.length + (bl (c + 1) - 1)) = digs (c + 1) ++ B := by
    rw [← List.drop_drop, e1, List.drop_left' (by rw [List.length_replicate])]
  have e4 : (digs (c + 1) ++ B).take (bl (c + 1) - 1 + 1) = digs (c + 1) := by
    rw [List.take_left' (by rw [digs_len]; omega)]
  unfold readC
  rw [e2, if_neg (by omega), if_neg (by rw [List.length_append, List.length_append, code_len]; omega), e3, e4, valI_digs, code_len]
  congr 1
  · omega
  · omega
theorem read_cut {A : List Int} {c t : Nat} (h : c + 1 < 2 ^ 41) (ht : t < (code c).length) : readC (A ++ (code c).take t) A.length = .short := by
  obtain ⟨r, hr⟩ := digs_head (n := c + 1) (by omega)
  have l1 := bl_half (n := c + 1) (by omega)
  have l2 : bl (c + 1) ≤ 41 := bl_le h
  rw [code_len] at ht
  have e0 : (A ++ (code c).take t).length = A.length + t := by
    rw [List.length_append, List.length_take, code_len]
    omega
  have e1 : (A ++ (code c).take t).drop A.length = (code c).take t := List.drop_left' rfl
  by_cases q : t ≤ bl (c + 1) - 1
  · have e2 : (code c).take t = List.replicate t 0 := by
      unfold code
      rw [List.take_append_of_le_length (by rw [List.length_replicate]; exact q), List.take_replicate, Nat.min_eq_left q]
    have e3 : lz ((A ++ (code c).take t).drop A.length) = t := by
      rw [e1, e2]
      have := lz_zeros t []
      rw [List.append_nil] at this
      rw [this]
      rfl
    unfold readC
    rw [e3, if_neg (by omega), if_pos (by rw [e0]; omega)]
  · have e2 : (code c).take t = List.replicate (bl (c + 1) - 1) 0 ++ (digs (c + 1)).take (t - (bl (c + 1) - 1)) := by
      unfold code
      rw [List.take_append, List.length_replicate, List.take_of_length_le (by rw [List.length_replicate]; omega)]
    have e3 : lz ((A ++ (code c).take t).drop A.length) = bl (c + 1) - 1 := by
      rw [e1, e2, lz_zeros, hr]
      obtain ⟨m, hm⟩ : ∃ m, t - (bl (c + 1) - 1) = m + 1 := ⟨t - (bl (c + 1) - 1) - 1, by omega⟩
      rw [hm, List.take_succ_cons]
      simp [lz]
    unfold readC
    rw [e3, if_neg (by omega), if_pos (by rw [e0]; omega)]
/-! ### what is told, as data -/
def rcD : RC → List PyData
  | .long => [.str "long"]
  | .short => [.str "short"]
  | .read v s => [.str "read", .int v, .int s]
theorem dp_rc {K : PySem.W.Frag} {H : Hp} {p : Addr} {r : RC} (h : H p = some (.tup (rcV r))) : Dp K H (.ref p) (.tuple (rcD r)) := by
  cases r with
  | long => exact .tup (.inl (.inl h)) (.cons (.str _) .nil)
  | short => exact .tup (.inl (.inl h)) (.cons (.str _) .nil)
  | read v s => exact .tup (.inl (.inl h)) (.cons (.str _) (.cons (.int _) (.cons (.int _) .nil)))
theorem sh_rc (r : RC) : SeqAt.shaped (.tuple (rcD r)) = true := by
  cases r with
  | long => decide +kernel
  | short => decide +kernel
  | read v s =>
    have h : PyData.canLay0 (.str "read") = true := by decide +kernel
    simp [SeqAt.shaped, rcD, PyData.canLay0, PyData.canLayAll0, PyData.depth, PyData.depthAll] at h ⊢
    try exact h
theorem q_neR {K : PySem.W.Frag} {H : Hp} {p q : Addr} {r : RC} {Q : VK} (hp : H p = some (.tup (rcV r))) (hq : H q = some (.tup (rcV r))) (h : Q (.bl false) H) : rNeD K (.ref p) (.ref q) H Q :=
  ⟨_, _, dp_rc hp, dp_rc hq, sh_rc r, sh_rc r, by rw [eqv_same (sh_rc r)]; exact h⟩
end My
namespace My
open PySem PySem.Spec PyProof.Rows L2
local macro_rules | `(tactic| walk_at "sq") => `(tactic| first | assumption | exact .inl (.inl (by assumption)) | exact .inl (.inl upd_same))
local macro_rules | `(tactic| walk_at "st") => `(tactic| first
  | refine ⟨_, rfl, ?_⟩
  | refine ⟨_, _, rfl, rfl, ?_⟩
  | refine ⟨cmull (by omega) (by omega), ?_⟩
  | refine ⟨cmulr (by omega) (by omega), ?_⟩
  | refine ⟨cdivw (by omega) (by omega), ?_⟩
  | refine ⟨(⟨by decide, by decide⟩ : CDiv _ _), ?_⟩
  | refine ⟨(show (0 : Int) < _ by omega), ?_⟩
  | refine ⟨(show (0 : Int) ≤ _ by omega), ?_⟩
  | refine ⟨(⟨by decide, by decide, by decide⟩ : CPow _ _), ?_⟩
  | refine ⟨(⟨by omega, by omega, by omega⟩ : CPow _ _), ?_⟩
  | refine .inl ⟨_, rfl, ?_⟩
  | refine .inr ⟨_, rfl, ?_⟩
  | refine ⟨_, _, _, _, _, rfl, .ty _, .base (.int _), kit_ii, ?_⟩
  | refine ⟨_, _, _, _, _, rfl, .ty _, .base (.int _), kit_ib, ?_⟩
  | refine ⟨_, _, _, _, _, rfl, .ty _, .base (.tup (by assumption)), kit_tt, ?_⟩
  | refine ⟨_, _, _, _, _, rfl, .ty _, .base (.lst (by assumption)), kit_ll, ?_⟩
  | refine iteT ?_
  | refine iteF ?_
  | refine ⟨_, _, rfl, .inl (.inl (by first | assumption | exact upd_same)), rfl, ?_⟩
  | refine ⟨_, _, rfl, ?_⟩
  | refine ⟨cmulr (by split <;> decide) (by split <;> decide), ?_⟩
  | refine ⟨_, _, rfl, .inl (by walk_at "sq"), ?_⟩
  | refine ⟨_, _, rfl, .inr (by walk_at "sq"), ?_⟩
  | refine ⟨_, _, _, _, rfl, rfl, (by walk_at "sq"), rfl, ?_⟩
  | refine ⟨rfl, ?_⟩
  | (refine ite2 (fun hc => ?_) (fun hc => ?_) <;> (try simp only [decide_eq_true_eq, Bool.not_eq_true', decide_eq_false_iff_not, Bool.not_eq_true, Bool.not_eq_false', Bool.false_eq_true, reduceCtorEq, V.int.injEq, not_true_eq_false, not_false_eq_true] at hc) <;> (try (exfalso; omega))))
local macro_rules | `(tactic| walk_at "ev") => `(tactic| repeat' walk_at "st")
def top (i : Nat) : Stmt := PySem.Challenge.pw_narrowingbits_k02_signed_both_ways.main.body.getD i (.Pass ⟨0, 0, 0, 0⟩)
abbrev s_is_number : Stmt := top 8
theorem sc_is_number : FnScope ["thing"] ["thing"] (defScope s_is_number) := ⟨rfl, rfl, rfl, by decide +kernel, rfl, by decide +kernel, by decide +kernel⟩
abbrev s_check_bits : Stmt := top 9
theorem sc_check_bits : FnScope ["bits", "bit"] ["bits"] (defScope s_check_bits) := ⟨rfl, rfl, rfl, by decide +kernel, rfl, by decide +kernel, by decide +kernel⟩
abbrev s_number_of : Stmt := top 10
theorem sc_number_of : FnScope ["bits", "number", "bit"] ["bits"] (defScope s_number_of) := ⟨rfl, rfl, rfl, by decide +kernel, rfl, by decide +kernel, by decide +kernel⟩
abbrev s_fixed : Stmt := top 11
theorem sc_fixed : FnScope ["n", "w", "text", "digit"] ["n", "w"] (defScope s_fixed) := ⟨rfl, rfl, rfl, by decide +kernel, rfl, by decide +kernel, by decide +kernel⟩
abbrev s_count_bits : Stmt := top 12
theorem sc_count_bits : FnScope ["n", "m", "length"] ["n"] (defScope s_count_bits) := ⟨rfl, rfl, rfl, by decide +kernel, rfl, by decide +kernel, by decide +kernel⟩
abbrev s_signed_bits : Stmt := top 13
theorem sc_signed_bits : FnScope ["n"] ["n"] (defScope s_signed_bits) := ⟨rfl, rfl, rfl, by decide +kernel, rfl, by decide +kernel, by decide +kernel⟩
abbrev s_count_at : Stmt := top 14
theorem sc_count_at : FnScope ["bits", "at", "one", "zeros", "stop"] ["bits", "at"] (defScope s_count_at) := ⟨rfl, rfl, rfl, by decide +kernel, rfl, by decide +kernel, by decide +kernel⟩
abbrev s_signed_at : Stmt := top 15
theorem sc_signed_at : FnScope ["bits", "at", "told", "word", "count", "stop"] ["bits", "at"] (defScope s_signed_at) := ⟨rfl, rfl, rfl, by decide +kernel, rfl, by decide +kernel, by decide +kernel⟩
abbrev s_check_place : Stmt := top 16
theorem sc_check_place : FnScope ["bits", "at"] ["bits", "at"] (defScope s_check_place) := ⟨rfl, rfl, rfl, by decide +kernel, rfl, by decide +kernel, by decide +kernel⟩
abbrev s_read_signed : Stmt := top 17
theorem sc_read_signed : FnScope ["bits", "at"] ["bits", "at"] (defScope s_read_signed) := ⟨rfl, rfl, rfl, by decide +kernel, rfl, by decide +kernel, by decide +kernel⟩
abbrev s_law_pool : Stmt := top 19
theorem sc_law_pool : FnScope ["_law_script", "_law_k", "_law_cell", "_law_big", "_law_mixed"] ["_law_script", "_law_k"] (defScope s_law_pool) := ⟨rfl, rfl, rfl, by decide +kernel, rfl, by decide +kernel, by decide +kernel⟩
abbrev s_law_take : Stmt := top 20
theorem sc_law_take : FnScope ["_law_source", "_law_most", "_law_drawn"] ["_law_source", "_law_most"] (defScope s_law_take) := ⟨rfl, rfl, rfl, by decide +kernel, rfl, by decide +kernel, by decide +kernel⟩
abbrev s_law_one : Stmt := top 21
theorem sc_law_one : FnScope ["_law_source", "_law_things"] ["_law_source", "_law_things"] (defScope s_law_one) := ⟨rfl, rfl, rfl, by decide +kernel, rfl, by decide +kernel, by decide +kernel⟩
abbrev s_law_bits : Stmt := top 22
theorem sc_law_bits : FnScope ["_law_source", "_law_most", "_law_turn"] ["_law_source", "_law_most"] (defScope s_law_bits) := ⟨rfl, rfl, rfl, by decide +kernel, rfl, by decide +kernel, by decide +kernel⟩
abbrev s_law_digits : Stmt := top 23
theorem sc_law_digits : FnScope ["_law_number_here", "_law_rest", "_law_found"] ["_law_number_here"] (defScope s_law_digits) := ⟨rfl, rfl, rfl, by decide +kernel, rfl, by decide +kernel, by decide +kernel⟩
abbrev s_law_are_bits : Stmt := top 24
theorem sc_law_are_bits : FnScope ["_law_told", "_law_one_here"] ["_law_told"] (defScope s_law_are_bits) := ⟨rfl, rfl, rfl, by decide +kernel, rfl, by decide +kernel, by decide +kernel⟩
abbrev s_law_count : Stmt := top 25
theorem sc_law_count : FnScope ["_law_source", "_law_way", "_law_great"] ["_law_source"] (defScope s_law_count) := ⟨rfl, rfl, rfl, by decide +kernel, rfl, by decide +kernel, by decide +kernel⟩
abbrev s_law_code : Stmt := top 26
theorem sc_law_code : FnScope ["_law_count_here", "_law_digits_here"] ["_law_count_here"] (defScope s_law_code) := ⟨rfl, rfl, rfl, by decide +kernel, rfl, by decide +kernel, by decide +kernel⟩
abbrev s_law_number : Stmt := top 27
theorem sc_law_number : FnScope ["_law_source", "_law_great", "_law_number_here"] ["_law_source"] (defScope s_law_number) := ⟨rfl, rfl, rfl, by decide +kernel, rfl, by decide +kernel, by decide +kernel⟩
abbrev s_law_is_great : Stmt := top 28
theorem sc_law_is_great : FnScope ["_law_number_here", "_law_told", "e"] ["_law_number_here"] (defScope s_law_is_great) := ⟨rfl, rfl, rfl, by decide +kernel, rfl, by decide +kernel, by decide +kernel⟩
abbrev s_law : Stmt := top 29
theorem sc_law : FnScope ["_law_script", "_law_k", "_law_source", "_law_number_here", "_law_ahead", "_law_behind", "_law_code_here", "_law_told", "_law_whole", "_law_place", "_law_at", "_law_far", "_law_ends"] ["_law_script"] (defScope s_law) := ⟨rfl, rfl, rfl, by decide +kernel, rfl, by decide +kernel, by decide +kernel⟩
section
variable {P : Program} {w : World} {K : PySem.W.Frag} {mg : Str → Option Value} {base : Heap}
structure Txt (mg : Str → Option Value) : Prop where
  z_int : mg "int" = none
  z_len : mg "len" = none
  z_max : mg "max" = none
  z_min : mg "min" = none
  z_range : mg "range" = none
  z_isinstance : mg "isinstance" = none
  z_bool : mg "bool" = none
  z_list : mg "list" = none
/-! ### fixed -/
def spFixed : Sp := fun vs H Q _ => ∃ (n w : Nat), vs = [.int n, .int w] ∧ n < 2 ^ w ∧ w ≤ 900 ∧ ∀ (p : Addr) (H' : Hp), H p = none → Same H H' → H' p = some (.lst ((bitsI w n).map V.int)) → Q (.ref p) H'
theorem ok_fixed {f : Addr} {fd : FuncData} {k : Nat} (F : Fun K "fixed" "fixed" s_fixed f fd) (T : Txt mg) : FnOk P w K mg base CX0 (k + 1) f fd ["n", "w"] spFixed := by
  refine F.ok sc_fixed (fun vs H Q E h => ?_) (fun cdv A outer s H vs Q E hr h => ?_)
  · obtain ⟨n, w, rfl, _⟩ := h
    rfl
  · obtain ⟨n, w, rfl, hn, hw, q⟩ := h
    have hb : Builtin.Int.intBits (n : Int) ≤ w := PyProof.Rows.intBits_le (by omega)
    refine ⟨_, (pss_cons (ps_if (PW.pt (pw_or (pt_cmpR op_lt (pv 0) pe_int (nomark _)) (pw_or (pt_cmpR op_lt (pv 1) pe_int (nomark _)) (pw_or1 (pt_cmpR op_gt (pe_bits (pv 0)) (pv 1) (nomark _)))))) (pss_one ps_never) pss_nil)
    (pss_cons (ps_set (i := 2) sc_fixed.nd rfl (Or.inl rfl) (pe_joined1 (pe_fmtB (pe_op op_add (pe_op op_shl pe_int (pv 1)) (pv 0)))))
    (pss_one (ps_ret (pe_lc (own := [("digit", 3)]) (g := gName 3) (tt := tYes) rfl sc_fixed.nd (pi_str (pe_slice C8.sl_txt (pv 2) (po_some pe_int) po_none)) (blkOk_by (N := ["n", "w", "text", "digit"]) (sc := defScope s_fixed) (by decide +kernel)) (fun _ _ _ _ _ => pg_name (i := 3) sc_fixed.nd rfl (Or.inl rfl)) (fun _ _ _ _ _ => pts_nil) (fun _ _ _ _ _ => (pe_callTy call_int_str (by rfl) T.z_int PyProof.Rows.boot_int (pa_cons (pv 3) pa_nil)))))))), ?_⟩
    walk_at "ev"
    have e0 : (1 : Int) * 2 ^ (w : Int).toNat + (n : Int) = ((2 ^ w + n : Nat) : Int) := by
      rw [Int.one_mul, Int.toNat_natCast, Int.natCast_add, Int.natCast_pow]
      rfl
    have eL : (binCodes (2 ^ w + n)).length = w + 1 := by
      rw [binCodes_pow w n hn, List.length_cons, List.length_map, bitsW_len]
    have eD : (Nat.toDigits 2 (2 ^ w + n)).length ≤ sizeLine := by
      have := eL
      unfold binCodes at this
      rw [List.length_map] at this
      rw [this]
      exact Nat.le_of_lt (small1000 (by omega))
    refine ⟨by rw [e0]; exact Int.natCast_nonneg _, ?_⟩
    rw [e0, Int.natAbs_natCast]
    refine ⟨eD, ?_⟩
    have es : Txt.slice (SX.S (binCodes (2 ^ w + n))) (some 1) none = SX.S ((bitsW w n).map (48 + ·)) := by
      rw [SX.slice_from (by decide), binCodes_pow w n hn]
      rfl
    have eN : (SX.S ((bitsW w n).map (48 + ·))).cps.size = w := by
      show ((bitsW w n).map (48 + ·)).toArray.size = w
      rw [List.size_toArray, List.length_map, bitsW_len]
    walk_at "ev"
    refine ⟨by rw [SX.S_len, eL]; exact Nat.le_of_lt (small1000 (by omega)), ?_⟩
    rw [es]
    walk_at "ev"
    intro D hD
    refine lc_it (walk_str (z := SX.S ((bitsW w n).map (48 + ·)))) (fun i H1 => Same H H1 ∧ H1 D = some (.lst (((bitsI w n).take i).map V.int))) ⟨same_upd hD, upd_same⟩ (fun _ _ _ _ => trivial) ?_ ?_
    · rintro i x H1 H2 hi ⟨s1, e1⟩ ⟨rfl, c, hc, rfl⟩
      rw [eN] at hi
      have hb : i < (bitsW w n).length := by rw [bitsW_len]; exact hi
      have ec : c = 48 + (bitsW w n)[i] := by
        have h2 : ((bitsW w n).map (48 + ·)).toArray[i]? = some c := hc
        rw [List.getElem?_toArray, List.getElem?_map, List.getElem?_eq_getElem hb] at h2
        exact (Option.some.inj h2).symm
      subst ec
      have hb2 : (bitsW w n)[i] < 2 := bitsW_bit w n _ (List.getElem_mem _)
      have gi : (bitsI w n)[i]? = some ((bitsW w n)[i] : Int) := by
        rw [bitsI, List.getElem?_map, List.getElem?_eq_getElem hb]
        rfl
      walk_at "ev"
      refine ⟨_, _, rfl, digit_int hb2, (by decide : 1 ≤ 640), _, e1, ?_, ?_, ?_⟩
      · rw [List.length_map, List.length_take]
        exact Nat.lt_of_le_of_lt (Nat.min_le_left _ _) (small1000 (by omega))
      · exact fun b o e => by
          rw [upd_ne (ne_of_none e hD)]
          exact s1 b o e
      · rw [upd_same, ← take_snoc gi, List.map_append]
        rfl
    · rintro H1 ⟨s1, e1⟩
      refine q D H1 hD s1 ?_
      rw [e1, eN, List.take_of_length_le (by rw [bitsI_len]; exact Nat.le_refl _)]
/-! ### a draw -/
def spTake : Sp := fun vs H Q _ => ∃ (a : Addr) (m : Int), vs = [.ref a, .int m] ∧ Src H a ∧ 0 < m ∧ m < 18446744073709551616 ∧ ∀ (r : Int) (H' : Hp), 0 ≤ r → r < m → Src H' a → But a H H' → Q (.int r) H'
theorem ok_take {f : Addr} {fd : FuncData} {k : Nat} (F : Fun K "_law_take" "_law_take" s_law_take f fd) (T : Txt mg) : FnOk P w K mg base CX0 (k + 1) f fd ["_law_source", "_law_most"] spTake := by
  refine F.ok sc_law_take (fun vs H Q E h => ?_) (fun cdv A outer s H vs Q E hr h => ?_)
  · obtain ⟨a, m, rfl, _⟩ := h
    rfl
  · obtain ⟨a, m, rfl, ⟨x, y, ha, hx, hy, hy2⟩, hm, hm2, q⟩ := h
    refine ⟨_, (pss_cons (ps_if (pt_cmpR op_gt (pe_ix ix_list (pv 0) pe_int (fun _ _ => rfl)) pe_int (nomark _)) (pss_cons (ps_set (i := 2) sc_law_take.nd rfl (Or.inl rfl) (pe_op op_mod (pe_callTy call_int1 (by rfl) T.z_int PyProof.Rows.boot_int (pa_cons (pe_ix ix_list (pv 0) pe_int (fun _ _ => rfl)) pa_nil)) (pv 1)))
    (pss_cons (ps_asg (pe_op op_fdivW (pe_ix ix_list (pv 0) pe_int (fun _ _ => rfl)) (pv 1)) (pg_sub (pv 0) pe_int set_list))
    (pss_one (ps_ret (pv 2))))) pss_nil)
    (pss_cons (ps_asg (pe_op op_mod (pe_callTy call_int1 (by rfl) T.z_int PyProof.Rows.boot_int (pa_cons (pe_op op_add (pe_op op_mul (pe_ix ix_list (pv 0) pe_int (fun _ _ => rfl)) pe_int) pe_int) pa_nil)) pe_int) (pg_sub (pv 0) pe_int set_list))
    (pss_one (ps_ret (pe_op op_mod (pe_callTy call_int1 (by rfl) T.z_int PyProof.Rows.boot_int (pa_cons (pe_op op_fdiv (pe_op op_mod (pe_callTy call_int1 (by rfl) T.z_int PyProof.Rows.boot_int (pa_cons (pe_op op_mul (pe_ix ix_list (pv 0) pe_int (fun _ _ => rfl)) (pe_ix ix_list (pv 0) pe_int (fun _ _ => rfl))) pa_nil)) pe_int) pe_int) pa_nil)) (pv 1)))))), ?_⟩
    walk_at "ev"
    · refine q _ _ (Int.emod_nonneg _ (by omega)) (Int.emod_lt_of_pos _ hm) ⟨_, _, upd_same, Int.ediv_nonneg hx (by omega), hy, hy2⟩ But.upd
    · refine q _ _ (Int.emod_nonneg _ (by omega)) (Int.emod_lt_of_pos _ hm) ⟨_, _, upd_same, hx, Int.emod_nonneg _ (by omega), Int.emod_lt_of_pos _ (by omega)⟩ But.upd
/-! ### the pool of a cell -/
def spPool (K : PySem.W.Frag) : Sp := fun vs H Q _ => ∃ (a : Addr) (ns : List Int) (k : Int), vs = [.ref a, .int k] ∧ SqL K H a (ns.map V.int) ∧ 0 ≤ k ∧ k < 100 ∧ ∀ (p : Addr) (H' : Hp), H p = none → Same H H' → Src H' p → Q (.ref p) H'
theorem ok_pool {f : Addr} {fd : FuncData} {k : Nat} (F : Fun K "_law_pool" "_law_pool" s_law_pool f fd) (T : Txt mg) : FnOk P w K mg base CX0 (k + 1) f fd ["_law_script", "_law_k"] (spPool K) := by
  refine F.ok sc_law_pool (fun vs H Q E h => ?_) (fun cdv A outer s H vs Q E hr h => ?_)
  · obtain ⟨a, ns, k, rfl, _⟩ := h
    rfl
  · obtain ⟨a, ns, k, rfl, hS, hk, hk2, q⟩ := h
    refine ⟨_, (pss_cons (ps_set (i := 2) sc_law_pool.nd rfl (Or.inl rfl) pe_int)
    (pss_cons (ps_if (pt_cmpR op_lt (pv 1) (pe_callB call_len_seq (by rfl) T.z_len PySem.boot_len (pa_cons (pv 0) pa_nil)) (nomark _)) (pss_one (ps_set (i := 2) sc_law_pool.nd rfl (Or.inl rfl) (pe_ix ix_list (pv 0) (pv 1) (fun _ _ => rfl)))) pss_nil)
    (pss_cons (ps_set (i := 3) sc_law_pool.nd rfl (Or.inl rfl) (pe_callB (call_max2 rfl) (by rfl) T.z_max PyProof.Rows.boot_max (pa_cons (pe_callTy call_int1 (by rfl) T.z_int PyProof.Rows.boot_int (pa_cons (pv 2) pa_nil)) (pa_cons (pe_callTy call_int1 (by rfl) T.z_int PyProof.Rows.boot_int (pa_cons (pe_op op_sub (pe_un un_neg pe_int) (pv 2)) pa_nil)) pa_nil))))
    (pss_cons (ps_set (i := 4) sc_law_pool.nd rfl (Or.inl rfl) (pe_op op_mod (pe_callTy call_int1 (by rfl) T.z_int PyProof.Rows.boot_int (pa_cons (pe_op op_mul (pe_op op_add (pe_op op_add (pe_op op_add (pe_op op_mod (pe_callTy call_int1 (by rfl) T.z_int PyProof.Rows.boot_int (pa_cons (pv 3) pa_nil)) pe_int) (pe_op op_mul (pe_op op_mul pe_int (pv 1)) (pv 1))) (pe_op op_mul pe_int (pv 1))) pe_int) pe_int) pa_nil)) pe_int))
    (pss_one (ps_ret (pe_lst (pa_cons (pe_op op_mul (pv 3) (pe_callTy call_int1 (by rfl) T.z_int PyProof.Rows.boot_int (pa_cons (pe_cmpR op_ge (pv 3) (pe_op (op_powc (a := 10) (b := 18) (c := 1000000000000000000) ⟨by decide, by decide, by decide⟩ (by decide +kernel)) pe_int pe_int) (nomark _)) pa_nil))) (pa_cons (pv 4) pa_nil))))))))), ?_⟩
    walk_at "ev"
    · obtain ⟨z, hz⟩ := at_lt hk (by assumption)
      refine ⟨_, _, _, _, rfl, rfl, hS, hz, ?_⟩
      walk_at "ev"
      refine ⟨(by show 2 ≤ sizeLine; decide), fun p np => q p _ np (same_upd np) ⟨_, _, upd_same, pool_nn _ _, Int.emod_nonneg _ (by omega), Int.emod_lt_of_pos _ (by omega)⟩⟩
    · refine ⟨(by show 2 ≤ sizeLine; decide), fun p np => q p _ np (same_upd np) ⟨_, _, upd_same, pool_nn _ _, Int.emod_nonneg _ (by omega), Int.emod_lt_of_pos _ (by omega)⟩⟩
/-! ### one of some things -/
def spOne : Sp := fun vs H Q _ => ∃ (a t : Addr) (xs : List V), vs = [.ref a, .ref t] ∧ Src H a ∧ t ≠ a ∧ H t = some (.lst xs) ∧ xs ≠ [] ∧ xs.length ≤ 1000 ∧ ∀ (v : V) (H' : Hp), v ∈ xs → Src H' a → But a H H' → Q v H'
theorem ok_one {f : Addr} {fd : FuncData} {k : Nat} (F : Fun K "_law_one" "_law_one" s_law_one f fd) (T : Txt mg) (c_law_take : C8.Cal P w K mg base 1 "_law_take" spTake []) : FnOk P w K mg base CX0 (k + 2) f fd ["_law_source", "_law_things"] spOne := by
  refine F.ok sc_law_one (fun vs H Q E h => ?_) (fun cdv A outer s H vs Q E hr h => ?_)
  · obtain ⟨a, t, xs, rfl, _⟩ := h
    rfl
  · obtain ⟨a, t, xs, rfl, ha, hta, ht, hx, hl, q⟩ := h
    refine ⟨_, (pss_one (ps_ret (pe_ix ix_list (pv 1) (C8.pe_c c_law_take hr (by omega) (by rfl) (pa_cons (pv 0) (pa_cons (pe_callB call_len_seq (by rfl) T.z_len PySem.boot_len (pa_cons (pv 1) pa_nil)) pa_nil))) (fun _ _ => rfl)))), ?_⟩
    walk_at "ev"
    have hp : 0 < xs.length := List.length_pos_iff.mpr hx
    refine ⟨ha, (by omega), (by omega), fun r H' h0 h1 s1 u1 => ?_⟩
    obtain ⟨v, hv, hm⟩ := at_mem (xs := xs) h0 h1
    exact ⟨_, _, _, _, rfl, rfl, .inl (.inl (u1.at hta ht)), hv, q v H' hm s1 u1⟩
/-! ### bits -/
def spIsNum : Sp := fun vs H Q _ => ∃ (z : Int), vs = [.int z] ∧ Q (.bl true) H
theorem ok_is_number {f : Addr} {fd : FuncData} {k : Nat} (F : Fun K "is_number" "is_number" s_is_number f fd) (T : Txt mg) : FnOk P w K mg base CX0 (k + 1) f fd ["thing"] spIsNum := by
  refine F.ok sc_is_number (fun vs H Q E h => ?_) (fun cdv A outer s H vs Q E hr h => ?_)
  · obtain ⟨z, rfl, _⟩ := h
    rfl
  · obtain ⟨z, rfl, q⟩ := h
    refine ⟨_, (pss_one (ps_ret (pe_and (pe_callB call_isi (by rfl) T.z_isinstance PyProof.Rows.boot_isinstance (pa_cons (pv 0) (pa_cons (pe_bltn (v := .ty "int") (by rfl) T.z_int PyProof.Rows.boot_int rfl) pa_nil))) (pe_one (pe_not (pe_callB call_isi (by rfl) T.z_isinstance PyProof.Rows.boot_isinstance (pa_cons (pv 0) (pa_cons (pe_bltn (v := .ty "bool") (by rfl) T.z_bool PyProof.Rows.boot_bool rfl) pa_nil)))))))), ?_⟩
    walk_at "ev"
    exact q
def spCheckB : Sp := fun vs H Q _ => ∃ (p : Addr) (xs : List Int), vs = [.ref p] ∧ H p = some (.lst (xs.map V.int)) ∧ AreBits xs ∧ Q .non H
theorem ok_check_bits {f : Addr} {fd : FuncData} {k : Nat} (F : Fun K "check_bits" "check_bits" s_check_bits f fd) (c_is_number : C8.Cal P w K mg base 1 "is_number" spIsNum []) : FnOk P w K mg base CX0 (k + 2) f fd ["bits"] spCheckB := by
  refine F.ok sc_check_bits (fun vs H Q E h => ?_) (fun cdv A outer s H vs Q E hr h => ?_)
  · obtain ⟨p, xs, rfl, _⟩ := h
    rfl
  · obtain ⟨p, xs, rfl, hp, hb, q⟩ := h
    refine ⟨_, (pss_one (ps_for PassesOwn.never rfl (pi_list (pv 0)) (pg_name (i := 1) sc_check_bits.nd rfl (Or.inl rfl))
      (pss_one (ps_if (PW.pt (pw_or (pt_not (pt_val (C8.pe_c c_is_number hr (by omega) (by rfl) (pa_cons (pv 1) pa_nil)))) (pw_or1 (pt_not (pt_chain op_le op_le pe_int (pv 1) pe_int))))) (pss_one ps_never) pss_nil)))), ?_⟩
    walk_at "ev"
    refine ⟨⟨_, .inl (.inl hp)⟩, for_list (K := K) (a := p) (xs := xs.map V.int) (fun _ σ H1 => ∃ v, σ = [some (.ref p), v] ∧ H1 = H) ⟨_, rfl, rfl⟩ (fun _ _ _ _ ⟨_, _, e⟩ => by rw [e]; exact .inl (.inl hp)) ?_ ?_⟩
    · rintro i x σ H1 hx ⟨v, rfl, rfl⟩
      rw [List.getElem?_map] at hx
      obtain ⟨z, hz, rfl⟩ := Option.map_eq_some_iff.mp hx
      have hz2 := hb z (List.mem_of_getElem? hz)
      walk_at "ev"
      rfl
    · rintro σ H1 ⟨v, rfl, rfl⟩
      exact q
def spNumber : Sp := fun vs H Q _ => ∃ (p : Addr) (xs : List Int), vs = [.ref p] ∧ H p = some (.lst (xs.map V.int)) ∧ Q (.int (valI xs)) H
theorem ok_number_of {f : Addr} {fd : FuncData} {k : Nat} (F : Fun K "number_of" "number_of" s_number_of f fd) : FnOk P w K mg base CX0 (k + 1) f fd ["bits"] spNumber := by
  refine F.ok sc_number_of (fun vs H Q E h => ?_) (fun cdv A outer s H vs Q E hr h => ?_)
  · obtain ⟨p, xs, rfl, _⟩ := h
    rfl
  · obtain ⟨p, xs, rfl, hp, q⟩ := h
    refine ⟨_, (pss_cons (ps_set (i := 1) sc_number_of.nd rfl (Or.inl rfl) pe_int)
    (pss_cons (ps_for PassesOwn.never rfl (pi_list (pv 0)) (pg_name (i := 2) sc_number_of.nd rfl (Or.inl rfl))
      (pss_one (ps_set (i := 1) sc_number_of.nd rfl (Or.inl rfl) (pe_op op_add (pe_op op_mul pe_int (pv 1)) (pv 2)))))
    (pss_one (ps_ret (pv 1))))), ?_⟩
    walk_at "ev"
    refine ⟨⟨_, .inl (.inl hp)⟩, for_list (K := K) (a := p) (xs := xs.map V.int) (fun i σ H1 => ∃ v, σ = [some (.ref p), some (.int (valI (xs.take i))), v] ∧ H1 = H) ⟨_, rfl, rfl⟩ (fun _ _ _ _ ⟨_, _, e⟩ => by rw [e]; exact .inl (.inl hp)) ?_ ?_⟩
    · rintro i x σ H1 hx ⟨v, rfl, rfl⟩
      rw [List.getElem?_map] at hx
      obtain ⟨z, hz, rfl⟩ := Option.map_eq_some_iff.mp hx
      walk_at "ev"
      refine ⟨some (.int z), ?_, rfl⟩
      rw [← take_snoc hz, valI_snoc]
      rfl
    · rintro σ H1 ⟨v, rfl, rfl⟩
      walk_at "ev"
      rw [List.length_map, List.take_length]
      exact q
/-! ### codes -/
def spCountBits : Sp := fun vs H Q _ => ∃ (c : Nat), vs = [.int c] ∧ c + 1 < 2199023255552 ∧ ∀ (p : Addr) (H' : Hp), H p = none → Same H H' → H' p = some (.lst ((code c).map V.int)) → Q (.ref p) H'
theorem ok_count_bits {f : Addr} {fd : FuncData} {k : Nat} {t : Tok} (F : Fun K "count_bits" "count_bits" s_count_bits f fd) (hG : mg "GREATEST_COUNT" = some (.int 2199023255550 t)) (c_fixed : C8.Cal P w K mg base 1 "fixed" spFixed []) : FnOk P w K mg base CX0 (k + 2) f fd ["n"] spCountBits := by
  refine F.ok sc_count_bits (fun vs H Q E h => ?_) (fun cdv A outer s H vs Q E hr h => ?_)
  · obtain ⟨c, rfl, _⟩ := h
    rfl
  · obtain ⟨c, rfl, hc, q⟩ := h
    have hb : bl (c + 1) ≤ 41 := bl_le hc
    have hb1 := bl_half (n := c + 1) (by omega)
    refine ⟨_, (pss_cons (ps_if (pt_not (pt_chain op_le op_le pe_int (pv 0) (pe_glob (v := .int 2199023255550) (by rfl) hG ⟨_, rfl⟩))) (pss_one ps_never) pss_nil)
    (pss_cons (ps_set (i := 1) sc_count_bits.nd rfl (Or.inl rfl) (pe_op op_add (pv 0) pe_int))
    (pss_cons (ps_set (i := 2) sc_count_bits.nd rfl (Or.inl rfl) (pe_bits (pv 1)))
    (pss_one (ps_ret (pe_op op_cat (pe_op op_rep (pe_lst (pa_cons pe_int pa_nil)) (pe_op op_sub (pv 2) pe_int)) (C8.pe_c c_fixed hr (by omega) (by rfl) (pa_cons (pv 1) (pa_cons (pv 2) pa_nil))))))))), ?_⟩
    walk_at "ev"
    rw [show Builtin.Int.intBits ((c : Int) + 1) = bl (c + 1) from rfl]
    walk_at "ev"
    refine ⟨(by show 1 ≤ sizeLine; decide), fun p0 n0 => ?_⟩
    walk_at "ev"
    refine ⟨p0, _, _, rfl, rfl, upd_same, by omega, by omega, ?_, fun p1 n1 => ?_⟩
    · show 1 * _ ≤ sizeLine
      exact Nat.le_of_lt (small1000 (by omega))
    walk_at "ev"
    refine ⟨bl_lt _, by omega, fun p2 H2 n2 s2 h2 => ?_⟩
    refine ⟨p1, p2, _, _, rfl, rfl, s2 _ _ upd_same, h2, ?_, fun p3 n3 => ?_⟩
    · rw [flat_zeros, List.length_map, List.length_map, List.length_replicate, bitsI_len]
      exact Nat.le_of_lt (small1000 (by omega))
    · have sA := ((same_upd n0).trans (same_upd n1)).trans (s2.trans (same_upd (o := .lst ((List.replicate ((bl (c + 1) : Int) - 1).toNat [V.int 0]).flatten ++ (bitsI (bl (c + 1)) (c + 1)).map V.int)) n3))
      refine q p3 _ ?_ sA ?_
      · exact (((same_upd n0).trans (same_upd n1)).trans s2).free n3
      · rw [upd_same, flat_zeros, ← List.map_append, show ((bl (c + 1) : Int) - 1).toNat = bl (c + 1) - 1 by omega]
        rfl
def spCountAt : Sp := fun vs H Q _ => ∃ (p : Addr) (xs : List Int) (a : Nat), vs = [.ref p, .int a] ∧ H p = some (.lst (xs.map V.int)) ∧ AreBits xs ∧ a ≤ xs.length ∧ xs.length ≤ 1000 ∧ ∀ (q : Addr) (H' : Hp), H q = none → Same H H' → H' q = some (.tup (rcV (readC xs a))) → Q (.ref q) H'
theorem ok_count_at {f : Addr} {fd : FuncData} {k : Nat} {t : Tok} (F : Fun K "count_at" "count_at" s_count_at f fd) (T : Txt mg) (hZ : mg "MOST_ZEROS" = some (.int 40 t)) (c_number_of : C8.Cal P w K mg base 1 "number_of" spNumber []) : FnOk P w K mg base CX0 (k + 2) f fd ["bits", "at"] spCountAt := by
  refine F.ok sc_count_at (fun vs H Q E h => ?_) (fun cdv A outer s H vs Q E hr h => ?_)
  · obtain ⟨p, xs, a, rfl, _⟩ := h
    rfl
  · obtain ⟨p, xs, a, rfl, hp, hb, ha, hl, q⟩ := h
    have hz := lz_le (xs.drop a)
    rw [List.length_drop] at hz
    refine ⟨_, (pss_cons (ps_set (i := 2) sc_count_at.nd rfl (Or.inl rfl) (pv 1))
    (pss_cons (ps_while PassesOwn.never (PW.pt (pw_and (pt_cmpR op_lt (pv 2) (pe_callB call_len_seq (by rfl) T.z_len PySem.boot_len (pa_cons (pv 0) pa_nil)) (nomark _)) (pw_and1 (pt_cmpR op_eq (pe_ix ix_list (pv 0) (pv 2) (fun _ _ => rfl)) pe_int (nomark _)))))
      (pss_cons (ps_aug (i := 2) sc_count_at.nd rfl (Or.inl rfl) pe_int ip_add)
    (pss_one (ps_if (pt_cmpR op_gt (pe_op op_sub (pv 2) (pv 1)) (pe_glob (v := .int 40) (by rfl) hZ ⟨_, rfl⟩) (nomark _)) (pss_one (ps_ret (pe_tup (pa_cons pe_str pa_nil)))) pss_nil))))
    (pss_cons (ps_set (i := 3) sc_count_at.nd rfl (Or.inl rfl) (pe_op op_sub (pv 2) (pv 1)))
    (pss_cons (ps_set (i := 4) sc_count_at.nd rfl (Or.inl rfl) (pe_op op_add (pe_op op_add (pv 2) pe_int) (pv 3)))
    (pss_cons (ps_if (pt_cmpR op_gt (pv 4) (pe_callB call_len_seq (by rfl) T.z_len PySem.boot_len (pa_cons (pv 0) pa_nil)) (nomark _)) (pss_one (ps_ret (pe_tup (pa_cons pe_str pa_nil)))) pss_nil)
    (pss_one (ps_ret (pe_tup (pa_cons pe_str (pa_cons (pe_op op_sub (C8.pe_c c_number_of hr (by omega) (by rfl) (pa_cons (pe_slice sl_list (pv 0) (po_some (pv 2)) (po_some (pv 4))) pa_nil)) pe_int) (pa_cons (pv 4) pa_nil))))))))))), ?_⟩
    walk_at "ev"
    refine ⟨fun m σ H1 => ∃ j : Nat, σ = [some (.ref p), some (.int a), some (.int ((a + j : Nat) : Int)), none, none] ∧ H1 = H ∧ j ≤ lz (xs.drop a) ∧ j ≤ 40 ∧ m = xs.length - (a + j), ⟨_, 0, rfl, rfl, Nat.zero_le _, Nat.zero_le _, rfl⟩, ?_⟩
    rintro m σ H1 ⟨j, rfl, rfl, hj, hj2, rfl⟩
    have hml : (xs.map V.int).length = xs.length := List.length_map _
    have sh : ∀ {r}, readC xs a = r → ∀ (o : HO), o = .tup (rcV r) → ∀ (q' : Addr), H1 q' = none → Q (.ref q') (upd H1 q' o) := fun e o eo q' nq => q q' _ nq (same_upd nq) (by rw [upd_same, eo, e])
    walk_at "ev"
    · obtain ⟨z, hz1⟩ : ∃ z, xs[a + j]? = some z := by
        refine ⟨xs[a + j]'?_, List.getElem?_eq_getElem _⟩
        have : ((a + j : Nat) : Int) < ((xs.map V.int).length : Int) := by assumption
        rw [List.length_map] at this
        omega
      have hd : (xs.drop a)[j]? = some z := by
        rw [List.getElem?_drop]
        exact hz1
      have hlt : a + j < xs.length := (List.getElem?_eq_some_iff.mp hz1).1
      refine ⟨_, _, _, _, rfl, rfl, .inl (.inl hp), at_of (j := a + j) rfl (by rw [List.getElem?_map, hz1]; rfl), ?_⟩
      walk_at "ev"
      · have e0 : z = 0 := by assumption
        subst e0
        have hj3 := lz_more hj hd
        refine ⟨_, fun σ' H' h => h, ?_⟩
        walk_at "ev"
        · refine ⟨(by show 1 ≤ sizeLine; decide), sh (r := .long) ?_ _ rfl⟩
          unfold readC
          rw [if_pos (by omega)]
        · refine ⟨xs.length - (a + (j + 1)), by omega, j + 1, rfl, rfl, hj3, by omega, rfl⟩
      · have e0 : z ≠ 0 := by assumption
        have hlz := lz_stop hj hd e0
        refine ⟨(by show 1 ≤ sizeLine; decide), sh (r := .short) ?_ _ rfl⟩
        unfold readC
        rw [hlz, if_neg (by omega), if_pos (by omega)]
      · have e0 : z ≠ 0 := by assumption
        have hlz := lz_stop hj hd e0
        have hst : a + j + 1 + j ≤ xs.length := by omega
        walk_at "ev"
        refine ⟨_, _, rfl, .inl (.inl hp), fun p1 n1 => ?_⟩
        walk_at "ev"
        refine ⟨p1, (xs.drop (a + j)).take (j + 1), rfl, ?_, ?_⟩
        · rw [upd_same, cut_int (i := a + j) (k := a + j + 1 + j) rfl (by omega) (by rw [List.length_map]; omega) (by rw [List.length_map]; omega), List.map_take, List.map_drop, show a + j + 1 + j - (a + j) = j + 1 by omega]
        · walk_at "ev"
          refine ⟨(by show 3 ≤ sizeLine; decide), fun p2 n2 => q p2 _ ((same_upd n1).free n2) ((same_upd n1).trans (same_upd n2)) ?_⟩
          rw [upd_same, show readC xs a = .read (valI ((xs.drop (a + j)).take (j + 1)) - 1) (a + j + 1 + j) by
            unfold readC
            rw [hlz, if_neg (by omega), if_neg (by omega)]]
          have e9 : ((a + j : Nat) : Int) + 1 + (((a + j : Nat) : Int) - (a : Int)) = ((a + j + 1 + j : Nat) : Int) := by omega
          show some (HO.tup [_, V.int _, V.int (((a + j : Nat) : Int) + 1 + (((a + j : Nat) : Int) - (a : Int)))]) = _
          rw [e9]
          rfl
    · have hlz : lz (xs.drop a) = j := by omega
      walk_at "ev"
      refine ⟨(by show 1 ≤ sizeLine; decide), sh (r := .short) ?_ _ rfl⟩
      unfold readC
      rw [hlz, if_neg (by omega), if_pos (by omega)]
def spCheckP : Sp := fun vs H Q _ => ∃ (p : Addr) (xs : List Int) (a : Nat), vs = [.ref p, .int a] ∧ H p = some (.lst (xs.map V.int)) ∧ AreBits xs ∧ a ≤ xs.length ∧ Q .non H
theorem ok_check_place {f : Addr} {fd : FuncData} {k : Nat} (F : Fun K "check_place" "check_place" s_check_place f fd) (T : Txt mg) (c_check_bits : C8.Cal P w K mg base 2 "check_bits" spCheckB []) : FnOk P w K mg base CX0 (k + 3) f fd ["bits", "at"] spCheckP := by
  refine F.ok sc_check_place (fun vs H Q E h => ?_) (fun cdv A outer s H vs Q E hr h => ?_)
  · obtain ⟨p, xs, a, rfl, _⟩ := h
    rfl
  · obtain ⟨p, xs, a, rfl, hp, hb, ha, q⟩ := h
    have hml : (xs.map V.int).length = xs.length := List.length_map _
    refine ⟨_, (pss_cons (ps_expr (C8.pe_c c_check_bits hr (by omega) (by rfl) (pa_cons (pv 0) pa_nil)))
    (pss_one (ps_if (pt_not (pt_chain op_le op_le pe_int (pv 1) (pe_callB call_len_seq (by rfl) T.z_len PySem.boot_len (pa_cons (pv 0) pa_nil)))) (pss_one ps_never) pss_nil))), ?_⟩
    walk_at "ev"
    refine ⟨p, xs, rfl, hp, hb, ?_⟩
    walk_at "ev"
    exact q
def spSignedAt : Sp := fun vs H Q _ => ∃ (p : Addr) (xs : List Int) (a : Nat), vs = [.ref p, .int a] ∧ H p = some (.lst (xs.map V.int)) ∧ AreBits xs ∧ a ≤ xs.length ∧ xs.length ≤ 1000 ∧ ∀ (q : Addr) (H' : Hp), H q = none → Same H H' → H' q = some (.tup (rcV (sgnR (readC xs a)))) → Q (.ref q) H'
theorem ok_signed_at {f : Addr} {fd : FuncData} {k : Nat} (F : Fun K "signed_at" "signed_at" s_signed_at f fd) (c_count_at : C8.Cal P w K mg base 2 "count_at" spCountAt []) : FnOk P w K mg base CX0 (k + 3) f fd ["bits", "at"] spSignedAt := by
  refine F.ok sc_signed_at (fun vs H Q E h => ?_) (fun cdv A outer s H vs Q E hr h => ?_)
  · obtain ⟨p, xs, a, rfl, _⟩ := h
    rfl
  · obtain ⟨p, xs, a, rfl, hp, hb, ha, hl, q⟩ := h
    refine ⟨_, (pss_cons (ps_set (i := 2) sc_signed_at.nd rfl (Or.inl rfl) (C8.pe_c c_count_at hr (by omega) (by rfl) (pa_cons (pv 0) (pa_cons (pv 1) pa_nil))))
    (pss_cons (ps_if (pt_cmpR op_ne (pe_ix ix_tup (pv 2) pe_int (fun _ _ => rfl)) pe_str (nomark _)) (pss_one (ps_ret (pv 2))) pss_nil)
    (pss_cons (ps_asg (pv 2) (pg_tup rfl (pgs_cons (pg_name (i := 3) sc_signed_at.nd rfl (Or.inl rfl)) (pgs_cons (pg_name (i := 4) sc_signed_at.nd rfl (Or.inl rfl)) (pgs_cons (pg_name (i := 5) sc_signed_at.nd rfl (Or.inl rfl)) pgs_nil)))))
    (pss_cons (ps_if (pt_cmpR op_eq (pe_op op_mod (pv 4) pe_int) pe_int (nomark _)) (pss_one (ps_ret (pe_tup (pa_cons (pv 3) (pa_cons (pe_op op_fdiv (pv 4) pe_int) (pa_cons (pv 5) pa_nil)))))) pss_nil)
    (pss_one (ps_ret (pe_tup (pa_cons (pv 3) (pa_cons (pe_op op_fdiv (pe_un un_neg (pe_op op_add (pv 4) pe_int)) pe_int) (pa_cons (pv 5) pa_nil)))))))))), ?_⟩
    walk_at "ev"
    refine ⟨p, xs, a, rfl, hp, hb, ha, hl, fun t H1 n1 s1 ht => ?_⟩
    generalize readC xs a = r at *
    cases r with
    | long =>
      simp only [rcV] at ht
      walk_at "ev"
      exact q t H1 n1 s1 ht
    | short =>
      simp only [rcV] at ht
      walk_at "ev"
      exact q t H1 n1 s1 ht
    | read v s =>
      simp only [rcV] at ht
      walk_at "ev"
      · refine ⟨(by show 3 ≤ sizeLine; decide), fun p2 n2 => q p2 _ (s1.free n2) (s1.trans (same_upd n2)) ?_⟩
        rw [upd_same, sgnR, if_pos (by assumption)]
        rfl
      · refine ⟨(by show 3 ≤ sizeLine; decide), fun p2 n2 => q p2 _ (s1.free n2) (s1.trans (same_upd n2)) ?_⟩
        rw [upd_same, sgnR, if_neg (by assumption)]
        rfl
def spReadS : Sp := fun vs H Q _ => ∃ (p : Addr) (xs : List Int) (a : Nat), vs = [.ref p, .int a] ∧ H p = some (.lst (xs.map V.int)) ∧ AreBits xs ∧ a ≤ xs.length ∧ xs.length ≤ 1000 ∧ ∀ (q : Addr) (H' : Hp), H q = none → Same H H' → H' q = some (.tup (rcV (sgnR (readC xs a)))) → Q (.ref q) H'
theorem ok_read_signed {f : Addr} {fd : FuncData} {k : Nat} (F : Fun K "read_signed" "read_signed" s_read_signed f fd) (c_check_place : C8.Cal P w K mg base 3 "check_place" spCheckP []) (c_signed_at : C8.Cal P w K mg base 3 "signed_at" spSignedAt []) : FnOk P w K mg base CX0 (k + 4) f fd ["bits", "at"] spReadS := by
  refine F.ok sc_read_signed (fun vs H Q E h => ?_) (fun cdv A outer s H vs Q E hr h => ?_)
  · obtain ⟨p, xs, a, rfl, _⟩ := h
    rfl
  · obtain ⟨p, xs, a, rfl, hp, hb, ha, hl, q⟩ := h
    refine ⟨_, (pss_cons (ps_expr (C8.pe_c c_check_place hr (by omega) (by rfl) (pa_cons (pv 0) (pa_cons (pv 1) pa_nil))))
    (pss_one (ps_ret (C8.pe_c c_signed_at hr (by omega) (by rfl) (pa_cons (pv 0) (pa_cons (pv 1) pa_nil)))))), ?_⟩
    walk_at "ev"
    refine ⟨p, xs, a, rfl, hp, hb, ha, ?_⟩
    walk_at "ev"
    refine ⟨p, xs, a, rfl, hp, hb, ha, hl, ?_⟩
    exact q
/-- the count of a number -/
def cnt (n : Int) : Nat := if 0 ≤ n then (2 * n).toNat else (-2 * n - 1).toNat
def spSignedB : Sp := fun vs H Q _ => ∃ (n : Int), vs = [.int n] ∧ -1099511627775 ≤ n ∧ n ≤ 1099511627775 ∧ ∀ (p : Addr) (H' : Hp), H p = none → Same H H' → H' p = some (.lst ((code (cnt n)).map V.int)) → Q (.ref p) H'
theorem ok_signed_bits {f : Addr} {fd : FuncData} {k : Nat} (F : Fun K "signed_bits" "signed_bits" s_signed_bits f fd) (c_count_bits : C8.Cal P w K mg base 2 "count_bits" spCountBits []) : FnOk P w K mg base CX0 (k + 3) f fd ["n"] spSignedB := by
  refine F.ok sc_signed_bits (fun vs H Q E h => ?_) (fun cdv A outer s H vs Q E hr h => ?_)
  · obtain ⟨n, rfl, _⟩ := h
    rfl
  · obtain ⟨n, rfl, h0, h1, q⟩ := h
    refine ⟨_, (pss_one (ps_ret (C8.pe_c c_count_bits hr (by omega) (by rfl) (pa_cons (pe_ifExp (pt_cmpR op_ge (pv 0) pe_int (nomark _)) (pe_op op_mul pe_int (pv 0)) (pe_op op_sub (pe_op op_mul (pe_un un_neg pe_int) (pv 0)) pe_int)) pa_nil)))), ?_⟩
    walk_at "ev"
    · have e : (2 * n) = ((cnt n : Nat) : Int) := by
        unfold cnt
        split <;> omega
      refine ⟨cnt n, congrArg (fun z => [V.int z]) e, ?_, q⟩
      unfold cnt
      split <;> omega
    · have e : (-2 * n - 1) = ((cnt n : Nat) : Int) := by
        unfold cnt
        split <;> omega
      refine ⟨cnt n, congrArg (fun z => [V.int z]) e, ?_, q⟩
      unfold cnt
      split <;> omega
theorem sgn_cnt {n : Int} : (if ((cnt n : Nat) : Int) % 2 = 0 then ((cnt n : Nat) : Int) / 2 else (-(((cnt n : Nat) : Int) + 1)) / 2) = n := by
  unfold cnt
  split <;> split <;> omega
/-! ### signed_bits that refuses -/
def spGreatC (C : Addr) : Sp := fun vs H _ E => ∃ (n : Int), vs = [.int n] ∧ (n < 0 ∨ 2199023255550 < n) ∧ E (.ref C) none H
theorem no_count {f C : Addr} {fd : FuncData} {k : Nat} {t : Tok} (F : Fun K "count_bits" "count_bits" s_count_bits f fd) (hG : mg "GREATEST_COUNT" = some (.int 2199023255550 t)) (e : ECls K mg "Great" C) : FnOk P w K mg base (L2.CX P w) (k + 2) f fd ["n"] (spGreatC C) := by
  refine F.okX sc_count_bits (fun vs H Q E h => ?_) (fun cdv A outer s H vs Q E hr h => ?_)
  · obtain ⟨n, rfl, _⟩ := h
    rfl
  · obtain ⟨n, rfl, hn, x⟩ := h
    refine ⟨_, pss_cons (ps_if (pt_not (pt_chain op_le op_le pe_int (pv 0) (pe_glob (v := .int 2199023255550) (by rfl) hG ⟨_, rfl⟩)))
      (pss_one (ps_raise rfl (takes_of rfl rfl rfl rfl) (pmk_none PySem.F.excBase_ValueError e.xC e.gC e.kC (raises_own e.bC e.tC) (by rfl)))) pss_nil) pss_never, ?_⟩
    walk_at "ev"
    all_goals exact x
theorem no_signed {f C f1 : Addr} {fd fd1 : FuncData} {k : Nat} (F : Fun K "signed_bits" "signed_bits" s_signed_bits f fd) (G1 : FnOk P w K mg base (L2.CX P w) 2 f1 fd1 ["n"] (spGreatC C)) (g1 : mg "count_bits" = some (.ref f1)) (k1 : PySem.W.keepIn K (.ref f1) = true) (b1 : Binds K fd1 ["n"] []) : FnOk P w K mg base (L2.CX P w) (k + 3) f fd ["n"] (fun vs H _ E => ∃ (n : Int), vs = [.int n] ∧ (n < -1099511627775 ∨ 1099511627775 < n) ∧ E (.ref C) none H) := by
  refine F.okX sc_signed_bits (fun vs H Q E h => ?_) (fun cdv A outer s H vs Q E hr h => ?_)
  · obtain ⟨n, rfl, _⟩ := h
    rfl
  · obtain ⟨n, rfl, hn, x⟩ := h
    refine ⟨_, pss_one (ps_ret (pe_call G1 (hr.mono (by omega)) (by rfl) g1 k1 b1 .nil (passes_call (takes_of rfl rfl rfl rfl) (fun _ _ _ _ h => h)) (pa_cons (pe_ifExp (pt_cmpR op_ge (pv 0) pe_int (nomark _)) (pe_op op_mul pe_int (pv 0)) (pe_op op_sub (pe_op op_mul (pe_un un_neg pe_int) (pv 0)) pe_int)) pa_nil))), ?_⟩
    walk_at "ev"
    all_goals exact ⟨by omega, x⟩
/-! ### drawn bits -/
def spBits : Sp := fun vs H Q _ => ∃ (a : Addr) (m : Int), vs = [.ref a, .int m] ∧ Src H a ∧ 0 ≤ m ∧ m ≤ 100 ∧ ∀ (p : Addr) (xs : List Int) (H' : Hp), H p = none → (xs.length : Int) ≤ m → AreBits xs → H' p = some (.lst (xs.map V.int)) → Src H' a → Up a H H' → Q (.ref p) H'
theorem ok_bits {f : Addr} {fd : FuncData} {k : Nat} (F : Fun K "_law_bits" "_law_bits" s_law_bits f fd) (T : Txt mg) (c_law_take : C8.Cal P w K mg base 1 "_law_take" spTake []) : FnOk P w K mg base CX0 (k + 2) f fd ["_law_source", "_law_most"] spBits := by
  refine F.ok sc_law_bits (fun vs H Q E h => ?_) (fun cdv A outer s H vs Q E hr h => ?_)
  · obtain ⟨a, m, rfl, _⟩ := h
    rfl
  · obtain ⟨a, m, rfl, ha, hm, hm2, q⟩ := h
    refine ⟨_, (pss_one (ps_ret (pe_lc (own := [("_law_turn", 2)]) (g := gName 2) (tt := tYes) rfl sc_law_bits.nd (pi_range1 (by rfl) T.z_range (pa_cons (C8.pe_c c_law_take hr (by omega) (by rfl) (pa_cons (pv 0) (pa_cons (pe_op op_add (pv 1) pe_int) pa_nil))) pa_nil)) (blkOk_by (N := ["_law_source", "_law_most", "_law_turn"]) (sc := defScope s_law_bits) (by decide +kernel)) (fun _ _ _ _ _ => pg_name (i := 2) sc_law_bits.nd rfl (Or.inl rfl)) (fun _ _ _ _ _ => pts_nil) (fun _ _ _ _ _ => (C8.pe_c c_law_take hr (by omega) (by rfl) (pa_cons (pv 0) (pa_cons pe_int pa_nil))))))), ?_⟩
    walk_at "ev"
    refine ⟨ha, (by omega), (by omega), fun r H1 h0 h1 s1 u1 => ?_⟩
    walk_at "ev"
    refine ⟨by omega, by omega, fun D nD => ?_⟩
    have nDa : a ≠ D := s1.ne nD
    refine lc_it walk_range (fun t H2 => ∃ xs : List Int, xs.length = t ∧ AreBits xs ∧ H2 D = some (.lst (xs.map V.int)) ∧ Src H2 a ∧ Up a H1 H2) ⟨[], rfl, fun _ m => absurd m (List.not_mem_nil), upd_same, src_same (same_upd nD) s1, up_same (same_upd nD)⟩ (fun _ _ _ _ => trivial) ?_ ?_
    · rintro t x H2 H3 ht ⟨xs, hl, hb, e2, s2, u2⟩ ⟨rfl, rfl⟩
      walk_at "ev"
      refine ⟨s2, (by decide), (by decide), fun r2 H4 g0 g1 s4 u4 => ?_⟩
      walk_at "ev"
      refine ⟨_, (u4 D nDa.symm).trans e2, ?_, xs ++ [r2], ?_, ?_, ?_, ?_, ?_⟩
      · rw [List.length_map]
        exact small1000 (by omega)
      · rw [List.length_append, hl]
        rfl
      · exact hb.app fun z m => by
          rw [List.mem_singleton.mp m]
          omega
      · rw [upd_same, List.map_append]
        rfl
      · exact src_keep nDa s4
      · exact fun b o nb e => by
          rw [upd_ne (ne_of_none e nD)]
          exact (u4 b nb).trans (u2 b o nb e)
    · rintro H2 ⟨xs, hl, hb, e2, s2, u2⟩
      exact q D xs H2 (u1.up.new s1 nD) (by omega) hb e2 s2 (u1.up.trans u2)
def spDigits : Sp := fun vs H Q _ => ∃ (n : Nat), vs = [.int n] ∧ n < 2 ^ 900 ∧ ∀ (p : Addr) (H' : Hp), H p = none → Same H H' → H' p = some (.lst ((digs n).map V.int)) → Q (.ref p) H'
theorem ok_digits {f : Addr} {fd : FuncData} {k : Nat} (F : Fun K "_law_digits" "_law_digits" s_law_digits f fd) : FnOk P w K mg base CX0 (k + 1) f fd ["_law_number_here"] spDigits := by
  refine F.ok sc_law_digits (fun vs H Q E h => ?_) (fun cdv A outer s H vs Q E hr h => ?_)
  · obtain ⟨n, rfl, _⟩ := h
    rfl
  · obtain ⟨n, rfl, hn, q⟩ := h
    have hbn : bl n ≤ 900 := bl_le hn
    refine ⟨_, (pss_cons (ps_par (i := 1) (j := 2) rfl sc_law_digits.nd rfl rfl (by decide) rfl rfl (pa_cons (pv 0) (pa_cons (pe_lst pa_nil) pa_nil)) rfl)
    (pss_cons (ps_while PassesOwn.never (pt_cmpR op_gt (pv 1) pe_int (nomark _))
      (pss_cons (ps_set (i := 2) sc_law_digits.nd rfl (Or.inl rfl) (pe_op op_cat (pe_lst (pa_cons (pe_op op_mod (pv 1) pe_int) pa_nil)) (pv 2)))
    (pss_one (ps_set (i := 1) sc_law_digits.nd rfl (Or.inl rfl) (pe_op op_fdiv (pv 1) pe_int)))))
    (pss_one (ps_ret (pv 2))))), ?_⟩
    walk_at "ev"
    refine ⟨(by show 0 ≤ sizeLine; decide), fun p0 n0 => ?_⟩
    walk_at "ev"
    refine ⟨fun m σ H1 => ∃ (r : Nat) (f : Addr) (ds : List Int), σ = [some (.int n), some (.int r), some (.ref f)] ∧ H f = none ∧ Same H H1 ∧ H1 f = some (.lst (ds.map V.int)) ∧ digs n = digs r ++ ds ∧ m = r, ⟨_, n, p0, [], rfl, n0, same_upd n0, upd_same, by rw [List.append_nil], rfl⟩, ?_⟩
    rintro m σ H1 ⟨r, g, ds, rfl, ng, s1, e1, ed, rfl⟩
    have hl : ds.length ≤ 900 := by
      have := congrArg List.length ed
      rw [digs_len, List.length_append] at this
      omega
    walk_at "ev"
    · refine ⟨_, fun σ' H' h => h, ?_⟩
      walk_at "ev"
      refine ⟨(by show 1 ≤ sizeLine; decide), fun p1 n1 => ?_⟩
      have hr0 : 0 < m := by omega
      walk_at "ev"
      refine ⟨p1, g, _, _, rfl, rfl, upd_same, new_at e1 n1, ?_, fun p2 n2 => ?_⟩
      · rw [List.length_map]
        exact Nat.le_of_lt (small1000 (by show 1 + _ ≤ _; omega))
      walk_at "ev"
      refine ⟨m / 2, by omega, m / 2, p2, ((m % 2 : Nat) : Int) :: ds, rfl, (s1.trans (same_upd n1)).free n2, s1.trans ((same_upd n1).trans (same_upd n2)), upd_same, ?_, rfl⟩
      rw [ed, digs_step hr0, List.append_assoc]
      rfl
    · refine q g H1 ng s1 ?_
      have e0 : m = 0 := by omega
      rw [e1, ed, e0, digs_zero, List.nil_append]
/-! ### whether bits are told -/
def spAreBits : Sp := fun vs H Q _ => ∃ (p : Addr) (xs : List Int), vs = [.ref p] ∧ H p = some (.lst (xs.map V.int)) ∧ AreBits xs ∧ ∀ H', Same H H' → Q (.bl true) H'
theorem ok_are_bits {f : Addr} {fd : FuncData} {k : Nat} (F : Fun K "_law_are_bits" "_law_are_bits" s_law_are_bits f fd) (T : Txt mg) : FnOk P w K mg base CX0 (k + 1) f fd ["_law_told"] spAreBits := by
  refine F.ok sc_law_are_bits (fun vs H Q E h => ?_) (fun cdv A outer s H vs Q E hr h => ?_)
  · obtain ⟨p, xs, rfl, _⟩ := h
    rfl
  · obtain ⟨p, xs, rfl, hp, hb, q⟩ := h
    have hu := hr.units
    refine ⟨_, (pss_one (ps_ret (pe_and (pe_callB call_isi (by rfl) T.z_isinstance PyProof.Rows.boot_isinstance (pa_cons (pv 0) (pa_cons (pe_bltn (v := .ty "list") (by rfl) T.z_list PyProof.Rows.boot_list rfl) pa_nil))) (pe_one (pe_cmpR (op_eqD hu) (pe_lc (own := [("_law_one_here", 1)]) (g := gName 1) (tt := _) rfl sc_law_are_bits.nd (pi_list (pv 0)) (blkOk_by (N := ["_law_told", "_law_one_here"]) (sc := defScope s_law_are_bits) (by decide +kernel)) (fun _ _ _ _ _ => pg_name (i := 1) sc_law_are_bits.nd rfl (Or.inl rfl)) (fun _ _ _ _ _ => (pts_one (PW.pt (pw_or (pt_val (pe_callB (call_isi : CallR _ (.builtin "isinstance") (rIsi K)) (by rfl) T.z_isinstance PyProof.Rows.boot_isinstance (pa_cons (pv 1) (pa_cons (pe_bltn (v := .ty "bool") (by rfl) T.z_bool PyProof.Rows.boot_bool rfl) pa_nil)))) (pw_or1 (pt_cmpR (op_notIn_seq : OpR _ (compareOp .NotIn) (rIn K true)) (pv 1) (pe_tup (pa_cons pe_int (pa_cons pe_int pa_nil))) (by rfl))))))) (fun _ _ _ _ _ => (pv 1))) (pe_lst pa_nil) (nomark _)))))), ?_⟩
    walk_at "ev"
    refine ⟨⟨_, .inl (.inl hp)⟩, fun D nD => ?_⟩
    refine lc_it (walk_list (xs := xs.map V.int)) (fun _ H2 => Same H H2 ∧ H2 D = some (.lst [])) ⟨same_upd nD, upd_same⟩ (fun _ _ _ h => .inl (.inl (h.1 _ _ hp))) ?_ ?_
    · rintro t x H2 H3 ht ⟨s2, e2⟩ y
      obtain ⟨rfl, hx⟩ := y
      rw [List.getElem?_map] at hx
      obtain ⟨z, hz, rfl⟩ := Option.map_eq_some_iff.mp hx
      have hz2 := hb z (List.mem_of_getElem? hz)
      rcases (by omega : z = 0 ∨ z = 1) with rfl | rfl
      all_goals
        walk_at "ev"
        refine ⟨(by show 2 ≤ sizeLine; decide), fun t2 nt2 => ?_⟩
        refine ⟨t2, _, rfl, .inr (.inl (.inl upd_same)), rfl, rfl, ?_⟩
        refine ⟨_, rfl, ?_⟩
        exact iteF ⟨s2.trans (same_upd nt2), new_at e2 nt2⟩
    · rintro H2 ⟨s2, e2⟩
      walk_at "ev"
      refine ⟨(by show 0 ≤ sizeLine; decide), fun t2 nt2 => q_eqI (ns := []) (new_at e2 nt2) upd_same ?_⟩
      walk_at "ev"
      exact q _ (s2.trans (same_upd nt2))
/-! ### counts -/
def spCount : Sp := fun vs H Q _ => ∃ (a : Addr), vs = [.ref a] ∧ Src H a ∧ ∀ (c : Int) (H' : Hp), 0 ≤ c → c ≤ 2199023255550 → Src H' a → But a H H' → Q (.int c) H'
theorem ok_count {f : Addr} {fd : FuncData} {k : Nat} (F : Fun K "_law_count" "_law_count" s_law_count f fd) (T : Txt mg) (c_law_take : C8.Cal P w K mg base 1 "_law_take" spTake []) : FnOk P w K mg base CX0 (k + 2) f fd ["_law_source"] spCount := by
  refine F.ok sc_law_count (fun vs H Q E h => ?_) (fun cdv A outer s H vs Q E hr h => ?_)
  · obtain ⟨a, rfl, _⟩ := h
    rfl
  · obtain ⟨a, rfl, ha, q⟩ := h
    refine ⟨_, (pss_cons (ps_par (i := 1) (j := 2) rfl sc_law_count.nd rfl rfl (by decide) rfl rfl (pa_cons (C8.pe_c c_law_take hr (by omega) (by rfl) (pa_cons (pv 0) (pa_cons pe_int pa_nil))) (pa_cons (pe_op op_sub (pe_op (op_powc (a := 2) (b := 41) (c := 2199023255552) ⟨by decide, by decide, by decide⟩ (by decide +kernel)) pe_int pe_int) pe_int) pa_nil)) rfl)
    (pss_cons (ps_if (pt_cmpR op_eq (pv 1) pe_int (nomark _)) (pss_one (ps_ret (C8.pe_c c_law_take hr (by omega) (by rfl) (pa_cons (pv 0) (pa_cons pe_int pa_nil))))) pss_nil)
    (pss_cons (ps_if (pt_cmpR op_eq (pv 1) pe_int (nomark _)) (pss_one (ps_ret (pe_callB (call_max2 rfl) (by rfl) T.z_max PyProof.Rows.boot_max (pa_cons pe_int (pa_cons (pe_callB (call_min2 rfl) (by rfl) T.z_min PyProof.Rows.boot_min (pa_cons (pv 2) (pa_cons (pe_op op_add (pe_op op_sub (pe_op op_shl pe_int (C8.pe_c c_law_take hr (by omega) (by rfl) (pa_cons (pv 0) (pa_cons pe_int pa_nil)))) pe_int) (C8.pe_c c_law_take hr (by omega) (by rfl) (pa_cons (pv 0) (pa_cons pe_int pa_nil)))) pa_nil))) pa_nil))))) pss_nil)
    (pss_cons (ps_if (pt_cmpR op_eq (pv 1) pe_int (nomark _)) (pss_one (ps_ret (pe_op op_sub (pv 2) (C8.pe_c c_law_take hr (by omega) (by rfl) (pa_cons (pv 0) (pa_cons pe_int pa_nil)))))) pss_nil)
    (pss_one (ps_ret (pe_callB (call_min2 rfl) (by rfl) T.z_min PyProof.Rows.boot_min (pa_cons (pv 2) (pa_cons (pe_op op_add (pe_op op_mul (C8.pe_c c_law_take hr (by omega) (by rfl) (pa_cons (pv 0) (pa_cons (pe_op (op_powc (a := 2) (b := 21) (c := 2097152) ⟨by decide, by decide, by decide⟩ (by decide +kernel)) pe_int pe_int) pa_nil))) (pe_op (op_powc (a := 2) (b := 20) (c := 1048576) ⟨by decide, by decide, by decide⟩ (by decide +kernel)) pe_int pe_int)) (C8.pe_c c_law_take hr (by omega) (by rfl) (pa_cons (pv 0) (pa_cons (pe_op (op_powc (a := 2) (b := 20) (c := 1048576) ⟨by decide, by decide, by decide⟩ (by decide +kernel)) pe_int pe_int) pa_nil)))) pa_nil))))))))), ?_⟩
    walk_at "ev"
    refine ⟨ha, (by decide), (by decide), fun r H1 h0 h1 s1 u1 => ?_⟩
    walk_at "ev"
    · refine ⟨s1, (by decide), (by decide), fun r2 H2 g0 g1 s2 u2 => ?_⟩
      exact q _ _ g0 (by omega) s2 (u1.trans u2)
    · refine ⟨s1, (by decide), (by decide), fun r2 H2 g0 g1 s2 u2 => ?_⟩
      walk_at "ev"
      refine ⟨s2, (by decide), (by decide), fun r3 H3 k0 k1 s3 u3 => ?_⟩
      walk_at "ev"
      refine q _ _ ?_ ?_ s3 ((u1.trans u2).trans u3) <;> (split <;> split <;> omega)
    · refine ⟨s1, (by decide), (by decide), fun r2 H2 g0 g1 s2 u2 => ?_⟩
      walk_at "ev"
      exact q _ _ (by omega) (by omega) s2 (u1.trans u2)
    · refine ⟨s1, (by decide), (by decide), fun r2 H2 g0 g1 s2 u2 => ?_⟩
      walk_at "ev"
      refine ⟨s2, (by decide), (by decide), fun r3 H3 k0 k1 s3 u3 => ?_⟩
      walk_at "ev"
      refine q _ _ ?_ ?_ s3 ((u1.trans u2).trans u3) <;> (split <;> omega)
def spCode : Sp := fun vs H Q _ => ∃ (c : Nat), vs = [.int c] ∧ c + 1 < 2 ^ 400 ∧ ∀ (p : Addr) (H' : Hp), H p = none → Same H H' → H' p = some (.lst ((code c).map V.int)) → Q (.ref p) H'
theorem ok_code {f : Addr} {fd : FuncData} {k : Nat} (F : Fun K "_law_code" "_law_code" s_law_code f fd) (T : Txt mg) (c_law_digits : C8.Cal P w K mg base 1 "_law_digits" spDigits []) : FnOk P w K mg base CX0 (k + 2) f fd ["_law_count_here"] spCode := by
  refine F.ok sc_law_code (fun vs H Q E h => ?_) (fun cdv A outer s H vs Q E hr h => ?_)
  · obtain ⟨c, rfl, _⟩ := h
    rfl
  · obtain ⟨c, rfl, hc, q⟩ := h
    have hb : bl (c + 1) ≤ 400 := bl_le hc
    have hb1 := bl_half (n := c + 1) (by omega)
    have hdl : ((digs (c + 1)).map V.int).length = bl (c + 1) := by rw [List.length_map, digs_len]
    refine ⟨_, (pss_cons (ps_set (i := 1) sc_law_code.nd rfl (Or.inl rfl) (C8.pe_c c_law_digits hr (by omega) (by rfl) (pa_cons (pe_op op_add (pv 0) pe_int) pa_nil)))
    (pss_one (ps_ret (pe_op op_cat (pe_op op_rep (pe_lst (pa_cons pe_int pa_nil)) (pe_op op_sub (pe_callB call_len_seq (by rfl) T.z_len PySem.boot_len (pa_cons (pv 1) pa_nil)) pe_int)) (pv 1))))), ?_⟩
    walk_at "ev"
    refine ⟨Nat.lt_of_lt_of_le hc (Nat.pow_le_pow_right (by decide) (by decide)), fun p0 H0 n0 s0 e0 => ?_⟩
    replace e0 : H0 p0 = some (.lst ((digs (c + 1)).map V.int)) := e0
    walk_at "ev"
    refine ⟨(by show 1 ≤ sizeLine; decide), fun p1 n1 => ?_⟩
    have e1 := new_at (o' := .lst [V.int 0]) e0 n1
    walk_at "ev"
    refine ⟨p1, _, _, rfl, rfl, upd_same, by omega, by omega, ?_, fun p2 n2 => ?_⟩
    · show 1 * _ ≤ sizeLine
      exact Nat.le_of_lt (small1000 (by omega))
    walk_at "ev"
    refine ⟨p2, p0, _, _, rfl, rfl, upd_same, new_at e1 n2, ?_, fun p3 n3 => ?_⟩
    · simp only [flat_zeros, List.length_map, List.length_replicate, digs_len]
      exact Nat.le_of_lt (small1000 (by omega))
    · refine q p3 _ ((s0.trans ((same_upd n1).trans (same_upd n2))).free n3) (s0.trans ((same_upd n1).trans ((same_upd n2).trans (same_upd n3)))) ?_
      rw [upd_same, flat_zeros, ← List.map_append, hdl, show ((bl (c + 1) : Int) - 1).toNat = bl (c + 1) - 1 by omega]
      rfl
/-! ### numbers and those that are too great -/
def spNum : Sp := fun vs H Q _ => ∃ (a : Addr), vs = [.ref a] ∧ Src H a ∧ ∀ (n : Int) (H' : Hp), -1099511627775 ≤ n → n ≤ 1099511627775 → Src H' a → Up a H H' → Q (.int n) H'
theorem ok_number {f : Addr} {fd : FuncData} {k : Nat} (F : Fun K "_law_number" "_law_number" s_law_number f fd) (T : Txt mg) (c_law_take : C8.Cal P w K mg base 1 "_law_take" spTake []) (c_law_one : C8.Cal P w K mg base 2 "_law_one" spOne []) (c_law_count : C8.Cal P w K mg base 2 "_law_count" spCount []) : FnOk P w K mg base CX0 (k + 3) f fd ["_law_source"] spNum := by
  refine F.ok sc_law_number (fun vs H Q E h => ?_) (fun cdv A outer s H vs Q E hr h => ?_)
  · obtain ⟨a, rfl, _⟩ := h
    rfl
  · obtain ⟨a, rfl, ha, q⟩ := h
    refine ⟨_, (pss_cons (ps_set (i := 1) sc_law_number.nd rfl (Or.inl rfl) (pe_op op_sub (pe_op (op_powc (a := 2) (b := 40) (c := 1099511627776) ⟨by decide, by decide, by decide⟩ (by decide +kernel)) pe_int pe_int) pe_int))
    (pss_cons (ps_set (i := 2) sc_law_number.nd rfl (Or.inl rfl) (pe_callB (call_min2 rfl) (by rfl) T.z_min PyProof.Rows.boot_min (pa_cons (pv 1) (pa_cons (C8.pe_c c_law_one hr (by omega) (by rfl) (pa_cons (pv 0) (pa_cons (pe_lst (pa_cons (C8.pe_c c_law_count hr (by omega) (by rfl) (pa_cons (pv 0) pa_nil)) (pa_cons (pe_op op_fdiv (C8.pe_c c_law_count hr (by omega) (by rfl) (pa_cons (pv 0) pa_nil)) pe_int) pa_nil))) pa_nil))) pa_nil))))
    (pss_one (ps_ret (pe_ifExp (pt_cmpR op_eq (C8.pe_c c_law_take hr (by omega) (by rfl) (pa_cons (pv 0) (pa_cons pe_int pa_nil))) pe_int (nomark _)) (pv 2) (pe_op op_sub pe_int (pv 2))))))), ?_⟩
    walk_at "ev"
    refine ⟨ha, fun c1 H1 h0 h1 s1 u1 => ?_⟩
    walk_at "ev"
    refine ⟨s1, fun c2 H2 g0 g1 s2 u2 => ?_⟩
    walk_at "ev"
    refine ⟨(by show 2 ≤ sizeLine; decide), fun t nt => ?_⟩
    refine ⟨_, _, _, rfl, src_same (same_upd nt) s2, (s2.ne nt).symm, upd_same, (by simp), (by show 2 ≤ 1000; decide), fun v H3 hv s3 u3 => ?_⟩
    obtain ⟨z, rfl, z0, z1⟩ : ∃ z, v = V.int z ∧ 0 ≤ z ∧ z ≤ 2199023255550 := by
      simp only [List.mem_cons, List.not_mem_nil, or_false] at hv
      rcases hv with e | e
      · exact ⟨_, e, by omega, by omega⟩
      · exact ⟨_, e, by show 0 ≤ c2 / 2; omega, by show c2 / 2 ≤ _; omega⟩
    have u3b := (u1.up.trans u2.up).trans ((up_same (same_upd nt)).trans u3.up)
    walk_at "ev"
    refine ⟨s3, (by decide), (by decide), fun r H4 k0 k1 s4 u4 => ?_⟩
    walk_at "ev"
    · refine q _ _ ?_ ?_ s4 (u3b.trans u4.up) <;> (split <;> omega)
    · refine q _ _ ?_ ?_ s4 (u3b.trans u4.up) <;> (show _ ≤ _; split <;> omega)
def spIsGreat : Sp := fun vs H Q _ => ∃ (n : Int), vs = [.int n] ∧ (n < -1099511627775 ∨ 1099511627775 < n) ∧ Q (.bl true) H
theorem ok_is_great {f C N O fS : Addr} {fd fdS : FuncData} {k : Nat} (F : Fun K "_law_is_great" "_law_is_great" s_law_is_great f fd) (T : Txt mg) (e : ECls K mg "Great" C) (gN : mg "NarrowError" = some (.ref N)) (gO : mg "Outside" = some (.ref O)) (rN : PySem.W.kitOne K (.ref C) (.ref N) = some true) (rO : PySem.W.kitOne K (.ref C) (.ref O) = some false)
    (GS : FnOk P w K mg base (L2.CX P w) 3 fS fdS ["n"] (fun vs H _ E => ∃ (n : Int), vs = [.int n] ∧ (n < -1099511627775 ∨ 1099511627775 < n) ∧ E (.ref C) none H)) (gS : mg "signed_bits" = some (.ref fS)) (kS : PySem.W.keepIn K (.ref fS) = true) (bS : Binds K fdS ["n"] []) : FnOk P w K mg base CX0 (k + 4) f fd ["_law_number_here"] spIsGreat := by
  refine F.ok sc_law_is_great (fun vs H Q E h => ?_) (fun cdv A outer s H vs Q E hr h => ?_)
  · obtain ⟨n, rfl, _⟩ := h
    rfl
  · obtain ⟨n, rfl, hn, q⟩ := h
    refine ⟨_, pss_cons (ps_set (i := 1) sc_law_is_great.nd rfl (Or.inl rfl) pe_bl) (pss_cons
      (ps_try_as (i := 2) rfl rfl sc_law_is_great.nd rfl rfl ⟨rfl, by decide, .inl e.gC⟩ takes0
        (fun W pn xe tk _ => pss_one (ps_expr (pe_callS GS (hr.mono (by omega)) (by rfl) gS kS bS (fun σ => passAt tk σ) (pa_cons (pv 0) pa_nil))))
        (fun a oe cls d pn hz hf => pss_one (ps_set (i := 1) sc_law_is_great.nd rfl (Or.inl rfl) (pe_and (pe_callB (call_isE1 e.ex hz hf) (by rfl) T.z_isinstance PyProof.Rows.boot_isinstance (pa_cons (pv 2) (pa_cons (pe_glob (v := .ref N) (by rfl) gN rfl) pa_nil)))
          (pe_one (pe_not (pe_callB (call_isE1 e.ex hz hf) (by rfl) T.z_isinstance PyProof.Rows.boot_isinstance (pa_cons (pv 2) (pa_cons (pe_glob (v := .ref O) (by rfl) gO rfl) pa_nil)))))))))
      (pss_one (ps_ret (pv 1)))), ?_⟩
    walk_at "ev"
    refine ⟨hn, true, e.em, fun _ a0 _ => ?_, fun z => nomatch z⟩
    walk_at "ev"
    refine ⟨_, .ref N, true, rfl, fun _ z => z, rN, ?_⟩
    walk_at "ev"
    refine ⟨_, .ref O, false, rfl, fun _ z => z, rO, ?_⟩
    walk_at "ev"
    exact q
/-! ### the law -/
theorem cnt_lt {n : Int} (h0 : -1099511627775 ≤ n) (h1 : n ≤ 1099511627775) : cnt n + 1 < 2199023255552 := by
  unfold cnt
  split <;> omega
theorem read_cnt {A B : List Int} {n : Int} (h0 : -1099511627775 ≤ n) (h1 : n ≤ 1099511627775) : sgnR (readC (A ++ code (cnt n) ++ B) A.length) = .read n (A.length + (code (cnt n)).length) := by
  rw [read_code (cnt_lt h0 h1), sgnR, sgn_cnt]
theorem cnt_cut {A : List Int} {n : Int} {t : Nat} (h0 : -1099511627775 ≤ n) (h1 : n ≤ 1099511627775) (ht : t < (code (cnt n)).length) : sgnR (readC (A ++ (code (cnt n)).take t) A.length) = .short := by
  rw [read_cut (cnt_lt h0 h1) ht, sgnR]
  intro v s z
  cases z
theorem code_le {n : Int} (h0 : -1099511627775 ≤ n) (h1 : n ≤ 1099511627775) : (code (cnt n)).length ≤ 81 := by
  have := bl_le (n := cnt n + 1) (k := 41) (cnt_lt h0 h1)
  rw [code_len]
  omega
def spLaw (K : PySem.W.Frag) : Sp := fun vs H Q _ => ∃ (a : Addr) (ns : List Int), vs = [.ref a] ∧ SqL K H a (ns.map V.int) ∧ ns.length ≤ 63 ∧ ∀ H', Q (.bl true) H'
theorem ok_law {f : Addr} {fd : FuncData} {k : Nat} (F : Fun K "law" "law" s_law f fd) (T : Txt mg) (c_law_pool : C8.Cal P w K mg base 1 "_law_pool" (spPool K) []) (c_law_take : C8.Cal P w K mg base 1 "_law_take" spTake []) (c_law_number : C8.Cal P w K mg base 3 "_law_number" spNum []) (c_law_bits : C8.Cal P w K mg base 2 "_law_bits" spBits [])
    (c_law_code : C8.Cal P w K mg base 2 "_law_code" spCode []) (c_signed_bits : C8.Cal P w K mg base 3 "signed_bits" spSignedB []) (ck_signed_bits : CalK P w K mg base 3 "signed_bits" ["n"] spSignedB) (c_law_are_bits : C8.Cal P w K mg base 1 "_law_are_bits" spAreBits [])
    (c_read_signed : C8.Cal P w K mg base 4 "read_signed" spReadS []) (ck_read_signed : CalK P w K mg base 4 "read_signed" ["bits", "at"] spReadS) (c_law_is_great : C8.Cal P w K mg base 4 "_law_is_great" spIsGreat []) : FnOk P w K mg base CX0 (k + 5) f fd ["_law_script"] (spLaw K) := by
  refine F.ok sc_law (fun vs H Q E h => ?_) (fun cdv A outer s H vs Q E hr h => ?_)
  · obtain ⟨a, ns, rfl, _⟩ := h
    rfl
  · obtain ⟨a, ns, rfl, hS, hl, q⟩ := h
    have hu := hr.units
    refine ⟨_, (pss_cons (ps_for PassesOwn.never rfl (pi_range1 (by rfl) T.z_range (pa_cons (pe_callB (call_max2 rfl) (by rfl) T.z_max PyProof.Rows.boot_max (pa_cons pe_int (pa_cons (pe_callB (call_min2 rfl) (by rfl) T.z_min PyProof.Rows.boot_min (pa_cons (pe_callB call_len_seq (by rfl) T.z_len PySem.boot_len (pa_cons (pv 0) pa_nil)) (pa_cons pe_int pa_nil))) pa_nil))) pa_nil)) (pg_name (i := 1) sc_law.nd rfl (Or.inl rfl))
      (pss_cons (ps_set (i := 2) sc_law.nd rfl (Or.inl rfl) (C8.pe_c c_law_pool hr (by omega) (by rfl) (pa_cons (pv 0) (pa_cons (pv 1) pa_nil))))
    (pss_cons (ps_par3 (i := 3) (j := 4) (l := 5) rfl sc_law.nd rfl rfl rfl (by decide) (by decide) (by decide) rfl rfl rfl (pa_cons (C8.pe_c c_law_number hr (by omega) (by rfl) (pa_cons (pv 2) pa_nil)) (pa_cons (C8.pe_c c_law_bits hr (by omega) (by rfl) (pa_cons (pv 2) (pa_cons pe_int pa_nil))) (pa_cons (C8.pe_c c_law_bits hr (by omega) (by rfl) (pa_cons (pv 2) (pa_cons pe_int pa_nil))) pa_nil))) rfl)
    (pss_cons (ps_set (i := 6) sc_law.nd rfl (Or.inl rfl) (C8.pe_c c_law_code hr (by omega) (by rfl) (pa_cons (pe_ifExp (pt_cmpR op_ge (pv 3) pe_int (nomark _)) (pe_op op_mul pe_int (pv 3)) (pe_op op_sub (pe_un un_neg pe_int) (pe_op op_mul pe_int (pv 3)))) pa_nil)))
    (pss_cons (ps_set (i := 7) sc_law.nd rfl (Or.inl rfl) (pe_ck ck_signed_bits hr (by omega) (by rfl) (pk_cons (pv 3) pk_nil)))
    (pss_cons (ps_if (PW.pt (pw_or (pt_cmpR (op_neD hu) (pv 7) (pv 6) (nomark _)) (pw_or1 (pt_not (pt_val (C8.pe_c c_law_are_bits hr (by omega) (by rfl) (pa_cons (pv 7) pa_nil))))))) (pss_one (ps_ret pe_bl)) pss_nil)
    (pss_cons (ps_par (i := 8) (j := 9) rfl sc_law.nd rfl rfl (by decide) rfl rfl (pa_cons (pe_op op_cat (pe_op op_cat (pv 4) (pv 6)) (pv 5)) (pa_cons (pe_op op_add (pe_callB call_len_seq (by rfl) T.z_len PySem.boot_len (pa_cons (pv 4) pa_nil)) (pe_callB call_len_seq (by rfl) T.z_len PySem.boot_len (pa_cons (pv 6) pa_nil))) pa_nil)) rfl)
    (pss_cons (ps_if (PW.pt (pw_or (pt_cmpR (op_neD hu) (C8.pe_c c_read_signed hr (by omega) (by rfl) (pa_cons (pv 8) (pa_cons (pe_callB call_len_seq (by rfl) T.z_len PySem.boot_len (pa_cons (pv 4) pa_nil)) pa_nil))) (pe_tup (pa_cons pe_str (pa_cons (pv 3) (pa_cons (pv 9) pa_nil)))) (nomark _)) (pw_or1 (pt_cmpR (op_neD hu) (pv 8) (pe_op op_cat (pe_op op_cat (pv 4) (pv 6)) (pv 5)) (nomark _))))) (pss_one (ps_ret pe_bl)) pss_nil)
    (pss_cons (ps_for PassesOwn.never rfl (pi_range1 (by rfl) T.z_range (pa_cons (pe_callB call_len_seq (by rfl) T.z_len PySem.boot_len (pa_cons (pv 6) pa_nil)) pa_nil)) (pg_name (i := 10) sc_law.nd rfl (Or.inl rfl))
      (pss_one (ps_if (pt_cmpR (op_neD hu) (pe_ck ck_read_signed hr (by omega) (by rfl) (pk_cons (pe_op op_cat (pv 4) (pe_slice sl_list (pv 6) po_none (po_some (pv 10)))) (pk_cons (pe_callB call_len_seq (by rfl) T.z_len PySem.boot_len (pa_cons (pv 4) pa_nil)) pk_nil))) (pe_tup (pa_cons pe_str pa_nil)) (nomark _)) (pss_one (ps_ret pe_bl)) pss_nil)))
    (pss_cons (ps_set (i := 11) sc_law.nd rfl (Or.inl rfl) (pe_op op_add (pe_op (op_powc (a := 2) (b := 40) (c := 1099511627776) ⟨by decide, by decide, by decide⟩ (by decide +kernel)) pe_int pe_int) (C8.pe_c c_law_take hr (by omega) (by rfl) (pa_cons (pv 2) (pa_cons pe_int pa_nil)))))
    (pss_one (ps_if (PW.pt (pw_or (pt_not (pt_val (C8.pe_c c_law_is_great hr (by omega) (by rfl) (pa_cons (pv 11) pa_nil)))) (pw_or1 (pt_not (pt_val (C8.pe_c c_law_is_great hr (by omega) (by rfl) (pa_cons (pe_op op_sub pe_int (pv 11)) pa_nil))))))) (pss_one (ps_ret pe_bl)) pss_nil))))))))))))
    (pss_cons (ps_set (i := 12) sc_law.nd rfl (Or.inl rfl) (pe_lst (pa_cons (C8.pe_c c_signed_bits hr (by omega) (by rfl) (pa_cons (pe_op op_sub (pe_op (op_powc (a := 2) (b := 40) (c := 1099511627776) ⟨by decide, by decide, by decide⟩ (by decide +kernel)) pe_int pe_int) pe_int) pa_nil)) (pa_cons (C8.pe_c c_signed_bits hr (by omega) (by rfl) (pa_cons (pe_op op_sub pe_int (pe_op (op_powc (a := 2) (b := 40) (c := 1099511627776) ⟨by decide, by decide, by decide⟩ (by decide +kernel)) pe_int pe_int)) pa_nil)) (pa_cons (C8.pe_c c_signed_bits hr (by omega) (by rfl) (pa_cons pe_int pa_nil)) (pa_cons (C8.pe_c c_signed_bits hr (by omega) (by rfl) (pa_cons (pe_un un_neg pe_int) pa_nil)) (pa_cons (C8.pe_c c_signed_bits hr (by omega) (by rfl) (pa_cons pe_int pa_nil)) pa_nil)))))))
    (pss_one (ps_ret (pe_cmpR (op_eqD hu) (pv 12) (pe_lst (pa_cons (C8.pe_c c_law_code hr (by omega) (by rfl) (pa_cons (pe_op op_sub (pe_op (op_powc (a := 2) (b := 41) (c := 2199023255552) ⟨by decide, by decide, by decide⟩ (by decide +kernel)) pe_int pe_int) pe_int) pa_nil)) (pa_cons (C8.pe_c c_law_code hr (by omega) (by rfl) (pa_cons (pe_op op_sub (pe_op (op_powc (a := 2) (b := 41) (c := 2199023255552) ⟨by decide, by decide, by decide⟩ (by decide +kernel)) pe_int pe_int) pe_int) pa_nil)) (pa_cons (pe_lst (pa_cons pe_int pa_nil)) (pa_cons (pe_lst (pa_cons pe_int (pa_cons pe_int (pa_cons pe_int pa_nil)))) (pa_cons (pe_lst (pa_cons pe_int (pa_cons pe_int (pa_cons pe_int pa_nil)))) pa_nil)))))) (nomark _)))))), ?_⟩
    refine ⟨_, rfl, a, _, rfl, .inl hS, ?_⟩
    walk_at "ev"
    refine ⟨(by split <;> split <;> omega), (by split <;> split <;> omega), ?_⟩
    refine for_range (fun i σ H1 => ∃ v1 v2 v3 v4 v5 v6 v7 v8 v9 v10 v11 v12, σ = [some (.ref a), v1, v2, v3, v4, v5, v6, v7, v8, v9, v10, v11, v12] ∧ Same H H1) ⟨_, _, _, _, _, _, _, _, _, _, _, _, rfl, Same.refl H⟩ ?_ ?_
    · rintro i σ H1 hi ⟨v1, v2, v3, v4, v5, v6, v7, v8, v9, v10, v11, v12, rfl, s1⟩
      walk_at "ev"
      refine ⟨_, _, _, rfl, s1.seq hS, (by omega), ?_, fun p H2 np sm hs => ?_⟩
      · split at hi <;> split at hi <;> omega
      walk_at "ev"
      have s2 : Same H H2 := s1.trans sm
      have n0 : H p = none := s1.free np
      refine ⟨hs, fun n H3 hn0 hn1 s3 u3 => ?_⟩
      walk_at "ev"
      refine ⟨s3, by decide, by decide, fun b1 xs1 H4 nb1 l1 hb1 e4 s4 u4 => ?_⟩
      walk_at "ev"
      refine ⟨s4, by decide, by decide, fun b2 xs2 H5 nb2 l2 hb2 e5 s5 u5 => ?_⟩
      have e5a := u5 b1 _ (s3.ne nb1).symm e4
      have sH5 : Same H H5 := ((u3.trans u4).trans u5).to s2 n0
      walk_at "ev"
      refine ⟨_, _, _, rfl, ?_⟩
      walk_at "ev"
      all_goals
        refine ⟨cnt n, congrArg (fun z => [V.int z]) (by unfold cnt; split <;> omega), Nat.lt_of_lt_of_le (cnt_lt hn0 hn1) (Nat.pow_le_pow_right (n := 2) (by decide) (by decide : 41 ≤ 400)), fun b3 H6 n6 s6 e6 => ?_⟩
        walk_at "ev"
        refine ⟨hn0, hn1, fun b4 H7 n7 s7 e7 => ?_⟩
        walk_at "ev"
        refine q_neI e7 (s7 _ _ e6) ?_
        walk_at "ev"
        refine ⟨b4, _, rfl, e7, code_bits _, fun H8 s8 => ?_⟩
        have s58 := s6.trans (s7.trans s8)
        have g1 := s58 _ _ e5a
        have g2 := s58 _ _ e5
        have g3 := s8 _ _ (s7 _ _ e6)
        have hLc := code_le hn0 hn1
        have hm1 : (xs1.map V.int).length = xs1.length := List.length_map _
        have hm2 : (xs2.map V.int).length = xs2.length := List.length_map _
        have hm3 : ((code (cnt n)).map V.int).length = (code (cnt n)).length := List.length_map _
        have eL : ∀ {m : Nat}, m ≤ 1000 → m ≤ sizeLine := fun h => Nat.le_of_lt (small1000 h)
        walk_at "ev"
        refine ⟨b1, b3, _, _, rfl, rfl, g1, g3, eL (by omega), fun b5 n5 => ?_⟩
        walk_at "ev"
        refine ⟨b5, b2, _, _, rfl, rfl, upd_same, new_at g2 n5, eL (by rw [List.length_append]; omega), fun b6 n6 => ?_⟩
        have sw := (same_upd (o := .lst (xs1.map V.int ++ (code (cnt n)).map V.int)) n5).trans (same_upd (o := .lst ((xs1.map V.int ++ (code (cnt n)).map V.int) ++ xs2.map V.int)) n6)
        have w1 := sw _ _ g1
        have w2 := sw _ _ g2
        have w3 := sw _ _ g3
        have w6 : upd (upd H8 b5 (.lst (xs1.map V.int ++ (code (cnt n)).map V.int))) b6 (.lst ((xs1.map V.int ++ (code (cnt n)).map V.int) ++ xs2.map V.int)) b6 = some (.lst ((xs1 ++ code (cnt n) ++ xs2).map V.int)) := by
          rw [upd_same, List.map_append, List.map_append]
        walk_at "ev"
        refine ⟨b6, xs1 ++ code (cnt n) ++ xs2, (xs1.map V.int).length, rfl, w6, (hb1.app (code_bits _)).app hb2, by rw [List.length_append, List.length_append]; omega, by rw [List.length_append, List.length_append]; omega, fun t Ht nt st et => ?_⟩
        rw [hm1, read_cnt hn0 hn1] at et
        walk_at "ev"
        refine ⟨(by show 3 ≤ sizeLine; decide), fun t2 nt2 => q_neR (r := .read n (xs1.length + (code (cnt n)).length)) (new_at et nt2) ?_ ?_⟩
        · rw [upd_same, hm1, hm3]
          rfl
        have sx := sw.trans (st.trans (same_upd (o := .tup [.str "read", .int n, .int (((xs1.map V.int).length : Int) + (((code (cnt n)).map V.int).length : Int))]) nt2))
        walk_at "ev"
        refine ⟨b1, b3, _, _, rfl, rfl, sx _ _ g1, sx _ _ g3, eL (by omega), fun b7 n7 => ?_⟩
        walk_at "ev"
        refine ⟨b7, b2, _, _, rfl, rfl, upd_same, new_at (sx _ _ g2) n7, eL (by rw [List.length_append]; omega), fun b8 n8 => ?_⟩
        refine q_neI (ns := xs1 ++ code (cnt n) ++ xs2) (new_at (new_at (new_at (st _ _ w6) nt2) n7) n8) (by rw [upd_same, List.map_append, List.map_append]) ?_
        have sy := sx.trans ((same_upd (o := .lst (xs1.map V.int ++ (code (cnt n)).map V.int)) n7).trans (same_upd (o := .lst ((xs1.map V.int ++ (code (cnt n)).map V.int) ++ xs2.map V.int)) n8))
        have y3 := sy _ _ g3
        walk_at "ev"
        refine ⟨by omega, by omega, for_range (fun j σ H' => ∃ u9 u10 u11 u12, σ = [some (.ref a), some (.int (0 + (i : Int))), some (.ref p), some (.int n), some (.ref b1), some (.ref b2), some (.ref b3), some (.ref b4), some (.ref b6), u9, u10, u11, u12] ∧ Same H8 H') ⟨_, _, _, _, rfl, sy⟩ ?_ ?_⟩
        · rintro j σ H' hj ⟨u9, u10, u11, u12, rfl, sj⟩
          rw [show (0 : Int) + (j : Int) = (j : Int) from Int.zero_add _]
          have hj2 : j < (code (cnt n)).length := by omega
          have z1 := sj _ _ g1
          have z3 := sj _ _ g3
          walk_at "ev"
          refine ⟨b3, _, rfl, .inl (.inl z3), fun p5 m5 => ?_⟩
          walk_at "ev"
          refine ⟨b1, p5, _, _, rfl, rfl, new_at z1 m5, upd_same, eL ?_, fun p6 m6 => ?_⟩
          · rw [cut_to rfl (by omega), List.length_take]
            omega
          have sz := (same_upd (o := .lst (cutV ((code (cnt n)).map V.int) none (some (j : Int)))) m5).trans (same_upd (o := .lst (xs1.map V.int ++ cutV ((code (cnt n)).map V.int) none (some (j : Int)))) m6)
          have z1b := sz _ _ z1
          walk_at "ev"
          refine ⟨p6, xs1 ++ (code (cnt n)).take j, (xs1.map V.int).length, rfl, ?_, hb1.app ((code_bits _).take _), by rw [List.length_append]; omega, by rw [List.length_append, List.length_take]; omega, fun t3 Ht nt3 st3 et3 => ?_⟩
          · rw [upd_same, cut_to rfl (by omega), List.map_append, List.map_take]
          rw [hm1, cnt_cut hn0 hn1 hj2] at et3
          walk_at "ev"
          refine ⟨(by show 1 ≤ sizeLine; decide), fun t4 nt4 => q_neR (r := .short) (new_at et3 nt4) (by rw [upd_same]; rfl) ?_⟩
          walk_at "ev"
          exact ⟨_, _, _, _, rfl, sj.trans (sz.trans (st3.trans (same_upd nt4)))⟩
        · rintro σ H' ⟨u9, u10, u11, u12, rfl, sj⟩
          walk_at "ev"
          refine ⟨src_same (s58.trans sj) s5, by decide, by decide, fun r H'' r0 r1 sr ur => ?_⟩
          walk_at "ev"
          refine ⟨.inr (by omega), ?_⟩
          walk_at "ev"
          refine ⟨.inl (by omega), ?_⟩
          walk_at "ev"
          exact ⟨_, _, _, _, _, _, _, _, _, _, _, _, rfl, ur.up.to (sH5.trans (s58.trans sj)) n0⟩
    · rintro σ H1 ⟨v1, v2, v3, v4, v5, v6, v7, v8, v9, v10, v11, v12, rfl, s1⟩
      walk_at "ev"
      refine ⟨by decide, by decide, fun c1 G1 m1 t1 f1 => ?_⟩
      walk_at "ev"
      refine ⟨by decide, by decide, fun c2 G2 m2 t2 f2 => ?_⟩
      walk_at "ev"
      refine ⟨by decide, by decide, fun c3 G3 m3 t3 f3 => ?_⟩
      walk_at "ev"
      refine ⟨by decide, by decide, fun c4 G4 m4 t4 f4 => ?_⟩
      walk_at "ev"
      refine ⟨by decide, by decide, fun c5 G5 m5 t5 f5 => ?_⟩
      walk_at "ev"
      refine ⟨(by show 5 ≤ sizeLine; decide), fun d nd => ?_⟩
      walk_at "ev"
      refine ⟨by decide +kernel, fun c6 G6 m6 t6 f6 => ?_⟩
      walk_at "ev"
      refine ⟨by decide +kernel, fun c7 G7 m7 t7 f7 => ?_⟩
      walk_at "ev"
      refine ⟨(by show 1 ≤ sizeLine; decide), fun p1 x1 => ?_⟩
      walk_at "ev"
      refine ⟨(by show 3 ≤ sizeLine; decide), fun p2 x2 => ?_⟩
      walk_at "ev"
      refine ⟨(by show 3 ≤ sizeLine; decide), fun p3 x3 => ?_⟩
      walk_at "ev"
      refine ⟨(by show 5 ≤ sizeLine; decide), fun e xe => ?_⟩
      have r1 := (((same_upd (o := .lst [.int 1]) x1).trans (same_upd (o := .lst [.int 0, .int 1, .int 0]) x2)).trans (same_upd (o := .lst [.int 0, .int 1, .int 1]) x3)).trans (same_upd (o := .lst [.ref c6, .ref c7, .ref p1, .ref p2, .ref p3]) xe)
      have r7 := t7.trans r1
      have r6 := t6.trans r7
      have r5 := (same_upd (o := .lst [.ref c1, .ref c2, .ref c3, .ref c4, .ref c5]) nd).trans r6
      have d1 := dp_ints (K := K) (.inl (.inl (r5 _ _ (t5 _ _ (t4 _ _ (t3 _ _ (t2 _ _ f1)))))))
      have d2 := dp_ints (K := K) (.inl (.inl (r5 _ _ (t5 _ _ (t4 _ _ (t3 _ _ f2))))))
      have d3 := dp_ints (K := K) (.inl (.inl (r5 _ _ (t5 _ _ (t4 _ _ f3)))))
      have d4 := dp_ints (K := K) (.inl (.inl (r5 _ _ (t5 _ _ f4))))
      have d5 := dp_ints (K := K) (.inl (.inl (r5 _ _ f5)))
      have d6 := dp_ints (K := K) (.inl (.inl (r7 _ _ f6)))
      have d7 := dp_ints (K := K) (.inl (.inl (r1 _ _ f7)))
      have q1 := dp_ints (K := K) (ns := [1]) (.inl (.inl (new_at (o' := .lst [.ref c6, .ref c7, .ref p1, .ref p2, .ref p3]) (new_at (o' := .lst [.int 0, .int 1, .int 1]) (new_at (o' := .lst [.int 0, .int 1, .int 0]) upd_same x2) x3) xe)))
      have q2 := dp_ints (K := K) (ns := [0, 1, 0]) (.inl (.inl (new_at (o' := .lst [.ref c6, .ref c7, .ref p1, .ref p2, .ref p3]) (new_at (o' := .lst [.int 0, .int 1, .int 1]) upd_same x3) xe)))
      have q3 := dp_ints (K := K) (ns := [0, 1, 1]) (.inl (.inl (new_at (o' := .lst [.ref c6, .ref c7, .ref p1, .ref p2, .ref p3]) upd_same xe)))
      refine ⟨_, _, .lst (.inl (.inl (r6 _ _ upd_same))) (.cons d1 (.cons d2 (.cons d3 (.cons d4 (.cons d5 .nil))))), .lst (.inl (.inl upd_same)) (.cons d6 (.cons d7 (.cons q1 (.cons q2 (.cons q3 .nil))))), by decide +kernel, by decide +kernel, ?_⟩
      exact q _
end
/-! ### what the top has written -/
theorem kbn1 {K : PySem.W.Frag} {x qual p : Str} {params : Arguments} {body : List Stmt} {scope : Scope} {kV doc pm cd ct : Value} {an : Option Addr} (h : ∀ u, bindArgs (PySem.W.fnOf x qual params body scope .none kV doc pm an cd ct) ⟨[], [(p, u)]⟩ = pure [(p, u)]) : KBn K (PySem.W.fnOf x qual params body scope .none kV doc pm an cd ct) [p] 0 [p] (fun _ ws => ws) (fun _ zs => zs) :=
  ⟨fun s us ws _ h1 h2 => match us, ws, h1, h2 with | [], [u], _, _ => .of_eq (h u), fun _ r => r⟩
theorem kbn2 {K : PySem.W.Frag} {x qual p p2 : Str} {params : Arguments} {body : List Stmt} {scope : Scope} {kV doc pm cd ct : Value} {an : Option Addr} (h : ∀ u v, bindArgs (PySem.W.fnOf x qual params body scope .none kV doc pm an cd ct) ⟨[], [(p, u), (p2, v)]⟩ = pure [(p, u), (p2, v)]) : KBn K (PySem.W.fnOf x qual params body scope .none kV doc pm an cd ct) [p, p2] 0 [p, p2] (fun _ ws => ws) (fun _ zs => zs) :=
  ⟨fun s us ws _ h1 h2 => match us, ws, h1, h2 with | [], [u, v], _, _ => .of_eq (h u v), fun _ r => r⟩
theorem all_mk {l : PySem.W.OpenLaw} {w : World} {K : PySem.W.Frag} {h : Heap} {mg : Str → Option Value} {fa : Addr} (X : K.In h) (G : h.Ns mainGlobals mg) (hfa : mg "law" = some (.ref fa))
    {od0 an0 : Option Addr} {sl0 : Array (Option Value)} {oc0 kV0 dc0 pm0 cd0 ct0 : Value} {f0 : Addr}
    (a0 : PySem.W.nsIn K mainGlobals "is_number" = some (some (.ref f0))) (l0 : K.lookup f0 = some ⟨oc0, od0, .func (PySem.W.fnOf "is_number" "is_number" (defArgs s_is_number) (defBody s_is_number) (defScope s_is_number) .none kV0 dc0 pm0 an0 cd0 ct0), sl0⟩) (c0 : PySem.W.codeIn K cd0 "is_number" = true) (k0 : PySem.W.keepIn K (.ref f0) = true)
    {od1 an1 : Option Addr} {sl1 : Array (Option Value)} {oc1 kV1 dc1 pm1 cd1 ct1 : Value} {f1 : Addr}
    (a1 : PySem.W.nsIn K mainGlobals "check_bits" = some (some (.ref f1))) (l1 : K.lookup f1 = some ⟨oc1, od1, .func (PySem.W.fnOf "check_bits" "check_bits" (defArgs s_check_bits) (defBody s_check_bits) (defScope s_check_bits) .none kV1 dc1 pm1 an1 cd1 ct1), sl1⟩) (c1 : PySem.W.codeIn K cd1 "check_bits" = true) (k1 : PySem.W.keepIn K (.ref f1) = true)
    {od2 an2 : Option Addr} {sl2 : Array (Option Value)} {oc2 kV2 dc2 pm2 cd2 ct2 : Value} {f2 : Addr}
    (a2 : PySem.W.nsIn K mainGlobals "number_of" = some (some (.ref f2))) (l2 : K.lookup f2 = some ⟨oc2, od2, .func (PySem.W.fnOf "number_of" "number_of" (defArgs s_number_of) (defBody s_number_of) (defScope s_number_of) .none kV2 dc2 pm2 an2 cd2 ct2), sl2⟩) (c2 : PySem.W.codeIn K cd2 "number_of" = true) (k2 : PySem.W.keepIn K (.ref f2) = true)
    {od3 an3 : Option Addr} {sl3 : Array (Option Value)} {oc3 kV3 dc3 pm3 cd3 ct3 : Value} {f3 : Addr}
    (a3 : PySem.W.nsIn K mainGlobals "fixed" = some (some (.ref f3))) (l3 : K.lookup f3 = some ⟨oc3, od3, .func (PySem.W.fnOf "fixed" "fixed" (defArgs s_fixed) (defBody s_fixed) (defScope s_fixed) .none kV3 dc3 pm3 an3 cd3 ct3), sl3⟩) (c3 : PySem.W.codeIn K cd3 "fixed" = true) (k3 : PySem.W.keepIn K (.ref f3) = true)
    {od4 an4 : Option Addr} {sl4 : Array (Option Value)} {oc4 kV4 dc4 pm4 cd4 ct4 : Value} {f4 : Addr}
    (a4 : PySem.W.nsIn K mainGlobals "count_bits" = some (some (.ref f4))) (l4 : K.lookup f4 = some ⟨oc4, od4, .func (PySem.W.fnOf "count_bits" "count_bits" (defArgs s_count_bits) (defBody s_count_bits) (defScope s_count_bits) .none kV4 dc4 pm4 an4 cd4 ct4), sl4⟩) (c4 : PySem.W.codeIn K cd4 "count_bits" = true) (k4 : PySem.W.keepIn K (.ref f4) = true)
    {od5 an5 : Option Addr} {sl5 : Array (Option Value)} {oc5 kV5 dc5 pm5 cd5 ct5 : Value} {f5 : Addr}
    (a5 : PySem.W.nsIn K mainGlobals "signed_bits" = some (some (.ref f5))) (l5 : K.lookup f5 = some ⟨oc5, od5, .func (PySem.W.fnOf "signed_bits" "signed_bits" (defArgs s_signed_bits) (defBody s_signed_bits) (defScope s_signed_bits) .none kV5 dc5 pm5 an5 cd5 ct5), sl5⟩) (c5 : PySem.W.codeIn K cd5 "signed_bits" = true) (k5 : PySem.W.keepIn K (.ref f5) = true)
    {od6 an6 : Option Addr} {sl6 : Array (Option Value)} {oc6 kV6 dc6 pm6 cd6 ct6 : Value} {f6 : Addr}
    (a6 : PySem.W.nsIn K mainGlobals "count_at" = some (some (.ref f6))) (l6 : K.lookup f6 = some ⟨oc6, od6, .func (PySem.W.fnOf "count_at" "count_at" (defArgs s_count_at) (defBody s_count_at) (defScope s_count_at) .none kV6 dc6 pm6 an6 cd6 ct6), sl6⟩) (c6 : PySem.W.codeIn K cd6 "count_at" = true) (k6 : PySem.W.keepIn K (.ref f6) = true)
    {od7 an7 : Option Addr} {sl7 : Array (Option Value)} {oc7 kV7 dc7 pm7 cd7 ct7 : Value} {f7 : Addr}
    (a7 : PySem.W.nsIn K mainGlobals "signed_at" = some (some (.ref f7))) (l7 : K.lookup f7 = some ⟨oc7, od7, .func (PySem.W.fnOf "signed_at" "signed_at" (defArgs s_signed_at) (defBody s_signed_at) (defScope s_signed_at) .none kV7 dc7 pm7 an7 cd7 ct7), sl7⟩) (c7 : PySem.W.codeIn K cd7 "signed_at" = true) (k7 : PySem.W.keepIn K (.ref f7) = true)
    {od8 an8 : Option Addr} {sl8 : Array (Option Value)} {oc8 kV8 dc8 pm8 cd8 ct8 : Value} {f8 : Addr}
    (a8 : PySem.W.nsIn K mainGlobals "check_place" = some (some (.ref f8))) (l8 : K.lookup f8 = some ⟨oc8, od8, .func (PySem.W.fnOf "check_place" "check_place" (defArgs s_check_place) (defBody s_check_place) (defScope s_check_place) .none kV8 dc8 pm8 an8 cd8 ct8), sl8⟩) (c8 : PySem.W.codeIn K cd8 "check_place" = true) (k8 : PySem.W.keepIn K (.ref f8) = true)
    {od9 an9 : Option Addr} {sl9 : Array (Option Value)} {oc9 kV9 dc9 pm9 cd9 ct9 : Value} {f9 : Addr}
    (a9 : PySem.W.nsIn K mainGlobals "read_signed" = some (some (.ref f9))) (l9 : K.lookup f9 = some ⟨oc9, od9, .func (PySem.W.fnOf "read_signed" "read_signed" (defArgs s_read_signed) (defBody s_read_signed) (defScope s_read_signed) .none kV9 dc9 pm9 an9 cd9 ct9), sl9⟩) (c9 : PySem.W.codeIn K cd9 "read_signed" = true) (k9 : PySem.W.keepIn K (.ref f9) = true)
    {od10 an10 : Option Addr} {sl10 : Array (Option Value)} {oc10 kV10 dc10 pm10 cd10 ct10 : Value} {f10 : Addr}
    (a10 : PySem.W.nsIn K mainGlobals "_law_pool" = some (some (.ref f10))) (l10 : K.lookup f10 = some ⟨oc10, od10, .func (PySem.W.fnOf "_law_pool" "_law_pool" (defArgs s_law_pool) (defBody s_law_pool) (defScope s_law_pool) .none kV10 dc10 pm10 an10 cd10 ct10), sl10⟩) (c10 : PySem.W.codeIn K cd10 "_law_pool" = true) (k10 : PySem.W.keepIn K (.ref f10) = true)
    {od11 an11 : Option Addr} {sl11 : Array (Option Value)} {oc11 kV11 dc11 pm11 cd11 ct11 : Value} {f11 : Addr}
    (a11 : PySem.W.nsIn K mainGlobals "_law_take" = some (some (.ref f11))) (l11 : K.lookup f11 = some ⟨oc11, od11, .func (PySem.W.fnOf "_law_take" "_law_take" (defArgs s_law_take) (defBody s_law_take) (defScope s_law_take) .none kV11 dc11 pm11 an11 cd11 ct11), sl11⟩) (c11 : PySem.W.codeIn K cd11 "_law_take" = true) (k11 : PySem.W.keepIn K (.ref f11) = true)
    {od12 an12 : Option Addr} {sl12 : Array (Option Value)} {oc12 kV12 dc12 pm12 cd12 ct12 : Value} {f12 : Addr}
    (a12 : PySem.W.nsIn K mainGlobals "_law_one" = some (some (.ref f12))) (l12 : K.lookup f12 = some ⟨oc12, od12, .func (PySem.W.fnOf "_law_one" "_law_one" (defArgs s_law_one) (defBody s_law_one) (defScope s_law_one) .none kV12 dc12 pm12 an12 cd12 ct12), sl12⟩) (c12 : PySem.W.codeIn K cd12 "_law_one" = true) (k12 : PySem.W.keepIn K (.ref f12) = true)
    {od13 an13 : Option Addr} {sl13 : Array (Option Value)} {oc13 kV13 dc13 pm13 cd13 ct13 : Value} {f13 : Addr}
    (a13 : PySem.W.nsIn K mainGlobals "_law_bits" = some (some (.ref f13))) (l13 : K.lookup f13 = some ⟨oc13, od13, .func (PySem.W.fnOf "_law_bits" "_law_bits" (defArgs s_law_bits) (defBody s_law_bits) (defScope s_law_bits) .none kV13 dc13 pm13 an13 cd13 ct13), sl13⟩) (c13 : PySem.W.codeIn K cd13 "_law_bits" = true) (k13 : PySem.W.keepIn K (.ref f13) = true)
    {od14 an14 : Option Addr} {sl14 : Array (Option Value)} {oc14 kV14 dc14 pm14 cd14 ct14 : Value} {f14 : Addr}
    (a14 : PySem.W.nsIn K mainGlobals "_law_digits" = some (some (.ref f14))) (l14 : K.lookup f14 = some ⟨oc14, od14, .func (PySem.W.fnOf "_law_digits" "_law_digits" (defArgs s_law_digits) (defBody s_law_digits) (defScope s_law_digits) .none kV14 dc14 pm14 an14 cd14 ct14), sl14⟩) (c14 : PySem.W.codeIn K cd14 "_law_digits" = true) (k14 : PySem.W.keepIn K (.ref f14) = true)
    {od15 an15 : Option Addr} {sl15 : Array (Option Value)} {oc15 kV15 dc15 pm15 cd15 ct15 : Value} {f15 : Addr}
    (a15 : PySem.W.nsIn K mainGlobals "_law_are_bits" = some (some (.ref f15))) (l15 : K.lookup f15 = some ⟨oc15, od15, .func (PySem.W.fnOf "_law_are_bits" "_law_are_bits" (defArgs s_law_are_bits) (defBody s_law_are_bits) (defScope s_law_are_bits) .none kV15 dc15 pm15 an15 cd15 ct15), sl15⟩) (c15 : PySem.W.codeIn K cd15 "_law_are_bits" = true) (k15 : PySem.W.keepIn K (.ref f15) = true)
    {od16 an16 : Option Addr} {sl16 : Array (Option Value)} {oc16 kV16 dc16 pm16 cd16 ct16 : Value} {f16 : Addr}
    (a16 : PySem.W.nsIn K mainGlobals "_law_count" = some (some (.ref f16))) (l16 : K.lookup f16 = some ⟨oc16, od16, .func (PySem.W.fnOf "_law_count" "_law_count" (defArgs s_law_count) (defBody s_law_count) (defScope s_law_count) .none kV16 dc16 pm16 an16 cd16 ct16), sl16⟩) (c16 : PySem.W.codeIn K cd16 "_law_count" = true) (k16 : PySem.W.keepIn K (.ref f16) = true)
    {od17 an17 : Option Addr} {sl17 : Array (Option Value)} {oc17 kV17 dc17 pm17 cd17 ct17 : Value} {f17 : Addr}
    (a17 : PySem.W.nsIn K mainGlobals "_law_code" = some (some (.ref f17))) (l17 : K.lookup f17 = some ⟨oc17, od17, .func (PySem.W.fnOf "_law_code" "_law_code" (defArgs s_law_code) (defBody s_law_code) (defScope s_law_code) .none kV17 dc17 pm17 an17 cd17 ct17), sl17⟩) (c17 : PySem.W.codeIn K cd17 "_law_code" = true) (k17 : PySem.W.keepIn K (.ref f17) = true)
    {od18 an18 : Option Addr} {sl18 : Array (Option Value)} {oc18 kV18 dc18 pm18 cd18 ct18 : Value} {f18 : Addr}
    (a18 : PySem.W.nsIn K mainGlobals "_law_number" = some (some (.ref f18))) (l18 : K.lookup f18 = some ⟨oc18, od18, .func (PySem.W.fnOf "_law_number" "_law_number" (defArgs s_law_number) (defBody s_law_number) (defScope s_law_number) .none kV18 dc18 pm18 an18 cd18 ct18), sl18⟩) (c18 : PySem.W.codeIn K cd18 "_law_number" = true) (k18 : PySem.W.keepIn K (.ref f18) = true)
    {od19 an19 : Option Addr} {sl19 : Array (Option Value)} {oc19 kV19 dc19 pm19 cd19 ct19 : Value} {f19 : Addr}
    (a19 : PySem.W.nsIn K mainGlobals "_law_is_great" = some (some (.ref f19))) (l19 : K.lookup f19 = some ⟨oc19, od19, .func (PySem.W.fnOf "_law_is_great" "_law_is_great" (defArgs s_law_is_great) (defBody s_law_is_great) (defScope s_law_is_great) .none kV19 dc19 pm19 an19 cd19 ct19), sl19⟩) (c19 : PySem.W.codeIn K cd19 "_law_is_great" = true) (k19 : PySem.W.keepIn K (.ref f19) = true)
    {od20 an20 : Option Addr} {sl20 : Array (Option Value)} {oc20 kV20 dc20 pm20 cd20 ct20 : Value} {f20 : Addr}
    (a20 : PySem.W.nsIn K mainGlobals "law" = some (some (.ref f20))) (l20 : K.lookup f20 = some ⟨oc20, od20, .func (PySem.W.fnOf "law" "law" (defArgs s_law) (defBody s_law) (defScope s_law) .none kV20 dc20 pm20 an20 cd20 ct20), sl20⟩) (c20 : PySem.W.codeIn K cd20 "law" = true) (k20 : PySem.W.keepIn K (.ref f20) = true)
    {C N O : Addr} {tg tz : Tok}
    (y0 : PySem.W.nsIn K mainGlobals "int" = some none) (y1 : PySem.W.nsIn K mainGlobals "len" = some none) (y2 : PySem.W.nsIn K mainGlobals "max" = some none) (y3 : PySem.W.nsIn K mainGlobals "min" = some none)
    (y4 : PySem.W.nsIn K mainGlobals "range" = some none) (y5 : PySem.W.nsIn K mainGlobals "isinstance" = some none) (y6 : PySem.W.nsIn K mainGlobals "bool" = some none) (y7 : PySem.W.nsIn K mainGlobals "list" = some none)
    (e0 : PySem.W.nsIn K mainGlobals "Great" = some (some (.ref C))) (e1 : PySem.W.nsIn K mainGlobals "NarrowError" = some (some (.ref N))) (e2 : PySem.W.nsIn K mainGlobals "Outside" = some (some (.ref O)))
    (ex : PySem.W.excIn K C [.type "ValueError", .type "Exception", .type "BaseException", .type "object"] "ValueError.__new__" = true) (kC : PySem.W.keepIn K (.ref C) = true) (bC : PySem.W.subIn K (.ref C) (.type "BaseException") = some true) (tC : PySem.W.typeIn K (.ref C) = some (.type "type"))
    (m0 : PySem.W.findIn K (.ref C) "__getattribute__" = some (some (.builtin "BaseException.__getattribute__"))) (m1 : PySem.W.findIn K (.ref C) "__getattr__" = some none) (m2 : PySem.W.hasDictIn K C = true) (m3 : PySem.W.findIn K (.ref C) "__class__" = some (some (.builtin "object.__class__")))
    (m4 : PySem.W.specialIn K (.builtin "object.__class__") "__get__" = some (some (.builtin "getset_descriptor.__get__"))) (m5 : PySem.W.takesIn K (.builtin "object.__class__") = some true) (m6 : PySem.W.mroIn K C (.type "object") = some true)
    (sC : PySem.W.subIn K (.ref C) (.ref C) = some true) (iN : PySem.W.isClsIn K N = true) (tN : PySem.W.typeIn K (.ref N) = some (.type "type")) (sN : PySem.W.subIn K (.ref C) (.ref N) = some true) (iO : PySem.W.isClsIn K O = true) (tO : PySem.W.typeIn K (.ref O) = some (.type "type")) (sO : PySem.W.subIn K (.ref C) (.ref O) = some false)
    (gg : PySem.W.nsIn K mainGlobals "GREATEST_COUNT" = some (some (.int 2199023255550 tg))) (gz : PySem.W.nsIn K mainGlobals "MOST_ZEROS" = some (some (.int 40 tz))) :
    ∃ fd : FuncData, (∀ (s : Shared) (v : Value), BindsTo s fd ⟨[v], []⟩ [("_law_script", v)]) ∧ ∀ base : Heap, K.In base → base.Ns mainGlobals mg → FnOk l.prog w K mg base CX0 5 fa fd ["_law_script"] (spLaw K) := by
  have e := hfa.symm.trans (PySem.W.mg_of X G a20)
  cases e
  have T : Txt mg := ⟨PySem.W.mg_none_of X G y0, PySem.W.mg_none_of X G y1, PySem.W.mg_none_of X G y2, PySem.W.mg_none_of X G y3, PySem.W.mg_none_of X G y4, PySem.W.mg_none_of X G y5, PySem.W.mg_none_of X G y6, PySem.W.mg_none_of X G y7⟩
  have EC : ECls K mg "Great" C := ⟨PySem.W.mg_of X G e0, ex, kC, bC, tC, ⟨m0, m1, bC, m2, m3, m4, m5, m6⟩, PySem.W.exm_ref bC m2 tC sC⟩
  have rN := kit_ref iN tN sN fun _ => sC
  have rO := kit_ref iO tO sO fun _ => sC
  have hG := PySem.W.mg_of X G gg
  have hZ := PySem.W.mg_of X G gz
  have F0 := fun_mk (st := s_is_number) l0 c0 k0
  have b0 := F0.binds (ps := ["thing"]) fun _ _ _ _ _ _ us hl => match us, hl with | [_], _ => rfl
  have F1 := fun_mk (st := s_check_bits) l1 c1 k1
  have b1 := F1.binds (ps := ["bits"]) fun _ _ _ _ _ _ us hl => match us, hl with | [_], _ => rfl
  have F2 := fun_mk (st := s_number_of) l2 c2 k2
  have b2 := F2.binds (ps := ["bits"]) fun _ _ _ _ _ _ us hl => match us, hl with | [_], _ => rfl
  have F3 := fun_mk (st := s_fixed) l3 c3 k3
  have b3 := F3.binds (ps := ["n", "w"]) fun _ _ _ _ _ _ us hl => match us, hl with | [_, _], _ => rfl
  have F4 := fun_mk (st := s_count_bits) l4 c4 k4
  have b4 := F4.binds (ps := ["n"]) fun _ _ _ _ _ _ us hl => match us, hl with | [_], _ => rfl
  have F5 := fun_mk (st := s_signed_bits) l5 c5 k5
  have b5 := F5.binds (ps := ["n"]) fun _ _ _ _ _ _ us hl => match us, hl with | [_], _ => rfl
  have F6 := fun_mk (st := s_count_at) l6 c6 k6
  have b6 := F6.binds (ps := ["bits", "at"]) fun _ _ _ _ _ _ us hl => match us, hl with | [_, _], _ => rfl
  have F7 := fun_mk (st := s_signed_at) l7 c7 k7
  have b7 := F7.binds (ps := ["bits", "at"]) fun _ _ _ _ _ _ us hl => match us, hl with | [_, _], _ => rfl
  have F8 := fun_mk (st := s_check_place) l8 c8 k8
  have b8 := F8.binds (ps := ["bits", "at"]) fun _ _ _ _ _ _ us hl => match us, hl with | [_, _], _ => rfl
  have F9 := fun_mk (st := s_read_signed) l9 c9 k9
  have b9 := F9.binds (ps := ["bits", "at"]) fun _ _ _ _ _ _ us hl => match us, hl with | [_, _], _ => rfl
  have F10 := fun_mk (st := s_law_pool) l10 c10 k10
  have b10 := F10.binds (ps := ["_law_script", "_law_k"]) fun _ _ _ _ _ _ us hl => match us, hl with | [_, _], _ => rfl
  have F11 := fun_mk (st := s_law_take) l11 c11 k11
  have b11 := F11.binds (ps := ["_law_source", "_law_most"]) fun _ _ _ _ _ _ us hl => match us, hl with | [_, _], _ => rfl
  have F12 := fun_mk (st := s_law_one) l12 c12 k12
  have b12 := F12.binds (ps := ["_law_source", "_law_things"]) fun _ _ _ _ _ _ us hl => match us, hl with | [_, _], _ => rfl
  have F13 := fun_mk (st := s_law_bits) l13 c13 k13
  have b13 := F13.binds (ps := ["_law_source", "_law_most"]) fun _ _ _ _ _ _ us hl => match us, hl with | [_, _], _ => rfl
  have F14 := fun_mk (st := s_law_digits) l14 c14 k14
  have b14 := F14.binds (ps := ["_law_number_here"]) fun _ _ _ _ _ _ us hl => match us, hl with | [_], _ => rfl
  have F15 := fun_mk (st := s_law_are_bits) l15 c15 k15
  have b15 := F15.binds (ps := ["_law_told"]) fun _ _ _ _ _ _ us hl => match us, hl with | [_], _ => rfl
  have F16 := fun_mk (st := s_law_count) l16 c16 k16
  have b16 := F16.binds (ps := ["_law_source"]) fun _ _ _ _ _ _ us hl => match us, hl with | [_], _ => rfl
  have F17 := fun_mk (st := s_law_code) l17 c17 k17
  have b17 := F17.binds (ps := ["_law_count_here"]) fun _ _ _ _ _ _ us hl => match us, hl with | [_], _ => rfl
  have F18 := fun_mk (st := s_law_number) l18 c18 k18
  have b18 := F18.binds (ps := ["_law_source"]) fun _ _ _ _ _ _ us hl => match us, hl with | [_], _ => rfl
  have F19 := fun_mk (st := s_law_is_great) l19 c19 k19
  have b19 := F19.binds (ps := ["_law_number_here"]) fun _ _ _ _ _ _ us hl => match us, hl with | [_], _ => rfl
  have F20 := fun_mk (st := s_law) l20 c20 k20
  have b20 := F20.binds (ps := ["_law_script"]) fun _ _ _ _ _ _ us hl => match us, hl with | [_], _ => rfl
  refine ⟨PySem.W.fnOf "law" "law" (defArgs s_law) (defBody s_law) (defScope s_law) .none kV20 dc20 pm20 an20 cd20 ct20, fun s v => .of_eq rfl, fun base _ _ => ?_⟩
  have C0 : C8.Cal l.prog w K mg base 1 "is_number" spIsNum [] := ⟨_, _, _, _, ok_is_number F0 T, PySem.W.mg_of X G a0, k0, b0, .nil⟩
  have C1 : C8.Cal l.prog w K mg base 2 "check_bits" spCheckB [] := ⟨_, _, _, _, ok_check_bits F1 C0, PySem.W.mg_of X G a1, k1, b1, .nil⟩
  have C2 : C8.Cal l.prog w K mg base 1 "number_of" spNumber [] := ⟨_, _, _, _, ok_number_of F2, PySem.W.mg_of X G a2, k2, b2, .nil⟩
  have C3 : C8.Cal l.prog w K mg base 1 "fixed" spFixed [] := ⟨_, _, _, _, ok_fixed F3 T, PySem.W.mg_of X G a3, k3, b3, .nil⟩
  have C4 : C8.Cal l.prog w K mg base 2 "count_bits" spCountBits [] := ⟨_, _, _, _, ok_count_bits F4 hG C3, PySem.W.mg_of X G a4, k4, b4, .nil⟩
  have O5 := ok_signed_bits (P := l.prog) (w := w) (base := base) (k := 0) F5 C4
  have C5 : C8.Cal l.prog w K mg base 3 "signed_bits" spSignedB [] := ⟨_, _, _, _, O5, PySem.W.mg_of X G a5, k5, b5, .nil⟩
  have C5k : CalK l.prog w K mg base 3 "signed_bits" ["n"] spSignedB := ⟨_, _, _, O5, PySem.W.mg_of X G a5, k5, kbn1 fun _ => rfl⟩
  have C6 : C8.Cal l.prog w K mg base 2 "count_at" spCountAt [] := ⟨_, _, _, _, ok_count_at F6 T hZ C2, PySem.W.mg_of X G a6, k6, b6, .nil⟩
  have C7 : C8.Cal l.prog w K mg base 3 "signed_at" spSignedAt [] := ⟨_, _, _, _, ok_signed_at F7 C6, PySem.W.mg_of X G a7, k7, b7, .nil⟩
  have C8' : C8.Cal l.prog w K mg base 3 "check_place" spCheckP [] := ⟨_, _, _, _, ok_check_place F8 T C1, PySem.W.mg_of X G a8, k8, b8, .nil⟩
  have O9 := ok_read_signed (P := l.prog) (w := w) (base := base) (k := 0) F9 C8' C7
  have C9 : C8.Cal l.prog w K mg base 4 "read_signed" spReadS [] := ⟨_, _, _, _, O9, PySem.W.mg_of X G a9, k9, b9, .nil⟩
  have C9k : CalK l.prog w K mg base 4 "read_signed" ["bits", "at"] spReadS := ⟨_, _, _, O9, PySem.W.mg_of X G a9, k9, kbn2 fun _ _ => rfl⟩
  have C10 : C8.Cal l.prog w K mg base 1 "_law_pool" (spPool K) [] := ⟨_, _, _, _, ok_pool F10 T, PySem.W.mg_of X G a10, k10, b10, .nil⟩
  have C11 : C8.Cal l.prog w K mg base 1 "_law_take" spTake [] := ⟨_, _, _, _, ok_take F11 T, PySem.W.mg_of X G a11, k11, b11, .nil⟩
  have C12 : C8.Cal l.prog w K mg base 2 "_law_one" spOne [] := ⟨_, _, _, _, ok_one F12 T C11, PySem.W.mg_of X G a12, k12, b12, .nil⟩
  have C13 : C8.Cal l.prog w K mg base 2 "_law_bits" spBits [] := ⟨_, _, _, _, ok_bits F13 T C11, PySem.W.mg_of X G a13, k13, b13, .nil⟩
  have C14 : C8.Cal l.prog w K mg base 1 "_law_digits" spDigits [] := ⟨_, _, _, _, ok_digits F14, PySem.W.mg_of X G a14, k14, b14, .nil⟩
  have C15 : C8.Cal l.prog w K mg base 1 "_law_are_bits" spAreBits [] := ⟨_, _, _, _, ok_are_bits F15 T, PySem.W.mg_of X G a15, k15, b15, .nil⟩
  have C16 : C8.Cal l.prog w K mg base 2 "_law_count" spCount [] := ⟨_, _, _, _, ok_count F16 T C11, PySem.W.mg_of X G a16, k16, b16, .nil⟩
  have C17 : C8.Cal l.prog w K mg base 2 "_law_code" spCode [] := ⟨_, _, _, _, ok_code F17 T C14, PySem.W.mg_of X G a17, k17, b17, .nil⟩
  have C18 : C8.Cal l.prog w K mg base 3 "_law_number" spNum [] := ⟨_, _, _, _, ok_number F18 T C11 C12 C16, PySem.W.mg_of X G a18, k18, b18, .nil⟩
  have GS := no_signed (P := l.prog) (w := w) (base := base) (k := 0) F5 (no_count (P := l.prog) (w := w) (base := base) (k := 0) F4 hG EC) (PySem.W.mg_of X G a4) k4 b4
  have C19 : C8.Cal l.prog w K mg base 4 "_law_is_great" spIsGreat [] := ⟨_, _, _, _, ok_is_great F19 T EC (PySem.W.mg_of X G e1) (PySem.W.mg_of X G e2) rN rO GS (PySem.W.mg_of X G a5) k5 b5, PySem.W.mg_of X G a19, k19, b19, .nil⟩
  exact ok_law F20 T C10 C11 C18 C13 C17 C5 C5k C15 C9 C9k C19
end My
open PySem PySem.W PyProof.Rows
set_option maxRecDepth 100000 in
set_option maxHeartbeats 0 in
theorem PySem.Challenge.cw_narrowingbits_k02_signed_both_ways_holds : PySem.Challenge.rw_narrowingbits_k02_signed_both_ways.Holds := by
  w_on; o_law; k_head; (case hw => w_witness2)
  k_fill
  refine L2.walk_of (l := PySem.Challenge.rw_narrowingbits_k02_signed_both_ways) (n := 63) (k := 5) (x := "_law_script") (CX := fun _ => L2.CX0) (sp := fun w => My.spLaw _) rfl (by decide) rfl ⟨rfl, by decide, by decide⟩ (fun w h Y => PySem.W.kIn_of Y) ?F (fun _ _ a ns hl _ hS => ⟨a, ns, rfl, hS, hl, fun _ => rfl⟩) (fun _ _ _ _ _ h => h)
  case F =>
    intro w mg fa h KX G hmg
    refine' My.all_mk KX G hmg ?a0 ?l0 ?c0 ?k0 ?a1 ?l1 ?c1 ?k1 ?a2 ?l2 ?c2 ?k2 ?a3 ?l3 ?c3 ?k3 ?a4 ?l4 ?c4 ?k4 ?a5 ?l5 ?c5 ?k5 ?a6 ?l6 ?c6 ?k6 ?a7 ?l7 ?c7 ?k7 ?a8 ?l8 ?c8 ?k8 ?a9 ?l9 ?c9 ?k9 ?a10 ?l10 ?c10 ?k10 ?a11 ?l11 ?c11 ?k11 ?a12 ?l12 ?c12 ?k12 ?a13 ?l13 ?c13 ?k13 ?a14 ?l14 ?c14 ?k14 ?a15 ?l15 ?c15 ?k15 ?a16 ?l16 ?c16 ?k16 ?a17 ?l17 ?c17 ?k17 ?a18 ?l18 ?c18 ?k18 ?a19 ?l19 ?c19 ?k19 ?a20 ?l20 ?c20 ?k20 ?y0 ?y1 ?y2 ?y3 ?y4 ?y5 ?y6 ?y7 ?e0 ?e1 ?e2 ?ex ?kC ?bC ?tC ?m0 ?m1 ?m2 ?m3 ?m4 ?m5 ?m6 ?sC ?iN ?tN ?sN ?iO ?tO ?sO ?gg ?gz
    (case a0 => k_is); (case l0 => k_is); (case c0 => k_is); (case k0 => k_is)
    (case a1 => k_is); (case l1 => k_is); (case c1 => k_is); (case k1 => k_is)
    (case a2 => k_is); (case l2 => k_is); (case c2 => k_is); (case k2 => k_is)
    (case a3 => k_is); (case l3 => k_is); (case c3 => k_is); (case k3 => k_is)
    (case a4 => k_is); (case l4 => k_is); (case c4 => k_is); (case k4 => k_is)
    (case a5 => k_is); (case l5 => k_is); (case c5 => k_is); (case k5 => k_is)
    (case a6 => k_is); (case l6 => k_is); (case c6 => k_is); (case k6 => k_is)
    (case a7 => k_is); (case l7 => k_is); (case c7 => k_is); (case k7 => k_is)
    (case a8 => k_is); (case l8 => k_is); (case c8 => k_is); (case k8 => k_is)
    (case a9 => k_is); (case l9 => k_is); (case c9 => k_is); (case k9 => k_is)
    (case a10 => k_is); (case l10 => k_is); (case c10 => k_is); (case k10 => k_is)
    (case a11 => k_is); (case l11 => k_is); (case c11 => k_is); (case k11 => k_is)
    (case a12 => k_is); (case l12 => k_is); (case c12 => k_is); (case k12 => k_is)
    (case a13 => k_is); (case l13 => k_is); (case c13 => k_is); (case k13 => k_is)
    (case a14 => k_is); (case l14 => k_is); (case c14 => k_is); (case k14 => k_is)
    (case a15 => k_is); (case l15 => k_is); (case c15 => k_is); (case k15 => k_is)
    (case a16 => k_is); (case l16 => k_is); (case c16 => k_is); (case k16 => k_is)
    (case a17 => k_is); (case l17 => k_is); (case c17 => k_is); (case k17 => k_is)
    (case a18 => k_is); (case l18 => k_is); (case c18 => k_is); (case k18 => k_is)
    (case a19 => k_is); (case l19 => k_is); (case c19 => k_is); (case k19 => k_is)
    (case a20 => k_is); (case l20 => k_is); (case c20 => k_is); (case k20 => k_is)
    (case y0 => k_is)
    (case y1 => k_is)
    (case y2 => k_is)
    (case y3 => k_is)
    (case y4 => k_is)
    (case y5 => k_is)
    (case y6 => k_is)
    (case y7 => k_is)
    (case e0 => k_is)
    (case e1 => k_is)
    (case e2 => k_is)
    (case kC => k_is)
    (case bC => k_is)
    (case tC => k_is)
    (case m0 => k_is)
    (case m1 => k_is)
    (case m2 => k_is)
    (case m3 => k_is)
    (case m4 => k_is)
    (case m5 => k_is)
    (case m6 => k_is)
    (case sC => k_is)
    (case iN => k_is)
    (case tN => k_is)
    (case sN => k_is)
    (case iO => k_is)
    (case tO => k_is)
    (case sO => k_is)
    (case gg => k_is)
    (case gz => k_is)
    (case ex => k_exc)
