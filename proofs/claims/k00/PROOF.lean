import PyProof.Rows.All
import Wide.All
import OpenK.AllK
import Wide.FinOn
import HandS.ForMost
import HandS.Wide
import HandS.IsInst
import HandS.Codes
import HandS.Style
import HandS.EndBits
import HandS.Walk
import HandS.FStr
import HandS.WideBits
import HandS.Defaults
import HandS.Exc
import HandS.TryOnly
import HandS.ExcOwn
import HandS.WordsExc
import HandS.ExcIs
import HandS.Lambda
import HandS.EndTab
import PySem.Challenge.RW_narrowingbits_k00_counts_read_back
set_option Elab.async false
set_option linter.all false
set_option maxRecDepth 100000
set_option maxHeartbeats 4000000
namespace My
open PySem PySem.Spec PyProof.Rows L2
/-! ### arithmetic -/
theorem cdivw {i j : Int} (h : 0 < j) (h2 : j < 18446744073709551616) : CDivW i j := wide_div (b := 64) h (by omega) (by decide) (by decide)
theorem cmull {i j : Int} (h : -18446744073709551616 < i) (h2 : i < 18446744073709551616) : CMul i j := .inl ⟨by omega, by omega⟩
theorem cmulr {i j : Int} (h : -18446744073709551616 < j) (h2 : j < 18446744073709551616) : CMul i j := .inr ⟨by omega, by omega⟩
theorem pow18 : ((10 : Int) ^ (18 : Int).toNat) = 1000000000000000000 := by decide +kernel
theorem pow30 : ((10 : Int) ^ (30 : Int).toNat) = 1000000000000000000000000000000 := by decide +kernel
theorem pow9 : ((10 : Int) ^ (9 : Int).toNat) = 1000000000 := by decide +kernel
theorem pool_nn (c : Int) (b : Bool) : 0 ≤ (if -1 - c > c then -1 - c else c) * (if b = true then 1 else 0) := by
  refine Int.mul_nonneg ?_ ?_
  · split <;> omega
  · split <;> decide
theorem at_lt {ns : List Int} {k : Int} (h0 : 0 ≤ k) (h : k < ((ns.map V.int).length : Int)) : ∃ z, atI (ns.map V.int) k = some (.int z) := by
  rw [List.length_map] at h
  refine ⟨ns[k.toNat]'(by omega), at_of (j := k.toNat) (by omega) ?_⟩
  rw [List.getElem?_map, List.getElem?_eq_getElem (by omega)]
  rfl
theorem at_mem {xs : List V} {r : Int} (h0 : 0 ≤ r) (h : r < (xs.length : Int)) : ∃ v, atI xs r = some v ∧ v ∈ xs := by
  refine ⟨xs[r.toNat]'(by omega), at_of (j := r.toNat) (by omega) (List.getElem?_eq_getElem (by omega)), List.getElem_mem _⟩
/-! ### heaps -/
theorem same_upd {H : Hp} {p : Addr} {o : HO} (h : H p = none) : Same H (upd H p o) := fun b x e => by
  rw [upd_ne (ne_of_none e h)]
  exact e
/-- a source of draws stands at a -/
def Src (H : Hp) (a : Addr) : Prop := ∃ x y : Int, H a = some (.lst [.int x, .int y]) ∧ 0 ≤ x ∧ 0 ≤ y ∧ y < 2147483647
/-- all but a is as it was -/
def But (a : Addr) (H H' : Hp) : Prop := ∀ b, b ≠ a → H' b = H b
theorem But.refl (a : Addr) (H : Hp) : But a H H := fun _ _ => rfl
theorem But.trans {a : Addr} {H H1 H2 : Hp} (u : But a H H1) (v : But a H1 H2) : But a H H2 := fun b e => (v b e).trans (u b e)
theorem But.upd {a : Addr} {H : Hp} {o : HO} : But a H (upd H a o) := fun b e => upd_ne e
theorem But.at {a b : Addr} {H H' : Hp} {o : HO} (u : But a H H') (n : b ≠ a) (h : H b = some o) : H' b = some o := (u b n).trans h
theorem src_same {H H' : Hp} {a : Addr} (s : Same H H') (h : Src H a) : Src H' a := by
  obtain ⟨x, y, e, r⟩ := h
  exact ⟨x, y, s _ _ e, r⟩
theorem Src.ne {H : Hp} {a p : Addr} (h : Src H a) (n : H p = none) : a ≠ p := by
  obtain ⟨x, y, e, r⟩ := h
  exact ne_of_none e n
theorem same_but {a : Addr} {G H H' : Hp} (s : Same G H) (u : But a H H') (n : G a = none) : Same G H' := fun b o e => by
  rw [u b (ne_of_none e n)]
  exact s b o e
theorem kit_ii {K : PySem.W.Frag} : PySem.W.kitOne K (.type "int") (.type "int") = some true := kit_ty (by decide +kernel)
theorem kit_ib {K : PySem.W.Frag} : PySem.W.kitOne K (.type "int") (.type "bool") = some false := kit_ty (by decide +kernel)
theorem kit_bi {K : PySem.W.Frag} : PySem.W.kitOne K (.type "bool") (.type "int") = some true := kit_ty (by decide +kernel)
theorem kit_bb {K : PySem.W.Frag} : PySem.W.kitOne K (.type "bool") (.type "bool") = some true := kit_ty (by decide +kernel)
theorem kit_tt {K : PySem.W.Frag} : PySem.W.kitOne K (.type "tuple") (.type "tuple") = some true := kit_ty (by decide +kernel)
theorem kit_ll {K : PySem.W.Frag} : PySem.W.kitOne K (.type "list") (.type "list") = some true := kit_ty (by decide +kernel)
theorem kit_tl {K : PySem.W.Frag} : PySem.W.kitOne K (.type "tuple") (.type "list") = some false := kit_ty (by decide +kernel)
theorem kit_lt {K : PySem.W.Frag} : PySem.W.kitOne K (.type "list") (.type "tuple") = some false := kit_ty (by decide +kernel)
theorem op_powc {X : Cx} {a b c : Int} (hc : CPow a b) (h : a ^ b.toNat = c) : OpR X (binaryOp .Pow) (fun x y H Q => x = .int a ∧ y = .int b ∧ Q (.int c) H) := by
  intro pins s σ H x y v u Q I rx ry h'
  obtain ⟨rfl, rfl, q⟩ := h'
  exact op_pow pins s σ H _ _ v u Q I rx ry ⟨_, _, rfl, rfl, hc, by subst h; exact q⟩
theorem dp_pair {K : PySem.W.Frag} {H : Hp} {p : Addr} {a b : Int} (h : H p = some (.tup [.int a, .int b])) : Dp K H (.ref p) (.tuple [.int a, .int b]) := .tup (.inl (.inl h)) (.cons (.int _) (.cons (.int _) .nil))
theorem eq_pair (a b : Int) : PyData.eqv (.tuple [.int a, .int b]) (.tuple [.int a, .int b]) = true := by
  simp [PyData.eqv, PyData.eqvAll]
theorem tup_eq {H : Hp} {p : Addr} {x x' y y' : Int} (h : H p = some (.tup [.int x, .int y])) (h1 : x = x') (h2 : y = y') : H p = some (.tup [.int x', .int y']) := by
  rw [← h1, ← h2]
  exact h
end My
namespace My
section
open PySem PySem.W PyProof.Rows Builtin Builtin.Str Builtin.Int Builtin.Float
def binCodes (n : Nat) : List Nat := (Nat.toDigits 2 n).map Char.toNat
theorem field_plain (ds : List Nat) (h : ds.isEmpty = false) : intField' { align := 62, type := some 98 } false [] ds [] 4 = ⟨ds.toArray⟩ := by
  unfold intField'
  simp [h]
theorem digs_ne (n : Nat) : ((Nat.toDigits 2 n).map fun c => ((if ((98 : Nat) == 88) = true then c.toUpper else c) : Char).toNat).isEmpty = false := by
  cases e : Nat.toDigits 2 n with
  | nil =>
    have := tDigits_len_ge 2 n
    rw [e] at this
    cases this
  | cons a l => rfl
theorem meets_bin {x : Int} {t : Tok} (h0 : 0 ≤ x) (hL : (Nat.toDigits 2 x.natAbs).length ≤ sizeLine) :
    ∀ u, Meets (Builtin.«int.__format__» ⟨[.int x t, .str (Str.ofString "b") u], []⟩) (fun _ R s => ∀ t' k, R (.ok (.ret (.str ⟨(binCodes x.natAbs).toArray⟩ t'))) { s with toks := k }) := by
  intro u
  apply KPc.meets_of
  intro prog w A E s Q h
  unfold Builtin.«int.__format__»
  refine wpAny_bind (wpAny_of_eq (a := (_, _)) rfl ?_)
  refine wpAny_bind (wpAny_of_eq (a := _) rfl ?_)
  kxf_if
  refine wpAny_bind (wpAny_typeNameOf (T := "str") (typeIs_str _ _ _) (by decide) fun _ => ?_)
  refine wpAny_bind (wpAny_of_eq (a := some _) rfl ?_)
  kxf_if
  kxf_if
  refine wpAny_bind (wpAny_typeNameOfCut_int ?_)
  repeat kxf_if
  refine KXf.ret_text (T := ⟨(binCodes x.natAbs).toArray⟩) ?e ?l h
  case e =>
    have hx : decide (x < 0) = false := decide_eq_false (by omega)
    rw [hx]
    show intField' { align := 62, type := some 98 } false [] ((Nat.toDigits 2 x.natAbs).map fun c => ((if ((98 : Nat) == 88) = true then c.toUpper else c) : Char).toNat) [] 4 = _
    exact field_plain _ (digs_ne _)
  case l =>
    have hx : decide (x < 0) = false := decide_eq_false (by omega)
    rw [hx]
    show (intField' { align := 62, type := some 98 } false [] ((Nat.toDigits 2 x.natAbs).map fun c => ((if ((98 : Nat) == 88) = true then c.toUpper else c) : Char).toNat) [] 4).length ≤ sizeLine
    rw [field_plain _ (digs_ne _)]
    show ((binCodes x.natAbs).toArray).size ≤ sizeLine
    rw [List.size_toArray, binCodes, List.length_map]
    exact hL
end
end My
namespace My
open PySem PySem.Spec PyProof.Rows L2
/-! ### an f-string's field in binary -/
section
variable {X : Cx}
theorem pe_fmtB {e : Expr} {te : TE} {k : Nat} {pos p1 p2 : Pos} (he : PE X e te) : PE X (.FormattedValue e (-1) (some (.JoinedStr [.Constant (.str "b") k p1] p2)) pos)
    (fun σ H Q => te σ H fun x H1 => ∃ i : Int, x = .int i ∧ 0 ≤ i ∧ (Nat.toDigits 2 i.natAbs).length ≤ sizeLine ∧ Q (.str (SX.S (binCodes i.natAbs))) H1) := by
  refine ⟨fun pins s σ H Q I h => ?_⟩
  refine wpAny_FormattedValue_spec (thn (he.run pins s σ H _ I h) fun v s1 hv => ?_)
  obtain ⟨x, H1, I1, r1, i, rfl, h0, hL, q⟩ := hv
  obtain ⟨t, rfl⟩ := r1
  refine thn ((pe_joined1 (X := X) (pe_str (x := "b") (j := k) (pos := p1)) (pos := p2)).run pins s1 σ H1 (fun y H2 => y = .str "b" ∧ H2 = H1) I1 ⟨rfl, rfl⟩) fun r s2 hr => ?_
  obtain ⟨y, H2, I2, r2, rfl, rfl⟩ := hr
  obtain ⟨t2, rfl⟩ := r2
  exact ⟨_, t2, rfl, PySem.W.KXf.field_int rfl rfl (by decide) (meets_bin h0 hL) fun t' k => ⟨.str _, _, I2.tok _, ⟨_, rfl⟩, q⟩⟩
/-- a call by keywords alone -/
theorem pe_kw0 {CX : CXT} {k : Nat} {f : Addr} {fd : FuncData} {ps ks : List Str} {sp : Sp} {E : XK} {x : Str} {p pos : Pos} {kws : List Keyword} {tk : TA} {g : List Value → List Value → List Value} {gV : List V → List V → List V}
    (F : FnOk X.prog X.w X.K X.mg X.base CX k f fd ps sp) (hr : Room k X.A) (hg : Gl X x) (hm : X.mg x = some (.ref f)) (hk : PySem.W.keepIn X.K (.ref f) = true) (hb : KBn X.K fd ps 0 ks g gV) (hx : Passes CX X E) (hkw : PK X kws tk)
    (hall : (backToKw pos (keywordEach kws X.env)).all (·.1.isSome) = true := by rfl) (hks : (backToKw pos (keywordEach kws X.env)).filterMap (·.1) = ks := by rfl) (hdb : (x == ("__debug__" : Str)) = false := by decide)
    (hpl : ((backTo pos (starEach [] X.env)).any (·.1) || (backToKw pos (keywordEach kws X.env)).any (·.1.isNone)) = false := by rfl) :
    PE X (.Call (.Name x p) [] kws pos) (fun σ H Q => tk σ H fun zs H2 => zs.length = ks.length ∧ sp (gV [] zs) H2 Q E) := by
  refine ⟨fun pins s σ H Q I h => ?_⟩
  refine wpAny_Call_Name_kw (ld_glob I hg hm ?_ hdb)
  refine PySem.W.callWith_KW0 (h₀ := X.base) I.ok.mod.kin hk hall ?_ hpl
  refine thn (hkw.run pos pins s σ H _ I h) fun ws s2 ⟨zs, H2, I2, rz, l2, q2⟩ => ⟨I2.kIn, ?_⟩
  rw [hks]
  exact run_fnN (us := []) (vs := []) F hr hb hx I2 .nil rz rfl l2 q2
/-- a def that may be called by keywords alone -/
structure CalK (P : Program) (w : World) (K : PySem.W.Frag) (mg : Str → Option Value) (base : Heap) (k : Nat) (x : Str) (ks : List Str) (sp : Sp) : Prop where
  ex : ∃ (f : Addr) (fd : FuncData) (ps : List Str), FnOk P w K mg base CX0 k f fd ps sp ∧ mg x = some (.ref f) ∧ PySem.W.keepIn K (.ref f) = true ∧ KBn K fd ps 0 ks (fun _ ws => ws) (fun _ zs => zs)
theorem pe_ck {k j : Nat} {ks : List Str} {sp : Sp} {x : Str} {p pos : Pos} {kws : List Keyword} {tk : TA} (c : CalK X.prog X.w X.K X.mg X.base k x ks sp) (hr : Room j X.A) (hk : k ≤ j) (hg : Gl X x) (hkw : PK X kws tk)
    (hall : (backToKw pos (keywordEach kws X.env)).all (·.1.isSome) = true := by rfl) (hks : (backToKw pos (keywordEach kws X.env)).filterMap (·.1) = ks := by rfl) (hdb : (x == ("__debug__" : Str)) = false := by decide)
    (hpl : ((backTo pos (starEach [] X.env)).any (·.1) || (backToKw pos (keywordEach kws X.env)).any (·.1.isNone)) = false := by rfl) :
    PE X (.Call (.Name x p) [] kws pos) (fun σ H Q => tk σ H fun zs H2 => zs.length = ks.length ∧ sp zs H2 Q E0) := by
  obtain ⟨f, fd, ps, F, hm, hkp, hb⟩ := c.ex
  exact pe_kw0 F (hr.mono hk) hg hm hkp hb pass0 hkw hall hks hdb hpl
end
/-! ### digits -/
/-- the w binary digits of n, the highest first -/
def bitsW : Nat → Nat → List Nat
  | 0, _ => []
  | w + 1, n => bitsW w (n / 2) ++ [n % 2]
theorem bitsW_len : ∀ w n, (bitsW w n).length = w
  | 0, _ => rfl
  | w + 1, n => by rw [bitsW, List.length_append, bitsW_len w (n / 2)]; rfl
theorem bitsW_bit : ∀ w n, ∀ b ∈ bitsW w n, b < 2
  | 0, _, b, h => by cases h
  | w + 1, n, b, h => by
    rw [bitsW, List.mem_append] at h
    rcases h with h | h
    · exact bitsW_bit w _ b h
    · rw [List.mem_singleton] at h
      omega
theorem digit_code {b : Nat} (h : b < 2) : (Nat.digitChar b).toNat = 48 + b := by
  match b, h with
  | 0, _ => rfl
  | 1, _ => rfl
theorem binCodes_pow : ∀ w n, n < 2 ^ w → binCodes (2 ^ w + n) = 49 :: (bitsW w n).map (48 + ·)
  | 0, n, h => by
    have e : n = 0 := by omega
    subst e
    rfl
  | w + 1, n, h => by
    have p : 2 ^ (w + 1) = 2 * 2 ^ w := by rw [Nat.pow_succ, Nat.mul_comm]
    have g : 0 < 2 ^ w := Nat.two_pow_pos w
    have ih := binCodes_pow w (n / 2) (by omega)
    unfold binCodes at ih ⊢
    rw [Nat.toDigits_of_base_le (by decide) (by omega), List.map_append, show (2 ^ (w + 1) + n) / 2 = 2 ^ w + n / 2 by omega, ih, show (2 ^ (w + 1) + n) % 2 = n % 2 by omega, bitsW, List.map_append]
    show 49 :: _ ++ [(Nat.digitChar (n % 2)).toNat] = _
    rw [digit_code (Nat.mod_lt _ (by decide))]
    rfl
/-- the digits as numbers -/
def bitsI (w n : Nat) : List Int := (bitsW w n).map fun (b : Nat) => (b : Int)
theorem bitsI_len (w n : Nat) : (bitsI w n).length = w := by rw [bitsI, List.length_map, bitsW_len]
theorem digit_int {b : Nat} (h : b < 2) : PySem.intText? ⟨#[48 + b]⟩ = some (b : Int) := by
  match b, h with
  | 0, _ => decide +kernel
  | 1, _ => decide +kernel
theorem take_snoc {α : Type} {l : List α} {i : Nat} {x : α} (h : l[i]? = some x) : l.take i ++ [x] = l.take (i + 1) := by
  rw [List.take_add_one, h]
  rfl
end My
namespace My
open PySem PySem.Spec PyProof.Rows L2
/-! ### lists of numbers compared -/
theorem eqv_same {d : PyData} (h : SeqAt.shaped d = true) : PyData.eqv d d = true := SeqAt.eqv_refl d (SeqAt.canLay_of_shaped h)
theorem dpall_ints {K : PySem.W.Frag} {H : Hp} : ∀ ns : List Int, DpAll K H (ns.map V.int) (ns.map PyData.int)
  | [] => .nil
  | n :: r => .cons (.int n) (dpall_ints r)
theorem dp_ints {K : PySem.W.Frag} {H : Hp} {p : Addr} {ns : List Int} (h : SqL K H p (ns.map V.int)) : Dp K H (.ref p) (.list (ns.map PyData.int)) := .lst h (dpall_ints ns)
theorem sh_ints (ns : List Int) : SeqAt.shaped (.list (ns.map PyData.int)) = true := PySem.W.ke_shaped_ints ns
theorem q_eqI {K : PySem.W.Frag} {H : Hp} {p q : Addr} {ns : List Int} {Q : VK} (hp : H p = some (.lst (ns.map V.int))) (hq : H q = some (.lst (ns.map V.int))) (h : Q (.bl true) H) : rEqD K (.ref p) (.ref q) H Q :=
  ⟨_, _, dp_ints (.inl (.inl hp)), dp_ints (.inl (.inl hq)), sh_ints ns, sh_ints ns, by rw [eqv_same (sh_ints ns)]; exact h⟩
theorem q_neI {K : PySem.W.Frag} {H : Hp} {p q : Addr} {ns : List Int} {Q : VK} (hp : H p = some (.lst (ns.map V.int))) (hq : H q = some (.lst (ns.map V.int))) (h : Q (.bl false) H) : rNeD K (.ref p) (.ref q) H Q :=
  ⟨_, _, dp_ints (.inl (.inl hp)), dp_ints (.inl (.inl hq)), sh_ints ns, sh_ints ns, by rw [eqv_same (sh_ints ns)]; exact h⟩
/-! ### all but the source stays -/
def Up (a : Addr) (H H' : Hp) : Prop := ∀ b o, b ≠ a → H b = some o → H' b = some o
theorem Up.refl (a : Addr) (H : Hp) : Up a H H := fun _ _ _ h => h
theorem up_same {a : Addr} {H H' : Hp} (s : Same H H') : Up a H H' := fun b o _ h => s b o h
theorem But.up {a : Addr} {H H' : Hp} (u : But a H H') : Up a H H' := fun b o n h => (u b n).trans h
theorem Up.trans {a : Addr} {H H1 H2 : Hp} (u : Up a H H1) (v : Up a H1 H2) : Up a H H2 := fun b o n h => v b o n (u b o n h)
theorem Up.to {a : Addr} {G H H' : Hp} (u : Up a H H') (s : Same G H) (n : G a = none) : Same G H' := fun b o e => u b o (ne_of_none e n) (s b o e)
theorem Up.new {a p : Addr} {H H' : Hp} (u : Up a H H') (hs : Src H' a) (n : H' p = none) : H p = none := by
  cases e : H p with
  | none => rfl
  | some o =>
    have := u p o (hs.ne n).symm e
    rw [n] at this
    cases this
theorem src_keep {a p : Addr} {H : Hp} {o : HO} (n : a ≠ p) (h : Src H a) : Src (upd H p o) a := by
  obtain ⟨x, y, e, r⟩ := h
  exact ⟨x, y, by rw [upd_ne n]; exact e, r⟩
/-! ### digits by place -/
theorem bitsW_get : ∀ w n i, i < w → (bitsW w n)[i]? = some (n / 2 ^ (w - 1 - i) % 2)
  | 0, _, i, h => absurd h (Nat.not_lt_zero i)
  | w + 1, n, i, h => by
    rw [bitsW]
    by_cases e : i = w
    · subst e
      rw [List.getElem?_append_right (by rw [bitsW_len]; exact Nat.le_refl _), bitsW_len, show i - i = 0 by omega, show i + 1 - 1 - i = 0 by omega, Nat.pow_zero, Nat.div_one]
      rfl
    · rw [List.getElem?_append_left (by rw [bitsW_len]; omega), bitsW_get w (n / 2) i (by omega), Nat.div_div_eq_div_mul, show w + 1 - 1 - i = (w - 1 - i) + 1 by omega, Nat.pow_succ, Nat.mul_comm]
theorem bitsI_get {w n i : Nat} (h : i < w) : (bitsI w n)[i]? = some (((n / 2 ^ (w - 1 - i) % 2 : Nat)) : Int) := by
  rw [bitsI, List.getElem?_map, bitsW_get w n i h]
  rfl
end My
namespace My
open PySem PySem.Spec PyProof.Rows L2
section
variable {X : Cx}
/-- X(), X an own exception class without own __init__ -/
theorem pmk_none {C : Addr} {bmB : List Value} {B newId initId : String} {x : Str} {p pos : Pos} (F : ExcBaseFacts B newId initId bmB) (q : PySem.W.excIn X.K C bmB newId = true) (gC : X.mg x = some (.ref C)) (kC : PySem.W.keepIn X.K (.ref C) = true) (r : Raises X (.ref C)) (hg : Gl X x)
    (hdb : (x == ("__debug__" : Str)) = false := by decide) : PMk X (.Call (.Name x p) [] [] pos) (fun _ H Q => Q (.ref C) none H) := by
  intro pins s σ H Q I h
  refine wpAny_Call_Name_kw (ld_glob I hg gC (PySem.W.callWith_K0 I.kIn kC ?_) hdb)
  obtain ⟨bm, N, nm, qn, bs, hdct, sn, sub, ab, col, dd, k0, k1, k2, k3, k5, mN, hC, hN, hni, T⟩ := exc_obj I.kIn q
  exact wpAny_call_exc_subT F T hC hN hni (fun _ _ hm => mk_of I hm r h (I.hok.gone hm.new)) (Nat.zero_le _)
/-- isinstance of an own class against another one -/
theorem kit_ref {K : PySem.W.Frag} {C N : Addr} {b : Bool} (i : PySem.W.isClsIn K N = true) (t : PySem.W.typeIn K (.ref N) = some (.type "type")) (s : PySem.W.subIn K (.ref C) (.ref N) = some b) (n : b = false → PySem.W.subIn K (.ref C) (.ref C) = some true) :
    PySem.W.kitOne K (.ref C) (.ref N) = some b := by
  unfold PySem.W.kitOne
  by_cases e : ((Value.ref C) == (Value.ref N)) = true
  · rw [if_pos e]
    have e2 : C = N := Value.ref.inj (beq_iff_eq.mp e)
    subst e2
    cases b with
    | true => rfl
    | false =>
      rw [n rfl] at s
      cases s
  · rw [if_neg e]
    unfold PySem.W.kitCls
    have h : ((PySem.W.clsIn K N).isSome && PySem.W.typeIn K (.ref N) == some (.type "type")) = true := by
      rw [t, Bool.and_eq_true]
      exact ⟨i, by rfl⟩
    show (if _ then _ else _) = _
    rw [if_pos h]
    exact s
/-- an own exception class at C, as the top has written it -/
structure ECls (K : PySem.W.Frag) (mg : Str → Option Value) (x : Str) (C : Addr) : Prop where
  gC : mg x = some (.ref C)
  xC : PySem.W.excIn K C [.type "ValueError", .type "Exception", .type "BaseException", .type "object"] "ValueError.__new__" = true
  kC : PySem.W.keepIn K (.ref C) = true
  bC : PySem.W.subIn K (.ref C) (.type "BaseException") = some true
  tC : PySem.W.typeIn K (.ref C) = some (.type "type")
  ex : ExcC K C
  em : PySem.W.exmOne K (.ref C) (.ref C) = some true
/-- isinstance of the exception that a suite holds, its class told in the reading -/
theorem call_isE1 {a D : Addr} {oe : Obj} {cls : Value} {d : Option Addr} {pn : List (Addr × Obj)} (C : ExcC X.K D) (hz : Zc cls d oe) (hf : ∃ vs, oe.data = .fields vs) :
    CallR (X.suite a ((a, oe) :: pn)) (.builtin "isinstance") (fun xs H Q => cls = .ref D ∧ d = none ∧ rIsE X.K D a xs H Q) := by
  intro pins s σ H xs us Q I r h
  obtain ⟨e1, e2, h⟩ := h
  subst e1 e2
  exact call_isE C hz hf pins s σ H xs us Q I r h
end
end My
namespace My
open PySem PySem.Spec PyProof.Rows L2
/-! ### bit lengths, digits, values -/
def bl (n : Nat) : Nat := Builtin.Int.intBits (n : Int)
theorem bl_zero : bl 0 = 0 := rfl
theorem bl_pos {n : Nat} (h : 0 < n) : bl n = n.log2 + 1 := by
  unfold bl Builtin.Int.intBits
  rw [if_neg (by simp; omega), Int.natAbs_natCast]
theorem bl_lt (n : Nat) : n < 2 ^ bl n := by
  cases n with
  | zero => decide
  | succ n =>
    rw [bl_pos (Nat.succ_pos n)]
    exact Nat.lt_log2_self
theorem bl_le {n k : Nat} (h : n < 2 ^ k) : bl n ≤ k := PyProof.Rows.intBits_le (by rw [Int.natAbs_natCast]; exact h)
theorem bl_half {n : Nat} (h : 0 < n) : bl n = bl (n / 2) + 1 := by
  rw [bl_pos h]
  by_cases e : n = 1
  · subst e
    decide
  · rw [bl_pos (by omega), Nat.log2_def, if_pos (by omega)]
theorem bitsI_succ (w n : Nat) : bitsI (w + 1) n = bitsI w (n / 2) ++ [((n % 2 : Nat) : Int)] := by
  unfold bitsI
  rw [bitsW, List.map_append]
  rfl
def digs (n : Nat) : List Int := bitsI (bl n) n
theorem digs_zero : digs 0 = [] := rfl
theorem digs_step {n : Nat} (h : 0 < n) : digs n = digs (n / 2) ++ [((n % 2 : Nat) : Int)] := by
  unfold digs
  rw [bl_half h, bitsI_succ]
theorem digs_len (n : Nat) : (digs n).length = bl n := bitsI_len _ _
theorem digs_head : ∀ {n : Nat}, 0 < n → ∃ r, digs n = 1 :: r := by
  intro n
  induction n using Nat.strongRecOn with
  | _ n ih =>
    intro h
    rw [digs_step h]
    by_cases e : n = 1
    · subst e
      exact ⟨[], rfl⟩
    · obtain ⟨r, hr⟩ := ih (n / 2) (by omega) (by omega)
      rw [hr]
      exact ⟨r ++ [((n % 2 : Nat) : Int)], rfl⟩
def valI (xs : List Int) : Int := xs.foldl (fun v b => 2 * v + b) 0
theorem valI_snoc (xs : List Int) (b : Int) : valI (xs ++ [b]) = 2 * valI xs + b := by
  unfold valI
  rw [List.foldl_append]
  rfl
theorem valI_bits : ∀ w n, n < 2 ^ w → valI (bitsI w n) = n
  | 0, n, h => by
    have e : n = 0 := by omega
    subst e
    rfl
  | w + 1, n, h => by
    have p : 2 ^ (w + 1) = 2 * 2 ^ w := by rw [Nat.pow_succ, Nat.mul_comm]
    rw [bitsI_succ, valI_snoc, valI_bits w (n / 2) (by omega)]
    omega
theorem valI_digs (n : Nat) : valI (digs n) = n := valI_bits _ _ (bl_lt n)
theorem bitsI_bit {w n : Nat} {x : Int} (h : x ∈ bitsI w n) : 0 ≤ x ∧ x ≤ 1 := by
  obtain ⟨b, hb, rfl⟩ := List.mem_map.mp h
  have := bitsW_bit w n b hb
  omega
/-- all of them are bits -/
def AreBits (xs : List Int) : Prop := ∀ x ∈ xs, 0 ≤ x ∧ x ≤ 1
theorem AreBits.app {xs ys : List Int} (h : AreBits xs) (g : AreBits ys) : AreBits (xs ++ ys) := fun x m => by
  rcases List.mem_append.mp m with m | m
  · exact h x m
  · exact g x m
theorem AreBits.take {xs : List Int} (h : AreBits xs) (n : Nat) : AreBits (xs.take n) := fun x m => h x (List.mem_of_mem_take m)
theorem AreBits.zeros (n : Nat) : AreBits (List.replicate n 0) := fun x m => by
  rw [(List.mem_replicate.mp m).2]
  decide
/-- the code of a count -/
def code (c : Nat) : List Int := List.replicate (bl (c + 1) - 1) 0 ++ digs (c + 1)
theorem code_len (c : Nat) : (code c).length = 2 * bl (c + 1) - 1 := by
  have := bl_half (n := c + 1) (by omega)
  unfold code
  rw [List.length_append, List.length_replicate, digs_len]
  omega
theorem code_bits (c : Nat) : AreBits (code c) := (AreBits.zeros _).app fun _ m => bitsI_bit m
theorem flat_zeros (n : Nat) : (List.replicate n [V.int 0]).flatten = (List.replicate n (0 : Int)).map V.int := by
  induction n with
  | zero => rfl
  | succ n ih =>
    rw [List.replicate_succ, List.flatten_cons, ih, List.replicate_succ]
    rfl
theorem new_at {a p : Addr} {H : Hp} {o o' : HO} (h : H a = some o) (n : H p = none) : (upd H p o') a = some o := by
  rw [upd_ne (ne_of_none h n)]
  exact h
theorem cut_int {xs : List V} {x y : Int} {i k : Nat} (hx : x = (i : Int)) (hy : y = (k : Int)) (hik : i ≤ xs.length) (hk : k ≤ xs.length) : cutV xs (some x) (some y) = (xs.drop i).take (k - i) := by
  subst hx hy
  unfold cutV
  rw [HT.sIx_nat, HT.sIx_nat, Nat.min_eq_left hik, Nat.min_eq_left hk]
theorem cut_to {xs : List V} {y : Int} {k : Nat} (hy : y = (k : Int)) (hk : k ≤ xs.length) : cutV xs none (some y) = xs.take k := by
  subst hy
  unfold cutV
  rw [HT.sIx_none, HT.sIx_nat, Nat.min_eq_left hk, List.drop_zero, Nat.sub_zero]
theorem cut_any {xs : List V} {x y : Int} {i k : Nat} (hx : x = (i : Int)) (hy : y = (k : Int)) (hik : i ≤ xs.length) : cutV xs (some x) (some y) = (xs.drop i).take (k - i) := by
  subst hx hy
  unfold cutV
  rw [HT.sIx_nat, HT.sIx_nat, Nat.min_eq_left hik]
  by_cases h : k ≤ xs.length
  · rw [Nat.min_eq_left h]
  · rw [Nat.min_eq_right (by omega), List.take_of_length_le (by rw [List.length_drop]; omega), List.take_of_length_le (by rw [List.length_drop]; omega)]
/-! ### reading a count -/
/-- zeros ahead of the first 1 -/
def lz : List Int → Nat
  | [] => 0
  | x :: r => if x = 0 then lz r + 1 else 0
theorem lz_le : ∀ l : List Int, lz l ≤ l.length
  | [] => Nat.le_refl _
  | x :: r => by
    have := lz_le r
    simp only [lz, List.length_cons]
    split <;> omega
theorem lz_more : ∀ {l : List Int} {k : Nat}, k ≤ lz l → l[k]? = some 0 → k + 1 ≤ lz l
  | [], k, _, h => by simp at h
  | x :: r, 0, _, h => by
    have e : x = 0 := Option.some.inj h
    simp only [lz, e, if_true]
    omega
  | x :: r, k + 1, hk, h => by
    simp only [lz] at hk ⊢
    by_cases e : x = 0
    · rw [if_pos e] at hk ⊢
      have := lz_more (l := r) (k := k) (by omega) h
      omega
    · rw [if_neg e] at hk
      omega
theorem lz_stop : ∀ {l : List Int} {k : Nat} {x : Int}, k ≤ lz l → l[k]? = some x → x ≠ 0 → lz l = k
  | [], k, _, _, h, _ => by simp at h
  | y :: r, 0, x, _, h, hx => by
    have e : y = x := Option.some.inj h
    simp only [lz, e, if_neg hx]
  | y :: r, k + 1, x, hk, h, hx => by
    simp only [lz] at hk ⊢
    by_cases e : y = 0
    · rw [if_pos e] at hk ⊢
      have := lz_stop (l := r) (k := k) (x := x) (by omega) h hx
      omega
    · rw [if_neg e] at hk
      omega
theorem lz_zeros : ∀ (k : Nat) (l : List Int), lz (List.replicate k 0 ++ l) = k + lz l
  | 0, l => by simp
  | k + 1, l => by
    rw [List.replicate_succ, List.cons_append, lz, if_pos rfl, lz_zeros k l]
    omega
inductive RC where
  | long : RC
  | short : RC
  | read (v : Int) (stop : Nat) : RC
def readC (xs : List Int) (a : Nat) : RC :=
  if 40 < lz (xs.drop a) then .long else if xs.length < a + lz (xs.drop a) + 1 + lz (xs.drop a) then .short
  else .read (valI ((xs.drop (a + lz (xs.drop a))).take (lz (xs.drop a) + 1)) - 1) (a + lz (xs.drop a) + 1 + lz (xs.drop a))
def rcV : RC → List V
  | .long => [.str "long"]
  | .short => [.str "short"]
  | .read v s => [.str "read", .int v, .int s]
/-- a signed number of a count -/
def sgnR : RC → RC
  | .read v s => .read (if v % 2 = 0 then v / 2 else (-(v + 1)) / 2) s
  | r => r
theorem read_code {A B : List Int} {c : Nat} (h : c + 1 < 2 ^ 41) : readC (A ++ code c ++ B) A.length = .read c (A.length + (code c).length) := by
  obtain ⟨r, hr⟩ := digs_head (n := c + 1) (by omega)
  have l1 := bl_half (n := c + 1) (by omega)
  have l2 : bl (c + 1) ≤ 41 := bl_le h
  have e1 : (A ++ code c ++ B).drop A.length = List.replicate (bl (c + 1) - 1) 0 ++ (digs (c + 1) ++ B) := by
    rw [List.append_assoc, List.drop_left' rfl, code, List.append_assoc]
  have e2 : lz ((A ++ code c ++ B).drop A.length) = bl (c + 1) - 1 := by
    rw [e1, lz_zeros, hr]
    simp [lz]
  have e3 : (A ++ code c ++ B).drop (A.length + (bl (c + 1) - 1)) = digs (c + 1) ++ B := by
    rw [← List.drop_drop, e1, List.drop_left' (by rw [List.length_replicate])]
  have e4 : (digs (c + 1) ++ B).take (bl (c + 1) - 1 + 1) = digs (c + 1) := by
    rw [List.take_left' (by rw [digs_len]; omega)]
  unfold readC
  rw [e2, if_neg (by omega), if_neg (by rw [List.length_append, List.length_append, code_len]; omega), e3, e4, valI_digs, code_len]
  congr 1
  · omega
  · omega
theorem read_cut {A : List Int} {c t : Nat} (h : c + 1 < 2 ^ 41) (ht : t < (code c).length) : readC (A ++ (code c).take t) A.length = .short := by
  obtain ⟨r, hr⟩ := digs_head (n := c + 1) (by omega)
  have l1 := bl_half (n := c + 1) (by omega)
  have l2 : bl (c + 1) ≤ 41 := bl_le h
  rw [code_len] at ht
  have e0 : (A ++ (code c).take t).length = A.length + t := by
    rw [List.length_append, List.length_take, code_len]
    omega
  have e1 : (A ++ (code c).take t).drop A.length = (code c).take t := List.drop_left' rfl
  by_cases q : t ≤ bl (c + 1) - 1
  · have e2 : (code c).take t = List.replicate t 0 := by
      unfold code
      rw [List.take_append_of_le_length (by rw [List.length_replicate]; exact q), List.take_replicate, Nat.min_eq_left q]
    have e3 : lz ((A ++ (code c).take t).drop A.length) = t := by
      rw [e1, e2]
      have := lz_zeros t []
      rw [List.append_nil] at this
      rw [this]
      rfl
    unfold readC
    rw [e3, if_neg (by omega), if_pos (by rw [e0]; omega)]
  · have e2 : (code c).take t = List.replicate (bl (c + 1) - 1) 0 ++ (digs (c + 1)).take (t - (bl (c + 1) - 1)) := by
      unfold code
      rw [List.take_append, List.length_replicate, List.take_of_length_le (by rw [List.length_replicate]; omega)]
    have e3 : lz ((A ++ (code c).take t).drop A.length) = bl (c + 1) - 1 := by
      rw [e1, e2, lz_zeros, hr]
      obtain ⟨m, hm⟩ : ∃ m, t - (bl (c + 1) - 1) = m + 1 := ⟨t - (bl (c + 1) - 1) - 1, by omega⟩
      rw [hm, List.take_succ_cons]
      simp [lz]
    unfold readC
    rw [e3, if_neg (by omega), if_pos (by rw [e0]; omega)]
/-! ### what is told, as data -/
def rcD : RC → List PyData
  | .long => [.str "long"]
  | .short => [.str "short"]
  | .read v s => [.str "read", .int v, .int s]
theorem dp_rc {K : PySem.W.Frag} {H : Hp} {p : Addr} {r : RC} (h : H p = some (.tup (rcV r))) : Dp K H (.ref p) (.tuple (rcD r)) := by
  cases r with
  | long => exact .tup (.inl (.inl h)) (.cons (.str _) .nil)
  | short => exact .tup (.inl (.inl h)) (.cons (.str _) .nil)
  | read v s => exact .tup (.inl (.inl h)) (.cons (.str _) (.cons (.int _) (.cons (.int _) .nil)))
theorem sh_rc (r : RC) : SeqAt.shaped (.tuple (rcD r)) = true := by
  cases r with
  | long => decide +kernel
  | short => decide +kernel
  | read v s =>
    have h : PyData.canLay0 (.str "read") = true := by decide +kernel
    simp [SeqAt.shaped, rcD, PyData.canLay0, PyData.canLayAll0, PyData.depth, PyData.depthAll] at h ⊢
    try exact h
theorem q_neR {K : PySem.W.Frag} {H : Hp} {p q : Addr} {r : RC} {Q : VK} (hp : H p = some (.tup (rcV r))) (hq : H q = some (.tup (rcV r))) (h : Q (.bl false) H) : rNeD K (.ref p) (.ref q) H Q :=
  ⟨_, _, dp_rc hp, dp_rc hq, sh_rc r, sh_rc r, by rw [eqv_same (sh_rc r)]; exact h⟩
end My
namespace My
open PySem PySem.Spec PyProof.Rows L2
/-! ### several except clauses, each with a name -/
abbrev Clause := Value × Nat × (Addr → Value → Option Addr → TS)
def wAll (K : PySem.W.Frag) (Wout : WX) (D : Ends) : List Clause → WX
  | [] => Wout
  | (c, i, ts) :: more => wAs K c i ts (wAll K Wout D more) D
inductive Clauses (X : Cx) : List ExceptHandler → List Clause → Prop
  | done : Clauses X [] []
  | step {x n : Str} {c : Value} {i : Nat} {ts : Addr → Value → Option Addr → TS} {first : Stmt} {others : List Stmt} {p1 p2 : Pos} {hds : List ExceptHandler} {cs : List Clause}
      (cl : Names X x c) (slot : X.N[i]? = some n) (lo : X.env.kindOf n = some .local)
      (body : ∀ (a : Addr) (oe : Obj) (cls : Value) (d : Option Addr) (pn : List (Addr × Obj)), Zc cls d oe → (∃ vs, oe.data = .fields vs) → PSs (X.suite a ((a, oe) :: pn)) (first :: others) (ts a cls d))
      (more : Clauses X hds cs) : Clauses X (.ExceptHandler (some (.Name x p1)) (some n) (first :: others) p2 :: hds) ((c, i, ts) :: cs)
section
variable {X : Cx} {todo : List Stmt} {h0 : ExceptHandler} {hds : List ExceptHandler} {cs : List Clause} {pos : Pos} {tb : WX → TS} {Wout : WX}
theorem ps_try_all (e1 : X.stack = X.env :: X.outer) (e2 : X.env.frame = some X.env.locals) (nd : X.N.Nodup) (tk : Takes X Wout)
    (run : ∀ (W : WX) (pn : List (Addr × Obj)) (xe : Value → Shared → Prop), Takes (X.tr pn xe) W → PassesOwn (model X.prog X.w) X.A X.env xe → PSs (X.tr pn xe) todo (tb W))
    (all : Clauses X (h0 :: hds) cs) : PS X (.Try todo (h0 :: hds) [] [] pos) (fun D σ H => tb (wAll X.K Wout D cs) D σ H) := by
  constructor
  intro pins s σ H D I reading
  have here := I.ok
  have fr : X.A.frames = some (X.env :: X.outer) := by
    rw [here.frames, e1]
  apply wpAny_Try_except
  refine wpAny_mono ((run (wAll X.K Wout D cs) (X.pn ++ pins) _ (fun u t caught => ?landing) PassesOwn.looking).run [] s σ H D (I.toTry _) reading) (fun f t out => ?through) (fun _ _ z => z)
  case through =>
    cases f with
    | ret v =>
      obtain ⟨x, σ', H', J, rx, q⟩ := out
      exact ⟨x, σ', H', J.ofTry here, rx, q⟩
    | cont =>
      obtain ⟨σ', H', J, q⟩ := out
      exact ⟨σ', H', J.ofTry here, q⟩
    | brk =>
      obtain ⟨σ', H', J, q⟩ := out
      exact ⟨σ', H', J.ofTry here, q⟩
    | next =>
      obtain ⟨σ', H', J, q⟩ := out
      exact wpAny_execs_nil ⟨σ', H', J.ofTry here, q⟩
  case landing =>
    obtain ⟨a, B, sI, old, σ', H', cls, d, rfl, J0, nb, grown, sky0, fresh, os, bare, wish⟩ := caught
    have J : Inv X pins σ' H' sI := J0.ofTry here
    have sky : Sky B (X.env :: X.outer) a (Zc cls d) X.env.locals t.heap := e1 ▸ sky0
    refine Sky.land Zc.steady fr e2 sky (fun g fly up => ?_)
    have JG : Inv X pins σ' H' { t with heap := g } := J.landed nb fly.1 (grown.trans up) os bare
    obtain ⟨oe, vs, hoe, hz, hdat⟩ := fly.there
    have apart : a ∉ frs (X.env :: X.outer) := by
      intro m
      obtain ⟨_, o2, g2, no⟩ := fly.2.2.1.mem m
      rw [hoe] at g2
      cases g2
      exact no _ hdat
    have aL : a ≠ X.env.locals := by
      intro z
      exact apart (List.mem_filterMap.mpr ⟨X.env, List.mem_cons_self, by rw [e2, z]⟩)
    have aF : a ∉ X.fs := by
      intro m
      obtain ⟨ev, me, q⟩ := List.mem_filterMap.mp m
      exact apart (List.mem_filterMap.mpr ⟨ev, List.mem_cons_of_mem _ me, q⟩)
    have SG := JG.suite hoe hdat fresh aL aF
    have goOn : ∀ {hs2 : List ExceptHandler} {cs2 : List Clause}, Clauses X hs2 cs2 → wAll X.K Wout D cs2 cls d σ' H' → wpAny (model X.prog X.w) X.A (handleBy (.ref a) X.env hs2) (SP X pins D) X.xe { t with heap := g } := by
      intro hs2 cs2 k
      induction k with
      | done =>
        intro wsh
        apply wpAny_handleBy_nil
        obtain ⟨_, _, _, ob, fs, T, oT, ts', g1, z1, d1, f1, _⟩ := id fly
        have leave : wpAny (model X.prog X.w) X.A (setFlight (.ref a) X.env.frame) (fun _ t2 => wpAny (model X.prog X.w) X.A (throw (.ref a) : Sem Flow) (SP X pins D) X.xe t2) X.xe { t with heap := g } := by
          rw [e2]
          exact HandSPX.setFlight_upZ fly fun g3 fly3 up3 => wpAny_throw (tk _ _ ⟨a, B, sI, pins, σ', H', cls, d, rfl, J, nb, (grown.trans up).trans up3, .inr (.inr (e1.symm ▸ fly3)), fresh, os, bare, wsh⟩)
        unfold PySem.passOn
        apply wpAny_bind
        refine wpAny_field g1 d1 f1 ?_
        rw [if_neg (by simp)]
        first
          | exact wpAny_bind leave
          | exact wpAny_bind (wpAny_pure (wpAny_bind leave))
      | @step x n c i ts fst oth p1 p2 hs3 cs3 cl slot lo body more ih =>
        intro wsh
        obtain ⟨b, hb, yes, no⟩ := wsh
        have tyOf : PySem.W.Looks (model X.prog X.w) g (typeOf (.ref a)) cls := fun _ _ _ _ k q => wpAny_typeOf_ref (k _ _ hoe) (hz.1.symm ▸ q)
        have ask := PySem.W.exm_one (M := model X.prog X.w) JG.kIn tyOf hb
        refine wpAny_handleBy_cons (codeAny_handlers_test ?_) (fun z => by cases z)
        have named : ∀ {Q : Value → Shared → Prop} {E : Value → Shared → Prop}, Q c { t with heap := g } → wpAny (model X.prog X.w) (X.A.mark (some (.ref a))) (eval (.Name x p1) X.env) Q E { t with heap := g } := by
          intro Q E q
          obtain ⟨isG, nodbg, isM | ⟨isM, isB, nn⟩⟩ := cl
          · exact ld_glob (X := X.suite a ((a, oe) :: (X.pn ++ pins))) SG isG isM q nodbg
          · exact ld_blt (X := X.suite a ((a, oe) :: (X.pn ++ pins))) SG isG isM isB q nn nodbg
        refine named (ask.here ?_)
        cases b with
        | false => exact ih (no rfl)
        | true =>
          apply codeAny_handlers_suite_as
          refine HandSPX.lands_againZ fly (fun g4 fly4 up4 => ?_)
          have J4 : Inv X pins σ' H' { t with heap := g4 } := J.landed nb fly4.1 ((grown.trans up).trans up4) os bare
          obtain ⟨oe4, vs4, hoe4, hz4, hdat4⟩ := fly4.there
          have S4 := J4.suite hoe4 hdat4 fresh aL aF
          refine store_ok (X := X.suite a ((a, oe4) :: (X.pn ++ pins))) (v := .ref a) S4 nd slot (.inl lo) rfl (fun t5 S5 => ?_) (.inr lo)
          refine wpAny_mono ((body a oe4 cls d (X.pn ++ pins) hz4 ⟨_, hdat4⟩).run [] t5 _ H' _ S5 (yes rfl a fresh)) (fun f t6 out => ?_) (fun _ _ z => z.elim)
          have unname : ∀ {σ6 : L2.St} {H6 : Hp} {Q : Shared → Prop}, Inv (X.suite a ((a, oe4) :: (X.pn ++ pins))) [] σ6 H6 t6 → (∀ t7, Inv X pins (σ6.set i none) H6 t7 → Q t7) →
              wpAny (model X.prog X.w) X.A (do bindName X.env n .none; unbindBehindTheSuite X.env n p2) (fun _ t7 => Q t7) X.xe t6 := by
            intro σ6 H6 Q S6 hq
            exact gone_ok (S6.unsuite here) nd slot lo hq
          cases f with
          | ret u =>
            obtain ⟨v6, σ6, H6, S6, r6, q6⟩ := out
            exact unname S6 fun t7 J7 => ⟨v6, _, _, J7, r6, q6⟩
          | cont =>
            obtain ⟨σ6, H6, S6, q6⟩ := out
            exact unname S6 fun t7 J7 => ⟨_, _, J7, q6⟩
          | brk =>
            obtain ⟨σ6, H6, S6, q6⟩ := out
            exact unname S6 fun t7 J7 => ⟨_, _, J7, q6⟩
          | next =>
            obtain ⟨σ6, H6, S6, q6⟩ := out
            exact unname S6 fun t7 J7 => ⟨_, _, J7, q6⟩
    exact goOn all wish
end
end My
namespace My
open PySem PySem.Spec PyProof.Rows L2
/-! ### shapes of data, for comparing -/
structure ShD (n : Nat) (d : PyData) : Prop where
  lay : d.canLay0 = true
  dep : d.depth ≤ n
theorem ShD.sh {n : Nat} {d : PyData} (h : ShD n d) (hn : n ≤ 64) : SeqAt.shaped d = true := by
  unfold SeqAt.shaped
  rw [h.lay, decide_eq_true (Nat.le_trans h.dep hn)]
  rfl
theorem ShD.mono {n m : Nat} {d : PyData} (h : ShD n d) (hn : n ≤ m) : ShD m d := ⟨h.lay, Nat.le_trans h.dep hn⟩
theorem shd_int {n : Nat} (i : Int) : ShD n (.int i) := ⟨by simp [PyData.canLay0], by simp [PyData.depth]⟩
theorem shd_bl {n : Nat} (b : Bool) : ShD n (.bool b) := ⟨by simp [PyData.canLay0], by simp [PyData.depth]⟩
theorem shd_non {n : Nat} : ShD n .none := ⟨by simp [PyData.canLay0], by simp [PyData.depth]⟩
theorem shd_str {n : Nat} {x : Str} (h : PyData.canLay0 (.str x) = true) : ShD n (.str x) := ⟨h, by simp [PyData.depth]⟩
theorem shd_all {n : Nat} : ∀ {ds : List PyData}, (∀ d ∈ ds, ShD n d) → PyData.canLayAll0 ds = true ∧ PyData.depthAll ds ≤ n
  | [], _ => ⟨rfl, Nat.zero_le _⟩
  | d :: r, h => by
    have h1 := h d List.mem_cons_self
    have h2 := shd_all (ds := r) fun x m => h x (List.mem_cons_of_mem _ m)
    refine ⟨?_, ?_⟩
    · rw [PyData.canLayAll0, h1.lay, h2.1]
      rfl
    · rw [PyData.depthAll]
      exact Nat.max_le.mpr ⟨h1.dep, h2.2⟩
theorem shd_lst {n : Nat} {ds : List PyData} (h : ∀ d ∈ ds, ShD n d) : ShD (n + 1) (.list ds) := ⟨by rw [PyData.canLay0]; exact (shd_all h).1, by rw [PyData.depth]; exact Nat.succ_le_succ (shd_all h).2⟩
theorem shd_tup {n : Nat} {ds : List PyData} (h : ∀ d ∈ ds, ShD n d) : ShD (n + 1) (.tuple ds) := ⟨by rw [PyData.canLay0]; exact (shd_all h).1, by rw [PyData.depth]; exact Nat.succ_le_succ (shd_all h).2⟩
theorem shd_ints {n : Nat} (ns : List Int) : ShD (n + 1) (.list (ns.map PyData.int)) := shd_lst fun d m => by
  obtain ⟨i, _, rfl⟩ := List.mem_map.mp m
  exact shd_int i
theorem q_eqS {K : PySem.W.Frag} {H : Hp} {x y : V} {d : PyData} {Q : VK} (hx : Dp K H x d) (hy : Dp K H y d) (s : SeqAt.shaped d = true) (h : Q (.bl true) H) : rEqD K x y H Q :=
  ⟨_, _, hx, hy, s, s, by rw [eqv_same s]; exact h⟩
theorem q_neS {K : PySem.W.Frag} {H : Hp} {x y : V} {d : PyData} {Q : VK} (hx : Dp K H x d) (hy : Dp K H y d) (s : SeqAt.shaped d = true) (h : Q (.bl false) H) : rNeD K x y H Q :=
  ⟨_, _, hx, hy, s, s, by rw [eqv_same s]; exact h⟩
/-! ### a body that may let out what is caught -/
theorem pss_ex {X : Cx} {W : WX} {n : Nat} {ss : List Stmt} {r : XK → TS} (h : ∀ E : XK, (∀ cls d σ' H', E cls d H' → σ'.length = n → W cls d σ' H') → PSs X ss (r E)) :
    PSs X ss (fun D σ H => ∃ E : XK, (∀ cls d σ' H', E cls d H' → σ'.length = n → W cls d σ' H') ∧ r E D σ H) :=
  ⟨fun pins s σ H D I ⟨E, hE, q⟩ => (h E hE).run pins s σ H D I q⟩
theorem takes_len {X : Cx} {W : WX} (t : Takes X W) : Takes X (fun c d σ H => σ.length = X.N.length → W c d σ H) := fun u s' ⟨a, B, sI, pins, σ, H, cls, d, e, I, nb, up, sky, na, os, ag, w⟩ =>
  t u s' ⟨a, B, sI, pins, σ, H, cls, d, e, I, nb, up, sky, na, os, ag, w I.len⟩
theorem vk_mono {tl : XK → Hp → VK → Prop} {E : XK} {H : Hp} {R R' : VK} (he : ∀ v H1, R v H1 ↔ R' v H1) (h : tl E H R) : tl E H R' := by
  have e : R = R' := funext fun v => funext fun H1 => propext (he v H1)
  rw [← e]
  exact h
theorem len3 {σ : L2.St} (h : σ.length = 3) : ∃ x y z, σ = [x, y, z] := match σ, h with | [x, y, z], _ => ⟨x, y, z, rfl⟩
/-! ### a def that makes lambdas: its code object is known -/
structure FunC (K : PySem.W.Frag) (x qual : Str) (st : Stmt) (f : Addr) (fd : FuncData) (c : Addr) : Prop where
  ex : ∃ (oc : Value) (od : Option Addr) (kV doc pm : Value) (an : Option Addr) (ct : Value) (osl : Array (Option Value)),
    fd = PySem.W.fnOf x qual (defArgs st) (defBody st) (defScope st) .none kV doc pm an (.ref c) ct ∧ K.lookup f = some ⟨oc, od, .func fd, osl⟩ ∧ PySem.W.codeIn K (.ref c) qual = true
theorem FunC.ok {P : Program} {w : World} {K : PySem.W.Frag} {mg : Str → Option Value} {base : Heap} {x qual : Str} {st : Stmt} {f c : Addr} {fd : FuncData} {N ps : List Str} {k : Nat} {sp : Sp} (F : FunC K x qual st f fd c) (S : FnScope N ps (defScope st)) (len : ∀ vs H Q E, sp vs H Q E → vs.length = ps.length)
    (hbody : ∀ (A : Around) (outer : List Env) (s : Shared) (H : Hp) (vs : List V) (Q : VK) (E : XK), Room k (A.deeper (envOfC qual (defScope st) s.heap.objs.size f (.ref c))) → sp vs H Q E →
      ∃ t, PSs (cxOf CX0 P w K mg base N qual (defScope st) f (.ref c) A outer s H E).nox (defBody st) t ∧ t { nx := fun _ H' => Q .non H', rt := Q } (start N vs) H) : FnOk P w K mg base CX0 (k + 1) f fd ps sp := by
  obtain ⟨oc, od, kV, doc, pm, an, ct, osl, rfl, lk, hcd⟩ := F.ex
  refine fn_of lk hcd S len fun A outer s H vs Q E hr hsp => ?_
  obtain ⟨t, h, q⟩ := hbody A outer s H vs Q E hr hsp
  exact ⟨t, h.nox, q⟩
theorem funC_mk {K : PySem.W.Frag} {x qual : Str} {st : Stmt} {f c0 : Addr} {oc : Value} {od an : Option Addr} {osl : Array (Option Value)} {kV doc pm ct : Value} (l : K.lookup f = some ⟨oc, od, .func (PySem.W.fnOf x qual (defArgs st) (defBody st) (defScope st) .none kV doc pm an (.ref c0) ct), osl⟩)
    (c : PySem.W.codeIn K (.ref c0) qual = true) : FunC K x qual st f (PySem.W.fnOf x qual (defArgs st) (defBody st) (defScope st) .none kV doc pm an (.ref c0) ct) c0 := ⟨⟨oc, od, kV, doc, pm, an, ct, osl, rfl, l, c⟩⟩
/-! ### tables beside draws -/
def UpN (a : Addr) (H H' : Hp) : Prop := ∀ b o, b ≠ a → H b = some o → (∀ ps, o ≠ .tbl ps) → H' b = some o
theorem UpN.refl (a : Addr) (H : Hp) : UpN a H H := fun _ _ _ h _ => h
theorem UpN.trans {a : Addr} {H H1 H2 : Hp} (u : UpN a H H1) (v : UpN a H1 H2) : UpN a H H2 := fun b o n h t => v b o n (u b o n h t) t
theorem Up.n {a : Addr} {H H' : Hp} (u : Up a H H') : UpN a H H' := fun b o n h _ => u b o n h
theorem ext_n {a : Addr} {H H' : Hp} (x : LamX.ExtN H H') : UpN a H H' := fun b o _ h t => x b o h t
theorem Src.ext {a : Addr} {H H' : Hp} (x : LamX.ExtN H H') (s : Src H a) : Src H' a := by
  obtain ⟨u, v, e, r⟩ := s
  exact ⟨u, v, x _ _ e (fun ps z => by cases z), r⟩
theorem tabs_up {T : List (Addr × Str)} {a : Addr} {H H' : Hp} (t : LamX.Tabs T H) (u : Up a H H') (s : Src H a) : LamX.Tabs T H' := fun p hp => by
  obtain ⟨x, y, e, _⟩ := s
  obtain ⟨ps, h1, h2, h3⟩ := t p hp
  refine ⟨ps, u _ _ (fun z => ?_) h1, h2, fun pos cv hc => ?_⟩
  · rw [z, e] at h1
    cases h1
  · obtain ⟨c, e1, e2⟩ := h3 pos cv hc
    refine ⟨c, e1, u _ _ (fun z => ?_) e2⟩
    rw [z, e] at e2
    unfold LamX.CodeO at e2
    cases e2
theorem tabs_same {T : List (Addr × Str)} {H H' : Hp} (t : LamX.Tabs T H) (s : Same H H') : LamX.Tabs T H' := t.ext fun b o e => s b o e
theorem ext_same {H H' : Hp} (s : Same H H') : LamX.ExtN H H' := fun b o e _ => s b o e
theorem UpN.to {a : Addr} {G H H' : Hp} (u : UpN a H H') (x : LamX.ExtN G H) (n : G a = none) : LamX.ExtN G H' := fun b o e t => u b o (ne_of_none e n) (x b o e t) t
theorem ext_seq {K : PySem.W.Frag} {H H' : Hp} {a : Addr} {xs : List V} (x : LamX.ExtN H H') (h : SqL K H a xs) : SqL K H' a xs := by
  rcases h with (h | ⟨o, h⟩) | h
  · exact .inl (.inl (x _ _ h (fun ps z => nomatch z)))
  · exact .inl (.inr ⟨o, x _ _ h (fun ps z => nomatch z)⟩)
  · exact .inr h
/-! ### the value of bits -/
theorem valI_lt : ∀ (n : Nat) (xs : List Int), xs.length = n → AreBits xs → ∃ z : Nat, valI xs = (z : Int) ∧ z < 2 ^ n
  | 0, xs, h, _ => by
    rw [List.length_eq_zero_iff.mp h]
    exact ⟨0, rfl, by decide⟩
  | n + 1, xs, h, hb => by
    rcases List.eq_nil_or_concat xs with rfl | ⟨ys, y, rfl⟩
    · cases h
    have hl : ys.length = n := by
      rw [List.length_concat] at h
      omega
    rw [List.concat_eq_append] at hb ⊢
    obtain ⟨z, hz, hz2⟩ := valI_lt n ys hl fun b m => hb b (List.mem_append_left _ m)
    have hb2 := hb y (List.mem_append_right _ (List.mem_singleton.mpr rfl))
    rw [valI_snoc, hz]
    have p : 2 ^ (n + 1) = 2 * 2 ^ n := by rw [Nat.pow_succ, Nat.mul_comm]
    exact ⟨2 * z + y.toNat, by omega, by omega⟩
/-! ### digits with zeros ahead -/
theorem bitsW_zero : ∀ d, bitsW d 0 = List.replicate d 0
  | 0 => rfl
  | d + 1 => by
    rw [bitsW, Nat.zero_div, bitsW_zero d, List.replicate_succ']
theorem bitsW_pad (d : Nat) : ∀ w n, n < 2 ^ w → bitsW (d + w) n = List.replicate d 0 ++ bitsW w n
  | 0, n, h => by
    have e : n = 0 := by omega
    subst e
    rw [Nat.add_zero, bitsW_zero, bitsW, List.append_nil]
  | w + 1, n, h => by
    have p : 2 ^ (w + 1) = 2 * 2 ^ w := by rw [Nat.pow_succ, Nat.mul_comm]
    show bitsW (d + w + 1) n = _
    rw [bitsW, bitsW, bitsW_pad d w (n / 2) (by omega), List.append_assoc]
theorem bitsI_pad (d w n : Nat) (h : n < 2 ^ w) : bitsI (d + w) n = List.replicate d 0 ++ bitsI w n := by
  unfold bitsI
  rw [bitsW_pad d w n h, List.map_append, List.map_replicate]
  rfl
end My
namespace My
open PySem PySem.Spec PyProof.Rows L2
local macro_rules | `(tactic| walk_at "sq") => `(tactic| first | assumption | exact .inl (.inl (by assumption)) | exact .inl (.inl upd_same))
local macro_rules | `(tactic| walk_at "st") => `(tactic| first
  | refine ⟨_, rfl, ?_⟩
  | refine ⟨_, _, rfl, rfl, ?_⟩
  | refine ⟨cmull (by omega) (by omega), ?_⟩
  | refine ⟨cmulr (by omega) (by omega), ?_⟩
  | refine ⟨cdivw (by omega) (by omega), ?_⟩
  | refine ⟨(⟨by decide, by decide⟩ : CDiv _ _), ?_⟩
  | refine ⟨(show (0 : Int) < _ by omega), ?_⟩
  | refine ⟨(show (0 : Int) ≤ _ by omega), ?_⟩
  | refine ⟨(⟨by decide, by decide, by decide⟩ : CPow _ _), ?_⟩
  | refine ⟨(⟨by omega, by omega, by omega⟩ : CPow _ _), ?_⟩
  | refine .inl ⟨_, rfl, ?_⟩
  | refine .inr ⟨_, rfl, ?_⟩
  | refine ⟨_, _, _, _, _, rfl, .ty _, .base (.int _), kit_ii, ?_⟩
  | refine ⟨_, _, _, _, _, rfl, .ty _, .base (.int _), kit_ib, ?_⟩
  | refine ⟨_, _, _, _, _, rfl, .ty _, .base (.tup (by assumption)), kit_tt, ?_⟩
  | refine ⟨_, _, _, _, _, rfl, .ty _, .base (.lst (by assumption)), kit_ll, ?_⟩
  | refine iteT ?_
  | refine iteF ?_
  | refine ⟨_, _, rfl, .inl (.inl (by first | assumption | exact upd_same)), rfl, ?_⟩
  | refine ⟨_, _, rfl, ?_⟩
  | refine ⟨cmulr (by split <;> decide) (by split <;> decide), ?_⟩
  | refine ⟨_, _, rfl, .inl (by walk_at "sq"), ?_⟩
  | refine ⟨_, _, rfl, .inr (by walk_at "sq"), ?_⟩
  | refine ⟨_, _, _, _, rfl, rfl, (by walk_at "sq"), rfl, ?_⟩
  | refine ⟨rfl, ?_⟩
  | (refine ite2 (fun hc => ?_) (fun hc => ?_) <;> (try simp only [decide_eq_true_eq, Bool.not_eq_true', decide_eq_false_iff_not, Bool.not_eq_true, Bool.not_eq_false', Bool.false_eq_true, reduceCtorEq, V.int.injEq, not_true_eq_false, not_false_eq_true] at hc) <;> (try (exfalso; omega))))
local macro_rules | `(tactic| walk_at "ev") => `(tactic| repeat' walk_at "st")
def top (i : Nat) : Stmt := PySem.Challenge.pw_narrowingbits_k00_counts_read_back.main.body.getD i (.Pass ⟨0, 0, 0, 0⟩)
abbrev s_is_number : Stmt := top 8
theorem sc_is_number : FnScope ["thing"] ["thing"] (defScope s_is_number) := ⟨rfl, rfl, rfl, by decide +kernel, rfl, by decide +kernel, by decide +kernel⟩
abbrev s_check_bits : Stmt := top 9
theorem sc_check_bits : FnScope ["bits", "bit"] ["bits"] (defScope s_check_bits) := ⟨rfl, rfl, rfl, by decide +kernel, rfl, by decide +kernel, by decide +kernel⟩
abbrev s_number_of : Stmt := top 10
theorem sc_number_of : FnScope ["bits", "number", "bit"] ["bits"] (defScope s_number_of) := ⟨rfl, rfl, rfl, by decide +kernel, rfl, by decide +kernel, by decide +kernel⟩
abbrev s_fixed : Stmt := top 11
theorem sc_fixed : FnScope ["n", "w", "text", "digit"] ["n", "w"] (defScope s_fixed) := ⟨rfl, rfl, rfl, by decide +kernel, rfl, by decide +kernel, by decide +kernel⟩
abbrev s_count_bits : Stmt := top 12
theorem sc_count_bits : FnScope ["n", "m", "length"] ["n"] (defScope s_count_bits) := ⟨rfl, rfl, rfl, by decide +kernel, rfl, by decide +kernel, by decide +kernel⟩
abbrev s_count_at : Stmt := top 13
theorem sc_count_at : FnScope ["bits", "at", "one", "zeros", "stop"] ["bits", "at"] (defScope s_count_at) := ⟨rfl, rfl, rfl, by decide +kernel, rfl, by decide +kernel, by decide +kernel⟩
abbrev s_check_place : Stmt := top 14
theorem sc_check_place : FnScope ["bits", "at"] ["bits", "at"] (defScope s_check_place) := ⟨rfl, rfl, rfl, by decide +kernel, rfl, by decide +kernel, by decide +kernel⟩
abbrev s_read_count : Stmt := top 15
theorem sc_read_count : FnScope ["bits", "at"] ["bits", "at"] (defScope s_read_count) := ⟨rfl, rfl, rfl, by decide +kernel, rfl, by decide +kernel, by decide +kernel⟩
abbrev s_law_pool : Stmt := top 17
theorem sc_law_pool : FnScope ["_law_script", "_law_k", "_law_cell", "_law_big", "_law_mixed"] ["_law_script", "_law_k"] (defScope s_law_pool) := ⟨rfl, rfl, rfl, by decide +kernel, rfl, by decide +kernel, by decide +kernel⟩
abbrev s_law_take : Stmt := top 18
theorem sc_law_take : FnScope ["_law_source", "_law_most", "_law_drawn"] ["_law_source", "_law_most"] (defScope s_law_take) := ⟨rfl, rfl, rfl, by decide +kernel, rfl, by decide +kernel, by decide +kernel⟩
abbrev s_law_bits : Stmt := top 19
theorem sc_law_bits : FnScope ["_law_source", "_law_most", "_law_turn"] ["_law_source", "_law_most"] (defScope s_law_bits) := ⟨rfl, rfl, rfl, by decide +kernel, rfl, by decide +kernel, by decide +kernel⟩
abbrev s_law_digits : Stmt := top 20
theorem sc_law_digits : FnScope ["_law_number", "_law_rest", "_law_found"] ["_law_number"] (defScope s_law_digits) := ⟨rfl, rfl, rfl, by decide +kernel, rfl, by decide +kernel, by decide +kernel⟩
abbrev s_law_are_bits : Stmt := top 21
theorem sc_law_are_bits : FnScope ["_law_told", "_law_one"] ["_law_told"] (defScope s_law_are_bits) := ⟨rfl, rfl, rfl, by decide +kernel, rfl, by decide +kernel, by decide +kernel⟩
abbrev s_law_count : Stmt := top 22
theorem sc_law_count : FnScope ["_law_source", "_law_way", "_law_great"] ["_law_source"] (defScope s_law_count) := ⟨rfl, rfl, rfl, by decide +kernel, rfl, by decide +kernel, by decide +kernel⟩
abbrev s_law_code : Stmt := top 23
theorem sc_law_code : FnScope ["_law_count_here", "_law_digits_here"] ["_law_count_here"] (defScope s_law_code) := ⟨rfl, rfl, rfl, by decide +kernel, rfl, by decide +kernel, by decide +kernel⟩
abbrev s_law_word : Stmt := top 24
theorem sc_law_word : FnScope ["_law_call", "_law_told", "e"] ["_law_call"] (defScope s_law_word) := ⟨rfl, rfl, rfl, by decide +kernel, rfl, by decide +kernel, by decide +kernel⟩
abbrev s_law_fixed_right : Stmt := top 25
theorem sc_law_fixed_right : FnScope ["_law_source", "_law_digits_here", "_law_one", "_law_due", "_law_least", "_law_number", "_law_width"] ["_law_source"] (defScope s_law_fixed_right) := ⟨rfl, rfl, rfl, by decide +kernel, rfl, by decide +kernel, by decide +kernel⟩
abbrev s_law_read_right : Stmt := top 26
theorem sc_law_read_right : FnScope ["_law_source", "_law_count_here", "_law_code_here", "_law_ahead", "_law_behind", "_law_told", "_law_whole", "_law_due"] ["_law_source"] (defScope s_law_read_right) := ⟨rfl, rfl, rfl, by decide +kernel, rfl, by decide +kernel, by decide +kernel⟩
abbrev s_law : Stmt := top 27
theorem sc_law : FnScope ["_law_script", "_law_k", "_law_source", "_law_beyond"] ["_law_script"] (defScope s_law) := ⟨rfl, rfl, rfl, by decide +kernel, rfl, by decide +kernel, by decide +kernel⟩
section
variable {P : Program} {w : World} {K : PySem.W.Frag} {mg : Str → Option Value} {base : Heap}
structure Txt (mg : Str → Option Value) : Prop where
  z_int : mg "int" = none
  z_len : mg "len" = none
  z_max : mg "max" = none
  z_min : mg "min" = none
  z_range : mg "range" = none
  z_isinstance : mg "isinstance" = none
  z_bool : mg "bool" = none
  z_list : mg "list" = none
/-! ### fixed -/
def spFixed : Sp := fun vs H Q _ => ∃ (n w : Nat), vs = [.int n, .int w] ∧ n < 2 ^ w ∧ w ≤ 900 ∧ ∀ (p : Addr) (H' : Hp), H p = none → Same H H' → H' p = some (.lst ((bitsI w n).map V.int)) → Q (.ref p) H'
theorem ok_fixed {f : Addr} {fd : FuncData} {k : Nat} (F : Fun K "fixed" "fixed" s_fixed f fd) (T : Txt mg) : FnOk P w K mg base CX0 (k + 1) f fd ["n", "w"] spFixed := by
  refine F.ok sc_fixed (fun vs H Q E h => ?_) (fun cdv A outer s H vs Q E hr h => ?_)
  · obtain ⟨n, w, rfl, _⟩ := h
    rfl
  · obtain ⟨n, w, rfl, hn, hw, q⟩ := h
    have hb : Builtin.Int.intBits (n : Int) ≤ w := PyProof.Rows.intBits_le (by omega)
    refine ⟨_, (pss_cons (ps_if (PW.pt (pw_or (pt_cmpR op_lt (pv 0) pe_int (nomark _)) (pw_or (pt_cmpR op_lt (pv 1) pe_int (nomark _)) (pw_or1 (pt_cmpR op_gt (pe_bits (pv 0)) (pv 1) (nomark _)))))) (pss_one ps_never) pss_nil)
    (pss_cons (ps_set (i := 2) sc_fixed.nd rfl (Or.inl rfl) (pe_joined1 (pe_fmtB (pe_op op_add (pe_op op_shl pe_int (pv 1)) (pv 0)))))
    (pss_one (ps_ret (pe_lc (own := [("digit", 3)]) (g := gName 3) (tt := tYes) rfl sc_fixed.nd (pi_str (pe_slice C8.sl_txt (pv 2) (po_some pe_int) po_none)) (blkOk_by (N := ["n", "w", "text", "digit"]) (sc := defScope s_fixed) (by decide +kernel)) (fun _ _ _ _ _ => pg_name (i := 3) sc_fixed.nd rfl (Or.inl rfl)) (fun _ _ _ _ _ => pts_nil) (fun _ _ _ _ _ => (pe_callTy call_int_str (by rfl) T.z_int PyProof.Rows.boot_int (pa_cons (pv 3) pa_nil)))))))), ?_⟩
    walk_at "ev"
    have e0 : (1 : Int) * 2 ^ (w : Int).toNat + (n : Int) = ((2 ^ w + n : Nat) : Int) := by
      rw [Int.one_mul, Int.toNat_natCast, Int.natCast_add, Int.natCast_pow]
      rfl
    have eL : (binCodes (2 ^ w + n)).length = w + 1 := by
      rw [binCodes_pow w n hn, List.length_cons, List.length_map, bitsW_len]
    have eD : (Nat.toDigits 2 (2 ^ w + n)).length ≤ sizeLine := by
      have := eL
      unfold binCodes at this
      rw [List.length_map] at this
      rw [this]
      exact Nat.le_of_lt (small1000 (by omega))
    refine ⟨by rw [e0]; exact Int.natCast_nonneg _, ?_⟩
    rw [e0, Int.natAbs_natCast]
    refine ⟨eD, ?_⟩
    have es : Txt.slice (SX.S (binCodes (2 ^ w + n))) (some 1) none = SX.S ((bitsW w n).map (48 + ·)) := by
      rw [SX.slice_from (by decide), binCodes_pow w n hn]
      rfl
    have eN : (SX.S ((bitsW w n).map (48 + ·))).cps.size = w := by
      show ((bitsW w n).map (48 + ·)).toArray.size = w
      rw [List.size_toArray, List.length_map, bitsW_len]
    walk_at "ev"
    refine ⟨by rw [SX.S_len, eL]; exact Nat.le_of_lt (small1000 (by omega)), ?_⟩
    rw [es]
    walk_at "ev"
    intro D hD
    refine lc_it (walk_str (z := SX.S ((bitsW w n).map (48 + ·)))) (fun i H1 => Same H H1 ∧ H1 D = some (.lst (((bitsI w n).take i).map V.int))) ⟨same_upd hD, upd_same⟩ (fun _ _ _ _ => trivial) ?_ ?_
    · rintro i x H1 H2 hi ⟨s1, e1⟩ ⟨rfl, c, hc, rfl⟩
      rw [eN] at hi
      have hb : i < (bitsW w n).length := by rw [bitsW_len]; exact hi
      have ec : c = 48 + (bitsW w n)[i] := by
        have h2 : ((bitsW w n).map (48 + ·)).toArray[i]? = some c := hc
        rw [List.getElem?_toArray, List.getElem?_map, List.getElem?_eq_getElem hb] at h2
        exact (Option.some.inj h2).symm
      subst ec
      have hb2 : (bitsW w n)[i] < 2 := bitsW_bit w n _ (List.getElem_mem _)
      have gi : (bitsI w n)[i]? = some ((bitsW w n)[i] : Int) := by
        rw [bitsI, List.getElem?_map, List.getElem?_eq_getElem hb]
        rfl
      walk_at "ev"
      refine ⟨_, _, rfl, digit_int hb2, (by decide : 1 ≤ 640), _, e1, ?_, ?_, ?_⟩
      · rw [List.length_map, List.length_take]
        exact Nat.lt_of_le_of_lt (Nat.min_le_left _ _) (small1000 (by omega))
      · exact fun b o e => by
          rw [upd_ne (ne_of_none e hD)]
          exact s1 b o e
      · rw [upd_same, ← take_snoc gi, List.map_append]
        rfl
    · rintro H1 ⟨s1, e1⟩
      refine q D H1 hD s1 ?_
      rw [e1, eN, List.take_of_length_le (by rw [bitsI_len]; exact Nat.le_refl _)]
/-! ### a draw -/
def spTake : Sp := fun vs H Q _ => ∃ (a : Addr) (m : Int), vs = [.ref a, .int m] ∧ Src H a ∧ 0 < m ∧ m < 18446744073709551616 ∧ ∀ (r : Int) (H' : Hp), 0 ≤ r → r < m → Src H' a → But a H H' → Q (.int r) H'
theorem ok_take {f : Addr} {fd : FuncData} {k : Nat} (F : Fun K "_law_take" "_law_take" s_law_take f fd) (T : Txt mg) : FnOk P w K mg base CX0 (k + 1) f fd ["_law_source", "_law_most"] spTake := by
  refine F.ok sc_law_take (fun vs H Q E h => ?_) (fun cdv A outer s H vs Q E hr h => ?_)
  · obtain ⟨a, m, rfl, _⟩ := h
    rfl
  · obtain ⟨a, m, rfl, ⟨x, y, ha, hx, hy, hy2⟩, hm, hm2, q⟩ := h
    refine ⟨_, (pss_cons (ps_if (pt_cmpR op_gt (pe_ix ix_list (pv 0) pe_int (fun _ _ => rfl)) pe_int (nomark _)) (pss_cons (ps_set (i := 2) sc_law_take.nd rfl (Or.inl rfl) (pe_op op_mod (pe_callTy call_int1 (by rfl) T.z_int PyProof.Rows.boot_int (pa_cons (pe_ix ix_list (pv 0) pe_int (fun _ _ => rfl)) pa_nil)) (pv 1)))
    (pss_cons (ps_asg (pe_op op_fdivW (pe_ix ix_list (pv 0) pe_int (fun _ _ => rfl)) (pv 1)) (pg_sub (pv 0) pe_int set_list))
    (pss_one (ps_ret (pv 2))))) pss_nil)
    (pss_cons (ps_asg (pe_op op_mod (pe_callTy call_int1 (by rfl) T.z_int PyProof.Rows.boot_int (pa_cons (pe_op op_add (pe_op op_mul (pe_ix ix_list (pv 0) pe_int (fun _ _ => rfl)) pe_int) pe_int) pa_nil)) pe_int) (pg_sub (pv 0) pe_int set_list))
    (pss_one (ps_ret (pe_op op_mod (pe_callTy call_int1 (by rfl) T.z_int PyProof.Rows.boot_int (pa_cons (pe_op op_fdiv (pe_op op_mod (pe_callTy call_int1 (by rfl) T.z_int PyProof.Rows.boot_int (pa_cons (pe_op op_mul (pe_ix ix_list (pv 0) pe_int (fun _ _ => rfl)) (pe_ix ix_list (pv 0) pe_int (fun _ _ => rfl))) pa_nil)) pe_int) pe_int) pa_nil)) (pv 1)))))), ?_⟩
    walk_at "ev"
    · refine q _ _ (Int.emod_nonneg _ (by omega)) (Int.emod_lt_of_pos _ hm) ⟨_, _, upd_same, Int.ediv_nonneg hx (by omega), hy, hy2⟩ But.upd
    · refine q _ _ (Int.emod_nonneg _ (by omega)) (Int.emod_lt_of_pos _ hm) ⟨_, _, upd_same, hx, Int.emod_nonneg _ (by omega), Int.emod_lt_of_pos _ (by omega)⟩ But.upd
/-! ### the pool of a cell -/
def spPool (K : PySem.W.Frag) : Sp := fun vs H Q _ => ∃ (a : Addr) (ns : List Int) (k : Int), vs = [.ref a, .int k] ∧ SqL K H a (ns.map V.int) ∧ 0 ≤ k ∧ k < 100 ∧ ∀ (p : Addr) (H' : Hp), H p = none → Same H H' → Src H' p → Q (.ref p) H'
theorem ok_pool {f : Addr} {fd : FuncData} {k : Nat} (F : Fun K "_law_pool" "_law_pool" s_law_pool f fd) (T : Txt mg) : FnOk P w K mg base CX0 (k + 1) f fd ["_law_script", "_law_k"] (spPool K) := by
  refine F.ok sc_law_pool (fun vs H Q E h => ?_) (fun cdv A outer s H vs Q E hr h => ?_)
  · obtain ⟨a, ns, k, rfl, _⟩ := h
    rfl
  · obtain ⟨a, ns, k, rfl, hS, hk, hk2, q⟩ := h
    refine ⟨_, (pss_cons (ps_set (i := 2) sc_law_pool.nd rfl (Or.inl rfl) pe_int)
    (pss_cons (ps_if (pt_cmpR op_lt (pv 1) (pe_callB call_len_seq (by rfl) T.z_len PySem.boot_len (pa_cons (pv 0) pa_nil)) (nomark _)) (pss_one (ps_set (i := 2) sc_law_pool.nd rfl (Or.inl rfl) (pe_ix ix_list (pv 0) (pv 1) (fun _ _ => rfl)))) pss_nil)
    (pss_cons (ps_set (i := 3) sc_law_pool.nd rfl (Or.inl rfl) (pe_callB (call_max2 rfl) (by rfl) T.z_max PyProof.Rows.boot_max (pa_cons (pe_callTy call_int1 (by rfl) T.z_int PyProof.Rows.boot_int (pa_cons (pv 2) pa_nil)) (pa_cons (pe_callTy call_int1 (by rfl) T.z_int PyProof.Rows.boot_int (pa_cons (pe_op op_sub (pe_un un_neg pe_int) (pv 2)) pa_nil)) pa_nil))))
    (pss_cons (ps_set (i := 4) sc_law_pool.nd rfl (Or.inl rfl) (pe_op op_mod (pe_callTy call_int1 (by rfl) T.z_int PyProof.Rows.boot_int (pa_cons (pe_op op_mul (pe_op op_add (pe_op op_add (pe_op op_add (pe_op op_mod (pe_callTy call_int1 (by rfl) T.z_int PyProof.Rows.boot_int (pa_cons (pv 3) pa_nil)) pe_int) (pe_op op_mul (pe_op op_mul pe_int (pv 1)) (pv 1))) (pe_op op_mul pe_int (pv 1))) pe_int) pe_int) pa_nil)) pe_int))
    (pss_one (ps_ret (pe_lst (pa_cons (pe_op op_mul (pv 3) (pe_callTy call_int1 (by rfl) T.z_int PyProof.Rows.boot_int (pa_cons (pe_cmpR op_ge (pv 3) (pe_op (op_powc (a := 10) (b := 18) (c := 1000000000000000000) ⟨by decide, by decide, by decide⟩ (by decide +kernel)) pe_int pe_int) (nomark _)) pa_nil))) (pa_cons (pv 4) pa_nil))))))))), ?_⟩
    walk_at "ev"
    · obtain ⟨z, hz⟩ := at_lt hk (by assumption)
      refine ⟨_, _, _, _, rfl, rfl, hS, hz, ?_⟩
      walk_at "ev"
      refine ⟨(by show 2 ≤ sizeLine; decide), fun p np => q p _ np (same_upd np) ⟨_, _, upd_same, pool_nn _ _, Int.emod_nonneg _ (by omega), Int.emod_lt_of_pos _ (by omega)⟩⟩
    · refine ⟨(by show 2 ≤ sizeLine; decide), fun p np => q p _ np (same_upd np) ⟨_, _, upd_same, pool_nn _ _, Int.emod_nonneg _ (by omega), Int.emod_lt_of_pos _ (by omega)⟩⟩
/-! ### bits -/
def spIsNum : Sp := fun vs H Q _ => ∃ (z : Int), vs = [.int z] ∧ Q (.bl true) H
theorem ok_is_number {f : Addr} {fd : FuncData} {k : Nat} (F : Fun K "is_number" "is_number" s_is_number f fd) (T : Txt mg) : FnOk P w K mg base CX0 (k + 1) f fd ["thing"] spIsNum := by
  refine F.ok sc_is_number (fun vs H Q E h => ?_) (fun cdv A outer s H vs Q E hr h => ?_)
  · obtain ⟨z, rfl, _⟩ := h
    rfl
  · obtain ⟨z, rfl, q⟩ := h
    refine ⟨_, (pss_one (ps_ret (pe_and (pe_callB call_isi (by rfl) T.z_isinstance PyProof.Rows.boot_isinstance (pa_cons (pv 0) (pa_cons (pe_bltn (v := .ty "int") (by rfl) T.z_int PyProof.Rows.boot_int rfl) pa_nil))) (pe_one (pe_not (pe_callB call_isi (by rfl) T.z_isinstance PyProof.Rows.boot_isinstance (pa_cons (pv 0) (pa_cons (pe_bltn (v := .ty "bool") (by rfl) T.z_bool PyProof.Rows.boot_bool rfl) pa_nil)))))))), ?_⟩
    walk_at "ev"
    exact q
def spCheckB : Sp := fun vs H Q _ => ∃ (p : Addr) (xs : List Int), vs = [.ref p] ∧ H p = some (.lst (xs.map V.int)) ∧ AreBits xs ∧ Q .non H
theorem ok_check_bits {f : Addr} {fd : FuncData} {k : Nat} (F : Fun K "check_bits" "check_bits" s_check_bits f fd) (c_is_number : C8.Cal P w K mg base 1 "is_number" spIsNum []) : FnOk P w K mg base CX0 (k + 2) f fd ["bits"] spCheckB := by
  refine F.ok sc_check_bits (fun vs H Q E h => ?_) (fun cdv A outer s H vs Q E hr h => ?_)
  · obtain ⟨p, xs, rfl, _⟩ := h
    rfl
  · obtain ⟨p, xs, rfl, hp, hb, q⟩ := h
    refine ⟨_, (pss_one (ps_for PassesOwn.never rfl (pi_list (pv 0)) (pg_name (i := 1) sc_check_bits.nd rfl (Or.inl rfl))
      (pss_one (ps_if (PW.pt (pw_or (pt_not (pt_val (C8.pe_c c_is_number hr (by omega) (by rfl) (pa_cons (pv 1) pa_nil)))) (pw_or1 (pt_not (pt_chain op_le op_le pe_int (pv 1) pe_int))))) (pss_one ps_never) pss_nil)))), ?_⟩
    walk_at "ev"
    refine ⟨⟨_, .inl (.inl hp)⟩, for_list (K := K) (a := p) (xs := xs.map V.int) (fun _ σ H1 => ∃ v, σ = [some (.ref p), v] ∧ H1 = H) ⟨_, rfl, rfl⟩ (fun _ _ _ _ ⟨_, _, e⟩ => by rw [e]; exact .inl (.inl hp)) ?_ ?_⟩
    · rintro i x σ H1 hx ⟨v, rfl, rfl⟩
      rw [List.getElem?_map] at hx
      obtain ⟨z, hz, rfl⟩ := Option.map_eq_some_iff.mp hx
      have hz2 := hb z (List.mem_of_getElem? hz)
      walk_at "ev"
      rfl
    · rintro σ H1 ⟨v, rfl, rfl⟩
      exact q
def spNumber : Sp := fun vs H Q _ => ∃ (p : Addr) (xs : List Int), vs = [.ref p] ∧ H p = some (.lst (xs.map V.int)) ∧ Q (.int (valI xs)) H
theorem ok_number_of {f : Addr} {fd : FuncData} {k : Nat} (F : Fun K "number_of" "number_of" s_number_of f fd) : FnOk P w K mg base CX0 (k + 1) f fd ["bits"] spNumber := by
  refine F.ok sc_number_of (fun vs H Q E h => ?_) (fun cdv A outer s H vs Q E hr h => ?_)
  · obtain ⟨p, xs, rfl, _⟩ := h
    rfl
  · obtain ⟨p, xs, rfl, hp, q⟩ := h
    refine ⟨_, (pss_cons (ps_set (i := 1) sc_number_of.nd rfl (Or.inl rfl) pe_int)
    (pss_cons (ps_for PassesOwn.never rfl (pi_list (pv 0)) (pg_name (i := 2) sc_number_of.nd rfl (Or.inl rfl))
      (pss_one (ps_set (i := 1) sc_number_of.nd rfl (Or.inl rfl) (pe_op op_add (pe_op op_mul pe_int (pv 1)) (pv 2)))))
    (pss_one (ps_ret (pv 1))))), ?_⟩
    walk_at "ev"
    refine ⟨⟨_, .inl (.inl hp)⟩, for_list (K := K) (a := p) (xs := xs.map V.int) (fun i σ H1 => ∃ v, σ = [some (.ref p), some (.int (valI (xs.take i))), v] ∧ H1 = H) ⟨_, rfl, rfl⟩ (fun _ _ _ _ ⟨_, _, e⟩ => by rw [e]; exact .inl (.inl hp)) ?_ ?_⟩
    · rintro i x σ H1 hx ⟨v, rfl, rfl⟩
      rw [List.getElem?_map] at hx
      obtain ⟨z, hz, rfl⟩ := Option.map_eq_some_iff.mp hx
      walk_at "ev"
      refine ⟨some (.int z), ?_, rfl⟩
      rw [← take_snoc hz, valI_snoc]
      rfl
    · rintro σ H1 ⟨v, rfl, rfl⟩
      walk_at "ev"
      rw [List.length_map, List.take_length]
      exact q
/-! ### codes -/
def spCountBits : Sp := fun vs H Q _ => ∃ (c : Nat), vs = [.int c] ∧ c + 1 < 2199023255552 ∧ ∀ (p : Addr) (H' : Hp), H p = none → Same H H' → H' p = some (.lst ((code c).map V.int)) → Q (.ref p) H'
theorem ok_count_bits {f : Addr} {fd : FuncData} {k : Nat} {t : Tok} (F : Fun K "count_bits" "count_bits" s_count_bits f fd) (hG : mg "GREATEST_COUNT" = some (.int 2199023255550 t)) (c_fixed : C8.Cal P w K mg base 1 "fixed" spFixed []) : FnOk P w K mg base CX0 (k + 2) f fd ["n"] spCountBits := by
  refine F.ok sc_count_bits (fun vs H Q E h => ?_) (fun cdv A outer s H vs Q E hr h => ?_)
  · obtain ⟨c, rfl, _⟩ := h
    rfl
  · obtain ⟨c, rfl, hc, q⟩ := h
    have hb : bl (c + 1) ≤ 41 := bl_le hc
    have hb1 := bl_half (n := c + 1) (by omega)
    refine ⟨_, (pss_cons (ps_if (pt_not (pt_chain op_le op_le pe_int (pv 0) (pe_glob (v := .int 2199023255550) (by rfl) hG ⟨_, rfl⟩))) (pss_one ps_never) pss_nil)
    (pss_cons (ps_set (i := 1) sc_count_bits.nd rfl (Or.inl rfl) (pe_op op_add (pv 0) pe_int))
    (pss_cons (ps_set (i := 2) sc_count_bits.nd rfl (Or.inl rfl) (pe_bits (pv 1)))
    (pss_one (ps_ret (pe_op op_cat (pe_op op_rep (pe_lst (pa_cons pe_int pa_nil)) (pe_op op_sub (pv 2) pe_int)) (C8.pe_c c_fixed hr (by omega) (by rfl) (pa_cons (pv 1) (pa_cons (pv 2) pa_nil))))))))), ?_⟩
    walk_at "ev"
    rw [show Builtin.Int.intBits ((c : Int) + 1) = bl (c + 1) from rfl]
    walk_at "ev"
    refine ⟨(by show 1 ≤ sizeLine; decide), fun p0 n0 => ?_⟩
    walk_at "ev"
    refine ⟨p0, _, _, rfl, rfl, upd_same, by omega, by omega, ?_, fun p1 n1 => ?_⟩
    · show 1 * _ ≤ sizeLine
      exact Nat.le_of_lt (small1000 (by omega))
    walk_at "ev"
    refine ⟨bl_lt _, by omega, fun p2 H2 n2 s2 h2 => ?_⟩
    refine ⟨p1, p2, _, _, rfl, rfl, s2 _ _ upd_same, h2, ?_, fun p3 n3 => ?_⟩
    · rw [flat_zeros, List.length_map, List.length_map, List.length_replicate, bitsI_len]
      exact Nat.le_of_lt (small1000 (by omega))
    · have sA := ((same_upd n0).trans (same_upd n1)).trans (s2.trans (same_upd (o := .lst ((List.replicate ((bl (c + 1) : Int) - 1).toNat [V.int 0]).flatten ++ (bitsI (bl (c + 1)) (c + 1)).map V.int)) n3))
      refine q p3 _ ?_ sA ?_
      · exact (((same_upd n0).trans (same_upd n1)).trans s2).free n3
      · rw [upd_same, flat_zeros, ← List.map_append, show ((bl (c + 1) : Int) - 1).toNat = bl (c + 1) - 1 by omega]
        rfl
def spCountAt : Sp := fun vs H Q _ => ∃ (p : Addr) (xs : List Int) (a : Nat), vs = [.ref p, .int a] ∧ H p = some (.lst (xs.map V.int)) ∧ AreBits xs ∧ a ≤ xs.length ∧ xs.length ≤ 1000 ∧ ∀ (q : Addr) (H' : Hp), H q = none → Same H H' → H' q = some (.tup (rcV (readC xs a))) → Q (.ref q) H'
theorem ok_count_at {f : Addr} {fd : FuncData} {k : Nat} {t : Tok} (F : Fun K "count_at" "count_at" s_count_at f fd) (T : Txt mg) (hZ : mg "MOST_ZEROS" = some (.int 40 t)) (c_number_of : C8.Cal P w K mg base 1 "number_of" spNumber []) : FnOk P w K mg base CX0 (k + 2) f fd ["bits", "at"] spCountAt := by
  refine F.ok sc_count_at (fun vs H Q E h => ?_) (fun cdv A outer s H vs Q E hr h => ?_)
  · obtain ⟨p, xs, a, rfl, _⟩ := h
    rfl
  · obtain ⟨p, xs, a, rfl, hp, hb, ha, hl, q⟩ := h
    have hz := lz_le (xs.drop a)
    rw [List.length_drop] at hz
    refine ⟨_, (pss_cons (ps_set (i := 2) sc_count_at.nd rfl (Or.inl rfl) (pv 1))
    (pss_cons (ps_while PassesOwn.never (PW.pt (pw_and (pt_cmpR op_lt (pv 2) (pe_callB call_len_seq (by rfl) T.z_len PySem.boot_len (pa_cons (pv 0) pa_nil)) (nomark _)) (pw_and1 (pt_cmpR op_eq (pe_ix ix_list (pv 0) (pv 2) (fun _ _ => rfl)) pe_int (nomark _)))))
      (pss_cons (ps_aug (i := 2) sc_count_at.nd rfl (Or.inl rfl) pe_int ip_add)
    (pss_one (ps_if (pt_cmpR op_gt (pe_op op_sub (pv 2) (pv 1)) (pe_glob (v := .int 40) (by rfl) hZ ⟨_, rfl⟩) (nomark _)) (pss_one (ps_ret (pe_tup (pa_cons pe_str pa_nil)))) pss_nil))))
    (pss_cons (ps_set (i := 3) sc_count_at.nd rfl (Or.inl rfl) (pe_op op_sub (pv 2) (pv 1)))
    (pss_cons (ps_set (i := 4) sc_count_at.nd rfl (Or.inl rfl) (pe_op op_add (pe_op op_add (pv 2) pe_int) (pv 3)))
    (pss_cons (ps_if (pt_cmpR op_gt (pv 4) (pe_callB call_len_seq (by rfl) T.z_len PySem.boot_len (pa_cons (pv 0) pa_nil)) (nomark _)) (pss_one (ps_ret (pe_tup (pa_cons pe_str pa_nil)))) pss_nil)
    (pss_one (ps_ret (pe_tup (pa_cons pe_str (pa_cons (pe_op op_sub (C8.pe_c c_number_of hr (by omega) (by rfl) (pa_cons (pe_slice sl_list (pv 0) (po_some (pv 2)) (po_some (pv 4))) pa_nil)) pe_int) (pa_cons (pv 4) pa_nil))))))))))), ?_⟩
    walk_at "ev"
    refine ⟨fun m σ H1 => ∃ j : Nat, σ = [some (.ref p), some (.int a), some (.int ((a + j : Nat) : Int)), none, none] ∧ H1 = H ∧ j ≤ lz (xs.drop a) ∧ j ≤ 40 ∧ m = xs.length - (a + j), ⟨_, 0, rfl, rfl, Nat.zero_le _, Nat.zero_le _, rfl⟩, ?_⟩
    rintro m σ H1 ⟨j, rfl, rfl, hj, hj2, rfl⟩
    have hml : (xs.map V.int).length = xs.length := List.length_map _
    have sh : ∀ {r}, readC xs a = r → ∀ (o : HO), o = .tup (rcV r) → ∀ (q' : Addr), H1 q' = none → Q (.ref q') (upd H1 q' o) := fun e o eo q' nq => q q' _ nq (same_upd nq) (by rw [upd_same, eo, e])
    walk_at "ev"
    · obtain ⟨z, hz1⟩ : ∃ z, xs[a + j]? = some z := by
        refine ⟨xs[a + j]'?_, List.getElem?_eq_getElem _⟩
        have : ((a + j : Nat) : Int) < ((xs.map V.int).length : Int) := by assumption
        rw [List.length_map] at this
        omega
      have hd : (xs.drop a)[j]? = some z := by
        rw [List.getElem?_drop]
        exact hz1
      have hlt : a + j < xs.length := (List.getElem?_eq_some_iff.mp hz1).1
      refine ⟨_, _, _, _, rfl, rfl, .inl (.inl hp), at_of (j := a + j) rfl (by rw [List.getElem?_map, hz1]; rfl), ?_⟩
      walk_at "ev"
      · have e0 : z = 0 := by assumption
        subst e0
        have hj3 := lz_more hj hd
        refine ⟨_, fun σ' H' h => h, ?_⟩
        walk_at "ev"
        · refine ⟨(by show 1 ≤ sizeLine; decide), sh (r := .long) ?_ _ rfl⟩
          unfold readC
          rw [if_pos (by omega)]
        · refine ⟨xs.length - (a + (j + 1)), by omega, j + 1, rfl, rfl, hj3, by omega, rfl⟩
      · have e0 : z ≠ 0 := by assumption
        have hlz := lz_stop hj hd e0
        refine ⟨(by show 1 ≤ sizeLine; decide), sh (r := .short) ?_ _ rfl⟩
        unfold readC
        rw [hlz, if_neg (by omega), if_pos (by omega)]
      · have e0 : z ≠ 0 := by assumption
        have hlz := lz_stop hj hd e0
        have hst : a + j + 1 + j ≤ xs.length := by omega
        walk_at "ev"
        refine ⟨_, _, rfl, .inl (.inl hp), fun p1 n1 => ?_⟩
        walk_at "ev"
        refine ⟨p1, (xs.drop (a + j)).take (j + 1), rfl, ?_, ?_⟩
        · rw [upd_same, cut_int (i := a + j) (k := a + j + 1 + j) rfl (by omega) (by rw [List.length_map]; omega) (by rw [List.length_map]; omega), List.map_take, List.map_drop, show a + j + 1 + j - (a + j) = j + 1 by omega]
        · walk_at "ev"
          refine ⟨(by show 3 ≤ sizeLine; decide), fun p2 n2 => q p2 _ ((same_upd n1).free n2) ((same_upd n1).trans (same_upd n2)) ?_⟩
          rw [upd_same, show readC xs a = .read (valI ((xs.drop (a + j)).take (j + 1)) - 1) (a + j + 1 + j) by
            unfold readC
            rw [hlz, if_neg (by omega), if_neg (by omega)]]
          have e9 : ((a + j : Nat) : Int) + 1 + (((a + j : Nat) : Int) - (a : Int)) = ((a + j + 1 + j : Nat) : Int) := by omega
          show some (HO.tup [_, V.int _, V.int (((a + j : Nat) : Int) + 1 + (((a + j : Nat) : Int) - (a : Int)))]) = _
          rw [e9]
          rfl
    · have hlz : lz (xs.drop a) = j := by omega
      walk_at "ev"
      refine ⟨(by show 1 ≤ sizeLine; decide), sh (r := .short) ?_ _ rfl⟩
      unfold readC
      rw [hlz, if_neg (by omega), if_pos (by omega)]
def spCheckP : Sp := fun vs H Q _ => ∃ (p : Addr) (xs : List Int) (a : Nat), vs = [.ref p, .int a] ∧ H p = some (.lst (xs.map V.int)) ∧ AreBits xs ∧ a ≤ xs.length ∧ Q .non H
theorem ok_check_place {f : Addr} {fd : FuncData} {k : Nat} (F : Fun K "check_place" "check_place" s_check_place f fd) (T : Txt mg) (c_check_bits : C8.Cal P w K mg base 2 "check_bits" spCheckB []) : FnOk P w K mg base CX0 (k + 3) f fd ["bits", "at"] spCheckP := by
  refine F.ok sc_check_place (fun vs H Q E h => ?_) (fun cdv A outer s H vs Q E hr h => ?_)
  · obtain ⟨p, xs, a, rfl, _⟩ := h
    rfl
  · obtain ⟨p, xs, a, rfl, hp, hb, ha, q⟩ := h
    have hml : (xs.map V.int).length = xs.length := List.length_map _
    refine ⟨_, (pss_cons (ps_expr (C8.pe_c c_check_bits hr (by omega) (by rfl) (pa_cons (pv 0) pa_nil)))
    (pss_one (ps_if (pt_not (pt_chain op_le op_le pe_int (pv 1) (pe_callB call_len_seq (by rfl) T.z_len PySem.boot_len (pa_cons (pv 0) pa_nil)))) (pss_one ps_never) pss_nil))), ?_⟩
    walk_at "ev"
    refine ⟨p, xs, rfl, hp, hb, ?_⟩
    walk_at "ev"
    exact q
def spReadC : Sp := fun vs H Q _ => ∃ (p : Addr) (xs : List Int) (a : Nat), vs = [.ref p, .int a] ∧ H p = some (.lst (xs.map V.int)) ∧ AreBits xs ∧ a ≤ xs.length ∧ xs.length ≤ 1000 ∧ ∀ (q : Addr) (H' : Hp), H q = none → Same H H' → H' q = some (.tup (rcV (readC xs a))) → Q (.ref q) H'
theorem ok_read_count {f : Addr} {fd : FuncData} {k : Nat} (F : Fun K "read_count" "read_count" s_read_count f fd) (c_check_place : C8.Cal P w K mg base 3 "check_place" spCheckP []) (c_count_at : C8.Cal P w K mg base 2 "count_at" spCountAt []) : FnOk P w K mg base CX0 (k + 4) f fd ["bits", "at"] spReadC := by
  refine F.ok sc_read_count (fun vs H Q E h => ?_) (fun cdv A outer s H vs Q E hr h => ?_)
  · obtain ⟨p, xs, a, rfl, _⟩ := h
    rfl
  · obtain ⟨p, xs, a, rfl, hp, hb, ha, hl, q⟩ := h
    refine ⟨_, (pss_cons (ps_expr (C8.pe_c c_check_place hr (by omega) (by rfl) (pa_cons (pv 0) (pa_cons (pv 1) pa_nil))))
    (pss_one (ps_ret (C8.pe_c c_count_at hr (by omega) (by rfl) (pa_cons (pv 0) (pa_cons (pv 1) pa_nil)))))), ?_⟩
    walk_at "ev"
    refine ⟨p, xs, a, rfl, hp, hb, ha, ?_⟩
    walk_at "ev"
    refine ⟨p, xs, a, rfl, hp, hb, ha, hl, ?_⟩
    exact q
/-! ### drawn bits -/
def spBits : Sp := fun vs H Q _ => ∃ (a : Addr) (m : Int), vs = [.ref a, .int m] ∧ Src H a ∧ 0 ≤ m ∧ m ≤ 100 ∧ ∀ (p : Addr) (xs : List Int) (H' : Hp), H p = none → (xs.length : Int) ≤ m → AreBits xs → H' p = some (.lst (xs.map V.int)) → Src H' a → Up a H H' → Q (.ref p) H'
theorem ok_bits {f : Addr} {fd : FuncData} {k : Nat} (F : Fun K "_law_bits" "_law_bits" s_law_bits f fd) (T : Txt mg) (c_law_take : C8.Cal P w K mg base 1 "_law_take" spTake []) : FnOk P w K mg base CX0 (k + 2) f fd ["_law_source", "_law_most"] spBits := by
  refine F.ok sc_law_bits (fun vs H Q E h => ?_) (fun cdv A outer s H vs Q E hr h => ?_)
  · obtain ⟨a, m, rfl, _⟩ := h
    rfl
  · obtain ⟨a, m, rfl, ha, hm, hm2, q⟩ := h
    refine ⟨_, (pss_one (ps_ret (pe_lc (own := [("_law_turn", 2)]) (g := gName 2) (tt := tYes) rfl sc_law_bits.nd (pi_range1 (by rfl) T.z_range (pa_cons (C8.pe_c c_law_take hr (by omega) (by rfl) (pa_cons (pv 0) (pa_cons (pe_op op_add (pv 1) pe_int) pa_nil))) pa_nil)) (blkOk_by (N := ["_law_source", "_law_most", "_law_turn"]) (sc := defScope s_law_bits) (by decide +kernel)) (fun _ _ _ _ _ => pg_name (i := 2) sc_law_bits.nd rfl (Or.inl rfl)) (fun _ _ _ _ _ => pts_nil) (fun _ _ _ _ _ => (C8.pe_c c_law_take hr (by omega) (by rfl) (pa_cons (pv 0) (pa_cons pe_int pa_nil))))))), ?_⟩
    walk_at "ev"
    refine ⟨ha, (by omega), (by omega), fun r H1 h0 h1 s1 u1 => ?_⟩
    walk_at "ev"
    refine ⟨by omega, by omega, fun D nD => ?_⟩
    have nDa : a ≠ D := s1.ne nD
    refine lc_it walk_range (fun t H2 => ∃ xs : List Int, xs.length = t ∧ AreBits xs ∧ H2 D = some (.lst (xs.map V.int)) ∧ Src H2 a ∧ Up a H1 H2) ⟨[], rfl, fun _ m => absurd m (List.not_mem_nil), upd_same, src_same (same_upd nD) s1, up_same (same_upd nD)⟩ (fun _ _ _ _ => trivial) ?_ ?_
    · rintro t x H2 H3 ht ⟨xs, hl, hb, e2, s2, u2⟩ ⟨rfl, rfl⟩
      walk_at "ev"
      refine ⟨s2, (by decide), (by decide), fun r2 H4 g0 g1 s4 u4 => ?_⟩
      walk_at "ev"
      refine ⟨_, (u4 D nDa.symm).trans e2, ?_, xs ++ [r2], ?_, ?_, ?_, ?_, ?_⟩
      · rw [List.length_map]
        exact small1000 (by omega)
      · rw [List.length_append, hl]
        rfl
      · exact hb.app fun z m => by
          rw [List.mem_singleton.mp m]
          omega
      · rw [upd_same, List.map_append]
        rfl
      · exact src_keep nDa s4
      · exact fun b o nb e => by
          rw [upd_ne (ne_of_none e nD)]
          exact (u4 b nb).trans (u2 b o nb e)
    · rintro H2 ⟨xs, hl, hb, e2, s2, u2⟩
      exact q D xs H2 (u1.up.new s1 nD) (by omega) hb e2 s2 (u1.up.trans u2)
def spDigits : Sp := fun vs H Q _ => ∃ (n : Nat), vs = [.int n] ∧ n < 2 ^ 900 ∧ ∀ (p : Addr) (H' : Hp), H p = none → Same H H' → H' p = some (.lst ((digs n).map V.int)) → Q (.ref p) H'
theorem ok_digits {f : Addr} {fd : FuncData} {k : Nat} (F : Fun K "_law_digits" "_law_digits" s_law_digits f fd) : FnOk P w K mg base CX0 (k + 1) f fd ["_law_number"] spDigits := by
  refine F.ok sc_law_digits (fun vs H Q E h => ?_) (fun cdv A outer s H vs Q E hr h => ?_)
  · obtain ⟨n, rfl, _⟩ := h
    rfl
  · obtain ⟨n, rfl, hn, q⟩ := h
    have hbn : bl n ≤ 900 := bl_le hn
    refine ⟨_, (pss_cons (ps_par (i := 1) (j := 2) rfl sc_law_digits.nd rfl rfl (by decide) rfl rfl (pa_cons (pv 0) (pa_cons (pe_lst pa_nil) pa_nil)) rfl)
    (pss_cons (ps_while PassesOwn.never (pt_cmpR op_gt (pv 1) pe_int (nomark _))
      (pss_cons (ps_set (i := 2) sc_law_digits.nd rfl (Or.inl rfl) (pe_op op_cat (pe_lst (pa_cons (pe_op op_mod (pv 1) pe_int) pa_nil)) (pv 2)))
    (pss_one (ps_set (i := 1) sc_law_digits.nd rfl (Or.inl rfl) (pe_op op_fdiv (pv 1) pe_int)))))
    (pss_one (ps_ret (pv 2))))), ?_⟩
    walk_at "ev"
    refine ⟨(by show 0 ≤ sizeLine; decide), fun p0 n0 => ?_⟩
    walk_at "ev"
    refine ⟨fun m σ H1 => ∃ (r : Nat) (f : Addr) (ds : List Int), σ = [some (.int n), some (.int r), some (.ref f)] ∧ H f = none ∧ Same H H1 ∧ H1 f = some (.lst (ds.map V.int)) ∧ digs n = digs r ++ ds ∧ m = r, ⟨_, n, p0, [], rfl, n0, same_upd n0, upd_same, by rw [List.append_nil], rfl⟩, ?_⟩
    rintro m σ H1 ⟨r, g, ds, rfl, ng, s1, e1, ed, rfl⟩
    have hl : ds.length ≤ 900 := by
      have := congrArg List.length ed
      rw [digs_len, List.length_append] at this
      omega
    walk_at "ev"
    · refine ⟨_, fun σ' H' h => h, ?_⟩
      walk_at "ev"
      refine ⟨(by show 1 ≤ sizeLine; decide), fun p1 n1 => ?_⟩
      have hr0 : 0 < m := by omega
      walk_at "ev"
      refine ⟨p1, g, _, _, rfl, rfl, upd_same, new_at e1 n1, ?_, fun p2 n2 => ?_⟩
      · rw [List.length_map]
        exact Nat.le_of_lt (small1000 (by show 1 + _ ≤ _; omega))
      walk_at "ev"
      refine ⟨m / 2, by omega, m / 2, p2, ((m % 2 : Nat) : Int) :: ds, rfl, (s1.trans (same_upd n1)).free n2, s1.trans ((same_upd n1).trans (same_upd n2)), upd_same, ?_, rfl⟩
      rw [ed, digs_step hr0, List.append_assoc]
      rfl
    · refine q g H1 ng s1 ?_
      have e0 : m = 0 := by omega
      rw [e1, ed, e0, digs_zero, List.nil_append]
/-! ### whether bits are told -/
def spAreBits : Sp := fun vs H Q _ => ∃ (p : Addr) (xs : List Int), vs = [.ref p] ∧ H p = some (.lst (xs.map V.int)) ∧ AreBits xs ∧ ∀ H', Same H H' → Q (.bl true) H'
theorem ok_are_bits {f : Addr} {fd : FuncData} {k : Nat} (F : Fun K "_law_are_bits" "_law_are_bits" s_law_are_bits f fd) (T : Txt mg) : FnOk P w K mg base CX0 (k + 1) f fd ["_law_told"] spAreBits := by
  refine F.ok sc_law_are_bits (fun vs H Q E h => ?_) (fun cdv A outer s H vs Q E hr h => ?_)
  · obtain ⟨p, xs, rfl, _⟩ := h
    rfl
  · obtain ⟨p, xs, rfl, hp, hb, q⟩ := h
    have hu := hr.units
    refine ⟨_, (pss_one (ps_ret (pe_and (pe_callB call_isi (by rfl) T.z_isinstance PyProof.Rows.boot_isinstance (pa_cons (pv 0) (pa_cons (pe_bltn (v := .ty "list") (by rfl) T.z_list PyProof.Rows.boot_list rfl) pa_nil))) (pe_one (pe_cmpR (op_eqD hu) (pe_lc (own := [("_law_one", 1)]) (g := gName 1) (tt := _) rfl sc_law_are_bits.nd (pi_list (pv 0)) (blkOk_by (N := ["_law_told", "_law_one"]) (sc := defScope s_law_are_bits) (by decide +kernel)) (fun _ _ _ _ _ => pg_name (i := 1) sc_law_are_bits.nd rfl (Or.inl rfl)) (fun _ _ _ _ _ => (pts_one (PW.pt (pw_or (pt_val (pe_callB (call_isi : CallR _ (.builtin "isinstance") (rIsi K)) (by rfl) T.z_isinstance PyProof.Rows.boot_isinstance (pa_cons (pv 1) (pa_cons (pe_bltn (v := .ty "bool") (by rfl) T.z_bool PyProof.Rows.boot_bool rfl) pa_nil)))) (pw_or1 (pt_cmpR (op_notIn_seq : OpR _ (compareOp .NotIn) (rIn K true)) (pv 1) (pe_tup (pa_cons pe_int (pa_cons pe_int pa_nil))) (by rfl))))))) (fun _ _ _ _ _ => (pv 1))) (pe_lst pa_nil) (nomark _)))))), ?_⟩
    walk_at "ev"
    refine ⟨⟨_, .inl (.inl hp)⟩, fun D nD => ?_⟩
    refine lc_it (walk_list (xs := xs.map V.int)) (fun _ H2 => Same H H2 ∧ H2 D = some (.lst [])) ⟨same_upd nD, upd_same⟩ (fun _ _ _ h => .inl (.inl (h.1 _ _ hp))) ?_ ?_
    · rintro t x H2 H3 ht ⟨s2, e2⟩ y
      obtain ⟨rfl, hx⟩ := y
      rw [List.getElem?_map] at hx
      obtain ⟨z, hz, rfl⟩ := Option.map_eq_some_iff.mp hx
      have hz2 := hb z (List.mem_of_getElem? hz)
      rcases (by omega : z = 0 ∨ z = 1) with rfl | rfl
      all_goals
        walk_at "ev"
        refine ⟨(by show 2 ≤ sizeLine; decide), fun t2 nt2 => ?_⟩
        refine ⟨t2, _, rfl, .inr (.inl (.inl upd_same)), rfl, rfl, ?_⟩
        refine ⟨_, rfl, ?_⟩
        exact iteF ⟨s2.trans (same_upd nt2), new_at e2 nt2⟩
    · rintro H2 ⟨s2, e2⟩
      walk_at "ev"
      refine ⟨(by show 0 ≤ sizeLine; decide), fun t2 nt2 => q_eqI (ns := []) (new_at e2 nt2) upd_same ?_⟩
      walk_at "ev"
      exact q _ (s2.trans (same_upd nt2))
/-! ### counts -/
def spCount : Sp := fun vs H Q _ => ∃ (a : Addr), vs = [.ref a] ∧ Src H a ∧ ∀ (c : Int) (H' : Hp), 0 ≤ c → c ≤ 2199023255550 → Src H' a → But a H H' → Q (.int c) H'
theorem ok_count {f : Addr} {fd : FuncData} {k : Nat} (F : Fun K "_law_count" "_law_count" s_law_count f fd) (T : Txt mg) (c_law_take : C8.Cal P w K mg base 1 "_law_take" spTake []) : FnOk P w K mg base CX0 (k + 2) f fd ["_law_source"] spCount := by
  refine F.ok sc_law_count (fun vs H Q E h => ?_) (fun cdv A outer s H vs Q E hr h => ?_)
  · obtain ⟨a, rfl, _⟩ := h
    rfl
  · obtain ⟨a, rfl, ha, q⟩ := h
    refine ⟨_, (pss_cons (ps_par (i := 1) (j := 2) rfl sc_law_count.nd rfl rfl (by decide) rfl rfl (pa_cons (C8.pe_c c_law_take hr (by omega) (by rfl) (pa_cons (pv 0) (pa_cons pe_int pa_nil))) (pa_cons (pe_op op_sub (pe_op (op_powc (a := 2) (b := 41) (c := 2199023255552) ⟨by decide, by decide, by decide⟩ (by decide +kernel)) pe_int pe_int) pe_int) pa_nil)) rfl)
    (pss_cons (ps_if (pt_cmpR op_eq (pv 1) pe_int (nomark _)) (pss_one (ps_ret (C8.pe_c c_law_take hr (by omega) (by rfl) (pa_cons (pv 0) (pa_cons pe_int pa_nil))))) pss_nil)
    (pss_cons (ps_if (pt_cmpR op_eq (pv 1) pe_int (nomark _)) (pss_one (ps_ret (pe_callB (call_max2 rfl) (by rfl) T.z_max PyProof.Rows.boot_max (pa_cons pe_int (pa_cons (pe_callB (call_min2 rfl) (by rfl) T.z_min PyProof.Rows.boot_min (pa_cons (pv 2) (pa_cons (pe_op op_add (pe_op op_sub (pe_op op_shl pe_int (C8.pe_c c_law_take hr (by omega) (by rfl) (pa_cons (pv 0) (pa_cons pe_int pa_nil)))) pe_int) (C8.pe_c c_law_take hr (by omega) (by rfl) (pa_cons (pv 0) (pa_cons pe_int pa_nil)))) pa_nil))) pa_nil))))) pss_nil)
    (pss_cons (ps_if (pt_cmpR op_eq (pv 1) pe_int (nomark _)) (pss_one (ps_ret (pe_op op_sub (pv 2) (C8.pe_c c_law_take hr (by omega) (by rfl) (pa_cons (pv 0) (pa_cons pe_int pa_nil)))))) pss_nil)
    (pss_one (ps_ret (pe_callB (call_min2 rfl) (by rfl) T.z_min PyProof.Rows.boot_min (pa_cons (pv 2) (pa_cons (pe_op op_add (pe_op op_mul (C8.pe_c c_law_take hr (by omega) (by rfl) (pa_cons (pv 0) (pa_cons (pe_op (op_powc (a := 2) (b := 21) (c := 2097152) ⟨by decide, by decide, by decide⟩ (by decide +kernel)) pe_int pe_int) pa_nil))) (pe_op (op_powc (a := 2) (b := 20) (c := 1048576) ⟨by decide, by decide, by decide⟩ (by decide +kernel)) pe_int pe_int)) (C8.pe_c c_law_take hr (by omega) (by rfl) (pa_cons (pv 0) (pa_cons (pe_op (op_powc (a := 2) (b := 20) (c := 1048576) ⟨by decide, by decide, by decide⟩ (by decide +kernel)) pe_int pe_int) pa_nil)))) pa_nil))))))))), ?_⟩
    walk_at "ev"
    refine ⟨ha, (by decide), (by decide), fun r H1 h0 h1 s1 u1 => ?_⟩
    walk_at "ev"
    · refine ⟨s1, (by decide), (by decide), fun r2 H2 g0 g1 s2 u2 => ?_⟩
      exact q _ _ g0 (by omega) s2 (u1.trans u2)
    · refine ⟨s1, (by decide), (by decide), fun r2 H2 g0 g1 s2 u2 => ?_⟩
      walk_at "ev"
      refine ⟨s2, (by decide), (by decide), fun r3 H3 k0 k1 s3 u3 => ?_⟩
      walk_at "ev"
      refine q _ _ ?_ ?_ s3 ((u1.trans u2).trans u3) <;> (split <;> split <;> omega)
    · refine ⟨s1, (by decide), (by decide), fun r2 H2 g0 g1 s2 u2 => ?_⟩
      walk_at "ev"
      exact q _ _ (by omega) (by omega) s2 (u1.trans u2)
    · refine ⟨s1, (by decide), (by decide), fun r2 H2 g0 g1 s2 u2 => ?_⟩
      walk_at "ev"
      refine ⟨s2, (by decide), (by decide), fun r3 H3 k0 k1 s3 u3 => ?_⟩
      walk_at "ev"
      refine q _ _ ?_ ?_ s3 ((u1.trans u2).trans u3) <;> (split <;> omega)
def spCode : Sp := fun vs H Q _ => ∃ (c : Nat), vs = [.int c] ∧ c + 1 < 2 ^ 400 ∧ ∀ (p : Addr) (H' : Hp), H p = none → Same H H' → H' p = some (.lst ((code c).map V.int)) → Q (.ref p) H'
theorem ok_code {f : Addr} {fd : FuncData} {k : Nat} (F : Fun K "_law_code" "_law_code" s_law_code f fd) (T : Txt mg) (c_law_digits : C8.Cal P w K mg base 1 "_law_digits" spDigits []) : FnOk P w K mg base CX0 (k + 2) f fd ["_law_count_here"] spCode := by
  refine F.ok sc_law_code (fun vs H Q E h => ?_) (fun cdv A outer s H vs Q E hr h => ?_)
  · obtain ⟨c, rfl, _⟩ := h
    rfl
  · obtain ⟨c, rfl, hc, q⟩ := h
    have hb : bl (c + 1) ≤ 400 := bl_le hc
    have hb1 := bl_half (n := c + 1) (by omega)
    have hdl : ((digs (c + 1)).map V.int).length = bl (c + 1) := by rw [List.length_map, digs_len]
    refine ⟨_, (pss_cons (ps_set (i := 1) sc_law_code.nd rfl (Or.inl rfl) (C8.pe_c c_law_digits hr (by omega) (by rfl) (pa_cons (pe_op op_add (pv 0) pe_int) pa_nil)))
    (pss_one (ps_ret (pe_op op_cat (pe_op op_rep (pe_lst (pa_cons pe_int pa_nil)) (pe_op op_sub (pe_callB call_len_seq (by rfl) T.z_len PySem.boot_len (pa_cons (pv 1) pa_nil)) pe_int)) (pv 1))))), ?_⟩
    walk_at "ev"
    refine ⟨Nat.lt_of_lt_of_le hc (Nat.pow_le_pow_right (by decide) (by decide)), fun p0 H0 n0 s0 e0 => ?_⟩
    replace e0 : H0 p0 = some (.lst ((digs (c + 1)).map V.int)) := e0
    walk_at "ev"
    refine ⟨(by show 1 ≤ sizeLine; decide), fun p1 n1 => ?_⟩
    have e1 := new_at (o' := .lst [V.int 0]) e0 n1
    walk_at "ev"
    refine ⟨p1, _, _, rfl, rfl, upd_same, by omega, by omega, ?_, fun p2 n2 => ?_⟩
    · show 1 * _ ≤ sizeLine
      exact Nat.le_of_lt (small1000 (by omega))
    walk_at "ev"
    refine ⟨p2, p0, _, _, rfl, rfl, upd_same, new_at e1 n2, ?_, fun p3 n3 => ?_⟩
    · simp only [flat_zeros, List.length_map, List.length_replicate, digs_len]
      exact Nat.le_of_lt (small1000 (by omega))
    · refine q p3 _ ((s0.trans ((same_upd n1).trans (same_upd n2))).free n3) (s0.trans ((same_upd n1).trans ((same_upd n2).trans (same_upd n3)))) ?_
      rw [upd_same, flat_zeros, ← List.map_append, hdl, show ((bl (c + 1) : Int) - 1).toNat = bl (c + 1) - 1 by omega]
      rfl
/-! ### what a call tells: a lambda handed to a def -/
def tupB (x : Str) : HO := .tup [.str x, .bl true, .bl false]
def wordTT (C O : Addr) : (XK → Hp → VK → Prop) → Hp → VK → Prop := fun tl H Q =>
  tl (fun cls d H' => (cls = .ref C ∧ d = none ∧ ∀ q, H' q = none → Q (.ref q) (upd H' q (tupB "great"))) ∨ (cls = .ref O ∧ d = none ∧ ∀ q, H' q = none → Q (.ref q) (upd H' q (tupB "outside")))) H (fun v H1 => ∀ q, H1 q = none → Q (.ref q) (upd H1 q (.tup [.str "told", v])))
structure WordD (K : PySem.W.Frag) (mg : Str → Option Value) (g C O N : Addr) : Prop where
  eC : ECls K mg "Great" C
  eO : ECls K mg "Outside" O
  gN : mg "NarrowError" = some (.ref N)
  cN : PySem.W.kitOne K (.ref C) (.ref N) = some true
  cO : PySem.W.kitOne K (.ref C) (.ref O) = some false
  oN : PySem.W.kitOne K (.ref O) (.ref N) = some true
  oC : PySem.W.kitOne K (.ref O) (.ref C) = some false
  xOC : PySem.W.exmOne K (.ref O) (.ref C) = some false
  zI : mg "isinstance" = none
  hm : mg "_law_word" = some (.ref g)
  hk : PySem.W.keepIn K (.ref g) = true
  df : ∃ (oc kV doc pm cdv ct : Value) (an od : Option Addr) (osl : Array (Option Value)), K.lookup g = some ⟨oc, od, .func (PySem.W.fnOf "_law_word" "_law_word" (defArgs s_law_word) (defBody s_law_word) (defScope s_law_word) .none kV doc pm an cdv ct), osl⟩ ∧
    PySem.W.codeIn K cdv "_law_word" = true ∧ L2.Binds K (PySem.W.fnOf "_law_word" "_law_word" (defArgs s_law_word) (defBody s_law_word) (defScope s_law_word) .none kV doc pm an cdv ct) ["_law_call"] []
theorem word_gives {X : Cx} {g C O N : Addr} {cdg : Value} {q : Str} (e : WordD X.K X.mg g C O N) : LamX.GivesTo X ["_law_call", "_law_told", "e"] "_law_word" (defScope s_law_word) g cdg (defBody s_law_word) "_law_call" q (wordTT C O) := by
  intro f c' s H Q tl act hc h
  refine ⟨_, pss_cons (ps_try_all (X := (cxOf C8.CX0 X.prog X.w X.K X.mg X.base ["_law_call", "_law_told", "e"] "_law_word" (defScope s_law_word) g cdg X.A X.stack s H C8.E0).nox) rfl rfl sc_law_word.nd takes0
      (fun W pn xe tk _ => pss_ex (n := 3) fun E hW => pss_one (ps_set (i := 1) sc_law_word.nd rfl (Or.inl rfl) (pe_tup (pa_cons pe_str (pa_cons (act _ pn xe E _ _ (takes_len tk) hW) pa_nil)))))
      (.step ⟨rfl, by decide, .inl e.eC.gC⟩ (i := 2) rfl rfl (fun a oe cls d pn hz hf => pss_one (ps_set (i := 1) sc_law_word.nd rfl (Or.inl rfl) (pe_tup (pa_cons pe_str
          (pa_cons (pe_callB (call_isE1 e.eC.ex hz hf) (by rfl) e.zI PyProof.Rows.boot_isinstance (pa_cons (pv 2) (pa_cons (pe_glob (v := .ref N) (by rfl) e.gN rfl) pa_nil)))
          (pa_cons (pe_callB (call_isE1 e.eC.ex hz hf) (by rfl) e.zI PyProof.Rows.boot_isinstance (pa_cons (pv 2) (pa_cons (pe_glob (v := .ref O) (by rfl) e.eO.gC rfl) pa_nil))) pa_nil))))))
        (.step ⟨rfl, by decide, .inl e.eO.gC⟩ (i := 2) rfl rfl (fun a oe cls d pn hz hf => pss_one (ps_set (i := 1) sc_law_word.nd rfl (Or.inl rfl) (pe_tup (pa_cons pe_str
          (pa_cons (pe_callB (call_isE1 e.eO.ex hz hf) (by rfl) e.zI PyProof.Rows.boot_isinstance (pa_cons (pv 2) (pa_cons (pe_glob (v := .ref N) (by rfl) e.gN rfl) pa_nil)))
          (pa_cons (pe_callB (call_isE1 e.eO.ex hz hf) (by rfl) e.zI PyProof.Rows.boot_isinstance (pa_cons (pv 2) (pa_cons (pe_glob (v := .ref C) (by rfl) e.eC.gC rfl) pa_nil))) pa_nil)))))) .done)))
    (pss_one (ps_ret (pv 1))), ?_⟩
  refine ⟨fun cls d H' => (cls = .ref C ∧ d = none ∧ ∀ q, H' q = none → Q (.ref q) (upd H' q (tupB "great"))) ∨ (cls = .ref O ∧ d = none ∧ ∀ q, H' q = none → Q (.ref q) (upd H' q (tupB "outside"))), ?_, ?_⟩
  · rintro cls d σ' H' (⟨rfl, rfl, k⟩ | ⟨rfl, rfl, k⟩) hlen
    all_goals obtain ⟨x1, x2, x3, rfl⟩ := len3 hlen
    · refine ⟨true, e.eC.em, fun _ a0 _ => ?_, fun z => nomatch z⟩
      walk_at "ev"
      refine ⟨_, .ref N, true, rfl, fun _ z => z, e.cN, ?_⟩
      walk_at "ev"
      refine ⟨_, .ref O, false, rfl, fun _ z => z, e.cO, ?_⟩
      refine ⟨(by show 3 ≤ sizeLine; decide), fun r nr => ?_⟩
      walk_at "ev"
      exact k r nr
    · refine ⟨false, e.xOC, (fun z => nomatch z), fun _ => ⟨true, e.eO.em, fun _ a0 _ => ?_, fun z => nomatch z⟩⟩
      walk_at "ev"
      refine ⟨_, .ref N, true, rfl, fun _ z => z, e.oN, ?_⟩
      walk_at "ev"
      refine ⟨_, .ref C, false, rfl, fun _ z => z, e.oC, ?_⟩
      refine ⟨(by show 3 ≤ sizeLine; decide), fun r nr => ?_⟩
      walk_at "ev"
      exact k r nr
  · walk_at "ev"
    refine ⟨hc, vk_mono (fun v H1 => ⟨fun k => ?_, fun k => ?_⟩) h⟩
    · refine ⟨(by show 2 ≤ sizeLine; decide), fun r nr => ?_⟩
      walk_at "ev"
      exact k r nr
    · intro r nr
      obtain ⟨_, k⟩ := k
      have k1 := k r nr
      obtain ⟨v1, e1, q1⟩ := k1
      obtain rfl := Option.some.inj (Option.some.inj e1)
      exact q1
/-- _law_word(lambda: body) -/
theorem pe_word {X : Cx} {T : List (Addr × Str)} {g C O N c P : Addr} {k : Nat} {params : Arguments} {body : Expr} {scope : Scope} {t : XK → TE} {p lpos pos : Pos} (D : WordD X.K X.mg g C O N) (hg : Gl X "_law_word")
    (TB : LamX.TabB X.base X.mg c P) (hcode : X.env.code = .ref c) (hmT : (P, X.env.qual ++ "<lambda>") ∈ T) (hu : ∀ p ∈ T, p.1 = P → p.2 = X.env.qual ++ "<lambda>") (hr : Room (k + 2) X.A)
    (hbody : ∀ (A : Around) (outer : List Env) (s : Shared) (H : Hp) (E : XK) (f c' : Addr), Room k (A.deeper (LamX.lamEnv X scope s.heap.objs.size f c')) → PE (LamX.lamCx X A outer s H E scope f c') body (t E))
    (L : LamX.LamS X.env.scope scope) (hdef : defaultsOf params X.env = ([], [])) (hbind : ∀ (q : Str) (cl : List (Str × Addr)) (pm cv ctv : Value), bindArgs (PySem.W.kla_fn "<lambda>" q params body scope cl pm cv ctv) ⟨[], []⟩ = pure []) :
    PE X (.Call (.Name "_law_word" p) [.Lambda params body scope lpos] [] pos) (LamX.tLam T (wordTT C O) t) := by
  obtain ⟨oc, kV, doc, pm, cdv, ct, an, od, osl, lk, hcd, hb⟩ := D.df
  exact LamX.pe_lamcall hg D.hm D.hk lk hcd hb sc_law_word rfl (Or.inl rfl) (word_gives D) TB hcode hmT hu hr L hdef hbind hbody
/-! ### fixed and count_bits where they may refuse -/
def spFixedX (O : Addr) : Sp := fun vs H Q E => (∃ (n w : Nat), vs = [.int n, .int w] ∧ n < 2 ^ w ∧ w ≤ 900 ∧ ∀ (p : Addr) (H' : Hp), H p = none → Same H H' → H' p = some (.lst ((bitsI w n).map V.int)) → Q (.ref p) H') ∨
  (∃ (n w : Int), vs = [.int n, .int w] ∧ (n < 0 ∨ w < 0 ∨ w < Builtin.Int.intBits n) ∧ E (.ref O) none H)
theorem ok_fixedX {f O : Addr} {fd : FuncData} {k : Nat} (F : Fun K "fixed" "fixed" s_fixed f fd) (T : Txt mg) (e_Outside : ECls K mg "Outside" O) : FnOk P w K mg base (L2.CX P w) (k + 1) f fd ["n", "w"] (spFixedX O) := by
  refine F.okX sc_fixed (fun vs H Q E h => ?_) (fun cdv A outer s H vs Q E hr h => ?_)
  · obtain ⟨n, w, rfl, _⟩ | ⟨n, w, rfl, _⟩ := h <;> rfl
  · refine ⟨_, (pss_cons (ps_if (PW.pt (pw_or (pt_cmpR op_lt (pv 0) pe_int (nomark _)) (pw_or (pt_cmpR op_lt (pv 1) pe_int (nomark _)) (pw_or1 (pt_cmpR op_gt (pe_bits (pv 0)) (pv 1) (nomark _)))))) (pss_one (ps_raise rfl (takes_of rfl rfl rfl rfl) (pmk_none PySem.F.excBase_ValueError e_Outside.xC e_Outside.gC e_Outside.kC (raises_own e_Outside.bC e_Outside.tC) (by rfl)))) pss_nil)
    (pss_cons (ps_set (i := 2) sc_fixed.nd rfl (Or.inl rfl) (pe_joined1 (pe_fmtB (pe_op op_add (pe_op op_shl pe_int (pv 1)) (pv 0)))))
    (pss_one (ps_ret (pe_lc (own := [("digit", 3)]) (g := gName 3) (tt := tYes) rfl sc_fixed.nd (pi_str (pe_slice C8.sl_txt (pv 2) (po_some pe_int) po_none)) (blkOk_by (N := ["n", "w", "text", "digit"]) (sc := defScope s_fixed) (by decide +kernel)) (fun _ _ _ _ _ => pg_name (i := 3) sc_fixed.nd rfl (Or.inl rfl)) (fun _ _ _ _ _ => pts_nil) (fun _ _ _ _ _ => (pe_callTy call_int_str (by rfl) T.z_int PyProof.Rows.boot_int (pa_cons (pv 3) pa_nil)))))))), ?_⟩
    obtain ⟨n, w, rfl, hn, hw, q⟩ | ⟨n, w, rfl, hn, x⟩ := h
    case inr =>
      walk_at "ev"
      all_goals exact x
    have hb : Builtin.Int.intBits (n : Int) ≤ w := PyProof.Rows.intBits_le (by omega)
    walk_at "ev"
    have e0 : (1 : Int) * 2 ^ (w : Int).toNat + (n : Int) = ((2 ^ w + n : Nat) : Int) := by
      rw [Int.one_mul, Int.toNat_natCast, Int.natCast_add, Int.natCast_pow]
      rfl
    have eL : (binCodes (2 ^ w + n)).length = w + 1 := by
      rw [binCodes_pow w n hn, List.length_cons, List.length_map, bitsW_len]
    have eD : (Nat.toDigits 2 (2 ^ w + n)).length ≤ sizeLine := by
      have := eL
      unfold binCodes at this
      rw [List.length_map] at this
      rw [this]
      exact Nat.le_of_lt (small1000 (by omega))
    refine ⟨by rw [e0]; exact Int.natCast_nonneg _, ?_⟩
    rw [e0, Int.natAbs_natCast]
    refine ⟨eD, ?_⟩
    have es : Txt.slice (SX.S (binCodes (2 ^ w + n))) (some 1) none = SX.S ((bitsW w n).map (48 + ·)) := by
      rw [SX.slice_from (by decide), binCodes_pow w n hn]
      rfl
    have eN : (SX.S ((bitsW w n).map (48 + ·))).cps.size = w := by
      show ((bitsW w n).map (48 + ·)).toArray.size = w
      rw [List.size_toArray, List.length_map, bitsW_len]
    walk_at "ev"
    refine ⟨by rw [SX.S_len, eL]; exact Nat.le_of_lt (small1000 (by omega)), ?_⟩
    rw [es]
    walk_at "ev"
    intro D hD
    refine lc_it (walk_str (z := SX.S ((bitsW w n).map (48 + ·)))) (fun i H1 => Same H H1 ∧ H1 D = some (.lst (((bitsI w n).take i).map V.int))) ⟨same_upd hD, upd_same⟩ (fun _ _ _ _ => trivial) ?_ ?_
    · rintro i x H1 H2 hi ⟨s1, e1⟩ ⟨rfl, c, hc, rfl⟩
      rw [eN] at hi
      have hb : i < (bitsW w n).length := by rw [bitsW_len]; exact hi
      have ec : c = 48 + (bitsW w n)[i] := by
        have h2 : ((bitsW w n).map (48 + ·)).toArray[i]? = some c := hc
        rw [List.getElem?_toArray, List.getElem?_map, List.getElem?_eq_getElem hb] at h2
        exact (Option.some.inj h2).symm
      subst ec
      have hb2 : (bitsW w n)[i] < 2 := bitsW_bit w n _ (List.getElem_mem _)
      have gi : (bitsI w n)[i]? = some ((bitsW w n)[i] : Int) := by
        rw [bitsI, List.getElem?_map, List.getElem?_eq_getElem hb]
        rfl
      walk_at "ev"
      refine ⟨_, _, rfl, digit_int hb2, (by decide : 1 ≤ 640), _, e1, ?_, ?_, ?_⟩
      · rw [List.length_map, List.length_take]
        exact Nat.lt_of_le_of_lt (Nat.min_le_left _ _) (small1000 (by omega))
      · exact fun b o e => by
          rw [upd_ne (ne_of_none e hD)]
          exact s1 b o e
      · rw [upd_same, ← take_snoc gi, List.map_append]
        rfl
    · rintro H1 ⟨s1, e1⟩
      refine q D H1 hD s1 ?_
      rw [e1, eN, List.take_of_length_le (by rw [bitsI_len]; exact Nat.le_refl _)]
/-! ### count_bits where it may refuse -/
def spCountX (C : Addr) : Sp := fun vs H Q E => (∃ (c : Nat), vs = [.int c] ∧ c + 1 < 2199023255552 ∧ ∀ (p : Addr) (H' : Hp), H p = none → Same H H' → H' p = some (.lst ((code c).map V.int)) → Q (.ref p) H') ∨
  (∃ (n : Int), vs = [.int n] ∧ (n < 0 ∨ 2199023255550 < n) ∧ E (.ref C) none H)
theorem ok_count_bitsX {f C O f1 : Addr} {fd fd1 : FuncData} {k : Nat} {t : Tok} (F : Fun K "count_bits" "count_bits" s_count_bits f fd) (hG : mg "GREATEST_COUNT" = some (.int 2199023255550 t)) (e_Great : ECls K mg "Great" C) (G_fixed : FnOk P w K mg base (L2.CX P w) 1 f1 fd1 ["n", "w"] (spFixedX O)) (g_fixed : mg "fixed" = some (.ref f1)) (k_fixed : PySem.W.keepIn K (.ref f1) = true) (b_fixed : Binds K fd1 ["n", "w"] []) :
    FnOk P w K mg base (L2.CX P w) (k + 2) f fd ["n"] (spCountX C) := by
  refine F.okX sc_count_bits (fun vs H Q E h => ?_) (fun cdv A outer s H vs Q E hr h => ?_)
  · obtain ⟨n, rfl, _⟩ | ⟨n, rfl, _⟩ := h <;> rfl
  · refine ⟨_, (pss_cons (ps_if (pt_not (pt_chain op_le op_le pe_int (pv 0) (pe_glob (v := .int 2199023255550) (by rfl) hG ⟨_, rfl⟩))) (pss_one (ps_raise rfl (takes_of rfl rfl rfl rfl) (pmk_none PySem.F.excBase_ValueError e_Great.xC e_Great.gC e_Great.kC (raises_own e_Great.bC e_Great.tC) (by rfl)))) pss_nil)
    (pss_cons (ps_set (i := 1) sc_count_bits.nd rfl (Or.inl rfl) (pe_op op_add (pv 0) pe_int))
    (pss_cons (ps_set (i := 2) sc_count_bits.nd rfl (Or.inl rfl) (pe_bits (pv 1)))
    (pss_one (ps_ret (pe_op op_cat (pe_op op_rep (pe_lst (pa_cons pe_int pa_nil)) (pe_op op_sub (pv 2) pe_int)) (pe_call G_fixed (hr.mono (by omega)) (by rfl) g_fixed k_fixed b_fixed .nil (passes_call (takes_of rfl rfl rfl rfl) (fun _ _ _ _ h => h)) (pa_cons (pv 1) (pa_cons (pv 2) pa_nil))))))))), ?_⟩
    obtain ⟨c, rfl, hc, q⟩ | ⟨n, rfl, hn, x⟩ := h
    case inr =>
      walk_at "ev"
      all_goals exact x
    have hb : bl (c + 1) ≤ 41 := bl_le hc
    have hb1 := bl_half (n := c + 1) (by omega)
    walk_at "ev"
    rw [show Builtin.Int.intBits ((c : Int) + 1) = bl (c + 1) from rfl]
    walk_at "ev"
    refine ⟨(by show 1 ≤ sizeLine; decide), fun p0 n0 => ?_⟩
    walk_at "ev"
    refine ⟨p0, _, _, rfl, rfl, upd_same, by omega, by omega, ?_, fun p1 n1 => ?_⟩
    · show 1 * _ ≤ sizeLine
      exact Nat.le_of_lt (small1000 (by omega))
    walk_at "ev"
    refine .inl ⟨c + 1, bl (c + 1), rfl, bl_lt _, by omega, fun p2 H2 n2 s2 h2 => ?_⟩
    refine ⟨p1, p2, _, _, rfl, rfl, s2 _ _ upd_same, h2, ?_, fun p3 n3 => ?_⟩
    · rw [flat_zeros, List.length_map, List.length_map, List.length_replicate, bitsI_len]
      exact Nat.le_of_lt (small1000 (by omega))
    · have sA := ((same_upd n0).trans (same_upd n1)).trans (s2.trans (same_upd (o := .lst ((List.replicate ((bl (c + 1) : Int) - 1).toNat [V.int 0]).flatten ++ (bitsI (bl (c + 1)) (c + 1)).map V.int)) n3))
      refine q p3 _ ?_ sA ?_
      · exact (((same_upd n0).trans (same_upd n1)).trans s2).free n3
      · rw [upd_same, flat_zeros, ← List.map_append, show ((bl (c + 1) : Int) - 1).toNat = bl (c + 1) - 1 by omega]
        rfl
def tupW (x : Str) : List PyData := [.str x, .bool true, .bool false]
theorem q_neW {K : PySem.W.Frag} {H : Hp} {p q : Addr} {x : Str} {Q : VK} (hp : H p = some (.tup [.str x, .bl true, .bl false])) (hq : H q = some (.tup [.str x, .bl true, .bl false])) (hs : SeqAt.shaped (.tuple (tupW x)) = true) (h : Q (.bl false) H) : rNeD K (.ref p) (.ref q) H Q :=
  ⟨_, _, .tup (.inl (.inl hp)) (.cons (.str _) (.cons (.bl _) (.cons (.bl _) .nil))), .tup (.inl (.inl hq)) (.cons (.str _) (.cons (.bl _) (.cons (.bl _) .nil))), hs, hs, by
    have e := eqv_same hs
    unfold tupW at e
    rw [e]
    exact h⟩
theorem sh_out : SeqAt.shaped (.tuple (tupW "outside")) = true := by decide +kernel
/-! ### the tables of the makers -/
def tabsT (PF PL : Addr) : List (Addr × Str) := [(PF, ("_law_fixed_right" : Str) ++ (".<locals>." : Str) ++ ("<lambda>" : Str)), (PL, ("law" : Str) ++ (".<locals>." : Str) ++ ("<lambda>" : Str))]
theorem tabsT_F {PF PL : Addr} (n : PF ≠ PL) : ∀ p ∈ tabsT PF PL, p.1 = PF → p.2 = ("_law_fixed_right" : Str) ++ (".<locals>." : Str) ++ ("<lambda>" : Str) := fun p hp e => by
  rcases List.mem_cons.mp hp with z | z
  · rw [z]
  · rw [List.mem_singleton.mp z] at e
    exact absurd e.symm n
theorem tabsT_L {PF PL : Addr} (n : PF ≠ PL) : ∀ p ∈ tabsT PF PL, p.1 = PL → p.2 = ("law" : Str) ++ (".<locals>." : Str) ++ ("<lambda>" : Str) := fun p hp e => by
  rcases List.mem_cons.mp hp with z | z
  · rw [z] at e
    exact absurd e n
  · rw [List.mem_singleton.mp z]
/-! ### fixed -/
theorem sh_told (xs : List Int) : SeqAt.shaped (.tuple [.str "told", .list (xs.map PyData.int)]) = true := (shd_tup (n := 1) fun d m => by
  rcases List.mem_cons.mp m with rfl | m
  · exact shd_str (by decide +kernel)
  · rw [List.mem_singleton.mp m]
    exact shd_ints (n := 0) _).sh (by decide)
def spFixedR (PF PL : Addr) : Sp := fun vs H Q _ => ∃ (a : Addr), vs = [.ref a] ∧ Src H a ∧ LamX.Tabs (tabsT PF PL) H ∧ ∀ (H' : Hp), Src H' a → UpN a H H' → LamX.Tabs (tabsT PF PL) H' → Q (.bl true) H'
theorem ok_fixed_right {f cF PF PL gW C O N fX : Addr} {fd fdX : FuncData} {k : Nat} (F : FunC K "_law_fixed_right" "_law_fixed_right" s_law_fixed_right f fd cF) (T : Txt mg) (D : WordD K mg gW C O N) (TBF : LamX.TabB base mg cF PF) (hne : PF ≠ PL)
    (G_fixed : FnOk P w K mg base (L2.CX P w) 1 fX fdX ["n", "w"] (spFixedX O)) (g_fixed : mg "fixed" = some (.ref fX)) (k_fixed : PySem.W.keepIn K (.ref fX) = true) (b_fixed : Binds K fdX ["n", "w"] [])
    (c_law_take : C8.Cal P w K mg base 1 "_law_take" spTake []) (c_law_bits : C8.Cal P w K mg base 2 "_law_bits" spBits []) (c_law_digits : C8.Cal P w K mg base 1 "_law_digits" spDigits []) (c_law_are_bits : C8.Cal P w K mg base 1 "_law_are_bits" spAreBits []) (c_fixed : C8.Cal P w K mg base 1 "fixed" spFixed []) (ck_fixed : CalK P w K mg base 1 "fixed" ["n", "w"] spFixed) :
    FnOk P w K mg base CX0 (k + 4) f fd ["_law_source"] (spFixedR PF PL) := by
  refine F.ok sc_law_fixed_right (fun vs H Q E h => ?_) (fun A outer s H vs Q E hr h => ?_)
  · obtain ⟨a, rfl, _⟩ := h
    rfl
  · obtain ⟨a, rfl, ha, hT, q⟩ := h
    have hu := hr.units
    refine ⟨_, (pss_cons (ps_set (i := 1) sc_law_fixed_right.nd rfl (Or.inl rfl) (C8.pe_c c_law_bits hr (by omega) (by rfl) (pa_cons (pv 0) (pa_cons pe_int pa_nil))))
    (pss_cons (ps_set (i := 5) sc_law_fixed_right.nd rfl (Or.inr rfl) pe_int)
    (pss_cons (ps_for PassesOwn.never rfl (pi_list (pv 1)) (pg_name (i := 2) sc_law_fixed_right.nd rfl (Or.inl rfl))
      (pss_one (ps_set (i := 5) sc_law_fixed_right.nd rfl (Or.inr rfl) (pe_op op_add (pe_op op_mul pe_int (pv 5)) (pv 2)))))
    (pss_cons (ps_set (i := 4) sc_law_fixed_right.nd rfl (Or.inr rfl) (pe_callB call_len_seq (by rfl) T.z_len PySem.boot_len (pa_cons (C8.pe_c c_law_digits hr (by omega) (by rfl) (pa_cons (pv 5) pa_nil)) pa_nil)))
    (pss_cons (ps_set (i := 6) sc_law_fixed_right.nd rfl (Or.inr rfl) (pe_op op_sub (pe_op op_add (pv 4) (C8.pe_c c_law_take hr (by omega) (by rfl) (pa_cons (pv 0) (pa_cons pe_int pa_nil)))) pe_int))
    (pss_cons (ps_set (i := 3) sc_law_fixed_right.nd rfl (Or.inl rfl) (pe_tup (pa_cons pe_str (pa_cons pe_bl (pa_cons pe_bl pa_nil)))))
    (pss_cons (ps_if (pt_cmpR op_ge (pv 6) (pv 4) (nomark _)) (pss_one (ps_set (i := 3) sc_law_fixed_right.nd rfl (Or.inl rfl) (pe_tup (pa_cons pe_str (pa_cons (pe_op op_cat (pe_op op_rep (pe_lst (pa_cons pe_int pa_nil)) (pe_op op_sub (pv 6) (pv 4))) (C8.pe_c c_law_digits hr (by omega) (by rfl) (pa_cons (pv 5) pa_nil))) pa_nil))))) pss_nil)
    (pss_cons (ps_if (PW.pt (pw_or (pt_cmpR (op_neD hu) (pe_word (k := 1) D (by rfl) TBF rfl (.head _) (tabsT_F hne) (hr.mono (by omega)) (fun A outer s H E f c' hr2 => (pe_call G_fixed (hr2.mono (by omega)) (by rfl) g_fixed k_fixed b_fixed .nil (passes_call (takes_of rfl rfl rfl rfl) (fun _ _ _ _ h => h)) (pa_cons (pv 5) (pa_cons (pv 6) pa_nil)))) (LamX.lamS_by (by show LamX.lamSB (defScope s_law_fixed_right) _ = true; decide +kernel)) rfl (fun _ _ _ _ _ => rfl)) (pv 3) (nomark _)) (pw_or1 (pt_not (pt_val (C8.pe_c c_law_are_bits hr (by omega) (by rfl) (pa_cons (pe_ck ck_fixed hr (by omega) (by rfl) (pk_cons (pv 5) (pk_cons (pv 4) pk_nil))) pa_nil))))))) (pss_one (ps_ret pe_bl)) pss_nil)
    (pss_cons (ps_if (pt_cmpR (op_neD hu) (pe_word (k := 1) D (by rfl) TBF rfl (.head _) (tabsT_F hne) (hr.mono (by omega)) (fun A outer s H E f c' hr2 => (pe_call G_fixed (hr2.mono (by omega)) (by rfl) g_fixed k_fixed b_fixed .nil (passes_call (takes_of rfl rfl rfl rfl) (fun _ _ _ _ h => h)) (pa_cons (pe_op op_sub (pe_un un_neg pe_int) (pv 5)) (pa_cons (pe_op op_add (pv 4) pe_int) pa_nil)))) (LamX.lamS_by (by show LamX.lamSB (defScope s_law_fixed_right) _ = true; decide +kernel)) rfl (fun _ _ _ _ _ => rfl)) (pe_tup (pa_cons pe_str (pa_cons pe_bl (pa_cons pe_bl pa_nil)))) (nomark _)) (pss_one (ps_ret pe_bl)) pss_nil)
    (pss_one (ps_ret (pe_and (pe_cmpR (op_eqD hu) (pe_word (k := 1) D (by rfl) TBF rfl (.head _) (tabsT_F hne) (hr.mono (by omega)) (fun A outer s H E f c' hr2 => (pe_call G_fixed (hr2.mono (by omega)) (by rfl) g_fixed k_fixed b_fixed .nil (passes_call (takes_of rfl rfl rfl rfl) (fun _ _ _ _ h => h)) (pa_cons pe_int (pa_cons (pe_op op_sub (pe_un un_neg pe_int) (pv 4)) pa_nil)))) (LamX.lamS_by (by show LamX.lamSB (defScope s_law_fixed_right) _ = true; decide +kernel)) rfl (fun _ _ _ _ _ => rfl)) (pe_tup (pa_cons pe_str (pa_cons pe_bl (pa_cons pe_bl pa_nil)))) (nomark _)) (pe_one (pe_cmpR (op_eqD hu) (C8.pe_c c_fixed hr (by omega) (by rfl) (pa_cons pe_int (pa_cons pe_int pa_nil))) (pe_lst pa_nil) (nomark _))))))))))))))), ?_⟩
    have eL : ∀ {m : Nat}, m ≤ 1000 → m ≤ sizeLine := fun h => Nat.le_of_lt (small1000 h)
    walk_at "ev"
    refine ⟨ha, (by omega), (by omega), fun p xs H1 n1 l1 b1 e1 s1 u1 => ?_⟩
    walk_at "ev"
    refine ⟨⟨_, .inl (.inl e1)⟩, for_list (K := K) (a := p) (xs := xs.map V.int) (fun i σ H2 => ∃ v, σ = [some (.ref a), some (.ref p), v, none, none, some (.int (valI (xs.take i))), none] ∧ H2 = H1) ⟨_, rfl, rfl⟩ (fun _ _ _ _ ⟨_, _, e⟩ => by rw [e]; exact .inl (.inl e1)) ?_ ?_⟩
    · rintro i x σ H2 hx ⟨v, rfl, rfl⟩
      rw [List.getElem?_map] at hx
      obtain ⟨z, hz, rfl⟩ := Option.map_eq_some_iff.mp hx
      walk_at "ev"
      refine ⟨some (.int z), ?_, rfl⟩
      rw [← take_snoc hz, valI_snoc]
      rfl
    rintro σ H2 ⟨v2, rfl, rfl⟩
    rw [List.length_map, List.take_length]
    obtain ⟨z, hz, hz2⟩ := valI_lt _ xs rfl b1
    have hz3 : z < 2 ^ 70 := Nat.lt_of_lt_of_le hz2 (Nat.pow_le_pow_right (by decide) (by omega))
    rw [hz]
    walk_at "ev"
    refine ⟨Nat.lt_of_lt_of_le hz3 (Nat.pow_le_pow_right (by decide) (by decide)), fun p2 H3 n3 s3 e3 => ?_⟩
    replace e3 : H3 p2 = some (.lst ((digs z).map V.int)) := e3
    have s3s := src_same s3 s1
    have hbz : bl z ≤ 70 := bl_le hz3
    have hdl : ((digs z).map V.int).length = bl z := by rw [List.length_map, digs_len]
    walk_at "ev"
    rw [hdl]
    refine ⟨s3s, (by omega), (by omega), fun r H4 r0 r1 s4 u4 => ?_⟩
    walk_at "ev"
    refine ⟨(by show 3 ≤ sizeLine; decide), fun t1 nt1 => ?_⟩
    have u3b : Up a H H3 := u1.trans (up_same s3)
    have t4 := tabs_up (tabs_up hT u3b ha) u4.up s3s
    have u4b : UpN a H H4 := (u3b.trans u4.up).n
    walk_at "ev"
    case' refine_1 =>
      have hr2 : 2 ≤ r := by omega
      refine ⟨(by show 1 ≤ sizeLine; decide), fun p3 n4 => ?_⟩
      walk_at "ev"
      refine ⟨p3, _, _, rfl, rfl, upd_same, by omega, by omega, eL (by show 1 * _ ≤ _; omega), fun p4 n5 => ?_⟩
      rw [flat_zeros]
      walk_at "ev"
      refine ⟨Nat.lt_of_lt_of_le hz3 (Nat.pow_le_pow_right (by decide) (by decide)), fun p5 H5 m5 s5 e5 => ?_⟩
      walk_at "ev"
      refine ⟨p4, p5, _, _, rfl, rfl, s5 _ _ upd_same, e5, eL (by rw [List.length_map, List.length_map, List.length_replicate, digs_len]; omega), fun p6 m6 => ?_⟩
      walk_at "ev"
      refine ⟨(by show 2 ≤ sizeLine; decide), fun t2 m7 => ?_⟩
      have sA := (same_upd (o := .lst [V.int 0]) n4).trans ((same_upd (o := .lst ((List.replicate (((bl z : Int) + r - 2 - (bl z : Int))).toNat (0 : Int)).map V.int)) n5).trans s5)
      have e6 : upd H5 p6 (.lst ((List.replicate (((bl z : Int) + r - 2 - (bl z : Int))).toNat (0 : Int)).map V.int ++ (digs z).map V.int)) p6 = some (.lst ((bitsI ((r - 2).toNat + bl z) z).map V.int)) := by
        rw [upd_same, ← List.map_append, bitsI_pad _ _ _ (bl_lt z), show (((bl z : Int) + r - 2 - (bl z : Int))).toNat = (r - 2).toNat by omega]
        rfl
      have s7 := sA.trans ((same_upd (o := .lst ((List.replicate (((bl z : Int) + r - 2 - (bl z : Int))).toNat (0 : Int)).map V.int ++ (digs z).map V.int)) m6).trans (same_upd (o := .tup [.str "told", .ref p6]) m7))
      have e6b := new_at (o' := .tup [.str "told", .ref p6]) e6 m7
      walk_at "ev"
      refine ⟨tabs_same t4 ((same_upd nt1).trans s7), fun H6 x6 t6 => ?_⟩
      walk_at "ev"
      refine .inl ⟨z, (r - 2).toNat + bl z, congrArg (fun y => [V.int z, V.int y]) (by omega), Nat.lt_of_lt_of_le (bl_lt z) (Nat.pow_le_pow_right (by decide) (by omega)), by omega, fun p7 H7 n7 s8 e7 => ?_⟩
      intro t3 nt3
      walk_at "ev"
      have d1 := new_at (o' := .tup [.str "told", .ref p7]) e7 nt3
      have d2 := new_at (o' := .tup [.str "told", .ref p7]) (s8 _ _ (x6 _ _ e6b (fun _ z => nomatch z))) nt3
      have d3 := new_at (o' := .tup [.str "told", .ref p7]) (s8 _ _ (x6 _ _ (upd_same (H := upd H5 p6 (.lst ((List.replicate (((bl z : Int) + r - 2 - (bl z : Int))).toNat (0 : Int)).map V.int ++ (digs z).map V.int))) (a := t2) (o := .tup [.str "told", .ref p6])) (fun _ z => nomatch z))) nt3
      refine q_neS (d := .tuple [.str "told", .list ((bitsI ((r - 2).toNat + bl z) z).map PyData.int)]) (.tup (.inl (.inl upd_same)) (.cons (.str _) (.cons (dp_ints (.inl (.inl d1))) .nil))) (.tup (.inl (.inl d3)) (.cons (.str _) (.cons (dp_ints (.inl (.inl d2))) .nil))) (sh_told _) ?_
      have sG : Src (upd H7 t3 (.tup [.str "told", .ref p7])) a := src_same (s8.trans (same_upd nt3)) (Src.ext x6 (src_same ((same_upd nt1).trans s7) s4))
      have tG : LamX.Tabs (tabsT PF PL) (upd H7 t3 (.tup [.str "told", .ref p7])) := tabs_same t6 (s8.trans (same_upd nt3))
      have uG : UpN a H (upd H7 t3 (.tup [.str "told", .ref p7])) := (u4b.trans ((up_same ((same_upd nt1).trans s7)).n)).trans ((ext_n x6).trans (up_same (s8.trans (same_upd nt3))).n)
      generalize upd H7 t3 (.tup [.str "told", .ref p7]) = G at sG tG uG ⊢
    case' refine_2 =>
      refine ⟨tabs_same t4 (same_upd nt1), fun H6 x6 t6 => ?_⟩
      walk_at "ev"
      refine .inr ⟨_, _, rfl, .inr (.inr (by show (bl z : Int) + r - 2 < ((bl z : Nat) : Int); omega)), .inr ⟨rfl, rfl, fun t2 nt2 => ?_⟩⟩
      walk_at "ev"
      refine q_neW (x := "outside") upd_same (new_at (x6 _ _ (upd_same (H := H4) (a := t1) (o := .tup [.str "outside", .bl true, .bl false])) (fun _ z => nomatch z)) nt2) sh_out ?_
      have sG : Src (upd H6 t2 (tupB "outside")) a := src_same (same_upd nt2) (Src.ext x6 (src_same (same_upd nt1) s4))
      have tG : LamX.Tabs (tabsT PF PL) (upd H6 t2 (tupB "outside")) := tabs_same t6 (same_upd nt2)
      have uG : UpN a H (upd H6 t2 (tupB "outside")) := (u4b.trans (up_same (same_upd nt1)).n).trans ((ext_n x6).trans (up_same (same_upd nt2)).n)
      generalize upd H6 t2 (tupB "outside") = G at sG tG uG ⊢
    all_goals
      walk_at "ev"
      refine ⟨bl_lt z, by omega, fun p8 H8 m8 s8' e8 => ?_⟩
      walk_at "ev"
      refine ⟨p8, _, rfl, e8, fun _ m => bitsI_bit m, fun H9 s9 => ?_⟩
      walk_at "ev"
      refine ⟨tabs_same tG (s8'.trans s9), fun J6 y6 k6 => ?_⟩
      walk_at "ev"
      refine .inr ⟨_, _, rfl, .inl (by omega), .inr ⟨rfl, rfl, fun t5 nt5 => ?_⟩⟩
      walk_at "ev"
      refine ⟨(by show 3 ≤ sizeLine; decide), fun t6 nt6 => ?_⟩
      refine q_neW (x := "outside") (new_at upd_same nt6) upd_same sh_out ?_
      have sB := (same_upd (o := tupB "outside") nt5).trans (same_upd (o := .tup [.str "outside", .bl true, .bl false]) nt6)
      walk_at "ev"
      refine ⟨tabs_same k6 sB, fun J7 y7 k7 => ?_⟩
      walk_at "ev"
      refine .inr ⟨_, _, rfl, .inr (.inl (by omega)), .inr ⟨rfl, rfl, fun t7 nt7 => ?_⟩⟩
      walk_at "ev"
      refine ⟨(by show 3 ≤ sizeLine; decide), fun t8 nt8 => ?_⟩
      refine q_eqS (d := .tuple (tupW "outside")) (.tup (.inl (.inl (new_at upd_same nt8))) (.cons (.str _) (.cons (.bl _) (.cons (.bl _) .nil)))) (.tup (.inl (.inl upd_same)) (.cons (.str _) (.cons (.bl _) (.cons (.bl _) .nil)))) sh_out ?_
      have sC := (same_upd (o := tupB "outside") nt7).trans (same_upd (o := .tup [.str "outside", .bl true, .bl false]) nt8)
      walk_at "ev"
      refine ⟨by decide, by decide, fun p9 J8 m9 s9' e9 => ?_⟩
      walk_at "ev"
      refine ⟨(by show 0 ≤ sizeLine; decide), fun p10 m10 => q_eqI (ns := []) (new_at e9 m10) upd_same ?_⟩
      walk_at "ev"
      have sD := sC.trans (s9'.trans (same_upd (o := .lst []) m10))
      exact q _ (src_same sD (Src.ext y7 (src_same sB (Src.ext y6 (src_same (s8'.trans s9) sG))))) (uG.trans ((up_same (s8'.trans s9)).n.trans ((ext_n y6).trans ((up_same sB).n.trans ((ext_n y7).trans (up_same sD).n))))) (tabs_same k7 sD)
/-! ### counts read back -/
def spReadR : Sp := fun vs H Q _ => ∃ (a : Addr), vs = [.ref a] ∧ Src H a ∧ ∀ (H' : Hp), Src H' a → Up a H H' → Q (.bl true) H'
theorem ok_read_right {f : Addr} {fd : FuncData} {k : Nat} (F : Fun K "_law_read_right" "_law_read_right" s_law_read_right f fd) (T : Txt mg)
    (c_law_count : C8.Cal P w K mg base 2 "_law_count" spCount []) (c_law_code : C8.Cal P w K mg base 2 "_law_code" spCode []) (c_law_bits : C8.Cal P w K mg base 2 "_law_bits" spBits []) (c_count_bits : C8.Cal P w K mg base 2 "count_bits" spCountBits []) (ck_count_bits : CalK P w K mg base 2 "count_bits" ["n"] spCountBits)
    (c_law_are_bits : C8.Cal P w K mg base 1 "_law_are_bits" spAreBits []) (c_read_count : C8.Cal P w K mg base 4 "read_count" spReadC []) (ck_read_count : CalK P w K mg base 4 "read_count" ["bits", "at"] spReadC) : FnOk P w K mg base CX0 (k + 5) f fd ["_law_source"] spReadR := by
  refine F.ok sc_law_read_right (fun vs H Q E h => ?_) (fun cdv A outer s H vs Q E hr h => ?_)
  · obtain ⟨a, rfl, _⟩ := h
    rfl
  · obtain ⟨a, rfl, ha, q⟩ := h
    have hu := hr.units
    refine ⟨_, (pss_cons (ps_set (i := 1) sc_law_read_right.nd rfl (Or.inl rfl) (C8.pe_c c_law_count hr (by omega) (by rfl) (pa_cons (pv 0) pa_nil)))
    (pss_cons (ps_par3 (i := 2) (j := 3) (l := 4) rfl sc_law_read_right.nd rfl rfl rfl (by decide) (by decide) (by decide) rfl rfl rfl (pa_cons (C8.pe_c c_law_code hr (by omega) (by rfl) (pa_cons (pv 1) pa_nil)) (pa_cons (C8.pe_c c_law_bits hr (by omega) (by rfl) (pa_cons (pv 0) (pa_cons pe_int pa_nil))) (pa_cons (C8.pe_c c_law_bits hr (by omega) (by rfl) (pa_cons (pv 0) (pa_cons pe_int pa_nil))) pa_nil))) rfl)
    (pss_cons (ps_set (i := 5) sc_law_read_right.nd rfl (Or.inl rfl) (C8.pe_c c_count_bits hr (by omega) (by rfl) (pa_cons (pv 1) pa_nil)))
    (pss_cons (ps_if (PW.pt (pw_or (pt_cmpR (op_neD hu) (pv 5) (pv 2) (nomark _)) (pw_or1 (pt_not (pt_val (C8.pe_c c_law_are_bits hr (by omega) (by rfl) (pa_cons (pv 5) pa_nil))))))) (pss_one (ps_ret pe_bl)) pss_nil)
    (pss_cons (ps_expr (pe_bm PySem.F.plainAttrs_list PySem.F.slot_list_append PySem.F.type_list_append mt_append (pv 5) (pa_cons pe_int pa_nil)))
    (pss_cons (ps_set (i := 6) sc_law_read_right.nd rfl (Or.inl rfl) (pe_op op_cat (pe_op op_cat (pv 3) (pv 2)) (pv 4)))
    (pss_cons (ps_set (i := 7) sc_law_read_right.nd rfl (Or.inl rfl) (pe_tup (pa_cons pe_str (pa_cons (pv 1) (pa_cons (pe_op op_add (pe_callB call_len_seq (by rfl) T.z_len PySem.boot_len (pa_cons (pv 3) pa_nil)) (pe_callB call_len_seq (by rfl) T.z_len PySem.boot_len (pa_cons (pv 2) pa_nil))) pa_nil)))))
    (pss_cons (ps_if (PW.pt (pw_or (pt_cmpR (op_neD hu) (pe_ck ck_count_bits hr (by omega) (by rfl) (pk_cons (pv 1) pk_nil)) (pv 2) (nomark _)) (pw_or1 (pt_cmpR (op_neD hu) (C8.pe_c c_read_count hr (by omega) (by rfl) (pa_cons (pv 6) (pa_cons (pe_callB call_len_seq (by rfl) T.z_len PySem.boot_len (pa_cons (pv 3) pa_nil)) pa_nil))) (pv 7) (nomark _))))) (pss_one (ps_ret pe_bl)) pss_nil)
    (pss_cons (ps_if (PW.pt (pw_or (pt_cmpR (op_neD hu) (pe_ck ck_read_count hr (by omega) (by rfl) (pk_cons (pv 6) (pk_cons (pe_callB call_len_seq (by rfl) T.z_len PySem.boot_len (pa_cons (pv 3) pa_nil)) pk_nil))) (pv 7) (nomark _)) (pw_or1 (pt_cmpR (op_neD hu) (pv 6) (pe_op op_cat (pe_op op_cat (pv 3) (pv 2)) (pv 4)) (nomark _))))) (pss_one (ps_ret pe_bl)) pss_nil)
    (pss_one (ps_ret (pe_not (pe_callB call_isi (by rfl) T.z_isinstance PyProof.Rows.boot_isinstance (pa_cons (pe_ix ix_tup (C8.pe_c c_read_count hr (by omega) (by rfl) (pa_cons (pv 6) (pa_cons (pe_callB call_len_seq (by rfl) T.z_len PySem.boot_len (pa_cons (pv 3) pa_nil)) pa_nil))) pe_int (fun _ _ => rfl)) (pa_cons (pe_bltn (v := .ty "bool") (by rfl) T.z_bool PyProof.Rows.boot_bool rfl) pa_nil))))))))))))))), ?_⟩
    have eL : ∀ {m : Nat}, m ≤ 1000 → m ≤ sizeLine := fun h => Nat.le_of_lt (small1000 h)
    walk_at "ev"
    refine ⟨ha, fun c0 H1 h0 h1 s1 u1 => ?_⟩
    obtain ⟨c, rfl⟩ : ∃ c : Nat, c0 = (c : Int) := ⟨c0.toNat, (Int.toNat_of_nonneg h0).symm⟩
    have hc : c + 1 < 2199023255552 := by omega
    have hbl : bl (c + 1) ≤ 41 := bl_le hc
    walk_at "ev"
    refine ⟨Nat.lt_of_lt_of_le hc (Nat.pow_le_pow_right (n := 2) (by decide) (by decide : 41 ≤ 400)), fun b3 H2 n2 s2 e2 => ?_⟩
    have z2 := src_same s2 s1
    have y3 : b3 ≠ a := (s1.ne n2).symm
    walk_at "ev"
    refine ⟨z2, by decide, by decide, fun b1 xs1 H3 m1 l1 hb1 f1 z3 v1 => ?_⟩
    have y1 : b1 ≠ a := (z2.ne m1).symm
    walk_at "ev"
    refine ⟨z3, by decide, by decide, fun b2 xs2 H4 m2 l2 hb2 f2 z4 v2 => ?_⟩
    have g1 := v2 b1 _ y1 f1
    have g3 := v2 b3 _ y3 (v1 b3 _ y3 e2)
    have uA : Up a H H4 := (u1.up.trans (up_same s2)).trans (v1.trans v2)
    walk_at "ev"
    refine ⟨_, _, _, rfl, ?_⟩
    walk_at "ev"
    refine ⟨hc, fun b4 H5 m5 s5 e5 => ?_⟩
    walk_at "ev"
    refine q_neI e5 (s5 _ _ g3) ?_
    walk_at "ev"
    refine ⟨b4, _, rfl, e5, code_bits _, fun H6 s6 => ?_⟩
    have e6 := s6 _ _ e5
    have hLc : (code c).length ≤ 81 := by rw [code_len]; omega
    have hm1 : (xs1.map V.int).length = xs1.length := List.length_map _
    have hm2 : (xs2.map V.int).length = xs2.length := List.length_map _
    have hm3 : ((code c).map V.int).length = (code c).length := List.length_map _
    have eL : ∀ {m : Nat}, m ≤ 1000 → m ≤ sizeLine := fun h => Nat.le_of_lt (small1000 h)
    walk_at "ev"
    refine ⟨.inl ⟨rfl, _, .inl (.inl e6)⟩, ?_⟩
    walk_at "ev"
    refine ⟨b4, _, _, rfl, rfl, e6, small1000 (by omega), ?_⟩
    have s46 := s5.trans s6
    have k1 : upd H6 b4 (.lst ((code c).map V.int ++ [.int 1])) b1 = some (.lst (xs1.map V.int)) := (upd_ne (ne_of_none g1 m5)).trans (s46 _ _ g1)
    have k2 : upd H6 b4 (.lst ((code c).map V.int ++ [.int 1])) b2 = some (.lst (xs2.map V.int)) := (upd_ne (ne_of_none f2 m5)).trans (s46 _ _ f2)
    have k3 : upd H6 b4 (.lst ((code c).map V.int ++ [.int 1])) b3 = some (.lst ((code c).map V.int)) := (upd_ne (ne_of_none g3 m5)).trans (s46 _ _ g3)
    have kS : Src (upd H6 b4 (.lst ((code c).map V.int ++ [.int 1]))) a := src_keep (z4.ne m5) (src_same s46 z4)
    have kU : Up a H (upd H6 b4 (.lst ((code c).map V.int ++ [.int 1]))) := fun b o nb e => by
      rw [upd_ne (ne_of_none e (uA.new z4 m5))]
      exact s46 _ _ (uA b o nb e)
    generalize upd H6 b4 (.lst ((code c).map V.int ++ [.int 1])) = G at k1 k2 k3 kS kU ⊢
    walk_at "ev"
    refine ⟨b1, b3, _, _, rfl, rfl, k1, k3, eL (by omega), fun b5 n5 => ?_⟩
    walk_at "ev"
    refine ⟨b5, b2, _, _, rfl, rfl, upd_same, new_at k2 n5, eL (by rw [List.length_append]; omega), fun b6 n6 => ?_⟩
    have sw := (same_upd (o := .lst (xs1.map V.int ++ (code c).map V.int)) n5).trans (same_upd (o := .lst ((xs1.map V.int ++ (code c).map V.int) ++ xs2.map V.int)) n6)
    have w1 := sw _ _ k1
    have w2 := sw _ _ k2
    have w3 := sw _ _ k3
    have w6 : upd (upd G b5 (.lst (xs1.map V.int ++ (code c).map V.int))) b6 (.lst ((xs1.map V.int ++ (code c).map V.int) ++ xs2.map V.int)) b6 = some (.lst ((xs1 ++ code c ++ xs2).map V.int)) := by
      rw [upd_same, List.map_append, List.map_append]
    have xb := (hb1.app (code_bits c)).app hb2
    have xl1 : (xs1.map V.int).length ≤ (xs1 ++ code c ++ xs2).length := by rw [List.length_append, List.length_append]; omega
    have xl2 : (xs1 ++ code c ++ xs2).length ≤ 1000 := by rw [List.length_append, List.length_append]; omega
    have hrd := read_code (A := xs1) (B := xs2) hc
    walk_at "ev"
    refine ⟨(by show 3 ≤ sizeLine; decide), fun d nd => ?_⟩
    have sd := same_upd (o := .tup [.str "read", .int (c : Int), .int (((xs1.map V.int).length : Int) + (((code c).map V.int).length : Int))]) nd
    have wd : upd (upd (upd G b5 (.lst (xs1.map V.int ++ (code c).map V.int))) b6 (.lst ((xs1.map V.int ++ (code c).map V.int) ++ xs2.map V.int))) d (.tup [.str "read", .int (c : Int), .int (((xs1.map V.int).length : Int) + (((code c).map V.int).length : Int))]) d = some (.tup (rcV (.read (c : Int) (xs1.length + (code c).length)))) := by
      rw [upd_same, hm1, hm3]
      rfl
    walk_at "ev"
    refine ⟨hc, fun b7 H7 n7 s7 e7 => ?_⟩
    walk_at "ev"
    refine q_neI e7 (s7 _ _ (sd _ _ w3)) ?_
    have v7 := s7 _ _ (sd _ _ w1)
    walk_at "ev"
    refine ⟨b6, xs1 ++ code c ++ xs2, (xs1.map V.int).length, rfl, s7 _ _ (sd _ _ w6), xb, xl1, xl2, fun t2 H8 n8 s8 e8 => ?_⟩
    rw [hm1, hrd] at e8
    walk_at "ev"
    refine q_neR e8 (s8 _ _ (s7 _ _ wd)) ?_
    have s78 := sd.trans (s7.trans s8)
    have v1 := s78 _ _ w1
    walk_at "ev"
    refine ⟨b6, xs1 ++ code c ++ xs2, (xs1.map V.int).length, rfl, s78 _ _ w6, xb, xl1, xl2, fun t3 H9 n9 s9 e9 => ?_⟩
    rw [hm1, hrd] at e9
    walk_at "ev"
    refine q_neR e9 (s9 _ _ (s8 _ _ (s7 _ _ wd))) ?_
    have s79 := s78.trans s9
    walk_at "ev"
    refine ⟨b1, b3, _, _, rfl, rfl, s79 _ _ w1, s79 _ _ w3, eL (by omega), fun b8 m8 => ?_⟩
    walk_at "ev"
    refine ⟨b8, b2, _, _, rfl, rfl, upd_same, new_at (s79 _ _ w2) m8, eL (by rw [List.length_append]; omega), fun b9 m9 => ?_⟩
    refine q_neI (ns := xs1 ++ code c ++ xs2) (new_at (new_at (s79 _ _ w6) m8) m9) (by rw [upd_same, List.map_append, List.map_append]) ?_
    have sy := s79.trans ((same_upd (o := .lst (xs1.map V.int ++ (code c).map V.int)) m8).trans (same_upd (o := .lst ((xs1.map V.int ++ (code c).map V.int) ++ xs2.map V.int)) m9))
    have y1 := sy _ _ w1
    walk_at "ev"
    refine ⟨b6, xs1 ++ code c ++ xs2, (xs1.map V.int).length, rfl, sy _ _ w6, xb, xl1, xl2, fun t4 H10 n10 s10 e10 => ?_⟩
    rw [hm1, hrd] at e10
    simp only [rcV] at e10
    walk_at "ev"
    exact q _ (src_same (sw.trans (sy.trans s10)) kS) (kU.trans (up_same (sw.trans (sy.trans s10))))
theorem rep_ints (m : Nat) (x : Int) : (List.replicate m [V.int x]).flatten = (List.replicate m x).map V.int := by
  induction m with
  | zero => rfl
  | succ m ih =>
    rw [List.replicate_succ, List.flatten_cons, ih, List.replicate_succ]
    rfl
/-! ### the law -/
def spLaw (K : PySem.W.Frag) (PF PL : Addr) : Sp := fun vs H Q _ => ∃ (a : Addr) (ns : List Int), vs = [.ref a] ∧ SqL K H a (ns.map V.int) ∧ ns.length ≤ 63 ∧ LamX.Tabs (tabsT PF PL) H ∧ ∀ H', Q (.bl true) H'
theorem sh_great : SeqAt.shaped (.tuple (tupW "great")) = true := by decide +kernel
theorem code_top : code 2199023255550 = List.replicate 40 0 ++ List.replicate 41 1 := by decide +kernel
theorem ok_law {f cL PF PL gW C O N fX : Addr} {fd fdX : FuncData} {k : Nat} (F : FunC K "law" "law" s_law f fd cL) (T : Txt mg) (D : WordD K mg gW C O N) (TBL : LamX.TabB base mg cL PL) (hne : PF ≠ PL)
    (G_count_bits : FnOk P w K mg base (L2.CX P w) 2 fX fdX ["n"] (spCountX C)) (g_count_bits : mg "count_bits" = some (.ref fX)) (k_count_bits : PySem.W.keepIn K (.ref fX) = true) (b_count_bits : Binds K fdX ["n"] [])
    (c_law_pool : C8.Cal P w K mg base 1 "_law_pool" (spPool K) []) (c_law_take : C8.Cal P w K mg base 1 "_law_take" spTake []) (c_law_read_right : C8.Cal P w K mg base 5 "_law_read_right" spReadR []) (c_law_fixed_right : C8.Cal P w K mg base 4 "_law_fixed_right" (spFixedR PF PL) []) :
    FnOk P w K mg base CX0 (k + 6) f fd ["_law_script"] (spLaw K PF PL) := by
  refine F.ok sc_law (fun vs H Q E h => ?_) (fun A outer s H vs Q E hr h => ?_)
  · obtain ⟨a, ns, rfl, _⟩ := h
    rfl
  · obtain ⟨a, ns, rfl, hS, hl, hT, q⟩ := h
    have hu := hr.units
    refine ⟨_, (pss_cons (ps_for PassesOwn.never rfl (pi_range1 (by rfl) T.z_range (pa_cons (pe_callB (call_max2 rfl) (by rfl) T.z_max PyProof.Rows.boot_max (pa_cons pe_int (pa_cons (pe_callB (call_min2 rfl) (by rfl) T.z_min PyProof.Rows.boot_min (pa_cons (pe_callB call_len_seq (by rfl) T.z_len PySem.boot_len (pa_cons (pv 0) pa_nil)) (pa_cons pe_int pa_nil))) pa_nil))) pa_nil)) (pg_name (i := 1) sc_law.nd rfl (Or.inl rfl))
      (pss_cons (ps_set (i := 2) sc_law.nd rfl (Or.inl rfl) (C8.pe_c c_law_pool hr (by omega) (by rfl) (pa_cons (pv 0) (pa_cons (pv 1) pa_nil))))
    (pss_cons (ps_if (PW.pt (pw_or (pt_not (pt_val (C8.pe_c c_law_read_right hr (by omega) (by rfl) (pa_cons (pv 2) pa_nil)))) (pw_or1 (pt_not (pt_val (C8.pe_c c_law_fixed_right hr (by omega) (by rfl) (pa_cons (pv 2) pa_nil))))))) (pss_one (ps_ret pe_bl)) pss_nil)
    (pss_one (ps_for PassesOwn.never rfl (pi_list (pe_lst (pa_cons (pe_op op_sub (pe_un un_neg pe_int) (C8.pe_c c_law_take hr (by omega) (by rfl) (pa_cons (pv 2) (pa_cons pe_int pa_nil)))) (pa_cons (pe_op op_add (pe_op op_sub (pe_op (op_powc (a := 2) (b := 41) (c := 2199023255552) ⟨by decide, by decide, by decide⟩ (by decide +kernel)) pe_int pe_int) pe_int) (C8.pe_c c_law_take hr (by omega) (by rfl) (pa_cons (pv 2) (pa_cons pe_int pa_nil)))) pa_nil)))) (pg_name (i := 3) sc_law.nd rfl (Or.inr rfl))
      (pss_one (ps_if (pt_cmpR (op_neD hu) (pe_word (k := 2) D (by rfl) TBL rfl (.tail _ (.head _)) (tabsT_L hne) (hr.mono (by omega)) (fun A outer s H E f c' hr2 => (pe_call G_count_bits (hr2.mono (by omega)) (by rfl) g_count_bits k_count_bits b_count_bits .nil (passes_call (takes_of rfl rfl rfl rfl) (fun _ _ _ _ h => h)) (pa_cons (pv 3) pa_nil))) (LamX.lamS_by (by show LamX.lamSB (defScope s_law) _ = true; decide +kernel)) rfl (fun _ _ _ _ _ => rfl)) (pe_tup (pa_cons pe_str (pa_cons pe_bl (pa_cons pe_bl pa_nil)))) (nomark _)) (pss_one (ps_ret pe_bl)) pss_nil)))))))
    (pss_one (ps_ret (pe_cmpR (op_eqD hu) (pe_word (k := 2) D (by rfl) TBL rfl (.tail _ (.head _)) (tabsT_L hne) (hr.mono (by omega)) (fun A outer s H E f c' hr2 => (pe_call G_count_bits (hr2.mono (by omega)) (by rfl) g_count_bits k_count_bits b_count_bits .nil (passes_call (takes_of rfl rfl rfl rfl) (fun _ _ _ _ h => h)) (pa_cons (pe_op op_sub (pe_op (op_powc (a := 2) (b := 41) (c := 2199023255552) ⟨by decide, by decide, by decide⟩ (by decide +kernel)) pe_int pe_int) pe_int) pa_nil))) (LamX.lamS_by (by show LamX.lamSB (defScope s_law) _ = true; decide +kernel)) rfl (fun _ _ _ _ _ => rfl)) (pe_tup (pa_cons pe_str (pa_cons (pe_op op_cat (pe_op op_rep (pe_lst (pa_cons pe_int pa_nil)) pe_int) (pe_op op_rep (pe_lst (pa_cons pe_int pa_nil)) pe_int)) pa_nil))) (nomark _))))), ?_⟩
    refine ⟨_, rfl, a, _, rfl, .inl hS, ?_⟩
    walk_at "ev"
    refine ⟨(by split <;> split <;> omega), (by split <;> split <;> omega), ?_⟩
    refine for_range (fun i σ H1 => ∃ v1 v2 v3, σ = [some (.ref a), v1, v2, v3] ∧ LamX.ExtN H H1 ∧ LamX.Tabs (tabsT PF PL) H1) ⟨_, _, _, rfl, LamX.ExtN.refl H, hT⟩ ?_ ?_
    · rintro i σ H1 hi ⟨v1, v2, v3, rfl, x1, t1⟩
      walk_at "ev"
      refine ⟨_, _, _, rfl, ext_seq x1 hS, (by omega), ?_, fun p H2 np sm hs => ?_⟩
      · split at hi <;> split at hi <;> omega
      have x2 : LamX.ExtN H H2 := x1.trans (ext_same sm)
      have t2 := tabs_same t1 sm
      walk_at "ev"
      refine ⟨hs, fun H3 s3 u3 => ?_⟩
      have t3 := tabs_up t2 u3 hs
      walk_at "ev"
      refine ⟨s3, t3, fun H4 s4 u4 t4 => ?_⟩
      walk_at "ev"
      refine ⟨s4, (by decide), (by decide), fun r1 H5 r10 r11 s5 u5 => ?_⟩
      walk_at "ev"
      refine ⟨s5, (by decide), (by decide), fun r2 H6 r20 r21 s6 u6 => ?_⟩
      walk_at "ev"
      refine ⟨(by show 2 ≤ sizeLine; decide), fun L nL => ?_⟩
      have hLp : L ≠ p := (s6.ne nL).symm
      have s7 := fun o => src_same (same_upd (o := o) nL) s6
      have t7 := fun o => tabs_same (tabs_up (tabs_up t4 u5.up s4) u6.up s5) (same_upd (o := o) nL)
      have u7 := fun o => ((u3.n.trans u4).trans (u5.up.n.trans u6.up.n)).trans (up_same (a := p) (same_upd (o := o) nL)).n
      walk_at "ev"
      refine ⟨⟨_, .inl (.inl upd_same)⟩, for_list (K := K) (a := L) (xs := [.int (-1 - r1), .int (2199023255552 - 1 + r2)]) (fun _ σ Hx => ∃ v3, σ = [some (.ref a), some (.int (0 + (i : Int))), some (.ref p), v3] ∧ LamX.ExtN (upd H6 L (.lst [.int (-1 - r1), .int (2199023255552 - 1 + r2)])) Hx ∧ LamX.Tabs (tabsT PF PL) Hx) ⟨_, rfl, LamX.ExtN.refl _, t7 _⟩ (fun _ _ Hx _ ⟨_, _, x, _⟩ => .inl (.inl (x _ _ upd_same (fun _ z => nomatch z)))) ?_ ?_⟩
      · rintro j y σ Hx hy ⟨v3, rfl, xx, tx⟩
        obtain ⟨z, rfl, hz⟩ : ∃ z, y = V.int z ∧ (z < 0 ∨ 2199023255550 < z) := by
          match j, hy with
          | 0, hy => exact ⟨_, (Option.some.inj hy).symm, .inl (by omega)⟩
          | 1, hy => exact ⟨_, (Option.some.inj hy).symm, .inr (by omega)⟩
        walk_at "ev"
        refine ⟨tx, fun J1 x j1 => ?_⟩
        walk_at "ev"
        refine ⟨hz, .inl ⟨rfl, rfl, fun t nt => ?_⟩⟩
        walk_at "ev"
        refine ⟨(by show 3 ≤ sizeLine; decide), fun t2' nt2 => q_neW (x := "great") (new_at upd_same nt2) upd_same sh_great ?_⟩
        have sB := (same_upd (o := tupB "great") nt).trans (same_upd (o := .tup [.str "great", .bl true, .bl false]) nt2)
        walk_at "ev"
        exact ⟨xx.trans (x.trans (ext_same sB)), tabs_same j1 sB⟩
      · rintro σ Hx ⟨v3, rfl, xx, tx⟩
        walk_at "ev"
        exact ⟨_, _, _, rfl, fun b o e t => xx _ _ (u7 _ _ _ (ne_of_none (x1 b o e t) np) (x2 b o e t) t) t, tx⟩
    · rintro σ H1 ⟨v1, v2, v3, rfl, x1, t1⟩
      walk_at "ev"
      refine ⟨t1, fun J1 x j1 => ?_⟩
      walk_at "ev"
      refine ⟨by decide, fun p H2 n2 s2 e2 => ?_⟩
      replace e2 : H2 p = some (.lst ((code 2199023255550).map V.int)) := e2
      intro t nt
      have e2b := new_at (o' := .tup [.str "told", .ref p]) e2 nt
      walk_at "ev"
      refine ⟨(by show 1 ≤ sizeLine; decide), fun a7 m7 => ?_⟩
      walk_at "ev"
      refine ⟨a7, _, _, rfl, rfl, upd_same, by omega, by omega, Nat.le_of_lt (small1000 (by decide)), fun a8 m8 => ?_⟩
      rw [rep_ints]
      walk_at "ev"
      refine ⟨(by show 1 ≤ sizeLine; decide), fun a9 m9 => ?_⟩
      walk_at "ev"
      refine ⟨a9, _, _, rfl, rfl, upd_same, by omega, by omega, Nat.le_of_lt (small1000 (by decide)), fun a10 m10 => ?_⟩
      rw [rep_ints]
      walk_at "ev"
      refine ⟨a8, a10, _, _, rfl, rfl, new_at (new_at upd_same m9) m10, upd_same, Nat.le_of_lt (small1000 (by decide)), fun a11 m11 => ?_⟩
      walk_at "ev"
      refine ⟨(by show 2 ≤ sizeLine; decide), fun a12 m12 => ?_⟩
      have sL := (same_upd (o := .lst [.int 0]) m7).trans ((same_upd (o := .lst ((List.replicate (40 : Int).toNat (0 : Int)).map V.int)) m8).trans ((same_upd (o := .lst [.int 1]) m9).trans ((same_upd (o := .lst ((List.replicate (41 : Int).toNat (1 : Int)).map V.int)) m10).trans ((same_upd (o := .lst ((List.replicate (40 : Int).toNat (0 : Int)).map V.int ++ (List.replicate (41 : Int).toNat (1 : Int)).map V.int)) m11).trans (same_upd (o := .tup [.str "told", .ref a11]) m12)))))
      refine q_eqS (d := .tuple [.str "told", .list ((code 2199023255550).map PyData.int)]) (.tup (.inl (.inl (sL _ _ upd_same))) (.cons (.str _) (.cons (dp_ints (.inl (.inl (sL _ _ e2b)))) .nil))) (.tup (.inl (.inl upd_same)) (.cons (.str _) (.cons (dp_ints (.inl (.inl ?_))) .nil))) (sh_told _) ?_
      · refine new_at ?_ m12
        rw [upd_same, code_top, List.map_append]
        rfl
      · exact q _
end
/-! ### what the top has written -/
theorem kbn1 {K : PySem.W.Frag} {x qual p : Str} {params : Arguments} {body : List Stmt} {scope : Scope} {kV doc pm cd ct : Value} {an : Option Addr} (h : ∀ u, bindArgs (PySem.W.fnOf x qual params body scope .none kV doc pm an cd ct) ⟨[], [(p, u)]⟩ = pure [(p, u)]) : KBn K (PySem.W.fnOf x qual params body scope .none kV doc pm an cd ct) [p] 0 [p] (fun _ ws => ws) (fun _ zs => zs) :=
  ⟨fun s us ws _ h1 h2 => match us, ws, h1, h2 with | [], [u], _, _ => .of_eq (h u), fun _ r => r⟩
theorem kbn2 {K : PySem.W.Frag} {x qual p p2 : Str} {params : Arguments} {body : List Stmt} {scope : Scope} {kV doc pm cd ct : Value} {an : Option Addr} (h : ∀ u v, bindArgs (PySem.W.fnOf x qual params body scope .none kV doc pm an cd ct) ⟨[], [(p, u), (p2, v)]⟩ = pure [(p, u), (p2, v)]) : KBn K (PySem.W.fnOf x qual params body scope .none kV doc pm an cd ct) [p, p2] 0 [p, p2] (fun _ ws => ws) (fun _ zs => zs) :=
  ⟨fun s us ws _ h1 h2 => match us, ws, h1, h2 with | [], [u, v], _, _ => .of_eq (h u v), fun _ r => r⟩
theorem kbn3 {K : PySem.W.Frag} {x qual p p2 p3 : Str} {params : Arguments} {body : List Stmt} {scope : Scope} {kV doc pm cd ct : Value} {an : Option Addr} (h : ∀ u v w, bindArgs (PySem.W.fnOf x qual params body scope .none kV doc pm an cd ct) ⟨[], [(p, u), (p2, v), (p3, w)]⟩ = pure [(p, u), (p2, v), (p3, w)]) : KBn K (PySem.W.fnOf x qual params body scope .none kV doc pm an cd ct) [p, p2, p3] 0 [p, p2, p3] (fun _ ws => ws) (fun _ zs => zs) :=
  ⟨fun s us ws _ h1 h2 => match us, ws, h1, h2 with | [], [u, v, w], _, _ => .of_eq (h u v w), fun _ r => r⟩
theorem all_mk {l : PySem.W.OpenLaw} {w : World} {K : PySem.W.Frag} {h : Heap} {mg : Str → Option Value} {fa : Addr} (X : K.In h) (G : h.Ns mainGlobals mg) (hfa : mg "law" = some (.ref fa))
    {od0 an0 : Option Addr} {sl0 : Array (Option Value)} {oc0 kV0 dc0 pm0 cd0 ct0 : Value} {f0 : Addr}
    (a0 : PySem.W.nsIn K mainGlobals "is_number" = some (some (.ref f0))) (l0 : K.lookup f0 = some ⟨oc0, od0, .func (PySem.W.fnOf "is_number" "is_number" (defArgs s_is_number) (defBody s_is_number) (defScope s_is_number) .none kV0 dc0 pm0 an0 cd0 ct0), sl0⟩) (c0 : PySem.W.codeIn K cd0 "is_number" = true) (k0 : PySem.W.keepIn K (.ref f0) = true)
    {od1 an1 : Option Addr} {sl1 : Array (Option Value)} {oc1 kV1 dc1 pm1 cd1 ct1 : Value} {f1 : Addr}
    (a1 : PySem.W.nsIn K mainGlobals "check_bits" = some (some (.ref f1))) (l1 : K.lookup f1 = some ⟨oc1, od1, .func (PySem.W.fnOf "check_bits" "check_bits" (defArgs s_check_bits) (defBody s_check_bits) (defScope s_check_bits) .none kV1 dc1 pm1 an1 cd1 ct1), sl1⟩) (c1 : PySem.W.codeIn K cd1 "check_bits" = true) (k1 : PySem.W.keepIn K (.ref f1) = true)
    {od2 an2 : Option Addr} {sl2 : Array (Option Value)} {oc2 kV2 dc2 pm2 cd2 ct2 : Value} {f2 : Addr}
    (a2 : PySem.W.nsIn K mainGlobals "number_of" = some (some (.ref f2))) (l2 : K.lookup f2 = some ⟨oc2, od2, .func (PySem.W.fnOf "number_of" "number_of" (defArgs s_number_of) (defBody s_number_of) (defScope s_number_of) .none kV2 dc2 pm2 an2 cd2 ct2), sl2⟩) (c2 : PySem.W.codeIn K cd2 "number_of" = true) (k2 : PySem.W.keepIn K (.ref f2) = true)
    {od3 an3 : Option Addr} {sl3 : Array (Option Value)} {oc3 kV3 dc3 pm3 cd3 ct3 : Value} {f3 : Addr}
    (a3 : PySem.W.nsIn K mainGlobals "fixed" = some (some (.ref f3))) (l3 : K.lookup f3 = some ⟨oc3, od3, .func (PySem.W.fnOf "fixed" "fixed" (defArgs s_fixed) (defBody s_fixed) (defScope s_fixed) .none kV3 dc3 pm3 an3 cd3 ct3), sl3⟩) (c3 : PySem.W.codeIn K cd3 "fixed" = true) (k3 : PySem.W.keepIn K (.ref f3) = true)
    {od4 an4 : Option Addr} {sl4 : Array (Option Value)} {oc4 kV4 dc4 pm4 cd4 ct4 : Value} {f4 : Addr}
    (a4 : PySem.W.nsIn K mainGlobals "count_bits" = some (some (.ref f4))) (l4 : K.lookup f4 = some ⟨oc4, od4, .func (PySem.W.fnOf "count_bits" "count_bits" (defArgs s_count_bits) (defBody s_count_bits) (defScope s_count_bits) .none kV4 dc4 pm4 an4 cd4 ct4), sl4⟩) (c4 : PySem.W.codeIn K cd4 "count_bits" = true) (k4 : PySem.W.keepIn K (.ref f4) = true)
    {od5 an5 : Option Addr} {sl5 : Array (Option Value)} {oc5 kV5 dc5 pm5 cd5 ct5 : Value} {f5 : Addr}
    (a5 : PySem.W.nsIn K mainGlobals "count_at" = some (some (.ref f5))) (l5 : K.lookup f5 = some ⟨oc5, od5, .func (PySem.W.fnOf "count_at" "count_at" (defArgs s_count_at) (defBody s_count_at) (defScope s_count_at) .none kV5 dc5 pm5 an5 cd5 ct5), sl5⟩) (c5 : PySem.W.codeIn K cd5 "count_at" = true) (k5 : PySem.W.keepIn K (.ref f5) = true)
    {od6 an6 : Option Addr} {sl6 : Array (Option Value)} {oc6 kV6 dc6 pm6 cd6 ct6 : Value} {f6 : Addr}
    (a6 : PySem.W.nsIn K mainGlobals "check_place" = some (some (.ref f6))) (l6 : K.lookup f6 = some ⟨oc6, od6, .func (PySem.W.fnOf "check_place" "check_place" (defArgs s_check_place) (defBody s_check_place) (defScope s_check_place) .none kV6 dc6 pm6 an6 cd6 ct6), sl6⟩) (c6 : PySem.W.codeIn K cd6 "check_place" = true) (k6 : PySem.W.keepIn K (.ref f6) = true)
    {od7 an7 : Option Addr} {sl7 : Array (Option Value)} {oc7 kV7 dc7 pm7 cd7 ct7 : Value} {f7 : Addr}
    (a7 : PySem.W.nsIn K mainGlobals "read_count" = some (some (.ref f7))) (l7 : K.lookup f7 = some ⟨oc7, od7, .func (PySem.W.fnOf "read_count" "read_count" (defArgs s_read_count) (defBody s_read_count) (defScope s_read_count) .none kV7 dc7 pm7 an7 cd7 ct7), sl7⟩) (c7 : PySem.W.codeIn K cd7 "read_count" = true) (k7 : PySem.W.keepIn K (.ref f7) = true)
    {od8 an8 : Option Addr} {sl8 : Array (Option Value)} {oc8 kV8 dc8 pm8 cd8 ct8 : Value} {f8 : Addr}
    (a8 : PySem.W.nsIn K mainGlobals "_law_pool" = some (some (.ref f8))) (l8 : K.lookup f8 = some ⟨oc8, od8, .func (PySem.W.fnOf "_law_pool" "_law_pool" (defArgs s_law_pool) (defBody s_law_pool) (defScope s_law_pool) .none kV8 dc8 pm8 an8 cd8 ct8), sl8⟩) (c8 : PySem.W.codeIn K cd8 "_law_pool" = true) (k8 : PySem.W.keepIn K (.ref f8) = true)
    {od9 an9 : Option Addr} {sl9 : Array (Option Value)} {oc9 kV9 dc9 pm9 cd9 ct9 : Value} {f9 : Addr}
    (a9 : PySem.W.nsIn K mainGlobals "_law_take" = some (some (.ref f9))) (l9 : K.lookup f9 = some ⟨oc9, od9, .func (PySem.W.fnOf "_law_take" "_law_take" (defArgs s_law_take) (defBody s_law_take) (defScope s_law_take) .none kV9 dc9 pm9 an9 cd9 ct9), sl9⟩) (c9 : PySem.W.codeIn K cd9 "_law_take" = true) (k9 : PySem.W.keepIn K (.ref f9) = true)
    {od10 an10 : Option Addr} {sl10 : Array (Option Value)} {oc10 kV10 dc10 pm10 cd10 ct10 : Value} {f10 : Addr}
    (a10 : PySem.W.nsIn K mainGlobals "_law_bits" = some (some (.ref f10))) (l10 : K.lookup f10 = some ⟨oc10, od10, .func (PySem.W.fnOf "_law_bits" "_law_bits" (defArgs s_law_bits) (defBody s_law_bits) (defScope s_law_bits) .none kV10 dc10 pm10 an10 cd10 ct10), sl10⟩) (c10 : PySem.W.codeIn K cd10 "_law_bits" = true) (k10 : PySem.W.keepIn K (.ref f10) = true)
    {od11 an11 : Option Addr} {sl11 : Array (Option Value)} {oc11 kV11 dc11 pm11 cd11 ct11 : Value} {f11 : Addr}
    (a11 : PySem.W.nsIn K mainGlobals "_law_digits" = some (some (.ref f11))) (l11 : K.lookup f11 = some ⟨oc11, od11, .func (PySem.W.fnOf "_law_digits" "_law_digits" (defArgs s_law_digits) (defBody s_law_digits) (defScope s_law_digits) .none kV11 dc11 pm11 an11 cd11 ct11), sl11⟩) (c11 : PySem.W.codeIn K cd11 "_law_digits" = true) (k11 : PySem.W.keepIn K (.ref f11) = true)
    {od12 an12 : Option Addr} {sl12 : Array (Option Value)} {oc12 kV12 dc12 pm12 cd12 ct12 : Value} {f12 : Addr}
    (a12 : PySem.W.nsIn K mainGlobals "_law_are_bits" = some (some (.ref f12))) (l12 : K.lookup f12 = some ⟨oc12, od12, .func (PySem.W.fnOf "_law_are_bits" "_law_are_bits" (defArgs s_law_are_bits) (defBody s_law_are_bits) (defScope s_law_are_bits) .none kV12 dc12 pm12 an12 cd12 ct12), sl12⟩) (c12 : PySem.W.codeIn K cd12 "_law_are_bits" = true) (k12 : PySem.W.keepIn K (.ref f12) = true)
    {od13 an13 : Option Addr} {sl13 : Array (Option Value)} {oc13 kV13 dc13 pm13 cd13 ct13 : Value} {f13 : Addr}
    (a13 : PySem.W.nsIn K mainGlobals "_law_count" = some (some (.ref f13))) (l13 : K.lookup f13 = some ⟨oc13, od13, .func (PySem.W.fnOf "_law_count" "_law_count" (defArgs s_law_count) (defBody s_law_count) (defScope s_law_count) .none kV13 dc13 pm13 an13 cd13 ct13), sl13⟩) (c13 : PySem.W.codeIn K cd13 "_law_count" = true) (k13 : PySem.W.keepIn K (.ref f13) = true)
    {od14 an14 : Option Addr} {sl14 : Array (Option Value)} {oc14 kV14 dc14 pm14 cd14 ct14 : Value} {f14 : Addr}
    (a14 : PySem.W.nsIn K mainGlobals "_law_code" = some (some (.ref f14))) (l14 : K.lookup f14 = some ⟨oc14, od14, .func (PySem.W.fnOf "_law_code" "_law_code" (defArgs s_law_code) (defBody s_law_code) (defScope s_law_code) .none kV14 dc14 pm14 an14 cd14 ct14), sl14⟩) (c14 : PySem.W.codeIn K cd14 "_law_code" = true) (k14 : PySem.W.keepIn K (.ref f14) = true)
    {od15 an15 : Option Addr} {sl15 : Array (Option Value)} {oc15 kV15 dc15 pm15 cd15 ct15 : Value} {f15 : Addr}
    (a15 : PySem.W.nsIn K mainGlobals "_law_word" = some (some (.ref f15))) (l15 : K.lookup f15 = some ⟨oc15, od15, .func (PySem.W.fnOf "_law_word" "_law_word" (defArgs s_law_word) (defBody s_law_word) (defScope s_law_word) .none kV15 dc15 pm15 an15 cd15 ct15), sl15⟩) (c15 : PySem.W.codeIn K cd15 "_law_word" = true) (k15 : PySem.W.keepIn K (.ref f15) = true)
    {od16 an16 : Option Addr} {sl16 : Array (Option Value)} {oc16 kV16 dc16 pm16 ct16 : Value} {f16 cc16 : Addr}
    (a16 : PySem.W.nsIn K mainGlobals "_law_fixed_right" = some (some (.ref f16))) (l16 : K.lookup f16 = some ⟨oc16, od16, .func (PySem.W.fnOf "_law_fixed_right" "_law_fixed_right" (defArgs s_law_fixed_right) (defBody s_law_fixed_right) (defScope s_law_fixed_right) .none kV16 dc16 pm16 an16 (.ref cc16) ct16), sl16⟩) (c16 : PySem.W.codeIn K (.ref cc16) "_law_fixed_right" = true) (k16 : PySem.W.keepIn K (.ref f16) = true)
    {od17 an17 : Option Addr} {sl17 : Array (Option Value)} {oc17 kV17 dc17 pm17 cd17 ct17 : Value} {f17 : Addr}
    (a17 : PySem.W.nsIn K mainGlobals "_law_read_right" = some (some (.ref f17))) (l17 : K.lookup f17 = some ⟨oc17, od17, .func (PySem.W.fnOf "_law_read_right" "_law_read_right" (defArgs s_law_read_right) (defBody s_law_read_right) (defScope s_law_read_right) .none kV17 dc17 pm17 an17 cd17 ct17), sl17⟩) (c17 : PySem.W.codeIn K cd17 "_law_read_right" = true) (k17 : PySem.W.keepIn K (.ref f17) = true)
    {od18 an18 : Option Addr} {sl18 : Array (Option Value)} {oc18 kV18 dc18 pm18 ct18 : Value} {f18 cc18 : Addr}
    (a18 : PySem.W.nsIn K mainGlobals "law" = some (some (.ref f18))) (l18 : K.lookup f18 = some ⟨oc18, od18, .func (PySem.W.fnOf "law" "law" (defArgs s_law) (defBody s_law) (defScope s_law) .none kV18 dc18 pm18 an18 (.ref cc18) ct18), sl18⟩) (c18 : PySem.W.codeIn K (.ref cc18) "law" = true) (k18 : PySem.W.keepIn K (.ref f18) = true)
    {C O N : Addr} {PF PL : Addr} {tc16 : Value} {td16 : Option Addr} {tv16 : Array Value} {ts16 : Array (Option Value)} {tc18 : Value} {td18 : Option Addr} {tv18 : Array Value} {ts18 : Array (Option Value)} {tg tz : Tok} 
    (y0 : PySem.W.nsIn K mainGlobals "int" = some none)
    (y1 : PySem.W.nsIn K mainGlobals "len" = some none)
    (y2 : PySem.W.nsIn K mainGlobals "max" = some none)
    (y3 : PySem.W.nsIn K mainGlobals "min" = some none)
    (y4 : PySem.W.nsIn K mainGlobals "range" = some none)
    (y5 : PySem.W.nsIn K mainGlobals "isinstance" = some none)
    (y6 : PySem.W.nsIn K mainGlobals "bool" = some none)
    (y7 : PySem.W.nsIn K mainGlobals "list" = some none)
    (eC : PySem.W.nsIn K mainGlobals "Great" = some (some (.ref C)))
    (eO : PySem.W.nsIn K mainGlobals "Outside" = some (some (.ref O)))
    (eN : PySem.W.nsIn K mainGlobals "NarrowError" = some (some (.ref N)))
    (m4 : PySem.W.specialIn K (.builtin "object.__class__") "__get__" = some (some (.builtin "getset_descriptor.__get__")))
    (m5 : PySem.W.takesIn K (.builtin "object.__class__") = some true)
    (exC : PySem.W.excIn K C [.type "ValueError", .type "Exception", .type "BaseException", .type "object"] "ValueError.__new__" = true)
    (kCc : PySem.W.keepIn K (.ref C) = true)
    (bCc : PySem.W.subIn K (.ref C) (.type "BaseException") = some true)
    (tCc : PySem.W.typeIn K (.ref C) = some (.type "type"))
    (m0C : PySem.W.findIn K (.ref C) "__getattribute__" = some (some (.builtin "BaseException.__getattribute__")))
    (m1C : PySem.W.findIn K (.ref C) "__getattr__" = some none)
    (m2C : PySem.W.hasDictIn K C = true)
    (m3C : PySem.W.findIn K (.ref C) "__class__" = some (some (.builtin "object.__class__")))
    (m6C : PySem.W.mroIn K C (.type "object") = some true)
    (sCC : PySem.W.subIn K (.ref C) (.ref C) = some true)
    (exO : PySem.W.excIn K O [.type "ValueError", .type "Exception", .type "BaseException", .type "object"] "ValueError.__new__" = true)
    (kOc : PySem.W.keepIn K (.ref O) = true)
    (bOc : PySem.W.subIn K (.ref O) (.type "BaseException") = some true)
    (tOc : PySem.W.typeIn K (.ref O) = some (.type "type"))
    (m0O : PySem.W.findIn K (.ref O) "__getattribute__" = some (some (.builtin "BaseException.__getattribute__")))
    (m1O : PySem.W.findIn K (.ref O) "__getattr__" = some none)
    (m2O : PySem.W.hasDictIn K O = true)
    (m3O : PySem.W.findIn K (.ref O) "__class__" = some (some (.builtin "object.__class__")))
    (m6O : PySem.W.mroIn K O (.type "object") = some true)
    (sOO : PySem.W.subIn K (.ref O) (.ref O) = some true)
    (iNc : PySem.W.isClsIn K N = true)
    (tNc : PySem.W.typeIn K (.ref N) = some (.type "type"))
    (iOc : PySem.W.isClsIn K O = true)
    (iCc : PySem.W.isClsIn K C = true)
    (sCN : PySem.W.subIn K (.ref C) (.ref N) = some true)
    (sCO : PySem.W.subIn K (.ref C) (.ref O) = some false)
    (sON : PySem.W.subIn K (.ref O) (.ref N) = some true)
    (sOC : PySem.W.subIn K (.ref O) (.ref C) = some false)
    (gg : PySem.W.nsIn K mainGlobals "GREATEST_COUNT" = some (some (.int 2199023255550 tg)))
    (gz : PySem.W.nsIn K mainGlobals "MOST_ZEROS" = some (some (.int 40 tz)))
    (tb16 : K.lookup cc16 = some ⟨tc16, td16, .fields tv16, ts16⟩)
    (tp16 : tv16[11]? = some (.ref PF))
    (hd16 : PySem.W.codeHdIn K cc16 PF = true)
    (nk16 : K.lookup PF = none)
    (tb18 : K.lookup cc18 = some ⟨tc18, td18, .fields tv18, ts18⟩)
    (tp18 : tv18[11]? = some (.ref PL))
    (hd18 : PySem.W.codeHdIn K cc18 PL = true)
    (nk18 : K.lookup PL = none)
    (ne01 : (PF == PL) = false)
    (hT0 : h.get? PF = some { cls := .none, data := .fields #[] })
    (hT1 : h.get? PL = some { cls := .none, data := .fields #[] }) :
    LamX.LawAtS l w K CX0 6 63 "_law_script" mg fa h := by
  have e := hfa.symm.trans (PySem.W.mg_of X G a18)
  cases e
  have T : Txt mg := ⟨PySem.W.mg_none_of X G y0, PySem.W.mg_none_of X G y1, PySem.W.mg_none_of X G y2, PySem.W.mg_none_of X G y3, PySem.W.mg_none_of X G y4, PySem.W.mg_none_of X G y5, PySem.W.mg_none_of X G y6, PySem.W.mg_none_of X G y7⟩
  have EC : ECls K mg "Great" C := ⟨PySem.W.mg_of X G eC, exC, kCc, bCc, tCc, ⟨m0C, m1C, bCc, m2C, m3C, m4, m5, m6C⟩, PySem.W.exm_ref bCc m2C tCc sCC⟩
  have EO : ECls K mg "Outside" O := ⟨PySem.W.mg_of X G eO, exO, kOc, bOc, tOc, ⟨m0O, m1O, bOc, m2O, m3O, m4, m5, m6O⟩, PySem.W.exm_ref bOc m2O tOc sOO⟩
  have rCN := kit_ref iNc tNc sCN fun _ => sCC
  have rCO := kit_ref iOc tOc sCO fun _ => sCC
  have rON := kit_ref iNc tNc sON fun _ => sOO
  have rOC := kit_ref iCc tCc sOC fun _ => sOO
  have qOC := PySem.W.exm_ref bCc m2C tCc sOC
  have c_gg := PySem.W.mg_of X G gg
  have c_gz := PySem.W.mg_of X G gz
  have nne01 := ne_of_beq_false ne01
  have F0 := fun_mk (st := s_is_number) l0 c0 k0
  have b0 := F0.binds (ps := ["thing"]) fun _ _ _ _ _ _ us hl => match us, hl with | [_], _ => rfl
  have F1 := fun_mk (st := s_check_bits) l1 c1 k1
  have b1 := F1.binds (ps := ["bits"]) fun _ _ _ _ _ _ us hl => match us, hl with | [_], _ => rfl
  have F2 := fun_mk (st := s_number_of) l2 c2 k2
  have b2 := F2.binds (ps := ["bits"]) fun _ _ _ _ _ _ us hl => match us, hl with | [_], _ => rfl
  have F3 := fun_mk (st := s_fixed) l3 c3 k3
  have b3 := F3.binds (ps := ["n", "w"]) fun _ _ _ _ _ _ us hl => match us, hl with | [_, _], _ => rfl
  have F4 := fun_mk (st := s_count_bits) l4 c4 k4
  have b4 := F4.binds (ps := ["n"]) fun _ _ _ _ _ _ us hl => match us, hl with | [_], _ => rfl
  have F5 := fun_mk (st := s_count_at) l5 c5 k5
  have b5 := F5.binds (ps := ["bits", "at"]) fun _ _ _ _ _ _ us hl => match us, hl with | [_, _], _ => rfl
  have F6 := fun_mk (st := s_check_place) l6 c6 k6
  have b6 := F6.binds (ps := ["bits", "at"]) fun _ _ _ _ _ _ us hl => match us, hl with | [_, _], _ => rfl
  have F7 := fun_mk (st := s_read_count) l7 c7 k7
  have b7 := F7.binds (ps := ["bits", "at"]) fun _ _ _ _ _ _ us hl => match us, hl with | [_, _], _ => rfl
  have F8 := fun_mk (st := s_law_pool) l8 c8 k8
  have b8 := F8.binds (ps := ["_law_script", "_law_k"]) fun _ _ _ _ _ _ us hl => match us, hl with | [_, _], _ => rfl
  have F9 := fun_mk (st := s_law_take) l9 c9 k9
  have b9 := F9.binds (ps := ["_law_source", "_law_most"]) fun _ _ _ _ _ _ us hl => match us, hl with | [_, _], _ => rfl
  have F10 := fun_mk (st := s_law_bits) l10 c10 k10
  have b10 := F10.binds (ps := ["_law_source", "_law_most"]) fun _ _ _ _ _ _ us hl => match us, hl with | [_, _], _ => rfl
  have F11 := fun_mk (st := s_law_digits) l11 c11 k11
  have b11 := F11.binds (ps := ["_law_number"]) fun _ _ _ _ _ _ us hl => match us, hl with | [_], _ => rfl
  have F12 := fun_mk (st := s_law_are_bits) l12 c12 k12
  have b12 := F12.binds (ps := ["_law_told"]) fun _ _ _ _ _ _ us hl => match us, hl with | [_], _ => rfl
  have F13 := fun_mk (st := s_law_count) l13 c13 k13
  have b13 := F13.binds (ps := ["_law_source"]) fun _ _ _ _ _ _ us hl => match us, hl with | [_], _ => rfl
  have F14 := fun_mk (st := s_law_code) l14 c14 k14
  have b14 := F14.binds (ps := ["_law_count_here"]) fun _ _ _ _ _ _ us hl => match us, hl with | [_], _ => rfl
  have F15 := fun_mk (st := s_law_word) l15 c15 k15
  have b15 := F15.binds (ps := ["_law_call"]) fun _ _ _ _ _ _ us hl => match us, hl with | [_], _ => rfl
  have F16 := fun_mk (st := s_law_fixed_right) l16 c16 k16
  have FC16 := funC_mk (st := s_law_fixed_right) l16 c16
  have b16 := F16.binds (ps := ["_law_source"]) fun _ _ _ _ _ _ us hl => match us, hl with | [_], _ => rfl
  have F17 := fun_mk (st := s_law_read_right) l17 c17 k17
  have b17 := F17.binds (ps := ["_law_source"]) fun _ _ _ _ _ _ us hl => match us, hl with | [_], _ => rfl
  have F18 := fun_mk (st := s_law) l18 c18 k18
  have FC18 := funC_mk (st := s_law) l18 c18
  have b18 := F18.binds (ps := ["_law_script"]) fun _ _ _ _ _ _ us hl => match us, hl with | [_], _ => rfl
  refine ⟨PySem.W.fnOf "law" "law" (defArgs s_law) (defBody s_law) (defScope s_law) .none kV18 dc18 pm18 an18 (.ref cc18) ct18, [(cc16, PF), (cc18, PL)], (spLaw K PF PL), fun p hp => by
    simp only [List.mem_cons, List.not_mem_nil, or_false] at hp
    rcases hp with rfl | rfl
    · exact hT0
    · exact hT1, fun p hp => by
    simp only [List.mem_cons, List.not_mem_nil, or_false] at hp
    rcases hp with rfl | rfl
    · exact nk16
    · exact nk18, fun p hp => by
    simp only [List.mem_cons, List.not_mem_nil, or_false] at hp
    rcases hp with rfl | rfl
    · exact PySem.W.codeHd_of_K X hd16
    · exact PySem.W.codeHd_of_K X hd18, fun s v => .of_eq rfl, fun H a ns hl _ hH hS => ⟨a, ns, rfl, hS, hl, (fun p hp => by
    rcases List.mem_cons.mp hp with z | z
    · rw [z]
      exact LamX.TabS.nil (hH (cc16, PF) (by simp))
    · rw [List.mem_singleton.mp z]
      exact LamX.TabS.nil (hH (cc18, PL) (by simp))), fun _ => rfl⟩, fun base _ _ TB => ?_⟩
  have TB0 := TB (cc16, PF) (by simp)
  have TB1 := TB (cc18, PL) (by simp)
  have Z0 : C8.Cal l.prog w K mg base 1 "is_number" spIsNum [] := ⟨_, _, _, _, ok_is_number F0 T, PySem.W.mg_of X G a0, k0, b0, .nil⟩
  have Z1 : C8.Cal l.prog w K mg base 2 "check_bits" spCheckB [] := ⟨_, _, _, _, ok_check_bits F1 Z0, PySem.W.mg_of X G a1, k1, b1, .nil⟩
  have Z2 : C8.Cal l.prog w K mg base 1 "number_of" spNumber [] := ⟨_, _, _, _, ok_number_of F2, PySem.W.mg_of X G a2, k2, b2, .nil⟩
  have Of := ok_fixed (P := l.prog) (w := w) (base := base) (k := 0) F3 T
  have Z3 : C8.Cal l.prog w K mg base 1 "fixed" spFixed [] := ⟨_, _, _, _, Of, PySem.W.mg_of X G a3, k3, b3, .nil⟩
  have ck_fixed : CalK l.prog w K mg base 1 "fixed" ["n", "w"] spFixed := ⟨_, _, _, Of, PySem.W.mg_of X G a3, k3, kbn2 fun _ _ => rfl⟩
  have Oc := ok_count_bits (P := l.prog) (w := w) (base := base) (k := 0) F4 c_gg Z3
  have Z4 : C8.Cal l.prog w K mg base 2 "count_bits" spCountBits [] := ⟨_, _, _, _, Oc, PySem.W.mg_of X G a4, k4, b4, .nil⟩
  have ck_count : CalK l.prog w K mg base 2 "count_bits" ["n"] spCountBits := ⟨_, _, _, Oc, PySem.W.mg_of X G a4, k4, kbn1 fun _ => rfl⟩
  have Z5 : C8.Cal l.prog w K mg base 2 "count_at" spCountAt [] := ⟨_, _, _, _, ok_count_at F5 T c_gz Z2, PySem.W.mg_of X G a5, k5, b5, .nil⟩
  have Z6 : C8.Cal l.prog w K mg base 3 "check_place" spCheckP [] := ⟨_, _, _, _, ok_check_place F6 T Z1, PySem.W.mg_of X G a6, k6, b6, .nil⟩
  have Or := ok_read_count (P := l.prog) (w := w) (base := base) (k := 0) F7 Z6 Z5
  have Z7 : C8.Cal l.prog w K mg base 4 "read_count" spReadC [] := ⟨_, _, _, _, Or, PySem.W.mg_of X G a7, k7, b7, .nil⟩
  have ck_read : CalK l.prog w K mg base 4 "read_count" ["bits", "at"] spReadC := ⟨_, _, _, Or, PySem.W.mg_of X G a7, k7, kbn2 fun _ _ => rfl⟩
  have Z8 : C8.Cal l.prog w K mg base 1 "_law_pool" (spPool K) [] := ⟨_, _, _, _, ok_pool F8 T, PySem.W.mg_of X G a8, k8, b8, .nil⟩
  have Z9 : C8.Cal l.prog w K mg base 1 "_law_take" spTake [] := ⟨_, _, _, _, ok_take F9 T, PySem.W.mg_of X G a9, k9, b9, .nil⟩
  have Z10 : C8.Cal l.prog w K mg base 2 "_law_bits" spBits [] := ⟨_, _, _, _, ok_bits F10 T Z9, PySem.W.mg_of X G a10, k10, b10, .nil⟩
  have Z11 : C8.Cal l.prog w K mg base 1 "_law_digits" spDigits [] := ⟨_, _, _, _, ok_digits F11, PySem.W.mg_of X G a11, k11, b11, .nil⟩
  have Z12 : C8.Cal l.prog w K mg base 1 "_law_are_bits" spAreBits [] := ⟨_, _, _, _, ok_are_bits F12 T, PySem.W.mg_of X G a12, k12, b12, .nil⟩
  have Z13 : C8.Cal l.prog w K mg base 2 "_law_count" spCount [] := ⟨_, _, _, _, ok_count F13 T Z9, PySem.W.mg_of X G a13, k13, b13, .nil⟩
  have Z14 : C8.Cal l.prog w K mg base 2 "_law_code" spCode [] := ⟨_, _, _, _, ok_code F14 T Z11, PySem.W.mg_of X G a14, k14, b14, .nil⟩
  have D : WordD K mg f15 C O N := ⟨EC, EO, PySem.W.mg_of X G eN, rCN, rCO, rON, rOC, qOC, PySem.W.mg_none_of X G y5, PySem.W.mg_of X G a15, k15, ⟨_, _, _, _, _, _, _, _, _, l15, c15, b15⟩⟩
  have GX := ok_fixedX (P := l.prog) (w := w) (base := base) (k := 0) F3 T EO
  have GC := ok_count_bitsX (P := l.prog) (w := w) (base := base) (k := 0) F4 c_gg EC GX (PySem.W.mg_of X G a3) k3 b3
  have Z16 : C8.Cal l.prog w K mg base 4 "_law_fixed_right" (spFixedR PF PL) [] := ⟨_, _, _, _, ok_fixed_right FC16 T D TB0 nne01 GX (PySem.W.mg_of X G a3) k3 b3 Z9 Z10 Z11 Z12 Z3 ck_fixed, PySem.W.mg_of X G a16, k16, b16, .nil⟩
  have Z17 : C8.Cal l.prog w K mg base 5 "_law_read_right" spReadR [] := ⟨_, _, _, _, ok_read_right F17 T Z13 Z14 Z10 Z4 ck_count Z12 Z7 ck_read, PySem.W.mg_of X G a17, k17, b17, .nil⟩
  exact ok_law FC18 T D TB1 nne01 GC (PySem.W.mg_of X G a4) k4 b4 Z8 Z9 Z17 Z16
end My
open PySem PySem.W PyProof.Rows
set_option maxRecDepth 100000 in
set_option maxHeartbeats 0 in
theorem PySem.Challenge.cw_narrowingbits_k00_counts_read_back_holds : PySem.Challenge.rw_narrowingbits_k00_counts_read_back.Holds := by
  w_on; o_law; k_head; (case hw => w_witness2)
  k_fill
  refine LamX.walk_ofTs (l := PySem.Challenge.rw_narrowingbits_k00_counts_read_back) (n := 63) (k := 6) (x := "_law_script") (CX := fun _ => L2.CX0) rfl (by decide) rfl ⟨rfl, by decide, by decide⟩ (fun w h Y => PySem.W.km_in_of Y) ?F (fun _ _ _ _ _ h => h)
  case F =>
    intro w mg fa h Y KX G hmg
    have hT8 := PySem.W.km_tabs_of Y
    refine' My.all_mk KX G hmg ?a0 ?l0 ?c0 ?k0 ?a1 ?l1 ?c1 ?k1 ?a2 ?l2 ?c2 ?k2 ?a3 ?l3 ?c3 ?k3 ?a4 ?l4 ?c4 ?k4 ?a5 ?l5 ?c5 ?k5 ?a6 ?l6 ?c6 ?k6 ?a7 ?l7 ?c7 ?k7 ?a8 ?l8 ?c8 ?k8 ?a9 ?l9 ?c9 ?k9 ?a10 ?l10 ?c10 ?k10 ?a11 ?l11 ?c11 ?k11 ?a12 ?l12 ?c12 ?k12 ?a13 ?l13 ?c13 ?k13 ?a14 ?l14 ?c14 ?k14 ?a15 ?l15 ?c15 ?k15 ?a16 ?l16 ?c16 ?k16 ?a17 ?l17 ?c17 ?k17 ?a18 ?l18 ?c18 ?k18 ?y0 ?y1 ?y2 ?y3 ?y4 ?y5 ?y6 ?y7 ?eC ?eO ?eN ?m4 ?m5 ?exC ?kCc ?bCc ?tCc ?m0C ?m1C ?m2C ?m3C ?m6C ?sCC ?exO ?kOc ?bOc ?tOc ?m0O ?m1O ?m2O ?m3O ?m6O ?sOO ?iNc ?tNc ?iOc ?iCc ?sCN ?sCO ?sON ?sOC ?gg ?gz ?tb16 ?tp16 ?hd16 ?nk16 ?tb18 ?tp18 ?hd18 ?nk18 ?ne01 ?hT0 ?hT1
    (case a0 => k_is); (case l0 => k_is); (case c0 => k_is); (case k0 => k_is)
    (case a1 => k_is); (case l1 => k_is); (case c1 => k_is); (case k1 => k_is)
    (case a2 => k_is); (case l2 => k_is); (case c2 => k_is); (case k2 => k_is)
    (case a3 => k_is); (case l3 => k_is); (case c3 => k_is); (case k3 => k_is)
    (case a4 => k_is); (case l4 => k_is); (case c4 => k_is); (case k4 => k_is)
    (case a5 => k_is); (case l5 => k_is); (case c5 => k_is); (case k5 => k_is)
    (case a6 => k_is); (case l6 => k_is); (case c6 => k_is); (case k6 => k_is)
    (case a7 => k_is); (case l7 => k_is); (case c7 => k_is); (case k7 => k_is)
    (case a8 => k_is); (case l8 => k_is); (case c8 => k_is); (case k8 => k_is)
    (case a9 => k_is); (case l9 => k_is); (case c9 => k_is); (case k9 => k_is)
    (case a10 => k_is); (case l10 => k_is); (case c10 => k_is); (case k10 => k_is)
    (case a11 => k_is); (case l11 => k_is); (case c11 => k_is); (case k11 => k_is)
    (case a12 => k_is); (case l12 => k_is); (case c12 => k_is); (case k12 => k_is)
    (case a13 => k_is); (case l13 => k_is); (case c13 => k_is); (case k13 => k_is)
    (case a14 => k_is); (case l14 => k_is); (case c14 => k_is); (case k14 => k_is)
    (case a15 => k_is); (case l15 => k_is); (case c15 => k_is); (case k15 => k_is)
    (case a16 => k_is); (case l16 => k_is); (case c16 => k_is); (case k16 => k_is)
    (case a17 => k_is); (case l17 => k_is); (case c17 => k_is); (case k17 => k_is)
    (case a18 => k_is); (case l18 => k_is); (case c18 => k_is); (case k18 => k_is)
    (case y0 => k_is)
    (case y1 => k_is)
    (case y2 => k_is)
    (case y3 => k_is)
    (case y4 => k_is)
    (case y5 => k_is)
    (case y6 => k_is)
    (case y7 => k_is)
    (case eC => k_is)
    (case eO => k_is)
    (case eN => k_is)
    (case m4 => k_is)
    (case m5 => k_is)
    (case kCc => k_is)
    (case bCc => k_is)
    (case tCc => k_is)
    (case m0C => k_is)
    (case m1C => k_is)
    (case m2C => k_is)
    (case m3C => k_is)
    (case m6C => k_is)
    (case sCC => k_is)
    (case kOc => k_is)
    (case bOc => k_is)
    (case tOc => k_is)
    (case m0O => k_is)
    (case m1O => k_is)
    (case m2O => k_is)
    (case m3O => k_is)
    (case m6O => k_is)
    (case sOO => k_is)
    (case iNc => k_is)
    (case tNc => k_is)
    (case iOc => k_is)
    (case iCc => k_is)
    (case sCN => k_is)
    (case sCO => k_is)
    (case sON => k_is)
    (case sOC => k_is)
    (case gg => k_is)
    (case gz => k_is)
    (case tb16 => k_is)
    (case tb18 => k_is)
    (case tp16 => rfl)
    (case hd16 => kernel_rfl)
    (case tp18 => rfl)
    (case hd18 => kernel_rfl)
    (case nk16 => kernel_rfl)
    (case nk18 => kernel_rfl)
    (case exC => k_exc)
    (case exO => k_exc)
    (case ne01 => rfl)
    (case hT0 => exact hT8 _ (by k_mem))
    (case hT1 => exact hT8 _ (by k_mem))
