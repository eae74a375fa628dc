import PyProof.Rows.All
import Wide.All
import OpenK.AllK
import Wide.FinOn
import HandS.ForMost
import HandS.Wide
import HandS.IsInst
import HandS.Codes
import HandS.Style
import HandS.EndBits
import HandS.Walk
import HandS.FStr
import HandS.WideBits
import HandS.Defaults
import HandS.Exc
import HandS.TryOnly
import HandS.ExcOwn
import HandS.WordsExc
import HandS.ExcIs
import HandS.Lambda
import HandS.EndTab
import KE.KTupSum
import HandS.Iter
import HandS.Property
import HandS.ForList
import HandS.MakeKw
import HandS.MakeKwOnly
import KE.KExcIs
import HandS.ExcInit
import HandS.ExcField
import HandS.Replace
import HandS.More
import HandS.Text
import HandS.TryMany
import HandS.Deep
import KE.DataFind
import PyProof.CollectStr
import PyProof.SliceStr2
import PyProof.WalksMore
import PyProof.MinMaxWalk
import PyProof.SumWalkG
import PySem.Challenge.RW_narrowingbits_k36_settings_refused
set_option Elab.async false
set_option linter.all false
set_option maxRecDepth 100000
set_option maxHeartbeats 4000000
namespace My
open PySem PySem.Spec PyProof.Rows L2
/-! ### arithmetic -/
theorem cdivw {i j : Int} (h : 0 < j) (h2 : j < 18446744073709551616) : CDivW i j := wide_div (b := 64) h (by omega) (by decide) (by decide)
theorem cmull {i j : Int} (h : -18446744073709551616 < i) (h2 : i < 18446744073709551616) : CMul i j := .inl ⟨by omega, by omega⟩
theorem cmulr {i j : Int} (h : -18446744073709551616 < j) (h2 : j < 18446744073709551616) : CMul i j := .inr ⟨by omega, by omega⟩
theorem pow18 : ((10 : Int) ^ (18 : Int).toNat) = 1000000000000000000 := by decide +kernel
theorem pow30 : ((10 : Int) ^ (30 : Int).toNat) = 1000000000000000000000000000000 := by decide +kernel
theorem pow9 : ((10 : Int) ^ (9 : Int).toNat) = 1000000000 := by decide +kernel
theorem pool_nn (c : Int) (b : Bool) : 0 ≤ (if -1 - c > c then -1 - c else c) * (if b = true then 1 else 0) := by
  refine Int.mul_nonneg ?_ ?_
  · split <;> omega
  · split <;> decide
theorem at_lt {ns : List Int} {k : Int} (h0 : 0 ≤ k) (h : k < ((ns.map V.int).length : Int)) : ∃ z, atI (ns.map V.int) k = some (.int z) := by
  rw [List.length_map] at h
  refine ⟨ns[k.toNat]'(by omega), at_of (j := k.toNat) (by omega) ?_⟩
  rw [List.getElem?_map, List.getElem?_eq_getElem (by omega)]
  rfl
theorem at_mem {xs : List V} {r : Int} (h0 : 0 ≤ r) (h : r < (xs.length : Int)) : ∃ v, atI xs r = some v ∧ v ∈ xs := by
  refine ⟨xs[r.toNat]'(by omega), at_of (j := r.toNat) (by omega) (List.getElem?_eq_getElem (by omega)), List.getElem_mem _⟩
/-! ### heaps -/
theorem same_upd {H : Hp} {p : Addr} {o : HO} (h : H p = none) : Same H (upd H p o) := fun b x e => by
  rw [upd_ne (ne_of_none e h)]
  exact e
/-- a source of draws stands at a -/
def Src (H : Hp) (a : Addr) : Prop := ∃ x y : Int, H a = some (.lst [.int x, .int y]) ∧ 0 ≤ x ∧ 0 ≤ y ∧ y < 2147483647
/-- all but a is as it was -/
def But (a : Addr) (H H' : Hp) : Prop := ∀ b, b ≠ a → H' b = H b
theorem But.refl (a : Addr) (H : Hp) : But a H H := fun _ _ => rfl
theorem But.trans {a : Addr} {H H1 H2 : Hp} (u : But a H H1) (v : But a H1 H2) : But a H H2 := fun b e => (v b e).trans (u b e)
theorem But.upd {a : Addr} {H : Hp} {o : HO} : But a H (upd H a o) := fun b e => upd_ne e
theorem But.at {a b : Addr} {H H' : Hp} {o : HO} (u : But a H H') (n : b ≠ a) (h : H b = some o) : H' b = some o := (u b n).trans h
theorem src_same {H H' : Hp} {a : Addr} (s : Same H H') (h : Src H a) : Src H' a := by
  obtain ⟨x, y, e, r⟩ := h
  exact ⟨x, y, s _ _ e, r⟩
theorem Src.ne {H : Hp} {a p : Addr} (h : Src H a) (n : H p = none) : a ≠ p := by
  obtain ⟨x, y, e, r⟩ := h
  exact ne_of_none e n
theorem same_but {a : Addr} {G H H' : Hp} (s : Same G H) (u : But a H H') (n : G a = none) : Same G H' := fun b o e => by
  rw [u b (ne_of_none e n)]
  exact s b o e
theorem kit_ii {K : PySem.W.Frag} : PySem.W.kitOne K (.type "int") (.type "int") = some true := kit_ty (by decide +kernel)
theorem kit_ib {K : PySem.W.Frag} : PySem.W.kitOne K (.type "int") (.type "bool") = some false := kit_ty (by decide +kernel)
theorem kit_bi {K : PySem.W.Frag} : PySem.W.kitOne K (.type "bool") (.type "int") = some true := kit_ty (by decide +kernel)
theorem kit_bb {K : PySem.W.Frag} : PySem.W.kitOne K (.type "bool") (.type "bool") = some true := kit_ty (by decide +kernel)
theorem kit_tt {K : PySem.W.Frag} : PySem.W.kitOne K (.type "tuple") (.type "tuple") = some true := kit_ty (by decide +kernel)
theorem kit_ll {K : PySem.W.Frag} : PySem.W.kitOne K (.type "list") (.type "list") = some true := kit_ty (by decide +kernel)
theorem kit_tl {K : PySem.W.Frag} : PySem.W.kitOne K (.type "tuple") (.type "list") = some false := kit_ty (by decide +kernel)
theorem kit_lt {K : PySem.W.Frag} : PySem.W.kitOne K (.type "list") (.type "tuple") = some false := kit_ty (by decide +kernel)
theorem op_powc {X : Cx} {a b c : Int} (hc : CPow a b) (h : a ^ b.toNat = c) : OpR X (binaryOp .Pow) (fun x y H Q => x = .int a ∧ y = .int b ∧ Q (.int c) H) := by
  intro pins s σ H x y v u Q I rx ry h'
  obtain ⟨rfl, rfl, q⟩ := h'
  exact op_pow pins s σ H _ _ v u Q I rx ry ⟨_, _, rfl, rfl, hc, by subst h; exact q⟩
theorem dp_pair {K : PySem.W.Frag} {H : Hp} {p : Addr} {a b : Int} (h : H p = some (.tup [.int a, .int b])) : Dp K H (.ref p) (.tuple [.int a, .int b]) := .tup (.inl (.inl h)) (.cons (.int _) (.cons (.int _) .nil))
theorem eq_pair (a b : Int) : PyData.eqv (.tuple [.int a, .int b]) (.tuple [.int a, .int b]) = true := by
  simp [PyData.eqv, PyData.eqvAll]
theorem tup_eq {H : Hp} {p : Addr} {x x' y y' : Int} (h : H p = some (.tup [.int x, .int y])) (h1 : x = x') (h2 : y = y') : H p = some (.tup [.int x', .int y']) := by
  rw [← h1, ← h2]
  exact h
end My
namespace My
section
open PySem PySem.W PyProof.Rows Builtin Builtin.Str Builtin.Int Builtin.Float
def binCodes (n : Nat) : List Nat := (Nat.toDigits 2 n).map Char.toNat
theorem field_plain (ds : List Nat) (h : ds.isEmpty = false) : intField' { align := 62, type := some 98 } false [] ds [] 4 = ⟨ds.toArray⟩ := by
  unfold intField'
  simp [h]
theorem digs_ne (n : Nat) : ((Nat.toDigits 2 n).map fun c => ((if ((98 : Nat) == 88) = true then c.toUpper else c) : Char).toNat).isEmpty = false := by
  cases e : Nat.toDigits 2 n with
  | nil =>
    have := tDigits_len_ge 2 n
    rw [e] at this
    cases this
  | cons a l => rfl
theorem meets_bin {x : Int} {t : Tok} (h0 : 0 ≤ x) (hL : (Nat.toDigits 2 x.natAbs).length ≤ sizeLine) :
    ∀ u, Meets (Builtin.«int.__format__» ⟨[.int x t, .str (Str.ofString "b") u], []⟩) (fun _ R s => ∀ t' k, R (.ok (.ret (.str ⟨(binCodes x.natAbs).toArray⟩ t'))) { s with toks := k }) := by
  intro u
  apply KPc.meets_of
  intro prog w A E s Q h
  unfold Builtin.«int.__format__»
  refine wpAny_bind (wpAny_of_eq (a := (_, _)) rfl ?_)
  refine wpAny_bind (wpAny_of_eq (a := _) rfl ?_)
  kxf_if
  refine wpAny_bind (wpAny_typeNameOf (T := "str") (typeIs_str _ _ _) (by decide) fun _ => ?_)
  refine wpAny_bind (wpAny_of_eq (a := some _) rfl ?_)
  kxf_if
  kxf_if
  refine wpAny_bind (wpAny_typeNameOfCut_int ?_)
  repeat kxf_if
  refine KXf.ret_text (T := ⟨(binCodes x.natAbs).toArray⟩) ?e ?l h
  case e =>
    have hx : decide (x < 0) = false := decide_eq_false (by omega)
    rw [hx]
    show intField' { align := 62, type := some 98 } false [] ((Nat.toDigits 2 x.natAbs).map fun c => ((if ((98 : Nat) == 88) = true then c.toUpper else c) : Char).toNat) [] 4 = _
    exact field_plain _ (digs_ne _)
  case l =>
    have hx : decide (x < 0) = false := decide_eq_false (by omega)
    rw [hx]
    show (intField' { align := 62, type := some 98 } false [] ((Nat.toDigits 2 x.natAbs).map fun c => ((if ((98 : Nat) == 88) = true then c.toUpper else c) : Char).toNat) [] 4).length ≤ sizeLine
    rw [field_plain _ (digs_ne _)]
    show ((binCodes x.natAbs).toArray).size ≤ sizeLine
    rw [List.size_toArray, binCodes, List.length_map]
    exact hL
end
end My
namespace My
open PySem PySem.Spec PyProof.Rows L2
/-! ### an f-string's field in binary -/
section
variable {X : Cx}
theorem pe_fmtB {e : Expr} {te : TE} {k : Nat} {pos p1 p2 : Pos} (he : PE X e te) : PE X (.FormattedValue e (-1) (some (.JoinedStr [.Constant (.str "b") k p1] p2)) pos)
    (fun σ H Q => te σ H fun x H1 => ∃ i : Int, x = .int i ∧ 0 ≤ i ∧ (Nat.toDigits 2 i.natAbs).length ≤ sizeLine ∧ Q (.str (SX.S (binCodes i.natAbs))) H1) := by
  refine ⟨fun pins s σ H Q I h => ?_⟩
  refine wpAny_FormattedValue_spec (thn (he.run pins s σ H _ I h) fun v s1 hv => ?_)
  obtain ⟨x, H1, I1, r1, i, rfl, h0, hL, q⟩ := hv
  obtain ⟨t, rfl⟩ := r1
  refine thn ((pe_joined1 (X := X) (pe_str (x := "b") (j := k) (pos := p1)) (pos := p2)).run pins s1 σ H1 (fun y H2 => y = .str "b" ∧ H2 = H1) I1 ⟨rfl, rfl⟩) fun r s2 hr => ?_
  obtain ⟨y, H2, I2, r2, rfl, rfl⟩ := hr
  obtain ⟨t2, rfl⟩ := r2
  exact ⟨_, t2, rfl, PySem.W.KXf.field_int rfl rfl (by decide) (meets_bin h0 hL) fun t' k => ⟨.str _, _, I2.tok _, ⟨_, rfl⟩, q⟩⟩
/-- a call by keywords alone -/
theorem pe_kw0 {CX : CXT} {k : Nat} {f : Addr} {fd : FuncData} {ps ks : List Str} {sp : Sp} {E : XK} {x : Str} {p pos : Pos} {kws : List Keyword} {tk : TA} {g : List Value → List Value → List Value} {gV : List V → List V → List V}
    (F : FnOk X.prog X.w X.K X.mg X.base CX k f fd ps sp) (hr : Room k X.A) (hg : Gl X x) (hm : X.mg x = some (.ref f)) (hk : PySem.W.keepIn X.K (.ref f) = true) (hb : KBn X.K fd ps 0 ks g gV) (hx : Passes CX X E) (hkw : PK X kws tk)
    (hall : (backToKw pos (keywordEach kws X.env)).all (·.1.isSome) = true := by rfl) (hks : (backToKw pos (keywordEach kws X.env)).filterMap (·.1) = ks := by rfl) (hdb : (x == ("__debug__" : Str)) = false := by decide)
    (hpl : ((backTo pos (starEach [] X.env)).any (·.1) || (backToKw pos (keywordEach kws X.env)).any (·.1.isNone)) = false := by rfl) :
    PE X (.Call (.Name x p) [] kws pos) (fun σ H Q => tk σ H fun zs H2 => zs.length = ks.length ∧ sp (gV [] zs) H2 Q E) := by
  refine ⟨fun pins s σ H Q I h => ?_⟩
  refine wpAny_Call_Name_kw (ld_glob I hg hm ?_ hdb)
  refine PySem.W.callWith_KW0 (h₀ := X.base) I.ok.mod.kin hk hall ?_ hpl
  refine thn (hkw.run pos pins s σ H _ I h) fun ws s2 ⟨zs, H2, I2, rz, l2, q2⟩ => ⟨I2.kIn, ?_⟩
  rw [hks]
  exact run_fnN (us := []) (vs := []) F hr hb hx I2 .nil rz rfl l2 q2
/-- a def that may be called by keywords alone -/
structure CalK (P : Program) (w : World) (K : PySem.W.Frag) (mg : Str → Option Value) (base : Heap) (k : Nat) (x : Str) (ks : List Str) (sp : Sp) : Prop where
  ex : ∃ (f : Addr) (fd : FuncData) (ps : List Str), FnOk P w K mg base CX0 k f fd ps sp ∧ mg x = some (.ref f) ∧ PySem.W.keepIn K (.ref f) = true ∧ KBn K fd ps 0 ks (fun _ ws => ws) (fun _ zs => zs)
theorem pe_ck {k j : Nat} {ks : List Str} {sp : Sp} {x : Str} {p pos : Pos} {kws : List Keyword} {tk : TA} (c : CalK X.prog X.w X.K X.mg X.base k x ks sp) (hr : Room j X.A) (hk : k ≤ j) (hg : Gl X x) (hkw : PK X kws tk)
    (hall : (backToKw pos (keywordEach kws X.env)).all (·.1.isSome) = true := by rfl) (hks : (backToKw pos (keywordEach kws X.env)).filterMap (·.1) = ks := by rfl) (hdb : (x == ("__debug__" : Str)) = false := by decide)
    (hpl : ((backTo pos (starEach [] X.env)).any (·.1) || (backToKw pos (keywordEach kws X.env)).any (·.1.isNone)) = false := by rfl) :
    PE X (.Call (.Name x p) [] kws pos) (fun σ H Q => tk σ H fun zs H2 => zs.length = ks.length ∧ sp zs H2 Q E0) := by
  obtain ⟨f, fd, ps, F, hm, hkp, hb⟩ := c.ex
  exact pe_kw0 F (hr.mono hk) hg hm hkp hb pass0 hkw hall hks hdb hpl
end
/-! ### digits -/
/-- the w binary digits of n, the highest first -/
def bitsW : Nat → Nat → List Nat
  | 0, _ => []
  | w + 1, n => bitsW w (n / 2) ++ [n % 2]
theorem bitsW_len : ∀ w n, (bitsW w n).length = w
  | 0, _ => rfl
  | w + 1, n => by rw [bitsW, List.length_append, bitsW_len w (n / 2)]; rfl
theorem bitsW_bit : ∀ w n, ∀ b ∈ bitsW w n, b < 2
  | 0, _, b, h => by cases h
  | w + 1, n, b, h => by
    rw [bitsW, List.mem_append] at h
    rcases h with h | h
    · exact bitsW_bit w _ b h
    · rw [List.mem_singleton] at h
      omega
theorem digit_code {b : Nat} (h : b < 2) : (Nat.digitChar b).toNat = 48 + b := by
  match b, h with
  | 0, _ => rfl
  | 1, _ => rfl
theorem binCodes_pow : ∀ w n, n < 2 ^ w → binCodes (2 ^ w + n) = 49 :: (bitsW w n).map (48 + ·)
  | 0, n, h => by
    have e : n = 0 := by omega
    subst e
    rfl
  | w + 1, n, h => by
    have p : 2 ^ (w + 1) = 2 * 2 ^ w := by rw [Nat.pow_succ, Nat.mul_comm]
    have g : 0 < 2 ^ w := Nat.two_pow_pos w
    have ih := binCodes_pow w (n / 2) (by omega)
    unfold binCodes at ih ⊢
    rw [Nat.toDigits_of_base_le (by decide) (by omega), List.map_append, show (2 ^ (w + 1) + n) / 2 = 2 ^ w + n / 2 by omega, ih, show (2 ^ (w + 1) + n) % 2 = n % 2 by omega, bitsW, List.map_append]
    show 49 :: _ ++ [(Nat.digitChar (n % 2)).toNat] = _
    rw [digit_code (Nat.mod_lt _ (by decide))]
    rfl
/-- the digits as numbers -/
def bitsI (w n : Nat) : List Int := (bitsW w n).map fun (b : Nat) => (b : Int)
theorem bitsI_len (w n : Nat) : (bitsI w n).length = w := by rw [bitsI, List.length_map, bitsW_len]
theorem digit_int {b : Nat} (h : b < 2) : PySem.intText? ⟨#[48 + b]⟩ = some (b : Int) := by
  match b, h with
  | 0, _ => decide +kernel
  | 1, _ => decide +kernel
theorem take_snoc {α : Type} {l : List α} {i : Nat} {x : α} (h : l[i]? = some x) : l.take i ++ [x] = l.take (i + 1) := by
  rw [List.take_add_one, h]
  rfl
end My
namespace My
open PySem PySem.Spec PyProof.Rows L2
/-! ### lists of numbers compared -/
theorem eqv_same {d : PyData} (h : SeqAt.shaped d = true) : PyData.eqv d d = true := SeqAt.eqv_refl d (SeqAt.canLay_of_shaped h)
theorem dpall_ints {K : PySem.W.Frag} {H : Hp} : ∀ ns : List Int, DpAll K H (ns.map V.int) (ns.map PyData.int)
  | [] => .nil
  | n :: r => .cons (.int n) (dpall_ints r)
theorem dp_ints {K : PySem.W.Frag} {H : Hp} {p : Addr} {ns : List Int} (h : SqL K H p (ns.map V.int)) : Dp K H (.ref p) (.list (ns.map PyData.int)) := .lst h (dpall_ints ns)
theorem sh_ints (ns : List Int) : SeqAt.shaped (.list (ns.map PyData.int)) = true := PySem.W.ke_shaped_ints ns
theorem q_eqI {K : PySem.W.Frag} {H : Hp} {p q : Addr} {ns : List Int} {Q : VK} (hp : H p = some (.lst (ns.map V.int))) (hq : H q = some (.lst (ns.map V.int))) (h : Q (.bl true) H) : rEqD K (.ref p) (.ref q) H Q :=
  ⟨_, _, dp_ints (.inl (.inl hp)), dp_ints (.inl (.inl hq)), sh_ints ns, sh_ints ns, by rw [eqv_same (sh_ints ns)]; exact h⟩
theorem q_neI {K : PySem.W.Frag} {H : Hp} {p q : Addr} {ns : List Int} {Q : VK} (hp : H p = some (.lst (ns.map V.int))) (hq : H q = some (.lst (ns.map V.int))) (h : Q (.bl false) H) : rNeD K (.ref p) (.ref q) H Q :=
  ⟨_, _, dp_ints (.inl (.inl hp)), dp_ints (.inl (.inl hq)), sh_ints ns, sh_ints ns, by rw [eqv_same (sh_ints ns)]; exact h⟩
/-! ### all but the source stays -/
def Up (a : Addr) (H H' : Hp) : Prop := ∀ b o, b ≠ a → H b = some o → H' b = some o
theorem Up.refl (a : Addr) (H : Hp) : Up a H H := fun _ _ _ h => h
theorem up_same {a : Addr} {H H' : Hp} (s : Same H H') : Up a H H' := fun b o _ h => s b o h
theorem But.up {a : Addr} {H H' : Hp} (u : But a H H') : Up a H H' := fun b o n h => (u b n).trans h
theorem Up.trans {a : Addr} {H H1 H2 : Hp} (u : Up a H H1) (v : Up a H1 H2) : Up a H H2 := fun b o n h => v b o n (u b o n h)
theorem Up.to {a : Addr} {G H H' : Hp} (u : Up a H H') (s : Same G H) (n : G a = none) : Same G H' := fun b o e => u b o (ne_of_none e n) (s b o e)
theorem Up.new {a p : Addr} {H H' : Hp} (u : Up a H H') (hs : Src H' a) (n : H' p = none) : H p = none := by
  cases e : H p with
  | none => rfl
  | some o =>
    have := u p o (hs.ne n).symm e
    rw [n] at this
    cases this
theorem src_keep {a p : Addr} {H : Hp} {o : HO} (n : a ≠ p) (h : Src H a) : Src (upd H p o) a := by
  obtain ⟨x, y, e, r⟩ := h
  exact ⟨x, y, by rw [upd_ne n]; exact e, r⟩
/-! ### digits by place -/
theorem bitsW_get : ∀ w n i, i < w → (bitsW w n)[i]? = some (n / 2 ^ (w - 1 - i) % 2)
  | 0, _, i, h => absurd h (Nat.not_lt_zero i)
  | w + 1, n, i, h => by
    rw [bitsW]
    by_cases e : i = w
    · subst e
      rw [List.getElem?_append_right (by rw [bitsW_len]; exact Nat.le_refl _), bitsW_len, show i - i = 0 by omega, show i + 1 - 1 - i = 0 by omega, Nat.pow_zero, Nat.div_one]
      rfl
    · rw [List.getElem?_append_left (by rw [bitsW_len]; omega), bitsW_get w (n / 2) i (by omega), Nat.div_div_eq_div_mul, show w + 1 - 1 - i = (w - 1 - i) + 1 by omega, Nat.pow_succ, Nat.mul_comm]
theorem bitsI_get {w n i : Nat} (h : i < w) : (bitsI w n)[i]? = some (((n / 2 ^ (w - 1 - i) % 2 : Nat)) : Int) := by
  rw [bitsI, List.getElem?_map, bitsW_get w n i h]
  rfl
end My
namespace My
open PySem PySem.Spec PyProof.Rows L2
section
variable {X : Cx}
/-- X(), X an own exception class without own __init__ -/
theorem pmk_none {C : Addr} {bmB : List Value} {B newId initId : String} {x : Str} {p pos : Pos} (F : ExcBaseFacts B newId initId bmB) (q : PySem.W.excIn X.K C bmB newId = true) (gC : X.mg x = some (.ref C)) (kC : PySem.W.keepIn X.K (.ref C) = true) (r : Raises X (.ref C)) (hg : Gl X x)
    (hdb : (x == ("__debug__" : Str)) = false := by decide) : PMk X (.Call (.Name x p) [] [] pos) (fun _ H Q => Q (.ref C) none H) := by
  intro pins s σ H Q I h
  refine wpAny_Call_Name_kw (ld_glob I hg gC (PySem.W.callWith_K0 I.kIn kC ?_) hdb)
  obtain ⟨bm, N, nm, qn, bs, hdct, sn, sub, ab, col, dd, k0, k1, k2, k3, k5, mN, hC, hN, hni, T⟩ := exc_obj I.kIn q
  exact wpAny_call_exc_subT F T hC hN hni (fun _ _ hm => mk_of I hm r h (I.hok.gone hm.new)) (Nat.zero_le _)
/-- isinstance of an own class against another one -/
theorem kit_ref {K : PySem.W.Frag} {C N : Addr} {b : Bool} (i : PySem.W.isClsIn K N = true) (t : PySem.W.typeIn K (.ref N) = some (.type "type")) (s : PySem.W.subIn K (.ref C) (.ref N) = some b) (n : b = false → PySem.W.subIn K (.ref C) (.ref C) = some true) :
    PySem.W.kitOne K (.ref C) (.ref N) = some b := by
  unfold PySem.W.kitOne
  by_cases e : ((Value.ref C) == (Value.ref N)) = true
  · rw [if_pos e]
    have e2 : C = N := Value.ref.inj (beq_iff_eq.mp e)
    subst e2
    cases b with
    | true => rfl
    | false =>
      rw [n rfl] at s
      cases s
  · rw [if_neg e]
    unfold PySem.W.kitCls
    have h : ((PySem.W.clsIn K N).isSome && PySem.W.typeIn K (.ref N) == some (.type "type")) = true := by
      rw [t, Bool.and_eq_true]
      exact ⟨i, by rfl⟩
    show (if _ then _ else _) = _
    rw [if_pos h]
    exact s
/-- an own exception class at C, as the top has written it -/
structure ECls (K : PySem.W.Frag) (mg : Str → Option Value) (x : Str) (C : Addr) : Prop where
  gC : mg x = some (.ref C)
  xC : PySem.W.excIn K C [.type "ValueError", .type "Exception", .type "BaseException", .type "object"] "ValueError.__new__" = true
  kC : PySem.W.keepIn K (.ref C) = true
  bC : PySem.W.subIn K (.ref C) (.type "BaseException") = some true
  tC : PySem.W.typeIn K (.ref C) = some (.type "type")
  ex : ExcC K C
  em : PySem.W.exmOne K (.ref C) (.ref C) = some true
/-- isinstance of the exception that a suite holds, its class told in the reading -/
theorem call_isE1 {a D : Addr} {oe : Obj} {cls : Value} {d : Option Addr} {pn : List (Addr × Obj)} (C : ExcC X.K D) (hz : Zc cls d oe) (hf : ∃ vs, oe.data = .fields vs) :
    CallR (X.suite a ((a, oe) :: pn)) (.builtin "isinstance") (fun xs H Q => cls = .ref D ∧ d = none ∧ rIsE X.K D a xs H Q) := by
  intro pins s σ H xs us Q I r h
  obtain ⟨e1, e2, h⟩ := h
  subst e1 e2
  exact call_isE C hz hf pins s σ H xs us Q I r h
end
end My
namespace My
open PySem PySem.Spec PyProof.Rows L2
/-! ### bit lengths, digits, values -/
def bl (n : Nat) : Nat := Builtin.Int.intBits (n : Int)
theorem bl_zero : bl 0 = 0 := rfl
theorem bl_pos {n : Nat} (h : 0 < n) : bl n = n.log2 + 1 := by
  unfold bl Builtin.Int.intBits
  rw [if_neg (by simp; omega), Int.natAbs_natCast]
theorem bl_lt (n : Nat) : n < 2 ^ bl n := by
  cases n with
  | zero => decide
  | succ n =>
    rw [bl_pos (Nat.succ_pos n)]
    exact Nat.lt_log2_self
theorem bl_le {n k : Nat} (h : n < 2 ^ k) : bl n ≤ k := PyProof.Rows.intBits_le (by rw [Int.natAbs_natCast]; exact h)
theorem bl_half {n : Nat} (h : 0 < n) : bl n = bl (n / 2) + 1 := by
  rw [bl_pos h]
  by_cases e : n = 1
  · subst e
    decide
  · rw [bl_pos (by omega), Nat.log2_def, if_pos (by omega)]
theorem bitsI_succ (w n : Nat) : bitsI (w + 1) n = bitsI w (n / 2) ++ [((n % 2 : Nat) : Int)] := by
  unfold bitsI
  rw [bitsW, List.map_append]
  rfl
def digs (n : Nat) : List Int := bitsI (bl n) n
theorem digs_zero : digs 0 = [] := rfl
theorem digs_step {n : Nat} (h : 0 < n) : digs n = digs (n / 2) ++ [((n % 2 : Nat) : Int)] := by
  unfold digs
  rw [bl_half h, bitsI_succ]
theorem digs_len (n : Nat) : (digs n).length = bl n := bitsI_len _ _
theorem digs_head : ∀ {n : Nat}, 0 < n → ∃ r, digs n = 1 :: r := by
  intro n
  induction n using Nat.strongRecOn with
  | _ n ih =>
    intro h
    rw [digs_step h]
    by_cases e : n = 1
    · subst e
      exact ⟨[], rfl⟩
    · obtain ⟨r, hr⟩ := ih (n / 2) (by omega) (by omega)
      rw [hr]
      exact ⟨r ++ [((n % 2 : Nat) : Int)], rfl⟩
def valI (xs : List Int) : Int := xs.foldl (fun v b => 2 * v + b) 0
theorem valI_snoc (xs : List Int) (b : Int) : valI (xs ++ [b]) = 2 * valI xs + b := by
  unfold valI
  rw [List.foldl_append]
  rfl
theorem valI_bits : ∀ w n, n < 2 ^ w → valI (bitsI w n) = n
  | 0, n, h => by
    have e : n = 0 := by omega
    subst e
    rfl
  | w + 1, n, h => by
    have p : 2 ^ (w + 1) = 2 * 2 ^ w := by rw [Nat.pow_succ, Nat.mul_comm]
    rw [bitsI_succ, valI_snoc, valI_bits w (n / 2) (by omega)]
    omega
theorem valI_digs (n : Nat) : valI (digs n) = n := valI_bits _ _ (bl_lt n)
theorem bitsI_bit {w n : Nat} {x : Int} (h : x ∈ bitsI w n) : 0 ≤ x ∧ x ≤ 1 := by
  obtain ⟨b, hb, rfl⟩ := List.mem_map.mp h
  have := bitsW_bit w n b hb
  omega
/-- all of them are bits -/
def AreBits (xs : List Int) : Prop := ∀ x ∈ xs, 0 ≤ x ∧ x ≤ 1
theorem AreBits.app {xs ys : List Int} (h : AreBits xs) (g : AreBits ys) : AreBits (xs ++ ys) := fun x m => by
  rcases List.mem_append.mp m with m | m
  · exact h x m
  · exact g x m
theorem AreBits.take {xs : List Int} (h : AreBits xs) (n : Nat) : AreBits (xs.take n) := fun x m => h x (List.mem_of_mem_take m)
theorem AreBits.zeros (n : Nat) : AreBits (List.replicate n 0) := fun x m => by
  rw [(List.mem_replicate.mp m).2]
  decide
/-- the code of a count -/
def code (c : Nat) : List Int := List.replicate (bl (c + 1) - 1) 0 ++ digs (c + 1)
theorem code_len (c : Nat) : (code c).length = 2 * bl (c + 1) - 1 := by
  have := bl_half (n := c + 1) (by omega)
  unfold code
  rw [List.length_append, List.length_replicate, digs_len]
  omega
theorem code_bits (c : Nat) : AreBits (code c) := (AreBits.zeros _).app fun _ m => bitsI_bit m
theorem flat_zeros (n : Nat) : (List.replicate n [V.int 0]).flatten = (List.replicate n (0 : Int)).map V.int := by
  induction n with
  | zero => rfl
  | succ n ih =>
    rw [List.replicate_succ, List.flatten_cons, ih, List.replicate_succ]
    rfl
theorem new_at {a p : Addr} {H : Hp} {o o' : HO} (h : H a = some o) (n : H p = none) : (upd H p o') a = some o := by
  rw [upd_ne (ne_of_none h n)]
  exact h
theorem cut_int {xs : List V} {x y : Int} {i k : Nat} (hx : x = (i : Int)) (hy : y = (k : Int)) (hik : i ≤ xs.length) (hk : k ≤ xs.length) : cutV xs (some x) (some y) = (xs.drop i).take (k - i) := by
  subst hx hy
  unfold cutV
  rw [HT.sIx_nat, HT.sIx_nat, Nat.min_eq_left hik, Nat.min_eq_left hk]
theorem cut_to {xs : List V} {y : Int} {k : Nat} (hy : y = (k : Int)) (hk : k ≤ xs.length) : cutV xs none (some y) = xs.take k := by
  subst hy
  unfold cutV
  rw [HT.sIx_none, HT.sIx_nat, Nat.min_eq_left hk, List.drop_zero, Nat.sub_zero]
theorem cut_any {xs : List V} {x y : Int} {i k : Nat} (hx : x = (i : Int)) (hy : y = (k : Int)) (hik : i ≤ xs.length) : cutV xs (some x) (some y) = (xs.drop i).take (k - i) := by
  subst hx hy
  unfold cutV
  rw [HT.sIx_nat, HT.sIx_nat, Nat.min_eq_left hik]
  by_cases h : k ≤ xs.length
  · rw [Nat.min_eq_left h]
  · rw [Nat.min_eq_right (by omega), List.take_of_length_le (by rw [List.length_drop]; omega), List.take_of_length_le (by rw [List.length_drop]; omega)]
/-! ### reading a count -/
/-- zeros ahead of the first 1 -/
def lz : List Int → Nat
  | [] => 0
  | x :: r => if x = 0 then lz r + 1 else 0
theorem lz_le : ∀ l : List Int, lz l ≤ l.length
  | [] => Nat.le_refl _
  | x :: r => by
    have := lz_le r
    simp only [lz, List.length_cons]
    split <;> omega
theorem lz_more : ∀ {l : List Int} {k : Nat}, k ≤ lz l → l[k]? = some 0 → k + 1 ≤ lz l
  | [], k, _, h => by simp at h
  | x :: r, 0, _, h => by
    have e : x = 0 := Option.some.inj h
    simp only [lz, e, if_true]
    omega
  | x :: r, k + 1, hk, h => by
    simp only [lz] at hk ⊢
    by_cases e : x = 0
    · rw [if_pos e] at hk ⊢
      have := lz_more (l := r) (k := k) (by omega) h
      omega
    · rw [if_neg e] at hk
      omega
theorem lz_stop : ∀ {l : List Int} {k : Nat} {x : Int}, k ≤ lz l → l[k]? = some x → x ≠ 0 → lz l = k
  | [], k, _, _, h, _ => by simp at h
  | y :: r, 0, x, _, h, hx => by
    have e : y = x := Option.some.inj h
    simp only [lz, e, if_neg hx]
  | y :: r, k + 1, x, hk, h, hx => by
    simp only [lz] at hk ⊢
    by_cases e : y = 0
    · rw [if_pos e] at hk ⊢
      have := lz_stop (l := r) (k := k) (x := x) (by omega) h hx
      omega
    · rw [if_neg e] at hk
      omega
theorem lz_zeros : ∀ (k : Nat) (l : List Int), lz (List.replicate k 0 ++ l) = k + lz l
  | 0, l => by simp
  | k + 1, l => by
    rw [List.replicate_succ, List.cons_append, lz, if_pos rfl, lz_zeros k l]
    omega
inductive RC where
  | long : RC
  | short : RC
  | read (v : Int) (stop : Nat) : RC
def readC (xs : List Int) (a : Nat) : RC :=
  if 40 < lz (xs.drop a) then .long else if xs.length < a + lz (xs.drop a) + 1 + lz (xs.drop a) then .short
  else .read (valI ((xs.drop (a + lz (xs.drop a))).take (lz (xs.drop a) + 1)) - 1) (a + lz (xs.drop a) + 1 + lz (xs.drop a))
def rcV : RC → List V
  | .long => [.str "long"]
  | .short => [.str "short"]
  | .read v s => [.str "read", .int v, .int s]
/-- a signed number of a count -/
def sgnR : RC → RC
  | .read v s => .read (if v % 2 = 0 then v / 2 else (-(v + 1)) / 2) s
  | r => r
theorem read_code {A B : List Int} {c : Nat} (h : c + 1 < 2 ^ 41) : readC (A ++ code c ++ B) A.length = .read c (A.length + (code c).length) := by
  obtain ⟨r, hr⟩ := digs_head (n := c + 1) (by omega)
  have l1 := bl_half (n := c + 1) (by omega)
  have l2 : bl (c + 1) ≤ 41 := bl_le h
  have e1 : (A ++ code c ++ B).drop A.length = List.replicate (bl (c + 1) - 1) 0 ++ (digs (c + 1) ++ B) := by
    rw [List.append_assoc, List.drop_left' rfl, code, List.append_assoc]
  have e2 : lz ((A ++ code c ++ B).drop A.length) = bl (c + 1) - 1 := by
    rw [e1, lz_zeros, hr]
    simp [lz]
  have e3 : (A ++ code c ++ B).drop (A.length + (bl (c + 1) - 1)) = digs (c + 1) ++ B := by
    rw [← List.drop_drop, e1, List.drop_left' (by rw [List.length_replicate])]
  have e4 : (digs (c + 1) ++ B).take (bl (c + 1) - 1 + 1) = digs (c + 1) := by
    rw [List.take_left' (by rw [digs_len]; omega)]
  unfold readC
  rw [e2, if_neg (by omega), if_neg (by rw [List.length_append, List.length_append, code_len]; omega), e3, e4, valI_digs, code_len]
  congr 1
  · omega
  · omega
theorem read_cut {A : List Int} {c t : Nat} (h : c + 1 < 2 ^ 41) (ht : t < (code c).length) : readC (A ++ (code c).take t) A.length = .short := by
  obtain ⟨r, hr⟩ := digs_head (n := c + 1) (by omega)
  have l1 := bl_half (n := c + 1) (by omega)
  have l2 : bl (c + 1) ≤ 41 := bl_le h
  rw [code_len] at ht
  have e0 : (A ++ (code c).take t).length = A.length + t := by
    rw [List.length_append, List.length_take, code_len]
    omega
  have e1 : (A ++ (code c).take t).drop A.length = (code c).take t := List.drop_left' rfl
  by_cases q : t ≤ bl (c + 1) - 1
  · have e2 : (code c).take t = List.replicate t 0 := by
      unfold code
      rw [List.take_append_of_le_length (by rw [List.length_replicate]; exact q), List.take_replicate, Nat.min_eq_left q]
    have e3 : lz ((A ++ (code c).take t).drop A.length) = t := by
      rw [e1, e2]
      have := lz_zeros t []
      rw [List.append_nil] at this
      rw [this]
      rfl
    unfold readC
    rw [e3, if_neg (by omega), if_pos (by rw [e0]; omega)]
  · have e2 : (code c).take t = List.replicate (bl (c + 1) - 1) 0 ++ (digs (c + 1)).take (t - (bl (c + 1) - 1)) := by
      unfold code
      rw [List.take_append, List.length_replicate, List.take_of_length_le (by rw [List.length_replicate]; omega)]
    have e3 : lz ((A ++ (code c).take t).drop A.length) = bl (c + 1) - 1 := by
      rw [e1, e2, lz_zeros, hr]
      obtain ⟨m, hm⟩ : ∃ m, t - (bl (c + 1) - 1) = m + 1 := ⟨t - (bl (c + 1) - 1) - 1, by omega⟩
      rw [hm, List.take_succ_cons]
      simp [lz]
    unfold readC
    rw [e3, if_neg (by omega), if_pos (by rw [e0]; omega)]
/-! ### what is told, as data -/
def rcD : RC → List PyData
  | .long => [.str "long"]
  | .short => [.str "short"]
  | .read v s => [.str "read", .int v, .int s]
theorem dp_rc {K : PySem.W.Frag} {H : Hp} {p : Addr} {r : RC} (h : H p = some (.tup (rcV r))) : Dp K H (.ref p) (.tuple (rcD r)) := by
  cases r with
  | long => exact .tup (.inl (.inl h)) (.cons (.str _) .nil)
  | short => exact .tup (.inl (.inl h)) (.cons (.str _) .nil)
  | read v s => exact .tup (.inl (.inl h)) (.cons (.str _) (.cons (.int _) (.cons (.int _) .nil)))
theorem sh_rc (r : RC) : SeqAt.shaped (.tuple (rcD r)) = true := by
  cases r with
  | long => decide +kernel
  | short => decide +kernel
  | read v s =>
    have h : PyData.canLay0 (.str "read") = true := by decide +kernel
    simp [SeqAt.shaped, rcD, PyData.canLay0, PyData.canLayAll0, PyData.depth, PyData.depthAll] at h ⊢
    try exact h
theorem q_neR {K : PySem.W.Frag} {H : Hp} {p q : Addr} {r : RC} {Q : VK} (hp : H p = some (.tup (rcV r))) (hq : H q = some (.tup (rcV r))) (h : Q (.bl false) H) : rNeD K (.ref p) (.ref q) H Q :=
  ⟨_, _, dp_rc hp, dp_rc hq, sh_rc r, sh_rc r, by rw [eqv_same (sh_rc r)]; exact h⟩
end My
namespace My
open PySem PySem.Spec PyProof.Rows L2
/-! ### several except clauses, each with a name -/
abbrev Clause := Value × Nat × (Addr → Value → Option Addr → TS)
def wAll (K : PySem.W.Frag) (Wout : WX) (D : Ends) : List Clause → WX
  | [] => Wout
  | (c, i, ts) :: more => wAs K c i ts (wAll K Wout D more) D
inductive Clauses (X : Cx) : List ExceptHandler → List Clause → Prop
  | done : Clauses X [] []
  | step {x n : Str} {c : Value} {i : Nat} {ts : Addr → Value → Option Addr → TS} {first : Stmt} {others : List Stmt} {p1 p2 : Pos} {hds : List ExceptHandler} {cs : List Clause}
      (cl : Names X x c) (slot : X.N[i]? = some n) (lo : X.env.kindOf n = some .local)
      (body : ∀ (a : Addr) (oe : Obj) (cls : Value) (d : Option Addr) (pn : List (Addr × Obj)), Zc cls d oe → (∃ vs, oe.data = .fields vs) → PSs (X.suite a ((a, oe) :: pn)) (first :: others) (ts a cls d))
      (more : Clauses X hds cs) : Clauses X (.ExceptHandler (some (.Name x p1)) (some n) (first :: others) p2 :: hds) ((c, i, ts) :: cs)
section
variable {X : Cx} {todo : List Stmt} {h0 : ExceptHandler} {hds : List ExceptHandler} {cs : List Clause} {pos : Pos} {tb : WX → TS} {Wout : WX}
theorem ps_try_all (e1 : X.stack = X.env :: X.outer) (e2 : X.env.frame = some X.env.locals) (nd : X.N.Nodup) (tk : Takes X Wout)
    (run : ∀ (W : WX) (pn : List (Addr × Obj)) (xe : Value → Shared → Prop), Takes (X.tr pn xe) W → PassesOwn (model X.prog X.w) X.A X.env xe → PSs (X.tr pn xe) todo (tb W))
    (all : Clauses X (h0 :: hds) cs) : PS X (.Try todo (h0 :: hds) [] [] pos) (fun D σ H => tb (wAll X.K Wout D cs) D σ H) := by
  constructor
  intro pins s σ H D I reading
  have here := I.ok
  have fr : X.A.frames = some (X.env :: X.outer) := by
    rw [here.frames, e1]
  apply wpAny_Try_except
  refine wpAny_mono ((run (wAll X.K Wout D cs) (X.pn ++ pins) _ (fun u t caught => ?landing) PassesOwn.looking).run [] s σ H D (I.toTry _) reading) (fun f t out => ?through) (fun _ _ z => z)
  case through =>
    cases f with
    | ret v =>
      obtain ⟨x, σ', H', J, rx, q⟩ := out
      exact ⟨x, σ', H', J.ofTry here, rx, q⟩
    | cont =>
      obtain ⟨σ', H', J, q⟩ := out
      exact ⟨σ', H', J.ofTry here, q⟩
    | brk =>
      obtain ⟨σ', H', J, q⟩ := out
      exact ⟨σ', H', J.ofTry here, q⟩
    | next =>
      obtain ⟨σ', H', J, q⟩ := out
      exact wpAny_execs_nil ⟨σ', H', J.ofTry here, q⟩
  case landing =>
    obtain ⟨a, B, sI, old, σ', H', cls, d, rfl, J0, nb, grown, sky0, fresh, os, bare, wish⟩ := caught
    have J : Inv X pins σ' H' sI := J0.ofTry here
    have sky : Sky B (X.env :: X.outer) a (Zc cls d) X.env.locals t.heap := e1 ▸ sky0
    refine Sky.land Zc.steady fr e2 sky (fun g fly up => ?_)
    have JG : Inv X pins σ' H' { t with heap := g } := J.landed nb fly.1 (grown.trans up) os bare
    obtain ⟨oe, vs, hoe, hz, hdat⟩ := fly.there
    have apart : a ∉ frs (X.env :: X.outer) := by
      intro m
      obtain ⟨_, o2, g2, no⟩ := fly.2.2.1.mem m
      rw [hoe] at g2
      cases g2
      exact no _ hdat
    have aL : a ≠ X.env.locals := by
      intro z
      exact apart (List.mem_filterMap.mpr ⟨X.env, List.mem_cons_self, by rw [e2, z]⟩)
    have aF : a ∉ X.fs := by
      intro m
      obtain ⟨ev, me, q⟩ := List.mem_filterMap.mp m
      exact apart (List.mem_filterMap.mpr ⟨ev, List.mem_cons_of_mem _ me, q⟩)
    have SG := JG.suite hoe hdat fresh aL aF
    have goOn : ∀ {hs2 : List ExceptHandler} {cs2 : List Clause}, Clauses X hs2 cs2 → wAll X.K Wout D cs2 cls d σ' H' → wpAny (model X.prog X.w) X.A (handleBy (.ref a) X.env hs2) (SP X pins D) X.xe { t with heap := g } := by
      intro hs2 cs2 k
      induction k with
      | done =>
        intro wsh
        apply wpAny_handleBy_nil
        obtain ⟨_, _, _, ob, fs, T, oT, ts', g1, z1, d1, f1, _⟩ := id fly
        have leave : wpAny (model X.prog X.w) X.A (setFlight (.ref a) X.env.frame) (fun _ t2 => wpAny (model X.prog X.w) X.A (throw (.ref a) : Sem Flow) (SP X pins D) X.xe t2) X.xe { t with heap := g } := by
          rw [e2]
          exact HandSPX.setFlight_upZ fly fun g3 fly3 up3 => wpAny_throw (tk _ _ ⟨a, B, sI, pins, σ', H', cls, d, rfl, J, nb, (grown.trans up).trans up3, .inr (.inr (e1.symm ▸ fly3)), fresh, os, bare, wsh⟩)
        unfold PySem.passOn
        apply wpAny_bind
        refine wpAny_field g1 d1 f1 ?_
        rw [if_neg (by simp)]
        first
          | exact wpAny_bind leave
          | exact wpAny_bind (wpAny_pure (wpAny_bind leave))
      | @step x n c i ts fst oth p1 p2 hs3 cs3 cl slot lo body more ih =>
        intro wsh
        obtain ⟨b, hb, yes, no⟩ := wsh
        have tyOf : PySem.W.Looks (model X.prog X.w) g (typeOf (.ref a)) cls := fun _ _ _ _ k q => wpAny_typeOf_ref (k _ _ hoe) (hz.1.symm ▸ q)
        have ask := PySem.W.exm_one (M := model X.prog X.w) JG.kIn tyOf hb
        refine wpAny_handleBy_cons (codeAny_handlers_test ?_) (fun z => by cases z)
        have named : ∀ {Q : Value → Shared → Prop} {E : Value → Shared → Prop}, Q c { t with heap := g } → wpAny (model X.prog X.w) (X.A.mark (some (.ref a))) (eval (.Name x p1) X.env) Q E { t with heap := g } := by
          intro Q E q
          obtain ⟨isG, nodbg, isM | ⟨isM, isB, nn⟩⟩ := cl
          · exact ld_glob (X := X.suite a ((a, oe) :: (X.pn ++ pins))) SG isG isM q nodbg
          · exact ld_blt (X := X.suite a ((a, oe) :: (X.pn ++ pins))) SG isG isM isB q nn nodbg
        refine named (ask.here ?_)
        cases b with
        | false => exact ih (no rfl)
        | true =>
          apply codeAny_handlers_suite_as
          refine HandSPX.lands_againZ fly (fun g4 fly4 up4 => ?_)
          have J4 : Inv X pins σ' H' { t with heap := g4 } := J.landed nb fly4.1 ((grown.trans up).trans up4) os bare
          obtain ⟨oe4, vs4, hoe4, hz4, hdat4⟩ := fly4.there
          have S4 := J4.suite hoe4 hdat4 fresh aL aF
          refine store_ok (X := X.suite a ((a, oe4) :: (X.pn ++ pins))) (v := .ref a) S4 nd slot (.inl lo) rfl (fun t5 S5 => ?_) (.inr lo)
          refine wpAny_mono ((body a oe4 cls d (X.pn ++ pins) hz4 ⟨_, hdat4⟩).run [] t5 _ H' _ S5 (yes rfl a fresh)) (fun f t6 out => ?_) (fun _ _ z => z.elim)
          have unname : ∀ {σ6 : L2.St} {H6 : Hp} {Q : Shared → Prop}, Inv (X.suite a ((a, oe4) :: (X.pn ++ pins))) [] σ6 H6 t6 → (∀ t7, Inv X pins (σ6.set i none) H6 t7 → Q t7) →
              wpAny (model X.prog X.w) X.A (do bindName X.env n .none; unbindBehindTheSuite X.env n p2) (fun _ t7 => Q t7) X.xe t6 := by
            intro σ6 H6 Q S6 hq
            exact gone_ok (S6.unsuite here) nd slot lo hq
          cases f with
          | ret u =>
            obtain ⟨v6, σ6, H6, S6, r6, q6⟩ := out
            exact unname S6 fun t7 J7 => ⟨v6, _, _, J7, r6, q6⟩
          | cont =>
            obtain ⟨σ6, H6, S6, q6⟩ := out
            exact unname S6 fun t7 J7 => ⟨_, _, J7, q6⟩
          | brk =>
            obtain ⟨σ6, H6, S6, q6⟩ := out
            exact unname S6 fun t7 J7 => ⟨_, _, J7, q6⟩
          | next =>
            obtain ⟨σ6, H6, S6, q6⟩ := out
            exact unname S6 fun t7 J7 => ⟨_, _, J7, q6⟩
    exact goOn all wish
end
end My
namespace My
open PySem PySem.Spec PyProof.Rows L2
/-! ### shapes of data, for comparing -/
structure ShD (n : Nat) (d : PyData) : Prop where
  lay : d.canLay0 = true
  dep : d.depth ≤ n
theorem ShD.sh {n : Nat} {d : PyData} (h : ShD n d) (hn : n ≤ 64) : SeqAt.shaped d = true := by
  unfold SeqAt.shaped
  rw [h.lay, decide_eq_true (Nat.le_trans h.dep hn)]
  rfl
theorem ShD.mono {n m : Nat} {d : PyData} (h : ShD n d) (hn : n ≤ m) : ShD m d := ⟨h.lay, Nat.le_trans h.dep hn⟩
theorem shd_int {n : Nat} (i : Int) : ShD n (.int i) := ⟨by simp [PyData.canLay0], by simp [PyData.depth]⟩
theorem shd_bl {n : Nat} (b : Bool) : ShD n (.bool b) := ⟨by simp [PyData.canLay0], by simp [PyData.depth]⟩
theorem shd_non {n : Nat} : ShD n .none := ⟨by simp [PyData.canLay0], by simp [PyData.depth]⟩
theorem shd_str {n : Nat} {x : Str} (h : PyData.canLay0 (.str x) = true) : ShD n (.str x) := ⟨h, by simp [PyData.depth]⟩
theorem shd_all {n : Nat} : ∀ {ds : List PyData}, (∀ d ∈ ds, ShD n d) → PyData.canLayAll0 ds = true ∧ PyData.depthAll ds ≤ n
  | [], _ => ⟨rfl, Nat.zero_le _⟩
  | d :: r, h => by
    have h1 := h d List.mem_cons_self
    have h2 := shd_all (ds := r) fun x m => h x (List.mem_cons_of_mem _ m)
    refine ⟨?_, ?_⟩
    · rw [PyData.canLayAll0, h1.lay, h2.1]
      rfl
    · rw [PyData.depthAll]
      exact Nat.max_le.mpr ⟨h1.dep, h2.2⟩
theorem shd_lst {n : Nat} {ds : List PyData} (h : ∀ d ∈ ds, ShD n d) : ShD (n + 1) (.list ds) := ⟨by rw [PyData.canLay0]; exact (shd_all h).1, by rw [PyData.depth]; exact Nat.succ_le_succ (shd_all h).2⟩
theorem shd_tup {n : Nat} {ds : List PyData} (h : ∀ d ∈ ds, ShD n d) : ShD (n + 1) (.tuple ds) := ⟨by rw [PyData.canLay0]; exact (shd_all h).1, by rw [PyData.depth]; exact Nat.succ_le_succ (shd_all h).2⟩
theorem shd_ints {n : Nat} (ns : List Int) : ShD (n + 1) (.list (ns.map PyData.int)) := shd_lst fun d m => by
  obtain ⟨i, _, rfl⟩ := List.mem_map.mp m
  exact shd_int i
theorem q_eqS {K : PySem.W.Frag} {H : Hp} {x y : V} {d : PyData} {Q : VK} (hx : Dp K H x d) (hy : Dp K H y d) (s : SeqAt.shaped d = true) (h : Q (.bl true) H) : rEqD K x y H Q :=
  ⟨_, _, hx, hy, s, s, by rw [eqv_same s]; exact h⟩
theorem q_neS {K : PySem.W.Frag} {H : Hp} {x y : V} {d : PyData} {Q : VK} (hx : Dp K H x d) (hy : Dp K H y d) (s : SeqAt.shaped d = true) (h : Q (.bl false) H) : rNeD K x y H Q :=
  ⟨_, _, hx, hy, s, s, by rw [eqv_same s]; exact h⟩
/-! ### a body that may let out what is caught -/
theorem pss_ex {X : Cx} {W : WX} {n : Nat} {ss : List Stmt} {r : XK → TS} (h : ∀ E : XK, (∀ cls d σ' H', E cls d H' → σ'.length = n → W cls d σ' H') → PSs X ss (r E)) :
    PSs X ss (fun D σ H => ∃ E : XK, (∀ cls d σ' H', E cls d H' → σ'.length = n → W cls d σ' H') ∧ r E D σ H) :=
  ⟨fun pins s σ H D I ⟨E, hE, q⟩ => (h E hE).run pins s σ H D I q⟩
theorem takes_len {X : Cx} {W : WX} (t : Takes X W) : Takes X (fun c d σ H => σ.length = X.N.length → W c d σ H) := fun u s' ⟨a, B, sI, pins, σ, H, cls, d, e, I, nb, up, sky, na, os, ag, w⟩ =>
  t u s' ⟨a, B, sI, pins, σ, H, cls, d, e, I, nb, up, sky, na, os, ag, w I.len⟩
theorem vk_mono {tl : XK → Hp → VK → Prop} {E : XK} {H : Hp} {R R' : VK} (he : ∀ v H1, R v H1 ↔ R' v H1) (h : tl E H R) : tl E H R' := by
  have e : R = R' := funext fun v => funext fun H1 => propext (he v H1)
  rw [← e]
  exact h
theorem len3 {σ : L2.St} (h : σ.length = 3) : ∃ x y z, σ = [x, y, z] := match σ, h with | [x, y, z], _ => ⟨x, y, z, rfl⟩
/-! ### a def that makes lambdas: its code object is known -/
structure FunC (K : PySem.W.Frag) (x qual : Str) (st : Stmt) (f : Addr) (fd : FuncData) (c : Addr) : Prop where
  ex : ∃ (oc : Value) (od : Option Addr) (kV doc pm : Value) (an : Option Addr) (ct : Value) (osl : Array (Option Value)),
    fd = PySem.W.fnOf x qual (defArgs st) (defBody st) (defScope st) .none kV doc pm an (.ref c) ct ∧ K.lookup f = some ⟨oc, od, .func fd, osl⟩ ∧ PySem.W.codeIn K (.ref c) qual = true
theorem FunC.ok {P : Program} {w : World} {K : PySem.W.Frag} {mg : Str → Option Value} {base : Heap} {x qual : Str} {st : Stmt} {f c : Addr} {fd : FuncData} {N ps : List Str} {k : Nat} {sp : Sp} (F : FunC K x qual st f fd c) (S : FnScope N ps (defScope st)) (len : ∀ vs H Q E, sp vs H Q E → vs.length = ps.length)
    (hbody : ∀ (A : Around) (outer : List Env) (s : Shared) (H : Hp) (vs : List V) (Q : VK) (E : XK), Room k (A.deeper (envOfC qual (defScope st) s.heap.objs.size f (.ref c))) → sp vs H Q E →
      ∃ t, PSs (cxOf CX0 P w K mg base N qual (defScope st) f (.ref c) A outer s H E).nox (defBody st) t ∧ t { nx := fun _ H' => Q .non H', rt := Q } (start N vs) H) : FnOk P w K mg base CX0 (k + 1) f fd ps sp := by
  obtain ⟨oc, od, kV, doc, pm, an, ct, osl, rfl, lk, hcd⟩ := F.ex
  refine fn_of lk hcd S len fun A outer s H vs Q E hr hsp => ?_
  obtain ⟨t, h, q⟩ := hbody A outer s H vs Q E hr hsp
  exact ⟨t, h.nox, q⟩
theorem funC_mk {K : PySem.W.Frag} {x qual : Str} {st : Stmt} {f c0 : Addr} {oc : Value} {od an : Option Addr} {osl : Array (Option Value)} {kV doc pm ct : Value} (l : K.lookup f = some ⟨oc, od, .func (PySem.W.fnOf x qual (defArgs st) (defBody st) (defScope st) .none kV doc pm an (.ref c0) ct), osl⟩)
    (c : PySem.W.codeIn K (.ref c0) qual = true) : FunC K x qual st f (PySem.W.fnOf x qual (defArgs st) (defBody st) (defScope st) .none kV doc pm an (.ref c0) ct) c0 := ⟨⟨oc, od, kV, doc, pm, an, ct, osl, rfl, l, c⟩⟩
/-! ### tables beside draws -/
def UpN (a : Addr) (H H' : Hp) : Prop := ∀ b o, b ≠ a → H b = some o → (∀ ps, o ≠ .tbl ps) → H' b = some o
theorem UpN.refl (a : Addr) (H : Hp) : UpN a H H := fun _ _ _ h _ => h
theorem UpN.trans {a : Addr} {H H1 H2 : Hp} (u : UpN a H H1) (v : UpN a H1 H2) : UpN a H H2 := fun b o n h t => v b o n (u b o n h t) t
theorem Up.n {a : Addr} {H H' : Hp} (u : Up a H H') : UpN a H H' := fun b o n h _ => u b o n h
theorem ext_n {a : Addr} {H H' : Hp} (x : LamX.ExtN H H') : UpN a H H' := fun b o _ h t => x b o h t
theorem Src.ext {a : Addr} {H H' : Hp} (x : LamX.ExtN H H') (s : Src H a) : Src H' a := by
  obtain ⟨u, v, e, r⟩ := s
  exact ⟨u, v, x _ _ e (fun ps z => by cases z), r⟩
theorem tabs_up {T : List (Addr × Str)} {a : Addr} {H H' : Hp} (t : LamX.Tabs T H) (u : Up a H H') (s : Src H a) : LamX.Tabs T H' := fun p hp => by
  obtain ⟨x, y, e, _⟩ := s
  obtain ⟨ps, h1, h2, h3⟩ := t p hp
  refine ⟨ps, u _ _ (fun z => ?_) h1, h2, fun pos cv hc => ?_⟩
  · rw [z, e] at h1
    cases h1
  · obtain ⟨c, e1, e2⟩ := h3 pos cv hc
    refine ⟨c, e1, u _ _ (fun z => ?_) e2⟩
    rw [z, e] at e2
    unfold LamX.CodeO at e2
    cases e2
theorem tabs_same {T : List (Addr × Str)} {H H' : Hp} (t : LamX.Tabs T H) (s : Same H H') : LamX.Tabs T H' := t.ext fun b o e => s b o e
theorem ext_same {H H' : Hp} (s : Same H H') : LamX.ExtN H H' := fun b o e _ => s b o e
theorem UpN.to {a : Addr} {G H H' : Hp} (u : UpN a H H') (x : LamX.ExtN G H) (n : G a = none) : LamX.ExtN G H' := fun b o e t => u b o (ne_of_none e n) (x b o e t) t
theorem ext_seq {K : PySem.W.Frag} {H H' : Hp} {a : Addr} {xs : List V} (x : LamX.ExtN H H') (h : SqL K H a xs) : SqL K H' a xs := by
  rcases h with (h | ⟨o, h⟩) | h
  · exact .inl (.inl (x _ _ h (fun ps z => nomatch z)))
  · exact .inl (.inr ⟨o, x _ _ h (fun ps z => nomatch z)⟩)
  · exact .inr h
/-! ### the value of bits -/
theorem valI_lt : ∀ (n : Nat) (xs : List Int), xs.length = n → AreBits xs → ∃ z : Nat, valI xs = (z : Int) ∧ z < 2 ^ n
  | 0, xs, h, _ => by
    rw [List.length_eq_zero_iff.mp h]
    exact ⟨0, rfl, by decide⟩
  | n + 1, xs, h, hb => by
    rcases List.eq_nil_or_concat xs with rfl | ⟨ys, y, rfl⟩
    · cases h
    have hl : ys.length = n := by
      rw [List.length_concat] at h
      omega
    rw [List.concat_eq_append] at hb ⊢
    obtain ⟨z, hz, hz2⟩ := valI_lt n ys hl fun b m => hb b (List.mem_append_left _ m)
    have hb2 := hb y (List.mem_append_right _ (List.mem_singleton.mpr rfl))
    rw [valI_snoc, hz]
    have p : 2 ^ (n + 1) = 2 * 2 ^ n := by rw [Nat.pow_succ, Nat.mul_comm]
    exact ⟨2 * z + y.toNat, by omega, by omega⟩
/-! ### digits with zeros ahead -/
theorem bitsW_zero : ∀ d, bitsW d 0 = List.replicate d 0
  | 0 => rfl
  | d + 1 => by
    rw [bitsW, Nat.zero_div, bitsW_zero d, List.replicate_succ']
theorem bitsW_pad (d : Nat) : ∀ w n, n < 2 ^ w → bitsW (d + w) n = List.replicate d 0 ++ bitsW w n
  | 0, n, h => by
    have e : n = 0 := by omega
    subst e
    rw [Nat.add_zero, bitsW_zero, bitsW, List.append_nil]
  | w + 1, n, h => by
    have p : 2 ^ (w + 1) = 2 * 2 ^ w := by rw [Nat.pow_succ, Nat.mul_comm]
    show bitsW (d + w + 1) n = _
    rw [bitsW, bitsW, bitsW_pad d w (n / 2) (by omega), List.append_assoc]
theorem bitsI_pad (d w n : Nat) (h : n < 2 ^ w) : bitsI (d + w) n = List.replicate d 0 ++ bitsI w n := by
  unfold bitsI
  rw [bitsW_pad d w n h, List.map_append, List.map_replicate]
  rfl
end My
namespace My
open PySem PySem.Spec PyProof.Rows L2
/-! ### xs[i] op= e, for a list -/
theorem get_list {X : Cx} : PGet X (rIxL X.K) := by
  intro pins s σ H o i ov iv Q I ro ri h
  obtain ⟨p, xs, i, z, rfl, rfl, hq, he, q⟩ := h
  cases ro
  obtain ⟨t, rfl⟩ := ri
  obtain ⟨its, r, pl, hz⟩ := I.list hq
  obtain ⟨j, h1, h2, h3, h4, h5⟩ := atI_get he
  obtain ⟨w, ew, rw'⟩ := r.get h2
  have hl := r.length
  have hn := line63
  have fin : EP X pins σ Q w s := ⟨z, H, I, rw', q⟩
  by_cases h0 : 0 ≤ i
  · have hj : i.toNat = j := by
      rw [seqIndex_of h0 h5] at h1
      exact Option.some.inj h1
    exact wpAny_getItem_list pl.isList h0 (by omega) (by rw [hj]; simpa using ew) fin
  · have hj : (i + (its.toArray.size : Int)).toNat = j := by
      rw [seqIndex_neg (by omega) h4] at h1
      rw [List.size_toArray, ← hl]
      exact Option.some.inj h1
    exact wpAny_getItem_list_neg pl.isList (by omega) (by rw [List.size_toArray] <;> omega) (by omega) (by rw [hj]; simpa using ew) fin
/-! ### sum and for over a list or a tuple -/
def SqS (K : PySem.W.Frag) (H : Hp) (p : Addr) (xs : List V) : Prop := SqL K H p xs ∨ SqT K H p xs
def rSumS (K : PySem.W.Frag) : List V → Hp → VK → Prop := fun vs H Q => ∃ (a : Addr) (ns : List Int), vs = [V.ref a] ∧ SqS K H a (ns.map V.int) ∧ Q (.int ns.sum) H
theorem cr_sumS {X : Cx} (hc : X.calm = true) : CallR X (.builtin "sum") (rSumS X.K) := by
  intro pins s σ H vs us Q I r h
  obtain ⟨a, ns, rfl, hs, q⟩ := h
  rcases hs with hs | hs
  · exact cr_sum hc pins s σ H _ us Q I r ⟨a, ns, rfl, hs, q⟩
  · obtain ⟨its, rv, p, _⟩ := I.tuple hs
    rw [Vals.ref1 r]
    obtain ⟨xs, e⟩ := rv.ints.allInts.items
    have hn : numsOf (intItems xs).toList = ns := by rw [← e]; exact rv.ints.numsOf
    rw [nums_intItems] at hn
    have p2 : s.heap.IsTuple a (intItems xs) := by rw [← e]; exact p
    refine PySem.W.ktm_sumG (I.ok.hd hc) p2 fun h' tk t' hk => ?_
    rw [preSum_eq, List.take_of_length_le (by simp), hn]
    exact ⟨.int _, H, I.kept hk, ⟨_, rfl⟩, q⟩
def iSeq (K : PySem.W.Frag) (tl : TE) : TI := fun σ H R => tl σ H fun x H1 => ∃ a, x = .ref a ∧ (((∃ xs, SqL K H1 a xs) ∧ R (Itl K a) H1) ∨ ((∃ xs, SqT K H1 a xs) ∧ R (Itt K a) H1))
theorem pi_seq {X : Cx} {tg l : Expr} {tl : TE} (hl : PE X l tl) : PI X tg l (iSeq X.K tl) := by
  refine ⟨fun pins s σ H R I h => ?_⟩
  refine thn (hl.run pins s σ H _ I h) fun v s1 ⟨x, H1, I1, r1, q1⟩ => ?_
  obtain ⟨a, e, q⟩ := q1
  subst e
  cases r1
  rcases q with ⟨⟨xs, hq⟩, q⟩ | ⟨⟨xs, hq⟩, q⟩
  · obtain ⟨its, rv, p, hz⟩ := I1.list hq
    refine wpAny_pyIter_list p.isList ?_
    refine ⟨s1.heap.objs.size, [s1.heap.objs.size], _, _, H1, rfl, I1.kept (t' := s1.toks) fun b o e => Heap.get?_push_of_some _ e, turn_list a _, ⟨_, Heap.get?_push_size _ rfl, rfl, rfl⟩, fun b hb => ?_, q⟩
    have e : b = s1.heap.objs.size := by simpa using hb
    subst e
    exact I1.fpOk (Nat.le_refl _) (I1.hok.fresh (Nat.le_refl _))
  · obtain ⟨its, rv, p, hz⟩ := I1.tuple hq
    refine wpAny_pyIter_tuple (show s1.heap.IsTuple a its.toArray from p) ?_
    refine ⟨s1.heap.objs.size, [s1.heap.objs.size], _, _, H1, rfl, I1.kept (t' := s1.toks) fun b o e => Heap.get?_push_of_some _ e, turn_tuple a _, ⟨_, Heap.get?_push_size _ rfl, rfl, rfl⟩, fun b hb => ?_, q⟩
    have e : b = s1.heap.objs.size := by simpa using hb
    subst e
    exact I1.fpOk (Nat.le_refl _) (I1.hok.fresh (Nat.le_refl _))
theorem same_seqT {K : PySem.W.Frag} {H H' : Hp} {a : Addr} {xs : List V} (e : Same H H') (h : SqT K H a xs) : SqT K H' a xs := by
  rcases h with (h | ⟨o, h⟩) | h
  · exact .inl (.inl (e _ _ h))
  · exact .inl (.inr ⟨o, e _ _ h⟩)
  · exact .inr h
theorem same_seqS {K : PySem.W.Frag} {H H' : Hp} {a : Addr} {xs : List V} (e : Same H H') (h : SqS K H a xs) : SqS K H' a xs := by
  rcases h with h | h
  · exact .inl (e.seq h)
  · exact .inr (same_seqT e h)
theorem for_seq {K : PySem.W.Frag} {a : Addr} {xs : List V} {g : TG} {tb : TS} {D : Ends} {σ : L2.St} {H : Hp} (Pv : Nat → L2.St → Hp → Prop) (h0 : Pv 0 σ H) (hl : (∀ i σ' H', i ≤ xs.length → Pv i σ' H' → SqL K H' a xs) ∨ (∀ i σ' H', i ≤ xs.length → Pv i σ' H' → SqT K H' a xs))
    (hs : ∀ i x σ H, xs[i]? = some x → Pv i σ H → g x σ H fun σ2 H2 => tb { D with nx := Pv (i + 1), ct := Pv (i + 1), bk := D.nx } σ2 H2) (hd : ∀ σ H, Pv xs.length σ H → D.nx σ H) :
    ((∃ ys, SqL K H a ys) ∧ ∃ W : Nat → Nat → L2.St → Hp → Prop, (∃ m, W 0 m σ H) ∧ ∀ i m σ H, W i m σ H →
      ((Itl K a).stop i H ∧ D.nx σ H) ∨ ((Itl K a).go i H ∧ ∃ N : L2.St → Hp → Prop, (∀ σ' H', N σ' H' → ∃ m', m' < m ∧ W (i + 1) m' σ' H') ∧ ∀ x H', (Itl K a).yld i H x H' → g x σ H' fun σ2 H2 => tb { D with nx := N, ct := N, bk := D.nx } σ2 H2)) ∨
    ((∃ ys, SqT K H a ys) ∧ ∃ W : Nat → Nat → L2.St → Hp → Prop, (∃ m, W 0 m σ H) ∧ ∀ i m σ H, W i m σ H →
      ((Itt K a).stop i H ∧ D.nx σ H) ∨ ((Itt K a).go i H ∧ ∃ N : L2.St → Hp → Prop, (∀ σ' H', N σ' H' → ∃ m', m' < m ∧ W (i + 1) m' σ' H') ∧ ∀ x H', (Itt K a).yld i H x H' → g x σ H' fun σ2 H2 => tb { D with nx := N, ct := N, bk := D.nx } σ2 H2)) := by
  rcases hl with h | h
  · exact .inl ⟨⟨_, h _ _ _ (Nat.zero_le _) h0⟩, for_list Pv h0 h hs hd⟩
  · exact .inr ⟨⟨_, h _ _ _ (Nat.zero_le _) h0⟩, for_tup Pv h0 h hs hd⟩
end My
namespace My
open PySem PySem.Spec PyProof.Rows L2
/-! ### classes: makers, methods, properties, handed round as one fact each -/
theorem passN {X : Cx} : Passes (L2.CX X.prog X.w) X C8.E0 := fun _ _ _ _ _ _ _ c => by
  obtain ⟨_, _, _, _, _, _, _, _, _, _, _, _, z⟩ := c
  exact z.elim
section
variable {X : Cx} {CX : CXT} {k j : Nat} {f C : Addr} {fd : FuncData} {ps ks : List Str} {sp : Sp} {E : XK} {x m : Str} {p pos apos : Pos} {e o : Expr} {es : List Expr} {kws : List Keyword} {ta : TE} {t tk : TA} {g : List Value → List Value → List Value} {gV : List V → List V → List V}
/-- o.m(k = v, ..), nothing by position -/
def tMethK (C : Addr) (m : Str) (n : Nat) (sp : Sp) (E : XK) (ta : TE) (tk : TA) : TE := fun σ H Q => ta σ H fun x H1 => ∃ a dx fs, x = .ref a ∧ H1 a = some (.ins C dx fs) ∧ fs.lookup m = none ∧ tk σ H1 fun zs H2 => zs.length = n ∧ sp (x :: zs) H2 Q E
theorem pe_methK {pl : Sem Bool} (he : PE X o ta) (c : Cls X.K C) (hm : Meth X.K C m f) (F : FnOk X.prog X.w X.K X.mg X.base CX k f fd ps sp) (hr : Room k X.A) (hb : KBn X.K fd ps 1 ks (fun us ws => us ++ ws) (fun vs zs => vs ++ zs)) (hx : Passes CX X E) (hkw : PK X kws tk)
    (hall : (backToKw pos (keywordEach kws X.env)).all (·.1.isSome) = true := by rfl) (hks : (backToKw pos (keywordEach kws X.env)).filterMap (·.1) = ks := by rfl)
    (hpl : ((backTo pos (starEach [] X.env)).any (·.1) || (backToKw pos (keywordEach kws X.env)).any (·.1.isNone)) = false := by rfl)
    (ht : eval (.Call (.Attribute o m apos) [] kws pos) X.env = (do
      let ov ← eval o X.env
      standAt apos.atName
      let (f, first) ← holding [ov] (getMethod ov m pl)
      callWith pos f first (backTo pos (starEach [] X.env)) (backToKw pos (keywordEach kws X.env))) := by rfl) :
    PE X (.Call (.Attribute o m apos) [] kws pos) (tMethK C m ks.length sp E ta tk) := by
  refine ⟨fun pins s σ H Q I h => ?_⟩
  refine PySem.W.methodCall_KW (pl := pl) (thn (he.run pins s σ H _ I h) fun u s1 ⟨x, H1, I1, rx, a, dx, fs, ex, ea, l, q⟩ => ?_) ht
  subst ex
  obtain rfl : u = Value.ref a := rx
  refine getmeth_ok I1 ea c hm l ?_
  refine PySem.W.callWith_KW0 (first := [.ref a]) (h₀ := X.base) I.ok.mod.kin hm.kp hall ?_ hpl
  refine thn (hkw.run pos pins s1 σ H1 _ I1 q) fun ws s2 ⟨zs, H2, I2, rz, l2, q2⟩ => ⟨I2.kIn, ?_⟩
  rw [hks]
  exact run_fnN (us := [.ref a]) (vs := [.ref a]) F hr hb hx I2 (.cons rfl .nil) rz rfl l2 q2
end
/-- a method that may be called -/
structure CalM (P : Program) (w : World) (K : PySem.W.Frag) (mg : Str → Option Value) (base : Heap) (k : Nat) (C : Addr) (m : Str) (ks : List Str) (sp : Sp) : Prop where
  ex : ∃ (f : Addr) (fd : FuncData) (ps : List Str), Meth K C m f ∧ FnOk P w K mg base (L2.CX P w) k f fd ps sp ∧ Binds K fd ps [] ∧ KBn K fd ps 1 ks (fun us ws => us ++ ws) (fun vs zs => vs ++ zs)
/-- a class that may be called -/
structure CalC (P : Program) (w : World) (K : PySem.W.Frag) (mg : Str → Option Value) (base : Heap) (k : Nat) (x : Str) (C : Addr) (ks : List Str) (sp : Sp) : Prop where
  gl : mg x = some (.ref C)
  ex : ∃ (f : Addr) (fd : FuncData) (ps : List Str), Mk K C f ∧ FnOk P w K mg base (L2.CX P w) k f fd ps sp ∧ Binds K fd ps [] ∧ KBn K fd ps 1 ks (fun us ws => us ++ ws) (fun vs zs => vs ++ zs)
/-- a property that may be read -/
structure CalP (P : Program) (w : World) (K : PySem.W.Frag) (mg : Str → Option Value) (base : Heap) (k : Nat) (C : Addr) (f : Str) (sp : Sp) : Prop where
  ex : ∃ (p g : Addr) (fd : FuncData) (ps : List Str), PropOf K C f p g ∧ FnOk P w K mg base CX0 k g fd ps sp ∧ Binds K fd ps []
section
variable {X : Cx} {k j : Nat} {C : Addr} {ks : List Str} {sp : Sp} {E : XK} {x m : Str} {p pos apos : Pos} {e o : Expr} {es : List Expr} {kws : List Keyword} {ta : TE} {t tk : TA}
/-- o.m(e, ..); E: what is wanted of an exception -/
theorem pe_mx {pl : Sem Bool} (M : CalM X.prog X.w X.K X.mg X.base k C m ks sp) (c : Cls X.K C) (hr : Room j X.A) (hk : k ≤ j) (hx : Passes (L2.CX X.prog X.w) X E) (he : PE X o ta) (ha : PA X (e :: es) t)
    (hst : starEach (e :: es) X.env = (false, eval e X.env) :: starEach es X.env := by rfl) (hpl : (backTo pos (starEach es X.env)).any (·.1) = false := by rfl)
    (ht : eval (.Call (.Attribute o m apos) (e :: es) [] pos) X.env = (do
      let ov ← eval o X.env
      standAt apos.atName
      let (f, first) ← holding [ov] (getMethod ov m pl)
      callWith pos f first (backTo pos (starEach (e :: es) X.env)) (backToKw pos (keywordEach [] X.env))) := by rfl) :
    PE X (.Call (.Attribute o m apos) (e :: es) [] pos) (tMeth C m sp [] E ta t) := by
  obtain ⟨f, fd, ps, hm, F, hb, _⟩ := M.ex
  exact pe_meth he c hm F (hr.mono hk) hb .nil hx ha hst hpl ht
/-- o.m() -/
theorem pe_mx0 {pl : Sem Bool} (M : CalM X.prog X.w X.K X.mg X.base k C m ks sp) (c : Cls X.K C) (hr : Room j X.A) (hk : k ≤ j) (hx : Passes (L2.CX X.prog X.w) X E) (he : PE X o ta)
    (ht : eval (.Call (.Attribute o m apos) [] [] pos) X.env = (do
      let ov ← eval o X.env
      standAt apos.atName
      let (f, first) ← holding [ov] (getMethod ov m pl)
      callWith pos f first (backTo pos (starEach [] X.env)) (backToKw pos (keywordEach [] X.env))) := by rfl) :
    PE X (.Call (.Attribute o m apos) [] [] pos) (tMeth C m sp [] E ta tNil) := by
  obtain ⟨f, fd, ps, hm, F, hb, _⟩ := M.ex
  exact pe_meth0 he c hm F (hr.mono hk) hb .nil hx ht
/-- o.m(k = v, ..) -/
theorem pe_mxK {pl : Sem Bool} (M : CalM X.prog X.w X.K X.mg X.base k C m ks sp) (c : Cls X.K C) (hr : Room j X.A) (hk : k ≤ j) (hx : Passes (L2.CX X.prog X.w) X E) (he : PE X o ta) (hkw : PK X kws tk)
    (hall : (backToKw pos (keywordEach kws X.env)).all (·.1.isSome) = true := by rfl) (hks : (backToKw pos (keywordEach kws X.env)).filterMap (·.1) = ks := by rfl)
    (hpl : ((backTo pos (starEach [] X.env)).any (·.1) || (backToKw pos (keywordEach kws X.env)).any (·.1.isNone)) = false := by rfl)
    (ht : eval (.Call (.Attribute o m apos) [] kws pos) X.env = (do
      let ov ← eval o X.env
      standAt apos.atName
      let (f, first) ← holding [ov] (getMethod ov m pl)
      callWith pos f first (backTo pos (starEach [] X.env)) (backToKw pos (keywordEach kws X.env))) := by rfl) :
    PE X (.Call (.Attribute o m apos) [] kws pos) (tMethK C m ks.length sp E ta tk) := by
  obtain ⟨f, fd, ps, hm, F, _, hb⟩ := M.ex
  exact pe_methK he c hm F (hr.mono hk) hb hx hkw hall hks hpl ht
/-- C(e, ..) -/
theorem pe_new (M : CalC X.prog X.w X.K X.mg X.base k x C ks sp) (hr : Room j X.A) (hk : k + 1 ≤ j) (hg : Gl X x) (hx : Passes (L2.CX X.prog X.w) X E) (ha : PA X (e :: es) t) (hdb : (x == ("__debug__" : Str)) = false := by decide)
    (he : starEach (e :: es) X.env = (false, eval e X.env) :: starEach es X.env := by rfl) (hpl : (backTo pos (starEach es X.env)).any (·.1) = false := by rfl) :
    PE X (.Call (.Name x p) (e :: es) [] pos) (tMake C sp [] E t) := by
  obtain ⟨f, fd, ps, hm, F, hb, _⟩ := M.ex
  exact pe_make hm F (hr.mono hk) hg M.gl hb .nil hx ha hdb he hpl
/-- C() -/
theorem pe_new0 (M : CalC X.prog X.w X.K X.mg X.base k x C ks sp) (hr : Room j X.A) (hk : k + 1 ≤ j) (hg : Gl X x) (hx : Passes (L2.CX X.prog X.w) X E) (hdb : (x == ("__debug__" : Str)) = false := by decide) :
    PE X (.Call (.Name x p) [] [] pos) (tMake C sp [] E tNil) := by
  obtain ⟨f, fd, ps, hm, F, hb, _⟩ := M.ex
  exact pe_make0 hm F (hr.mono hk) hg M.gl hb .nil hx hdb
/-- C(k = v, ..) -/
theorem pe_newK (M : CalC X.prog X.w X.K X.mg X.base k x C ks sp) (hr : Room j X.A) (hk : k + 1 ≤ j) (hg : Gl X x) (hx : Passes (L2.CX X.prog X.w) X E) (hkw : PK X kws tk)
    (hall : (backToKw pos (keywordEach kws X.env)).all (·.1.isSome) = true := by rfl) (hks : (backToKw pos (keywordEach kws X.env)).filterMap (·.1) = ks := by rfl) (hdb : (x == ("__debug__" : Str)) = false := by decide)
    (hpl : ((backTo pos (starEach [] X.env)).any (·.1) || (backToKw pos (keywordEach kws X.env)).any (·.1.isNone)) = false := by rfl) :
    PE X (.Call (.Name x p) [] kws pos) (tMakeK C 0 ks.length sp (fun vs zs => vs ++ zs) E tNil tk) := by
  obtain ⟨f, fd, ps, hm, F, _, hb⟩ := M.ex
  exact pe_makeK0 hm F (hr.mono hk) hg M.gl hb hx hkw hall hks hdb hpl
/-- e.f, a property -/
theorem pe_pr {f : Str} (M : CalP X.prog X.w X.K X.mg X.base k C f sp) (c : Cls X.K C) (hr : Room j X.A) (hk : k + 1 ≤ j) (he : PE X e ta) (hab : attributeBase e f X.env (eval e X.env) = eval e X.env) : PE X (.Attribute e f pos) (tProp C sp [] C8.E0 ta) := by
  obtain ⟨p, g, fd, ps, hp, F, hb⟩ := M.ex
  exact pe_prop he c hp F (hr.mono hk) hb .nil pass0 hab
end
end My
namespace My
open PySem PySem.Spec PyProof.Rows L2
/-! ### exceptions with a field of their own -/
/-- isinstance of the exception that a suite holds, where it has its own dict -/
theorem call_isEd {X : Cx} {a D : Addr} {oe : Obj} {cls : Value} {d : Option Addr} {pn : List (Addr × Obj)} (C : ExcC X.K D) (hz : Zc cls d oe) (hf : ∃ vs, oe.data = .fields vs) :
    CallR (X.suite a ((a, oe) :: pn)) (.builtin "isinstance") (fun xs H Q => cls = .ref D ∧ (∃ dd fs, d = some dd ∧ H dd = some (.xd fs)) ∧ rIsE X.K D a xs H Q) := by
  intro pins s σ H xs us Q I r h
  obtain ⟨e1, ⟨dd, fs, e2, ea⟩, c, cv, b, rfl, hcv, e, q⟩ := h
  subst e1 e2
  cases r with
  | cons rx rr =>
    cases rr with
    | cons rt rr =>
      cases rr
      cases rx
      have ec := hcv _ rt
      subst ec
      obtain ⟨hget, _⟩ := I.pin (a, oe) (List.mem_append.mpr (.inl List.mem_cons_self))
      obtain ⟨vs, hv⟩ := hf
      have hx : ObjOk X.prog X.w H s.heap dd (.xd fs) := I.hok dd _ ea
      obtain ⟨mA, hns, hr⟩ := hx
      obtain ⟨od, ho, hl⟩ := lookIn_ns hns
      have J : PySem.W.InstAt s.heap a oe D (some od) := ⟨hget, hz.1, by unfold PySem.W.notCls; rw [hv] <;> rfl, by rw [hz.2]; exact ho⟩
      have hcl : (PySem.W.clsIn X.K D).isSome = true := by
        obtain ⟨cd, hc, _⟩ := PySem.W.any_some C.hd
        rw [hc]
        rfl
      exact PySem.W.kia_one (PySem.W.kitx_exc hcl C.hg C.hk C.hs C.ha C.hn C.ht C.hm) I.kIn J e (fun z => nomatch z) fun tk => ⟨.bl b, H, I.kept (t' := tk) fun _ _ z => z, rfl, q⟩
/-- its __init__: self.f = what is given -/
def spIni (C : Addr) (f : Str) : Sp := fun vs H Q _ => ∃ (a : Addr) (v : V), vs = [.ref a, v] ∧ H a = some (exo a C none) ∧ ∀ dx, H dx = none → dx ≠ a → Q .non (upd (upd H dx (exd dx [(f, v)])) a (exo a C (some dx)))
/-- an own exception class x with one field f, at C -/
structure XDef (P : Program) (w : World) (K : PySem.W.Frag) (mg : Str → Option Value) (base : Heap) (x f : Str) (C : Addr) : Prop where
  gC : mg x = some (.ref C)
  oex : OexC K C
  xf : XfC K C
  no : PySem.W.findIn K (.ref C) f = some none
  isx : ExcC K C
  em : PySem.W.exmOne K (.ref C) (.ref C) = some true
  ini : ∃ (fI : Addr) (fd : FuncData), PySem.W.findIn K (.ref C) "__init__" = some (some (.ref fI)) ∧ PySem.W.typeIn K (.ref fI) = some (.type "function") ∧ FnOk P w K mg base CX0 1 fI fd ["self", f] (spIni C f) ∧ Binds K fd ["self", f] []
theorem pmk_x {X : Cx} {x f : Str} {C : Addr} {j : Nat} {p pos : Pos} {e : Expr} {te : TE} (D : XDef X.prog X.w X.K X.mg X.base x f C) (hr : Room j X.A) (h2 : 2 ≤ j) (hg : Gl X x) (he : PE X e te) (hdb : (x == ("__debug__" : Str)) = false := by decide)
    (hst : starEach [e] X.env = (false, eval e X.env) :: starEach [] X.env := by rfl) : PMk X (.Call (.Name x p) [e] [] pos) (tMkO C (spIni C f) [] (tCons te tNil)) := by
  obtain ⟨fI, fd, iC, tI, F, hb⟩ := D.ini
  exact pmk_oex D.oex iC tI F (hr.mono h2) hb .nil pass0 hg D.gC (pa_cons (hs := hst) he pa_nil) hdb hst (by rfl)
/-- what is made: an exception whose dict holds the field, all else as it was -/
theorem mkx_in {C : Addr} {f : Str} {v : V} {H1 : Hp} {Q : XK} (h : ∀ (d : Addr) (H2 : Hp), H1 d = none → Same H1 H2 → H2 d = some (.xd [(f, v)]) → Q (.ref C) (some d) H2) :
    [v].length ≤ 1000 ∧ ∀ a, H1 a = none → spIni C f (.ref a :: ([v] ++ [])) (upd H1 a (exo a C none))
      (fun u H2 => u = .non ∧ ∃ (d : Addr) (fs : List (Str × V)), H2 a = some (exo a C (some d)) ∧ H2 d = some (exd d fs) ∧ H1 d = none ∧ Q (.ref C) (some d) (upd (del H2 a) d (.xd fs))) (fun _ _ _ => False) := by
  refine ⟨by show 1 ≤ 1000; decide, fun a na => ⟨a, v, rfl, upd_same, fun dx ndx hne => ⟨rfl, dx, [(f, v)], upd_same, (upd_ne hne).trans upd_same, ?_, ?_⟩⟩⟩
  · rw [upd_ne hne] at ndx
    exact ndx
  · have nd : H1 dx = none := by
      rw [upd_ne hne] at ndx
      exact ndx
    refine h dx _ nd (fun b o e => ?_) upd_same
    have b1 := ne_of_none e na
    have b2 := ne_of_none e nd
    rw [upd_ne b2, del_ne b1, upd_ne b1, upd_ne b2, upd_ne b1]
    exact e
end My
namespace My
open PySem PySem.Spec PyProof.Rows L2
/-! ### sorted(text) -/
def signs (z : Str) : List Str := z.cps.toList.map fun c => ⟨#[c]⟩
theorem call_sortedT {X : Cx} (calm : X.calm = true) : CallR X (.builtin "sorted") (fun xs H Q => ∃ z : Str, xs = [.str z] ∧ z.cps.size < 64 ∧ ∀ ys p, ys.Perm (signs z) → sortedS ys = true → H p = none → Q (.ref p) (upd H p (.lst (ys.map V.str)))) := by
  intro pins s σ H xs us Q I r ask
  obtain ⟨z, ex, few, go⟩ := ask
  subst ex
  obtain ⟨u, rfl, ru⟩ := vals1 r
  obtain ⟨t, rfl⟩ := ru
  have room : z.cps.size ≤ sizeLine := by rw [sizeLine_eq]; omega
  refine Calls.call_function_entry kind_sorted plain_sorted entry_sorted (args_sorted1 _) ?_
  unfold Builtin.«sorted»
  refine wpAny_bind (m := checkCount "sorted" 1 1 _) (wpAny_pure (wpAny_bind ?_))
  refine wpAny_collect_str (A := X.A.in1) (I.ok.hd calm) z t (fun s1 acc old hg hdr hos its => ?_) room
  obtain ⟨h1, g1, d1, t1, o1⟩ := s1
  obtain rfl : g1 = s.gens := hg
  obtain rfl : d1 = s.drawn := hdr
  obtain rfl : o1 = s.os := hos
  have I1 : Inv X pins σ H { s with heap := h1, toks := t1 } := I.kept old
  have many : acc.toList.length = (signs z).length := by
    unfold signs
    rw [Array.length_toList, its.1, List.length_map, Array.length_toList]
  have all : StrsAre acc.toList (signs z) := strs_at many fun j v e => by
    obtain ⟨c, tt, e1, e2⟩ := its.2 j v (by rw [← Array.getElem?_toList]; exact e)
    refine ⟨⟨#[c]⟩, tt, ?_, e2⟩
    unfold signs
    rw [List.getElem?_map, Array.getElem?_toList, e1]
    rfl
  have few2 : acc.toList.length < 64 := by rw [Array.length_toList, its.1]; exact few
  have at_ : (h1.push (seqObj "list" acc.toList.toArray 0)).get? h1.objs.size = some (seqObj "list" acc.toList.toArray 0) := Heap.get?_push_size _ rfl
  refine wpAny_bind (wpAny_newList ?_ (by rw [sizeLine_eq]; omega))
  show wpAny _ _ _ _ _ ({ s with heap := h1.push (seqObj "list" acc.toList.toArray 0), toks := t1 } : Shared)
  refine wpAny_bind (wpAny_holding (wpAny_call_entry slot_list_sort ⟨_, at_, rfl⟩ entry_list_sort (list_sort_treeK strKind_oneLt (s := { s with heap := h1.push (seqObj "list" acc.toList.toArray 0), toks := t1 }) at_ all.keysOf
    (fun a b l e => keyKind_strs (by rw [← e]; exact all)) few2 fun st pm so => ⟨_, rfl, ?_⟩) (args_list_sort _)))
  obtain ⟨ys, k1, k2, k3⟩ := sorted_out_str all pm so
  obtain ⟨ep, k4⟩ := sortedHeap_at (vs := acc.toList) (out := (arrOf st).map (·.2)) at_
  have fit : (ys.map V.str).length ≤ sizeLine := by
    have := k2.length_eq
    rw [List.length_map, this, ← many, sizeLine_eq]
    omega
  have young : ∀ b u, h1.get? b = some u → (sortedHeap (h1.push (seqObj "list" acc.toList.toArray 0)) h1.objs.size acc.toList ((arrOf st).map (·.2))).get? b = some u := fun b u e => by
    have lt : b < h1.objs.size := Heap.lt_size e
    rw [sortedHeap_old (Nat.ne_of_lt lt) (by rw [size_push']; exact Nat.lt_succ_of_lt lt)]
    exact Heap.get?_push_of_some _ e
  exact wpAny_pure ⟨_, rfl, .ref h1.objs.size, upd H h1.objs.size (.lst (ys.map V.str)), I1.laid (t' := t1) young (Nat.le_refl _)
    (show ObjOk X.prog X.w _ _ _ (.lst (ys.map V.str)) from ⟨fit, ((arrOf st).map (·.2)).toList, ep, vals_of_strs k1, by rw [Array.toArray_toList]; exact k4⟩), rfl, go ys _ k2 k3 (I1.hok.fresh (Nat.le_refl _))⟩
/-! ### text[::-1] -/
def revS (z : Str) : Str := ⟨z.cps.toList.reverse.toArray⟩
theorem revS_size (z : Str) : (revS z).cps.size = z.cps.size := by
  show z.cps.toList.reverse.toArray.size = _
  rw [List.size_toArray, List.length_reverse, Array.length_toList]
theorem rev_picked (z : Str) (t : Tok) : (slicePicked z none none (some (-1, t))).filterMap (z.cps[·]?) = z.cps.toList.reverse := by
  have e : slicePicked z none none (some (-1, t)) = sliceRange ((z.length : Int) - 1) (-1) (-1) := rfl
  rw [e, PySem.W.krv_sliceRange, PySem.W.krv_range, List.filterMap_reverse]
  exact congrArg List.reverse (PySem.W.krv_all z.cps)
def tRevS (te : TE) : TE := fun σ H Q => te σ H fun x H1 => ∃ z, x = .str z ∧ z.length ≤ sizeLine ∧ Q (.str (revS z)) H1
theorem pe_revS {X : Cx} {e : Expr} {te : TE} {k : Nat} {p1 p2 p3 pos : Pos} (he : PE X e te) : PE X (.Subscript e (.Slice none none (some (.UnaryOp .USub (.Constant (.int 1) k p1) p2)) p3) pos) (tRevS te) := by
  have step : PO X (some (.UnaryOp .USub (.Constant (.int 1) k p1) p2)) (tPart (tUn (rU fun i => .int (-i)) (tC (.int 1)))) := po_some (pe_un un_neg pe_int)
  refine ⟨fun pins s σ H Q I ask => Subscript_ (thn (he.run pins s σ H _ I ask) fun v sa ⟨x, Ha, Ia, ra, z, ex, fit, go⟩ => ?_)⟩
  subst ex
  obtain ⟨t, rfl⟩ := ra
  refine wpAny_Slice (thn (po_none.run pins sa σ Ha (fun o G => o = none ∧ G = Ha) Ia ⟨rfl, rfl⟩) fun v1 sb ⟨o1, Hb, Ib, q1, w1, w2⟩ => ?_)
  subst w1 w2
  refine thn (po_none.run pins sb σ Hb (fun o G => o = none ∧ G = Hb) Ib ⟨rfl, rfl⟩) fun v2 sc ⟨o2, Hc, Ic, q2, w1, w2⟩ => ?_
  subst w1 w2
  refine thn (step.run pins sc σ Hc (fun o G => o = some (-1) ∧ G = Hc) Ic ⟨1, rfl, -1, rfl, rfl, rfl⟩) fun v3 sd ⟨o3, Hd, Id, q3, w1, w2⟩ => ?_
  subst w1 w2
  obtain ⟨l1, rfl, m1⟩ := IsPart.raw q1
  obtain ⟨l2, rfl, m2⟩ := IsPart.raw q2
  obtain ⟨l3, rfl, m3⟩ := IsPart.raw q3
  obtain rfl : l1 = none := by
    cases l1 with
    | none => rfl
    | some a => cases m1
  obtain rfl : l2 = none := by
    cases l2 with
    | none => rfl
    | some a => cases m2
  obtain ⟨⟨i3, t3⟩, rfl⟩ : ∃ a, l3 = some a := by
    cases l3 with
    | none => cases m3
    | some a => exact ⟨a, rfl⟩
  obtain rfl : i3 = -1 := Option.some.inj m3
  have Ie : Inv X pins σ Hd { sd with heap := sd.heap.push { cls := .type "slice", data := .fields #[partValue none, partValue none, partValue (some (-1, t3))] } } := Id.kept (t' := sd.toks) fun b ob q => Heap.get?_push_of_some _ q
  refine tail_any (ops := [.str z t, .ref sd.heap.objs.size]) (typeIs_str _ z t) (F.slot_str_getitem.lookup) ?_ (by with_unfolding_all rfl)
  refine wpAny_getItem_str_slice (l := none) (u := none) (st := some (-1, t3)) ⟨_, Heap.get?_push_size _ rfl, rfl, rfl⟩ rfl ?_
  show Made.post (if ((-1 : Int) == 1 && (slicePicked z none none (some (-1, t3))).length == z.length) = true then Made.val (.str z t) else Made.str ⟨((slicePicked z none none (some (-1, t3))).filterMap (z.cps[·]?)).toArray⟩) _ _
  rw [if_neg (by rw [show ((-1 : Int) == 1) = false from rfl, Bool.false_and]; decide), rev_picked]
  exact ⟨by show (revS z).cps.size ≤ _; rw [revS_size]; exact fit, .str (revS z), Hd, Ie.tok _, ⟨_, rfl⟩, go⟩
/-! ### sum and min of a tuple of numbers -/
section
variable {X : Cx}
theorem tup_iter {A : Around} {E : Value → Shared → Prop} {s : Shared} {prog : Program} {w : World} {l : Addr} {its : Array Value} {Q : Value → Shared → Prop} (hl : s.heap.IsTuple l its)
    (h : ∀ sb : Shared, sb = { s with heap := s.heap.push { cls := .type "tuple_iterator", data := .fields #[.ref l, .int 0 0] } } → (sb.heap.IsTupleIter s.heap.objs.size l 0 ∧ sb.heap.IsTuple l its) → (∀ b ∈ [s.heap.objs.size, l], b < sb.heap.objs.size) → l ≠ s.heap.objs.size →
      (∀ (H' : Heap), (∀ b o, b ∉ [s.heap.objs.size] → sb.heap.get? b = some o → H'.get? b = some o) → ∀ b o, s.heap.get? b = some o → H'.get? b = some o) → Q (.ref s.heap.objs.size) sb) : wpAny (model prog w) A (pyIter (.ref l)) Q E s := by
  have lt : l < s.heap.objs.size := by
    obtain ⟨_, e, _⟩ := hl
    exact Heap.lt_size e
  refine wpAny_pyIter_tuple hl (h _ rfl ⟨⟨_, Heap.get?_push_size _ rfl, rfl, rfl⟩, hl.push _⟩ (fun b m => ?_) (Nat.ne_of_lt lt) fun H' k b o e => k b o (fun m => Nat.ne_of_lt (Heap.lt_size e) (List.mem_singleton.mp m)) (Heap.get?_push_of_some _ e))
  show b < (s.heap.push _).objs.size
  rw [Heap.size_push]
  rcases List.mem_cons.mp m with rfl | m
  · exact Nat.lt_succ_self _
  · rw [List.mem_singleton.mp m]
    exact Nat.lt_succ_of_lt lt
def rSumT (K : PySem.W.Frag) : List V → Hp → VK → Prop := fun vs H Q => ∃ (a : Addr) (ns : List Int), vs = [V.ref a] ∧ (SqL K H a (ns.map V.int) ∨ SqT K H a (ns.map V.int)) ∧ Q (.int ns.sum) H
theorem cr_sumT (calm : X.calm = true) : CallR X (.builtin "sum") (rSumT X.K) := by
  intro pins s σ H vs us Q I r ask
  obtain ⟨a, ns, rfl, hs | hs, go⟩ := ask
  · exact cr_sum calm pins s σ H _ us Q I r ⟨a, ns, rfl, hs, go⟩
  obtain ⟨its, rv, tp, _⟩ := I.tuple hs
  rw [Vals.ref1 r]
  have nums := rv.ints
  obtain ⟨xs, e⟩ := nums.allInts.items
  have vals : xs.toList.map (·.1) = ns := by rw [← nums_intItems, ← e]; exact nums.numsOf
  rw [e] at tp
  refine call_sum_walkG (tup_iter (its := intItems xs) tp fun sb eb st fp ne keep => ?_)
  subst eb
  refine ⟨_, _, _, _, _, _, numAt xs, rfl, Walks.tuple (A := X.A.in1) (I.ok.hd calm) _ a ne (intItems xs), st, fp, (fun _ _ => intItems_at), fun h' tk t' k => ?_⟩
  have size : (intItems xs).size = xs.size := by simp [intItems]
  rw [size, preSum_eq, vals, List.take_of_length_le (by rw [← vals, List.length_map, Array.length_toList]; exact Nat.le_refl _)]
  exact ⟨.int _, H, I.kept (keep h' k), ⟨_, rfl⟩, go⟩
def rMinT (K : PySem.W.Frag) : List V → Hp → VK → Prop := fun vs H Q => ∃ (a : Addr) (ns : List Int), vs = [V.ref a] ∧ (SqL K H a (ns.map V.int) ∨ SqT K H a (ns.map V.int)) ∧ 0 < ns.length ∧ ∀ m, m ∈ ns → (∀ y, y ∈ ns → m ≤ y) → Q (.int m) H
theorem cr_minT (calm : X.calm = true) : CallR X (.builtin "min") (rMinT X.K) := by
  intro pins s σ H vs us Q I r ask
  obtain ⟨a, ns, rfl, hs | hs, some, go⟩ := ask
  · exact cr_min calm pins s σ H _ us Q I r ⟨a, ns, rfl, hs, some, go⟩
  obtain ⟨its, rv, tp, _⟩ := I.tuple hs
  rw [Vals.ref1 r]
  have nums := rv.ints
  obtain ⟨xs, e⟩ := nums.allInts.items
  have vals : xs.toList.map (·.1) = ns := by rw [← nums_intItems, ← e]; exact nums.numsOf
  rw [e] at tp
  have many : xs.size = ns.length := by rw [← vals, List.length_map, Array.length_toList]
  have size : (intItems xs).size = xs.size := by simp [intItems]
  refine call_min_walk (tup_iter (its := intItems xs) tp fun sb eb st fp ne keep => ?_)
  subst eb
  refine ⟨_, _, _, _, _, _, _, rfl, Walks.tuple (A := X.A.in1) (I.ok.hd calm) _ a ne (intItems xs), st, fp, by omega, CmpOf.ints_lt (numAt xs) (fun _ _ => intItems_at), fun v h' tk hv k => ?_⟩
  obtain ⟨t, rfl⟩ := intItems_at hv
  obtain ⟨g1, g2⟩ := argBest_lt (numAt xs) ((intItems xs).size - 1)
  refine ⟨.int _, H, I.kept (keep h' k), ⟨_, rfl⟩, go _ ?_ fun y my => ?_⟩
  · rw [numAt_eq, vals]
    exact PySem.getD_mem (by omega)
  · obtain ⟨j, hj, rfl⟩ := mem_getD my
    have := g2 j (by omega)
    rw [numAt_eq, numAt_eq, vals] at this
    rw [numAt_eq, vals]
    exact this
end
/-! ### text * number -/
def repS (z : Str) (k : Int) : Str := ⟨(List.replicate k.toNat z.cps.toList).flatten.toArray⟩
theorem fold_app (c : Array Nat) : ∀ (n : Nat) (acc : Array Nat), (List.replicate n c).foldl (· ++ ·) acc = acc ++ ((List.replicate n c.toList).flatten).toArray
  | 0, acc => by simp
  | n + 1, acc => by
    rw [List.replicate_succ, List.foldl_cons, fold_app c n, List.replicate_succ, List.flatten_cons]
    apply Array.toList_inj.mp
    simp
theorem repS_made {z : Str} {k : Int} {t : Tok} {Q : Value → Shared → Prop} {s : Shared} (fit : z.length * k.toNat ≤ sizeLine) (h : ∀ t' tk, Q (.str (repS z k) t') { s with toks := tk }) (h0 : Q (.str z t) s ∨ ¬ (k = 1 ∨ z.length = 0)) (h1 : k = 1 ∨ z.length = 0 → repS z k = z) :
    (if k < 1 then Made.str Str.empty else if (k == 1 || z.length == 0) = true then Made.val (.str z t) else Made.str ⟨(List.replicate k.toNat z.cps).foldl (· ++ ·) #[]⟩).post Q s := by
  split
  · rename_i c
    have e : repS z k = Str.empty := by
      unfold repS
      rw [show k.toNat = 0 by omega]
      rfl
    exact ⟨by decide, by rw [← e]; exact h _ _⟩
  · split
    · rename_i c2
      simp only [Bool.or_eq_true, beq_iff_eq] at c2
      rcases h0 with h0 | h0
      · exact h0
      · exact absurd c2 h0
    · have e : (⟨(List.replicate k.toNat z.cps).foldl (· ++ ·) #[]⟩ : Str) = repS z k := by
        rw [fold_app]
        unfold repS
        simp
      rw [e]
      refine ⟨?_, h _ _⟩
      show (List.replicate k.toNat z.cps.toList).flatten.toArray.size ≤ _
      have fl : ∀ n : Nat, (List.replicate n z.cps.toList).flatten.length = n * z.cps.size := fun n => by
        induction n with
        | zero => simp
        | succ n ih => rw [List.replicate_succ, List.flatten_cons, List.length_append, ih, Array.length_toList, Nat.add_mul, Nat.one_mul, Nat.add_comm]
      rw [List.size_toArray, fl, Nat.mul_comm]
      exact fit
theorem op_mulS {X : Cx} : OpR X (binaryOp .Mult) (fun x y H Q => ∃ (z : Str) (k : Int), x = .str z ∧ y = .int k ∧ z.length ≤ 1000 ∧ -1000 ≤ k ∧ k ≤ 1000 ∧ Q (.str (repS z k)) H) := by
  intro pins s σ H x y v u Q I rx ry ask
  obtain ⟨z, k, rfl, rfl, a1, a2, a3, go⟩ := ask
  obtain ⟨t, rfl⟩ := rx
  obtain ⟨t', rfl⟩ := ry
  have fit : z.length * k.toNat ≤ sizeLine := by
    rw [sizeLine_eq]
    have h2 : k.toNat ≤ 1000 := by omega
    exact Nat.le_trans (Nat.mul_le_mul a1 h2) (by decide)
  have one : k = 1 ∨ z.length = 0 → repS z k = z := fun c => by
    unfold repS
    rcases c with rfl | c
    · show (⟨(List.replicate 1 z.cps.toList).flatten.toArray⟩ : Str) = z
      simp
    · have e : z.cps = #[] := Array.size_eq_zero_iff.mp c
      have e2 : ∀ n : Nat, (List.replicate n ([] : List Nat)).flatten = [] := fun n => by induction n with | zero => rfl | succ n ih => rw [List.replicate_succ, List.flatten_cons, ih]; rfl
      rw [e]
      show (⟨(List.replicate k.toNat ([] : List Nat)).flatten.toArray⟩ : Str) = z
      rw [e2]
      cases z with
      | mk c => cases e; rfl
  refine P.mul_str (by
      have h1 : ¬ k < -(2 ^ 63 : Int) := by omega
      have h2 : ¬ k ≥ 2 ^ 63 := by omega
      rw [decide_eq_false h1, decide_eq_false h2]
      rfl) (fun c1 _ z2 => ?_) (fun _ _ => ?_) (repS_made fit (fun t' tk => ⟨.str _, H, I.tok _, ⟨_, rfl⟩, go⟩) ?_ one)
  · have h3 : ((2 : Int) ^ 63 - 1) / 1000 ≤ (2 ^ 63 - 1) / k := by
      refine Int.le_ediv_of_mul_le (by omega) ?_
      have h4 : ((2 : Int) ^ 63 - 1) / 1000 * k ≤ ((2 : Int) ^ 63 - 1) / 1000 * 1000 := Int.mul_le_mul_of_nonneg_left a3 (by decide)
      exact Int.le_trans h4 (by decide)
    have h5 : (1000 : Int) < ((2 : Int) ^ 63 - 1) / 1000 := by decide
    omega
  · unfold Builtin.Str.tooLong
    exact decide_eq_false (by omega)
  · by_cases c : k = 1 ∨ z.length = 0
    · exact .inl ⟨.str z, H, I, ⟨t, rfl⟩, by rw [one c] at go; exact go⟩
    · exact .inr c
end My
namespace My
open PySem PySem.Spec PyProof.Rows L2
/-! ### several except clauses, each with a name or without -/
/-- an exception that stands in the heap h of the def that looks at it -/
structure Lnd (X : Cx) (pins : List (Addr × Obj)) (z : Shared) (a : Addr) (cls : Value) (d : Option Addr) (σ : L2.St) (H : Hp) : Prop where
  ex : ∃ (B : Heap) (y : Shared), Inv X pins σ H y ∧ (∀ b o, y.heap.get? b = some o → b ∉ frs X.stack → B.get? b = some o) ∧ y.heap.UpToSlots z.heap ∧
    HandSPX.FlyingZ B (X.env :: X.outer) a (Zc cls d) z.heap ∧ z.os = y.os ∧ AllBare z.gens
  no : H a = none
section
variable {X : Cx} {pins : List (Addr × Obj)} {z : Shared} {a : Addr} {cls : Value} {d : Option Addr} {σ : L2.St} {H : Hp}
theorem Lnd.inv (l : Lnd X pins z a cls d σ H) : Inv X pins σ H z := by
  obtain ⟨B, y, I, keeps, grown, f, o, g⟩ := l.ex
  exact I.landed keeps f.1 grown o g
/-- the object itself -/
theorem Lnd.obj (l : Lnd X pins z a cls d σ H) : ∃ (oe : Obj) (vs : Array Value), z.heap.get? a = some oe ∧ Zc cls d oe ∧ oe.data = .fields vs := by
  obtain ⟨B, y, I, keeps, grown, f, o, g⟩ := l.ex
  obtain ⟨oe, vs, h1, h2, h3⟩ := f.there
  exact ⟨oe, vs, h1, h2, h3⟩
/-- it is no frame -/
theorem Lnd.nofr (l : Lnd X pins z a cls d σ H) : a ∉ frs (X.env :: X.outer) := fun m => by
  obtain ⟨B, y, I, keeps, grown, f, o, g⟩ := l.ex
  obtain ⟨oe, vs, h1, h2, h3⟩ := f.there
  obtain ⟨e0, o2, h4, h5⟩ := f.2.2.1.mem m
  have : oe = o2 := Option.some.inj (h1.symm.trans h4)
  exact h5 vs (this ▸ h3)
theorem Lnd.suite (hf : X.env.frame = some X.env.locals) (l : Lnd X pins z a cls d σ H) {oe : Obj} {vs : Array Value} (h1 : z.heap.get? a = some oe) (h3 : oe.data = .fields vs) : Inv (X.suite a ((a, oe) :: (X.pn ++ pins))) [] σ H z := by
  refine l.inv.suite h1 h3 l.no (fun e => l.nofr ?_) (fun m => l.nofr ?_)
  · exact List.mem_filterMap.mpr ⟨_, List.mem_cons_self, hf.trans (congrArg some e.symm)⟩
  · obtain ⟨e, me, q⟩ := List.mem_filterMap.mp m
    exact List.mem_filterMap.mpr ⟨e, List.mem_cons_of_mem _ me, q⟩
/-- how the clauses hds deal with it -/
def Hnd (X : Cx) (hds : List ExceptHandler) (w : Ends → WX) : Prop := ∀ (pins : List (Addr × Obj)) (z : Shared) (a : Addr) (cls : Value) (d : Option Addr) (σ : L2.St) (H : Hp) (D : Ends), Lnd X pins z a cls d σ H → w D cls d σ H →
  wpAny (model X.prog X.w) X.A (handleBy (.ref a) X.env hds) (SP X pins D) X.xe z
theorem hnd_nil {Wout : WX} (hs : X.stack = X.env :: X.outer) (hf : X.env.frame = some X.env.locals) (tk : Takes X Wout) : Hnd X [] (fun _ => Wout) := by
  intro pins z a cls d σ H D l hw
  refine wpAny_handleBy_nil ?_
  obtain ⟨B, y, I, keeps, grown, f, o, g⟩ := l.ex
  obtain ⟨q1, q2, q3, oe, vs, T, oT, ts, q4, q5, q6, q7, q8⟩ := id f
  unfold PySem.passOn
  refine wpAny_bind (wpAny_field q4 q6 q7 ?_)
  rw [if_neg (by simp : ¬ ((Value.ref T == Value.none) = true))]
  have out : wpAny (model X.prog X.w) X.A (setFlight (.ref a) X.env.frame) (fun _ s4 => wpAny (model X.prog X.w) X.A (throw (.ref a) : Sem Flow) (SP X pins D) X.xe s4) X.xe z := by
    rw [hf]
    refine HandSPX.setFlight_upZ f fun h4 held up4 => wpAny_throw (tk _ _ ⟨a, B, y, pins, σ, H, cls, d, rfl, I, keeps, grown.trans up4, .inr (.inr (hs ▸ held)), l.no, o, g, hw⟩)
  first
    | exact wpAny_bind (wpAny_pure (wpAny_bind out))
    | exact wpAny_bind out
theorem Lnd.names {x : Str} {c : Value} {np : Pos} (hf : X.env.frame = some X.env.locals) (l : Lnd X pins z a cls d σ H) (hc : Names X x c) {Q E : Value → Shared → Prop} (q : Q c z) :
    wpAny (model X.prog X.w) (X.A.mark (some (.ref a))) (eval (.Name x np) X.env) Q E z := by
  obtain ⟨oe, vs, h1, h2, h3⟩ := l.obj
  have S := l.suite hf h1 h3
  rcases hc with ⟨hg, nd, hm | ⟨hm, hv, hn⟩⟩
  · exact ld_glob (X := X.suite a _) S hg hm q nd
  · exact ld_blt (X := X.suite a _) S hg hm hv q hn nd
theorem Lnd.test {c : Value} {b : Bool} (l : Lnd X pins z a cls d σ H) (h : PySem.W.exmOne X.K cls c = some b) {Q : Bool → Shared → Prop} {E : Value → Shared → Prop} (q : Q b z) :
    wpAny (model X.prog X.w) (X.A.mark (some (.ref a))) (excMatches (.ref a) c) Q E z := by
  obtain ⟨oe, vs, h1, h2, h3⟩ := l.obj
  exact (PySem.W.exm_one (M := model X.prog X.w) l.inv.kIn (fun _ _ _ _ k q => wpAny_typeOf_ref (k _ _ h1) (h2.1.symm ▸ q)) h).here q
/-- the flight set to none: the exception stands as before -/
theorem Lnd.again (l : Lnd X pins z a cls d σ H) {M : Model} {A : Around} {E : Value → Shared → Prop} {Q : Unit → Shared → Prop} (q : ∀ z', Lnd X pins z' a cls d σ H → Q () z') : wpAny M A (setFlight (.ref a) none) Q E z := by
  obtain ⟨B, y, I, keeps, grown, f, o, g⟩ := l.ex
  exact HandSPX.lands_againZ f fun h4 f4 up4 => q _ ⟨⟨B, y, I, keeps, grown.trans up4, f4, o, g⟩, l.no⟩
section
variable {x n : Str} {c : Value} {i : Nat} {b₀ : Stmt} {su : List Stmt} {np pos : Pos} {hds : List ExceptHandler} {w : Ends → WX} {ts : Addr → Value → Option Addr → TS}
/-- what a clause without a name wishes -/
def wOne (K : PySem.W.Frag) (c : Value) (ts : Addr → Value → Option Addr → TS) (w : Ends → WX) : Ends → WX := fun D cls d σ H =>
  ∃ b, PySem.W.exmOne K cls c = some b ∧ (b = true → ∀ a, H a = none → ts a cls d D σ H) ∧ (b = false → w D cls d σ H)
/-- the ends behind a suite whose name i goes -/
def Ends.go (D : Ends) (i : Nat) : Ends := ⟨fun σ' H' => D.nx (σ'.set i none) H', D.rt, fun σ' H' => D.bk (σ'.set i none) H', fun σ' H' => D.ct (σ'.set i none) H'⟩
/-- .. a clause with a name, whose place is i -/
def wNam (K : PySem.W.Frag) (c : Value) (i : Nat) (ts : Addr → Value → Option Addr → TS) (w : Ends → WX) : Ends → WX := fun D cls d σ H =>
  ∃ b, PySem.W.exmOne K cls c = some b ∧ (b = true → ∀ a, H a = none → ts a cls d (Ends.go D i) (σ.set i (some (.ref a))) H) ∧ (b = false → w D cls d σ H)
theorem hnd_one (hf : X.env.frame = some X.env.locals) (hc : Names X x c)
    (hsu : ∀ (a : Addr) (oe : Obj) (cls : Value) (d : Option Addr) (pn : List (Addr × Obj)), Zc cls d oe → (∃ vs, oe.data = .fields vs) → PSs (X.suite a ((a, oe) :: pn)) (b₀ :: su) (ts a cls d)) (r : Hnd X hds w) :
    Hnd X (.ExceptHandler (some (.Name x np)) none (b₀ :: su) pos :: hds) (wOne X.K c ts w) := by
  rintro pins z a cls d σ H D l ⟨b, hb, yes, no⟩
  have ok := l.inv.ok
  refine wpAny_handleBy_cons (codeAny_handlers_test (l.names hf hc (l.test hb ?_))) (fun q => nomatch q)
  cases b with
  | false => exact r pins z a cls d σ H D l (no rfl)
  | true =>
    refine codeAny_handlers_suite (l.again fun z2 l2 => ?_)
    obtain ⟨oe, vs, h1, h2, h3⟩ := l2.obj
    refine wpAny_mono ((hsu a oe cls d (X.pn ++ pins) h2 ⟨vs, h3⟩).run [] z2 σ H D (l2.suite hf h1 h3) (yes rfl a l2.no)) (fun f y hy => ?_) (fun _ _ e => e.elim)
    match f, hy with
    | .next, ⟨_, _, J, q⟩ => exact ⟨_, _, J.unsuite ok, q⟩
    | .brk, ⟨_, _, J, q⟩ => exact ⟨_, _, J.unsuite ok, q⟩
    | .cont, ⟨_, _, J, q⟩ => exact ⟨_, _, J.unsuite ok, q⟩
    | .ret u, ⟨_, _, _, J, rv, q⟩ => exact ⟨_, _, _, J.unsuite ok, rv, q⟩
theorem hnd_nam (hf : X.env.frame = some X.env.locals) (hN : X.N.Nodup) (hi : X.N[i]? = some n) (hln : X.env.kindOf n = some .local) (hc : Names X x c)
    (hsu : ∀ (a : Addr) (oe : Obj) (cls : Value) (d : Option Addr) (pn : List (Addr × Obj)), Zc cls d oe → (∃ vs, oe.data = .fields vs) → PSs (X.suite a ((a, oe) :: pn)) (b₀ :: su) (ts a cls d)) (r : Hnd X hds w) :
    Hnd X (.ExceptHandler (some (.Name x np)) (some n) (b₀ :: su) pos :: hds) (wNam X.K c i ts w) := by
  rintro pins z a cls d σ H D l ⟨b, hb, yes, no⟩
  have ok := l.inv.ok
  refine wpAny_handleBy_cons (codeAny_handlers_test (l.names hf hc (l.test hb ?_))) (fun q => nomatch q)
  cases b with
  | false => exact r pins z a cls d σ H D l (no rfl)
  | true =>
    refine codeAny_handlers_suite_as (l.again fun z2 l2 => ?_)
    obtain ⟨oe, vs, h1, h2, h3⟩ := l2.obj
    refine store_ok (X := X.suite a _) (v := .ref a) (l2.suite hf h1 h3) hN hi (Or.inl hln) rfl (fun z3 I3 => ?_) (Or.inr hln)
    refine wpAny_mono ((hsu a oe cls d (X.pn ++ pins) h2 ⟨vs, h3⟩).run [] z3 _ H _ I3 (yes rfl a l2.no)) (fun f y hy => ?_) (fun _ _ e => e.elim)
    match f, hy with
    | .next, ⟨_, _, J, q⟩ => exact gone_ok (J.unsuite ok) hN hi hln fun _ J2 => ⟨_, _, J2, q⟩
    | .brk, ⟨_, _, J, q⟩ => exact gone_ok (J.unsuite ok) hN hi hln fun _ J2 => ⟨_, _, J2, q⟩
    | .cont, ⟨_, _, J, q⟩ => exact gone_ok (J.unsuite ok) hN hi hln fun _ J2 => ⟨_, _, J2, q⟩
    | .ret u, ⟨_, _, _, J, rv, q⟩ => exact gone_ok (J.unsuite ok) hN hi hln fun _ J2 => ⟨_, _, _, J2, rv, q⟩
/-- try with such clauses -/
theorem ps_tryN {body : List Stmt} {h₀ : ExceptHandler} {tb : WX → TS} (hs : X.stack = X.env :: X.outer) (hf : X.env.frame = some X.env.locals)
    (hb : ∀ (W : WX) (pn : List (Addr × Obj)) (xe : Value → Shared → Prop), Takes (X.tr pn xe) W → PassesOwn (model X.prog X.w) X.A X.env xe → PSs (X.tr pn xe) body (tb W)) (hh : Hnd X (h₀ :: hds) w) :
    PS X (.Try body (h₀ :: hds) [] [] pos) (fun D σ H => tb (w D) D σ H) := by
  refine ⟨fun pins s σ H D I h => wpAny_Try_except ?_⟩
  have ok := I.ok
  have back : ∀ {pn' : List (Addr × Obj)} {xe : Value → Shared → Prop} {σ' : L2.St} {H' : Hp} {y : Shared}, Inv (X.tr (X.pn ++ pins) xe) pn' σ' H' y → Inv X pins σ' H' y := fun J => J.ofTry ok
  have run := (hb (w D) (X.pn ++ pins) (fun e z => wpAny (model X.prog X.w) X.A (noteFrame e X.env) (fun _ z2 => wpAny (model X.prog X.w) X.A (setFlight e none) (fun _ z3 => wpAny (model X.prog X.w) X.A (handleBy e X.env (h₀ :: hds)) (SP X pins D) X.xe z3) X.xe z2) X.xe z) ?_ PassesOwn.looking).run [] s σ H D (I.toTry _) h
  · refine wpAny_mono run (fun f y hy => ?_) (fun _ _ e => e)
    match f, hy with
    | .next, ⟨_, _, J, q⟩ => exact wpAny_execs_nil ⟨_, _, back J, q⟩
    | .brk, ⟨_, _, J, q⟩ => exact ⟨_, _, back J, q⟩
    | .cont, ⟨_, _, J, q⟩ => exact ⟨_, _, back J, q⟩
    | .ret u, ⟨_, _, _, J, rv, q⟩ => exact ⟨_, _, _, back J, rv, q⟩
  · rintro u z ⟨a, B, y, pins2, σ', H', cls, d, rfl, J, keeps, grown, sky, na, o, g, hw⟩
    have frs_eq : X.A.frames = some (X.env :: X.outer) := hs ▸ ok.frames
    refine Sky.land Zc.steady frs_eq hf (hs ▸ sky) fun h3 f3 up3 => ?_
    exact hh pins { z with heap := h3 } a cls d σ' H' D ⟨⟨B, y, back J, keeps, grown.trans up3, f3, o, g⟩, na⟩ hw
end
end
end My
namespace My
open PySem PySem.Spec PyProof.Rows L2
local macro_rules | `(tactic| walk_at "sq") => `(tactic| first | assumption | exact .inl (.inl (by assumption)) | exact .inl (.inl upd_same))
local macro_rules | `(tactic| walk_at "st") => `(tactic| first
  | refine ⟨_, rfl, ?_⟩
  | refine ⟨_, _, rfl, rfl, ?_⟩
  | refine ⟨cmull (by omega) (by omega), ?_⟩
  | refine ⟨cmulr (by omega) (by omega), ?_⟩
  | refine ⟨cdivw (by omega) (by omega), ?_⟩
  | refine ⟨(⟨by decide, by decide⟩ : CDiv _ _), ?_⟩
  | refine ⟨(show (0 : Int) < _ by omega), ?_⟩
  | refine ⟨(show (0 : Int) ≤ _ by omega), ?_⟩
  | refine ⟨(⟨by decide, by decide, by decide⟩ : CPow _ _), ?_⟩
  | refine ⟨(⟨by omega, by omega, by omega⟩ : CPow _ _), ?_⟩
  | refine .inl ⟨_, rfl, ?_⟩
  | refine .inr ⟨_, rfl, ?_⟩
  | refine ⟨_, _, _, _, _, rfl, .ty _, .base (.int _), kit_ii, ?_⟩
  | refine ⟨_, _, _, _, _, rfl, .ty _, .base (.int _), kit_ib, ?_⟩
  | refine ⟨_, _, _, _, _, rfl, .ty _, .base (.tup (by assumption)), kit_tt, ?_⟩
  | refine ⟨_, _, _, _, _, rfl, .ty _, .base (.lst (by assumption)), kit_ll, ?_⟩
  | refine iteT ?_
  | refine iteF ?_
  | refine ⟨_, _, rfl, .inl (.inl (by first | assumption | exact upd_same)), rfl, ?_⟩
  | refine ⟨_, _, rfl, ?_⟩
  | refine ⟨cmulr (by split <;> decide) (by split <;> decide), ?_⟩
  | refine ⟨_, _, rfl, .inl (by walk_at "sq"), ?_⟩
  | refine ⟨_, _, rfl, .inr (by walk_at "sq"), ?_⟩
  | refine ⟨_, _, _, _, rfl, rfl, (by walk_at "sq"), rfl, ?_⟩
  | refine ⟨rfl, ?_⟩
  | (refine ite2 (fun hc => ?_) (fun hc => ?_) <;> (try simp only [decide_eq_true_eq, Bool.not_eq_true', decide_eq_false_iff_not, Bool.not_eq_true, Bool.not_eq_false', Bool.false_eq_true, reduceCtorEq, V.int.injEq, not_true_eq_false, not_false_eq_true] at hc) <;> (try (exfalso; omega))))
local macro_rules | `(tactic| walk_at "ev") => `(tactic| repeat' walk_at "st")
def top (i : Nat) : Stmt := PySem.Challenge.pw_narrowingbits_k36_settings_refused.main.body.getD i (.Pass ⟨0, 0, 0, 0⟩)
abbrev s_layers_are_right : Stmt := top 9
theorem sc_layers_are_right : FnScope ["layers", "planes"] ["layers", "planes"] (defScope s_layers_are_right) := ⟨rfl, rfl, rfl, by decide +kernel, rfl, by decide +kernel, by decide +kernel⟩
abbrev s_rim_is_right : Stmt := top 17
theorem sc_rim_is_right : FnScope ["rim"] ["rim"] (defScope s_rim_is_right) := ⟨rfl, rfl, rfl, by decide +kernel, rfl, by decide +kernel, by decide +kernel⟩
abbrev s_side_is_right : Stmt := top 18
theorem sc_side_is_right : FnScope ["start", "stop"] ["start", "stop"] (defScope s_side_is_right) := ⟨rfl, rfl, rfl, by decide +kernel, rfl, by decide +kernel, by decide +kernel⟩
abbrev s_word_is_right : Stmt := top 19
theorem sc_word_is_right : FnScope ["word", "tx", "ty", "halvings_x", "halvings_y"] ["word", "tx", "ty"] (defScope s_word_is_right) := ⟨rfl, rfl, rfl, by decide +kernel, rfl, by decide +kernel, by decide +kernel⟩
abbrev s_order_is_right : Stmt := top 20
theorem sc_order_is_right : FnScope ["order"] ["order"] (defScope s_order_is_right) := ⟨rfl, rfl, rfl, by decide +kernel, rfl, by decide +kernel, by decide +kernel⟩
abbrev s_channel_count : Stmt := top 21
theorem sc_channel_count : FnScope ["mode"] ["mode"] (defScope s_channel_count) := ⟨rfl, rfl, rfl, by decide +kernel, rfl, by decide +kernel, by decide +kernel⟩
abbrev s_tile_span : Stmt := top 22
theorem sc_tile_span : FnScope ["start", "stop", "tiling"] ["start", "stop", "tiling"] (defScope s_tile_span) := ⟨rfl, rfl, rfl, by decide +kernel, rfl, by decide +kernel, by decide +kernel⟩
abbrev s_check_fields : Stmt := top 23
theorem sc_check_fields : FnScope ["rect", "mode", "tx", "ty", "word", "planes", "layers", "order", "x0", "x1", "y0", "y1"] ["rect", "mode", "tx", "ty", "word", "planes", "layers", "order"] (defScope s_check_fields) := ⟨rfl, rfl, rfl, by decide +kernel, rfl, by decide +kernel, by decide +kernel⟩
abbrev s_law_pool : Stmt := top 26
theorem sc_law_pool : FnScope ["_law_script", "_law_k", "_law_cell", "_law_big", "_law_mixed"] ["_law_script", "_law_k"] (defScope s_law_pool) := ⟨rfl, rfl, rfl, by decide +kernel, rfl, by decide +kernel, by decide +kernel⟩
abbrev s_law_take : Stmt := top 27
theorem sc_law_take : FnScope ["_law_source", "_law_top", "_law_drawn"] ["_law_source", "_law_top"] (defScope s_law_take) := ⟨rfl, rfl, rfl, by decide +kernel, rfl, by decide +kernel, by decide +kernel⟩
abbrev s_law_one : Stmt := top 28
theorem sc_law_one : FnScope ["_law_source", "_law_things_here"] ["_law_source", "_law_things_here"] (defScope s_law_one) := ⟨rfl, rfl, rfl, by decide +kernel, rfl, by decide +kernel, by decide +kernel⟩
abbrev s_law_layers : Stmt := top 29
theorem sc_law_layers : FnScope ["_law_source", "_law_planes", "_law_left", "_law_found", "_law_turn"] ["_law_source", "_law_planes"] (defScope s_law_layers) := ⟨rfl, rfl, rfl, by decide +kernel, rfl, by decide +kernel, by decide +kernel⟩
abbrev s_law_side : Stmt := top 30
theorem sc_law_side : FnScope ["_law_source", "_law_begin", "_law_many"] ["_law_source"] (defScope s_law_side) := ⟨rfl, rfl, rfl, by decide +kernel, rfl, by decide +kernel, by decide +kernel⟩
abbrev s_law_things : Stmt := top 31
theorem sc_law_things : FnScope ["_law_source", "_law_across", "_law_down", "_law_mode", "_law_tx", "_law_ty", "_law_word", "_law_planes", "_law_layers_here", "_law_order", "_law_things_here", "_law_turn", "_law_at"] ["_law_source"] (defScope s_law_things) := ⟨rfl, rfl, rfl, by decide +kernel, rfl, by decide +kernel, by decide +kernel⟩
abbrev s_law_wrong : Stmt := top 32
theorem sc_law_wrong : FnScope ["_law_things_here", "_law_rect", "_law_mode", "_law_tx", "_law_ty", "_law_word", "_law_planes", "_law_layers_here", "_law_order", "_law_x0", "_law_x1", "_law_y0", "_law_y1", "_law_name", "_law_size", "_law_sign", "_law_n"] ["_law_things_here"] (defScope s_law_wrong) := ⟨rfl, rfl, rfl, by decide +kernel, rfl, by decide +kernel, by decide +kernel⟩
abbrev s_law_pieces : Stmt := top 33
theorem sc_law_pieces : FnScope ["_law_things_here", "_law_x0", "_law_x1", "_law_y0", "_law_y1", "_law_mode", "_law_tx", "_law_ty", "_law_word", "_law_planes", "_law_layers_here", "_law_order", "_law_wide", "_law_high", "_law_tiles"] ["_law_things_here"] (defScope s_law_pieces) := ⟨rfl, rfl, rfl, by decide +kernel, rfl, by decide +kernel, by decide +kernel⟩
abbrev s_law_made : Stmt := top 34
theorem sc_law_made : FnScope ["_law_things_here", "_law_layers_here", "e"] ["_law_things_here", "_law_layers_here"] (defScope s_law_made) := ⟨rfl, rfl, rfl, by decide +kernel, rfl, by decide +kernel, by decide +kernel⟩
abbrev s_law_right : Stmt := top 35
theorem sc_law_right : FnScope ["_law_things_here", "_law_is_tuple", "_law_layers_here", "_law_wrong_here", "_law_due", "_law_made_here", "_law_told"] ["_law_things_here", "_law_is_tuple"] (defScope s_law_right) := ⟨rfl, rfl, rfl, by decide +kernel, rfl, by decide +kernel, by decide +kernel⟩
abbrev s_law : Stmt := top 36
theorem sc_law : FnScope ["_law_script", "_law_k", "_law_source", "_law_turn"] ["_law_script"] (defScope s_law) := ⟨rfl, rfl, rfl, by decide +kernel, rfl, by decide +kernel, by decide +kernel⟩
abbrev s_BadField_init : Stmt := inClass (top 2) 0
theorem sc_BadField_init : FnScope ["self", "name"] ["self", "name"] (defScope s_BadField_init) := ⟨rfl, rfl, rfl, by decide +kernel, rfl, by decide +kernel, by decide +kernel⟩
abbrev s_TooMany_init : Stmt := inClass (top 3) 0
theorem sc_TooMany_init : FnScope ["self", "most"] ["self", "most"] (defScope s_TooMany_init) := ⟨rfl, rfl, rfl, by decide +kernel, rfl, by decide +kernel, by decide +kernel⟩
abbrev s_Setting_init : Stmt := inClass (top 24) 0
theorem sc_Setting_init : FnScope ["self", "rect", "mode", "tx", "ty", "word", "planes", "layers", "order"] ["self", "rect", "mode", "tx", "ty", "word", "planes", "layers", "order"] (defScope s_Setting_init) := ⟨rfl, rfl, rfl, by decide +kernel, rfl, by decide +kernel, by decide +kernel⟩
abbrev s_Setting_rect : Stmt := inClass (top 24) 1
theorem sc_Setting_rect : FnScope ["self"] ["self"] (defScope s_Setting_rect) := ⟨rfl, rfl, rfl, by decide +kernel, rfl, by decide +kernel, by decide +kernel⟩
abbrev s_Setting_piece_count : Stmt := inClass (top 24) 2
theorem sc_Setting_piece_count : FnScope ["self", "x0", "x1", "y0", "y1", "first_x", "behind_x", "first_y", "behind_y", "tiles"] ["self"] (defScope s_Setting_piece_count) := ⟨rfl, rfl, rfl, by decide +kernel, rfl, by decide +kernel, by decide +kernel⟩
section
variable {P : Program} {w : World} {K : PySem.W.Frag} {mg : Str → Option Value} {base : Heap}
structure Txt (mg : Str → Option Value) : Prop where
  z_int : mg "int" = none
  z_len : mg "len" = none
  z_max : mg "max" = none
  z_min : mg "min" = none
  z_range : mg "range" = none
  z_isinstance : mg "isinstance" = none
  z_list : mg "list" = none
  z_tuple : mg "tuple" = none
  z_sum : mg "sum" = none
  z_sorted : mg "sorted" = none
  z_abs : mg "abs" = none
  z_str : mg "str" = none
/-! ### a draw -/
def spTake : Sp := fun vs H Q _ => ∃ (a : Addr) (m : Int), vs = [.ref a, .int m] ∧ Src H a ∧ 0 < m ∧ m < 18446744073709551616 ∧ ∀ (r : Int) (H' : Hp), 0 ≤ r → r < m → Src H' a → But a H H' → Q (.int r) H'
theorem ok_take {f : Addr} {fd : FuncData} {k : Nat} (F : Fun K "_law_take" "_law_take" s_law_take f fd) (T : Txt mg) : FnOk P w K mg base CX0 (k + 1) f fd ["_law_source", "_law_top"] spTake := by
  refine F.ok sc_law_take (fun vs H Q E h => ?_) (fun cdv A outer s H vs Q E hr h => ?_)
  · obtain ⟨a, m, rfl, _⟩ := h
    rfl
  · obtain ⟨a, m, rfl, ⟨x, y, ha, hx, hy, hy2⟩, hm, hm2, q⟩ := h
    refine ⟨_, (pss_cons (ps_if (pt_cmpR op_gt (pe_ix ix_list (pv 0) pe_int (fun _ _ => rfl)) pe_int (nomark _)) (pss_cons (ps_set (i := 2) sc_law_take.nd rfl (Or.inl rfl) (pe_op op_mod (pe_callTy call_int1 (by rfl) T.z_int PyProof.Rows.boot_int (pa_cons (pe_ix ix_list (pv 0) pe_int (fun _ _ => rfl)) pa_nil)) (pv 1)))
    (pss_cons (ps_asg (pe_op op_fdivW (pe_ix ix_list (pv 0) pe_int (fun _ _ => rfl)) (pv 1)) (pg_sub (pv 0) pe_int set_list))
    (pss_one (ps_ret (pv 2))))) pss_nil)
    (pss_cons (ps_asg (pe_op op_mod (pe_callTy call_int1 (by rfl) T.z_int PyProof.Rows.boot_int (pa_cons (pe_op op_add (pe_op op_mul (pe_ix ix_list (pv 0) pe_int (fun _ _ => rfl)) pe_int) pe_int) pa_nil)) pe_int) (pg_sub (pv 0) pe_int set_list))
    (pss_one (ps_ret (pe_op op_mod (pe_callTy call_int1 (by rfl) T.z_int PyProof.Rows.boot_int (pa_cons (pe_op op_fdiv (pe_op op_mod (pe_callTy call_int1 (by rfl) T.z_int PyProof.Rows.boot_int (pa_cons (pe_op op_mul (pe_ix ix_list (pv 0) pe_int (fun _ _ => rfl)) (pe_ix ix_list (pv 0) pe_int (fun _ _ => rfl))) pa_nil)) pe_int) pe_int) pa_nil)) (pv 1)))))), ?_⟩
    walk_at "ev"
    · refine q _ _ (Int.emod_nonneg _ (by omega)) (Int.emod_lt_of_pos _ hm) ⟨_, _, upd_same, Int.ediv_nonneg hx (by omega), hy, hy2⟩ But.upd
    · refine q _ _ (Int.emod_nonneg _ (by omega)) (Int.emod_lt_of_pos _ hm) ⟨_, _, upd_same, hx, Int.emod_nonneg _ (by omega), Int.emod_lt_of_pos _ (by omega)⟩ But.upd
/-! ### the pool of a cell -/
def spPool (K : PySem.W.Frag) : Sp := fun vs H Q _ => ∃ (a : Addr) (ns : List Int) (k : Int), vs = [.ref a, .int k] ∧ SqL K H a (ns.map V.int) ∧ 0 ≤ k ∧ k < 100 ∧ ∀ (p : Addr) (H' : Hp), H p = none → Same H H' → Src H' p → Q (.ref p) H'
theorem ok_pool {f : Addr} {fd : FuncData} {k : Nat} (F : Fun K "_law_pool" "_law_pool" s_law_pool f fd) (T : Txt mg) : FnOk P w K mg base CX0 (k + 1) f fd ["_law_script", "_law_k"] (spPool K) := by
  refine F.ok sc_law_pool (fun vs H Q E h => ?_) (fun cdv A outer s H vs Q E hr h => ?_)
  · obtain ⟨a, ns, k, rfl, _⟩ := h
    rfl
  · obtain ⟨a, ns, k, rfl, hS, hk, hk2, q⟩ := h
    refine ⟨_, (pss_cons (ps_set (i := 2) sc_law_pool.nd rfl (Or.inl rfl) pe_int)
    (pss_cons (ps_if (pt_cmpR op_lt (pv 1) (pe_callB call_len_seq (by rfl) T.z_len PySem.boot_len (pa_cons (pv 0) pa_nil)) (nomark _)) (pss_one (ps_set (i := 2) sc_law_pool.nd rfl (Or.inl rfl) (pe_ix ix_list (pv 0) (pv 1) (fun _ _ => rfl)))) pss_nil)
    (pss_cons (ps_set (i := 3) sc_law_pool.nd rfl (Or.inl rfl) (pe_callB (call_max2 rfl) (by rfl) T.z_max PyProof.Rows.boot_max (pa_cons (pe_callTy call_int1 (by rfl) T.z_int PyProof.Rows.boot_int (pa_cons (pv 2) pa_nil)) (pa_cons (pe_callTy call_int1 (by rfl) T.z_int PyProof.Rows.boot_int (pa_cons (pe_op op_sub (pe_un un_neg pe_int) (pv 2)) pa_nil)) pa_nil))))
    (pss_cons (ps_set (i := 4) sc_law_pool.nd rfl (Or.inl rfl) (pe_op op_mod (pe_callTy call_int1 (by rfl) T.z_int PyProof.Rows.boot_int (pa_cons (pe_op op_mul (pe_op op_add (pe_op op_add (pe_op op_add (pe_op op_mod (pe_callTy call_int1 (by rfl) T.z_int PyProof.Rows.boot_int (pa_cons (pv 3) pa_nil)) pe_int) (pe_op op_mul (pe_op op_mul pe_int (pv 1)) (pv 1))) (pe_op op_mul pe_int (pv 1))) pe_int) pe_int) pa_nil)) pe_int))
    (pss_one (ps_ret (pe_lst (pa_cons (pe_op op_mul (pv 3) (pe_callTy call_int1 (by rfl) T.z_int PyProof.Rows.boot_int (pa_cons (pe_cmpR op_ge (pv 3) (pe_op (op_powc (a := 10) (b := 18) (c := 1000000000000000000) ⟨by decide, by decide, by decide⟩ (by decide +kernel)) pe_int pe_int) (nomark _)) pa_nil))) (pa_cons (pv 4) pa_nil))))))))), ?_⟩
    walk_at "ev"
    · obtain ⟨z, hz⟩ := at_lt hk (by assumption)
      refine ⟨_, _, _, _, rfl, rfl, hS, hz, ?_⟩
      walk_at "ev"
      refine ⟨(by show 2 ≤ sizeLine; decide), fun p np => q p _ np (same_upd np) ⟨_, _, upd_same, pool_nn _ _, Int.emod_nonneg _ (by omega), Int.emod_lt_of_pos _ (by omega)⟩⟩
    · refine ⟨(by show 2 ≤ sizeLine; decide), fun p np => q p _ np (same_upd np) ⟨_, _, upd_same, pool_nn _ _, Int.emod_nonneg _ (by omega), Int.emod_lt_of_pos _ (by omega)⟩⟩
/-! ### one of some things -/
def spOne : Sp := fun vs H Q _ => ∃ (a t : Addr) (xs : List V), vs = [.ref a, .ref t] ∧ Src H a ∧ t ≠ a ∧ H t = some (.lst xs) ∧ xs ≠ [] ∧ xs.length ≤ 1000 ∧ ∀ (v : V) (H' : Hp), v ∈ xs → Src H' a → But a H H' → Q v H'
theorem ok_one {f : Addr} {fd : FuncData} {k : Nat} (F : Fun K "_law_one" "_law_one" s_law_one f fd) (T : Txt mg) (c_law_take : C8.Cal P w K mg base 1 "_law_take" spTake []) : FnOk P w K mg base CX0 (k + 2) f fd ["_law_source", "_law_things_here"] spOne := by
  refine F.ok sc_law_one (fun vs H Q E h => ?_) (fun cdv A outer s H vs Q E hr h => ?_)
  · obtain ⟨a, t, xs, rfl, _⟩ := h
    rfl
  · obtain ⟨a, t, xs, rfl, ha, hta, ht, hx, hl, q⟩ := h
    refine ⟨_, (pss_one (ps_ret (pe_ix ix_list (pv 1) (C8.pe_c c_law_take hr (by omega) (by rfl) (pa_cons (pv 0) (pa_cons (pe_callB call_len_seq (by rfl) T.z_len PySem.boot_len (pa_cons (pv 1) pa_nil)) pa_nil))) (fun _ _ => rfl)))), ?_⟩
    walk_at "ev"
    have hp : 0 < xs.length := List.length_pos_iff.mpr hx
    refine ⟨ha, (by omega), (by omega), fun r H' h0 h1 s1 u1 => ?_⟩
    obtain ⟨v, hv, hm⟩ := at_mem (xs := xs) h0 h1
    exact ⟨_, _, _, _, rfl, rfl, .inl (.inl (u1.at hta ht)), hv, q v H' hm s1 u1⟩
/-! ### the fields, one by one -/
/-- a word: how often a sign stands in it -/
def cntS (z : Str) (c : Nat) : Int := Txt.count z ⟨#[c]⟩
def RimOk (n : Int) : Prop := -1073741824 ≤ n ∧ n ≤ 1073741824
def spRim : Sp := fun vs H Q _ => ∃ (n : Int), vs = [.int n] ∧ ∀ b : Bool, (b = true ↔ RimOk n) → Q (.bl b) H
theorem ok_rim {f : Addr} {fd : FuncData} {k : Nat} {t : Tok} (F : Fun K "rim_is_right" "rim_is_right" s_rim_is_right f fd) (T : Txt mg) (hF : mg "FARTHEST_RIM" = some (.int 1073741824 t)) : FnOk P w K mg base CX0 (k + 1) f fd ["rim"] spRim := by
  refine F.ok sc_rim_is_right (fun vs H Q E h => ?_) (fun cdv A outer s H vs Q E hr h => ?_)
  · obtain ⟨n, rfl, _⟩ := h
    rfl
  · obtain ⟨n, rfl, q⟩ := h
    refine ⟨_, (pss_one (ps_ret (pe_cmpR op_le (pe_callB call_abs (by rfl) T.z_abs PyProof.Rows.boot_abs (pa_cons (pv 0) pa_nil)) (pe_glob (v := .int 1073741824) (by rfl) hF ⟨_, rfl⟩) (nomark _)))), ?_⟩
    walk_at "ev"
    refine q _ ?_
    unfold RimOk
    rw [decide_eq_true_iff]
    split <;> omega
def SideOk (x y : Int) : Prop := 1 ≤ y - x ∧ y - x ≤ 32 ∧ RimOk y
def spSide : Sp := fun vs H Q _ => ∃ (x y : Int), vs = [.int x, .int y] ∧ ∀ b : Bool, (b = true ↔ SideOk x y) → Q (.bl b) H
theorem ok_side {f : Addr} {fd : FuncData} {k : Nat} {t : Tok} (F : Fun K "side_is_right" "side_is_right" s_side_is_right f fd) (T : Txt mg) (hM : mg "MOST_SIDE" = some (.int 32 t)) (c_rim_is_right : C8.Cal P w K mg base 1 "rim_is_right" spRim []) : FnOk P w K mg base CX0 (k + 2) f fd ["start", "stop"] spSide := by
  refine F.ok sc_side_is_right (fun vs H Q E h => ?_) (fun cdv A outer s H vs Q E hr h => ?_)
  · obtain ⟨x, y, rfl, _⟩ := h
    rfl
  · obtain ⟨x, y, rfl, q⟩ := h
    refine ⟨_, (pss_one (ps_ret (pe_and (pe_chain op_le op_le pe_int (pe_op op_sub (pv 1) (pv 0)) (pe_glob (v := .int 32) (by rfl) hM ⟨_, rfl⟩)) (pe_one (C8.pe_c c_rim_is_right hr (by omega) (by rfl) (pa_cons (pv 1) pa_nil)))))), ?_⟩
    walk_at "ev"
    · rename_i a1 a2
      intro b hb
      exact q b ⟨fun z => ⟨by omega, by omega, hb.mp z⟩, fun z => hb.mpr z.2.2⟩
    · rename_i a1 a2
      exact q false ⟨(fun z => nomatch z), fun z => absurd z.2.1 (by omega)⟩
    · rename_i a1
      exact q false ⟨(fun z => nomatch z), fun z => absurd z.1 (by omega)⟩
def WordOk (z : Str) (tx ty : Int) : Prop := cntS z 88 + cntS z 89 = z.length ∧ cntS z 88 ≤ tx ∧ cntS z 89 ≤ ty
def spWordOk : Sp := fun vs H Q _ => ∃ (z : Str) (tx ty : Int), vs = [.str z, .int tx, .int ty] ∧ z.length ≤ 1000 ∧ ∀ b : Bool, (b = true ↔ WordOk z tx ty) → Q (.bl b) H
theorem ok_word {f : Addr} {fd : FuncData} {k : Nat} (F : Fun K "word_is_right" "word_is_right" s_word_is_right f fd) (T : Txt mg) : FnOk P w K mg base CX0 (k + 1) f fd ["word", "tx", "ty"] spWordOk := by
  refine F.ok sc_word_is_right (fun vs H Q E h => ?_) (fun cdv A outer s H vs Q E hr h => ?_)
  · obtain ⟨z, tx, ty, rfl, _⟩ := h
    rfl
  · obtain ⟨z, tx, ty, rfl, hz, q⟩ := h
    refine ⟨_, (pss_cons (ps_set (i := 3) sc_word_is_right.nd rfl (Or.inl rfl) (pe_m1 PySem.F.slot_str_count PySem.F.type_str_count mt_count (pv 0) pe_str))
    (pss_cons (ps_set (i := 4) sc_word_is_right.nd rfl (Or.inl rfl) (pe_m1 PySem.F.slot_str_count PySem.F.type_str_count mt_count (pv 0) pe_str))
    (pss_one (ps_ret (pe_and (pe_cmpR op_eq (pe_op op_add (pv 3) (pv 4)) (pe_callB call_len_str (by rfl) T.z_len PySem.boot_len (pa_cons (pv 0) pa_nil)) (nomark _)) (pe_and (pe_cmpR op_le (pv 3) (pv 1) (nomark _)) (pe_one (pe_cmpR op_le (pv 4) (pv 2) (nomark _))))))))), ?_⟩
    have eX : (Str.ofString "X") = (⟨#[88]⟩ : Str) := by decide +kernel
    have eY : (Str.ofString "Y") = (⟨#[89]⟩ : Str) := by decide +kernel
    walk_at "ev"
    refine ⟨⟨_, rfl⟩, _, _, rfl, rfl, ?_⟩
    walk_at "ev"
    refine ⟨⟨_, rfl⟩, _, _, rfl, rfl, ?_⟩
    rw [eX, eY]
    have key : ∀ b : Bool, (b = true ↔ (Txt.count z ⟨#[88]⟩ + Txt.count z ⟨#[89]⟩ = z.length ∧ Txt.count z ⟨#[88]⟩ ≤ tx ∧ Txt.count z ⟨#[89]⟩ ≤ ty)) → Q (.bl b) H := fun b hb => q b hb
    generalize Txt.count z ⟨#[88]⟩ = n1 at *
    generalize Txt.count z ⟨#[89]⟩ = n2 at *
    walk_at "ev"
    refine ⟨Nat.le_of_lt (small1000 hz), ?_⟩
    walk_at "ev"
    · rename_i a1 a2
      exact key _ ⟨fun z => ⟨a1, a2, of_decide_eq_true z⟩, fun z => decide_eq_true z.2.2⟩
    · rename_i a1 a2
      exact key false ⟨(fun z => nomatch z), fun z => absurd z.2.1 a2⟩
    · rename_i a1
      exact key false ⟨(fun z => nomatch z), fun z => absurd z.1 a1⟩
def ordOk : List Str := ["BCLT", "LBTC", "TLCB", "TCBL", "CLTB"]
def ordNo : List Str := ["", "BCL", "BCLLT", "bclt", "BCLTB", "BCLX", "BBCL"]
theorem kit_ss {K : PySem.W.Frag} : PySem.W.kitOne K (.type "str") (.type "str") = some true := kit_ty (by decide +kernel)
def mkS (c : Nat) : Str := ⟨#[c]⟩
theorem rising_nat : ∀ (p : Nat) (ns : List Nat), risingS (mkS p) (ns.map mkS) = true → (p :: ns).Pairwise (· ≤ ·)
  | p, [], _ => List.pairwise_singleton _ _
  | p, n :: r, h => by
    have h2 : (!ltCps (mkS n).cps.toList (mkS p).cps.toList && risingS (mkS n) (r.map mkS)) = true := h
    rw [Bool.and_eq_true] at h2
    have ih := rising_nat n r h2.2
    have hpn : p ≤ n := by
      have h2' : (!ltCps [n] [p]) = true := h2.1
      have h3 : ltCps [n] [p] = false := by simpa using h2'
      have h4 : ltCps [n] [p] = (decide (n < p) || (n == p && ltCps [] [])) := rfl
      rw [h4] at h3
      have h5 : decide (n < p) = false := by
        cases hd : decide (n < p) with
        | true => rw [hd] at h3; cases h3
        | false => rfl
      have := of_decide_eq_false h5
      omega
    refine List.pairwise_cons.mpr ⟨fun y my => ?_, ih⟩
    rcases List.mem_cons.mp my with rfl | my
    · exact hpn
    · exact Nat.le_trans hpn (List.rel_of_pairwise_cons ih my)
theorem sorted_nat {ns : List Nat} (h : sortedS (ns.map mkS) = true) : ns.Pairwise (· ≤ ·) := by
  cases ns with
  | nil => exact List.Pairwise.nil
  | cons n r => exact rising_nat n r h
theorem nat_one : ∀ {l m : List Nat}, l.Pairwise (· ≤ ·) → m.Pairwise (· ≤ ·) → l.Perm m → l = m
  | [], m, _, _, p => (List.nil_perm.mp p).symm
  | a :: l, [], _, _, p => absurd p.length_eq (by simp)
  | a :: l, b :: m, h1, h2, p => by
    have e : a = b := by
      rcases List.mem_cons.mp (p.symm.subset List.mem_cons_self : b ∈ a :: l) with z | z
      · exact z.symm
      · rcases List.mem_cons.mp (p.subset List.mem_cons_self : a ∈ b :: m) with y | y
        · exact y
        · exact Nat.le_antisymm (List.rel_of_pairwise_cons h1 z) (List.rel_of_pairwise_cons h2 y)
    subst e
    rw [nat_one (List.pairwise_cons.mp h1).2 (List.pairwise_cons.mp h2).2 (List.Perm.cons_inv p)]
theorem mk_all : ∀ (ys : List Str), (∀ y ∈ ys, ∃ c, y = mkS c) → ∃ ns, ys = List.map mkS ns
  | [], _ => ⟨[], rfl⟩
  | y :: r, h => by
    obtain ⟨c, rfl⟩ := h y List.mem_cons_self
    obtain ⟨ns, rfl⟩ := mk_all r fun x m => h x (List.mem_cons_of_mem _ m)
    exact ⟨c :: ns, rfl⟩
theorem back_mk (ns : List Nat) : (ns.map mkS).map (fun s : Str => s.cps.toList.headD 0) = ns := by
  rw [List.map_map]
  conv => rhs; rw [← List.map_id ns]
  exact List.map_congr_left fun c _ => rfl
/-- the sorted signs of a text, told by a list that is sorted -/
theorem sorted_is {z : Str} {ys : List Str} (hp : ys.Perm (signs z)) (hs : sortedS ys = true) {m : List Nat} (hm : m.Pairwise (· ≤ ·)) (hz : z.cps.toList.Perm m) : ys = m.map mkS := by
  obtain ⟨ns, rfl⟩ := mk_all ys fun y my => by
    obtain ⟨c, _, rfl⟩ := List.mem_map.mp (hp.subset my)
    exact ⟨c, rfl⟩
  have p2 : ns.Perm z.cps.toList := by
    have := hp.map (fun s : Str => s.cps.toList.headD 0)
    rw [back_mk] at this
    have e : (signs z).map (fun s : Str => s.cps.toList.headD 0) = z.cps.toList := back_mk _
    rw [e] at this
    exact this
  rw [nat_one (sorted_nat hs) hm (p2.trans hz)]
/-- a sorted list of few numbers -/
def insN (a : Nat) : List Nat → List Nat
  | [] => [a]
  | b :: r => if a ≤ b then a :: b :: r else b :: insN a r
def srtN (l : List Nat) : List Nat := l.foldr insN []
theorem insN_perm (a : Nat) : ∀ l : List Nat, (insN a l).Perm (a :: l)
  | [] => .refl _
  | b :: r => by
    unfold insN
    split
    · exact .refl _
    · exact ((insN_perm a r).cons b).trans (.swap a b r)
theorem srtN_perm : ∀ l : List Nat, (srtN l).Perm l
  | [] => .refl _
  | a :: l => (insN_perm a (srtN l)).trans ((srtN_perm l).cons a)
theorem insN_sorted (a : Nat) : ∀ {l : List Nat}, l.Pairwise (· ≤ ·) → (insN a l).Pairwise (· ≤ ·)
  | [], _ => List.pairwise_singleton _ _
  | b :: r, h => by
    unfold insN
    split
    · rename_i c
      refine List.pairwise_cons.mpr ⟨fun y my => ?_, h⟩
      rcases List.mem_cons.mp my with rfl | my
      · exact c
      · exact Nat.le_trans c (List.rel_of_pairwise_cons h my)
    · rename_i c
      refine List.pairwise_cons.mpr ⟨fun y my => ?_, insN_sorted a (List.pairwise_cons.mp h).2⟩
      rcases List.mem_cons.mp ((insN_perm a r).subset my) with rfl | my
      · omega
      · exact List.rel_of_pairwise_cons h my
theorem srtN_sorted : ∀ l : List Nat, (srtN l).Pairwise (· ≤ ·)
  | [] => List.Pairwise.nil
  | a :: l => insN_sorted a (srtN_sorted l)
/-- the signs of a text in order -/
def ordS (z : Str) : List Str := (srtN z.cps.toList).map mkS
theorem sorted_ordS {z : Str} {ys : List Str} (hp : ys.Perm (signs z)) (hs : sortedS ys = true) : ys = ordS z := sorted_is hp hs (srtN_sorted _) (srtN_perm _).symm
theorem ord_yes : ∀ z ∈ ordOk, ordS z = [("B" : Str), "C", "L", "T"] := by decide +kernel
theorem ord_no : ∀ z ∈ ordNo, PyData.eqv (.list ((ordS z).map PyData.str)) (.list [.str "B", .str "C", .str "L", .str "T"]) = false ∧ SeqAt.shaped (.list ((ordS z).map PyData.str)) = true ∧ z ∉ ordOk := by decide +kernel
theorem ord_few : ∀ z ∈ ordOk ++ ordNo, z.cps.size < 64 ∧ (ordS z).length ≤ 10 := by decide +kernel
theorem dpall_strs {K : PySem.W.Frag} {H : Hp} : ∀ ss : List Str, DpAll K H (ss.map V.str) (ss.map PyData.str)
  | [] => .nil
  | s :: r => .cons (.str s) (dpall_strs r)
theorem dp_strs {K : PySem.W.Frag} {H : Hp} {p : Addr} {ss : List Str} (h : SqL K H p (ss.map V.str)) : Dp K H (.ref p) (.list (ss.map PyData.str)) := .lst h (dpall_strs ss)
theorem sh_keys : SeqAt.shaped (.list [.str "B", .str "C", .str "L", .str "T"]) = true := by decide +kernel
def spOrder : Sp := fun vs H Q _ => ∃ (z : Str), vs = [.str z] ∧ z ∈ ordOk ++ ordNo ∧ ∀ (b : Bool) (H' : Hp), Same H H' → (b = true ↔ z ∈ ordOk) → Q (.bl b) H'
theorem ok_order {f KA : Addr} {fd : FuncData} {k : Nat} (F : Fun K "order_is_right" "order_is_right" s_order_is_right f fd) (T : Txt mg) (hK : mg "KEYS" = some (.ref KA)) (hKL : ∀ H : Hp, SqL K H KA [.str "B", .str "C", .str "L", .str "T"]) : FnOk P w K mg base CX0 (k + 1) f fd ["order"] spOrder := by
  refine F.ok sc_order_is_right (fun vs H Q E h => ?_) (fun cdv A outer s H vs Q E hr h => ?_)
  · obtain ⟨z, rfl, _⟩ := h
    rfl
  · obtain ⟨z, rfl, hz, q⟩ := h
    have hu := hr.units
    refine ⟨_, (pss_one (ps_ret (pe_and (pe_callB call_isi (by rfl) T.z_isinstance PyProof.Rows.boot_isinstance (pa_cons (pv 0) (pa_cons (pe_bltn (v := .ty "str") (by rfl) T.z_str PyProof.Rows.boot_str rfl) pa_nil))) (pe_one (pe_cmpR (op_eqD hu) (pe_callB (call_sortedT rfl) (by rfl) T.z_sorted PyProof.Rows.boot_sorted (pa_cons (pv 0) pa_nil)) (pe_glob (v := .ref KA) (by rfl) hK rfl) (nomark _)))))), ?_⟩
    walk_at "ev"
    refine ⟨_, _, _, _, _, rfl, .ty _, .base (.str _), kit_ss, ?_⟩
    walk_at "ev"
    refine ⟨(ord_few z hz).1, fun ys p hp hs np => ?_⟩
    obtain rfl := sorted_ordS hp hs
    have dl : Dp K (upd H p (.lst ((ordS z).map V.str))) (.ref p) (.list ((ordS z).map PyData.str)) := dp_strs (.inl (.inl upd_same))
    have dk : Dp K (upd H p (.lst ((ordS z).map V.str))) (.ref KA) (.list [.str "B", .str "C", .str "L", .str "T"]) := dp_strs (ss := ["B", "C", "L", "T"]) (hKL _)
    rcases List.mem_append.mp hz with hy | hn
    · have sm := same_upd (o := .lst ((ordS z).map V.str)) np
      rw [ord_yes z hy] at dl dk sm ⊢
      exact q_eqS dl dk sh_keys (q true _ sm ⟨fun _ => hy, fun _ => rfl⟩)
    · obtain ⟨h1, h2, h3⟩ := ord_no z hn
      refine ⟨_, _, dl, dk, h2, sh_keys, ?_⟩
      rw [h1]
      exact q false _ (same_upd np) ⟨(fun z => nomatch z), fun z => absurd z h3⟩
def LayOk (ls : List Int) (p : Int) : Prop := 1 ≤ ls.length ∧ ls.length ≤ 6 ∧ (∀ n ∈ ls, 1 ≤ n) ∧ ls.sum = 3 * p
def spLayOk (K : PySem.W.Frag) : Sp := fun vs H Q _ => ∃ (a : Addr) (ls : List Int) (p : Int), vs = [.ref a, .int p] ∧ SqS K H a (ls.map V.int) ∧ -1000 ≤ p ∧ p ≤ 1000 ∧ ∀ b : Bool, (b = true ↔ LayOk ls p) → Q (.bl b) H
theorem ok_layok {f : Addr} {fd : FuncData} {k : Nat} {t u : Tok} (F : Fun K "layers_are_right" "layers_are_right" s_layers_are_right f fd) (T : Txt mg) (hM : mg "MOST_LAYERS" = some (.int 6 t)) (hP : mg "PASSES" = some (.int 3 u)) : FnOk P w K mg base CX0 (k + 1) f fd ["layers", "planes"] (spLayOk K) := by
  refine F.ok sc_layers_are_right (fun vs H Q E h => ?_) (fun cdv A outer s H vs Q E hr h => ?_)
  · obtain ⟨a, ls, p, rfl, _⟩ := h
    rfl
  · obtain ⟨a, ls, p, rfl, hs, p1, p2, q⟩ := h
    have hu := hr.units
    refine ⟨_, (pss_cons (ps_if (pt_not (pt_chain op_le op_le pe_int (pe_callB call_len_seq (by rfl) T.z_len PySem.boot_len (pa_cons (pv 0) pa_nil)) (pe_glob (v := .int 6) (by rfl) hM ⟨_, rfl⟩))) (pss_one (ps_ret pe_bl)) pss_nil)
    (pss_one (ps_ret (pe_and (pe_cmpR op_ge (pe_callB (cr_minT rfl) (by rfl) T.z_min PyProof.Rows.boot_min (pa_cons (pv 0) pa_nil)) pe_int (nomark _)) (pe_one (pe_cmpR op_eq (pe_callB (cr_sumS rfl) (by rfl) T.z_sum PyProof.Rows.boot_sum (pa_cons (pv 0) pa_nil)) (pe_op op_mul (pe_glob (v := .int 3) (by rfl) hP ⟨_, rfl⟩) (pv 1)) (nomark _))))))), ?_⟩
    walk_at "ev"
    refine ⟨a, _, rfl, hs, ?_⟩
    rw [List.length_map]
    walk_at "ev"
    · rename_i a1 a2
      exact q false ⟨(fun z => nomatch z), fun e => absurd e.2.1 (by omega)⟩
    · rename_i a1 a2
      refine ⟨a, ls, rfl, hs, by omega, fun m mm hm => ?_⟩
      walk_at "ev"
      · rename_i a3
        refine ⟨a, ls, rfl, hs, ?_⟩
        walk_at "ev"
        refine q _ ?_
        rw [decide_eq_true_iff]
        exact ⟨fun e => ⟨by omega, by omega, fun n mn => Int.le_trans a3 (hm n mn), V.int.inj e⟩, fun e => congrArg V.int e.2.2.2⟩
      · rename_i a3
        exact q false ⟨(fun z => nomatch z), fun e => absurd (e.2.2.1 m mm) (by omega)⟩
    · rename_i a1
      exact q false ⟨(fun z => nomatch z), fun e => absurd e.1 (by omega)⟩
def spTile : Sp := fun vs H Q _ => ∃ (x y : Int) (t : Nat), vs = [.int x, .int y, .int t] ∧ ∀ (q : Addr) (H' : Hp), H q = none → Same H H' → H' q = some (.tup [.int (x / 2 ^ t), .int ((y - 1) / 2 ^ t + 1)]) → Q (.ref q) H'
theorem ok_tile {f : Addr} {fd : FuncData} {k : Nat} (F : Fun K "tile_span" "tile_span" s_tile_span f fd) : FnOk P w K mg base CX0 (k + 1) f fd ["start", "stop", "tiling"] spTile := by
  refine F.ok sc_tile_span (fun vs H Q E h => ?_) (fun cdv A outer s H vs Q E hr h => ?_)
  · obtain ⟨x, y, t, rfl, _⟩ := h
    rfl
  · obtain ⟨x, y, t, rfl, q⟩ := h
    refine ⟨_, (pss_one (ps_ret (pe_tup (pa_cons (pe_op op_shr (pv 0) (pv 2)) (pa_cons (pe_op op_add (pe_op op_shr (pe_op op_sub (pv 1) pe_int) (pv 2)) pe_int) pa_nil))))), ?_⟩
    walk_at "ev"
    rw [Int.toNat_natCast]
    refine ⟨by show 2 ≤ sizeLine; decide, fun r nr => q r _ nr (same_upd nr) upd_same⟩
def spChan : Sp := fun vs H Q _ => ∃ (m : Int), vs = [.int m] ∧ Q (.int (if m = 0 then 1 else 3)) H
theorem ok_chan {f : Addr} {fd : FuncData} {k : Nat} (F : Fun K "channel_count" "channel_count" s_channel_count f fd) : FnOk P w K mg base CX0 (k + 1) f fd ["mode"] spChan := by
  refine F.ok sc_channel_count (fun vs H Q E h => ?_) (fun cdv A outer s H vs Q E hr h => ?_)
  · obtain ⟨m, rfl, _⟩ := h
    rfl
  · obtain ⟨m, rfl, q⟩ := h
    refine ⟨_, (pss_one (ps_ret (pe_ifExp (pt_cmpR op_eq (pv 0) pe_int (nomark _)) pe_int pe_int))), ?_⟩
    walk_at "ev"
    · rename_i a1
      rw [if_pos a1] at q
      exact q
    · rename_i a1
      rw [if_neg a1] at q
      exact q
/-! ### all fields -/
structure Th where
  x0 : Int
  x1 : Int
  y0 : Int
  y1 : Int
  mode : Int
  tx : Int
  ty : Int
  word : Str
  planes : Int
  layers : List Int
  order : Str
instance (n : Int) : Decidable (RimOk n) := by unfold RimOk; infer_instance
instance (x y : Int) : Decidable (SideOk x y) := by unfold SideOk; infer_instance
instance (z : Str) (a b : Int) : Decidable (WordOk z a b) := by unfold WordOk; infer_instance
instance (l : List Int) (p : Int) : Decidable (LayOk l p) := by unfold LayOk; infer_instance
/-- the first field that is wrong -/
def wrongOf (t : Th) : Option Str :=
  if ¬ RimOk t.x0 then some "x0" else if ¬ SideOk t.x0 t.x1 then some "width" else if ¬ RimOk t.y0 then some "y0" else if ¬ SideOk t.y0 t.y1 then some "height" else
  if ¬ (0 ≤ t.mode ∧ t.mode ≤ 2) then some "mode" else if ¬ (0 ≤ t.tx ∧ t.tx ≤ 5) then some "tx" else if ¬ (0 ≤ t.ty ∧ t.ty ≤ 5) then some "ty" else if ¬ WordOk t.word t.tx t.ty then some "word" else
  if ¬ (1 ≤ t.planes ∧ t.planes ≤ 20) then some "planes" else if ¬ LayOk t.layers t.planes then some "layers" else if ¬ t.order ∈ ordOk then some "order" else none
structure ThW (t : Th) : Prop where
  word : t.word.length ≤ 1000
  p1 : -1000 ≤ t.planes
  p2 : t.planes ≤ 1000
  order : t.order ∈ ordOk ++ ordNo
  few : t.layers.length ≤ 100
def FldE (BF : Addr) (n : Str) (H : Hp) (E : XK) : Prop := ∀ (dd : Addr) (H' : Hp), H dd = none → Same H H' → H' dd = some (.xd [("name", .str n)]) → E (.ref BF) (some dd) H'
theorem ok_badfield {f C : Addr} {fd : FuncData} {k : Nat} (F : Fun K "__init__" "BadField.__init__" s_BadField_init f fd) (T : OexC K C) (n : PySem.W.findIn K (.ref C) "name" = some none) : FnOk P w K mg base CX0 (k + 1) f fd ["self", "name"] (spIni C "name") := by
  refine F.ok sc_BadField_init (fun vs H Q E h => ?_) (fun cdv A outer s H vs Q E hr h => ?_)
  · obtain ⟨a, v, rfl, _⟩ := h
    rfl
  · obtain ⟨a, v, rfl, ha, q⟩ := h
    refine ⟨_, (pss_one (ps_ost (pv 0) (pv 1))), ?_⟩
    walk_at "ev"
    exact ⟨a, C, rfl, T, n, .inl ⟨ha, q⟩⟩
theorem ok_toomany {f C : Addr} {fd : FuncData} {k : Nat} (F : Fun K "__init__" "TooMany.__init__" s_TooMany_init f fd) (T : OexC K C) (n : PySem.W.findIn K (.ref C) "most" = some none) : FnOk P w K mg base CX0 (k + 1) f fd ["self", "most"] (spIni C "most") := by
  refine F.ok sc_TooMany_init (fun vs H Q E h => ?_) (fun cdv A outer s H vs Q E hr h => ?_)
  · obtain ⟨a, v, rfl, _⟩ := h
    rfl
  · obtain ⟨a, v, rfl, ha, q⟩ := h
    refine ⟨_, (pss_one (ps_ost (pv 0) (pv 1))), ?_⟩
    walk_at "ev"
    exact ⟨a, C, rfl, T, n, .inl ⟨ha, q⟩⟩
def spCheckF (K : PySem.W.Frag) (BF : Addr) : Sp := fun vs H Q E => ∃ (rp lp : Addr) (t : Th), vs = [.ref rp, .int t.mode, .int t.tx, .int t.ty, .str t.word, .int t.planes, .ref lp, .str t.order] ∧ SqT K H rp [.int t.x0, .int t.x1, .int t.y0, .int t.y1] ∧ SqS K H lp (t.layers.map V.int) ∧ ThW t ∧ (wrongOf t = none → ∀ H', Same H H' → Q .non H') ∧ (∀ n, wrongOf t = some n → FldE BF n H E)
theorem ok_checkf {f BF : Addr} {fd : FuncData} {k : Nat} {t1 t2 t3 : Tok} (F : Fun K "check_fields" "check_fields" s_check_fields f fd) (T : Txt mg) (x_BadField : XDef P w K mg base "BadField" "name" BF) (hMM : mg "MOST_MODE" = some (.int 2 t1)) (hMT : mg "MOST_TILING" = some (.int 5 t2)) (hMP : mg "MOST_PLANES" = some (.int 20 t3))
    (c_rim_is_right : C8.Cal P w K mg base 1 "rim_is_right" spRim []) (c_side_is_right : C8.Cal P w K mg base 2 "side_is_right" spSide []) (c_word_is_right : C8.Cal P w K mg base 1 "word_is_right" spWordOk []) (c_layers_are_right : C8.Cal P w K mg base 1 "layers_are_right" (spLayOk K) []) (c_order_is_right : C8.Cal P w K mg base 1 "order_is_right" spOrder []) :
    FnOk P w K mg base (L2.CX P w) (k + 4) f fd ["rect", "mode", "tx", "ty", "word", "planes", "layers", "order"] (spCheckF K BF) := by
  refine F.okX sc_check_fields (fun vs H Q E h => ?_) (fun cdv A outer s H vs Q E hr h => ?_)
  · obtain ⟨rp, lp, t, rfl, _⟩ := h
    rfl
  · obtain ⟨rp, lp, t, rfl, hrp, hlp, hw, q, x⟩ := h
    obtain ⟨x0, x1, y0, y1, mode, tx, ty, word, planes, layers, order⟩ := t
    obtain ⟨w1, w2, w3, w4, w5⟩ := hw
    dsimp only at *
    refine ⟨_, (pss_cons (ps_asg (pv 0) (pg_tup rfl (pgs_cons (pg_name (i := 8) sc_check_fields.nd rfl (Or.inl rfl)) (pgs_cons (pg_name (i := 9) sc_check_fields.nd rfl (Or.inl rfl)) (pgs_cons (pg_name (i := 10) sc_check_fields.nd rfl (Or.inl rfl)) (pgs_cons (pg_name (i := 11) sc_check_fields.nd rfl (Or.inl rfl)) pgs_nil))))))
    (pss_cons (ps_if (pt_not (pt_val (C8.pe_c c_rim_is_right hr (by omega) (by rfl) (pa_cons (pv 8) pa_nil)))) (pss_one (ps_raise rfl (takes_of rfl rfl rfl rfl) (pmk_x x_BadField hr (by omega) (by rfl) pe_str))) pss_nil)
    (pss_cons (ps_if (pt_not (pt_val (C8.pe_c c_side_is_right hr (by omega) (by rfl) (pa_cons (pv 8) (pa_cons (pv 9) pa_nil))))) (pss_one (ps_raise rfl (takes_of rfl rfl rfl rfl) (pmk_x x_BadField hr (by omega) (by rfl) pe_str))) pss_nil)
    (pss_cons (ps_if (pt_not (pt_val (C8.pe_c c_rim_is_right hr (by omega) (by rfl) (pa_cons (pv 10) pa_nil)))) (pss_one (ps_raise rfl (takes_of rfl rfl rfl rfl) (pmk_x x_BadField hr (by omega) (by rfl) pe_str))) pss_nil)
    (pss_cons (ps_if (pt_not (pt_val (C8.pe_c c_side_is_right hr (by omega) (by rfl) (pa_cons (pv 10) (pa_cons (pv 11) pa_nil))))) (pss_one (ps_raise rfl (takes_of rfl rfl rfl rfl) (pmk_x x_BadField hr (by omega) (by rfl) pe_str))) pss_nil)
    (pss_cons (ps_if (pt_not (pt_chain op_le op_le pe_int (pv 1) (pe_glob (v := .int 2) (by rfl) hMM ⟨_, rfl⟩))) (pss_one (ps_raise rfl (takes_of rfl rfl rfl rfl) (pmk_x x_BadField hr (by omega) (by rfl) pe_str))) pss_nil)
    (pss_cons (ps_if (pt_not (pt_chain op_le op_le pe_int (pv 2) (pe_glob (v := .int 5) (by rfl) hMT ⟨_, rfl⟩))) (pss_one (ps_raise rfl (takes_of rfl rfl rfl rfl) (pmk_x x_BadField hr (by omega) (by rfl) pe_str))) pss_nil)
    (pss_cons (ps_if (pt_not (pt_chain op_le op_le pe_int (pv 3) (pe_glob (v := .int 5) (by rfl) hMT ⟨_, rfl⟩))) (pss_one (ps_raise rfl (takes_of rfl rfl rfl rfl) (pmk_x x_BadField hr (by omega) (by rfl) pe_str))) pss_nil)
    (pss_cons (ps_if (pt_not (pt_val (C8.pe_c c_word_is_right hr (by omega) (by rfl) (pa_cons (pv 4) (pa_cons (pv 2) (pa_cons (pv 3) pa_nil)))))) (pss_one (ps_raise rfl (takes_of rfl rfl rfl rfl) (pmk_x x_BadField hr (by omega) (by rfl) pe_str))) pss_nil)
    (pss_cons (ps_if (pt_not (pt_chain op_le op_le pe_int (pv 5) (pe_glob (v := .int 20) (by rfl) hMP ⟨_, rfl⟩))) (pss_one (ps_raise rfl (takes_of rfl rfl rfl rfl) (pmk_x x_BadField hr (by omega) (by rfl) pe_str))) pss_nil)
    (pss_cons (ps_if (pt_not (pt_val (C8.pe_c c_layers_are_right hr (by omega) (by rfl) (pa_cons (pv 6) (pa_cons (pv 5) pa_nil))))) (pss_one (ps_raise rfl (takes_of rfl rfl rfl rfl) (pmk_x x_BadField hr (by omega) (by rfl) pe_str))) pss_nil)
    (pss_one (ps_if (pt_not (pt_val (C8.pe_c c_order_is_right hr (by omega) (by rfl) (pa_cons (pv 7) pa_nil)))) (pss_one (ps_raise rfl (takes_of rfl rfl rfl rfl) (pmk_x x_BadField hr (by omega) (by rfl) pe_str))) pss_nil))))))))))))), ?_⟩
    walk_at "ev"
    refine ⟨rp, _, rfl, hrp, rfl, ?_⟩
    walk_at "ev"
    refine fun b hb => ?_
    by_cases c1 : RimOk x0
    case neg =>
      obtain rfl : b = false := by
        cases b with
        | false => rfl
        | true => exact absurd (hb.mp rfl) c1
      walk_at "ev"
      exact mkx_in fun dd G nd sg eg => x "x0" (by unfold wrongOf; dsimp only; rw [if_pos c1]) dd G nd sg eg
    obtain rfl : b = true := hb.mpr c1
    clear hb
    walk_at "ev"
    refine fun b hb => ?_
    by_cases c2 : SideOk x0 x1
    case neg =>
      obtain rfl : b = false := by
        cases b with
        | false => rfl
        | true => exact absurd (hb.mp rfl) c2
      walk_at "ev"
      exact mkx_in fun dd G nd sg eg => x "width" (by unfold wrongOf; dsimp only; rw [if_neg (fun z => z c1), if_pos c2]) dd G nd sg eg
    obtain rfl : b = true := hb.mpr c2
    clear hb
    walk_at "ev"
    refine fun b hb => ?_
    by_cases c3 : RimOk y0
    case neg =>
      obtain rfl : b = false := by
        cases b with
        | false => rfl
        | true => exact absurd (hb.mp rfl) c3
      walk_at "ev"
      exact mkx_in fun dd G nd sg eg => x "y0" (by unfold wrongOf; dsimp only; rw [if_neg (fun z => z c1), if_neg (fun z => z c2), if_pos c3]) dd G nd sg eg
    obtain rfl : b = true := hb.mpr c3
    clear hb
    walk_at "ev"
    refine fun b hb => ?_
    by_cases c4 : SideOk y0 y1
    case neg =>
      obtain rfl : b = false := by
        cases b with
        | false => rfl
        | true => exact absurd (hb.mp rfl) c4
      walk_at "ev"
      exact mkx_in fun dd G nd sg eg => x "height" (by unfold wrongOf; dsimp only; rw [if_neg (fun z => z c1), if_neg (fun z => z c2), if_neg (fun z => z c3), if_pos c4]) dd G nd sg eg
    obtain rfl : b = true := hb.mpr c4
    clear hb
    by_cases c5 : 0 ≤ mode ∧ mode ≤ 2
    case neg =>
      walk_at "ev"
      all_goals exact mkx_in fun dd G nd sg eg => x "mode" (by unfold wrongOf; dsimp only; rw [if_neg (fun z => z c1), if_neg (fun z => z c2), if_neg (fun z => z c3), if_neg (fun z => z c4), if_pos c5]) dd G nd sg eg
    by_cases c6 : 0 ≤ tx ∧ tx ≤ 5
    case neg =>
      walk_at "ev"
      all_goals exact mkx_in fun dd G nd sg eg => x "tx" (by unfold wrongOf; dsimp only; rw [if_neg (fun z => z c1), if_neg (fun z => z c2), if_neg (fun z => z c3), if_neg (fun z => z c4), if_neg (fun z => z c5), if_pos c6]) dd G nd sg eg
    by_cases c7 : 0 ≤ ty ∧ ty ≤ 5
    case neg =>
      walk_at "ev"
      all_goals exact mkx_in fun dd G nd sg eg => x "ty" (by unfold wrongOf; dsimp only; rw [if_neg (fun z => z c1), if_neg (fun z => z c2), if_neg (fun z => z c3), if_neg (fun z => z c4), if_neg (fun z => z c5), if_neg (fun z => z c6), if_pos c7]) dd G nd sg eg
    walk_at "ev"
    refine ⟨word, tx, ty, rfl, w1, fun b hb => ?_⟩
    by_cases c8 : WordOk word tx ty
    case neg =>
      obtain rfl : b = false := by
        cases b with
        | false => rfl
        | true => exact absurd (hb.mp rfl) c8
      walk_at "ev"
      exact mkx_in fun dd G nd sg eg => x "word" (by unfold wrongOf; dsimp only; rw [if_neg (fun z => z c1), if_neg (fun z => z c2), if_neg (fun z => z c3), if_neg (fun z => z c4), if_neg (fun z => z c5), if_neg (fun z => z c6), if_neg (fun z => z c7), if_pos c8]) dd G nd sg eg
    obtain rfl : b = true := hb.mpr c8
    clear hb
    by_cases c9 : 1 ≤ planes ∧ planes ≤ 20
    case neg =>
      walk_at "ev"
      all_goals exact mkx_in fun dd G nd sg eg => x "planes" (by unfold wrongOf; dsimp only; rw [if_neg (fun z => z c1), if_neg (fun z => z c2), if_neg (fun z => z c3), if_neg (fun z => z c4), if_neg (fun z => z c5), if_neg (fun z => z c6), if_neg (fun z => z c7), if_neg (fun z => z c8), if_pos c9]) dd G nd sg eg
    walk_at "ev"
    refine ⟨lp, layers, planes, rfl, hlp, w2, w3, fun b hb => ?_⟩
    by_cases c10 : LayOk layers planes
    case neg =>
      obtain rfl : b = false := by
        cases b with
        | false => rfl
        | true => exact absurd (hb.mp rfl) c10
      walk_at "ev"
      exact mkx_in fun dd G nd sg eg => x "layers" (by unfold wrongOf; dsimp only; rw [if_neg (fun z => z c1), if_neg (fun z => z c2), if_neg (fun z => z c3), if_neg (fun z => z c4), if_neg (fun z => z c5), if_neg (fun z => z c6), if_neg (fun z => z c7), if_neg (fun z => z c8), if_neg (fun z => z c9), if_pos c10]) dd G nd sg eg
    obtain rfl : b = true := hb.mpr c10
    clear hb
    walk_at "ev"
    refine ⟨w4, fun b H1 s1 hb => ?_⟩
    by_cases c11 : order ∈ ordOk
    case neg =>
      obtain rfl : b = false := by
        cases b with
        | false => rfl
        | true => exact absurd (hb.mp rfl) c11
      walk_at "ev"
      exact mkx_in fun dd G nd sg eg => x "order" (by unfold wrongOf; dsimp only; rw [if_neg (fun z => z c1), if_neg (fun z => z c2), if_neg (fun z => z c3), if_neg (fun z => z c4), if_neg (fun z => z c5), if_neg (fun z => z c6), if_neg (fun z => z c7), if_neg (fun z => z c8), if_neg (fun z => z c9), if_neg (fun z => z c10), if_pos c11]) dd G (s1.free nd) (s1.trans sg) eg
    obtain rfl : b = true := hb.mpr c11
    clear hb
    walk_at "ev"
    exact q (by unfold wrongOf; dsimp only; rw [if_neg (fun z => z c1), if_neg (fun z => z c2), if_neg (fun z => z c3), if_neg (fun z => z c4), if_neg (fun z => z c5), if_neg (fun z => z c6), if_neg (fun z => z c7), if_neg (fun z => z c8), if_neg (fun z => z c9), if_neg (fun z => z c10), if_neg (fun z => z c11)]) H1 s1
/-! ### a setting -/
structure SetK (K : PySem.W.Frag) (C : Addr) : Prop where
  cl : Cls K C
  n0 : NoAttr K C "_rect"
  n1 : NoAttr K C "mode"
  n2 : NoAttr K C "tx"
  n3 : NoAttr K C "ty"
  n4 : NoAttr K C "word"
  n5 : NoAttr K C "planes"
  n6 : NoAttr K C "layers"
  n7 : NoAttr K C "order"
def setF (rp lp : Addr) (t : Th) : List (Str × V) := [("_rect", .ref rp), ("mode", .int t.mode), ("tx", .int t.tx), ("ty", .int t.ty), ("word", .str t.word), ("planes", .int t.planes), ("layers", .ref lp), ("order", .str t.order)]
/-- a setting that stands in the heap -/
structure SetAt (K : PySem.W.Frag) (C : Addr) (H : Hp) (x rp lp dx : Addr) (t : Th) : Prop where
  at_ : H x = some (.ins C dx (setF rp lp t))
  rect : SqT K H rp [.int t.x0, .int t.x1, .int t.y0, .int t.y1]
  lay : SqT K H lp (t.layers.map V.int)
def spanN (a b t : Int) : Int := ((b - 1) / 2 ^ t.toNat + 1) - a / 2 ^ t.toNat
def piecesOf (t : Th) : Int := (if t.mode = 0 then 1 else 3) * (spanN t.x0 t.x1 t.tx * spanN t.y0 t.y1 t.ty) * (t.word.length + 1) * t.layers.length
theorem span_few {a b t : Int} (h1 : 1 ≤ b - a) (h2 : b - a ≤ 32) : 1 ≤ spanN a b t ∧ spanN a b t ≤ 32 := by
  unfold spanN
  have dp : (0 : Int) < 2 ^ t.toNat := Int.pow_pos (by decide)
  generalize (2 : Int) ^ t.toNat = m at *
  have k1 : a / m ≤ (b - 1) / m := Int.ediv_le_ediv dp (by omega)
  have k2 : (b - 1) / m ≤ a / m + (b - 1 - a) := by
    have e : (b - 1) / m ≤ (a + (b - 1 - a) * m) / m := Int.ediv_le_ediv dp (by
      have : (b - 1 - a) * 1 ≤ (b - 1 - a) * m := Int.mul_le_mul_of_nonneg_left (by omega) (by omega)
      omega)
    rw [Int.add_mul_ediv_right _ _ (by omega)] at e
    exact e
  omega
theorem sqt_same {K : PySem.W.Frag} {H H' : Hp} {a : Addr} {xs : List V} (s : Same H H') (h : SqT K H a xs) : SqT K H' a xs := by
  rcases h with (h | ⟨o, h⟩) | h
  · exact .inl (.inl (s _ _ h))
  · exact .inl (.inr ⟨o, s _ _ h⟩)
  · exact .inr h
def spPc (K : PySem.W.Frag) (C : Addr) : Sp := fun vs H Q _ => ∃ (x rp lp dx : Addr) (t : Th), vs = [.ref x] ∧ SetAt K C H x rp lp dx t ∧ 1 ≤ t.x1 - t.x0 ∧ t.x1 - t.x0 ≤ 32 ∧ 1 ≤ t.y1 - t.y0 ∧ t.y1 - t.y0 ≤ 32 ∧ 0 ≤ t.tx ∧ t.tx ≤ 5 ∧ 0 ≤ t.ty ∧ t.ty ≤ 5 ∧ t.word.length ≤ 1000 ∧ t.layers.length ≤ 100 ∧ ∀ H', Same H H' → Q (.int (piecesOf t)) H'
theorem ok_pc {f C : Addr} {fd : FuncData} {k : Nat} (F : Fun K "_piece_count" "Setting._piece_count" s_Setting_piece_count f fd) (T : Txt mg) (D : SetK K C) (c_tile_span : C8.Cal P w K mg base 1 "tile_span" spTile []) (c_channel_count : C8.Cal P w K mg base 1 "channel_count" spChan []) : FnOk P w K mg base CX0 (k + 2) f fd ["self"] (spPc K C) := by
  refine F.ok sc_Setting_piece_count (fun vs H Q E h => ?_) (fun cdv A outer s H vs Q E hr h => ?_)
  · obtain ⟨x, rp, lp, dx, t, rfl, _⟩ := h
    rfl
  · obtain ⟨x, rp, lp, dx, t, rfl, ⟨hx, hrp, hlp⟩, b1, b2, b3, b4, b5, b6, b7, b8, b9, b10, q⟩ := h
    refine ⟨_, (pss_cons (ps_asg (pe_fld (pv 0) rfl) (pg_tup rfl (pgs_cons (pg_name (i := 1) sc_Setting_piece_count.nd rfl (Or.inl rfl)) (pgs_cons (pg_name (i := 2) sc_Setting_piece_count.nd rfl (Or.inl rfl)) (pgs_cons (pg_name (i := 3) sc_Setting_piece_count.nd rfl (Or.inl rfl)) (pgs_cons (pg_name (i := 4) sc_Setting_piece_count.nd rfl (Or.inl rfl)) pgs_nil))))))
    (pss_cons (ps_asg (C8.pe_c c_tile_span hr (by omega) (by rfl) (pa_cons (pv 1) (pa_cons (pv 2) (pa_cons (pe_fld (pv 0) rfl) pa_nil)))) (pg_tup rfl (pgs_cons (pg_name (i := 5) sc_Setting_piece_count.nd rfl (Or.inl rfl)) (pgs_cons (pg_name (i := 6) sc_Setting_piece_count.nd rfl (Or.inl rfl)) pgs_nil))))
    (pss_cons (ps_asg (C8.pe_c c_tile_span hr (by omega) (by rfl) (pa_cons (pv 3) (pa_cons (pv 4) (pa_cons (pe_fld (pv 0) rfl) pa_nil)))) (pg_tup rfl (pgs_cons (pg_name (i := 7) sc_Setting_piece_count.nd rfl (Or.inl rfl)) (pgs_cons (pg_name (i := 8) sc_Setting_piece_count.nd rfl (Or.inl rfl)) pgs_nil))))
    (pss_cons (ps_set (i := 9) sc_Setting_piece_count.nd rfl (Or.inl rfl) (pe_op op_mul (pe_op op_sub (pv 6) (pv 5)) (pe_op op_sub (pv 8) (pv 7))))
    (pss_one (ps_ret (pe_op op_mul (pe_op op_mul (pe_op op_mul (C8.pe_c c_channel_count hr (by omega) (by rfl) (pa_cons (pe_fld (pv 0) rfl) pa_nil)) (pv 9)) (pe_op op_add (pe_callB call_len_str (by rfl) T.z_len PySem.boot_len (pa_cons (pe_fld (pv 0) rfl) pa_nil)) pe_int)) (pe_callB call_len_seq (by rfl) T.z_len PySem.boot_len (pa_cons (pe_fld (pv 0) rfl) pa_nil))))))))), ?_⟩
    walk_at "ev"
    refine ⟨x, C, dx, _, _, rfl, hx, D.cl, D.n0, (by rfl), ?_⟩
    walk_at "ev"
    refine ⟨rp, _, rfl, hrp, rfl, ?_⟩
    walk_at "ev"
    refine ⟨x, C, dx, _, _, rfl, hx, D.cl, D.n2, (by rfl), ?_⟩
    walk_at "ev"
    refine ⟨t.x0, t.x1, t.tx.toNat, by rw [Int.toNat_of_nonneg b5]; rfl, fun q1 H1 n1 s1 e1 => ?_⟩
    walk_at "ev"
    refine ⟨x, C, dx, _, _, rfl, s1 _ _ hx, D.cl, D.n3, (by rfl), ?_⟩
    walk_at "ev"
    refine ⟨t.y0, t.y1, t.ty.toNat, by rw [Int.toNat_of_nonneg b7]; rfl, fun q2 H2 n2 s2 e2 => ?_⟩
    have sA := s1.trans s2
    obtain ⟨w1, w2⟩ := span_few (t := t.tx) b1 b2
    obtain ⟨w3, w4⟩ := span_few (t := t.ty) b3 b4
    have key : ∀ H', Same H H' → ∀ z : Int, z = piecesOf t → Q (.int z) H' := fun H' s z e => e ▸ q H' s
    unfold piecesOf spanN at key
    unfold spanN at w1 w2 w3 w4
    generalize t.x0 / 2 ^ t.tx.toNat = fx at *
    generalize (t.x1 - 1) / 2 ^ t.tx.toNat + 1 = bx at *
    generalize t.y0 / 2 ^ t.ty.toNat = fy at *
    generalize (t.y1 - 1) / 2 ^ t.ty.toNat + 1 = bY at *
    have m1 : 1 * 1 ≤ (bx - fx) * (bY - fy) := Int.mul_le_mul w1 w3 (by decide) (by omega)
    have m2 : (bx - fx) * (bY - fy) ≤ 32 * 32 := Int.mul_le_mul w2 w4 (by omega) (by decide)
    have hch : 1 ≤ (if t.mode = 0 then (1 : Int) else 3) ∧ (if t.mode = 0 then (1 : Int) else 3) ≤ 3 := by split <;> omega
    generalize htl : (bx - fx) * (bY - fy) = tl at *
    generalize hcv : (if t.mode = 0 then (1 : Int) else 3) = ch at *
    have m3 : ch * tl ≤ 3 * 1024 := Int.mul_le_mul hch.2 (by omega) (by omega) (by decide)
    have m4 : 0 ≤ ch * tl := Int.mul_nonneg (by omega) (by omega)
    walk_at "ev"
    refine ⟨x, C, dx, _, _, rfl, sA _ _ hx, D.cl, D.n1, (by rfl), ?_⟩
    walk_at "ev"
    rw [hcv]
    walk_at "ev"
    generalize hct : ch * tl = ct at *
    refine ⟨x, C, dx, _, _, rfl, sA _ _ hx, D.cl, D.n4, (by rfl), ?_⟩
    walk_at "ev"
    refine ⟨Nat.le_of_lt (small1000 b9), ?_⟩
    have m5 : ct * ((t.word.length : Int) + 1) ≤ 3072 * 1001 := Int.mul_le_mul (by omega) (by omega) (by omega) (by decide)
    have m6 : 0 ≤ ct * ((t.word.length : Int) + 1) := Int.mul_nonneg (by omega) (by omega)
    walk_at "ev"
    generalize hcw : ct * ((t.word.length : Int) + 1) = cw at *
    refine ⟨x, C, dx, _, _, rfl, sA _ _ hx, D.cl, D.n6, (by rfl), ?_⟩
    walk_at "ev"
    refine ⟨lp, _, rfl, .inr (sqt_same sA hlp), ?_⟩
    rw [List.length_map]
    walk_at "ev"
    exact key H2 sA _ (by rw [← hcw, ← hct, ← htl])
def OffX (H H' : Hp) (x : Addr) : Prop := ∀ b o, b ≠ x → H b = some o → H' b = some o
def spSetI (K : PySem.W.Frag) (C BF TM : Addr) : Sp := fun vs H Q E => ∃ (x dx rp lp : Addr) (t : Th), vs = [.ref x, .ref rp, .int t.mode, .int t.tx, .int t.ty, .str t.word, .int t.planes, .ref lp, .str t.order] ∧ H x = some (.ins C dx []) ∧ rp ≠ x ∧ lp ≠ x ∧ SqT K H rp [.int t.x0, .int t.x1, .int t.y0, .int t.y1] ∧ (H lp = some (.lst (t.layers.map V.int)) ∨ H lp = some (.tup (t.layers.map V.int))) ∧ ThW t ∧
  (∀ n, wrongOf t = some n → FldE BF n H E) ∧ (wrongOf t = none → 2000 < piecesOf t → ∀ (dd : Addr) (H' : Hp), OffX H H' x → H' dd = some (.xd [("most", .int 2000)]) → E (.ref TM) (some dd) H') ∧
  (wrongOf t = none → piecesOf t ≤ 2000 → ∀ (H' : Hp) (lq : Addr), OffX H H' x → SetAt K C H' x rp lq dx t → H' lq = some (.tup (t.layers.map V.int)) → Q .non H')
theorem wrong_none {t : Th} (h : wrongOf t = none) : SideOk t.x0 t.x1 ∧ SideOk t.y0 t.y1 ∧ 0 ≤ t.tx ∧ t.tx ≤ 5 ∧ 0 ≤ t.ty ∧ t.ty ≤ 5 := by
  unfold wrongOf at h
  repeat' split at h
  all_goals first | (cases h; done) | skip
  rename_i h1 h2 h3 h4 h5 h6 h7 h8 h9 h10 h11
  exact ⟨Decidable.not_not.mp h2, Decidable.not_not.mp h4, (Decidable.not_not.mp h6).1, (Decidable.not_not.mp h6).2, (Decidable.not_not.mp h7).1, (Decidable.not_not.mp h7).2⟩
theorem sqt_off {K : PySem.W.Frag} {H H' : Hp} {a x : Addr} {xs : List V} (s : OffX H H' x) (n : a ≠ x) (h : SqT K H a xs) : SqT K H' a xs := by
  rcases h with (h | ⟨o, h⟩) | h
  · exact .inl (.inl (s _ _ n h))
  · exact .inl (.inr ⟨o, s _ _ n h⟩)
  · exact .inr h
theorem sql_off {K : PySem.W.Frag} {H H' : Hp} {a x : Addr} {xs : List V} (s : OffX H H' x) (n : a ≠ x) (h : SqL K H a xs) : SqL K H' a xs := by
  rcases h with (h | ⟨o, h⟩) | h
  · exact .inl (.inl (s _ _ n h))
  · exact .inl (.inr ⟨o, s _ _ n h⟩)
  · exact .inr h
theorem offx_upd {H H' : Hp} {x : Addr} (s : OffX H H' x) (v : HO) : OffX H (upd H' x v) x := fun b o n h => by rw [upd_ne n]; exact s b o n h
theorem offx_new {H H' : Hp} {x l : Addr} {v : HO} (s : OffX H H' x) (_n : l ≠ x) (hl : H' l = none) : OffX H (upd H' l v) x := fun b o n h => by
  have := s b o n h
  rw [upd_ne (fun e => by rw [e, hl] at this; cases this)]
  exact this
theorem offx_refl (H : Hp) {x : Addr} : OffX H H x := fun _ _ _ h => h
theorem offx_same {H H' H2 : Hp} {x : Addr} (s : OffX H H' x) (t : Same H' H2) : OffX H H2 x := fun b o n h => t b o (s b o n h)
theorem offx_of_same {H H' : Hp} {x : Addr} (s : Same H H') : OffX H H' x := fun b o _ h => s b o h
theorem ok_seti {f C BF TM f1 : Addr} {fd fd1 : FuncData} {k : Nat} {t1 : Tok} (F : Fun K "__init__" "Setting.__init__" s_Setting_init f fd) (T : Txt mg) (D : SetK K C) (x_TooMany : XDef P w K mg base "TooMany" "most" TM) (hMP : mg "MOST_PIECES" = some (.int 2000 t1))
    (G_check_fields : FnOk P w K mg base (L2.CX P w) 4 f1 fd1 ["rect", "mode", "tx", "ty", "word", "planes", "layers", "order"] (spCheckF K BF)) (g_check_fields : mg "check_fields" = some (.ref f1)) (k_check_fields : PySem.W.keepIn K (.ref f1) = true) (b_check_fields : Binds K fd1 ["rect", "mode", "tx", "ty", "word", "planes", "layers", "order"] [])
    (M_pc : CalM P w K mg base 2 C "_piece_count" [] (spPc K C)) : FnOk P w K mg base (L2.CX P w) (k + 5) f fd ["self", "rect", "mode", "tx", "ty", "word", "planes", "layers", "order"] (spSetI K C BF TM) := by
  refine F.okX sc_Setting_init (fun vs H Q E h => ?_) (fun cdv A outer s H vs Q E hr h => ?_)
  · obtain ⟨x, dx, rp, lp, t, rfl, _⟩ := h
    rfl
  · obtain ⟨x, dx, rp, lp, t, rfl, hx, nrx, nlx, hrp, hlp, hw, xf, xm, q⟩ := h
    refine ⟨_, (pss_cons (ps_expr (pe_call G_check_fields (hr.mono (by omega)) (by rfl) g_check_fields k_check_fields b_check_fields .nil (passes_call (takes_of rfl rfl rfl rfl) (fun _ _ _ _ h => h)) (pa_cons (pv 1) (pa_cons (pv 2) (pa_cons (pv 3) (pa_cons (pv 4) (pa_cons (pv 5) (pa_cons (pv 6) (pa_cons (pv 7) (pa_cons (pv 8) pa_nil))))))))))
    (pss_cons (ps_fld (pv 0) (pe_callTy call_tuple_of (by rfl) T.z_tuple PyProof.Rows.boot_tuple (pa_cons (pv 1) pa_nil)) rfl)
    (pss_cons (ps_fld (pv 0) (pv 2) rfl)
    (pss_cons (ps_fld (pv 0) (pv 3) rfl)
    (pss_cons (ps_fld (pv 0) (pv 4) rfl)
    (pss_cons (ps_fld (pv 0) (pv 5) rfl)
    (pss_cons (ps_fld (pv 0) (pv 6) rfl)
    (pss_cons (ps_fld (pv 0) (pe_callTy call_tuple_of (by rfl) T.z_tuple PyProof.Rows.boot_tuple (pa_cons (pv 7) pa_nil)) rfl)
    (pss_cons (ps_fld (pv 0) (pv 8) rfl)
    (pss_one (ps_if (pt_cmpR op_gt (pe_mx0 M_pc D.cl hr (by omega) (passes_call (takes_of rfl rfl rfl rfl) (fun _ _ _ _ h => h)) (pv 0)) (pe_glob (v := .int 2000) (by rfl) hMP ⟨_, rfl⟩) (nomark _)) (pss_one (ps_raise rfl (takes_of rfl rfl rfl rfl) (pmk_x x_TooMany hr (by omega) (by rfl) (pe_glob (v := .int 2000) (by rfl) hMP ⟨_, rfl⟩)))) pss_nil))))))))))), ?_⟩
    walk_at "ev"
    have hS : SqS K H lp (t.layers.map V.int) := by
      rcases hlp with h | h
      · exact .inl (.inl (.inl h))
      · exact .inr (.inl (.inl h))
    refine ⟨rp, lp, t, rfl, hrp, hS, hw, fun hnone H1 s1 => ?_, fun n hn => xf n hn⟩
    obtain ⟨⟨a1, a2, _⟩, ⟨a3, a4, _⟩, a5, a6, a7, a8⟩ := wrong_none hnone
    walk_at "ev"
    refine ⟨rp, _, rfl, .inr ⟨sqt_same s1 hrp, ?_⟩⟩
    walk_at "ev"
    refine ⟨x, C, dx, _, rfl, s1 _ _ hx, D.cl, D.n0, by show 0 < 1000; decide, ?_⟩
    have o1 : OffX H H1 x := offx_of_same s1
    walk_at "ev"
    refine ⟨x, C, dx, _, rfl, upd_same, D.cl, D.n1, by show 1 < 1000; decide, ?_⟩
    walk_at "ev"
    refine ⟨x, C, dx, _, rfl, upd_same, D.cl, D.n2, by show 2 < 1000; decide, ?_⟩
    walk_at "ev"
    refine ⟨x, C, dx, _, rfl, upd_same, D.cl, D.n3, by show 3 < 1000; decide, ?_⟩
    walk_at "ev"
    refine ⟨x, C, dx, _, rfl, upd_same, D.cl, D.n4, by show 4 < 1000; decide, ?_⟩
    walk_at "ev"
    refine ⟨x, C, dx, _, rfl, upd_same, D.cl, D.n5, by show 5 < 1000; decide, ?_⟩
    walk_at "ev"
    rcases hlp with hl | hl
    · have hl : SqL K H lp (t.layers.map V.int) := .inl (.inl hl)
      refine ⟨lp, _, rfl, .inl ⟨sql_off (offx_upd (offx_upd (offx_upd (offx_upd (offx_upd (offx_upd o1 _) _) _) _) _) _) nlx hl, fun lq hq => ?_⟩⟩
      have hlx : lq ≠ x := fun e => by rw [e, upd_same] at hq; cases hq
      walk_at "ev"
      refine ⟨x, C, dx, _, rfl, (upd_ne (Ne.symm hlx)).trans upd_same, D.cl, D.n6, by show 6 < 1000; decide, ?_⟩
      walk_at "ev"
      refine ⟨x, C, dx, _, rfl, upd_same, D.cl, D.n7, by show 7 < 1000; decide, ?_⟩
      walk_at "ev"
      refine ⟨x, dx, _, rfl, upd_same, (by rfl), ?_⟩
      walk_at "ev"
      refine ⟨x, rp, lq, dx, t, rfl, ⟨upd_same, sqt_off (offx_upd (offx_upd (offx_new (offx_upd (offx_upd (offx_upd (offx_upd (offx_upd (offx_upd o1 _) _) _) _) _) _) hlx hq) _) _) nrx hrp, sqt_off (offx_upd (offx_upd (offx_refl _) _) _) hlx (.inl (.inl upd_same))⟩, by omega, by omega, by omega, by omega, a5, a6, a7, a8, hw.word, hw.few, fun H2 s2 => ?_⟩
      walk_at "ev"
      · rename_i big
        exact mkx_in fun dd G nd sg eg => xm hnone big dd G (offx_same (offx_same (offx_upd (offx_upd (offx_new (offx_upd (offx_upd (offx_upd (offx_upd (offx_upd (offx_upd o1 _) _) _) _) _) _) hlx hq) _) _) s2) sg) eg
      rename_i big
      exact q hnone (by omega) H2 lq (offx_same (offx_upd (offx_upd (offx_new (offx_upd (offx_upd (offx_upd (offx_upd (offx_upd (offx_upd o1 _) _) _) _) _) _) hlx hq) _) _) s2) ⟨s2 _ _ upd_same, sqt_same s2 (sqt_off (offx_upd (offx_upd (offx_new (offx_upd (offx_upd (offx_upd (offx_upd (offx_upd (offx_upd o1 _) _) _) _) _) _) hlx hq) _) _) nrx hrp), sqt_same s2 (sqt_off (offx_upd (offx_upd (offx_refl _) _) _) hlx (.inl (.inl upd_same)))⟩ (s2 _ _ ((upd_ne hlx).trans ((upd_ne hlx).trans upd_same)))
    · have hl0 := hl
      have hl : SqT K H lp (t.layers.map V.int) := .inl (.inl hl)
      refine ⟨lp, _, rfl, .inr ⟨sqt_off (offx_upd (offx_upd (offx_upd (offx_upd (offx_upd (offx_upd o1 _) _) _) _) _) _) nlx hl, ?_⟩⟩
      walk_at "ev"
      refine ⟨x, C, dx, _, rfl, upd_same, D.cl, D.n6, by show 6 < 1000; decide, ?_⟩
      walk_at "ev"
      refine ⟨x, C, dx, _, rfl, upd_same, D.cl, D.n7, by show 7 < 1000; decide, ?_⟩
      walk_at "ev"
      refine ⟨x, dx, _, rfl, upd_same, (by rfl), ?_⟩
      walk_at "ev"
      refine ⟨x, rp, lp, dx, t, rfl, ⟨upd_same, sqt_off (offx_upd (offx_upd (offx_upd (offx_upd (offx_upd (offx_upd (offx_upd (offx_upd o1 _) _) _) _) _) _) _) _) nrx hrp, sqt_off (offx_upd (offx_upd (offx_upd (offx_upd (offx_upd (offx_upd (offx_upd (offx_upd o1 _) _) _) _) _) _) _) _) nlx hl⟩, by omega, by omega, by omega, by omega, a5, a6, a7, a8, hw.word, hw.few, fun H2 s2 => ?_⟩
      walk_at "ev"
      · rename_i big
        exact mkx_in fun dd G nd sg eg => xm hnone big dd G (offx_same (offx_same (offx_upd (offx_upd (offx_upd (offx_upd (offx_upd (offx_upd (offx_upd (offx_upd o1 _) _) _) _) _) _) _) _) s2) sg) eg
      rename_i big
      exact q hnone (by omega) H2 lp (offx_same (offx_upd (offx_upd (offx_upd (offx_upd (offx_upd (offx_upd (offx_upd (offx_upd o1 _) _) _) _) _) _) _) _) s2) ⟨s2 _ _ upd_same, sqt_same s2 (sqt_off (offx_upd (offx_upd (offx_upd (offx_upd (offx_upd (offx_upd (offx_upd (offx_upd o1 _) _) _) _) _) _) _) _) nrx hrp), sqt_same s2 (sqt_off (offx_upd (offx_upd (offx_upd (offx_upd (offx_upd (offx_upd (offx_upd (offx_upd o1 _) _) _) _) _) _) _) _) nlx hl)⟩ (s2 _ _ ((offx_upd (offx_upd (offx_upd (offx_upd (offx_upd (offx_upd (offx_upd (offx_upd o1 _) _) _) _) _) _) _) _) _ _ nlx hl0))
def spRectP (K : PySem.W.Frag) (C : Addr) : Sp := fun vs H Q _ => ∃ (x rp lp dx : Addr) (t : Th), vs = [.ref x] ∧ SetAt K C H x rp lp dx t ∧ Q (.ref rp) H
theorem ok_rectp {f C : Addr} {fd : FuncData} {k : Nat} (F : Fun K "rect" "Setting.rect" s_Setting_rect f fd) (T : Txt mg) (D : SetK K C) : FnOk P w K mg base CX0 (k + 1) f fd ["self"] (spRectP K C) := by
  refine F.ok sc_Setting_rect (fun vs H Q E h => ?_) (fun cdv A outer s H vs Q E hr h => ?_)
  · obtain ⟨x, rp, lp, dx, t, rfl, _⟩ := h
    rfl
  · obtain ⟨x, rp, lp, dx, t, rfl, ⟨hx, _, _⟩, q⟩ := h
    refine ⟨_, (pss_one (ps_ret (pe_fld (pv 0) rfl))), ?_⟩
    walk_at "ev"
    refine ⟨x, C, dx, _, _, rfl, hx, D.cl, D.n0, (by rfl), ?_⟩
    exact q
/-! ### layers -/
theorem atI_snoc (xs : List V) (v : V) : atI (xs ++ [v]) (-1) = some v := by
  unfold atI ixN
  rw [List.length_append]
  rw [if_neg (by decide), if_pos (by show -((xs.length + 1 : Nat) : Int) ≤ -1; omega)]
  show (xs ++ [v])[(-1 + ((xs.length + 1 : Nat) : Int)).toNat]? = some v
  rw [show (-1 + ((xs.length + 1 : Nat) : Int)).toNat = xs.length by omega]
  simp
def spLayers : Sp := fun vs H Q _ => ∃ (a : Addr) (n : Int), vs = [.ref a, .int n] ∧ Src H a ∧ 1 ≤ n ∧ n ≤ 20 ∧ ∀ (p : Addr) (l : List Int) (H' : Hp), H p = none → l ≠ [] → l.length ≤ 10 → Src H' a → Up a H H' → H' p = some (.lst (l.map V.int)) → Q (.ref p) H'
theorem ok_layers {f : Addr} {fd : FuncData} {k : Nat} (F : Fun K "_law_layers" "_law_layers" s_law_layers f fd) (T : Txt mg) (c_law_take : C8.Cal P w K mg base 1 "_law_take" spTake []) : FnOk P w K mg base CX0 (k + 2) f fd ["_law_source", "_law_planes"] spLayers := by
  refine F.ok sc_law_layers (fun vs H Q E h => ?_) (fun cdv A outer s H vs Q E hr h => ?_)
  · obtain ⟨a, n, rfl, _⟩ := h
    rfl
  · obtain ⟨a, n, rfl, ha, h1, h2, q⟩ := h
    refine ⟨_, (pss_cons (ps_par (i := 2) (j := 3) rfl sc_law_layers.nd rfl rfl (by decide) rfl rfl (pa_cons (pe_op op_mul pe_int (pv 1)) (pa_cons (pe_lst pa_nil) pa_nil)) rfl)
    (pss_cons (ps_for PassesOwn.never rfl (pi_range1 (by rfl) T.z_range (pa_cons (C8.pe_c c_law_take hr (by omega) (by rfl) (pa_cons (pv 0) (pa_cons pe_int pa_nil))) pa_nil)) (pg_name (i := 4) sc_law_layers.nd rfl (Or.inl rfl))
      (pss_one (ps_if (pt_cmpR op_gt (pv 2) pe_int (nomark _)) (pss_cons (ps_expr (pe_bm PySem.F.plainAttrs_list PySem.F.slot_list_append PySem.F.type_list_append mt_append (pv 3) (pa_cons (pe_op op_add pe_int (C8.pe_c c_law_take hr (by omega) (by rfl) (pa_cons (pv 0) (pa_cons (pe_op op_sub (pv 2) pe_int) pa_nil)))) pa_nil)))
    (pss_one (ps_set (i := 2) sc_law_layers.nd rfl (Or.inl rfl) (pe_op op_sub (pv 2) (pe_ix ix_list (pv 3) (pe_un un_neg pe_int) (fun _ _ => rfl)))))) pss_nil)))
    (pss_one (ps_ret (pe_op op_cat (pv 3) (pe_lst (pa_cons (pv 2) pa_nil))))))), ?_⟩
    walk_at "ev"
    refine ⟨by show 0 ≤ sizeLine; decide, fun p np => ?_⟩
    have s0 := src_same (same_upd (o := .lst []) np) ha
    have u0 := up_same (a := a) (same_upd (o := .lst []) np)
    have pa : p ≠ a := (ha.ne np).symm
    have e0 : upd H p (.lst []) p = some (.lst []) := upd_same
    generalize upd H p (.lst []) = H0 at *
    walk_at "ev"
    refine ⟨s0, by decide, by decide, fun r1 H1 r10 r11 s1 u1 => ?_⟩
    have e1 := (u1 p pa).trans e0
    have uu1 := u0.trans u1.up
    walk_at "ev"
    refine ⟨by omega, by omega, ?_⟩
    refine for_range (fun i σ G => ∃ (l : List Int) (left : Int) (v : Option V), σ = [some (.ref a), some (.int n), some (.int left), some (.ref p), v] ∧ l.length ≤ i ∧ 1 ≤ left ∧ left ≤ 60 ∧ G p = some (.lst (l.map V.int)) ∧ Src G a ∧ Up a H G) ⟨[], 3 * n, _, rfl, Nat.le_refl _, by omega, by omega, e1, s1, uu1⟩ ?_ ?_
    · rintro i σ G hi ⟨l, left, v, rfl, hl, b1, b2, eG, sG, uG⟩
      walk_at "ev"
      · refine ⟨.inl ⟨rfl, _, .inl (.inl eG)⟩, ?_⟩
        walk_at "ev"
        refine ⟨sG, by omega, by omega, fun r H2 r0 r1 s2 u2 => ?_⟩
        have e2 := (u2 p pa).trans eG
        walk_at "ev"
        refine ⟨p, _, _, rfl, rfl, e2, small1000 (by rw [List.length_map]; omega), ?_⟩
        walk_at "ev"
        refine ⟨p, l.map V.int ++ [V.int (1 + r)], -1, V.int (1 + r), rfl, rfl, .inl (.inl upd_same), atI_snoc _ _, ?_⟩
        walk_at "ev"
        refine ⟨l ++ [1 + r], left - (1 + r), _, rfl, by rw [List.length_append]; simp; omega, by omega, by omega, ?_, src_keep (Ne.symm pa) s2, fun b o nb e => ?_⟩
        · rw [upd_same, List.map_append]
          rfl
        · rw [upd_ne (ne_of_none e np)]
          exact (u2 b nb).trans (uG b o nb e)
      · exact ⟨l, left, _, rfl, by omega, b1, b2, eG, sG, uG⟩
    · rintro σ G ⟨l, left, v, rfl, hl, b1, b2, eG, sG, uG⟩
      walk_at "ev"
      refine ⟨by show 1 ≤ sizeLine; decide, fun y ny => ?_⟩
      have sy := fun o => same_upd (o := o) ny
      refine ⟨p, y, _, _, rfl, rfl, sy _ _ _ eG, upd_same, Nat.le_of_lt (small1000 (by rw [List.length_map]; show l.length + 1 ≤ 1000; omega)), fun z nz => ?_⟩
      have sz := fun o' => (sy (.lst [.int left])).trans (same_upd (o := o') nz)
      refine q z (l ++ [left]) _ ?_ (by simp) (by rw [List.length_append]; show l.length + 1 ≤ 10; omega) (src_same (sz _) sG) (uG.trans (up_same (sz _))) ?_
      · exact uG.new sG ((sy _).free nz)
      · rw [upd_same, List.map_append]
        rfl
/-! ### a side -/
def spSideL : Sp := fun vs H Q _ => ∃ (a : Addr), vs = [.ref a] ∧ Src H a ∧ ∀ (p : Addr) (x y : Int) (H' : Hp), H p = none → Src H' a → Up a H H' → H' p = some (.lst [.int x, .int y]) → Q (.ref p) H'
theorem ok_sideL {f : Addr} {fd : FuncData} {k : Nat} (F : Fun K "_law_side" "_law_side" s_law_side f fd) (T : Txt mg) (c_law_take : C8.Cal P w K mg base 1 "_law_take" spTake []) (c_law_one : C8.Cal P w K mg base 2 "_law_one" spOne []) : FnOk P w K mg base CX0 (k + 3) f fd ["_law_source"] spSideL := by
  refine F.ok sc_law_side (fun vs H Q E h => ?_) (fun cdv A outer s H vs Q E hr h => ?_)
  · obtain ⟨a, rfl, _⟩ := h
    rfl
  · obtain ⟨a, rfl, ha, q⟩ := h
    refine ⟨_, (pss_cons (ps_set (i := 1) sc_law_side.nd rfl (Or.inl rfl) (C8.pe_c c_law_one hr (by omega) (by rfl) (pa_cons (pv 0) (pa_cons (pe_lst (pa_cons pe_int (pa_cons (pe_un un_neg pe_int) (pa_cons pe_int (pa_cons pe_int (pa_cons (pe_un un_neg pe_int) (pa_cons (pe_op op_sub pe_int pe_int) (pa_cons (C8.pe_c c_law_take hr (by omega) (by rfl) (pa_cons (pv 0) (pa_cons (pe_op (op_powc (a := 10) (b := 9) (c := 1000000000) ⟨by decide, by decide, by decide⟩ (by decide +kernel)) pe_int pe_int) pa_nil))) (pa_cons pe_int (pa_cons pe_int pa_nil)))))))))) pa_nil))))
    (C8.pss_cut (ps_if (pt_cmpR op_eq (C8.pe_c c_law_take hr (by omega) (by rfl) (pa_cons (pv 0) (pa_cons pe_int pa_nil))) pe_int (nomark _)) (pss_one (ps_set (i := 1) sc_law_side.nd rfl (Or.inl rfl) (C8.pe_c c_law_one hr (by omega) (by rfl) (pa_cons (pv 0) (pa_cons (pe_lst (pa_cons (pe_op op_add pe_int pe_int) (pa_cons (pe_op op_sub (pe_un un_neg pe_int) pe_int) (pa_cons (pe_op (op_powc (a := 10) (b := 20) (c := 100000000000000000000) ⟨by decide, by decide, by decide⟩ (by decide +kernel)) pe_int pe_int) (pa_cons (pe_op op_sub pe_int (pe_op (op_powc (a := 10) (b := 20) (c := 100000000000000000000) ⟨by decide, by decide, by decide⟩ (by decide +kernel)) pe_int pe_int)) pa_nil))))) pa_nil))))) pss_nil)
    (pss_cons (ps_set (i := 2) sc_law_side.nd rfl (Or.inl rfl) (pe_op op_add pe_int (C8.pe_c c_law_one hr (by omega) (by rfl) (pa_cons (pv 0) (pa_cons (pe_lst (pa_cons (C8.pe_c c_law_take hr (by omega) (by rfl) (pa_cons (pv 0) (pa_cons pe_int pa_nil))) (pa_cons (C8.pe_c c_law_take hr (by omega) (by rfl) (pa_cons (pv 0) (pa_cons pe_int pa_nil))) (pa_cons pe_int pa_nil)))) pa_nil)))))
    (C8.pss_cut (ps_if (pt_cmpR op_eq (C8.pe_c c_law_take hr (by omega) (by rfl) (pa_cons (pv 0) (pa_cons pe_int pa_nil))) pe_int (nomark _)) (pss_one (ps_set (i := 2) sc_law_side.nd rfl (Or.inl rfl) (C8.pe_c c_law_one hr (by omega) (by rfl) (pa_cons (pv 0) (pa_cons (pe_lst (pa_cons pe_int (pa_cons pe_int (pa_cons (pe_op (op_powc (a := 10) (b := 9) (c := 1000000000) ⟨by decide, by decide, by decide⟩ (by decide +kernel)) pe_int pe_int) pa_nil)))) pa_nil))))) pss_nil)
    (pss_one (ps_ret (pe_lst (pa_cons (pv 1) (pa_cons (pe_op op_add (pv 1) (pv 2)) pa_nil))))))))), ?_⟩
    walk_at "ev"
    refine ⟨ha, by decide, by decide, fun r1 H1 r10 r11 s1 u1 => ?_⟩
    walk_at "ev"
    refine ⟨(by show 9 ≤ sizeLine; decide), fun L nL => ?_⟩
    walk_at "ev"
    refine ⟨a, L, _, rfl, src_same (same_upd nL) s1, (s1.ne nL).symm, upd_same, (by simp), (by show 9 ≤ 1000; decide), fun v H2 hv s2 u2 => ?_⟩
    obtain ⟨x, rfl⟩ : ∃ x : Int, v = .int x := by
      simp only [List.mem_cons, List.not_mem_nil, or_false] at hv
      rcases hv with rfl | rfl | rfl | rfl | rfl | rfl | rfl | rfl | rfl <;> exact ⟨_, rfl⟩
    have U2 : Up a H H2 := u1.up.trans ((up_same (same_upd nL)).trans u2.up)
    clear hv
    refine ⟨fun σ G => ∃ x : Int, σ = [some (.ref a), some (.int x), none] ∧ Src G a ∧ Up a H G, ?_, ?_⟩
    · walk_at "ev"
      refine ⟨s2, by decide, by decide, fun r3 H3 r30 r31 s3 u3 => ?_⟩
      have U3 := U2.trans u3.up
      walk_at "ev"
      · refine ⟨(by show 4 ≤ sizeLine; decide), fun L2 nL2 => ?_⟩
        walk_at "ev"
        refine ⟨a, L2, _, rfl, src_same (same_upd nL2) s3, (s3.ne nL2).symm, upd_same, (by simp), (by show 4 ≤ 1000; decide), fun v H4 hv s4 u4 => ?_⟩
        obtain ⟨y, rfl⟩ : ∃ x : Int, v = .int x := by
          simp only [List.mem_cons, List.not_mem_nil, or_false] at hv
          rcases hv with rfl | rfl | rfl | rfl <;> exact ⟨_, rfl⟩
        exact ⟨y, rfl, s4, U3.trans ((up_same (same_upd nL2)).trans u4.up)⟩
      · exact ⟨s3, U3⟩
    · rintro σ G ⟨x, rfl, sG, uG⟩
      walk_at "ev"
      refine ⟨sG, by decide, by decide, fun r3 H3 r30 r31 s3 u3 => ?_⟩
      have U3 := uG.trans u3.up
      walk_at "ev"
      refine ⟨s3, by decide, by decide, fun r4 H4 r40 r41 s4 u4 => ?_⟩
      have U4 := U3.trans u4.up
      walk_at "ev"
      refine ⟨(by show 3 ≤ sizeLine; decide), fun L2 nL2 => ?_⟩
      walk_at "ev"
      refine ⟨a, L2, _, rfl, src_same (same_upd nL2) s4, (s4.ne nL2).symm, upd_same, (by simp), (by show 3 ≤ 1000; decide), fun v H5 hv s5 u5 => ?_⟩
      obtain ⟨y, rfl⟩ : ∃ x : Int, v = .int x := by
        simp only [List.mem_cons, List.not_mem_nil, or_false] at hv
        rcases hv with rfl | rfl | rfl <;> exact ⟨_, rfl⟩
      have U5 := U4.trans ((up_same (same_upd nL2)).trans u5.up)
      clear hv
      walk_at "ev"
      refine ⟨fun σ G => ∃ y : Int, σ = [some (.ref a), some (.int x), some (.int y)] ∧ Src G a ∧ Up a H G, ?_, ?_⟩
      · walk_at "ev"
        refine ⟨s5, by decide, by decide, fun r6 H6 r60 r61 s6 u6 => ?_⟩
        have U6 := U5.trans u6.up
        walk_at "ev"
        · refine ⟨(by show 3 ≤ sizeLine; decide), fun L3 nL3 => ?_⟩
          walk_at "ev"
          refine ⟨a, L3, _, rfl, src_same (same_upd nL3) s6, (s6.ne nL3).symm, upd_same, (by simp), (by show 3 ≤ 1000; decide), fun v H7 hv s7 u7 => ?_⟩
          obtain ⟨y, rfl⟩ : ∃ x : Int, v = .int x := by
            simp only [List.mem_cons, List.not_mem_nil, or_false] at hv
            rcases hv with rfl | rfl | rfl <;> exact ⟨_, rfl⟩
          exact ⟨y, rfl, s7, U6.trans ((up_same (same_upd nL3)).trans u7.up)⟩
        · exact ⟨s6, U6⟩
      · rintro σ G ⟨y, rfl, sG, uG⟩
        walk_at "ev"
        refine ⟨(by show 2 ≤ sizeLine; decide), fun p np => ?_⟩
        exact q p x (x + y) _ (uG.new sG np) (src_same (same_upd np) sG) (uG.trans (up_same (same_upd np))) upd_same
/-! ### the things of a setting -/
structure TgAt (H : Hp) (p rp lp : Addr) (t : Th) : Prop where
  at_ : H p = some (.lst [.ref rp, .int t.mode, .int t.tx, .int t.ty, .str t.word, .int t.planes, .ref lp, .str t.order])
  rect : H rp = some (.tup [.int t.x0, .int t.x1, .int t.y0, .int t.y1])
  lay : H lp = some (.lst (t.layers.map V.int))
theorem TgAt.same {H H' : Hp} {p rp lp : Addr} {t : Th} (h : TgAt H p rp lp t) (s : Same H H') : TgAt H' p rp lp t := ⟨s _ _ h.at_, s _ _ h.rect, s _ _ h.lay⟩
theorem wr1 {t : Th}  (h : ¬ RimOk t.x0) : wrongOf t = some ("x0" : Str) := by
  unfold wrongOf
  rw [if_pos h]
theorem wr2 {t : Th} (c1 : RimOk t.x0) (h : ¬ SideOk t.x0 t.x1) : wrongOf t = some ("width" : Str) := by
  unfold wrongOf
  rw [if_neg (Decidable.not_not.mpr c1), if_pos h]
theorem wr3 {t : Th} (c1 : RimOk t.x0) (c2 : SideOk t.x0 t.x1) (h : ¬ RimOk t.y0) : wrongOf t = some ("y0" : Str) := by
  unfold wrongOf
  rw [if_neg (Decidable.not_not.mpr c1), if_neg (Decidable.not_not.mpr c2), if_pos h]
theorem wr4 {t : Th} (c1 : RimOk t.x0) (c2 : SideOk t.x0 t.x1) (c3 : RimOk t.y0) (h : ¬ SideOk t.y0 t.y1) : wrongOf t = some ("height" : Str) := by
  unfold wrongOf
  rw [if_neg (Decidable.not_not.mpr c1), if_neg (Decidable.not_not.mpr c2), if_neg (Decidable.not_not.mpr c3), if_pos h]
theorem wr5 {t : Th} (c1 : RimOk t.x0) (c2 : SideOk t.x0 t.x1) (c3 : RimOk t.y0) (c4 : SideOk t.y0 t.y1) (h : ¬ (0 ≤ t.mode ∧ t.mode ≤ 2)) : wrongOf t = some ("mode" : Str) := by
  unfold wrongOf
  rw [if_neg (Decidable.not_not.mpr c1), if_neg (Decidable.not_not.mpr c2), if_neg (Decidable.not_not.mpr c3), if_neg (Decidable.not_not.mpr c4), if_pos h]
theorem wr6 {t : Th} (c1 : RimOk t.x0) (c2 : SideOk t.x0 t.x1) (c3 : RimOk t.y0) (c4 : SideOk t.y0 t.y1) (c5 : (0 ≤ t.mode ∧ t.mode ≤ 2)) (h : ¬ (0 ≤ t.tx ∧ t.tx ≤ 5)) : wrongOf t = some ("tx" : Str) := by
  unfold wrongOf
  rw [if_neg (Decidable.not_not.mpr c1), if_neg (Decidable.not_not.mpr c2), if_neg (Decidable.not_not.mpr c3), if_neg (Decidable.not_not.mpr c4), if_neg (Decidable.not_not.mpr c5), if_pos h]
theorem wr7 {t : Th} (c1 : RimOk t.x0) (c2 : SideOk t.x0 t.x1) (c3 : RimOk t.y0) (c4 : SideOk t.y0 t.y1) (c5 : (0 ≤ t.mode ∧ t.mode ≤ 2)) (c6 : (0 ≤ t.tx ∧ t.tx ≤ 5)) (h : ¬ (0 ≤ t.ty ∧ t.ty ≤ 5)) : wrongOf t = some ("ty" : Str) := by
  unfold wrongOf
  rw [if_neg (Decidable.not_not.mpr c1), if_neg (Decidable.not_not.mpr c2), if_neg (Decidable.not_not.mpr c3), if_neg (Decidable.not_not.mpr c4), if_neg (Decidable.not_not.mpr c5), if_neg (Decidable.not_not.mpr c6), if_pos h]
theorem wr8 {t : Th} (c1 : RimOk t.x0) (c2 : SideOk t.x0 t.x1) (c3 : RimOk t.y0) (c4 : SideOk t.y0 t.y1) (c5 : (0 ≤ t.mode ∧ t.mode ≤ 2)) (c6 : (0 ≤ t.tx ∧ t.tx ≤ 5)) (c7 : (0 ≤ t.ty ∧ t.ty ≤ 5)) (h : ¬ WordOk t.word t.tx t.ty) : wrongOf t = some ("word" : Str) := by
  unfold wrongOf
  rw [if_neg (Decidable.not_not.mpr c1), if_neg (Decidable.not_not.mpr c2), if_neg (Decidable.not_not.mpr c3), if_neg (Decidable.not_not.mpr c4), if_neg (Decidable.not_not.mpr c5), if_neg (Decidable.not_not.mpr c6), if_neg (Decidable.not_not.mpr c7), if_pos h]
theorem wr9 {t : Th} (c1 : RimOk t.x0) (c2 : SideOk t.x0 t.x1) (c3 : RimOk t.y0) (c4 : SideOk t.y0 t.y1) (c5 : (0 ≤ t.mode ∧ t.mode ≤ 2)) (c6 : (0 ≤ t.tx ∧ t.tx ≤ 5)) (c7 : (0 ≤ t.ty ∧ t.ty ≤ 5)) (c8 : WordOk t.word t.tx t.ty) (h : ¬ (1 ≤ t.planes ∧ t.planes ≤ 20)) : wrongOf t = some ("planes" : Str) := by
  unfold wrongOf
  rw [if_neg (Decidable.not_not.mpr c1), if_neg (Decidable.not_not.mpr c2), if_neg (Decidable.not_not.mpr c3), if_neg (Decidable.not_not.mpr c4), if_neg (Decidable.not_not.mpr c5), if_neg (Decidable.not_not.mpr c6), if_neg (Decidable.not_not.mpr c7), if_neg (Decidable.not_not.mpr c8), if_pos h]
theorem wr10 {t : Th} (c1 : RimOk t.x0) (c2 : SideOk t.x0 t.x1) (c3 : RimOk t.y0) (c4 : SideOk t.y0 t.y1) (c5 : (0 ≤ t.mode ∧ t.mode ≤ 2)) (c6 : (0 ≤ t.tx ∧ t.tx ≤ 5)) (c7 : (0 ≤ t.ty ∧ t.ty ≤ 5)) (c8 : WordOk t.word t.tx t.ty) (c9 : (1 ≤ t.planes ∧ t.planes ≤ 20)) (h : ¬ LayOk t.layers t.planes) : wrongOf t = some ("layers" : Str) := by
  unfold wrongOf
  rw [if_neg (Decidable.not_not.mpr c1), if_neg (Decidable.not_not.mpr c2), if_neg (Decidable.not_not.mpr c3), if_neg (Decidable.not_not.mpr c4), if_neg (Decidable.not_not.mpr c5), if_neg (Decidable.not_not.mpr c6), if_neg (Decidable.not_not.mpr c7), if_neg (Decidable.not_not.mpr c8), if_neg (Decidable.not_not.mpr c9), if_pos h]
theorem wr11 {t : Th} (c1 : RimOk t.x0) (c2 : SideOk t.x0 t.x1) (c3 : RimOk t.y0) (c4 : SideOk t.y0 t.y1) (c5 : (0 ≤ t.mode ∧ t.mode ≤ 2)) (c6 : (0 ≤ t.tx ∧ t.tx ≤ 5)) (c7 : (0 ≤ t.ty ∧ t.ty ≤ 5)) (c8 : WordOk t.word t.tx t.ty) (c9 : (1 ≤ t.planes ∧ t.planes ≤ 20)) (c10 : LayOk t.layers t.planes) (h : ¬ t.order ∈ ordOk) : wrongOf t = some ("order" : Str) := by
  unfold wrongOf
  rw [if_neg (Decidable.not_not.mpr c1), if_neg (Decidable.not_not.mpr c2), if_neg (Decidable.not_not.mpr c3), if_neg (Decidable.not_not.mpr c4), if_neg (Decidable.not_not.mpr c5), if_neg (Decidable.not_not.mpr c6), if_neg (Decidable.not_not.mpr c7), if_neg (Decidable.not_not.mpr c8), if_neg (Decidable.not_not.mpr c9), if_neg (Decidable.not_not.mpr c10), if_pos h]
theorem wr12 {t : Th} (c1 : RimOk t.x0) (c2 : SideOk t.x0 t.x1) (c3 : RimOk t.y0) (c4 : SideOk t.y0 t.y1) (c5 : (0 ≤ t.mode ∧ t.mode ≤ 2)) (c6 : (0 ≤ t.tx ∧ t.tx ≤ 5)) (c7 : (0 ≤ t.ty ∧ t.ty ≤ 5)) (c8 : WordOk t.word t.tx t.ty) (c9 : (1 ≤ t.planes ∧ t.planes ≤ 20)) (c10 : LayOk t.layers t.planes) (c11 : t.order ∈ ordOk) : wrongOf t = none := by
  unfold wrongOf
  rw [if_neg (Decidable.not_not.mpr c1), if_neg (Decidable.not_not.mpr c2), if_neg (Decidable.not_not.mpr c3), if_neg (Decidable.not_not.mpr c4), if_neg (Decidable.not_not.mpr c5), if_neg (Decidable.not_not.mpr c6), if_neg (Decidable.not_not.mpr c7), if_neg (Decidable.not_not.mpr c8), if_neg (Decidable.not_not.mpr c9), if_neg (Decidable.not_not.mpr c10), if_neg (Decidable.not_not.mpr c11)]
theorem inV_i (x : Int) : ∀ ns : List Int, inV (.int x) (ns.map V.int) = decide (x ∈ ns)
  | [] => rfl
  | n :: r => by
    have ih := inV_i x r
    unfold inV at ih ⊢
    rw [List.map_cons, List.any_cons, ih]
    show (decide (n = x) || decide (x ∈ r)) = _
    by_cases e : n = x
    · subst e
      simp
    · have e2 : ¬ x = n := fun z => e z.symm
      simp [e, e2]
theorem flat_i : ∀ ns : List Int, (ns.map V.int).all flatV = true
  | [] => rfl
  | _ :: r => flat_i r
theorem notin_t {x : Int} (ns : List Int) (h : (if True then !inV (.int x) (ns.map V.int) else inV (.int x) (ns.map V.int)) = true) : x ∉ ns := fun m => by
  rw [if_pos trivial, inV_i, decide_eq_true m] at h
  cases h
theorem notin_f {x : Int} (ns : List Int) (h : (if True then !inV (.int x) (ns.map V.int) else inV (.int x) (ns.map V.int)) = false) : x ∈ ns := Decidable.byContradiction fun m => by
  rw [if_pos trivial, inV_i, decide_eq_false m] at h
  cases h
theorem in_012 {x : Int} : x ∈ [0, 1, 2] ↔ (0 ≤ x ∧ x ≤ 2) := by simp; omega
theorem in_05 {x : Int} : x ∈ [0, 1, 2, 3, 4, 5] ↔ (0 ≤ x ∧ x ≤ 5) := by simp; omega
def oth (c : Nat) : Bool := !(88 == c || 89 == c)
def sgV (c : Nat) : V := .str ⟨#[c]⟩
theorem notin_XY {c : Nat} {b : Bool} (h : (if True then !inV (sgV c) [.str "X", .str "Y"] else inV (sgV c) [.str "X", .str "Y"]) = b) : oth c = b := by
  rw [if_pos trivial] at h
  rw [← h]
  have e1 : (Str.ofString "X" == (⟨#[c]⟩ : Str)) = (88 == c) := by
    rw [show Str.ofString "X" = SX.S [88] by decide +kernel]
    show (SX.S [88] == SX.S [c]) = _
    rw [SX.S_beq]
    show ((88 == c) && true) = _
    rw [Bool.and_true]
  have e2 : (Str.ofString "Y" == (⟨#[c]⟩ : Str)) = (89 == c) := by
    rw [show Str.ofString "Y" = SX.S [89] by decide +kernel]
    show (SX.S [89] == SX.S [c]) = _
    rw [SX.S_beq]
    show ((89 == c) && true) = _
    rw [Bool.and_true]
  show _ = !((Str.ofString "X" == (⟨#[c]⟩ : Str)) || ((Str.ofString "Y" == (⟨#[c]⟩ : Str)) || false))
  rw [e1, e2, Bool.or_false]
  rfl
theorem take_next {l : List Nat} {i c : Nat} (h : l[i]? = some c) : l.take (i + 1) = l.take i ++ [c] := by
  rw [List.take_add_one, h]
  rfl
theorem oth_count (l : List Nat) : ((l.filter oth).length : Int) + cnt 88 l + cnt 89 l = l.length := by
  induction l with
  | nil => rfl
  | cons c r ih =>
    rw [cnt_cons, cnt_cons, List.length_cons]
    by_cases h1 : c = 88
    · subst h1
      rw [List.filter_cons_of_neg (by decide), if_pos rfl, if_neg (by decide)]
      omega
    · by_cases h2 : c = 89
      · subst h2
        rw [List.filter_cons_of_neg (by decide), if_pos rfl, if_neg (by decide)]
        omega
      · rw [List.filter_cons_of_pos (by unfold oth; simp; omega), List.length_cons, if_neg h1, if_neg h2]
        omega
theorem oth_cnt (z : Str) : ((z.cps.toList.filter oth).length : Int) + cntS z 88 + cntS z 89 = z.length := by
  unfold cntS
  rw [count_cnt, count_cnt]
  exact oth_count _
def WordL (z : Str) : Prop := ∀ c ∈ z.cps.toList, c ∈ [88, 89, 90, 120, 32]
theorem canLay_signs : ∀ l : List Nat, (∀ c ∈ l, c ∈ [88, 89, 90, 120, 32]) → PyData.canLayAll0 (l.map fun c => PyData.str ⟨#[c]⟩) = true
  | [], _ => rfl
  | c :: r, h => by
    have hc : PyData.strOk ⟨#[c]⟩ = true := (by decide +kernel : ∀ c ∈ [88, 89, 90, 120, 32], PyData.strOk ⟨#[c]⟩ = true) c (h c (List.mem_cons_self ..))
    simp [PyData.canLayAll0, PyData.canLay0, hc, canLay_signs r fun d m => h d (List.mem_cons_of_mem _ m)]
theorem depth_signs : ∀ l : List Nat, PyData.depthAll (l.map fun c => PyData.str ⟨#[c]⟩) = 0
  | [] => rfl
  | _ :: r => by simp [PyData.depthAll, PyData.depth, depth_signs r]
theorem sh_signs {l : List Nat} (h : ∀ c ∈ l, c ∈ [88, 89, 90, 120, 32]) : SeqAt.shaped (.list (l.map fun c => PyData.str ⟨#[c]⟩)) = true := by
  simp [SeqAt.shaped, PyData.canLay0, PyData.depth, canLay_signs l h, depth_signs]
theorem q_neEmpty {K : PySem.W.Frag} {H : Hp} {p q : Addr} {l : List Nat} {Q : VK} (hl : ∀ c ∈ l, c ∈ [88, 89, 90, 120, 32]) (hp : H p = some (.lst (l.map sgV))) (hq : H q = some (.lst [])) (h : Q (.bl (!l.isEmpty)) H) : rNeD K (.ref p) (.ref q) H Q := by
  have d1 : Dp K H (.ref p) (.list (l.map fun c => PyData.str ⟨#[c]⟩)) := by
    have := dp_strs (K := K) (H := H) (p := p) (ss := l.map fun c => (⟨#[c]⟩ : Str)) (.inl (.inl (by rw [hp, List.map_map]; rfl)))
    rw [List.map_map] at this
    exact this
  refine ⟨_, _, d1, dp_strs (ss := []) (.inl (.inl hq)), sh_signs hl, by decide +kernel, ?_⟩
  have : PyData.eqv (.list (l.map fun c => PyData.str ⟨#[c]⟩)) (.list ([].map PyData.str)) = l.isEmpty := by
    rw [PyData.eqv]
    cases l <;> rfl
  rw [this]
  exact h
theorem cnt_count (k : Nat) : ∀ l : List Nat, cnt k l = (l.count k : Int)
  | [] => rfl
  | c :: r => by
    rw [cnt_cons, cnt_count k r, List.count_cons]
    by_cases e : c = k
    · rw [if_pos e, if_pos (beq_iff_eq.mpr e)]
      omega
    · rw [if_neg e, if_neg (fun z => e (beq_iff_eq.mp z))]
      omega
theorem cntS_count (z : Str) (k : Nat) : cntS z k = (z.cps.toList.count k : Int) := by
  unfold cntS
  rw [count_cnt, cnt_count]
theorem sg_is {c k : Nat} {z : Str} (hz : z = ⟨#[k]⟩) : (V.str ⟨#[c]⟩ = V.str z) ↔ c = k := by
  subst hz
  constructor
  · intro e
    have e1 := congrArg (fun z : Str => z.cps.toList) (V.str.inj e)
    exact List.cons.inj e1 |>.1
  · rintro rfl
    rfl
theorem is_X : (Str.ofString "X") = ⟨#[88]⟩ := by decide +kernel
theorem is_Y : (Str.ofString "Y") = ⟨#[89]⟩ := by decide +kernel
theorem count_step {l : List Nat} {i c k : Nat} (h : l[i]? = some c) : (l.take (i + 1)).count k = (l.take i).count k + if c = k then 1 else 0 := by
  rw [take_next h, List.count_append, List.count_singleton]
  by_cases e : c = k
  · rw [if_pos e, if_pos (beq_iff_eq.mpr e)]
  · rw [if_neg e, if_neg (fun z => e (beq_iff_eq.mp z))]
theorem eqv_i (a b : List Int) : PyData.eqv (.list (a.map PyData.int)) (.list (b.map PyData.int)) = decide (a = b) := by
  rw [PyData.eqv]
  exact PySem.W.ked_eqvAll a b
theorem q_neII {K : PySem.W.Frag} {H : Hp} {p q : Addr} {ns ms : List Int} {Q : VK} (hp : H p = some (.lst (ns.map V.int))) (hq : H q = some (.lst (ms.map V.int))) (h : Q (.bl (!decide (ns = ms))) H) : rNeD K (.ref p) (.ref q) H Q :=
  ⟨_, _, dp_ints (.inl (.inl hp)), dp_ints (.inl (.inl hq)), sh_ints ns, sh_ints ms, by rw [eqv_i]; exact h⟩
def spWrong : Sp := fun vs H Q _ => ∃ (p rp lp : Addr) (t : Th), vs = [.ref p] ∧ TgAt H p rp lp t ∧ ThW t ∧ WordL t.word ∧ ∀ H', Same H H' → Q (.str ((wrongOf t).getD "")) H'
theorem ok_wrong {f : Addr} {fd : FuncData} {k : Nat} (F : Fun K "_law_wrong" "_law_wrong" s_law_wrong f fd) (T : Txt mg) : FnOk P w K mg base CX0 (k + 1) f fd ["_law_things_here"] spWrong := by
  refine F.ok sc_law_wrong (fun vs H Q E h => ?_) (fun cdv A outer s H vs Q E hr h => ?_)
  · obtain ⟨p, rp, lp, t, rfl, _⟩ := h
    rfl
  · obtain ⟨p, rp, lp, t, rfl, ht, hw, hL, q⟩ := h
    have hs : t.word.length ≤ sizeLine := Nat.le_of_lt (small1000 hw.word)
    have hu := hr.units
    refine ⟨_, (pss_cons (ps_asg (pv 0) (pg_lst rfl (pgs_cons (pg_name (i := 1) sc_law_wrong.nd rfl (Or.inl rfl)) (pgs_cons (pg_name (i := 2) sc_law_wrong.nd rfl (Or.inl rfl)) (pgs_cons (pg_name (i := 3) sc_law_wrong.nd rfl (Or.inl rfl)) (pgs_cons (pg_name (i := 4) sc_law_wrong.nd rfl (Or.inl rfl)) (pgs_cons (pg_name (i := 5) sc_law_wrong.nd rfl (Or.inl rfl)) (pgs_cons (pg_name (i := 6) sc_law_wrong.nd rfl (Or.inl rfl)) (pgs_cons (pg_name (i := 7) sc_law_wrong.nd rfl (Or.inl rfl)) (pgs_cons (pg_name (i := 8) sc_law_wrong.nd rfl (Or.inl rfl)) pgs_nil))))))))))
    (pss_cons (ps_asg (pv 1) (pg_tup rfl (pgs_cons (pg_name (i := 9) sc_law_wrong.nd rfl (Or.inl rfl)) (pgs_cons (pg_name (i := 10) sc_law_wrong.nd rfl (Or.inl rfl)) (pgs_cons (pg_name (i := 11) sc_law_wrong.nd rfl (Or.inl rfl)) (pgs_cons (pg_name (i := 12) sc_law_wrong.nd rfl (Or.inl rfl)) pgs_nil))))))
    (C8.pss_cut (ps_if (pt_not (pt_chain op_le op_le (pe_un un_neg pe_int) (pv 9) pe_int)) (pss_one (ps_ret pe_str)) pss_nil)
    (C8.pss_cut (ps_if (PW.pt (pw_or (pt_cmpR op_lt (pe_op op_sub (pv 10) (pv 9)) pe_int (nomark _)) (pw_or (pt_cmpR op_gt (pe_op op_sub (pv 10) (pv 9)) pe_int (nomark _)) (pw_or1 (pt_not (pt_chain op_le op_le (pe_un un_neg pe_int) (pv 10) pe_int)))))) (pss_one (ps_ret pe_str)) pss_nil)
    (C8.pss_cut (ps_if (pt_not (pt_chain op_le op_le (pe_un un_neg pe_int) (pv 11) pe_int)) (pss_one (ps_ret pe_str)) pss_nil)
    (C8.pss_cut (ps_if (PW.pt (pw_or (pt_cmpR op_lt (pe_op op_sub (pv 12) (pv 11)) pe_int (nomark _)) (pw_or (pt_cmpR op_gt (pe_op op_sub (pv 12) (pv 11)) pe_int (nomark _)) (pw_or1 (pt_not (pt_chain op_le op_le (pe_un un_neg pe_int) (pv 12) pe_int)))))) (pss_one (ps_ret pe_str)) pss_nil)
    (C8.pss_cut (ps_if (pt_cmpR op_notIn_seq (pv 2) (pe_lst (pa_cons pe_int (pa_cons pe_int (pa_cons pe_int pa_nil)))) (by rfl)) (pss_one (ps_ret pe_str)) pss_nil)
    (C8.pss_cut (ps_for PassesOwn.never rfl (pi_list (pe_lst (pa_cons (pe_tup (pa_cons pe_str (pa_cons (pv 3) pa_nil))) (pa_cons (pe_tup (pa_cons pe_str (pa_cons (pv 4) pa_nil))) pa_nil)))) (pg_tup rfl (pgs_cons (pg_name (i := 13) sc_law_wrong.nd rfl (Or.inl rfl)) (pgs_cons (pg_name (i := 14) sc_law_wrong.nd rfl (Or.inl rfl)) pgs_nil)))
      (pss_one (ps_if (pt_cmpR op_notIn_seq (pv 14) (pe_lst (pa_cons pe_int (pa_cons pe_int (pa_cons pe_int (pa_cons pe_int (pa_cons pe_int (pa_cons pe_int pa_nil))))))) (by rfl)) (pss_one (ps_ret (pv 13))) pss_nil)))
    (C8.pss_cut (ps_if (PW.pt (pw_or (pt_cmpR (op_neD hu) (pe_lc (own := [("_law_sign", 15)]) (g := (gName 15)) (tt := _) rfl sc_law_wrong.nd (pi_str (pv 5)) (blkOk_by (N := ["_law_things_here", "_law_rect", "_law_mode", "_law_tx", "_law_ty", "_law_word", "_law_planes", "_law_layers_here", "_law_order", "_law_x0", "_law_x1", "_law_y0", "_law_y1", "_law_name", "_law_size", "_law_sign", "_law_n"]) (sc := defScope s_law_wrong) (by decide +kernel)) (fun _ _ _ _ _ => pg_name (i := 15) sc_law_wrong.nd rfl (by first | exact Or.inl rfl | exact Or.inr rfl)) (fun _ _ _ _ _ => (pts_one (pt_cmpR (op_notIn_seq : OpR _ (compareOp .NotIn) (rIn K true)) (pv 15) (pe_lst (pa_cons pe_str (pa_cons pe_str pa_nil))) (by rfl)))) (fun _ _ _ _ _ => (pv 15))) (pe_lst pa_nil) (nomark _)) (pw_or1 (pt_cmpR op_gt (pe_callB call_len_seq (by rfl) T.z_len PySem.boot_len (pa_cons (pe_lc (own := [("_law_sign", 15)]) (g := (gName 15)) (tt := _) rfl sc_law_wrong.nd (pi_str (pv 5)) (blkOk_by (N := ["_law_things_here", "_law_rect", "_law_mode", "_law_tx", "_law_ty", "_law_word", "_law_planes", "_law_layers_here", "_law_order", "_law_x0", "_law_x1", "_law_y0", "_law_y1", "_law_name", "_law_size", "_law_sign", "_law_n"]) (sc := defScope s_law_wrong) (by decide +kernel)) (fun _ _ _ _ _ => pg_name (i := 15) sc_law_wrong.nd rfl (by first | exact Or.inl rfl | exact Or.inr rfl)) (fun _ _ _ _ _ => (pts_one (pt_cmpR op_eq (pv 15) pe_str (nomark _)))) (fun _ _ _ _ _ => pe_int)) pa_nil)) (pv 3) (nomark _))))) (pss_one (ps_ret pe_str)) pss_nil)
    (C8.pss_cut (ps_if (pt_cmpR op_gt (pe_callB call_len_seq (by rfl) T.z_len PySem.boot_len (pa_cons (pe_lc (own := [("_law_sign", 15)]) (g := (gName 15)) (tt := _) rfl sc_law_wrong.nd (pi_str (pv 5)) (blkOk_by (N := ["_law_things_here", "_law_rect", "_law_mode", "_law_tx", "_law_ty", "_law_word", "_law_planes", "_law_layers_here", "_law_order", "_law_x0", "_law_x1", "_law_y0", "_law_y1", "_law_name", "_law_size", "_law_sign", "_law_n"]) (sc := defScope s_law_wrong) (by decide +kernel)) (fun _ _ _ _ _ => pg_name (i := 15) sc_law_wrong.nd rfl (by first | exact Or.inl rfl | exact Or.inr rfl)) (fun _ _ _ _ _ => (pts_one (pt_cmpR op_eq (pv 15) pe_str (nomark _)))) (fun _ _ _ _ _ => pe_int)) pa_nil)) (pv 4) (nomark _)) (pss_one (ps_ret pe_str)) pss_nil)
    (C8.pss_cut (ps_if (pt_not (pt_chain op_le op_le pe_int (pv 6) pe_int)) (pss_one (ps_ret pe_str)) pss_nil)
    (C8.pss_cut (ps_if (PW.pt (pw_or (pt_cmpR op_lt (pe_callB call_len_seq (by rfl) T.z_len PySem.boot_len (pa_cons (pv 7) pa_nil)) pe_int (nomark _)) (pw_or (pt_cmpR op_gt (pe_callB call_len_seq (by rfl) T.z_len PySem.boot_len (pa_cons (pv 7) pa_nil)) pe_int (nomark _)) (pw_or (pt_cmpR (op_neD hu) (pe_lc (own := [("_law_n", 16)]) (g := (gName 16)) (tt := _) rfl sc_law_wrong.nd (pi_list (pv 7)) (blkOk_by (N := ["_law_things_here", "_law_rect", "_law_mode", "_law_tx", "_law_ty", "_law_word", "_law_planes", "_law_layers_here", "_law_order", "_law_x0", "_law_x1", "_law_y0", "_law_y1", "_law_name", "_law_size", "_law_sign", "_law_n"]) (sc := defScope s_law_wrong) (by decide +kernel)) (fun _ _ _ _ _ => pg_name (i := 16) sc_law_wrong.nd rfl (by first | exact Or.inl rfl | exact Or.inr rfl)) (fun _ _ _ _ _ => (pts_one (pt_cmpR op_lt (pv 16) pe_int (nomark _)))) (fun _ _ _ _ _ => (pv 16))) (pe_lst pa_nil) (nomark _)) (pw_or1 (pt_cmpR op_ne (pe_callB (cr_sumS rfl) (by rfl) T.z_sum PyProof.Rows.boot_sum (pa_cons (pv 7) pa_nil)) (pe_op op_mul pe_int (pv 6)) (nomark _))))))) (pss_one (ps_ret pe_str)) pss_nil)
    (pss_one (ps_ret (pe_ifExp (PW.pt (pw_and (pt_cmpR op_eq (pe_callB call_len_str (by rfl) T.z_len PySem.boot_len (pa_cons (pv 8) pa_nil)) pe_int (nomark _)) (pw_and1 (pt_cmpR (op_eqD hu) (pe_callB (call_sortedT rfl) (by rfl) T.z_sorted PyProof.Rows.boot_sorted (pa_cons (pv 8) pa_nil)) (pe_callB (call_sortedT rfl) (by rfl) T.z_sorted PyProof.Rows.boot_sorted (pa_cons pe_str pa_nil)) (nomark _))))) pe_str pe_str))))))))))))))), ?_⟩
    walk_at "ev"
    refine ⟨p, _, rfl, .inl (.inl ht.at_), rfl, ?_⟩
    walk_at "ev"
    refine ⟨rp, _, rfl, .inl (.inl ht.rect), rfl, ?_⟩
    walk_at "ev"
    have bad : ∀ n G, Same H G → wrongOf t = some n → Q (.str n) G := fun n G s e => by
      have := q G s
      rw [e] at this
      exact this
    have s0 := Same.refl H
    refine ⟨fun σ G => σ = [some (.ref p), some (.ref rp), some (.int t.mode), some (.int t.tx), some (.int t.ty), some (.str t.word), some (.int t.planes), some (.ref lp), some (.str t.order), some (.int t.x0), some (.int t.x1), some (.int t.y0), some (.int t.y1), none, none, none, none] ∧ Same H G ∧ RimOk t.x0, ?_, ?_⟩
    · walk_at "ev"
      all_goals first
        | exact bad _ _ s0 (wr1  (by unfold RimOk; omega))
        | exact ⟨rfl, s0, by unfold RimOk; omega⟩
        | exact ⟨s0, by unfold RimOk; omega⟩
    rintro σ G ⟨rfl, s0, c1⟩
    refine ⟨fun σ G => σ = [some (.ref p), some (.ref rp), some (.int t.mode), some (.int t.tx), some (.int t.ty), some (.str t.word), some (.int t.planes), some (.ref lp), some (.str t.order), some (.int t.x0), some (.int t.x1), some (.int t.y0), some (.int t.y1), none, none, none, none] ∧ Same H G ∧ SideOk t.x0 t.x1, ?_, ?_⟩
    · walk_at "ev"
      all_goals first
        | exact bad _ _ s0 (wr2 c1 (by unfold SideOk RimOk; omega))
        | exact ⟨rfl, s0, by unfold SideOk RimOk; omega⟩
        | exact ⟨s0, by unfold SideOk RimOk; omega⟩
    rintro σ G ⟨rfl, s0, c2⟩
    refine ⟨fun σ G => σ = [some (.ref p), some (.ref rp), some (.int t.mode), some (.int t.tx), some (.int t.ty), some (.str t.word), some (.int t.planes), some (.ref lp), some (.str t.order), some (.int t.x0), some (.int t.x1), some (.int t.y0), some (.int t.y1), none, none, none, none] ∧ Same H G ∧ RimOk t.y0, ?_, ?_⟩
    · walk_at "ev"
      all_goals first
        | exact bad _ _ s0 (wr3 c1 c2 (by unfold RimOk; omega))
        | exact ⟨rfl, s0, by unfold RimOk; omega⟩
        | exact ⟨s0, by unfold RimOk; omega⟩
    rintro σ G ⟨rfl, s0, c3⟩
    refine ⟨fun σ G => σ = [some (.ref p), some (.ref rp), some (.int t.mode), some (.int t.tx), some (.int t.ty), some (.str t.word), some (.int t.planes), some (.ref lp), some (.str t.order), some (.int t.x0), some (.int t.x1), some (.int t.y0), some (.int t.y1), none, none, none, none] ∧ Same H G ∧ SideOk t.y0 t.y1, ?_, ?_⟩
    · walk_at "ev"
      all_goals first
        | exact bad _ _ s0 (wr4 c1 c2 c3 (by unfold SideOk RimOk; omega))
        | exact ⟨rfl, s0, by unfold SideOk RimOk; omega⟩
        | exact ⟨s0, by unfold SideOk RimOk; omega⟩
    rintro σ G ⟨rfl, s0, c4⟩
    refine ⟨fun σ G => σ = [some (.ref p), some (.ref rp), some (.int t.mode), some (.int t.tx), some (.int t.ty), some (.str t.word), some (.int t.planes), some (.ref lp), some (.str t.order), some (.int t.x0), some (.int t.x1), some (.int t.y0), some (.int t.y1), none, none, none, none] ∧ Same H G ∧ (0 ≤ t.mode ∧ t.mode ≤ 2), ?_, ?_⟩
    · walk_at "ev"
      refine ⟨by show 3 ≤ sizeLine; decide, fun L nL => ?_⟩
      have s1 := s0.trans (same_upd (o := .lst [V.int 0, V.int 1, V.int 2]) nL)
      walk_at "ev"
      · rename_i hc
        exact bad _ _ s1 (wr5 c1 c2 c3 c4 fun c => notin_t [0, 1, 2] hc (in_012.mpr c))
      · rename_i hc
        exact ⟨s1, in_012.mp (notin_f [0, 1, 2] hc)⟩
    rintro σ G ⟨rfl, s0, c5⟩
    refine ⟨fun σ G => ∃ v w, σ = [some (.ref p), some (.ref rp), some (.int t.mode), some (.int t.tx), some (.int t.ty), some (.str t.word), some (.int t.planes), some (.ref lp), some (.str t.order), some (.int t.x0), some (.int t.x1), some (.int t.y0), some (.int t.y1), v, w, none, none] ∧ Same H G ∧ (0 ≤ t.tx ∧ t.tx ≤ 5) ∧ (0 ≤ t.ty ∧ t.ty ≤ 5), ?_, ?_⟩
    · walk_at "ev"
      refine ⟨by show 2 ≤ sizeLine; decide, fun q1 n1 => ?_⟩
      walk_at "ev"
      refine ⟨by show 2 ≤ sizeLine; decide, fun q2 n2 => ?_⟩
      walk_at "ev"
      refine ⟨by show 2 ≤ sizeLine; decide, fun L nL => ?_⟩
      generalize hG0 : upd (upd (upd G q1 _) q2 _) L _ = G0
      have e1 : G0 q1 = some (.tup [.str "tx", .int t.tx]) := by rw [← hG0]; exact new_at (new_at upd_same n2) nL
      have e2 : G0 q2 = some (.tup [.str "ty", .int t.ty]) := by rw [← hG0]; exact new_at upd_same nL
      have eL : G0 L = some (.lst [.ref q1, .ref q2]) := by rw [← hG0]; exact upd_same
      have sL : Same H G0 := by rw [← hG0]; exact ((s0.trans (same_upd n1)).trans (same_upd n2)).trans (same_upd nL)
      walk_at "ev"
      refine ⟨⟨_, .inl (.inl eL)⟩, for_list (K := K) (a := L) (xs := [.ref q1, .ref q2]) (fun i σ G => ∃ v w, σ = [some (.ref p), some (.ref rp), some (.int t.mode), some (.int t.tx), some (.int t.ty), some (.str t.word), some (.int t.planes), some (.ref lp), some (.str t.order), some (.int t.x0), some (.int t.x1), some (.int t.y0), some (.int t.y1), v, w, none, none] ∧ Same G0 G ∧ (1 ≤ i → 0 ≤ t.tx ∧ t.tx ≤ 5) ∧ (2 ≤ i → 0 ≤ t.ty ∧ t.ty ≤ 5)) ⟨_, _, rfl, Same.refl _, fun z => absurd z (by omega), fun z => absurd z (by omega)⟩ (fun _ _ _ _ ⟨_, _, _, u, _⟩ => .inl (.inl (u _ _ eL))) ?_ ?_⟩
      · rintro i x σ G1 hx ⟨v, w, rfl, s1, k1, k2⟩
        match i, hx, k1, k2 with
        | 0, hx, k1, k2 =>
          obtain rfl : V.ref q1 = x := Option.some.inj hx
          walk_at "ev"
          refine ⟨q1, _, rfl, .inl (.inl (s1 _ _ e1)), rfl, ?_⟩
          walk_at "ev"
          refine ⟨by show 6 ≤ sizeLine; decide, fun M nM => ?_⟩
          have s2 := s1.trans (same_upd (o := .lst [V.int 0, V.int 1, V.int 2, V.int 3, V.int 4, V.int 5]) nM)
          walk_at "ev"
          · rename_i hc
            exact bad _ _ (sL.trans s2) (wr6 c1 c2 c3 c4 c5 fun c => notin_t [0, 1, 2, 3, 4, 5] hc (in_05.mpr c))
          · rename_i hc
            exact ⟨s2, fun _ => in_05.mp (notin_f [0, 1, 2, 3, 4, 5] hc), fun z => absurd z (by omega)⟩
        | 1, hx, k1, k2 =>
          obtain rfl : V.ref q2 = x := Option.some.inj hx
          walk_at "ev"
          refine ⟨q2, _, rfl, .inl (.inl (s1 _ _ e2)), rfl, ?_⟩
          walk_at "ev"
          refine ⟨by show 6 ≤ sizeLine; decide, fun M nM => ?_⟩
          have s2 := s1.trans (same_upd (o := .lst [V.int 0, V.int 1, V.int 2, V.int 3, V.int 4, V.int 5]) nM)
          walk_at "ev"
          · rename_i hc
            exact bad _ _ (sL.trans s2) (wr7 c1 c2 c3 c4 c5 (k1 (by omega)) fun c => notin_t [0, 1, 2, 3, 4, 5] hc (in_05.mpr c))
          · rename_i hc
            exact ⟨s2, fun _ => k1 (by omega), fun _ => in_05.mp (notin_f [0, 1, 2, 3, 4, 5] hc)⟩
        | n + 2, hx, _, _ => exact absurd hx (by simp)
      · rintro σ G1 ⟨v, w, rfl, s1, k1, k2⟩
        exact ⟨v, w, rfl, sL.trans s1, k1 (by show 1 ≤ 2; decide), k2 (Nat.le_refl 2)⟩
    rintro σ G ⟨v13, v14, rfl, s0, c6, c7⟩
    refine ⟨fun σ G => σ = [some (.ref p), some (.ref rp), some (.int t.mode), some (.int t.tx), some (.int t.ty), some (.str t.word), some (.int t.planes), some (.ref lp), some (.str t.order), some (.int t.x0), some (.int t.x1), some (.int t.y0), some (.int t.y1), v13, v14, none, none] ∧ Same H G ∧ cntS t.word 88 + cntS t.word 89 = t.word.length ∧ cntS t.word 88 ≤ t.tx, ?_, ?_⟩
    · walk_at "ev"
      refine fun D nD => lc_it (walk_str (z := t.word)) (fun i G1 => Same H G1 ∧ G1 D = some (.lst (((t.word.cps.toList.take i).filter oth).map sgV))) ⟨s0.trans (same_upd nD), upd_same⟩ (fun _ _ _ _ => trivial) ?_ ?_
      · rintro i x G1 G2 hi ⟨s1, e1⟩ ⟨rfl, c, hc, rfl⟩
        rw [← Array.getElem?_toList] at hc
        walk_at "ev"
        refine ⟨by show 2 ≤ sizeLine; decide, fun M nM => ?_⟩
        walk_at "ev"
        · rename_i hc2
          refine ⟨_, new_at e1 nM, small1000 (by rw [List.length_map]; exact Nat.le_trans (List.length_filter_le _ _) (Nat.le_trans (List.length_take_le' _ _) hw.word)), fun b o h => ?_, ?_⟩
          · rw [upd_ne (ne_of_none (s0 _ _ h) nD)]
            exact same_upd nM _ _ (s1 _ _ h)
          · rw [upd_same, take_next hc, List.filter_append, List.filter_cons_of_pos (notin_XY hc2), List.map_append]
            rfl
        · rename_i hc2
          refine ⟨s1.trans (same_upd nM), ?_⟩
          rw [take_next hc, List.filter_append, List.filter_cons_of_neg (by rw [notin_XY hc2]; decide), List.filter_nil, List.append_nil]
          exact new_at e1 nM
      · rintro G1 ⟨s1, e1⟩
        walk_at "ev"
        refine ⟨(by show 0 ≤ sizeLine; decide), fun M nM => ?_⟩
        have e1' : G1 D = some (.lst ((t.word.cps.toList.filter oth).map sgV)) := by rw [e1, ← Array.length_toList, List.take_length]
        refine q_neEmpty (fun c m => hL c (List.mem_filter.mp m).1) (same_upd nM _ _ e1') upd_same ?_
        have s2 := s1.trans (same_upd (o := .lst []) nM)
        have hcn := oth_cnt t.word
        by_cases hE : t.word.cps.toList.filter oth = []
        · rw [hE] at hcn ⊢
          walk_at "ev"
          refine fun D2 nD2 => lc_it (walk_str (z := t.word)) (fun i G2 => Same H G2 ∧ G2 D2 = some (.lst (List.replicate ((t.word.cps.toList.take i).count 88) (.int 1)))) ⟨s2.trans (same_upd nD2), upd_same⟩ (fun _ _ _ _ => trivial) ?_ ?_
          · rintro i x G2 G3 hi ⟨s3, e3⟩ ⟨rfl, c, hc, rfl⟩
            rw [← Array.getElem?_toList] at hc
            walk_at "ev"
            · rename_i hc2
              obtain rfl := (sg_is is_X).mp hc2
              walk_at "ev"
              refine ⟨_, e3, small1000 (by rw [List.length_replicate]; exact Nat.le_trans List.count_le_length (Nat.le_trans (List.length_take_le' _ _) hw.word)), fun b o h => ?_, ?_⟩
              · rw [upd_ne (ne_of_none (s2 _ _ h) nD2)]
                exact s3 _ _ h
              · rw [upd_same, count_step hc, if_pos rfl, List.replicate_succ']
            · rename_i hc2
              rw [count_step hc, if_neg fun z => hc2 ((sg_is is_X).mpr z)]
              exact ⟨s3, e3⟩
          · rintro G2 ⟨s3, e3⟩
            rw [← Array.length_toList, List.take_length] at e3
            walk_at "ev"
            · rename_i hc2
              rw [List.length_replicate, ← cntS_count] at hc2
              exact bad _ _ s3 (wr8 c1 c2 c3 c4 c5 c6 c7 fun z => by have := z.2.1; omega)
            · rename_i hc2
              rw [List.length_replicate, ← cntS_count] at hc2
              exact ⟨s3, by have : (([] : List Nat).length : Int) = 0 := rfl; omega, by omega⟩
        · have hl : 0 < (t.word.cps.toList.filter oth).length := List.length_pos_iff.mpr hE
          rw [show (!(t.word.cps.toList.filter oth).isEmpty) = true by
            rw [List.isEmpty_eq_false_iff.mpr hE]; rfl]
          walk_at "ev"
          exact bad _ _ s2 (wr8 c1 c2 c3 c4 c5 c6 c7 fun z => by have := z.1; omega)
    rintro σ G ⟨rfl, s0, c8a, c8b⟩
    refine ⟨fun σ G => σ = [some (.ref p), some (.ref rp), some (.int t.mode), some (.int t.tx), some (.int t.ty), some (.str t.word), some (.int t.planes), some (.ref lp), some (.str t.order), some (.int t.x0), some (.int t.x1), some (.int t.y0), some (.int t.y1), v13, v14, none, none] ∧ Same H G ∧ WordOk t.word t.tx t.ty, ?_, ?_⟩
    · walk_at "ev"
      refine fun D2 nD2 => lc_it (walk_str (z := t.word)) (fun i G2 => Same H G2 ∧ G2 D2 = some (.lst (List.replicate ((t.word.cps.toList.take i).count 89) (.int 1)))) ⟨s0.trans (same_upd nD2), upd_same⟩ (fun _ _ _ _ => trivial) ?_ ?_
      · rintro i x G2 G3 hi ⟨s3, e3⟩ ⟨rfl, c, hc, rfl⟩
        rw [← Array.getElem?_toList] at hc
        walk_at "ev"
        · rename_i hc2
          obtain rfl := (sg_is is_Y).mp hc2
          walk_at "ev"
          refine ⟨_, e3, small1000 (by rw [List.length_replicate]; exact Nat.le_trans List.count_le_length (Nat.le_trans (List.length_take_le' _ _) hw.word)), fun b o h => ?_, ?_⟩
          · rw [upd_ne (ne_of_none (s0 _ _ h) nD2)]
            exact s3 _ _ h
          · rw [upd_same, count_step hc, if_pos rfl, List.replicate_succ']
        · rename_i hc2
          rw [count_step hc, if_neg fun z => hc2 ((sg_is is_Y).mpr z)]
          exact ⟨s3, e3⟩
      · rintro G2 ⟨s3, e3⟩
        rw [← Array.length_toList, List.take_length] at e3
        walk_at "ev"
        · rename_i hc2
          rw [List.length_replicate, ← cntS_count] at hc2
          exact bad _ _ s3 (wr8 c1 c2 c3 c4 c5 c6 c7 fun z => by have := z.2.2; omega)
        · rename_i hc2
          rw [List.length_replicate, ← cntS_count] at hc2
          exact ⟨s3, c8a, c8b, by omega⟩
    rintro σ G ⟨rfl, s0, c8⟩
    refine ⟨fun σ G => σ = [some (.ref p), some (.ref rp), some (.int t.mode), some (.int t.tx), some (.int t.ty), some (.str t.word), some (.int t.planes), some (.ref lp), some (.str t.order), some (.int t.x0), some (.int t.x1), some (.int t.y0), some (.int t.y1), v13, v14, none, none] ∧ Same H G ∧ (1 ≤ t.planes ∧ t.planes ≤ 20), ?_, ?_⟩
    · walk_at "ev"
      all_goals first
        | exact bad _ _ s0 (wr9 c1 c2 c3 c4 c5 c6 c7 c8 (by omega))
        | exact ⟨s0, by omega⟩
    rintro σ G ⟨rfl, s0, c9⟩
    refine ⟨fun σ G => σ = [some (.ref p), some (.ref rp), some (.int t.mode), some (.int t.tx), some (.int t.ty), some (.str t.word), some (.int t.planes), some (.ref lp), some (.str t.order), some (.int t.x0), some (.int t.x1), some (.int t.y0), some (.int t.y1), v13, v14, none, none] ∧ Same H G ∧ LayOk t.layers t.planes, ?_, ?_⟩
    · have hlay : G lp = some (.lst (t.layers.map V.int)) := s0 _ _ ht.lay
      walk_at "ev"
      · rename_i hc1
        rw [List.length_map] at hc1
        exact bad _ _ s0 (wr10 c1 c2 c3 c4 c5 c6 c7 c8 c9 fun z => by have := z.1; omega)
      · rename_i hc1
        rw [List.length_map] at hc1
        exact bad _ _ s0 (wr10 c1 c2 c3 c4 c5 c6 c7 c8 c9 fun z => by have := z.2.1; omega)
      rename_i hc1 hc2
      rw [List.length_map] at hc1 hc2
      refine ⟨⟨_, .inl (.inl hlay)⟩, fun D nD => lc_it (walk_list (xs := t.layers.map V.int)) (fun i G1 => Same H G1 ∧ G1 D = some (.lst (((t.layers.take i).filter (fun n => decide (n < 1))).map V.int))) ⟨s0.trans (same_upd nD), upd_same⟩ (fun _ _ _ h => .inl (.inl (h.1 _ _ ht.lay))) ?_ ?_⟩
      · rintro i x G1 G2 hi ⟨s1, e1⟩ ⟨rfl, hx⟩
        rw [List.getElem?_map] at hx
        obtain ⟨n, hn, rfl⟩ := Option.map_eq_some_iff.mp hx
        walk_at "ev"
        · rename_i hc3
          refine ⟨_, e1, small1000 (by rw [List.length_map]; exact Nat.le_trans (List.length_filter_le _ _) (Nat.le_trans (List.length_take_le' _ _) (by omega))), fun b o h => ?_, ?_⟩
          · rw [upd_ne (ne_of_none (s0 _ _ h) nD)]
            exact s1 _ _ h
          · rw [upd_same, List.take_add_one, hn, Option.toList_some, List.filter_append, List.filter_cons_of_pos (p := fun n : Int => decide (n < 1)) (a := n) (decide_eq_true hc3), List.map_append]
            rfl
        · rename_i hc3
          refine ⟨s1, ?_⟩
          rw [List.take_add_one, hn, Option.toList_some, List.filter_append, List.filter_cons_of_neg (p := fun n : Int => decide (n < 1)) (a := n) (by rw [decide_eq_false hc3]; decide), List.filter_nil, List.append_nil]
          exact e1
      · rintro G1 ⟨s1, e1⟩
        rw [List.length_map, List.take_length] at e1
        walk_at "ev"
        refine ⟨(by show 0 ≤ sizeLine; decide), fun M nM => q_neII (ms := []) (same_upd nM _ _ e1) upd_same ?_⟩
        have s2 := s1.trans (same_upd (o := .lst []) nM)
        have hall : t.layers.filter (fun n => decide (n < 1)) = [] ↔ ∀ n ∈ t.layers, 1 ≤ n := by
          rw [List.filter_eq_nil_iff]
          exact ⟨fun h n m => by have := h n m; rw [decide_eq_true_iff] at this; omega, fun h n m => by have := h n m; rw [decide_eq_true_iff]; omega⟩
        by_cases hE : t.layers.filter (fun n => decide (n < 1)) = []
        · rw [decide_eq_true hE]
          walk_at "ev"
          refine ⟨lp, t.layers, rfl, .inl (.inl (.inl (s2 _ _ ht.lay))), ?_⟩
          walk_at "ev"
          · rename_i hc3
            exact bad _ _ s2 (wr10 c1 c2 c3 c4 c5 c6 c7 c8 c9 fun z => hc3 z.2.2.2)
          · rename_i hc3
            exact ⟨s2, by omega, by omega, hall.mp hE, Decidable.not_not.mp hc3⟩
        · rw [decide_eq_false hE]
          walk_at "ev"
          exact bad _ _ s2 (wr10 c1 c2 c3 c4 c5 c6 c7 c8 c9 fun z => hE (hall.mpr z.2.2.1))
    rintro σ G ⟨rfl, s0, c10⟩
    have ho : t.order.length ≤ sizeLine := Nat.le_of_lt (small1000 (Nat.le_of_lt (Nat.lt_of_lt_of_le (ord_few _ hw.order).1 (by decide))))
    have h4 : ∀ z ∈ ordOk, z.length = 4 := by decide +kernel
    have hT : ("TLCB" : Str) ∈ ordOk := by decide +kernel
    walk_at "ev"
    refine ⟨ho, ?_⟩
    walk_at "ev"
    · refine ⟨(ord_few _ hw.order).1, fun ys y hp hs2 ny => ?_⟩
      obtain rfl := sorted_ordS hp hs2
      walk_at "ev"
      refine ⟨(ord_few _ (List.mem_append.mpr (.inl hT))).1, fun ys z hp hs3 nz => ?_⟩
      obtain rfl := sorted_ordS hp hs3
      have sA := (s0.trans (same_upd (o := .lst ((ordS t.order).map V.str)) ny)).trans (same_upd (o := .lst ((ordS "TLCB").map V.str)) nz)
      have dl : Dp K (upd (upd G y (.lst ((ordS t.order).map V.str))) z (.lst ((ordS "TLCB").map V.str))) (.ref y) (.list ((ordS t.order).map PyData.str)) := dp_strs (.inl (.inl (new_at upd_same nz)))
      have dk : Dp K (upd (upd G y (.lst ((ordS t.order).map V.str))) z (.lst ((ordS "TLCB").map V.str))) (.ref z) (.list ((ordS "TLCB").map PyData.str)) := dp_strs (.inl (.inl upd_same))
      generalize upd (upd G y (.lst ((ordS t.order).map V.str))) z (.lst ((ordS "TLCB").map V.str)) = G9 at *
      rw [ord_yes _ hT] at dk
      rcases List.mem_append.mp hw.order with hy | hn
      · rw [ord_yes _ hy] at dl
        refine q_eqS dl dk sh_keys ?_
        walk_at "ev"
        have := q G9 sA
        rw [wr12 c1 c2 c3 c4 c5 c6 c7 c8 c9 c10 hy] at this
        exact this
      · refine ⟨_, _, dl, dk, (ord_no _ hn).2.1, sh_keys, ?_⟩
        rw [show PyData.eqv (.list ((ordS t.order).map PyData.str)) (.list ([("B" : Str), "C", "L", "T"].map PyData.str)) = false from (ord_no _ hn).1]
        walk_at "ev"
        exact bad _ _ sA (wr11 c1 c2 c3 c4 c5 c6 c7 c8 c9 c10 (ord_no _ hn).2.2)
    · rename_i hc
      refine bad _ _ s0 (wr11 c1 c2 c3 c4 c5 c6 c7 c8 c9 c10 fun m => hc ?_)
      rw [h4 _ m]
      rfl
structure SmallZ (z : Int) : Prop where
  small : z < 1073741824
theorem pow_32 {n : Nat} (h : n ≤ 5) : SmallZ ((2 : Int) ^ n) := by
  refine ⟨?_⟩
  have : n = 0 ∨ n = 1 ∨ n = 2 ∨ n = 3 ∨ n = 4 ∨ n = 5 := by omega
  rcases this with rfl | rfl | rfl | rfl | rfl | rfl <;> decide
theorem pow_at {t : Int} (h0 : 0 ≤ t) (h1 : t ≤ 5) : atI [V.int 1, V.int 2, V.int 4, V.int 8, V.int 16, V.int 32] t = some (.int (2 ^ t.toNat)) := by
  obtain ⟨n, rfl⟩ := Int.eq_ofNat_of_zero_le h0
  have hn : n ≤ 5 := by omega
  have : n = 0 ∨ n = 1 ∨ n = 2 ∨ n = 3 ∨ n = 4 ∨ n = 5 := by omega
  rcases this with rfl | rfl | rfl | rfl | rfl | rfl <;> rfl
def spPieces : Sp := fun vs H Q _ => ∃ (p rp lp : Addr) (t : Th), vs = [.ref p] ∧ TgAt H p rp lp t ∧ 1 ≤ t.x1 - t.x0 ∧ t.x1 - t.x0 ≤ 32 ∧ 1 ≤ t.y1 - t.y0 ∧ t.y1 - t.y0 ≤ 32 ∧ 0 ≤ t.tx ∧ t.tx ≤ 5 ∧ 0 ≤ t.ty ∧ t.ty ≤ 5 ∧ t.word.length ≤ 1000 ∧ t.layers.length ≤ 100 ∧ ∀ H', Same H H' → Q (.int (piecesOf t)) H'
theorem ok_pieces {f : Addr} {fd : FuncData} {k : Nat} (F : Fun K "_law_pieces" "_law_pieces" s_law_pieces f fd) (T : Txt mg) : FnOk P w K mg base CX0 (k + 1) f fd ["_law_things_here"] spPieces := by
  refine F.ok sc_law_pieces (fun vs H Q E h => ?_) (fun cdv A outer s H vs Q E hr h => ?_)
  · obtain ⟨p, rp, lp, t, rfl, _⟩ := h
    rfl
  · obtain ⟨p, rp, lp, t, rfl, ht, b1, b2, b3, b4, b5, b6, b7, b8, b9, b10, q⟩ := h
    have p3 : SmallZ ((2 : Int) ^ t.tx.toNat) := pow_32 (Int.toNat_le.mpr b6)
    have p4 : SmallZ ((2 : Int) ^ t.ty.toNat) := pow_32 (Int.toNat_le.mpr b8)
    refine ⟨_, (C8.pss_cut (ps_asg (pv 0) (pg_lst rfl (pgs_cons (pg_tup rfl (pgs_cons (pg_name (i := 1) sc_law_pieces.nd rfl (Or.inl rfl)) (pgs_cons (pg_name (i := 2) sc_law_pieces.nd rfl (Or.inl rfl)) (pgs_cons (pg_name (i := 3) sc_law_pieces.nd rfl (Or.inl rfl)) (pgs_cons (pg_name (i := 4) sc_law_pieces.nd rfl (Or.inl rfl)) pgs_nil))))) (pgs_cons (pg_name (i := 5) sc_law_pieces.nd rfl (Or.inl rfl)) (pgs_cons (pg_name (i := 6) sc_law_pieces.nd rfl (Or.inl rfl)) (pgs_cons (pg_name (i := 7) sc_law_pieces.nd rfl (Or.inl rfl)) (pgs_cons (pg_name (i := 8) sc_law_pieces.nd rfl (Or.inl rfl)) (pgs_cons (pg_name (i := 9) sc_law_pieces.nd rfl (Or.inl rfl)) (pgs_cons (pg_name (i := 10) sc_law_pieces.nd rfl (Or.inl rfl)) (pgs_cons (pg_name (i := 11) sc_law_pieces.nd rfl (Or.inl rfl)) pgs_nil))))))))))
    (C8.pss_cut (ps_par (i := 12) (j := 13) rfl sc_law_pieces.nd rfl rfl (by decide) rfl rfl (pa_cons (pe_ix ix_list (pe_lst (pa_cons pe_int (pa_cons pe_int (pa_cons pe_int (pa_cons pe_int (pa_cons pe_int (pa_cons pe_int pa_nil))))))) (pv 6) (fun _ _ => rfl)) (pa_cons (pe_ix ix_list (pe_lst (pa_cons pe_int (pa_cons pe_int (pa_cons pe_int (pa_cons pe_int (pa_cons pe_int (pa_cons pe_int pa_nil))))))) (pv 7) (fun _ _ => rfl)) pa_nil)) rfl)
    (C8.pss_cut (ps_set (i := 14) sc_law_pieces.nd rfl (Or.inl rfl) (pe_op op_mul (pe_op op_add (pe_op op_sub (pe_op op_fdiv (pe_op op_sub (pv 2) pe_int) (pv 12)) (pe_op op_fdiv (pv 1) (pv 12))) pe_int) (pe_op op_add (pe_op op_sub (pe_op op_fdiv (pe_op op_sub (pv 4) pe_int) (pv 13)) (pe_op op_fdiv (pv 3) (pv 13))) pe_int)))
    (pss_one (ps_ret (pe_op op_mul (pe_op op_mul (pe_op op_mul (pv 14) (pe_ifExp (pt_cmpR op_eq (pv 5) pe_int (nomark _)) pe_int pe_int)) (pe_op op_add (pe_callB call_len_str (by rfl) T.z_len PySem.boot_len (pa_cons (pv 8) pa_nil)) pe_int)) (pe_callB call_len_seq (by rfl) T.z_len PySem.boot_len (pa_cons (pv 10) pa_nil)))))))), ?_⟩
    refine ⟨fun σ G => σ = [some (.ref p), some (.int t.x0), some (.int t.x1), some (.int t.y0), some (.int t.y1), some (.int t.mode), some (.int t.tx), some (.int t.ty), some (.str t.word), some (.int t.planes), some (.ref lp), some (.str t.order), none, none, none] ∧ G = H, ?_, ?_⟩
    · walk_at "ev"
      refine ⟨p, _, rfl, .inl (.inl ht.at_), rfl, ?_⟩
      walk_at "ev"
      refine ⟨rp, _, rfl, .inl (.inl ht.rect), rfl, ?_⟩
      walk_at "ev"
      exact rfl
    rintro σ G ⟨rfl, rfl⟩
    refine ⟨fun σ G1 => σ = [some (.ref p), some (.int t.x0), some (.int t.x1), some (.int t.y0), some (.int t.y1), some (.int t.mode), some (.int t.tx), some (.int t.ty), some (.str t.word), some (.int t.planes), some (.ref lp), some (.str t.order), some (.int (2 ^ t.tx.toNat)), some (.int (2 ^ t.ty.toNat)), none] ∧ Same G G1, ?_, ?_⟩
    · walk_at "ev"
      refine ⟨by show 6 ≤ sizeLine; decide, fun L nL => ?_⟩
      walk_at "ev"
      refine ⟨L, _, _, _, rfl, rfl, .inl (.inl upd_same), pow_at b5 b6, ?_⟩
      walk_at "ev"
      refine ⟨by show 6 ≤ sizeLine; decide, fun M nM => ?_⟩
      walk_at "ev"
      refine ⟨M, _, _, _, rfl, rfl, .inl (.inl upd_same), pow_at b7 b8, ?_⟩
      walk_at "ev"
      exact (same_upd nL).trans (same_upd nM)
    rintro σ G1 ⟨rfl, s0⟩
    have key : ∀ H', Same G H' → ∀ z : Int, z = piecesOf t → Q (.int z) H' := fun H' s z e => e ▸ q H' s
    obtain ⟨w1, w2⟩ := span_few (t := t.tx) b1 b2
    obtain ⟨w3, w4⟩ := span_few (t := t.ty) b3 b4
    unfold piecesOf spanN at key
    unfold spanN at w1 w2 w3 w4
    have p1 : (0 : Int) < 2 ^ t.tx.toNat := Int.pow_pos (by decide)
    have p2 : (0 : Int) < 2 ^ t.ty.toNat := Int.pow_pos (by decide)
    generalize (2 : Int) ^ t.tx.toNat = W1 at *
    generalize (2 : Int) ^ t.ty.toNat = W2 at *
    refine ⟨fun σ G2 => σ = [some (.ref p), some (.int t.x0), some (.int t.x1), some (.int t.y0), some (.int t.y1), some (.int t.mode), some (.int t.tx), some (.int t.ty), some (.str t.word), some (.int t.planes), some (.ref lp), some (.str t.order), some (.int W1), some (.int W2), some (.int (((t.x1 - 1) / W1 - t.x0 / W1 + 1) * ((t.y1 - 1) / W2 - t.y0 / W2 + 1)))] ∧ Same G G2, ?_, ?_⟩
    · walk_at "ev"
      refine ⟨⟨p1, p3.small⟩, ?_⟩
      walk_at "ev"
      refine ⟨⟨p1, p3.small⟩, ?_⟩
      walk_at "ev"
      refine ⟨⟨p2, p4.small⟩, ?_⟩
      walk_at "ev"
      refine ⟨⟨p2, p4.small⟩, ?_⟩
      refine ⟨_, _, rfl, rfl, ?_⟩
      refine ⟨_, _, rfl, rfl, ?_⟩
      refine ⟨_, _, rfl, rfl, .inl ⟨by omega, by omega⟩, ?_⟩
      exact ⟨rfl, s0⟩
    rintro σ G2 ⟨rfl, s2⟩
    have hlay := s2 _ _ ht.lay
    generalize t.x0 / W1 = fx at *
    generalize (t.x1 - 1) / W1 = bx at *
    generalize t.y0 / W2 = fy at *
    generalize (t.y1 - 1) / W2 = bY at *
    have r1 : 1 ≤ bx - fx + 1 ∧ bx - fx + 1 ≤ 32 := by omega
    have r2 : 1 ≤ bY - fy + 1 ∧ bY - fy + 1 ≤ 32 := by omega
    rw [show bx + 1 - fx = bx - fx + 1 by omega, show bY + 1 - fy = bY - fy + 1 by omega] at key
    have m1 : 1 * 1 ≤ (bx - fx + 1) * (bY - fy + 1) := Int.mul_le_mul r1.1 r2.1 (by decide) (by omega)
    have m2 : (bx - fx + 1) * (bY - fy + 1) ≤ 32 * 32 := Int.mul_le_mul r1.2 r2.2 (by omega) (by decide)
    generalize (bx - fx + 1) * (bY - fy + 1) = tl at *
    clear w1 w2 w3 w4 r1 r2
    walk_at "ev"
    · rename_i hc
      refine ⟨Nat.le_of_lt (small1000 b9), ?_⟩
      refine ⟨_, _, rfl, rfl, ?_⟩
      refine ⟨_, _, rfl, rfl, .inr ⟨by omega, by omega⟩, ?_⟩
      refine ⟨_, rfl, ?_⟩
      refine ⟨lp, _, rfl, .inl (.inl (.inl hlay)), ?_⟩
      rw [List.length_map]
      refine ⟨_, _, rfl, rfl, .inr ⟨by omega, by omega⟩, ?_⟩
      exact key G2 s2 _ (by rw [if_pos hc, Int.mul_comm 1 tl])
    · rename_i hc
      refine ⟨Nat.le_of_lt (small1000 b9), ?_⟩
      refine ⟨_, _, rfl, rfl, ?_⟩
      refine ⟨_, _, rfl, rfl, .inr ⟨by omega, by omega⟩, ?_⟩
      refine ⟨_, rfl, ?_⟩
      refine ⟨lp, _, rfl, .inl (.inl (.inl hlay)), ?_⟩
      rw [List.length_map]
      refine ⟨_, _, rfl, rfl, .inr ⟨by omega, by omega⟩, ?_⟩
      exact key G2 s2 _ (by rw [if_neg hc, Int.mul_comm 3 tl])
/-! ### the things -/
/-- what stands in a heap, besides what stood before -/
structure Bag (G0 G : Hp) (xs : List (Addr × HO)) : Prop where
  same : Same G0 G
  all : ∀ e ∈ xs, G e.1 = some e.2
theorem Bag.nil (G : Hp) : Bag G G [] := ⟨Same.refl G, fun _ m => nomatch m⟩
theorem Bag.add {G0 G : Hp} {xs : List (Addr × HO)} {p : Addr} {o : HO} (b : Bag G0 G xs) (n : G p = none) : Bag G0 (upd G p o) (xs ++ [(p, o)]) :=
  ⟨b.same.trans (same_upd n), fun e m => by
    rcases List.mem_append.mp m with m | m
    · exact same_upd n _ _ (b.all e m)
    · rw [List.mem_singleton.mp m]
      exact upd_same⟩
theorem Bag.get {G0 G : Hp} {xs : List (Addr × HO)} (b : Bag G0 G xs) (i : Nat) {e : Addr × HO} (h : xs[i]? = some e) : G e.1 = some e.2 := b.all e (List.mem_of_getElem? h)
theorem wordL_app {x y : Str} (hx : WordL x) (hy : WordL y) : WordL (x ++ y) := fun c m => by
  rw [show (x ++ y).cps.toList = x.cps.toList ++ y.cps.toList from Array.toList_append] at m
  rcases List.mem_append.mp m with m | m
  · exact hx c m
  · exact hy c m
theorem wordL_rep {z : Str} {k : Int} (hz : WordL z) : WordL (repS z k) := fun c m => by
  obtain ⟨l, ml, mc⟩ := List.mem_flatten.mp (show c ∈ (List.replicate k.toNat z.cps.toList).flatten from m)
  rw [(List.mem_replicate.mp ml).2] at mc
  exact hz c mc
theorem wordL_rev {z : Str} (hz : WordL z) : WordL (revS z) := fun c m => hz c (List.mem_reverse.mp (show c ∈ z.cps.toList.reverse from m))
theorem rev_len (z : Str) : (revS z).length = z.length := revS_size z
theorem rep_len {z : Str} {k : Int} (hz : z.length = 1) : (repS z k).length = k.toNat := by
  show (List.replicate k.toNat z.cps.toList).flatten.toArray.size = _
  rw [List.size_toArray]
  have : z.cps.toList.length = 1 := by rw [Array.length_toList]; exact hz
  induction k.toNat with
  | zero => rfl
  | succ n ih => rw [List.replicate_succ, List.flatten_cons, List.length_append, ih, this]; omega
theorem str_app_len (x y : Str) : (x ++ y).length = x.length + y.length := by
  show (x.cps ++ y.cps).size = _
  rw [Array.size_append]
  rfl
theorem WordX : WordL "X" ∧ WordL "Y" ∧ WordL "x" ∧ WordL "Z" ∧ WordL " " ∧ WordL "YX" := by
  unfold WordL
  decide +kernel
theorem lenX : ("X" : Str).length = 1 ∧ ("Y" : Str).length = 1 ∧ ("x" : Str).length = 1 ∧ ("Z" : Str).length = 1 ∧ (" " : Str).length = 1 ∧ ("YX" : Str).length = 2 := by decide +kernel
theorem cutV_ints (l : List Int) (lo hi : Option Int) : ∃ l' : List Int, cutV (l.map V.int) lo hi = l'.map V.int ∧ l'.length ≤ l.length := by
  unfold cutV
  rw [← List.map_drop, ← List.map_take]
  exact ⟨_, rfl, by rw [List.length_take, List.length_drop]; omega⟩
theorem lst_ne {H : Hp} {p q r : Addr} {l : List Int} {xs : List V} (h1 : H p = some (.lst (l.map V.int))) (h2 : H q = some (.lst (.ref r :: xs))) : p ≠ q := by
  rintro rfl
  rw [h1] at h2
  have := HO.lst.inj (Option.some.inj h2)
  cases l <;> simp at this
theorem tup_ne {H : Hp} {p q : Addr} {l : List V} {xs : List V} (h1 : H p = some (.tup l)) (h2 : H q = some (.lst xs)) : p ≠ q := by
  rintro rfl
  rw [h1] at h2
  cases h2
theorem last_int {l : List Int} (h : l ≠ []) : ∃ y : Int, atI (l.map V.int) (-1) = some (.int y) := by
  obtain ⟨a, y, rfl⟩ : ∃ a y, l = a ++ [y] := ⟨l.dropLast, l.getLast h, (List.dropLast_concat_getLast h).symm⟩
  rw [List.map_append]
  exact ⟨y, atI_snoc (a.map V.int) (.int y)⟩
/-- an expression under a weaker promise of its own -/
def tWeak (te te' : TE) : TE := fun σ H Q => te' σ H Q ∧ ∀ σ H Q, te' σ H Q → te σ H Q
theorem pe_weak {X : Cx} {e : Expr} {te te' : TE} (h : PE X e te) : PE X e (tWeak te te') := ⟨fun pins s σ H Q I ⟨h1, h2⟩ => h.run pins s σ H Q I (h2 _ _ _ h1)⟩
/-- a thing that may be put at the place 1 + r -/
def ItemOk (H G : Hp) : Nat → V → Prop
  | 0, v => ∃ y : Int, v = .int y
  | 1, v => ∃ y : Int, v = .int y
  | 2, v => ∃ y : Int, v = .int y
  | 3, v => ∃ y : Str, v = .str y ∧ WordL y ∧ y.length ≤ 1000
  | 4, v => ∃ y : Int, v = .int y ∧ -1000 ≤ y ∧ y ≤ 1000
  | 5, v => ∃ (q : Addr) (l : List Int), v = .ref q ∧ H q = none ∧ G q = some (.lst (l.map V.int)) ∧ l.length ≤ 100
  | _, v => ∃ y : Str, v = .str y ∧ y ∈ ordOk ++ ordNo
def Nest (H G : Hp) (M : Addr) : Prop := ∃ Ls : List Addr, G M = some (.lst (Ls.map V.ref)) ∧ Ls.length = 7 ∧
  ∀ r Lr, Ls[r]? = some Lr → H Lr = none ∧ ∃ items : List V, G Lr = some (.lst items) ∧ items ≠ [] ∧ items.length ≤ 1000 ∧ ∀ v ∈ items, ItemOk H G r v
def tNest : TE := fun σ H Q => ∃ (v0 v1 v2 v3 v9 v10 v11 v12 : Option V) (tx ty pl : Int) (z : Str) (lp : Addr) (l : List Int),
  σ = [v0, v1, v2, v3, some (.int tx), some (.int ty), some (.str z), some (.int pl), some (.ref lp), v9, v10, v11, v12] ∧ 0 ≤ tx ∧ tx ≤ 5 ∧ 0 ≤ ty ∧ ty ≤ 5 ∧ 0 ≤ pl ∧ pl ≤ 20 ∧ WordL z ∧ z.length ≤ 10 ∧
    H lp = some (.lst (l.map V.int)) ∧ l ≠ [] ∧ l.length ≤ 10 ∧ ∀ (M : Addr) (G : Hp), Same H G → Nest H G M → Q (.ref M) G
theorem ixN_nat {n j : Nat} (h : j < n) : ixN n (j : Int) = some j := by
  unfold ixN
  rw [if_pos (Int.natCast_nonneg _), if_pos (by omega)]
  rfl
theorem ItemOk.up {H G1 G GV : Hp} {v : V} (h1 : ∀ q, G1 q = none → H q = none) (h2 : ∀ q o, G1 q = none → G q = some o → GV q = some o) : ∀ {r : Nat}, ItemOk G1 G r v → ItemOk H GV r v
  | 0, h => h
  | 1, h => h
  | 2, h => h
  | 3, h => h
  | 4, h => h
  | 5, ⟨q, l, e, n, g, hl⟩ => ⟨q, l, e, h1 q n, h2 q _ n g, hl⟩
  | _ + 6, h => h
theorem Up.updN {a p : Addr} {H G : Hp} {o : HO} (u : Up a H G) (n : H p = none) : Up a H (upd G p o) := fun b o' hb h => (upd_ne (fun e => by rw [e, n] at h; cases h)).trans (u b o' hb h)
theorem src_upd {a p : Addr} {G : Hp} {o : HO} (s : Src G a) (n : a ≠ p) : Src (upd G p o) a := by
  obtain ⟨x, y, e, h⟩ := s
  exact ⟨x, y, (upd_ne n).trans e, h⟩
theorem set_item {p rp lq : Addr} {t : Th} {v : V} {H GV : Hp} (r : Nat) (hr : r < 7) (ht : TgAt GV p rp lq t) (hw : ThW t) (hL : WordL t.word) (hlq : H lq = none) (iv : ItemOk H GV r v) :
    ∃ lq' t', TgAt (upd GV p (.lst ([V.ref rp, .int t.mode, .int t.tx, .int t.ty, .str t.word, .int t.planes, .ref lq, .str t.order].set (1 + r) v))) p rp lq' t' ∧ ThW t' ∧ WordL t'.word ∧ H lq' = none := by
  have e1 : ∀ o, upd GV p o rp = some (.tup [.int t.x0, .int t.x1, .int t.y0, .int t.y1]) := fun o => (upd_ne (tup_ne ht.rect ht.at_)).trans ht.rect
  have e2 : ∀ o, upd GV p o lq = some (.lst (t.layers.map V.int)) := fun o => (upd_ne (lst_ne ht.lay ht.at_)).trans ht.lay
  match r, iv with
  | 0, ⟨y, e⟩ => subst e; exact ⟨lq, { t with mode := y }, ⟨upd_same, e1 _, e2 _⟩, ⟨hw.word, hw.p1, hw.p2, hw.order, hw.few⟩, hL, hlq⟩
  | 1, ⟨y, e⟩ => subst e; exact ⟨lq, { t with tx := y }, ⟨upd_same, e1 _, e2 _⟩, ⟨hw.word, hw.p1, hw.p2, hw.order, hw.few⟩, hL, hlq⟩
  | 2, ⟨y, e⟩ => subst e; exact ⟨lq, { t with ty := y }, ⟨upd_same, e1 _, e2 _⟩, ⟨hw.word, hw.p1, hw.p2, hw.order, hw.few⟩, hL, hlq⟩
  | 3, ⟨y, e, hy, ly⟩ => subst e; exact ⟨lq, { t with word := y }, ⟨upd_same, e1 _, e2 _⟩, ⟨ly, hw.p1, hw.p2, hw.order, hw.few⟩, hy, hlq⟩
  | 4, ⟨y, e, y0, y1⟩ => subst e; exact ⟨lq, { t with planes := y }, ⟨upd_same, e1 _, e2 _⟩, ⟨hw.word, y0, y1, hw.order, hw.few⟩, hL, hlq⟩
  | 5, ⟨q, l, e, n, g, hl⟩ => subst e; exact ⟨q, { t with layers := l }, ⟨upd_same, e1 _, (upd_ne (lst_ne g ht.at_)).trans g⟩, ⟨hw.word, hw.p1, hw.p2, hw.order, hl⟩, hL, n⟩
  | 6, ⟨y, e, ho⟩ => subst e; exact ⟨lq, { t with order := y }, ⟨upd_same, e1 _, e2 _⟩, ⟨hw.word, hw.p1, hw.p2, ho, hw.few⟩, hL, hlq⟩
  | n + 7, _ => exact absurd hr (by omega)
def negOne : TE := tUn (rU fun i => V.int (-i)) (tC (V.int 1))
def oStr : R2 := fun x y H Q => ∃ i j, x = V.str i ∧ y = V.str j ∧ i.length + j.length ≤ sizeLine ∧ Q (V.str (i ++ j)) H
def oRep : R2 := fun x y H Q => ∃ z k, x = V.str z ∧ y = V.int k ∧ z.length ≤ 1000 ∧ -1000 ≤ k ∧ k ≤ 1000 ∧ Q (V.str (repS z k)) H
def tStrs : List Str → TA
  | [] => tNil
  | z :: r => tCons (tC (V.str z)) (tStrs r)
/-- the nested list, as its rules read it -/
def tNestE (K : PySem.W.Frag) : TE := tLst (tCons (tLst (tCons negOne (tCons (tC (V.int 3)) (tCons (tOp (fun x y H Q => x = V.int 10 ∧ y = V.int 9 ∧ Q (V.int 1000000000) H) (tC (V.int 10)) (tC (V.int 9))) tNil))))
  (tCons (tLst (tCons negOne (tCons (tC (V.int 6)) (tCons (tC (V.int 64)) tNil)))) (tCons (tLst (tCons (tC (V.int 6)) (tCons negOne (tCons (tC (V.int 32)) tNil))))
  (tCons (tLst (tCons (tC (V.str "Z")) (tCons (tOp oStr (tVar 6) (tC (V.str "x"))) (tCons (tOp oRep (tC (V.str "X")) (tOp (rI0 fun i j => V.int (i + j)) (tVar 4) (tC (V.int 1))))
    (tCons (tOp oStr (tOp oRep (tC (V.str "Y")) (tOp (rI0 fun i j => V.int (i + j)) (tVar 5) (tC (V.int 1)))) (tVar 6)) (tCons (tC (V.str " ")) tNil))))))
  (tCons (tLst (tCons (tC (V.int 0)) (tCons (tC (V.int 21)) (tCons negOne tNil))))
  (tCons (tLst (tCons (tLst tNil) (tCons (tOp rCat (tVar 8) (tLst (tCons (tC (V.int 1)) tNil))) (tCons (tOp rCat (tLst (tCons (tC (V.int 0)) tNil)) (tVar 8))
    (tCons (tOp rCat (tSl (rSlL K) (tVar 8) tNoPart (tPart negOne)) (tLst (tCons (tOp (rI0 fun i j => V.int (i - j)) (tOp (rIxL K) (tVar 8) negOne) (tC (V.int 1))) tNil)))
    (tCons (tOp rRep (tLst (tCons (tC (V.int 1)) tNil)) (tC (V.int 7))) (tCons (tLst (tCons (tOp (rI0 fun i j => V.int (i + j)) (tOp (rI CMul fun i j => V.int (i * j)) (tC (V.int 3)) (tVar 7)) (tC (V.int 1))) (tCons negOne tNil))) tNil)))))))
  (tCons (tLst (tStrs ["", "BCL", "BCLLT", "bclt", "BCLTB", "BCLX", "BBCL"])) tNil)))))))
theorem nest_of {H G : Hp} {M L1 L2 L3 L4 L5 L6 L7 M1 M2 M3 M4 M5 M6 : Addr} {z : Str} {tx ty pl yl : Int} {l l4 : List Int} (hz : WordL z) (lw : (z ++ "x").length ≤ 11) (lx6 : (repS "X" (tx + 1)).length ≤ 6) (lyz : (repS "Y" (ty + 1) ++ z).length ≤ 16) (hl : l.length ≤ 10) (ll4 : l4.length ≤ l.length)
    (f1 : H L1 = none) (f2 : H L2 = none) (f3 : H L3 = none) (f4 : H L4 = none) (f5 : H L5 = none) (f6 : H L6 = none) (f7 : H L7 = none) (k1 : H M1 = none) (k2 : H M2 = none) (k3 : H M3 = none) (k4 : H M4 = none) (k5 : H M5 = none) (k6 : H M6 = none)
    (g1 : G L1 = some (.lst [.int (-1), .int 3, .int 1000000000])) (g2 : G L2 = some (.lst [.int (-1), .int 6, .int 64])) (g3 : G L3 = some (.lst [.int 6, .int (-1), .int 32]))
    (g4 : G L4 = some (.lst [.str "Z", .str (z ++ "x"), .str (repS "X" (tx + 1)), .str (repS "Y" (ty + 1) ++ z), .str " "])) (g5 : G L5 = some (.lst [.int 0, .int 21, .int (-1)]))
    (m1 : G M1 = some (.lst [])) (m2 : G M2 = some (.lst (l.map V.int ++ [.int 1]))) (m3 : G M3 = some (.lst ([.int 0] ++ l.map V.int))) (m4 : G M4 = some (.lst (l4.map V.int ++ [.int (yl - 1)]))) (m5 : G M5 = some (.lst (List.replicate (Int.toNat 7) [V.int 1]).flatten))
    (m6 : G M6 = some (.lst [.int (3 * pl + 1), .int (-1)])) (g6 : G L6 = some (.lst [.ref M1, .ref M2, .ref M3, .ref M4, .ref M5, .ref M6]))
    (g7 : G L7 = some (.lst [.str "", .str "BCL", .str "BCLLT", .str "bclt", .str "BCLTB", .str "BCLX", .str "BBCL"])) (gM : G M = some (.lst [.ref L1, .ref L2, .ref L3, .ref L4, .ref L5, .ref L6, .ref L7])) : Nest H G M := by
  obtain ⟨wX, wY, wx, wZ, wB, wYX⟩ := WordX
  refine ⟨[L1, L2, L3, L4, L5, L6, L7], gM, rfl, fun r Lr hr => ?_⟩
  have three : ∀ {a b c v : V}, v ∈ [a, b, c] → v = a ∨ v = b ∨ v = c := fun h => by simpa using h
  match r, hr with
  | 0, hr =>
    obtain rfl := Option.some.inj hr
    refine ⟨f1, _, g1, by simp, by decide, fun v hv => ?_⟩
    rcases three hv with rfl | rfl | rfl <;> exact ⟨_, rfl⟩
  | 1, hr =>
    obtain rfl := Option.some.inj hr
    refine ⟨f2, _, g2, by simp, by decide, fun v hv => ?_⟩
    rcases three hv with rfl | rfl | rfl <;> exact ⟨_, rfl⟩
  | 2, hr =>
    obtain rfl := Option.some.inj hr
    refine ⟨f3, _, g3, by simp, by decide, fun v hv => ?_⟩
    rcases three hv with rfl | rfl | rfl <;> exact ⟨_, rfl⟩
  | 3, hr =>
    obtain rfl := Option.some.inj hr
    refine ⟨f4, _, g4, by simp, by simp, fun v hv => ?_⟩
    simp only [List.mem_cons, List.not_mem_nil, or_false] at hv
    rcases hv with rfl | rfl | rfl | rfl | rfl
    · exact ⟨_, rfl, wZ, by decide +kernel⟩
    · exact ⟨_, rfl, wordL_app hz wx, by omega⟩
    · exact ⟨_, rfl, wordL_rep wX, by omega⟩
    · exact ⟨_, rfl, wordL_app (wordL_rep wY) hz, by omega⟩
    · exact ⟨_, rfl, wB, by decide +kernel⟩
  | 4, hr =>
    obtain rfl := Option.some.inj hr
    refine ⟨f5, _, g5, by simp, by decide, fun v hv => ?_⟩
    rcases three hv with rfl | rfl | rfl <;> exact ⟨_, rfl, by decide, by decide⟩
  | 5, hr =>
    obtain rfl := Option.some.inj hr
    refine ⟨f6, _, g6, by simp, by simp, fun v hv => ?_⟩
    simp only [List.mem_cons, List.not_mem_nil, or_false] at hv
    rcases hv with rfl | rfl | rfl | rfl | rfl | rfl
    · exact ⟨M1, [], rfl, k1, m1, by decide⟩
    · exact ⟨M2, l ++ [1], rfl, k2, m2.trans (by rw [List.map_append]; rfl), by rw [List.length_append]; show l.length + 1 ≤ 100; omega⟩
    · exact ⟨M3, 0 :: l, rfl, k3, m3, by rw [List.length_cons]; omega⟩
    · exact ⟨M4, l4 ++ [yl - 1], rfl, k4, m4.trans (by rw [List.map_append]; rfl), by rw [List.length_append]; show l4.length + 1 ≤ 100; omega⟩
    · exact ⟨M5, [1, 1, 1, 1, 1, 1, 1], rfl, k5, m5, by decide⟩
    · exact ⟨M6, [3 * pl + 1, -1], rfl, k6, m6, by show 2 ≤ 100; decide⟩
  | 6, hr =>
    obtain rfl := Option.some.inj hr
    refine ⟨f7, _, g7, by simp, by simp, fun v hv => ?_⟩
    obtain ⟨y, hy, rfl⟩ := List.mem_map.mp (show v ∈ List.map V.str ["", "BCL", "BCLLT", "bclt", "BCLTB", "BCLX", "BBCL"] from hv)
    exact ⟨y, rfl, (by decide +kernel : ∀ y ∈ (["", "BCL", "BCLLT", "bclt", "BCLTB", "BCLX", "BBCL"] : List Str), y ∈ ordOk ++ ordNo) y hy⟩
theorem nest_ok {K : PySem.W.Frag} (σ : L2.St) (G0 : Hp) (Q0 : VK) (h : tNest σ G0 Q0) : tNestE K σ G0 Q0 := by
  obtain ⟨v0, v1, v2, v3, v9, v10, v11, v12, tx, ty, pl, z, lp, l, rfl, tx0, tx1, ty0, ty1, pl0, pl1, hz, lz, eL0, hne, hl, q0⟩ := h
  obtain ⟨wX, wY, wx, wZ, wB, wYX⟩ := WordX
  obtain ⟨lX, lY, lx, lZ, lB, lYX⟩ := lenX
  have lw : (z ++ "x").length ≤ 11 := by rw [str_app_len, lx]; omega
  have lx6 : (repS "X" (tx + 1)).length ≤ 6 := by rw [rep_len lX]; omega
  have ly6 : (repS "Y" (ty + 1)).length ≤ 6 := by rw [rep_len lY]; omega
  have lyz : (repS "Y" (ty + 1) ++ z).length ≤ 16 := by rw [str_app_len]; omega
  have y3 : 3 ≤ sizeLine := by decide
  obtain ⟨l4, hl4, ll4⟩ := cutV_ints l none (some (-1))
  obtain ⟨yl, hyl⟩ := last_int hne
  have b := Bag.nil G0
  refine ⟨1, rfl, rfl, rfl, y3, fun L1 nL1 => ?_⟩
  have fL1 := b.same.free nL1
  have b := b.add (o := .lst [.int (-1), .int 3, .int 1000000000]) nL1
  generalize upd G0 L1 _ = G1 at b ⊢
  refine ⟨1, rfl, y3, fun L2 nL2 => ?_⟩
  have fL2 := b.same.free nL2
  have b := b.add (o := .lst [.int (-1), .int 6, .int 64]) nL2
  generalize upd G1 L2 _ = G2 at b ⊢
  refine ⟨1, rfl, y3, fun L3 nL3 => ?_⟩
  have fL3 := b.same.free nL3
  have b := b.add (o := .lst [.int 6, .int (-1), .int 32]) nL3
  generalize upd G2 L3 _ = G3 at b ⊢
  refine ⟨_, rfl, _, _, rfl, rfl, by rw [← str_app_len]; exact Nat.le_of_lt (small1000 (by omega)), ?_⟩
  refine ⟨_, rfl, _, _, rfl, rfl, _, _, rfl, rfl, by rw [lX]; decide, by omega, by omega, ?_⟩
  refine ⟨_, rfl, _, _, rfl, rfl, _, _, rfl, rfl, by rw [lY]; decide, by omega, by omega, ?_⟩
  refine ⟨_, rfl, _, _, rfl, rfl, by rw [← str_app_len]; exact Nat.le_of_lt (small1000 (by omega)), ?_⟩
  refine ⟨by show 5 ≤ sizeLine; decide, fun L4 nL4 => ?_⟩
  have fL4 := b.same.free nL4
  have b := b.add (o := .lst [.str "Z", .str (z ++ "x"), .str (repS "X" (tx + 1)), .str (repS "Y" (ty + 1) ++ z), .str " "]) nL4
  generalize upd G3 L4 _ = G4 at b ⊢
  refine ⟨1, rfl, y3, fun L5 nL5 => ?_⟩
  have fL5 := b.same.free nL5
  have b := b.add (o := .lst [.int 0, .int 21, .int (-1)]) nL5
  generalize upd G4 L5 _ = G5 at b ⊢
  refine ⟨by show 0 ≤ sizeLine; decide, fun M1 nM1 => ?_⟩
  have fM1 := b.same.free nM1
  have b := b.add (o := .lst []) nM1
  generalize upd G5 M1 _ = G6 at b ⊢
  refine ⟨_, rfl, by show 1 ≤ sizeLine; decide, fun Y1 nY1 => ?_⟩
  have fY1 := b.same.free nY1
  have b := b.add (o := .lst [.int 1]) nY1
  generalize upd G6 Y1 _ = G7 at b ⊢
  refine ⟨lp, Y1, _, _, rfl, rfl, b.same _ _ eL0, b.get 6 rfl, Nat.le_of_lt (small1000 (by rw [List.length_map]; show l.length + 1 ≤ 1000; omega)), fun M2 nM2 => ?_⟩
  have fM2 := b.same.free nM2
  have b := b.add (o := .lst (l.map V.int ++ [.int 1])) nM2
  generalize upd G7 M2 _ = G8 at b ⊢
  refine ⟨by show 1 ≤ sizeLine; decide, fun Y2 nY2 => ?_⟩
  have fY2 := b.same.free nY2
  have b := b.add (o := .lst [.int 0]) nY2
  generalize upd G8 Y2 _ = G9 at b ⊢
  refine ⟨_, rfl, Y2, lp, _, _, rfl, rfl, b.get 8 rfl, b.same _ _ eL0, Nat.le_of_lt (small1000 (by rw [List.length_map]; show 1 + l.length ≤ 1000; omega)), fun M3 nM3 => ?_⟩
  have fM3 := b.same.free nM3
  have b := b.add (o := .lst ([.int 0] ++ l.map V.int)) nM3
  generalize upd G9 M3 _ = G10 at b ⊢
  refine ⟨_, rfl, ?_⟩
  refine ⟨1, rfl, ?_⟩
  refine ⟨-1, rfl, ?_⟩
  refine ⟨lp, _, rfl, .inl (.inl (b.same _ _ eL0)), fun SL nSL => ?_⟩
  have fSL := b.same.free nSL
  have b := b.add (o := .lst (cutV (l.map V.int) none (some (-1)))) nSL
  generalize upd G10 SL _ = G11 at b ⊢
  refine ⟨_, rfl, 1, rfl, lp, l.map V.int, -1, V.int yl, rfl, rfl, .inl (.inl (b.same _ _ eL0)), hyl, ?_⟩
  refine ⟨_, _, rfl, rfl, by show 1 ≤ sizeLine; decide, fun Y3 nY3 => ?_⟩
  have fY3 := b.same.free nY3
  have b := b.add (o := .lst [.int (yl - 1)]) nY3
  generalize upd G11 Y3 _ = G12 at b ⊢
  refine ⟨SL, Y3, _, _, rfl, rfl, b.get 10 rfl, b.get 11 rfl, Nat.le_of_lt (small1000 (by rw [hl4, List.length_map]; show l4.length + 1 ≤ 1000; omega)), fun M4 nM4 => ?_⟩
  have fM4 := b.same.free nM4
  have b := b.add (o := .lst (cutV (l.map V.int) none (some (-1)) ++ [.int (yl - 1)])) nM4
  generalize upd G12 M4 _ = G13 at b ⊢
  refine ⟨by show 1 ≤ sizeLine; decide, fun Y4 nY4 => ?_⟩
  have fY4 := b.same.free nY4
  have b := b.add (o := .lst [.int 1]) nY4
  generalize upd G13 Y4 _ = G14 at b ⊢
  refine ⟨Y4, 7, _, rfl, rfl, b.get 13 rfl, by decide, by decide, by show 1 * 7 ≤ sizeLine; decide, fun M5 nM5 => ?_⟩
  have fM5 := b.same.free nM5
  have b := b.add (o := .lst (List.replicate (Int.toNat 7) [.int 1]).flatten) nM5
  generalize upd G14 M5 _ = G15 at b ⊢
  refine ⟨_, rfl, _, _, rfl, rfl, cmull (by omega) (by omega), _, _, rfl, rfl, 1, rfl, by show 2 ≤ sizeLine; decide, fun M6 nM6 => ?_⟩
  have fM6 := b.same.free nM6
  have b := b.add (o := .lst [.int (3 * pl + 1), .int (-1)]) nM6
  generalize upd G15 M6 _ = G16 at b ⊢
  refine ⟨by show 6 ≤ sizeLine; decide, fun L6 nL6 => ?_⟩
  have fL6 := b.same.free nL6
  have b := b.add (o := .lst [.ref M1, .ref M2, .ref M3, .ref M4, .ref M5, .ref M6]) nL6
  generalize upd G16 L6 _ = G17 at b ⊢
  refine ⟨by show 7 ≤ sizeLine; decide, fun L7 nL7 => ?_⟩
  have fL7 := b.same.free nL7
  have b := b.add (o := .lst [.str "", .str "BCL", .str "BCLLT", .str "bclt", .str "BCLTB", .str "BCLX", .str "BBCL"]) nL7
  generalize upd G17 L7 _ = G18 at b ⊢
  refine ⟨by show 7 ≤ sizeLine; decide, fun M nM => ?_⟩
  have fM := b.same.free nM
  have b := b.add (o := .lst [.ref L1, .ref L2, .ref L3, .ref L4, .ref L5, .ref L6, .ref L7]) nM
  generalize upd G18 M _ = G19 at b ⊢
  have all := b.all
  simp only [List.nil_append, List.cons_append, List.mem_cons, List.not_mem_nil, or_false, forall_eq_or_imp, forall_eq] at all
  obtain ⟨g1, g2, g3, g4, g5, m1, _, m2, _, m3, _, _, m4, _, m5, m6, g6, g7, gM⟩ := all
  rw [hl4] at m4
  exact q0 M G19 b.same (nest_of hz lw lx6 lyz hl ll4 fL1 fL2 fL3 fL4 fL5 fL6 fL7 fM1 fM2 fM3 fM4 fM5 fM6 g1 g2 g3 g4 g5 m1 m2 m3 m4 m5 m6 g6 g7 gM)
/-! ### the things -/
def spThings : Sp := fun vs H Q _ => ∃ (a : Addr), vs = [.ref a] ∧ Src H a ∧ ∀ (p rp lp : Addr) (t : Th) (H' : Hp), Src H' a → Up a H H' → TgAt H' p rp lp t → H p = none → H rp = none → H lp = none → ThW t → WordL t.word → Q (.ref p) H'
theorem ok_things {f : Addr} {fd : FuncData} {k : Nat} (F : Fun K "_law_things" "_law_things" s_law_things f fd) (T : Txt mg) (c_law_take : C8.Cal P w K mg base 1 "_law_take" spTake []) (c_law_one : C8.Cal P w K mg base 2 "_law_one" spOne []) (c_law_side : C8.Cal P w K mg base 3 "_law_side" spSideL []) (c_law_layers : C8.Cal P w K mg base 2 "_law_layers" spLayers []) : FnOk P w K mg base CX0 (k + 4) f fd ["_law_source"] spThings := by
  refine F.ok sc_law_things (fun vs H Q E h => ?_) (fun cdv A outer s H vs Q E hr h => ?_)
  · obtain ⟨a, rfl, _⟩ := h
    rfl
  · obtain ⟨a, rfl, ha, q⟩ := h
    obtain ⟨wX, wY, wx, wZ, wB, wYX⟩ := WordX
    obtain ⟨lX, lY, lx, lZ, lB, lYX⟩ := lenX
    refine ⟨_, (pss_cons (ps_par (i := 1) (j := 2) rfl sc_law_things.nd rfl rfl (by decide) rfl rfl (pa_cons (C8.pe_c c_law_side hr (by omega) (by rfl) (pa_cons (pv 0) pa_nil)) (pa_cons (C8.pe_c c_law_side hr (by omega) (by rfl) (pa_cons (pv 0) pa_nil)) pa_nil)) rfl)
    (pss_cons (ps_par3 (i := 3) (j := 4) (l := 5) rfl sc_law_things.nd rfl rfl rfl (by decide) (by decide) (by decide) rfl rfl rfl (pa_cons (C8.pe_c c_law_take hr (by omega) (by rfl) (pa_cons (pv 0) (pa_cons pe_int pa_nil))) (pa_cons (C8.pe_c c_law_take hr (by omega) (by rfl) (pa_cons (pv 0) (pa_cons pe_int pa_nil))) (pa_cons (C8.pe_c c_law_take hr (by omega) (by rfl) (pa_cons (pv 0) (pa_cons pe_int pa_nil))) pa_nil))) rfl)
    (pss_cons (ps_set (i := 6) sc_law_things.nd rfl (Or.inl rfl) (pe_op op_add_str (pe_op op_mulS pe_str (C8.pe_c c_law_take hr (by omega) (by rfl) (pa_cons (pv 0) (pa_cons (pe_op op_add (pv 4) pe_int) pa_nil)))) (pe_op op_mulS pe_str (C8.pe_c c_law_take hr (by omega) (by rfl) (pa_cons (pv 0) (pa_cons (pe_op op_add (pv 5) pe_int) pa_nil))))))
    (C8.pss_cut (ps_set (i := 6) sc_law_things.nd rfl (Or.inl rfl) (C8.pe_c c_law_one hr (by omega) (by rfl) (pa_cons (pv 0) (pa_cons (pe_lst (pa_cons (pv 6) (pa_cons (pv 6) (pa_cons (pe_revS (pv 6)) (pa_cons (pe_ifExp (PW.pt (pw_and (pt_cmpR op_gt (pv 4) pe_int (nomark _)) (pw_and1 (pt_cmpR op_gt (pv 5) pe_int (nomark _))))) pe_str (pv 6)) pa_nil))))) pa_nil))))
    (pss_cons (ps_set (i := 7) sc_law_things.nd rfl (Or.inl rfl) (C8.pe_c c_law_one hr (by omega) (by rfl) (pa_cons (pv 0) (pa_cons (pe_lst (pa_cons pe_int (pa_cons pe_int (pa_cons pe_int (pa_cons pe_int (pa_cons pe_int (pa_cons pe_int pa_nil))))))) pa_nil))))
    (pss_cons (ps_set (i := 8) sc_law_things.nd rfl (Or.inl rfl) (C8.pe_c c_law_layers hr (by omega) (by rfl) (pa_cons (pv 0) (pa_cons (pv 7) pa_nil))))
    (pss_cons (ps_set (i := 9) sc_law_things.nd rfl (Or.inl rfl) (C8.pe_c c_law_one hr (by omega) (by rfl) (pa_cons (pv 0) (pa_cons (pe_lst (pa_cons pe_str (pa_cons pe_str (pa_cons pe_str (pa_cons pe_str (pa_cons pe_str pa_nil)))))) pa_nil))))
    (pss_cons (ps_set (i := 10) sc_law_things.nd rfl (Or.inl rfl) (pe_lst (pa_cons (pe_tup (pa_cons (pe_ix ix_list (pv 1) pe_int (fun _ _ => rfl)) (pa_cons (pe_ix ix_list (pv 1) pe_int (fun _ _ => rfl)) (pa_cons (pe_ix ix_list (pv 2) pe_int (fun _ _ => rfl)) (pa_cons (pe_ix ix_list (pv 2) pe_int (fun _ _ => rfl)) pa_nil))))) (pa_cons (pv 3) (pa_cons (pv 4) (pa_cons (pv 5) (pa_cons (pv 6) (pa_cons (pv 7) (pa_cons (pv 8) (pa_cons (pv 9) pa_nil))))))))))
    (pss_cons (ps_for PassesOwn.never rfl (pi_range1 (by rfl) T.z_range (pa_cons (C8.pe_c c_law_one hr (by omega) (by rfl) (pa_cons (pv 0) (pa_cons (pe_lst (pa_cons pe_int (pa_cons pe_int (pa_cons pe_int (pa_cons pe_int (pa_cons pe_int pa_nil)))))) pa_nil))) pa_nil)) (pg_name (i := 11) sc_law_things.nd rfl (Or.inl rfl))
      (C8.pss_cut (ps_set (i := 12) sc_law_things.nd rfl (Or.inl rfl) (pe_op op_add pe_int (C8.pe_c c_law_take hr (by omega) (by rfl) (pa_cons (pv 0) (pa_cons pe_int pa_nil)))))
    (pss_one (ps_asg (C8.pe_c c_law_one hr (by omega) (by rfl) (pa_cons (pv 0) (pa_cons (pe_ix ix_list (pe_weak (te' := tNest) (pe_lst (pa_cons (pe_lst (pa_cons (pe_un un_neg pe_int) (pa_cons pe_int (pa_cons (pe_op (op_powc (a := 10) (b := 9) (c := 1000000000) ⟨by decide, by decide, by decide⟩ (by decide +kernel)) pe_int pe_int) pa_nil)))) (pa_cons (pe_lst (pa_cons (pe_un un_neg pe_int) (pa_cons pe_int (pa_cons pe_int pa_nil)))) (pa_cons (pe_lst (pa_cons pe_int (pa_cons (pe_un un_neg pe_int) (pa_cons pe_int pa_nil)))) (pa_cons (pe_lst (pa_cons pe_str (pa_cons (pe_op op_add_str (pv 6) pe_str) (pa_cons (pe_op op_mulS pe_str (pe_op op_add (pv 4) pe_int)) (pa_cons (pe_op op_add_str (pe_op op_mulS pe_str (pe_op op_add (pv 5) pe_int)) (pv 6)) (pa_cons pe_str pa_nil)))))) (pa_cons (pe_lst (pa_cons pe_int (pa_cons pe_int (pa_cons (pe_un un_neg pe_int) pa_nil)))) (pa_cons (pe_lst (pa_cons (pe_lst pa_nil) (pa_cons (pe_op op_cat (pv 8) (pe_lst (pa_cons pe_int pa_nil))) (pa_cons (pe_op op_cat (pe_lst (pa_cons pe_int pa_nil)) (pv 8)) (pa_cons (pe_op op_cat (pe_slice sl_list (pv 8) po_none (po_some (pe_un un_neg pe_int))) (pe_lst (pa_cons (pe_op op_sub (pe_ix ix_list (pv 8) (pe_un un_neg pe_int) (fun _ _ => rfl)) pe_int) pa_nil))) (pa_cons (pe_op op_rep (pe_lst (pa_cons pe_int pa_nil)) pe_int) (pa_cons (pe_lst (pa_cons (pe_op op_add (pe_op op_mul pe_int (pv 7)) pe_int) (pa_cons (pe_un un_neg pe_int) pa_nil))) pa_nil))))))) (pa_cons (pe_lst (pa_cons pe_str (pa_cons pe_str (pa_cons pe_str (pa_cons pe_str (pa_cons pe_str (pa_cons pe_str (pa_cons pe_str pa_nil)))))))) pa_nil))))))))) (pe_op op_sub (pv 12) pe_int) (fun _ _ => rfl)) pa_nil))) (pg_sub (pv 10) (pv 12) set_list)))))
    (pss_one (ps_ret (pv 10)))))))))))), ?_⟩
    walk_at "ev"
    refine ⟨ha, fun p1 x0 x1 H1 n1 s1 u1 e1 => ?_⟩
    walk_at "ev"
    refine ⟨s1, fun p2 y0 y1 H2 n2 s2 u2 e2 => ?_⟩
    have p1a : p1 ≠ a := (ha.ne n1).symm
    have e1 := u2 _ _ p1a e1
    have U2 := u1.trans u2
    walk_at "ev"
    refine ⟨s2, by decide, by decide, fun m H3 m0 m1 s3 u3 => ?_⟩
    walk_at "ev"
    refine ⟨s3, by decide, by decide, fun tx H4 tx0 tx1 s4 u4 => ?_⟩
    walk_at "ev"
    refine ⟨s4, by decide, by decide, fun ty H5 ty0 ty1 s5 u5 => ?_⟩
    have p2a : p2 ≠ a := (s1.ne n2).symm
    have u25 : But a H2 H5 := (u3.trans u4).trans u5
    have e1 := (u25 _ p1a).trans e1
    have e2 := (u25 _ p2a).trans e2
    have U5 := U2.trans u25.up
    walk_at "ev"
    refine ⟨_, _, _, rfl, ?_⟩
    walk_at "ev"
    refine ⟨s5, by omega, by omega, fun r6 H6 r60 r61 s6 u6 => ?_⟩
    refine ⟨_, _, rfl, rfl, by rw [lX]; decide, by omega, by omega, ?_⟩
    walk_at "ev"
    refine ⟨s6, by omega, by omega, fun r7 H7 r70 r71 s7 u7 => ?_⟩
    refine ⟨_, _, rfl, rfl, by rw [lY]; decide, by omega, by omega, ?_⟩
    have w6 : WordL (repS "X" r6 ++ repS "Y" r7) := wordL_app (wordL_rep wX) (wordL_rep wY)
    have l6 : (repS "X" r6 ++ repS "Y" r7).length ≤ 10 := by
      rw [str_app_len, rep_len lX, rep_len lY]
      omega
    have l6' : (repS "X" r6).length + (repS "Y" r7).length ≤ 10 := by rw [← str_app_len]; exact l6
    have U7 := (U5.trans u6.up).trans u7.up
    have e1 := (u7 _ p1a).trans ((u6 _ p1a).trans e1)
    have e2 := (u7 _ p2a).trans ((u6 _ p2a).trans e2)
    refine ⟨_, _, rfl, rfl, Nat.le_of_lt (small1000 (by omega)), ?_⟩
    generalize repS "X" r6 ++ repS "Y" r7 = wd at *
    have n1H : H p1 = none := n1
    have n2H : H p2 = none := u1.new s1 n2
    walk_at "ev"
    refine ⟨fun σ G => ∃ z : Str, σ = [some (.ref a), some (.ref p1), some (.ref p2), some (.int m), some (.int tx), some (.int ty), some (.str z), none, none, none, none, none, none] ∧ WordL z ∧ z.length ≤ 10 ∧ Src G a ∧ Up a H G ∧ G p1 = some (.lst [.int x0, .int x1]) ∧ G p2 = some (.lst [.int y0, .int y1]), ?_, ?_⟩
    · walk_at "ev"
      refine ⟨Nat.le_of_lt (small1000 (by omega)), ?_⟩
      walk_at "ev"
      all_goals
        refine ⟨by show 4 ≤ sizeLine; decide, fun L nL => ?_⟩
        refine ⟨a, L, _, rfl, src_same (same_upd nL) s7, (s7.ne nL).symm, upd_same, (by simp), (by show 4 ≤ 1000; decide), fun v G hv s8 u8 => ?_⟩
        obtain ⟨y, hy, ly, rfl⟩ : ∃ y : Str, WordL y ∧ y.length ≤ 10 ∧ v = .str y := by
          simp only [List.mem_cons, List.not_mem_nil, or_false] at hv
          rcases hv with rfl | rfl | rfl | rfl
          · exact ⟨_, w6, l6, rfl⟩
          · exact ⟨_, w6, l6, rfl⟩
          · exact ⟨_, wordL_rev w6, by rw [rev_len]; exact l6, rfl⟩
          · first
              | exact ⟨_, w6, l6, rfl⟩
              | exact ⟨_, wYX, by rw [lYX]; decide, rfl⟩
        exact ⟨y, rfl, hy, ly, s8, U7.trans ((up_same (same_upd nL)).trans u8.up), (u8 _ p1a).trans (same_upd nL _ _ e1), (u8 _ p2a).trans (same_upd nL _ _ e2)⟩
    rintro σ G ⟨z, rfl, hz, lz, sG, uG, e1, e2⟩
    walk_at "ev"
    refine ⟨by show 6 ≤ sizeLine; decide, fun L1 nL1 => ?_⟩
    refine ⟨a, L1, _, rfl, src_same (same_upd nL1) sG, (sG.ne nL1).symm, upd_same, (by simp), (by show 6 ≤ 1000; decide), fun v G1 hv s8 u8 => ?_⟩
    obtain ⟨pl, rfl, pl0, pl1⟩ : ∃ x : Int, v = .int x ∧ 1 ≤ x ∧ x ≤ 20 := by
      simp only [List.mem_cons, List.not_mem_nil, or_false] at hv
      rcases hv with rfl | rfl | rfl | rfl | rfl | rfl <;> exact ⟨_, rfl, by decide, by decide⟩
    clear hv
    have e1 := (u8 _ p1a).trans (same_upd nL1 _ _ e1)
    have e2 := (u8 _ p2a).trans (same_upd nL1 _ _ e2)
    have uG1 := uG.trans ((up_same (same_upd nL1)).trans u8.up)
    walk_at "ev"
    refine ⟨s8, pl0, pl1, fun lp l G2 nlp hne hl s9 u9 eL => ?_⟩
    have lpa : lp ≠ a := (s8.ne nlp).symm
    have nlpH : H lp = none := uG1.new s8 nlp
    have e1 := u9 _ _ p1a e1
    have e2 := u9 _ _ p2a e2
    have uG2 := uG1.trans u9
    walk_at "ev"
    refine ⟨by show 5 ≤ sizeLine; decide, fun L2 nL2 => ?_⟩
    refine ⟨a, L2, _, rfl, src_same (same_upd nL2) s9, (s9.ne nL2).symm, upd_same, (by simp), (by show 5 ≤ 1000; decide), fun v G3 hv s10 u10 => ?_⟩
    obtain ⟨od, rfl, ho⟩ : ∃ x : Str, v = .str x ∧ x ∈ ordOk ++ ordNo := by
      obtain ⟨y, hy, rfl⟩ := List.mem_map.mp (show v ∈ List.map V.str ["BCLT", "LBTC", "TLCB", "TCBL", "CLTB"] from hv)
      exact ⟨y, rfl, (by decide +kernel : ∀ y ∈ (["BCLT", "LBTC", "TLCB", "TCBL", "CLTB"] : List Str), y ∈ ordOk ++ ordNo) y hy⟩
    clear hv
    have e1 := (u10 _ p1a).trans (same_upd nL2 _ _ e1)
    have e2 := (u10 _ p2a).trans (same_upd nL2 _ _ e2)
    have eL := (u10 _ lpa).trans (same_upd nL2 _ _ eL)
    have uG3 := uG2.trans ((up_same (same_upd nL2)).trans u10.up)
    walk_at "ev"
    refine ⟨by show 4 ≤ sizeLine; decide, fun rp nrp => ?_⟩
    walk_at "ev"
    refine ⟨by show 8 ≤ sizeLine; decide, fun p np => ?_⟩
    have bA := (Bag.nil G3).add (o := .tup [.int x0, .int x1, .int y0, .int y1]) nrp
    have bB := bA.add (o := .lst [.ref rp, .int m, .int tx, .int ty, .str z, .int pl, .ref lp, .str od]) np
    have nrpH : H rp = none := uG3.new s10 nrp
    have npH : H p = none := uG3.new s10 (bA.same.free np)
    have sB := src_same bB.same s10
    have uB := uG3.trans (up_same (a := a) bB.same)
    have eLB := bB.same _ _ eL
    have eR := bB.get 0 rfl
    have eP := bB.get 1 rfl
    generalize upd (upd G3 rp _) p _ = GB at *
    dsimp only at eR eP
    walk_at "ev"
    refine ⟨by show 5 ≤ sizeLine; decide, fun L3 nL3 => ?_⟩
    refine ⟨a, L3, _, rfl, src_same (same_upd nL3) sB, (sB.ne nL3).symm, upd_same, (by simp), (by show 5 ≤ 1000; decide), fun v GC hv sC uC => ?_⟩
    obtain ⟨cn, rfl, cn0, cn1⟩ : ∃ x : Int, v = .int x ∧ 0 ≤ x ∧ x ≤ 2 := by
      simp only [List.mem_cons, List.not_mem_nil, or_false] at hv
      rcases hv with rfl | rfl | rfl | rfl | rfl <;> exact ⟨_, rfl, by decide, by decide⟩
    clear hv
    have pa : p ≠ a := fun e => by rw [e] at npH; obtain ⟨_, _, e, _⟩ := ha; rw [e] at npH; cases npH
    have rpa : rp ≠ a := fun e => by rw [e] at nrpH; obtain ⟨_, _, e, _⟩ := ha; rw [e] at nrpH; cases nrpH
    have eLC := (uC _ lpa).trans (same_upd nL3 _ _ eLB)
    have eRC := (uC _ rpa).trans (same_upd nL3 _ _ eR)
    have ePC := (uC _ pa).trans (same_upd nL3 _ _ eP)
    have uCC := uB.trans ((up_same (same_upd nL3)).trans uC.up)
    walk_at "ev"
    refine ⟨by omega, by omega, ?_⟩
    refine for_range (fun i σ G => ∃ (lq : Addr) (t : Th) (v11 v12 : Option V), σ = [some (.ref a), some (.ref p1), some (.ref p2), some (.int m), some (.int tx), some (.int ty), some (.str z), some (.int pl), some (.ref lp), some (.str od), some (.ref p), v11, v12] ∧ TgAt G p rp lq t ∧ ThW t ∧ WordL t.word ∧ H lq = none ∧ Src G a ∧ Up a H G ∧ G lp = some (.lst (l.map V.int))) ⟨lp, ⟨x0, x1, y0, y1, m, tx, ty, z, pl, l, od⟩, _, _, rfl, ⟨ePC, eRC, eLC⟩, ⟨Nat.le_trans lz (by decide), by show -1000 ≤ pl; omega, by show pl ≤ 1000; omega, ho, Nat.le_trans hl (by decide)⟩, hz, nlpH, sC, uCC, eLC⟩ ?_ ?_
    · rintro i σ G hi ⟨lq, t, v11, v12, rfl, ht, hw, hL, nlq, sG, uG, eL⟩
      clear eLC eRC ePC uCC sC uC nL3 eR eP eLB uB sB bB bA
      have lqa : lq ≠ a := fun e => by rw [e] at nlq; obtain ⟨_, _, e, _⟩ := ha; rw [e] at nlq; cases nlq
      refine ⟨fun σ G1 => ∃ (r : Int) (v11 : Option V), 0 ≤ r ∧ r < 7 ∧ σ = [some (.ref a), some (.ref p1), some (.ref p2), some (.int m), some (.int tx), some (.int ty), some (.str z), some (.int pl), some (.ref lp), some (.str od), some (.ref p), v11, some (.int (1 + r))] ∧ Src G1 a ∧ TgAt G1 p rp lq t ∧ Up a H G1 ∧ G1 lp = some (.lst (l.map V.int)), ?_, ?_⟩
      · walk_at "ev"
        refine ⟨sG, by decide, by decide, fun r G1 r0 r1 s1 u1 => ?_⟩
        walk_at "ev"
        exact ⟨r, _, r0, r1, rfl, s1, ⟨(u1 _ pa).trans ht.at_, (u1 _ rpa).trans ht.rect, (u1 _ lqa).trans ht.lay⟩, uG.trans u1.up, (u1 _ lpa).trans eL⟩
      rintro σ G1 ⟨r, v11, r0, r1, rfl, s1, ht1, uG1, eL1⟩
      clear eL ht
      walk_at "ev"
      refine ⟨⟨_, _, _, _, _, _, _, _, tx, ty, pl, z, lp, l, rfl, tx0, by omega, ty0, by omega, by omega, by omega, hz, lz, eL1, hne, hl, fun M G2 sM nM => ?_⟩, nest_ok⟩
      · obtain ⟨Ls, eM, lLs, hLs⟩ := nM
        obtain ⟨rq, rfl⟩ : ∃ n : Nat, r = n := Int.eq_ofNat_of_zero_le r0
        obtain ⟨Lr, hLr⟩ : ∃ x, Ls[rq]? = some x := ⟨Ls[rq]'(by omega), List.getElem?_eq_getElem (by omega)⟩
        obtain ⟨nLr, items, eIt, neIt, lIt, hIt⟩ := hLs rq Lr hLr
        have at1 : atI (Ls.map V.ref) ((1 : Int) + (rq : Int) - 1) = some (V.ref Lr) := by
          rw [show (1 : Int) + (rq : Int) - 1 = (rq : Int) by omega]
          exact atI_nat (by rw [List.getElem?_map, hLr]; rfl)
        walk_at "ev"
        refine ⟨M, _, _, _, rfl, rfl, .inl (.inl eM), at1, ?_⟩
        have sZ := src_same sM s1
        have htZ := ht1.same sM
        have eLZ := sM _ _ eL1
        have uZ := uG1.trans (up_same (a := a) sM)
        refine ⟨a, Lr, _, rfl, sZ, (fun e => by rw [e] at nLr; obtain ⟨_, _, e2, _⟩ := s1; rw [e2] at nLr; cases nLr), eIt, neIt, lIt, fun v GV hv sV uV => ?_⟩
        have htV : TgAt GV p rp lq t := ⟨(uV _ pa).trans htZ.at_, (uV _ rpa).trans htZ.rect, (uV _ lqa).trans htZ.lay⟩
        have eLV := (uV _ lpa).trans eLZ
        have iv : ItemOk H GV rq v := (hIt v hv).up (fun q h => uG1.new s1 h) (fun q o h1 h2 => (uV q (fun e => by rw [e] at h1; obtain ⟨_, _, e2, _⟩ := s1; rw [e2] at h1; cases h1)).trans h2)
        have hix : ixN 8 ((1 : Int) + (rq : Int)) = some (1 + rq) := by
          rw [show (1 : Int) + (rq : Int) = ((1 + rq : Nat) : Int) by omega]
          exact ixN_nat (by omega)
        obtain ⟨lq', t', ht', hw', hL', nlq'⟩ := set_item rq (by omega) htV hw hL nlq iv
        have eP := htV.at_
        walk_at "ev"
        refine ⟨p, _, _, _, rfl, rfl, eP, hix, ?_⟩
        walk_at "ev"
        exact ⟨lq', t', _, _, rfl, ht', hw', hL', nlq', src_upd sV (fun e => pa e.symm), (uZ.trans uV.up).updN npH, (upd_ne (lst_ne eLV eP)).trans eLV⟩
    · rintro σ G ⟨lq, t, v11, v12, rfl, ht, hw, hL, nlq, sG, uG, eL⟩
      walk_at "ev"
      exact q p rp lq t G sG uG ht npH nrpH nlq hw hL
/-! ### the setting made, or its refusal as a text -/
theorem boot_ValueError : bootBuiltins "ValueError" = some (.type "ValueError") := by decide +kernel
/-- the other classes of errors against which these two are held -/
structure Errs (K : PySem.W.Frag) (mg : Str → Option Value) (BF TM BG N : Addr) : Prop where
  gG : mg "BadGrid" = some (.ref BG)
  gN : mg "NarrowError" = some (.ref N)
  zV : mg "ValueError" = none
  k1 : PySem.W.kitOne K (.ref BF) (.ref TM) = some false
  k2 : PySem.W.kitOne K (.ref BF) (.ref BG) = some false
  k3 : PySem.W.kitOne K (.ref TM) (.ref BG) = some false
  k4 : PySem.W.kitOne K (.ref TM) (.type "ValueError") = some true
  x1 : PySem.W.exmOne K (.ref TM) (.ref BF) = some false
theorem wrong_len {t : Th} {n : Str} (h : wrongOf t = some n) : n.length ≤ 10 := by
  unfold wrongOf at h
  repeat' split at h
  all_goals cases h
  all_goals decide +kernel
theorem rep0 (x : Str) : x ++ repS "!" 0 = x := by
  show (⟨x.cps ++ _⟩ : Str) = x
  have : (repS "!" 0).cps = #[] := by decide +kernel
  rw [this, Array.append_empty]
theorem many2000 : ("many " : Str) ++ (toString (2000 : Int) : Str) = "many 2000" := by decide +kernel
def spMade (K : PySem.W.Frag) (C : Addr) : Sp := fun vs H Q _ => ∃ (p rp lp q : Addr) (t : Th), vs = [.ref p, .ref q] ∧ TgAt H p rp lp t ∧ ThW t ∧ (H q = some (.lst (t.layers.map V.int)) ∨ H q = some (.tup (t.layers.map V.int))) ∧
  (∀ n H', wrongOf t = some n → Same H H' → Q (.str ("field " ++ n)) H') ∧ (∀ H', wrongOf t = none → 2000 < piecesOf t → Same H H' → Q (.str "many 2000") H') ∧
  (∀ (x lq dx : Addr) H', wrongOf t = none → piecesOf t ≤ 2000 → Same H H' → SetAt K C H' x rp lq dx t → H' lq = some (.tup (t.layers.map V.int)) → Q (.ref x) H')
theorem three {σ : L2.St} (h : σ.length = 3) : ∃ a b c, σ = [a, b, c] := by
  match σ, h with
  | [a, b, c], _ => exact ⟨a, b, c, rfl⟩
theorem ok_made {f C BF TM BG N : Addr} {fd : FuncData} {k : Nat} (F : Fun K "_law_made" "_law_made" s_law_made f fd) (T : Txt mg) (x1 : XDef P w K mg base "BadField" "name" BF) (x2 : XDef P w K mg base "TooMany" "most" TM) (e : Errs K mg BF TM BG N) (M_Setting : CalC P w K mg base 5 "Setting" C ["rect", "mode", "tx", "ty", "word", "planes", "layers", "order"] (spSetI K C BF TM)) :
    FnOk P w K mg base CX0 (k + 7) f fd ["_law_things_here", "_law_layers_here"] (spMade K C) := by
  refine F.ok sc_law_made (fun vs H Q E h => ?_) (fun cdv A outer s H vs Q E hr h => ?_)
  · obtain ⟨p, rp, lp, q, t, rfl, _⟩ := h
    rfl
  · obtain ⟨p, rp, lp, q, t, rfl, ht, hw, hq, q1, q2, q3⟩ := h
    refine ⟨_, pss_one (ps_tryN rfl rfl (fun W pn xe tk _ => pss_one (ps_ret (pe_new (E := fun cls d H => ∀ σ : L2.St, σ.length = 3 → W cls d σ H) M_Setting hr (by omega) (by rfl) (fun _ _ _ _ _ s' I c => tk _ s' (XE.of_call I (fun _ _ _ h => h _ I.len) c))
        (pa_cons (pe_ix (ix_list : IxR _ (rIxL K)) (pv 0) pe_int (fun _ _ => rfl)) (pa_cons (pe_ix (ix_list : IxR _ (rIxL K)) (pv 0) pe_int (fun _ _ => rfl)) (pa_cons (pe_ix (ix_list : IxR _ (rIxL K)) (pv 0) pe_int (fun _ _ => rfl)) (pa_cons (pe_ix (ix_list : IxR _ (rIxL K)) (pv 0) pe_int (fun _ _ => rfl))
          (pa_cons (pe_ix (ix_list : IxR _ (rIxL K)) (pv 0) pe_int (fun _ _ => rfl)) (pa_cons (pe_ix (ix_list : IxR _ (rIxL K)) (pv 0) pe_int (fun _ _ => rfl)) (pa_cons (pv 1) (pa_cons (pe_ix (ix_list : IxR _ (rIxL K)) (pv 0) pe_int (fun _ _ => rfl)) pa_nil)))))))))))
      (hnd_nam (i := 2) rfl sc_law_made.nd rfl rfl ⟨rfl, by decide, .inl x1.gC⟩ (fun a oe cls d pn hz hf => pss_one (ps_ret (pe_op op_add_str (pe_op op_add_str pe_str (pe_xf x1.xf x1.no hz hf (pv 2)))
          (pe_op op_mulS pe_str (pe_callTy call_int1 (by rfl) T.z_int PyProof.Rows.boot_int (pa_cons (pe_or (pe_callB (call_isEd x1.isx hz hf) (by rfl) T.z_isinstance PyProof.Rows.boot_isinstance (pa_cons (pv 2) (pa_cons (pe_glob (v := .ref TM) (by rfl) x2.gC rfl) pa_nil)))
            (pe_one (pe_callB (call_isEd x1.isx hz hf) (by rfl) T.z_isinstance PyProof.Rows.boot_isinstance (pa_cons (pv 2) (pa_cons (pe_glob (v := .ref BG) (by rfl) e.gG rfl) pa_nil))))) pa_nil))))))
        (hnd_nam (i := 2) rfl sc_law_made.nd rfl rfl ⟨rfl, by decide, .inl x2.gC⟩ (fun a oe cls d pn hz hf => pss_one (ps_ret (pe_op op_add_str (pe_op op_add_str pe_str (pe_callTy call_str_int (by rfl) T.z_str PyProof.Rows.boot_str (pa_cons (pe_xf x2.xf x2.no hz hf (pv 2)) pa_nil)))
            (pe_op op_mulS pe_str (pe_callTy call_int1 (by rfl) T.z_int PyProof.Rows.boot_int (pa_cons (pe_or (pe_callB (call_isEd x2.isx hz hf) (by rfl) T.z_isinstance PyProof.Rows.boot_isinstance (pa_cons (pv 2) (pa_cons (pe_glob (v := .ref BG) (by rfl) e.gG rfl) pa_nil)))
              (pe_one (pe_not (pe_callB (call_isEd x2.isx hz hf) (by rfl) T.z_isinstance PyProof.Rows.boot_isinstance (pa_cons (pv 2) (pa_cons (pe_bltn (v := .ty "ValueError") (by rfl) e.zV boot_ValueError rfl) pa_nil)))))) pa_nil))))))
          (hnd_one rfl ⟨rfl, by decide, .inl e.gN⟩ (fun a oe cls d pn _ _ => pss_one (ps_ret pe_str)) (hnd_nil rfl rfl takes0))))), ?_⟩
    walk_at "ev"
    refine ⟨p, _, _, _, rfl, rfl, .inl (.inl ht.at_), rfl, ?_⟩
    walk_at "ev"
    refine ⟨p, _, _, _, rfl, rfl, .inl (.inl ht.at_), rfl, ?_⟩
    walk_at "ev"
    refine ⟨p, _, _, _, rfl, rfl, .inl (.inl ht.at_), rfl, ?_⟩
    walk_at "ev"
    refine ⟨p, _, _, _, rfl, rfl, .inl (.inl ht.at_), rfl, ?_⟩
    walk_at "ev"
    refine ⟨p, _, _, _, rfl, rfl, .inl (.inl ht.at_), rfl, ?_⟩
    walk_at "ev"
    refine ⟨p, _, _, _, rfl, rfl, .inl (.inl ht.at_), rfl, ?_⟩
    walk_at "ev"
    refine ⟨p, _, _, _, rfl, rfl, .inl (.inl ht.at_), rfl, ?_⟩
    walk_at "ev"
    intro x dx nx ndx hne
    have s0 : Same H (upd (upd H dx (.own x)) x (.ins C dx [])) := (same_upd ndx).trans (same_upd ((upd_ne hne.symm).trans nx))
    have off : ∀ {H' : Hp}, OffX (upd (upd H dx (.own x)) x (.ins C dx [])) H' x → Same H H' := fun o b oo hb => o b oo (fun eq => by rw [eq, nx] at hb; cases hb) (s0 b oo hb)
    refine ⟨x, dx, rp, q, t, rfl, upd_same, (fun eq => by have := ht.rect; rw [eq, nx] at this; cases this), (fun eq => by rw [eq, nx] at hq; rcases hq with h | h <;> cases h),
      .inl (.inl (s0 _ _ ht.rect)), hq.imp (s0 _ _) (s0 _ _), hw, fun n hn dd H' nd sH ed σ hσ => ?_, fun hn hp dd H' o ed σ hσ => ?_, fun hn hp H' lq o at_ tp => ?_⟩
    · obtain ⟨v0, v1, v2, rfl⟩ := three hσ
      refine ⟨true, x1.em, fun _ a0 _ => ?_, fun z => nomatch z⟩
      have ln := wrong_len hn
      walk_at "ev"
      refine ⟨dd, _, _, rfl, ed, rfl, ?_⟩
      refine ⟨_, _, rfl, rfl, Nat.le_of_lt (small1000 (by show 6 + n.length ≤ 1000; omega)), ?_⟩
      walk_at "ev"
      refine ⟨⟨dd, _, rfl, ed⟩, _, .ref TM, false, rfl, fun _ z => z, e.k1, ?_⟩
      walk_at "ev"
      refine ⟨⟨dd, _, rfl, ed⟩, _, .ref BG, false, rfl, fun _ z => z, e.k2, ?_⟩
      walk_at "ev"
      refine ⟨by decide +kernel, by decide, by decide, ?_⟩
      refine ⟨_, _, rfl, rfl, Nat.le_of_lt (small1000 (by rw [show (repS "!" (if false = true then 1 else 0)).length = 0 from by decide +kernel, str_app_len, show ("field " : Str).length = 6 from by decide +kernel]; omega)), ?_⟩
      rw [show repS "!" (if false = true then 1 else 0) = repS "!" 0 from rfl, rep0]
      exact q1 n H' hn (s0.trans sH)
    · obtain ⟨v0, v1, v2, rfl⟩ := three hσ
      refine ⟨false, e.x1, (fun z => nomatch z), fun _ => ⟨true, x2.em, fun _ a0 _ => ?_, fun z => nomatch z⟩⟩
      walk_at "ev"
      refine ⟨dd, _, _, rfl, ed, rfl, ?_⟩
      refine ⟨_, rfl, by decide +kernel, ?_⟩
      refine ⟨_, _, rfl, rfl, by decide +kernel, ?_⟩
      rw [many2000]
      walk_at "ev"
      refine ⟨⟨dd, _, rfl, ed⟩, _, .ref BG, false, rfl, fun _ z => z, e.k3, ?_⟩
      walk_at "ev"
      refine ⟨⟨dd, _, rfl, ed⟩, _, .type "ValueError", true, rfl, fun _ z => z, e.k4, ?_⟩
      walk_at "ev"
      refine ⟨by decide +kernel, by decide, by decide, ?_⟩
      refine ⟨_, _, rfl, rfl, by decide +kernel, ?_⟩
      rw [show repS "!" (if (!true) = true then 1 else 0) = repS "!" 0 from rfl, rep0]
      exact q2 H' hn hp (off o)
    · exact ⟨rfl, q3 x lq dx H' hn hp (off o) at_ tp⟩
/-! ### one case -/
theorem wrong_ne {t : Th} {n : Str} (h : wrongOf t = some n) : n ≠ "" := by
  unfold wrongOf at h
  repeat' split at h
  all_goals cases h
  all_goals decide +kernel
theorem field_ne (n : Str) : ("field " : Str) ++ n ≠ "" := fun e => by
  have h := congrArg Str.length e
  rw [str_app_len] at h
  have h1 : ("field " : Str).length = 6 := by decide +kernel
  have h2 : ("" : Str).length = 0 := by decide +kernel
  omega
/-- what is asked of isinstance(setting, str) -/
structure SetT (K : PySem.W.Frag) (C : Addr) : Prop where
  d : SetK K C
  ha : PySem.W.findIn K (.ref C) "__class__" = some (some (.builtin "object.__class__"))
  hn : PySem.W.specialIn K (.builtin "object.__class__") "__get__" = some (some (.builtin "getset_descriptor.__get__"))
  ht : PySem.W.takesIn K (.builtin "object.__class__") = some true
  hm : PySem.W.mroIn K C (.type "object") = some true
  kS : PySem.W.kitOne K (.ref C) (.type "str") = some false
/-- what is to be heard, where nothing is made -/
def dueOf (t : Th) : Option Str := match wrongOf t with
  | some n => some ("field " ++ n)
  | none => if 2000 < piecesOf t then some "many 2000" else none
theorem due_ne {t : Th} {d : Str} (h : dueOf t = some d) : d ≠ "" := by
  unfold dueOf at h
  split at h
  · cases h
    exact field_ne _
  · split at h
    · cases h
      decide +kernel
    · cases h
theorem wrong_no {t : Th} (h : (wrongOf t).getD "" = "") : wrongOf t = none := by
  cases e : wrongOf t with
  | none => rfl
  | some n => rw [e] at h; exact absurd h (wrong_ne e)
theorem wrong_yes {t : Th} (h : (wrongOf t).getD "" ≠ "") : ∃ n, wrongOf t = some n := by
  cases e : wrongOf t with
  | none => rw [e] at h; exact absurd rfl h
  | some n => exact ⟨n, rfl⟩
theorem due_wrong {t : Th} {n : Str} (h : wrongOf t = some n) : dueOf t = some ("field " ++ n) := by unfold dueOf; rw [h]
theorem due_many {t : Th} (h : wrongOf t = none) (h2 : 2000 < piecesOf t) : dueOf t = some "many 2000" := by unfold dueOf; rw [h]; exact if_pos h2
theorem due_no {t : Th} (h : wrongOf t = none) (h2 : ¬ 2000 < piecesOf t) : dueOf t = none := by unfold dueOf; rw [h]; exact if_neg h2
def toldD (t : Th) : PyData := .list [.tuple [.int t.x0, .int t.x1, .int t.y0, .int t.y1], .int t.mode, .int t.tx, .int t.ty, .str t.word, .int t.planes, .str t.order]
theorem sh_told {t : Th} (hL : WordL t.word) (ho : t.order ∈ ordOk ++ ordNo) : SeqAt.shaped (toldD t) = true := by
  have h1 : PyData.strOk t.word = true := by
    unfold PyData.strOk
    rw [← Array.all_toList, List.all_eq_true]
    intro c m
    exact (by decide : ∀ c ∈ [88, 89, 90, 120, 32], decide (c < 0x110000) = true) c (hL c m)
  have h2 : PyData.strOk t.order = true := (by decide +kernel : ∀ z ∈ ordOk ++ ordNo, PyData.strOk z = true) _ ho
  simp [toldD, SeqAt.shaped, PyData.canLay0, PyData.canLayAll0, PyData.depth, PyData.depthAll, h1, h2]
theorem dp_told {K : PySem.W.Frag} {H : Hp} {a rp : Addr} {t : Th} (ha : H a = some (.lst [.ref rp, .int t.mode, .int t.tx, .int t.ty, .str t.word, .int t.planes, .str t.order])) (hr : H rp = some (.tup [.int t.x0, .int t.x1, .int t.y0, .int t.y1])) : Dp K H (.ref a) (toldD t) :=
  .lst (.inl (.inl ha)) (.cons (.tup (.inl (.inl hr)) (.cons (.int _) (.cons (.int _) (.cons (.int _) (.cons (.int _) .nil))))) (.cons (.int _) (.cons (.int _) (.cons (.int _) (.cons (.str _) (.cons (.int _) (.cons (.str _) .nil)))))))
theorem dpall_is {K : PySem.W.Frag} {H : Hp} : ∀ ns : List Int, DpAll K H (ns.map V.int) (ns.map PyData.int)
  | [] => .nil
  | i :: r => .cons (.int i) (dpall_is r)
theorem sh_tupI (ns : List Int) : SeqAt.shaped (.tuple (ns.map PyData.int)) = true := (shd_tup (n := 1) fun d m => by
  obtain ⟨i, _, rfl⟩ := List.mem_map.mp m
  exact shd_int i).sh (by decide)
def rwSt (p L : Addr) (b : Bool) (w d : Option V) (m : Option V) : L2.St := [some (.ref p), some (.bl b), some (.ref L), w, d, m, none]
def spRight : Sp := fun vs H Q _ => ∃ (p rp lp : Addr) (t : Th) (b : Bool), vs = [.ref p, .bl b] ∧ TgAt H p rp lp t ∧ ThW t ∧ WordL t.word ∧ ∀ H', Same H H' → Q (.bl true) H'
theorem ok_right {f C : Addr} {fd : FuncData} {k : Nat} (F : Fun K "_law_right" "_law_right" s_law_right f fd) (T : Txt mg) (D : SetT K C) (c_law_wrong : C8.Cal P w K mg base 1 "_law_wrong" spWrong []) (c_law_pieces : C8.Cal P w K mg base 1 "_law_pieces" spPieces []) (c_law_made : C8.Cal P w K mg base 7 "_law_made" (spMade K C) [])
    (M_rect : CalP P w K mg base 1 C "rect" (spRectP K C)) : FnOk P w K mg base CX0 (k + 8) f fd ["_law_things_here", "_law_is_tuple"] spRight := by
  refine F.ok sc_law_right (fun vs H Q E h => ?_) (fun cdv A outer s H vs Q E hr h => ?_)
  · obtain ⟨p, rp, lp, t, b, rfl, _⟩ := h
    rfl
  · obtain ⟨p, rp, lp, t, b, rfl, ht, hw, hL, q⟩ := h
    have hu := hr.units
    refine ⟨_, (C8.pss_cut (ps_par (i := 2) (j := 3) rfl sc_law_right.nd rfl rfl (by decide) rfl rfl (pa_cons (pe_callTy call_list_of (by rfl) T.z_list PyProof.Rows.boot_list (pa_cons (pe_ix ix_list (pv 0) pe_int (fun _ _ => rfl)) pa_nil)) (pa_cons (C8.pe_c c_law_wrong hr (by omega) (by rfl) (pa_cons (pv 0) pa_nil)) pa_nil)) rfl)
    (C8.pss_cut (ps_set (i := 4) sc_law_right.nd rfl (Or.inl rfl) (pe_ifExp (pt_cmpR op_ne (pv 3) pe_str (nomark _)) (pe_op op_add_str pe_str (pv 3)) pe_str))
    (C8.pss_cut (ps_if (PW.pt (pw_and (pt_cmpR op_eq (pv 4) pe_str (nomark _)) (pw_and1 (pt_cmpR op_gt (C8.pe_c c_law_pieces hr (by omega) (by rfl) (pa_cons (pv 0) pa_nil)) pe_int (nomark _))))) (pss_one (ps_set (i := 4) sc_law_right.nd rfl (Or.inl rfl) pe_str)) pss_nil)
    (C8.pss_cut (ps_set (i := 5) sc_law_right.nd rfl (Or.inl rfl) (C8.pe_c c_law_made hr (by omega) (by rfl) (pa_cons (pv 0) (pa_cons (pe_ifExp (pt_val (pv 1)) (pe_callTy call_tuple_of (by rfl) T.z_tuple PyProof.Rows.boot_tuple (pa_cons (pv 2) pa_nil)) (pv 2)) pa_nil))))
    (pss_cons (ps_if (pt_cmpR op_ne (pv 4) pe_str (nomark _)) (pss_one (ps_ret (pe_cmpR op_eq (pv 5) (pv 4) (nomark _)))) pss_nil)
    (pss_cons (ps_if (pt_val (pe_callB call_isi (by rfl) T.z_isinstance PyProof.Rows.boot_isinstance (pa_cons (pv 5) (pa_cons (pe_bltn (v := .ty "str") (by rfl) T.z_str PyProof.Rows.boot_str rfl) pa_nil)))) (pss_one (ps_ret pe_bl)) pss_nil)
    (pss_cons (ps_expr (pe_bm PySem.F.plainAttrs_list PySem.F.slot_list_append PySem.F.type_list_append mt_append (pv 2) (pa_cons pe_int pa_nil)))
    (pss_cons (ps_if (PW.pt (pw_or (pt_not (pt_val (pe_callB call_isi (by rfl) T.z_isinstance PyProof.Rows.boot_isinstance (pa_cons (pe_pr M_rect D.d.cl hr (by omega) (pv 5) rfl) (pa_cons (pe_bltn (v := .ty "tuple") (by rfl) T.z_tuple PyProof.Rows.boot_tuple rfl) pa_nil))))) (pw_or (pt_not (pt_val (pe_callB call_isi (by rfl) T.z_isinstance PyProof.Rows.boot_isinstance (pa_cons (pe_fld (pv 5) rfl) (pa_cons (pe_bltn (v := .ty "tuple") (by rfl) T.z_tuple PyProof.Rows.boot_tuple rfl) pa_nil))))) (pw_or1 (pt_cmpR (op_neD hu) (pe_fld (pv 5) rfl) (pe_callTy call_tuple_of (by rfl) T.z_tuple PyProof.Rows.boot_tuple (pa_cons (pe_ix ix_list (pv 0) pe_int (fun _ _ => rfl)) pa_nil)) (nomark _)))))) (pss_one (ps_ret pe_bl)) pss_nil)
    (pss_cons (ps_set (i := 6) sc_law_right.nd rfl (Or.inl rfl) (pe_lst (pa_cons (pe_pr M_rect D.d.cl hr (by omega) (pv 5) rfl) (pa_cons (pe_fld (pv 5) rfl) (pa_cons (pe_fld (pv 5) rfl) (pa_cons (pe_fld (pv 5) rfl) (pa_cons (pe_fld (pv 5) rfl) (pa_cons (pe_fld (pv 5) rfl) (pa_cons (pe_fld (pv 5) rfl) pa_nil)))))))))
    (pss_one (ps_ret (pe_cmpR (op_eqD hu) (pv 6) (pe_op op_cat (pe_slice sl_list (pv 0) po_none (po_some pe_int)) (pe_lst (pa_cons (pe_ix ix_list (pv 0) pe_int (fun _ _ => rfl)) pa_nil))) (nomark _))))))))))))), ?_⟩
    have rd : ∀ {G : Hp}, Same H G → TgAt G p rp lp t := fun s => ht.same s
    refine ⟨fun σ G => ∃ L W, σ = rwSt p L b (some (.str W)) none none ∧ W = (wrongOf t).getD "" ∧ H L = none ∧ Same H G ∧ G L = some (.lst (t.layers.map V.int)), ?_, ?_⟩
    · walk_at "ev"
      refine ⟨p, _, _, _, rfl, rfl, .inl (.inl ht.at_), rfl, ?_⟩
      walk_at "ev"
      refine ⟨lp, _, rfl, .inl (.inl (.inl ht.lay)), fun L nL => ?_⟩
      walk_at "ev"
      refine ⟨p, rp, lp, t, rfl, rd (same_upd nL), hw, hL, fun G sG => ?_⟩
      walk_at "ev"
      exact ⟨nL, (same_upd nL).trans sG, sG _ _ upd_same⟩
    rintro σ G ⟨L, W, rfl, hW, nL, s1, eL⟩
    refine ⟨fun σ G => ∃ D1, σ = rwSt p L b (some (.str W)) (some (.str D1)) none ∧ (W = "" → D1 = "") ∧ (W ≠ "" → D1 = "field " ++ W) ∧ Same H G ∧ G L = some (.lst (t.layers.map V.int)), ?_, ?_⟩
    · unfold rwSt
      walk_at "ev"
      · rename_i hc
        have hne : W ≠ "" := fun e => hc (by rw [e])
        obtain ⟨n, hn⟩ := wrong_yes (t := t) (by rw [← hW]; exact hne)
        have hWn : W = n := by rw [hW, hn]; rfl
        have h1 : ("field " : Str).length = 6 := by decide +kernel
        have h2 := wrong_len hn
        refine ⟨Nat.le_of_lt (small1000 (by rw [h1, hWn]; omega)), ?_⟩
        walk_at "ev"
        exact ⟨fun e => absurd e hne, fun _ => rfl, s1, eL⟩
      · rename_i hc
        have he : W = "" := V.str.inj (Decidable.not_not.mp hc)
        exact ⟨fun _ => rfl, fun h => absurd he h, s1, eL⟩
    rintro σ G ⟨D1, rfl, d1, d2, s1, eL⟩
    refine ⟨fun σ G => ∃ D2, σ = rwSt p L b (some (.str W)) (some (.str D2)) none ∧ D2 = (dueOf t).getD "" ∧ Same H G ∧ G L = some (.lst (t.layers.map V.int)), ?_, ?_⟩
    · unfold rwSt
      walk_at "ev"
      · rename_i hc
        have he : D1 = "" := V.str.inj hc
        have hWe : W = "" := Decidable.byContradiction fun h => field_ne W ((d2 h).symm.trans he)
        have hno := wrong_no (t := t) (by rw [← hW]; exact hWe)
        obtain ⟨⟨a1, a2, _⟩, ⟨a3, a4, _⟩, a5, a6, a7, a8⟩ := wrong_none hno
        refine ⟨p, rp, lp, t, rfl, rd s1, by omega, by omega, by omega, by omega, a5, a6, a7, a8, hw.word, hw.few, fun G2 s2 => ?_⟩
        walk_at "ev"
        · rename_i hb
          exact ⟨by rw [due_many hno hb]; rfl, s1.trans s2, s2 _ _ eL⟩
        · rename_i hb
          exact ⟨by rw [due_no hno hb]; exact he, s1.trans s2, s2 _ _ eL⟩
      · rename_i hc
        have hd : D1 ≠ "" := fun e => hc (by rw [e])
        have hne : W ≠ "" := fun e => hd (d1 e)
        obtain ⟨n, hn⟩ := wrong_yes (t := t) (by rw [← hW]; exact hne)
        exact ⟨by rw [due_wrong hn, d2 hne, hW, hn]; rfl, s1, eL⟩
    rintro σ G ⟨D2, rfl, d3, s1, eL⟩
    clear d1 d2
    refine ⟨fun σ G => ∃ v, σ = rwSt p L b (some (.str W)) (some (.str D2)) (some v) ∧ Same H G ∧ G L = some (.lst (t.layers.map V.int)) ∧ ((∃ d, dueOf t = some d ∧ v = .str d) ∨ (dueOf t = none ∧ ∃ x lq dx, v = .ref x ∧ SetAt K C G x rp lq dx t ∧ G lq = some (.tup (t.layers.map V.int)))), ?_, ?_⟩
    · unfold rwSt
      walk_at "ev"
      · refine ⟨L, _, rfl, .inl ⟨.inl (.inl eL), fun TL nT => ?_⟩⟩
        walk_at "ev"
        refine ⟨p, rp, lp, TL, t, rfl, rd (s1.trans (same_upd nT)), hw, .inr upd_same, fun n G2 hn s2 => ?_, fun G2 hn hp s2 => ?_, fun x lq dx G2 hn hp s2 at_ tp => ?_⟩
        · walk_at "ev"
          exact ⟨(s1.trans (same_upd nT)).trans s2, s2 _ _ (same_upd nT _ _ eL), .inl ⟨_, due_wrong hn, rfl⟩⟩
        · walk_at "ev"
          exact ⟨(s1.trans (same_upd nT)).trans s2, s2 _ _ (same_upd nT _ _ eL), .inl ⟨_, due_many hn hp, rfl⟩⟩
        · walk_at "ev"
          exact ⟨(s1.trans (same_upd nT)).trans s2, s2 _ _ (same_upd nT _ _ eL), .inr ⟨due_no hn (by omega), x, lq, dx, rfl, at_, tp⟩⟩
      · walk_at "ev"
        refine ⟨p, rp, lp, L, t, rfl, rd s1, hw, .inl eL, fun n G2 hn s2 => ?_, fun G2 hn hp s2 => ?_, fun x lq dx G2 hn hp s2 at_ tp => ?_⟩
        · walk_at "ev"
          exact ⟨s1.trans s2, s2 _ _ eL, .inl ⟨_, due_wrong hn, rfl⟩⟩
        · walk_at "ev"
          exact ⟨s1.trans s2, s2 _ _ eL, .inl ⟨_, due_many hn hp, rfl⟩⟩
        · walk_at "ev"
          exact ⟨s1.trans s2, s2 _ _ eL, .inr ⟨due_no hn (by omega), x, lq, dx, rfl, at_, tp⟩⟩
    rintro σ G ⟨v, rfl, s1, eL, hv⟩
    unfold rwSt
    rcases hv with ⟨d, hd, rfl⟩ | ⟨hno, x, lq, dx, rfl, hx, hlq⟩
    · have hD : D2 = d := by rw [d3, hd]; rfl
      subst hD
      walk_at "ev"
      · show Q (.bl (decide (V.str D2 = V.str D2))) G
        rw [decide_eq_true rfl]
        exact q G s1
      · rename_i hc
        exact absurd (V.str.inj (Decidable.not_not.mp hc)) (due_ne hd)
    · have hD : D2 = "" := by rw [d3, hno]; rfl
      subst hD
      have nLx : L ≠ x := fun e => by have := hx.at_; rw [← e, eL] at this; cases this
      have nLq : L ≠ lq := fun e => by rw [← e, eL] at hlq; cases hlq
      have htG := rd s1
      have nLr : L ≠ rp := fun e => by have := htG.rect; rw [← e, eL] at this; cases this
      have nLp : L ≠ p := fun e => by have := ht.at_; rw [← e, nL] at this; cases this
      walk_at "ev"
      refine ⟨_, _, _, _, _, rfl, .ty _, .base (.ins hx.at_ D.d.cl D.ha D.hn D.ht D.hm), D.kS, ?_⟩
      walk_at "ev"
      refine ⟨.inl ⟨rfl, _, .inl (.inl eL)⟩, ?_⟩
      walk_at "ev"
      refine ⟨L, _, _, rfl, rfl, eL, small1000 (by rw [List.length_map]; have := hw.few; omega), ?_⟩
      have nLlp : L ≠ lp := fun e => by have := ht.lay; rw [← e, nL] at this; cases this
      have a1 : SetAt K C (upd G L (.lst (t.layers.map V.int ++ [V.int 7]))) x rp lq dx t := ⟨(upd_ne nLx.symm).trans hx.at_, .inl (.inl ((upd_ne nLr.symm).trans htG.rect)), .inl (.inl ((upd_ne nLq.symm).trans hlq))⟩
      have x1 := a1.at_
      have r1 : upd G L (.lst (t.layers.map V.int ++ [V.int 7])) rp = some (.tup [.int t.x0, .int t.x1, .int t.y0, .int t.y1]) := (upd_ne nLr.symm).trans htG.rect
      have q1 : upd G L (.lst (t.layers.map V.int ++ [V.int 7])) lq = some (.tup (t.layers.map V.int)) := (upd_ne nLq.symm).trans hlq
      have p1 : upd G L (.lst (t.layers.map V.int ++ [V.int 7])) p = some (.lst [.ref rp, .int t.mode, .int t.tx, .int t.ty, .str t.word, .int t.planes, .ref lp, .str t.order]) := (upd_ne nLp.symm).trans htG.at_
      have l1 : upd G L (.lst (t.layers.map V.int ++ [V.int 7])) lp = some (.lst (t.layers.map V.int)) := (upd_ne nLlp.symm).trans htG.lay
      have sH1 : Same H (upd G L (.lst (t.layers.map V.int ++ [V.int 7]))) := fun b o e => (upd_ne (ne_of_none e nL)).trans (s1 b o e)
      generalize upd G L _ = G1 at *
      walk_at "ev"
      refine ⟨x, dx, _, rfl, x1, ?_⟩
      refine ⟨x, rp, lq, dx, t, rfl, a1, ?_⟩
      walk_at "ev"
      refine ⟨x, C, dx, _, _, rfl, x1, D.d.cl, D.d.n6, (by rfl), ?_⟩
      walk_at "ev"
      refine ⟨x, C, dx, _, _, rfl, x1, D.d.cl, D.d.n6, (by rfl), ?_⟩
      walk_at "ev"
      refine ⟨lp, _, rfl, .inl ⟨.inl (.inl l1), fun TL nT => ?_⟩⟩
      refine q_neS (d := .tuple (t.layers.map PyData.int)) (.tup (.inl (.inl (same_upd nT _ _ q1))) (dpall_is _)) (.tup (.inl (.inl upd_same)) (dpall_is _)) (sh_tupI _) ?_
      have s2 := same_upd (o := .tup (t.layers.map V.int)) nT
      have a2 : SetAt K C (upd G1 TL (.tup (t.layers.map V.int))) x rp lq dx t := ⟨s2 _ _ x1, .inl (.inl (s2 _ _ r1)), .inl (.inl (s2 _ _ q1))⟩
      have r2 := s2 _ _ r1
      have p2 := s2 _ _ p1
      have sH2 := sH1.trans s2
      generalize upd G1 TL _ = G2 at *
      have x2 := a2.at_
      clear x1 a1 r1 q1 p1 l1
      walk_at "ev"
      refine ⟨x, dx, _, rfl, x2, ?_⟩
      refine ⟨x, rp, lq, dx, t, rfl, a2, ?_⟩
      walk_at "ev"
      refine ⟨x, C, dx, _, _, rfl, x2, D.d.cl, D.d.n1, (by rfl), ?_⟩
      walk_at "ev"
      refine ⟨x, C, dx, _, _, rfl, x2, D.d.cl, D.d.n2, (by rfl), ?_⟩
      walk_at "ev"
      refine ⟨x, C, dx, _, _, rfl, x2, D.d.cl, D.d.n3, (by rfl), ?_⟩
      walk_at "ev"
      refine ⟨x, C, dx, _, _, rfl, x2, D.d.cl, D.d.n4, (by rfl), ?_⟩
      walk_at "ev"
      refine ⟨x, C, dx, _, _, rfl, x2, D.d.cl, D.d.n5, (by rfl), ?_⟩
      walk_at "ev"
      refine ⟨x, C, dx, _, _, rfl, x2, D.d.cl, D.d.n7, (by rfl), ?_⟩
      refine ⟨by show 7 ≤ sizeLine; decide, fun TD nTD => ?_⟩
      have b := (Bag.nil G2).add (o := .lst [.ref rp, .int t.mode, .int t.tx, .int t.ty, .str t.word, .int t.planes, .str t.order]) nTD
      generalize upd G2 TD _ = G3 at *
      walk_at "ev"
      refine ⟨p, _, rfl, .inl (.inl (b.same _ _ p2)), fun SL nSL => ?_⟩
      have b := b.add (o := .lst [.ref rp, .int t.mode, .int t.tx, .int t.ty, .str t.word, .int t.planes]) nSL
      rw [show cutV [V.ref rp, .int t.mode, .int t.tx, .int t.ty, .str t.word, .int t.planes, .ref lp, .str t.order] none (some 6) = [.ref rp, .int t.mode, .int t.tx, .int t.ty, .str t.word, .int t.planes] from rfl]
      generalize upd G3 SL _ = G4 at *
      have p4 := b.same _ _ p2
      walk_at "ev"
      refine ⟨by show 1 ≤ sizeLine; decide, fun Y nY => ?_⟩
      have b := b.add (o := .lst [.str t.order]) nY
      generalize upd G4 Y _ = G5 at *
      refine ⟨SL, Y, _, _, rfl, rfl, b.get 1 rfl, b.get 2 rfl, by show 6 + 1 ≤ sizeLine; decide, fun Z nZ => ?_⟩
      have b := b.add (o := .lst [.ref rp, .int t.mode, .int t.tx, .int t.ty, .str t.word, .int t.planes, .str t.order]) nZ
      refine q_eqS (d := toldD t) (dp_told (b.get (e := (TD, _)) 0 rfl) (b.same _ _ r2)) (dp_told (b.get (e := (Z, _)) 3 rfl) (b.same _ _ r2)) (sh_told hL hw.order) ?_
      exact q _ (sH2.trans b.same)
/-! ### the law -/
def spLaw (K : PySem.W.Frag) : Sp := fun vs H Q _ => ∃ (a : Addr) (ns : List Int), vs = [.ref a] ∧ SqL K H a (ns.map V.int) ∧ ns.length ≤ 63 ∧ ∀ H', Q (.bl true) H'
theorem ok_law {f : Addr} {fd : FuncData} {k : Nat} (F : Fun K "law" "law" s_law f fd) (T : Txt mg) (c_law_pool : C8.Cal P w K mg base 1 "_law_pool" (spPool K) []) (c_law_take : C8.Cal P w K mg base 1 "_law_take" spTake [])
    (c_law_things : C8.Cal P w K mg base 4 "_law_things" spThings []) (c_law_right : C8.Cal P w K mg base 8 "_law_right" spRight []) : FnOk P w K mg base CX0 (k + 9) f fd ["_law_script"] (spLaw K) := by
  refine F.ok sc_law (fun vs H Q E h => ?_) (fun cdv A outer s H vs Q E hr h => ?_)
  · obtain ⟨a, ns, rfl, _⟩ := h
    rfl
  · obtain ⟨a, ns, rfl, hS, hl, q⟩ := h
    refine ⟨_, (pss_cons (ps_for PassesOwn.never rfl (pi_range1 (by rfl) T.z_range (pa_cons (pe_callB (call_max2 rfl) (by rfl) T.z_max PyProof.Rows.boot_max (pa_cons pe_int (pa_cons (pe_callB (call_min2 rfl) (by rfl) T.z_min PyProof.Rows.boot_min (pa_cons (pe_callB call_len_seq (by rfl) T.z_len PySem.boot_len (pa_cons (pv 0) pa_nil)) (pa_cons pe_int pa_nil))) pa_nil))) pa_nil)) (pg_name (i := 1) sc_law.nd rfl (Or.inl rfl))
      (pss_cons (ps_set (i := 2) sc_law.nd rfl (Or.inl rfl) (C8.pe_c c_law_pool hr (by omega) (by rfl) (pa_cons (pv 0) (pa_cons (pv 1) pa_nil))))
    (pss_one (ps_for PassesOwn.never rfl (pi_range1 (by rfl) T.z_range (pa_cons pe_int pa_nil)) (pg_name (i := 3) sc_law.nd rfl (Or.inl rfl))
      (pss_one (ps_if (pt_not (pt_val (C8.pe_c c_law_right hr (by omega) (by rfl) (pa_cons (C8.pe_c c_law_things hr (by omega) (by rfl) (pa_cons (pv 2) pa_nil)) (pa_cons (pe_cmpR op_eq (C8.pe_c c_law_take hr (by omega) (by rfl) (pa_cons (pv 2) (pa_cons pe_int pa_nil))) pe_int (nomark _)) pa_nil))))) (pss_one (ps_ret pe_bl)) pss_nil))))))
    (pss_one (ps_ret pe_bl))), ?_⟩
    walk_at "ev"
    refine ⟨(by split <;> split <;> omega), (by split <;> split <;> omega), ?_⟩
    refine for_range (fun i σ H1 => ∃ v1 v2 v3, σ = [some (.ref a), v1, v2, v3] ∧ Same H H1) ⟨_, _, _, rfl, Same.refl H⟩ ?_ ?_
    · rintro i σ H1 hi ⟨v1, v2, v3, rfl, s1⟩
      walk_at "ev"
      refine ⟨_, _, _, rfl, s1.seq hS, (by omega), ?_, fun p H2 np sm hs => ?_⟩
      · split at hi <;> split at hi <;> omega
      have s2 : Same H H2 := s1.trans sm
      have npH : H p = none := s1.free np
      walk_at "ev"
      refine ⟨by omega, by omega, ?_⟩
      refine for_range (fun j σ G => ∃ v1 v3, σ = [some (.ref a), v1, some (.ref p), v3] ∧ Src G p ∧ Up p H2 G) ⟨_, _, rfl, hs, Up.refl p H2⟩ ?_ ?_
      · rintro j σ G hj ⟨v1, v3, rfl, sG, uG⟩
        walk_at "ev"
        refine ⟨sG, fun tp rp lp t G1 s3 u3 tg ntp nrp nlp tw wl => ?_⟩
        walk_at "ev"
        refine ⟨s3, by decide, by decide, fun r G2 r0 r1 s4 u4 => ?_⟩
        have ne : ∀ {x : Addr}, G x = none → x ≠ p := fun n e => by rw [e] at n; obtain ⟨_, _, e, _⟩ := sG; rw [e] at n; cases n
        walk_at "ev"
        refine ⟨tp, rp, lp, t, _, rfl, ⟨(u4 _ (ne ntp)).trans tg.at_, (u4 _ (ne nrp)).trans tg.rect, (u4 _ (ne nlp)).trans tg.lay⟩, tw, wl, fun G3 s5 => ?_⟩
        walk_at "ev"
        exact ⟨src_same s5 s4, (uG.trans u3).trans (u4.up.trans (up_same s5))⟩
      · rintro σ G ⟨v1, v3, rfl, sG, uG⟩
        walk_at "ev"
        exact ⟨_, _, _, rfl, fun b o hb => uG b o (fun e => by rw [e, npH] at hb; cases hb) (s2 b o hb)⟩
    · rintro σ H1 ⟨v1, v2, v3, rfl, s1⟩
      walk_at "ev"
      exact q _
end
/-! ### what the top has written -/
theorem calmF {P : Program} {w : World} {K : PySem.W.Frag} {mg : Str → Option Value} {base : Heap} {k : Nat} {f : Addr} {fd : FuncData} {ps : List Str} {sp : Sp} (F : FnOk P w K mg base L2.CX0 k f fd ps sp) : FnOk P w K mg base (L2.CX P w) k f fd ps sp :=
  ⟨F.len, fun A outer s H args us vs Q E hr he hb hv hs => codeAny_mono (F.run A outer s H args us vs Q E hr he hb hv hs) fun r s' h => by
    cases r with
    | ok x => cases x <;> exact h
    | error e => exact h.elim⟩
theorem kbm0 {K : PySem.W.Frag} {x qual s : Str} {params : Arguments} {body : List Stmt} {scope : Scope} {kV doc pm cd ct : Value} {an : Option Addr} (h : ∀ z, bindArgs (PySem.W.fnOf x qual params body scope .none kV doc pm an cd ct) ⟨[z], []⟩ = pure [(s, z)]) : KBn K (PySem.W.fnOf x qual params body scope .none kV doc pm an cd ct) [s] 1 [] (fun us ws => us ++ ws) (fun vs zs => vs ++ zs) :=
  ⟨fun st us ws _ h1 h2 => match us, ws, h1, h2 with | [z], [], _, _ => .of_eq (h z), fun r1 r2 => r1.append r2⟩
theorem kbm8 {K : PySem.W.Frag} {x qual s p0 p1 p2 p3 p4 p5 p6 p7 : Str} {params : Arguments} {body : List Stmt} {scope : Scope} {kV doc pm cd ct : Value} {an : Option Addr} (h : ∀ z u0 u1 u2 u3 u4 u5 u6 u7, bindArgs (PySem.W.fnOf x qual params body scope .none kV doc pm an cd ct) ⟨[z], [(p0, u0), (p1, u1), (p2, u2), (p3, u3), (p4, u4), (p5, u5), (p6, u6), (p7, u7)]⟩ = pure [(s, z), (p0, u0), (p1, u1), (p2, u2), (p3, u3), (p4, u4), (p5, u5), (p6, u6), (p7, u7)]) : KBn K (PySem.W.fnOf x qual params body scope .none kV doc pm an cd ct) [s, p0, p1, p2, p3, p4, p5, p6, p7] 1 [p0, p1, p2, p3, p4, p5, p6, p7] (fun us ws => us ++ ws) (fun vs zs => vs ++ zs) :=
  ⟨fun st us ws _ h1 h2 => match us, ws, h1, h2 with | [z], [u0, u1, u2, u3, u4, u5, u6, u7], _, _ => .of_eq (h z u0 u1 u2 u3 u4 u5 u6 u7), fun r1 r2 => r1.append r2⟩
theorem kit_tyr {K : PySem.W.Frag} {C : Addr} {T : String} {b : Bool} (m : PySem.W.kitMeta T = true) (s : PySem.W.subIn K (.ref C) (.type T) = some b) : PySem.W.kitOne K (.ref C) (.type T) = some b := by
  unfold PySem.W.kitOne
  rw [if_neg (by simp)]
  unfold PySem.W.kitCls
  show (if _ then _ else _) = _
  rw [if_pos m]
  exact s
theorem kbm1 {K : PySem.W.Frag} {x qual s p : Str} {params : Arguments} {body : List Stmt} {scope : Scope} {kV doc pm cd ct : Value} {an : Option Addr} (h : ∀ z u, bindArgs (PySem.W.fnOf x qual params body scope .none kV doc pm an cd ct) ⟨[z], [(p, u)]⟩ = pure [(s, z), (p, u)]) : KBn K (PySem.W.fnOf x qual params body scope .none kV doc pm an cd ct) [s, p] 1 [p] (fun us ws => us ++ ws) (fun vs zs => vs ++ zs) :=
  ⟨fun st us ws _ h1 h2 => match us, ws, h1, h2 with | [z], [u], _, _ => .of_eq (h z u), fun r1 r2 => r1.append r2⟩
theorem all_mk {l : PySem.W.OpenLaw} {w : World} {K : PySem.W.Frag} {h : Heap} {mg : Str → Option Value} {fa : Addr} (X : K.In h) (G : h.Ns mainGlobals mg) (hfa : mg "law" = some (.ref fa))
    {C : Addr} {BF NSBF : Addr} {nmBF qnBF : Str} {bsBF bmBF suBF : List Value} {slBF : List Str} {abBF : Bool} {coBF : Option Bool} {ddBF : Option Addr} {kaBF kbBF kcBF kdBF keBF : Option Value} {TM NSTM : Addr} {nmTM qnTM : Str} {bsTM bmTM suTM : List Value} {slTM : List Str} {abTM : Bool} {coTM : Option Bool} {ddTM : Option Addr} {kaTM kbTM kcTM kdTM keTM : Option Value} (eC : PySem.W.nsIn K mainGlobals "Setting" = some (some (.ref C))) (pgC : PySem.W.plainGet K C Str.empty = true) (hdC : PySem.W.hasDictIn K C = true) (poC : PySem.W.plainOver K C = true) (saC : PySem.W.findIn K (.ref C) "__setattr__" = some (some (.builtin "object.__setattr__"))) (mkC : PySem.W.makesIn K C = true) (kcC : PySem.W.keepIn K (.ref C) = true) (naC0 : PySem.W.findIn K (.ref C) "_rect" = some none) (naC1 : PySem.W.findIn K (.ref C) "mode" = some none) (naC2 : PySem.W.findIn K (.ref C) "tx" = some none) (naC3 : PySem.W.findIn K (.ref C) "ty" = some none) (naC4 : PySem.W.findIn K (.ref C) "word" = some none) (naC5 : PySem.W.findIn K (.ref C) "planes" = some none) (naC6 : PySem.W.findIn K (.ref C) "layers" = some none) (naC7 : PySem.W.findIn K (.ref C) "order" = some none) (eBF : PySem.W.nsIn K mainGlobals "BadField" = some (some (.ref BF))) (lcBF : K.lookup BF = some (excClassObj nmBF qnBF BF NSBF bsBF bmBF true slBF suBF abBF coBF ddBF kaBF kbBF kcBF kdBF keBF "ValueError.__new__")) (rvBF : PySem.HandSPX.refsVE bmBF = true) (saBF : PySem.W.findIn K (.ref BF) "__setattr__" = some (some (.builtin "object.__setattr__"))) (exBF : PySem.W.subIn K (.ref BF) (.type "BaseException") = some true) (tyBF : PySem.W.typeIn K (.ref BF) = some (.type "type")) (kpBF : PySem.W.keepIn K (.ref BF) = true) (gaBF : PySem.W.findIn K (.ref BF) "__getattribute__" = some (some (.builtin "BaseException.__getattribute__"))) (ggBF : PySem.W.findIn K (.ref BF) "__getattr__" = some none) (hdBF : PySem.W.hasDictIn K BF = true) (naBF : PySem.W.findIn K (.ref BF) "name" = some none) (caBF : PySem.W.findIn K (.ref BF) "__class__" = some (some (.builtin "object.__class__"))) (moBF : PySem.W.mroIn K BF (.type "object") = some true) (sBFBF : PySem.W.subIn K (.ref BF) (.ref BF) = some true) (eTM : PySem.W.nsIn K mainGlobals "TooMany" = some (some (.ref TM))) (lcTM : K.lookup TM = some (excClassObj nmTM qnTM TM NSTM bsTM bmTM true slTM suTM abTM coTM ddTM kaTM kbTM kcTM kdTM keTM "ValueError.__new__")) (rvTM : PySem.HandSPX.refsVE bmTM = true) (saTM : PySem.W.findIn K (.ref TM) "__setattr__" = some (some (.builtin "object.__setattr__"))) (exTM : PySem.W.subIn K (.ref TM) (.type "BaseException") = some true) (tyTM : PySem.W.typeIn K (.ref TM) = some (.type "type")) (kpTM : PySem.W.keepIn K (.ref TM) = true) (gaTM : PySem.W.findIn K (.ref TM) "__getattribute__" = some (some (.builtin "BaseException.__getattribute__"))) (ggTM : PySem.W.findIn K (.ref TM) "__getattr__" = some none) (hdTM : PySem.W.hasDictIn K TM = true) (naTM : PySem.W.findIn K (.ref TM) "most" = some none) (caTM : PySem.W.findIn K (.ref TM) "__class__" = some (some (.builtin "object.__class__"))) (moTM : PySem.W.mroIn K TM (.type "object") = some true) (sTMTM : PySem.W.subIn K (.ref TM) (.ref TM) = some true)
    {od0 an0 : Option Addr} {sl0 : Array (Option Value)} {oc0 kV0 dc0 pm0 cd0 ct0 : Value} {f0 : Addr}
    (a0 : PySem.W.nsIn K mainGlobals "layers_are_right" = some (some (.ref f0))) (l0 : K.lookup f0 = some ⟨oc0, od0, .func (PySem.W.fnOf "layers_are_right" "layers_are_right" (defArgs s_layers_are_right) (defBody s_layers_are_right) (defScope s_layers_are_right) .none kV0 dc0 pm0 an0 cd0 ct0), sl0⟩) (c0 : PySem.W.codeIn K cd0 "layers_are_right" = true) (k0 : PySem.W.keepIn K (.ref f0) = true)
    {od1 an1 : Option Addr} {sl1 : Array (Option Value)} {oc1 kV1 dc1 pm1 cd1 ct1 : Value} {f1 : Addr}
    (a1 : PySem.W.nsIn K mainGlobals "rim_is_right" = some (some (.ref f1))) (l1 : K.lookup f1 = some ⟨oc1, od1, .func (PySem.W.fnOf "rim_is_right" "rim_is_right" (defArgs s_rim_is_right) (defBody s_rim_is_right) (defScope s_rim_is_right) .none kV1 dc1 pm1 an1 cd1 ct1), sl1⟩) (c1 : PySem.W.codeIn K cd1 "rim_is_right" = true) (k1 : PySem.W.keepIn K (.ref f1) = true)
    {od2 an2 : Option Addr} {sl2 : Array (Option Value)} {oc2 kV2 dc2 pm2 cd2 ct2 : Value} {f2 : Addr}
    (a2 : PySem.W.nsIn K mainGlobals "side_is_right" = some (some (.ref f2))) (l2 : K.lookup f2 = some ⟨oc2, od2, .func (PySem.W.fnOf "side_is_right" "side_is_right" (defArgs s_side_is_right) (defBody s_side_is_right) (defScope s_side_is_right) .none kV2 dc2 pm2 an2 cd2 ct2), sl2⟩) (c2 : PySem.W.codeIn K cd2 "side_is_right" = true) (k2 : PySem.W.keepIn K (.ref f2) = true)
    {od3 an3 : Option Addr} {sl3 : Array (Option Value)} {oc3 kV3 dc3 pm3 cd3 ct3 : Value} {f3 : Addr}
    (a3 : PySem.W.nsIn K mainGlobals "word_is_right" = some (some (.ref f3))) (l3 : K.lookup f3 = some ⟨oc3, od3, .func (PySem.W.fnOf "word_is_right" "word_is_right" (defArgs s_word_is_right) (defBody s_word_is_right) (defScope s_word_is_right) .none kV3 dc3 pm3 an3 cd3 ct3), sl3⟩) (c3 : PySem.W.codeIn K cd3 "word_is_right" = true) (k3 : PySem.W.keepIn K (.ref f3) = true)
    {od4 an4 : Option Addr} {sl4 : Array (Option Value)} {oc4 kV4 dc4 pm4 cd4 ct4 : Value} {f4 : Addr}
    (a4 : PySem.W.nsIn K mainGlobals "order_is_right" = some (some (.ref f4))) (l4 : K.lookup f4 = some ⟨oc4, od4, .func (PySem.W.fnOf "order_is_right" "order_is_right" (defArgs s_order_is_right) (defBody s_order_is_right) (defScope s_order_is_right) .none kV4 dc4 pm4 an4 cd4 ct4), sl4⟩) (c4 : PySem.W.codeIn K cd4 "order_is_right" = true) (k4 : PySem.W.keepIn K (.ref f4) = true)
    {od5 an5 : Option Addr} {sl5 : Array (Option Value)} {oc5 kV5 dc5 pm5 cd5 ct5 : Value} {f5 : Addr}
    (a5 : PySem.W.nsIn K mainGlobals "channel_count" = some (some (.ref f5))) (l5 : K.lookup f5 = some ⟨oc5, od5, .func (PySem.W.fnOf "channel_count" "channel_count" (defArgs s_channel_count) (defBody s_channel_count) (defScope s_channel_count) .none kV5 dc5 pm5 an5 cd5 ct5), sl5⟩) (c5 : PySem.W.codeIn K cd5 "channel_count" = true) (k5 : PySem.W.keepIn K (.ref f5) = true)
    {od6 an6 : Option Addr} {sl6 : Array (Option Value)} {oc6 kV6 dc6 pm6 cd6 ct6 : Value} {f6 : Addr}
    (a6 : PySem.W.nsIn K mainGlobals "tile_span" = some (some (.ref f6))) (l6 : K.lookup f6 = some ⟨oc6, od6, .func (PySem.W.fnOf "tile_span" "tile_span" (defArgs s_tile_span) (defBody s_tile_span) (defScope s_tile_span) .none kV6 dc6 pm6 an6 cd6 ct6), sl6⟩) (c6 : PySem.W.codeIn K cd6 "tile_span" = true) (k6 : PySem.W.keepIn K (.ref f6) = true)
    {od7 an7 : Option Addr} {sl7 : Array (Option Value)} {oc7 kV7 dc7 pm7 cd7 ct7 : Value} {f7 : Addr}
    (a7 : PySem.W.nsIn K mainGlobals "check_fields" = some (some (.ref f7))) (l7 : K.lookup f7 = some ⟨oc7, od7, .func (PySem.W.fnOf "check_fields" "check_fields" (defArgs s_check_fields) (defBody s_check_fields) (defScope s_check_fields) .none kV7 dc7 pm7 an7 cd7 ct7), sl7⟩) (c7 : PySem.W.codeIn K cd7 "check_fields" = true) (k7 : PySem.W.keepIn K (.ref f7) = true)
    {od8 an8 : Option Addr} {sl8 : Array (Option Value)} {oc8 kV8 dc8 pm8 cd8 ct8 : Value} {f8 : Addr}
    (a8 : PySem.W.findIn K (.ref BF) "__init__" = some (some (.ref f8))) (i8 : PySem.W.isFn K (.ref f8) = true)
    (l8 : K.lookup f8 = some ⟨oc8, od8, .func (PySem.W.fnOf "__init__" "BadField.__init__" (defArgs s_BadField_init) (defBody s_BadField_init) (defScope s_BadField_init) .none kV8 dc8 pm8 an8 cd8 ct8), sl8⟩) (c8 : PySem.W.codeIn K cd8 "BadField.__init__" = true) (k8 : PySem.W.keepIn K (.ref f8) = true)
    {od9 an9 : Option Addr} {sl9 : Array (Option Value)} {oc9 kV9 dc9 pm9 cd9 ct9 : Value} {f9 : Addr}
    (a9 : PySem.W.findIn K (.ref TM) "__init__" = some (some (.ref f9))) (i9 : PySem.W.isFn K (.ref f9) = true)
    (l9 : K.lookup f9 = some ⟨oc9, od9, .func (PySem.W.fnOf "__init__" "TooMany.__init__" (defArgs s_TooMany_init) (defBody s_TooMany_init) (defScope s_TooMany_init) .none kV9 dc9 pm9 an9 cd9 ct9), sl9⟩) (c9 : PySem.W.codeIn K cd9 "TooMany.__init__" = true) (k9 : PySem.W.keepIn K (.ref f9) = true)
    {od10 an10 : Option Addr} {sl10 : Array (Option Value)} {oc10 kV10 dc10 pm10 cd10 ct10 : Value} {f10 : Addr}
    (a10 : PySem.W.findIn K (.ref C) "__init__" = some (some (.ref f10))) (i10 : PySem.W.isFn K (.ref f10) = true)
    (l10 : K.lookup f10 = some ⟨oc10, od10, .func (PySem.W.fnOf "__init__" "Setting.__init__" (defArgs s_Setting_init) (defBody s_Setting_init) (defScope s_Setting_init) .none kV10 dc10 pm10 an10 cd10 ct10), sl10⟩) (c10 : PySem.W.codeIn K cd10 "Setting.__init__" = true) (k10 : PySem.W.keepIn K (.ref f10) = true)
    {od11 an11 : Option Addr} {sl11 : Array (Option Value)} {oc11 kV11 dc11 pm11 cd11 ct11 : Value} {f11 : Addr}
    {p11 : Addr} {rs11 : List Value} (a11 : PySem.W.findIn K (.ref C) "rect" = some (some (.ref p11))) (g11 : PySem.W.specialIn K (.ref p11) "__get__" = some (some (.builtin "property.__get__"))) (t11 : PySem.W.takesIn K (.ref p11) = some true) (r11 : PySem.W.recIn K p11 "property" = some (.ref f11 :: rs11))
    (l11 : K.lookup f11 = some ⟨oc11, od11, .func (PySem.W.fnOf "rect" "Setting.rect" (defArgs s_Setting_rect) (defBody s_Setting_rect) (defScope s_Setting_rect) .none kV11 dc11 pm11 an11 cd11 ct11), sl11⟩) (c11 : PySem.W.codeIn K cd11 "Setting.rect" = true) (k11 : PySem.W.keepIn K (.ref f11) = true)
    {od12 an12 : Option Addr} {sl12 : Array (Option Value)} {oc12 kV12 dc12 pm12 cd12 ct12 : Value} {f12 : Addr}
    (a12 : PySem.W.findIn K (.ref C) "_piece_count" = some (some (.ref f12))) (i12 : PySem.W.isFn K (.ref f12) = true)
    (l12 : K.lookup f12 = some ⟨oc12, od12, .func (PySem.W.fnOf "_piece_count" "Setting._piece_count" (defArgs s_Setting_piece_count) (defBody s_Setting_piece_count) (defScope s_Setting_piece_count) .none kV12 dc12 pm12 an12 cd12 ct12), sl12⟩) (c12 : PySem.W.codeIn K cd12 "Setting._piece_count" = true) (k12 : PySem.W.keepIn K (.ref f12) = true)
    {od13 an13 : Option Addr} {sl13 : Array (Option Value)} {oc13 kV13 dc13 pm13 cd13 ct13 : Value} {f13 : Addr}
    (a13 : PySem.W.nsIn K mainGlobals "_law_pool" = some (some (.ref f13))) (l13 : K.lookup f13 = some ⟨oc13, od13, .func (PySem.W.fnOf "_law_pool" "_law_pool" (defArgs s_law_pool) (defBody s_law_pool) (defScope s_law_pool) .none kV13 dc13 pm13 an13 cd13 ct13), sl13⟩) (c13 : PySem.W.codeIn K cd13 "_law_pool" = true) (k13 : PySem.W.keepIn K (.ref f13) = true)
    {od14 an14 : Option Addr} {sl14 : Array (Option Value)} {oc14 kV14 dc14 pm14 cd14 ct14 : Value} {f14 : Addr}
    (a14 : PySem.W.nsIn K mainGlobals "_law_take" = some (some (.ref f14))) (l14 : K.lookup f14 = some ⟨oc14, od14, .func (PySem.W.fnOf "_law_take" "_law_take" (defArgs s_law_take) (defBody s_law_take) (defScope s_law_take) .none kV14 dc14 pm14 an14 cd14 ct14), sl14⟩) (c14 : PySem.W.codeIn K cd14 "_law_take" = true) (k14 : PySem.W.keepIn K (.ref f14) = true)
    {od15 an15 : Option Addr} {sl15 : Array (Option Value)} {oc15 kV15 dc15 pm15 cd15 ct15 : Value} {f15 : Addr}
    (a15 : PySem.W.nsIn K mainGlobals "_law_one" = some (some (.ref f15))) (l15 : K.lookup f15 = some ⟨oc15, od15, .func (PySem.W.fnOf "_law_one" "_law_one" (defArgs s_law_one) (defBody s_law_one) (defScope s_law_one) .none kV15 dc15 pm15 an15 cd15 ct15), sl15⟩) (c15 : PySem.W.codeIn K cd15 "_law_one" = true) (k15 : PySem.W.keepIn K (.ref f15) = true)
    {od16 an16 : Option Addr} {sl16 : Array (Option Value)} {oc16 kV16 dc16 pm16 cd16 ct16 : Value} {f16 : Addr}
    (a16 : PySem.W.nsIn K mainGlobals "_law_layers" = some (some (.ref f16))) (l16 : K.lookup f16 = some ⟨oc16, od16, .func (PySem.W.fnOf "_law_layers" "_law_layers" (defArgs s_law_layers) (defBody s_law_layers) (defScope s_law_layers) .none kV16 dc16 pm16 an16 cd16 ct16), sl16⟩) (c16 : PySem.W.codeIn K cd16 "_law_layers" = true) (k16 : PySem.W.keepIn K (.ref f16) = true)
    {od17 an17 : Option Addr} {sl17 : Array (Option Value)} {oc17 kV17 dc17 pm17 cd17 ct17 : Value} {f17 : Addr}
    (a17 : PySem.W.nsIn K mainGlobals "_law_side" = some (some (.ref f17))) (l17 : K.lookup f17 = some ⟨oc17, od17, .func (PySem.W.fnOf "_law_side" "_law_side" (defArgs s_law_side) (defBody s_law_side) (defScope s_law_side) .none kV17 dc17 pm17 an17 cd17 ct17), sl17⟩) (c17 : PySem.W.codeIn K cd17 "_law_side" = true) (k17 : PySem.W.keepIn K (.ref f17) = true)
    {od18 an18 : Option Addr} {sl18 : Array (Option Value)} {oc18 kV18 dc18 pm18 cd18 ct18 : Value} {f18 : Addr}
    (a18 : PySem.W.nsIn K mainGlobals "_law_things" = some (some (.ref f18))) (l18 : K.lookup f18 = some ⟨oc18, od18, .func (PySem.W.fnOf "_law_things" "_law_things" (defArgs s_law_things) (defBody s_law_things) (defScope s_law_things) .none kV18 dc18 pm18 an18 cd18 ct18), sl18⟩) (c18 : PySem.W.codeIn K cd18 "_law_things" = true) (k18 : PySem.W.keepIn K (.ref f18) = true)
    {od19 an19 : Option Addr} {sl19 : Array (Option Value)} {oc19 kV19 dc19 pm19 cd19 ct19 : Value} {f19 : Addr}
    (a19 : PySem.W.nsIn K mainGlobals "_law_wrong" = some (some (.ref f19))) (l19 : K.lookup f19 = some ⟨oc19, od19, .func (PySem.W.fnOf "_law_wrong" "_law_wrong" (defArgs s_law_wrong) (defBody s_law_wrong) (defScope s_law_wrong) .none kV19 dc19 pm19 an19 cd19 ct19), sl19⟩) (c19 : PySem.W.codeIn K cd19 "_law_wrong" = true) (k19 : PySem.W.keepIn K (.ref f19) = true)
    {od20 an20 : Option Addr} {sl20 : Array (Option Value)} {oc20 kV20 dc20 pm20 cd20 ct20 : Value} {f20 : Addr}
    (a20 : PySem.W.nsIn K mainGlobals "_law_pieces" = some (some (.ref f20))) (l20 : K.lookup f20 = some ⟨oc20, od20, .func (PySem.W.fnOf "_law_pieces" "_law_pieces" (defArgs s_law_pieces) (defBody s_law_pieces) (defScope s_law_pieces) .none kV20 dc20 pm20 an20 cd20 ct20), sl20⟩) (c20 : PySem.W.codeIn K cd20 "_law_pieces" = true) (k20 : PySem.W.keepIn K (.ref f20) = true)
    {od21 an21 : Option Addr} {sl21 : Array (Option Value)} {oc21 kV21 dc21 pm21 cd21 ct21 : Value} {f21 : Addr}
    (a21 : PySem.W.nsIn K mainGlobals "_law_made" = some (some (.ref f21))) (l21 : K.lookup f21 = some ⟨oc21, od21, .func (PySem.W.fnOf "_law_made" "_law_made" (defArgs s_law_made) (defBody s_law_made) (defScope s_law_made) .none kV21 dc21 pm21 an21 cd21 ct21), sl21⟩) (c21 : PySem.W.codeIn K cd21 "_law_made" = true) (k21 : PySem.W.keepIn K (.ref f21) = true)
    {od22 an22 : Option Addr} {sl22 : Array (Option Value)} {oc22 kV22 dc22 pm22 cd22 ct22 : Value} {f22 : Addr}
    (a22 : PySem.W.nsIn K mainGlobals "_law_right" = some (some (.ref f22))) (l22 : K.lookup f22 = some ⟨oc22, od22, .func (PySem.W.fnOf "_law_right" "_law_right" (defArgs s_law_right) (defBody s_law_right) (defScope s_law_right) .none kV22 dc22 pm22 an22 cd22 ct22), sl22⟩) (c22 : PySem.W.codeIn K cd22 "_law_right" = true) (k22 : PySem.W.keepIn K (.ref f22) = true)
    {od23 an23 : Option Addr} {sl23 : Array (Option Value)} {oc23 kV23 dc23 pm23 cd23 ct23 : Value} {f23 : Addr}
    (a23 : PySem.W.nsIn K mainGlobals "law" = some (some (.ref f23))) (l23 : K.lookup f23 = some ⟨oc23, od23, .func (PySem.W.fnOf "law" "law" (defArgs s_law) (defBody s_law) (defScope s_law) .none kV23 dc23 pm23 an23 cd23 ct23), sl23⟩) (c23 : PySem.W.codeIn K cd23 "law" = true) (k23 : PySem.W.keepIn K (.ref f23) = true)
    {BG N : Addr} {KA : Addr} {u1 u2 u3 u4 : Tok} {nK : Nat} {sK : Array (Option Value)} {q0 q1 q2 q3 q4 q5 q6 q7 : Tok} 
    (y0 : PySem.W.nsIn K mainGlobals "int" = some none)
    (y1 : PySem.W.nsIn K mainGlobals "len" = some none)
    (y2 : PySem.W.nsIn K mainGlobals "max" = some none)
    (y3 : PySem.W.nsIn K mainGlobals "min" = some none)
    (y4 : PySem.W.nsIn K mainGlobals "range" = some none)
    (y5 : PySem.W.nsIn K mainGlobals "isinstance" = some none)
    (y6 : PySem.W.nsIn K mainGlobals "list" = some none)
    (y7 : PySem.W.nsIn K mainGlobals "tuple" = some none)
    (y8 : PySem.W.nsIn K mainGlobals "sum" = some none)
    (y9 : PySem.W.nsIn K mainGlobals "sorted" = some none)
    (y10 : PySem.W.nsIn K mainGlobals "abs" = some none)
    (y11 : PySem.W.nsIn K mainGlobals "str" = some none)
    (eBG : PySem.W.nsIn K mainGlobals "BadGrid" = some (some (.ref BG)))
    (eN : PySem.W.nsIn K mainGlobals "NarrowError" = some (some (.ref N)))
    (m4 : PySem.W.specialIn K (.builtin "object.__class__") "__get__" = some (some (.builtin "getset_descriptor.__get__")))
    (m5 : PySem.W.takesIn K (.builtin "object.__class__") = some true)
    (exBG : PySem.W.excIn K BG [.type "ValueError", .type "Exception", .type "BaseException", .type "object"] "ValueError.__new__" = true)
    (kBGc : PySem.W.keepIn K (.ref BG) = true)
    (bBGc : PySem.W.subIn K (.ref BG) (.type "BaseException") = some true)
    (tBGc : PySem.W.typeIn K (.ref BG) = some (.type "type"))
    (m0BG : PySem.W.findIn K (.ref BG) "__getattribute__" = some (some (.builtin "BaseException.__getattribute__")))
    (m1BG : PySem.W.findIn K (.ref BG) "__getattr__" = some none)
    (m2BG : PySem.W.hasDictIn K BG = true)
    (m3BG : PySem.W.findIn K (.ref BG) "__class__" = some (some (.builtin "object.__class__")))
    (m6BG : PySem.W.mroIn K BG (.type "object") = some true)
    (sBGBG : PySem.W.subIn K (.ref BG) (.ref BG) = some true)
    (iTMc : PySem.W.isClsIn K TM = true)
    (tTMc : PySem.W.typeIn K (.ref TM) = some (.type "type"))
    (iBGc : PySem.W.isClsIn K BG = true)
    (iBFc : PySem.W.isClsIn K BF = true)
    (tBFc : PySem.W.typeIn K (.ref BF) = some (.type "type"))
    (sBFTM : PySem.W.subIn K (.ref BF) (.ref TM) = some false)
    (sBFBG : PySem.W.subIn K (.ref BF) (.ref BG) = some false)
    (sTMBG : PySem.W.subIn K (.ref TM) (.ref BG) = some false)
    (sTMBF : PySem.W.subIn K (.ref TM) (.ref BF) = some false)
    (kq0 : PySem.W.nsIn K mainGlobals "FARTHEST_RIM" = some (some (.int 1073741824 q0)))
    (kq1 : PySem.W.nsIn K mainGlobals "MOST_SIDE" = some (some (.int 32 q1)))
    (kq2 : PySem.W.nsIn K mainGlobals "MOST_LAYERS" = some (some (.int 6 q2)))
    (kq3 : PySem.W.nsIn K mainGlobals "PASSES" = some (some (.int 3 q3)))
    (kq4 : PySem.W.nsIn K mainGlobals "MOST_MODE" = some (some (.int 2 q4)))
    (kq5 : PySem.W.nsIn K mainGlobals "MOST_TILING" = some (some (.int 5 q5)))
    (kq6 : PySem.W.nsIn K mainGlobals "MOST_PLANES" = some (some (.int 20 q6)))
    (kq7 : PySem.W.nsIn K mainGlobals "MOST_PIECES" = some (some (.int 2000 q7)))
    (gK : PySem.W.nsIn K mainGlobals "KEYS" = some (some (.ref KA)))
    (lK : K.lookup KA = some ⟨.type "list", none, .seq #[.str "B" u1, .str "C" u2, .str "L" u3, .str "T" u4] nK, sK⟩)
    (caC : PySem.W.findIn K (.ref C) "__class__" = some (some (.builtin "object.__class__")))
    (moC : PySem.W.mroIn K C (.type "object") = some true)
    (kSC : PySem.W.subIn K (.ref C) (.type "str") = some false)
    (kVT : PySem.W.subIn K (.ref TM) (.type "ValueError") = some true)
    (zV : PySem.W.nsIn K mainGlobals "ValueError" = some none)
    (tiBF : PySem.W.typeIn K (.ref f8) = some (.type "function"))
    (tiTM : PySem.W.typeIn K (.ref f9) = some (.type "function")) :
    ∃ fd : FuncData, (∀ (s : Shared) (v : Value), BindsTo s fd ⟨[v], []⟩ [("_law_script", v)]) ∧ ∀ base : Heap, K.In base → base.Ns mainGlobals mg → FnOk l.prog w K mg base CX0 9 fa fd ["_law_script"] (spLaw K) := by
  have e := hfa.symm.trans (PySem.W.mg_of X G a23)
  cases e
  have T : Txt mg := ⟨PySem.W.mg_none_of X G y0, PySem.W.mg_none_of X G y1, PySem.W.mg_none_of X G y2, PySem.W.mg_none_of X G y3, PySem.W.mg_none_of X G y4, PySem.W.mg_none_of X G y5, PySem.W.mg_none_of X G y6, PySem.W.mg_none_of X G y7, PySem.W.mg_none_of X G y8, PySem.W.mg_none_of X G y9, PySem.W.mg_none_of X G y10, PySem.W.mg_none_of X G y11⟩
  have EBG : ECls K mg "BadGrid" BG := ⟨PySem.W.mg_of X G eBG, exBG, kBGc, bBGc, tBGc, ⟨m0BG, m1BG, bBGc, m2BG, m3BG, m4, m5, m6BG⟩, PySem.W.exm_ref bBGc m2BG tBGc sBGBG⟩
  have rBFTM := kit_ref iTMc tTMc sBFTM fun _ => sBFBF
  have rBFBG := kit_ref iBGc tBGc sBFBG fun _ => sBFBF
  have rTMBG := kit_ref iBGc tBGc sTMBG fun _ => sTMTM
  have rTMBF := kit_ref iBFc tBFc sTMBF fun _ => sTMTM
  have c_kq0 := PySem.W.mg_of X G kq0
  have c_kq1 := PySem.W.mg_of X G kq1
  have c_kq2 := PySem.W.mg_of X G kq2
  have c_kq3 := PySem.W.mg_of X G kq3
  have c_kq4 := PySem.W.mg_of X G kq4
  have c_kq5 := PySem.W.mg_of X G kq5
  have c_kq6 := PySem.W.mg_of X G kq6
  have c_kq7 := PySem.W.mg_of X G kq7
  have clC : Cls K C := ⟨pgC, hdC, poC, saC⟩
  have glC := PySem.W.mg_of X G eC
  have glBF := PySem.W.mg_of X G eBF
  have oxBF : OexC K BF := ⟨⟨_, _, _, _, _, _, _, _, _, _, _, _, _, _, _, lcBF, rvBF⟩, saBF, exBF, tyBF, kpBF⟩
  have xfBF : XfC K BF := ⟨gaBF, ggBF, exBF, hdBF⟩
  have isBF : ExcC K BF := ⟨gaBF, ggBF, exBF, hdBF, caBF, m4, m5, moBF⟩
  have emBF := PySem.W.exm_ref exBF hdBF tyBF sBFBF
  have glTM := PySem.W.mg_of X G eTM
  have oxTM : OexC K TM := ⟨⟨_, _, _, _, _, _, _, _, _, _, _, _, _, _, _, lcTM, rvTM⟩, saTM, exTM, tyTM, kpTM⟩
  have xfTM : XfC K TM := ⟨gaTM, ggTM, exTM, hdTM⟩
  have isTM : ExcC K TM := ⟨gaTM, ggTM, exTM, hdTM, caTM, m4, m5, moTM⟩
  have emTM := PySem.W.exm_ref exTM hdTM tyTM sTMTM
  have F0 := fun_mk (st := s_layers_are_right) l0 c0 k0
  have b0 := F0.binds (ps := ["layers", "planes"]) fun _ _ _ _ _ _ us hl => match us, hl with | [_, _], _ => rfl
  have F1 := fun_mk (st := s_rim_is_right) l1 c1 k1
  have b1 := F1.binds (ps := ["rim"]) fun _ _ _ _ _ _ us hl => match us, hl with | [_], _ => rfl
  have F2 := fun_mk (st := s_side_is_right) l2 c2 k2
  have b2 := F2.binds (ps := ["start", "stop"]) fun _ _ _ _ _ _ us hl => match us, hl with | [_, _], _ => rfl
  have F3 := fun_mk (st := s_word_is_right) l3 c3 k3
  have b3 := F3.binds (ps := ["word", "tx", "ty"]) fun _ _ _ _ _ _ us hl => match us, hl with | [_, _, _], _ => rfl
  have F4 := fun_mk (st := s_order_is_right) l4 c4 k4
  have b4 := F4.binds (ps := ["order"]) fun _ _ _ _ _ _ us hl => match us, hl with | [_], _ => rfl
  have F5 := fun_mk (st := s_channel_count) l5 c5 k5
  have b5 := F5.binds (ps := ["mode"]) fun _ _ _ _ _ _ us hl => match us, hl with | [_], _ => rfl
  have F6 := fun_mk (st := s_tile_span) l6 c6 k6
  have b6 := F6.binds (ps := ["start", "stop", "tiling"]) fun _ _ _ _ _ _ us hl => match us, hl with | [_, _, _], _ => rfl
  have F7 := fun_mk (st := s_check_fields) l7 c7 k7
  have b7 := F7.binds (ps := ["rect", "mode", "tx", "ty", "word", "planes", "layers", "order"]) fun _ _ _ _ _ _ us hl => match us, hl with | [_, _, _, _, _, _, _, _], _ => rfl
  have F8 := fun_mk (st := s_BadField_init) l8 c8 k8
  have b8 := F8.binds (ps := ["self", "name"]) fun _ _ _ _ _ _ us hl => match us, hl with | [_, _], _ => rfl
  have F9 := fun_mk (st := s_TooMany_init) l9 c9 k9
  have b9 := F9.binds (ps := ["self", "most"]) fun _ _ _ _ _ _ us hl => match us, hl with | [_, _], _ => rfl
  have F10 := fun_mk (st := s_Setting_init) l10 c10 k10
  have b10 := F10.binds (ps := ["self", "rect", "mode", "tx", "ty", "word", "planes", "layers", "order"]) fun _ _ _ _ _ _ us hl => match us, hl with | [_, _, _, _, _, _, _, _, _], _ => rfl
  have F11 := fun_mk (st := s_Setting_rect) l11 c11 k11
  have b11 := F11.binds (ps := ["self"]) fun _ _ _ _ _ _ us hl => match us, hl with | [_], _ => rfl
  have F12 := fun_mk (st := s_Setting_piece_count) l12 c12 k12
  have b12 := F12.binds (ps := ["self"]) fun _ _ _ _ _ _ us hl => match us, hl with | [_], _ => rfl
  have F13 := fun_mk (st := s_law_pool) l13 c13 k13
  have b13 := F13.binds (ps := ["_law_script", "_law_k"]) fun _ _ _ _ _ _ us hl => match us, hl with | [_, _], _ => rfl
  have F14 := fun_mk (st := s_law_take) l14 c14 k14
  have b14 := F14.binds (ps := ["_law_source", "_law_top"]) fun _ _ _ _ _ _ us hl => match us, hl with | [_, _], _ => rfl
  have F15 := fun_mk (st := s_law_one) l15 c15 k15
  have b15 := F15.binds (ps := ["_law_source", "_law_things_here"]) fun _ _ _ _ _ _ us hl => match us, hl with | [_, _], _ => rfl
  have F16 := fun_mk (st := s_law_layers) l16 c16 k16
  have b16 := F16.binds (ps := ["_law_source", "_law_planes"]) fun _ _ _ _ _ _ us hl => match us, hl with | [_, _], _ => rfl
  have F17 := fun_mk (st := s_law_side) l17 c17 k17
  have b17 := F17.binds (ps := ["_law_source"]) fun _ _ _ _ _ _ us hl => match us, hl with | [_], _ => rfl
  have F18 := fun_mk (st := s_law_things) l18 c18 k18
  have b18 := F18.binds (ps := ["_law_source"]) fun _ _ _ _ _ _ us hl => match us, hl with | [_], _ => rfl
  have F19 := fun_mk (st := s_law_wrong) l19 c19 k19
  have b19 := F19.binds (ps := ["_law_things_here"]) fun _ _ _ _ _ _ us hl => match us, hl with | [_], _ => rfl
  have F20 := fun_mk (st := s_law_pieces) l20 c20 k20
  have b20 := F20.binds (ps := ["_law_things_here"]) fun _ _ _ _ _ _ us hl => match us, hl with | [_], _ => rfl
  have F21 := fun_mk (st := s_law_made) l21 c21 k21
  have b21 := F21.binds (ps := ["_law_things_here", "_law_layers_here"]) fun _ _ _ _ _ _ us hl => match us, hl with | [_, _], _ => rfl
  have F22 := fun_mk (st := s_law_right) l22 c22 k22
  have b22 := F22.binds (ps := ["_law_things_here", "_law_is_tuple"]) fun _ _ _ _ _ _ us hl => match us, hl with | [_, _], _ => rfl
  have F23 := fun_mk (st := s_law) l23 c23 k23
  have b23 := F23.binds (ps := ["_law_script"]) fun _ _ _ _ _ _ us hl => match us, hl with | [_], _ => rfl
  refine ⟨PySem.W.fnOf "law" "law" (defArgs s_law) (defBody s_law) (defScope s_law) .none kV23 dc23 pm23 an23 cd23 ct23, fun s v => .of_eq rfl, fun base _ _ => ?_⟩
  have Z1 : C8.Cal l.prog w K mg base 1 "rim_is_right" spRim [] := ⟨_, _, _, _, ok_rim F1 T c_kq0, PySem.W.mg_of X G a1, k1, b1, .nil⟩
  have Z2 : C8.Cal l.prog w K mg base 2 "side_is_right" spSide [] := ⟨_, _, _, _, ok_side F2 T c_kq1 Z1, PySem.W.mg_of X G a2, k2, b2, .nil⟩
  have Z3 : C8.Cal l.prog w K mg base 1 "word_is_right" spWordOk [] := ⟨_, _, _, _, ok_word F3 T, PySem.W.mg_of X G a3, k3, b3, .nil⟩
  have Z4 : C8.Cal l.prog w K mg base 1 "order_is_right" spOrder [] := ⟨_, _, _, _, ok_order F4 T (PySem.W.mg_of X G gK) (fun H => .inr ⟨_, _, _, lK, rfl, rfl, rfl, (by show 4 ≤ sizeLine; decide), .cons ⟨_, rfl⟩ (.cons ⟨_, rfl⟩ (.cons ⟨_, rfl⟩ (.cons ⟨_, rfl⟩ .nil)))⟩), PySem.W.mg_of X G a4, k4, b4, .nil⟩
  have Z0 : C8.Cal l.prog w K mg base 1 "layers_are_right" (spLayOk K) [] := ⟨_, _, _, _, ok_layok F0 T c_kq2 c_kq3, PySem.W.mg_of X G a0, k0, b0, .nil⟩
  have Z6 : C8.Cal l.prog w K mg base 1 "tile_span" spTile [] := ⟨_, _, _, _, ok_tile F6, PySem.W.mg_of X G a6, k6, b6, .nil⟩
  have Z5 : C8.Cal l.prog w K mg base 1 "channel_count" spChan [] := ⟨_, _, _, _, ok_chan F5, PySem.W.mg_of X G a5, k5, b5, .nil⟩
  have XF : XDef l.prog w K mg base "BadField" "name" BF := ⟨glBF, oxBF, xfBF, naBF, isBF, emBF, ⟨_, _, a8, tiBF, ok_badfield (k := 0) F8 oxBF naBF, b8⟩⟩
  have XM : XDef l.prog w K mg base "TooMany" "most" TM := ⟨glTM, oxTM, xfTM, naTM, isTM, emTM, ⟨_, _, a9, tiTM, ok_toomany (k := 0) F9 oxTM naTM, b9⟩⟩
  have GC := ok_checkf (P := l.prog) (w := w) (base := base) (k := 0) F7 T XF c_kq4 c_kq5 c_kq6 Z1 Z2 Z3 Z0 Z4
  have DC : SetK K C := ⟨clC, naC0, naC1, naC2, naC3, naC4, naC5, naC6, naC7⟩
  have DT : SetT K C := ⟨DC, caC, m4, m5, moC, kit_tyr (by decide +kernel) kSC⟩
  have ER : Errs K mg BF TM BG N := ⟨EBG.gC, PySem.W.mg_of X G eN, PySem.W.mg_none_of X G zV, rBFTM, rBFBG, rTMBG, kit_tyr (by decide +kernel) kVT, PySem.W.exm_ref exBF hdBF tyBF sTMBF⟩
  have MP : CalM l.prog w K mg base 2 C "_piece_count" [] (spPc K C) := ⟨⟨_, _, _, ⟨a12, i12, k12⟩, calmF (ok_pc (k := 0) F12 T DC Z6 Z5), b12, kbm0 fun _ => rfl⟩⟩
  have MR : CalP l.prog w K mg base 1 C "rect" (spRectP K C) := ⟨⟨_, _, _, _, ⟨a11, g11, t11, ⟨_, r11⟩⟩, ok_rectp (k := 0) F11 T DC, b11⟩⟩
  have MS : CalC l.prog w K mg base 5 "Setting" C ["rect", "mode", "tx", "ty", "word", "planes", "layers", "order"] (spSetI K C BF TM) := ⟨glC, ⟨_, _, _, ⟨mkC, a10, i10, kcC⟩, ok_seti (k := 0) F10 T DC XM c_kq7 GC (PySem.W.mg_of X G a7) k7 b7 MP, b10, kbm8 fun _ _ _ _ _ _ _ _ _ => rfl⟩⟩
  have Z13 : C8.Cal l.prog w K mg base 1 "_law_pool" (spPool K) [] := ⟨_, _, _, _, ok_pool F13 T, PySem.W.mg_of X G a13, k13, b13, .nil⟩
  have Z14 : C8.Cal l.prog w K mg base 1 "_law_take" spTake [] := ⟨_, _, _, _, ok_take F14 T, PySem.W.mg_of X G a14, k14, b14, .nil⟩
  have Z15 : C8.Cal l.prog w K mg base 2 "_law_one" spOne [] := ⟨_, _, _, _, ok_one F15 T Z14, PySem.W.mg_of X G a15, k15, b15, .nil⟩
  have Z16 : C8.Cal l.prog w K mg base 2 "_law_layers" spLayers [] := ⟨_, _, _, _, ok_layers F16 T Z14, PySem.W.mg_of X G a16, k16, b16, .nil⟩
  have Z17 : C8.Cal l.prog w K mg base 3 "_law_side" spSideL [] := ⟨_, _, _, _, ok_sideL F17 T Z14 Z15, PySem.W.mg_of X G a17, k17, b17, .nil⟩
  have Z18 : C8.Cal l.prog w K mg base 4 "_law_things" spThings [] := ⟨_, _, _, _, ok_things F18 T Z14 Z15 Z17 Z16, PySem.W.mg_of X G a18, k18, b18, .nil⟩
  have Z19 : C8.Cal l.prog w K mg base 1 "_law_wrong" spWrong [] := ⟨_, _, _, _, ok_wrong F19 T, PySem.W.mg_of X G a19, k19, b19, .nil⟩
  have Z20 : C8.Cal l.prog w K mg base 1 "_law_pieces" spPieces [] := ⟨_, _, _, _, ok_pieces F20 T, PySem.W.mg_of X G a20, k20, b20, .nil⟩
  have Z21 : C8.Cal l.prog w K mg base 7 "_law_made" (spMade K C) [] := ⟨_, _, _, _, ok_made F21 T XF XM ER MS, PySem.W.mg_of X G a21, k21, b21, .nil⟩
  have Z22 : C8.Cal l.prog w K mg base 8 "_law_right" spRight [] := ⟨_, _, _, _, ok_right F22 T DT Z19 Z20 Z21 MR, PySem.W.mg_of X G a22, k22, b22, .nil⟩
  exact ok_law F23 T Z13 Z14 Z18 Z22
end My
open PySem PySem.W PyProof.Rows
set_option maxRecDepth 100000 in
set_option maxHeartbeats 0 in
theorem PySem.Challenge.cw_narrowingbits_k36_settings_refused_holds : PySem.Challenge.rw_narrowingbits_k36_settings_refused.Holds := by
  w_on; o_law; k_head; (case hw => w_witness2)
  k_fill
  refine L2.walk_of (l := PySem.Challenge.rw_narrowingbits_k36_settings_refused) (n := 63) (k := 9) (x := "_law_script") (CX := fun _ => L2.CX0) (sp := fun w => My.spLaw _) rfl (by decide) rfl ⟨rfl, by decide, by decide⟩ (fun w h Y => PySem.W.kIn_of Y) ?F (fun _ _ a ns hl _ hS => ⟨a, ns, rfl, hS, hl, fun _ => rfl⟩) (fun _ _ _ _ _ h => h)
  case F =>
    intro w mg fa h KX G hmg
    refine' My.all_mk KX G hmg ?eC ?pgC ?hdC ?poC ?saC ?mkC ?kcC ?naC0 ?naC1 ?naC2 ?naC3 ?naC4 ?naC5 ?naC6 ?naC7 ?eBF ?lcBF ?rvBF ?saBF ?exBF ?tyBF ?kpBF ?gaBF ?ggBF ?hdBF ?naBF ?caBF ?moBF ?sBFBF ?eTM ?lcTM ?rvTM ?saTM ?exTM ?tyTM ?kpTM ?gaTM ?ggTM ?hdTM ?naTM ?caTM ?moTM ?sTMTM ?a0 ?l0 ?c0 ?k0 ?a1 ?l1 ?c1 ?k1 ?a2 ?l2 ?c2 ?k2 ?a3 ?l3 ?c3 ?k3 ?a4 ?l4 ?c4 ?k4 ?a5 ?l5 ?c5 ?k5 ?a6 ?l6 ?c6 ?k6 ?a7 ?l7 ?c7 ?k7 ?a8 ?i8 ?l8 ?c8 ?k8 ?a9 ?i9 ?l9 ?c9 ?k9 ?a10 ?i10 ?l10 ?c10 ?k10 ?a11 ?g11 ?t11 ?r11 ?l11 ?c11 ?k11 ?a12 ?i12 ?l12 ?c12 ?k12 ?a13 ?l13 ?c13 ?k13 ?a14 ?l14 ?c14 ?k14 ?a15 ?l15 ?c15 ?k15 ?a16 ?l16 ?c16 ?k16 ?a17 ?l17 ?c17 ?k17 ?a18 ?l18 ?c18 ?k18 ?a19 ?l19 ?c19 ?k19 ?a20 ?l20 ?c20 ?k20 ?a21 ?l21 ?c21 ?k21 ?a22 ?l22 ?c22 ?k22 ?a23 ?l23 ?c23 ?k23 ?y0 ?y1 ?y2 ?y3 ?y4 ?y5 ?y6 ?y7 ?y8 ?y9 ?y10 ?y11 ?eBG ?eN ?m4 ?m5 ?exBG ?kBGc ?bBGc ?tBGc ?m0BG ?m1BG ?m2BG ?m3BG ?m6BG ?sBGBG ?iTMc ?tTMc ?iBGc ?iBFc ?tBFc ?sBFTM ?sBFBG ?sTMBG ?sTMBF ?kq0 ?kq1 ?kq2 ?kq3 ?kq4 ?kq5 ?kq6 ?kq7 ?gK ?lK ?caC ?moC ?kSC ?kVT ?zV ?tiBF ?tiTM
    (case eC => k_is)
    (case pgC => k_is)
    (case hdC => k_is)
    (case poC => k_is)
    (case saC => k_is)
    (case mkC => k_is)
    (case kcC => k_is)
    (case naC0 => k_is)
    (case naC1 => k_is)
    (case naC2 => k_is)
    (case naC3 => k_is)
    (case naC4 => k_is)
    (case naC5 => k_is)
    (case naC6 => k_is)
    (case naC7 => k_is)
    (case eBF => k_is)
    (case lcBF => k_is)
    (case rvBF => rfl)
    (case saBF => k_is)
    (case exBF => k_is)
    (case tyBF => k_is)
    (case kpBF => k_is)
    (case gaBF => k_is)
    (case ggBF => k_is)
    (case hdBF => k_is)
    (case naBF => k_is)
    (case caBF => k_is)
    (case moBF => k_is)
    (case sBFBF => k_is)
    (case eTM => k_is)
    (case lcTM => k_is)
    (case rvTM => rfl)
    (case saTM => k_is)
    (case exTM => k_is)
    (case tyTM => k_is)
    (case kpTM => k_is)
    (case gaTM => k_is)
    (case ggTM => k_is)
    (case hdTM => k_is)
    (case naTM => k_is)
    (case caTM => k_is)
    (case moTM => k_is)
    (case sTMTM => k_is)
    (case a0 => k_is); (case l0 => k_is); (case c0 => k_is); (case k0 => k_is)
    (case a1 => k_is); (case l1 => k_is); (case c1 => k_is); (case k1 => k_is)
    (case a2 => k_is); (case l2 => k_is); (case c2 => k_is); (case k2 => k_is)
    (case a3 => k_is); (case l3 => k_is); (case c3 => k_is); (case k3 => k_is)
    (case a4 => k_is); (case l4 => k_is); (case c4 => k_is); (case k4 => k_is)
    (case a5 => k_is); (case l5 => k_is); (case c5 => k_is); (case k5 => k_is)
    (case a6 => k_is); (case l6 => k_is); (case c6 => k_is); (case k6 => k_is)
    (case a7 => k_is); (case l7 => k_is); (case c7 => k_is); (case k7 => k_is)
    (case a8 => k_is); (case i8 => k_is); (case l8 => k_is); (case c8 => k_is); (case k8 => k_is)
    (case a9 => k_is); (case i9 => k_is); (case l9 => k_is); (case c9 => k_is); (case k9 => k_is)
    (case a10 => k_is); (case i10 => k_is); (case l10 => k_is); (case c10 => k_is); (case k10 => k_is)
    (case a11 => k_is); (case g11 => k_is); (case t11 => k_is); (case r11 => k_is); (case l11 => k_is); (case c11 => k_is); (case k11 => k_is)
    (case a12 => k_is); (case i12 => k_is); (case l12 => k_is); (case c12 => k_is); (case k12 => k_is)
    (case a13 => k_is); (case l13 => k_is); (case c13 => k_is); (case k13 => k_is)
    (case a14 => k_is); (case l14 => k_is); (case c14 => k_is); (case k14 => k_is)
    (case a15 => k_is); (case l15 => k_is); (case c15 => k_is); (case k15 => k_is)
    (case a16 => k_is); (case l16 => k_is); (case c16 => k_is); (case k16 => k_is)
    (case a17 => k_is); (case l17 => k_is); (case c17 => k_is); (case k17 => k_is)
    (case a18 => k_is); (case l18 => k_is); (case c18 => k_is); (case k18 => k_is)
    (case a19 => k_is); (case l19 => k_is); (case c19 => k_is); (case k19 => k_is)
    (case a20 => k_is); (case l20 => k_is); (case c20 => k_is); (case k20 => k_is)
    (case a21 => k_is); (case l21 => k_is); (case c21 => k_is); (case k21 => k_is)
    (case a22 => k_is); (case l22 => k_is); (case c22 => k_is); (case k22 => k_is)
    (case a23 => k_is); (case l23 => k_is); (case c23 => k_is); (case k23 => k_is)
    (case y0 => k_is)
    (case y1 => k_is)
    (case y2 => k_is)
    (case y3 => k_is)
    (case y4 => k_is)
    (case y5 => k_is)
    (case y6 => k_is)
    (case y7 => k_is)
    (case y8 => k_is)
    (case y9 => k_is)
    (case y10 => k_is)
    (case y11 => k_is)
    (case eBG => k_is)
    (case eN => k_is)
    (case m4 => k_is)
    (case m5 => k_is)
    (case kBGc => k_is)
    (case bBGc => k_is)
    (case tBGc => k_is)
    (case m0BG => k_is)
    (case m1BG => k_is)
    (case m2BG => k_is)
    (case m3BG => k_is)
    (case m6BG => k_is)
    (case sBGBG => k_is)
    (case iTMc => k_is)
    (case tTMc => k_is)
    (case iBGc => k_is)
    (case iBFc => k_is)
    (case tBFc => k_is)
    (case sBFTM => k_is)
    (case sBFBG => k_is)
    (case sTMBG => k_is)
    (case sTMBF => k_is)
    (case kq0 => k_is)
    (case kq1 => k_is)
    (case kq2 => k_is)
    (case kq3 => k_is)
    (case kq4 => k_is)
    (case kq5 => k_is)
    (case kq6 => k_is)
    (case kq7 => k_is)
    (case gK => k_is)
    (case lK => k_is)
    (case caC => k_is)
    (case moC => k_is)
    (case kSC => k_is)
    (case kVT => k_is)
    (case zV => k_is)
    (case tiBF => k_is)
    (case tiTM => k_is)
    (case exBG => k_exc)
