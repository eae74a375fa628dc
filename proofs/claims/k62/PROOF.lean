import PyProof.Rows.All
import Wide.All
import OpenK.AllK
import Wide.FinOn
import HandS.ForMost
import HandS.Wide
import HandS.IsInst
import HandS.Codes
import HandS.Style
import HandS.EndBits
import HandS.Walk
import HandS.FStr
import HandS.WideBits
import HandS.Defaults
import HandS.Exc
import HandS.TryOnly
import HandS.ExcOwn
import HandS.WordsExc
import HandS.ExcIs
import HandS.Lambda
import HandS.EndTab
import KE.KTupSum
import HandS.Iter
import HandS.Property
import HandS.ForList
import HandS.MakeKw
import HandS.MakeKwOnly
import KE.KExcIs
import HandS.ExcInit
import HandS.ExcField
import HandS.Replace
import HandS.More
import HandS.Text
import HandS.TryMany
import HandS.Deep
import KE.DataFind
import HandS.Zip
import KE.KDictZip
import KE.GoesMore
import HandS.Star
import HandS.DictComp
import PySem.Challenge.RW_narrowingbits_k62_cells_refused
set_option Elab.async false
set_option linter.all false
set_option maxRecDepth 100000
set_option maxHeartbeats 4000000
namespace My
open PySem PySem.Spec PyProof.Rows L2
/-! ### arithmetic -/
theorem cdivw {i j : Int} (h : 0 < j) (h2 : j < 18446744073709551616) : CDivW i j := wide_div (b := 64) h (by omega) (by decide) (by decide)
theorem cmull {i j : Int} (h : -18446744073709551616 < i) (h2 : i < 18446744073709551616) : CMul i j := .inl ⟨by omega, by omega⟩
theorem cmulr {i j : Int} (h : -18446744073709551616 < j) (h2 : j < 18446744073709551616) : CMul i j := .inr ⟨by omega, by omega⟩
theorem pow18 : ((10 : Int) ^ (18 : Int).toNat) = 1000000000000000000 := by decide +kernel
theorem pow30 : ((10 : Int) ^ (30 : Int).toNat) = 1000000000000000000000000000000 := by decide +kernel
theorem pow9 : ((10 : Int) ^ (9 : Int).toNat) = 1000000000 := by decide +kernel
theorem pool_nn (c : Int) (b : Bool) : 0 ≤ (if -1 - c > c then -1 - c else c) * (if b = true then 1 else 0) := by
  refine Int.mul_nonneg ?_ ?_
  · split <;> omega
  · split <;> decide
theorem at_lt {ns : List Int} {k : Int} (h0 : 0 ≤ k) (h : k < ((ns.map V.int).length : Int)) : ∃ z, atI (ns.map V.int) k = some (.int z) := by
  rw [List.length_map] at h
  refine ⟨ns[k.toNat]'(by omega), at_of (j := k.toNat) (by omega) ?_⟩
  rw [List.getElem?_map, List.getElem?_eq_getElem (by omega)]
  rfl
theorem at_mem {xs : List V} {r : Int} (h0 : 0 ≤ r) (h : r < (xs.length : Int)) : ∃ v, atI xs r = some v ∧ v ∈ xs := by
  refine ⟨xs[r.toNat]'(by omega), at_of (j := r.toNat) (by omega) (List.getElem?_eq_getElem (by omega)), List.getElem_mem _⟩
/-! ### heaps -/
theorem same_upd {H : Hp} {p : Addr} {o : HO} (h : H p = none) : Same H (upd H p o) := fun b x e => by
  rw [upd_ne (ne_of_none e h)]
  exact e
/-- a source of draws stands at a -/
def Src (H : Hp) (a : Addr) : Prop := ∃ x y : Int, H a = some (.lst [.int x, .int y]) ∧ 0 ≤ x ∧ 0 ≤ y ∧ y < 2147483647
/-- all but a is as it was -/
def But (a : Addr) (H H' : Hp) : Prop := ∀ b, b ≠ a → H' b = H b
theorem But.refl (a : Addr) (H : Hp) : But a H H := fun _ _ => rfl
theorem But.trans {a : Addr} {H H1 H2 : Hp} (u : But a H H1) (v : But a H1 H2) : But a H H2 := fun b e => (v b e).trans (u b e)
theorem But.upd {a : Addr} {H : Hp} {o : HO} : But a H (upd H a o) := fun b e => upd_ne e
theorem But.at {a b : Addr} {H H' : Hp} {o : HO} (u : But a H H') (n : b ≠ a) (h : H b = some o) : H' b = some o := (u b n).trans h
theorem src_same {H H' : Hp} {a : Addr} (s : Same H H') (h : Src H a) : Src H' a := by
  obtain ⟨x, y, e, r⟩ := h
  exact ⟨x, y, s _ _ e, r⟩
theorem Src.ne {H : Hp} {a p : Addr} (h : Src H a) (n : H p = none) : a ≠ p := by
  obtain ⟨x, y, e, r⟩ := h
  exact ne_of_none e n
theorem same_but {a : Addr} {G H H' : Hp} (s : Same G H) (u : But a H H') (n : G a = none) : Same G H' := fun b o e => by
  rw [u b (ne_of_none e n)]
  exact s b o e
theorem kit_ii {K : PySem.W.Frag} : PySem.W.kitOne K (.type "int") (.type "int") = some true := kit_ty (by decide +kernel)
theorem kit_ib {K : PySem.W.Frag} : PySem.W.kitOne K (.type "int") (.type "bool") = some false := kit_ty (by decide +kernel)
theorem kit_bi {K : PySem.W.Frag} : PySem.W.kitOne K (.type "bool") (.type "int") = some true := kit_ty (by decide +kernel)
theorem kit_bb {K : PySem.W.Frag} : PySem.W.kitOne K (.type "bool") (.type "bool") = some true := kit_ty (by decide +kernel)
theorem kit_tt {K : PySem.W.Frag} : PySem.W.kitOne K (.type "tuple") (.type "tuple") = some true := kit_ty (by decide +kernel)
theorem kit_ll {K : PySem.W.Frag} : PySem.W.kitOne K (.type "list") (.type "list") = some true := kit_ty (by decide +kernel)
theorem kit_tl {K : PySem.W.Frag} : PySem.W.kitOne K (.type "tuple") (.type "list") = some false := kit_ty (by decide +kernel)
theorem kit_lt {K : PySem.W.Frag} : PySem.W.kitOne K (.type "list") (.type "tuple") = some false := kit_ty (by decide +kernel)
theorem op_powc {X : Cx} {a b c : Int} (hc : CPow a b) (h : a ^ b.toNat = c) : OpR X (binaryOp .Pow) (fun x y H Q => x = .int a ∧ y = .int b ∧ Q (.int c) H) := by
  intro pins s σ H x y v u Q I rx ry h'
  obtain ⟨rfl, rfl, q⟩ := h'
  exact op_pow pins s σ H _ _ v u Q I rx ry ⟨_, _, rfl, rfl, hc, by subst h; exact q⟩
theorem dp_pair {K : PySem.W.Frag} {H : Hp} {p : Addr} {a b : Int} (h : H p = some (.tup [.int a, .int b])) : Dp K H (.ref p) (.tuple [.int a, .int b]) := .tup (.inl (.inl h)) (.cons (.int _) (.cons (.int _) .nil))
theorem eq_pair (a b : Int) : PyData.eqv (.tuple [.int a, .int b]) (.tuple [.int a, .int b]) = true := by
  simp [PyData.eqv, PyData.eqvAll]
theorem tup_eq {H : Hp} {p : Addr} {x x' y y' : Int} (h : H p = some (.tup [.int x, .int y])) (h1 : x = x') (h2 : y = y') : H p = some (.tup [.int x', .int y']) := by
  rw [← h1, ← h2]
  exact h
end My
namespace My
section
open PySem PySem.W PyProof.Rows Builtin Builtin.Str Builtin.Int Builtin.Float
def binCodes (n : Nat) : List Nat := (Nat.toDigits 2 n).map Char.toNat
theorem field_plain (ds : List Nat) (h : ds.isEmpty = false) : intField' { align := 62, type := some 98 } false [] ds [] 4 = ⟨ds.toArray⟩ := by
  unfold intField'
  simp [h]
theorem digs_ne (n : Nat) : ((Nat.toDigits 2 n).map fun c => ((if ((98 : Nat) == 88) = true then c.toUpper else c) : Char).toNat).isEmpty = false := by
  cases e : Nat.toDigits 2 n with
  | nil =>
    have := tDigits_len_ge 2 n
    rw [e] at this
    cases this
  | cons a l => rfl
theorem meets_bin {x : Int} {t : Tok} (h0 : 0 ≤ x) (hL : (Nat.toDigits 2 x.natAbs).length ≤ sizeLine) :
    ∀ u, Meets (Builtin.«int.__format__» ⟨[.int x t, .str (Str.ofString "b") u], []⟩) (fun _ R s => ∀ t' k, R (.ok (.ret (.str ⟨(binCodes x.natAbs).toArray⟩ t'))) { s with toks := k }) := by
  intro u
  apply KPc.meets_of
  intro prog w A E s Q h
  unfold Builtin.«int.__format__»
  refine wpAny_bind (wpAny_of_eq (a := (_, _)) rfl ?_)
  refine wpAny_bind (wpAny_of_eq (a := _) rfl ?_)
  kxf_if
  refine wpAny_bind (wpAny_typeNameOf (T := "str") (typeIs_str _ _ _) (by decide) fun _ => ?_)
  refine wpAny_bind (wpAny_of_eq (a := some _) rfl ?_)
  kxf_if
  kxf_if
  refine wpAny_bind (wpAny_typeNameOfCut_int ?_)
  repeat kxf_if
  refine KXf.ret_text (T := ⟨(binCodes x.natAbs).toArray⟩) ?e ?l h
  case e =>
    have hx : decide (x < 0) = false := decide_eq_false (by omega)
    rw [hx]
    show intField' { align := 62, type := some 98 } false [] ((Nat.toDigits 2 x.natAbs).map fun c => ((if ((98 : Nat) == 88) = true then c.toUpper else c) : Char).toNat) [] 4 = _
    exact field_plain _ (digs_ne _)
  case l =>
    have hx : decide (x < 0) = false := decide_eq_false (by omega)
    rw [hx]
    show (intField' { align := 62, type := some 98 } false [] ((Nat.toDigits 2 x.natAbs).map fun c => ((if ((98 : Nat) == 88) = true then c.toUpper else c) : Char).toNat) [] 4).length ≤ sizeLine
    rw [field_plain _ (digs_ne _)]
    show ((binCodes x.natAbs).toArray).size ≤ sizeLine
    rw [List.size_toArray, binCodes, List.length_map]
    exact hL
end
end My
namespace My
open PySem PySem.Spec PyProof.Rows L2
/-! ### an f-string's field in binary -/
section
variable {X : Cx}
theorem pe_fmtB {e : Expr} {te : TE} {k : Nat} {pos p1 p2 : Pos} (he : PE X e te) : PE X (.FormattedValue e (-1) (some (.JoinedStr [.Constant (.str "b") k p1] p2)) pos)
    (fun σ H Q => te σ H fun x H1 => ∃ i : Int, x = .int i ∧ 0 ≤ i ∧ (Nat.toDigits 2 i.natAbs).length ≤ sizeLine ∧ Q (.str (SX.S (binCodes i.natAbs))) H1) := by
  refine ⟨fun pins s σ H Q I h => ?_⟩
  refine wpAny_FormattedValue_spec (thn (he.run pins s σ H _ I h) fun v s1 hv => ?_)
  obtain ⟨x, H1, I1, r1, i, rfl, h0, hL, q⟩ := hv
  obtain ⟨t, rfl⟩ := r1
  refine thn ((pe_joined1 (X := X) (pe_str (x := "b") (j := k) (pos := p1)) (pos := p2)).run pins s1 σ H1 (fun y H2 => y = .str "b" ∧ H2 = H1) I1 ⟨rfl, rfl⟩) fun r s2 hr => ?_
  obtain ⟨y, H2, I2, r2, rfl, rfl⟩ := hr
  obtain ⟨t2, rfl⟩ := r2
  exact ⟨_, t2, rfl, PySem.W.KXf.field_int rfl rfl (by decide) (meets_bin h0 hL) fun t' k => ⟨.str _, _, I2.tok _, ⟨_, rfl⟩, q⟩⟩
/-- a call by keywords alone -/
theorem pe_kw0 {CX : CXT} {k : Nat} {f : Addr} {fd : FuncData} {ps ks : List Str} {sp : Sp} {E : XK} {x : Str} {p pos : Pos} {kws : List Keyword} {tk : TA} {g : List Value → List Value → List Value} {gV : List V → List V → List V}
    (F : FnOk X.prog X.w X.K X.mg X.base CX k f fd ps sp) (hr : Room k X.A) (hg : Gl X x) (hm : X.mg x = some (.ref f)) (hk : PySem.W.keepIn X.K (.ref f) = true) (hb : KBn X.K fd ps 0 ks g gV) (hx : Passes CX X E) (hkw : PK X kws tk)
    (hall : (backToKw pos (keywordEach kws X.env)).all (·.1.isSome) = true := by rfl) (hks : (backToKw pos (keywordEach kws X.env)).filterMap (·.1) = ks := by rfl) (hdb : (x == ("__debug__" : Str)) = false := by decide)
    (hpl : ((backTo pos (starEach [] X.env)).any (·.1) || (backToKw pos (keywordEach kws X.env)).any (·.1.isNone)) = false := by rfl) :
    PE X (.Call (.Name x p) [] kws pos) (fun σ H Q => tk σ H fun zs H2 => zs.length = ks.length ∧ sp (gV [] zs) H2 Q E) := by
  refine ⟨fun pins s σ H Q I h => ?_⟩
  refine wpAny_Call_Name_kw (ld_glob I hg hm ?_ hdb)
  refine PySem.W.callWith_KW0 (h₀ := X.base) I.ok.mod.kin hk hall ?_ hpl
  refine thn (hkw.run pos pins s σ H _ I h) fun ws s2 ⟨zs, H2, I2, rz, l2, q2⟩ => ⟨I2.kIn, ?_⟩
  rw [hks]
  exact run_fnN (us := []) (vs := []) F hr hb hx I2 .nil rz rfl l2 q2
/-- a def that may be called by keywords alone -/
structure CalK (P : Program) (w : World) (K : PySem.W.Frag) (mg : Str → Option Value) (base : Heap) (k : Nat) (x : Str) (ks : List Str) (sp : Sp) : Prop where
  ex : ∃ (f : Addr) (fd : FuncData) (ps : List Str), FnOk P w K mg base CX0 k f fd ps sp ∧ mg x = some (.ref f) ∧ PySem.W.keepIn K (.ref f) = true ∧ KBn K fd ps 0 ks (fun _ ws => ws) (fun _ zs => zs)
theorem pe_ck {k j : Nat} {ks : List Str} {sp : Sp} {x : Str} {p pos : Pos} {kws : List Keyword} {tk : TA} (c : CalK X.prog X.w X.K X.mg X.base k x ks sp) (hr : Room j X.A) (hk : k ≤ j) (hg : Gl X x) (hkw : PK X kws tk)
    (hall : (backToKw pos (keywordEach kws X.env)).all (·.1.isSome) = true := by rfl) (hks : (backToKw pos (keywordEach kws X.env)).filterMap (·.1) = ks := by rfl) (hdb : (x == ("__debug__" : Str)) = false := by decide)
    (hpl : ((backTo pos (starEach [] X.env)).any (·.1) || (backToKw pos (keywordEach kws X.env)).any (·.1.isNone)) = false := by rfl) :
    PE X (.Call (.Name x p) [] kws pos) (fun σ H Q => tk σ H fun zs H2 => zs.length = ks.length ∧ sp zs H2 Q E0) := by
  obtain ⟨f, fd, ps, F, hm, hkp, hb⟩ := c.ex
  exact pe_kw0 F (hr.mono hk) hg hm hkp hb pass0 hkw hall hks hdb hpl
end
/-! ### digits -/
/-- the w binary digits of n, the highest first -/
def bitsW : Nat → Nat → List Nat
  | 0, _ => []
  | w + 1, n => bitsW w (n / 2) ++ [n % 2]
theorem bitsW_len : ∀ w n, (bitsW w n).length = w
  | 0, _ => rfl
  | w + 1, n => by rw [bitsW, List.length_append, bitsW_len w (n / 2)]; rfl
theorem bitsW_bit : ∀ w n, ∀ b ∈ bitsW w n, b < 2
  | 0, _, b, h => by cases h
  | w + 1, n, b, h => by
    rw [bitsW, List.mem_append] at h
    rcases h with h | h
    · exact bitsW_bit w _ b h
    · rw [List.mem_singleton] at h
      omega
theorem digit_code {b : Nat} (h : b < 2) : (Nat.digitChar b).toNat = 48 + b := by
  match b, h with
  | 0, _ => rfl
  | 1, _ => rfl
theorem binCodes_pow : ∀ w n, n < 2 ^ w → binCodes (2 ^ w + n) = 49 :: (bitsW w n).map (48 + ·)
  | 0, n, h => by
    have e : n = 0 := by omega
    subst e
    rfl
  | w + 1, n, h => by
    have p : 2 ^ (w + 1) = 2 * 2 ^ w := by rw [Nat.pow_succ, Nat.mul_comm]
    have g : 0 < 2 ^ w := Nat.two_pow_pos w
    have ih := binCodes_pow w (n / 2) (by omega)
    unfold binCodes at ih ⊢
    rw [Nat.toDigits_of_base_le (by decide) (by omega), List.map_append, show (2 ^ (w + 1) + n) / 2 = 2 ^ w + n / 2 by omega, ih, show (2 ^ (w + 1) + n) % 2 = n % 2 by omega, bitsW, List.map_append]
    show 49 :: _ ++ [(Nat.digitChar (n % 2)).toNat] = _
    rw [digit_code (Nat.mod_lt _ (by decide))]
    rfl
/-- the digits as numbers -/
def bitsI (w n : Nat) : List Int := (bitsW w n).map fun (b : Nat) => (b : Int)
theorem bitsI_len (w n : Nat) : (bitsI w n).length = w := by rw [bitsI, List.length_map, bitsW_len]
theorem digit_int {b : Nat} (h : b < 2) : PySem.intText? ⟨#[48 + b]⟩ = some (b : Int) := by
  match b, h with
  | 0, _ => decide +kernel
  | 1, _ => decide +kernel
theorem take_snoc {α : Type} {l : List α} {i : Nat} {x : α} (h : l[i]? = some x) : l.take i ++ [x] = l.take (i + 1) := by
  rw [List.take_add_one, h]
  rfl
end My
namespace My
open PySem PySem.Spec PyProof.Rows L2
/-! ### lists of numbers compared -/
theorem eqv_same {d : PyData} (h : SeqAt.shaped d = true) : PyData.eqv d d = true := SeqAt.eqv_refl d (SeqAt.canLay_of_shaped h)
theorem dpall_ints {K : PySem.W.Frag} {H : Hp} : ∀ ns : List Int, DpAll K H (ns.map V.int) (ns.map PyData.int)
  | [] => .nil
  | n :: r => .cons (.int n) (dpall_ints r)
theorem dp_ints {K : PySem.W.Frag} {H : Hp} {p : Addr} {ns : List Int} (h : SqL K H p (ns.map V.int)) : Dp K H (.ref p) (.list (ns.map PyData.int)) := .lst h (dpall_ints ns)
theorem sh_ints (ns : List Int) : SeqAt.shaped (.list (ns.map PyData.int)) = true := PySem.W.ke_shaped_ints ns
theorem q_eqI {K : PySem.W.Frag} {H : Hp} {p q : Addr} {ns : List Int} {Q : VK} (hp : H p = some (.lst (ns.map V.int))) (hq : H q = some (.lst (ns.map V.int))) (h : Q (.bl true) H) : rEqD K (.ref p) (.ref q) H Q :=
  ⟨_, _, dp_ints (.inl (.inl hp)), dp_ints (.inl (.inl hq)), sh_ints ns, sh_ints ns, by rw [eqv_same (sh_ints ns)]; exact h⟩
theorem q_neI {K : PySem.W.Frag} {H : Hp} {p q : Addr} {ns : List Int} {Q : VK} (hp : H p = some (.lst (ns.map V.int))) (hq : H q = some (.lst (ns.map V.int))) (h : Q (.bl false) H) : rNeD K (.ref p) (.ref q) H Q :=
  ⟨_, _, dp_ints (.inl (.inl hp)), dp_ints (.inl (.inl hq)), sh_ints ns, sh_ints ns, by rw [eqv_same (sh_ints ns)]; exact h⟩
/-! ### all but the source stays -/
def Up (a : Addr) (H H' : Hp) : Prop := ∀ b o, b ≠ a → H b = some o → H' b = some o
theorem Up.refl (a : Addr) (H : Hp) : Up a H H := fun _ _ _ h => h
theorem up_same {a : Addr} {H H' : Hp} (s : Same H H') : Up a H H' := fun b o _ h => s b o h
theorem But.up {a : Addr} {H H' : Hp} (u : But a H H') : Up a H H' := fun b o n h => (u b n).trans h
theorem Up.trans {a : Addr} {H H1 H2 : Hp} (u : Up a H H1) (v : Up a H1 H2) : Up a H H2 := fun b o n h => v b o n (u b o n h)
theorem Up.to {a : Addr} {G H H' : Hp} (u : Up a H H') (s : Same G H) (n : G a = none) : Same G H' := fun b o e => u b o (ne_of_none e n) (s b o e)
theorem Up.new {a p : Addr} {H H' : Hp} (u : Up a H H') (hs : Src H' a) (n : H' p = none) : H p = none := by
  cases e : H p with
  | none => rfl
  | some o =>
    have := u p o (hs.ne n).symm e
    rw [n] at this
    cases this
theorem src_keep {a p : Addr} {H : Hp} {o : HO} (n : a ≠ p) (h : Src H a) : Src (upd H p o) a := by
  obtain ⟨x, y, e, r⟩ := h
  exact ⟨x, y, by rw [upd_ne n]; exact e, r⟩
/-! ### digits by place -/
theorem bitsW_get : ∀ w n i, i < w → (bitsW w n)[i]? = some (n / 2 ^ (w - 1 - i) % 2)
  | 0, _, i, h => absurd h (Nat.not_lt_zero i)
  | w + 1, n, i, h => by
    rw [bitsW]
    by_cases e : i = w
    · subst e
      rw [List.getElem?_append_right (by rw [bitsW_len]; exact Nat.le_refl _), bitsW_len, show i - i = 0 by omega, show i + 1 - 1 - i = 0 by omega, Nat.pow_zero, Nat.div_one]
      rfl
    · rw [List.getElem?_append_left (by rw [bitsW_len]; omega), bitsW_get w (n / 2) i (by omega), Nat.div_div_eq_div_mul, show w + 1 - 1 - i = (w - 1 - i) + 1 by omega, Nat.pow_succ, Nat.mul_comm]
theorem bitsI_get {w n i : Nat} (h : i < w) : (bitsI w n)[i]? = some (((n / 2 ^ (w - 1 - i) % 2 : Nat)) : Int) := by
  rw [bitsI, List.getElem?_map, bitsW_get w n i h]
  rfl
end My
namespace My
open PySem PySem.Spec PyProof.Rows L2
section
variable {X : Cx}
/-- X(), X an own exception class without own __init__ -/
theorem pmk_none {C : Addr} {bmB : List Value} {B newId initId : String} {x : Str} {p pos : Pos} (F : ExcBaseFacts B newId initId bmB) (q : PySem.W.excIn X.K C bmB newId = true) (gC : X.mg x = some (.ref C)) (kC : PySem.W.keepIn X.K (.ref C) = true) (r : Raises X (.ref C)) (hg : Gl X x)
    (hdb : (x == ("__debug__" : Str)) = false := by decide) : PMk X (.Call (.Name x p) [] [] pos) (fun _ H Q => Q (.ref C) none H) := by
  intro pins s σ H Q I h
  refine wpAny_Call_Name_kw (ld_glob I hg gC (PySem.W.callWith_K0 I.kIn kC ?_) hdb)
  obtain ⟨bm, N, nm, qn, bs, hdct, sn, sub, ab, col, dd, k0, k1, k2, k3, k5, mN, hC, hN, hni, T⟩ := exc_obj I.kIn q
  exact wpAny_call_exc_subT F T hC hN hni (fun _ _ hm => mk_of I hm r h (I.hok.gone hm.new)) (Nat.zero_le _)
/-- isinstance of an own class against another one -/
theorem kit_ref {K : PySem.W.Frag} {C N : Addr} {b : Bool} (i : PySem.W.isClsIn K N = true) (t : PySem.W.typeIn K (.ref N) = some (.type "type")) (s : PySem.W.subIn K (.ref C) (.ref N) = some b) (n : b = false → PySem.W.subIn K (.ref C) (.ref C) = some true) :
    PySem.W.kitOne K (.ref C) (.ref N) = some b := by
  unfold PySem.W.kitOne
  by_cases e : ((Value.ref C) == (Value.ref N)) = true
  · rw [if_pos e]
    have e2 : C = N := Value.ref.inj (beq_iff_eq.mp e)
    subst e2
    cases b with
    | true => rfl
    | false =>
      rw [n rfl] at s
      cases s
  · rw [if_neg e]
    unfold PySem.W.kitCls
    have h : ((PySem.W.clsIn K N).isSome && PySem.W.typeIn K (.ref N) == some (.type "type")) = true := by
      rw [t, Bool.and_eq_true]
      exact ⟨i, by rfl⟩
    show (if _ then _ else _) = _
    rw [if_pos h]
    exact s
/-- an own exception class at C, as the top has written it -/
structure ECls (K : PySem.W.Frag) (mg : Str → Option Value) (x : Str) (C : Addr) : Prop where
  gC : mg x = some (.ref C)
  xC : PySem.W.excIn K C [.type "ValueError", .type "Exception", .type "BaseException", .type "object"] "ValueError.__new__" = true
  kC : PySem.W.keepIn K (.ref C) = true
  bC : PySem.W.subIn K (.ref C) (.type "BaseException") = some true
  tC : PySem.W.typeIn K (.ref C) = some (.type "type")
  ex : ExcC K C
  em : PySem.W.exmOne K (.ref C) (.ref C) = some true
/-- isinstance of the exception that a suite holds, its class told in the reading -/
theorem call_isE1 {a D : Addr} {oe : Obj} {cls : Value} {d : Option Addr} {pn : List (Addr × Obj)} (C : ExcC X.K D) (hz : Zc cls d oe) (hf : ∃ vs, oe.data = .fields vs) :
    CallR (X.suite a ((a, oe) :: pn)) (.builtin "isinstance") (fun xs H Q => cls = .ref D ∧ d = none ∧ rIsE X.K D a xs H Q) := by
  intro pins s σ H xs us Q I r h
  obtain ⟨e1, e2, h⟩ := h
  subst e1 e2
  exact call_isE C hz hf pins s σ H xs us Q I r h
end
end My
namespace My
open PySem PySem.Spec PyProof.Rows L2
/-! ### bit lengths, digits, values -/
def bl (n : Nat) : Nat := Builtin.Int.intBits (n : Int)
theorem bl_zero : bl 0 = 0 := rfl
theorem bl_pos {n : Nat} (h : 0 < n) : bl n = n.log2 + 1 := by
  unfold bl Builtin.Int.intBits
  rw [if_neg (by simp; omega), Int.natAbs_natCast]
theorem bl_lt (n : Nat) : n < 2 ^ bl n := by
  cases n with
  | zero => decide
  | succ n =>
    rw [bl_pos (Nat.succ_pos n)]
    exact Nat.lt_log2_self
theorem bl_le {n k : Nat} (h : n < 2 ^ k) : bl n ≤ k := PyProof.Rows.intBits_le (by rw [Int.natAbs_natCast]; exact h)
theorem bl_half {n : Nat} (h : 0 < n) : bl n = bl (n / 2) + 1 := by
  rw [bl_pos h]
  by_cases e : n = 1
  · subst e
    decide
  · rw [bl_pos (by omega), Nat.log2_def, if_pos (by omega)]
theorem bitsI_succ (w n : Nat) : bitsI (w + 1) n = bitsI w (n / 2) ++ [((n % 2 : Nat) : Int)] := by
  unfold bitsI
  rw [bitsW, List.map_append]
  rfl
def digs (n : Nat) : List Int := bitsI (bl n) n
theorem digs_zero : digs 0 = [] := rfl
theorem digs_step {n : Nat} (h : 0 < n) : digs n = digs (n / 2) ++ [((n % 2 : Nat) : Int)] := by
  unfold digs
  rw [bl_half h, bitsI_succ]
theorem digs_len (n : Nat) : (digs n).length = bl n := bitsI_len _ _
theorem digs_head : ∀ {n : Nat}, 0 < n → ∃ r, digs n = 1 :: r := by
  intro n
  induction n using Nat.strongRecOn with
  | _ n ih =>
    intro h
    rw [digs_step h]
    by_cases e : n = 1
    · subst e
      exact ⟨[], rfl⟩
    · obtain ⟨r, hr⟩ := ih (n / 2) (by omega) (by omega)
      rw [hr]
      exact ⟨r ++ [((n % 2 : Nat) : Int)], rfl⟩
def valI (xs : List Int) : Int := xs.foldl (fun v b => 2 * v + b) 0
theorem valI_snoc (xs : List Int) (b : Int) : valI (xs ++ [b]) = 2 * valI xs + b := by
  unfold valI
  rw [List.foldl_append]
  rfl
theorem valI_bits : ∀ w n, n < 2 ^ w → valI (bitsI w n) = n
  | 0, n, h => by
    have e : n = 0 := by omega
    subst e
    rfl
  | w + 1, n, h => by
    have p : 2 ^ (w + 1) = 2 * 2 ^ w := by rw [Nat.pow_succ, Nat.mul_comm]
    rw [bitsI_succ, valI_snoc, valI_bits w (n / 2) (by omega)]
    omega
theorem valI_digs (n : Nat) : valI (digs n) = n := valI_bits _ _ (bl_lt n)
theorem bitsI_bit {w n : Nat} {x : Int} (h : x ∈ bitsI w n) : 0 ≤ x ∧ x ≤ 1 := by
  obtain ⟨b, hb, rfl⟩ := List.mem_map.mp h
  have := bitsW_bit w n b hb
  omega
/-- all of them are bits -/
def AreBits (xs : List Int) : Prop := ∀ x ∈ xs, 0 ≤ x ∧ x ≤ 1
theorem AreBits.app {xs ys : List Int} (h : AreBits xs) (g : AreBits ys) : AreBits (xs ++ ys) := fun x m => by
  rcases List.mem_append.mp m with m | m
  · exact h x m
  · exact g x m
theorem AreBits.take {xs : List Int} (h : AreBits xs) (n : Nat) : AreBits (xs.take n) := fun x m => h x (List.mem_of_mem_take m)
theorem AreBits.zeros (n : Nat) : AreBits (List.replicate n 0) := fun x m => by
  rw [(List.mem_replicate.mp m).2]
  decide
/-- the code of a count -/
def code (c : Nat) : List Int := List.replicate (bl (c + 1) - 1) 0 ++ digs (c + 1)
theorem code_len (c : Nat) : (code c).length = 2 * bl (c + 1) - 1 := by
  have := bl_half (n := c + 1) (by omega)
  unfold code
  rw [List.length_append, List.length_replicate, digs_len]
  omega
theorem code_bits (c : Nat) : AreBits (code c) := (AreBits.zeros _).app fun _ m => bitsI_bit m
theorem flat_zeros (n : Nat) : (List.replicate n [V.int 0]).flatten = (List.replicate n (0 : Int)).map V.int := by
  induction n with
  | zero => rfl
  | succ n ih =>
    rw [List.replicate_succ, List.flatten_cons, ih, List.replicate_succ]
    rfl
theorem new_at {a p : Addr} {H : Hp} {o o' : HO} (h : H a = some o) (n : H p = none) : (upd H p o') a = some o := by
  rw [upd_ne (ne_of_none h n)]
  exact h
theorem cut_int {xs : List V} {x y : Int} {i k : Nat} (hx : x = (i : Int)) (hy : y = (k : Int)) (hik : i ≤ xs.length) (hk : k ≤ xs.length) : cutV xs (some x) (some y) = (xs.drop i).take (k - i) := by
  subst hx hy
  unfold cutV
  rw [HT.sIx_nat, HT.sIx_nat, Nat.min_eq_left hik, Nat.min_eq_left hk]
theorem cut_to {xs : List V} {y : Int} {k : Nat} (hy : y = (k : Int)) (hk : k ≤ xs.length) : cutV xs none (some y) = xs.take k := by
  subst hy
  unfold cutV
  rw [HT.sIx_none, HT.sIx_nat, Nat.min_eq_left hk, List.drop_zero, Nat.sub_zero]
theorem cut_any {xs : List V} {x y : Int} {i k : Nat} (hx : x = (i : Int)) (hy : y = (k : Int)) (hik : i ≤ xs.length) : cutV xs (some x) (some y) = (xs.drop i).take (k - i) := by
  subst hx hy
  unfold cutV
  rw [HT.sIx_nat, HT.sIx_nat, Nat.min_eq_left hik]
  by_cases h : k ≤ xs.length
  · rw [Nat.min_eq_left h]
  · rw [Nat.min_eq_right (by omega), List.take_of_length_le (by rw [List.length_drop]; omega), List.take_of_length_le (by rw [List.length_drop]; omega)]
/-! ### reading a count -/
/-- zeros ahead of the first 1 -/
def lz : List Int → Nat
  | [] => 0
  | x :: r => if x = 0 then lz r + 1 else 0
theorem lz_le : ∀ l : List Int, lz l ≤ l.length
  | [] => Nat.le_refl _
  | x :: r => by
    have := lz_le r
    simp only [lz, List.length_cons]
    split <;> omega
theorem lz_more : ∀ {l : List Int} {k : Nat}, k ≤ lz l → l[k]? = some 0 → k + 1 ≤ lz l
  | [], k, _, h => by simp at h
  | x :: r, 0, _, h => by
    have e : x = 0 := Option.some.inj h
    simp only [lz, e, if_true]
    omega
  | x :: r, k + 1, hk, h => by
    simp only [lz] at hk ⊢
    by_cases e : x = 0
    · rw [if_pos e] at hk ⊢
      have := lz_more (l := r) (k := k) (by omega) h
      omega
    · rw [if_neg e] at hk
      omega
theorem lz_stop : ∀ {l : List Int} {k : Nat} {x : Int}, k ≤ lz l → l[k]? = some x → x ≠ 0 → lz l = k
  | [], k, _, _, h, _ => by simp at h
  | y :: r, 0, x, _, h, hx => by
    have e : y = x := Option.some.inj h
    simp only [lz, e, if_neg hx]
  | y :: r, k + 1, x, hk, h, hx => by
    simp only [lz] at hk ⊢
    by_cases e : y = 0
    · rw [if_pos e] at hk ⊢
      have := lz_stop (l := r) (k := k) (x := x) (by omega) h hx
      omega
    · rw [if_neg e] at hk
      omega
theorem lz_zeros : ∀ (k : Nat) (l : List Int), lz (List.replicate k 0 ++ l) = k + lz l
  | 0, l => by simp
  | k + 1, l => by
    rw [List.replicate_succ, List.cons_append, lz, if_pos rfl, lz_zeros k l]
    omega
inductive RC where
  | long : RC
  | short : RC
  | read (v : Int) (stop : Nat) : RC
def readC (xs : List Int) (a : Nat) : RC :=
  if 40 < lz (xs.drop a) then .long else if xs.length < a + lz (xs.drop a) + 1 + lz (xs.drop a) then .short
  else .read (valI ((xs.drop (a + lz (xs.drop a))).take (lz (xs.drop a) + 1)) - 1) (a + lz (xs.drop a) + 1 + lz (xs.drop a))
def rcV : RC → List V
  | .long => [.str "long"]
  | .short => [.str "short"]
  | .read v s => [.str "read", .int v, .int s]
/-- a signed number of a count -/
def sgnR : RC → RC
  | .read v s => .read (if v % 2 = 0 then v / 2 else (-(v + 1)) / 2) s
  | r => r
theorem read_code {A B : List Int} {c : Nat} (h : c + 1 < 2 ^ 41) : readC (A ++ code c ++ B) A.length = .read c (A.length + (code c).length) := by
  obtain ⟨r, hr⟩ := digs_head (n := c + 1) (by omega)
  have l1 := bl_half (n := c + 1) (by omega)
  have l2 : bl (c + 1) ≤ 41 := bl_le h
  have e1 : (A ++ code c ++ B).drop A.length = List.replicate (bl (c + 1) - 1) 0 ++ (digs (c + 1) ++ B) := by
    rw [List.append_assoc, List.drop_left' rfl, code, List.append_assoc]
  have e2 : lz ((A ++ code c ++ B).drop A.length) = bl (c + 1) - 1 := by
    rw [e1, lz_zeros, hr]
    simp [lz]
  have e3 : (A ++ code c ++ B).drop (A.length + (bl (c + 1) - 1)) = digs (c + 1) ++ B := by
    rw [← List.drop_drop, e1, List.drop_left' (by rw [List.length_replicate])]
  have e4 : (digs (c + 1) ++ B).take (bl (c + 1) - 1 + 1) = digs (c + 1) := by
    rw [List.take_left' (by rw [digs_len]; omega)]
  unfold readC
  rw [e2, if_neg (by omega), if_neg (by rw [List.length_append, List.length_append, code_len]; omega), e3, e4, valI_digs, code_len]
  congr 1
  · omega
  · omega
theorem read_cut {A : List Int} {c t : Nat} (h : c + 1 < 2 ^ 41) (ht : t < (code c).length) : readC (A ++ (code c).take t) A.length = .short := by
  obtain ⟨r, hr⟩ := digs_head (n := c + 1) (by omega)
  have l1 := bl_half (n := c + 1) (by omega)
  have l2 : bl (c + 1) ≤ 41 := bl_le h
  rw [code_len] at ht
  have e0 : (A ++ (code c).take t).length = A.length + t := by
    rw [List.length_append, List.length_take, code_len]
    omega
  have e1 : (A ++ (code c).take t).drop A.length = (code c).take t := List.drop_left' rfl
  by_cases q : t ≤ bl (c + 1) - 1
  · have e2 : (code c).take t = List.replicate t 0 := by
      unfold code
      rw [List.take_append_of_le_length (by rw [List.length_replicate]; exact q), List.take_replicate, Nat.min_eq_left q]
    have e3 : lz ((A ++ (code c).take t).drop A.length) = t := by
      rw [e1, e2]
      have := lz_zeros t []
      rw [List.append_nil] at this
      rw [this]
      rfl
    unfold readC
    rw [e3, if_neg (by omega), if_pos (by rw [e0]; omega)]
  · have e2 : (code c).take t = List.replicate (bl (c + 1) - 1) 0 ++ (digs (c + 1)).take (t - (bl (c + 1) - 1)) := by
      unfold code
      rw [List.take_append, List.length_replicate, List.take_of_length_le (by rw [List.length_replicate]; omega)]
    have e3 : lz ((A ++ (code c).take t).drop A.length) = bl (c + 1) - 1 := by
      rw [e1, e2, lz_zeros, hr]
      obtain ⟨m, hm⟩ : ∃ m, t - (bl (c + 1) - 1) = m + 1 := ⟨t - (bl (c + 1) - 1) - 1, by omega⟩
      rw [hm, List.take_succ_cons]
      simp [lz]
    unfold readC
    rw [e3, if_neg (by omega), if_pos (by rw [e0]; omega)]
/-! ### what is told, as data -/
def rcD : RC → List PyData
  | .long => [.str "long"]
  | .short => [.str "short"]
  | .read v s => [.str "read", .int v, .int s]
theorem dp_rc {K : PySem.W.Frag} {H : Hp} {p : Addr} {r : RC} (h : H p = some (.tup (rcV r))) : Dp K H (.ref p) (.tuple (rcD r)) := by
  cases r with
  | long => exact .tup (.inl (.inl h)) (.cons (.str _) .nil)
  | short => exact .tup (.inl (.inl h)) (.cons (.str _) .nil)
  | read v s => exact .tup (.inl (.inl h)) (.cons (.str _) (.cons (.int _) (.cons (.int _) .nil)))
theorem sh_rc (r : RC) : SeqAt.shaped (.tuple (rcD r)) = true := by
  cases r with
  | long => decide +kernel
  | short => decide +kernel
  | read v s =>
    have h : PyData.canLay0 (.str "read") = true := by decide +kernel
    simp [SeqAt.shaped, rcD, PyData.canLay0, PyData.canLayAll0, PyData.depth, PyData.depthAll] at h ⊢
    try exact h
theorem q_neR {K : PySem.W.Frag} {H : Hp} {p q : Addr} {r : RC} {Q : VK} (hp : H p = some (.tup (rcV r))) (hq : H q = some (.tup (rcV r))) (h : Q (.bl false) H) : rNeD K (.ref p) (.ref q) H Q :=
  ⟨_, _, dp_rc hp, dp_rc hq, sh_rc r, sh_rc r, by rw [eqv_same (sh_rc r)]; exact h⟩
end My
namespace My
open PySem PySem.Spec PyProof.Rows L2
/-! ### several except clauses, each with a name -/
abbrev Clause := Value × Nat × (Addr → Value → Option Addr → TS)
def wAll (K : PySem.W.Frag) (Wout : WX) (D : Ends) : List Clause → WX
  | [] => Wout
  | (c, i, ts) :: more => wAs K c i ts (wAll K Wout D more) D
inductive Clauses (X : Cx) : List ExceptHandler → List Clause → Prop
  | done : Clauses X [] []
  | step {x n : Str} {c : Value} {i : Nat} {ts : Addr → Value → Option Addr → TS} {first : Stmt} {others : List Stmt} {p1 p2 : Pos} {hds : List ExceptHandler} {cs : List Clause}
      (cl : Names X x c) (slot : X.N[i]? = some n) (lo : X.env.kindOf n = some .local)
      (body : ∀ (a : Addr) (oe : Obj) (cls : Value) (d : Option Addr) (pn : List (Addr × Obj)), Zc cls d oe → (∃ vs, oe.data = .fields vs) → PSs (X.suite a ((a, oe) :: pn)) (first :: others) (ts a cls d))
      (more : Clauses X hds cs) : Clauses X (.ExceptHandler (some (.Name x p1)) (some n) (first :: others) p2 :: hds) ((c, i, ts) :: cs)
section
variable {X : Cx} {todo : List Stmt} {h0 : ExceptHandler} {hds : List ExceptHandler} {cs : List Clause} {pos : Pos} {tb : WX → TS} {Wout : WX}
theorem ps_try_all (e1 : X.stack = X.env :: X.outer) (e2 : X.env.frame = some X.env.locals) (nd : X.N.Nodup) (tk : Takes X Wout)
    (run : ∀ (W : WX) (pn : List (Addr × Obj)) (xe : Value → Shared → Prop), Takes (X.tr pn xe) W → PassesOwn (model X.prog X.w) X.A X.env xe → PSs (X.tr pn xe) todo (tb W))
    (all : Clauses X (h0 :: hds) cs) : PS X (.Try todo (h0 :: hds) [] [] pos) (fun D σ H => tb (wAll X.K Wout D cs) D σ H) := by
  constructor
  intro pins s σ H D I reading
  have here := I.ok
  have fr : X.A.frames = some (X.env :: X.outer) := by
    rw [here.frames, e1]
  apply wpAny_Try_except
  refine wpAny_mono ((run (wAll X.K Wout D cs) (X.pn ++ pins) _ (fun u t caught => ?landing) PassesOwn.looking).run [] s σ H D (I.toTry _) reading) (fun f t out => ?through) (fun _ _ z => z)
  case through =>
    cases f with
    | ret v =>
      obtain ⟨x, σ', H', J, rx, q⟩ := out
      exact ⟨x, σ', H', J.ofTry here, rx, q⟩
    | cont =>
      obtain ⟨σ', H', J, q⟩ := out
      exact ⟨σ', H', J.ofTry here, q⟩
    | brk =>
      obtain ⟨σ', H', J, q⟩ := out
      exact ⟨σ', H', J.ofTry here, q⟩
    | next =>
      obtain ⟨σ', H', J, q⟩ := out
      exact wpAny_execs_nil ⟨σ', H', J.ofTry here, q⟩
  case landing =>
    obtain ⟨a, B, sI, old, σ', H', cls, d, rfl, J0, nb, grown, sky0, fresh, os, bare, wish⟩ := caught
    have J : Inv X pins σ' H' sI := J0.ofTry here
    have sky : Sky B (X.env :: X.outer) a (Zc cls d) X.env.locals t.heap := e1 ▸ sky0
    refine Sky.land Zc.steady fr e2 sky (fun g fly up => ?_)
    have JG : Inv X pins σ' H' { t with heap := g } := J.landed nb fly.1 (grown.trans up) os bare
    obtain ⟨oe, vs, hoe, hz, hdat⟩ := fly.there
    have apart : a ∉ frs (X.env :: X.outer) := by
      intro m
      obtain ⟨_, o2, g2, no⟩ := fly.2.2.1.mem m
      rw [hoe] at g2
      cases g2
      exact no _ hdat
    have aL : a ≠ X.env.locals := by
      intro z
      exact apart (List.mem_filterMap.mpr ⟨X.env, List.mem_cons_self, by rw [e2, z]⟩)
    have aF : a ∉ X.fs := by
      intro m
      obtain ⟨ev, me, q⟩ := List.mem_filterMap.mp m
      exact apart (List.mem_filterMap.mpr ⟨ev, List.mem_cons_of_mem _ me, q⟩)
    have SG := JG.suite hoe hdat fresh aL aF
    have goOn : ∀ {hs2 : List ExceptHandler} {cs2 : List Clause}, Clauses X hs2 cs2 → wAll X.K Wout D cs2 cls d σ' H' → wpAny (model X.prog X.w) X.A (handleBy (.ref a) X.env hs2) (SP X pins D) X.xe { t with heap := g } := by
      intro hs2 cs2 k
      induction k with
      | done =>
        intro wsh
        apply wpAny_handleBy_nil
        obtain ⟨_, _, _, ob, fs, T, oT, ts', g1, z1, d1, f1, _⟩ := id fly
        have leave : wpAny (model X.prog X.w) X.A (setFlight (.ref a) X.env.frame) (fun _ t2 => wpAny (model X.prog X.w) X.A (throw (.ref a) : Sem Flow) (SP X pins D) X.xe t2) X.xe { t with heap := g } := by
          rw [e2]
          exact HandSPX.setFlight_upZ fly fun g3 fly3 up3 => wpAny_throw (tk _ _ ⟨a, B, sI, pins, σ', H', cls, d, rfl, J, nb, (grown.trans up).trans up3, .inr (.inr (e1.symm ▸ fly3)), fresh, os, bare, wsh⟩)
        unfold PySem.passOn
        apply wpAny_bind
        refine wpAny_field g1 d1 f1 ?_
        rw [if_neg (by simp)]
        first
          | exact wpAny_bind leave
          | exact wpAny_bind (wpAny_pure (wpAny_bind leave))
      | @step x n c i ts fst oth p1 p2 hs3 cs3 cl slot lo body more ih =>
        intro wsh
        obtain ⟨b, hb, yes, no⟩ := wsh
        have tyOf : PySem.W.Looks (model X.prog X.w) g (typeOf (.ref a)) cls := fun _ _ _ _ k q => wpAny_typeOf_ref (k _ _ hoe) (hz.1.symm ▸ q)
        have ask := PySem.W.exm_one (M := model X.prog X.w) JG.kIn tyOf hb
        refine wpAny_handleBy_cons (codeAny_handlers_test ?_) (fun z => by cases z)
        have named : ∀ {Q : Value → Shared → Prop} {E : Value → Shared → Prop}, Q c { t with heap := g } → wpAny (model X.prog X.w) (X.A.mark (some (.ref a))) (eval (.Name x p1) X.env) Q E { t with heap := g } := by
          intro Q E q
          obtain ⟨isG, nodbg, isM | ⟨isM, isB, nn⟩⟩ := cl
          · exact ld_glob (X := X.suite a ((a, oe) :: (X.pn ++ pins))) SG isG isM q nodbg
          · exact ld_blt (X := X.suite a ((a, oe) :: (X.pn ++ pins))) SG isG isM isB q nn nodbg
        refine named (ask.here ?_)
        cases b with
        | false => exact ih (no rfl)
        | true =>
          apply codeAny_handlers_suite_as
          refine HandSPX.lands_againZ fly (fun g4 fly4 up4 => ?_)
          have J4 : Inv X pins σ' H' { t with heap := g4 } := J.landed nb fly4.1 ((grown.trans up).trans up4) os bare
          obtain ⟨oe4, vs4, hoe4, hz4, hdat4⟩ := fly4.there
          have S4 := J4.suite hoe4 hdat4 fresh aL aF
          refine store_ok (X := X.suite a ((a, oe4) :: (X.pn ++ pins))) (v := .ref a) S4 nd slot (.inl lo) rfl (fun t5 S5 => ?_) (.inr lo)
          refine wpAny_mono ((body a oe4 cls d (X.pn ++ pins) hz4 ⟨_, hdat4⟩).run [] t5 _ H' _ S5 (yes rfl a fresh)) (fun f t6 out => ?_) (fun _ _ z => z.elim)
          have unname : ∀ {σ6 : L2.St} {H6 : Hp} {Q : Shared → Prop}, Inv (X.suite a ((a, oe4) :: (X.pn ++ pins))) [] σ6 H6 t6 → (∀ t7, Inv X pins (σ6.set i none) H6 t7 → Q t7) →
              wpAny (model X.prog X.w) X.A (do bindName X.env n .none; unbindBehindTheSuite X.env n p2) (fun _ t7 => Q t7) X.xe t6 := by
            intro σ6 H6 Q S6 hq
            exact gone_ok (S6.unsuite here) nd slot lo hq
          cases f with
          | ret u =>
            obtain ⟨v6, σ6, H6, S6, r6, q6⟩ := out
            exact unname S6 fun t7 J7 => ⟨v6, _, _, J7, r6, q6⟩
          | cont =>
            obtain ⟨σ6, H6, S6, q6⟩ := out
            exact unname S6 fun t7 J7 => ⟨_, _, J7, q6⟩
          | brk =>
            obtain ⟨σ6, H6, S6, q6⟩ := out
            exact unname S6 fun t7 J7 => ⟨_, _, J7, q6⟩
          | next =>
            obtain ⟨σ6, H6, S6, q6⟩ := out
            exact unname S6 fun t7 J7 => ⟨_, _, J7, q6⟩
    exact goOn all wish
end
end My
namespace My
open PySem PySem.Spec PyProof.Rows L2
/-! ### shapes of data, for comparing -/
structure ShD (n : Nat) (d : PyData) : Prop where
  lay : d.canLay0 = true
  dep : d.depth ≤ n
theorem ShD.sh {n : Nat} {d : PyData} (h : ShD n d) (hn : n ≤ 64) : SeqAt.shaped d = true := by
  unfold SeqAt.shaped
  rw [h.lay, decide_eq_true (Nat.le_trans h.dep hn)]
  rfl
theorem ShD.mono {n m : Nat} {d : PyData} (h : ShD n d) (hn : n ≤ m) : ShD m d := ⟨h.lay, Nat.le_trans h.dep hn⟩
theorem shd_int {n : Nat} (i : Int) : ShD n (.int i) := ⟨by simp [PyData.canLay0], by simp [PyData.depth]⟩
theorem shd_bl {n : Nat} (b : Bool) : ShD n (.bool b) := ⟨by simp [PyData.canLay0], by simp [PyData.depth]⟩
theorem shd_non {n : Nat} : ShD n .none := ⟨by simp [PyData.canLay0], by simp [PyData.depth]⟩
theorem shd_str {n : Nat} {x : Str} (h : PyData.canLay0 (.str x) = true) : ShD n (.str x) := ⟨h, by simp [PyData.depth]⟩
theorem shd_all {n : Nat} : ∀ {ds : List PyData}, (∀ d ∈ ds, ShD n d) → PyData.canLayAll0 ds = true ∧ PyData.depthAll ds ≤ n
  | [], _ => ⟨rfl, Nat.zero_le _⟩
  | d :: r, h => by
    have h1 := h d List.mem_cons_self
    have h2 := shd_all (ds := r) fun x m => h x (List.mem_cons_of_mem _ m)
    refine ⟨?_, ?_⟩
    · rw [PyData.canLayAll0, h1.lay, h2.1]
      rfl
    · rw [PyData.depthAll]
      exact Nat.max_le.mpr ⟨h1.dep, h2.2⟩
theorem shd_lst {n : Nat} {ds : List PyData} (h : ∀ d ∈ ds, ShD n d) : ShD (n + 1) (.list ds) := ⟨by rw [PyData.canLay0]; exact (shd_all h).1, by rw [PyData.depth]; exact Nat.succ_le_succ (shd_all h).2⟩
theorem shd_tup {n : Nat} {ds : List PyData} (h : ∀ d ∈ ds, ShD n d) : ShD (n + 1) (.tuple ds) := ⟨by rw [PyData.canLay0]; exact (shd_all h).1, by rw [PyData.depth]; exact Nat.succ_le_succ (shd_all h).2⟩
theorem shd_ints {n : Nat} (ns : List Int) : ShD (n + 1) (.list (ns.map PyData.int)) := shd_lst fun d m => by
  obtain ⟨i, _, rfl⟩ := List.mem_map.mp m
  exact shd_int i
theorem q_eqS {K : PySem.W.Frag} {H : Hp} {x y : V} {d : PyData} {Q : VK} (hx : Dp K H x d) (hy : Dp K H y d) (s : SeqAt.shaped d = true) (h : Q (.bl true) H) : rEqD K x y H Q :=
  ⟨_, _, hx, hy, s, s, by rw [eqv_same s]; exact h⟩
theorem q_neS {K : PySem.W.Frag} {H : Hp} {x y : V} {d : PyData} {Q : VK} (hx : Dp K H x d) (hy : Dp K H y d) (s : SeqAt.shaped d = true) (h : Q (.bl false) H) : rNeD K x y H Q :=
  ⟨_, _, hx, hy, s, s, by rw [eqv_same s]; exact h⟩
/-! ### a body that may let out what is caught -/
theorem pss_ex {X : Cx} {W : WX} {n : Nat} {ss : List Stmt} {r : XK → TS} (h : ∀ E : XK, (∀ cls d σ' H', E cls d H' → σ'.length = n → W cls d σ' H') → PSs X ss (r E)) :
    PSs X ss (fun D σ H => ∃ E : XK, (∀ cls d σ' H', E cls d H' → σ'.length = n → W cls d σ' H') ∧ r E D σ H) :=
  ⟨fun pins s σ H D I ⟨E, hE, q⟩ => (h E hE).run pins s σ H D I q⟩
theorem takes_len {X : Cx} {W : WX} (t : Takes X W) : Takes X (fun c d σ H => σ.length = X.N.length → W c d σ H) := fun u s' ⟨a, B, sI, pins, σ, H, cls, d, e, I, nb, up, sky, na, os, ag, w⟩ =>
  t u s' ⟨a, B, sI, pins, σ, H, cls, d, e, I, nb, up, sky, na, os, ag, w I.len⟩
theorem vk_mono {tl : XK → Hp → VK → Prop} {E : XK} {H : Hp} {R R' : VK} (he : ∀ v H1, R v H1 ↔ R' v H1) (h : tl E H R) : tl E H R' := by
  have e : R = R' := funext fun v => funext fun H1 => propext (he v H1)
  rw [← e]
  exact h
theorem len3 {σ : L2.St} (h : σ.length = 3) : ∃ x y z, σ = [x, y, z] := match σ, h with | [x, y, z], _ => ⟨x, y, z, rfl⟩
/-! ### a def that makes lambdas: its code object is known -/
structure FunC (K : PySem.W.Frag) (x qual : Str) (st : Stmt) (f : Addr) (fd : FuncData) (c : Addr) : Prop where
  ex : ∃ (oc : Value) (od : Option Addr) (kV doc pm : Value) (an : Option Addr) (ct : Value) (osl : Array (Option Value)),
    fd = PySem.W.fnOf x qual (defArgs st) (defBody st) (defScope st) .none kV doc pm an (.ref c) ct ∧ K.lookup f = some ⟨oc, od, .func fd, osl⟩ ∧ PySem.W.codeIn K (.ref c) qual = true
theorem FunC.ok {P : Program} {w : World} {K : PySem.W.Frag} {mg : Str → Option Value} {base : Heap} {x qual : Str} {st : Stmt} {f c : Addr} {fd : FuncData} {N ps : List Str} {k : Nat} {sp : Sp} (F : FunC K x qual st f fd c) (S : FnScope N ps (defScope st)) (len : ∀ vs H Q E, sp vs H Q E → vs.length = ps.length)
    (hbody : ∀ (A : Around) (outer : List Env) (s : Shared) (H : Hp) (vs : List V) (Q : VK) (E : XK), Room k (A.deeper (envOfC qual (defScope st) s.heap.objs.size f (.ref c))) → sp vs H Q E →
      ∃ t, PSs (cxOf CX0 P w K mg base N qual (defScope st) f (.ref c) A outer s H E).nox (defBody st) t ∧ t { nx := fun _ H' => Q .non H', rt := Q } (start N vs) H) : FnOk P w K mg base CX0 (k + 1) f fd ps sp := by
  obtain ⟨oc, od, kV, doc, pm, an, ct, osl, rfl, lk, hcd⟩ := F.ex
  refine fn_of lk hcd S len fun A outer s H vs Q E hr hsp => ?_
  obtain ⟨t, h, q⟩ := hbody A outer s H vs Q E hr hsp
  exact ⟨t, h.nox, q⟩
theorem funC_mk {K : PySem.W.Frag} {x qual : Str} {st : Stmt} {f c0 : Addr} {oc : Value} {od an : Option Addr} {osl : Array (Option Value)} {kV doc pm ct : Value} (l : K.lookup f = some ⟨oc, od, .func (PySem.W.fnOf x qual (defArgs st) (defBody st) (defScope st) .none kV doc pm an (.ref c0) ct), osl⟩)
    (c : PySem.W.codeIn K (.ref c0) qual = true) : FunC K x qual st f (PySem.W.fnOf x qual (defArgs st) (defBody st) (defScope st) .none kV doc pm an (.ref c0) ct) c0 := ⟨⟨oc, od, kV, doc, pm, an, ct, osl, rfl, l, c⟩⟩
/-! ### tables beside draws -/
def UpN (a : Addr) (H H' : Hp) : Prop := ∀ b o, b ≠ a → H b = some o → (∀ ps, o ≠ .tbl ps) → H' b = some o
theorem UpN.refl (a : Addr) (H : Hp) : UpN a H H := fun _ _ _ h _ => h
theorem UpN.trans {a : Addr} {H H1 H2 : Hp} (u : UpN a H H1) (v : UpN a H1 H2) : UpN a H H2 := fun b o n h t => v b o n (u b o n h t) t
theorem Up.n {a : Addr} {H H' : Hp} (u : Up a H H') : UpN a H H' := fun b o n h _ => u b o n h
theorem ext_n {a : Addr} {H H' : Hp} (x : LamX.ExtN H H') : UpN a H H' := fun b o _ h t => x b o h t
theorem Src.ext {a : Addr} {H H' : Hp} (x : LamX.ExtN H H') (s : Src H a) : Src H' a := by
  obtain ⟨u, v, e, r⟩ := s
  exact ⟨u, v, x _ _ e (fun ps z => by cases z), r⟩
theorem tabs_up {T : List (Addr × Str)} {a : Addr} {H H' : Hp} (t : LamX.Tabs T H) (u : Up a H H') (s : Src H a) : LamX.Tabs T H' := fun p hp => by
  obtain ⟨x, y, e, _⟩ := s
  obtain ⟨ps, h1, h2, h3⟩ := t p hp
  refine ⟨ps, u _ _ (fun z => ?_) h1, h2, fun pos cv hc => ?_⟩
  · rw [z, e] at h1
    cases h1
  · obtain ⟨c, e1, e2⟩ := h3 pos cv hc
    refine ⟨c, e1, u _ _ (fun z => ?_) e2⟩
    rw [z, e] at e2
    unfold LamX.CodeO at e2
    cases e2
theorem tabs_same {T : List (Addr × Str)} {H H' : Hp} (t : LamX.Tabs T H) (s : Same H H') : LamX.Tabs T H' := t.ext fun b o e => s b o e
theorem ext_same {H H' : Hp} (s : Same H H') : LamX.ExtN H H' := fun b o e _ => s b o e
theorem UpN.to {a : Addr} {G H H' : Hp} (u : UpN a H H') (x : LamX.ExtN G H) (n : G a = none) : LamX.ExtN G H' := fun b o e t => u b o (ne_of_none e n) (x b o e t) t
theorem ext_seq {K : PySem.W.Frag} {H H' : Hp} {a : Addr} {xs : List V} (x : LamX.ExtN H H') (h : SqL K H a xs) : SqL K H' a xs := by
  rcases h with (h | ⟨o, h⟩) | h
  · exact .inl (.inl (x _ _ h (fun ps z => nomatch z)))
  · exact .inl (.inr ⟨o, x _ _ h (fun ps z => nomatch z)⟩)
  · exact .inr h
/-! ### the value of bits -/
theorem valI_lt : ∀ (n : Nat) (xs : List Int), xs.length = n → AreBits xs → ∃ z : Nat, valI xs = (z : Int) ∧ z < 2 ^ n
  | 0, xs, h, _ => by
    rw [List.length_eq_zero_iff.mp h]
    exact ⟨0, rfl, by decide⟩
  | n + 1, xs, h, hb => by
    rcases List.eq_nil_or_concat xs with rfl | ⟨ys, y, rfl⟩
    · cases h
    have hl : ys.length = n := by
      rw [List.length_concat] at h
      omega
    rw [List.concat_eq_append] at hb ⊢
    obtain ⟨z, hz, hz2⟩ := valI_lt n ys hl fun b m => hb b (List.mem_append_left _ m)
    have hb2 := hb y (List.mem_append_right _ (List.mem_singleton.mpr rfl))
    rw [valI_snoc, hz]
    have p : 2 ^ (n + 1) = 2 * 2 ^ n := by rw [Nat.pow_succ, Nat.mul_comm]
    exact ⟨2 * z + y.toNat, by omega, by omega⟩
/-! ### digits with zeros ahead -/
theorem bitsW_zero : ∀ d, bitsW d 0 = List.replicate d 0
  | 0 => rfl
  | d + 1 => by
    rw [bitsW, Nat.zero_div, bitsW_zero d, List.replicate_succ']
theorem bitsW_pad (d : Nat) : ∀ w n, n < 2 ^ w → bitsW (d + w) n = List.replicate d 0 ++ bitsW w n
  | 0, n, h => by
    have e : n = 0 := by omega
    subst e
    rw [Nat.add_zero, bitsW_zero, bitsW, List.append_nil]
  | w + 1, n, h => by
    have p : 2 ^ (w + 1) = 2 * 2 ^ w := by rw [Nat.pow_succ, Nat.mul_comm]
    show bitsW (d + w + 1) n = _
    rw [bitsW, bitsW, bitsW_pad d w (n / 2) (by omega), List.append_assoc]
theorem bitsI_pad (d w n : Nat) (h : n < 2 ^ w) : bitsI (d + w) n = List.replicate d 0 ++ bitsI w n := by
  unfold bitsI
  rw [bitsW_pad d w n h, List.map_append, List.map_replicate]
  rfl
end My
namespace My
open PySem PySem.Spec PyProof.Rows L2
/-! ### xs[i] op= e, for a list -/
theorem get_list {X : Cx} : PGet X (rIxL X.K) := by
  intro pins s σ H o i ov iv Q I ro ri h
  obtain ⟨p, xs, i, z, rfl, rfl, hq, he, q⟩ := h
  cases ro
  obtain ⟨t, rfl⟩ := ri
  obtain ⟨its, r, pl, hz⟩ := I.list hq
  obtain ⟨j, h1, h2, h3, h4, h5⟩ := atI_get he
  obtain ⟨w, ew, rw'⟩ := r.get h2
  have hl := r.length
  have hn := line63
  have fin : EP X pins σ Q w s := ⟨z, H, I, rw', q⟩
  by_cases h0 : 0 ≤ i
  · have hj : i.toNat = j := by
      rw [seqIndex_of h0 h5] at h1
      exact Option.some.inj h1
    exact wpAny_getItem_list pl.isList h0 (by omega) (by rw [hj]; simpa using ew) fin
  · have hj : (i + (its.toArray.size : Int)).toNat = j := by
      rw [seqIndex_neg (by omega) h4] at h1
      rw [List.size_toArray, ← hl]
      exact Option.some.inj h1
    exact wpAny_getItem_list_neg pl.isList (by omega) (by rw [List.size_toArray] <;> omega) (by omega) (by rw [hj]; simpa using ew) fin
/-! ### sum and for over a list or a tuple -/
def SqS (K : PySem.W.Frag) (H : Hp) (p : Addr) (xs : List V) : Prop := SqL K H p xs ∨ SqT K H p xs
def rSumS (K : PySem.W.Frag) : List V → Hp → VK → Prop := fun vs H Q => ∃ (a : Addr) (ns : List Int), vs = [V.ref a] ∧ SqS K H a (ns.map V.int) ∧ Q (.int ns.sum) H
theorem cr_sumS {X : Cx} (hc : X.calm = true) : CallR X (.builtin "sum") (rSumS X.K) := by
  intro pins s σ H vs us Q I r h
  obtain ⟨a, ns, rfl, hs, q⟩ := h
  rcases hs with hs | hs
  · exact cr_sum hc pins s σ H _ us Q I r ⟨a, ns, rfl, hs, q⟩
  · obtain ⟨its, rv, p, _⟩ := I.tuple hs
    rw [Vals.ref1 r]
    obtain ⟨xs, e⟩ := rv.ints.allInts.items
    have hn : numsOf (intItems xs).toList = ns := by rw [← e]; exact rv.ints.numsOf
    rw [nums_intItems] at hn
    have p2 : s.heap.IsTuple a (intItems xs) := by rw [← e]; exact p
    refine PySem.W.ktm_sumG (I.ok.hd hc) p2 fun h' tk t' hk => ?_
    rw [preSum_eq, List.take_of_length_le (by simp), hn]
    exact ⟨.int _, H, I.kept hk, ⟨_, rfl⟩, q⟩
def iSeq (K : PySem.W.Frag) (tl : TE) : TI := fun σ H R => tl σ H fun x H1 => ∃ a, x = .ref a ∧ (((∃ xs, SqL K H1 a xs) ∧ R (Itl K a) H1) ∨ ((∃ xs, SqT K H1 a xs) ∧ R (Itt K a) H1))
theorem pi_seq {X : Cx} {tg l : Expr} {tl : TE} (hl : PE X l tl) : PI X tg l (iSeq X.K tl) := by
  refine ⟨fun pins s σ H R I h => ?_⟩
  refine thn (hl.run pins s σ H _ I h) fun v s1 ⟨x, H1, I1, r1, q1⟩ => ?_
  obtain ⟨a, e, q⟩ := q1
  subst e
  cases r1
  rcases q with ⟨⟨xs, hq⟩, q⟩ | ⟨⟨xs, hq⟩, q⟩
  · obtain ⟨its, rv, p, hz⟩ := I1.list hq
    refine wpAny_pyIter_list p.isList ?_
    refine ⟨s1.heap.objs.size, [s1.heap.objs.size], _, _, H1, rfl, I1.kept (t' := s1.toks) fun b o e => Heap.get?_push_of_some _ e, turn_list a _, ⟨_, Heap.get?_push_size _ rfl, rfl, rfl⟩, fun b hb => ?_, q⟩
    have e : b = s1.heap.objs.size := by simpa using hb
    subst e
    exact I1.fpOk (Nat.le_refl _) (I1.hok.fresh (Nat.le_refl _))
  · obtain ⟨its, rv, p, hz⟩ := I1.tuple hq
    refine wpAny_pyIter_tuple (show s1.heap.IsTuple a its.toArray from p) ?_
    refine ⟨s1.heap.objs.size, [s1.heap.objs.size], _, _, H1, rfl, I1.kept (t' := s1.toks) fun b o e => Heap.get?_push_of_some _ e, turn_tuple a _, ⟨_, Heap.get?_push_size _ rfl, rfl, rfl⟩, fun b hb => ?_, q⟩
    have e : b = s1.heap.objs.size := by simpa using hb
    subst e
    exact I1.fpOk (Nat.le_refl _) (I1.hok.fresh (Nat.le_refl _))
theorem same_seqT {K : PySem.W.Frag} {H H' : Hp} {a : Addr} {xs : List V} (e : Same H H') (h : SqT K H a xs) : SqT K H' a xs := by
  rcases h with (h | ⟨o, h⟩) | h
  · exact .inl (.inl (e _ _ h))
  · exact .inl (.inr ⟨o, e _ _ h⟩)
  · exact .inr h
theorem same_seqS {K : PySem.W.Frag} {H H' : Hp} {a : Addr} {xs : List V} (e : Same H H') (h : SqS K H a xs) : SqS K H' a xs := by
  rcases h with h | h
  · exact .inl (e.seq h)
  · exact .inr (same_seqT e h)
theorem for_seq {K : PySem.W.Frag} {a : Addr} {xs : List V} {g : TG} {tb : TS} {D : Ends} {σ : L2.St} {H : Hp} (Pv : Nat → L2.St → Hp → Prop) (h0 : Pv 0 σ H) (hl : (∀ i σ' H', i ≤ xs.length → Pv i σ' H' → SqL K H' a xs) ∨ (∀ i σ' H', i ≤ xs.length → Pv i σ' H' → SqT K H' a xs))
    (hs : ∀ i x σ H, xs[i]? = some x → Pv i σ H → g x σ H fun σ2 H2 => tb { D with nx := Pv (i + 1), ct := Pv (i + 1), bk := D.nx } σ2 H2) (hd : ∀ σ H, Pv xs.length σ H → D.nx σ H) :
    ((∃ ys, SqL K H a ys) ∧ ∃ W : Nat → Nat → L2.St → Hp → Prop, (∃ m, W 0 m σ H) ∧ ∀ i m σ H, W i m σ H →
      ((Itl K a).stop i H ∧ D.nx σ H) ∨ ((Itl K a).go i H ∧ ∃ N : L2.St → Hp → Prop, (∀ σ' H', N σ' H' → ∃ m', m' < m ∧ W (i + 1) m' σ' H') ∧ ∀ x H', (Itl K a).yld i H x H' → g x σ H' fun σ2 H2 => tb { D with nx := N, ct := N, bk := D.nx } σ2 H2)) ∨
    ((∃ ys, SqT K H a ys) ∧ ∃ W : Nat → Nat → L2.St → Hp → Prop, (∃ m, W 0 m σ H) ∧ ∀ i m σ H, W i m σ H →
      ((Itt K a).stop i H ∧ D.nx σ H) ∨ ((Itt K a).go i H ∧ ∃ N : L2.St → Hp → Prop, (∀ σ' H', N σ' H' → ∃ m', m' < m ∧ W (i + 1) m' σ' H') ∧ ∀ x H', (Itt K a).yld i H x H' → g x σ H' fun σ2 H2 => tb { D with nx := N, ct := N, bk := D.nx } σ2 H2)) := by
  rcases hl with h | h
  · exact .inl ⟨⟨_, h _ _ _ (Nat.zero_le _) h0⟩, for_list Pv h0 h hs hd⟩
  · exact .inr ⟨⟨_, h _ _ _ (Nat.zero_le _) h0⟩, for_tup Pv h0 h hs hd⟩
end My
namespace My
open PySem PySem.Spec PyProof.Rows L2
/-! ### classes: makers, methods, properties, handed round as one fact each -/
theorem passN {X : Cx} : Passes (L2.CX X.prog X.w) X C8.E0 := fun _ _ _ _ _ _ _ c => by
  obtain ⟨_, _, _, _, _, _, _, _, _, _, _, _, z⟩ := c
  exact z.elim
section
variable {X : Cx} {CX : CXT} {k j : Nat} {f C : Addr} {fd : FuncData} {ps ks : List Str} {sp : Sp} {E : XK} {x m : Str} {p pos apos : Pos} {e o : Expr} {es : List Expr} {kws : List Keyword} {ta : TE} {t tk : TA} {g : List Value → List Value → List Value} {gV : List V → List V → List V}
/-- o.m(k = v, ..), nothing by position -/
def tMethK (C : Addr) (m : Str) (n : Nat) (sp : Sp) (E : XK) (ta : TE) (tk : TA) : TE := fun σ H Q => ta σ H fun x H1 => ∃ a dx fs, x = .ref a ∧ H1 a = some (.ins C dx fs) ∧ fs.lookup m = none ∧ tk σ H1 fun zs H2 => zs.length = n ∧ sp (x :: zs) H2 Q E
theorem pe_methK {pl : Sem Bool} (he : PE X o ta) (c : Cls X.K C) (hm : Meth X.K C m f) (F : FnOk X.prog X.w X.K X.mg X.base CX k f fd ps sp) (hr : Room k X.A) (hb : KBn X.K fd ps 1 ks (fun us ws => us ++ ws) (fun vs zs => vs ++ zs)) (hx : Passes CX X E) (hkw : PK X kws tk)
    (hall : (backToKw pos (keywordEach kws X.env)).all (·.1.isSome) = true := by rfl) (hks : (backToKw pos (keywordEach kws X.env)).filterMap (·.1) = ks := by rfl)
    (hpl : ((backTo pos (starEach [] X.env)).any (·.1) || (backToKw pos (keywordEach kws X.env)).any (·.1.isNone)) = false := by rfl)
    (ht : eval (.Call (.Attribute o m apos) [] kws pos) X.env = (do
      let ov ← eval o X.env
      standAt apos.atName
      let (f, first) ← holding [ov] (getMethod ov m pl)
      callWith pos f first (backTo pos (starEach [] X.env)) (backToKw pos (keywordEach kws X.env))) := by rfl) :
    PE X (.Call (.Attribute o m apos) [] kws pos) (tMethK C m ks.length sp E ta tk) := by
  refine ⟨fun pins s σ H Q I h => ?_⟩
  refine PySem.W.methodCall_KW (pl := pl) (thn (he.run pins s σ H _ I h) fun u s1 ⟨x, H1, I1, rx, a, dx, fs, ex, ea, l, q⟩ => ?_) ht
  subst ex
  obtain rfl : u = Value.ref a := rx
  refine getmeth_ok I1 ea c hm l ?_
  refine PySem.W.callWith_KW0 (first := [.ref a]) (h₀ := X.base) I.ok.mod.kin hm.kp hall ?_ hpl
  refine thn (hkw.run pos pins s1 σ H1 _ I1 q) fun ws s2 ⟨zs, H2, I2, rz, l2, q2⟩ => ⟨I2.kIn, ?_⟩
  rw [hks]
  exact run_fnN (us := [.ref a]) (vs := [.ref a]) F hr hb hx I2 (.cons rfl .nil) rz rfl l2 q2
end
/-- a method that may be called -/
structure CalM (P : Program) (w : World) (K : PySem.W.Frag) (mg : Str → Option Value) (base : Heap) (k : Nat) (C : Addr) (m : Str) (ks : List Str) (sp : Sp) : Prop where
  ex : ∃ (f : Addr) (fd : FuncData) (ps : List Str), Meth K C m f ∧ FnOk P w K mg base (L2.CX P w) k f fd ps sp ∧ Binds K fd ps [] ∧ KBn K fd ps 1 ks (fun us ws => us ++ ws) (fun vs zs => vs ++ zs)
/-- a class that may be called -/
structure CalC (P : Program) (w : World) (K : PySem.W.Frag) (mg : Str → Option Value) (base : Heap) (k : Nat) (x : Str) (C : Addr) (ks : List Str) (sp : Sp) : Prop where
  gl : mg x = some (.ref C)
  ex : ∃ (f : Addr) (fd : FuncData) (ps : List Str), Mk K C f ∧ FnOk P w K mg base (L2.CX P w) k f fd ps sp ∧ Binds K fd ps [] ∧ KBn K fd ps 1 ks (fun us ws => us ++ ws) (fun vs zs => vs ++ zs)
/-- a property that may be read -/
structure CalP (P : Program) (w : World) (K : PySem.W.Frag) (mg : Str → Option Value) (base : Heap) (k : Nat) (C : Addr) (f : Str) (sp : Sp) : Prop where
  ex : ∃ (p g : Addr) (fd : FuncData) (ps : List Str), PropOf K C f p g ∧ FnOk P w K mg base CX0 k g fd ps sp ∧ Binds K fd ps []
section
variable {X : Cx} {k j : Nat} {C : Addr} {ks : List Str} {sp : Sp} {E : XK} {x m : Str} {p pos apos : Pos} {e o : Expr} {es : List Expr} {kws : List Keyword} {ta : TE} {t tk : TA}
/-- o.m(e, ..); E: what is wanted of an exception -/
theorem pe_mx {pl : Sem Bool} (M : CalM X.prog X.w X.K X.mg X.base k C m ks sp) (c : Cls X.K C) (hr : Room j X.A) (hk : k ≤ j) (hx : Passes (L2.CX X.prog X.w) X E) (he : PE X o ta) (ha : PA X (e :: es) t)
    (hst : starEach (e :: es) X.env = (false, eval e X.env) :: starEach es X.env := by rfl) (hpl : (backTo pos (starEach es X.env)).any (·.1) = false := by rfl)
    (ht : eval (.Call (.Attribute o m apos) (e :: es) [] pos) X.env = (do
      let ov ← eval o X.env
      standAt apos.atName
      let (f, first) ← holding [ov] (getMethod ov m pl)
      callWith pos f first (backTo pos (starEach (e :: es) X.env)) (backToKw pos (keywordEach [] X.env))) := by rfl) :
    PE X (.Call (.Attribute o m apos) (e :: es) [] pos) (tMeth C m sp [] E ta t) := by
  obtain ⟨f, fd, ps, hm, F, hb, _⟩ := M.ex
  exact pe_meth he c hm F (hr.mono hk) hb .nil hx ha hst hpl ht
/-- o.m() -/
theorem pe_mx0 {pl : Sem Bool} (M : CalM X.prog X.w X.K X.mg X.base k C m ks sp) (c : Cls X.K C) (hr : Room j X.A) (hk : k ≤ j) (hx : Passes (L2.CX X.prog X.w) X E) (he : PE X o ta)
    (ht : eval (.Call (.Attribute o m apos) [] [] pos) X.env = (do
      let ov ← eval o X.env
      standAt apos.atName
      let (f, first) ← holding [ov] (getMethod ov m pl)
      callWith pos f first (backTo pos (starEach [] X.env)) (backToKw pos (keywordEach [] X.env))) := by rfl) :
    PE X (.Call (.Attribute o m apos) [] [] pos) (tMeth C m sp [] E ta tNil) := by
  obtain ⟨f, fd, ps, hm, F, hb, _⟩ := M.ex
  exact pe_meth0 he c hm F (hr.mono hk) hb .nil hx ht
/-- o.m(k = v, ..) -/
theorem pe_mxK {pl : Sem Bool} (M : CalM X.prog X.w X.K X.mg X.base k C m ks sp) (c : Cls X.K C) (hr : Room j X.A) (hk : k ≤ j) (hx : Passes (L2.CX X.prog X.w) X E) (he : PE X o ta) (hkw : PK X kws tk)
    (hall : (backToKw pos (keywordEach kws X.env)).all (·.1.isSome) = true := by rfl) (hks : (backToKw pos (keywordEach kws X.env)).filterMap (·.1) = ks := by rfl)
    (hpl : ((backTo pos (starEach [] X.env)).any (·.1) || (backToKw pos (keywordEach kws X.env)).any (·.1.isNone)) = false := by rfl)
    (ht : eval (.Call (.Attribute o m apos) [] kws pos) X.env = (do
      let ov ← eval o X.env
      standAt apos.atName
      let (f, first) ← holding [ov] (getMethod ov m pl)
      callWith pos f first (backTo pos (starEach [] X.env)) (backToKw pos (keywordEach kws X.env))) := by rfl) :
    PE X (.Call (.Attribute o m apos) [] kws pos) (tMethK C m ks.length sp E ta tk) := by
  obtain ⟨f, fd, ps, hm, F, _, hb⟩ := M.ex
  exact pe_methK he c hm F (hr.mono hk) hb hx hkw hall hks hpl ht
/-- C(e, ..) -/
theorem pe_new (M : CalC X.prog X.w X.K X.mg X.base k x C ks sp) (hr : Room j X.A) (hk : k + 1 ≤ j) (hg : Gl X x) (hx : Passes (L2.CX X.prog X.w) X E) (ha : PA X (e :: es) t) (hdb : (x == ("__debug__" : Str)) = false := by decide)
    (he : starEach (e :: es) X.env = (false, eval e X.env) :: starEach es X.env := by rfl) (hpl : (backTo pos (starEach es X.env)).any (·.1) = false := by rfl) :
    PE X (.Call (.Name x p) (e :: es) [] pos) (tMake C sp [] E t) := by
  obtain ⟨f, fd, ps, hm, F, hb, _⟩ := M.ex
  exact pe_make hm F (hr.mono hk) hg M.gl hb .nil hx ha hdb he hpl
/-- C() -/
theorem pe_new0 (M : CalC X.prog X.w X.K X.mg X.base k x C ks sp) (hr : Room j X.A) (hk : k + 1 ≤ j) (hg : Gl X x) (hx : Passes (L2.CX X.prog X.w) X E) (hdb : (x == ("__debug__" : Str)) = false := by decide) :
    PE X (.Call (.Name x p) [] [] pos) (tMake C sp [] E tNil) := by
  obtain ⟨f, fd, ps, hm, F, hb, _⟩ := M.ex
  exact pe_make0 hm F (hr.mono hk) hg M.gl hb .nil hx hdb
/-- C(k = v, ..) -/
theorem pe_newK (M : CalC X.prog X.w X.K X.mg X.base k x C ks sp) (hr : Room j X.A) (hk : k + 1 ≤ j) (hg : Gl X x) (hx : Passes (L2.CX X.prog X.w) X E) (hkw : PK X kws tk)
    (hall : (backToKw pos (keywordEach kws X.env)).all (·.1.isSome) = true := by rfl) (hks : (backToKw pos (keywordEach kws X.env)).filterMap (·.1) = ks := by rfl) (hdb : (x == ("__debug__" : Str)) = false := by decide)
    (hpl : ((backTo pos (starEach [] X.env)).any (·.1) || (backToKw pos (keywordEach kws X.env)).any (·.1.isNone)) = false := by rfl) :
    PE X (.Call (.Name x p) [] kws pos) (tMakeK C 0 ks.length sp (fun vs zs => vs ++ zs) E tNil tk) := by
  obtain ⟨f, fd, ps, hm, F, _, hb⟩ := M.ex
  exact pe_makeK0 hm F (hr.mono hk) hg M.gl hb hx hkw hall hks hdb hpl
/-- e.f, a property -/
theorem pe_pr {f : Str} (M : CalP X.prog X.w X.K X.mg X.base k C f sp) (c : Cls X.K C) (hr : Room j X.A) (hk : k + 1 ≤ j) (he : PE X e ta) (hab : attributeBase e f X.env (eval e X.env) = eval e X.env) : PE X (.Attribute e f pos) (tProp C sp [] C8.E0 ta) := by
  obtain ⟨p, g, fd, ps, hp, F, hb⟩ := M.ex
  exact pe_prop he c hp F (hr.mono hk) hb .nil pass0 hab
end
end My
namespace My
open PySem PySem.Spec PyProof.Rows L2
/-! ### exceptions with a field of their own -/
/-- isinstance of the exception that a suite holds, where it has its own dict -/
theorem call_isEd {X : Cx} {a D : Addr} {oe : Obj} {cls : Value} {d : Option Addr} {pn : List (Addr × Obj)} (C : ExcC X.K D) (hz : Zc cls d oe) (hf : ∃ vs, oe.data = .fields vs) :
    CallR (X.suite a ((a, oe) :: pn)) (.builtin "isinstance") (fun xs H Q => cls = .ref D ∧ (∃ dd fs, d = some dd ∧ H dd = some (.xd fs)) ∧ rIsE X.K D a xs H Q) := by
  intro pins s σ H xs us Q I r h
  obtain ⟨e1, ⟨dd, fs, e2, ea⟩, c, cv, b, rfl, hcv, e, q⟩ := h
  subst e1 e2
  cases r with
  | cons rx rr =>
    cases rr with
    | cons rt rr =>
      cases rr
      cases rx
      have ec := hcv _ rt
      subst ec
      obtain ⟨hget, _⟩ := I.pin (a, oe) (List.mem_append.mpr (.inl List.mem_cons_self))
      obtain ⟨vs, hv⟩ := hf
      have hx : ObjOk X.prog X.w H s.heap dd (.xd fs) := I.hok dd _ ea
      obtain ⟨mA, hns, hr⟩ := hx
      obtain ⟨od, ho, hl⟩ := lookIn_ns hns
      have J : PySem.W.InstAt s.heap a oe D (some od) := ⟨hget, hz.1, by unfold PySem.W.notCls; rw [hv] <;> rfl, by rw [hz.2]; exact ho⟩
      have hcl : (PySem.W.clsIn X.K D).isSome = true := by
        obtain ⟨cd, hc, _⟩ := PySem.W.any_some C.hd
        rw [hc]
        rfl
      exact PySem.W.kia_one (PySem.W.kitx_exc hcl C.hg C.hk C.hs C.ha C.hn C.ht C.hm) I.kIn J e (fun z => nomatch z) fun tk => ⟨.bl b, H, I.kept (t' := tk) fun _ _ z => z, rfl, q⟩
/-- its __init__: self.f = what is given -/
def spIni (C : Addr) (f : Str) : Sp := fun vs H Q _ => ∃ (a : Addr) (v : V), vs = [.ref a, v] ∧ H a = some (exo a C none) ∧ ∀ dx, H dx = none → dx ≠ a → Q .non (upd (upd H dx (exd dx [(f, v)])) a (exo a C (some dx)))
/-- an own exception class x with one field f, at C -/
structure XDef (P : Program) (w : World) (K : PySem.W.Frag) (mg : Str → Option Value) (base : Heap) (x f : Str) (C : Addr) : Prop where
  gC : mg x = some (.ref C)
  oex : OexC K C
  xf : XfC K C
  no : PySem.W.findIn K (.ref C) f = some none
  isx : ExcC K C
  em : PySem.W.exmOne K (.ref C) (.ref C) = some true
  ini : ∃ (fI : Addr) (fd : FuncData), PySem.W.findIn K (.ref C) "__init__" = some (some (.ref fI)) ∧ PySem.W.typeIn K (.ref fI) = some (.type "function") ∧ FnOk P w K mg base CX0 1 fI fd ["self", f] (spIni C f) ∧ Binds K fd ["self", f] []
theorem pmk_x {X : Cx} {x f : Str} {C : Addr} {j : Nat} {p pos : Pos} {e : Expr} {te : TE} (D : XDef X.prog X.w X.K X.mg X.base x f C) (hr : Room j X.A) (h2 : 2 ≤ j) (hg : Gl X x) (he : PE X e te) (hdb : (x == ("__debug__" : Str)) = false := by decide)
    (hst : starEach [e] X.env = (false, eval e X.env) :: starEach [] X.env := by rfl) : PMk X (.Call (.Name x p) [e] [] pos) (tMkO C (spIni C f) [] (tCons te tNil)) := by
  obtain ⟨fI, fd, iC, tI, F, hb⟩ := D.ini
  exact pmk_oex D.oex iC tI F (hr.mono h2) hb .nil pass0 hg D.gC (pa_cons (hs := hst) he pa_nil) hdb hst (by rfl)
/-- what is made: an exception whose dict holds the field, all else as it was -/
theorem mkx_in {C : Addr} {f : Str} {v : V} {H1 : Hp} {Q : XK} (h : ∀ (d : Addr) (H2 : Hp), H1 d = none → Same H1 H2 → H2 d = some (.xd [(f, v)]) → Q (.ref C) (some d) H2) :
    [v].length ≤ 1000 ∧ ∀ a, H1 a = none → spIni C f (.ref a :: ([v] ++ [])) (upd H1 a (exo a C none))
      (fun u H2 => u = .non ∧ ∃ (d : Addr) (fs : List (Str × V)), H2 a = some (exo a C (some d)) ∧ H2 d = some (exd d fs) ∧ H1 d = none ∧ Q (.ref C) (some d) (upd (del H2 a) d (.xd fs))) (fun _ _ _ => False) := by
  refine ⟨by show 1 ≤ 1000; decide, fun a na => ⟨a, v, rfl, upd_same, fun dx ndx hne => ⟨rfl, dx, [(f, v)], upd_same, (upd_ne hne).trans upd_same, ?_, ?_⟩⟩⟩
  · rw [upd_ne hne] at ndx
    exact ndx
  · have nd : H1 dx = none := by
      rw [upd_ne hne] at ndx
      exact ndx
    refine h dx _ nd (fun b o e => ?_) upd_same
    have b1 := ne_of_none e na
    have b2 := ne_of_none e nd
    rw [upd_ne b2, del_ne b1, upd_ne b1, upd_ne b2, upd_ne b1]
    exact e
end My
namespace My
open PySem PySem.Spec PyProof.Rows L2
/-! ### zip of any number of lists -/
abbrev TupN (h : Heap) (T : Addr) (vs : List Value) : Prop := h.get? T = some { cls := .type "tuple", data := .seq vs.toArray }
abbrev ZipF (h : Heap) (z TI TO : Addr) (f0 : Value) (f : Bool) : Prop := h.get? z = some { cls := .type "zip", dict := none, data := .fields #[f0, .bool f, .bool false, .ref TI, .ref TO], slots := #[] }
structure ApN (z TI TO : Addr) (ps : List (Addr × Addr)) : Prop where
  a1 : TI ≠ z
  a2 : TO ≠ z
  a3 : TI ≠ TO
  a4 : ∀ q ∈ ps, q.1 ≠ z ∧ q.1 ≠ TI ∧ q.1 ≠ TO
  a5 : (ps.map (·.1)).Nodup
  a6 : ∀ q ∈ ps, q.2 ≠ z ∧ q.2 ≠ TO ∧ ∀ r ∈ ps, q.2 ≠ r.1
section
variable {prog : Program} {w : World} {A : Around} {E : Value → Shared → Prop} {s : Shared} {z TI TO : Addr} {ps : List (Addr × Addr)} {xs : Addr → Array Value} {k : Nat} {old : List Value}
/-- nothing that is handed out stands in the way -/
def Fr0 (h : Heap) (f0 : Value) : Prop := f0 = .none ∨ ∃ T : Addr, f0 = rawInt T ∧ h.get? T = none
theorem free_true {f0 : Value} {f : Bool} {Q : Bool → Shared → Prop} (hz : ZipF s.heap z TI TO f0 f) (hf : Fr0 s.heap f0) (h : Q true s) : wpAny (model prog w) A (Builtin.SmallTypes.ownedTupleIsFree (.ref z)) Q E s := by
  unfold Builtin.SmallTypes.ownedTupleIsFree
  rcases hf with rfl | ⟨T, rfl, hT⟩
  · exact wpAny_bind (wpAny_field hz rfl (x := .none) rfl (wpAny_pure h))
  · refine wpAny_bind (wpAny_field hz rfl (x := rawInt T) rfl ?_)
    show wpAny _ _ (loadIfAlive ((T : Int).toNat) >>= _) _ _ _
    have hq : ∀ {R : Option Obj → Shared → Prop}, R none s → wpAny (model prog w) A (loadIfAlive ((T : Int).toNat)) R E s := fun {R} r => by
      rw [Int.toNat_natCast]
      have r' : R (s.heap.get? T) s := by rw [hT]; exact r
      exact fun _ _ _ => r'
    exact wpAny_bind (hq (wpAny_pure h))
theorem next_free {f0 : Value} {f : Bool} {Q : Value → Shared → Prop} (ne : ps ≠ []) (hn : ps.length ≤ 900) (D : ApN z TI TO ps) (hz : ZipF s.heap z TI TO f0 f) (hf : Fr0 s.heap f0) (hI : TupN s.heap TI (ps.map fun q => .ref q.1)) (hO : TupN s.heap TO old) (ho : old.length = ps.length)
    (hi : ∀ q ∈ ps, s.heap.IsListIter q.1 q.2 k) (hl : ∀ q ∈ ps, s.heap.IsList q.2 (xs q.2)) (hk : ∀ q ∈ ps, k < (xs q.2).size)
    (hQ : ∀ h' T, T = s.heap.objs.size → ZipF h' z TI TO (rawInt T) false → TupN h' TO (ps.map fun q => (xs q.2).getD k .none) → (∀ q ∈ ps, h'.IsListIter q.1 q.2 (k + 1)) → TupN h' T (ps.map fun q => (xs q.2).getD k .none) → h'.objs.size = s.heap.objs.size + 1 →
      (∀ c o, c ≠ z → c ≠ TO → (∀ q ∈ ps, c ≠ q.1) → s.heap.get? c = some o → h'.get? c = some o) → Q (.ref T) { s with heap := h' }) :
    wpAny (model prog w) A (Builtin.«zip.__next__» ⟨[.ref z], []⟩) (fun fin s' => ∃ v, fin = .done (.ret v) ∧ Q v s') E s := by
  show wpAny _ _ (field (.ref z) 2 >>= _) _ _ _
  refine wpAny_bind (wpAny_field hz rfl (x := .bool false) rfl ?_)
  show wpAny _ _ (field (.ref z) 3 >>= _) _ _ _
  refine wpAny_bind (wpAny_field hz rfl (x := .ref TI) rfl ?_)
  refine wpAny_bind (wpAny_seqItems hI rfl ?_)
  dsimp only
  have hne : (ps.map fun q => Value.ref q.1).toArray.isEmpty = false := by
    cases ps with
    | nil => exact absurd rfl ne
    | cons q r => rfl
  rw [hne, if_neg Bool.false_ne_true]
  refine wpAny_bind (free_true hz hf ?_)
  rw [if_pos rfl]
  refine wpAny_bind (wpAny_rule ?_)
  refine wpAny_bind (wpAny_field hz rfl (x := .ref TO) rfl ?_)
  dsimp only
  refine wpAny_bind (wpAny_setField_rec hz (by simp) fun g1 z1 b1 => ?_)
  replace z1 : ZipF g1 z TI TO .ellipsis f := z1
  refine wpAny_bind ?_
  refine wpAny_forIn_list _ (fun (rest : List (Value × Nat)) (b : Option Fin × PUnit) (st : Shared) => ∃ (dn rs : List (Addr × Addr)) (od : List Value) (h1 : Heap), ps = dn ++ rs ∧ rest = (rs.map fun q => Value.ref q.1).zipIdx dn.length ∧ b = (none, ⟨⟩) ∧ st = { s with heap := h1 } ∧
      ZipF h1 z TI TO .ellipsis f ∧ od.length = rs.length ∧ TupN h1 TO ((dn.map fun q => (xs q.2).getD k .none) ++ od) ∧ (∀ q ∈ dn, h1.IsListIter q.1 q.2 (k + 1)) ∧ (∀ q ∈ rs, h1.IsListIter q.1 q.2 k) ∧ (∀ q ∈ ps, h1.IsList q.2 (xs q.2)) ∧ h1.objs.size = s.heap.objs.size ∧
      ∀ c, c ≠ z → c ≠ TO → (∀ q ∈ ps, c ≠ q.1) → h1.get? c = s.heap.get? c) _ ?_ ?_ _ _ ⟨[], ps, old, g1, rfl, rfl, rfl, rfl, z1, ho, ?_, fun _ m => absurd m List.not_mem_nil, ?_, ?_, b1.1, fun c c1 _ _ => b1.2 c c1⟩
  · rintro x rest b st ⟨dn, rs, od, h1, e1, e2, rfl, rfl, hz1, hod, hO1, hd1, hr1, hl1, hs1, hf1⟩
    cases rs with
    | nil => cases e2
    | cons q r =>
      obtain ⟨o1, od2, rfl⟩ : ∃ o1 od2, od = o1 :: od2 := by
        cases od with
        | nil => cases hod
        | cons a b => exact ⟨a, b, rfl⟩
      have e3 : x = (Value.ref q.1, dn.length) := (List.cons.inj e2).1
      have e4 : rest = (r.map fun q => Value.ref q.1).zipIdx (dn.length + 1) := (List.cons.inj e2).2
      subst e3
      have mq : q ∈ ps := by rw [e1]; simp
      have hlen : dn.length + (r.length + 1) ≤ 900 := by
        rw [e1, List.length_append, List.length_cons] at hn
        exact hn
      have hod2 : od2.length = r.length := Nat.succ.inj hod
      refine wpAny_bind (wpAny_onRaise ?_)
      show wpAny _ _ (Builtin.SmallTypes.nextOf (.ref q.1) >>= _) _ _ _
      refine wpAny_bind (wpAny_nextOf_list_item (hr1 q List.mem_cons_self) (hl1 q mq) (Array.getElem?_eq_getElem (hk q mq)) fun h2 i2 b2 => wpAny_pure ?_)
      have hO2 : TupN h2 TO ((dn.map fun q => (xs q.2).getD k .none) ++ (o1 :: od2)) := (b2.2 _ (D.a4 q mq).2.2.symm).trans hO1
      dsimp only
      refine wpAny_bind (wpAny_seqItems hO2 rfl ?_)
      dsimp only
      refine wpAny_bind (wpAny_updateSeq hO2 rfl ?_ ?_ ?_)
      · refine wpAny_bind (wpAny_letGo (wpAny_pure ?_))
        have hv : (xs q.2)[k]'(hk q mq) = (xs q.2).getD k .none := by
          rw [Array.getD_eq_getD_getElem?, Array.getElem?_eq_getElem (hk q mq)]
          rfl
        have hnd := D.a5
        rw [e1, List.map_append, List.map_cons] at hnd
        obtain ⟨_, hnd2, hnd3⟩ := List.nodup_append.mp hnd
        have nd1 : ∀ p ∈ dn, p.1 ≠ q.1 := fun p m e => hnd3 p.1 (List.mem_map_of_mem m) q.1 List.mem_cons_self e
        have nd2 : ∀ p ∈ r, p.1 ≠ q.1 := fun p m e => (List.nodup_cons.mp hnd2).1 (by rw [← e]; exact List.mem_map_of_mem (f := (·.1)) m)
        have g3 := Heap.get?_update_self (Obj.mapSeq fun x => x.setIfInBounds dn.length ((xs q.2)[k]'(hk q mq))) hO2 rfl
        have b3 : Heap.SameBut TO h2 (h2.update TO (Obj.mapSeq fun x => x.setIfInBounds dn.length ((xs q.2)[k]'(hk q mq)))) := Heap.SameBut.update ..
        refine ⟨dn ++ [q], r, od2, _, by rw [e1, List.append_assoc]; rfl, by rw [List.length_append]; exact e4, rfl, rfl, ?_, hod2, ?_, ?_, ?_, ?_, ?_, ?_⟩
        · exact (b3.2 _ D.a2.symm).trans ((b2.2 _ (D.a4 q mq).1.symm).trans hz1)
        · refine g3.trans ?_
          rw [hv]
          simp [Obj.mapSeq]
        · intro p m
          rcases List.mem_append.mp m with m | m
          · have mp : p ∈ ps := by rw [e1]; exact List.mem_append_left _ m
            exact ((hd1 p m).extBut b2.extBut (nd1 p m)).extBut b3.extBut (D.a4 p mp).2.2
          · rw [List.mem_singleton.mp m]
            exact i2.extBut b3.extBut (D.a4 q mq).2.2
        · intro p m
          have mp : p ∈ ps := by rw [e1]; exact List.mem_append_right _ (List.mem_cons_of_mem _ m)
          exact ((hr1 p (List.mem_cons_of_mem _ m)).extBut b2.extBut (nd2 p m)).extBut b3.extBut (D.a4 p mp).2.2
        · intro p m
          exact ((hl1 p m).extBut b2.extBut ((D.a6 p m).2.2 q mq)).extBut b3.extBut (D.a6 p m).2.1
        · exact b3.1.trans (b2.1.trans hs1)
        · intro c c1 c2 c3
          exact (b3.2 c c2).trans ((b2.2 c (c3 q mq)).trans (hf1 c c1 c2 c3))
      · rw [List.size_toArray, List.length_append, List.length_map, List.length_cons, hod2]
        exact Nat.le_trans hlen (by decide)
      · rw [Array.size_setIfInBounds, List.size_toArray, List.length_append, List.length_map, List.length_cons, hod2]
        exact Nat.le_trans hlen (by decide)
  · rintro b st ⟨dn, rs, od, h1, e1, e2, rfl, rfl, hz1, hod, hO1, hd1, hr1, hl1, hs1, hf1⟩
    have ers : rs = [] := by
      cases rs with
      | nil => rfl
      | cons a b => cases e2
    subst ers
    have eod : od = [] := List.length_eq_zero_iff.mp hod
    subst eod
    rw [List.append_nil] at e1 hO1
    subst e1
    have hfin : (ps.map fun q => (xs q.2).getD k .none).length ≤ 900 := by
      rw [List.length_map]
      exact hn
    dsimp only
    refine wpAny_bind (wpAny_seqItems hO1 rfl ?_)
    dsimp only
    refine wpAny_bind (wpAny_newTuple ?_ (Nat.le_trans hfin (by decide)))
    have zlt : z < h1.objs.size := Heap.lt_size hz1
    show wpAny _ _ (Builtin.SmallTypes.ownedTupleHandOut (.ref z) (.ref h1.objs.size) >>= _) _ _ _
    refine wpAny_bind ?_
    unfold Builtin.SmallTypes.ownedTupleHandOut
    dsimp only
    have z6 : ZipF (h1.push { cls := .type "tuple", data := .seq (ps.map fun q => (xs q.2).getD k Value.none).toArray }) z TI TO .ellipsis f := Heap.get?_push_of_some _ hz1
    refine wpAny_bind (wpAny_setField_rec z6 (by simp) fun h7 z7 b7 => ?_)
    replace z7 : ZipF h7 z TI TO (rawInt h1.objs.size) f := z7
    refine wpAny_setField_rec z7 (by simp) fun h8 z8 b8 => ?_
    replace z8 : ZipF h8 z TI TO (rawInt h1.objs.size) false := z8
    have up : ∀ c o, c ≠ z → h1.get? c = some o → h8.get? c = some o := fun c o n e => b8.extBut _ _ n (b7.extBut _ _ n (Heap.get?_push_of_some _ e))
    have t8 : TupN h8 h1.objs.size (ps.map fun q => (xs q.2).getD k .none) := b8.extBut _ _ (Nat.ne_of_gt zlt) (b7.extBut _ _ (Nat.ne_of_gt zlt) (Heap.get?_push_size _ rfl))
    have s8 : h8.objs.size = s.heap.objs.size + 1 := by rw [b8.1, b7.1, Heap.size_push, hs1]
    refine wpAny_pure ⟨_, rfl, ?_⟩
    exact hQ h8 h1.objs.size hs1 z8 (up _ _ D.a2 hO1) (fun q m => (hd1 q m).at fun o e => up _ o (D.a4 q m).1 e) t8 s8 fun c o c1 c2 c3 e => up c o c1 ((hf1 c c1 c2 c3).trans e)
  · exact (b1.2 _ D.a2).trans hO
  · exact fun q m => (hi q m).extBut b1.extBut (D.a4 q m).1
  · exact fun q m => (hl q m).extBut b1.extBut (D.a6 q m).1
theorem next_free_end {f0 : Value} {f : Bool} {Q : Fin → Shared → Prop} (hh : A.handled = none) (ne : ps ≠ []) (D : ApN z TI TO ps) (hz : ZipF s.heap z TI TO f0 f) (hf : Fr0 s.heap f0) (hI : TupN s.heap TI (ps.map fun q => .ref q.1))
    (hi : ∀ q ∈ ps, s.heap.IsListIter q.1 q.2 k) (hl : ∀ q ∈ ps, s.heap.IsList q.2 (xs q.2)) (hk : ∀ q ∈ ps, (xs q.2).size ≤ k)
    (hE : ∀ h' e, (∀ c o, c ≠ z → (∀ q ∈ ps, c ≠ q.1) → s.heap.get? c = some o → h'.get? c = some o) → (∃ o, h'.get? e = some o ∧ o.cls = .type "StopIteration") → E (.ref e) { s with heap := h' }) :
    wpAny (model prog w) A (Builtin.«zip.__next__» ⟨[.ref z], []⟩) Q E s := by
  obtain ⟨q, r, rfl⟩ : ∃ q r, ps = q :: r := by
    cases ps with
    | nil => exact absurd rfl ne
    | cons a b => exact ⟨a, b, rfl⟩
  have mq : q ∈ q :: r := List.mem_cons_self
  show wpAny _ _ (field (.ref z) 2 >>= _) _ _ _
  refine wpAny_bind (wpAny_field hz rfl (x := .bool false) rfl ?_)
  show wpAny _ _ (field (.ref z) 3 >>= _) _ _ _
  refine wpAny_bind (wpAny_field hz rfl (x := .ref TI) rfl ?_)
  refine wpAny_bind (wpAny_seqItems hI rfl ?_)
  dsimp only
  rw [show ((q :: r).map fun q => Value.ref q.1).toArray.isEmpty = false from rfl, if_neg Bool.false_ne_true]
  refine wpAny_bind (free_true hz hf ?_)
  rw [if_pos rfl]
  refine wpAny_bind (wpAny_rule ?_)
  refine wpAny_bind (wpAny_field hz rfl (x := .ref TO) rfl ?_)
  dsimp only
  refine wpAny_bind (wpAny_setField_rec hz (by simp) fun g1 z1 b1 => ?_)
  replace z1 : ZipF g1 z TI TO .ellipsis f := z1
  refine wpAny_bind ?_
  rw [List.map_cons, List.zipIdx_cons, List.forIn_cons]
  refine wpAny_bind (wpAny_bind (wpAny_onRaise ?_))
  show wpAny _ _ (Builtin.SmallTypes.nextOf (.ref q.1) >>= _) _ _ _
  refine wpAny_bind (wpAny_nextOf_list_end hh ((hi q mq).extBut b1.extBut (D.a4 q mq).1) ((hl q mq).extBut b1.extBut (D.a6 q mq).1) (Array.getElem?_eq_none (hk q mq)) fun h2 e b2 he => ?_)
  obtain ⟨oe, hoe, hce⟩ := he
  have z2 : ZipF h2 z TI TO .ellipsis f := b2 _ _ (D.a4 q mq).1.symm z1
  have nez : e ≠ z := fun x => by
    subst x
    rw [z2] at hoe
    cases hoe
    simp at hce
  exact wpAny_setField_rec z2 (by simp) fun h3 _ b3 => hE h3 e (fun c o c1 c3 x => b3.extBut _ _ c1 (b2 _ _ (c3 q mq) (b1.extBut _ _ c1 x))) ⟨oe, b3.extBut _ _ nez hoe, hce⟩
theorem next_held {T : Addr} {f : Bool} {oT : Obj} {Q : Value → Shared → Prop} (ne : ps ≠ []) (hn : ps.length ≤ 900) (D : ApN z TI TO ps) (hz : IsZipHeld s.heap z TI TO T f) (hT : s.heap.get? T = some oT) (hI : TupN s.heap TI (ps.map fun q => .ref q.1))
    (hi : ∀ q ∈ ps, s.heap.IsListIter q.1 q.2 k) (hl : ∀ q ∈ ps, s.heap.IsList q.2 (xs q.2)) (hk : ∀ q ∈ ps, k < (xs q.2).size)
    (hQ : ∀ h' U, U = s.heap.objs.size → IsZipHeld h' z TI TO T true → (∀ q ∈ ps, h'.IsListIter q.1 q.2 (k + 1)) → TupN h' U (ps.map fun q => (xs q.2).getD k .none) → h'.objs.size = s.heap.objs.size + 1 →
      (∀ c o, c ≠ z → (∀ q ∈ ps, c ≠ q.1) → s.heap.get? c = some o → h'.get? c = some o) → Q (.ref U) { s with heap := h' }) :
    wpAny (model prog w) A (Builtin.«zip.__next__» ⟨[.ref z], []⟩) (fun fin s' => ∃ v, fin = .done (.ret v) ∧ Q v s') E s := by
  show wpAny _ _ (field (.ref z) 2 >>= _) _ _ _
  refine wpAny_bind (wpAny_field hz rfl (x := .bool false) rfl ?_)
  show wpAny _ _ (field (.ref z) 3 >>= _) _ _ _
  refine wpAny_bind (wpAny_field hz rfl (x := .ref TI) rfl ?_)
  refine wpAny_bind (wpAny_seqItems hI rfl ?_)
  dsimp only
  have hne : (ps.map fun q => Value.ref q.1).toArray.isEmpty = false := by
    cases ps with
    | nil => exact absurd rfl ne
    | cons q r => rfl
  rw [hne, if_neg Bool.false_ne_true]
  refine wpAny_bind (wpAny_tupleHeld_zip hz hT fun g1 z1 b1 => ?_)
  rw [if_neg Bool.false_ne_true]
  refine wpAny_bind ?_
  rw [← Array.forIn_toList]
  refine wpAny_forIn_list _ (fun (rest : List Value) (b : Option Fin × Array Value) (st : Shared) => ∃ (dn rs : List (Addr × Addr)) (h1 : Heap), ps = dn ++ rs ∧ rest = rs.map (fun q => Value.ref q.1) ∧ b = (none, (dn.map fun q => (xs q.2).getD k .none).toArray) ∧ st = { s with heap := h1 } ∧
      IsZipHeld h1 z TI TO T true ∧ (∀ q ∈ dn, h1.IsListIter q.1 q.2 (k + 1)) ∧ (∀ q ∈ rs, h1.IsListIter q.1 q.2 k) ∧ (∀ q ∈ ps, h1.IsList q.2 (xs q.2)) ∧ h1.objs.size = s.heap.objs.size ∧
      ∀ c, c ≠ z → (∀ q ∈ ps, c ≠ q.1) → h1.get? c = s.heap.get? c) _ ?_ ?_ _ _ ⟨[], ps, g1, rfl, rfl, rfl, rfl, z1, fun _ m => absurd m List.not_mem_nil, ?_, ?_, b1.1, fun c c1 _ => b1.2 c c1⟩
  · rintro x rest b st ⟨dn, rs, h1, e1, e2, rfl, rfl, hz1, hd1, hr1, hl1, hs1, hf1⟩
    cases rs with
    | nil => cases e2
    | cons q r =>
      have e3 : x = Value.ref q.1 := (List.cons.inj e2).1
      have e4 : rest = r.map fun q => Value.ref q.1 := (List.cons.inj e2).2
      subst e3
      have mq : q ∈ ps := by rw [e1]; simp
      have hnd := D.a5
      rw [e1, List.map_append, List.map_cons] at hnd
      obtain ⟨_, hnd2, hnd3⟩ := List.nodup_append.mp hnd
      have nd1 : ∀ p ∈ dn, p.1 ≠ q.1 := fun p m e => hnd3 p.1 (List.mem_map_of_mem m) q.1 List.mem_cons_self e
      have nd2 : ∀ p ∈ r, p.1 ≠ q.1 := fun p m e => (List.nodup_cons.mp hnd2).1 (by rw [← e]; exact List.mem_map_of_mem (f := (·.1)) m)
      refine wpAny_bind (wpAny_holding ?_)
      show wpAny _ _ (Builtin.SmallTypes.nextOf (.ref q.1) >>= _) _ _ _
      refine wpAny_bind (wpAny_nextOf_list_item (hr1 q List.mem_cons_self) (hl1 q mq) (Array.getElem?_eq_getElem (hk q mq)) fun h2 i2 b2 => wpAny_pure ?_)
      have hv : (xs q.2)[k]'(hk q mq) = (xs q.2).getD k .none := by
        rw [Array.getD_eq_getD_getElem?, Array.getElem?_eq_getElem (hk q mq)]
        rfl
      dsimp only
      refine wpAny_pure ⟨dn ++ [q], r, h2, by rw [e1, List.append_assoc]; rfl, e4, ?_, rfl, ?_, ?_, ?_, ?_, ?_, ?_⟩
      · rw [hv]
        simp
      · exact (b2.2 _ (D.a4 q mq).1.symm).trans hz1
      · intro p m
        rcases List.mem_append.mp m with m | m
        · exact (hd1 p m).extBut b2.extBut (nd1 p m)
        · rw [List.mem_singleton.mp m]
          exact i2
      · exact fun p m => (hr1 p (List.mem_cons_of_mem _ m)).extBut b2.extBut (nd2 p m)
      · exact fun p m => (hl1 p m).extBut b2.extBut ((D.a6 p m).2.2 q mq)
      · exact b2.1.trans hs1
      · exact fun c c1 c3 => (b2.2 c (c3 q mq)).trans (hf1 c c1 c3)
  · rintro b st ⟨dn, rs, h1, e1, e2, rfl, rfl, hz1, hd1, hr1, hl1, hs1, hf1⟩
    have ers : rs = [] := by
      cases rs with
      | nil => rfl
      | cons a b => cases e2
    subst ers
    rw [List.append_nil] at e1
    subst e1
    have hfin : (ps.map fun q => (xs q.2).getD k .none).length ≤ 900 := by
      rw [List.length_map]
      exact hn
    dsimp only
    refine wpAny_bind (wpAny_newTuple ?_ (Nat.le_trans hfin (by decide)))
    refine wpAny_pure ⟨_, rfl, ?_⟩
    exact hQ _ h1.objs.size hs1 (Heap.get?_push_of_some _ hz1) (fun q m => (hd1 q m).at fun o e => Heap.get?_push_of_some _ e) (Heap.get?_push_size _ rfl) (by show (h1.push _).objs.size = _; rw [Heap.size_push, hs1]) fun c o c1 c3 e => Heap.get?_push_of_some _ ((hf1 c c1 c3).trans e)
  · exact fun q m => (hi q m).extBut b1.extBut (D.a4 q m).1
  · exact fun q m => (hl q m).extBut b1.extBut (D.a6 q m).1
theorem next_held_end {T : Addr} {f : Bool} {oT : Obj} {Q : Fin → Shared → Prop} (hh : A.handled = none) (ne : ps ≠ []) (D : ApN z TI TO ps) (hz : IsZipHeld s.heap z TI TO T f) (hT : s.heap.get? T = some oT) (hI : TupN s.heap TI (ps.map fun q => .ref q.1))
    (hi : ∀ q ∈ ps, s.heap.IsListIter q.1 q.2 k) (hl : ∀ q ∈ ps, s.heap.IsList q.2 (xs q.2)) (hk : ∀ q ∈ ps, (xs q.2).size ≤ k)
    (hE : ∀ h' e, (∀ c o, c ≠ z → (∀ q ∈ ps, c ≠ q.1) → s.heap.get? c = some o → h'.get? c = some o) → (∃ o, h'.get? e = some o ∧ o.cls = .type "StopIteration") → E (.ref e) { s with heap := h' }) :
    wpAny (model prog w) A (Builtin.«zip.__next__» ⟨[.ref z], []⟩) Q E s := by
  obtain ⟨q, r, rfl⟩ : ∃ q r, ps = q :: r := by
    cases ps with
    | nil => exact absurd rfl ne
    | cons a b => exact ⟨a, b, rfl⟩
  have mq : q ∈ q :: r := List.mem_cons_self
  show wpAny _ _ (field (.ref z) 2 >>= _) _ _ _
  refine wpAny_bind (wpAny_field hz rfl (x := .bool false) rfl ?_)
  show wpAny _ _ (field (.ref z) 3 >>= _) _ _ _
  refine wpAny_bind (wpAny_field hz rfl (x := .ref TI) rfl ?_)
  refine wpAny_bind (wpAny_seqItems hI rfl ?_)
  dsimp only
  rw [show ((q :: r).map fun q => Value.ref q.1).toArray.isEmpty = false from rfl, if_neg Bool.false_ne_true]
  refine wpAny_bind (wpAny_tupleHeld_zip hz hT fun g1 z1 b1 => ?_)
  rw [if_neg Bool.false_ne_true]
  refine wpAny_bind ?_
  rw [← Array.forIn_toList, List.map_cons]
  show wpAny _ _ (forIn (Value.ref q.1 :: r.map fun q => Value.ref q.1) _ _) _ _ _
  rw [List.forIn_cons]
  refine wpAny_bind (wpAny_bind (wpAny_holding ?_))
  show wpAny _ _ (Builtin.SmallTypes.nextOf (.ref q.1) >>= _) _ _ _
  refine wpAny_bind (wpAny_nextOf_list_end hh ((hi q mq).extBut b1.extBut (D.a4 q mq).1) ((hl q mq).extBut b1.extBut (D.a6 q mq).1) (Array.getElem?_eq_none (hk q mq)) fun h2 e b2 he => ?_)
  exact hE h2 e (fun c o c1 c3 x => b2 _ _ (c3 q mq) (b1.extBut _ _ c1 x)) he
/-! ### one turn, whatever is handed out -/
def Gd0 (f0 : Value) : Prop := f0 = .none ∨ ∃ T : Addr, f0 = rawInt T
/-- the zip at z over the lists at the second places of ps, k turns behind it -/
def ZipAt (h : Heap) (z TI TO : Addr) (ps : List (Addr × Addr)) (k : Nat) : Prop :=
  (∃ f0 f, ZipF h z TI TO f0 f ∧ Gd0 f0) ∧ TupN h TI (ps.map fun q => .ref q.1) ∧ (∃ old, old.length = ps.length ∧ TupN h TO old) ∧ ∀ q ∈ ps, h.IsListIter q.1 q.2 k
theorem next_any {Q : Option Value → Shared → Prop} (ne : ps ≠ []) (hn : ps.length ≤ 900) (D : ApN z TI TO ps) (hz : ZipAt s.heap z TI TO ps k) (hl : ∀ q ∈ ps, s.heap.IsList q.2 (xs q.2)) (hk : ∀ q ∈ ps, k < (xs q.2).size)
    (hQ : ∀ h' U, U = s.heap.objs.size → ZipAt h' z TI TO ps (k + 1) → TupN h' U (ps.map fun q => (xs q.2).getD k .none) → h'.objs.size = s.heap.objs.size + 1 →
      (∀ c o, c ≠ z → c ≠ TO → (∀ q ∈ ps, c ≠ q.1) → s.heap.get? c = some o → h'.get? c = some o) → Q (some (.ref U)) { s with heap := h' }) : wpAny (model prog w) A (pyNext (.ref z)) Q E s := by
  obtain ⟨⟨f0, f, hzz, hg⟩, hI, ⟨old, hol, hO⟩, hi⟩ := hz
  have hTy : s.TypeIs (.ref z) "zip" := ⟨_, hzz, rfl⟩
  unfold pyNext
  have free : ∀ {B : Around} {E2 : Value → Shared → Prop}, Fr0 s.heap f0 → wpAny (model prog w) B (Builtin.«zip.__next__» ⟨[.ref z], []⟩) (fun fin s' => ∃ v, fin = .done (.ret v) ∧ wpAny (model prog w) A (pure (some v)) Q E s') E2 s := fun hf =>
    next_free ne hn D hzz hf hI hO hol hi hl hk fun h' U e1 e2 e3 e4 e5 e6 e7 => wpAny_pure (hQ h' U e1 ⟨⟨_, _, e2, .inr ⟨_, rfl⟩⟩, e7 _ _ D.a1 D.a3 (fun q m => (D.a4 q m).2.1.symm) hI, ⟨_, List.length_map _, e3⟩, e4⟩ e5 e6 e7)
  refine wpAny_bind (wpAny_attempt (wpAny_callSpecial?_slot (name := Str.ofString "__next__") hTy F.slot_zip_next (wpAny_call_entry F.slot_zip_next hTy F.entry_zip_next ?_ (F.args_zip_next_1 _))))
  rcases hg with rfl | ⟨T, rfl⟩
  · exact free (.inl rfl)
  · cases hT : s.heap.get? T with
    | none => exact free (.inr ⟨T, rfl, hT⟩)
    | some oT =>
      exact next_held ne hn D hzz hT hI hi hl hk fun h' U e1 e2 e4 e5 e6 e7 => wpAny_pure (hQ h' U e1 ⟨⟨_, _, e2, .inr ⟨_, rfl⟩⟩, e7 _ _ D.a1 (fun q m => (D.a4 q m).2.1.symm) hI, ⟨old, hol, e7 _ _ D.a2 (fun q m => (D.a4 q m).2.2.symm) hO⟩, e4⟩ e5 e6 fun c o c1 _ c3 e => e7 c o c1 c3 e)
theorem next_stop {Q : Option Value → Shared → Prop} (hh : A.handled = none) (ne : ps ≠ []) (D : ApN z TI TO ps) (hz : ZipAt s.heap z TI TO ps k) (hl : ∀ q ∈ ps, s.heap.IsList q.2 (xs q.2)) (hk : ∀ q ∈ ps, (xs q.2).size ≤ k)
    (hQ : ∀ h', (∀ c o, c ≠ z → (∀ q ∈ ps, c ≠ q.1) → s.heap.get? c = some o → h'.get? c = some o) → Q none { s with heap := h' }) : wpAny (model prog w) A (pyNext (.ref z)) Q E s := by
  obtain ⟨⟨f0, f, hzz, hg⟩, hI, _, hi⟩ := hz
  have hTy : s.TypeIs (.ref z) "zip" := ⟨_, hzz, rfl⟩
  unfold pyNext
  have out : ∀ (h' : Heap) (e : Addr), (∀ c o, c ≠ z → (∀ q ∈ ps, c ≠ q.1) → s.heap.get? c = some o → h'.get? c = some o) → (∃ o, h'.get? e = some o ∧ o.cls = .type "StopIteration") →
      wpAny (model prog w) A (do if (← isInstance (.ref e) (.type "StopIteration")) then pure none else throw (.ref e)) Q E { s with heap := h' } := fun h' e hk he => by
    obtain ⟨o, ho, hc⟩ := he
    refine wpAny_bind (wpAny_isInstance (T := "StopIteration") (b := true) ⟨o, ho, hc⟩ isSubtype_stop ?_)
    exact wpAny_pure (hQ h' hk)
  refine wpAny_bind (wpAny_attempt (wpAny_callSpecial?_slot (name := Str.ofString "__next__") hTy F.slot_zip_next (wpAny_call_entry F.slot_zip_next hTy F.entry_zip_next ?_ (F.args_zip_next_1 _))))
  rcases hg with rfl | ⟨T, rfl⟩
  · exact next_free_end hh ne D hzz (.inl rfl) hI hi hl hk out
  · cases hT : s.heap.get? T with
    | none => exact next_free_end hh ne D hzz (.inr ⟨T, rfl, hT⟩) hI hi hl hk out
    | some oT => exact next_held_end hh ne D hzz hT hI hi hl hk out
theorem go_zipN {tg : Expr} {U : Addr} {f0 : Value} {f : Bool} {Q : Unit → Shared → Prop} (hz : ZipF s.heap z TI TO f0 f) (hg : Gd0 f0) (hQ : ∀ h' f0', ZipF h' z TI TO f0' f → Gd0 f0' → Heap.SameBut z s.heap h' → Q () { s with heap := h' }) :
    wpAny (model prog w) A (letOwnedTupleGo tg (.ref z) (.ref U)) Q E s := by
  unfold letOwnedTupleGo
  cases tg <;> first
    | exact wpAny_pure (hQ s.heap f0 hz hg (Heap.SameBut.refl _ _))
    | (refine wpAny_bind (wpAny_load hz ?_)
       dsimp only
       split
       · refine wpAny_bind (wpAny_rule ?_)
         exact wpAny_setField_rec hz (by simp) fun h' hz' hs' => hQ h' .none hz' (.inl rfl) hs'
       · exact wpAny_pure (hQ s.heap f0 hz hg (Heap.SameBut.refl _ _)))
end
end My
namespace My
open PySem PySem.Spec PyProof.Rows L2
def zps : List Addr → Nat → List (Addr × Addr)
  | [], _ => []
  | l :: r, n => (n, l) :: zps r (n + 1)
theorem zps_app : ∀ (a b : List Addr) (n : Nat), zps (a ++ b) n = zps a n ++ zps b (n + a.length)
  | [], b, n => rfl
  | l :: a, b, n => by
    show _ :: zps (a ++ b) (n + 1) = _ :: (zps a (n + 1) ++ zps b (n + (a.length + 1)))
    rw [zps_app a b (n + 1), Nat.add_assoc, Nat.add_comm 1]
theorem zps_len : ∀ (a : List Addr) (n : Nat), (zps a n).length = a.length
  | [], _ => rfl
  | l :: a, n => congrArg Nat.succ (zps_len a (n + 1))
theorem zps_two : ∀ (a : List Addr) (n : Nat), (zps a n).map (·.2) = a
  | [], _ => rfl
  | l :: a, n => congrArg (l :: ·) (zps_two a (n + 1))
theorem zps_mem : ∀ {a : List Addr} {n : Nat} {q : Addr × Addr}, q ∈ zps a n → n ≤ q.1 ∧ q.1 < n + a.length ∧ q.2 ∈ a
  | [], n, q, m => absurd m List.not_mem_nil
  | l :: a, n, q, m => by
    rcases List.mem_cons.mp m with e | m
    · subst e
      exact ⟨Nat.le_refl _, Nat.lt_add_of_pos_right (Nat.succ_pos _), List.mem_cons_self⟩
    · obtain ⟨h1, h2, h3⟩ := zps_mem m
      refine ⟨Nat.le_of_succ_le h1, ?_, List.mem_cons_of_mem _ h3⟩
      show q.1 < n + (a.length + 1)
      rw [Nat.add_comm a.length, ← Nat.add_assoc]
      exact h2
theorem zps_nodup : ∀ (a : List Addr) (n : Nat), ((zps a n).map (·.1)).Nodup
  | [], _ => List.nodup_nil
  | l :: a, n => by
    refine List.nodup_cons.mpr ⟨fun m => ?_, zps_nodup a (n + 1)⟩
    obtain ⟨q, mq, e⟩ := List.mem_map.mp m
    have := (zps_mem mq).1
    rw [e] at this
    exact absurd this (Nat.not_succ_le_self n)
theorem zne {a b : Nat} (h : a < b) : a ≠ b := Nat.ne_of_lt h
theorem zps_ap {a : List Addr} {n : Nat} (hl : ∀ l ∈ a, l < n) : ApN (n + a.length + 2) (n + a.length) (n + a.length + 1) (zps a n) where
  a1 := Nat.ne_of_lt (by show n + a.length < n + a.length + 2; omega)
  a2 := Nat.ne_of_lt (by show n + a.length + 1 < n + a.length + 2; omega)
  a3 := Nat.ne_of_lt (by show n + a.length < n + a.length + 1; omega)
  a4 := fun q m => by
    have h := (zps_mem m).2.1
    exact ⟨zne (Nat.lt_of_lt_of_le h (by omega)), zne h, zne (Nat.lt_of_lt_of_le h (by omega))⟩
  a5 := zps_nodup a n
  a6 := fun q m => by
    have h := hl _ (zps_mem m).2.2
    exact ⟨zne (Nat.lt_of_lt_of_le h (by omega)), zne (Nat.lt_of_lt_of_le h (by omega)), fun r mr => zne (Nat.lt_of_lt_of_le h (zps_mem mr).1)⟩
section
variable {prog : Program} {w : World} {A : Around} {E : Value → Shared → Prop} {s : Shared} {ls : List Addr} {xs : Addr → Array Value}
theorem wp_iterAllN {Q : List Value → Shared → Prop} (hl : ∀ l ∈ ls, s.heap.IsList l (xs l)) (hQ : ∀ h', (∀ q ∈ zps ls s.heap.objs.size, h'.IsListIter q.1 q.2 0) → h'.objs.size = s.heap.objs.size + ls.length → (∀ c o, s.heap.get? c = some o → h'.get? c = some o) →
      Q ((zps ls s.heap.objs.size).map fun q => .ref q.1) { s with heap := h' }) : wpAny (model prog w) A (Builtin.SmallTypes.iterAll (ls.map .ref)) Q E s := by
  unfold Builtin.SmallTypes.iterAll
  refine wpAny_bind ?_
  refine wpAny_forIn_list _ (fun (rest : List Value) (b : Array Value) (st : Shared) => ∃ (dn rs : List Addr) (h1 : Heap), ls = dn ++ rs ∧ rest = rs.map .ref ∧ b = ((zps dn s.heap.objs.size).map fun q => Value.ref q.1).toArray ∧ st = { s with heap := h1 } ∧
      (∀ q ∈ zps dn s.heap.objs.size, h1.IsListIter q.1 q.2 0) ∧ h1.objs.size = s.heap.objs.size + dn.length ∧ ∀ c o, s.heap.get? c = some o → h1.get? c = some o) _ ?_ ?_ _ _ ⟨[], ls, s.heap, rfl, rfl, rfl, rfl, fun q m => absurd m List.not_mem_nil, rfl, fun _ _ e => e⟩
  · rintro x rest b st ⟨dn, rs, h1, e1, e2, rfl, rfl, hi, hs, hk⟩
    cases rs with
    | nil => cases e2
    | cons l r =>
      have e3 : x = Value.ref l := (List.cons.inj e2).1
      have e4 : rest = r.map Value.ref := (List.cons.inj e2).2
      subst e3
      have ml : l ∈ ls := by rw [e1]; simp
      have L : h1.IsList l (xs l) := (hl l ml).at fun o e => hk l o e
      refine wpAny_bind (wpAny_holding (wpAny_pyIter_list (s := { s with heap := h1 }) L ?_))
      refine wpAny_pure ⟨dn ++ [l], r, _, by rw [e1, List.append_assoc]; rfl, e4, ?_, rfl, ?_, ?_, ?_⟩
      · rw [zps_app, ← hs]
        simp [zps]
      · intro q m
        rw [zps_app] at m
        rcases List.mem_append.mp m with m | m
        · exact (hi q m).at fun o e => Heap.get?_push_of_some _ e
        · have e : q = (s.heap.objs.size + dn.length, l) := List.mem_singleton.mp m
          subst e
          rw [← hs]
          exact ⟨_, Heap.get?_push_size _ rfl, rfl, rfl⟩
      · show (h1.push _).objs.size = _
        rw [Heap.size_push, hs, List.length_append]
        rfl
      · exact fun c o e => Heap.get?_push_of_some _ (hk c o e)
  · rintro b st ⟨dn, rs, h1, e1, e2, rfl, rfl, hi, hs, hk⟩
    have ers : rs = [] := by
      cases rs with
      | nil => rfl
      | cons a b => cases e2
    subst ers
    rw [List.append_nil] at e1
    subst e1
    exact wpAny_pure (hQ h1 hi hs hk)
theorem wp_newClassZ {vs : List Value} {Q : Value × List Value → Shared → Prop} (h : Q (.type "zip", vs) s) : wpAny (model prog w) A (Builtin.SmallTypes.newClass "zip" ⟨.type "zip" :: vs, []⟩) Q E s := by
  have hsub := sub_zip
  unfold Builtin.SmallTypes.newClass
  wp_walk
  exact h
theorem meets_zipN (ls : List Addr) (xs : Addr → Array Value) : Meets (Builtin.«zip.__new__» ⟨.type "zip" :: ls.map .ref, []⟩) (fun _ R s => (∀ l ∈ ls, s.heap.IsList l (xs l)) ∧ ls.length ≤ 900 ∧
      ∀ h', ZipAt h' (s.heap.objs.size + ls.length + 2) (s.heap.objs.size + ls.length) (s.heap.objs.size + ls.length + 1) (zps ls s.heap.objs.size) 0 → (∀ c o, s.heap.get? c = some o → h'.get? c = some o) → R (.ok (.ret (.ref (s.heap.objs.size + ls.length + 2)))) { s with heap := h' }) :=
  .of_wp fun prog w A R s h => by
    obtain ⟨hl, hn, h⟩ := h
    unfold Builtin.«zip.__new__»
    refine wpAny_bind (wp_newClassZ ?_)
    show wpAny _ _ (Builtin.SmallTypes.iterAll _ >>= _) _ _ _
    refine wpAny_bind (wp_iterAllN hl fun h1 hi hs hk => ?_)
    have hz : (zps ls s.heap.objs.size).length = ls.length := zps_len _ _
    refine wpAny_bind (wpAny_newTuple (s := { s with heap := h1 }) ?_ (by rw [List.length_map, hz]; exact Nat.le_trans hn (by decide)))
    refine wpAny_bind (wpAny_newTuple ?_ (by rw [List.length_map, List.length_map, hz]; exact Nat.le_trans hn (by decide)))
    refine wpAny_bind ?_
    unfold Builtin.SmallTypes.newRecord
    refine wpAny_newObj_type ?_ (by show 5 ≤ _; decide)
    refine wpAny_pure ⟨_, rfl, ?_⟩
    have p1 : (h1.push { cls := .type "tuple", data := .seq ((zps ls s.heap.objs.size).map fun q => Value.ref q.1).toArray }).objs.size = s.heap.objs.size + ls.length + 1 := by rw [Heap.size_push, hs]
    have p2 : ((h1.push { cls := .type "tuple", data := .seq ((zps ls s.heap.objs.size).map fun q => Value.ref q.1).toArray }).push { cls := .type "tuple", data := .seq (((zps ls s.heap.objs.size).map fun q => Value.ref q.1).map fun _ => Value.none).toArray }).objs.size = s.heap.objs.size + ls.length + 2 := by rw [Heap.size_push, p1]
    have R2 := h (((h1.push { cls := .type "tuple", data := .seq ((zps ls s.heap.objs.size).map fun q => Value.ref q.1).toArray }).push { cls := .type "tuple", data := .seq (((zps ls s.heap.objs.size).map fun q => Value.ref q.1).map fun _ => Value.none).toArray }).push
      { cls := .type "zip", dict := none, data := .fields #[.none, .bool false, .bool false, .ref (s.heap.objs.size + ls.length), .ref (s.heap.objs.size + ls.length + 1)], slots := #[] })
      ⟨⟨.none, false, ?_, .inl rfl⟩, ?_, ⟨((zps ls s.heap.objs.size).map fun q => Value.ref q.1).map fun _ => Value.none, by rw [List.length_map, List.length_map], ?_⟩, fun q m => (hi q m).at fun o e => Heap.get?_push_of_some _ (Heap.get?_push_of_some _ (Heap.get?_push_of_some _ e))⟩
      fun c o e => Heap.get?_push_of_some _ (Heap.get?_push_of_some _ (Heap.get?_push_of_some _ (hk c o e)))
    · rw [← p2, ← p1, ← hs] at R2
      exact R2
    · rw [← p2]
      exact Heap.get?_push_size _ rfl
    · rw [← hs]
      exact Heap.get?_push_of_some _ (Heap.get?_push_of_some _ (Heap.get?_push_size _ rfl))
    · rw [← p1]
      exact Heap.get?_push_of_some _ (Heap.get?_push_size _ rfl)
theorem newCall_zipA {vs : List Value} (ne : vs ≠ []) : checkBuiltinCall "zip.__new__" ⟨.type "zip" :: vs, []⟩ = pure () := by
  match vs with
  | [] => exact absurd rfl ne
  | [a] => kernel_rfl
  | a :: b :: r => kernel_rfl
theorem typeCall_zipA (vs : List Value) : checkTypeCall "zip" ⟨vs, []⟩ = pure () := by kernel_rfl
theorem args_objectA (o : Value) (vs : List Value) : argsOk "object.__init__" ⟨o :: vs, []⟩ := by unfold argsOk; kernel_rfl
theorem call_zipN {Q : Value → Shared → Prop} (ne : ls ≠ []) (hn : ls.length ≤ 900) (hl : ∀ l ∈ ls, s.heap.IsList l (xs l))
    (h : ∀ h', ZipAt h' (s.heap.objs.size + ls.length + 2) (s.heap.objs.size + ls.length) (s.heap.objs.size + ls.length + 1) (zps ls s.heap.objs.size) 0 → (∀ c o, s.heap.get? c = some o → h'.get? c = some o) → Q (.ref (s.heap.objs.size + ls.length + 2)) { s with heap := h' }) :
    wpAny (model prog w) A (call (.type "zip") (ls.map .ref)) Q E s := by
  refine callType_new F.called_zip (by decide) (typeCall_zipA _) (newCall_zipA (by simpa using ne)) (fun obj => args_objectA obj _) F.entry_zip_new (meets_zipN ls xs) ⟨hl, hn, fun h' z k => ?_⟩
  obtain ⟨f0, f, hz, _⟩ := z.1
  exact ⟨⟨_, hz, rfl⟩, h h' z k⟩
end
end My
namespace My
open PySem PySem.Spec PyProof.Rows L2
/-- the lists as they stand at each turn, the items in new tuples; all of one length -/
def ItN (K : PySem.W.Frag) (as : List Addr) : It :=
  ⟨fun i H => ∃ xss : Addr → List V, (∀ a ∈ as, SqL K H a (xss a)) ∧ ∀ a ∈ as, i < (xss a).length,
    fun i H v H' => ∃ T vs, v = .ref T ∧ H T = none ∧ H' = upd H T (.tup vs) ∧ ∀ xss : Addr → List V, (∀ a ∈ as, SqL K H a (xss a)) → vs = as.map fun a => (xss a).getD i .non,
    fun i H => ∃ xss : Addr → List V, (∀ a ∈ as, SqL K H a (xss a)) ∧ ∀ a ∈ as, (xss a).length ≤ i⟩
theorem sqls {X : Cx} {pins : List (Addr × Obj)} {σ : L2.St} {H : Hp} {s : Shared} {as : List Addr} {xss : Addr → List V} (I : Inv X pins σ H s) (h : ∀ a ∈ as, SqL X.K H a (xss a)) :
    ∃ xs : Addr → Array Value, ∀ a ∈ as, s.heap.IsList a (xs a) ∧ Vals (xss a) (xs a).toList := by
  have h1 : ∀ a, ∃ x : Array Value, a ∈ as → s.heap.IsList a x ∧ Vals (xss a) x.toList := fun a => by
    by_cases m : a ∈ as
    · obtain ⟨its, rv, p, _⟩ := I.list (h a m)
      exact ⟨its.toArray, fun _ => ⟨p.isList, rv⟩⟩
    · exact ⟨#[], fun m' => absurd m' m⟩
  obtain ⟨f, hf⟩ := Classical.axiomOfChoice h1
  exact ⟨f, hf⟩
theorem zsz {vs : List V} {a : Array Value} (h : Vals vs a.toList) : a.size = vs.length := by
  rw [← Array.length_toList]
  exact h.length.symm
theorem vals_row {xss : Addr → List V} {xs : Addr → Array Value} {i : Nat} : ∀ {ps : List (Addr × Addr)}, (∀ q ∈ ps, Vals (xss q.2) (xs q.2).toList ∧ i < (xss q.2).length) → Vals (ps.map fun q => (xss q.2).getD i .non) (ps.map fun q => (xs q.2).getD i .none)
  | [], _ => .nil
  | q :: ps, h => by
    obtain ⟨h1, h2⟩ := h q List.mem_cons_self
    obtain ⟨u, hu, ru⟩ := h1.get (List.getElem?_eq_getElem h2)
    have e1 : (xss q.2).getD i .non = (xss q.2)[i] := by rw [List.getD_eq_getElem?_getD, List.getElem?_eq_getElem h2]; rfl
    have e2 : (xs q.2).getD i .none = u := by
      rw [Array.getD_eq_getD_getElem?, ← Array.getElem?_toList, hu]
      rfl
    show Vals ((xss q.2).getD i .non :: _) ((xs q.2).getD i .none :: _)
    rw [e1, e2]
    exact .cons ru (vals_row fun r m => h r (List.mem_cons_of_mem _ m))
theorem turn_zipN {P : Program} {w : World} {K : PySem.W.Frag} {tg : Expr} {z TI TO : Addr} {ps : List (Addr × Addr)} (ne : ps ≠ []) (hn : ps.length ≤ 900) (D : ApN z TI TO ps) :
    Turn P w K tg (ItN K (ps.map (·.2))) (z :: TI :: TO :: ps.map (·.1)) z (fun i h => ZipAt h z TI TO ps i) where
  mem := List.mem_cons_self
  obj := fun i h st c hc => by
    obtain ⟨⟨f0, f, hz, _⟩, hTI, ⟨old, _, hTO⟩, hi⟩ := st
    rcases List.mem_cons.mp hc with q | hc
    · rw [q]; exact ⟨_, hz, fun v q => nomatch q⟩
    rcases List.mem_cons.mp hc with q | hc
    · rw [q]; exact ⟨_, hTI, fun v q => nomatch q⟩
    rcases List.mem_cons.mp hc with q | hc
    · rw [q]; exact ⟨_, hTO, fun v q => nomatch q⟩
    obtain ⟨q, mq, rfl⟩ := List.mem_map.mp hc
    obtain ⟨o1, e1, _, d1⟩ := hi q mq
    exact ⟨o1, e1, fun v q => by rw [d1] at q; cases q⟩
  keep := fun i h h' st k => by
    obtain ⟨⟨f0, f, hz, g0⟩, hTI, ⟨old, ho, hTO⟩, hi⟩ := st
    exact ⟨⟨f0, f, k z (by simp) _ hz, g0⟩, k TI (by simp) _ hTI, ⟨old, ho, k TO (by simp) _ hTO⟩, fun q m => (hi q m).at fun o e => k q.1 (by
      refine List.mem_cons_of_mem _ (List.mem_cons_of_mem _ (List.mem_cons_of_mem _ ?_))
      exact List.mem_map_of_mem (f := (·.1)) m) o e⟩
  item := by
    intro X hP hw hK hc i pins s σ H E I hf st hg
    subst hP hw hK
    obtain ⟨xss, hq, hlt⟩ := hg
    have hq' : ∀ q ∈ ps, SqL X.K H q.2 (xss q.2) := fun q m => hq _ (List.mem_map_of_mem (f := (·.2)) m)
    have hlt' : ∀ q ∈ ps, i < (xss q.2).length := fun q m => hlt _ (List.mem_map_of_mem (f := (·.2)) m)
    obtain ⟨xs, hx⟩ := sqls I hq
    have hx' : ∀ q ∈ ps, s.heap.IsList q.2 (xs q.2) ∧ Vals (xss q.2) (xs q.2).toList := fun q m => hx _ (List.mem_map_of_mem (f := (·.2)) m)
    have ⟨⟨f00, f1, hz00, _⟩, _, _, _⟩ := st
    have hzl : z < s.heap.objs.size := Heap.lt_size hz00
    refine next_any (xs := xs) ne hn D st (fun q m => (hx' q m).1) (fun q m => ?_) fun h' U eU st' hT hsz hk => ?_
    · rw [zsz (hx' q m).2]
      exact hlt' q m
    obtain ⟨⟨f0, f, hz, g0⟩, hTI, ⟨old, ho, hTO⟩, hi⟩ := st'
    refine ⟨_, rfl, go_zipN (s := { s with heap := h' }) hz g0 fun h'' f0' hz'' g0' sb => ?_⟩
    subst eU
    have neU : s.heap.objs.size ≠ z := Nat.ne_of_gt hzl
    have hT2 : TupN h'' s.heap.objs.size (ps.map fun q => (xs q.2).getD i .none) := (sb.2 _ neU).trans hT
    have rv := vals_row (xss := xss) (xs := xs) (i := i) (ps := ps) fun q m => ⟨(hx' q m).2, hlt' q m⟩
    have new : ObjOk X.prog X.w (upd H s.heap.objs.size (.tup (ps.map fun q => (xss q.2).getD i .non))) h'' s.heap.objs.size (.tup (ps.map fun q => (xss q.2).getD i .non)) :=
      ⟨by rw [List.length_map]; exact Nat.le_trans hn (by decide), _, rv, ⟨_, hT2, rfl, _, rfl⟩⟩
    have I1 : Inv X pins σ (upd H s.heap.objs.size (.tup (ps.map fun q => (xss q.2).getD i .non))) { s with heap := h'' } :=
      I.turnedNew (t' := s.toks) (ch := z :: TI :: TO :: ps.map (·.1)) (fun c o hb q => (sb.2 c (fun e => hb (by rw [e]; exact List.mem_cons_self))).trans (hk c o (fun e => hb (by rw [e]; exact List.mem_cons_self)) (fun e => hb (by rw [e]; simp)) (fun r m e => hb (by
        rw [e]
        refine List.mem_cons_of_mem _ (List.mem_cons_of_mem _ (List.mem_cons_of_mem _ ?_))
        exact List.mem_map_of_mem (f := (·.1)) m)) q)) hf (Nat.le_refl _) new
    refine ⟨.ref s.heap.objs.size, _, I1, rfl, ⟨_, _, rfl, I.hok.fresh (Nat.le_refl _), rfl, fun xss2 h2 => ?_⟩, ⟨⟨f0', f, hz'', g0'⟩, (sb.2 _ D.a1).trans hTI, ⟨old, ho, (sb.2 _ D.a2).trans hTO⟩, fun q m => (hi q m).at fun o e => (sb.2 _ (D.a4 q m).1).trans e⟩, fun c hcm => ?_⟩
    · rw [List.map_map]
      refine List.map_congr_left fun q m => ?_
      show (xss q.2).getD i .non = (xss2 q.2).getD i .non
      rw [I.list_inj (h2 _ (List.mem_map_of_mem (f := (·.2)) m)) (hq' q m)]
    · have hlt2 : c < s.heap.objs.size := by
        obtain ⟨⟨f0, f, hz, g0⟩, hTI, ⟨old, ho, hTO⟩, hi⟩ := st
        rcases List.mem_cons.mp hcm with q | hc
        · rw [q]; exact hzl
        rcases List.mem_cons.mp hc with q | hc
        · rw [q]; exact Heap.lt_size hTI
        rcases List.mem_cons.mp hc with q | hc
        · rw [q]; exact Heap.lt_size hTO
        obtain ⟨q, mq, rfl⟩ := List.mem_map.mp hc
        obtain ⟨o1, e1, _⟩ := hi q mq
        exact Heap.lt_size e1
      rw [upd_ne (Nat.ne_of_lt hlt2)]
      exact (hf c hcm).1
  done := by
    intro X hP hw hK hc i pins s σ H E I hf st hg
    subst hP hw hK
    obtain ⟨xss, hq, hle⟩ := hg
    obtain ⟨xs, hx⟩ := sqls I hq
    have hx' : ∀ q ∈ ps, s.heap.IsList q.2 (xs q.2) ∧ Vals (xss q.2) (xs q.2).toList := fun q m => hx _ (List.mem_map_of_mem (f := (·.2)) m)
    refine next_stop (xs := xs) (I.ok.hd hc) ne D st (fun q m => (hx' q m).1) (fun q m => ?_) fun h' hk => ⟨rfl, I.turnedL (t' := s.toks) (ch := z :: TI :: TO :: ps.map (·.1)) (fun c o hb q =>
      hk c o (fun e => hb (by rw [e]; exact List.mem_cons_self)) (fun r m e => hb (by
        rw [e]
        refine List.mem_cons_of_mem _ (List.mem_cons_of_mem _ (List.mem_cons_of_mem _ ?_))
        exact List.mem_map_of_mem (f := (·.1)) m)) q) hf⟩
    rw [zsz (hx' q m).2]
    exact hle _ (List.mem_map_of_mem (f := (·.2)) m)
  self := fun A i s Q E st h => by
    obtain ⟨⟨f0, f, hz, _⟩, _⟩ := st
    have hT : s.TypeIs (.ref z) "zip" := ⟨_, hz, rfl⟩
    refine wpAny_pyIter_slot hT F.slot_zip_iter (wpAny_call_entry F.slot_zip_iter hT F.entry_zip_iter ?_ (F.args_zip_iter_1 _))
    show wpAny _ _ (ret (.ref z)) _ _ s
    exact wpAny_pure ⟨_, rfl, "zip", _, hT, F.slot_zip_next.lookup, h⟩
theorem vals_refs : ∀ {as : List Addr} {us : List Value}, Vals (as.map V.ref) us → us = as.map Value.ref
  | [], _, .nil => rfl
  | a :: as, _, .cons r t => by
    cases r
    rw [vals_refs t]
    rfl
/-- the call of zip on lists -/
theorem zipN_made {X : Cx} {pins : List (Addr × Obj)} {σ : L2.St} {H : Hp} {s : Shared} {as : List Addr} {us : List Value} {tg : Expr} {R : It → Hp → Prop} {xss : Addr → List V} (I : Inv X pins σ H s) (ne : as ≠ []) (hn : as.length ≤ 900) (rv : Vals (as.map V.ref) us) (hq : ∀ a ∈ as, SqL X.K H a (xss a)) (q : R (ItN X.K as) H) :
    wpAny (model X.prog X.w) X.A (call (.type "zip") us) (fun v s1 => wpAny (model X.prog X.w) X.A (pyIter v) (PIE X pins σ tg R) X.xe s1) X.xe s := by
  rw [vals_refs rv]
  obtain ⟨xs, hx⟩ := sqls I hq
  have hlt : ∀ l ∈ as, l < s.heap.objs.size := fun l m => by
    obtain ⟨o, ho, _⟩ := (hx l m).1
    exact Heap.lt_size ho
  have nez : zps as s.heap.objs.size ≠ [] := fun e => ne (by rw [← zps_two as s.heap.objs.size, e]; rfl)
  have hnz : (zps as s.heap.objs.size).length ≤ 900 := by rw [zps_len]; exact hn
  refine call_zipN (xs := xs) ne hn (fun l m => (hx l m).1) fun h' st hk => ?_
  have T := turn_zipN (P := X.prog) (w := X.w) (K := X.K) (tg := tg) nez hnz (zps_ap hlt)
  rw [zps_two] at T
  refine T.self _ 0 _ _ _ st ?_
  have I2 : Inv X pins σ H { s with heap := h' } := I.kept (t' := s.toks) hk
  refine ⟨_, _, _, _, H, rfl, I2, T, st, fun c hcm => ?_, q⟩
  have hle : s.heap.objs.size ≤ c := by
    rcases List.mem_cons.mp hcm with q | hc
    · rw [q]; exact Nat.le_trans (Nat.le_add_right _ _) (Nat.le_add_right _ _)
    rcases List.mem_cons.mp hc with q | hc
    · rw [q]; exact Nat.le_add_right _ _
    rcases List.mem_cons.mp hc with q | hc
    · rw [q]; exact Nat.le_trans (Nat.le_add_right _ _) (Nat.le_add_right _ _)
    obtain ⟨q, mq, rfl⟩ := List.mem_map.mp hc
    exact (zps_mem mq).1
  exact I.fpOk hle (I.hok.fresh hle)
def iZipN (K : PySem.W.Frag) (ta : TA) : TI := fun σ H R => ta σ H fun vs H1 => ∃ (as : List Addr) (xss : Addr → List V), vs = as.map V.ref ∧ as ≠ [] ∧ as.length ≤ 900 ∧ (∀ a ∈ as, SqL K H1 a (xss a)) ∧ R (ItN K as) H1
theorem pi_zipN {X : Cx} {tg e : Expr} {es : List Expr} {ta : TA} {p pos : Pos} (hg : Gl X "zip") (hm : X.mg "zip" = none) (ha : PA X (e :: es) ta)
    (hs : starEach (e :: es) X.env = (false, eval e X.env) :: starEach es X.env := by rfl) (hpl : (backTo pos (starEach es X.env)).any (·.1) = false := by rfl) :
    PI X tg (.Call (.Name "zip" p) (e :: es) [] pos) (iZipN X.K ta) := by
  refine ⟨fun pins s σ H R I h => ?_⟩
  refine Call_ (ld_blt I hg hm PyProof.Rows.boot_zip (PyProof.Rows.callWith_type1 (thn (ha.run pos pins s σ H _ I h) fun us s1 ⟨vs, H1, I1, r1, q1⟩ => ?_) hs hpl))
  obtain ⟨as, xss, rfl, ne, hn, hq, q⟩ := q1
  exact zipN_made I1 ne hn r1 hq q
/-- zip(*rows) -/
def iZipS (K : PySem.W.Frag) (te : TE) : TI := fun σ H R => te σ H fun x H1 => ∃ (p : Addr) (as : List Addr) (xss : Addr → List V), x = .ref p ∧ (SqT K H1 p (as.map V.ref) ∨ SqL K H1 p (as.map V.ref)) ∧ as ≠ [] ∧ as.length ≤ 900 ∧ (∀ a ∈ as, SqL K H1 a (xss a)) ∧ R (ItN K as) H1
theorem pi_zipS {X : Cx} {tg e : Expr} {te : TE} {p p2 pos : Pos} (hg : Gl X "zip") (hm : X.mg "zip" = none) (he : PE X e te)
    (hs : starEach [.Starred e p2] X.env = [(true, eval e X.env)] := by rfl) :
    PI X tg (.Call (.Name "zip" p) [.Starred e p2] [] pos) (iZipS X.K te) := by
  refine ⟨fun pins s σ H R I h => ?_⟩
  refine Call_ (ld_blt I hg hm PyProof.Rows.boot_zip ?_)
  rw [hs]
  refine PySem.W.ks_call (P := fun _ => True) rfl (fun h _ => ⟨.machine, .inr (.inl rfl), PySem.W.Looks.of_pure rfl⟩) (PySem.W.ks_lone ?_)
  refine thn (he.run pins s σ H _ I h) fun v s1 ⟨x, H1, I1, r1, q1⟩ => ?_
  obtain ⟨pa, as, xss, rfl, hx, ne, hn, hq, q⟩ := q1
  obtain rfl : v = Value.ref pa := r1
  exact StX.star_any I1 hx fun us s2 I2 rv => ⟨trivial, zipN_made I2 ne hn rv hq q⟩
end My
namespace My
open PySem PySem.Spec PyProof.Rows L2
theorem walk_zipN {K : PySem.W.Frag} {as : List Addr} {xss : Addr → List V} {n : Nat} (hl : ∀ a ∈ as, (xss a).length = n) :
    Walk (ItN K as) n (fun H => ∀ a ∈ as, SqL K H a (xss a)) (fun i H v H' => ∃ T, v = .ref T ∧ H T = none ∧ H' = upd H T (.tup (as.map fun a => (xss a).getD i .non))) :=
  ⟨fun i H hi q => ⟨xss, q, fun a m => by rw [hl a m]; exact hi⟩, fun H q => ⟨xss, q, fun a m => by rw [hl a m]; exact Nat.le_refl _⟩, fun i H v H' _ q y => by
    obtain ⟨T, vs, h1, h2, h3, h4⟩ := y
    exact ⟨T, h1, h2, by rw [h3, h4 xss q]⟩⟩
end My
namespace My
open PySem PySem.Spec PyProof.Rows L2
/-! ### dict comprehensions whose keys are tuples -/
/-- key, value, the dict, the heap: what is asked so that the pair may be put in -/
abbrev TPut := V → V → Addr → Hp → (Hp → Prop) → Prop
def putT : TPut := fun y z D G N => ∃ (kvs : List (List Key × V)) (ks : List Key) (b : Addr), y = .ref b ∧ G D = some (.dT kvs) ∧ G b = some (.tup (ks.map kV)) ∧ kvs.length < sizeLine ∧ N (upd G D (.dT (putK kvs ks z)))
theorem put_in {Y : Cx} {ps : List (Addr × Obj)} {τ : L2.St} {G : Hp} {sh : Shared} {EE : Value → Shared → Prop} {D : Addr} {y z : V} {uy uz : Value} {N : Hp → Prop} {QQ : Unit → Shared → Prop} (room : Y.A.units < cLine)
    (inv : Inv Y ps τ G sh) (ry : RelV y uy) (rz : RelV z uz) (wish : putT y z D G N) (go : ∀ sh' G', Inv Y ps τ G' sh' → N G' → QQ () sh') : wpAny (model Y.prog Y.w) Y.A (dictSet D uy uz) QQ EE sh := by
  obtain ⟨kvs, ks, b, rfl, eD, eb, few, n⟩ := wish
  obtain rfl : uy = Value.ref b := ry
  obtain ⟨_, nosys, xs, same, dd⟩ := dt_of inv.hok eD
  have lx : xs.length ≤ sizeLine := by
    have := Paired.length same
    omega
  have lp := length_putK kvs ks z
  refine wpAny_dictSet_heap (hsz := lx) room (key_of inv.hok eb) dd fun hp' stands but => go _ _ ?_ n
  obtain ⟨ob, ents, ep, g1, g2, g3, g4, _, g5⟩ := stands
  have lay : KT (upd G D (.dT (putK kvs ks z))) (putK kvs ks z) (storedH xs ks b uz) := (same.put ks eb rz).keeps fun c ys ec => by
    rw [upd_ne (ne_of ec eD (fun q => nomatch q))]
    exact ec
  exact d_write inv (by rw [eD]; exact True.intro) but ⟨ob, g1⟩ ⟨by omega, nosys, _, lay, ob, ents, ep, g1, g2, g3, g4, g5⟩
/-- {k: v for target in iter if ..}, the keys tuples: D the new dict -/
def tDcT (wi : TI) (g : TG) (tt : TT) (tk tv : TE) (vs : List Nat) : TE := fun σ G Q => wi σ G fun J G1 => ∀ D, G1 D = none → ∃ W : Nat → Nat → Hp → Prop, (∃ m, W 0 m (upd G1 D (.dT []))) ∧ ∀ i m G2, W i m G2 →
  (J.stop i G2 ∧ Q (.ref D) G2) ∨ (J.go i G2 ∧ ∃ N : Hp → Prop, (∀ G', N G' → ∃ m', m' < m ∧ W (i + 1) m' G') ∧ ∀ x G', J.yld i G2 x G' → g x (wipe σ vs) G' fun τ G3 => wipe τ vs = wipe σ vs ∧ tt τ G3 fun b G4 =>
    if b = true then tk τ G4 fun y G5 => tv τ G5 fun z G6 => putT y z D G6 N else N G4)
section
variable {X : Cx}
theorem dcT_core {pins : List (Addr × Obj)} {s : Shared} {σ : L2.St} {H : Hp} {Q : VK} {kx vx tg src : Expr} {ifs : List Expr} {sc : Scope} {own : List (Str × Nat)} {pos at_ : Pos} {wi : TI} {g : TG} {tt : TT} {tk tv : TE} {use : Option (Value → Sem Unit)} {Qf : Value → Shared → Prop}
    (calm : X.calm = true) (room : X.A.units < cLine) (nd : X.N.Nodup) (I : Inv X pins σ H s) (walks : PI X tg src wi) (blk : BlkOk X.N X.env.scope sc own)
    (hg : ∀ (z : Shared) (G : Hp) (C : Addr) (cl : List (Str × Addr)) (fp : List Addr), PG (X.blk z G sc (compEnvC sc cl C X.env) fp) tg g) (ht : ∀ (z : Shared) (G : Hp) (C : Addr) (cl : List (Str × Addr)) (fp : List Addr), PTs (X.blk z G sc (compEnvC sc cl C X.env) fp) ifs tt)
    (hk : ∀ (z : Shared) (G : Hp) (C : Addr) (cl : List (Str × Addr)) (fp : List Addr), PE (X.blk z G sc (compEnvC sc cl C X.env) fp) kx tk) (hv : ∀ (z : Shared) (G : Hp) (C : Addr) (cl : List (Str × Addr)) (fp : List Addr), PE (X.blk z G sc (compEnvC sc cl C X.env) fp) vx tv)
    (plain : ∀ x, foldedSetIterable src X.env x = pure x) (h : tDcT wi g tt tk tv (own.map (·.2)) σ H Q)
    (back : ∀ D C z m G, Inv X pins σ G z → Q (.ref D) G → z.heap.Ns C m → FpOk X pins G C → compPost (model X.prog X.w) X.A X.xe use Qf (.ref D) C (.ok .next) z) :
    wpAny (model X.prog X.w) X.A (comprehension (.DictComp kx vx [⟨tg, src, ifs, 0⟩] sc pos) sc X.env at_ newDict false (eval src X.env) use) Qf X.xe s := by
  have clo : ∀ y ∈ sc.names, y.2 = .free → ∃ c, X.env.cells.lookup y.1 = some c := fun y hy e => (blk.free y hy e).elim (fun k => I.ok.has _ (.inl k)) fun k => I.ok.has _ (.inr k)
  refine wpAny_comprehension_free (use := use) rfl plain (closure_ok clo) blk.kind (fun y hy e => by rw [blk.uniq y hy, e]) (thn (walks.run pins s σ H _ I h) fun xv sa ha => thn ha fun itv sb hb => ?_)
  obtain ⟨it, fp, tn, J, Hb, rfl, Ib, T, tb, fb, ask⟩ := hb
  refine wpAny_newObj_type (newEnv_comp ?_)
  have youngD : Hb sb.heap.objs.size = none := Ib.hok.fresh (Nat.le_refl _)
  obtain ⟨W, ⟨m0, w0⟩, turn⟩ := ask sb.heap.objs.size youngD
  generalize eD : sb.heap.objs.size = D at youngD w0 turn
  obtain ⟨sc0, esc0⟩ : ∃ z : Shared, z = { sb with heap := sb.heap.push { cls := .type "dict", data := .dict #[] } } := ⟨_, rfl⟩
  have hpc : sc0.heap = sb.heap.push { cls := .type "dict", data := .dict #[] } := congrArg Shared.heap esc0
  have older : ∀ b o, sb.heap.get? b = some o → sc0.heap.get? b = some o := fun b o e => hpc ▸ Heap.get?_push_of_some _ e
  obtain ⟨Hc, eHc⟩ : ∃ G : Hp, G = upd Hb D (.dT []) := ⟨_, rfl⟩
  have Ic : Inv X pins σ Hc sc0 := by
    subst esc0 eHc eD
    exact Ib.laid (t' := sb.toks) (fun b o e => Heap.get?_push_of_some _ e) (Nat.le_refl _) (dt_empty sb.heap Ib.big)
  have inside : ∀ b ∈ fp, b < sb.heap.objs.size := fun b hb => (T.obj _ _ tb b hb).elim fun o q => Heap.lt_size q.1
  have okc : ∀ b ∈ fp, FpOk X pins Hc b ∧ b < sc0.heap.objs.size := fun b hb => by
    have lt := inside b hb
    have nb : b ≠ D := eD ▸ Nat.ne_of_lt lt
    exact ⟨⟨by rw [eHc, upd_ne nb]; exact (fb b hb).1, (fb b hb).2⟩, by rw [hpc, Heap.size_push]; exact Nat.lt_succ_of_lt lt⟩
  have tc : tn 0 sc0.heap := T.keep _ _ _ tb fun b _ o e => older b o e
  have Id := block_start Ic blk nd okc
  rw [← eHc] at w0
  obtain ⟨cl, ecl⟩ : ∃ c, c = cellsFrom (sc0.heap.objs.size + 1) sc.names (cloFrom X.env.cells sc.names []) := ⟨_, rfl⟩
  rw [← ecl] at Id
  obtain ⟨ce, ece⟩ : ∃ c, c = compEnvC sc cl sc0.heap.objs.size X.env := ⟨_, rfl⟩
  have g0 := hg sc0 Hc sc0.heap.objs.size cl fp
  have t0 := ht sc0 Hc sc0.heap.objs.size cl fp
  have k0 := hk sc0 Hc sc0.heap.objs.size cl fp
  have v0 := hv sc0 Hc sc0.heap.objs.size cl fp
  rw [← ece] at Id g0 t0 k0 v0
  have locs : ce.locals = sc0.heap.objs.size := by rw [ece]; rfl
  obtain ⟨sd, esd⟩ : ∃ z : Shared, z = { sc0 with heap := pushCells (sc0.heap.push { cls := .type "dict", data := .dict #[] }) sc.names } := ⟨_, rfl⟩
  rw [← esd] at Id
  have td : tn 0 sd.heap := T.keep _ _ _ tc fun b _ o e => by rw [esd]; exact pushCells_keeps _ _ _ _ (Heap.get?_push_of_some _ e)
  have noFp : ∀ b ∈ fp, Hc b = none := fun b hb => (okc b hb).1.1
  have still : ∀ {τ : L2.St} {G : Hp} {z : Shared}, Inv (X.blk sc0 Hc sc ce fp) [] τ G z → (∀ b ∈ fp, G b = none) → ∀ b ∈ fp, FpOk (X.blk sc0 Hc sc ce fp) [] G b := fun {τ G z} J0 no b hb =>
    ⟨no b hb, (J0.ok.exf b hb).1, J0.ok.exfs b hb, .inl hb, fun x c e => (J0.ok.exf b hb).2 x c e, fun p hp => absurd (show p ∈ ([] : List (Addr × Obj)) ++ [] from hp) (by simp)⟩
  suffices loop : codeAny (model X.prog X.w) X.A (.compLoop (.DictComp kx vx [⟨tg, src, ifs, 0⟩] sc pos) 0 (.ref it) (.ref D) ce) (compPost (model X.prog X.w) X.A X.xe use Qf (.ref D) sc0.heap.objs.size) sd by
    have fin := codeAny_compStart_dict loop (T.self X.A 0 _ _ _ td loop)
    subst ece ecl esd eHc esc0 eD
    exact fin
  refine compLoop_anyD (fun n z => ∃ i G, Inv (X.blk sc0 Hc sc ce fp) [] (wipe σ (own.map (·.2))) G z ∧ tn i z.heap ∧ (∀ b ∈ fp, G b = none) ∧ W i n G) ?_ m0 ⟨0, Hc, Id, td, noFp, w0⟩
  rintro n z1 ⟨i, G1, I1, t1, n1, w1⟩
  rcases turn i n G1 w1 with ⟨stop, over⟩ | ⟨goes, N, dec, step⟩
  · refine thnF (T.done (X.blk sc0 Hc sc ce fp) rfl rfl rfl calm i [] z1 _ G1 (fun _ _ => False) I1 (still I1 n1) t1 stop) fun r z2 ⟨er, I2⟩ => ?_
    subst er
    have Iz : Inv X pins σ G1 z2 := Ic.call' (ch := fp) I2.os I2.base I2.hok I2.bare fun b hb => ⟨(okc b hb).1.2.2.2.1, (okc b hb).1.2.1, (okc b hb).1.2.2.2.2.1, (okc b hb).1.2.2.2.2.2⟩
    have noC : G1 sc0.heap.objs.size = none := locs ▸ (show G1 ce.locals = none from I2.free)
    obtain ⟨m, hns, _⟩ := I2.loc
    exact back D sc0.heap.objs.size z2 m G1 Iz over (locs ▸ (show z2.heap.Ns ce.locals m from hns)) (Ic.fpOk (Nat.le_refl _) noC)
  · refine thnF (T.item (X.blk sc0 Hc sc ce fp) rfl rfl rfl calm i [] z1 _ G1 (fun _ _ => False) I1 (still I1 n1) t1 goes) fun r z2 ⟨u, er, h2⟩ => ?_
    subst er
    refine thnF h2 fun _ z3 ⟨x, G3, I3, r3, y3, t3, n3⟩ => ?_
    have I3p := I3.pinned (still I3 n3) (T.obj _ _ t3)
    refine thnF (g0.run _ z3 _ G3 x u _ I3p r3 (step x G3 y3)) fun _ z4 ⟨τ, G4, I4, wp, h4⟩ => ?_
    refine thnF (t0.run _ z4 τ G4 _ I4 h4) fun b z5 ⟨G5, I5, h5⟩ => ?_
    have next : ∀ {z : Shared} {G : Hp}, Inv (X.blk sc0 Hc sc ce fp) ([] ++ pinsAt fp z3.heap) τ G z → N G → ∃ m, m < n ∧ ∃ j G', Inv (X.blk sc0 Hc sc ce fp) [] (wipe σ (own.map (·.2))) G' z ∧ tn j z.heap ∧ (∀ b ∈ fp, G' b = none) ∧ W j m G' := fun {z G} J0 nx => by
      obtain ⟨m', lt, w2⟩ := dec G nx
      have held : ∀ b ∈ fp, ∀ o, z3.heap.get? b = some o → z.heap.get? b = some o ∧ G b = none := fun b hb o e => by
        have q := J0.pin (b, o) (List.mem_append_right _ (List.mem_append_right _ (mem_pinsAt hb e)))
        exact ⟨q.1, q.2.1⟩
      refine ⟨m', lt, i + 1, G, (J0.unpinned (pins := [])).weak (by rw [← wp, wipe_length]) (fun j v e => (wipe_some (wp.symm ▸ e)).1), T.keep _ _ _ t3 fun b hb o e => (held b hb o e).1, fun b hb => ?_, w2⟩
      obtain ⟨o, e, _⟩ := T.obj _ _ t3 b hb
      exact (held b hb o e).2
    have h5 : if b = true then (tk τ G5 fun y G6 => tv τ G6 fun z G7 => putT y z D G7 N) else N G5 := h5
    by_cases yes : b = true
    · subst yes
      rw [if_pos rfl] at h5 ⊢
      refine thnF (k0.run _ z5 τ G5 _ I5 h5) fun uk z6 ⟨yk, G6, I6, r6, h6⟩ => ?_
      refine thnF (v0.run _ z6 τ G6 _ I6 h6) fun uv z7 ⟨yv, G7, I7, r7, h7⟩ => ?_
      exact put_in (Y := X.blk sc0 Hc sc ce fp) room I7 r6 r7 h7 fun z8 G8 I8 nx => next I8 nx
    · rw [if_neg yes] at h5 ⊢
      exact next I5 h5
theorem pe_dcT {kx vx tg src : Expr} {ifs : List Expr} {sc : Scope} {own : List (Str × Nat)} {pos : Pos} {wi : TI} {g : TG} {tt : TT} {tk tv : TE} (calm : X.calm = true) (room : X.A.units < cLine) (nd : X.N.Nodup) (walks : PI X tg src wi) (blk : BlkOk X.N X.env.scope sc own)
    (hg : ∀ (z : Shared) (G : Hp) (C : Addr) (cl : List (Str × Addr)) (fp : List Addr), PG (X.blk z G sc (compEnvC sc cl C X.env) fp) tg g) (ht : ∀ (z : Shared) (G : Hp) (C : Addr) (cl : List (Str × Addr)) (fp : List Addr), PTs (X.blk z G sc (compEnvC sc cl C X.env) fp) ifs tt)
    (hk : ∀ (z : Shared) (G : Hp) (C : Addr) (cl : List (Str × Addr)) (fp : List Addr), PE (X.blk z G sc (compEnvC sc cl C X.env) fp) kx tk) (hv : ∀ (z : Shared) (G : Hp) (C : Addr) (cl : List (Str × Addr)) (fp : List Addr), PE (X.blk z G sc (compEnvC sc cl C X.env) fp) vx tv)
    (plain : ∀ x, foldedSetIterable src X.env x = pure x := by intro _; rfl) : PE X (.DictComp kx vx [⟨tg, src, ifs, 0⟩] sc pos) (tDcT wi g tt tk tv (own.map (·.2))) := by
  refine ⟨fun pins s σ H Q I h => ?_⟩
  rw [arm_eval_DictComp]
  refine dcT_core calm room nd I walks blk hg ht hk hv plain h fun D C z m G J0 q ns fp => ⟨m, ns, fun hp gone => ?_⟩
  exact ⟨.ref D, G, J0.turned (t' := z.toks) (fun b o hb e => (gone.2 b hb).trans e) fp.1 fp.2.1 fp.2.2.2.1 fp.2.2.2.2.1 fp.2.2.2.2.2, rfl, q⟩
end
end My
namespace My
open PySem PySem.Spec PyProof.Rows L2
section
variable {J : It} {n : Nat} {G : Hp → Prop} {Y : Nat → Hp → V → Hp → Prop}
/-- over a walk, no test: P by the turn and the heap -/
theorem dcT_it (w : Walk J n G Y) {g : TG} {tk tv : TE} {vs : List Nat} {σ : L2.St} {H1 : Hp} {D : Addr} {Qd : Hp → Prop} (P : Nat → Hp → Prop) (h0 : P 0 (upd H1 D (.dT []))) (hG : ∀ i H, i ≤ n → P i H → G H)
    (turn : ∀ i x H H', i < n → P i H → Y i H x H' → g x (wipe σ vs) H' fun τ H2 => wipe τ vs = wipe σ vs ∧ tk τ H2 fun y H3 => tv τ H3 fun z H4 => putT y z D H4 (P (i + 1))) (hd : ∀ H, P n H → Qd H) :
    ∃ W : Nat → Nat → Hp → Prop, (∃ m, W 0 m (upd H1 D (.dT []))) ∧ ∀ i m G2, W i m G2 →
      (J.stop i G2 ∧ Qd G2) ∨ (J.go i G2 ∧ ∃ N : Hp → Prop, (∀ G', N G' → ∃ m', m' < m ∧ W (i + 1) m' G') ∧ ∀ x G', J.yld i G2 x G' → g x (wipe σ vs) G' fun τ G3 => wipe τ vs = wipe σ vs ∧ tYes τ G3 fun b G4 =>
        if b = true then tk τ G4 fun y G5 => tv τ G5 fun z G6 => putT y z D G6 N else N G4) := by
  refine ⟨fun i m H => i ≤ n ∧ m = n - i ∧ P i H, ⟨n, Nat.zero_le _, rfl, h0⟩, ?_⟩
  rintro i m H ⟨hi, rfl, p⟩
  rcases Nat.lt_or_ge i n with lt | ge
  · refine .inr ⟨w.goes i H lt (hG i H hi p), P (i + 1), fun H' q => ⟨n - (i + 1), by omega, lt, rfl, q⟩, fun x H' y => ?_⟩
    exact turn i x H H' lt p (w.yields i H x H' lt (hG i H hi p) y)
  · obtain rfl : i = n := by omega
    exact .inl ⟨w.stops H (hG i H hi p), hd H p⟩
end
end My
namespace My
open PySem PySem.Spec PyProof.Rows L2
section
variable {J J1 : It} {n n1 : Nat} {G G1 : Hp → Prop} {Y Y1 : Nat → Hp → V → Hp → Prop}
/-- the outer walk of a comprehension with two for, no test at the outer one -/
theorem lc2_it (w : Walk J n G Y) {g g1 : TG} {tt1 : TT} {te : TE} {wi1 : TI} {vs vs1 : List Nat} {σ : L2.St} {H1 : Hp} {D : Addr} {Qd : Hp → Prop} (P : Nat → Hp → Prop) (h0 : P 0 (upd H1 D (.lst []))) (hG : ∀ i H, i ≤ n → P i H → G H)
    (turn : ∀ i x H H', i < n → P i H → Y i H x H' → g x (wipe σ vs) H' fun τ H2 => wipe τ vs = wipe σ vs ∧ wi1 τ H2 fun J1 H3 => ∃ W1 : Nat → Nat → Hp → Prop, (∃ m, W1 0 m H3) ∧ ∀ j k H, W1 j k H →
      (J1.stop j H ∧ P (i + 1) H) ∨ (J1.go j H ∧ ∃ N1 : Hp → Prop, (∀ H', N1 H' → ∃ k', k' < k ∧ W1 (j + 1) k' H') ∧ ∀ x H', J1.yld j H x H' → g1 x (wipe τ vs1) H' fun τ3 H5 => wipe τ3 vs1 = wipe τ vs1 ∧ tt1 τ3 H5 fun b H6 =>
        if b = true then te τ3 H6 fun y H7 => ∃ acc, H7 D = some (.lst acc) ∧ acc.length < sizeLine ∧ N1 (upd H7 D (.lst (acc ++ [y]))) else N1 H6)) (hd : ∀ H, P n H → Qd H) :
    ∃ W : Nat → Nat → Hp → Prop, (∃ m, W 0 m (upd H1 D (.lst []))) ∧ ∀ i m G2, W i m G2 →
      (J.stop i G2 ∧ Qd G2) ∨ (J.go i G2 ∧ ∃ N : Hp → Prop, (∀ G', N G' → ∃ m', m' < m ∧ W (i + 1) m' G') ∧ ∀ x G', J.yld i G2 x G' → g x (wipe σ vs) G' fun τ G3 => wipe τ vs = wipe σ vs ∧ tYes τ G3 fun b G4 =>
        if b = true then wi1 τ G4 fun J1 H4 => ∃ W1 : Nat → Nat → Hp → Prop, (∃ m, W1 0 m H4) ∧ ∀ j k H, W1 j k H →
          (J1.stop j H ∧ N H) ∨ (J1.go j H ∧ ∃ N1 : Hp → Prop, (∀ H', N1 H' → ∃ k', k' < k ∧ W1 (j + 1) k' H') ∧ ∀ x H', J1.yld j H x H' → g1 x (wipe τ vs1) H' fun τ3 H5 => wipe τ3 vs1 = wipe τ vs1 ∧ tt1 τ3 H5 fun b H6 =>
            if b = true then te τ3 H6 fun y H7 => ∃ acc, H7 D = some (.lst acc) ∧ acc.length < sizeLine ∧ N1 (upd H7 D (.lst (acc ++ [y]))) else N1 H6)
        else N G4) := by
  refine ⟨fun i m H => i ≤ n ∧ m = n - i ∧ P i H, ⟨n, Nat.zero_le _, rfl, h0⟩, ?_⟩
  rintro i m H ⟨hi, rfl, p⟩
  rcases Nat.lt_or_ge i n with lt | ge
  · refine .inr ⟨w.goes i H lt (hG i H hi p), P (i + 1), fun H' q => ⟨n - (i + 1), by omega, lt, rfl, q⟩, fun x H' y => ?_⟩
    exact turn i x H H' lt p (w.yields i H x H' lt (hG i H hi p) y)
  · obtain rfl : i = n := by omega
    exact .inl ⟨w.stops H (hG i H hi p), hd H p⟩
/-- the inner walk, no test -/
theorem lc2_in (w : Walk J1 n1 G1 Y1) {g1 : TG} {te : TE} {vs1 : List Nat} {τ : L2.St} {H3 : Hp} {D : Addr} {Nx : Hp → Prop} (P : Nat → Hp → Prop) (h0 : P 0 H3) (hG : ∀ j H, j ≤ n1 → P j H → G1 H)
    (turn : ∀ j x H H', j < n1 → P j H → Y1 j H x H' → g1 x (wipe τ vs1) H' fun τ3 H5 => wipe τ3 vs1 = wipe τ vs1 ∧ te τ3 H5 fun y H7 => ∃ acc, H7 D = some (.lst acc) ∧ acc.length < sizeLine ∧ P (j + 1) (upd H7 D (.lst (acc ++ [y])))) (hd : ∀ H, P n1 H → Nx H) :
    ∃ W1 : Nat → Nat → Hp → Prop, (∃ m, W1 0 m H3) ∧ ∀ j k H, W1 j k H →
      (J1.stop j H ∧ Nx H) ∨ (J1.go j H ∧ ∃ N1 : Hp → Prop, (∀ H', N1 H' → ∃ k', k' < k ∧ W1 (j + 1) k' H') ∧ ∀ x H', J1.yld j H x H' → g1 x (wipe τ vs1) H' fun τ3 H5 => wipe τ3 vs1 = wipe τ vs1 ∧ tYes τ3 H5 fun b H6 =>
        if b = true then te τ3 H6 fun y H7 => ∃ acc, H7 D = some (.lst acc) ∧ acc.length < sizeLine ∧ N1 (upd H7 D (.lst (acc ++ [y]))) else N1 H6) := by
  refine ⟨fun j k H => j ≤ n1 ∧ k = n1 - j ∧ P j H, ⟨n1, Nat.zero_le _, rfl, h0⟩, ?_⟩
  rintro j k H ⟨hj, rfl, p⟩
  rcases Nat.lt_or_ge j n1 with lt | ge
  · refine .inr ⟨w.goes j H lt (hG j H hj p), P (j + 1), fun H' q => ⟨n1 - (j + 1), by omega, lt, rfl, q⟩, fun x H' y => ?_⟩
    exact turn j x H H' lt p (w.yields j H x H' lt (hG j H hj p) y)
  · obtain rfl : j = n1 := by omega
    exact .inl ⟨w.stops H (hG j H hj p), hd H p⟩
end
end My
namespace My
open PySem PySem.Spec PyProof.Rows L2
/-- a list walked within a comprehension: the written part told -/
theorem pi_listC {X : Cx} {K : PySem.W.Frag} {e tg : Expr} {te : TE} (hK : X.K = K) (h : PE X e te) : PI X tg e (iList K te) := by
  subst hK
  exact pi_list h
end My
namespace My
open PySem PySem.Spec PyProof.Rows L2
local macro_rules | `(tactic| walk_at "sq") => `(tactic| first | assumption | exact .inl (.inl (by assumption)) | exact .inl (.inl upd_same))
local macro_rules | `(tactic| walk_at "st") => `(tactic| first
  | refine ⟨_, rfl, ?_⟩
  | refine ⟨_, _, rfl, rfl, ?_⟩
  | refine ⟨cmull (by omega) (by omega), ?_⟩
  | refine ⟨cmulr (by omega) (by omega), ?_⟩
  | refine ⟨cdivw (by omega) (by omega), ?_⟩
  | refine ⟨(⟨by decide, by decide⟩ : CDiv _ _), ?_⟩
  | refine ⟨(show (0 : Int) < _ by omega), ?_⟩
  | refine ⟨(show (0 : Int) ≤ _ by omega), ?_⟩
  | refine ⟨(⟨by decide, by decide, by decide⟩ : CPow _ _), ?_⟩
  | refine ⟨(⟨by omega, by omega, by omega⟩ : CPow _ _), ?_⟩
  | refine .inl ⟨_, rfl, ?_⟩
  | refine .inr ⟨_, rfl, ?_⟩
  | refine ⟨_, _, _, _, _, rfl, .ty _, .base (.int _), kit_ii, ?_⟩
  | refine ⟨_, _, _, _, _, rfl, .ty _, .base (.int _), kit_ib, ?_⟩
  | refine ⟨_, _, _, _, _, rfl, .ty _, .base (.tup (by assumption)), kit_tt, ?_⟩
  | refine ⟨_, _, _, _, _, rfl, .ty _, .base (.lst (by assumption)), kit_ll, ?_⟩
  | refine iteT ?_
  | refine iteF ?_
  | refine ⟨_, _, rfl, .inl (.inl (by first | assumption | exact upd_same)), rfl, ?_⟩
  | refine ⟨_, _, rfl, ?_⟩
  | refine ⟨cmulr (by split <;> decide) (by split <;> decide), ?_⟩
  | refine ⟨_, _, rfl, .inl (by walk_at "sq"), ?_⟩
  | refine ⟨_, _, rfl, .inr (by walk_at "sq"), ?_⟩
  | refine ⟨_, _, _, _, rfl, rfl, (by walk_at "sq"), rfl, ?_⟩
  | refine ⟨rfl, ?_⟩
  | (refine ite2 (fun hc => ?_) (fun hc => ?_) <;> (try simp only [decide_eq_true_eq, Bool.not_eq_true', decide_eq_false_iff_not, Bool.not_eq_true, Bool.not_eq_false', Bool.false_eq_true, reduceCtorEq, V.int.injEq, not_true_eq_false, not_false_eq_true] at hc) <;> (try (exfalso; omega))))
local macro_rules | `(tactic| walk_at "ev") => `(tactic| repeat' walk_at "st")
def top (i : Nat) : Stmt := PySem.Challenge.pw_narrowingbits_k62_cells_refused.main.body.getD i (.Pass ⟨0, 0, 0, 0⟩)
abbrev s_is_number : Stmt := top 7
theorem sc_is_number : FnScope ["thing"] ["thing"] (defScope s_is_number) := ⟨rfl, rfl, rfl, by decide +kernel, rfl, by decide +kernel, by decide +kernel⟩
abbrev s_check_bits : Stmt := top 8
theorem sc_check_bits : FnScope ["bits", "bit"] ["bits"] (defScope s_check_bits) := ⟨rfl, rfl, rfl, by decide +kernel, rfl, by decide +kernel, by decide +kernel⟩
abbrev s_number_of : Stmt := top 9
theorem sc_number_of : FnScope ["bits", "number", "bit"] ["bits"] (defScope s_number_of) := ⟨rfl, rfl, rfl, by decide +kernel, rfl, by decide +kernel, by decide +kernel⟩
abbrev s_fixed : Stmt := top 10
theorem sc_fixed : FnScope ["n", "w", "text", "digit"] ["n", "w"] (defScope s_fixed) := ⟨rfl, rfl, rfl, by decide +kernel, rfl, by decide +kernel, by decide +kernel⟩
abbrev s_count_at : Stmt := top 11
theorem sc_count_at : FnScope ["bits", "at", "one", "zeros", "stop"] ["bits", "at"] (defScope s_count_at) := ⟨rfl, rfl, rfl, by decide +kernel, rfl, by decide +kernel, by decide +kernel⟩
abbrev s_check_of : Stmt := top 15
theorem sc_check_of : FnScope ["bits", "held", "bit", "top"] ["bits"] (defScope s_check_of) := ⟨rfl, rfl, rfl, by decide +kernel, rfl, by decide +kernel, by decide +kernel⟩
abbrev s_good : Stmt := top 21
theorem sc_good : FnScope ["protected", "group", "cell"] ["protected", "group"] (defScope s_good) := ⟨rfl, rfl, rfl, by decide +kernel, rfl, by decide +kernel, by decide +kernel⟩
abbrev s_open_cells : Stmt := top 22
theorem sc_open_cells : FnScope ["protected", "group", "loads", "cells", "start", "stop", "opened", "load"] ["protected", "group"] (defScope s_open_cells) := ⟨rfl, rfl, rfl, by decide +kernel, rfl, by decide +kernel, by decide +kernel⟩
abbrev s_parts_of : Stmt := top 23
theorem sc_parts_of : FnScope ["things", "size", "at"] ["things", "size"] (defScope s_parts_of) := ⟨rfl, rfl, rfl, by decide +kernel, rfl, by decide +kernel, by decide +kernel⟩
abbrev s_parity_of : Stmt := top 24
theorem sc_parity_of : FnScope ["loads", "bits"] ["loads"] (defScope s_parity_of) := ⟨rfl, rfl, rfl, by decide +kernel, rfl, by decide +kernel, by decide +kernel⟩
abbrev s_is_good : Stmt := top 25
theorem sc_is_good : FnScope ["cell"] ["cell"] (defScope s_is_good) := ⟨rfl, rfl, rfl, by decide +kernel, rfl, by decide +kernel, by decide +kernel⟩
abbrev s_check_group : Stmt := top 26
theorem sc_check_group : FnScope ["group"] ["group"] (defScope s_check_group) := ⟨rfl, rfl, rfl, by decide +kernel, rfl, by decide +kernel, by decide +kernel⟩
abbrev s_check_cells : Stmt := top 27
theorem sc_check_cells : FnScope ["protected", "group", "cell_count"] ["protected", "group"] (defScope s_check_cells) := ⟨rfl, rfl, rfl, by decide +kernel, rfl, by decide +kernel, by decide +kernel⟩
abbrev s_opened_group : Stmt := top 28
theorem sc_opened_group : FnScope ["cells", "cell", "loads", "load", "others"] ["cells"] (defScope s_opened_group) := ⟨rfl, rfl, rfl, by decide +kernel, rfl, by decide +kernel, by decide +kernel⟩
abbrev s_span_told : Stmt := top 29
theorem sc_span_told : FnScope ["loads", "told", "_", "count", "start"] ["loads"] (defScope s_span_told) := ⟨rfl, rfl, rfl, by decide +kernel, rfl, by decide +kernel, by decide +kernel⟩
abbrev s_law_pool : Stmt := top 31
theorem sc_law_pool : FnScope ["_law_script", "_law_k", "_law_cell", "_law_big", "_law_mixed"] ["_law_script", "_law_k"] (defScope s_law_pool) := ⟨rfl, rfl, rfl, by decide +kernel, rfl, by decide +kernel, by decide +kernel⟩
abbrev s_law_take : Stmt := top 32
theorem sc_law_take : FnScope ["_law_source", "_law_top", "_law_drawn"] ["_law_source", "_law_top"] (defScope s_law_take) := ⟨rfl, rfl, rfl, by decide +kernel, rfl, by decide +kernel, by decide +kernel⟩
abbrev s_law_one : Stmt := top 33
theorem sc_law_one : FnScope ["_law_source", "_law_things"] ["_law_source", "_law_things"] (defScope s_law_one) := ⟨rfl, rfl, rfl, by decide +kernel, rfl, by decide +kernel, by decide +kernel⟩
abbrev s_law_count : Stmt := top 34
theorem sc_law_count : FnScope ["_law_number", "_law_figures", "_law_rest"] ["_law_number"] (defScope s_law_count) := ⟨rfl, rfl, rfl, by decide +kernel, rfl, by decide +kernel, by decide +kernel⟩
abbrev s_law_check : Stmt := top 35
theorem sc_law_check : FnScope ["_law_load", "_law_number", "_law_bit", "_law_place"] ["_law_load"] (defScope s_law_check) := ⟨rfl, rfl, rfl, by decide +kernel, rfl, by decide +kernel, by decide +kernel⟩
abbrev s_law_sum : Stmt := top 36
theorem sc_law_sum : FnScope ["_law_loads_here", "_law_at", "_law_load"] ["_law_loads_here"] (defScope s_law_sum) := ⟨rfl, rfl, rfl, by decide +kernel, rfl, by decide +kernel, by decide +kernel⟩
abbrev s_law_cells : Stmt := top 37
theorem sc_law_cells : FnScope ["_law_loads_here", "_law_group", "_law_found", "_law_begin", "_law_some", "_law_load"] ["_law_loads_here", "_law_group"] (defScope s_law_cells) := ⟨rfl, rfl, rfl, by decide +kernel, rfl, by decide +kernel, by decide +kernel⟩
abbrev s_law_loads : Stmt := top 38
theorem sc_law_loads : FnScope ["_law_told", "_law_whole", "_law_at"] ["_law_told"] (defScope s_law_loads) := ⟨rfl, rfl, rfl, by decide +kernel, rfl, by decide +kernel, by decide +kernel⟩
abbrev s_law_joined : Stmt := top 39
theorem sc_law_joined : FnScope ["_law_cells_here", "_law_found", "_law_cell"] ["_law_cells_here"] (defScope s_law_joined) := ⟨rfl, rfl, rfl, by decide +kernel, rfl, by decide +kernel, by decide +kernel⟩
abbrev s_law_bits : Stmt := top 40
theorem sc_law_bits : FnScope ["_law_source", "_law_cells_here", "_law_figures", "_law_many", "_law_found", "_law_rest", "_law_at"] ["_law_source"] (defScope s_law_bits) := ⟨rfl, rfl, rfl, by decide +kernel, rfl, by decide +kernel, by decide +kernel⟩
abbrev s_law_heard : Stmt := top 41
theorem sc_law_heard : FnScope ["_law_call"] ["_law_call"] (defScope s_law_heard) := ⟨rfl, rfl, rfl, by decide +kernel, rfl, by decide +kernel, by decide +kernel⟩
abbrev s_law_both : Stmt := top 42
theorem sc_law_both : FnScope ["_law_bits_here", "_law_group", "_law_one_here"] ["_law_bits_here", "_law_group"] (defScope s_law_both) := ⟨rfl, rfl, rfl, by decide +kernel, rfl, by decide +kernel, by decide +kernel⟩
abbrev s_law_opened : Stmt := top 43
theorem sc_law_opened : FnScope ["_law_loads_here", "_law_group", "_law_bits_here"] ["_law_loads_here", "_law_group"] (defScope s_law_opened) := ⟨rfl, rfl, rfl, by decide +kernel, rfl, by decide +kernel, by decide +kernel⟩
abbrev s_law_sizes_right : Stmt := top 44
theorem sc_law_sizes_right : FnScope ["_law_source", "_law_cells_here", "_law_group", "_law_whole", "_law_due", "_law_many", "_law_nought"] ["_law_source", "_law_cells_here", "_law_group"] (defScope s_law_sizes_right) := ⟨rfl, rfl, rfl, by decide +kernel, rfl, by decide +kernel, by decide +kernel⟩
abbrev s_law_counted : Stmt := top 45
theorem sc_law_counted : FnScope ["_law_loads_here", "_law_number", "_law_code"] ["_law_loads_here", "_law_number"] (defScope s_law_counted) := ⟨rfl, rfl, rfl, by decide +kernel, rfl, by decide +kernel, by decide +kernel⟩
abbrev s_law_counts_right : Stmt := top 46
theorem sc_law_counts_right : FnScope ["_law_source", "_law_bits_here", "_law_loads_here", "_law_group", "_law_load", "_law_plain", "_law_many", "_law_number", "_law_fits", "_law_due"] ["_law_source", "_law_bits_here", "_law_loads_here", "_law_group"] (defScope s_law_counts_right) := ⟨rfl, rfl, rfl, by decide +kernel, rfl, by decide +kernel, by decide +kernel⟩
abbrev s_law_fillings_right : Stmt := top 47
theorem sc_law_fillings_right : FnScope ["_law_source", "_law_bits_here", "_law_loads_here", "_law_group", "_law_filled", "_law_place", "_law_last", "_law_cells_here", "_law_cell"] ["_law_source", "_law_bits_here", "_law_loads_here", "_law_group"] (defScope s_law_fillings_right) := ⟨rfl, rfl, rfl, by decide +kernel, rfl, by decide +kernel, by decide +kernel⟩
abbrev s_law : Stmt := top 48
theorem sc_law : FnScope ["_law_script", "_law_k", "_law_source", "_law_bits_here", "_law_group", "_law_loads_here"] ["_law_script"] (defScope s_law) := ⟨rfl, rfl, rfl, by decide +kernel, rfl, by decide +kernel, by decide +kernel⟩
/-! ### checks, as numbers below 256 -/
def cst (h : Nat) (b : Int) : Nat := (2 * h % 256) ^^^ (7 * ((h / 128) ^^^ b.toNat))
def crcN (xs : List Int) : Nat := xs.foldl cst 0
def crcI (xs : List Int) : List Int := bitsI 8 (crcN xs)
theorem crcI_len (xs : List Int) : (crcI xs).length = 8 := bitsI_len _ _
theorem bit_top {b : Int} (hb : 0 ≤ b ∧ b ≤ 1) : b = 0 ∨ b = 1 := by omega
theorem cst_top {h : Nat} {b : Int} (hh : h < 256) (hb : 0 ≤ b ∧ b ≤ 1) : (h / 128) ^^^ b.toNat = 0 ∨ (h / 128) ^^^ b.toNat = 1 := by
  have h1 : h / 128 = 0 ∨ h / 128 = 1 := by omega
  rcases h1 with h1 | h1 <;> rcases bit_top hb with rfl | rfl <;> rw [h1] <;> decide
theorem cst_lt {h : Nat} {b : Int} (hh : h < 256) (hb : 0 ≤ b ∧ b ≤ 1) : cst h b < 256 := by
  unfold cst
  refine Nat.xor_lt_two_pow (n := 8) (Nat.mod_lt _ (by decide)) ?_
  rcases cst_top hh hb with e | e <;> rw [e] <;> decide
theorem crcN_snoc (xs : List Int) (b : Int) : crcN (xs ++ [b]) = cst (crcN xs) b := by
  unfold crcN
  rw [List.foldl_append]
  rfl
theorem crcN_lt : ∀ {xs : List Int}, AreBits xs → crcN xs < 256 := by
  intro xs h
  have key : ∀ (n : Nat), n ≤ xs.length → crcN (xs.take n) < 256 := by
    intro n
    induction n with
    | zero => intro _; rw [List.take_zero]; decide
    | succ n ih =>
      intro hn
      have g : xs[n]? = some xs[n] := List.getElem?_eq_getElem (by omega)
      rw [← take_snoc g, crcN_snoc]
      exact cst_lt (ih (by omega)) (h _ (List.getElem_mem _))
  have := key xs.length (Nat.le_refl _)
  rwa [List.take_length] at this
/-- the exclusive or of bits -/
def bx (a b : Int) : Int := ((a.toNat ^^^ b.toNat : Nat) : Int)
theorem bx_toNat (a b : Int) : (bx a b).toNat = a.toNat ^^^ b.toNat := Int.toNat_natCast _
theorem bx_bit {a b : Int} (ha : 0 ≤ a ∧ a ≤ 1) (hb : 0 ≤ b ∧ b ≤ 1) : 0 ≤ bx a b ∧ bx a b ≤ 1 := by
  rcases bit_top ha with rfl | rfl <;> rcases bit_top hb with rfl | rfl <;> decide
theorem bx_zero {a : Int} (ha : 0 ≤ a) : bx a 0 = a := by
  unfold bx
  simp
  omega
theorem bx_one {a : Int} (ha : 0 ≤ a ∧ a ≤ 1) : bx a 1 = 1 - a := by
  rcases bit_top ha with rfl | rfl <;> decide
theorem xor4 (a b c d : Nat) : (a ^^^ b) ^^^ (c ^^^ d) = (a ^^^ c) ^^^ (b ^^^ d) := by
  rw [Nat.xor_assoc, Nat.xor_assoc, ← Nat.xor_assoc b c d, Nat.xor_comm b c, Nat.xor_assoc c b d]
theorem xor_div (a b k : Nat) : (a ^^^ b) / 2 ^ k = (a / 2 ^ k) ^^^ (b / 2 ^ k) := by
  rw [← Nat.shiftRight_eq_div_pow, ← Nat.shiftRight_eq_div_pow, ← Nat.shiftRight_eq_div_pow, Nat.shiftRight_xor_distrib]
theorem xor_mod2 (a b : Nat) : (a ^^^ b) % 2 = (a % 2) ^^^ (b % 2) := by
  have h := Nat.xor_mod_two_pow (a := a) (b := b) (n := 1)
  exact h
theorem cst_lin {h g : Nat} {a b : Int} (hh : h < 256) (hg : g < 256) (ha : 0 ≤ a ∧ a ≤ 1) (hb : 0 ≤ b ∧ b ≤ 1) : cst (h ^^^ g) (bx a b) = cst h a ^^^ cst g b := by
  unfold cst
  have e1 : 2 * (h ^^^ g) % 256 = (2 * h % 256) ^^^ (2 * g % 256) := by
    rw [← Nat.xor_mod_two_pow (n := 8)]
    congr 1
    rw [Nat.mul_comm 2, Nat.mul_comm 2, Nat.mul_comm 2]
    have := Nat.shiftLeft_xor_distrib (a := h) (b := g) (i := 1)
    rw [Nat.shiftLeft_eq, Nat.shiftLeft_eq, Nat.shiftLeft_eq] at this
    exact this
  have e2 : (h ^^^ g) / 128 = (h / 128) ^^^ (g / 128) := xor_div h g 7
  rw [e1, e2, bx_toNat, xor4 (h / 128) (g / 128)]
  have e3 : 7 * (((h / 128) ^^^ a.toNat) ^^^ ((g / 128) ^^^ b.toNat)) = (7 * ((h / 128) ^^^ a.toNat)) ^^^ (7 * ((g / 128) ^^^ b.toNat)) := by
    rcases cst_top hh ha with e | e <;> rcases cst_top hg hb with f | f <;> rw [e, f] <;> decide
  rw [e3, xor4]
theorem crcN_lin : ∀ {xs ys : List Int}, xs.length = ys.length → AreBits xs → AreBits ys → crcN (List.zipWith bx xs ys) = crcN xs ^^^ crcN ys := by
  intro xs ys hl hx hy
  have key : ∀ (us vs : List Int) (h g : Nat), us.length = vs.length → AreBits us → AreBits vs → h < 256 → g < 256 → (List.zipWith bx us vs).foldl cst (h ^^^ g) = us.foldl cst h ^^^ vs.foldl cst g := by
    intro us
    induction us with
    | nil =>
      intro vs h g e _ _ _ _
      rw [List.length_eq_zero_iff.mp e.symm]
      rfl
    | cons u us ih =>
      intro vs h g e hu hv hh hg
      cases vs with
      | nil => cases e
      | cons v vs =>
        have bu := hu u List.mem_cons_self
        have bv := hv v List.mem_cons_self
        rw [List.zipWith_cons_cons, List.foldl_cons, List.foldl_cons, List.foldl_cons, cst_lin hh hg bu bv]
        exact ih vs _ _ (by simpa using e) (fun x m => hu x (List.mem_cons_of_mem _ m)) (fun x m => hv x (List.mem_cons_of_mem _ m)) (cst_lt hh bu) (cst_lt hg bv)
  exact key xs ys 0 0 hl hx hy (by decide) (by decide)
theorem bitsI_xor (w a b : Nat) : bitsI w (a ^^^ b) = List.zipWith bx (bitsI w a) (bitsI w b) := by
  refine List.ext_getElem? fun i => ?_
  rw [List.getElem?_zipWith]
  by_cases h : i < w
  · rw [bitsI_get h, bitsI_get h, bitsI_get h, xor_div, xor_mod2]
    simp only [bx, Int.toNat_natCast]
  · rw [List.getElem?_eq_none (by rw [bitsI_len]; omega), List.getElem?_eq_none (by rw [bitsI_len]; omega)]
theorem crcI_lin {xs ys : List Int} (hl : xs.length = ys.length) (hx : AreBits xs) (hy : AreBits ys) : crcI (List.zipWith bx xs ys) = List.zipWith bx (crcI xs) (crcI ys) := by
  unfold crcI
  rw [crcN_lin hl hx hy, bitsI_xor]
theorem crcI_bits (xs : List Int) : AreBits (crcI xs) := fun _ m => bitsI_bit m
/-! ### cells: 48 bits and their check -/
def goodC (c : List Int) : Bool := decide (crcI (c.take 48) = c.drop 48)
/-- a pattern of n places -/
def pat (n : Nat) (f : Nat → Bool) : List Int := (List.range n).map fun i => if f i = true then 1 else 0
def turnC (c : List Int) (f : Nat → Bool) : List Int := List.zipWith bx c (pat c.length f)
theorem pat_len (n : Nat) (f : Nat → Bool) : (pat n f).length = n := by
  unfold pat
  rw [List.length_map, List.length_range]
theorem pat_bits (n : Nat) (f : Nat → Bool) : AreBits (pat n f) := fun x m => by
  obtain ⟨i, _, rfl⟩ := List.mem_map.mp m
  show 0 ≤ (if f i = true then (1 : Int) else 0) ∧ _
  split <;> decide
theorem pat_xor (n : Nat) (f g : Nat → Bool) : pat n (fun i => f i ^^ g i) = List.zipWith bx (pat n f) (pat n g) := by
  unfold pat
  rw [List.zipWith_map, List.zipWith_self]
  refine List.map_congr_left fun i _ => ?_
  show (if (f i ^^ g i) = true then (1 : Int) else 0) = bx _ _
  cases f i <;> cases g i <;> rfl
theorem zw_take {α : Type} (f : α → α → α) (n : Nat) (a b : List α) : (List.zipWith f a b).take n = List.zipWith f (a.take n) (b.take n) := List.take_zipWith
theorem zw_drop {α : Type} (f : α → α → α) (n : Nat) (a b : List α) : (List.zipWith f a b).drop n = List.zipWith f (a.drop n) (b.drop n) := List.drop_zipWith
theorem AreBits.drop {xs : List Int} (h : AreBits xs) (n : Nat) : AreBits (xs.drop n) := fun x m => h x (List.mem_of_mem_drop m)
theorem AreBits.zw {xs ys : List Int} (h : AreBits xs) (g : AreBits ys) : AreBits (List.zipWith bx xs ys) := fun x m => by
  rw [List.mem_iff_getElem?] at m
  obtain ⟨i, hi⟩ := m
  rw [List.getElem?_zipWith] at hi
  cases e : xs[i]? with
  | none => rw [e] at hi; cases hi
  | some u =>
    cases e2 : ys[i]? with
    | none => rw [e, e2] at hi; cases hi
    | some v =>
      rw [e, e2] at hi
      rw [← Option.some.inj hi]
      exact bx_bit (h _ (List.mem_of_getElem? e)) (g _ (List.mem_of_getElem? e2))
/-- the syndrome of 56 bits -/
def synL (c : List Int) : List Int := List.zipWith bx (crcI (c.take 48)) (c.drop 48)
theorem bx_self (a : Int) : bx a a = 0 := by
  unfold bx
  rw [Nat.xor_self]
  rfl
theorem bx_eq_zero {a b : Int} (ha : 0 ≤ a) (hb : 0 ≤ b) (h : bx a b = 0) : a = b := by
  unfold bx at h
  have h2 : a.toNat ^^^ b.toNat = 0 := by omega
  have h3 : a.toNat = b.toNat := by
    have := congrArg (· ^^^ b.toNat) h2
    simpa [Nat.xor_assoc] using this
  omega
theorem bx4 (a b c d : Int) : bx (bx a b) (bx c d) = bx (bx a c) (bx b d) := by
  unfold bx
  simp only [Int.toNat_natCast]
  rw [xor4]
theorem zw4 (a b c d : List Int) : List.zipWith bx (List.zipWith bx a b) (List.zipWith bx c d) = List.zipWith bx (List.zipWith bx a c) (List.zipWith bx b d) := by
  refine List.ext_getElem? fun i => ?_
  simp only [List.getElem?_zipWith]
  cases a[i]? <;> cases b[i]? <;> cases c[i]? <;> cases d[i]? <;> simp only [bx4]
theorem zw_zero_iff : ∀ {a b : List Int}, a.length = b.length → AreBits a → AreBits b → (List.zipWith bx a b = List.replicate a.length 0 ↔ a = b)
  | [], [], _, _, _ => by simp
  | [], y :: ys, h, _, _ => by cases h
  | x :: xs, [], h, _, _ => by cases h
  | x :: xs, y :: ys, h, ha, hb => by
    have ih := zw_zero_iff (a := xs) (b := ys) (by simpa using h) (fun z m => ha z (List.mem_cons_of_mem _ m)) (fun z m => hb z (List.mem_cons_of_mem _ m))
    have hx := ha x List.mem_cons_self
    have hy := hb y List.mem_cons_self
    rw [List.zipWith_cons_cons, List.length_cons, List.replicate_succ, List.cons.injEq, List.cons.injEq, ih]
    constructor
    · rintro ⟨e, r⟩
      exact ⟨bx_eq_zero hx.1 hy.1 e, r⟩
    · rintro ⟨rfl, r⟩
      exact ⟨bx_self _, r⟩
theorem good_iff {c : List Int} (hl : c.length = 56) (hb : AreBits c) : goodC c = true ↔ synL c = List.replicate 8 0 := by
  unfold goodC synL
  rw [decide_eq_true_eq]
  have := zw_zero_iff (a := crcI (c.take 48)) (b := c.drop 48) (by rw [crcI_len, List.length_drop]; omega) (crcI_bits _) (hb.drop _)
  rw [crcI_len] at this
  exact this.symm
theorem syn_lin {c d : List Int} (hl : c.length = 56) (hm : d.length = 56) (hb : AreBits c) (hd : AreBits d) : synL (List.zipWith bx c d) = List.zipWith bx (synL c) (synL d) := by
  unfold synL
  rw [zw_take, zw_drop, crcI_lin (by rw [List.length_take, List.length_take]; omega) (hb.take _) (hd.take _), zw4]
theorem syn_len {c : List Int} (hl : c.length = 56) : (synL c).length = 8 := by
  unfold synL
  rw [List.length_zipWith, crcI_len, List.length_drop]
  omega
theorem zw_zeros : ∀ {a : List Int}, AreBits a → List.zipWith bx (List.replicate a.length 0) a = a
  | [], _ => rfl
  | x :: xs, h => by
    have hx := h x List.mem_cons_self
    rw [List.length_cons, List.replicate_succ, List.zipWith_cons_cons, zw_zeros fun z m => h z (List.mem_cons_of_mem _ m)]
    congr 1
    rcases bit_top hx with rfl | rfl <;> decide
theorem syn_bits {c : List Int} (hb : AreBits c) : AreBits (synL c) := (crcI_bits _).zw (hb.drop _)
/-- a good cell turned by a pattern is good just if the pattern's syndrome is nothing -/
theorem good_turn {c : List Int} {f : Nat → Bool} (hl : c.length = 56) (hb : AreBits c) (hg : goodC c = true) : goodC (turnC c f) = true ↔ synL (pat 56 f) = List.replicate 8 0 := by
  have e : turnC c f = List.zipWith bx c (pat 56 f) := by unfold turnC; rw [hl]
  rw [e, good_iff (by rw [List.length_zipWith, hl, pat_len]; rfl) (hb.zw (pat_bits _ _)), syn_lin hl (pat_len _ _) hb (pat_bits _ _), (good_iff hl hb).mp hg]
  have := zw_zeros (a := synL (pat 56 f)) (syn_bits (pat_bits _ _))
  rw [syn_len (pat_len _ _)] at this
  rw [this]
section
variable {P : Program} {w : World} {K : PySem.W.Frag} {mg : Str → Option Value} {base : Heap}
structure Txt (mg : Str → Option Value) : Prop where
  z_int : mg "int" = none
  z_len : mg "len" = none
  z_max : mg "max" = none
  z_min : mg "min" = none
  z_range : mg "range" = none
  z_isinstance : mg "isinstance" = none
  z_bool : mg "bool" = none
  z_list : mg "list" = none
  z_sum : mg "sum" = none
  z_zip : mg "zip" = none
/-- the numbers that the top gives names to -/
structure Con (mg : Str → Option Value) (t1 t2 t3 t4 t5 : Tok) : Prop where
  check : mg "CHECK_BITS" = some (.int 8 t1)
  feed : mg "FEEDBACK" = some (.int 7 t2)
  load : mg "LOAD_BITS" = some (.int 48 t3)
  cell : mg "CELL_BITS" = some (.int 56 t4)
  group : mg "MOST_GROUP" = some (.int 8 t5)
variable {t1 t2 t3 t4 t5 : Tok}
/-! ### fixed -/
def spFixed : Sp := fun vs H Q _ => ∃ (n w : Nat), vs = [.int n, .int w] ∧ n < 2 ^ w ∧ w ≤ 900 ∧ ∀ (p : Addr) (H' : Hp), H p = none → Same H H' → H' p = some (.lst ((bitsI w n).map V.int)) → Q (.ref p) H'
theorem ok_fixed {f : Addr} {fd : FuncData} {k : Nat} (F : Fun K "fixed" "fixed" s_fixed f fd) (T : Txt mg) : FnOk P w K mg base CX0 (k + 1) f fd ["n", "w"] spFixed := by
  refine F.ok sc_fixed (fun vs H Q E h => ?_) (fun cdv A outer s H vs Q E hr h => ?_)
  · obtain ⟨n, w, rfl, _⟩ := h
    rfl
  · obtain ⟨n, w, rfl, hn, hw, q⟩ := h
    have hb : Builtin.Int.intBits (n : Int) ≤ w := PyProof.Rows.intBits_le (by omega)
    refine ⟨_, (pss_cons (ps_if (PW.pt (pw_or (pt_cmpR op_lt (pv 0) pe_int (nomark _)) (pw_or (pt_cmpR op_lt (pv 1) pe_int (nomark _)) (pw_or1 (pt_cmpR op_gt (pe_bits (pv 0)) (pv 1) (nomark _)))))) (pss_one ps_never) pss_nil)
    (pss_cons (ps_set (i := 2) sc_fixed.nd rfl (Or.inl rfl) (pe_joined1 (pe_fmtB (pe_op op_add (pe_op op_shl pe_int (pv 1)) (pv 0)))))
    (pss_one (ps_ret (pe_lc (own := [("digit", 3)]) (g := (gName 3)) (tt := tYes) rfl sc_fixed.nd (pi_str (pe_slice C8.sl_txt (pv 2) (po_some pe_int) po_none)) (blkOk_by (N := ["n", "w", "text", "digit"]) (sc := defScope s_fixed) (by decide +kernel)) (fun _ _ _ _ _ => pg_name (i := 3) sc_fixed.nd rfl (by first | exact Or.inl rfl | exact Or.inr rfl)) (fun _ _ _ _ _ => pts_nil) (fun _ _ _ _ _ => (pe_callTy call_int_str (by rfl) T.z_int PyProof.Rows.boot_int (pa_cons (pv 3) pa_nil)))))))), ?_⟩
    walk_at "ev"
    have e0 : (1 : Int) * 2 ^ (w : Int).toNat + (n : Int) = ((2 ^ w + n : Nat) : Int) := by
      rw [Int.one_mul, Int.toNat_natCast, Int.natCast_add, Int.natCast_pow]
      rfl
    have eL : (binCodes (2 ^ w + n)).length = w + 1 := by
      rw [binCodes_pow w n hn, List.length_cons, List.length_map, bitsW_len]
    have eD : (Nat.toDigits 2 (2 ^ w + n)).length ≤ sizeLine := by
      have := eL
      unfold binCodes at this
      rw [List.length_map] at this
      rw [this]
      exact Nat.le_of_lt (small1000 (by omega))
    refine ⟨by rw [e0]; exact Int.natCast_nonneg _, ?_⟩
    rw [e0, Int.natAbs_natCast]
    refine ⟨eD, ?_⟩
    have es : Txt.slice (SX.S (binCodes (2 ^ w + n))) (some 1) none = SX.S ((bitsW w n).map (48 + ·)) := by
      rw [SX.slice_from (by decide), binCodes_pow w n hn]
      rfl
    have eN : (SX.S ((bitsW w n).map (48 + ·))).cps.size = w := by
      show ((bitsW w n).map (48 + ·)).toArray.size = w
      rw [List.size_toArray, List.length_map, bitsW_len]
    walk_at "ev"
    refine ⟨by rw [SX.S_len, eL]; exact Nat.le_of_lt (small1000 (by omega)), ?_⟩
    rw [es]
    walk_at "ev"
    intro D hD
    refine lc_it (walk_str (z := SX.S ((bitsW w n).map (48 + ·)))) (fun i H1 => Same H H1 ∧ H1 D = some (.lst (((bitsI w n).take i).map V.int))) ⟨same_upd hD, upd_same⟩ (fun _ _ _ _ => trivial) ?_ ?_
    · rintro i x H1 H2 hi ⟨s1, e1⟩ ⟨rfl, c, hc, rfl⟩
      rw [eN] at hi
      have hb : i < (bitsW w n).length := by rw [bitsW_len]; exact hi
      have ec : c = 48 + (bitsW w n)[i] := by
        have h2 : ((bitsW w n).map (48 + ·)).toArray[i]? = some c := hc
        rw [List.getElem?_toArray, List.getElem?_map, List.getElem?_eq_getElem hb] at h2
        exact (Option.some.inj h2).symm
      subst ec
      have hb2 : (bitsW w n)[i] < 2 := bitsW_bit w n _ (List.getElem_mem _)
      have gi : (bitsI w n)[i]? = some ((bitsW w n)[i] : Int) := by
        rw [bitsI, List.getElem?_map, List.getElem?_eq_getElem hb]
        rfl
      walk_at "ev"
      refine ⟨_, _, rfl, digit_int hb2, (by decide : 1 ≤ 640), _, e1, ?_, ?_, ?_⟩
      · rw [List.length_map, List.length_take]
        exact Nat.lt_of_le_of_lt (Nat.min_le_left _ _) (small1000 (by omega))
      · exact fun b o e => by
          rw [upd_ne (ne_of_none e hD)]
          exact s1 b o e
      · rw [upd_same, ← take_snoc gi, List.map_append]
        rfl
    · rintro H1 ⟨s1, e1⟩
      refine q D H1 hD s1 ?_
      rw [e1, eN, List.take_of_length_le (by rw [bitsI_len]; exact Nat.le_refl _)]
/-! ### reading that may be refused -/
inductive BadV (H : Hp) : V → Prop
  | int (z : Int) (h : z < 0 ∨ 1 < z) : BadV H (.int z)
  | non : BadV H .non
  | str (s : Str) : BadV H (.str s)
  | lst {a : Addr} {xs : List V} (h : H a = some (.lst xs)) : BadV H (.ref a)
structure BadAt (H : Hp) (p : Addr) : Prop where
  ex : ∃ (vs : List V) (j : Nat) (v : V), H p = some (.lst vs) ∧ vs[j]? = some v ∧ BadV H v ∧ ∀ i, i < j → ∃ z : Int, vs[i]? = some (.int z) ∧ 0 ≤ z ∧ z ≤ 1
theorem kit_ni {K : PySem.W.Frag} : PySem.W.kitOne K (.type "NoneType") (.type "int") = some false := kit_ty (by decide +kernel)
theorem kit_si {K : PySem.W.Frag} : PySem.W.kitOne K (.type "str") (.type "int") = some false := kit_ty (by decide +kernel)
theorem kit_li {K : PySem.W.Frag} : PySem.W.kitOne K (.type "list") (.type "int") = some false := kit_ty (by decide +kernel)
/-- is_number of anything -/
inductive NumV (H : Hp) : V → Bool → Prop
  | int (z : Int) : NumV H (.int z) true
  | non : NumV H .non false
  | str (s : Str) : NumV H (.str s) false
  | lst {a : Addr} {xs : List V} (h : H a = some (.lst xs)) : NumV H (.ref a) false
def spIsNumV : Sp := fun vs H Q _ => ∃ (v : V) (b : Bool), vs = [v] ∧ NumV H v b ∧ Q (.bl b) H
theorem ok_is_numberV {f : Addr} {fd : FuncData} {k : Nat} (F : Fun K "is_number" "is_number" s_is_number f fd) (T : Txt mg) : FnOk P w K mg base CX0 (k + 1) f fd ["thing"] spIsNumV := by
  refine F.ok sc_is_number (fun vs H Q E h => ?_) (fun cdv A outer s H vs Q E hr h => ?_)
  · obtain ⟨v, b, rfl, _⟩ := h
    rfl
  · obtain ⟨v, b, rfl, hv, q⟩ := h
    refine ⟨_, (pss_one (ps_ret (pe_and (pe_callB call_isi (by rfl) T.z_isinstance PyProof.Rows.boot_isinstance (pa_cons (pv 0) (pa_cons (pe_bltn (v := .ty "int") (by rfl) T.z_int PyProof.Rows.boot_int rfl) pa_nil))) (pe_one (pe_not (pe_callB call_isi (by rfl) T.z_isinstance PyProof.Rows.boot_isinstance (pa_cons (pv 0) (pa_cons (pe_bltn (v := .ty "bool") (by rfl) T.z_bool PyProof.Rows.boot_bool rfl) pa_nil)))))))), ?_⟩
    cases hv with
    | int z =>
      walk_at "ev"
      exact q
    | non =>
      walk_at "ev"
      refine ⟨_, _, _, _, _, rfl, .ty _, .base .non, kit_ni, ?_⟩
      walk_at "ev"
      exact q
    | str z =>
      walk_at "ev"
      refine ⟨_, _, _, _, _, rfl, .ty _, .base (.str _), kit_si, ?_⟩
      walk_at "ev"
      exact q
    | lst e =>
      walk_at "ev"
      refine ⟨_, _, _, _, _, rfl, .ty _, .base (.lst e), kit_li, ?_⟩
      walk_at "ev"
      exact q
def spCheckBX (B : Addr) : Sp := fun vs H Q E => ∃ (p : Addr), vs = [.ref p] ∧ ((∃ xs : List Int, H p = some (.lst (xs.map V.int)) ∧ AreBits xs ∧ Q .non H) ∨ (BadAt H p ∧ E (.ref B) none H))
theorem ok_check_bitsX {f B : Addr} {fd : FuncData} {k : Nat} (F : Fun K "check_bits" "check_bits" s_check_bits f fd) (e_BadBits : ECls K mg "BadBits" B) (c_is_number : C8.Cal P w K mg base 1 "is_number" spIsNumV []) : FnOk P w K mg base (L2.CX P w) (k + 2) f fd ["bits"] (spCheckBX B) := by
  refine F.okX sc_check_bits (fun vs H Q E h => ?_) (fun cdv A outer s H vs Q E hr h => ?_)
  · obtain ⟨p, rfl, _⟩ := h
    rfl
  · obtain ⟨p, rfl, h⟩ := h
    refine ⟨_, (pss_one (ps_for (passes_of rfl) rfl (pi_list (pv 0)) (pg_name (i := 1) sc_check_bits.nd rfl (Or.inl rfl))
      (pss_one (ps_if (PW.pt (pw_or (pt_not (pt_val (C8.pe_c c_is_number hr (by omega) (by rfl) (pa_cons (pv 1) pa_nil)))) (pw_or1 (pt_not (pt_chain op_le op_le pe_int (pv 1) pe_int))))) (pss_one (ps_raise rfl (takes_of rfl rfl rfl rfl) (pmk_none PySem.F.excBase_ValueError e_BadBits.xC e_BadBits.gC e_BadBits.kC (raises_own e_BadBits.bC e_BadBits.tC) (by rfl)))) pss_nil)))), ?_⟩
    rcases h with ⟨xs, hp, hb, q⟩ | ⟨⟨ys, j, v, hp, hj, hv, hlt⟩, q⟩
    · walk_at "ev"
      refine ⟨⟨_, .inl (.inl hp)⟩, for_list (K := K) (a := p) (xs := xs.map V.int) (fun _ σ H1 => ∃ v, σ = [some (.ref p), v] ∧ H1 = H) ⟨_, rfl, rfl⟩ (fun _ _ _ _ ⟨_, _, e⟩ => by rw [e]; exact .inl (.inl hp)) ?_ ?_⟩
      · rintro i x σ H1 hx ⟨v, rfl, rfl⟩
        rw [List.getElem?_map] at hx
        obtain ⟨z, hz, rfl⟩ := Option.map_eq_some_iff.mp hx
        have hz2 := hb z (List.mem_of_getElem? hz)
        walk_at "ev"
        refine ⟨_, _, rfl, .int z, ?_⟩
        walk_at "ev"
        rfl
      · rintro σ H1 ⟨v, rfl, rfl⟩
        exact q
    · walk_at "ev"
      refine ⟨⟨_, .inl (.inl hp)⟩, for_list (K := K) (a := p) (xs := ys) (fun i σ H1 => i ≤ j ∧ ∃ v, σ = [some (.ref p), v] ∧ H1 = H) ⟨Nat.zero_le _, _, rfl, rfl⟩ (fun _ _ _ _ ⟨_, _, _, e⟩ => by rw [e]; exact .inl (.inl hp)) ?_ ?_⟩
      · rintro i x σ H1 hx ⟨hi, v1, rfl, rfl⟩
        by_cases e : i = j
        · subst e
          obtain rfl : x = v := Option.some.inj (hx.symm.trans hj)
          cases hv with
          | int z h =>
            walk_at "ev"
            refine ⟨_, _, rfl, .int z, ?_⟩
            walk_at "ev"
            all_goals exact q
          | non =>
            walk_at "ev"
            refine ⟨_, _, rfl, .non, ?_⟩
            walk_at "ev"
            all_goals exact q
          | str s =>
            walk_at "ev"
            refine ⟨_, _, rfl, .str _, ?_⟩
            walk_at "ev"
            all_goals exact q
          | lst h =>
            walk_at "ev"
            refine ⟨_, _, rfl, .lst h, ?_⟩
            walk_at "ev"
            all_goals exact q
        · obtain ⟨z, hz, z0, z1⟩ := hlt i (by omega)
          obtain rfl : x = V.int z := Option.some.inj (hx.symm.trans hz)
          walk_at "ev"
          refine ⟨_, _, rfl, .int z, ?_⟩
          walk_at "ev"
          exact ⟨by omega, _, rfl, rfl⟩
      · rintro σ H1 ⟨hi, v1, rfl, rfl⟩
        have := (List.getElem?_eq_some_iff.mp hj).1
        exfalso
        omega
/-! ### bits -/
def spIsNum : Sp := fun vs H Q _ => ∃ (z : Int), vs = [.int z] ∧ Q (.bl true) H
theorem ok_is_number {f : Addr} {fd : FuncData} {k : Nat} (F : Fun K "is_number" "is_number" s_is_number f fd) (T : Txt mg) : FnOk P w K mg base CX0 (k + 1) f fd ["thing"] spIsNum := by
  refine F.ok sc_is_number (fun vs H Q E h => ?_) (fun cdv A outer s H vs Q E hr h => ?_)
  · obtain ⟨z, rfl, _⟩ := h
    rfl
  · obtain ⟨z, rfl, q⟩ := h
    refine ⟨_, (pss_one (ps_ret (pe_and (pe_callB call_isi (by rfl) T.z_isinstance PyProof.Rows.boot_isinstance (pa_cons (pv 0) (pa_cons (pe_bltn (v := .ty "int") (by rfl) T.z_int PyProof.Rows.boot_int rfl) pa_nil))) (pe_one (pe_not (pe_callB call_isi (by rfl) T.z_isinstance PyProof.Rows.boot_isinstance (pa_cons (pv 0) (pa_cons (pe_bltn (v := .ty "bool") (by rfl) T.z_bool PyProof.Rows.boot_bool rfl) pa_nil)))))))), ?_⟩
    walk_at "ev"
    exact q
def spCheckB : Sp := fun vs H Q _ => ∃ (p : Addr) (xs : List Int), vs = [.ref p] ∧ H p = some (.lst (xs.map V.int)) ∧ AreBits xs ∧ Q .non H
theorem ok_check_bits {f : Addr} {fd : FuncData} {k : Nat} (F : Fun K "check_bits" "check_bits" s_check_bits f fd) (c_is_number : C8.Cal P w K mg base 1 "is_number" spIsNum []) : FnOk P w K mg base CX0 (k + 2) f fd ["bits"] spCheckB := by
  refine F.ok sc_check_bits (fun vs H Q E h => ?_) (fun cdv A outer s H vs Q E hr h => ?_)
  · obtain ⟨p, xs, rfl, _⟩ := h
    rfl
  · obtain ⟨p, xs, rfl, hp, hb, q⟩ := h
    refine ⟨_, (pss_one (ps_for PassesOwn.never rfl (pi_list (pv 0)) (pg_name (i := 1) sc_check_bits.nd rfl (Or.inl rfl))
      (pss_one (ps_if (PW.pt (pw_or (pt_not (pt_val (C8.pe_c c_is_number hr (by omega) (by rfl) (pa_cons (pv 1) pa_nil)))) (pw_or1 (pt_not (pt_chain op_le op_le pe_int (pv 1) pe_int))))) (pss_one ps_never) pss_nil)))), ?_⟩
    walk_at "ev"
    refine ⟨⟨_, .inl (.inl hp)⟩, for_list (K := K) (a := p) (xs := xs.map V.int) (fun _ σ H1 => ∃ v, σ = [some (.ref p), v] ∧ H1 = H) ⟨_, rfl, rfl⟩ (fun _ _ _ _ ⟨_, _, e⟩ => by rw [e]; exact .inl (.inl hp)) ?_ ?_⟩
    · rintro i x σ H1 hx ⟨v, rfl, rfl⟩
      rw [List.getElem?_map] at hx
      obtain ⟨z, hz, rfl⟩ := Option.map_eq_some_iff.mp hx
      have hz2 := hb z (List.mem_of_getElem? hz)
      walk_at "ev"
      rfl
    · rintro σ H1 ⟨v, rfl, rfl⟩
      exact q
def spNumber : Sp := fun vs H Q _ => ∃ (p : Addr) (xs : List Int), vs = [.ref p] ∧ H p = some (.lst (xs.map V.int)) ∧ Q (.int (valI xs)) H
theorem ok_number_of {f : Addr} {fd : FuncData} {k : Nat} (F : Fun K "number_of" "number_of" s_number_of f fd) : FnOk P w K mg base CX0 (k + 1) f fd ["bits"] spNumber := by
  refine F.ok sc_number_of (fun vs H Q E h => ?_) (fun cdv A outer s H vs Q E hr h => ?_)
  · obtain ⟨p, xs, rfl, _⟩ := h
    rfl
  · obtain ⟨p, xs, rfl, hp, q⟩ := h
    refine ⟨_, (pss_cons (ps_set (i := 1) sc_number_of.nd rfl (Or.inl rfl) pe_int)
    (pss_cons (ps_for PassesOwn.never rfl (pi_list (pv 0)) (pg_name (i := 2) sc_number_of.nd rfl (Or.inl rfl))
      (pss_one (ps_set (i := 1) sc_number_of.nd rfl (Or.inl rfl) (pe_op op_add (pe_op op_mul pe_int (pv 1)) (pv 2)))))
    (pss_one (ps_ret (pv 1))))), ?_⟩
    walk_at "ev"
    refine ⟨⟨_, .inl (.inl hp)⟩, for_list (K := K) (a := p) (xs := xs.map V.int) (fun i σ H1 => ∃ v, σ = [some (.ref p), some (.int (valI (xs.take i))), v] ∧ H1 = H) ⟨_, rfl, rfl⟩ (fun _ _ _ _ ⟨_, _, e⟩ => by rw [e]; exact .inl (.inl hp)) ?_ ?_⟩
    · rintro i x σ H1 hx ⟨v, rfl, rfl⟩
      rw [List.getElem?_map] at hx
      obtain ⟨z, hz, rfl⟩ := Option.map_eq_some_iff.mp hx
      walk_at "ev"
      refine ⟨some (.int z), ?_, rfl⟩
      rw [← take_snoc hz, valI_snoc]
      rfl
    · rintro σ H1 ⟨v, rfl, rfl⟩
      walk_at "ev"
      rw [List.length_map, List.take_length]
      exact q
def spCountAt : Sp := fun vs H Q _ => ∃ (p : Addr) (xs : List Int) (a : Nat), vs = [.ref p, .int a] ∧ H p = some (.lst (xs.map V.int)) ∧ AreBits xs ∧ a ≤ xs.length ∧ xs.length ≤ 1000 ∧ ∀ (q : Addr) (H' : Hp), H q = none → Same H H' → H' q = some (.tup (rcV (readC xs a))) → Q (.ref q) H'
theorem ok_count_at {f : Addr} {fd : FuncData} {k : Nat} {t : Tok} (F : Fun K "count_at" "count_at" s_count_at f fd) (T : Txt mg) (hZ : mg "MOST_ZEROS" = some (.int 40 t)) (c_number_of : C8.Cal P w K mg base 1 "number_of" spNumber []) : FnOk P w K mg base CX0 (k + 2) f fd ["bits", "at"] spCountAt := by
  refine F.ok sc_count_at (fun vs H Q E h => ?_) (fun cdv A outer s H vs Q E hr h => ?_)
  · obtain ⟨p, xs, a, rfl, _⟩ := h
    rfl
  · obtain ⟨p, xs, a, rfl, hp, hb, ha, hl, q⟩ := h
    have hz := lz_le (xs.drop a)
    rw [List.length_drop] at hz
    refine ⟨_, (pss_cons (ps_set (i := 2) sc_count_at.nd rfl (Or.inl rfl) (pv 1))
    (pss_cons (ps_while PassesOwn.never (PW.pt (pw_and (pt_cmpR op_lt (pv 2) (pe_callB call_len_seq (by rfl) T.z_len PySem.boot_len (pa_cons (pv 0) pa_nil)) (nomark _)) (pw_and1 (pt_cmpR op_eq (pe_ix ix_list (pv 0) (pv 2) (fun _ _ => rfl)) pe_int (nomark _)))))
      (pss_cons (ps_aug (i := 2) sc_count_at.nd rfl (Or.inl rfl) pe_int ip_add)
    (pss_one (ps_if (pt_cmpR op_gt (pe_op op_sub (pv 2) (pv 1)) (pe_glob (v := .int 40) (by rfl) hZ ⟨_, rfl⟩) (nomark _)) (pss_one (ps_ret (pe_tup (pa_cons pe_str pa_nil)))) pss_nil))))
    (pss_cons (ps_set (i := 3) sc_count_at.nd rfl (Or.inl rfl) (pe_op op_sub (pv 2) (pv 1)))
    (pss_cons (ps_set (i := 4) sc_count_at.nd rfl (Or.inl rfl) (pe_op op_add (pe_op op_add (pv 2) pe_int) (pv 3)))
    (pss_cons (ps_if (pt_cmpR op_gt (pv 4) (pe_callB call_len_seq (by rfl) T.z_len PySem.boot_len (pa_cons (pv 0) pa_nil)) (nomark _)) (pss_one (ps_ret (pe_tup (pa_cons pe_str pa_nil)))) pss_nil)
    (pss_one (ps_ret (pe_tup (pa_cons pe_str (pa_cons (pe_op op_sub (C8.pe_c c_number_of hr (by omega) (by rfl) (pa_cons (pe_slice sl_list (pv 0) (po_some (pv 2)) (po_some (pv 4))) pa_nil)) pe_int) (pa_cons (pv 4) pa_nil))))))))))), ?_⟩
    walk_at "ev"
    refine ⟨fun m σ H1 => ∃ j : Nat, σ = [some (.ref p), some (.int a), some (.int ((a + j : Nat) : Int)), none, none] ∧ H1 = H ∧ j ≤ lz (xs.drop a) ∧ j ≤ 40 ∧ m = xs.length - (a + j), ⟨_, 0, rfl, rfl, Nat.zero_le _, Nat.zero_le _, rfl⟩, ?_⟩
    rintro m σ H1 ⟨j, rfl, rfl, hj, hj2, rfl⟩
    have hml : (xs.map V.int).length = xs.length := List.length_map _
    have sh : ∀ {r}, readC xs a = r → ∀ (o : HO), o = .tup (rcV r) → ∀ (q' : Addr), H1 q' = none → Q (.ref q') (upd H1 q' o) := fun e o eo q' nq => q q' _ nq (same_upd nq) (by rw [upd_same, eo, e])
    walk_at "ev"
    · obtain ⟨z, hz1⟩ : ∃ z, xs[a + j]? = some z := by
        refine ⟨xs[a + j]'?_, List.getElem?_eq_getElem _⟩
        have : ((a + j : Nat) : Int) < ((xs.map V.int).length : Int) := by assumption
        rw [List.length_map] at this
        omega
      have hd : (xs.drop a)[j]? = some z := by
        rw [List.getElem?_drop]
        exact hz1
      have hlt : a + j < xs.length := (List.getElem?_eq_some_iff.mp hz1).1
      refine ⟨_, _, _, _, rfl, rfl, .inl (.inl hp), at_of (j := a + j) rfl (by rw [List.getElem?_map, hz1]; rfl), ?_⟩
      walk_at "ev"
      · have e0 : z = 0 := by assumption
        subst e0
        have hj3 := lz_more hj hd
        refine ⟨_, fun σ' H' h => h, ?_⟩
        walk_at "ev"
        · refine ⟨(by show 1 ≤ sizeLine; decide), sh (r := .long) ?_ _ rfl⟩
          unfold readC
          rw [if_pos (by omega)]
        · refine ⟨xs.length - (a + (j + 1)), by omega, j + 1, rfl, rfl, hj3, by omega, rfl⟩
      · have e0 : z ≠ 0 := by assumption
        have hlz := lz_stop hj hd e0
        refine ⟨(by show 1 ≤ sizeLine; decide), sh (r := .short) ?_ _ rfl⟩
        unfold readC
        rw [hlz, if_neg (by omega), if_pos (by omega)]
      · have e0 : z ≠ 0 := by assumption
        have hlz := lz_stop hj hd e0
        have hst : a + j + 1 + j ≤ xs.length := by omega
        walk_at "ev"
        refine ⟨_, _, rfl, .inl (.inl hp), fun p1 n1 => ?_⟩
        walk_at "ev"
        refine ⟨p1, (xs.drop (a + j)).take (j + 1), rfl, ?_, ?_⟩
        · rw [upd_same, cut_int (i := a + j) (k := a + j + 1 + j) rfl (by omega) (by rw [List.length_map]; omega) (by rw [List.length_map]; omega), List.map_take, List.map_drop, show a + j + 1 + j - (a + j) = j + 1 by omega]
        · walk_at "ev"
          refine ⟨(by show 3 ≤ sizeLine; decide), fun p2 n2 => q p2 _ ((same_upd n1).free n2) ((same_upd n1).trans (same_upd n2)) ?_⟩
          rw [upd_same, show readC xs a = .read (valI ((xs.drop (a + j)).take (j + 1)) - 1) (a + j + 1 + j) by
            unfold readC
            rw [hlz, if_neg (by omega), if_neg (by omega)]]
          have e9 : ((a + j : Nat) : Int) + 1 + (((a + j : Nat) : Int) - (a : Int)) = ((a + j + 1 + j : Nat) : Int) := by omega
          show some (HO.tup [_, V.int _, V.int (((a + j : Nat) : Int) + 1 + (((a + j : Nat) : Int) - (a : Int)))]) = _
          rw [e9]
          rfl
    · have hlz : lz (xs.drop a) = j := by omega
      walk_at "ev"
      refine ⟨(by show 1 ≤ sizeLine; decide), sh (r := .short) ?_ _ rfl⟩
      unfold readC
      rw [hlz, if_neg (by omega), if_pos (by omega)]
/-! ### check_of, check -/
theorem pr_top {h : Nat} {z : Int} (hz : 0 ≤ z) : Builtin.bitXor ((h : Int) / 2 ^ ((8 : Int) - 1).toNat) z = (((h / 128) ^^^ z.toNat : Nat) : Int) := by
  have e : (h : Int) / 2 ^ ((8 : Int) - 1).toNat = ((h / 128 : Nat) : Int) := by
    rw [show (2 : Int) ^ ((8 : Int) - 1).toNat = 128 by decide]
    omega
  rw [e, Bits.bitXor_pp (by omega) hz, Int.toNat_natCast]
theorem pr_held (h : Nat) : Builtin.bitAnd (2 * (h : Int)) (1 * 2 ^ Int.toNat 8 - 1) = ((2 * h % 256 : Nat) : Int) := by
  rw [show (1 * 2 ^ Int.toNat 8 - 1 : Int) = 2 ^ 8 - 1 by decide, PySem.W.kbt_mask]
  omega
theorem pr_feed (n : Nat) : Builtin.bitXor (n : Int) 7 = ((n ^^^ 7 : Nat) : Int) := by
  rw [Bits.bitXor_pp (by omega) (by decide), Int.toNat_natCast]
  rfl
def spCheckOf : Sp := fun vs H Q _ => ∃ (p : Addr) (xs : List Int), vs = [.ref p] ∧ H p = some (.lst (xs.map V.int)) ∧ AreBits xs ∧ ∀ (q : Addr) (H' : Hp), H q = none → Same H H' → H' q = some (.lst ((crcI xs).map V.int)) → Q (.ref q) H'
theorem ok_check_of {f : Addr} {fd : FuncData} {k : Nat} (F : Fun K "check_of" "check_of" s_check_of f fd) (CN : Con mg t1 t2 t3 t4 t5) (c_fixed : C8.Cal P w K mg base 1 "fixed" spFixed []) : FnOk P w K mg base CX0 (k + 2) f fd ["bits"] spCheckOf := by
  refine F.ok sc_check_of (fun vs H Q E h => ?_) (fun cdv A outer s H vs Q E hr h => ?_)
  · obtain ⟨p, xs, rfl, _⟩ := h
    rfl
  · obtain ⟨p, xs, rfl, hp, hb, q⟩ := h
    refine ⟨_, (pss_cons (ps_set (i := 1) sc_check_of.nd rfl (Or.inl rfl) pe_int)
    (pss_cons (ps_for PassesOwn.never rfl (pi_list (pv 0)) (pg_name (i := 2) sc_check_of.nd rfl (Or.inl rfl))
      (pss_cons (ps_set (i := 3) sc_check_of.nd rfl (Or.inl rfl) (pe_op op_xor (pe_op op_shr (pv 1) (pe_op op_sub (pe_glob (v := .int 8) (by rfl) CN.check ⟨_, rfl⟩) pe_int)) (pv 2)))
    (pss_cons (ps_set (i := 1) sc_check_of.nd rfl (Or.inl rfl) (pe_op op_and (pe_op op_mul pe_int (pv 1)) (pe_op op_sub (pe_op op_shl pe_int (pe_glob (v := .int 8) (by rfl) CN.check ⟨_, rfl⟩)) pe_int)))
    (pss_one (ps_if (pt_cmpR op_eq (pv 3) pe_int (nomark _)) (pss_one (ps_set (i := 1) sc_check_of.nd rfl (Or.inl rfl) (pe_op op_xor (pv 1) (pe_glob (v := .int 7) (by rfl) CN.feed ⟨_, rfl⟩)))) pss_nil)))))
    (pss_one (ps_ret (C8.pe_c c_fixed hr (by omega) (by rfl) (pa_cons (pv 1) (pa_cons (pe_glob (v := .int 8) (by rfl) CN.check ⟨_, rfl⟩) pa_nil))))))), ?_⟩
    walk_at "ev"
    refine ⟨⟨_, .inl (.inl hp)⟩, for_list (K := K) (a := p) (xs := xs.map V.int) (fun i σ H1 => ∃ v t, σ = [some (.ref p), some (.int (crcN (xs.take i))), v, t] ∧ H1 = H) ⟨_, _, rfl, rfl⟩ (fun _ _ _ _ ⟨_, _, _, e⟩ => by rw [e]; exact .inl (.inl hp)) ?_ ?_⟩
    · rintro i x σ H1 hx ⟨v, t, rfl, rfl⟩
      rw [List.getElem?_map] at hx
      obtain ⟨z, hz, rfl⟩ := Option.map_eq_some_iff.mp hx
      have hz2 := hb z (List.mem_of_getElem? hz)
      have hh := crcN_lt (hb.take i)
      have es := crcN_snoc (xs.take i) z
      rw [take_snoc hz] at es
      generalize crcN (xs.take i) = h at *
      walk_at "ev"
      · rename_i hc
        rw [pr_top hz2.1] at hc
        have ht : (h / 128) ^^^ z.toNat = 1 := by omega
        refine ⟨some (.int z), some (.int (Builtin.bitXor (↑h / 2 ^ ((8 : Int) - 1).toNat) z)), ?_, rfl⟩
        rw [es, cst, ht]
        show [_, some (V.int (Builtin.bitXor (Builtin.bitAnd (2 * ↑h) (1 * 2 ^ Int.toNat 8 - 1)) 7)), _, _] = _
        rw [pr_held, pr_feed]
      · rename_i hc
        rw [pr_top hz2.1] at hc
        have ht : (h / 128) ^^^ z.toNat = 0 := (cst_top hh hz2).resolve_right (by omega)
        refine ⟨some (.int z), some (.int (Builtin.bitXor (↑h / 2 ^ ((8 : Int) - 1).toNat) z)), ?_, rfl⟩
        rw [es, cst, ht]
        show [_, some (V.int (Builtin.bitAnd (2 * ↑h) (1 * 2 ^ Int.toNat 8 - 1))), _, _] = _
        rw [pr_held, Nat.mul_zero, Nat.xor_zero]
    · rintro σ H1 ⟨v, t, rfl, rfl⟩
      walk_at "ev"
      rw [List.length_map, List.take_length]
      exact ⟨crcN_lt hb, by decide, q⟩
/-! ### parts, cells -/
/-- lists at addresses -/
def Rws (H : Hp) (rs : List Addr) (ls : List (List V)) : Prop := rs.length = ls.length ∧ ∀ (i : Nat) (r : Addr), rs[i]? = some r → ∃ l, ls[i]? = some l ∧ H r = some (.lst l)
theorem Rws.same {H H' : Hp} {rs : List Addr} {ls : List (List V)} (s : Same H H') (h : Rws H rs ls) : Rws H' rs ls := ⟨h.1, fun i r e => by
  obtain ⟨l, e1, e2⟩ := h.2 i r e
  exact ⟨l, e1, s _ _ e2⟩⟩
def chunks {α : Type} (xs : List α) (n : Nat) : List (List α) := (List.range ((xs.length + n - 1) / n)).map fun i => (xs.drop (i * n)).take n
theorem chunks_map {α β : Type} (f : α → β) (xs : List α) (n : Nat) : chunks (xs.map f) n = (chunks xs n).map (·.map f) := by
  unfold chunks
  rw [List.length_map, List.map_map]
  refine List.map_congr_left fun i _ => ?_
  show _ = List.map f _
  rw [List.map_take, List.map_drop]
theorem chunks_len {α : Type} (xs : List α) (n : Nat) : (chunks xs n).length = (xs.length + n - 1) / n := by
  unfold chunks
  rw [List.length_map, List.length_range]
theorem chunks_get {α : Type} {xs : List α} {n i : Nat} {l : List α} (h : (chunks xs n)[i]? = some l) : l = (xs.drop (i * n)).take n := by
  unfold chunks at h
  rw [List.getElem?_map] at h
  obtain ⟨j, hj, rfl⟩ := Option.map_eq_some_iff.mp h
  have := (List.getElem?_eq_some_iff.mp hj).2
  rw [List.getElem_range] at this
  rw [this]
theorem rs_parts {m n : Nat} (hn : 0 < n) : Builtin.Range.rangeSize 0 (m : Int) (n : Int) = (((m + n - 1) / n : Nat) : Int) := by
  unfold Builtin.Range.rangeSize
  rw [if_pos (by omega)]
  by_cases h : m = 0
  · subst h
    rw [if_neg (by omega), Nat.div_eq_of_lt (by omega)]
    rfl
  · have e : (m + n - 1) / n = (m - 1) / n + 1 := by
      rw [show m + n - 1 = (m - 1) + n by omega, Nat.add_div_right _ hn]
    rw [if_pos (by omega), e, Int.natCast_add, Int.natCast_ediv, show ((m - 1 : Nat) : Int) = (m : Int) - 0 - 1 by omega]
    rfl
theorem rg_parts {m n : Nat} (hn : 0 < n) (hn2 : n < 100000) (hm : m < 1000000) : RgC 0 (m : Int) (n : Int) ((m + n - 1) / n) := by
  refine ⟨by omega, by omega, ?_, rs_parts hn⟩
  have h : (m + n - 1) / n ≤ m + n - 1 := Nat.div_le_self _ _
  unfold Builtin.Range.small
  rw [rs_parts hn]
  generalize (m + n - 1) / n = q at h ⊢
  simp only [Builtin.Range.rangeFitsLong, Bool.and_eq_true, Bool.or_eq_true, decide_eq_true_eq, beq_iff_eq, show ((n : Int) > 0) by omega, if_true]
  repeat' (first | omega | refine ⟨?_, ?_⟩ | split)
theorem tn_le {t m n : Nat} (hn : 0 < n) (h : t < (m + n - 1) / n) : t * n ≤ m := by
  have h2 := (Nat.lt_div_iff_mul_lt hn).mp h
  have h3 : n * t = t * n := Nat.mul_comm _ _
  omega
theorem cd_le (m n : Nat) : (m + n - 1) / n ≤ m := by
  rcases Nat.eq_zero_or_pos n with rfl | hn
  · simp
  · rcases Nat.eq_zero_or_pos m with rfl | hm
    · rw [Nat.div_eq_of_lt (by omega)]
      exact Nat.le_refl _
    · refine Nat.div_le_of_le_mul ?_
      have : m + n ≤ n * m + 1 := by
        obtain ⟨a, rfl⟩ : ∃ a, n = a + 1 := ⟨n - 1, by omega⟩
        obtain ⟨b, rfl⟩ : ∃ b, m = b + 1 := ⟨m - 1, by omega⟩
        rw [Nat.add_mul, Nat.mul_add]
        omega
      omega
def spParts : Sp := fun vs H Q _ => ∃ (p : Addr) (xs : List V) (n : Nat), vs = [.ref p, .int n] ∧ H p = some (.lst xs) ∧ 0 < n ∧ n < 100000 ∧ xs.length < 1000000 ∧ ∀ (q : Addr) (rs : List Addr) (H' : Hp), H q = none → Same H H' → H' q = some (.lst (rs.map V.ref)) → Rws H' rs (chunks xs n) → (∀ r ∈ rs, H r = none ∧ r ≠ q) → rs.Nodup → Q (.ref q) H'
theorem small_m {n : Nat} (h : n < 1000000) : n < sizeLine := Nat.lt_of_lt_of_le h (by decide)
theorem ok_parts {f : Addr} {fd : FuncData} {k : Nat} (F : Fun K "parts_of" "parts_of" s_parts_of f fd) (T : Txt mg) : FnOk P w K mg base CX0 (k + 1) f fd ["things", "size"] spParts := by
  refine F.ok sc_parts_of (fun vs H Q E h => ?_) (fun cdv A outer s H vs Q E hr h => ?_)
  · obtain ⟨p, xs, n, rfl, _⟩ := h
    rfl
  · obtain ⟨p, xs, n, rfl, hp, hn, hn2, hl, q⟩ := h
    refine ⟨_, (pss_one (ps_ret (pe_lc (own := [("at", 2)]) (g := (gName 2)) (tt := tYes) rfl sc_parts_of.nd (pi_range3 (by rfl) T.z_range (pa_cons pe_int (pa_cons (pe_callB call_len_seq (by rfl) T.z_len PySem.boot_len (pa_cons (pv 0) pa_nil)) (pa_cons (pv 1) pa_nil)))) (blkOk_by (N := ["things", "size", "at"]) (sc := defScope s_parts_of) (by decide +kernel)) (fun _ _ _ _ _ => pg_name (i := 2) sc_parts_of.nd rfl (by first | exact Or.inl rfl | exact Or.inr rfl)) (fun _ _ _ _ _ => pts_nil) (fun _ _ _ _ _ => (pe_callTy (call_list_of : CallR _ (.type "list") (fun xs H Q => ∃ p ys, xs = [.ref p] ∧ (SqL K H p ys ∨ SqT K H p ys) ∧ ∀ (l : Addr), H l = none → Q (.ref l) (upd H l (.lst ys)))) (by rfl) T.z_list PyProof.Rows.boot_list (pa_cons (pe_slice (sl_list : SlR _ (rSlL K)) (pv 0) (po_some (pv 2)) (po_some (pe_op op_add (pv 2) (pv 1)))) pa_nil)))))), ?_⟩
    walk_at "ev"
    refine ⟨_, _, _, _, rfl, rg_parts hn hn2 hl, fun D nD => ?_⟩
    refine lc_it walk_rangeC (fun t H2 => ∃ rs : List Addr, rs.length = t ∧ H2 D = some (.lst (rs.map V.ref)) ∧ Same H H2 ∧ Rws H2 rs ((chunks xs n).take t) ∧ (∀ r ∈ rs, H r = none ∧ r ≠ D) ∧ rs.Nodup) ?_ (fun _ _ _ _ => trivial) ?_ ?_
    · exact ⟨[], rfl, upd_same, same_upd nD, ⟨by rw [List.take_zero]; rfl, fun i r e => by simp at e⟩, fun _ m => absurd m List.not_mem_nil, List.nodup_nil⟩
    · rintro t x H2 H3 ht ⟨rs, h1, h2, h3, h4, h5, h6⟩ ⟨rfl, rfl⟩
      walk_at "ev"
      refine ⟨p, xs, rfl, .inl (.inl (h3 _ _ hp)), fun p1 n1 => ?_⟩
      rw [cut_any (i := t * n) (k := t * n + n) (by rw [Int.natCast_mul]; omega) (by rw [Int.natCast_add, Int.natCast_mul]; omega) (tn_le hn ht), show t * n + n - t * n = n by omega]
      refine ⟨p1, _, rfl, .inl (.inl (.inl upd_same)), fun l nl => ?_⟩
      have n1l := ne_of_none (upd_same (H := H3) (o := .lst ((xs.drop (t * n)).take n))) nl
      have nl3 : H3 l = none := by rwa [upd_ne n1l.symm] at nl
      have d1 := ne_of_none h2 n1
      have dl := ne_of_none h2 nl3
      have kp : ∀ b o, H3 b = some o → b ≠ D → upd (upd (upd H3 p1 (.lst ((xs.drop (t * n)).take n))) l (.lst ((xs.drop (t * n)).take n))) D (.lst (rs.map V.ref ++ [.ref l])) b = some o := fun b o e nb => by
        rw [upd_ne nb, upd_ne (ne_of_none e nl3), upd_ne (ne_of_none e n1)]
        exact e
      refine ⟨_, (by rw [upd_ne dl, upd_ne d1]; exact h2), ?_, rs ++ [l], ?_, ?_, ?_, ⟨?_, fun i r e => ?_⟩, ?_, ?_⟩
      · rw [List.length_map, h1]
        exact small_m (Nat.lt_of_lt_of_le ht (Nat.le_trans (cd_le _ _) (Nat.le_of_lt hl)))
      · rw [List.length_append, h1]
        rfl
      · rw [upd_same, List.map_append]
        rfl
      · exact fun b o e => kp b o (h3 b o e) (ne_of_none e nD)
      · rw [List.length_append, List.length_take, chunks_len, h1, Nat.min_eq_left (by omega)]
        rfl
      · by_cases hi : i < t
        · rw [List.getElem?_append_left (by omega)] at e
          obtain ⟨l2, f1, f2⟩ := h4.2 i r e
          refine ⟨l2, ?_, ?_⟩
          · rw [List.getElem?_take_of_lt hi] at f1
            rw [List.getElem?_take_of_lt (by omega)]
            exact f1
          · exact kp _ _ f2 (h5 r (List.mem_of_getElem? e)).2
        · have hj : i = t := by
            have := (List.getElem?_eq_some_iff.mp e).1
            rw [List.length_append, h1] at this
            simp at this
            omega
          subst hj
          rw [List.getElem?_append_right (by omega), h1, Nat.sub_self] at e
          cases e
          refine ⟨(xs.drop (i * n)).take n, ?_, ?_⟩
          · rw [List.getElem?_take_of_lt (by omega), chunks, List.getElem?_map, List.getElem?_range ht]
            rfl
          · rw [upd_ne dl.symm, upd_same]
      · intro r m
        rcases List.mem_append.mp m with m | m
        · exact h5 r m
        · rw [List.mem_singleton.mp m]
          exact ⟨h3.free nl3, dl.symm⟩
      · refine List.nodup_append.mpr ⟨h6, by simp, fun a ma b mb => ?_⟩
        rw [List.mem_singleton.mp mb]
        rintro rfl
        obtain ⟨i, hi⟩ := List.mem_iff_getElem?.mp ma
        obtain ⟨l2, _, f2⟩ := h4.2 i a hi
        rw [nl3] at f2
        cases f2
    · rintro H2 ⟨rs, h1, h2, h3, h4, h5, h6⟩
      rw [List.take_of_length_le (by rw [chunks_len]; exact Nat.le_refl _)] at h4
      exact q D rs H2 nD h3 h2 h4 h5 h6
theorem eqv_ints (a b : List Int) : PyData.eqv (.list (a.map PyData.int)) (.list (b.map PyData.int)) = decide (a = b) := by
  rw [PyData.eqv]
  exact PySem.W.ked_eqvAll a b
theorem q_eqII {K : PySem.W.Frag} {H : Hp} {p q : Addr} {ns ms : List Int} {Q : VK} (hp : H p = some (.lst (ns.map V.int))) (hq : H q = some (.lst (ms.map V.int))) (h : Q (.bl (decide (ns = ms))) H) : rEqD K (.ref p) (.ref q) H Q :=
  ⟨_, _, dp_ints (.inl (.inl hp)), dp_ints (.inl (.inl hq)), sh_ints ns, sh_ints ms, by rw [eqv_ints]; exact h⟩
theorem q_neII {K : PySem.W.Frag} {H : Hp} {p q : Addr} {ns ms : List Int} {Q : VK} (hp : H p = some (.lst (ns.map V.int))) (hq : H q = some (.lst (ms.map V.int))) (h : Q (.bl (!decide (ns = ms))) H) : rNeD K (.ref p) (.ref q) H Q :=
  ⟨_, _, dp_ints (.inl (.inl hp)), dp_ints (.inl (.inl hq)), sh_ints ns, sh_ints ms, by rw [eqv_ints]; exact h⟩
def spIsGood : Sp := fun vs H Q _ => ∃ (p : Addr) (xs : List Int), vs = [.ref p] ∧ H p = some (.lst (xs.map V.int)) ∧ AreBits xs ∧ xs.length = 56 ∧ ∀ H', Same H H' → Q (.bl (goodC xs)) H'
theorem ok_is_good {f : Addr} {fd : FuncData} {k : Nat} (F : Fun K "is_good" "is_good" s_is_good f fd) (CN : Con mg t1 t2 t3 t4 t5) (c_check_of : C8.Cal P w K mg base 2 "check_of" spCheckOf []) : FnOk P w K mg base CX0 (k + 3) f fd ["cell"] spIsGood := by
  refine F.ok sc_is_good (fun vs H Q E h => ?_) (fun cdv A outer s H vs Q E hr h => ?_)
  · obtain ⟨p, xs, rfl, _⟩ := h
    rfl
  · obtain ⟨p, xs, rfl, hp, hb, hl, q⟩ := h
    have hu := hr.units
    refine ⟨_, (pss_one (ps_ret (pe_cmpR (op_eqD hu) (C8.pe_c c_check_of hr (by omega) (by rfl) (pa_cons (pe_slice sl_list (pv 0) po_none (po_some (pe_glob (v := .int 48) (by rfl) CN.load ⟨_, rfl⟩))) pa_nil)) (pe_slice sl_list (pv 0) (po_some (pe_glob (v := .int 48) (by rfl) CN.load ⟨_, rfl⟩)) po_none) (nomark _)))), ?_⟩
    walk_at "ev"
    refine ⟨p, _, rfl, .inl (.inl hp), fun p1 n1 => ?_⟩
    have e1 : cutV (xs.map V.int) none (some 48) = (xs.take 48).map V.int := by
      rw [cut_to (y := 48) (k := 48) rfl (by rw [List.length_map, hl]; decide), List.map_take]
    rw [e1]
    refine ⟨p1, _, rfl, upd_same, hb.take _, fun p2 H2 n2 s2 e2 => ?_⟩
    walk_at "ev"
    have sA := (same_upd (o := .lst ((xs.take 48).map V.int)) n1).trans s2
    refine ⟨p, _, rfl, .inl (.inl (sA _ _ hp)), fun p3 n3 => ?_⟩
    have e3 : cutV (xs.map V.int) (some 48) none = (xs.drop 48).map V.int := by
      unfold cutV
      rw [HT.sIx_none, show (48 : Int) = ((48 : Nat) : Int) from rfl, HT.sIx_nat, List.length_map, hl, List.take_of_length_le (by rw [List.length_drop, List.length_map, hl]; decide), ← List.map_drop]
      rfl
    rw [e3]
    refine q_eqII (new_at e2 n3) upd_same ?_
    exact q _ (sA.trans (same_upd n3))
def spGroup : Sp := fun vs H Q _ => ∃ (g : Int), vs = [.int g] ∧ 1 ≤ g ∧ g ≤ 8 ∧ Q .non H
theorem ok_check_group {f : Addr} {fd : FuncData} {k : Nat} (F : Fun K "check_group" "check_group" s_check_group f fd) (CN : Con mg t1 t2 t3 t4 t5) : FnOk P w K mg base CX0 (k + 1) f fd ["group"] spGroup := by
  refine F.ok sc_check_group (fun vs H Q E h => ?_) (fun cdv A outer s H vs Q E hr h => ?_)
  · obtain ⟨g, rfl, _⟩ := h
    rfl
  · obtain ⟨g, rfl, h1, h2, q⟩ := h
    refine ⟨_, (pss_one (ps_if (pt_not (pt_chain op_le op_le pe_int (pv 0) (pe_glob (v := .int 8) (by rfl) CN.group ⟨_, rfl⟩))) (pss_one ps_never) pss_nil)), ?_⟩
    walk_at "ev"
    exact q
def spCells : Sp := fun vs H Q _ => ∃ (p : Addr) (xs : List Int) (m g : Nat), vs = [.ref p, .int g] ∧ H p = some (.lst (xs.map V.int)) ∧ AreBits xs ∧ xs.length = 56 * m ∧ 1 ≤ m ∧ 1 ≤ g ∧ g ≤ 8 ∧ m % (g + 1) ≠ 1 ∧ Q .non H
theorem ok_check_cells {f : Addr} {fd : FuncData} {k : Nat} (F : Fun K "check_cells" "check_cells" s_check_cells f fd) (T : Txt mg) (CN : Con mg t1 t2 t3 t4 t5) (c_check_bits : C8.Cal P w K mg base 2 "check_bits" spCheckB []) (c_check_group : C8.Cal P w K mg base 1 "check_group" spGroup []) : FnOk P w K mg base CX0 (k + 3) f fd ["protected", "group"] spCells := by
  refine F.ok sc_check_cells (fun vs H Q E h => ?_) (fun cdv A outer s H vs Q E hr h => ?_)
  · obtain ⟨p, xs, m, g, rfl, _⟩ := h
    rfl
  · obtain ⟨p, xs, m, g, rfl, hp, hb, hl, hm, h1, h2, h3, q⟩ := h
    have hL : ((List.map V.int xs).length : Int) = 56 * m := by
      rw [List.length_map, hl]
      omega
    have hD : ((List.map V.int xs).length : Int) / 56 = m := by omega
    refine ⟨_, (pss_cons (ps_expr (C8.pe_c c_check_bits hr (by omega) (by rfl) (pa_cons (pv 0) pa_nil)))
    (pss_cons (ps_expr (C8.pe_c c_check_group hr (by omega) (by rfl) (pa_cons (pv 1) pa_nil)))
    (pss_cons (ps_set (i := 2) sc_check_cells.nd rfl (Or.inl rfl) (pe_op op_fdiv (pe_callB call_len_seq (by rfl) T.z_len PySem.boot_len (pa_cons (pv 0) pa_nil)) (pe_glob (v := .int 56) (by rfl) CN.cell ⟨_, rfl⟩)))
    (pss_one (ps_if (PW.pt (pw_or (pt_cmpR op_lt (pv 2) pe_int (nomark _)) (pw_or (pt_cmpR op_ne (pe_op op_mod (pe_callB call_len_seq (by rfl) T.z_len PySem.boot_len (pa_cons (pv 0) pa_nil)) (pe_glob (v := .int 56) (by rfl) CN.cell ⟨_, rfl⟩)) pe_int (nomark _)) (pw_or1 (pt_cmpR op_eq (pe_op op_mod (pv 2) (pe_op op_add (pv 1) pe_int)) pe_int (nomark _)))))) (pss_one ps_never) pss_nil))))), ?_⟩
    walk_at "ev"
    refine ⟨p, xs, rfl, hp, hb, ?_⟩
    walk_at "ev"
    refine ⟨by omega, ?_⟩
    walk_at "ev"
    · rename_i hc
      rw [hD] at hc
      have hc2 : ((m % (g + 1) : Nat) : Int) = 1 := by
        rw [Int.natCast_emod]
        exact hc
      omega
    · exact q
def spGood : Sp := fun vs H Q _ => ∃ (p : Addr) (xs : List Int) (m g : Nat), vs = [.ref p, .int g] ∧ H p = some (.lst (xs.map V.int)) ∧ AreBits xs ∧ xs.length = 56 * m ∧ 1 ≤ m ∧ m ≤ 1000 ∧ 1 ≤ g ∧ g ≤ 8 ∧ m % (g + 1) ≠ 1 ∧ ∀ (q : Addr) (H' : Hp), H q = none → Same H H' → H' q = some (.lst (((chunks xs 56).map goodC).map V.bl)) → Q (.ref q) H'
theorem ok_good {f : Addr} {fd : FuncData} {k : Nat} (F : Fun K "good" "good" s_good f fd) (CN : Con mg t1 t2 t3 t4 t5) (c_check_cells : C8.Cal P w K mg base 3 "check_cells" spCells []) (c_parts_of : C8.Cal P w K mg base 1 "parts_of" spParts []) (c_is_good : C8.Cal P w K mg base 3 "is_good" spIsGood []) : FnOk P w K mg base CX0 (k + 4) f fd ["protected", "group"] spGood := by
  refine F.ok sc_good (fun vs H Q E h => ?_) (fun cdv A outer s H vs Q E hr h => ?_)
  · obtain ⟨p, xs, m, g, rfl, _⟩ := h
    rfl
  · obtain ⟨p, xs, m, g, rfl, hp, hb, hl, hm, hm2, h1, h2, h3, q⟩ := h
    refine ⟨_, (pss_cons (ps_expr (C8.pe_c c_check_cells hr (by omega) (by rfl) (pa_cons (pv 0) (pa_cons (pv 1) pa_nil))))
    (pss_one (ps_ret (pe_lc (own := [("cell", 2)]) (g := (gName 2)) (tt := tYes) rfl sc_good.nd (pi_list (C8.pe_c c_parts_of hr (by omega) (by rfl) (pa_cons (pv 0) (pa_cons (pe_glob (v := .int 56) (by rfl) CN.cell ⟨_, rfl⟩) pa_nil)))) (blkOk_by (N := ["protected", "group", "cell"]) (sc := defScope s_good) (by decide +kernel)) (fun _ _ _ _ _ => pg_name (i := 2) sc_good.nd rfl (by first | exact Or.inl rfl | exact Or.inr rfl)) (fun _ _ _ _ _ => pts_nil) (fun _ _ _ _ _ => (C8.pe_c c_is_good hr (by omega) (by rfl) (pa_cons (pv 2) pa_nil))))))), ?_⟩
    walk_at "ev"
    refine ⟨p, xs, m, g, rfl, hp, hb, hl, hm, h1, h2, h3, ?_⟩
    walk_at "ev"
    refine ⟨p, _, 56, rfl, hp, by decide, by decide, by rw [List.length_map, hl]; omega, fun r rs H1 n1 s1 e1 rw1 fr1 nd1 => ?_⟩
    rw [chunks_map] at rw1
    have hlen : rs.length = (chunks xs 56).length := by rw [rw1.1, List.length_map]
    have hcl : (chunks xs 56).length ≤ 1000 := by rw [chunks_len, hl]; omega
    refine ⟨r, rfl, ⟨_, .inl (.inl e1)⟩, fun D nD => ?_⟩
    refine lc_it (walk_list (xs := rs.map V.ref)) (fun t H2 => Same H1 H2 ∧ H2 D = some (.lst ((((chunks xs 56).take t).map goodC).map V.bl))) ⟨same_upd nD, upd_same⟩ (fun _ _ _ h => .inl (.inl (h.1 _ _ e1))) ?_ ?_
    · rintro t x H2 H3 ht ⟨s2, e2⟩ ⟨rfl, hx⟩
      rw [List.length_map] at ht
      rw [List.getElem?_map] at hx
      obtain ⟨a, ha, rfl⟩ := Option.map_eq_some_iff.mp hx
      obtain ⟨l, f1, f2⟩ := rw1.2 t a ha
      rw [List.getElem?_map] at f1
      obtain ⟨c, hc, rfl⟩ := Option.map_eq_some_iff.mp f1
      have ec := chunks_get hc
      walk_at "ev"
      refine ⟨a, c, rfl, s2 _ _ f2, by rw [ec]; exact (hb.drop _).take _, ?_, fun H4 s4 => ?_⟩
      · have hb2 := (List.getElem?_eq_some_iff.mp hc).1
        rw [chunks_len, hl] at hb2
        rw [ec, List.length_take, List.length_drop, hl]
        omega
      · refine ⟨_, s4 _ _ e2, ?_, fun b o e => ?_, ?_⟩
        · rw [List.length_map, List.length_map, List.length_take]
          exact Nat.lt_of_le_of_lt (Nat.min_le_left _ _) (small1000 (by omega))
        · rw [upd_ne (ne_of_none e nD)]
          exact s4 _ _ (s2 b o e)
        · rw [upd_same, ← take_snoc hc, List.map_append, List.map_append]
          rfl
    · rintro H2 ⟨s2, e2⟩
      rw [List.length_map, hlen, List.take_length] at e2
      exact q D H2 (s1.free nD) (s1.trans s2) e2
/-! ### cells of loads, and back -/
theorem chunks_nil {α : Type} (n : Nat) : chunks ([] : List α) n = [] := by
  unfold chunks
  rcases Nat.eq_zero_or_pos n with rfl | h
  · rw [Nat.div_zero]
    rfl
  · rw [List.length_nil, Nat.div_eq_of_lt (by omega)]
    rfl
theorem chunks_cons {α : Type} {xs : List α} {n : Nat} (hn : 0 < n) (hx : xs ≠ []) : chunks xs n = xs.take n :: chunks (xs.drop n) n := by
  have hl : 0 < xs.length := List.length_pos_iff.mpr hx
  have e : (xs.length + n - 1) / n = ((xs.drop n).length + n - 1) / n + 1 := by
    rw [List.length_drop]
    by_cases h : n ≤ xs.length
    · rw [show xs.length + n - 1 = (xs.length - n + n - 1) + n by omega, Nat.add_div_right _ hn]
    · rw [show xs.length - n = 0 by omega, show xs.length + n - 1 = (xs.length - 1) + n by omega, Nat.add_div_right _ hn, Nat.div_eq_of_lt (by omega), Nat.div_eq_of_lt (by omega)]
  unfold chunks
  rw [e, List.range_succ_eq_map, List.map_cons, List.map_map, Nat.zero_mul, List.drop_zero]
  congr 1
  refine List.map_congr_left fun i _ => ?_
  show (xs.drop ((i + 1) * n)).take n = ((xs.drop n).drop (i * n)).take n
  rw [List.drop_drop, Nat.add_mul, Nat.one_mul, Nat.add_comm]
/-- blocks: all of n things, the last of one to n -/
inductive Blocks {α : Type} (n : Nat) : List (List α) → Prop
  | nil : Blocks n []
  | last {b : List α} (h0 : b ≠ []) (h1 : b.length ≤ n) : Blocks n [b]
  | cons {b : List α} {bs : List (List α)} (h : b.length = n) (h2 : Blocks n bs) : Blocks n (b :: bs)
theorem Blocks.chunks {α : Type} {n : Nat} (hn : 0 < n) : ∀ {bs : List (List α)}, Blocks n bs → My.chunks bs.flatten n = bs
  | _, .nil => chunks_nil n
  | _, .last (b := b) h0 h1 => by
    rw [List.flatten_cons, List.flatten_nil, List.append_nil, chunks_cons hn h0, List.take_of_length_le h1, List.drop_eq_nil_of_le h1, chunks_nil]
  | _, .cons (b := b) (bs := bs) h h2 => by
    have ih := Blocks.chunks hn h2
    have hb : b ≠ [] := fun z => by rw [z] at h; simp at h; omega
    rw [List.flatten_cons, chunks_cons hn (by simp [hb]), List.take_left' h, List.drop_left' h, ih]
theorem blocks_of {α : Type} {n : Nat} (hn : 0 < n) : ∀ (k : Nat) (xs : List α), xs.length ≤ k → Blocks n (chunks xs n)
  | 0, xs, h => by
    rw [List.length_eq_zero_iff.mp (Nat.le_zero.mp h), chunks_nil]
    exact .nil
  | k + 1, xs, h => by
    by_cases e : xs = []
    · subst e
      rw [chunks_nil]
      exact .nil
    rw [chunks_cons hn e]
    have hl : 0 < xs.length := List.length_pos_iff.mpr e
    by_cases h2 : n ≤ xs.length
    · exact .cons (by rw [List.length_take]; omega) (blocks_of hn k _ (by rw [List.length_drop]; omega))
    · rw [List.drop_eq_nil_of_le (by omega), chunks_nil, List.take_of_length_le (by omega)]
      exact .last e (by omega)
theorem chunks_flat {α : Type} {n : Nat} (hn : 0 < n) : ∀ (k : Nat) (xs : List α), xs.length ≤ k → (chunks xs n).flatten = xs
  | 0, xs, h => by
    rw [List.length_eq_zero_iff.mp (Nat.le_zero.mp h), chunks_nil]
    rfl
  | k + 1, xs, h => by
    by_cases e : xs = []
    · subst e
      rw [chunks_nil]
      rfl
    have hl : 0 < xs.length := List.length_pos_iff.mpr e
    rw [chunks_cons hn e, List.flatten_cons, chunks_flat hn k _ (by rw [List.length_drop]; omega), List.take_append_drop]
theorem chunks_mem {α : Type} {n : Nat} {xs : List α} {b : List α} (h : b ∈ chunks xs n) : ∀ x ∈ b, x ∈ xs := by
  unfold chunks at h
  obtain ⟨i, _, rfl⟩ := List.mem_map.mp h
  exact fun x m => List.mem_of_mem_drop (List.mem_of_mem_take m)
theorem chunks_ne {α : Type} {n : Nat} {xs : List α} (hn : 0 < n) {b : List α} (h : b ∈ chunks xs n) : b ≠ [] ∧ b.length ≤ n := by
  unfold chunks at h
  obtain ⟨i, m, rfl⟩ := List.mem_map.mp h
  have hi := (Nat.lt_div_iff_mul_lt hn).mp (List.mem_range.mp m)
  have e : n * i = i * n := Nat.mul_comm _ _
  refine ⟨fun z => ?_, by rw [List.length_take]; omega⟩
  have := congrArg List.length z
  rw [List.length_take, List.length_drop, List.length_nil] at this
  omega
theorem chunks_even {α : Type} {n : Nat} {xs : List α} (hn : 0 < n) (hd : xs.length % n = 0) {b : List α} (h : b ∈ chunks xs n) : b.length = n := by
  unfold chunks at h
  obtain ⟨i, m, rfl⟩ := List.mem_map.mp h
  have hi := List.mem_range.mp m
  have h2 : xs.length = n * (xs.length / n) := by
    have := Nat.div_add_mod xs.length n
    omega
  rw [h2, show n * (xs.length / n) + n - 1 = (n - 1) + n * (xs.length / n) by omega, Nat.add_mul_div_left _ _ hn, Nat.div_eq_of_lt (by omega), Nat.zero_add] at hi
  have h3 : n * (i + 1) ≤ n * (xs.length / n) := Nat.mul_le_mul_left _ hi
  rw [Nat.mul_add, Nat.mul_one] at h3
  have e : n * i = i * n := Nat.mul_comm _ _
  rw [List.length_take, List.length_drop]
  omega
/-- the bit by bit sum of loads -/
def parL (ls : List (List Int)) : List Int := (List.range 48).map fun i => (ls.map fun l => l.getD i 0).sum % 2
theorem parL_len (ls : List (List Int)) : (parL ls).length = 48 := by
  unfold parL
  rw [List.length_map, List.length_range]
theorem parL_bits (ls : List (List Int)) : AreBits (parL ls) := fun x m => by
  obtain ⟨i, _, rfl⟩ := List.mem_map.mp m
  omega
/-- a load: 48 bits -/
def IsLoad (l : List Int) : Prop := l.length = 48 ∧ AreBits l
def cellL (l : List Int) : List Int := l ++ crcI l
theorem cellL_len {l : List Int} (h : IsLoad l) : (cellL l).length = 56 := by
  unfold cellL
  rw [List.length_append, crcI_len, h.1]
theorem cellL_bits {l : List Int} (h : IsLoad l) : AreBits (cellL l) := h.2.app (crcI_bits _)
theorem cellL_good {l : List Int} (h : IsLoad l) : goodC (cellL l) = true := by
  unfold goodC cellL
  rw [List.take_left' h.1, List.drop_left' h.1]
  exact decide_eq_true rfl
theorem cellL_take {l : List Int} (h : IsLoad l) : (cellL l).take 48 = l := List.take_left' h.1
def grp (ls : List (List Int)) : List (List Int) := ls ++ [parL ls]
theorem grp_load {ls : List (List Int)} (h : ∀ l ∈ ls, IsLoad l) : ∀ l ∈ grp ls, IsLoad l := fun l m => by
  rcases List.mem_append.mp m with m | m
  · exact h l m
  · rw [List.mem_singleton.mp m]
    exact ⟨parL_len _, parL_bits _⟩
/-- the groups of loads with their sums, group by group -/
def grps (ls : List (List Int)) (g : Nat) : List (List (List Int)) := (chunks ls g).map grp
/-- all cells -/
def cellsL (ls : List (List Int)) (g : Nat) : List (List Int) := ((grps ls g).flatten).map cellL
def protL (ls : List (List Int)) (g : Nat) : List Int := (cellsL ls g).flatten
theorem grps_load {ls : List (List Int)} {g : Nat} (h : ∀ l ∈ ls, IsLoad l) : ∀ b ∈ grps ls g, ∀ l ∈ b, IsLoad l := fun b m l ml => by
  obtain ⟨c, mc, rfl⟩ := List.mem_map.mp m
  exact grp_load (fun l m2 => h l (chunks_mem mc l m2)) l ml
theorem cellsL_len {ls : List (List Int)} {g : Nat} (h : ∀ l ∈ ls, IsLoad l) : ∀ c ∈ cellsL ls g, c.length = 56 ∧ AreBits c ∧ goodC c = true := fun c m => by
  obtain ⟨l, ml, rfl⟩ := List.mem_map.mp m
  obtain ⟨b, mb, ml2⟩ := List.mem_flatten.mp ml
  have hl := grps_load h b mb l ml2
  exact ⟨cellL_len hl, cellL_bits hl, cellL_good hl⟩
theorem blocks_grp {g : Nat} : ∀ {bs : List (List (List Int))}, Blocks g bs → Blocks (g + 1) (bs.map grp)
  | _, .nil => .nil
  | _, .last h0 h1 => .last (by unfold grp; simp) (by unfold grp; rw [List.length_append]; exact Nat.succ_le_succ h1)
  | _, .cons h h2 => .cons (by unfold grp; rw [List.length_append, h]; rfl) (blocks_grp h2)
theorem blocks_flat {α : Type} {n : Nat} : ∀ {bs : List (List α)}, (∀ b ∈ bs, b.length = n) → Blocks n bs
  | [], _ => .nil
  | b :: bs, h => .cons (h b List.mem_cons_self) (blocks_flat fun x m => h x (List.mem_cons_of_mem _ m))
theorem flat_len {α : Type} {n : Nat} : ∀ {bs : List (List α)}, (∀ b ∈ bs, b.length = n) → bs.flatten.length = n * bs.length
  | [], _ => by simp
  | b :: bs, h => by
    rw [List.flatten_cons, List.length_append, h b List.mem_cons_self, flat_len fun x m => h x (List.mem_cons_of_mem _ m), List.length_cons, Nat.mul_add, Nat.mul_one, Nat.add_comm]
theorem prot_chunks {ls : List (List Int)} {g : Nat} (h : ∀ l ∈ ls, IsLoad l) : chunks (protL ls g) 56 = cellsL ls g :=
  Blocks.chunks (by decide) (blocks_flat fun c m => (cellsL_len h c m).1)
theorem prot_groups {ls : List (List Int)} {g : Nat} (hg : 0 < g) : chunks (cellsL ls g) (g + 1) = (grps ls g).map (·.map cellL) := by
  unfold cellsL
  rw [chunks_map]
  have e : chunks (grps ls g).flatten (g + 1) = grps ls g := Blocks.chunks (Nat.succ_pos g) (blocks_grp (blocks_of hg _ ls (Nat.le_refl _)))
  rw [e]
theorem prot_len {ls : List (List Int)} {g : Nat} (h : ∀ l ∈ ls, IsLoad l) : (protL ls g).length = 56 * (cellsL ls g).length := flat_len fun c m => (cellsL_len h c m).1
theorem prot_bits {ls : List (List Int)} {g : Nat} (h : ∀ l ∈ ls, IsLoad l) : AreBits (protL ls g) := fun x m => by
  obtain ⟨c, mc, mx⟩ := List.mem_flatten.mp m
  exact (cellsL_len h c mc).2.1 x mx
theorem blocks_count {α : Type} {n : Nat} (hn : 1 < n) : ∀ {bs : List (List α)}, Blocks n bs → (∀ b ∈ bs, 2 ≤ b.length) → bs.flatten.length % n ≠ 1
  | _, .nil, _ => by
    rw [List.flatten_nil, List.length_nil, Nat.zero_mod]
    decide
  | _, .last (b := b) h0 h1, h => by
    rw [List.flatten_cons, List.flatten_nil, List.append_nil]
    have := h b List.mem_cons_self
    by_cases e : b.length = n
    · rw [e, Nat.mod_self]
      decide
    · rw [Nat.mod_eq_of_lt (by omega)]
      omega
  | _, .cons (b := b) (bs := bs) h2 h3, h => by
    rw [List.flatten_cons, List.length_append, h2, Nat.add_mod_left]
    exact blocks_count hn h3 fun x m => h x (List.mem_cons_of_mem _ m)
theorem cells_count {ls : List (List Int)} {g : Nat} (hg : 0 < g) : (cellsL ls g).length % (g + 1) ≠ 1 := by
  unfold cellsL
  rw [List.length_map]
  refine blocks_count (by omega) (blocks_grp (blocks_of hg _ ls (Nat.le_refl _))) fun b m => ?_
  obtain ⟨c, mc, rfl⟩ := List.mem_map.mp m
  have := List.length_pos_iff.mpr (chunks_ne hg mc).1
  unfold grp
  rw [List.length_append]
  show 2 ≤ c.length + 1
  omega
theorem cells_few {ls : List (List Int)} {g : Nat} (hg : 0 < g) : (cellsL ls g).length ≤ 2 * ls.length := by
  have key : ∀ bs : List (List (List Int)), (∀ b ∈ bs, b ≠ []) → (bs.map grp).flatten.length ≤ 2 * bs.flatten.length := by
    intro bs
    induction bs with
    | nil => intro _; simp
    | cons b bs ih =>
      intro h
      have h1 := ih fun x m => h x (List.mem_cons_of_mem _ m)
      have h2 := List.length_pos_iff.mpr (h b List.mem_cons_self)
      rw [List.map_cons, List.flatten_cons, List.flatten_cons, List.length_append, List.length_append]
      have h3 : (grp b).length = b.length + 1 := by unfold grp; rw [List.length_append]; rfl
      omega
  have := key (chunks ls g) fun b m => (chunks_ne hg m).1
  rw [chunks_flat hg _ ls (Nat.le_refl _)] at this
  unfold cellsL
  rw [List.length_map]
  exact this
theorem cells_one {ls : List (List Int)} {g : Nat} (hg : 0 < g) (h : ls ≠ []) : 1 ≤ (cellsL ls g).length := by
  unfold cellsL grps
  rw [List.length_map, chunks_cons hg h, List.map_cons, List.flatten_cons, List.length_append]
  have : (grp (ls.take g)).length = (ls.take g).length + 1 := by unfold grp; rw [List.length_append]; rfl
  omega
/-- what is written ahead of the cells: the count, the bits, noughts -/
def fillL (xs : List Int) : List Int := code xs.length ++ xs ++ List.replicate ((48 - (code xs.length ++ xs).length % 48) % 48) 0
def loadsL (xs : List Int) : List (List Int) := chunks (fillL xs) 48
theorem fillL_mod (xs : List Int) : (fillL xs).length % 48 = 0 := by
  unfold fillL
  rw [List.length_append, List.length_replicate]
  omega
theorem fillL_bits {xs : List Int} (h : AreBits xs) : AreBits (fillL xs) := ((code_bits _).app h).app (AreBits.zeros _)
theorem loadsL_load {xs : List Int} (h : AreBits xs) : ∀ l ∈ loadsL xs, IsLoad l := fun l m => ⟨chunks_even (by decide) (fillL_mod xs) m, fun x mx => fillL_bits h x (chunks_mem m x mx)⟩
theorem fillL_ne (xs : List Int) : fillL xs ≠ [] := fun z => by
  have h := congrArg List.length z
  have h2 := bl_half (n := xs.length + 1) (by omega)
  have h3 := code_len xs.length
  unfold fillL at h
  rw [List.length_append, List.length_append, List.length_nil] at h
  omega
theorem loadsL_ne (xs : List Int) : loadsL xs ≠ [] := by
  unfold loadsL
  rw [chunks_cons (by decide) (fillL_ne xs)]
  simp
theorem loadsL_flat (xs : List Int) : (loadsL xs).flatten = fillL xs := chunks_flat (by decide) _ _ (Nat.le_refl _)
theorem loadsL_len (xs : List Int) : (loadsL xs).length = ((code xs.length).length + xs.length + 47) / 48 := by
  unfold loadsL
  rw [chunks_len]
  unfold fillL
  rw [List.length_append, List.length_replicate, List.length_append]
  omega
/-! ### sums of loads -/
def lstAt (H : Hp) (a : Addr) : List V := match H a with
  | some (.lst xs) => xs
  | _ => []
theorem lstAt_of {H : Hp} {a : Addr} {xs : List V} (h : H a = some (.lst xs)) : lstAt H a = xs := by
  unfold lstAt
  rw [h]
theorem Rws.row {H : Hp} {rs : List Addr} {ls : List (List V)} (h : Rws H rs ls) {a : Addr} (m : a ∈ rs) : ∃ l ∈ ls, H a = some (.lst l) := by
  obtain ⟨i, hi⟩ := List.getElem?_of_mem m
  obtain ⟨l, e1, e2⟩ := h.2 i a hi
  exact ⟨l, List.mem_of_getElem? e1, e2⟩
theorem rws_nil {H : Hp} : Rws H [] [] := ⟨rfl, fun i r e => by simp at e⟩
theorem Rws.tail {H : Hp} {r : Addr} {rs : List Addr} {l : List V} {ls : List (List V)} (h : Rws H (r :: rs) (l :: ls)) : H r = some (.lst l) ∧ Rws H rs ls := by
  refine ⟨?_, Nat.succ.inj h.1, fun i a e => h.2 (i + 1) a e⟩
  obtain ⟨l2, e1, e2⟩ := h.2 0 r rfl
  rw [← Option.some.inj e1] at e2
  exact e2
theorem Rws.cons {H : Hp} {r : Addr} {rs : List Addr} {l : List V} {ls : List (List V)} (h : H r = some (.lst l)) (h2 : Rws H rs ls) : Rws H (r :: rs) (l :: ls) := by
  refine ⟨congrArg Nat.succ h2.1, fun i a e => ?_⟩
  cases i with
  | zero =>
    cases e
    exact ⟨l, rfl, h⟩
  | succ i => exact h2.2 i a e
theorem Rws.app {H : Hp} {rs rs2 : List Addr} {ls ls2 : List (List V)} (h : Rws H rs ls) (h2 : Rws H rs2 ls2) : Rws H (rs ++ rs2) (ls ++ ls2) := by
  refine ⟨by rw [List.length_append, List.length_append, h.1, h2.1], fun i a e => ?_⟩
  by_cases hi : i < rs.length
  · rw [List.getElem?_append_left hi] at e
    obtain ⟨l, e1, e2⟩ := h.2 i a e
    exact ⟨l, by rw [List.getElem?_append_left (by rw [← h.1]; exact hi)]; exact e1, e2⟩
  · rw [List.getElem?_append_right (by omega)] at e
    obtain ⟨l, e1, e2⟩ := h2.2 _ a e
    exact ⟨l, by rw [List.getElem?_append_right (by rw [← h.1]; omega), ← h.1]; exact e1, e2⟩
theorem Rws.chunk {H : Hp} {rs : List Addr} {ls : List (List V)} (h : Rws H rs ls) (i n : Nat) : Rws H ((rs.drop i).take n) ((ls.drop i).take n) := by
  refine ⟨by rw [List.length_take, List.length_take, List.length_drop, List.length_drop, h.1], fun j a e => ?_⟩
  have hj := (List.getElem?_eq_some_iff.mp e).1
  rw [List.length_take] at hj
  rw [List.getElem?_take_of_lt (by omega), List.getElem?_drop] at e
  obtain ⟨l, e1, e2⟩ := h.2 _ a e
  exact ⟨l, by rw [List.getElem?_take_of_lt (by omega), List.getElem?_drop]; exact e1, e2⟩
theorem col_of {H : Hp} {i : Nat} : ∀ {rs : List Addr} {ls : List (List Int)}, Rws H rs (ls.map (·.map V.int)) → (∀ l ∈ ls, i < l.length) → (rs.map fun a => (lstAt H a).getD i .non) = (ls.map fun l => l.getD i 0).map V.int
  | [], [], _, _ => rfl
  | [], l :: ls, h, _ => by cases h.1
  | r :: rs, [], h, _ => by cases h.1
  | r :: rs, l :: ls, h, hl => by
    rw [List.map_cons] at h
    have hx := hl l List.mem_cons_self
    have ih := col_of h.tail.2 fun s m => hl s (List.mem_cons_of_mem _ m)
    rw [List.map_cons, List.map_cons, List.map_cons, ih, lstAt_of h.tail.1]
    congr 1
    rw [List.getD_eq_getElem?_getD, List.getD_eq_getElem?_getD, List.getElem?_map, List.getElem?_eq_getElem hx]
    rfl
def spParity : Sp := fun vs H Q _ => ∃ (p : Addr) (rs : List Addr) (ls : List (List Int)), vs = [.ref p] ∧ H p = some (.lst (rs.map V.ref)) ∧ Rws H rs (ls.map (·.map V.int)) ∧ ls ≠ [] ∧ ls.length ≤ 900 ∧ (∀ l ∈ ls, IsLoad l) ∧ ∀ (q : Addr) (H' : Hp), H q = none → Same H H' → H' q = some (.lst ((parL ls).map V.int)) → Q (.ref q) H'
theorem ok_parity {f : Addr} {fd : FuncData} {k : Nat} (F : Fun K "parity_of" "parity_of" s_parity_of f fd) (T : Txt mg) : FnOk P w K mg base CX0 (k + 1) f fd ["loads"] spParity := by
  refine F.ok sc_parity_of (fun vs H Q E h => ?_) (fun cdv A outer s H vs Q E hr h => ?_)
  · obtain ⟨p, rs, ls, rfl, _⟩ := h
    rfl
  · obtain ⟨p, rs, ls, rfl, hp, hR, hne, hln, hld, q⟩ := h
    have hrow : ∀ a ∈ rs, ∃ l ∈ ls, H a = some (.lst (l.map V.int)) := fun a m => by
      obtain ⟨l, ml, e⟩ := hR.row m
      obtain ⟨l2, ml2, rfl⟩ := List.mem_map.mp ml
      exact ⟨l2, ml2, e⟩
    have hrl : rs.length = ls.length := by rw [hR.1, List.length_map]
    have ner : rs ≠ [] := fun z => hne (List.length_eq_zero_iff.mp (by rw [← hrl, z]; rfl))
    refine ⟨_, (pss_one (ps_ret (pe_lc (own := [("bits", 1)]) (g := (gName 1)) (tt := tYes) rfl sc_parity_of.nd (pi_zipS (by rfl) T.z_zip (pv 0)) (blkOk_by (N := ["loads", "bits"]) (sc := defScope s_parity_of) (by decide +kernel)) (fun _ _ _ _ _ => pg_name (i := 1) sc_parity_of.nd rfl (by first | exact Or.inl rfl | exact Or.inr rfl)) (fun _ _ _ _ _ => pts_nil) (fun _ _ _ _ _ => (pe_op op_mod (pe_callB (cr_sumS rfl : CallR _ (.builtin "sum") (rSumS K)) (by rfl) T.z_sum PyProof.Rows.boot_sum (pa_cons (pv 1) pa_nil)) pe_int))))), ?_⟩
    walk_at "ev"
    refine ⟨p, rs, lstAt H, rfl, .inr (.inl (.inl hp)), ner, by rw [hrl]; exact hln, fun a m => ?_, fun D nD => ?_⟩
    · obtain ⟨l, _, e⟩ := hrow a m
      exact .inl (.inl (by rw [lstAt_of e]; exact e))
    refine lc_it (walk_zipN (xss := lstAt H) (n := 48) fun a m => ?_) (fun i H3 => Same H H3 ∧ H3 D = some (.lst (((parL ls).take i).map V.int))) ⟨same_upd nD, upd_same⟩ (fun i H3 _ h a m => ?_) ?_ ?_
    · obtain ⟨l, ml, e⟩ := hrow a m
      rw [lstAt_of e, List.length_map]
      exact (hld l ml).1
    · obtain ⟨l, _, e⟩ := hrow a m
      exact .inl (.inl (by rw [lstAt_of e]; exact h.1 _ _ e))
    · rintro i x H3 H4 hi ⟨s3, e4⟩ ⟨t, rfl, nt, rfl⟩
      rw [col_of hR fun l m => by rw [(hld l m).1]; exact hi]
      have e5 := new_at (o' := .tup ((ls.map fun l => l.getD i 0).map V.int)) e4 nt
      have s5 := s3.trans (same_upd (o := .tup ((ls.map fun l => l.getD i 0).map V.int)) nt)
      have et : upd H3 t (.tup ((ls.map fun l => l.getD i 0).map V.int)) t = some (.tup ((ls.map fun l => l.getD i 0).map V.int)) := upd_same
      generalize upd H3 t (.tup ((ls.map fun l => l.getD i 0).map V.int)) = H5 at e5 s5 et ⊢
      walk_at "ev"
      have gi : (parL ls)[i]? = some ((ls.map fun l => l.getD i 0).sum % 2) := by
        unfold parL
        rw [List.getElem?_map, List.getElem?_range hi]
        rfl
      refine ⟨_, e5, ?_, fun b o e => ?_, ?_⟩
      · rw [List.length_map, List.length_take, parL_len]
        exact small1000 (Nat.le_trans (Nat.min_le_right _ _) (by decide))
      · rw [upd_ne (ne_of_none e nD)]
        exact s5 _ _ e
      · rw [upd_same, ← take_snoc gi, List.map_append]
        rfl
    · rintro H3 ⟨s3, e4⟩
      rw [List.take_of_length_le (by rw [parL_len]; decide)] at e4
      exact q D H3 nD s3 e4
/-! ### how often None stands in a list -/
def rCountN (K : PySem.W.Frag) : V → List V → Hp → VK → Prop := fun x xs H Q => ∃ (a : Addr) (ds : List PyData), x = V.ref a ∧ xs = [.non] ∧ Dp K H (V.ref a) (.list ds) ∧ PyData.plainAll ds = true ∧ Q (.int ((ds.countP fun y => PyData.eqv y .none : Nat) : Int)) H
theorem mt_countN {X : Cx} (hu : X.A.units + 64 < cLine) : MtR X "list.count" (rCountN X.K) := by
  intro pins s σ H x xs v us Q I rx rxs h
  obtain ⟨a, ds, rfl, rfl, hl, hp, q⟩ := h
  cases rx
  cases rxs with
  | cons ry rt =>
    cases rt
    cases ry
    cases hl with
    | lst hs ha =>
      obtain ⟨its, rv, pl, hz⟩ := I.list hs
      obtain ⟨as, r1⟩ := Dp.readsAll I ds _ its ha rv
      refine SeqAt.count_list_data (vs := its.toArray) pl.isList (by simpa using r1) Reads.none hp (by decide +kernel) (Nat.lt_of_le_of_lt (Nat.add_le_add_left (Nat.min_le_right _ _) _) ?_) ⟨.int _, H, I.tok _, ⟨_, rfl⟩, q⟩
      show X.A.units + 1 + PyData.depth .none < cLine
      rw [PyData.depth]
      omega
/-! ### loads, known or not -/
def OLs (N : Addr → Prop) (H : Hp) (vs : List V) (os : List (Option (List Int))) : Prop := vs.length = os.length ∧ ∀ (i : Nat) (v : V), vs[i]? = some v → (os[i]? = some none ∧ v = .non) ∨ ∃ (r : Addr) (l : List Int), os[i]? = some (some l) ∧ v = .ref r ∧ N r ∧ H r = some (.lst (l.map V.int))
theorem OLs.up {N N' : Addr → Prop} {H H' : Hp} {vs : List V} {os : List (Option (List Int))} (s : ∀ b o, N b → H b = some o → N' b ∧ H' b = some o) (h : OLs N H vs os) : OLs N' H' vs os := ⟨h.1, fun i v e => by
  rcases h.2 i v e with h | ⟨r, l, e1, e2, n, e3⟩
  · exact .inl h
  · obtain ⟨n2, e4⟩ := s _ _ n e3
    exact .inr ⟨r, l, e1, e2, n2, e4⟩⟩
theorem OLs.same {N : Addr → Prop} {H H' : Hp} {vs : List V} {os : List (Option (List Int))} (s : Same H H') (h : OLs N H vs os) : OLs N H' vs os := h.up fun b o n e => ⟨n, s b o e⟩
theorem ols_nil {N : Addr → Prop} {H : Hp} : OLs N H [] [] := ⟨rfl, fun i v e => by simp at e⟩
theorem OLs.app {N : Addr → Prop} {H : Hp} {vs vs2 : List V} {os os2 : List (Option (List Int))} (h : OLs N H vs os) (h2 : OLs N H vs2 os2) : OLs N H (vs ++ vs2) (os ++ os2) := by
  refine ⟨by rw [List.length_append, List.length_append, h.1, h2.1], fun i a e => ?_⟩
  by_cases hi : i < vs.length
  · rw [List.getElem?_append_left hi] at e
    rw [List.getElem?_append_left (by rw [← h.1]; exact hi)]
    exact h.2 i a e
  · rw [List.getElem?_append_right (by omega)] at e
    rw [List.getElem?_append_right (by rw [← h.1]; omega), ← h.1]
    exact h2.2 _ a e
theorem ols_some {N : Addr → Prop} {H : Hp} {r : Addr} {l : List Int} (n : N r) (h : H r = some (.lst (l.map V.int))) : OLs N H [.ref r] [some l] := ⟨rfl, fun i v e => by
  cases i with
  | zero =>
    cases e
    exact .inr ⟨r, l, rfl, rfl, n, h⟩
  | succ i => simp at e⟩
theorem ols_none {N : Addr → Prop} {H : Hp} : OLs N H [.non] [none] := ⟨rfl, fun i v e => by
  cases i with
  | zero =>
    cases e
    exact .inl ⟨rfl, rfl⟩
  | succ i => simp at e⟩
theorem OLs.take {N : Addr → Prop} {H : Hp} {vs : List V} {os : List (Option (List Int))} (h : OLs N H vs os) (n : Nat) : OLs N H (vs.take n) (os.take n) := by
  refine ⟨by rw [List.length_take, List.length_take, h.1], fun i a e => ?_⟩
  have hj := (List.getElem?_eq_some_iff.mp e).1
  rw [List.length_take] at hj
  rw [List.getElem?_take_of_lt (by omega)] at e ⊢
  exact h.2 i a e
theorem OLs.set {N : Addr → Prop} {H : Hp} {vs : List V} {os : List (Option (List Int))} {r : Addr} {l : List Int} (h : OLs N H vs os) (j : Nat) (n : N r) (e0 : H r = some (.lst (l.map V.int))) : OLs N H (vs.set j (.ref r)) (os.set j (some l)) := by
  refine ⟨by rw [List.length_set, List.length_set, h.1], fun i a e => ?_⟩
  rw [List.getElem?_set] at e ⊢
  by_cases hij : j = i
  · subst hij
    rw [if_pos rfl] at e ⊢
    by_cases hl : j < vs.length
    · rw [if_pos hl] at e
      rw [if_pos (by rw [← h.1]; exact hl)]
      exact .inr ⟨r, l, rfl, (Option.some.inj e).symm, n, e0⟩
    · rw [if_neg hl] at e
      cases e
  · rw [if_neg hij] at e ⊢
    exact h.2 i a e
/-- a list that grows at D: what stands elsewhere stays -/
theorem OLs.grow {N : Addr → Prop} {H : Hp} {D : Addr} {o : HO} {us : List V} {os : List (Option (List Int))} (h : OLs N H us os) (hN : ∀ b, N b → b ≠ D) : OLs N (upd H D o) us os := h.up fun b o2 n e => ⟨n, by rw [upd_ne (hN b n)]; exact e⟩
theorem ixN_at {n j : Nat} (hj : j < n) : ixN n (j : Int) = some j := by
  unfold ixN
  rw [if_pos (by omega), if_pos (by omega), Int.toNat_natCast]
def oD : Option (List Int) → PyData
  | none => .none
  | some l => .list (l.map PyData.int)
theorem OLs.dp {K : PySem.W.Frag} {N : Addr → Prop} {H : Hp} : ∀ {vs : List V} {os : List (Option (List Int))}, OLs N H vs os → DpAll K H vs (os.map oD)
  | [], [], _ => .nil
  | [], o :: os, h => by cases h.1
  | v :: vs, [], h => by cases h.1
  | v :: vs, o :: os, h => by
    have ih := OLs.dp (K := K) (vs := vs) (os := os) ⟨Nat.succ.inj h.1, fun i a e => h.2 (i + 1) a e⟩
    refine .cons ?_ ih
    rcases h.2 0 v rfl with ⟨e1, rfl⟩ | ⟨r, l, e1, rfl, _, e2⟩
    · rw [Option.some.inj e1]
      exact .non
    · rw [Option.some.inj e1]
      exact dp_ints (.inl (.inl e2))
theorem oD_none (o : Option (List Int)) : PyData.eqv (oD o) .none = o.isNone := by
  cases o with
  | none => simp [oD, PyData.eqv]
  | some l => simp [oD, PyData.eqv]
theorem oD_count (os : List (Option (List Int))) : ((os.map oD).countP fun y => PyData.eqv y .none) = os.count none := by
  rw [List.countP_map, List.count]
  refine List.countP_congr fun o _ => ?_
  show (PyData.eqv (oD o) .none = true) ↔ _
  rw [oD_none]
  cases o <;> simp
theorem oD_plain : ∀ os : List (Option (List Int)), PyData.plainAll (os.map oD) = true
  | [] => by rw [List.map_nil, PyData.plainAll]
  | o :: os => by
    rw [List.map_cons, PyData.plainAll, oD_plain os, Bool.and_true]
    cases o with
    | none => rw [oD, PyData.plain]
    | some l =>
      rw [oD, PyData.plain]
      induction l with
      | nil => rw [List.map_nil, PyData.plainAll]
      | cons x l ih => rw [List.map_cons, PyData.plainAll, ih, PyData.plain]; rfl
theorem oD_sh (os : List (Option (List Int))) : SeqAt.shaped (.list (os.map oD)) = true := (shd_lst (n := 2) fun d m => by
  obtain ⟨o, _, rfl⟩ := List.mem_map.mp m
  cases o with
  | none => exact shd_non
  | some l => exact shd_ints l).sh (by decide)
/-! ### a group that is opened -/
def loadO (c : List Int) : Option (List Int) := if goodC c = true then some (c.take 48) else none
def healO (os : List (Option (List Int))) : List (Option (List Int)) := if os.count none = 1 then os.map fun o => some (o.getD (parL (os.filterMap id))) else os
def openG (cs : List (List Int)) : List (Option (List Int)) := (healO (cs.map loadO)).dropLast
theorem no_none : ∀ {os : List (Option (List Int))}, os.count none = 0 → ∀ x, (os.map fun o => some (o.getD x)) = os
  | [], _, _ => rfl
  | none :: os, h, _ => by rw [List.count_cons_self] at h; cases h
  | some l :: os, h, x => by
    rw [List.count_cons_of_ne (by simp)] at h
    rw [List.map_cons, no_none h x]
    rfl
theorem one_none : ∀ {os : List (Option (List Int))}, os.count none = 1 → ∃ j : Nat, os[j]? = some none ∧ (∀ (m : Nat) (o : Option (List Int)), m < j → os[m]? = some o → o ≠ none) ∧ ∀ x, os.set j (some x) = os.map fun o => some (o.getD x)
  | [], h => by cases h
  | none :: os, h => by
    rw [List.count_cons_self] at h
    have h2 : os.count none = 0 := by omega
    exact ⟨0, rfl, fun m o hm => absurd hm (Nat.not_lt_zero m), fun x => by rw [List.set_cons_zero, List.map_cons, no_none h2 x]; rfl⟩
  | some l :: os, h => by
    rw [List.count_cons_of_ne (by simp)] at h
    obtain ⟨j, h1, h2, h3⟩ := one_none h
    refine ⟨j + 1, h1, fun m o hm e => ?_, fun x => by rw [List.set_cons_succ, h3 x, List.map_cons]; rfl⟩
    cases m with
    | zero =>
      cases e
      simp
    | succ m => exact h2 m o (by omega) e
theorem none_len : ∀ os : List (Option (List Int)), os.count none + (os.filterMap id).length = os.length
  | [] => rfl
  | none :: os => by
    have e : (none :: os).filterMap id = os.filterMap id := rfl
    rw [List.count_cons_self, e, List.length_cons, ← none_len os]
    omega
  | some l :: os => by
    have e : (some l :: os).filterMap id = l :: os.filterMap id := rfl
    rw [List.count_cons_of_ne (by simp), e, List.length_cons, List.length_cons, ← none_len os]
    omega
theorem cut_init {xs : List V} : cutV xs none (some (-1)) = xs.dropLast := by
  unfold cutV
  rw [HT.sIx_none, List.drop_zero, Nat.sub_zero, List.dropLast_eq_take]
  congr 1
  show (if (-1 : Int) < 0 then ((-1 : Int) + (xs.length : Int)).toNat else min (-1 : Int).toNat xs.length) = _
  rw [if_pos (by decide)]
  omega
theorem OLs.init {N : Addr → Prop} {H : Hp} {vs : List V} {os : List (Option (List Int))} (h : OLs N H vs os) : OLs N H vs.dropLast os.dropLast := by
  rw [List.dropLast_eq_take, List.dropLast_eq_take, h.1]
  exact h.take _
def spOpened : Sp := fun vs H Q _ => ∃ (p : Addr) (rs : List Addr) (cs : List (List Int)), vs = [.ref p] ∧ H p = some (.lst (rs.map V.ref)) ∧ Rws H rs (cs.map (·.map V.int)) ∧ 2 ≤ cs.length ∧ cs.length ≤ 900 ∧ (∀ c ∈ cs, c.length = 56 ∧ AreBits c) ∧ ∀ (q : Addr) (us : List V) (H' : Hp), H q = none → Same H H' → H' q = some (.lst us) → OLs (fun r => H r = none) H' us (openG cs) → Q (.ref q) H'
theorem ok_opened {f : Addr} {fd : FuncData} {k : Nat} (F : Fun K "opened_group" "opened_group" s_opened_group f fd) (CN : Con mg t1 t2 t3 t4 t5) (c_is_good : C8.Cal P w K mg base 3 "is_good" spIsGood []) (c_parity_of : C8.Cal P w K mg base 1 "parity_of" spParity []) : FnOk P w K mg base CX0 (k + 4) f fd ["cells"] spOpened := by
  refine F.ok sc_opened_group (fun vs H Q E h => ?_) (fun cdv A outer s H vs Q E hr h => ?_)
  · obtain ⟨p, rs, cs, rfl, _⟩ := h
    rfl
  · obtain ⟨p, rs, cs, rfl, hp, hR, hn, hn2, hc, q⟩ := h
    have hu65 : (A.deeper (envOfC (Str.ofString "opened_group") (defScope s_opened_group) s.heap.objs.size f cdv)).units + 65 < cLine := by
      have := hr.un
      omega
    have hrl : rs.length = cs.length := by rw [hR.1, List.length_map]
    refine ⟨_, (pss_cons (ps_setLc (i := 2) (own := [("cell", 1)]) (g := (gName 1)) (tt := tYes) rfl sc_opened_group.nd rfl rfl (sw_true rfl rfl rfl (by decide +kernel)) (pi_list (pv 0)) (blkOk_by (N := ["cells", "cell", "loads", "load", "others"]) (sc := defScope s_opened_group) (by decide +kernel)) (fun _ _ _ _ _ => pg_name (i := 1) sc_opened_group.nd rfl (by first | exact Or.inl rfl | exact Or.inr rfl)) (fun _ _ _ _ _ => pts_nil) (fun _ _ _ _ _ => (pe_ifExp (pt_val (C8.pe_c c_is_good hr (by omega) (by rfl) (pa_cons (pv 1) pa_nil))) (pe_slice (sl_list : SlR _ (rSlL K)) (pv 1) po_none (po_some (pe_glob (v := .int 48) (by rfl) CN.load ⟨_, rfl⟩))) pe_non)))
    (pss_cons (ps_if (pt_cmpR op_eq (pe_bm PySem.F.plainAttrs_list PySem.F.slot_list_count PySem.F.type_list_count (mt_countN hr.units) (pv 2) (pa_cons pe_non pa_nil)) pe_int (nomark _)) (pss_cons (ps_setLc (i := 4) (own := [("load", 3)]) (g := (gName 3)) (tt := _) rfl sc_opened_group.nd rfl rfl (sw_true rfl rfl rfl (by decide +kernel)) (pi_list (pv 2)) (blkOk_by (N := ["cells", "cell", "loads", "load", "others"]) (sc := defScope s_opened_group) (by decide +kernel)) (fun _ _ _ _ _ => pg_name (i := 3) sc_opened_group.nd rfl (by first | exact Or.inl rfl | exact Or.inr rfl)) (fun _ _ _ _ _ => (pts_one (pt_cmpR op_notN (pv 3) pe_non (nomark _)))) (fun _ _ _ _ _ => (pv 3)))
    (pss_one (ps_asg (C8.pe_c c_parity_of hr (by omega) (by rfl) (pa_cons (pv 4) pa_nil)) (pg_sub (pv 2) (pe_bm PySem.F.plainAttrs_list PySem.F.slot_list_index PySem.F.type_list_index (mt_indexD hu65) (pv 2) (pa_cons pe_non pa_nil)) set_list)))) pss_nil)
    (pss_one (ps_ret (pe_slice sl_list (pv 2) po_none (po_some (pe_un un_neg pe_int))))))), ?_⟩
    walk_at "ev"
    refine ⟨⟨_, .inl (.inl hp)⟩, fun D nD => ?_⟩
    refine lc_it (walk_list (xs := rs.map V.ref)) (fun t H2 => Same H H2 ∧ ∃ us, H2 D = some (.lst us) ∧ OLs (fun r => r ≠ D ∧ H r = none) H2 us ((cs.map loadO).take t)) ⟨same_upd nD, [], upd_same, ols_nil⟩ (fun _ _ _ h => .inl (.inl (h.1 _ _ hp))) ?_ ?_
    · rintro t x H2 H3 ht ⟨s2, us, e2, o2⟩ ⟨rfl, hx⟩
      rw [List.getElem?_map] at hx
      obtain ⟨a, ha, rfl⟩ := Option.map_eq_some_iff.mp hx
      obtain ⟨l, f1, f2⟩ := hR.2 t a ha
      rw [List.getElem?_map] at f1
      obtain ⟨c, hct, rfl⟩ := Option.map_eq_some_iff.mp f1
      obtain ⟨hcl, hcb⟩ := hc c (List.mem_of_getElem? hct)
      walk_at "ev"
      refine ⟨a, c, rfl, s2 _ _ f2, hcb, hcl, fun H4 s4 => ?_⟩
      have e4 := s4 _ _ e2
      have o4 := o2.same s4
      have s04 := s2.trans s4
      have hul : us.length < sizeLine := by
        rw [o2.1, List.length_take, List.length_map]
        exact small1000 (Nat.le_trans (Nat.min_le_right _ _) (by omega))
      have gi : (cs.map loadO)[t]? = some (loadO c) := by rw [List.getElem?_map, hct]; rfl
      rw [← take_snoc gi]
      refine ⟨_, rfl, ?_⟩
      cases hg : goodC c with
      | true =>
        rw [if_pos rfl]
        walk_at "ev"
        refine ⟨a, _, rfl, .inl (.inl (s04 _ _ f2)), fun p1 n1 => ?_⟩
        have e1 : cutV (c.map V.int) none (some 48) = (c.take 48).map V.int := by
          rw [cut_to (y := 48) (k := 48) rfl (by rw [List.length_map, hcl]; decide), List.map_take]
        rw [e1]
        have p1D : p1 ≠ D := (ne_of_none e4 n1).symm
        have hlo : loadO c = some (c.take 48) := by unfold loadO; rw [if_pos hg]
        rw [hlo]
        refine ⟨us, new_at e4 n1, hul, fun b o e => ?_, us ++ [.ref p1], upd_same, ?_⟩
        · rw [upd_ne (ne_of_none e nD)]
          exact new_at (s04 _ _ e) n1
        · exact ((o4.same (same_upd n1)).app (ols_some ⟨p1D, s04.free n1⟩ upd_same)).grow fun _ n => n.1
      | false =>
        rw [if_neg (by decide)]
        walk_at "ev"
        have hlo : loadO c = none := by unfold loadO; rw [hg, if_neg (by decide)]
        rw [hlo]
        refine ⟨us, e4, hul, fun b o e => ?_, us ++ [.non], upd_same, ?_⟩
        · rw [upd_ne (ne_of_none e nD)]
          exact s04 _ _ e
        · exact (o4.app ols_none).grow fun _ n => n.1
    · rintro H2 ⟨s2, us, e2, o2⟩
      rw [List.length_map, hrl, List.take_of_length_le (by rw [List.length_map]; exact Nat.le_refl _)] at o2
      walk_at "ev"
      refine ⟨.inl ⟨rfl, _, .inl (.inl e2)⟩, ?_⟩
      walk_at "ev"
      refine ⟨D, _, rfl, rfl, .lst (.inl (.inl e2)) o2.dp, oD_plain _, ?_⟩
      rw [oD_count]
      walk_at "ev"
      · rename_i hc1
        have hc1 : (cs.map loadO).count none = 1 := by omega
        refine ⟨⟨_, .inl (.inl e2)⟩, fun D2 nD2 => ?_⟩
        have nDD : D ≠ D2 := ne_of_none e2 nD2
        refine lc_it (walk_list (xs := us)) (fun t H3 => Same H2 H3 ∧ ∃ rs2 : List Addr, H3 D2 = some (.lst (rs2.map V.ref)) ∧ Rws H2 rs2 ((((cs.map loadO).take t).filterMap id).map (·.map V.int))) ⟨same_upd nD2, [], upd_same, rws_nil⟩ (fun _ _ _ h => .inl (.inl (h.1 _ _ e2))) ?_ ?_
        · rintro t x H3 H4 ht ⟨s3, rs2, e3, r3⟩ ⟨rfl, hx⟩
          have sn : ∀ o, (cs.map loadO)[t]? = some o → (cs.map loadO).take (t + 1) = (cs.map loadO).take t ++ [o] := fun o ho => (take_snoc ho).symm
          rcases o2.2 t x hx with ⟨h1, rfl⟩ | ⟨r, l, h1, rfl, nr, h2⟩
          · walk_at "ev"
            refine ⟨s3, rs2, e3, ?_⟩
            rw [sn _ h1, List.filterMap_append]
            have e : ([none] : List (Option (List Int))).filterMap id = [] := rfl
            rw [e, List.append_nil]
            exact r3
          · walk_at "ev"
            have r2l : rs2.length ≤ t := by
              rw [r3.1, List.length_map]
              exact Nat.le_trans (List.length_filterMap_le _ _) (by rw [List.length_take]; exact Nat.min_le_left _ _)
            refine ⟨_, e3, ?_, fun b o e => ?_, rs2 ++ [r], ?_, ?_⟩
            · rw [List.length_map]
              have := o2.1
              rw [List.length_map] at this
              exact small1000 (by omega)
            · rw [upd_ne (ne_of_none e nD2)]
              exact s3 _ _ e
            · rw [upd_same, List.map_append]
              rfl
            · rw [sn _ h1, List.filterMap_append, List.map_append]
              exact r3.app (Rws.cons h2 rws_nil)
        · rintro H3 ⟨s3, rs2, e3, r3⟩
          have hul := o2.1
          rw [List.take_of_length_le (by omega)] at r3
          have hnl := none_len (cs.map loadO)
          rw [hc1, List.length_map] at hnl
          walk_at "ev"
          refine ⟨D2, rs2, (cs.map loadO).filterMap id, rfl, e3, r3.same s3, fun z => by rw [z] at hnl; simp at hnl; omega, by omega, fun l ml => ?_, fun p3 H4 n3 s4 e4 => ?_⟩
          · obtain ⟨o, mo, ho⟩ := List.mem_filterMap.mp ml
            obtain ⟨c, mc, rfl⟩ := List.mem_map.mp mo
            have ho2 : loadO c = some l := ho
            unfold loadO at ho2
            split at ho2
            · rw [← Option.some.inj ho2]
              obtain ⟨hcl, hcb⟩ := hc c mc
              exact ⟨by rw [List.length_take, hcl]; rfl, hcb.take _⟩
            · cases ho2
          obtain ⟨j, j1, j2, j3⟩ := one_none hc1
          have s24 := s3.trans s4
          have e24 := s24 _ _ e2
          have o4 := o2.same s24
          have p3D : p3 ≠ D := (ne_of_none (s3 _ _ e2) n3).symm
          walk_at "ev"
          refine ⟨.inl ⟨rfl, _, .inl (.inl e24)⟩, ?_⟩
          walk_at "ev"
          have jl : j < us.length := by
            have := (List.getElem?_eq_some_iff.mp j1).1
            omega
          refine ⟨D, .non, .none, (cs.map loadO).map oD, j, .none, rfl, rfl, .lst (.inl (.inl e24)) o4.dp, .non, oD_sh _, shd_non.sh (by decide : 0 ≤ 64), by rw [List.getElem?_map, j1]; rfl, oD_none none, fun m z hm hz => ?_, ?_⟩
          · rw [List.getElem?_map] at hz
            obtain ⟨o, ho, rfl⟩ := Option.map_eq_some_iff.mp hz
            rw [oD_none]
            cases o with
            | none => exact absurd rfl (j2 m none hm ho)
            | some l => rfl
          refine ⟨D, us, _, j, rfl, rfl, e24, ixN_at jl, ?_⟩
          have oS := (o4.grow (o := .lst (us.set j (.ref p3))) fun _ n => n.1).set j ⟨p3D, (s2.trans s3).free n3⟩ (by rw [upd_ne p3D]; exact e4)
          have s5 : ∀ b o, b ≠ D → H4 b = some o → upd H4 D (.lst (us.set j (.ref p3))) b = some o := fun b o n e => by rw [upd_ne n]; exact e
          have e5 : upd H4 D (.lst (us.set j (.ref p3))) D = some (.lst (us.set j (.ref p3))) := upd_same
          have sH : Same H (upd H4 D (.lst (us.set j (.ref p3)))) := fun b o e => s5 b o (ne_of_none e nD) (s24 _ _ (s2 _ _ e))
          generalize upd H4 D (.lst (us.set j (.ref p3))) = H5 at *
          walk_at "ev"
          refine ⟨D, _, rfl, .inl (.inl e5), fun p6 n6 => ?_⟩
          rw [cut_init]
          have ho : openG cs = ((cs.map loadO).set j (some (parL ((cs.map loadO).filterMap id)))).dropLast := by
            unfold openG healO
            rw [if_pos hc1, j3]
          rw [ho] at q
          exact q p6 _ _ (sH.free n6) (sH.trans (same_upd n6)) upd_same ((oS.init.same (same_upd n6)).up fun _ _ n e => ⟨n.2, e⟩)
      · rename_i hc1
        have hc1 : ¬ (cs.map loadO).count none = 1 := by omega
        refine ⟨D, us, rfl, .inl (.inl e2), fun p1 n1 => ?_⟩
        rw [cut_init]
        have ho : openG cs = (cs.map loadO).dropLast := by unfold openG healO; rw [if_neg hc1]
        rw [ho] at q
        exact q p1 _ _ (s2.free n1) (s2.trans (same_upd n1)) upd_same ((o2.init.same (same_upd n1)).up fun _ _ n e => ⟨n.2, e⟩)
theorem flat_take_le {α : Type} (l : List (List α)) (i : Nat) : (l.take i).flatten.length ≤ l.flatten.length := by
  have h := congrArg List.length (congrArg List.flatten (List.take_append_drop i l))
  rw [List.flatten_append, List.length_append] at h
  omega
/-! ### opening -/
theorem ceil48 (n : Nat) : -(-(n : Int) / 48) = (((n + 47) / 48 : Nat) : Int) := by omega
def spSpan : Sp := fun vs H Q _ => ∃ (p : Addr) (us : List V) (r : Addr) (l : List Int) (c s : Nat), vs = [.ref p] ∧ H p = some (.lst us) ∧ us[0]? = some (.ref r) ∧ H r = some (.lst (l.map V.int)) ∧ IsLoad l ∧ readC l 0 = .read c s ∧ c ≤ 1000000 ∧ (s + c + 47) / 48 = us.length ∧ ∀ (q : Addr) (H' : Hp), H q = none → Same H H' → H' q = some (.tup [.int s, .int ((s : Int) + c)]) → Q (.ref q) H'
theorem ok_span {f : Addr} {fd : FuncData} {k : Nat} {t : Tok} (F : Fun K "span_told" "span_told" s_span_told f fd) (T : Txt mg) (CN : Con mg t1 t2 t3 t4 t5) (hP : mg "MOST_PROTECTED" = some (.int 1000000 t)) (c_count_at : C8.Cal P w K mg base 2 "count_at" spCountAt []) : FnOk P w K mg base CX0 (k + 3) f fd ["loads"] spSpan := by
  refine F.ok sc_span_told (fun vs H Q E h => ?_) (fun cdv A outer s H vs Q E hr h => ?_)
  · obtain ⟨p, us, r, l, c, s, rfl, _⟩ := h
    rfl
  · obtain ⟨p, us, r, l, c, s, rfl, hp, hu0, hr0, hlo, hrd, hc, hn, q⟩ := h
    refine ⟨_, (pss_cons (ps_set (i := 1) sc_span_told.nd rfl (Or.inl rfl) (C8.pe_c c_count_at hr (by omega) (by rfl) (pa_cons (pe_ix ix_list (pv 0) pe_int (fun _ _ => rfl)) (pa_cons pe_int pa_nil))))
    (pss_cons (ps_if (pt_cmpR op_ne (pe_ix ix_tup (pv 1) pe_int (fun _ _ => rfl)) pe_str (nomark _)) (pss_one ps_never) pss_nil)
    (pss_cons (ps_asg (pv 1) (pg_tup rfl (pgs_cons (pg_name (i := 2) sc_span_told.nd rfl (Or.inl rfl)) (pgs_cons (pg_name (i := 3) sc_span_told.nd rfl (Or.inl rfl)) (pgs_cons (pg_name (i := 4) sc_span_told.nd rfl (Or.inl rfl)) pgs_nil)))))
    (pss_cons (ps_if (PW.pt (pw_or (pt_cmpR op_gt (pv 3) (pe_glob (v := .int 1000000) (by rfl) hP ⟨_, rfl⟩) (nomark _)) (pw_or1 (pt_cmpR op_ne (pe_un un_neg (pe_op op_fdiv (pe_un un_neg (pe_op op_add (pv 4) (pv 3))) (pe_glob (v := .int 48) (by rfl) CN.load ⟨_, rfl⟩))) (pe_callB call_len_seq (by rfl) T.z_len PySem.boot_len (pa_cons (pv 0) pa_nil)) (nomark _))))) (pss_one ps_never) pss_nil)
    (pss_one (ps_ret (pe_tup (pa_cons (pv 4) (pa_cons (pe_op op_add (pv 4) (pv 3)) pa_nil))))))))), ?_⟩
    walk_at "ev"
    refine ⟨p, us, _, _, rfl, rfl, .inl (.inl hp), at_of (j := 0) (by decide) hu0, ?_⟩
    walk_at "ev"
    refine ⟨r, l, 0, rfl, hr0, hlo.2, Nat.zero_le _, by rw [hlo.1]; decide, fun q1 H1 n1 s1 e1 => ?_⟩
    rw [hrd] at e1
    replace e1 : H1 q1 = some (.tup [.str "read", .int c, .int s]) := e1
    have hcl : -(-((s : Int) + (c : Int)) / 48) = (us.length : Int) := by omega
    walk_at "ev"
    refine ⟨p, us, rfl, .inl (.inl (.inl (s1 _ _ hp))), ?_⟩
    walk_at "ev"
    refine ⟨by show 2 ≤ sizeLine; decide, fun q2 n2 => q q2 _ (s1.free n2) (s1.trans (same_upd n2)) upd_same⟩
/-- the bits of a load, None where it is lost -/
def oW : Option (List Int) → List V
  | none => List.replicate 48 V.non
  | some l => l.map V.int
def flatO (os : List (Option (List Int))) : List V := (os.map oW).flatten
theorem inV_ints (x : Int) : ∀ ns : List Int, inV (.int x) (ns.map V.int) = decide (x ∈ ns)
  | [] => rfl
  | n :: r => by
    have ih := inV_ints x r
    unfold inV at ih ⊢
    rw [List.map_cons, List.any_cons, ih]
    show (decide (n = x) || decide (x ∈ r)) = _
    by_cases e : n = x
    · subst e
      simp
    · have e2 : ¬ x = n := fun z => e z.symm
      simp [e, e2]
theorem flat_ints : ∀ ns : List Int, (ns.map V.int).all flatV = true
  | [] => rfl
  | n :: r => by
    rw [List.map_cons, List.all_cons, flat_ints r]
    rfl
theorem chunks_ge2 {α : Type} {n : Nat} (hn : 1 < n) : ∀ (k : Nat) (xs : List α), xs.length ≤ k → xs.length % n ≠ 1 → ∀ b ∈ chunks xs n, 2 ≤ b.length
  | 0, xs, h, _, b, m => by
    rw [List.length_eq_zero_iff.mp (Nat.le_zero.mp h), chunks_nil] at m
    cases m
  | k + 1, xs, h, h2, b, m => by
    by_cases e : xs = []
    · subst e
      rw [chunks_nil] at m
      cases m
    have hl : 0 < xs.length := List.length_pos_iff.mpr e
    rw [chunks_cons (by omega) e] at m
    by_cases h3 : n ≤ xs.length
    · rcases List.mem_cons.mp m with rfl | m
      · rw [List.length_take]
        omega
      · refine chunks_ge2 hn k _ (by rw [List.length_drop]; omega) ?_ b m
        rw [List.length_drop]
        have : xs.length % n = (xs.length - n) % n := by
          conv => lhs; rw [show xs.length = xs.length - n + n by omega]
          rw [Nat.add_mod_right]
        omega
    · rw [List.drop_eq_nil_of_le (by omega), chunks_nil] at m
      rw [Nat.mod_eq_of_lt (by omega)] at h2
      rw [List.mem_singleton.mp m, List.length_take]
      omega
/-- the groups of a text of cells, opened -/
def opensL (xs : List Int) (g : Nat) : List (Option (List Int)) := ((chunks (chunks xs 56) (g + 1)).map openG).flatten
theorem openG_le (cs : List (List Int)) : (openG cs).length ≤ cs.length := by
  unfold openG healO
  split
  · rw [List.length_dropLast, List.length_map, List.length_map]
    omega
  · rw [List.length_dropLast, List.length_map]
    omega
theorem opens_le : ∀ bs : List (List (List Int)), ((bs.map openG).flatten).length ≤ bs.flatten.length
  | [] => Nat.le_refl _
  | b :: bs => by
    have h1 := opens_le bs
    have h2 := openG_le b
    rw [List.map_cons, List.flatten_cons, List.flatten_cons, List.length_append, List.length_append]
    omega
theorem openG_load {cs : List (List Int)} (h : ∀ c ∈ cs, c.length = 56 ∧ AreBits c) : ∀ l, some l ∈ openG cs → IsLoad l := fun l m => by
  have key : ∀ o ∈ cs.map loadO, ∀ l, o = some l → IsLoad l := fun o mo l e => by
    obtain ⟨c, mc, rfl⟩ := List.mem_map.mp mo
    obtain ⟨hcl, hcb⟩ := h c mc
    unfold loadO at e
    split at e
    · rw [← Option.some.inj e]
      exact ⟨by rw [List.length_take, hcl]; rfl, hcb.take _⟩
    · cases e
  unfold openG at m
  have m2 := (List.dropLast_sublist _).subset m
  unfold healO at m2
  split at m2
  · obtain ⟨o, mo, e⟩ := List.mem_map.mp m2
    cases o with
    | none =>
      rw [← Option.some.inj e]
      exact ⟨parL_len _, parL_bits _⟩
    | some l2 =>
      rw [← Option.some.inj e]
      exact key _ mo l2 rfl
  · exact key _ m2 l rfl
theorem opensL_load {xs : List Int} {g : Nat} (h : ∀ c ∈ chunks xs 56, c.length = 56 ∧ AreBits c) : ∀ l, some l ∈ opensL xs g → IsLoad l := fun l m => by
  obtain ⟨b, mb, ml⟩ := List.mem_flatten.mp m
  obtain ⟨cb, mc, rfl⟩ := List.mem_map.mp mb
  exact openG_load (fun c m2 => h c (chunks_mem mc c m2)) l ml
theorem flatO_snoc (os : List (Option (List Int))) (o : Option (List Int)) : flatO (os ++ [o]) = flatO os ++ oW o := by
  unfold flatO
  rw [List.map_append, List.flatten_append, List.map_cons, List.map_nil, List.flatten_cons, List.flatten_nil, List.append_nil]
theorem flatO_len : ∀ {os : List (Option (List Int))}, (∀ l, some l ∈ os → IsLoad l) → (flatO os).length = 48 * os.length
  | [], _ => rfl
  | o :: os, h => by
    have ih := flatO_len (os := os) fun l m => h l (List.mem_cons_of_mem _ m)
    have e : flatO (o :: os) = oW o ++ flatO os := by
      unfold flatO
      rw [List.map_cons, List.flatten_cons]
    rw [e, List.length_append, ih, List.length_cons, Nat.mul_add, Nat.mul_one, Nat.add_comm]
    cases o with
    | none => rfl
    | some l =>
      show _ + (l.map V.int).length = _
      rw [List.length_map, (h l List.mem_cons_self).1]
theorem flatO_flat : ∀ (os : List (Option (List Int))), (flatO os).all flatV = true
  | [] => rfl
  | o :: os => by
    have ih := flatO_flat os
    have e : flatO (o :: os) = oW o ++ flatO os := by
      unfold flatO
      rw [List.map_cons, List.flatten_cons]
    rw [e, List.all_append, ih, Bool.and_true]
    cases o with
    | none => rfl
    | some l => exact flat_ints l
theorem flat_rep (n : Nat) (v : V) : (List.replicate n [v]).flatten = List.replicate n v := by
  induction n with
  | zero => rfl
  | succ n ih => rw [List.replicate_succ, List.flatten_cons, ih, List.replicate_succ]; rfl
theorem cut_drop {xs : List V} {y : Int} {k : Nat} (hy : y = (k : Int)) (hk : k ≤ xs.length) : cutV xs (some y) none = xs.drop k := by
  subst hy
  unfold cutV
  rw [HT.sIx_none, HT.sIx_nat, Nat.min_eq_left hk, List.take_of_length_le (by rw [List.length_drop]; exact Nat.le_refl _)]
/-- what open_cells tells -/
inductive Opens (os : List (Option (List Int))) : Option (List V) → Prop
  | lost (h : os[0]? = some none) : Opens os none
  | told {l : List Int} {c s : Nat} (h : os[0]? = some (some l)) (hr : readC l 0 = .read c s) (hc : c ≤ 1000000) (hn : (s + c + 47) / 48 = os.length) (hf : inV (.int 1) ((flatO os).drop (s + c)) = false) : Opens os (some (((flatO os).drop s).take c))
def oV : Option (List V) → Hp → Hp → VK → Prop := fun o H H' Q => match o with
  | none => Q .non H'
  | some vs => ∀ q : Addr, H q = none → H' q = some (.lst vs) → Q (.ref q) H'
def spOpen : Sp := fun vs H Q _ => ∃ (p : Addr) (xs : List Int) (m g : Nat) (r : Option (List V)), vs = [.ref p, .int g] ∧ H p = some (.lst (xs.map V.int)) ∧ AreBits xs ∧ xs.length = 56 * m ∧ 1 ≤ m ∧ m ≤ 800 ∧ 1 ≤ g ∧ g ≤ 8 ∧ m % (g + 1) ≠ 1 ∧ Opens (opensL xs g) r ∧ ∀ H', Same H H' → oV r H H' Q
theorem ok_open {f : Addr} {fd : FuncData} {k : Nat} (F : Fun K "open_cells" "open_cells" s_open_cells f fd) (T : Txt mg) (CN : Con mg t1 t2 t3 t4 t5) (c_check_cells : C8.Cal P w K mg base 3 "check_cells" spCells []) (c_parts_of : C8.Cal P w K mg base 1 "parts_of" spParts []) (c_opened_group : C8.Cal P w K mg base 4 "opened_group" spOpened [])
    (c_span_told : C8.Cal P w K mg base 3 "span_told" spSpan []) : FnOk P w K mg base CX0 (k + 5) f fd ["protected", "group"] spOpen := by
  refine F.ok sc_open_cells (fun vs H Q E h => ?_) (fun cdv A outer s H vs Q E hr h => ?_)
  · obtain ⟨p, xs, m, g, r, rfl, _⟩ := h
    rfl
  · obtain ⟨p, xs, m, g, r, rfl, hp, hb, hl, hm, hm2, h1, h2, h3, ho, q⟩ := h
    have hcl : (chunks xs 56).length = m := by rw [chunks_len, hl]; omega
    refine ⟨_, (pss_cons (ps_expr (C8.pe_c c_check_cells hr (by omega) (by rfl) (pa_cons (pv 0) (pa_cons (pv 1) pa_nil))))
    (pss_cons (ps_set (i := 2) sc_open_cells.nd rfl (Or.inl rfl) (pe_lst pa_nil))
    (pss_cons (ps_for PassesOwn.never rfl (pi_list (C8.pe_c c_parts_of hr (by omega) (by rfl) (pa_cons (C8.pe_c c_parts_of hr (by omega) (by rfl) (pa_cons (pv 0) (pa_cons (pe_glob (v := .int 56) (by rfl) CN.cell ⟨_, rfl⟩) pa_nil))) (pa_cons (pe_op op_add (pv 1) pe_int) pa_nil)))) (pg_name (i := 3) sc_open_cells.nd rfl (Or.inl rfl))
      (pss_one (ps_expr (pe_bm PySem.F.plainAttrs_list PySem.F.slot_list_extend PySem.F.type_list_extend mt_extend (pv 2) (pa_cons (C8.pe_c c_opened_group hr (by omega) (by rfl) (pa_cons (pv 3) pa_nil)) pa_nil)))))
    (pss_cons (ps_if (pt_cmpR op_isN (pe_ix ix_list (pv 2) pe_int (fun _ _ => rfl)) pe_non (nomark _)) (pss_one (ps_ret pe_non)) pss_nil)
    (pss_cons (ps_asg (C8.pe_c c_span_told hr (by omega) (by rfl) (pa_cons (pv 2) pa_nil)) (pg_tup rfl (pgs_cons (pg_name (i := 4) sc_open_cells.nd rfl (Or.inl rfl)) (pgs_cons (pg_name (i := 5) sc_open_cells.nd rfl (Or.inl rfl)) pgs_nil))))
    (pss_cons (ps_set (i := 6) sc_open_cells.nd rfl (Or.inl rfl) (pe_lst pa_nil))
    (pss_cons (ps_for PassesOwn.never rfl (pi_list (pv 2)) (pg_name (i := 7) sc_open_cells.nd rfl (Or.inl rfl))
      (pss_one (ps_expr (pe_bm PySem.F.plainAttrs_list PySem.F.slot_list_extend PySem.F.type_list_extend mt_extend (pv 6) (pa_cons (pe_ifExp (pt_cmpR op_isN (pv 7) pe_non (nomark _)) (pe_op op_rep (pe_lst (pa_cons pe_non pa_nil)) (pe_glob (v := .int 48) (by rfl) CN.load ⟨_, rfl⟩)) (pv 7)) pa_nil)))))
    (pss_cons (ps_if (pt_cmpR op_in_seq pe_int (pe_slice sl_list (pv 6) (po_some (pv 5)) po_none) (by rfl)) (pss_one ps_never) pss_nil)
    (pss_one (ps_ret (pe_slice sl_list (pv 6) (po_some (pv 4)) (po_some (pv 5))))))))))))), ?_⟩
    walk_at "ev"
    refine ⟨p, xs, m, g, rfl, hp, hb, hl, hm, h1, h2, h3, ?_⟩
    walk_at "ev"
    refine ⟨by show 0 ≤ sizeLine; decide, fun f0 nf0 => ?_⟩
    walk_at "ev"
    refine ⟨p, _, 56, rfl, new_at hp nf0, by decide, by decide, by rw [List.length_map]; omega, fun q1 rs H1 n1 s1 e1 R1 fr1 nd1 => ?_⟩
    rw [chunks_map] at R1
    walk_at "ev"
    have hrs : rs.length = m := by rw [R1.1, List.length_map, hcl]
    refine ⟨q1, _, g + 1, rfl, e1, by omega, by omega, by rw [List.length_map]; omega, fun q2 ds H2 n2 s2 e2 R2 fr2 nd2 => ?_⟩
    rw [chunks_map] at R2
    have f02 := s2 _ _ (s1 _ _ (upd_same (H := H) (a := f0) (o := .lst [])))
    have f01 := s1 _ _ (upd_same (H := H) (a := f0) (o := .lst []))
    have q2f : q2 ≠ f0 := (ne_of_none f01 n2).symm
    have sH2 : Same H H2 := (same_upd nf0).trans (s1.trans s2)
    have R12 := R1.same s2
    have dsl : ds.length = (chunks (chunks xs 56) (g + 1)).length := by rw [R2.1, List.length_map, chunks_len, chunks_len, hrs, hcl]
    have hcells : ∀ c ∈ chunks xs 56, c.length = 56 ∧ AreBits c := fun c m => ⟨chunks_even (by decide) (by omega) m, fun x mx => hb x (chunks_mem m x mx)⟩
    refine ⟨q2, rfl, ⟨_, .inl (.inl e2)⟩, for_list (K := K) (a := q2) (xs := ds.map V.ref) (fun i σ H3 => ∃ v3, σ = [some (.ref p), some (.int g), some (.ref f0), v3, none, none, none, none] ∧ Up f0 H2 H3 ∧ ∃ us, H3 f0 = some (.lst us) ∧ OLs (· ≠ f0) H3 us (((chunks (chunks xs 56) (g + 1)).take i).map openG).flatten) ⟨_, rfl, Up.refl _ _, [], f02, ols_nil⟩ (fun _ _ _ _ ⟨_, _, u, _⟩ => .inl (.inl (u _ _ q2f e2))) ?_ ?_⟩
    · rintro i x σ H3 hx ⟨v3, rfl, u3, us, e3, o3⟩
      rw [List.getElem?_map] at hx
      obtain ⟨d, hd, rfl⟩ := Option.map_eq_some_iff.mp hx
      obtain ⟨l0, f1, f2⟩ := R2.2 i d hd
      rw [List.getElem?_map] at f1
      obtain ⟨rb, hrb, rfl⟩ := Option.map_eq_some_iff.mp f1
      have hil := (List.getElem?_eq_some_iff.mp hd).1
      obtain ⟨cb, hcb⟩ : ∃ cb, (chunks (chunks xs 56) (g + 1))[i]? = some cb := ⟨_, List.getElem?_eq_getElem (by omega)⟩
      have Rb : Rws H2 rb (cb.map (·.map V.int)) := by
        rw [chunks_get hrb, chunks_get hcb, List.map_take, List.map_drop]
        exact R12.chunk _ _
      have mcb := List.mem_of_getElem? hcb
      obtain ⟨cbn, cbl⟩ := chunks_ne (Nat.succ_pos g) mcb
      have cb2 := chunks_ge2 (n := g + 1) (by omega) _ (chunks xs 56) (Nat.le_refl _) (by rw [hcl]; exact h3) cb mcb
      have dne : d ≠ f0 := fun z => by
        have := (fr2 d (List.mem_of_getElem? hd)).1
        rw [z, f01] at this
        cases this
      have rbn : ∀ r ∈ rb, r ≠ f0 := fun r mr z => by
        have := (fr1 r (chunks_mem (List.mem_of_getElem? hrb) r mr)).1
        rw [z, upd_same] at this
        cases this
      have Rb3 : Rws H3 rb (cb.map (·.map V.int)) := ⟨Rb.1, fun j r e => by
        obtain ⟨l, g1, g2⟩ := Rb.2 j r e
        exact ⟨l, g1, u3 _ _ (rbn r (List.mem_of_getElem? e)) g2⟩⟩
      walk_at "ev"
      refine ⟨.inl ⟨rfl, _, .inl (.inl e3)⟩, ?_⟩
      walk_at "ev"
      refine ⟨d, rb, cb, rfl, u3 _ _ dne f2, Rb3, cb2, by omega, fun c mc => hcells c (chunks_mem mcb c mc), fun p4 us4 H4 n4 s4 e4 o4 => ?_⟩
      have hz : us.length + us4.length ≤ 1000 := by
        have h4 := openG_le cb
        have h5 := Nat.le_trans (opens_le ((chunks (chunks xs 56) (g + 1)).take i)) (flat_take_le (chunks (chunks xs 56) (g + 1)) i)
        rw [chunks_flat (Nat.succ_pos g) _ (chunks xs 56) (Nat.le_refl _), hcl] at h5
        rw [o3.1, o4.1]
        omega
      have p4f : p4 ≠ f0 := (ne_of_none e3 n4).symm
      refine ⟨f0, p4, us, us4, rfl, rfl, s4 _ _ e3, e4, Nat.le_of_lt (small1000 hz), ?_⟩
      refine ⟨_, rfl, fun b o n e => ?_, us ++ us4, upd_same, ?_⟩
      · show upd _ _ _ b = _
        rw [upd_ne n]
        exact s4 _ _ (u3 _ _ n e)
      · rw [← take_snoc hcb, List.map_append, List.flatten_append]
        have e : ([cb].map openG).flatten = openG cb := by simp
        rw [e]
        exact ((o3.same s4).app (o4.up fun b o n e => ⟨(fun z => by (rw [z, e3] at n; cases n)), e⟩)).grow fun _ n => n
    · rintro σ H3 ⟨v3, rfl, u3, us, e3, o3⟩
      rw [List.length_map, dsl, List.take_length] at o3
      replace o3 : OLs (· ≠ f0) H3 us (opensL xs g) := o3
      have sH3 : Same H H3 := fun b o e => u3 _ _ (ne_of_none e nf0) (sH2 _ _ e)
      have hos := opensL_load (g := g) hcells
      have hul : us.length ≤ 1000 := by
        have h5 := opens_le (chunks (chunks xs 56) (g + 1))
        rw [chunks_flat (Nat.succ_pos g) _ (chunks xs 56) (Nat.le_refl _), hcl] at h5
        rw [o3.1]
        unfold opensL
        omega
      generalize opensL xs g = os at *
      walk_at "ev"
      cases ho with
      | lost h0 =>
        obtain ⟨v, hv⟩ : ∃ v, us[0]? = some v := ⟨_, List.getElem?_eq_getElem (by rw [o3.1]; exact (List.getElem?_eq_some_iff.mp h0).1)⟩
        obtain rfl : v = .non := by
          rcases o3.2 0 v hv with ⟨_, e⟩ | ⟨_, _, e, _⟩
          · exact e
          · rw [h0] at e
            cases e
        refine ⟨f0, us, _, _, rfl, rfl, .inl (.inl e3), at_of (j := 0) (by decide) hv, ?_⟩
        walk_at "ev"
        exact q H3 sH3
      | @told l c s h0 hrd hc hn hf =>
        obtain ⟨v, hv⟩ : ∃ v, us[0]? = some v := ⟨_, List.getElem?_eq_getElem (by rw [o3.1]; exact (List.getElem?_eq_some_iff.mp h0).1)⟩
        obtain ⟨r0, rfl, hr0⟩ : ∃ r0 : Addr, v = .ref r0 ∧ H3 r0 = some (.lst (l.map V.int)) := by
          rcases o3.2 0 v hv with ⟨e, _⟩ | ⟨r0, l2, e, e2, _, e3⟩
          · rw [h0] at e
            cases e
          · rw [h0] at e
            cases e
            exact ⟨r0, e2, e3⟩
        have hlo := hos l (List.mem_of_getElem? h0)
        refine ⟨f0, us, _, _, rfl, rfl, .inl (.inl e3), at_of (j := 0) (by decide) hv, ?_⟩
        walk_at "ev"
        refine ⟨f0, us, r0, l, c, s, rfl, e3, hv, hr0, hlo, hrd, hc, by rw [o3.1]; exact hn, fun q5 H5 n5 s5 e5 => ?_⟩
        walk_at "ev"
        refine ⟨by show 0 ≤ sizeLine; decide, fun f6 nf6 => ?_⟩
        have s35 := s5.trans (same_upd (o := .lst []) nf6)
        have o5 := o3.same s35
        have e35 := s35 _ _ e3
        have e6 : upd H5 f6 (.lst []) f6 = some (.lst []) := upd_same
        have f06 : f0 ≠ f6 := ne_of_none (s5 _ _ e3) nf6
        have nf6H : H f6 = none := (sH3.trans s5).free nf6
        have sH6 := sH3.trans s35
        have orf : ∀ (r : Addr) (l : List Int), upd H5 f6 (.lst []) r = some (.lst (l.map V.int)) → l ≠ [] → r ≠ f6 := fun r l e nl z => by
          rw [z, e6] at e
          cases l with
          | nil => exact nl rfl
          | cons a l => cases e
        generalize upd H5 f6 (.lst []) = H6 at *
        have hfl := flatO_len hos
        walk_at "ev"
        refine ⟨⟨_, .inl (.inl e35)⟩, for_list (K := K) (a := f0) (xs := us) (fun i σ H7 => ∃ v7, σ = [some (.ref p), some (.int g), some (.ref f0), v3, some (.int s), some (.int ((s : Int) + c)), some (.ref f6), v7] ∧ Up f6 H6 H7 ∧ H7 f6 = some (.lst (flatO (os.take i)))) ⟨_, rfl, Up.refl _ _, e6⟩ (fun _ _ _ _ ⟨_, _, u, _⟩ => .inl (.inl (u _ _ f06 e35))) ?_ ?_⟩
        · rintro i x σ H7 hx ⟨v7, rfl, u7, e7⟩
          have hl7 : (flatO (os.take i)).length ≤ 48 * 1000 := by
            rw [flatO_len fun l m => hos l (List.mem_of_mem_take m), List.length_take]
            refine Nat.mul_le_mul_left _ (Nat.le_trans (Nat.min_le_right _ _) ?_)
            rw [← o5.1]
            exact hul
          rcases o5.2 i x hx with ⟨h1, rfl⟩ | ⟨r, l, h1, rfl, nr, h2⟩
          · rw [← take_snoc h1, flatO_snoc]
            walk_at "ev"
            refine ⟨.inl ⟨rfl, _, .inl (.inl e7)⟩, ?_⟩
            walk_at "ev"
            refine ⟨by show 1 ≤ sizeLine; decide, fun z nz => ?_⟩
            walk_at "ev"
            refine ⟨z, _, _, rfl, rfl, upd_same, by decide, by decide, by show 1 * 48 ≤ _; exact Nat.le_of_lt (small1000 (by decide)), fun r nr => ?_⟩
            rw [flat_rep]
            have rf6 : r ≠ f6 := (ne_of_none (new_at e7 nz) nr).symm
            refine ⟨f6, r, _, _, rfl, rfl, new_at (new_at e7 nz) nr, upd_same, Nat.le_of_lt (small_m (by rw [List.length_replicate]; show _ + 48 < _; omega)), ?_⟩
            refine ⟨_, rfl, fun b o n e => ?_, upd_same⟩
            show upd _ _ _ b = _
            rw [upd_ne n]
            exact new_at (new_at (u7 _ _ n e) nz) nr
          · rw [← take_snoc h1, flatO_snoc]
            have hlo2 := hos l (List.mem_of_getElem? h1)
            have rf6 := orf r l h2 (fun z => by have := hlo2.1; rw [z] at this; cases this)
            walk_at "ev"
            refine ⟨.inl ⟨rfl, _, .inl (.inl e7)⟩, ?_⟩
            walk_at "ev"
            refine ⟨f6, r, _, _, rfl, rfl, e7, u7 _ _ rf6 h2, Nat.le_of_lt (small_m (by rw [List.length_map, hlo2.1]; omega)), ?_⟩
            refine ⟨_, rfl, fun b o n e => ?_, upd_same⟩
            show upd _ _ _ b = _
            rw [upd_ne n]
            exact u7 _ _ n e
        · rintro σ H7 ⟨v7, rfl, u7, e7⟩
          rw [o5.1, List.take_length] at e7
          walk_at "ev"
          have hsc : s + c ≤ (flatO os).length := by omega
          refine ⟨f6, _, rfl, .inl (.inl e7), fun p8 n8 => ?_⟩
          rw [cut_drop (k := s + c) (by omega) hsc]
          refine ⟨p8, _, rfl, .inl (.inl (.inl upd_same)), rfl, ?_, ?_⟩
          · rw [List.all_eq_true]
            exact fun z mz => List.all_eq_true.mp (flatO_flat os) z (List.mem_of_mem_drop mz)
          rw [hf]
          walk_at "ev"
          refine ⟨f6, _, rfl, .inl (.inl (new_at e7 n8)), fun p9 n9 => ?_⟩
          rw [cut_int (i := s) (k := s + c) rfl (by omega) (by omega) hsc, show s + c - s = c by omega]
          have sH7 : Same H H7 := fun b o e => u7 _ _ (ne_of_none e nf6H) (sH6 _ _ e)
          exact q _ ((sH7.trans (same_upd n8)).trans (same_upd n9)) p9 ((sH7.trans (same_upd n8)).free n9) upd_same
/-! ### the division of numbers -/
theorem add_xor {k x : Nat} (y : Nat) (h : x < 2 ^ k) : 2 ^ k * y + x = (2 ^ k * y) ^^^ x := by
  refine Nat.eq_of_testBit_eq fun j => ?_
  rw [Nat.testBit_two_pow_mul_add _ h, Nat.testBit_xor, Nat.testBit_two_pow_mul]
  by_cases hj : j < k
  · rw [if_pos hj, decide_eq_false (by omega), Bool.false_and, Bool.false_xor]
  · rw [if_neg hj, decide_eq_true (by omega), Bool.true_and, Nat.testBit_lt_two_pow (Nat.lt_of_lt_of_le h (Nat.pow_le_pow_right (by decide) (by omega))), Bool.xor_false]
theorem mul_xor (k a b : Nat) : 2 ^ k * (a ^^^ b) = (2 ^ k * a) ^^^ (2 ^ k * b) := by
  have := Nat.shiftLeft_xor_distrib (a := a) (b := b) (i := k)
  rw [Nat.shiftLeft_eq, Nat.shiftLeft_eq, Nat.shiftLeft_eq] at this
  rw [Nat.mul_comm, Nat.mul_comm _ a, Nat.mul_comm _ b]
  exact this
/-- the value of bits as a Nat -/
def valN (xs : List Int) : Nat := xs.foldl (fun v b => 2 * v + b.toNat) 0
theorem valN_go : ∀ (xs : List Int) (v : Nat), xs.foldl (fun v b => 2 * v + b.toNat) v = 2 ^ xs.length * v + valN xs
  | [], v => by simp [valN]
  | x :: xs, v => by
    have h1 := valN_go xs (2 * v + x.toNat)
    have h2 := valN_go xs (2 * 0 + x.toNat)
    have e : valN (x :: xs) = 2 ^ xs.length * (2 * 0 + x.toNat) + valN xs := h2
    rw [List.foldl_cons, h1, e, List.length_cons, Nat.pow_succ, Nat.mul_add, Nat.mul_add]
    rw [show 2 ^ xs.length * 2 * v = 2 ^ xs.length * (2 * v) by rw [Nat.mul_assoc]]
    omega
theorem valN_cons (x : Int) (xs : List Int) : valN (x :: xs) = 2 ^ xs.length * x.toNat + valN xs := by
  have h := valN_go xs (2 * 0 + x.toNat)
  have e : valN (x :: xs) = 2 ^ xs.length * (2 * 0 + x.toNat) + valN xs := h
  rw [e, Nat.mul_zero, Nat.zero_add]
theorem valN_snoc (xs : List Int) (x : Int) : valN (xs ++ [x]) = 2 * valN xs + x.toNat := by
  unfold valN
  rw [List.foldl_append]
  rfl
theorem valN_lt : ∀ {xs : List Int}, AreBits xs → valN xs < 2 ^ xs.length
  | [], _ => by decide
  | x :: xs, h => by
    have ih := valN_lt (xs := xs) fun z m => h z (List.mem_cons_of_mem _ m)
    have hx := h x List.mem_cons_self
    rw [valN_cons, List.length_cons, Nat.pow_succ]
    rcases bit_top hx with rfl | rfl
    · rw [show (0 : Int).toNat = 0 from rfl, Nat.mul_zero]
      omega
    · rw [show (1 : Int).toNat = 1 from rfl, Nat.mul_one]
      omega
/-- what stands in the number behind k steps -/
def divN (xs : List Int) (k : Nat) : Nat := (2 ^ (xs.length - k) * crcN (xs.take k)) ^^^ (256 * valN (xs.drop k))
theorem div_zero (xs : List Int) : divN xs 0 = 256 * valN xs := by
  unfold divN
  rw [List.take_zero, List.drop_zero]
  show (_ * 0) ^^^ _ = _
  rw [Nat.mul_zero, Nat.zero_xor]
theorem div_last (xs : List Int) : divN xs xs.length = crcN xs := by
  unfold divN
  rw [Nat.sub_self, List.take_length, List.drop_length]
  show (1 * _) ^^^ 0 = _
  rw [Nat.one_mul, Nat.xor_zero]
/-- the number ahead of a step, its top bit apart -/
theorem div_split {xs : List Int} {k : Nat} {z : Int} (hb : AreBits xs) (hz : xs[k]? = some z) :
    divN xs k = (2 ^ (xs.length - k - 1) * (256 * ((crcN (xs.take k) / 128) ^^^ z.toNat))) ^^^ ((2 ^ (xs.length - k - 1) * (2 * crcN (xs.take k) % 256)) ^^^ (256 * valN (xs.drop (k + 1)))) := by
  have hk := (List.getElem?_eq_some_iff.mp hz).1
  obtain ⟨m, hm⟩ : ∃ m, xs.length - k = m + 1 := ⟨xs.length - k - 1, by omega⟩
  have hd : xs.drop k = z :: xs.drop (k + 1) := by
    rw [List.drop_eq_getElem_cons hk]
    congr 1
    exact Option.some.inj ((List.getElem?_eq_getElem hk).symm.trans hz)
  have hl : (xs.drop (k + 1)).length = m := by rw [List.length_drop]; omega
  unfold divN
  rw [hm, Nat.add_sub_cancel, hd, valN_cons, hl]
  generalize hh : crcN (xs.take k) = h
  have hlt : h < 256 := by rw [← hh]; exact crcN_lt (hb.take k)
  have vl := valN_lt (AreBits.drop hb (k + 1))
  rw [hl] at vl
  generalize valN (xs.drop (k + 1)) = v at *
  have e1 : 2 ^ (m + 1) * h = (2 ^ m * (256 * (h / 128))) ^^^ (2 ^ m * (2 * h % 256)) := by
    rw [← mul_xor, Nat.pow_succ, Nat.mul_assoc]
    congr 1
    have t := add_xor (k := 8) (h / 128) (Nat.mod_lt (2 * h) (by decide : 0 < 2 ^ 8))
    show 2 * h = (2 ^ 8 * (h / 128)) ^^^ (2 * h % 2 ^ 8)
    rw [← t]
    omega
  have e2 : 256 * (2 ^ m * z.toNat + v) = (2 ^ m * (256 * z.toNat)) ^^^ (256 * v) := by
    have : 256 * (2 ^ m * z.toNat + v) = 2 ^ (m + 8) * z.toNat + 256 * v := by
      rw [Nat.mul_add, Nat.pow_add, ← Nat.mul_assoc, Nat.mul_comm 256]
    rw [this, add_xor (k := m + 8) _ (by rw [Nat.pow_add]; omega)]
    congr 1
    rw [Nat.pow_add, Nat.mul_assoc]
  have e3 : 256 * ((h / 128) ^^^ z.toNat) = (256 * (h / 128)) ^^^ (256 * z.toNat) := mul_xor 8 _ _
  rw [e1, e2, e3, mul_xor, xor4]
theorem bit_of {m t r : Nat} (ht : t < 2) (hr : r < 2 ^ (m + 8)) : ((2 ^ m * (256 * t)) ^^^ r) / 2 ^ (m + 8) % 2 = t := by
  have e : 2 ^ m * (256 * t) = 2 ^ (m + 8) * t := by rw [Nat.pow_add, Nat.mul_assoc]
  rw [e, ← add_xor _ hr, Nat.mul_add_div (Nat.two_pow_pos _), Nat.div_eq_of_lt hr, Nat.add_zero]
  omega
theorem low_lt {xs : List Int} {k : Nat} (hb : AreBits xs) (hk : k < xs.length) : (2 ^ (xs.length - k - 1) * (2 * crcN (xs.take k) % 256)) ^^^ (256 * valN (xs.drop (k + 1))) < 2 ^ (xs.length - k - 1 + 8) := by
  have vl := valN_lt (AreBits.drop hb (k + 1))
  rw [List.length_drop, show xs.length - (k + 1) = xs.length - k - 1 by omega] at vl
  refine Nat.xor_lt_two_pow ?_ ?_
  · rw [Nat.pow_add]
    exact Nat.mul_lt_mul_of_pos_left (Nat.mod_lt _ (by decide)) (Nat.two_pow_pos _)
  · rw [Nat.pow_add]
    omega
/-- the bit that is looked at -/
theorem div_bit {xs : List Int} {k : Nat} {z : Int} (hb : AreBits xs) (hz : xs[k]? = some z) : divN xs k / 2 ^ (xs.length + 7 - k) % 2 = (crcN (xs.take k) / 128) ^^^ z.toNat := by
  have hk := (List.getElem?_eq_some_iff.mp hz).1
  have ht := cst_top (crcN_lt (hb.take k)) (hb z (List.mem_of_getElem? hz))
  rw [div_split hb hz, show xs.length + 7 - k = xs.length - k - 1 + 8 by omega]
  exact bit_of (by omega) (low_lt hb hk)
theorem div_step {xs : List Int} {k : Nat} {z : Int} (hb : AreBits xs) (hz : xs[k]? = some z) : divN xs (k + 1) = if (crcN (xs.take k) / 128) ^^^ z.toNat = 1 then divN xs k ^^^ (263 * 2 ^ (xs.length - k - 1)) else divN xs k := by
  have hk := (List.getElem?_eq_some_iff.mp hz).1
  have ht := cst_top (crcN_lt (hb.take k)) (hb z (List.mem_of_getElem? hz))
  have e : divN xs (k + 1) = (2 ^ (xs.length - k - 1) * cst (crcN (xs.take k)) z) ^^^ (256 * valN (xs.drop (k + 1))) := by
    unfold divN
    rw [← take_snoc hz, crcN_snoc, show xs.length - (k + 1) = xs.length - k - 1 by omega]
  rw [e, div_split hb hz, cst, mul_xor]
  have h263 : 263 * 2 ^ (xs.length - k - 1) = (2 ^ (xs.length - k - 1) * (256 * 1)) ^^^ (2 ^ (xs.length - k - 1) * (7 * 1)) := by
    have : 256 * 1 ^^^ 7 * 1 = 263 := by decide
    rw [← mul_xor, this, Nat.mul_comm]
  rw [h263]
  generalize 2 ^ (xs.length - k - 1) = M
  generalize 2 * crcN (xs.take k) % 256 = a
  generalize 256 * valN (xs.drop (k + 1)) = b
  rcases ht with t | t <;> rw [t]
  · rw [if_neg (by decide)]
    simp
  · rw [if_pos rfl]
    generalize M * (256 * 1) = D
    generalize M * (7 * 1) = B
    generalize M * a = A
    rw [xor4 D (A ^^^ b) D B, Nat.xor_self, Nat.zero_xor, Nat.xor_assoc, Nat.xor_assoc, Nat.xor_comm B b]
theorem div_le {xs : List Int} (hb : AreBits xs) : ∀ k, k ≤ xs.length → divN xs k < 2 ^ (xs.length + 8)
  | 0, _ => by
    have := valN_lt hb
    rw [div_zero, Nat.pow_add]
    omega
  | k + 1, hk => by
    have ih := div_le hb k (by omega)
    have hz : xs[k]? = some xs[k] := List.getElem?_eq_getElem (by omega)
    rw [div_step hb hz]
    split
    · refine Nat.xor_lt_two_pow ih ?_
      have h1 : 2 ^ (xs.length - k - 1) ≤ 2 ^ (xs.length - 1) := Nat.pow_le_pow_right (by decide) (by omega)
      have h2 : 2 ^ (xs.length + 8) = 2 ^ (xs.length - 1) * 512 := by
        rw [show xs.length + 8 = (xs.length - 1) + 9 by omega, Nat.pow_add]
      omega
    · exact ih
/-! ### a draw -/
def spTake : Sp := fun vs H Q _ => ∃ (a : Addr) (m : Int), vs = [.ref a, .int m] ∧ Src H a ∧ 0 < m ∧ m < 18446744073709551616 ∧ ∀ (r : Int) (H' : Hp), 0 ≤ r → r < m → Src H' a → But a H H' → Q (.int r) H'
theorem ok_take {f : Addr} {fd : FuncData} {k : Nat} (F : Fun K "_law_take" "_law_take" s_law_take f fd) (T : Txt mg) : FnOk P w K mg base CX0 (k + 1) f fd ["_law_source", "_law_top"] spTake := by
  refine F.ok sc_law_take (fun vs H Q E h => ?_) (fun cdv A outer s H vs Q E hr h => ?_)
  · obtain ⟨a, m, rfl, _⟩ := h
    rfl
  · obtain ⟨a, m, rfl, ⟨x, y, ha, hx, hy, hy2⟩, hm, hm2, q⟩ := h
    refine ⟨_, (pss_cons (ps_if (pt_cmpR op_gt (pe_ix ix_list (pv 0) pe_int (fun _ _ => rfl)) pe_int (nomark _)) (pss_cons (ps_set (i := 2) sc_law_take.nd rfl (Or.inl rfl) (pe_op op_mod (pe_callTy call_int1 (by rfl) T.z_int PyProof.Rows.boot_int (pa_cons (pe_ix ix_list (pv 0) pe_int (fun _ _ => rfl)) pa_nil)) (pv 1)))
    (pss_cons (ps_asg (pe_op op_fdivW (pe_ix ix_list (pv 0) pe_int (fun _ _ => rfl)) (pv 1)) (pg_sub (pv 0) pe_int set_list))
    (pss_one (ps_ret (pv 2))))) pss_nil)
    (pss_cons (ps_asg (pe_op op_mod (pe_callTy call_int1 (by rfl) T.z_int PyProof.Rows.boot_int (pa_cons (pe_op op_add (pe_op op_mul (pe_ix ix_list (pv 0) pe_int (fun _ _ => rfl)) pe_int) pe_int) pa_nil)) pe_int) (pg_sub (pv 0) pe_int set_list))
    (pss_one (ps_ret (pe_op op_mod (pe_callTy call_int1 (by rfl) T.z_int PyProof.Rows.boot_int (pa_cons (pe_op op_fdiv (pe_op op_mod (pe_callTy call_int1 (by rfl) T.z_int PyProof.Rows.boot_int (pa_cons (pe_op op_mul (pe_ix ix_list (pv 0) pe_int (fun _ _ => rfl)) (pe_ix ix_list (pv 0) pe_int (fun _ _ => rfl))) pa_nil)) pe_int) pe_int) pa_nil)) (pv 1)))))), ?_⟩
    walk_at "ev"
    · refine q _ _ (Int.emod_nonneg _ (by omega)) (Int.emod_lt_of_pos _ hm) ⟨_, _, upd_same, Int.ediv_nonneg hx (by omega), hy, hy2⟩ But.upd
    · refine q _ _ (Int.emod_nonneg _ (by omega)) (Int.emod_lt_of_pos _ hm) ⟨_, _, upd_same, hx, Int.emod_nonneg _ (by omega), Int.emod_lt_of_pos _ (by omega)⟩ But.upd
/-! ### the pool of a cell -/
def spPool (K : PySem.W.Frag) : Sp := fun vs H Q _ => ∃ (a : Addr) (ns : List Int) (k : Int), vs = [.ref a, .int k] ∧ SqL K H a (ns.map V.int) ∧ 0 ≤ k ∧ k < 100 ∧ ∀ (p : Addr) (H' : Hp), H p = none → Same H H' → Src H' p → Q (.ref p) H'
theorem ok_pool {f : Addr} {fd : FuncData} {k : Nat} (F : Fun K "_law_pool" "_law_pool" s_law_pool f fd) (T : Txt mg) : FnOk P w K mg base CX0 (k + 1) f fd ["_law_script", "_law_k"] (spPool K) := by
  refine F.ok sc_law_pool (fun vs H Q E h => ?_) (fun cdv A outer s H vs Q E hr h => ?_)
  · obtain ⟨a, ns, k, rfl, _⟩ := h
    rfl
  · obtain ⟨a, ns, k, rfl, hS, hk, hk2, q⟩ := h
    refine ⟨_, (pss_cons (ps_set (i := 2) sc_law_pool.nd rfl (Or.inl rfl) (pe_ifExp (pt_cmpR op_lt (pv 1) (pe_callB call_len_seq (by rfl) T.z_len PySem.boot_len (pa_cons (pv 0) pa_nil)) (nomark _)) (pe_callTy call_int1 (by rfl) T.z_int PyProof.Rows.boot_int (pa_cons (pe_ix ix_list (pv 0) (pv 1) (fun _ _ => rfl)) pa_nil)) pe_int))
    (pss_cons (ps_set (i := 3) sc_law_pool.nd rfl (Or.inl rfl) (pe_callB (call_max2 rfl) (by rfl) T.z_max PyProof.Rows.boot_max (pa_cons (pv 2) (pa_cons (pe_callTy call_int1 (by rfl) T.z_int PyProof.Rows.boot_int (pa_cons (pe_op op_sub (pe_un un_neg pe_int) (pv 2)) pa_nil)) pa_nil))))
    (pss_cons (ps_set (i := 4) sc_law_pool.nd rfl (Or.inl rfl) (pe_op op_mod (pe_callTy call_int1 (by rfl) T.z_int PyProof.Rows.boot_int (pa_cons (pe_op op_mul (pe_op op_add (pe_op op_add (pe_op op_add (pe_op op_mod (pe_callTy call_int1 (by rfl) T.z_int PyProof.Rows.boot_int (pa_cons (pv 3) pa_nil)) pe_int) (pe_op op_mul (pe_op op_mul pe_int (pv 1)) (pv 1))) (pe_op op_mul pe_int (pv 1))) pe_int) pe_int) pa_nil)) pe_int))
    (pss_one (ps_ret (pe_lst (pa_cons (pe_op op_mul (pv 3) (pe_callTy call_int1 (by rfl) T.z_int PyProof.Rows.boot_int (pa_cons (pe_cmpR op_ge (pv 3) (pe_op (op_powc (a := 10) (b := 18) (c := 1000000000000000000) ⟨by decide, by decide, by decide⟩ (by decide +kernel)) pe_int pe_int) (nomark _)) pa_nil))) (pa_cons (pv 4) pa_nil)))))))), ?_⟩
    walk_at "ev"
    · obtain ⟨z, hz⟩ := at_lt hk (by assumption)
      refine ⟨_, _, _, _, rfl, rfl, hS, hz, ?_⟩
      walk_at "ev"
      refine ⟨(by show 2 ≤ sizeLine; decide), fun p np => q p _ np (same_upd np) ⟨_, _, upd_same, pool_nn _ _, Int.emod_nonneg _ (by omega), Int.emod_lt_of_pos _ (by omega)⟩⟩
    · refine ⟨(by show 2 ≤ sizeLine; decide), fun p np => q p _ np (same_upd np) ⟨_, _, upd_same, pool_nn _ _, Int.emod_nonneg _ (by omega), Int.emod_lt_of_pos _ (by omega)⟩⟩
/-! ### one of some things -/
def spOne : Sp := fun vs H Q _ => ∃ (a t : Addr) (xs : List V), vs = [.ref a, .ref t] ∧ Src H a ∧ t ≠ a ∧ H t = some (.lst xs) ∧ xs ≠ [] ∧ xs.length ≤ 1000 ∧ ∀ (v : V) (H' : Hp), v ∈ xs → Src H' a → But a H H' → Q v H'
theorem ok_one {f : Addr} {fd : FuncData} {k : Nat} (F : Fun K "_law_one" "_law_one" s_law_one f fd) (T : Txt mg) (c_law_take : C8.Cal P w K mg base 1 "_law_take" spTake []) : FnOk P w K mg base CX0 (k + 2) f fd ["_law_source", "_law_things"] spOne := by
  refine F.ok sc_law_one (fun vs H Q E h => ?_) (fun cdv A outer s H vs Q E hr h => ?_)
  · obtain ⟨a, t, xs, rfl, _⟩ := h
    rfl
  · obtain ⟨a, t, xs, rfl, ha, hta, ht, hx, hl, q⟩ := h
    refine ⟨_, (pss_one (ps_ret (pe_ix ix_list (pv 1) (C8.pe_c c_law_take hr (by omega) (by rfl) (pa_cons (pv 0) (pa_cons (pe_callB call_len_seq (by rfl) T.z_len PySem.boot_len (pa_cons (pv 1) pa_nil)) pa_nil))) (fun _ _ => rfl)))), ?_⟩
    walk_at "ev"
    have hp : 0 < xs.length := List.length_pos_iff.mpr hx
    refine ⟨ha, (by omega), (by omega), fun r H' h0 h1 s1 u1 => ?_⟩
    obtain ⟨v, hv, hm⟩ := at_mem (xs := xs) h0 h1
    exact ⟨_, _, _, _, rfl, rfl, .inl (.inl (u1.at hta ht)), hv, q v H' hm s1 u1⟩
/-! ### the law's own count, check, sum -/
def spCountL : Sp := fun vs H Q _ => ∃ (n : Nat), vs = [.int n] ∧ n < 2 ^ 30 ∧ ∀ (p : Addr) (H' : Hp), H p = none → Same H H' → H' p = some (.lst ((code n).map V.int)) → Q (.ref p) H'
theorem ok_countL {f : Addr} {fd : FuncData} {k : Nat} (F : Fun K "_law_count" "_law_count" s_law_count f fd) (T : Txt mg) : FnOk P w K mg base CX0 (k + 1) f fd ["_law_number"] spCountL := by
  refine F.ok sc_law_count (fun vs H Q E h => ?_) (fun cdv A outer s H vs Q E hr h => ?_)
  · obtain ⟨n, rfl, _⟩ := h
    rfl
  · obtain ⟨n, rfl, hn, q⟩ := h
    have hbn : bl (n + 1) ≤ 31 := bl_le (by omega)
    have hb0 := bl_half (n := n + 1) (by omega)
    refine ⟨_, (pss_cons (ps_par (i := 1) (j := 2) rfl sc_law_count.nd rfl rfl (by decide) rfl rfl (pa_cons (pe_lst pa_nil) (pa_cons (pe_op op_add (pv 0) pe_int) pa_nil)) rfl)
    (pss_cons (ps_while PassesOwn.never (pt_cmpR op_gt (pv 2) pe_int (nomark _))
      (pss_cons (ps_set (i := 1) sc_law_count.nd rfl (Or.inl rfl) (pe_op op_cat (pe_lst (pa_cons (pe_op op_mod (pv 2) pe_int) pa_nil)) (pv 1)))
    (pss_one (ps_set (i := 2) sc_law_count.nd rfl (Or.inl rfl) (pe_op op_fdiv (pv 2) pe_int)))))
    (pss_one (ps_ret (pe_op op_cat (pe_op op_rep (pe_lst (pa_cons pe_int pa_nil)) (pe_op op_sub (pe_callB call_len_seq (by rfl) T.z_len PySem.boot_len (pa_cons (pv 1) pa_nil)) pe_int)) (pv 1)))))), ?_⟩
    walk_at "ev"
    refine ⟨(by show 0 ≤ sizeLine; decide), fun p0 n0 => ?_⟩
    walk_at "ev"
    refine ⟨fun m σ H1 => ∃ (r : Nat) (f : Addr) (ds : List Int), σ = [some (.int n), some (.ref f), some (.int r)] ∧ H f = none ∧ Same H H1 ∧ H1 f = some (.lst (ds.map V.int)) ∧ digs (n + 1) = digs r ++ ds ∧ r = m, ⟨n + 1, n + 1, p0, [], rfl, n0, same_upd n0, upd_same, (List.append_nil _).symm, rfl⟩, ?_⟩
    rintro m σ H1 ⟨r, g, ds, rfl, ng, s1, e1, ed, rfl⟩
    have hl : ds.length ≤ 900 := by
      have := congrArg List.length ed
      rw [digs_len, List.length_append] at this
      omega
    walk_at "ev"
    · refine ⟨_, fun σ' H' h => h, ?_⟩
      walk_at "ev"
      refine ⟨(by show 1 ≤ sizeLine; decide), fun p1 n1 => ?_⟩
      have hr0 : 0 < r := by omega
      walk_at "ev"
      refine ⟨p1, g, _, _, rfl, rfl, upd_same, new_at e1 n1, ?_, fun p2 n2 => ?_⟩
      · rw [List.length_map]
        exact Nat.le_of_lt (small1000 (by show 1 + _ ≤ _; omega))
      walk_at "ev"
      refine ⟨r / 2, by omega, r / 2, p2, ((r % 2 : Nat) : Int) :: ds, rfl, (s1.trans (same_upd n1)).free n2, s1.trans ((same_upd n1).trans (same_upd n2)), upd_same, ?_, rfl⟩
      rw [ed, digs_step hr0, List.append_assoc]
      rfl
    · have e0 : r = 0 := by omega
      rw [e0, digs_zero, List.nil_append] at ed
      have hdl : ds.length = bl (n + 1) := by rw [← ed, digs_len]
      walk_at "ev"
      refine ⟨by show 1 ≤ sizeLine; decide, fun p1 n1 => ?_⟩
      walk_at "ev"
      refine ⟨g, _, rfl, .inl (.inl (.inl (new_at e1 n1))), ?_⟩
      walk_at "ev"
      rw [List.length_map, hdl]
      have hk : ((bl (n + 1) : Int) - 1).toNat = bl (n + 1) - 1 := by omega
      refine ⟨p1, _, _, rfl, rfl, upd_same, by omega, by omega, ?_, fun p2 n2 => ?_⟩
      · rw [hk]
        show 1 * _ ≤ _
        exact Nat.le_of_lt (small1000 (by omega))
      rw [hk, flat_zeros]
      walk_at "ev"
      refine ⟨p2, g, _, _, rfl, rfl, upd_same, new_at (new_at e1 n1) n2, ?_, fun p3 n3 => ?_⟩
      · rw [List.length_map, List.length_map, List.length_replicate, hdl]
        exact Nat.le_of_lt (small1000 (by omega))
      have sE := s1.trans ((same_upd n1).trans (same_upd (o := .lst ((List.replicate (bl (n + 1) - 1) (0 : Int)).map V.int)) n2))
      refine q p3 _ (sE.free n3) (sE.trans (same_upd n3)) ?_
      rw [upd_same, ← List.map_append, ← ed]
      rfl
theorem bit_test {d : Nat} {p : Int} {P : Nat} (h : p = (P : Int)) : Builtin.bitAnd ((d : Int) / 2 ^ p.toNat) 1 = ((d / 2 ^ P % 2 : Nat) : Int) := by
  subst h
  rw [bitAnd_m1, Int.toNat_natCast]
  simp only [Int.natCast_emod, Int.natCast_ediv, Int.natCast_pow]
  rfl
theorem feed_xor {d : Nat} {p : Int} {P : Nat} (h : p = (P : Int)) : Builtin.bitXor (d : Int) (263 * 2 ^ p.toNat) = ((d ^^^ (263 * 2 ^ P) : Nat) : Int) := by
  subst h
  have e : (263 : Int) * 2 ^ ((P : Int)).toNat = ((263 * 2 ^ P : Nat) : Int) := by
    rw [Int.toNat_natCast, Int.natCast_mul, Int.natCast_pow]
    rfl
  rw [e, Bits.bitXor_pp (by omega) (by omega), Int.toNat_natCast, Int.toNat_natCast]
def spCheckL : Sp := fun vs H Q _ => ∃ (p : Addr) (xs : List Int), vs = [.ref p] ∧ H p = some (.lst (xs.map V.int)) ∧ AreBits xs ∧ xs.length ≤ 900 ∧ ∀ (q : Addr) (H' : Hp), H q = none → Same H H' → H' q = some (.lst ((crcI xs).map V.int)) → Q (.ref q) H'
theorem ok_checkL {f : Addr} {fd : FuncData} {k : Nat} (F : Fun K "_law_check" "_law_check" s_law_check f fd) (T : Txt mg) : FnOk P w K mg base CX0 (k + 1) f fd ["_law_load"] spCheckL := by
  refine F.ok sc_law_check (fun vs H Q E h => ?_) (fun cdv A outer s H vs Q E hr h => ?_)
  · obtain ⟨p, xs, rfl, _⟩ := h
    rfl
  · obtain ⟨p, xs, rfl, hp, hb, hl, q⟩ := h
    refine ⟨_, (pss_cons (ps_set (i := 1) sc_law_check.nd rfl (Or.inr rfl) pe_int)
    (pss_cons (ps_for PassesOwn.never rfl (pi_list (pv 0)) (pg_name (i := 2) sc_law_check.nd rfl (Or.inl rfl))
      (pss_one (ps_set (i := 1) sc_law_check.nd rfl (Or.inr rfl) (pe_op op_add (pe_op op_mul pe_int (pv 1)) (pv 2)))))
    (pss_cons (ps_set (i := 1) sc_law_check.nd rfl (Or.inr rfl) (pe_op op_mul pe_int (pv 1)))
    (pss_cons (ps_for PassesOwn.never rfl (pi_range3 (by rfl) T.z_range (pa_cons (pe_op op_add (pe_callB call_len_seq (by rfl) T.z_len PySem.boot_len (pa_cons (pv 0) pa_nil)) pe_int) (pa_cons pe_int (pa_cons (pe_un un_neg pe_int) pa_nil)))) (pg_name (i := 3) sc_law_check.nd rfl (Or.inl rfl))
      (pss_one (ps_if (pt_cmpR op_eq (pe_op op_and (pe_op op_shr (pv 1) (pv 3)) pe_int) pe_int (nomark _)) (pss_one (ps_set (i := 1) sc_law_check.nd rfl (Or.inr rfl) (pe_op op_xor (pv 1) (pe_op op_shl pe_int (pe_op op_sub (pv 3) pe_int))))) pss_nil)))
    (pss_one (ps_ret (pe_lc (own := [("_law_place", 3)]) (g := (gName 3)) (tt := tYes) rfl sc_law_check.nd (pi_range3 (by rfl) T.z_range (pa_cons pe_int (pa_cons (pe_un un_neg pe_int) (pa_cons (pe_un un_neg pe_int) pa_nil)))) (blkOk_by (N := ["_law_load", "_law_number", "_law_bit", "_law_place"]) (sc := defScope s_law_check) (by decide +kernel)) (fun _ _ _ _ _ => pg_name (i := 3) sc_law_check.nd rfl (by first | exact Or.inl rfl | exact Or.inr rfl)) (fun _ _ _ _ _ => pts_nil) (fun _ _ _ _ _ => (pe_op op_and (pe_op op_shr (pv 1) (pv 3)) pe_int))))))))), ?_⟩
    walk_at "ev"
    refine ⟨⟨_, .inl (.inl hp)⟩, for_list (K := K) (a := p) (xs := xs.map V.int) (fun i σ H1 => ∃ v, σ = [some (.ref p), some (.int (valN (xs.take i))), v, none] ∧ H1 = H) ⟨_, rfl, rfl⟩ (fun _ _ _ _ ⟨_, _, e⟩ => by rw [e]; exact .inl (.inl hp)) ?_ ?_⟩
    · rintro i x σ H1 hx ⟨v, rfl, rfl⟩
      rw [List.getElem?_map] at hx
      obtain ⟨z, hz, rfl⟩ := Option.map_eq_some_iff.mp hx
      have hz2 := hb z (List.mem_of_getElem? hz)
      have ev : (2 * (valN (xs.take i) : Int) + z) = (valN (xs.take (i + 1)) : Int) := by
        rw [← take_snoc hz, valN_snoc]
        omega
      walk_at "ev"
      refine ⟨some (.int z), ?_, rfl⟩
      rw [← ev]
      rfl
    · rintro σ H1 ⟨v, rfl, rfl⟩
      rw [List.length_map, List.take_length]
      have hL : ((List.map V.int xs).length : Int) = xs.length := by rw [List.length_map]
      have ez : (256 : Int) * (valN xs : Int) = (divN xs 0 : Int) := by
        rw [div_zero]
        omega
      walk_at "ev"
      rw [hL]
      have hrg : RgC ((xs.length : Int) + 7) 7 (-1) xs.length := by
        have := RgC.neg (i := (xs.length : Int) + 7) (j := 7) (by omega) (by omega) (by omega) (by omega)
        rw [show ((xs.length : Int) + 7 - 7).toNat = xs.length by omega] at this
        exact this
      refine ⟨_, _, _, _, rfl, hrg, for_rangeC (fun i σ H2 => ∃ v3, σ = [some (.ref p), some (.int (divN xs i)), v, v3] ∧ H2 = H1) ⟨_, by show [_, some (V.int (256 * (valN xs : Int))), _, _] = _; rw [ez], rfl⟩ ?_ ?_⟩
      · rintro i σ H2 hi ⟨v3, rfl, rfl⟩
        obtain ⟨z, hz⟩ : ∃ z, xs[i]? = some z := ⟨_, List.getElem?_eq_getElem hi⟩
        have hstep := div_step hb hz
        have hbit := div_bit hb hz
        have hp1 : (xs.length : Int) + 7 + (i : Nat) * (-1) = ((xs.length + 7 - i : Nat) : Int) := by omega
        have hp2 : (xs.length : Int) + 7 + (i : Nat) * (-1) - 8 = ((xs.length - i - 1 : Nat) : Int) := by omega
        walk_at "ev"
        · rename_i hc
          rw [bit_test hp1, hbit] at hc
          rw [if_pos (by omega)] at hstep
          refine ⟨some (.int ((xs.length : Int) + 7 + (i : Nat) * (-1))), ?_, rfl⟩
          show [_, some (V.int (Builtin.bitXor (divN xs i : Int) (263 * 2 ^ ((xs.length : Int) + 7 + (i : Nat) * (-1) - 8).toNat))), _, _] = _
          rw [feed_xor hp2, ← hstep]
        · rename_i hc
          rw [bit_test hp1, hbit] at hc
          rw [if_neg (by omega)] at hstep
          refine ⟨some (.int ((xs.length : Int) + 7 + (i : Nat) * (-1))), ?_, rfl⟩
          show [_, some (V.int (divN xs i : Int)), _, _] = _
          rw [← hstep]
      · rintro σ H2 ⟨v3, rfl, rfl⟩
        rw [div_last]
        have hrg2 : RgC 7 (-1) (-1) 8 := RgC.neg (i := 7) (j := -1) (by decide) (by decide) (by decide) (by decide)
        walk_at "ev"
        refine ⟨_, _, _, _, rfl, hrg2, fun D nD => ?_⟩
        refine lc_it walk_rangeC (fun t H3 => Same H2 H3 ∧ H3 D = some (.lst (((crcI xs).take t).map V.int))) ⟨same_upd nD, upd_same⟩ (fun _ _ _ _ => trivial) ?_ ?_
        · rintro t x H3 H4 ht ⟨s3, e3⟩ ⟨rfl, rfl⟩
          have hp3 : (7 : Int) + (t : Nat) * (-1) = ((8 - 1 - t : Nat) : Int) := by omega
          have gi : (crcI xs)[t]? = some ((crcN xs / 2 ^ (8 - 1 - t) % 2 : Nat) : Int) := bitsI_get ht
          walk_at "ev"
          refine ⟨_, e3, by rw [List.length_map, List.length_take, crcI_len]; exact small1000 (Nat.le_trans (Nat.min_le_right _ _) (by decide)), fun b o e => ?_, ?_⟩
          · rw [upd_ne (ne_of_none e nD)]
            exact s3 _ _ e
          · rw [upd_same, ← take_snoc gi, List.map_append]
            show some (HO.lst (_ ++ [V.int (Builtin.bitAnd ((crcN xs : Int) / 2 ^ ((7 : Int) + (t : Nat) * (-1)).toNat) 1)])) = _
            rw [bit_test hp3]
            rfl
        · rintro H3 ⟨s3, e3⟩
          rw [List.take_of_length_le (by rw [crcI_len]; exact Nat.le_refl _)] at e3
          exact q D H3 nD s3 e3
theorem blk_in {N : List Str} {sc0 scope0 scope : Scope} {own : List (Str × Nat)} {cl : List (Str × Addr)} {C : Addr} {env : Env} (hs : env.scope = sc0) (h : blkC N (relS scope0 sc0) scope own = true) : BlkOk N (compEnvC scope0 cl C env).scope scope own := by
  subst hs
  exact blkOk_by h
/-! ### the law's own sums, cells, loads -/
def spSumL : Sp := fun vs H Q _ => ∃ (p : Addr) (rs : List Addr) (ls : List (List Int)), vs = [.ref p] ∧ H p = some (.lst (rs.map V.ref)) ∧ Rws H rs (ls.map (·.map V.int)) ∧ ls.length ≤ 900 ∧ (∀ l ∈ ls, IsLoad l) ∧ ∀ (q : Addr) (H' : Hp), H q = none → Same H H' → H' q = some (.lst ((parL ls).map V.int)) → Q (.ref q) H'
theorem ok_sumL {f : Addr} {fd : FuncData} {k : Nat} (F : Fun K "_law_sum" "_law_sum" s_law_sum f fd) (T : Txt mg) : FnOk P w K mg base CX0 (k + 1) f fd ["_law_loads_here"] spSumL := by
  refine F.ok sc_law_sum (fun vs H Q E h => ?_) (fun cdv A outer s H vs Q E hr h => ?_)
  · obtain ⟨p, rs, ls, rfl, _⟩ := h
    rfl
  · obtain ⟨p, rs, ls, rfl, hp, hR, hln, hld, q⟩ := h
    have hrl : rs.length = ls.length := by rw [hR.1, List.length_map]
    refine ⟨_, (pss_one (ps_ret (pe_lc (own := [("_law_at", 1)]) (g := (gName 1)) (tt := tYes) rfl sc_law_sum.nd (pi_range1 (by rfl) T.z_range (pa_cons pe_int pa_nil)) (blkOk_by (N := ["_law_loads_here", "_law_at", "_law_load"]) (sc := defScope s_law_sum) (by decide +kernel)) (fun _ _ _ _ _ => pg_name (i := 1) sc_law_sum.nd rfl (by first | exact Or.inl rfl | exact Or.inr rfl)) (fun _ _ _ _ _ => pts_nil) (fun _ _ _ _ _ => (pe_op op_mod (pe_callB (cr_sumS rfl : CallR _ (.builtin "sum") (rSumS K)) (by rfl) T.z_sum PyProof.Rows.boot_sum (pa_cons (pe_lc (own := [("_law_load", 2)]) (g := (gName 2)) (tt := tYes) rfl sc_law_sum.nd (pi_listC (K := K) rfl (pv 0)) (blk_in (N := ["_law_loads_here", "_law_at", "_law_load"]) (sc0 := defScope s_law_sum) rfl (by decide +kernel)) (fun _ _ _ _ _ => pg_name (i := 2) sc_law_sum.nd rfl (by first | exact Or.inl rfl | exact Or.inr rfl)) (fun _ _ _ _ _ => pts_nil) (fun _ _ _ _ _ => (pe_ix (ix_list : IxR _ (rIxL K)) (pv 2) (pv 1) (fun _ _ => rfl)))) pa_nil)) pe_int))))), ?_⟩
    walk_at "ev"
    refine ⟨by omega, by omega, fun D nD => ?_⟩
    refine lc_it walk_range (fun i H2 => Same H H2 ∧ H2 D = some (.lst (((parL ls).take i).map V.int))) ⟨same_upd nD, upd_same⟩ (fun _ _ _ _ => trivial) ?_ ?_
    · rintro i x H2 H3 hi ⟨s2, e2⟩ ⟨rfl, rfl⟩
      walk_at "ev"
      refine ⟨⟨_, .inl (.inl (s2 _ _ hp))⟩, fun D2 nD2 => ?_⟩
      refine lc_it (walk_list (xs := rs.map V.ref)) (fun t H4 => Same H3 H4 ∧ H4 D2 = some (.lst (((ls.take t).map fun l => l.getD i 0).map V.int))) ⟨same_upd nD2, upd_same⟩ (fun _ _ _ h => .inl (.inl (h.1 _ _ (s2 _ _ hp)))) ?_ ?_
      · rintro t x H4 H5 ht ⟨s4, e4⟩ ⟨rfl, hx⟩
        rw [List.getElem?_map] at hx
        obtain ⟨r, hr1, rfl⟩ := Option.map_eq_some_iff.mp hx
        obtain ⟨l1, g1, g2⟩ := hR.2 t r hr1
        rw [List.getElem?_map] at g1
        obtain ⟨l, hl1, rfl⟩ := Option.map_eq_some_iff.mp g1
        have hlo := hld l (List.mem_of_getElem? hl1)
        have hi48 : i < l.length := by rw [hlo.1]; exact hi
        have hat : atI (l.map V.int) (0 + (i : Int)) = some (.int (l.getD i 0)) := at_of (j := i) (by omega) (by rw [List.getElem?_map, List.getD_eq_getElem?_getD, List.getElem?_eq_getElem hi48]; rfl)
        walk_at "ev"
        refine ⟨r, _, _, _, rfl, rfl, .inl (.inl (s4 _ _ (s2 _ _ g2))), hat, ?_⟩
        refine ⟨_, e4, ?_, fun b o e => ?_, ?_⟩
        · rw [List.length_map, List.length_map, List.length_take]
          exact small1000 (Nat.le_trans (Nat.min_le_right _ _) (by omega))
        · rw [upd_ne (ne_of_none e nD2)]
          exact s4 _ _ e
        · rw [upd_same, ← take_snoc hl1, List.map_append, List.map_append]
          rfl
      · rintro H4 ⟨s4, e4⟩
        rw [List.length_map, hrl, List.take_length] at e4
        walk_at "ev"
        have gi : (parL ls)[i]? = some ((ls.map fun l => l.getD i 0).sum % 2) := by
          unfold parL
          rw [List.getElem?_map, List.getElem?_range (show i < 48 from hi)]
          rfl
        refine ⟨_, s4 _ _ e2, ?_, fun b o e => ?_, ?_⟩
        · rw [List.length_map, List.length_take, parL_len]
          exact small1000 (Nat.le_trans (Nat.min_le_right _ _) (by decide))
        · rw [upd_ne (ne_of_none e nD)]
          exact s4 _ _ (s2 _ _ e)
        · rw [upd_same, ← take_snoc gi, List.map_append]
          rfl
    · rintro H2 ⟨s2, e2⟩
      rw [List.take_of_length_le (by rw [parL_len]; decide)] at e2
      exact q D H2 nD s2 e2
def spJoinL : Sp := fun vs H Q _ => ∃ (p : Addr) (rs : List Addr) (ls : List (List Int)), vs = [.ref p] ∧ H p = some (.lst (rs.map V.ref)) ∧ Rws H rs (ls.map (·.map V.int)) ∧ ls.flatten.length ≤ 100000 ∧ ∀ (q : Addr) (H' : Hp), H q = none → Same H H' → H' q = some (.lst (ls.flatten.map V.int)) → Q (.ref q) H'
theorem ok_joinL {f : Addr} {fd : FuncData} {k : Nat} (F : Fun K "_law_joined" "_law_joined" s_law_joined f fd) : FnOk P w K mg base CX0 (k + 1) f fd ["_law_cells_here"] spJoinL := by
  refine F.ok sc_law_joined (fun vs H Q E h => ?_) (fun cdv A outer s H vs Q E hr h => ?_)
  · obtain ⟨p, rs, ls, rfl, _⟩ := h
    rfl
  · obtain ⟨p, rs, ls, rfl, hp, hR, hln, q⟩ := h
    have hrl : rs.length = ls.length := by rw [hR.1, List.length_map]
    refine ⟨_, (pss_cons (ps_set (i := 1) sc_law_joined.nd rfl (Or.inl rfl) (pe_lst pa_nil))
    (pss_cons (ps_for PassesOwn.never rfl (pi_list (pv 0)) (pg_name (i := 2) sc_law_joined.nd rfl (Or.inl rfl))
      (pss_one (ps_expr (pe_bm PySem.F.plainAttrs_list PySem.F.slot_list_extend PySem.F.type_list_extend mt_extend (pv 1) (pa_cons (pv 2) pa_nil)))))
    (pss_one (ps_ret (pv 1))))), ?_⟩
    walk_at "ev"
    refine ⟨by show 0 ≤ sizeLine; decide, fun f0 nf0 => ?_⟩
    have pf : p ≠ f0 := ne_of_none hp nf0
    walk_at "ev"
    refine ⟨⟨_, .inl (.inl (new_at hp nf0))⟩, for_list (K := K) (a := p) (xs := rs.map V.ref) (fun i σ H1 => ∃ v, σ = [some (.ref p), some (.ref f0), v] ∧ (∀ b o, b ≠ f0 → H b = some o → H1 b = some o) ∧ H1 f0 = some (.lst ((ls.take i).flatten.map V.int))) ⟨_, rfl, fun b o n e => by rw [upd_ne n]; exact e, upd_same⟩ (fun _ _ _ _ ⟨_, _, u, _⟩ => .inl (.inl (u _ _ pf hp))) ?_ ?_⟩
    · rintro i x σ H1 hx ⟨v, rfl, u1, e1⟩
      rw [List.getElem?_map] at hx
      obtain ⟨r, hr1, rfl⟩ := Option.map_eq_some_iff.mp hx
      obtain ⟨l1, g1, g2⟩ := hR.2 i r hr1
      rw [List.getElem?_map] at g1
      obtain ⟨l, hl1, rfl⟩ := Option.map_eq_some_iff.mp g1
      have rf : r ≠ f0 := ne_of_none g2 nf0
      walk_at "ev"
      refine ⟨.inl ⟨rfl, _, .inl (.inl e1)⟩, ?_⟩
      walk_at "ev"
      have hz := flat_take_le ls (i + 1)
      rw [← take_snoc hl1, List.flatten_append, List.length_append] at hz
      have e0 : [l].flatten = l := by simp
      rw [e0] at hz
      refine ⟨f0, r, _, _, rfl, rfl, e1, u1 _ _ rf g2, Nat.le_of_lt (small_m (by rw [List.length_map, List.length_map]; omega)), ?_⟩
      refine ⟨_, rfl, fun b o n e => ?_, ?_⟩
      · show upd _ _ _ b = _
        rw [upd_ne n]
        exact u1 _ _ n e
      · show upd _ _ _ f0 = _
        rw [upd_same, ← take_snoc hl1, List.flatten_append, e0, List.map_append]
    · rintro σ H1 ⟨v, rfl, u1, e1⟩
      rw [List.length_map, hrl, List.take_length] at e1
      walk_at "ev"
      exact q f0 H1 nf0 (fun b o e => u1 _ _ (ne_of_none e nf0) e) e1
theorem Rws.up {H H' : Hp} {rs : List Addr} {ls : List (List V)} (u : ∀ r ∈ rs, ∀ o, H r = some o → H' r = some o) (h : Rws H rs ls) : Rws H' rs ls := ⟨h.1, fun i r e => by
  obtain ⟨l, e1, e2⟩ := h.2 i r e
  exact ⟨l, e1, u r (List.mem_of_getElem? e) _ e2⟩⟩
def spCellsL : Sp := fun vs H Q _ => ∃ (p : Addr) (rs : List Addr) (ls : List (List Int)) (g : Nat), vs = [.ref p, .int g] ∧ H p = some (.lst (rs.map V.ref)) ∧ Rws H rs (ls.map (·.map V.int)) ∧ ls.length ≤ 400 ∧ 1 ≤ g ∧ g ≤ 8 ∧ (∀ l ∈ ls, IsLoad l) ∧ ∀ (q : Addr) (cs : List Addr) (H' : Hp), H q = none → Same H H' → H' q = some (.lst (cs.map V.ref)) → Rws H' cs ((cellsL ls g).map (·.map V.int)) → (∀ r ∈ cs, H r = none ∧ r ≠ q) → Q (.ref q) H'
theorem ok_cellsL {f : Addr} {fd : FuncData} {k : Nat} (F : Fun K "_law_cells" "_law_cells" s_law_cells f fd) (T : Txt mg) (c_law_sum : C8.Cal P w K mg base 1 "_law_sum" spSumL []) (c_law_check : C8.Cal P w K mg base 1 "_law_check" spCheckL []) : FnOk P w K mg base CX0 (k + 2) f fd ["_law_loads_here", "_law_group"] spCellsL := by
  refine F.ok sc_law_cells (fun vs H Q E h => ?_) (fun cdv A outer s H vs Q E hr h => ?_)
  · obtain ⟨p, rs, ls, g, rfl, _⟩ := h
    rfl
  · obtain ⟨p, rs, ls, g, rfl, hp, hR, hln, h1, h2, hld, q⟩ := h
    have hrl : rs.length = ls.length := by rw [hR.1, List.length_map]
    have hL : ((List.map V.ref rs).length : Int) = rs.length := by rw [List.length_map]
    refine ⟨_, (pss_cons (ps_set (i := 2) sc_law_cells.nd rfl (Or.inl rfl) (pe_lst pa_nil))
    (pss_cons (ps_for PassesOwn.never rfl (pi_range3 (by rfl) T.z_range (pa_cons pe_int (pa_cons (pe_callB call_len_seq (by rfl) T.z_len PySem.boot_len (pa_cons (pv 0) pa_nil)) (pa_cons (pv 1) pa_nil)))) (pg_name (i := 3) sc_law_cells.nd rfl (Or.inl rfl))
      (pss_cons (ps_set (i := 4) sc_law_cells.nd rfl (Or.inl rfl) (pe_slice sl_list (pv 0) (po_some (pv 3)) (po_some (pe_op op_add (pv 3) (pv 1)))))
    (pss_one (ps_for PassesOwn.never rfl (pi_list (pe_op op_cat (pv 4) (pe_lst (pa_cons (C8.pe_c c_law_sum hr (by omega) (by rfl) (pa_cons (pv 4) pa_nil)) pa_nil)))) (pg_name (i := 5) sc_law_cells.nd rfl (Or.inl rfl))
      (pss_one (ps_expr (pe_bm PySem.F.plainAttrs_list PySem.F.slot_list_append PySem.F.type_list_append mt_append (pv 2) (pa_cons (pe_op op_cat (pv 5) (C8.pe_c c_law_check hr (by omega) (by rfl) (pa_cons (pv 5) pa_nil))) pa_nil))))))))
    (pss_one (ps_ret (pv 2))))), ?_⟩
    walk_at "ev"
    refine ⟨by show 0 ≤ sizeLine; decide, fun f0 nf0 => ?_⟩
    have pf : p ≠ f0 := ne_of_none hp nf0
    walk_at "ev"
    refine ⟨p, _, rfl, .inl (.inl (.inl (new_at hp nf0))), ?_⟩
    rw [hL]
    have key : ∀ i, ((((chunks ls g).take i).map grp).flatten.map cellL).length ≤ 800 := fun i => by
      have h4 := congrArg (fun z => (List.map grp z).flatten) (List.take_append_drop i (chunks ls g))
      simp only [List.map_append, List.flatten_append] at h4
      have h5 := congrArg List.length h4
      rw [List.length_append] at h5
      have h6 := cells_few (ls := ls) (g := g) (by omega)
      unfold cellsL grps at h6
      rw [List.length_map] at h6 ⊢
      omega
    walk_at "ev"
    refine ⟨_, _, _, _, rfl, rg_parts (m := rs.length) (n := g) (by omega) (by omega) (by omega), for_rangeC (fun i σ H1 => ∃ v3 v4 v5, σ = [some (.ref p), some (.int g), some (.ref f0), v3, v4, v5] ∧ (∀ b o, b ≠ f0 → H b = some o → H1 b = some o) ∧ ∃ cs : List Addr, H1 f0 = some (.lst (cs.map V.ref)) ∧ Rws H1 cs (((((chunks ls g).take i).map grp).flatten.map cellL).map (·.map V.int)) ∧ ∀ r ∈ cs, H r = none ∧ r ≠ f0) ⟨_, _, _, rfl, fun b o n e => by rw [upd_ne n]; exact e, [], upd_same, rws_nil, fun _ m => absurd m List.not_mem_nil⟩ ?_ ?_⟩
    · rintro i σ H1 hi ⟨v3, v4, v5, rfl, u1, cs, e1, R1, fr1⟩
      have hcl : (chunks ls g).length = (rs.length + g - 1) / g := by rw [chunks_len, hrl]
      obtain ⟨lb, hlb⟩ : ∃ lb, (chunks ls g)[i]? = some lb := ⟨_, List.getElem?_eq_getElem (by omega)⟩
      have mlb := List.mem_of_getElem? hlb
      obtain ⟨lbn, lbl⟩ := chunks_ne (by omega) mlb
      have lbo : ∀ l ∈ lb, IsLoad l := fun l m => hld l (chunks_mem mlb l m)
      walk_at "ev"
      refine ⟨p, _, rfl, .inl (.inl (u1 _ _ pf hp)), fun p2 n2 => ?_⟩
      rw [cut_any (i := i * g) (k := i * g + g) (by rw [Int.natCast_mul]; omega) (by rw [Int.natCast_add, Int.natCast_mul]; omega) (by rw [List.length_map]; exact tn_le (by omega) hi), show i * g + g - i * g = g by omega, ← List.map_drop, ← List.map_take]
      have Rb : Rws H ((rs.drop (i * g)).take g) (lb.map (·.map V.int)) := by
        rw [chunks_get hlb, List.map_take, List.map_drop]
        exact hR.chunk _ _
      generalize (rs.drop (i * g)).take g = rb at *
      have rbf : ∀ r ∈ rb, r ≠ f0 := fun r m => by
        obtain ⟨l, _, e⟩ := Rb.row m
        exact ne_of_none e nf0
      have Rb1 : Rws H1 rb (lb.map (·.map V.int)) := Rb.up fun r m o e => u1 _ _ (rbf r m) e
      have rbl : rb.length = lb.length := by rw [Rb.1, List.length_map]
      have e2 : upd H1 p2 (.lst (rb.map V.ref)) p2 = some (.lst (rb.map V.ref)) := upd_same
      have p2f : p2 ≠ f0 := (ne_of_none e1 n2).symm
      walk_at "ev"
      refine ⟨p2, rb, lb, rfl, e2, Rb1.same (same_upd n2), by omega, lbo, fun p3 H3 n3 s3 e3 => ?_⟩
      walk_at "ev"
      refine ⟨by show 1 ≤ sizeLine; decide, fun p4 n4 => ?_⟩
      refine ⟨p2, p4, _, _, rfl, rfl, new_at (s3 _ _ e2) n4, upd_same, ?_, fun p5 n5 => ?_⟩
      · rw [List.length_map, rbl]
        exact Nat.le_of_lt (small1000 (by show lb.length + 1 ≤ 1000; omega))
      have s15 := (same_upd (o := .lst (rb.map V.ref)) n2).trans (s3.trans ((same_upd (o := .lst [.ref p3]) n4).trans (same_upd (o := .lst (rb.map V.ref ++ [.ref p3])) n5)))
      have RB : Rws (upd (upd H3 p4 (.lst [.ref p3])) p5 (.lst (rb.map V.ref ++ [.ref p3]))) (rb ++ [p3]) ((grp lb).map (·.map V.int)) := by
        have : (grp lb).map (·.map V.int) = lb.map (·.map V.int) ++ [(parL lb).map V.int] := by unfold grp; rw [List.map_append]; rfl
        rw [this]
        exact (Rb1.same s15).app (Rws.cons (new_at (new_at e3 n4) n5) rws_nil)
      have e5 : upd (upd H3 p4 (.lst [.ref p3])) p5 (.lst (rb.map V.ref ++ [.ref p3])) p5 = some (.lst ((rb ++ [p3]).map V.ref)) := by rw [upd_same, List.map_append]; rfl
      have ef := s15 _ _ e1
      have p5f : p5 ≠ f0 := (ne_of_none (new_at (s3 _ _ (same_upd n2 _ _ e1)) n4) n5).symm
      have p3f : p3 ≠ f0 := (ne_of_none (same_upd (o := .lst (rb.map V.ref)) n2 _ _ e1) n3).symm
      have gl := grp_load lbo
      have R5 := R1.same s15
      generalize upd (upd H3 p4 (.lst [.ref p3])) p5 (.lst (rb.map V.ref ++ [.ref p3])) = H5 at *
      have hnx : ((((chunks ls g).take (i + 1)).map grp).flatten.map cellL) = ((((chunks ls g).take i).map grp).flatten.map cellL) ++ (grp lb).map cellL := by
        rw [← take_snoc hlb, List.map_append, List.flatten_append, List.map_append]
        simp
      have k1 := key i
      have hgl9 : (grp lb).length ≤ 9 := by
        unfold grp
        rw [List.length_append]
        show lb.length + 1 ≤ 9
        omega
      walk_at "ev"
      refine ⟨⟨_, .inl (.inl e5)⟩, for_list (K := K) (a := p5) (xs := (rb ++ [p3]).map V.ref) (fun j σ H6 => ∃ v5, σ = [some (.ref p), some (.int g), some (.ref f0), some (.int (0 + (i : Nat) * (g : Int))), some (.ref p2), v5] ∧ (∀ b o, b ≠ f0 → H5 b = some o → H6 b = some o) ∧ ∃ cs2 : List Addr, H6 f0 = some (.lst (cs2.map V.ref)) ∧ Rws H6 cs2 ((((((chunks ls g).take i).map grp).flatten.map cellL) ++ ((grp lb).take j).map cellL).map (·.map V.int)) ∧ ∀ r ∈ cs2, H r = none ∧ r ≠ f0) ⟨_, rfl, fun _ _ _ e => e, cs, ef, by rw [List.take_zero, List.map_nil, List.append_nil]; exact R5, fr1⟩ (fun _ _ _ _ ⟨_, _, u, _⟩ => .inl (.inl (u _ _ p5f e5))) ?_ ?_⟩
      · rintro j x σ H6 hx ⟨v5, rfl, u6, cs2, e6, R6, fr6⟩
        rw [List.getElem?_map] at hx
        obtain ⟨r, hr1, rfl⟩ := Option.map_eq_some_iff.mp hx
        obtain ⟨l1, g1, g2⟩ := RB.2 j r hr1
        rw [List.getElem?_map] at g1
        obtain ⟨l, hl1, rfl⟩ := Option.map_eq_some_iff.mp g1
        have hlo := gl l (List.mem_of_getElem? hl1)
        have rf : r ≠ f0 := by
          rcases List.mem_append.mp (List.mem_of_getElem? hr1) with m | m
          · exact rbf r m
          · rw [List.mem_singleton.mp m]
            exact p3f
        have g3 := u6 _ _ rf g2
        walk_at "ev"
        refine ⟨.inl ⟨rfl, _, .inl (.inl e6)⟩, ?_⟩
        walk_at "ev"
        refine ⟨r, l, rfl, g3, hlo.2, by rw [hlo.1]; decide, fun p7 H7 n7 s7 e7 => ?_⟩
        refine ⟨r, p7, _, _, rfl, rfl, s7 _ _ g3, e7, ?_, fun p8 n8 => ?_⟩
        · rw [List.length_map, List.length_map, hlo.1, crcI_len]
          exact Nat.le_of_lt (small1000 (by decide))
        have e68 := new_at (o' := .lst (l.map V.int ++ (crcI l).map V.int)) (s7 _ _ e6) n8
        have p8f : p8 ≠ f0 := (ne_of_none (s7 _ _ e6) n8).symm
        have c2l : cs2.length ≤ 900 := by
          have h6 := R6.1
          have k2 := k1
          simp only [List.length_map, List.length_append, List.length_take] at h6 k2
          omega
        refine ⟨f0, _, _, rfl, rfl, e68, small1000 (by rw [List.length_map]; omega), ?_⟩
        have nH : H p8 = none := by
          cases e : H p8 with
          | none => rfl
          | some o =>
            have := s7 _ _ (u6 _ _ p8f (s15 _ _ (u1 _ _ p8f e)))
            rw [n8] at this
            cases this
        refine ⟨_, rfl, fun b o n e => ?_, cs2 ++ [p8], ?_, ?_, fun b m => ?_⟩
        · show upd _ _ _ b = _
          rw [upd_ne n]
          exact new_at (s7 _ _ (u6 _ _ n e)) n8
        · show upd _ _ _ f0 = _
          rw [upd_same, List.map_append]
          rfl
        · rw [← take_snoc hl1, List.map_append (f := cellL), ← List.append_assoc, List.map_append]
          refine Rws.app (R6.up fun b m o e => ?_) (Rws.cons ?_ rws_nil)
          · show upd _ _ _ b = _
            rw [upd_ne (fr6 b m).2]
            exact new_at (s7 _ _ e) n8
          · show upd _ _ _ p8 = _
            rw [upd_ne p8f, upd_same, ← List.map_append]
            rfl
        · rcases List.mem_append.mp m with m | m
          · exact fr6 b m
          · rw [List.mem_singleton.mp m]
            exact ⟨nH, p8f⟩
      · rintro σ H6 ⟨v5, rfl, u6, cs2, e6, R6, fr6⟩
        have hgl2 : ((rb ++ [p3]).map V.ref).length = (grp lb).length := by rw [List.length_map, RB.1, List.length_map]
        rw [hgl2, List.take_length, ← hnx] at R6
        exact ⟨_, _, _, rfl, fun b o n e => u6 _ _ n (s15 _ _ (u1 _ _ n e)), cs2, e6, R6, fr6⟩
    · rintro σ H1 ⟨v3, v4, v5, rfl, u1, cs, e1, R1, fr1⟩
      have hcl : (chunks ls g).length = (rs.length + g - 1) / g := by rw [chunks_len, hrl]
      rw [← hcl, List.take_length] at R1
      walk_at "ev"
      exact q f0 cs H1 nf0 (fun b o e => u1 _ _ (ne_of_none e nf0) e) e1 R1 fr1
/-! ### loads and bits of the law -/
def padL (xs : List Int) : List Int := xs ++ List.replicate ((48 - xs.length % 48) % 48) 0
def spLoadsL : Sp := fun vs H Q _ => ∃ (p : Addr) (xs : List Int), vs = [.ref p] ∧ H p = some (.lst (xs.map V.int)) ∧ xs.length ≤ 800 ∧ ∀ (q : Addr) (rs : List Addr) (H' : Hp), H q = none → Same H H' → H' q = some (.lst (rs.map V.ref)) → Rws H' rs ((chunks (padL xs) 48).map (·.map V.int)) → Q (.ref q) H'
theorem ok_loadsL {f : Addr} {fd : FuncData} {k : Nat} (F : Fun K "_law_loads" "_law_loads" s_law_loads f fd) (T : Txt mg) : FnOk P w K mg base CX0 (k + 1) f fd ["_law_told"] spLoadsL := by
  refine F.ok sc_law_loads (fun vs H Q E h => ?_) (fun cdv A outer s H vs Q E hr h => ?_)
  · obtain ⟨p, xs, rfl, _⟩ := h
    rfl
  · obtain ⟨p, xs, rfl, hp, hl, q⟩ := h
    have hL : ((List.map V.int xs).length : Int) = xs.length := by rw [List.length_map]
    refine ⟨_, (pss_cons (ps_set (i := 1) sc_law_loads.nd rfl (Or.inr rfl) (pe_op op_cat (pv 0) (pe_op op_rep (pe_lst (pa_cons pe_int pa_nil)) (pe_op op_mod (pe_un un_neg (pe_callB call_len_seq (by rfl) T.z_len PySem.boot_len (pa_cons (pv 0) pa_nil))) pe_int))))
    (pss_one (ps_ret (pe_lc (own := [("_law_at", 2)]) (g := (gName 2)) (tt := tYes) rfl sc_law_loads.nd (pi_range3 (by rfl) T.z_range (pa_cons pe_int (pa_cons (pe_callB call_len_seq (by rfl) T.z_len PySem.boot_len (pa_cons (pv 1) pa_nil)) (pa_cons pe_int pa_nil)))) (blkOk_by (N := ["_law_told", "_law_whole", "_law_at"]) (sc := defScope s_law_loads) (by decide +kernel)) (fun _ _ _ _ _ => pg_name (i := 2) sc_law_loads.nd rfl (by first | exact Or.inl rfl | exact Or.inr rfl)) (fun _ _ _ _ _ => pts_nil) (fun _ _ _ _ _ => (pe_slice (sl_list : SlR _ (rSlL K)) (pv 1) (po_some (pv 2)) (po_some (pe_op op_add (pv 2) pe_int)))))))), ?_⟩
    walk_at "ev"
    refine ⟨by show 1 ≤ sizeLine; decide, fun z nz => ?_⟩
    walk_at "ev"
    refine ⟨p, _, rfl, .inl (.inl (.inl (new_at hp nz))), ?_⟩
    rw [hL]
    walk_at "ev"
    have hk : (-(xs.length : Int) % 48).toNat = (48 - xs.length % 48) % 48 := by omega
    refine ⟨z, _, _, rfl, rfl, upd_same, by omega, by omega, ?_, fun r nr => ?_⟩
    · rw [hk]
      show 1 * _ ≤ _
      exact Nat.le_of_lt (small1000 (by omega))
    rw [hk, flat_zeros]
    refine ⟨p, r, _, _, rfl, rfl, new_at (new_at hp nz) nr, upd_same, ?_, fun w1 nw => ?_⟩
    · rw [List.length_map, List.length_map, List.length_replicate]
      exact Nat.le_of_lt (small1000 (by omega))
    have s1 := (same_upd (o := .lst [.int 0]) nz).trans ((same_upd (o := .lst ((List.replicate ((48 - xs.length % 48) % 48) (0 : Int)).map V.int)) nr).trans (same_upd (o := .lst (xs.map V.int ++ (List.replicate ((48 - xs.length % 48) % 48) (0 : Int)).map V.int)) nw))
    have e1 : upd (upd (upd H z (.lst [.int 0])) r (.lst ((List.replicate ((48 - xs.length % 48) % 48) (0 : Int)).map V.int))) w1 (.lst (xs.map V.int ++ (List.replicate ((48 - xs.length % 48) % 48) (0 : Int)).map V.int)) w1 = some (.lst ((padL xs).map V.int)) := by
      rw [upd_same, ← List.map_append]
      rfl
    generalize upd (upd (upd H z (.lst [.int 0])) r (.lst ((List.replicate ((48 - xs.length % 48) % 48) (0 : Int)).map V.int))) w1 (.lst (xs.map V.int ++ (List.replicate ((48 - xs.length % 48) % 48) (0 : Int)).map V.int)) = H1 at *
    have hpl : (padL xs).length ≤ 900 := by
      unfold padL
      rw [List.length_append, List.length_replicate]
      omega
    walk_at "ev"
    refine ⟨_, _, _, _, rfl, (by rw [List.length_map]; exact rg_parts (m := (padL xs).length) (n := 48) (by decide) (by decide) (by omega)), fun D nD => ?_⟩
    refine lc_it walk_rangeC (fun t H2 => ∃ rs : List Addr, rs.length = t ∧ H2 D = some (.lst (rs.map V.ref)) ∧ Same H1 H2 ∧ Rws H2 rs (((chunks (padL xs) 48).take t).map (·.map V.int)) ∧ (∀ r ∈ rs, r ≠ D)) ?_ (fun _ _ _ _ => trivial) ?_ ?_
    · exact ⟨[], rfl, upd_same, same_upd nD, rws_nil, fun _ m => absurd m List.not_mem_nil⟩
    · rintro t x H2 H3 ht ⟨rs, h1, h2, h3, h4, h5⟩ ⟨rfl, rfl⟩
      obtain ⟨lb, hlb⟩ : ∃ lb, (chunks (padL xs) 48)[t]? = some lb := ⟨_, List.getElem?_eq_getElem (by rw [chunks_len]; exact ht)⟩
      walk_at "ev"
      refine ⟨w1, _, rfl, .inl (.inl (h3 _ _ e1)), fun p1 n1 => ?_⟩
      rw [cut_any (i := t * 48) (k := t * 48 + 48) (by rw [Int.natCast_mul]; omega) (by rw [Int.natCast_add, Int.natCast_mul]; omega) (by rw [List.length_map]; exact tn_le (by decide) ht), show t * 48 + 48 - t * 48 = 48 by omega, ← List.map_drop, ← List.map_take, ← chunks_get hlb]
      have p1D : p1 ≠ D := (ne_of_none h2 n1).symm
      refine ⟨_, new_at h2 n1, ?_, rs ++ [p1], by rw [List.length_append, h1]; rfl, by rw [upd_same, List.map_append]; rfl, fun b o e => ?_, ?_, fun r m => ?_⟩
      · rw [List.length_map, h1]
        exact small_m (Nat.lt_of_lt_of_le ht (Nat.le_trans (cd_le _ _) (by omega)))
      · rw [upd_ne (ne_of_none e nD)]
        exact new_at (h3 _ _ e) n1
      · rw [← take_snoc hlb, List.map_append]
        refine Rws.app ⟨h4.1, fun i r e => ?_⟩ (Rws.cons (by rw [upd_ne p1D, upd_same]) rws_nil)
        obtain ⟨l, g1, g2⟩ := h4.2 i r e
        refine ⟨l, g1, ?_⟩
        rw [upd_ne (h5 r (List.mem_of_getElem? e))]
        exact new_at g2 n1
      · rcases List.mem_append.mp m with m | m
        · exact h5 r m
        · rw [List.mem_singleton.mp m]
          exact p1D
    · rintro H2 ⟨rs, h1, h2, h3, h4, h5⟩
      rw [List.take_of_length_le (by rw [chunks_len]; exact Nat.le_refl _)] at h4
      exact q D rs H2 (s1.free nD) (s1.trans h3) h2 h4
def spBitsL : Sp := fun vs H Q _ => ∃ (a : Addr), vs = [.ref a] ∧ Src H a ∧ ∀ (p : Addr) (xs : List Int) (H' : Hp), H p = none → AreBits xs → xs.length ≤ 400 → H' p = some (.lst (xs.map V.int)) → Src H' a → Up a H H' → Q (.ref p) H'
theorem ok_bitsL {f : Addr} {fd : FuncData} {k : Nat} (F : Fun K "_law_bits" "_law_bits" s_law_bits f fd) (T : Txt mg) (c_law_take : C8.Cal P w K mg base 1 "_law_take" spTake []) (c_law_count : C8.Cal P w K mg base 1 "_law_count" spCountL []) : FnOk P w K mg base CX0 (k + 2) f fd ["_law_source"] spBitsL := by
  refine F.ok sc_law_bits (fun vs H Q E h => ?_) (fun cdv A outer s H vs Q E hr h => ?_)
  · obtain ⟨a, rfl, _⟩ := h
    rfl
  · obtain ⟨a, rfl, ha, q⟩ := h
    refine ⟨_, (pss_cons (ps_set (i := 1) sc_law_bits.nd rfl (Or.inl rfl) (pe_op op_add pe_int (C8.pe_c c_law_take hr (by omega) (by rfl) (pa_cons (pv 0) (pa_cons pe_int pa_nil)))))
    (pss_cons (ps_set (i := 2) sc_law_bits.nd rfl (Or.inl rfl) (pe_callB call_len_seq (by rfl) T.z_len PySem.boot_len (pa_cons (C8.pe_c c_law_count hr (by omega) (by rfl) (pa_cons (pe_op op_mul pe_int (pv 1)) pa_nil)) pa_nil)))
    (pss_cons (ps_set (i := 3) sc_law_bits.nd rfl (Or.inl rfl) (pe_op op_sub (pe_op op_add (pe_op op_sub (pe_op op_mul pe_int (pv 1)) (pv 2)) (C8.pe_c c_law_take hr (by omega) (by rfl) (pa_cons (pv 0) (pa_cons pe_int pa_nil)))) pe_int))
    (C8.pss_cut (ps_set (i := 3) sc_law_bits.nd rfl (Or.inl rfl) (pe_ifExp (pt_cmpR op_eq (C8.pe_c c_law_take hr (by omega) (by rfl) (pa_cons (pv 0) (pa_cons pe_int pa_nil))) pe_int (nomark _)) pe_int (pv 3)))
    (pss_cons (ps_par (i := 4) (j := 5) rfl sc_law_bits.nd rfl rfl (by decide) rfl rfl (pa_cons (pe_lst pa_nil) (pa_cons pe_int pa_nil)) rfl)
    (pss_cons (ps_for PassesOwn.never rfl (pi_range1 (by rfl) T.z_range (pa_cons (pv 3) pa_nil)) (pg_name (i := 6) sc_law_bits.nd rfl (Or.inl rfl))
      (pss_cons (ps_if (pt_cmpR op_eq (pe_op op_mod (pv 6) pe_int) pe_int (nomark _)) (pss_one (ps_set (i := 5) sc_law_bits.nd rfl (Or.inl rfl) (C8.pe_c c_law_take hr (by omega) (by rfl) (pa_cons (pv 0) (pa_cons pe_int pa_nil))))) pss_nil)
    (pss_cons (ps_expr (pe_bm PySem.F.plainAttrs_list PySem.F.slot_list_append PySem.F.type_list_append mt_append (pv 4) (pa_cons (pe_op op_mod (pv 5) pe_int) pa_nil)))
    (pss_one (ps_set (i := 5) sc_law_bits.nd rfl (Or.inl rfl) (pe_op op_fdiv (pv 5) pe_int))))))
    (pss_one (ps_ret (pv 4))))))))), ?_⟩
    walk_at "ev"
    refine ⟨ha, by decide, by decide, fun r1 H1 g0 g1 s1 u1 => ?_⟩
    walk_at "ev"
    refine ⟨(48 * (1 + r1)).toNat, by rw [Int.toNat_of_nonneg (by omega)]; rfl, by omega, fun p2 H2 n2 s2 e2 => ?_⟩
    have hcl := code_len (48 * (1 + r1)).toNat
    have hbl : bl ((48 * (1 + r1)).toNat + 1) ≤ 20 := bl_le (by omega)
    walk_at "ev"
    refine ⟨src_same s2 s1, by decide, by decide, fun r3 H3 k0 k1 s3 u3 => ?_⟩
    have hF0 : 0 ≤ ((List.map V.int (code (48 * (1 + r1)).toNat)).length : Int) := Int.natCast_nonneg _
    have hF1 : ((List.map V.int (code (48 * (1 + r1)).toNat)).length : Int) ≤ 40 := by rw [List.length_map, hcl]; omega
    generalize ((List.map V.int (code (48 * (1 + r1)).toNat)).length : Int) = fg at *
    have u03 : Up a H H3 := (u1.up.trans (up_same s2)).trans u3.up
    walk_at "ev"
    refine ⟨fun σ H5 => ∃ (m : Int) (c f : Option V), σ = [some (.ref a), c, f, some (.int m), none, none, none] ∧ -100 ≤ m ∧ m ≤ 300 ∧ Src H5 a ∧ Up a H H5, ?_, ?_⟩
    · walk_at "ev"
      refine ⟨s3, by decide, by decide, fun r4 H4 l0 l1 s4 u4 => ?_⟩
      walk_at "ev"
      · exact ⟨_, _, _, rfl, by omega, by omega, s4, u03.trans u4.up⟩
      · exact ⟨_, _, _, rfl, by omega, by omega, s4, u03.trans u4.up⟩
    · rintro σ H5 ⟨m, c, f, rfl, hm0, hm, s5, u5⟩
      walk_at "ev"
      refine ⟨by show 0 ≤ sizeLine; decide, fun p6 n6 => ?_⟩
      have p6a : a ≠ p6 := s5.ne n6
      have s6 : Src (upd H5 p6 (.lst [])) a := src_keep p6a s5
      have u6 : Up a H (upd H5 p6 (.lst [])) := u5.trans (up_same (same_upd n6))
      have e6 : upd H5 p6 (.lst []) p6 = some (.lst []) := upd_same
      have n6H : H p6 = none := u5.new s5 n6
      generalize upd H5 p6 (.lst []) = H6 at *
      walk_at "ev"
      refine ⟨by omega, by omega, ?_⟩
      refine for_range (fun i σ H7 => ∃ (xs : List Int) (r : Int) (v6 : Option V), σ = [some (.ref a), c, f, some (.int m), some (.ref p6), some (.int r), v6] ∧ xs.length = i ∧ AreBits xs ∧ 0 ≤ r ∧ H7 p6 = some (.lst (xs.map V.int)) ∧ Src H7 a ∧ (∀ b o, b ≠ a → b ≠ p6 → H6 b = some o → H7 b = some o)) ⟨[], 0, _, rfl, rfl, fun _ mm => absurd mm List.not_mem_nil, by decide, e6, s6, fun _ _ _ _ e => e⟩ ?_ ?_
      · rintro i σ H7 hi ⟨xs, r, v6, rfl, hl, hb, hr, e7, s7, u7⟩
        walk_at "ev"
        · refine ⟨s7, by decide, by decide, fun r8 H8 l0 l1 s8 u8 => ?_⟩
          have e8 := (u8 p6 p6a.symm).trans e7
          walk_at "ev"
          refine ⟨.inl ⟨rfl, _, .inl (.inl e8)⟩, ?_⟩
          walk_at "ev"
          refine ⟨p6, _, _, rfl, rfl, e8, small1000 (by rw [List.length_map]; omega), ?_⟩
          walk_at "ev"
          refine ⟨xs ++ [r8 % 2], r8 / 2, _, rfl, by rw [List.length_append, hl]; rfl, hb.app fun z mz => ?_, by omega, ?_, src_keep p6a s8, fun b o na nb e => ?_⟩
          · rw [List.mem_singleton.mp mz]
            omega
          · rw [upd_same, List.map_append]
            rfl
          · rw [upd_ne nb]
            exact (u8 b na).trans (u7 b o na nb e)
        · refine ⟨.inl ⟨rfl, _, .inl (.inl e7)⟩, ?_⟩
          walk_at "ev"
          refine ⟨p6, _, _, rfl, rfl, e7, small1000 (by rw [List.length_map]; omega), ?_⟩
          walk_at "ev"
          refine ⟨xs ++ [r % 2], r / 2, _, rfl, by rw [List.length_append, hl]; rfl, hb.app fun z mz => ?_, by omega, ?_, src_keep p6a s7, fun b o na nb e => ?_⟩
          · rw [List.mem_singleton.mp mz]
            omega
          · rw [upd_same, List.map_append]
            rfl
          · rw [upd_ne nb]
            exact u7 b o na nb e
      · rintro σ H7 ⟨xs, r, v6, rfl, hl, hb, hr, e7, s7, u7⟩
        walk_at "ev"
        refine q p6 xs H7 n6H hb (by omega) e7 s7 fun b o n e => ?_
        exact u7 b o n (ne_of_none e n6H) (u6 b o n e)
/-! ### what is opened is what was written -/
theorem openG_grp {c : List (List Int)} (h : ∀ l ∈ c, IsLoad l) : openG ((grp c).map cellL) = c.map some := by
  have e : ((grp c).map cellL).map loadO = (grp c).map some := by
    rw [List.map_map]
    refine List.map_congr_left fun l m => ?_
    have hl := grp_load h l m
    show loadO (cellL l) = some l
    unfold loadO
    rw [if_pos (cellL_good hl), cellL_take hl]
  have h0 : ((grp c).map some).count (none : Option (List Int)) = 0 := List.count_eq_zero.mpr fun m => by
    obtain ⟨l, _, e⟩ := List.mem_map.mp m
    cases e
  unfold openG healO
  rw [e, h0, if_neg (by decide)]
  unfold grp
  rw [List.map_append, List.map_cons, List.map_nil, List.dropLast_concat]
theorem map_flat_some : ∀ bs : List (List (List Int)), (bs.map fun c => c.map some).flatten = bs.flatten.map (some : List Int → Option (List Int))
  | [] => rfl
  | b :: bs => by rw [List.map_cons, List.flatten_cons, List.flatten_cons, List.map_append, map_flat_some bs]
theorem opens_prot {ls : List (List Int)} {g : Nat} (hg : 0 < g) (h : ∀ l ∈ ls, IsLoad l) : opensL (protL ls g) g = ls.map some := by
  unfold opensL
  rw [prot_chunks h, prot_groups hg]
  unfold grps
  rw [List.map_map, List.map_map]
  have e : (chunks ls g).map ((openG ∘ (fun b : List (List Int) => b.map cellL)) ∘ grp) = (chunks ls g).map fun c => c.map some := List.map_congr_left fun c m => openG_grp fun l ml => h l (chunks_mem m l ml)
  rw [e, map_flat_some, chunks_flat hg _ ls (Nat.le_refl _)]
theorem flatO_some : ∀ ls : List (List Int), flatO (ls.map some) = ls.flatten.map V.int
  | [] => rfl
  | l :: ls => by
    have ih := flatO_some ls
    unfold flatO at ih ⊢
    rw [List.map_cons, List.map_cons, List.flatten_cons, ih, List.flatten_cons, List.map_append]
    rfl
theorem prot_opens {xs : List Int} {g : Nat} (hg : 0 < g) (hb : AreBits xs) (hl : xs.length ≤ 1000) : Opens (opensL (protL (loadsL xs) g) g) (some (xs.map V.int)) := by
  have hld := loadsL_load hb
  have hcl := code_len xs.length
  have hbl : bl (xs.length + 1) ≤ 10 := bl_le (by omega)
  have hn1 := loadsL_len xs
  rw [opens_prot hg hld]
  have h0 : (loadsL xs)[0]? = some ((fillL xs).take 48) := by
    unfold loadsL
    rw [chunks_cons (by decide) (fillL_ne xs)]
    rfl
  have h0' : ((loadsL xs).map some)[0]? = some (some ((fillL xs).take 48)) := by rw [List.getElem?_map, h0]; rfl
  have hr : readC ((fillL xs).take 48) 0 = .read xs.length (code xs.length).length := by
    have e : (fillL xs).take 48 = [] ++ code xs.length ++ ((xs ++ List.replicate ((48 - (code xs.length ++ xs).length % 48) % 48) 0).take (48 - (code xs.length).length)) := by
      unfold fillL
      rw [List.append_assoc, List.take_append, List.take_of_length_le (by omega), List.nil_append]
    rw [e]
    have := read_code (A := []) (B := (xs ++ List.replicate ((48 - (code xs.length ++ xs).length % 48) % 48) 0).take (48 - (code xs.length).length)) (c := xs.length) (by omega)
    rw [List.length_nil, Nat.zero_add] at this
    exact this
  have key := Opens.told h0' hr (by omega) (by rw [List.length_map, hn1]) (by
    rw [flatO_some, loadsL_flat, ← List.map_drop]
    have e : (fillL xs).drop ((code xs.length).length + xs.length) = List.replicate ((48 - (code xs.length ++ xs).length % 48) % 48) 0 := by
      unfold fillL
      rw [List.drop_left' (by rw [List.length_append])]
    rw [e, inV_ints]
    refine decide_eq_false fun m => ?_
    have := (List.mem_replicate.mp m).2
    omega)
  rw [flatO_some, loadsL_flat, ← List.map_drop, ← List.map_take] at key
  have e : ((fillL xs).drop (code xs.length).length).take xs.length = xs := by
    unfold fillL
    rw [List.append_assoc, List.drop_left' rfl, List.take_left' rfl]
  rw [e] at key
  exact key
def spGroupX (O : Addr) : Sp := fun vs H Q E => ∃ (g : Int), vs = [.int g] ∧ ((1 ≤ g ∧ g ≤ 8 ∧ Q .non H) ∨ ((g < 1 ∨ 8 < g) ∧ E (.ref O) none H))
theorem ok_groupX {f O : Addr} {fd : FuncData} {k : Nat} (F : Fun K "check_group" "check_group" s_check_group f fd) (CN : Con mg t1 t2 t3 t4 t5) (e_Outside : ECls K mg "Outside" O) : FnOk P w K mg base (L2.CX P w) (k + 1) f fd ["group"] (spGroupX O) := by
  refine F.okX sc_check_group (fun vs H Q E h => ?_) (fun cdv A outer s H vs Q E hr h => ?_)
  · obtain ⟨g, rfl, _⟩ := h
    rfl
  · obtain ⟨g, rfl, h⟩ := h
    refine ⟨_, (pss_one (ps_if (pt_not (pt_chain op_le op_le pe_int (pv 0) (pe_glob (v := .int 8) (by rfl) CN.group ⟨_, rfl⟩))) (pss_one (ps_raise rfl (takes_of rfl rfl rfl rfl) (pmk_none PySem.F.excBase_ValueError e_Outside.xC e_Outside.gC e_Outside.kC (raises_own e_Outside.bC e_Outside.tC) (by rfl)))) pss_nil)), ?_⟩
    rcases h with ⟨h1, h2, q⟩ | ⟨h1, x⟩
    · walk_at "ev"
      exact q
    · walk_at "ev"
      all_goals exact x
/-- sizes that cells cannot have -/
def SizeBad (n : Nat) (g : Int) : Prop := n < 56 ∨ n % 56 ≠ 0 ∨ ((n / 56 : Nat) : Int) % (g + 1) = 1
/-- what check_cells, and so good and open_cells, refuse -/
def RefC (B O C : Addr) (H : Hp) (p : Addr) (g : Int) (E : XK) : Prop := (BadAt H p ∧ E (.ref B) none H) ∨ ∃ xs : List Int, H p = some (.lst (xs.map V.int)) ∧ AreBits xs ∧ (((g < 1 ∨ 8 < g) ∧ E (.ref O) none H) ∨ (1 ≤ g ∧ g ≤ 8 ∧ SizeBad xs.length g ∧ E (.ref C) none H))
def spRefC (B O C : Addr) : Sp := fun vs H Q E => ∃ (p : Addr) (g : Int), vs = [.ref p, .int g] ∧ RefC B O C H p g E
theorem ok_cellsX {f B O C f1 f2 : Addr} {fd fd1 fd2 : FuncData} {k : Nat} (F : Fun K "check_cells" "check_cells" s_check_cells f fd) (T : Txt mg) (CN : Con mg t1 t2 t3 t4 t5) (e_BadCells : ECls K mg "BadCells" C)
    (G_check_bits : FnOk P w K mg base (L2.CX P w) 2 f1 fd1 ["bits"] (spCheckBX B)) (g_check_bits : mg "check_bits" = some (.ref f1)) (k_check_bits : PySem.W.keepIn K (.ref f1) = true) (b_check_bits : Binds K fd1 ["bits"] [])
    (G_check_group : FnOk P w K mg base (L2.CX P w) 1 f2 fd2 ["group"] (spGroupX O)) (g_check_group : mg "check_group" = some (.ref f2)) (k_check_group : PySem.W.keepIn K (.ref f2) = true) (b_check_group : Binds K fd2 ["group"] []) :
    FnOk P w K mg base (L2.CX P w) (k + 3) f fd ["protected", "group"] (spRefC B O C) := by
  refine F.okX sc_check_cells (fun vs H Q E h => ?_) (fun cdv A outer s H vs Q E hr h => ?_)
  · obtain ⟨p, g, rfl, _⟩ := h
    rfl
  · obtain ⟨p, g, rfl, h⟩ := h
    refine ⟨_, (pss_cons (ps_expr (pe_call G_check_bits (hr.mono (by omega)) (by rfl) g_check_bits k_check_bits b_check_bits .nil (passes_call (takes_of rfl rfl rfl rfl) (fun _ _ _ _ h => h)) (pa_cons (pv 0) pa_nil)))
    (pss_cons (ps_expr (pe_call G_check_group (hr.mono (by omega)) (by rfl) g_check_group k_check_group b_check_group .nil (passes_call (takes_of rfl rfl rfl rfl) (fun _ _ _ _ h => h)) (pa_cons (pv 1) pa_nil)))
    (pss_cons (ps_set (i := 2) sc_check_cells.nd rfl (Or.inl rfl) (pe_op op_fdiv (pe_callB call_len_seq (by rfl) T.z_len PySem.boot_len (pa_cons (pv 0) pa_nil)) (pe_glob (v := .int 56) (by rfl) CN.cell ⟨_, rfl⟩)))
    (pss_one (ps_if (PW.pt (pw_or (pt_cmpR op_lt (pv 2) pe_int (nomark _)) (pw_or (pt_cmpR op_ne (pe_op op_mod (pe_callB call_len_seq (by rfl) T.z_len PySem.boot_len (pa_cons (pv 0) pa_nil)) (pe_glob (v := .int 56) (by rfl) CN.cell ⟨_, rfl⟩)) pe_int (nomark _)) (pw_or1 (pt_cmpR op_eq (pe_op op_mod (pv 2) (pe_op op_add (pv 1) pe_int)) pe_int (nomark _)))))) (pss_one (ps_raise rfl (takes_of rfl rfl rfl rfl) (pmk_none PySem.F.excBase_ValueError e_BadCells.xC e_BadCells.gC e_BadCells.kC (raises_own e_BadCells.bC e_BadCells.tC) (by rfl)))) pss_nil))))), ?_⟩
    walk_at "ev"
    rcases h with ⟨hbad, x⟩ | ⟨xs, hp, hb, h⟩
    · exact .inr ⟨hbad, x⟩
    · refine .inl ⟨xs, hp, hb, ?_⟩
      walk_at "ev"
      rcases h with ⟨hg, x⟩ | ⟨h1, h2, hs, x⟩
      · exact .inr ⟨hg, x⟩
      · refine .inl ⟨h1, h2, ?_⟩
        have hL : ((List.map V.int xs).length : Int) = xs.length := by rw [List.length_map]
        have hL2 : ((List.map V.int xs).length : Int) / 56 = ((xs.length / 56 : Nat) : Int) := by omega
        unfold SizeBad at hs
        walk_at "ev"
        · exact x
        · exact x
        · exact x
        · rename_i a1 a2 a3
          rw [hL2] at a3
          exfalso
          rcases hs with hs | hs | hs
          · omega
          · omega
          · exact a3 hs
theorem ok_goodX {f B O C f1 : Addr} {fd fd1 : FuncData} {k : Nat} (F : Fun K "good" "good" s_good f fd) (CN : Con mg t1 t2 t3 t4 t5)
    (G_check_cells : FnOk P w K mg base (L2.CX P w) 3 f1 fd1 ["protected", "group"] (spRefC B O C)) (g_check_cells : mg "check_cells" = some (.ref f1)) (k_check_cells : PySem.W.keepIn K (.ref f1) = true) (b_check_cells : Binds K fd1 ["protected", "group"] [])
    (c_parts_of : C8.Cal P w K mg base 1 "parts_of" spParts []) (c_is_good : C8.Cal P w K mg base 3 "is_good" spIsGood []) : FnOk P w K mg base (L2.CX P w) (k + 4) f fd ["protected", "group"] (spRefC B O C) := by
  refine F.okX sc_good (fun vs H Q E h => ?_) (fun cdv A outer s H vs Q E hr h => ?_)
  · obtain ⟨p, g, rfl, _⟩ := h
    rfl
  · obtain ⟨p, g, rfl, h⟩ := h
    refine ⟨_, (pss_cons (ps_expr (pe_call G_check_cells (hr.mono (by omega)) (by rfl) g_check_cells k_check_cells b_check_cells .nil (passes_call (takes_of rfl rfl rfl rfl) (fun _ _ _ _ h => h)) (pa_cons (pv 0) (pa_cons (pv 1) pa_nil))))
    (pss_one (ps_ret (pe_lc (own := [("cell", 2)]) (g := (gName 2)) (tt := tYes) rfl sc_good.nd (pi_list (C8.pe_c c_parts_of hr (by omega) (by rfl) (pa_cons (pv 0) (pa_cons (pe_glob (v := .int 56) (by rfl) CN.cell ⟨_, rfl⟩) pa_nil)))) (blkOk_by (N := ["protected", "group", "cell"]) (sc := defScope s_good) (by decide +kernel)) (fun _ _ _ _ _ => pg_name (i := 2) sc_good.nd rfl (by first | exact Or.inl rfl | exact Or.inr rfl)) (fun _ _ _ _ _ => pts_nil) (fun _ _ _ _ _ => (C8.pe_c c_is_good hr (by omega) (by rfl) (pa_cons (pv 2) pa_nil))))))), ?_⟩
    walk_at "ev"
    rcases h with ⟨hbad, x⟩ | ⟨xs, hp, hb, h⟩
    · exact .inl ⟨hbad, x⟩
    · refine .inr ⟨xs, hp, hb, ?_⟩
      rcases h with ⟨hg, x⟩ | ⟨h1, h2, hs, x⟩
      · exact .inl ⟨hg, x⟩
      · exact .inr ⟨h1, h2, hs, x⟩
/-! ### spans that are refused -/
def SpanBad (l : List Int) (n : Nat) : Prop := match readC l 0 with
  | .read c s => 1000000 < c ∨ -(-((s : Int) + c) / 48) ≠ (n : Int)
  | _ => True
def spSpanX (C : Addr) : Sp := fun vs H Q E => ∃ (p : Addr) (us : List V) (r : Addr) (l : List Int), vs = [.ref p] ∧ H p = some (.lst us) ∧ us[0]? = some (.ref r) ∧ H r = some (.lst (l.map V.int)) ∧ IsLoad l ∧ ((∃ c s : Nat, readC l 0 = .read c s ∧ c ≤ 1000000 ∧ (s + c + 47) / 48 = us.length ∧ ∀ (q : Addr) (H' : Hp), H q = none → Same H H' → H' q = some (.tup [.int s, .int ((s : Int) + c)]) → Q (.ref q) H') ∨ (SpanBad l us.length ∧ ∀ H', Same H H' → E (.ref C) none H'))
theorem ok_spanX {f C : Addr} {fd : FuncData} {k : Nat} {t : Tok} (F : Fun K "span_told" "span_told" s_span_told f fd) (T : Txt mg) (CN : Con mg t1 t2 t3 t4 t5) (hP : mg "MOST_PROTECTED" = some (.int 1000000 t)) (e_BadCells : ECls K mg "BadCells" C) (c_count_at : C8.Cal P w K mg base 2 "count_at" spCountAt []) : FnOk P w K mg base (L2.CX P w) (k + 3) f fd ["loads"] (spSpanX C) := by
  refine F.okX sc_span_told (fun vs H Q E h => ?_) (fun cdv A outer s H vs Q E hr h => ?_)
  · obtain ⟨p, us, r, l, rfl, _⟩ := h
    rfl
  · obtain ⟨p, us, r, l, rfl, hp, hu0, hr0, hlo, h⟩ := h
    refine ⟨_, (pss_cons (ps_set (i := 1) sc_span_told.nd rfl (Or.inl rfl) (C8.pe_c c_count_at hr (by omega) (by rfl) (pa_cons (pe_ix ix_list (pv 0) pe_int (fun _ _ => rfl)) (pa_cons pe_int pa_nil))))
    (pss_cons (ps_if (pt_cmpR op_ne (pe_ix ix_tup (pv 1) pe_int (fun _ _ => rfl)) pe_str (nomark _)) (pss_one (ps_raise rfl (takes_of rfl rfl rfl rfl) (pmk_none PySem.F.excBase_ValueError e_BadCells.xC e_BadCells.gC e_BadCells.kC (raises_own e_BadCells.bC e_BadCells.tC) (by rfl)))) pss_nil)
    (pss_cons (ps_asg (pv 1) (pg_tup rfl (pgs_cons (pg_name (i := 2) sc_span_told.nd rfl (Or.inl rfl)) (pgs_cons (pg_name (i := 3) sc_span_told.nd rfl (Or.inl rfl)) (pgs_cons (pg_name (i := 4) sc_span_told.nd rfl (Or.inl rfl)) pgs_nil)))))
    (pss_cons (ps_if (PW.pt (pw_or (pt_cmpR op_gt (pv 3) (pe_glob (v := .int 1000000) (by rfl) hP ⟨_, rfl⟩) (nomark _)) (pw_or1 (pt_cmpR op_ne (pe_un un_neg (pe_op op_fdiv (pe_un un_neg (pe_op op_add (pv 4) (pv 3))) (pe_glob (v := .int 48) (by rfl) CN.load ⟨_, rfl⟩))) (pe_callB call_len_seq (by rfl) T.z_len PySem.boot_len (pa_cons (pv 0) pa_nil)) (nomark _))))) (pss_one (ps_raise rfl (takes_of rfl rfl rfl rfl) (pmk_none PySem.F.excBase_ValueError e_BadCells.xC e_BadCells.gC e_BadCells.kC (raises_own e_BadCells.bC e_BadCells.tC) (by rfl)))) pss_nil)
    (pss_one (ps_ret (pe_tup (pa_cons (pv 4) (pa_cons (pe_op op_add (pv 4) (pv 3)) pa_nil))))))))), ?_⟩
    walk_at "ev"
    refine ⟨p, us, _, _, rfl, rfl, .inl (.inl hp), at_of (j := 0) (by decide) hu0, ?_⟩
    walk_at "ev"
    refine ⟨r, l, 0, rfl, hr0, hlo.2, Nat.zero_le _, by rw [hlo.1]; decide, fun q1 H1 n1 s1 e1 => ?_⟩
    rcases h with ⟨c, s, hrd, hc, hn, q⟩ | ⟨hbad, x⟩
    · rw [hrd] at e1
      replace e1 : H1 q1 = some (.tup [.str "read", .int c, .int s]) := e1
      have hcl : -(-((s : Int) + (c : Int)) / 48) = (us.length : Int) := by omega
      walk_at "ev"
      refine ⟨p, us, rfl, .inl (.inl (.inl (s1 _ _ hp))), ?_⟩
      walk_at "ev"
      refine ⟨by show 2 ≤ sizeLine; decide, fun q2 n2 => q q2 _ (s1.free n2) (s1.trans (same_upd n2)) upd_same⟩
    · unfold SpanBad at hbad
      cases hrd : readC l 0 with
      | long =>
        rw [hrd] at e1
        replace e1 : H1 q1 = some (.tup [.str "long"]) := e1
        walk_at "ev"
        exact x _ s1
      | short =>
        rw [hrd] at e1
        replace e1 : H1 q1 = some (.tup [.str "short"]) := e1
        walk_at "ev"
        exact x _ s1
      | read c s =>
        rw [hrd] at e1 hbad
        replace e1 : H1 q1 = some (.tup [.str "read", .int c, .int s]) := e1
        dsimp only at hbad
        walk_at "ev"
        · exact x _ s1
        · rename_i hk
          refine ⟨p, us, rfl, .inl (.inl (.inl (s1 _ _ hp))), ?_⟩
          walk_at "ev"
          exact x _ s1
/-- check_cells, told or refused -/
def spCells2 (B O C : Addr) : Sp := fun vs H Q E => ∃ (p : Addr) (g : Int), vs = [.ref p, .int g] ∧ (RefC B O C H p g E ∨ ∃ (xs : List Int) (m g' : Nat), g = g' ∧ H p = some (.lst (xs.map V.int)) ∧ AreBits xs ∧ xs.length = 56 * m ∧ 1 ≤ m ∧ 1 ≤ g' ∧ g' ≤ 8 ∧ m % (g' + 1) ≠ 1 ∧ Q .non H)
theorem ok_cells2 {f B O C f1 f2 : Addr} {fd fd1 fd2 : FuncData} {k : Nat} (F : Fun K "check_cells" "check_cells" s_check_cells f fd) (T : Txt mg) (CN : Con mg t1 t2 t3 t4 t5) (e_BadCells : ECls K mg "BadCells" C)
    (G_check_bits : FnOk P w K mg base (L2.CX P w) 2 f1 fd1 ["bits"] (spCheckBX B)) (g_check_bits : mg "check_bits" = some (.ref f1)) (k_check_bits : PySem.W.keepIn K (.ref f1) = true) (b_check_bits : Binds K fd1 ["bits"] [])
    (G_check_group : FnOk P w K mg base (L2.CX P w) 1 f2 fd2 ["group"] (spGroupX O)) (g_check_group : mg "check_group" = some (.ref f2)) (k_check_group : PySem.W.keepIn K (.ref f2) = true) (b_check_group : Binds K fd2 ["group"] []) :
    FnOk P w K mg base (L2.CX P w) (k + 3) f fd ["protected", "group"] (spCells2 B O C) := by
  refine F.okX sc_check_cells (fun vs H Q E h => ?_) (fun cdv A outer s H vs Q E hr h => ?_)
  · obtain ⟨p, g, rfl, _⟩ := h
    rfl
  · obtain ⟨p, g, rfl, h⟩ := h
    refine ⟨_, (pss_cons (ps_expr (pe_call G_check_bits (hr.mono (by omega)) (by rfl) g_check_bits k_check_bits b_check_bits .nil (passes_call (takes_of rfl rfl rfl rfl) (fun _ _ _ _ h => h)) (pa_cons (pv 0) pa_nil)))
    (pss_cons (ps_expr (pe_call G_check_group (hr.mono (by omega)) (by rfl) g_check_group k_check_group b_check_group .nil (passes_call (takes_of rfl rfl rfl rfl) (fun _ _ _ _ h => h)) (pa_cons (pv 1) pa_nil)))
    (pss_cons (ps_set (i := 2) sc_check_cells.nd rfl (Or.inl rfl) (pe_op op_fdiv (pe_callB call_len_seq (by rfl) T.z_len PySem.boot_len (pa_cons (pv 0) pa_nil)) (pe_glob (v := .int 56) (by rfl) CN.cell ⟨_, rfl⟩)))
    (pss_one (ps_if (PW.pt (pw_or (pt_cmpR op_lt (pv 2) pe_int (nomark _)) (pw_or (pt_cmpR op_ne (pe_op op_mod (pe_callB call_len_seq (by rfl) T.z_len PySem.boot_len (pa_cons (pv 0) pa_nil)) (pe_glob (v := .int 56) (by rfl) CN.cell ⟨_, rfl⟩)) pe_int (nomark _)) (pw_or1 (pt_cmpR op_eq (pe_op op_mod (pv 2) (pe_op op_add (pv 1) pe_int)) pe_int (nomark _)))))) (pss_one (ps_raise rfl (takes_of rfl rfl rfl rfl) (pmk_none PySem.F.excBase_ValueError e_BadCells.xC e_BadCells.gC e_BadCells.kC (raises_own e_BadCells.bC e_BadCells.tC) (by rfl)))) pss_nil))))), ?_⟩
    walk_at "ev"
    rcases h with (⟨hbad, x⟩ | ⟨xs, hp, hb, h⟩) | ⟨xs, m, g, rfl, hp, hb, hl, hm, h1, h2, h3, q⟩
    · exact .inr ⟨hbad, x⟩
    · refine .inl ⟨xs, hp, hb, ?_⟩
      walk_at "ev"
      rcases h with ⟨hg, x⟩ | ⟨h1, h2, hs, x⟩
      · exact .inr ⟨hg, x⟩
      · refine .inl ⟨h1, h2, ?_⟩
        have hL : ((List.map V.int xs).length : Int) = xs.length := by rw [List.length_map]
        have hL2 : ((List.map V.int xs).length : Int) / 56 = ((xs.length / 56 : Nat) : Int) := by omega
        unfold SizeBad at hs
        walk_at "ev"
        · exact x
        · exact x
        · exact x
        · rename_i a1 a2 a3
          rw [hL2] at a3
          exfalso
          rcases hs with hs | hs | hs
          · omega
          · omega
          · exact a3 hs
    · refine .inl ⟨xs, hp, hb, ?_⟩
      walk_at "ev"
      refine .inl ⟨by omega, by omega, ?_⟩
      have hL : ((List.map V.int xs).length : Int) = xs.length := by rw [List.length_map]
      have hL2 : ((List.map V.int xs).length : Int) / 56 = (m : Int) := by omega
      have hL3 : ((List.map V.int xs).length : Int) % 56 = 0 := by omega
      have h3' : ¬ (m : Int) % ((g : Int) + 1) = 1 := fun z => h3 (by
        have : ((m % (g + 1) : Nat) : Int) = 1 := by rw [Int.natCast_emod]; exact z
        omega)
      walk_at "ev"
      · rename_i a1 a2 a3
        rw [hL2] at a3
        exact absurd a3 h3'
      · exact q
/-- what open_cells does with cells of a right size -/
def OpenR (C : Addr) (os : List (Option (List Int))) (H : Hp) (Q : VK) (E : XK) : Prop := (os[0]? = some none ∧ ∀ H', Same H H' → Q .non H') ∨ ∃ l : List Int, os[0]? = some (some l) ∧ ((SpanBad l os.length ∧ ∀ H', Same H H' → E (.ref C) none H') ∨ ∃ c s : Nat, readC l 0 = .read c s ∧ c ≤ 1000000 ∧ (s + c + 47) / 48 = os.length ∧ ((inV (.int 1) ((flatO os).drop (s + c)) = false ∧ ∀ H', Same H H' → ∀ q : Addr, H q = none → H' q = some (.lst (((flatO os).drop s).take c)) → Q (.ref q) H') ∨ (inV (.int 1) ((flatO os).drop (s + c)) = true ∧ ∀ H', Same H H' → E (.ref C) none H')))
def spOpen2 (B O C : Addr) : Sp := fun vs H Q E => ∃ (p : Addr) (g : Int), vs = [.ref p, .int g] ∧ (RefC B O C H p g E ∨ ∃ (xs : List Int) (m g' : Nat), g = g' ∧ H p = some (.lst (xs.map V.int)) ∧ AreBits xs ∧ xs.length = 56 * m ∧ 1 ≤ m ∧ m ≤ 800 ∧ 1 ≤ g' ∧ g' ≤ 8 ∧ m % (g' + 1) ≠ 1 ∧ OpenR C (opensL xs g') H Q E)
theorem ok_open2 {f B O C f1 f2 : Addr} {fd fd1 fd2 : FuncData} {k : Nat} (F : Fun K "open_cells" "open_cells" s_open_cells f fd) (T : Txt mg) (CN : Con mg t1 t2 t3 t4 t5) (e_BadCells : ECls K mg "BadCells" C)
    (G_check_cells : FnOk P w K mg base (L2.CX P w) 3 f1 fd1 ["protected", "group"] (spCells2 B O C)) (g_check_cells : mg "check_cells" = some (.ref f1)) (k_check_cells : PySem.W.keepIn K (.ref f1) = true) (b_check_cells : Binds K fd1 ["protected", "group"] [])
    (G_span_told : FnOk P w K mg base (L2.CX P w) 3 f2 fd2 ["loads"] (spSpanX C)) (g_span_told : mg "span_told" = some (.ref f2)) (k_span_told : PySem.W.keepIn K (.ref f2) = true) (b_span_told : Binds K fd2 ["loads"] [])
    (c_parts_of : C8.Cal P w K mg base 1 "parts_of" spParts []) (c_opened_group : C8.Cal P w K mg base 4 "opened_group" spOpened []) : FnOk P w K mg base (L2.CX P w) (k + 5) f fd ["protected", "group"] (spOpen2 B O C) := by
  refine F.okX sc_open_cells (fun vs H Q E h => ?_) (fun cdv A outer s H vs Q E hr h => ?_)
  · obtain ⟨p, g, rfl, _⟩ := h
    rfl
  · obtain ⟨p, g, rfl, h⟩ := h
    refine ⟨_, (pss_cons (ps_expr (pe_call G_check_cells (hr.mono (by omega)) (by rfl) g_check_cells k_check_cells b_check_cells .nil (passes_call (takes_of rfl rfl rfl rfl) (fun _ _ _ _ h => h)) (pa_cons (pv 0) (pa_cons (pv 1) pa_nil))))
    (pss_cons (ps_set (i := 2) sc_open_cells.nd rfl (Or.inl rfl) (pe_lst pa_nil))
    (pss_cons (ps_for (passes_of rfl) rfl (pi_list (C8.pe_c c_parts_of hr (by omega) (by rfl) (pa_cons (C8.pe_c c_parts_of hr (by omega) (by rfl) (pa_cons (pv 0) (pa_cons (pe_glob (v := .int 56) (by rfl) CN.cell ⟨_, rfl⟩) pa_nil))) (pa_cons (pe_op op_add (pv 1) pe_int) pa_nil)))) (pg_name (i := 3) sc_open_cells.nd rfl (Or.inl rfl))
      (pss_one (ps_expr (pe_bm PySem.F.plainAttrs_list PySem.F.slot_list_extend PySem.F.type_list_extend mt_extend (pv 2) (pa_cons (C8.pe_c c_opened_group hr (by omega) (by rfl) (pa_cons (pv 3) pa_nil)) pa_nil)))))
    (pss_cons (ps_if (pt_cmpR op_isN (pe_ix ix_list (pv 2) pe_int (fun _ _ => rfl)) pe_non (nomark _)) (pss_one (ps_ret pe_non)) pss_nil)
    (pss_cons (ps_asg (pe_call G_span_told (hr.mono (by omega)) (by rfl) g_span_told k_span_told b_span_told .nil (passes_call (takes_of rfl rfl rfl rfl) (fun _ _ _ _ h => h)) (pa_cons (pv 2) pa_nil)) (pg_tup rfl (pgs_cons (pg_name (i := 4) sc_open_cells.nd rfl (Or.inl rfl)) (pgs_cons (pg_name (i := 5) sc_open_cells.nd rfl (Or.inl rfl)) pgs_nil))))
    (pss_cons (ps_set (i := 6) sc_open_cells.nd rfl (Or.inl rfl) (pe_lst pa_nil))
    (pss_cons (ps_for (passes_of rfl) rfl (pi_list (pv 2)) (pg_name (i := 7) sc_open_cells.nd rfl (Or.inl rfl))
      (pss_one (ps_expr (pe_bm PySem.F.plainAttrs_list PySem.F.slot_list_extend PySem.F.type_list_extend mt_extend (pv 6) (pa_cons (pe_ifExp (pt_cmpR op_isN (pv 7) pe_non (nomark _)) (pe_op op_rep (pe_lst (pa_cons pe_non pa_nil)) (pe_glob (v := .int 48) (by rfl) CN.load ⟨_, rfl⟩)) (pv 7)) pa_nil)))))
    (pss_cons (ps_if (pt_cmpR op_in_seq pe_int (pe_slice sl_list (pv 6) (po_some (pv 5)) po_none) (by rfl)) (pss_one (ps_raise rfl (takes_of rfl rfl rfl rfl) (pmk_none PySem.F.excBase_ValueError e_BadCells.xC e_BadCells.gC e_BadCells.kC (raises_own e_BadCells.bC e_BadCells.tC) (by rfl)))) pss_nil)
    (pss_one (ps_ret (pe_slice sl_list (pv 6) (po_some (pv 4)) (po_some (pv 5))))))))))))), ?_⟩
    walk_at "ev"
    rcases h with h | ⟨xs, m, g, rfl, hp, hb, hl, hm, hm2, h1, h2, h3, ho⟩
    · exact .inl h
    refine .inr ⟨xs, m, g, rfl, hp, hb, hl, hm, h1, h2, h3, ?_⟩
    have hcl : (chunks xs 56).length = m := by rw [chunks_len, hl]; omega
    walk_at "ev"
    refine ⟨by show 0 ≤ sizeLine; decide, fun f0 nf0 => ?_⟩
    walk_at "ev"
    refine ⟨p, _, 56, rfl, new_at hp nf0, by decide, by decide, by rw [List.length_map]; omega, fun q1 rs H1 n1 s1 e1 R1 fr1 nd1 => ?_⟩
    rw [chunks_map] at R1
    walk_at "ev"
    have hrs : rs.length = m := by rw [R1.1, List.length_map, hcl]
    refine ⟨q1, _, g + 1, rfl, e1, by omega, by omega, by rw [List.length_map]; omega, fun q2 ds H2 n2 s2 e2 R2 fr2 nd2 => ?_⟩
    rw [chunks_map] at R2
    have f02 := s2 _ _ (s1 _ _ (upd_same (H := H) (a := f0) (o := .lst [])))
    have f01 := s1 _ _ (upd_same (H := H) (a := f0) (o := .lst []))
    have q2f : q2 ≠ f0 := (ne_of_none f01 n2).symm
    have sH2 : Same H H2 := (same_upd nf0).trans (s1.trans s2)
    have R12 := R1.same s2
    have dsl : ds.length = (chunks (chunks xs 56) (g + 1)).length := by rw [R2.1, List.length_map, chunks_len, chunks_len, hrs, hcl]
    have hcells : ∀ c ∈ chunks xs 56, c.length = 56 ∧ AreBits c := fun c m => ⟨chunks_even (by decide) (by omega) m, fun x mx => hb x (chunks_mem m x mx)⟩
    refine ⟨q2, rfl, ⟨_, .inl (.inl e2)⟩, for_list (K := K) (a := q2) (xs := ds.map V.ref) (fun i σ H3 => ∃ v3, σ = [some (.ref p), some (.int g), some (.ref f0), v3, none, none, none, none] ∧ Up f0 H2 H3 ∧ ∃ us, H3 f0 = some (.lst us) ∧ OLs (· ≠ f0) H3 us (((chunks (chunks xs 56) (g + 1)).take i).map openG).flatten) ⟨_, rfl, Up.refl _ _, [], f02, ols_nil⟩ (fun _ _ _ _ ⟨_, _, u, _⟩ => .inl (.inl (u _ _ q2f e2))) ?_ ?_⟩
    · rintro i x σ H3 hx ⟨v3, rfl, u3, us, e3, o3⟩
      rw [List.getElem?_map] at hx
      obtain ⟨d, hd, rfl⟩ := Option.map_eq_some_iff.mp hx
      obtain ⟨l0, f1, f2⟩ := R2.2 i d hd
      rw [List.getElem?_map] at f1
      obtain ⟨rb, hrb, rfl⟩ := Option.map_eq_some_iff.mp f1
      have hil := (List.getElem?_eq_some_iff.mp hd).1
      obtain ⟨cb, hcb⟩ : ∃ cb, (chunks (chunks xs 56) (g + 1))[i]? = some cb := ⟨_, List.getElem?_eq_getElem (by omega)⟩
      have Rb : Rws H2 rb (cb.map (·.map V.int)) := by
        rw [chunks_get hrb, chunks_get hcb, List.map_take, List.map_drop]
        exact R12.chunk _ _
      have mcb := List.mem_of_getElem? hcb
      obtain ⟨cbn, cbl⟩ := chunks_ne (Nat.succ_pos g) mcb
      have cb2 := chunks_ge2 (n := g + 1) (by omega) _ (chunks xs 56) (Nat.le_refl _) (by rw [hcl]; exact h3) cb mcb
      have dne : d ≠ f0 := fun z => by
        have := (fr2 d (List.mem_of_getElem? hd)).1
        rw [z, f01] at this
        cases this
      have rbn : ∀ r ∈ rb, r ≠ f0 := fun r mr z => by
        have := (fr1 r (chunks_mem (List.mem_of_getElem? hrb) r mr)).1
        rw [z, upd_same] at this
        cases this
      have Rb3 : Rws H3 rb (cb.map (·.map V.int)) := ⟨Rb.1, fun j r e => by
        obtain ⟨l, g1, g2⟩ := Rb.2 j r e
        exact ⟨l, g1, u3 _ _ (rbn r (List.mem_of_getElem? e)) g2⟩⟩
      walk_at "ev"
      refine ⟨.inl ⟨rfl, _, .inl (.inl e3)⟩, ?_⟩
      walk_at "ev"
      refine ⟨d, rb, cb, rfl, u3 _ _ dne f2, Rb3, cb2, by omega, fun c mc => hcells c (chunks_mem mcb c mc), fun p4 us4 H4 n4 s4 e4 o4 => ?_⟩
      have hz : us.length + us4.length ≤ 1000 := by
        have h4 := openG_le cb
        have h5 := Nat.le_trans (opens_le ((chunks (chunks xs 56) (g + 1)).take i)) (flat_take_le (chunks (chunks xs 56) (g + 1)) i)
        rw [chunks_flat (Nat.succ_pos g) _ (chunks xs 56) (Nat.le_refl _), hcl] at h5
        rw [o3.1, o4.1]
        omega
      have p4f : p4 ≠ f0 := (ne_of_none e3 n4).symm
      refine ⟨f0, p4, us, us4, rfl, rfl, s4 _ _ e3, e4, Nat.le_of_lt (small1000 hz), ?_⟩
      refine ⟨_, rfl, fun b o n e => ?_, us ++ us4, upd_same, ?_⟩
      · show upd _ _ _ b = _
        rw [upd_ne n]
        exact s4 _ _ (u3 _ _ n e)
      · rw [← take_snoc hcb, List.map_append, List.flatten_append]
        have e : ([cb].map openG).flatten = openG cb := by simp
        rw [e]
        exact ((o3.same s4).app (o4.up fun b o n e => ⟨(fun z => by (rw [z, e3] at n; cases n)), e⟩)).grow fun _ n => n
    · rintro σ H3 ⟨v3, rfl, u3, us, e3, o3⟩
      rw [List.length_map, dsl, List.take_length] at o3
      replace o3 : OLs (· ≠ f0) H3 us (opensL xs g) := o3
      have sH3 : Same H H3 := fun b o e => u3 _ _ (ne_of_none e nf0) (sH2 _ _ e)
      have hos := opensL_load (g := g) hcells
      have hul : us.length ≤ 1000 := by
        have h5 := opens_le (chunks (chunks xs 56) (g + 1))
        rw [chunks_flat (Nat.succ_pos g) _ (chunks xs 56) (Nat.le_refl _), hcl] at h5
        rw [o3.1]
        unfold opensL
        omega
      generalize opensL xs g = os at *
      walk_at "ev"
      rcases ho with ⟨h0, q⟩ | ⟨l, h0, ho⟩
      · obtain ⟨v, hv⟩ : ∃ v, us[0]? = some v := ⟨_, List.getElem?_eq_getElem (by rw [o3.1]; exact (List.getElem?_eq_some_iff.mp h0).1)⟩
        obtain rfl : v = .non := by
          rcases o3.2 0 v hv with ⟨_, e⟩ | ⟨_, _, e, _⟩
          · exact e
          · rw [h0] at e
            cases e
        refine ⟨f0, us, _, _, rfl, rfl, .inl (.inl e3), at_of (j := 0) (by decide) hv, ?_⟩
        walk_at "ev"
        exact q H3 sH3
      · obtain ⟨v, hv⟩ : ∃ v, us[0]? = some v := ⟨_, List.getElem?_eq_getElem (by rw [o3.1]; exact (List.getElem?_eq_some_iff.mp h0).1)⟩
        obtain ⟨r0, rfl, hr0⟩ : ∃ r0 : Addr, v = .ref r0 ∧ H3 r0 = some (.lst (l.map V.int)) := by
          rcases o3.2 0 v hv with ⟨e, _⟩ | ⟨r0, l2, e, e2, _, e3⟩
          · rw [h0] at e
            cases e
          · rw [h0] at e
            cases e
            exact ⟨r0, e2, e3⟩
        have hlo := hos l (List.mem_of_getElem? h0)
        refine ⟨f0, us, _, _, rfl, rfl, .inl (.inl e3), at_of (j := 0) (by decide) hv, ?_⟩
        walk_at "ev"
        rcases ho with ⟨hbad, x⟩ | ⟨c, s, hrd, hc, hn, ho⟩
        · exact ⟨f0, us, r0, l, rfl, e3, hv, hr0, hlo, .inr ⟨by rw [o3.1]; exact hbad, fun H' s' => x H' (sH3.trans s')⟩⟩
        refine ⟨f0, us, r0, l, rfl, e3, hv, hr0, hlo, .inl ⟨c, s, hrd, hc, by rw [o3.1]; exact hn, fun q5 H5 n5 s5 e5 => ?_⟩⟩
        walk_at "ev"
        refine ⟨by show 0 ≤ sizeLine; decide, fun f6 nf6 => ?_⟩
        have s35 := s5.trans (same_upd (o := .lst []) nf6)
        have o5 := o3.same s35
        have e35 := s35 _ _ e3
        have e6 : upd H5 f6 (.lst []) f6 = some (.lst []) := upd_same
        have f06 : f0 ≠ f6 := ne_of_none (s5 _ _ e3) nf6
        have nf6H : H f6 = none := (sH3.trans s5).free nf6
        have sH6 := sH3.trans s35
        have orf : ∀ (r : Addr) (l : List Int), upd H5 f6 (.lst []) r = some (.lst (l.map V.int)) → l ≠ [] → r ≠ f6 := fun r l e nl z => by
          rw [z, e6] at e
          cases l with
          | nil => exact nl rfl
          | cons a l => cases e
        generalize upd H5 f6 (.lst []) = H6 at *
        have hfl := flatO_len hos
        walk_at "ev"
        refine ⟨⟨_, .inl (.inl e35)⟩, for_list (K := K) (a := f0) (xs := us) (fun i σ H7 => ∃ v7, σ = [some (.ref p), some (.int g), some (.ref f0), v3, some (.int s), some (.int ((s : Int) + c)), some (.ref f6), v7] ∧ Up f6 H6 H7 ∧ H7 f6 = some (.lst (flatO (os.take i)))) ⟨_, rfl, Up.refl _ _, e6⟩ (fun _ _ _ _ ⟨_, _, u, _⟩ => .inl (.inl (u _ _ f06 e35))) ?_ ?_⟩
        · rintro i x σ H7 hx ⟨v7, rfl, u7, e7⟩
          have hl7 : (flatO (os.take i)).length ≤ 48 * 1000 := by
            rw [flatO_len fun l m => hos l (List.mem_of_mem_take m), List.length_take]
            refine Nat.mul_le_mul_left _ (Nat.le_trans (Nat.min_le_right _ _) ?_)
            rw [← o5.1]
            exact hul
          rcases o5.2 i x hx with ⟨h1, rfl⟩ | ⟨r, l, h1, rfl, nr, h2⟩
          · rw [← take_snoc h1, flatO_snoc]
            walk_at "ev"
            refine ⟨.inl ⟨rfl, _, .inl (.inl e7)⟩, ?_⟩
            walk_at "ev"
            refine ⟨by show 1 ≤ sizeLine; decide, fun z nz => ?_⟩
            walk_at "ev"
            refine ⟨z, _, _, rfl, rfl, upd_same, by decide, by decide, by show 1 * 48 ≤ _; exact Nat.le_of_lt (small1000 (by decide)), fun r nr => ?_⟩
            rw [flat_rep]
            have rf6 : r ≠ f6 := (ne_of_none (new_at e7 nz) nr).symm
            refine ⟨f6, r, _, _, rfl, rfl, new_at (new_at e7 nz) nr, upd_same, Nat.le_of_lt (small_m (by rw [List.length_replicate]; show _ + 48 < _; omega)), ?_⟩
            refine ⟨_, rfl, fun b o n e => ?_, upd_same⟩
            show upd _ _ _ b = _
            rw [upd_ne n]
            exact new_at (new_at (u7 _ _ n e) nz) nr
          · rw [← take_snoc h1, flatO_snoc]
            have hlo2 := hos l (List.mem_of_getElem? h1)
            have rf6 := orf r l h2 (fun z => by have := hlo2.1; rw [z] at this; cases this)
            walk_at "ev"
            refine ⟨.inl ⟨rfl, _, .inl (.inl e7)⟩, ?_⟩
            walk_at "ev"
            refine ⟨f6, r, _, _, rfl, rfl, e7, u7 _ _ rf6 h2, Nat.le_of_lt (small_m (by rw [List.length_map, hlo2.1]; omega)), ?_⟩
            refine ⟨_, rfl, fun b o n e => ?_, upd_same⟩
            show upd _ _ _ b = _
            rw [upd_ne n]
            exact u7 _ _ n e
        · rintro σ H7 ⟨v7, rfl, u7, e7⟩
          rw [o5.1, List.take_length] at e7
          walk_at "ev"
          have hsc : s + c ≤ (flatO os).length := by omega
          refine ⟨f6, _, rfl, .inl (.inl e7), fun p8 n8 => ?_⟩
          rw [cut_drop (k := s + c) (by omega) hsc]
          refine ⟨p8, _, rfl, .inl (.inl (.inl upd_same)), rfl, ?_, ?_⟩
          · rw [List.all_eq_true]
            exact fun z mz => List.all_eq_true.mp (flatO_flat os) z (List.mem_of_mem_drop mz)
          have sH7 : Same H H7 := fun b o e => u7 _ _ (ne_of_none e nf6H) (sH6 _ _ e)
          rcases ho with ⟨hf, q⟩ | ⟨hf, x⟩
          · rw [hf]
            walk_at "ev"
            refine ⟨f6, _, rfl, .inl (.inl (new_at e7 n8)), fun p9 n9 => ?_⟩
            rw [cut_int (i := s) (k := s + c) rfl (by omega) (by omega) hsc, show s + c - s = c by omega]
            exact q _ ((sH7.trans (same_upd n8)).trans (same_upd n9)) p9 ((sH7.trans (same_upd n8)).free n9) upd_same
          · rw [hf]
            walk_at "ev"
            exact x _ (sH7.trans (same_upd n8))
/-- good, told or refused -/
def spGood2 (B O C : Addr) : Sp := fun vs H Q E => ∃ (p : Addr) (g : Int), vs = [.ref p, .int g] ∧ (RefC B O C H p g E ∨ ∃ (xs : List Int) (m g' : Nat), g = g' ∧ H p = some (.lst (xs.map V.int)) ∧ AreBits xs ∧ xs.length = 56 * m ∧ 1 ≤ m ∧ m ≤ 1000 ∧ 1 ≤ g' ∧ g' ≤ 8 ∧ m % (g' + 1) ≠ 1 ∧ ∀ (q : Addr) (H' : Hp), H q = none → Same H H' → H' q = some (.lst (((chunks xs 56).map goodC).map V.bl)) → Q (.ref q) H')
theorem ok_good2 {f B O C f1 : Addr} {fd fd1 : FuncData} {k : Nat} (F : Fun K "good" "good" s_good f fd) (CN : Con mg t1 t2 t3 t4 t5)
    (G_check_cells : FnOk P w K mg base (L2.CX P w) 3 f1 fd1 ["protected", "group"] (spCells2 B O C)) (g_check_cells : mg "check_cells" = some (.ref f1)) (k_check_cells : PySem.W.keepIn K (.ref f1) = true) (b_check_cells : Binds K fd1 ["protected", "group"] [])
    (c_parts_of : C8.Cal P w K mg base 1 "parts_of" spParts []) (c_is_good : C8.Cal P w K mg base 3 "is_good" spIsGood []) : FnOk P w K mg base (L2.CX P w) (k + 4) f fd ["protected", "group"] (spGood2 B O C) := by
  refine F.okX sc_good (fun vs H Q E h => ?_) (fun cdv A outer s H vs Q E hr h => ?_)
  · obtain ⟨p, g, rfl, _⟩ := h
    rfl
  · obtain ⟨p, g, rfl, h⟩ := h
    refine ⟨_, (pss_cons (ps_expr (pe_call G_check_cells (hr.mono (by omega)) (by rfl) g_check_cells k_check_cells b_check_cells .nil (passes_call (takes_of rfl rfl rfl rfl) (fun _ _ _ _ h => h)) (pa_cons (pv 0) (pa_cons (pv 1) pa_nil))))
    (pss_one (ps_ret (pe_lc (own := [("cell", 2)]) (g := (gName 2)) (tt := tYes) rfl sc_good.nd (pi_list (C8.pe_c c_parts_of hr (by omega) (by rfl) (pa_cons (pv 0) (pa_cons (pe_glob (v := .int 56) (by rfl) CN.cell ⟨_, rfl⟩) pa_nil)))) (blkOk_by (N := ["protected", "group", "cell"]) (sc := defScope s_good) (by decide +kernel)) (fun _ _ _ _ _ => pg_name (i := 2) sc_good.nd rfl (by first | exact Or.inl rfl | exact Or.inr rfl)) (fun _ _ _ _ _ => pts_nil) (fun _ _ _ _ _ => (C8.pe_c c_is_good hr (by omega) (by rfl) (pa_cons (pv 2) pa_nil))))))), ?_⟩
    walk_at "ev"
    rcases h with h | ⟨xs, m, g, rfl, hp, hb, hl, hm, hm2, h1, h2, h3, q⟩
    · exact .inl h
    refine .inr ⟨xs, m, g, rfl, hp, hb, hl, hm, h1, h2, h3, ?_⟩
    walk_at "ev"
    refine ⟨p, _, 56, rfl, hp, by decide, by decide, by rw [List.length_map, hl]; omega, fun r rs H1 n1 s1 e1 rw1 fr1 nd1 => ?_⟩
    rw [chunks_map] at rw1
    have hlen : rs.length = (chunks xs 56).length := by rw [rw1.1, List.length_map]
    have hcl : (chunks xs 56).length ≤ 1000 := by rw [chunks_len, hl]; omega
    refine ⟨r, rfl, ⟨_, .inl (.inl e1)⟩, fun D nD => ?_⟩
    refine lc_it (walk_list (xs := rs.map V.ref)) (fun t H2 => Same H1 H2 ∧ H2 D = some (.lst ((((chunks xs 56).take t).map goodC).map V.bl))) ⟨same_upd nD, upd_same⟩ (fun _ _ _ h => .inl (.inl (h.1 _ _ e1))) ?_ ?_
    · rintro t x H2 H3 ht ⟨s2, e2⟩ ⟨rfl, hx⟩
      rw [List.length_map] at ht
      rw [List.getElem?_map] at hx
      obtain ⟨a, ha, rfl⟩ := Option.map_eq_some_iff.mp hx
      obtain ⟨l, f1, f2⟩ := rw1.2 t a ha
      rw [List.getElem?_map] at f1
      obtain ⟨c, hc, rfl⟩ := Option.map_eq_some_iff.mp f1
      have ec := chunks_get hc
      walk_at "ev"
      refine ⟨a, c, rfl, s2 _ _ f2, by rw [ec]; exact (hb.drop _).take _, ?_, fun H4 s4 => ?_⟩
      · have hb2 := (List.getElem?_eq_some_iff.mp hc).1
        rw [chunks_len, hl] at hb2
        rw [ec, List.length_take, List.length_drop, hl]
        omega
      · refine ⟨_, s4 _ _ e2, ?_, fun b o e => ?_, ?_⟩
        · rw [List.length_map, List.length_map, List.length_take]
          exact Nat.lt_of_le_of_lt (Nat.min_le_left _ _) (small1000 (by omega))
        · rw [upd_ne (ne_of_none e nD)]
          exact s4 _ _ (s2 b o e)
        · rw [upd_same, ← take_snoc hc, List.map_append, List.map_append]
          rfl
    · rintro H2 ⟨s2, e2⟩
      rw [List.length_map, hlen, List.take_length] at e2
      exact q D H2 (s1.free nD) (s1.trans s2) e2
/-! ### what is heard: a lambda handed to a def -/
def heardTT (B O C : Addr) : (XK → Hp → VK → Prop) → Hp → VK → Prop := fun tl H Q =>
  tl (fun cls d H' => (cls = .ref B ∧ d = none ∧ Q (.str "bits") H') ∨ (cls = .ref O ∧ d = none ∧ Q (.str "outside") H') ∨ (cls = .ref C ∧ d = none ∧ Q (.str "cells") H')) H (fun v H1 => Q (.str "let") H1)
structure HeardD (K : PySem.W.Frag) (mg : Str → Option Value) (g B O C N : Addr) : Prop where
  eB : ECls K mg "BadBits" B
  eO : ECls K mg "Outside" O
  eC : ECls K mg "BadCells" C
  gN : mg "NarrowError" = some (.ref N)
  xOB : PySem.W.exmOne K (.ref O) (.ref B) = some false
  xCB : PySem.W.exmOne K (.ref C) (.ref B) = some false
  xCO : PySem.W.exmOne K (.ref C) (.ref O) = some false
  hm : mg "_law_heard" = some (.ref g)
  hk : PySem.W.keepIn K (.ref g) = true
  df : ∃ (oc kV doc pm cdv ct : Value) (an od : Option Addr) (osl : Array (Option Value)), K.lookup g = some ⟨oc, od, .func (PySem.W.fnOf "_law_heard" "_law_heard" (defArgs s_law_heard) (defBody s_law_heard) (defScope s_law_heard) .none kV doc pm an cdv ct), osl⟩ ∧
    PySem.W.codeIn K cdv "_law_heard" = true ∧ L2.Binds K (PySem.W.fnOf "_law_heard" "_law_heard" (defArgs s_law_heard) (defBody s_law_heard) (defScope s_law_heard) .none kV doc pm an cdv ct) ["_law_call"] []
theorem heard_gives {X : Cx} {g B O C N : Addr} {cdg : Value} {q : Str} (e : HeardD X.K X.mg g B O C N) : LamX.GivesTo X ["_law_call"] "_law_heard" (defScope s_law_heard) g cdg (defBody s_law_heard) "_law_call" q (heardTT B O C) := by
  intro f c' s H Q tl act hc h
  refine ⟨_, pss_cons (ps_try_many (X := (cxOf C8.CX0 X.prog X.w X.K X.mg X.base ["_law_call"] "_law_heard" (defScope s_law_heard) g cdg X.A X.stack s H C8.E0).nox) rfl rfl takes0
      (fun W pn xe tk _ => pss_ex (n := 1) fun E hW => pss_one (ps_expr (act _ pn xe E _ _ (takes_len tk) hW)))
      (.cons ⟨rfl, by decide, .inl e.eB.gC⟩ (fun a oe cls d pn _ _ => pss_one (ps_ret pe_str))
        (.cons ⟨rfl, by decide, .inl e.eO.gC⟩ (fun a oe cls d pn _ _ => pss_one (ps_ret pe_str))
          (.cons ⟨rfl, by decide, .inl e.eC.gC⟩ (fun a oe cls d pn _ _ => pss_one (ps_ret pe_str))
            (.cons ⟨rfl, by decide, .inl e.gN⟩ (fun a oe cls d pn _ _ => pss_one (ps_ret pe_str)) .nil)))))
    (pss_one (ps_ret pe_str)), ?_⟩
  refine ⟨fun cls d H' => (cls = .ref B ∧ d = none ∧ Q (.str "bits") H') ∨ (cls = .ref O ∧ d = none ∧ Q (.str "outside") H') ∨ (cls = .ref C ∧ d = none ∧ Q (.str "cells") H'), ?_, ?_⟩
  · rintro cls d σ' H' (⟨rfl, rfl, k⟩ | ⟨rfl, rfl, k⟩ | ⟨rfl, rfl, k⟩) hlen
    · refine ⟨true, e.eB.em, fun _ a0 _ => ?_, fun z => nomatch z⟩
      walk_at "ev"
      exact k
    · refine ⟨false, e.xOB, (fun z => nomatch z), fun _ => ⟨true, e.eO.em, fun _ a0 _ => ?_, fun z => nomatch z⟩⟩
      walk_at "ev"
      exact k
    · refine ⟨false, e.xCB, (fun z => nomatch z), fun _ => ⟨false, e.xCO, (fun z => nomatch z), fun _ => ⟨true, e.eC.em, fun _ a0 _ => ?_, fun z => nomatch z⟩⟩⟩
      walk_at "ev"
      exact k
  · walk_at "ev"
    refine ⟨hc, vk_mono (fun v H1 => ⟨fun k => ?_, fun k => ?_⟩) h⟩
    · walk_at "ev"
      exact k
    · exact k
/-- _law_heard(lambda: body) -/
theorem pe_heard {X : Cx} {T : List (Addr × Str)} {g B O C N c P : Addr} {k : Nat} {params : Arguments} {body : Expr} {scope : Scope} {t : XK → TE} {p lpos pos : Pos} (D : HeardD X.K X.mg g B O C N) (hg : Gl X "_law_heard")
    (TB : LamX.TabB X.base X.mg c P) (hcode : X.env.code = .ref c) (hmT : (P, X.env.qual ++ "<lambda>") ∈ T) (hu : ∀ p ∈ T, p.1 = P → p.2 = X.env.qual ++ "<lambda>") (hr : Room (k + 2) X.A)
    (hbody : ∀ (A : Around) (outer : List Env) (s : Shared) (H : Hp) (E : XK) (f c' : Addr), Room k (A.deeper (LamX.lamEnv X scope s.heap.objs.size f c')) → PE (LamX.lamCx X A outer s H E scope f c') body (t E))
    (L : LamX.LamS X.env.scope scope) (hdef : defaultsOf params X.env = ([], [])) (hbind : ∀ (q : Str) (cl : List (Str × Addr)) (pm cv ctv : Value), bindArgs (PySem.W.kla_fn "<lambda>" q params body scope cl pm cv ctv) ⟨[], []⟩ = pure []) :
    PE X (.Call (.Name "_law_heard" p) [.Lambda params body scope lpos] [] pos) (LamX.tLam T (heardTT B O C) t) := by
  obtain ⟨oc, kV, doc, pm, cdv, ct, an, od, osl, lk, hcd, hb⟩ := D.df
  exact LamX.pe_lamcall hg D.hm D.hk lk hcd hb sc_law_heard rfl (Or.inl rfl) (heard_gives D) TB hcode hmT hu hr L hdef hbind hbody
theorem rws_drop {H : Hp} {rs : List Addr} {ls : List (List V)} (h : Rws H rs ls) (n : Nat) : Rws H (rs.drop n) (ls.drop n) := ⟨by rw [List.length_drop, List.length_drop, h.1], fun i r e => by
  rw [List.getElem?_drop] at e
  obtain ⟨l, e1, e2⟩ := h.2 _ r e
  exact ⟨l, by rw [List.getElem?_drop]; exact e1, e2⟩⟩
/-- loads whose first one tells another count -/
def countedL (ls : List (List Int)) (n : Nat) : List (List Int) := (code n ++ List.replicate (48 - (code n).length) 0) :: ls.drop 1
def spCounted : Sp := fun vs H Q _ => ∃ (p : Addr) (rs : List Addr) (ls : List (List Int)) (n : Nat), vs = [.ref p, .int n] ∧ H p = some (.lst (rs.map V.ref)) ∧ Rws H rs (ls.map (·.map V.int)) ∧ 1 ≤ ls.length ∧ ls.length ≤ 400 ∧ n < 2 ^ 30 ∧ (code n).length ≤ 48 ∧ ∀ (q : Addr) (cs : List Addr) (H' : Hp), H q = none → Same H H' → H' q = some (.lst (cs.map V.ref)) → Rws H' cs ((countedL ls n).map (·.map V.int)) → Q (.ref q) H'
theorem ok_counted {f : Addr} {fd : FuncData} {k : Nat} (F : Fun K "_law_counted" "_law_counted" s_law_counted f fd) (T : Txt mg) (c_law_count : C8.Cal P w K mg base 1 "_law_count" spCountL []) : FnOk P w K mg base CX0 (k + 2) f fd ["_law_loads_here", "_law_number"] spCounted := by
  refine F.ok sc_law_counted (fun vs H Q E h => ?_) (fun cdv A outer s H vs Q E hr h => ?_)
  · obtain ⟨p, rs, ls, n, rfl, _⟩ := h
    rfl
  · obtain ⟨p, rs, ls, n, rfl, hp, hR, hl1, hln, hn, hc, q⟩ := h
    refine ⟨_, (pss_cons (ps_set (i := 2) sc_law_counted.nd rfl (Or.inl rfl) (C8.pe_c c_law_count hr (by omega) (by rfl) (pa_cons (pv 1) pa_nil)))
    (pss_one (ps_ret (pe_op op_cat (pe_lst (pa_cons (pe_op op_cat (pv 2) (pe_op op_rep (pe_lst (pa_cons pe_int pa_nil)) (pe_op op_sub pe_int (pe_callB call_len_seq (by rfl) T.z_len PySem.boot_len (pa_cons (pv 2) pa_nil))))) pa_nil)) (pe_slice sl_list (pv 0) (po_some pe_int) po_none))))), ?_⟩
    walk_at "ev"
    refine ⟨hn, fun p1 H1 n1 s1 e1 => ?_⟩
    walk_at "ev"
    refine ⟨by show 1 ≤ sizeLine; decide, fun z nz => ?_⟩
    have hL : ((List.map V.int (code n)).length : Int) = (code n).length := by rw [List.length_map]
    have s2 : Same H1 (upd H1 z (.lst [.int 0])) := same_upd nz
    have e2 : upd H1 z (.lst [.int 0]) z = some (.lst [.int 0]) := upd_same
    generalize upd H1 z (.lst [.int 0]) = H2 at *
    have e12 := s2 _ _ e1
    walk_at "ev"
    rw [hL]
    refine ⟨z, _, _, rfl, rfl, e2, by omega, by omega, ?_, fun z3 nz3 => ?_⟩
    · show 1 * _ ≤ _
      rw [Nat.one_mul]
      exact Nat.le_of_lt (small1000 (by omega))
    have hz : Int.toNat ((48 : Int) - (code n).length) = 48 - (code n).length := by omega
    rw [flat_rep, hz]
    refine ⟨p1, z3, _, _, rfl, rfl, new_at e12 nz3, upd_same, ?_, fun z4 nz4 => ?_⟩
    · rw [List.length_map, List.length_replicate]
      exact Nat.le_of_lt (small1000 (by omega))
    have e4 : upd (upd H2 z3 (.lst (List.replicate (48 - (code n).length) (V.int 0)))) z4 (.lst ((code n).map V.int ++ List.replicate (48 - (code n).length) (V.int 0))) z4 = some (.lst ((code n ++ List.replicate (48 - (code n).length) 0).map V.int)) := by
      rw [upd_same, List.map_append, List.map_replicate]
    have s4 : Same H2 (upd (upd H2 z3 (.lst (List.replicate (48 - (code n).length) (V.int 0)))) z4 (.lst ((code n).map V.int ++ List.replicate (48 - (code n).length) (V.int 0)))) := (same_upd nz3).trans (same_upd nz4)
    generalize upd (upd H2 z3 (.lst (List.replicate (48 - (code n).length) (V.int 0)))) z4 (.lst ((code n).map V.int ++ List.replicate (48 - (code n).length) (V.int 0))) = H4 at *
    have sA := s1.trans (s2.trans s4)
    walk_at "ev"
    refine ⟨by show 1 ≤ sizeLine; decide, fun z5 nz5 => ?_⟩
    have hp5 := new_at (o' := .lst [.ref z4]) (sA _ _ hp) nz5
    have e45 := new_at (o' := .lst [.ref z4]) e4 nz5
    have e5 : upd H4 z5 (.lst [.ref z4]) z5 = some (.lst [.ref z4]) := upd_same
    have s5 : Same H (upd H4 z5 (.lst [.ref z4])) := sA.trans (same_upd nz5)
    generalize upd H4 z5 (.lst [.ref z4]) = H5 at *
    walk_at "ev"
    have hrl : rs.length = ls.length := by rw [hR.1, List.length_map]
    refine ⟨p, _, rfl, .inl (.inl hp5), fun z6 nz6 => ?_⟩
    have hct : cutV (List.map V.ref rs) (some 1) none = (rs.drop 1).map V.ref := by
      rw [cut_drop (y := 1) (k := 1) rfl (by rw [List.length_map]; omega), List.map_drop]
    rw [hct]
    refine ⟨z5, z6, _, _, rfl, rfl, new_at e5 nz6, upd_same, ?_, fun z7 nz7 => ?_⟩
    · rw [List.length_map, List.length_drop]
      exact Nat.le_of_lt (small1000 (by show 1 + _ ≤ 1000; omega))
    have s7 := (same_upd (o := .lst ((rs.drop 1).map V.ref)) nz6).trans (same_upd (o := .lst ([.ref z4] ++ (rs.drop 1).map V.ref)) nz7)
    refine q z7 (z4 :: rs.drop 1) _ ((s5.trans (same_upd (o := .lst ((rs.drop 1).map V.ref)) nz6)).free nz7) (s5.trans s7) upd_same ?_
    have hcd : (countedL ls n).map (·.map V.int) = ((code n ++ List.replicate (48 - (code n).length) 0).map V.int) :: (ls.drop 1).map (·.map V.int) := rfl
    rw [hcd]
    refine Rws.cons (s7 _ _ e45) ?_
    have hd : (ls.drop 1).map (fun l : List Int => l.map V.int) = (ls.map (·.map V.int)).drop 1 := List.map_drop
    rw [hd]
    exact rws_drop (hR.same (s5.trans s7)) 1
/-! ### the tables of the makers -/
def lamOf (x : Str) : Str := x ++ (".<locals>." : Str) ++ ("<lambda>" : Str)
def tabsK (PB PO PS PF : Addr) : List (Addr × Str) := [(PB, lamOf ("_law_both" : Str)), (PO, lamOf ("_law_opened" : Str)), (PS, lamOf ("_law_sizes_right" : Str)), (PF, lamOf ("_law_fillings_right" : Str))]
/-- four tables apart -/
def Apart (PB PO PS PF : Addr) : Prop := [PB, PO, PS, PF].Nodup
theorem tabs_fn {T : List (Addr × Str)} (h : (T.map Prod.fst).Nodup) {P : Addr} {x : Str} (m : (P, x) ∈ T) : ∀ p ∈ T, p.1 = P → p.2 = x := by
  induction T with
  | nil => exact absurd m List.not_mem_nil
  | cons t T ih =>
    rw [List.map_cons, List.nodup_cons] at h
    intro p hp e
    rcases List.mem_cons.mp m with z | m
    · rcases List.mem_cons.mp hp with y | hp
      · rw [y, ← z]
      · exact absurd (List.mem_map.mpr ⟨p, hp, by rw [e, ← z]⟩) h.1
    · rcases List.mem_cons.mp hp with y | hp
      · rw [y] at e
        exact absurd (List.mem_map.mpr ⟨(P, x), m, e.symm⟩) h.1
      · exact ih h.2 m p hp e
theorem tabsK_fn {PB PO PS PF : Addr} (h : Apart PB PO PS PF) {P : Addr} {x : Str} (m : (P, x) ∈ tabsK PB PO PS PF) : ∀ p ∈ tabsK PB PO PS PF, p.1 = P → p.2 = x := tabs_fn (T := tabsK PB PO PS PF) h m
/-! ### what is heard of good and open_cells -/
def OpenLet (os : List (Option (List Int))) : Prop := os[0]? = some none ∨ ∃ l : List Int, os[0]? = some (some l) ∧ ∃ c s : Nat, readC l 0 = .read c s ∧ c ≤ 1000000 ∧ (s + c + 47) / 48 = os.length ∧ inV (.int 1) ((flatO os).drop (s + c)) = false
def OpenBad (os : List (Option (List Int))) : Prop := ∃ l : List Int, os[0]? = some (some l) ∧ (SpanBad l os.length ∨ ∃ c s : Nat, readC l 0 = .read c s ∧ c ≤ 1000000 ∧ (s + c + 47) / 48 = os.length ∧ inV (.int 1) ((flatO os).drop (s + c)) = true)
theorem OpenLet.r {C : Addr} {os : List (Option (List Int))} {H : Hp} {Q : VK} {E : XK} (h : OpenLet os) (q : ∀ H' v, Same H H' → Q v H') : OpenR C os H Q E := by
  rcases h with h | ⟨l, h0, c, s, h1, h2, h3, h4⟩
  · exact .inl ⟨h, fun H' s => q H' _ s⟩
  · exact .inr ⟨l, h0, .inr ⟨c, s, h1, h2, h3, .inl ⟨h4, fun H' s' r _ _ => q H' _ s'⟩⟩⟩
theorem OpenBad.r {C : Addr} {os : List (Option (List Int))} {H : Hp} {Q : VK} {E : XK} (h : OpenBad os) (x : ∀ H', Same H H' → E (.ref C) none H') : OpenR C os H Q E := by
  obtain ⟨l, h0, h | ⟨c, s, h1, h2, h3, h4⟩⟩ := h
  · exact .inr ⟨l, h0, .inl ⟨h, x⟩⟩
  · exact .inr ⟨l, h0, .inr ⟨c, s, h1, h2, h3, .inr ⟨h4, x⟩⟩⟩
/-- cells of a right size -/
structure Fits (H : Hp) (p : Addr) (g : Int) (xs : List Int) (m g' : Nat) : Prop where
  eg : g = g'
  at_ : H p = some (.lst (xs.map V.int))
  bits : AreBits xs
  len : xs.length = 56 * m
  m1 : 1 ≤ m
  m2 : m ≤ 800
  g1 : 1 ≤ g'
  g8 : g' ≤ 8
  cnt : m % (g' + 1) ≠ 1
theorem Fits.ext {H H' : Hp} {p : Addr} {g : Int} {xs : List Int} {m g' : Nat} (x : LamX.ExtN H H') (h : Fits H p g xs m g') : Fits H' p g xs m g' :=
  ⟨h.eg, x _ _ h.at_ (fun _ z => nomatch z), h.bits, h.len, h.m1, h.m2, h.g1, h.g8, h.cnt⟩
/-- what is refused, and the word of it -/
def RefW (H : Hp) (p : Addr) (g : Int) (wd : Str) : Prop := (wd = "bits" ∧ BadAt H p) ∨ ∃ xs : List Int, H p = some (.lst (xs.map V.int)) ∧ AreBits xs ∧ ((wd = "outside" ∧ (g < 1 ∨ 8 < g)) ∨ (wd = "cells" ∧ 1 ≤ g ∧ g ≤ 8 ∧ SizeBad xs.length g))
theorem BadV.ext {H H' : Hp} {v : V} (x : LamX.ExtN H H') (h : BadV H v) : BadV H' v := by
  cases h with
  | int z h => exact .int z h
  | non => exact .non
  | str s => exact .str s
  | lst h => exact .lst (x _ _ h (fun _ z => nomatch z))
theorem BadAt.ext {H H' : Hp} {p : Addr} (x : LamX.ExtN H H') (h : BadAt H p) : BadAt H' p := by
  obtain ⟨vs, j, v, h1, h2, h3, h4⟩ := h.ex
  exact ⟨vs, j, v, x _ _ h1 (fun _ z => nomatch z), h2, h3.ext x, h4⟩
theorem RefW.ext {H H' : Hp} {p : Addr} {g : Int} {wd : Str} (x : LamX.ExtN H H') (h : RefW H p g wd) : RefW H' p g wd := by
  rcases h with ⟨e, h⟩ | ⟨xs, h1, h2, h⟩
  · exact .inl ⟨e, h.ext x⟩
  · exact .inr ⟨xs, x _ _ h1 (fun _ z => nomatch z), h2, h⟩
theorem RefW.r {B O C : Addr} {H : Hp} {p : Addr} {g : Int} {wd : Str} {E : XK} (h : RefW H p g wd) (hB : wd = "bits" → E (.ref B) none H) (hO : wd = "outside" → E (.ref O) none H) (hC : wd = "cells" → E (.ref C) none H) : RefC B O C H p g E := by
  rcases h with ⟨e, h⟩ | ⟨xs, h1, h2, ⟨e, h⟩ | ⟨e, h3, h4, h5⟩⟩
  · exact .inl ⟨h, hB e⟩
  · exact .inr ⟨xs, h1, h2, .inl ⟨h, hO e⟩⟩
  · exact .inr ⟨xs, h1, h2, .inr ⟨h3, h4, h5, hC e⟩⟩
/-- what good is heard to say -/
def GoodW (H : Hp) (p : Addr) (g : Int) (wd : Str) : Prop := RefW H p g wd ∨ (wd = "let" ∧ ∃ (xs : List Int) (m g' : Nat), Fits H p g xs m g')
/-- what open_cells is heard to say -/
def OpenW (H : Hp) (p : Addr) (g : Int) (wd : Str) : Prop := RefW H p g wd ∨ ∃ (xs : List Int) (m g' : Nat), Fits H p g xs m g' ∧ ((wd = "let" ∧ OpenLet (opensL xs g')) ∨ (wd = "cells" ∧ OpenBad (opensL xs g')))
theorem GoodW.ext {H H' : Hp} {p : Addr} {g : Int} {wd : Str} (x : LamX.ExtN H H') (h : GoodW H p g wd) : GoodW H' p g wd := by
  rcases h with h | ⟨e, xs, m, g', h⟩
  · exact .inl (h.ext x)
  · exact .inr ⟨e, xs, m, g', h.ext x⟩
theorem OpenW.ext {H H' : Hp} {p : Addr} {g : Int} {wd : Str} (x : LamX.ExtN H H') (h : OpenW H p g wd) : OpenW H' p g wd := by
  rcases h with h | ⟨xs, m, g', h, k⟩
  · exact .inl (h.ext x)
  · exact .inr ⟨xs, m, g', h.ext x, k⟩
theorem OpenW.good {H : Hp} {p : Addr} {g : Int} {wd : Str} (h : RefW H p g wd ∨ (wd = "let" ∧ OpenW H p g wd)) : GoodW H p g wd := by
  rcases h with h | ⟨e, h | ⟨xs, m, g', h, _⟩⟩
  · exact .inl h
  · exact .inl h
  · exact .inr ⟨e, xs, m, g', h⟩
def heardE (B O C : Addr) (Q : VK) : XK := fun cls d H' => (cls = .ref B ∧ d = none ∧ Q (.str "bits") H') ∨ (cls = .ref O ∧ d = none ∧ Q (.str "outside") H') ∨ (cls = .ref C ∧ d = none ∧ Q (.str "cells") H')
theorem hear_ref {B O C : Addr} {H : Hp} {p : Addr} {g : Int} {wd : Str} {Q : VK} (h : RefW H p g wd) (q : Q (.str wd) H) : RefC B O C H p g (heardE B O C Q) :=
  h.r (fun e => .inl ⟨rfl, rfl, e ▸ q⟩) (fun e => .inr (.inl ⟨rfl, rfl, e ▸ q⟩)) (fun e => .inr (.inr ⟨rfl, rfl, e ▸ q⟩))
theorem hear_good {B O C : Addr} {H : Hp} {p : Addr} {g : Int} {wd : Str} {Q : VK} (h : GoodW H p g wd) (q : ∀ H', Same H H' → Q (.str wd) H') : RefC B O C H p g (heardE B O C Q) ∨ ∃ (xs : List Int) (m g' : Nat), g = g' ∧ H p = some (.lst (xs.map V.int)) ∧ AreBits xs ∧ xs.length = 56 * m ∧ 1 ≤ m ∧ m ≤ 1000 ∧ 1 ≤ g' ∧ g' ≤ 8 ∧ m % (g' + 1) ≠ 1 ∧ ∀ (q : Addr) (H' : Hp), H q = none → Same H H' → H' q = some (.lst (((chunks xs 56).map goodC).map V.bl)) → Q (.str "let") H' := by
  rcases h with h | ⟨rfl, xs, m, g', h⟩
  · exact .inl (hear_ref h (q H (Same.refl H)))
  · exact .inr ⟨xs, m, g', h.eg, h.at_, h.bits, h.len, h.m1, Nat.le_trans h.m2 (by decide), h.g1, h.g8, h.cnt, fun r H' _ s _ => q H' s⟩
theorem hear_open {B O C : Addr} {H : Hp} {p : Addr} {g : Int} {wd : Str} {Q : VK} (h : OpenW H p g wd) (q : ∀ H', Same H H' → Q (.str wd) H') : RefC B O C H p g (heardE B O C Q) ∨ ∃ (xs : List Int) (m g' : Nat), g = g' ∧ H p = some (.lst (xs.map V.int)) ∧ AreBits xs ∧ xs.length = 56 * m ∧ 1 ≤ m ∧ m ≤ 800 ∧ 1 ≤ g' ∧ g' ≤ 8 ∧ m % (g' + 1) ≠ 1 ∧ OpenR C (opensL xs g') H (fun _ H1 => Q (.str "let") H1) (heardE B O C Q) := by
  rcases h with h | ⟨xs, m, g', h, ⟨rfl, k⟩ | ⟨rfl, k⟩⟩
  · exact .inl (hear_ref h (q H (Same.refl H)))
  · exact .inr ⟨xs, m, g', h.eg, h.at_, h.bits, h.len, h.m1, h.m2, h.g1, h.g8, h.cnt, k.r fun H' _ s => q H' s⟩
  · exact .inr ⟨xs, m, g', h.eg, h.at_, h.bits, h.len, h.m1, h.m2, h.g1, h.g8, h.cnt, k.r fun H' s => .inr (.inr ⟨rfl, rfl, q H' s⟩)⟩
/-- what a lambda's body tells, heard -/
theorem heard_in {B O C : Addr} {tl : XK → Hp → VK → Prop} {H : Hp} {Q : VK} {wd : Str} (h : ∀ Q : VK, (∀ H', Same H H' → Q (.str wd) H') → tl (heardE B O C Q) H (fun _ H1 => Q (.str "let") H1)) (q : ∀ H', Same H H' → Q (.str wd) H') : heardTT B O C tl H Q := h Q q
def spBoth (PB PO PS PF : Addr) : Sp := fun vs H Q _ => ∃ (p : Addr) (g : Int) (wd : Str), vs = [.ref p, .int g] ∧ GoodW H p g wd ∧ OpenW H p g wd ∧ LamX.Tabs (tabsK PB PO PS PF) H ∧ ∀ (q : Addr) (H' : Hp), LamX.ExtN H H' → LamX.Tabs (tabsK PB PO PS PF) H' → H' q = some (.lst [.str wd, .str wd]) → Q (.ref q) H'
theorem ok_both {f cB PB PO PS PF gH B O C N f1 f2 : Addr} {fd fd1 fd2 : FuncData} {k : Nat} (F : FunC K "_law_both" "_law_both" s_law_both f fd cB) (D : HeardD K mg gH B O C N) (TBB : LamX.TabB base mg cB PB) (hne : Apart PB PO PS PF)
    (G_good : FnOk P w K mg base (L2.CX P w) 4 f1 fd1 ["protected", "group"] (spGood2 B O C)) (g_good : mg "good" = some (.ref f1)) (k_good : PySem.W.keepIn K (.ref f1) = true) (b_good : Binds K fd1 ["protected", "group"] [])
    (G_open_cells : FnOk P w K mg base (L2.CX P w) 5 f2 fd2 ["protected", "group"] (spOpen2 B O C)) (g_open_cells : mg "open_cells" = some (.ref f2)) (k_open_cells : PySem.W.keepIn K (.ref f2) = true) (b_open_cells : Binds K fd2 ["protected", "group"] []) :
    FnOk P w K mg base CX0 (k + 8) f fd ["_law_bits_here", "_law_group"] (spBoth PB PO PS PF) := by
  refine F.ok sc_law_both (fun vs H Q E h => ?_) (fun A outer s H vs Q E hr h => ?_)
  · obtain ⟨p, g, wd, rfl, _⟩ := h
    rfl
  · obtain ⟨p, g, wd, rfl, hG, hO, hT, q⟩ := h
    refine ⟨_, (pss_cons (ps_set (i := 2) sc_law_both.nd rfl (Or.inl rfl) (pe_heard (k := 5) D (by rfl) TBB rfl (.head _) (tabsK_fn hne (.head _)) (hr.mono (by omega)) (fun A outer s H E f c' hr2 => (pe_call G_good (hr2.mono (by omega)) (by rfl) g_good k_good b_good .nil (passes_call (takes_of rfl rfl rfl rfl) (fun _ _ _ _ h => h)) (pa_cons (pv 0) (pa_cons (pv 1) pa_nil)))) (LamX.lamS_by (by show LamX.lamSB (defScope s_law_both) _ = true; decide +kernel)) rfl (fun _ _ _ _ _ => rfl)))
    (pss_one (ps_ret (pe_lst (pa_cons (pv 2) (pa_cons (pe_heard (k := 5) D (by rfl) TBB rfl (.head _) (tabsK_fn hne (.head _)) (hr.mono (by omega)) (fun A outer s H E f c' hr2 => (pe_call G_open_cells (hr2.mono (by omega)) (by rfl) g_open_cells k_open_cells b_open_cells .nil (passes_call (takes_of rfl rfl rfl rfl) (fun _ _ _ _ h => h)) (pa_cons (pv 0) (pa_cons (pv 1) pa_nil)))) (LamX.lamS_by (by show LamX.lamSB (defScope s_law_both) _ = true; decide +kernel)) rfl (fun _ _ _ _ _ => rfl)) pa_nil)))))), ?_⟩
    walk_at "ev"
    refine ⟨hT, fun H1 x1 t1 => ?_⟩
    have hG1 := hG.ext x1
    have hO1 := hO.ext x1
    refine heard_in (wd := wd) (fun Q' hq => ?_) fun H2 s2 => ?_
    · walk_at "ev"
      exact hear_good hG1 hq
    walk_at "ev"
    have t2 := tabs_same t1 s2
    refine ⟨t2, fun H3 x3 t3 => ?_⟩
    refine heard_in (wd := wd) (fun Q' hq => ?_) fun H4 s4 => ?_
    · walk_at "ev"
      exact hear_open ((hO1.ext (ext_same s2)).ext x3) hq
    walk_at "ev"
    refine ⟨by show 2 ≤ sizeLine; decide, fun z nz => ?_⟩
    have xA : LamX.ExtN H H4 := x1.trans ((ext_same s2).trans (x3.trans (ext_same s4)))
    exact q z _ (xA.trans (ext_same (same_upd nz))) (tabs_same (tabs_same t3 s4) (same_upd nz)) upd_same
/-! ### loads, their cells opened: what is heard -/
theorem tC_in {v : V} {σ : L2.St} {H : Hp} {Q : VK} (h : Q v H) : tC v σ H Q := h
theorem rep_one (m : Nat) (x : Int) : (List.replicate m [V.int x]).flatten = (List.replicate m x).map V.int := by rw [flat_rep, List.map_replicate]
theorem atI_end {xs : List V} {v : V} {n : Nat} (hn : xs.length = n + 1) (h : xs.getLast? = some v) : atI xs (-1) = some v := by
  have h2 : xs[n]? = some v := by
    rw [List.getLast?_eq_getElem?, hn] at h
    exact h
  have e : ixN xs.length (-1) = some n := by
    unfold ixN
    rw [if_neg (by decide), if_pos (by omega)]
    congr 1
    omega
  unfold atI
  rw [e]
  exact h2
theorem fits_loads {H : Hp} {p : Addr} {ls : List (List Int)} {g : Nat} (hp : H p = some (.lst ((protL ls g).map V.int))) (hl : ∀ l ∈ ls, IsLoad l) (hn : ls ≠ []) (hm : ls.length ≤ 400) (h1 : 1 ≤ g) (h2 : g ≤ 8) : Fits H p g (protL ls g) (cellsL ls g).length g :=
  ⟨rfl, hp, prot_bits hl, prot_len hl, cells_one h1 hn, Nat.le_trans (cells_few h1) (by omega), h1, h2, cells_count h1⟩
def spOpenedL (PB PO PS PF : Addr) : Sp := fun vs H Q _ => ∃ (p : Addr) (rs : List Addr) (ls : List (List Int)) (g : Nat) (wd : Str), vs = [.ref p, .int g] ∧ H p = some (.lst (rs.map V.ref)) ∧ Rws H rs (ls.map (·.map V.int)) ∧ (∀ l ∈ ls, IsLoad l) ∧ ls ≠ [] ∧ ls.length ≤ 400 ∧ 1 ≤ g ∧ g ≤ 8 ∧ ((wd = "let" ∧ OpenLet (ls.map some)) ∨ (wd = "cells" ∧ OpenBad (ls.map some))) ∧ LamX.Tabs (tabsK PB PO PS PF) H ∧ ∀ H', LamX.ExtN H H' → LamX.Tabs (tabsK PB PO PS PF) H' → Q (.str wd) H'
theorem ok_openedL {f cO PB PO PS PF gH B O C N f2 : Addr} {fd fd2 : FuncData} {k : Nat} (F : FunC K "_law_opened" "_law_opened" s_law_opened f fd cO) (D : HeardD K mg gH B O C N) (TBO : LamX.TabB base mg cO PO) (hne : Apart PB PO PS PF)
    (G_open_cells : FnOk P w K mg base (L2.CX P w) 5 f2 fd2 ["protected", "group"] (spOpen2 B O C)) (g_open_cells : mg "open_cells" = some (.ref f2)) (k_open_cells : PySem.W.keepIn K (.ref f2) = true) (b_open_cells : Binds K fd2 ["protected", "group"] [])
    (c_law_cells : C8.Cal P w K mg base 2 "_law_cells" spCellsL []) (c_law_joined : C8.Cal P w K mg base 1 "_law_joined" spJoinL []) :
    FnOk P w K mg base CX0 (k + 8) f fd ["_law_loads_here", "_law_group"] (spOpenedL PB PO PS PF) := by
  refine F.ok sc_law_opened (fun vs H Q E h => ?_) (fun A outer s H vs Q E hr h => ?_)
  · obtain ⟨p, rs, ls, g, wd, rfl, _⟩ := h
    rfl
  · obtain ⟨p, rs, ls, g, wd, rfl, hp, hR, hl, hn, hm, h1, h2, hw, hT, q⟩ := h
    refine ⟨_, (pss_cons (ps_set (i := 2) sc_law_opened.nd rfl (Or.inr rfl) (C8.pe_c c_law_joined hr (by omega) (by rfl) (pa_cons (C8.pe_c c_law_cells hr (by omega) (by rfl) (pa_cons (pv 0) (pa_cons (pv 1) pa_nil))) pa_nil)))
    (pss_one (ps_ret (pe_heard (k := 5) D (by rfl) TBO rfl (.tail _ (.head _)) (tabsK_fn hne (.tail _ (.head _))) (hr.mono (by omega)) (fun A outer s H E f c' hr2 => (pe_call G_open_cells (hr2.mono (by omega)) (by rfl) g_open_cells k_open_cells b_open_cells .nil (passes_call (takes_of rfl rfl rfl rfl) (fun _ _ _ _ h => h)) (pa_cons (pv 2) (pa_cons (pv 1) pa_nil)))) (LamX.lamS_by (by show LamX.lamSB (defScope s_law_opened) _ = true; decide +kernel)) rfl (fun _ _ _ _ _ => rfl))))), ?_⟩
    walk_at "ev"
    refine ⟨p, rs, ls, g, rfl, hp, hR, hm, h1, h2, hl, fun c1 cs H1 n1 s1 e1 R1 _ => ?_⟩
    refine ⟨c1, cs, cellsL ls g, rfl, e1, R1, ?_, fun c2 H2 n2 s2 e2 => ?_⟩
    · have := prot_len (g := g) hl
      have h3 := cells_few (ls := ls) (g := g) h1
      show (protL ls g).length ≤ _
      omega
    walk_at "ev"
    refine ⟨tabs_same (tabs_same hT s1) s2, fun H3 x3 t3 => ?_⟩
    have x2 : LamX.ExtN H H3 := (ext_same (s1.trans s2)).trans x3
    have hO : OpenW H3 c2 g wd := by
      refine .inr ⟨protL ls g, _, g, (fits_loads e2 hl hn hm h1 h2).ext x3, ?_⟩
      rw [opens_prot h1 hl]
      exact hw
    refine heard_in (wd := wd) (fun Q' hq => ?_) fun H4 s4 => ?_
    · walk_at "ev"
      exact hear_open hO hq
    walk_at "ev"
    exact q H4 (x2.trans (ext_same s4)) (tabs_same t3 s4)
/-! ### which counts fit -/
def zeroL : List Int := List.replicate 48 0
theorem zeroL_load : IsLoad zeroL := ⟨List.length_replicate, AreBits.zeros 48⟩
theorem count_read {n : Nat} {B : List Int} (h : n + 1 < 2 ^ 41) : readC (code n ++ B) 0 = .read n (code n).length := by
  have := read_code (A := []) (B := B) (c := n) h
  rw [List.length_nil, Nat.zero_add] at this
  exact this
def fitN (m n : Nat) : Bool := (n + (code n).length + 47) / 48 == m
def fitsN (m lo t : Nat) : List Nat := ((List.range t).map (lo + ·)).filter (fitN m)
theorem fits_snoc {m lo t : Nat} : fitsN m lo (t + 1) = fitsN m lo t ++ if fitN m (lo + t) = true then [lo + t] else [] := by
  unfold fitsN
  rw [List.range_succ, List.map_append, List.filter_append]
  congr 1
  show List.filter (fitN m) [lo + t] = _
  rw [List.filter_cons]
  rfl
theorem fits_len {m lo t : Nat} : (fitsN m lo t).length ≤ t := by
  unfold fitsN
  exact Nat.le_trans (List.length_filter_le _ _) (by rw [List.length_map, List.length_range]; exact Nat.le_refl _)
def fitsOk (m : Nat) : Bool :=
  match (fitsN m (48 * m - 90) (48 * m - (48 * m - 90)))[0]?, (fitsN m (48 * m - 90) (48 * m - (48 * m - 90))).getLast? with
  | some a, some b => fitN m a && fitN m b && !fitN m (b + 1) && (a == 0 || !fitN m (a - 1)) && decide (a ≤ 48 * m) && decide (b ≤ 48 * m) && !fitN m 1000000
  | _, _ => false
theorem fits_ok : ∀ m, m < 12 → 1 ≤ m → fitsOk m = true := by decide +kernel
theorem fits_ends {m : Nat} (h : m < 12) (h1 : 1 ≤ m) : ∃ a b, (fitsN m (48 * m - 90) (48 * m - (48 * m - 90)))[0]? = some a ∧ (fitsN m (48 * m - 90) (48 * m - (48 * m - 90))).getLast? = some b ∧ fitN m a = true ∧ fitN m b = true ∧ fitN m (b + 1) = false ∧ (a = 0 ∨ fitN m (a - 1) = false) ∧ a ≤ 48 * m ∧ b ≤ 48 * m ∧ fitN m 1000000 = false := by
  have k := fits_ok m h h1
  unfold fitsOk at k
  split at k
  · rename_i a b e1 e2
    simp only [Bool.and_eq_true, Bool.or_eq_true, Bool.not_eq_true', beq_iff_eq, decide_eq_true_eq] at k
    obtain ⟨⟨⟨⟨⟨⟨k1, k2⟩, k3⟩, k4⟩, k5⟩, k6⟩, k7⟩ := k
    exact ⟨a, b, e1, e2, k1, k2, k3, k4, k5, k6, k7⟩
  · cases k
/-- a load that tells a count, noughts behind it -/
def cntL (n : Nat) : List Int := code n ++ List.replicate (48 - (code n).length) 0
theorem cntL_load {n : Nat} (h : (code n).length ≤ 48) : IsLoad (cntL n) := ⟨by unfold cntL; rw [List.length_append, List.length_replicate]; omega, (code_bits n).app (AreBits.zeros _)⟩
theorem zeros_mem {k : Nat} {ls : List (List Int)} (h : ∀ l ∈ ls, l = zeroL) : ∀ x ∈ List.replicate k (0 : Int) ++ ls.flatten, x = 0 := fun x m => by
  rcases List.mem_append.mp m with m | m
  · exact (List.mem_replicate.mp m).2
  · obtain ⟨l, ml, mx⟩ := List.mem_flatten.mp m
    rw [h l ml] at mx
    exact (List.mem_replicate.mp mx).2
theorem cnt_let {n m : Nat} {ls : List (List Int)} (hn : n ≤ 1000000) (hz : ∀ l ∈ ls, l = zeroL) (hm : ls.length + 1 = m) (hf : fitN m n = true) : OpenLet ((cntL n :: ls).map some) := by
  have hf2 : (n + (code n).length + 47) / 48 = m := beq_iff_eq.mp hf
  refine .inr ⟨cntL n, rfl, n, (code n).length, count_read (by omega), by omega, ?_, ?_⟩
  · rw [List.length_map, List.length_cons, hm, Nat.add_comm (code n).length n, hf2]
  · rw [flatO_some, List.flatten_cons, ← List.map_drop, inV_ints]
    refine decide_eq_false fun mm => ?_
    unfold cntL at mm
    rw [List.append_assoc, ← List.drop_drop, List.drop_left' rfl] at mm
    have := zeros_mem hz _ (List.mem_of_mem_drop mm)
    omega
theorem cnt_bad {n m : Nat} {ls : List (List Int)} (hn : n + 1 < 2 ^ 41) (hm : ls.length + 1 = m) (hf : fitN m n = false) : OpenBad ((cntL n :: ls).map some) := by
  have hf2 : ¬ (n + (code n).length + 47) / 48 = m := fun z => by
    unfold fitN at hf
    rw [z] at hf
    simp at hf
  refine ⟨cntL n, rfl, .inl ?_⟩
  unfold SpanBad
  rw [show readC (cntL n) 0 = .read n (code n).length from count_read hn]
  refine .inr fun z => hf2 ?_
  rw [List.length_map, List.length_cons, hm] at z
  omega
theorem load_bad {l : List Int} {ls : List (List Int)} (h : SpanBad l (ls.length + 1)) : OpenBad ((l :: ls).map some) := ⟨l, rfl, .inl (by rw [List.length_map]; exact h)⟩
theorem bad_1 (n : Nat) : SpanBad (List.replicate 20 0 ++ List.replicate 28 1) n := by
  have e : readC (List.replicate 20 0 ++ List.replicate 28 1) 0 = .read 2097150 41 := by rfl
  unfold SpanBad
  rw [e]
  exact .inl (by decide)
theorem bad_2 (n : Nat) : SpanBad (List.replicate 48 0) n := by
  have e : readC (List.replicate 48 0) 0 = .long := by rfl
  unfold SpanBad
  rw [e]
  trivial
theorem bad_3 (n : Nat) : SpanBad (code 1000001 ++ List.replicate 9 0) n := by
  unfold SpanBad
  rw [count_read (by decide)]
  exact .inl (by decide)
theorem code_39 : (code 1000001).length = 39 := by decide +kernel
theorem code_lt {n : Nat} (h : n < 2 ^ 20) : (code n).length ≤ 41 := by
  have h1 := code_len n
  have h2 : bl (n + 1) ≤ 21 := bl_le (by omega)
  omega
/-! ### fillings -/
/-- the bits that the loads are filled with -/
def fillN (xs : List Int) : Nat := (48 - (code xs.length ++ xs).length % 48) % 48
theorem fillL_eq (xs : List Int) : fillL xs = code xs.length ++ xs ++ List.replicate (fillN xs) 0 := rfl
theorem last_split {ls : List (List Int)} (hl : ∀ l ∈ ls, l.length = 48) (hn : ls ≠ []) {A B : List Int} (h : ls.flatten = A ++ B) (hB : B.length ≤ 48) : ∃ A', ls.getLast hn = A' ++ B ∧ A'.length = 48 - B.length ∧ ls.dropLast.flatten ++ A' = A := by
  have e := List.dropLast_concat_getLast hn
  have h2 : ls.dropLast.flatten ++ ls.getLast hn = A ++ B := by
    have h3 : (ls.dropLast ++ [ls.getLast hn]).flatten = ls.flatten := by rw [e]
    rw [List.flatten_append, h] at h3
    simpa using h3
  have hL := hl _ (List.getLast_mem hn)
  have hs : (ls.getLast hn) = (ls.getLast hn).take (48 - B.length) ++ (ls.getLast hn).drop (48 - B.length) := (List.take_append_drop _ _).symm
  have h4 : (ls.dropLast.flatten ++ (ls.getLast hn).take (48 - B.length)) ++ (ls.getLast hn).drop (48 - B.length) = A ++ B := by
    rw [List.append_assoc, ← hs]
    exact h2
  obtain ⟨k1, k2⟩ := List.append_inj' h4 (by rw [List.length_drop, hL]; omega)
  rw [k2] at hs
  exact ⟨_, hs, by rw [List.length_take, hL]; omega, k1⟩
theorem set_one {A : List Int} {k p : Nat} (hp : A.length ≤ p) (hk : p < A.length + k) : (A ++ List.replicate k (0 : Int)).take p ++ [1] ++ (A ++ List.replicate k (0 : Int)).drop (p + 1) = A ++ (List.replicate (p - A.length) 0 ++ [1] ++ List.replicate (k - (p - A.length) - 1) 0) := by
  rw [List.take_append, List.take_of_length_le hp, List.drop_append, List.drop_eq_nil_of_le (by omega : A.length ≤ p + 1), List.nil_append, List.take_replicate, List.drop_replicate, List.append_assoc, List.append_assoc, List.append_assoc]
  congr 2
  · congr 1
    omega
  · congr 2
    omega
/-- the first of loads that tell xs -/
theorem first_read {ls : List (List Int)} {xs R : List Int} (hl : ∀ l ∈ ls, l.length = 48) (hx : xs.length ≤ 400) {l0 : List Int} (h0 : ls[0]? = some l0) (hf : ls.flatten = code xs.length ++ xs ++ R) : readC l0 0 = .read xs.length (code xs.length).length := by
  cases ls with
  | nil => cases h0
  | cons l r =>
    have hl0 : l = l0 := Option.some.inj h0
    subst hl0
    have hL := hl l List.mem_cons_self
    have hc := code_len xs.length
    have hb : bl (xs.length + 1) ≤ 10 := bl_le (by omega)
    rw [List.flatten_cons] at hf
    have e : l = code xs.length ++ (xs ++ R).take (48 - (code xs.length).length) := by
      have h1 : (l ++ r.flatten).take 48 = l := List.take_left' hL
      rw [hf, List.append_assoc, List.take_append, List.take_of_length_le (by omega)] at h1
      exact h1.symm
    rw [e]
    exact count_read (by omega)
theorem fill_bad {ls : List (List Int)} {xs R : List Int} (hl : ∀ l ∈ ls, l.length = 48) (hx : xs.length ≤ 400) (hn : ls ≠ []) (hf : ls.flatten = code xs.length ++ xs ++ R) (hm : ((code xs.length).length + xs.length + 47) / 48 = ls.length) (h1 : (1 : Int) ∈ R) : OpenBad (ls.map some) := by
  obtain ⟨l0, h0⟩ : ∃ l0, ls[0]? = some l0 := ⟨_, List.getElem?_eq_getElem (List.length_pos_iff.mpr hn)⟩
  refine ⟨l0, by rw [List.getElem?_map, h0]; rfl, .inr ⟨xs.length, (code xs.length).length, first_read hl hx h0 hf, by omega, by rw [List.length_map, hm], ?_⟩⟩
  rw [flatO_some, hf, ← List.map_drop, List.drop_left' (by rw [List.length_append]), inV_ints]
  exact decide_eq_true h1
theorem lost_let {ls : List (List Int)} {xs R : List Int} (hl : ∀ l ∈ ls, l.length = 48) (hx : xs.length ≤ 400) (h2 : 2 ≤ ls.length) (hf : ls.flatten = code xs.length ++ xs ++ R) (hm : ((code xs.length).length + xs.length + 47) / 48 = ls.length) : OpenLet (ls.dropLast.map some ++ [none]) := by
  have hn : ls ≠ [] := fun z => by rw [z] at h2; simp at h2
  obtain ⟨l0, h0⟩ : ∃ l0, ls[0]? = some l0 := ⟨_, List.getElem?_eq_getElem (List.length_pos_iff.mpr hn)⟩
  have hd : ls.dropLast.length = ls.length - 1 := List.length_dropLast
  have h0d : (ls.dropLast.map some ++ [none])[0]? = some (some l0) := by
    rw [List.getElem?_append_left (by rw [List.length_map]; omega), List.getElem?_map, List.getElem?_dropLast, if_pos (by omega), h0]
    rfl
  refine .inr ⟨l0, h0d, xs.length, (code xs.length).length, first_read hl hx h0 hf, by omega, ?_, ?_⟩
  · rw [List.length_append, List.length_map, hd]
    show _ = ls.length - 1 + 1
    omega
  · have hfl : (flatO (ls.dropLast.map some ++ [none])) = (ls.dropLast.flatten.map V.int) ++ List.replicate 48 V.non := by
      rw [← flatO_some]
      unfold flatO
      rw [List.map_append, List.flatten_append]
      rfl
    have hdl : ls.dropLast.flatten.length = 48 * (ls.length - 1) := by
      rw [flat_len fun l m => hl l ((List.dropLast_sublist ls).subset m), hd]
    rw [hfl, List.drop_append, List.drop_eq_nil_of_le (by rw [List.length_map, hdl]; omega), List.nil_append]
    refine Bool.eq_false_iff.mpr fun h => ?_
    unfold inV at h
    obtain ⟨y, my, hy⟩ := List.any_eq_true.mp h
    rw [(List.mem_replicate.mp (List.mem_of_mem_drop my)).2] at hy
    simp [eqV] at hy
/-! ### the last two cells turned -/
theorem blocks_inv {α : Type} {n : Nat} (hn : 0 < n) {c : List α} : ∀ {bs : List (List α)}, Blocks n (bs ++ [c]) → (∀ b ∈ bs, b.length = n) ∧ c ≠ [] ∧ c.length ≤ n
  | [], h => by
    cases h with
    | last h0 h1 => exact ⟨fun _ m => absurd m List.not_mem_nil, h0, h1⟩
    | cons h h2 => exact ⟨fun _ m => absurd m List.not_mem_nil, fun z => (by rw [z] at h; simp at h; omega), Nat.le_of_eq h⟩
  | b :: bs, h => by
    have key : ∀ {L : List (List α)}, Blocks n L → L = b :: (bs ++ [c]) → b.length = n ∧ Blocks n (bs ++ [c]) := by
      intro L h e
      cases h with
      | nil => cases e
      | last h0 h1 => simp at e
      | cons k1 k2 =>
        obtain ⟨e1, e2⟩ := List.cons.inj e
        rw [e1] at k1
        rw [e2] at k2
        exact ⟨k1, k2⟩
    obtain ⟨k1, k2⟩ := key h rfl
    obtain ⟨k3, k4⟩ := blocks_inv hn k2
    refine ⟨fun x m => ?_, k4⟩
    rcases List.mem_cons.mp m with rfl | m
    · exact k1
    · exact k3 x m
theorem blocks_snoc {α : Type} {n : Nat} {c : List α} (h0 : c ≠ []) (h1 : c.length ≤ n) : ∀ {bs : List (List α)}, (∀ b ∈ bs, b.length = n) → Blocks n (bs ++ [c])
  | [], _ => .last h0 h1
  | b :: bs, h => .cons (h b List.mem_cons_self) (blocks_snoc h0 h1 fun x m => h x (List.mem_cons_of_mem _ m))
theorem openG_lost {c : List (List Int)} (h : ∀ l ∈ c, IsLoad l) {x y : List Int} (hx : goodC x = false) (hy : goodC y = false) : openG (c.map cellL ++ [x, y]) = c.map some ++ [none] := by
  have e1 : (c.map cellL ++ [x, y]).map loadO = c.map some ++ [none, none] := by
    rw [List.map_append, List.map_map]
    congr 1
    · refine List.map_congr_left fun l m => ?_
      show loadO (cellL l) = some l
      unfold loadO
      rw [if_pos (cellL_good (h l m)), cellL_take (h l m)]
    · show [loadO x, loadO y] = _
      unfold loadO
      rw [hx, hy]
      rfl
  have h0 : ∀ L : List (List Int), (L.map some ++ [none, none]).count (none : Option (List Int)) = 2 := fun L => by
    rw [List.count_append, List.count_eq_zero.mpr fun m => by
      obtain ⟨l, _, e⟩ := List.mem_map.mp m
      cases e]
    rfl
  unfold openG healO
  rw [e1, h0, if_neg (by decide), show ([none, none] : List (Option (List Int))) = [none] ++ [none] from rfl, ← List.append_assoc, List.dropLast_concat]
theorem two_last {ls : List (List Int)} {g : Nat} {x y : List Int} (hg : 0 < g) (hl : ∀ l ∈ ls, IsLoad l) (hn : ls ≠ []) (x1 : x.length = 56) (x3 : goodC x = false) (y1 : y.length = 56) (y3 : goodC y = false) :
    2 ≤ (cellsL ls g).length ∧ opensL ((cellsL ls g).take ((cellsL ls g).length - 2) ++ [x, y]).flatten g = ls.dropLast.map some ++ [none] := by
  have bk : Blocks g (chunks ls g) := blocks_of hg _ ls (Nat.le_refl _)
  have hfl : (chunks ls g).flatten = ls := chunks_flat hg _ ls (Nat.le_refl _)
  have hcm : ∀ b ∈ chunks ls g, ∀ l ∈ b, IsLoad l := fun b mb l ml => hl l (chunks_mem mb l ml)
  have pg : cellsL ls g = ((chunks ls g).map fun c => (grp c).map cellL).flatten := by
    have := chunks_flat (Nat.succ_pos g) _ (cellsL ls g) (Nat.le_refl _)
    rw [← this, prot_groups hg]
    unfold grps
    rw [List.map_map]
    rfl
  rcases List.eq_nil_or_concat (chunks ls g) with e | ⟨bs, c, e⟩
  · rw [e] at hfl
    exact absurd hfl.symm hn
  rw [List.concat_eq_append] at e
  rw [e] at bk hfl hcm pg
  obtain ⟨b1, b2, b3⟩ := blocks_inv hg bk
  obtain ⟨c0, z, rfl⟩ : ∃ c0 z, c = c0 ++ [z] := by
    rcases List.eq_nil_or_concat c with e | ⟨c0, z, e⟩
    · exact absurd e b2
    · exact ⟨c0, z, by rw [e, List.concat_eq_append]⟩
  have hc0 : ∀ l ∈ c0, IsLoad l := fun l m => hcm (c0 ++ [z]) (List.mem_append_right _ (List.mem_singleton.mpr rfl)) l (List.mem_append_left _ m)
  have hbs : ∀ b ∈ bs, ∀ l ∈ b, IsLoad l := fun b mb => hcm b (List.mem_append_left _ mb)
  have ecl : cellsL ls g = ((bs.map fun c => (grp c).map cellL).flatten ++ c0.map cellL) ++ [cellL z, cellL (parL (c0 ++ [z]))] := by
    rw [pg, List.map_append, List.flatten_append, List.append_assoc]
    congr 1
    show ((grp (c0 ++ [z])).map cellL) ++ [] = _
    unfold grp
    rw [List.append_nil, List.map_append, List.map_append, List.append_assoc]
    rfl
  have eln : (cellsL ls g).length - 2 = ((bs.map fun c => (grp c).map cellL).flatten ++ c0.map cellL).length := by
    rw [ecl, List.length_append]
    rfl
  refine ⟨by rw [ecl, List.length_append]; exact Nat.le_add_left _ _, ?_⟩
  rw [eln]
  have etk : (cellsL ls g).take ((bs.map fun c => (grp c).map cellL).flatten ++ c0.map cellL).length = (bs.map fun c => (grp c).map cellL).flatten ++ c0.map cellL := by
    rw [ecl]
    exact List.take_left' rfl
  rw [etk]
  have ech : (bs.map fun c => (grp c).map cellL).flatten ++ c0.map cellL ++ [x, y] = ((bs.map fun c => (grp c).map cellL) ++ [c0.map cellL ++ [x, y]]).flatten := by
    rw [List.flatten_append, List.append_assoc]
    congr 1
    show _ = _ ++ []
    rw [List.append_nil]
  have bk2 : Blocks (g + 1) ((bs.map fun c => (grp c).map cellL) ++ [c0.map cellL ++ [x, y]]) := by
    refine blocks_snoc (by simp) ?_ fun b m => ?_
    · have k3 : c0.length + 1 ≤ g := by
        have := b3
        rw [List.length_append] at this
        exact this
      rw [List.length_append, List.length_map]
      show c0.length + 2 ≤ g + 1
      omega
    · obtain ⟨c, mc, rfl⟩ := List.mem_map.mp m
      rw [List.length_map]
      unfold grp
      rw [List.length_append, b1 c mc]
      rfl
  have h56 : ∀ w ∈ ((bs.map fun c => (grp c).map cellL) ++ [c0.map cellL ++ [x, y]]).flatten, w.length = 56 := fun w m => by
    rw [← ech] at m
    rcases List.mem_append.mp m with m | m
    · rcases List.mem_append.mp m with m | m
      · obtain ⟨d, md, mw⟩ := List.mem_flatten.mp m
        obtain ⟨c, mc, rfl⟩ := List.mem_map.mp md
        obtain ⟨l, ml, rfl⟩ := List.mem_map.mp mw
        exact cellL_len (grp_load (hbs c mc) l ml)
      · obtain ⟨l, ml, rfl⟩ := List.mem_map.mp m
        exact cellL_len (hc0 l ml)
    · rcases List.mem_cons.mp m with rfl | m
      · exact x1
      · rw [List.mem_singleton.mp m]
        exact y1
  unfold opensL
  rw [ech, Blocks.chunks (by decide) (blocks_flat h56), Blocks.chunks (Nat.succ_pos g) bk2, List.map_append, List.map_map, List.flatten_append]
  have e2 : bs.map (openG ∘ fun c => (grp c).map cellL) = bs.map fun c => c.map some := List.map_congr_left fun c m => openG_grp (hbs c m)
  rw [e2, map_flat_some]
  have e3 : ls = bs.flatten ++ (c0 ++ [z]) := by
    rw [← hfl, List.flatten_append]
    congr 1
    show (c0 ++ [z]) ++ [] = c0 ++ [z]
    rw [List.append_nil]
  rw [e3, ← List.append_assoc, List.dropLast_concat, List.map_append, List.append_assoc]
  congr 1
  show openG (c0.map cellL ++ [x, y]) ++ [] = _
  rw [List.append_nil, openG_lost hc0 x3 y3]
/-! ### a cell whose first bit is turned -/
theorem syn_first : synL (pat 56 (fun i => i == 0)) ≠ List.replicate 8 0 := by decide +kernel
theorem turn_first {z : Int} {r : List Int} (hb : AreBits (z :: r)) : turnC (z :: r) (fun i => i == 0) = (1 - z) :: r := by
  have h0 := hb z List.mem_cons_self
  unfold turnC pat
  rw [List.length_cons, List.range_succ_eq_map, List.map_cons, List.zipWith_cons_cons]
  congr 1
  · exact bx_one h0
  · refine List.ext_getElem? fun i => ?_
    rw [List.getElem?_zipWith, List.map_map, List.getElem?_map]
    cases e : r[i]? with
    | none => rfl
    | some w =>
      rw [List.getElem?_range (List.getElem?_eq_some_iff.mp e).1]
      exact congrArg some (bx_zero (hb w (List.mem_cons_of_mem _ (List.mem_of_getElem? e))).1)
theorem flip_bad {z : Int} {r : List Int} (hl : (z :: r).length = 56) (hb : AreBits (z :: r)) (hg : goodC (z :: r) = true) : goodC ((1 - z) :: r) = false := by
  rw [← turn_first hb]
  cases e : goodC (turnC (z :: r) (fun i => i == 0)) with
  | false => rfl
  | true => exact absurd ((good_turn hl hb hg).mp e) syn_first
theorem flip_bits {z : Int} {r : List Int} (hb : AreBits (z :: r)) : AreBits ((1 - z) :: r) := fun x m => by
  rcases List.mem_cons.mp m with rfl | m
  · have := hb z List.mem_cons_self
    omega
  · exact hb x (List.mem_cons_of_mem _ m)
/-! ### sizes that are refused -/
theorem cut_neg {xs : List V} {y : Int} {k : Nat} (hy : y = -(k : Int)) (h0 : 0 < k) (hk : k ≤ xs.length) : cutV xs none (some y) = xs.take (xs.length - k) := by
  subst hy
  unfold cutV
  rw [HT.sIx_none, List.drop_zero, Nat.sub_zero]
  congr 1
  show (if -(k : Int) < 0 then (-(k : Int) + (xs.length : Int)).toNat else min (-(k : Int)).toNat xs.length) = _
  rw [if_pos (by omega)]
  omega
theorem cut_tail {xs : List V} {y : Int} {k : Nat} (hy : y = -(k : Int)) (h0 : 0 < k) (hk : k ≤ xs.length) : cutV xs (some y) none = xs.drop (xs.length - k) := by
  subst hy
  unfold cutV
  rw [HT.sIx_none]
  have e : HT.sIx xs.length 0 (some (-(k : Int))) = xs.length - k := by
    show (if -(k : Int) < 0 then (-(k : Int) + (xs.length : Int)).toNat else min (-(k : Int)).toNat xs.length) = _
    rw [if_pos (by omega)]
    omega
  rw [e, List.take_of_length_le (by rw [List.length_drop]; exact Nat.le_refl _)]
theorem q_neW2 {K : PySem.W.Frag} {H : Hp} {p q : Addr} {x : Str} {Q : VK} (hp : H p = some (.lst [.str x, .str x])) (hq : H q = some (.lst [.str x, .str x])) (hs : SeqAt.shaped (.list [.str x, .str x]) = true) (h : Q (.bl false) H) : rNeD K (.ref p) (.ref q) H Q :=
  q_neS (d := .list [.str x, .str x]) (.lst (.inl (.inl hp)) (.cons (.str _) (.cons (.str _) .nil))) (.lst (.inl (.inl hq)) (.cons (.str _) (.cons (.str _) .nil))) hs h
theorem q_eqW2 {K : PySem.W.Frag} {H : Hp} {p q : Addr} {x : Str} {Q : VK} (hp : H p = some (.lst [.str x, .str x])) (hq : H q = some (.lst [.str x, .str x])) (hs : SeqAt.shaped (.list [.str x, .str x]) = true) (h : Q (.bl true) H) : rEqD K (.ref p) (.ref q) H Q :=
  q_eqS (d := .list [.str x, .str x]) (.lst (.inl (.inl hp)) (.cons (.str _) (.cons (.str _) .nil))) (.lst (.inl (.inl hq)) (.cons (.str _) (.cons (.str _) .nil))) hs h
theorem shW {x : Str} (h : x = "let" ∨ x = "cells" ∨ x = "bits" ∨ x = "outside") : SeqAt.shaped (.list [.str x, .str x]) = true := by
  rcases h with rfl | rfl | rfl | rfl <;> decide +kernel
/-- what both are handed, in one heap -/
theorem both_ref {H : Hp} {p : Addr} {g : Int} {wd : Str} (h : RefW H p g wd) : GoodW H p g wd ∧ OpenW H p g wd := ⟨.inl h, .inl h⟩
def spSizes (PB PO PS PF : Addr) : Sp := fun vs H Q _ => ∃ (a cp : Addr) (rs : List Addr) (ls : List (List Int)) (g : Nat), vs = [.ref a, .ref cp, .int g] ∧ Src H a ∧ H cp = some (.lst (rs.map V.ref)) ∧ Rws H rs ((cellsL ls g).map (·.map V.int)) ∧ (∀ l ∈ ls, IsLoad l) ∧ ls ≠ [] ∧ ls.length ≤ 20 ∧ OpenLet (ls.map some) ∧ 1 ≤ g ∧ g ≤ 8 ∧ LamX.Tabs (tabsK PB PO PS PF) H ∧ ∀ H', Src H' a → UpN a H H' → LamX.Tabs (tabsK PB PO PS PF) H' → Q (.bl true) H'
theorem ok_sizes {f cS PB PO PS PF gH B O C N f1 : Addr} {fd fd1 : FuncData} {k : Nat} (F : FunC K "_law_sizes_right" "_law_sizes_right" s_law_sizes_right f fd cS) (T : Txt mg) (D : HeardD K mg gH B O C N) (TBS : LamX.TabB base mg cS PS) (hne : Apart PB PO PS PF)
    (G_good : FnOk P w K mg base (L2.CX P w) 4 f1 fd1 ["protected", "group"] (spGood2 B O C)) (g_good : mg "good" = some (.ref f1)) (k_good : PySem.W.keepIn K (.ref f1) = true) (b_good : Binds K fd1 ["protected", "group"] [])
    (c_law_take : C8.Cal P w K mg base 1 "_law_take" spTake []) (c_law_one : C8.Cal P w K mg base 2 "_law_one" spOne []) (c_law_check : C8.Cal P w K mg base 1 "_law_check" spCheckL []) (c_law_joined : C8.Cal P w K mg base 1 "_law_joined" spJoinL []) (c_law_both : C8.Cal P w K mg base 8 "_law_both" (spBoth PB PO PS PF) []) :
    FnOk P w K mg base CX0 (k + 9) f fd ["_law_source", "_law_cells_here", "_law_group"] (spSizes PB PO PS PF) := by
  refine F.ok sc_law_sizes_right (fun vs H Q E h => ?_) (fun A outer s H vs Q E hr h => ?_)
  · obtain ⟨a, cp, rs, ls, g, rfl, _⟩ := h
    rfl
  · obtain ⟨a, cp, rs, ls, g, rfl, ha, hcp, hR, hl, hn, hln, ho, h1, h2, hT, q⟩ := h
    have hu := hr.units
    have eM : ∀ {m : Nat}, m ≤ 5000 → m ≤ sizeLine := fun h => Nat.le_of_lt (small_m (by omega))
    have hpl := prot_len (g := g) hl
    have hcf := cells_few (ls := ls) (g := g) h1
    have hc1 := cells_one (ls := ls) (g := g) h1 hn
    have hpb := prot_bits (g := g) hl
    refine ⟨_, (pss_cons (ps_set (i := 3) sc_law_sizes_right.nd rfl (Or.inl rfl) (C8.pe_c c_law_joined hr (by omega) (by rfl) (pa_cons (pv 1) pa_nil)))
    (pss_cons (ps_if (PW.pt (pw_or (pt_cmpR (op_neD hu) (C8.pe_c c_law_both hr (by omega) (by rfl) (pa_cons (pv 3) (pa_cons (pv 2) pa_nil))) (pe_op op_rep (pe_lst (pa_cons pe_str pa_nil)) pe_int) (nomark _)) (pw_or1 (pt_cmpR (op_neD hu) (C8.pe_c c_law_both hr (by omega) (by rfl) (pa_cons (pe_lst pa_nil) (pa_cons (pv 2) pa_nil))) (pe_op op_rep (pe_lst (pa_cons pe_str pa_nil)) pe_int) (nomark _))))) (pss_one (ps_ret pe_bl)) pss_nil)
    (pss_cons (ps_if (PW.pt (pw_or (pt_cmpR (op_neD hu) (C8.pe_c c_law_both hr (by omega) (by rfl) (pa_cons (pe_slice sl_list (pv 3) po_none (po_some (pe_op op_sub (pe_un un_neg pe_int) (C8.pe_c c_law_take hr (by omega) (by rfl) (pa_cons (pv 0) (pa_cons pe_int pa_nil)))))) (pa_cons (pv 2) pa_nil))) (pe_op op_rep (pe_lst (pa_cons pe_str pa_nil)) pe_int) (nomark _)) (pw_or1 (pt_cmpR (op_neD hu) (C8.pe_c c_law_both hr (by omega) (by rfl) (pa_cons (pe_op op_cat (pv 3) (pe_lst (pa_cons pe_int pa_nil))) (pa_cons (pv 2) pa_nil))) (pe_op op_rep (pe_lst (pa_cons pe_str pa_nil)) pe_int) (nomark _))))) (pss_one (ps_ret pe_bl)) pss_nil)
    (pss_cons (ps_asg (pe_tup (pa_cons (pe_op op_cat (pe_op op_rep (pe_lst (pa_cons pe_int pa_nil)) pe_int) (C8.pe_c c_law_check hr (by omega) (by rfl) (pa_cons (pe_op op_rep (pe_lst (pa_cons pe_int pa_nil)) pe_int) pa_nil))) (pa_cons (pe_op op_add pe_int (C8.pe_c c_law_take hr (by omega) (by rfl) (pa_cons (pv 0) (pa_cons pe_int pa_nil)))) pa_nil))) (pg_tup rfl (pgs_cons (pg_name (i := 6) sc_law_sizes_right.nd rfl (Or.inr rfl)) (pgs_cons (pg_name (i := 5) sc_law_sizes_right.nd rfl (Or.inr rfl)) pgs_nil))))
    (C8.pss_cut (ps_set (i := 4) sc_law_sizes_right.nd rfl (Or.inl rfl) (pe_ifExp (pt_cmpR op_eq (pe_op op_mod (pv 5) (pe_op op_add (pv 2) pe_int)) pe_int (nomark _)) pe_str pe_str))
    (pss_cons (ps_if (pt_cmpR (op_neD hu) (pe_heard (k := 5) D (by rfl) TBS rfl (.tail _ (.tail _ (.head _))) (tabsK_fn hne (.tail _ (.tail _ (.head _)))) (hr.mono (by omega)) (fun A outer s H E f c' hr2 => (pe_call G_good (hr2.mono (by omega)) (by rfl) g_good k_good b_good .nil (passes_call (takes_of rfl rfl rfl rfl) (fun _ _ _ _ h => h)) (pa_cons (pe_op op_rep (pv 6) (pv 5)) (pa_cons (pv 2) pa_nil)))) (LamX.lamS_by (by show LamX.lamSB (defScope s_law_sizes_right) _ = true; decide +kernel)) rfl (fun _ _ _ _ _ => rfl)) (pv 4) (nomark _)) (pss_one (ps_ret pe_bl)) pss_nil)
    (pss_cons (ps_if (pt_cmpR (op_neD hu) (C8.pe_c c_law_both hr (by omega) (by rfl) (pa_cons (pe_op op_cat (pe_op op_cat (pe_op op_cat (pe_slice sl_list (pv 3) po_none (po_some pe_int)) (pe_lst (pa_cons pe_int pa_nil))) (pe_slice sl_list (pv 3) (po_some pe_int) po_none)) (pe_lst (pa_cons pe_int pa_nil))) (pa_cons pe_int pa_nil))) (pe_op op_rep (pe_lst (pa_cons pe_str pa_nil)) pe_int) (nomark _)) (pss_one (ps_ret pe_bl)) pss_nil)
    (pss_one (ps_ret (pe_cmpR (op_eqD hu) (C8.pe_c c_law_both hr (by omega) (by rfl) (pa_cons (pe_op op_cat (pv 3) (pe_lst (pa_cons pe_int pa_nil))) (pa_cons (C8.pe_c c_law_one hr (by omega) (by rfl) (pa_cons (pv 0) (pa_cons (pe_lst (pa_cons pe_int (pa_cons pe_int pa_nil))) pa_nil))) pa_nil))) (pe_op op_rep (pe_lst (pa_cons pe_str pa_nil)) pe_int) (nomark _))))))))))), ?_⟩
    walk_at "ev"
    refine ⟨cp, rs, cellsL ls g, rfl, hcp, hR, by show (protL ls g).length ≤ _; omega, fun w0 H1 nw s1 e1 => ?_⟩
    replace e1 : H1 w0 = some (.lst ((protL ls g).map V.int)) := e1
    have a1 := src_same s1 ha
    have t1 := tabs_same hT s1
    have u1 : UpN a H H1 := (up_same s1).n
    have wa : w0 ≠ a := (ha.ne nw).symm
    walk_at "ev"
    have rep2 : ∀ {x : Str}, (List.replicate 2 [V.str x]).flatten = [V.str x, V.str x] := fun {x} => flat_rep 2 (V.str x)
    have W1 : OpenW H1 w0 g "let" := .inr ⟨_, _, g, fits_loads e1 hl hn (by omega) h1 h2, .inl ⟨rfl, by rw [opens_prot h1 hl]; exact ho⟩⟩
    refine ⟨w0, g, "let", rfl, OpenW.good (.inr ⟨rfl, W1⟩), W1, t1, fun q2 H2 x2 t2 e2 => ?_⟩
    walk_at "ev"
    refine ⟨by show 1 ≤ sizeLine; decide, fun z1 nz1 => ?_⟩
    walk_at "ev"
    refine ⟨z1, _, _, rfl, rfl, upd_same, by decide, by decide, eM (by show 1 * 2 ≤ _; decide), fun z2 nz2 => ?_⟩
    rw [show ((2 : Int).toNat) = 2 from rfl, rep2]
    refine q_neW2 (new_at (new_at e2 nz1) nz2) upd_same (shW (.inl rfl)) ?_
    walk_at "ev"
    have sG := (same_upd (o := .lst [.str "let"]) nz1).trans (same_upd (o := .lst [.str "let", .str "let"]) nz2)
    have eG := sG _ _ (x2 _ _ e1 (fun _ z => nomatch z))
    have aG := src_same sG (Src.ext x2 a1)
    have tG := tabs_same t2 sG
    have uG : UpN a H _ := u1.trans ((ext_n x2).trans (up_same sG).n)
    generalize upd (upd H2 z1 (.lst [.str "let"])) z2 (.lst [.str "let", .str "let"]) = G1 at *
    clear sG e2 nz1 nz2 x2 t2
    clear z1 z2
    walk_at "ev"
    refine ⟨by show 0 ≤ sizeLine; decide, fun n0 nn0 => ?_⟩
    walk_at "ev"
    have R2 : RefW (upd G1 n0 (.lst [])) n0 g "cells" := .inr ⟨[], upd_same, (fun _ m => absurd m List.not_mem_nil), .inr ⟨rfl, by omega, by omega, .inl (by decide)⟩⟩
    refine ⟨n0, g, "cells", rfl, (both_ref R2).1, (both_ref R2).2, tabs_same tG (same_upd nn0), fun q2 H2 x2 t2 e2 => ?_⟩
    walk_at "ev"
    refine ⟨by show 1 ≤ sizeLine; decide, fun z1 nz1 => ?_⟩
    walk_at "ev"
    refine ⟨z1, _, _, rfl, rfl, upd_same, by decide, by decide, eM (by show 1 * 2 ≤ _; decide), fun z2 nz2 => ?_⟩
    rw [show ((2 : Int).toNat) = 2 from rfl, rep2]
    refine q_neW2 (new_at (new_at e2 nz1) nz2) upd_same (shW (.inr (.inl rfl))) ?_
    have sG := (same_upd (o := .lst [.str "cells"]) nz1).trans (same_upd (o := .lst [.str "cells", .str "cells"]) nz2)
    have xG : LamX.ExtN G1 _ := (ext_same (same_upd nn0)).trans (x2.trans (ext_same sG))
    replace eG := xG _ _ eG (fun _ z => nomatch z)
    replace aG := Src.ext xG aG
    replace tG := tabs_same t2 sG
    replace uG := uG.trans (ext_n xG)
    clear R2
    generalize upd (upd H2 z1 (.lst [.str "cells"])) z2 (.lst [.str "cells", .str "cells"]) = G2 at *
    clear sG e2 nz1 nz2 x2 t2 xG
    clear z1 z2
    walk_at "ev"
    refine ⟨aG, by decide, by decide, fun r G3 r0 r1 a3 u3 => ?_⟩
    have e3 := (u3 _ wa).trans eG
    have t3 := tabs_up tG u3.up aG
    have u3' := uG.trans u3.up.n
    walk_at "ev"
    have hwl : ((protL ls g).map V.int).length = 56 * (cellsL ls g).length := by rw [List.length_map, hpl]
    refine ⟨w0, _, rfl, .inl (.inl e3), fun p4 n4 => ?_⟩
    rw [cut_neg (k := (1 + r).toNat) (by omega) (by omega) (by rw [hwl]; omega), ← List.map_take]
    walk_at "ev"
    have s4 : Same G3 _ := same_upd (o := .lst (((protL ls g).take (((protL ls g).map V.int).length - (1 + r).toNat)).map V.int)) n4
    have e4 : upd G3 p4 (.lst (((protL ls g).take (((protL ls g).map V.int).length - (1 + r).toNat)).map V.int)) p4 = _ := upd_same
    generalize upd G3 p4 (.lst (((protL ls g).take (((protL ls g).map V.int).length - (1 + r).toNat)).map V.int)) = G4 at *
    have R4 : RefW G4 p4 g "cells" := .inr ⟨_, e4, hpb.take _, .inr ⟨rfl, by omega, by omega, .inr (.inl (by rw [hwl, List.length_take, hpl]; omega))⟩⟩
    replace e3 := s4 _ _ e3
    replace a3 := src_same s4 a3
    replace u3 := u3'.trans (up_same s4).n
    replace t3 := tabs_same t3 s4
    clear s4 n4
    refine ⟨p4, g, "cells", rfl, (both_ref R4).1, (both_ref R4).2, t3, fun q2 H2 x2 t2 e2 => ?_⟩
    walk_at "ev"
    refine ⟨by show 1 ≤ sizeLine; decide, fun z1 nz1 => ?_⟩
    walk_at "ev"
    refine ⟨z1, _, _, rfl, rfl, upd_same, by decide, by decide, eM (by show 1 * 2 ≤ _; decide), fun z2 nz2 => ?_⟩
    rw [show ((2 : Int).toNat) = 2 from rfl, rep2]
    have sG := (same_upd (o := .lst [.str "cells"]) nz1).trans (same_upd (o := .lst [.str "cells", .str "cells"]) nz2)
    have eq1 := new_at (o' := .lst [.str "cells", .str "cells"]) (new_at (o' := .lst [.str "cells"]) e2 nz1) nz2
    have eq2 : upd (upd H2 z1 (.lst [.str "cells"])) z2 (.lst [.str "cells", .str "cells"]) z2 = _ := upd_same
    replace t2 := tabs_same t2 sG
    have xG : LamX.ExtN G4 _ := x2.trans (ext_same sG)
    generalize upd (upd H2 z1 (.lst [.str "cells"])) z2 (.lst [.str "cells", .str "cells"]) = GN at *
    clear sG
    refine q_neW2 eq1 eq2 (shW (.inr (.inl rfl))) ?_
    clear eq1 eq2
    replace eG := xG _ _ e3 (fun _ z => nomatch z)
    replace aG := Src.ext xG a3
    replace tG := t2
    replace uG := u3.trans (ext_n xG)
    clear x2 t2 xG e2 nz1 nz2 R4 e4 e3 a3 u3 t3 u3'
    walk_at "ev"
    refine ⟨by show 1 ≤ sizeLine; decide, fun n1 nn1 => ?_⟩
    walk_at "ev"
    refine ⟨w0, n1, _, _, rfl, rfl, new_at eG nn1, upd_same, eM (by rw [hwl]; show _ + 1 ≤ _; omega), fun p4 n4 => ?_⟩
    have e4 : upd (upd GN n1 (.lst [.int 0])) p4 (.lst ((protL ls g).map V.int ++ [.int 0])) p4 = some (.lst ((protL ls g ++ [0]).map V.int)) := by rw [upd_same, List.map_append]; rfl
    have s4 := (same_upd (o := .lst [.int 0]) nn1).trans (same_upd (o := .lst ((protL ls g).map V.int ++ [.int 0])) n4)
    generalize upd (upd GN n1 (.lst [.int 0])) p4 (.lst ((protL ls g).map V.int ++ [.int 0])) = G4 at *
    walk_at "ev"
    have R4 : RefW G4 p4 g "cells" := .inr ⟨_, e4, hpb.app (AreBits.zeros 1), .inr ⟨rfl, by omega, by omega, .inr (.inl (by rw [List.length_append, hpl]; show (_ + 1) % 56 ≠ 0; omega))⟩⟩
    have e3 := s4 _ _ eG
    have a3 := src_same s4 aG
    have u3 := uG.trans (up_same s4).n
    have t3 := tabs_same tG s4
    clear s4 n4
    refine ⟨p4, g, "cells", rfl, (both_ref R4).1, (both_ref R4).2, t3, fun q2 H2 x2 t2 e2 => ?_⟩
    walk_at "ev"
    refine ⟨by show 1 ≤ sizeLine; decide, fun z1 nz1 => ?_⟩
    walk_at "ev"
    refine ⟨z1, _, _, rfl, rfl, upd_same, by decide, by decide, eM (by show 1 * 2 ≤ _; decide), fun z2 nz2 => ?_⟩
    rw [show ((2 : Int).toNat) = 2 from rfl, rep2]
    have sG := (same_upd (o := .lst [.str "cells"]) nz1).trans (same_upd (o := .lst [.str "cells", .str "cells"]) nz2)
    have eq1 := new_at (o' := .lst [.str "cells", .str "cells"]) (new_at (o' := .lst [.str "cells"]) e2 nz1) nz2
    have eq2 : upd (upd H2 z1 (.lst [.str "cells"])) z2 (.lst [.str "cells", .str "cells"]) z2 = _ := upd_same
    replace t2 := tabs_same t2 sG
    have xG : LamX.ExtN G4 _ := x2.trans (ext_same sG)
    generalize upd (upd H2 z1 (.lst [.str "cells"])) z2 (.lst [.str "cells", .str "cells"]) = GN at *
    clear sG
    refine q_neW2 eq1 eq2 (shW (.inr (.inl rfl))) ?_
    clear eq1 eq2
    replace eG := xG _ _ e3 (fun _ z => nomatch z)
    replace aG := Src.ext xG a3
    replace tG := t2
    replace uG := u3.trans (ext_n xG)
    clear x2 t2 xG e2 nz1 nz2 R4 e4 e3 a3 u3 t3
    walk_at "ev"
    refine ⟨by show 1 ≤ sizeLine; decide, fun z1 nz1 => ?_⟩
    walk_at "ev"
    refine ⟨z1, _, _, rfl, rfl, upd_same, by decide, by decide, eM (by show 1 * 48 ≤ _; decide), fun z2 nz2 => ?_⟩
    rw [flat_zeros, show ((48 : Int).toNat) = 48 from rfl]
    have e2 : upd (upd GN z1 (.lst [.int 0])) z2 (.lst (zeroL.map V.int)) z2 = some (.lst (zeroL.map V.int)) := upd_same
    have s2 : Same GN _ := (same_upd (o := .lst [.int 0]) nz1).trans (same_upd (o := .lst (zeroL.map V.int)) nz2)
    have ez : (List.replicate 48 (0 : Int)) = zeroL := rfl
    rw [ez]
    generalize upd (upd GN z1 (.lst [.int 0])) z2 (.lst (zeroL.map V.int)) = G5 at *
    walk_at "ev"
    refine ⟨by show 1 ≤ sizeLine; decide, fun z3 nz3 => ?_⟩
    walk_at "ev"
    refine ⟨z3, _, _, rfl, rfl, upd_same, by decide, by decide, eM (by show 1 * 48 ≤ _; decide), fun z4 nz4 => ?_⟩
    rw [flat_zeros, show ((48 : Int).toNat) = 48 from rfl, ez]
    have e4 : upd (upd G5 z3 (.lst [.int 0])) z4 (.lst (zeroL.map V.int)) z4 = some (.lst (zeroL.map V.int)) := upd_same
    have s4 : Same G5 _ := (same_upd (o := .lst [.int 0]) nz3).trans (same_upd (o := .lst (zeroL.map V.int)) nz4)
    generalize upd (upd G5 z3 (.lst [.int 0])) z4 (.lst (zeroL.map V.int)) = G6 at *
    walk_at "ev"
    refine ⟨z4, zeroL, rfl, e4, zeroL_load.2, by rw [zeroL_load.1]; decide, fun c1 G7 nc1 s7 e7 => ?_⟩
    refine ⟨z2, c1, _, _, rfl, rfl, s7 _ _ (s4 _ _ e2), e7, eM (by rw [List.length_map, List.length_map, zeroL_load.1, crcI_len]; decide), fun c2 nc2 => ?_⟩
    rw [← List.map_append]
    have ecl : zeroL ++ crcI zeroL = cellL zeroL := rfl
    rw [ecl]
    have e8 : upd G7 c2 (.lst ((cellL zeroL).map V.int)) c2 = some (.lst ((cellL zeroL).map V.int)) := upd_same
    have s8 : Same GN _ := s2.trans (s4.trans (s7.trans (same_upd (o := .lst ((cellL zeroL).map V.int)) nc2)))
    generalize upd G7 c2 (.lst ((cellL zeroL).map V.int)) = G8 at *
    walk_at "ev"
    have a8 := src_same s8 aG
    refine ⟨a8, by decide, by decide, fun r2 G9 k0 k1 a9 u9 => ?_⟩
    have c2a : c2 ≠ a := ((src_same (s2.trans (s4.trans s7)) aG).ne nc2).symm
    have e9 := (u9 _ c2a).trans e8
    have w9 := (u9 _ wa).trans (s8 _ _ eG)
    have t9 := tabs_up (tabs_same tG s8) u9.up a8
    have v9 := (uG.trans (up_same s8).n).trans u9.up.n
    obtain ⟨M, hM⟩ : ∃ M : Nat, 1 + r2 = (M : Int) := ⟨(1 + r2).toNat, by omega⟩
    have hMv : (fun (i j : Int) => V.int (i + j)) 1 r2 = V.int (M : Int) := congrArg V.int hM
    walk_at "ev"
    rw [hMv]
    walk_at "ev"
    refine ⟨by show 2 ≤ sizeLine; decide, fun tt ntt => ?_⟩
    have st : Same G9 _ := same_upd (o := .tup [.ref c2, .int M]) ntt
    walk_at "ev"
    have eT := st _ _ e9
    have wT := st _ _ w9
    have aT := src_same st a9
    have tT := tabs_same t9 st
    have vT := v9.trans (up_same st).n
    have eTT : upd G9 tt (.tup [.ref c2, .int M]) tt = _ := upd_same
    generalize upd G9 tt (.tup [.ref c2, .int M]) = GT at *
    refine ⟨fun σ G => ∃ (wd : Str), σ = [some (.ref a), some (.ref cp), some (.int g), some (.ref w0), some (.str wd), some (.int M), some (.ref c2)] ∧ G = GT ∧ ((wd = "cells" ∧ M % (g + 1) = 1) ∨ (wd = "let" ∧ M % (g + 1) ≠ 1)), ?_, ?_⟩
    · have hmod : ((M : Int) % ((g : Int) + 1)) = ((M % (g + 1) : Nat) : Int) := by rw [Int.natCast_emod]; rfl
      walk_at "ev"
      · rename_i hk
        exact .inl ⟨rfl, by omega⟩
      · rename_i hk
        exact .inr ⟨rfl, by omega⟩
    · rintro σ G ⟨wd, rfl, rfl, hwd⟩
      walk_at "ev"
      refine ⟨tT, fun K1 x1 k1 => ?_⟩
      have eK := x1 _ _ eT (fun _ z => nomatch z)
      refine heard_in (wd := wd) (fun Q' hq => ?_) fun K2 s2 => ?_
      · walk_at "ev"
        have hcz := cellL_len zeroL_load
        refine ⟨c2, _, _, rfl, rfl, eK, by omega, by omega, eM (by rw [List.length_map, hcz]; omega), fun zr nzr => ?_⟩
        have er : (List.replicate (Int.toNat (M : Int)) ((cellL zeroL).map V.int)).flatten = ((List.replicate M (cellL zeroL)).flatten).map V.int := by rw [Int.toNat_natCast, List.map_flatten, List.map_replicate]
        rw [er]
        have hzl : (List.replicate M (cellL zeroL)).flatten.length = 56 * M := by rw [flat_len (n := 56) (fun b m => (by rw [(List.mem_replicate.mp m).2]; exact hcz)), List.length_replicate]
        have hzb : AreBits (List.replicate M (cellL zeroL)).flatten := fun x m => by
          obtain ⟨d, md, mx⟩ := List.mem_flatten.mp m
          rw [(List.mem_replicate.mp md).2] at mx
          exact cellL_bits zeroL_load x mx
        have ez2 : upd K1 zr (.lst (((List.replicate M (cellL zeroL)).flatten).map V.int)) zr = _ := upd_same
        have sz2 : Same K1 _ := same_upd (o := .lst (((List.replicate M (cellL zeroL)).flatten).map V.int)) nzr
        generalize upd K1 zr (.lst (((List.replicate M (cellL zeroL)).flatten).map V.int)) = K3 at *
        generalize (List.replicate M (cellL zeroL)).flatten = zs at *
        have hgw : GoodW K3 zr g wd := by
          rcases hwd with ⟨rfl, hk⟩ | ⟨rfl, hk⟩
          · refine .inl (.inr ⟨zs, ez2, hzb, .inr ⟨rfl, by omega, by omega, .inr (.inr ?_)⟩⟩)
            rw [hzl, Nat.mul_div_cancel_left _ (by decide)]
            have : ((M % (g + 1) : Nat) : Int) = 1 := by omega
            rw [Int.natCast_emod] at this
            exact this
          · exact .inr ⟨rfl, zs, M, g, rfl, ez2, hzb, hzl, by omega, by omega, h1, h2, hk⟩
        walk_at "ev"
        exact hear_good hgw fun H' s' => hq H' (sz2.trans s')
      · walk_at "ev"
        have hsw : SeqAt.shaped (.str wd) = true := by rcases hwd with ⟨rfl, _⟩ | ⟨rfl, _⟩ <;> decide +kernel
        refine q_neS (d := .str wd) (.str _) (.str _) hsw ?_
        have xK := x1.trans (ext_same s2)
        have wK := xK _ _ wT (fun _ z => nomatch z)
        have aK := Src.ext xK aT
        have tK := tabs_same k1 s2
        have vK := vT.trans (ext_n xK)
        clear eK s2 x1 k1 xK wT aT tT vT eTT hwd hsw
        walk_at "ev"
        generalize protL ls g = ws at *
        have hw10 : 10 ≤ (ws.map V.int).length := by rw [hwl]; omega
        refine ⟨w0, _, rfl, .inl (.inl wK), fun p1 n1 => ?_⟩
        rw [cut_to (xs := ws.map V.int) (y := 9) (k := 9) rfl (by omega), ← List.map_take]
        walk_at "ev"
        refine ⟨by show 1 ≤ sizeLine; decide, fun p2 n2 => ?_⟩
        refine ⟨p1, p2, _, _, rfl, rfl, new_at upd_same n2, upd_same, eM (by rw [List.length_map, List.length_take]; show min _ _ + 1 ≤ _; omega), fun p3 n3 => ?_⟩
        have e3 : upd (upd (upd K2 p1 (.lst ((ws.take 9).map V.int))) p2 (.lst [.int 2])) p3 (.lst ((ws.take 9).map V.int ++ [.int 2])) p3 = some (.lst ((ws.take 9 ++ [2]).map V.int)) := by rw [upd_same, List.map_append]; rfl
        have s3 : Same K2 _ := (same_upd (o := .lst ((ws.take 9).map V.int)) n1).trans ((same_upd (o := .lst [.int 2]) n2).trans (same_upd (o := .lst ((ws.take 9).map V.int ++ [.int 2])) n3))
        generalize upd (upd (upd K2 p1 (.lst ((ws.take 9).map V.int))) p2 (.lst [.int 2])) p3 (.lst ((ws.take 9).map V.int ++ [.int 2])) = K3 at *
        walk_at "ev"
        refine ⟨w0, _, rfl, .inl (.inl (s3 _ _ wK)), fun p4 n4 => ?_⟩
        rw [cut_drop (xs := ws.map V.int) (y := 10) (k := 10) rfl hw10, ← List.map_drop]
        refine ⟨p3, p4, _, _, rfl, rfl, new_at e3 n4, upd_same, eM (by rw [List.length_map, List.length_map, List.length_append, List.length_take, List.length_drop, ← List.length_map (f := V.int), hwl]; show min _ _ + 1 + _ ≤ _; omega), fun p5 n5 => ?_⟩
        have e5 : upd (upd K3 p4 (.lst ((ws.drop 10).map V.int))) p5 (.lst ((ws.take 9 ++ [2]).map V.int ++ (ws.drop 10).map V.int)) p5 = some (.lst ((ws.take 9 ++ [2] ++ ws.drop 10).map V.int)) := by rw [upd_same, ← List.map_append]
        have s5 : Same K2 _ := s3.trans ((same_upd (o := .lst ((ws.drop 10).map V.int)) n4).trans (same_upd (o := .lst ((ws.take 9 ++ [2]).map V.int ++ (ws.drop 10).map V.int)) n5))
        generalize upd (upd K3 p4 (.lst ((ws.drop 10).map V.int))) p5 (.lst ((ws.take 9 ++ [2]).map V.int ++ (ws.drop 10).map V.int)) = K5 at *
        walk_at "ev"
        refine ⟨by show 1 ≤ sizeLine; decide, fun p6 n6 => ?_⟩
        refine ⟨p5, p6, _, _, rfl, rfl, new_at e5 n6, upd_same, eM (by rw [List.length_map, List.length_append, List.length_append, List.length_take, List.length_drop, ← List.length_map (f := V.int), hwl]; show min _ _ + 1 + _ + 1 ≤ _; omega), fun p7 n7 => ?_⟩
        have e7 : upd (upd K5 p6 (.lst [.int 1])) p7 (.lst ((ws.take 9 ++ [2] ++ ws.drop 10).map V.int ++ [.int 1])) p7 = some (.lst ((ws.take 9 ++ [2] ++ ws.drop 10).map V.int ++ [.int 1])) := upd_same
        have s7 : Same K2 _ := s5.trans ((same_upd (o := .lst [.int 1]) n6).trans (same_upd (o := .lst ((ws.take 9 ++ [2] ++ ws.drop 10).map V.int ++ [.int 1])) n7))
        generalize upd (upd K5 p6 (.lst [.int 1])) p7 (.lst ((ws.take 9 ++ [2] ++ ws.drop 10).map V.int ++ [.int 1])) = K7 at *
        have ht9 : (ws.take 9).length = 9 := by rw [List.length_take]; rw [List.length_map] at hw10; omega
        have R7 : RefW K7 p7 0 "bits" := by
          refine .inl ⟨rfl, _, 9, .int 2, e7, ?_, .int _ (by decide), fun j hj => ?_⟩
          · rw [List.append_assoc, List.map_append, List.append_assoc, List.getElem?_append_right (by rw [List.length_map, ht9]; exact Nat.le_refl _), List.length_map, ht9]
            rfl
          · obtain ⟨z, hz⟩ : ∃ z, ws[j]? = some z := ⟨_, List.getElem?_eq_getElem (by rw [List.length_map] at hw10; omega)⟩
            refine ⟨z, ?_, hpb z (List.mem_of_getElem? hz)⟩
            rw [List.append_assoc, List.map_append, List.append_assoc, List.getElem?_append_left (by rw [List.length_map, ht9]; exact hj), List.getElem?_map, List.getElem?_take_of_lt hj, hz]
            rfl
        have w7 := s7 _ _ wK
        have a7 := src_same s7 aK
        have v7 := vK.trans (up_same s7).n
        have t7 := tabs_same tK s7
        clear s7 s5 s3 e3 e5 n1 n2 n3 n4 n5 n6 n7
        walk_at "ev"
        refine ⟨p7, 0, "bits", rfl, (both_ref R7).1, (both_ref R7).2, t7, fun q2 H2 x2 t2 e2 => ?_⟩
        walk_at "ev"
        refine ⟨by show 1 ≤ sizeLine; decide, fun z1 nz1 => ?_⟩
        walk_at "ev"
        refine ⟨z1, _, _, rfl, rfl, upd_same, by decide, by decide, eM (by show 1 * 2 ≤ _; decide), fun z2 nz2 => ?_⟩
        rw [show ((2 : Int).toNat) = 2 from rfl, rep2]
        have sG := (same_upd (o := .lst [.str "bits"]) nz1).trans (same_upd (o := .lst [.str "bits", .str "bits"]) nz2)
        have eq1 := new_at (o' := .lst [.str "bits", .str "bits"]) (new_at (o' := .lst [.str "bits"]) e2 nz1) nz2
        have eq2 : upd (upd H2 z1 (.lst [.str "bits"])) z2 (.lst [.str "bits", .str "bits"]) z2 = _ := upd_same
        replace t2 := tabs_same t2 sG
        have xG : LamX.ExtN K7 _ := x2.trans (ext_same sG)
        generalize upd (upd H2 z1 (.lst [.str "bits"])) z2 (.lst [.str "bits", .str "bits"]) = GN at *
        clear sG
        refine q_neW2 eq1 eq2 (shW (.inr (.inr (.inl rfl)))) ?_
        clear eq1 eq2
        have w8 := xG _ _ w7 (fun _ z => nomatch z)
        have a8 := Src.ext xG a7
        have v8 := v7.trans (ext_n xG)
        clear xG x2 e2 nz1 nz2 R7 t7 a7 v7 w7
        walk_at "ev"
        refine ⟨by show 1 ≤ sizeLine; decide, fun n1 nn1 => ?_⟩
        walk_at "ev"
        refine ⟨w0, n1, _, _, rfl, rfl, new_at w8 nn1, upd_same, eM (by rw [hwl]; show _ + 1 ≤ _; omega), fun p8 n8 => ?_⟩
        have e8 : upd (upd GN n1 (.lst [.int 1])) p8 (.lst (ws.map V.int ++ [.int 1])) p8 = some (.lst ((ws ++ [1]).map V.int)) := by rw [upd_same, List.map_append]; rfl
        have s8 : Same GN _ := (same_upd (o := .lst [.int 1]) nn1).trans (same_upd (o := .lst (ws.map V.int ++ [.int 1])) n8)
        have a9 := src_same s8 a8
        have p8a : p8 ≠ a := ((src_same (same_upd (o := .lst [.int 1]) nn1) a8).ne n8).symm
        generalize upd (upd GN n1 (.lst [.int 1])) p8 (.lst (ws.map V.int ++ [.int 1])) = K8 at *
        walk_at "ev"
        refine ⟨by show 2 ≤ sizeLine; decide, fun o1 no1 => ?_⟩
        walk_at "ev"
        have s9 : Same K8 _ := same_upd (o := .lst [.int 0, .int 9]) no1
        have a10 := src_same s9 a9
        refine ⟨a, o1, _, rfl, a10, (a9.ne no1).symm, upd_same, (fun z => nomatch z), by decide, fun v K9 mv aF uF => ?_⟩
        have e9 := (uF _ p8a).trans (s9 _ _ e8)
        have tF := tabs_up (tabs_same (tabs_same t2 s8) s9) uF.up a10
        have vF := (v8.trans (up_same (s8.trans s9)).n).trans uF.up.n
        obtain ⟨gg, rfl, hgg⟩ : ∃ z, v = V.int z ∧ (z < 1 ∨ 8 < z) := by
          rcases List.mem_cons.mp mv with rfl | mv
          · exact ⟨_, rfl, .inl (by decide)⟩
          · rw [List.mem_singleton.mp mv]
            exact ⟨_, rfl, .inr (by decide)⟩
        have R9 : RefW K9 p8 gg "outside" := .inr ⟨_, e9, hpb.app (fun x m => by rw [List.mem_singleton.mp m]; decide), .inl ⟨rfl, hgg⟩⟩
        clear t2
        walk_at "ev"
        refine ⟨p8, gg, "outside", rfl, (both_ref R9).1, (both_ref R9).2, tF, fun q2 H2 x2 t2 e2 => ?_⟩
        walk_at "ev"
        refine ⟨by show 1 ≤ sizeLine; decide, fun z1 nz1 => ?_⟩
        walk_at "ev"
        refine ⟨z1, _, _, rfl, rfl, upd_same, by decide, by decide, eM (by show 1 * 2 ≤ _; decide), fun z2 nz2 => ?_⟩
        rw [show ((2 : Int).toNat) = 2 from rfl, rep2]
        have sG := (same_upd (o := .lst [.str "outside"]) nz1).trans (same_upd (o := .lst [.str "outside", .str "outside"]) nz2)
        have eq1 := new_at (o' := .lst [.str "outside", .str "outside"]) (new_at (o' := .lst [.str "outside"]) e2 nz1) nz2
        have eq2 : upd (upd H2 z1 (.lst [.str "outside"])) z2 (.lst [.str "outside", .str "outside"]) z2 = _ := upd_same
        replace t2 := tabs_same t2 sG
        have xG : LamX.ExtN K9 _ := x2.trans (ext_same sG)
        generalize upd (upd H2 z1 (.lst [.str "outside"])) z2 (.lst [.str "outside", .str "outside"]) = GN at *
        clear sG
        refine q_eqW2 eq1 eq2 (shW (.inr (.inr (.inr rfl)))) ?_
        clear eq1 eq2
        walk_at "ev"
        exact q _ (Src.ext xG aF) (vF.trans (ext_n xG)) t2
/-! ### counts that fit, and counts that don't -/
def spCounts (PB PO PS PF : Addr) : Sp := fun vs H Q _ => ∃ (a b p : Addr) (rs : List Addr) (ls : List (List Int)) (g : Nat), vs = [.ref a, .ref b, .ref p, .int g] ∧ Src H a ∧ H p = some (.lst (rs.map V.ref)) ∧ Rws H rs (ls.map (·.map V.int)) ∧ (∀ l ∈ ls, IsLoad l) ∧ 1 ≤ ls.length ∧ ls.length < 12 ∧ 1 ≤ g ∧ g ≤ 8 ∧ LamX.Tabs (tabsK PB PO PS PF) H ∧ ∀ H', LamX.ExtN H H' → LamX.Tabs (tabsK PB PO PS PF) H' → Q (.bl true) H'
theorem ok_counts {f PB PO PS PF : Addr} {fd : FuncData} {k : Nat} (F : Fun K "_law_counts_right" "_law_counts_right" s_law_counts_right f fd) (T : Txt mg)
    (c_law_count : C8.Cal P w K mg base 1 "_law_count" spCountL []) (c_law_counted : C8.Cal P w K mg base 2 "_law_counted" spCounted []) (c_law_opened : C8.Cal P w K mg base 8 "_law_opened" (spOpenedL PB PO PS PF) []) :
    FnOk P w K mg base CX0 (k + 9) f fd ["_law_source", "_law_bits_here", "_law_loads_here", "_law_group"] (spCounts PB PO PS PF) := by
  refine F.ok sc_law_counts_right (fun vs H Q E h => ?_) (fun cdv A outer s H vs Q E hr h => ?_)
  · obtain ⟨a, b, p, rs, ls, g, rfl, _⟩ := h
    rfl
  · obtain ⟨a, b, p, rs, ls, g, rfl, ha, hp, hR, hl, hm1, hm2, h1, h2, hT, q⟩ := h
    have hu := hr.units
    refine ⟨_, (pss_cons (ps_set (i := 5) sc_law_counts_right.nd rfl (Or.inl rfl) (pe_op op_cat (pe_lst (pa_cons (pe_ix ix_list (pv 2) pe_int (fun _ _ => rfl)) pa_nil)) (pe_lc (own := [("_law_load", 4)]) (g := (gName 4)) (tt := tYes) rfl sc_law_counts_right.nd (pi_list (pe_slice sl_list (pv 2) (po_some pe_int) po_none)) (blkOk_by (N := ["_law_source", "_law_bits_here", "_law_loads_here", "_law_group", "_law_load", "_law_plain", "_law_many", "_law_number", "_law_fits", "_law_due"]) (sc := defScope s_law_counts_right) (by decide +kernel)) (fun _ _ _ _ _ => pg_name (i := 4) sc_law_counts_right.nd rfl (by first | exact Or.inl rfl | exact Or.inr rfl)) (fun _ _ _ _ _ => pts_nil) (fun _ _ _ _ _ => (pe_op op_rep (pe_lst (pa_cons pe_int pa_nil)) pe_int)))))
    (pss_cons (ps_set (i := 6) sc_law_counts_right.nd rfl (Or.inr rfl) (pe_callB call_len_seq (by rfl) T.z_len PySem.boot_len (pa_cons (pv 2) pa_nil)))
    (pss_cons (ps_setLc (i := 8) (own := [("_law_number", 7)]) (g := (gName 7)) (tt := _) rfl sc_law_counts_right.nd rfl rfl (sw_true rfl rfl rfl (by decide +kernel)) (pi_range2 (by rfl) T.z_range (pa_cons (pe_callB (call_max2 rfl) (by rfl) T.z_max PyProof.Rows.boot_max (pa_cons pe_int (pa_cons (pe_op op_sub (pe_op op_mul pe_int (pv 6)) pe_int) pa_nil))) (pa_cons (pe_op op_mul pe_int (pv 6)) pa_nil))) (blkOk_by (N := ["_law_source", "_law_bits_here", "_law_loads_here", "_law_group", "_law_load", "_law_plain", "_law_many", "_law_number", "_law_fits", "_law_due"]) (sc := defScope s_law_counts_right) (by decide +kernel)) (fun _ _ _ _ _ => pg_name (i := 7) sc_law_counts_right.nd rfl (by first | exact Or.inl rfl | exact Or.inr rfl)) (fun _ _ _ _ _ => (pts_one (pt_cmpR op_eq (pe_un un_neg (pe_op op_fdiv (pe_un un_neg (pe_op op_add (pv 7) (pe_callB (call_len_seq : CallR _ (.builtin "len") (fun xs H Q => ∃ p ys, xs = [.ref p] ∧ (SqL K H p ys ∨ SqT K H p ys) ∧ Q (.int ys.length) H)) (by rfl) T.z_len PySem.boot_len (pa_cons (C8.pe_c c_law_count hr (by omega) (by rfl) (pa_cons (pv 7) pa_nil)) pa_nil)))) pe_int)) (pv 6) (nomark _)))) (fun _ _ _ _ _ => (pv 7)))
    (pss_cons (ps_for PassesOwn.never rfl (pi_list (pe_lst (pa_cons (pe_tup (pa_cons (pe_ix ix_list (pv 8) pe_int (fun _ _ => rfl)) (pa_cons pe_str pa_nil))) (pa_cons (pe_tup (pa_cons (pe_ix ix_list (pv 8) (pe_un un_neg pe_int) (fun _ _ => rfl)) (pa_cons pe_str pa_nil))) (pa_cons (pe_tup (pa_cons (pe_op op_add (pe_ix ix_list (pv 8) (pe_un un_neg pe_int) (fun _ _ => rfl)) pe_int) (pa_cons pe_str pa_nil))) (pa_cons (pe_tup (pa_cons (pe_op op_sub (pe_ix ix_list (pv 8) pe_int (fun _ _ => rfl)) pe_int) (pa_cons pe_str pa_nil))) (pa_cons (pe_tup (pa_cons (pe_op (op_powc (a := 10) (b := 6) (c := 1000000) ⟨by decide, by decide, by decide⟩ (by decide +kernel)) pe_int pe_int) (pa_cons pe_str pa_nil))) pa_nil))))))) (pg_tup rfl (pgs_cons (pg_name (i := 7) sc_law_counts_right.nd rfl (Or.inl rfl)) (pgs_cons (pg_name (i := 9) sc_law_counts_right.nd rfl (Or.inl rfl)) pgs_nil)))
      (pss_one (ps_if (PW.pt (pw_and (pt_cmpR op_ge (pv 7) pe_int (nomark _)) (pw_and1 (pt_cmpR (op_neD hu) (C8.pe_c c_law_opened hr (by omega) (by rfl) (pa_cons (C8.pe_c c_law_counted hr (by omega) (by rfl) (pa_cons (pv 5) (pa_cons (pv 7) pa_nil))) (pa_cons (pv 3) pa_nil))) (pv 9) (nomark _))))) (pss_one (ps_ret pe_bl)) pss_nil)))
    (pss_cons (ps_for PassesOwn.never rfl (pi_list (pe_lst (pa_cons (pe_op op_cat (pe_op op_rep (pe_lst (pa_cons pe_int pa_nil)) pe_int) (pe_op op_rep (pe_lst (pa_cons pe_int pa_nil)) pe_int)) (pa_cons (pe_op op_rep (pe_lst (pa_cons pe_int pa_nil)) pe_int) (pa_cons (pe_op op_cat (C8.pe_c c_law_count hr (by omega) (by rfl) (pa_cons (pe_op op_add (pe_op (op_powc (a := 10) (b := 6) (c := 1000000) ⟨by decide, by decide, by decide⟩ (by decide +kernel)) pe_int pe_int) pe_int) pa_nil)) (pe_op op_rep (pe_lst (pa_cons pe_int pa_nil)) pe_int)) pa_nil))))) (pg_name (i := 4) sc_law_counts_right.nd rfl (Or.inl rfl))
      (pss_one (ps_if (pt_cmpR (op_neD hu) (C8.pe_c c_law_opened hr (by omega) (by rfl) (pa_cons (pe_op op_cat (pe_lst (pa_cons (pv 4) pa_nil)) (pe_slice sl_list (pv 5) (po_some pe_int) po_none)) (pa_cons (pv 3) pa_nil))) pe_str (nomark _)) (pss_one (ps_ret pe_bl)) pss_nil)))
    (pss_one (ps_ret pe_bl))))))), ?_⟩
    obtain ⟨l0, lt, rfl⟩ : ∃ l0 lt, ls = l0 :: lt := by
      cases ls with
      | nil => exact absurd hm1 (by decide)
      | cons l0 lt => exact ⟨l0, lt, rfl⟩
    have hrl : rs.length = lt.length + 1 := by rw [hR.1, List.length_map]; rfl
    obtain ⟨r0, rt, rfl⟩ : ∃ r0 rt, rs = r0 :: rt := by
      cases rs with
      | nil => exact absurd hrl (by simp)
      | cons r0 rt => exact ⟨r0, rt, rfl⟩
    have hrt : rt.length = lt.length := by simpa using hrl
    have hm2' : lt.length < 11 := Nat.lt_of_succ_lt_succ hm2
    obtain ⟨l0', g1, hr0⟩ := hR.2 0 r0 rfl
    cases g1
    have eL : ∀ {m : Nat}, m ≤ 1000 → m ≤ sizeLine := fun h => Nat.le_of_lt (small1000 h)
    walk_at "ev"
    refine ⟨p, _, _, _, rfl, rfl, .inl (.inl hp), at_of (j := 0) (by decide) rfl, ?_⟩
    walk_at "ev"
    refine ⟨by show 1 ≤ sizeLine; decide, fun c0 nc0 => ?_⟩
    walk_at "ev"
    refine ⟨p, _, rfl, .inl (.inl (new_at hp nc0)), fun c1 nc1 => ?_⟩
    rw [cut_drop (xs := (r0 :: rt).map V.ref) (y := 1) (k := 1) rfl (by simp)]
    have e0 : upd (upd H c0 (.lst [.ref r0])) c1 (.lst (((r0 :: rt).map V.ref).drop 1)) c0 = some (.lst [.ref r0]) := new_at upd_same nc1
    have e1 : upd (upd H c0 (.lst [.ref r0])) c1 (.lst (((r0 :: rt).map V.ref).drop 1)) c1 = some (.lst (rt.map V.ref)) := upd_same
    have s1 : Same H _ := (same_upd (o := .lst [.ref r0]) nc0).trans (same_upd (o := .lst (((r0 :: rt).map V.ref).drop 1)) nc1)
    generalize upd (upd H c0 (.lst [.ref r0])) c1 (.lst (((r0 :: rt).map V.ref).drop 1)) = H1 at *
    refine ⟨c1, rfl, ⟨_, .inl (.inl e1)⟩, fun D nD => ?_⟩
    refine lc_it (walk_list (xs := rt.map V.ref)) (fun t G => ∃ ds : List Addr, ds.length = t ∧ G D = some (.lst (ds.map V.ref)) ∧ Same H1 G ∧ Rws G ds ((List.replicate t zeroL).map (·.map V.int)) ∧ (∀ r ∈ ds, r ≠ D)) ⟨[], rfl, upd_same, same_upd nD, rws_nil, fun _ m => absurd m List.not_mem_nil⟩ (fun _ _ _ ⟨_, _, _, h, _⟩ => .inl (.inl (h _ _ e1))) ?_ ?_
    · rintro t x G G' ht ⟨ds, h1', h2', h3, h4, h5⟩ ⟨rfl, hx⟩
      walk_at "ev"
      refine ⟨by show 1 ≤ sizeLine; decide, fun z1 nz1 => ?_⟩
      walk_at "ev"
      refine ⟨z1, _, _, rfl, rfl, upd_same, by decide, by decide, eL (by show 1 * 48 ≤ _; decide), fun z2 nz2 => ?_⟩
      rw [flat_zeros, show ((48 : Int).toNat) = 48 from rfl]
      have ez : (List.replicate 48 (0 : Int)) = zeroL := rfl
      rw [ez]
      have eD := new_at (o' := .lst (zeroL.map V.int)) (new_at (o' := .lst [.int 0]) h2' nz1) nz2
      have z2D : z2 ≠ D := (ne_of_none (new_at (o' := .lst [.int 0]) h2' nz1) nz2).symm
      have sz := (same_upd (o := .lst [.int 0]) nz1).trans (same_upd (o := .lst (zeroL.map V.int)) nz2)
      rw [List.length_map] at ht
      refine ⟨_, eD, small1000 (by rw [List.length_map, h1']; omega), ds ++ [z2], by rw [List.length_append, h1']; rfl, by rw [upd_same, List.map_append]; rfl, fun b o e => ?_, ?_, fun r m => ?_⟩
      · rw [upd_ne (ne_of_none e nD)]
        exact sz _ _ (h3 _ _ e)
      · rw [List.replicate_succ', List.map_append]
        refine Rws.app ⟨h4.1, fun i r e => ?_⟩ (Rws.cons (by rw [upd_ne z2D, upd_same]) rws_nil)
        obtain ⟨l, g1, g2⟩ := h4.2 i r e
        refine ⟨l, g1, ?_⟩
        rw [upd_ne (h5 r (List.mem_of_getElem? e))]
        exact sz _ _ g2
      · rcases List.mem_append.mp m with m | m
        · exact h5 r m
        · rw [List.mem_singleton.mp m]
          exact z2D
    · rintro G ⟨ds, k1, k2, k3, k4, k5⟩
      rw [List.length_map] at k1 k4
      have k1' : ds.length = lt.length := k1.trans hrt
      walk_at "ev"
      refine ⟨c0, D, _, _, rfl, rfl, k3 _ _ e0, k2, eL (by rw [List.length_map]; show 1 + _ ≤ _; omega), fun pl npl => ?_⟩
      have sG : Same H _ := (s1.trans k3).trans (same_upd (o := .lst ([.ref r0] ++ ds.map V.ref)) npl)
      have epl : upd G pl (.lst ([.ref r0] ++ ds.map V.ref)) pl = some (.lst ((r0 :: ds).map V.ref)) := upd_same
      have Rpl : Rws (upd G pl (.lst ([.ref r0] ++ ds.map V.ref))) (r0 :: ds) ((l0 :: List.replicate rt.length zeroL).map (·.map V.int)) := Rws.cons (sG _ _ hr0) (k4.same (same_upd npl))
      generalize upd G pl (.lst ([.ref r0] ++ ds.map V.ref)) = G1 at *
      rw [hrt] at Rpl
      clear k4 k3 k2 e0 e1 nD nc0 nc1 npl s1 k5
      walk_at "ev"
      refine ⟨p, _, rfl, .inl (.inl (.inl (sG _ _ hp))), ?_⟩
      have hmL : (((r0 :: rt).map V.ref).length : Int) = ((lt.length + 1 : Nat) : Int) := by rw [List.length_map, List.length_cons, hrt]
      rw [hmL]
      have hm0 : lt.length + 1 < 12 := hm2
      generalize hm : lt.length + 1 = m at *
      walk_at "ev"
      have hlo : (if 48 * (m : Int) - 90 > 0 then 48 * (m : Int) - 90 else 0) = ((48 * m - 90 : Nat) : Int) := by split <;> omega
      rw [hlo]
      have hn : (48 * (m : Int) - ((48 * m - 90 : Nat) : Int)).toNat = 48 * m - (48 * m - 90) := by omega
      refine ⟨⟨by omega, by omega, by omega, by omega⟩, fun D2 nD2 => ?_⟩
      refine lc_it walk_range (fun t G => Same G1 G ∧ G D2 = some (.lst ((fitsN m (48 * m - 90) t).map fun n : Nat => V.int n))) ⟨same_upd nD2, upd_same⟩ (fun _ _ _ _ => trivial) ?_ ?_
      · rintro t x G2 G3 ht ⟨s2, e2⟩ ⟨rfl, rfl⟩
        obtain ⟨y, hy⟩ : ∃ y, 48 * m - 90 + t = y := ⟨_, rfl⟩
        have hyI : (((48 * m - 90 : Nat) : Int) + (t : Nat)) = (y : Int) := by omega
        show gName 7 (V.int (((48 * m - 90 : Nat) : Int) + (t : Nat))) _ _ _
        rw [hyI]
        have hyb : y < 2000 := by omega
        walk_at "ev"
        refine ⟨by omega, fun p1 G4 np1 s4 e4 => ?_⟩
        have hcl : ((List.map V.int (code y)).length : Int) = (code y).length := by rw [List.length_map]
        have hcy := code_len y
        have hby : bl (y + 1) ≤ 11 := bl_le (by omega)
        have s3 := s2.trans s4
        have e3 := s4 _ _ e2
        have hlen : ((fitsN m (48 * m - 90) t).map fun n : Nat => V.int n).length < sizeLine := small1000 (by rw [List.length_map]; exact Nat.le_trans fits_len (by omega))
        have hsn := fits_snoc (m := m) (lo := 48 * m - 90) (t := t)
        rw [hy] at hsn
        walk_at "ev"
        · rename_i hk
          have hf : fitN m y = true := beq_iff_eq.mpr (by omega)
          rw [if_pos hf] at hsn
          refine ⟨_, e3, hlen, fun b o e => ?_, ?_⟩
          · rw [upd_ne (ne_of_none e nD2)]
            exact s3 _ _ e
          · rw [upd_same, hsn, List.map_append]
            rfl
        · rename_i hk
          have hf : ¬ fitN m y = true := fun z => hk (by have := beq_iff_eq.mp z; omega)
          rw [if_neg hf, List.append_nil] at hsn
          rw [hsn]
          exact ⟨s3, e3⟩
      · rintro G2 ⟨s2, e2⟩
        rw [hn] at e2
        obtain ⟨fa, fb, f1, f2, f3, f4, f5, f6, f7, f8, f9⟩ := fits_ends hm0 (by omega)
        generalize fitsN m (48 * m - 90) (48 * m - (48 * m - 90)) = fits at *
        obtain ⟨fn, hfn⟩ : ∃ n, fits.length = n + 1 := ⟨fits.length - 1, by have := (List.getElem?_eq_some_iff.mp f1).1; omega⟩
        have g0 : (fits.map fun n : Nat => V.int n)[0]? = some (V.int fa) := by rw [List.getElem?_map, f1]; rfl
        have g1 : atI (fits.map fun n : Nat => V.int n) (-1) = some (V.int fb) := by
          refine atI_end (n := fn) (by rw [List.length_map]; exact hfn) ?_
          rw [List.getLast?_map, f2]
          rfl
        walk_at "ev"
        refine ⟨D2, _, _, _, rfl, rfl, .inl (.inl e2), at_of (j := 0) (by decide) g0, ?_⟩
        walk_at "ev"
        refine ⟨by show 2 ≤ sizeLine; decide, fun t1 nt1 => ?_⟩
        have d1 := new_at (o' := .tup [.int fa, .str "let"]) e2 nt1
        have b1 : upd G2 t1 (.tup [.int fa, .str "let"]) t1 = some (.tup [.int fa, .str "let"]) := upd_same
        have u1 : Same G2 _ := same_upd (o := .tup [.int fa, .str "let"]) nt1
        generalize upd G2 t1 (.tup [.int fa, .str "let"]) = G3 at *
        walk_at "ev"
        refine ⟨D2, _, _, _, rfl, rfl, .inl (.inl d1), g1, ?_⟩
        walk_at "ev"
        refine ⟨by show 2 ≤ sizeLine; decide, fun t2 nt2 => ?_⟩
        have d2 := new_at (o' := .tup [.int fb, .str "let"]) d1 nt2
        have b2 : upd G3 t2 (.tup [.int fb, .str "let"]) t2 = some (.tup [.int fb, .str "let"]) := upd_same
        have u2 : Same G2 _ := u1.trans (same_upd (o := .tup [.int fb, .str "let"]) nt2)
        replace b1 := new_at (o' := .tup [.int fb, .str "let"]) b1 nt2
        generalize upd G3 t2 (.tup [.int fb, .str "let"]) = G4 at *
        walk_at "ev"
        refine ⟨D2, _, _, _, rfl, rfl, .inl (.inl d2), g1, ?_⟩
        walk_at "ev"
        refine ⟨by show 2 ≤ sizeLine; decide, fun t3 nt3 => ?_⟩
        have d3 := new_at (o' := .tup [.int ((fb : Int) + 1), .str "cells"]) d2 nt3
        have b3 : upd G4 t3 (.tup [.int ((fb : Int) + 1), .str "cells"]) t3 = some (.tup [.int ((fb : Int) + 1), .str "cells"]) := upd_same
        have u3 : Same G2 _ := u2.trans (same_upd (o := .tup [.int ((fb : Int) + 1), .str "cells"]) nt3)
        replace b1 := new_at (o' := .tup [.int ((fb : Int) + 1), .str "cells"]) b1 nt3
        replace b2 := new_at (o' := .tup [.int ((fb : Int) + 1), .str "cells"]) b2 nt3
        generalize upd G4 t3 (.tup [.int ((fb : Int) + 1), .str "cells"]) = G5 at *
        walk_at "ev"
        refine ⟨D2, _, _, _, rfl, rfl, .inl (.inl d3), at_of (j := 0) (by decide) g0, ?_⟩
        walk_at "ev"
        refine ⟨by show 2 ≤ sizeLine; decide, fun t4 nt4 => ?_⟩
        have b4 : upd G5 t4 (.tup [.int ((fa : Int) - 1), .str "cells"]) t4 = some (.tup [.int ((fa : Int) - 1), .str "cells"]) := upd_same
        have u4 : Same G2 _ := u3.trans (same_upd (o := .tup [.int ((fa : Int) - 1), .str "cells"]) nt4)
        replace b1 := new_at (o' := .tup [.int ((fa : Int) - 1), .str "cells"]) b1 nt4
        replace b2 := new_at (o' := .tup [.int ((fa : Int) - 1), .str "cells"]) b2 nt4
        replace b3 := new_at (o' := .tup [.int ((fa : Int) - 1), .str "cells"]) b3 nt4
        generalize upd G5 t4 (.tup [.int ((fa : Int) - 1), .str "cells"]) = G6 at *
        walk_at "ev"
        refine ⟨by show 2 ≤ sizeLine; decide, fun t5 nt5 => ?_⟩
        have b5 : upd G6 t5 (.tup [.int 1000000, .str "cells"]) t5 = some (.tup [.int 1000000, .str "cells"]) := upd_same
        have u5 : Same G2 _ := u4.trans (same_upd (o := .tup [.int 1000000, .str "cells"]) nt5)
        replace b1 := new_at (o' := .tup [.int 1000000, .str "cells"]) b1 nt5
        replace b2 := new_at (o' := .tup [.int 1000000, .str "cells"]) b2 nt5
        replace b3 := new_at (o' := .tup [.int 1000000, .str "cells"]) b3 nt5
        replace b4 := new_at (o' := .tup [.int 1000000, .str "cells"]) b4 nt5
        generalize upd G6 t5 (.tup [.int 1000000, .str "cells"]) = G7 at *
        walk_at "ev"
        refine ⟨by show 5 ≤ sizeLine; decide, fun t6 nt6 => ?_⟩
        have b6 : upd G7 t6 (.lst [.ref t1, .ref t2, .ref t3, .ref t4, .ref t5]) t6 = some (.lst [.ref t1, .ref t2, .ref t3, .ref t4, .ref t5]) := upd_same
        have u6 : Same G2 _ := u5.trans (same_upd (o := .lst [.ref t1, .ref t2, .ref t3, .ref t4, .ref t5]) nt6)
        replace b1 := new_at (o' := .lst [.ref t1, .ref t2, .ref t3, .ref t4, .ref t5]) b1 nt6
        replace b2 := new_at (o' := .lst [.ref t1, .ref t2, .ref t3, .ref t4, .ref t5]) b2 nt6
        replace b3 := new_at (o' := .lst [.ref t1, .ref t2, .ref t3, .ref t4, .ref t5]) b3 nt6
        replace b4 := new_at (o' := .lst [.ref t1, .ref t2, .ref t3, .ref t4, .ref t5]) b4 nt6
        replace b5 := new_at (o' := .lst [.ref t1, .ref t2, .ref t3, .ref t4, .ref t5]) b5 nt6
        generalize upd G7 t6 (.lst [.ref t1, .ref t2, .ref t3, .ref t4, .ref t5]) = G8 at *
        have u8 : Same G1 G8 := s2.trans u6
        have epl8 := u8 _ _ epl
        have R8 := Rpl.same u8
        have t8 := tabs_same hT (sG.trans u8)
        have x8 : LamX.ExtN H G8 := ext_same (sG.trans u8)
        clear u6 u5 u4 u3 u2 u1 nt6 nt5 nt4 nt3 nt2 nt1 d1 d2 d3 e2
        have hz : ∀ l ∈ List.replicate lt.length zeroL, l = zeroL := fun l m => (List.mem_replicate.mp m).2
        have hzl : (List.replicate lt.length zeroL).length + 1 = m := by rw [List.length_replicate]; exact hm
        have hit : ∀ (i : Nat) (x : V), [V.ref t1, V.ref t2, V.ref t3, V.ref t4, V.ref t5][i]? = some x → ∃ (t : Addr) (z : Int) (due : Str), x = .ref t ∧ G8 t = some (.tup [.int z, .str due]) ∧ (z < 0 ∨ ∃ n : Nat, z = n ∧ n ≤ 1000000 ∧ ((due = "let" ∧ OpenLet ((cntL n :: List.replicate lt.length zeroL).map some)) ∨ (due = "cells" ∧ OpenBad ((cntL n :: List.replicate lt.length zeroL).map some)))) := by
          intro i x hx
          match i, hx with
          | 0, hx => exact ⟨t1, _, _, (Option.some.inj hx).symm, b1, .inr ⟨fa, rfl, by omega, .inl ⟨rfl, cnt_let (by omega) hz hzl f3⟩⟩⟩
          | 1, hx => exact ⟨t2, _, _, (Option.some.inj hx).symm, b2, .inr ⟨fb, rfl, by omega, .inl ⟨rfl, cnt_let (by omega) hz hzl f4⟩⟩⟩
          | 2, hx => exact ⟨t3, _, _, (Option.some.inj hx).symm, b3, .inr ⟨fb + 1, rfl, by omega, .inr ⟨rfl, cnt_bad (by omega) hzl f5⟩⟩⟩
          | 3, hx =>
            refine ⟨t4, _, _, (Option.some.inj hx).symm, b4, ?_⟩
            rcases f6 with f6 | f6
            · exact .inl (by omega)
            · by_cases h0 : fa = 0
              · exact .inl (by omega)
              · exact .inr ⟨fa - 1, by omega, by omega, .inr ⟨rfl, cnt_bad (by omega) hzl f6⟩⟩
          | 4, hx => exact ⟨t5, _, _, (Option.some.inj hx).symm, b5, .inr ⟨1000000, rfl, by omega, .inr ⟨rfl, cnt_bad (by omega) hzl f9⟩⟩⟩
        refine ⟨t6, rfl, ⟨_, .inl (.inl b6)⟩, for_list (K := K) (a := t6) (xs := [.ref t1, .ref t2, .ref t3, .ref t4, .ref t5]) (fun i σ G => ∃ v7 v9, σ = [some (.ref a), some (.ref b), some (.ref p), some (.int g), none, some (.ref pl), some (.int m), v7, some (.ref D2), v9] ∧ LamX.ExtN G8 G ∧ LamX.Tabs (tabsK PB PO PS PF) G) ⟨_, _, rfl, LamX.ExtN.refl _, t8⟩ (fun _ _ _ _ ⟨_, _, _, x, _⟩ => .inl (.inl (x _ _ b6 (fun _ z => nomatch z)))) ?_ ?_⟩
        · rintro i x σ J hx ⟨v7, v9, rfl, xJ, tJ⟩
          obtain ⟨tt, z, due, rfl, htt, hzz⟩ := hit i x hx
          have eJ := xJ _ _ htt (fun _ z => nomatch z)
          have pJ := xJ _ _ epl8 (fun _ z => nomatch z)
          have RJ : Rws J (r0 :: ds) ((l0 :: List.replicate lt.length zeroL).map (·.map V.int)) := ⟨R8.1, fun i r e => by
            obtain ⟨l, g1, g2⟩ := R8.2 i r e
            exact ⟨l, g1, xJ _ _ g2 (fun _ z => nomatch z)⟩⟩
          walk_at "ev"
          · rename_i hz0
            rcases hzz with hzz | ⟨n, rfl, hn6, hdue⟩
            · exact absurd hzz (by omega)
            have hcn := code_len n
            have hbn : bl (n + 1) ≤ 20 := bl_le (by omega)
            refine ⟨pl, r0 :: ds, l0 :: List.replicate lt.length zeroL, n, rfl, pJ, RJ, by rw [List.length_cons]; omega, by rw [List.length_cons, hzl]; omega, by omega, by omega, fun q1 cs J1 nq1 sJ1 eq1 Rq1 => ?_⟩
            have hcd : countedL (l0 :: List.replicate lt.length zeroL) n = cntL n :: List.replicate lt.length zeroL := rfl
            rw [hcd] at Rq1
            have hcload : ∀ l ∈ cntL n :: List.replicate lt.length zeroL, IsLoad l := fun l ml => by
              rcases List.mem_cons.mp ml with rfl | ml
              · exact cntL_load (by omega)
              · rw [hz l ml]
                exact zeroL_load
            walk_at "ev"
            refine ⟨q1, cs, _, g, due, rfl, eq1, Rq1, hcload, (fun z => nomatch z), by rw [List.length_cons, hzl]; omega, h1, h2, hdue, tabs_same tJ sJ1, fun J2 x2 t2 => ?_⟩
            have hsw : SeqAt.shaped (.str due) = true := by rcases hdue with ⟨rfl, _⟩ | ⟨rfl, _⟩ <;> decide +kernel
            walk_at "ev"
            refine q_neS (d := .str due) (.str _) (.str _) hsw ?_
            walk_at "ev"
            exact ⟨xJ.trans ((ext_same sJ1).trans x2), t2⟩
          · exact ⟨xJ, tJ⟩
        · rintro σ J ⟨v7, v9, rfl, xJ, tJ⟩
          have pJ := xJ _ _ epl8 (fun _ z => nomatch z)
          have RJ : Rws J (r0 :: ds) ((l0 :: List.replicate lt.length zeroL).map (·.map V.int)) := ⟨R8.1, fun i r e => by
            obtain ⟨l, g1, g2⟩ := R8.2 i r e
            exact ⟨l, g1, xJ _ _ g2 (fun _ z => nomatch z)⟩⟩
          have xH := x8.trans xJ
          clear hit b1 b2 b3 b4 b5 b6 xJ x8 t8 R8 epl8 u8 f1 f2 f3 f4 f5 f6 f7 f8 f9 g0 g1 sG Rpl epl s2
          walk_at "ev"
          refine ⟨by show 1 ≤ sizeLine; decide, fun z1 nz1 => ?_⟩
          walk_at "ev"
          refine ⟨z1, _, _, rfl, rfl, upd_same, by decide, by decide, eL (by show 1 * 20 ≤ _; decide), fun z2 nz2 => ?_⟩
          rw [flat_zeros, show ((20 : Int).toNat) = 20 from rfl]
          have e2 : upd (upd J z1 (.lst [.int 0])) z2 (.lst ((List.replicate 20 (0 : Int)).map V.int)) z2 = some (.lst ((List.replicate 20 (0 : Int)).map V.int)) := upd_same
          have s2 : Same J _ := (same_upd (o := .lst [.int 0]) nz1).trans (same_upd (o := .lst ((List.replicate 20 (0 : Int)).map V.int)) nz2)
          generalize upd (upd J z1 (.lst [.int 0])) z2 (.lst ((List.replicate 20 (0 : Int)).map V.int)) = J2 at *
          walk_at "ev"
          refine ⟨by show 1 ≤ sizeLine; decide, fun z3 nz3 => ?_⟩
          walk_at "ev"
          refine ⟨z3, _, _, rfl, rfl, upd_same, by decide, by decide, eL (by show 1 * 28 ≤ _; decide), fun z4 nz4 => ?_⟩
          rw [rep_one, show ((28 : Int).toNat) = 28 from rfl]
          have e4 : upd (upd J2 z3 (.lst [.int 1])) z4 (.lst ((List.replicate 28 (1 : Int)).map V.int)) z4 = some (.lst ((List.replicate 28 (1 : Int)).map V.int)) := upd_same
          have e24 := new_at (o' := .lst ((List.replicate 28 (1 : Int)).map V.int)) (new_at (o' := .lst [.int 1]) e2 nz3) nz4
          have s4 : Same J _ := s2.trans ((same_upd (o := .lst [.int 1]) nz3).trans (same_upd (o := .lst ((List.replicate 28 (1 : Int)).map V.int)) nz4))
          generalize upd (upd J2 z3 (.lst [.int 1])) z4 (.lst ((List.replicate 28 (1 : Int)).map V.int)) = J4 at *
          refine ⟨z2, z4, _, _, rfl, rfl, e24, e4, eL (by rw [List.length_map, List.length_map, List.length_replicate, List.length_replicate]; decide), fun l1 nl1 => ?_⟩
          rw [← List.map_append]
          have k1 : upd J4 l1 (.lst ((List.replicate 20 (0 : Int) ++ List.replicate 28 1).map V.int)) l1 = some (.lst ((List.replicate 20 (0 : Int) ++ List.replicate 28 1).map V.int)) := upd_same
          have s5 : Same J _ := s4.trans (same_upd (o := .lst ((List.replicate 20 (0 : Int) ++ List.replicate 28 1).map V.int)) nl1)
          generalize upd J4 l1 (.lst ((List.replicate 20 (0 : Int) ++ List.replicate 28 1).map V.int)) = J5 at *
          clear s2 s4 e2 e4 e24 nz1 nz2 nz3 nz4 nl1
          walk_at "ev"
          refine ⟨by show 1 ≤ sizeLine; decide, fun z1 nz1 => ?_⟩
          walk_at "ev"
          refine ⟨z1, _, _, rfl, rfl, upd_same, by decide, by decide, eL (by show 1 * 48 ≤ _; decide), fun l2 nl2 => ?_⟩
          rw [flat_zeros, show ((48 : Int).toNat) = 48 from rfl]
          have k2 : upd (upd J5 z1 (.lst [.int 0])) l2 (.lst ((List.replicate 48 (0 : Int)).map V.int)) l2 = some (.lst ((List.replicate 48 (0 : Int)).map V.int)) := upd_same
          have s6 : Same J _ := s5.trans ((same_upd (o := .lst [.int 0]) nz1).trans (same_upd (o := .lst ((List.replicate 48 (0 : Int)).map V.int)) nl2))
          replace k1 := new_at (o' := .lst ((List.replicate 48 (0 : Int)).map V.int)) (new_at (o' := .lst [.int 0]) k1 nz1) nl2
          generalize upd (upd J5 z1 (.lst [.int 0])) l2 (.lst ((List.replicate 48 (0 : Int)).map V.int)) = J6 at *
          clear s5 nz1 nl2
          walk_at "ev"
          refine ⟨by decide, fun c1 J7 nc1 s7 e7 => ?_⟩
          replace e7 : J7 c1 = some (.lst ((code 1000001).map V.int)) := e7
          walk_at "ev"
          refine ⟨by show 1 ≤ sizeLine; decide, fun z3 nz3 => ?_⟩
          walk_at "ev"
          refine ⟨z3, _, _, rfl, rfl, upd_same, by decide, by decide, eL (by show 1 * 9 ≤ _; decide), fun z4 nz4 => ?_⟩
          rw [flat_zeros, show ((9 : Int).toNat) = 9 from rfl]
          have e4 : upd (upd J7 z3 (.lst [.int 0])) z4 (.lst ((List.replicate 9 (0 : Int)).map V.int)) z4 = some (.lst ((List.replicate 9 (0 : Int)).map V.int)) := upd_same
          have e74 := new_at (o' := .lst ((List.replicate 9 (0 : Int)).map V.int)) (new_at (o' := .lst [.int 0]) e7 nz3) nz4
          have s8 : Same J6 _ := s7.trans ((same_upd (o := .lst [.int 0]) nz3).trans (same_upd (o := .lst ((List.replicate 9 (0 : Int)).map V.int)) nz4))
          generalize upd (upd J7 z3 (.lst [.int 0])) z4 (.lst ((List.replicate 9 (0 : Int)).map V.int)) = J8 at *
          refine ⟨c1, z4, _, _, rfl, rfl, e74, e4, eL (by rw [List.length_map, List.length_map, List.length_replicate, code_39]; decide), fun l3 nl3 => ?_⟩
          rw [← List.map_append]
          have k3 : upd J8 l3 (.lst ((code 1000001 ++ List.replicate 9 0).map V.int)) l3 = some (.lst ((code 1000001 ++ List.replicate 9 0).map V.int)) := upd_same
          have s9 : Same J6 _ := s8.trans (same_upd (o := .lst ((code 1000001 ++ List.replicate 9 0).map V.int)) nl3)
          generalize upd J8 l3 (.lst ((code 1000001 ++ List.replicate 9 0).map V.int)) = J9 at *
          replace k1 := s9 _ _ k1
          replace k2 := s9 _ _ k2
          walk_at "ev"
          refine ⟨by show 3 ≤ sizeLine; decide, fun l4 nl4 => ?_⟩
          have sA : Same J _ := (s6.trans s9).trans (same_upd (o := .lst [.ref l1, .ref l2, .ref l3]) nl4)
          replace k1 := new_at (o' := .lst [.ref l1, .ref l2, .ref l3]) k1 nl4
          replace k2 := new_at (o' := .lst [.ref l1, .ref l2, .ref l3]) k2 nl4
          replace k3 := new_at (o' := .lst [.ref l1, .ref l2, .ref l3]) k3 nl4
          have k4 : upd J9 l4 (.lst [.ref l1, .ref l2, .ref l3]) l4 = some (.lst [.ref l1, .ref l2, .ref l3]) := upd_same
          generalize upd J9 l4 (.lst [.ref l1, .ref l2, .ref l3]) = JA at *
          clear s6 s9 s8 s7 e74 e4 e7 nz3 nz4 nl3 nl4 nc1
          have hit : ∀ (i : Nat) (x : V), [V.ref l1, V.ref l2, V.ref l3][i]? = some x → ∃ (t : Addr) (l : List Int), x = .ref t ∧ JA t = some (.lst (l.map V.int)) ∧ IsLoad l ∧ ∀ n, SpanBad l n := by
            intro i x hx
            match i, hx with
            | 0, hx => exact ⟨l1, _, (Option.some.inj hx).symm, k1, ⟨by decide, (AreBits.zeros 20).app fun x m => by rw [(List.mem_replicate.mp m).2]; decide⟩, bad_1⟩
            | 1, hx => exact ⟨l2, _, (Option.some.inj hx).symm, k2, zeroL_load, bad_2⟩
            | 2, hx => exact ⟨l3, _, (Option.some.inj hx).symm, k3, ⟨by rw [List.length_append, code_39]; rfl, (code_bits _).app (AreBits.zeros 9)⟩, bad_3⟩
          have pA := sA _ _ pJ
          have RA := RJ.same sA
          have tA := tabs_same tJ sA
          have xA := xH.trans (ext_same sA)
          refine ⟨l4, rfl, ⟨_, .inl (.inl k4)⟩, for_list (K := K) (a := l4) (xs := [.ref l1, .ref l2, .ref l3]) (fun i σ G => ∃ v4, σ = [some (.ref a), some (.ref b), some (.ref p), some (.int g), v4, some (.ref pl), some (.int m), v7, some (.ref D2), v9] ∧ LamX.ExtN JA G ∧ LamX.Tabs (tabsK PB PO PS PF) G) ⟨_, rfl, LamX.ExtN.refl _, tA⟩ (fun _ _ _ _ ⟨_, _, x, _⟩ => .inl (.inl (x _ _ k4 (fun _ z => nomatch z)))) ?_ ?_⟩
          · rintro i x σ M hx ⟨v4, rfl, xM, tM⟩
            obtain ⟨tt, l, rfl, htt, hll, hbad⟩ := hit i x hx
            have eM := xM _ _ htt (fun _ z => nomatch z)
            have pM := xM _ _ pA (fun _ z => nomatch z)
            have RM : Rws M (r0 :: ds) ((l0 :: List.replicate lt.length zeroL).map (·.map V.int)) := ⟨RA.1, fun i r e => by
              obtain ⟨l, g1, g2⟩ := RA.2 i r e
              exact ⟨l, g1, xM _ _ g2 (fun _ z => nomatch z)⟩⟩
            walk_at "ev"
            refine ⟨by show 1 ≤ sizeLine; decide, fun z5 nz5 => ?_⟩
            walk_at "ev"
            refine ⟨pl, _, rfl, .inl (.inl (new_at pM nz5)), fun z6 nz6 => ?_⟩
            rw [cut_drop (xs := (r0 :: ds).map V.ref) (y := 1) (k := 1) rfl (by simp)]
            refine ⟨z5, z6, _, _, rfl, rfl, new_at upd_same nz6, upd_same, eL (by rw [List.length_drop, List.length_map]; show 1 + (ds.length + 1 - 1) ≤ 1000; omega), fun z7 nz7 => ?_⟩
            have sM := ((same_upd (o := .lst [.ref tt]) nz5).trans (same_upd (o := .lst (((r0 :: ds).map V.ref).drop 1)) nz6)).trans (same_upd (o := .lst ([.ref tt] ++ ((r0 :: ds).map V.ref).drop 1)) nz7)
            have eZ : upd (upd (upd M z5 (.lst [.ref tt])) z6 (.lst (((r0 :: ds).map V.ref).drop 1))) z7 (.lst ([.ref tt] ++ ((r0 :: ds).map V.ref).drop 1)) z7 = some (.lst ((tt :: ds).map V.ref)) := upd_same
            have RZ : Rws (upd (upd (upd M z5 (.lst [.ref tt])) z6 (.lst (((r0 :: ds).map V.ref).drop 1))) z7 (.lst ([.ref tt] ++ ((r0 :: ds).map V.ref).drop 1))) (tt :: ds) ((l :: List.replicate lt.length zeroL).map (·.map V.int)) := Rws.cons (sM _ _ eM) ((rws_drop RM 1).same sM)
            generalize upd (upd (upd M z5 (.lst [.ref tt])) z6 (.lst (((r0 :: ds).map V.ref).drop 1))) z7 (.lst ([.ref tt] ++ ((r0 :: ds).map V.ref).drop 1)) = M2 at *
            have hcload : ∀ y ∈ l :: List.replicate lt.length zeroL, IsLoad y := fun y ml => by
              rcases List.mem_cons.mp ml with rfl | ml
              · exact hll
              · rw [hz y ml]
                exact zeroL_load
            walk_at "ev"
            refine ⟨z7, tt :: ds, _, g, "cells", rfl, eZ, RZ, hcload, (fun z => nomatch z), by rw [List.length_cons, hzl]; omega, h1, h2, .inr ⟨rfl, load_bad (hbad _)⟩, tabs_same tM sM, fun M3 x3 t3 => ?_⟩
            walk_at "ev"
            refine tC_in ?_
            refine q_neS (d := .str "cells") (.str _) (.str _) (by decide +kernel) ?_
            walk_at "ev"
            exact ⟨xM.trans ((ext_same sM).trans x3), t3⟩
          · rintro σ M ⟨v4, rfl, xM, tM⟩
            walk_at "ev"
            exact q M (xA.trans xM) tM
/-! ### fillings that are refused -/
theorem fill_set {xs L : List Int} {n p : Nat} (hb : AreBits xs) (hn : (loadsL xs).length = n + 1) (hL : (loadsL xs)[n]? = some L) (h1 : 48 - fillN xs ≤ p) (h2 : p ≤ 47) :
    ∃ R, (1 : Int) ∈ R ∧ IsLoad (L.take p ++ [1] ++ L.drop (p + 1)) ∧ ((loadsL xs).dropLast ++ [L.take p ++ [1] ++ L.drop (p + 1)]).flatten = code xs.length ++ xs ++ R := by
  have hld := loadsL_load hb
  have hne := loadsL_ne xs
  have hlast : (loadsL xs).getLast hne = L := by
    have e := List.getLast?_eq_some_getLast hne
    rw [List.getLast?_eq_getElem?, hn] at e
    have e2 : (loadsL xs)[n]? = some ((loadsL xs).getLast hne) := e
    rw [hL] at e2
    exact (Option.some.inj e2).symm
  have hlo := hld L (List.mem_of_getElem? hL)
  have hfn : fillN xs < 48 := Nat.mod_lt _ (by decide)
  obtain ⟨A', k1, k2, k3⟩ := last_split (ls := loadsL xs) (fun l m => (hld l m).1) hne (A := code xs.length ++ xs) (B := List.replicate (fillN xs) 0) (by rw [loadsL_flat, fillL_eq]) (by rw [List.length_replicate]; omega)
  rw [hlast] at k1
  rw [List.length_replicate] at k2
  have hs := set_one (A := A') (k := fillN xs) (p := p) (by omega) (by omega)
  rw [← k1] at hs
  refine ⟨List.replicate (p - A'.length) 0 ++ [1] ++ List.replicate (fillN xs - (p - A'.length) - 1) 0, ?_, ⟨?_, ?_⟩, ?_⟩
  · exact List.mem_append_left _ (List.mem_append_right _ (List.mem_singleton.mpr rfl))
  · rw [List.length_append, List.length_append, List.length_take, List.length_drop, hlo.1]
    show min p 48 + 1 + _ = 48
    omega
  · exact ((hlo.2.take _).app fun x m => by rw [List.mem_singleton.mp m]; decide).app (hlo.2.drop _)
  · rw [List.flatten_append, hs]
    show (loadsL xs).dropLast.flatten ++ ((A' ++ _) ++ []) = _
    rw [List.append_nil, ← List.append_assoc, k3]
def flipC (c : List Int) : List Int := (1 - c.getD 0 0) :: c.drop 1
theorem flipC_ok {c : List Int} (hl : c.length = 56) (hb : AreBits c) (hg : goodC c = true) : (flipC c).length = 56 ∧ AreBits (flipC c) ∧ goodC (flipC c) = false := by
  cases c with
  | nil => cases hl
  | cons z r => exact ⟨hl, flip_bits hb, flip_bad hl hb hg⟩
theorem rws_take {H : Hp} {rs : List Addr} {ls : List (List V)} (h : Rws H rs ls) (n : Nat) : Rws H (rs.take n) (ls.take n) := ⟨by rw [List.length_take, List.length_take, h.1], fun i r e => by
  rw [List.getElem?_take] at e
  split at e
  · rename_i hi
    obtain ⟨l, e1, e2⟩ := h.2 _ r e
    exact ⟨l, by rw [List.getElem?_take, if_pos hi]; exact e1, e2⟩
  · cases e⟩
def spFillings (PB PO PS PF : Addr) : Sp := fun vs H Q _ => ∃ (a b p : Addr) (rs : List Addr) (xs : List Int) (g : Nat), vs = [.ref a, .ref b, .ref p, .int g] ∧ Src H a ∧ H b = some (.lst (xs.map V.int)) ∧ H p = some (.lst (rs.map V.ref)) ∧ p ≠ a ∧ (∀ r ∈ rs, r ≠ a) ∧ Rws H rs ((loadsL xs).map (·.map V.int)) ∧ AreBits xs ∧ xs.length ≤ 400 ∧ 1 ≤ g ∧ g ≤ 8 ∧ LamX.Tabs (tabsK PB PO PS PF) H ∧ ∀ H', Src H' a → UpN a H H' → LamX.Tabs (tabsK PB PO PS PF) H' → Q (.bl true) H'
theorem ok_fillings {f cF PB PO PS PF gH B O C N f2 : Addr} {fd fd2 : FuncData} {k : Nat} (F : FunC K "_law_fillings_right" "_law_fillings_right" s_law_fillings_right f fd cF) (T : Txt mg) (D : HeardD K mg gH B O C N) (TBF : LamX.TabB base mg cF PF) (hne : Apart PB PO PS PF)
    (G_open_cells : FnOk P w K mg base (L2.CX P w) 5 f2 fd2 ["protected", "group"] (spOpen2 B O C)) (g_open_cells : mg "open_cells" = some (.ref f2)) (k_open_cells : PySem.W.keepIn K (.ref f2) = true) (b_open_cells : Binds K fd2 ["protected", "group"] [])
    (c_law_count : C8.Cal P w K mg base 1 "_law_count" spCountL []) (c_law_take : C8.Cal P w K mg base 1 "_law_take" spTake []) (c_law_opened : C8.Cal P w K mg base 8 "_law_opened" (spOpenedL PB PO PS PF) []) (c_law_cells : C8.Cal P w K mg base 2 "_law_cells" spCellsL []) (c_law_joined : C8.Cal P w K mg base 1 "_law_joined" spJoinL []) :
    FnOk P w K mg base CX0 (k + 9) f fd ["_law_source", "_law_bits_here", "_law_loads_here", "_law_group"] (spFillings PB PO PS PF) := by
  refine F.ok sc_law_fillings_right (fun vs H Q E h => ?_) (fun A outer s H vs Q E hr h => ?_)
  · obtain ⟨a, b, p, rs, xs, g, rfl, _⟩ := h
    rfl
  · obtain ⟨a, b, p, rs, xs, g, rfl, ha, hbx, hp, pa, hra, hR, hb, hxl, h1, h2, hT, q⟩ := h
    have hu := hr.units
    have eL : ∀ {m : Nat}, m ≤ 1000 → m ≤ sizeLine := fun h => Nat.le_of_lt (small1000 h)
    have hcl := code_len xs.length
    have hbl : bl (xs.length + 1) ≤ 10 := bl_le (by omega)
    have hn1 := loadsL_len xs
    have hld := loadsL_load hb
    obtain ⟨n, hn⟩ : ∃ n, (loadsL xs).length = n + 1 := ⟨(loadsL xs).length - 1, by have := List.length_pos_iff.mpr (loadsL_ne xs); omega⟩
    have hrl : rs.length = n + 1 := by rw [hR.1, List.length_map, hn]
    obtain ⟨rL, hrL⟩ : ∃ rL, rs[n]? = some rL := ⟨_, List.getElem?_eq_getElem (by omega)⟩
    obtain ⟨L, hL, eL0⟩ : ∃ L, (loadsL xs)[n]? = some L ∧ H rL = some (.lst (L.map V.int)) := by
      obtain ⟨l, g1, g2⟩ := hR.2 n rL hrL
      rw [List.getElem?_map] at g1
      obtain ⟨L, h, rfl⟩ := Option.map_eq_some_iff.mp g1
      exact ⟨L, h, g2⟩
    have hlo := hld L (List.mem_of_getElem? hL)
    have hatL : atI (rs.map V.ref) (-1) = some (.ref rL) := atI_end (n := n) (by rw [List.length_map, hrl]) (by rw [List.getLast?_eq_getElem?, List.length_map, hrl, List.getElem?_map, show n + 1 - 1 = n by omega, hrL]; rfl)
    have rLa : rL ≠ a := hra rL (List.mem_of_getElem? hrL)
    refine ⟨_, (pss_cons (ps_set (i := 4) sc_law_fillings_right.nd rfl (Or.inl rfl) (pe_op op_mod (pe_un un_neg (pe_op op_add (pe_callB call_len_seq (by rfl) T.z_len PySem.boot_len (pa_cons (C8.pe_c c_law_count hr (by omega) (by rfl) (pa_cons (pe_callB call_len_seq (by rfl) T.z_len PySem.boot_len (pa_cons (pv 1) pa_nil)) pa_nil)) pa_nil)) (pe_callB call_len_seq (by rfl) T.z_len PySem.boot_len (pa_cons (pv 1) pa_nil)))) pe_int))
    (pss_cons (ps_if (pt_cmpR op_eq (pv 4) pe_int (nomark _)) (pss_one (ps_ret pe_bl)) pss_nil)
    (pss_cons (ps_set (i := 5) sc_law_fillings_right.nd rfl (Or.inl rfl) (pe_op op_sub pe_int (C8.pe_c c_law_take hr (by omega) (by rfl) (pa_cons (pv 0) (pa_cons (pv 4) pa_nil)))))
    (pss_cons (ps_set (i := 6) sc_law_fillings_right.nd rfl (Or.inl rfl) (pe_op op_cat (pe_op op_cat (pe_slice sl_list (pe_ix ix_list (pv 2) (pe_un un_neg pe_int) (fun _ _ => rfl)) po_none (po_some (pv 5))) (pe_lst (pa_cons pe_int pa_nil))) (pe_slice sl_list (pe_ix ix_list (pv 2) (pe_un un_neg pe_int) (fun _ _ => rfl)) (po_some (pe_op op_add (pv 5) pe_int)) po_none)))
    (pss_cons (ps_if (pt_cmpR (op_neD hu) (C8.pe_c c_law_opened hr (by omega) (by rfl) (pa_cons (pe_op op_cat (pe_slice sl_list (pv 2) po_none (po_some (pe_un un_neg pe_int))) (pe_lst (pa_cons (pv 6) pa_nil))) (pa_cons (pv 3) pa_nil))) pe_str (nomark _)) (pss_one (ps_ret pe_bl)) pss_nil)
    (pss_cons (ps_if (pt_cmpR op_eq (pe_callB call_len_seq (by rfl) T.z_len PySem.boot_len (pa_cons (pv 2) pa_nil)) pe_int (nomark _)) (pss_one (ps_ret pe_bl)) pss_nil)
    (pss_cons (ps_set (i := 7) sc_law_fillings_right.nd rfl (Or.inl rfl) (C8.pe_c c_law_cells hr (by omega) (by rfl) (pa_cons (pe_op op_cat (pe_slice sl_list (pv 2) po_none (po_some (pe_un un_neg pe_int))) (pe_lst (pa_cons (pv 6) pa_nil))) (pa_cons (pv 3) pa_nil))))
    (pss_cons (ps_set (i := 1) sc_law_fillings_right.nd rfl (Or.inr rfl) (C8.pe_c c_law_joined hr (by omega) (by rfl) (pa_cons (pe_op op_cat (pe_slice sl_list (pv 7) po_none (po_some (pe_un un_neg pe_int))) (pe_lc (own := [("_law_cell", 8)]) (g := (gName 8)) (tt := tYes) rfl sc_law_fillings_right.nd (pi_list (pe_slice sl_list (pv 7) (po_some (pe_un un_neg pe_int)) po_none)) (blkOk_by (N := ["_law_source", "_law_bits_here", "_law_loads_here", "_law_group", "_law_filled", "_law_place", "_law_last", "_law_cells_here", "_law_cell"]) (sc := defScope s_law_fillings_right) (by decide +kernel)) (fun _ _ _ _ _ => pg_name (i := 8) sc_law_fillings_right.nd rfl (by first | exact Or.inl rfl | exact Or.inr rfl)) (fun _ _ _ _ _ => pts_nil) (fun _ _ _ _ _ => (pe_op op_cat (pe_lst (pa_cons (pe_op op_sub pe_int (pe_ix (ix_list : IxR _ (rIxL K)) (pv 8) pe_int (fun _ _ => rfl))) pa_nil)) (pe_slice (sl_list : SlR _ (rSlL K)) (pv 8) (po_some pe_int) po_none))))) pa_nil)))
    (pss_one (ps_ret (pe_cmpR (op_eqD hu) (pe_heard (k := 5) D (by rfl) TBF rfl (.tail _ (.tail _ (.tail _ (.head _)))) (tabsK_fn hne (.tail _ (.tail _ (.tail _ (.head _))))) (hr.mono (by omega)) (fun A outer s H E f c' hr2 => (pe_call G_open_cells (hr2.mono (by omega)) (by rfl) g_open_cells k_open_cells b_open_cells .nil (passes_call (takes_of rfl rfl rfl rfl) (fun _ _ _ _ h => h)) (pa_cons (pv 1) (pa_cons (pv 3) pa_nil)))) (LamX.lamS_by (by show LamX.lamSB (defScope s_law_fillings_right) _ = true; decide +kernel)) rfl (fun _ _ _ _ _ => rfl)) pe_str (nomark _)))))))))))), ?_⟩
    walk_at "ev"
    have hxL : ((xs.map V.int).length : Int) = xs.length := by rw [List.length_map]
    have hxN : (xs.map V.int).length = xs.length := List.length_map _
    refine ⟨by omega, fun c1 H1 nc1 s1 e1 => ?_⟩
    rw [hxN] at e1
    have hcL : (((code xs.length).map V.int).length : Int) = (code xs.length).length := by rw [List.length_map]
    walk_at "ev"
    refine ⟨b, _, rfl, .inl (.inl (.inl (s1 _ _ hbx))), ?_⟩
    rw [hcL, hxL]
    have hF : (-(((code xs.length).length : Int) + xs.length)) % 48 = (fillN xs : Int) := by
      unfold fillN
      rw [List.length_append]
      omega
    have hfn : fillN xs < 48 := Nat.mod_lt _ (by decide)
    have a1 := src_same s1 ha
    have hp1 := s1 _ _ hp
    have eL1 := s1 _ _ eL0
    have hR1 := hR.same s1
    have t1 := tabs_same hT s1
    have u1 : UpN a H H1 := (up_same s1).n
    walk_at "ev"
    · exact q _ a1 u1 t1
    · rename_i hk
      rw [hF] at hk ⊢
      walk_at "ev"
      refine ⟨a1, by omega, by omega, fun r H2 r0 r1 a2 b2 => ?_⟩
      obtain ⟨pl, hpl⟩ : ∃ pl : Nat, 47 - r = (pl : Int) := ⟨(47 - r).toNat, by omega⟩
      have hp2 := (b2 _ pa).trans hp1
      have eL2 := (b2 _ rLa).trans eL1
      have hR2 : Rws H2 rs ((loadsL xs).map (·.map V.int)) := hR1.up fun x m o e => (b2 x (hra x m)).trans e
      have t2 := tabs_up t1 b2.up a1
      have u2 := u1.trans b2.up.n
      clear hp1 eL1 hR1 t1 u1
      walk_at "ev"
      have hplv : (fun (i j : Int) => V.int (i - j)) 47 r = V.int (pl : Int) := congrArg V.int hpl
      rw [hplv]
      have hLl : (L.map V.int).length = 48 := by rw [List.length_map, hlo.1]
      refine ⟨p, _, _, _, rfl, rfl, .inl (.inl hp2), hatL, ?_⟩
      walk_at "ev"
      refine ⟨rL, _, rfl, .inl (.inl eL2), fun p1 n1 => ?_⟩
      rw [cut_to (xs := L.map V.int) (y := (pl : Int)) (k := pl) rfl (by omega), ← List.map_take]
      walk_at "ev"
      refine ⟨by show 1 ≤ sizeLine; decide, fun p2 n2 => ?_⟩
      refine ⟨p1, p2, _, _, rfl, rfl, new_at upd_same n2, upd_same, eL (by rw [List.length_map, List.length_take, hlo.1]; show min _ _ + 1 ≤ _; omega), fun p3 n3 => ?_⟩
      have e3 : upd (upd (upd H2 p1 (.lst ((L.take pl).map V.int))) p2 (.lst [.int 1])) p3 (.lst ((L.take pl).map V.int ++ [.int 1])) p3 = some (.lst ((L.take pl ++ [1]).map V.int)) := by rw [upd_same, List.map_append]; rfl
      have s3 : Same H2 _ := (same_upd (o := .lst ((L.take pl).map V.int)) n1).trans ((same_upd (o := .lst [.int 1]) n2).trans (same_upd (o := .lst ((L.take pl).map V.int ++ [.int 1])) n3))
      generalize upd (upd (upd H2 p1 (.lst ((L.take pl).map V.int))) p2 (.lst [.int 1])) p3 (.lst ((L.take pl).map V.int ++ [.int 1])) = H3 at *
      clear n1 n2 n3
      walk_at "ev"
      refine ⟨p, _, _, _, rfl, rfl, .inl (.inl (s3 _ _ hp2)), hatL, ?_⟩
      walk_at "ev"
      refine ⟨rL, _, rfl, .inl (.inl (s3 _ _ eL2)), fun p4 n4 => ?_⟩
      rw [cut_drop (xs := L.map V.int) (y := (pl : Int) + 1) (k := pl + 1) rfl (by omega), ← List.map_drop]
      refine ⟨p3, p4, _, _, rfl, rfl, new_at e3 n4, upd_same, eL (by rw [List.length_map, List.length_map, List.length_append, List.length_take, List.length_drop, hlo.1]; show min _ _ + 1 + _ ≤ _; omega), fun p5 n5 => ?_⟩
      obtain ⟨R, hR1, hll, hfl⟩ := fill_set (p := pl) hb hn hL (by omega) (by omega)
      have e5 : upd (upd H3 p4 (.lst ((L.drop (pl + 1)).map V.int))) p5 (.lst ((L.take pl ++ [1]).map V.int ++ (L.drop (pl + 1)).map V.int)) p5 = some (.lst ((L.take pl ++ [1] ++ L.drop (pl + 1)).map V.int)) := by rw [upd_same, ← List.map_append]
      have s5 : Same H2 _ := s3.trans ((same_upd (o := .lst ((L.drop (pl + 1)).map V.int)) n4).trans (same_upd (o := .lst ((L.take pl ++ [1]).map V.int ++ (L.drop (pl + 1)).map V.int)) n5))
      generalize upd (upd H3 p4 (.lst ((L.drop (pl + 1)).map V.int))) p5 (.lst ((L.take pl ++ [1]).map V.int ++ (L.drop (pl + 1)).map V.int)) = H5 at *
      generalize L.take pl ++ [1] ++ L.drop (pl + 1) = L1 at *
      have hp5 := s5 _ _ hp2
      have hR5 := hR2.same s5
      have a5 := src_same s5 a2
      have t5 := tabs_same t2 s5
      have u5 := u2.trans (up_same s5).n
      have p5a : p5 ≠ a := fun z => by
        obtain ⟨x, y, e, _⟩ := a5
        rw [← z, e5] at e
        have := congrArg (fun o : Option HO => match o with | some (.lst l) => l.length | _ => 0) e
        simp [hll.1] at this
      clear s3 s5 e3 n4 n5 hp2 eL2 hR2 t2 u2 a2
      have hFl : ∀ l ∈ (loadsL xs).dropLast ++ [L1], IsLoad l := fun l m => by
        rcases List.mem_append.mp m with m | m
        · exact hld l ((List.dropLast_sublist _).subset m)
        · rw [List.mem_singleton.mp m]
          exact hll
      have hFn : ((loadsL xs).dropLast ++ [L1]).length = n + 1 := by rw [List.length_append, List.length_dropLast, hn]; rfl
      have hFe : (loadsL xs).dropLast ++ [L1] ≠ [] := fun z => by rw [z] at hFn; cases hFn
      have hFm : ((code xs.length).length + xs.length + 47) / 48 = ((loadsL xs).dropLast ++ [L1]).length := by rw [hFn, ← hn, hn1]
      have hFd : ((loadsL xs).dropLast ++ [L1]).dropLast = (loadsL xs).dropLast := List.dropLast_concat
      walk_at "ev"
      refine ⟨p, _, rfl, .inl (.inl hp5), fun p6 n6 => ?_⟩
      rw [cut_init (xs := rs.map V.ref)]
      walk_at "ev"
      refine ⟨by show 1 ≤ sizeLine; decide, fun p7 n7 => ?_⟩
      refine ⟨p6, p7, _, _, rfl, rfl, new_at upd_same n7, upd_same, eL (by rw [List.length_dropLast, List.length_map]; show _ + 1 ≤ _; omega), fun p8 n8 => ?_⟩
      have e8 : upd (upd (upd H5 p6 (.lst (rs.map V.ref).dropLast)) p7 (.lst [.ref p5])) p8 (.lst ((rs.map V.ref).dropLast ++ [.ref p5])) p8 = some (.lst ((rs.dropLast ++ [p5]).map V.ref)) := by rw [upd_same, List.map_append, List.map_dropLast]; rfl
      have s8 : Same H5 _ := (same_upd (o := .lst (rs.map V.ref).dropLast) n6).trans ((same_upd (o := .lst [.ref p5]) n7).trans (same_upd (o := .lst ((rs.map V.ref).dropLast ++ [.ref p5])) n8))
      generalize upd (upd (upd H5 p6 (.lst (rs.map V.ref).dropLast)) p7 (.lst [.ref p5])) p8 (.lst ((rs.map V.ref).dropLast ++ [.ref p5])) = H5b at *
      have R8 : Rws H5b (rs.dropLast ++ [p5]) (((loadsL xs).dropLast ++ [L1]).map (·.map V.int)) := by
        rw [List.map_append, List.map_dropLast, List.dropLast_eq_take, List.dropLast_eq_take, hR5.1]
        exact Rws.app (rws_take (hR5.same s8) _) (Rws.cons (s8 _ _ e5) rws_nil)
      clear n6 n7 n8
      walk_at "ev"
      refine ⟨p8, _, _, g, "cells", rfl, e8, R8, hFl, hFe, by omega, h1, h2, .inr ⟨rfl, fill_bad (fun l m => (hFl l m).1) hxl hFe hfl hFm hR1⟩, tabs_same t5 s8, fun H6 x6 t6 => ?_⟩
      walk_at "ev"
      refine tC_in ?_
      refine q_neS (d := .str "cells") (.str _) (.str _) (by decide +kernel) ?_
      have xA := (ext_same s8).trans x6
      have e6 := xA _ _ e5 (fun _ z => nomatch z)
      have hp6 := xA _ _ hp5 (fun _ z => nomatch z)
      have hR6 : Rws H6 rs ((loadsL xs).map (·.map V.int)) := ⟨hR5.1, fun i r e => by
        obtain ⟨l, g1, g2⟩ := hR5.2 i r e
        exact ⟨l, g1, xA _ _ g2 (fun _ z => nomatch z)⟩⟩
      have a6 := Src.ext xA a5
      have u6 := u5.trans (ext_n xA)
      clear hp5 hR5 a5 u5 t5 e5 R8 e8 s8 x6 xA
      have hrn : ((rs.map V.ref).length : Int) = ((n + 1 : Nat) : Int) := by rw [List.length_map, hrl]
      walk_at "ev"
      · exact q _ a6 u6 t6
      · rename_i hk1
        have hn1' : 1 ≤ n := by omega
        refine ⟨p, _, rfl, .inl (.inl hp6), fun p6 n6 => ?_⟩
        rw [cut_init (xs := rs.map V.ref)]
        walk_at "ev"
        refine ⟨by show 1 ≤ sizeLine; decide, fun p7 n7 => ?_⟩
        refine ⟨p6, p7, _, _, rfl, rfl, new_at upd_same n7, upd_same, eL (by rw [List.length_dropLast, List.length_map]; show _ + 1 ≤ _; omega), fun p8 n8 => ?_⟩
        have e8 : upd (upd (upd H6 p6 (.lst (rs.map V.ref).dropLast)) p7 (.lst [.ref p5])) p8 (.lst ((rs.map V.ref).dropLast ++ [.ref p5])) p8 = some (.lst ((rs.dropLast ++ [p5]).map V.ref)) := by rw [upd_same, List.map_append, List.map_dropLast]; rfl
        have s8 : Same H6 _ := (same_upd (o := .lst (rs.map V.ref).dropLast) n6).trans ((same_upd (o := .lst [.ref p5]) n7).trans (same_upd (o := .lst ((rs.map V.ref).dropLast ++ [.ref p5])) n8))
        generalize upd (upd (upd H6 p6 (.lst (rs.map V.ref).dropLast)) p7 (.lst [.ref p5])) p8 (.lst ((rs.map V.ref).dropLast ++ [.ref p5])) = H6b at *
        have R8 : Rws H6b (rs.dropLast ++ [p5]) (((loadsL xs).dropLast ++ [L1]).map (·.map V.int)) := by
          rw [List.map_append, List.map_dropLast, List.dropLast_eq_take, List.dropLast_eq_take, hR6.1]
          exact Rws.app (rws_take (hR6.same s8) _) (Rws.cons (s8 _ _ e6) rws_nil)
        clear n6 n7 n8
        walk_at "ev"
        refine ⟨p8, _, _, g, rfl, e8, R8, by omega, h1, h2, hFl, fun cp cs H7 ncp s7 e7 R7 fr7 => ?_⟩
        have sA := s8.trans s7
        have a7 := src_same sA a6
        have t7 := tabs_same t6 sA
        have u7 := u6.trans (up_same sA).n
        clear R8 e8 s8 s7 sA hp6 hR6 e6 t6 u6 a6
        generalize hLF : (loadsL xs).dropLast ++ [L1] = LF at *
        have hcs : cs.length = (cellsL LF g).length := by rw [R7.1, List.length_map]
        have hcf := cells_few (ls := LF) (g := g) h1
        have hc2 : 2 ≤ (cellsL LF g).length := (two_last (x := 1 :: List.replicate 55 0) (y := 1 :: List.replicate 55 0) h1 hFl hFe (by decide) (by decide +kernel) (by decide) (by decide +kernel)).1
        walk_at "ev"
        have hcc := cellsL_len (ls := LF) (g := g) hFl
        have hcnt := cells_count (ls := LF) (g := g) h1
        have htl : ∀ {x y : List Int}, x.length = 56 → goodC x = false → y.length = 56 → goodC y = false → opensL ((cellsL LF g).take ((cellsL LF g).length - 2) ++ [x, y]).flatten g = LF.dropLast.map some ++ [none] := fun x1 x3 y1 y3 => (two_last h1 hFl hFe x1 x3 y1 y3).2
        have hLFn : LF.length = n + 1 := hFn
        generalize cellsL LF g = CL at *
        have hcm : (cs.map V.ref).length = CL.length := by rw [List.length_map, hcs]
        refine ⟨cp, _, rfl, .inl (.inl e7), fun p9 n9 => ?_⟩
        rw [cut_neg (xs := cs.map V.ref) (y := -2) (k := 2) rfl (by decide) (by omega), ← List.map_take, hcm]
        walk_at "ev"
        refine ⟨cp, _, rfl, .inl (.inl (new_at e7 n9)), fun p10 n10 => ?_⟩
        rw [cut_tail (xs := cs.map V.ref) (y := -2) (k := 2) rfl (by decide) (by omega), ← List.map_drop, hcm]
        have e9 : upd (upd H7 p9 (.lst ((cs.take (CL.length - 2)).map V.ref))) p10 (.lst ((cs.drop (CL.length - 2)).map V.ref)) p9 = some (.lst ((cs.take (CL.length - 2)).map V.ref)) := new_at upd_same n10
        have e10 : upd (upd H7 p9 (.lst ((cs.take (CL.length - 2)).map V.ref))) p10 (.lst ((cs.drop (CL.length - 2)).map V.ref)) p10 = some (.lst ((cs.drop (CL.length - 2)).map V.ref)) := upd_same
        have s10 := (same_upd (o := .lst ((cs.take (CL.length - 2)).map V.ref)) n9).trans (same_upd (o := .lst ((cs.drop (CL.length - 2)).map V.ref)) n10)
        generalize upd (upd H7 p9 (.lst ((cs.take (CL.length - 2)).map V.ref))) p10 (.lst ((cs.drop (CL.length - 2)).map V.ref)) = HA at *
        have RD := (rws_drop R7 (CL.length - 2)).same s10
        have RT := (rws_take R7 (CL.length - 2)).same s10
        rw [← List.map_drop] at RD
        rw [← List.map_take] at RT
        obtain ⟨d1, d2, hCD⟩ : ∃ d1 d2, CL.drop (CL.length - 2) = [d1, d2] := by
          have : (CL.drop (CL.length - 2)).length = 2 := by rw [List.length_drop]; omega
          match hh : CL.drop (CL.length - 2), this with
          | [d1, d2], _ => exact ⟨d1, d2, rfl⟩
        have hcd : (cs.drop (CL.length - 2)).length = 2 := by rw [List.length_drop]; omega
        have hd12 : ∀ d ∈ [d1, d2], d.length = 56 ∧ AreBits d ∧ goodC d = true := fun d m => hcc d (List.mem_of_mem_drop (hCD ▸ m))
        rw [hCD] at RD
        generalize cs.drop (CL.length - 2) = cd at *
        clear n9 n10 e7
        refine ⟨p10, rfl, ⟨_, .inl (.inl e10)⟩, fun DD nD => ?_⟩
        refine lc_it (walk_list (xs := cd.map V.ref)) (fun t G => ∃ ds : List Addr, ds.length = t ∧ G DD = some (.lst (ds.map V.ref)) ∧ Same HA G ∧ Rws G ds ((([d1, d2].take t).map flipC).map (·.map V.int)) ∧ (∀ r ∈ ds, r ≠ DD)) ⟨[], rfl, upd_same, same_upd nD, rws_nil, fun _ m => absurd m List.not_mem_nil⟩ (fun _ _ _ ⟨_, _, _, h, _⟩ => .inl (.inl (h _ _ e10))) ?_ ?_
        · rintro t x G0 G ht ⟨ds, k1, k2, k3, k4, k5⟩ ⟨rfl, hx⟩
          rw [List.length_map, hcd] at ht
          rw [List.getElem?_map] at hx
          obtain ⟨cr, hcr, rfl⟩ := Option.map_eq_some_iff.mp hx
          obtain ⟨l, g1, g2⟩ := RD.2 t cr hcr
          rw [List.getElem?_map] at g1
          obtain ⟨c, hc, rfl⟩ := Option.map_eq_some_iff.mp g1
          obtain ⟨c1, c2, c3⟩ := hd12 c (List.mem_of_getElem? hc)
          have g3 := k3 _ _ g2
          have hc0 : (c.map V.int)[0]? = some (.int (c.getD 0 0)) := by rw [List.getElem?_map, List.getD_eq_getElem?_getD, List.getElem?_eq_getElem (by omega : 0 < c.length)]; rfl
          walk_at "ev"
          refine ⟨cr, _, _, _, rfl, rfl, .inl (.inl g3), at_of (j := 0) (by decide) hc0, ?_⟩
          walk_at "ev"
          refine ⟨by show 1 ≤ sizeLine; decide, fun z1 nz1 => ?_⟩
          walk_at "ev"
          refine ⟨cr, _, rfl, .inl (.inl (new_at g3 nz1)), fun z2 nz2 => ?_⟩
          rw [cut_drop (xs := c.map V.int) (y := 1) (k := 1) rfl (by rw [List.length_map]; omega), ← List.map_drop]
          refine ⟨z1, z2, _, _, rfl, rfl, new_at upd_same nz2, upd_same, eL (by rw [List.length_map, List.length_drop, c1]; show 1 + (56 - 1) ≤ 1000; decide), fun z3 nz3 => ?_⟩
          have e3 : upd (upd (upd G z1 (.lst [.int (1 - c.getD 0 0)])) z2 (.lst ((c.drop 1).map V.int))) z3 (.lst ([.int (1 - c.getD 0 0)] ++ (c.drop 1).map V.int)) z3 = some (.lst ((flipC c).map V.int)) := upd_same
          have sz := (same_upd (o := .lst [.int (1 - c.getD 0 0)]) nz1).trans ((same_upd (o := .lst ((c.drop 1).map V.int)) nz2).trans (same_upd (o := .lst ([.int (1 - c.getD 0 0)] ++ (c.drop 1).map V.int)) nz3))
          have z3D : z3 ≠ DD := (ne_of_none (((same_upd (o := .lst [.int (1 - c.getD 0 0)]) nz1).trans (same_upd (o := .lst ((c.drop 1).map V.int)) nz2)) _ _ k2) nz3).symm
          generalize upd (upd (upd G z1 (.lst [.int (1 - c.getD 0 0)])) z2 (.lst ((c.drop 1).map V.int))) z3 (.lst ([.int (1 - c.getD 0 0)] ++ (c.drop 1).map V.int)) = GZ at *
          refine ⟨_, sz _ _ k2, small1000 (by rw [List.length_map, k1]; omega), ds ++ [z3], by rw [List.length_append, k1]; rfl, by rw [upd_same, List.map_append]; rfl, fun b o e => ?_, ?_, fun r m => ?_⟩
          · rw [upd_ne (ne_of_none e nD)]
            exact sz _ _ (k3 _ _ e)
          · rw [← take_snoc hc, List.map_append, List.map_append]
            refine Rws.app ⟨k4.1, fun i r e => ?_⟩ (Rws.cons (by rw [upd_ne z3D]; exact e3) rws_nil)
            obtain ⟨l, g1, g2⟩ := k4.2 i r e
            refine ⟨l, g1, ?_⟩
            rw [upd_ne (k5 r (List.mem_of_getElem? e))]
            exact sz _ _ g2
          · rcases List.mem_append.mp m with m | m
            · exact k5 r m
            · rw [List.mem_singleton.mp m]
              exact z3D
        · rintro G ⟨ds, k1, k2, k3, k4, k5⟩
          rw [List.length_map, hcd] at k1 k4
          replace k4 : Rws G ds ([flipC d1, flipC d2].map (·.map V.int)) := k4
          obtain ⟨x1, x2, x3⟩ := flipC_ok (hd12 d1 List.mem_cons_self).1 (hd12 d1 List.mem_cons_self).2.1 (hd12 d1 List.mem_cons_self).2.2
          have md2 : d2 ∈ [d1, d2] := List.mem_cons_of_mem _ List.mem_cons_self
          obtain ⟨y1, y2, y3⟩ := flipC_ok (hd12 d2 md2).1 (hd12 d2 md2).2.1 (hd12 d2 md2).2.2
          have hop := htl x1 x3 y1 y3
          refine ⟨p9, DD, _, _, rfl, rfl, k3 _ _ e9, k2, eL (by rw [List.length_map, List.length_map, List.length_take, k1]; omega), fun p11 n11 => ?_⟩
          have e11 : upd G p11 (.lst ((cs.take (CL.length - 2)).map V.ref ++ ds.map V.ref)) p11 = some (.lst ((cs.take (CL.length - 2) ++ ds).map V.ref)) := by rw [upd_same, List.map_append]
          have s11 := same_upd (o := .lst ((cs.take (CL.length - 2)).map V.ref ++ ds.map V.ref)) n11
          have R11 : Rws (upd G p11 (.lst ((cs.take (CL.length - 2)).map V.ref ++ ds.map V.ref))) (cs.take (CL.length - 2) ++ ds) ((CL.take (CL.length - 2) ++ [flipC d1, flipC d2]).map (·.map V.int)) := by
            rw [List.map_append]
            exact Rws.app (RT.same (k3.trans s11)) (k4.same s11)
          have sH := s10.trans (k3.trans s11)
          generalize upd G p11 (.lst ((cs.take (CL.length - 2)).map V.ref ++ ds.map V.ref)) = G1 at *
          have hcells : ∀ z ∈ CL.take (CL.length - 2) ++ [flipC d1, flipC d2], z.length = 56 ∧ AreBits z := fun z m => by
            rcases List.mem_append.mp m with m | m
            · have := hcc z (List.mem_of_mem_take m)
              exact ⟨this.1, this.2.1⟩
            · rcases List.mem_cons.mp m with rfl | m
              · exact ⟨x1, x2⟩
              · rw [List.mem_singleton.mp m]
                exact ⟨y1, y2⟩
          have hlenC : (CL.take (CL.length - 2) ++ [flipC d1, flipC d2]).length = CL.length := by
            rw [List.length_append, List.length_take]
            show min _ _ + 2 = _
            omega
          have hff := flat_len fun z m => (hcells z m).1
          rw [hlenC] at hff
          have hfb : AreBits (CL.take (CL.length - 2) ++ [flipC d1, flipC d2]).flatten := fun z m => by
            obtain ⟨d, md, mz⟩ := List.mem_flatten.mp m
            exact (hcells d md).2 z mz
          generalize CL.take (CL.length - 2) ++ [flipC d1, flipC d2] = CZ at *
          clear k3 k4 k5 RT RD R7 s10 s11 e10 e9 k2
          walk_at "ev"
          refine ⟨p11, _, CZ, rfl, e11, R11, by omega, fun p12 G2 n12 s12 e12 => ?_⟩
          have sF := sH.trans s12
          have aF := src_same sF a7
          have uF := u7.trans (up_same sF).n
          walk_at "ev"
          refine ⟨tabs_same t7 sF, fun M1 x1 m1 => ?_⟩
          have hO : OpenW M1 p12 g "let" := .inr ⟨CZ.flatten, CL.length, g, ⟨rfl, x1 _ _ e12 (fun _ z => nomatch z), hfb, hff, by omega, by omega, h1, h2, hcnt⟩, .inl ⟨rfl, by rw [hop]; exact lost_let (fun l m => (hFl l m).1) hxl (by omega) hfl hFm⟩⟩
          refine heard_in (wd := "let") (fun Q' hq => ?_) fun M2 s2 => ?_
          · walk_at "ev"
            exact hear_open hO hq
          refine tC_in ?_
          refine q_eqS (d := .str "let") (.str _) (.str _) (by decide +kernel) ?_
          walk_at "ev"
          exact q M2 (src_same s2 (Src.ext x1 aF)) (uF.trans ((ext_n x1).trans (up_same s2).n)) (tabs_same m1 s2)
/-! ### the law -/
theorem rows_ne {H : Hp} {a : Addr} {rs : List Addr} {ls : List (List Int)} (hR : Rws H rs (ls.map (·.map V.int))) (hl : ∀ l ∈ ls, IsLoad l) (ha : Src H a) : ∀ r ∈ rs, r ≠ a := fun r m z => by
  obtain ⟨l, ml, e⟩ := hR.row m
  obtain ⟨l2, ml2, rfl⟩ := List.mem_map.mp ml
  obtain ⟨x, y, e2, _⟩ := ha
  rw [z, e2] at e
  have h := congrArg (fun o : Option HO => match o with | some (.lst l) => l.length | _ => 0) e
  have h48 := (hl l2 ml2).1
  have h2 : 2 = (l2.map V.int).length := h
  rw [List.length_map, h48] at h2
  cases h2
theorem loads_let {xs : List Int} (hb : AreBits xs) (hx : xs.length ≤ 400) : OpenLet ((loadsL xs).map some) := by
  have hld := loadsL_load hb
  have hn := loadsL_ne xs
  obtain ⟨l0, h0⟩ : ∃ l0, (loadsL xs)[0]? = some l0 := ⟨_, List.getElem?_eq_getElem (List.length_pos_iff.mpr hn)⟩
  have hf : (loadsL xs).flatten = code xs.length ++ xs ++ List.replicate (fillN xs) 0 := by rw [loadsL_flat, fillL_eq]
  refine .inr ⟨l0, by rw [List.getElem?_map, h0]; rfl, xs.length, (code xs.length).length, first_read (fun l m => (hld l m).1) hx h0 hf, by omega, by rw [List.length_map, loadsL_len], ?_⟩
  rw [flatO_some, hf, ← List.map_drop, List.drop_left' (by rw [List.length_append]), inV_ints]
  refine decide_eq_false fun m => ?_
  have := (List.mem_replicate.mp m).2
  omega
def spLaw (K : PySem.W.Frag) (PB PO PS PF : Addr) : Sp := fun vs H Q _ => ∃ (a : Addr) (ns : List Int), vs = [.ref a] ∧ SqL K H a (ns.map V.int) ∧ ns.length ≤ 63 ∧ LamX.Tabs (tabsK PB PO PS PF) H ∧ ∀ H', Q (.bl true) H'
theorem ok_law {f PB PO PS PF : Addr} {fd : FuncData} {k : Nat} (F : Fun K "law" "law" s_law f fd) (T : Txt mg) (c_law_pool : C8.Cal P w K mg base 1 "_law_pool" (spPool K) []) (c_law_take : C8.Cal P w K mg base 1 "_law_take" spTake [])
    (c_law_bits : C8.Cal P w K mg base 2 "_law_bits" spBitsL []) (c_law_count : C8.Cal P w K mg base 1 "_law_count" spCountL []) (c_law_loads : C8.Cal P w K mg base 1 "_law_loads" spLoadsL []) (c_law_cells : C8.Cal P w K mg base 2 "_law_cells" spCellsL [])
    (c_law_sizes_right : C8.Cal P w K mg base 9 "_law_sizes_right" (spSizes PB PO PS PF) []) (c_law_counts_right : C8.Cal P w K mg base 9 "_law_counts_right" (spCounts PB PO PS PF) []) (c_law_fillings_right : C8.Cal P w K mg base 9 "_law_fillings_right" (spFillings PB PO PS PF) []) :
    FnOk P w K mg base CX0 (k + 10) f fd ["_law_script"] (spLaw K PB PO PS PF) := by
  refine F.ok sc_law (fun vs H Q E h => ?_) (fun cdv A outer s H vs Q E hr h => ?_)
  · obtain ⟨a, ns, rfl, _⟩ := h
    rfl
  · obtain ⟨a, ns, rfl, hS, hl, hT, q⟩ := h
    have hu := hr.units
    refine ⟨_, (pss_cons (ps_for PassesOwn.never rfl (pi_range1 (by rfl) T.z_range (pa_cons (pe_callB (call_max2 rfl) (by rfl) T.z_max PyProof.Rows.boot_max (pa_cons pe_int (pa_cons (pe_callB (call_min2 rfl) (by rfl) T.z_min PyProof.Rows.boot_min (pa_cons pe_int (pa_cons (pe_callB call_len_seq (by rfl) T.z_len PySem.boot_len (pa_cons (pv 0) pa_nil)) pa_nil))) pa_nil))) pa_nil)) (pg_name (i := 1) sc_law.nd rfl (Or.inl rfl))
      (pss_cons (ps_set (i := 2) sc_law.nd rfl (Or.inl rfl) (C8.pe_c c_law_pool hr (by omega) (by rfl) (pa_cons (pv 0) (pa_cons (pv 1) pa_nil))))
    (pss_cons (ps_par (i := 3) (j := 4) rfl sc_law.nd rfl rfl (by decide) rfl rfl (pa_cons (C8.pe_c c_law_bits hr (by omega) (by rfl) (pa_cons (pv 2) pa_nil)) (pa_cons (pe_op op_add pe_int (C8.pe_c c_law_take hr (by omega) (by rfl) (pa_cons (pv 2) (pa_cons pe_int pa_nil)))) pa_nil)) rfl)
    (pss_cons (ps_set (i := 5) sc_law.nd rfl (Or.inl rfl) (C8.pe_c c_law_loads hr (by omega) (by rfl) (pa_cons (pe_op op_cat (C8.pe_c c_law_count hr (by omega) (by rfl) (pa_cons (pe_callB call_len_seq (by rfl) T.z_len PySem.boot_len (pa_cons (pv 3) pa_nil)) pa_nil)) (pv 3)) pa_nil)))
    (pss_cons (ps_if (pt_not (pt_val (C8.pe_c c_law_sizes_right hr (by omega) (by rfl) (pa_cons (pv 2) (pa_cons (C8.pe_c c_law_cells hr (by omega) (by rfl) (pa_cons (pv 5) (pa_cons (pv 4) pa_nil))) (pa_cons (pv 4) pa_nil)))))) (pss_one (ps_ret pe_bl)) pss_nil)
    (pss_one (ps_if (PW.pt (pw_or (pt_not (pt_val (C8.pe_c c_law_counts_right hr (by omega) (by rfl) (pa_cons (pv 2) (pa_cons (pv 3) (pa_cons (pv 5) (pa_cons (pv 4) pa_nil))))))) (pw_or1 (pt_not (pt_val (C8.pe_c c_law_fillings_right hr (by omega) (by rfl) (pa_cons (pv 2) (pa_cons (pv 3) (pa_cons (pv 5) (pa_cons (pv 4) pa_nil)))))))))) (pss_one (ps_ret pe_bl)) pss_nil)))))))
    (pss_one (ps_ret pe_bl))), ?_⟩
    walk_at "ev"
    refine ⟨(by split <;> split <;> omega), (by split <;> split <;> omega), ?_⟩
    refine for_range (fun i σ H1 => ∃ v1 v2 v3 v4 v5, σ = [some (.ref a), v1, v2, v3, v4, v5] ∧ LamX.ExtN H H1 ∧ LamX.Tabs (tabsK PB PO PS PF) H1) ⟨_, _, _, _, _, rfl, LamX.ExtN.refl H, hT⟩ ?_ ?_
    · rintro i σ H1 hi ⟨v1, v2, v3, v4, v5, rfl, x1, t1⟩
      walk_at "ev"
      refine ⟨_, _, _, rfl, ext_seq x1 hS, (by omega), ?_, fun p H2 np sm hs => ?_⟩
      · split at hi <;> split at hi <;> omega
      walk_at "ev"
      refine ⟨hs, fun b xs H3 nb hb hxl eb s3 u3 => ?_⟩
      have bp : b ≠ p := (hs.ne nb).symm
      walk_at "ev"
      refine ⟨s3, by decide, by decide, fun gr H4 g0 g1 s4 u4 => ?_⟩
      walk_at "ev"
      obtain ⟨g, hg⟩ : ∃ g : Nat, 1 + gr = (g : Int) := ⟨(1 + gr).toNat, by omega⟩
      have eb5 := (u4 b bp).trans eb
      have u5 : UpN p H2 H4 := (u3.trans u4.up).n
      have tb4 := tabs_up (tabs_up (tabs_same t1 sm) u3 hs) u4.up s3
      have hgv : (fun (i j : Int) => V.int (i + j)) 1 gr = V.int (g : Int) := congrArg V.int hg
      rw [hgv]
      have hg1 : 1 ≤ g := by omega
      have hg2 : g ≤ 8 := by omega
      have hld := loadsL_load hb
      have hcl := code_len xs.length
      have hbl : bl (xs.length + 1) ≤ 10 := bl_le (by omega)
      have hll : (loadsL xs).length < 12 := by rw [loadsL_len]; omega
      have hlp : 1 ≤ (loadsL xs).length := List.length_pos_iff.mpr (loadsL_ne xs)
      walk_at "ev"
      rw [List.length_map]
      refine ⟨by omega, fun c1 G1 m1 t1' f1 => ?_⟩
      walk_at "ev"
      refine ⟨c1, b, _, _, rfl, rfl, f1, t1' _ _ eb5, ?_, fun c2 m2 => ?_⟩
      · rw [List.length_map, List.length_map]
        exact Nat.le_of_lt (small1000 (by omega))
      rw [← List.map_append]
      refine ⟨c2, code xs.length ++ xs, rfl, upd_same, by rw [List.length_append]; omega, fun c3 rs G3 m3 t3 f3 R3 => ?_⟩
      replace R3 : Rws G3 rs ((loadsL xs).map (·.map V.int)) := R3
      have tA := t1'.trans (same_upd (o := .lst ((code xs.length ++ xs).map V.int)) m2)
      have tB := tA.trans t3
      have s3B := src_same tB s4
      have c3p : c3 ≠ p := ((src_same tA s4).ne m3).symm
      have rsp := rows_ne R3 hld s3B
      walk_at "ev"
      refine ⟨c3, rs, loadsL xs, g, rfl, f3, R3, by omega, hg1, hg2, hld, fun c4 cs G4 m4 t4 f4 R4 fr4 => ?_⟩
      have tC := tB.trans t4
      have u6 := u5.trans (up_same tC).n
      walk_at "ev"
      refine ⟨p, c4, cs, loadsL xs, g, rfl, src_same tC s4, f4, R4, hld, loadsL_ne xs, by omega, loads_let hb hxl, hg1, hg2, tabs_same tb4 tC, fun H5 s5 v5' t5 => ?_⟩
      have b5 := v5' _ _ bp (tC _ _ eb5) (fun _ z => nomatch z)
      have l5 := v5' _ _ c3p (t4 _ _ f3) (fun _ z => nomatch z)
      have R5 : Rws H5 rs ((loadsL xs).map (·.map V.int)) := ⟨R3.1, fun i r e => by
        obtain ⟨l, g1, g2⟩ := R3.2 i r e
        exact ⟨l, g1, v5' _ _ (rsp r (List.mem_of_getElem? e)) (t4 _ _ g2) (fun _ z => nomatch z)⟩⟩
      have u7 := u6.trans v5'
      clear u6 tC tA tB R4 fr4 f4 R3 f3
      walk_at "ev"
      refine ⟨p, b, c3, rs, loadsL xs, g, rfl, s5, l5, R5, hld, hlp, hll, hg1, hg2, t5, fun H6 x6 t6 => ?_⟩
      have s6 := Src.ext x6 s5
      walk_at "ev"
      refine ⟨p, b, c3, rs, xs, g, rfl, s6, x6 _ _ b5 (fun _ z => nomatch z), x6 _ _ l5 (fun _ z => nomatch z), c3p, rsp, ⟨R5.1, fun i r e => by
        obtain ⟨l, g1, g2⟩ := R5.2 i r e
        exact ⟨l, g1, x6 _ _ g2 (fun _ z => nomatch z)⟩⟩, hb, hxl, hg1, hg2, t6, fun H7 s7 u8 t7 => ?_⟩
      walk_at "ev"
      have uZ := (u7.trans (ext_n x6)).trans u8
      exact ⟨_, _, _, _, _, rfl, x1.trans (uZ.to (ext_same sm) np), t7⟩
    · rintro σ H1 ⟨v1, v2, v3, v4, v5, rfl, x1, t1⟩
      walk_at "ev"
      exact q _
end
/-! ### what the top has written -/
theorem kbm1 {K : PySem.W.Frag} {x qual s p : Str} {params : Arguments} {body : List Stmt} {scope : Scope} {kV doc pm cd ct : Value} {an : Option Addr} (h : ∀ z u, bindArgs (PySem.W.fnOf x qual params body scope .none kV doc pm an cd ct) ⟨[z], [(p, u)]⟩ = pure [(s, z), (p, u)]) : KBn K (PySem.W.fnOf x qual params body scope .none kV doc pm an cd ct) [s, p] 1 [p] (fun us ws => us ++ ws) (fun vs zs => vs ++ zs) :=
  ⟨fun st us ws _ h1 h2 => match us, ws, h1, h2 with | [z], [u], _, _ => .of_eq (h z u), fun r1 r2 => r1.append r2⟩
theorem all_mk {l : PySem.W.OpenLaw} {w : World} {K : PySem.W.Frag} {h : Heap} {mg : Str → Option Value} {fa : Addr} (X : K.In h) (G : h.Ns mainGlobals mg) (hfa : mg "law" = some (.ref fa))
    {od0 an0 : Option Addr} {sl0 : Array (Option Value)} {oc0 kV0 dc0 pm0 cd0 ct0 : Value} {f0 : Addr}
    (a0 : PySem.W.nsIn K mainGlobals "is_number" = some (some (.ref f0))) (l0 : K.lookup f0 = some ⟨oc0, od0, .func (PySem.W.fnOf "is_number" "is_number" (defArgs s_is_number) (defBody s_is_number) (defScope s_is_number) .none kV0 dc0 pm0 an0 cd0 ct0), sl0⟩) (c0 : PySem.W.codeIn K cd0 "is_number" = true) (k0 : PySem.W.keepIn K (.ref f0) = true)
    {od1 an1 : Option Addr} {sl1 : Array (Option Value)} {oc1 kV1 dc1 pm1 cd1 ct1 : Value} {f1 : Addr}
    (a1 : PySem.W.nsIn K mainGlobals "check_bits" = some (some (.ref f1))) (l1 : K.lookup f1 = some ⟨oc1, od1, .func (PySem.W.fnOf "check_bits" "check_bits" (defArgs s_check_bits) (defBody s_check_bits) (defScope s_check_bits) .none kV1 dc1 pm1 an1 cd1 ct1), sl1⟩) (c1 : PySem.W.codeIn K cd1 "check_bits" = true) (k1 : PySem.W.keepIn K (.ref f1) = true)
    {od2 an2 : Option Addr} {sl2 : Array (Option Value)} {oc2 kV2 dc2 pm2 cd2 ct2 : Value} {f2 : Addr}
    (a2 : PySem.W.nsIn K mainGlobals "number_of" = some (some (.ref f2))) (l2 : K.lookup f2 = some ⟨oc2, od2, .func (PySem.W.fnOf "number_of" "number_of" (defArgs s_number_of) (defBody s_number_of) (defScope s_number_of) .none kV2 dc2 pm2 an2 cd2 ct2), sl2⟩) (c2 : PySem.W.codeIn K cd2 "number_of" = true) (k2 : PySem.W.keepIn K (.ref f2) = true)
    {od3 an3 : Option Addr} {sl3 : Array (Option Value)} {oc3 kV3 dc3 pm3 cd3 ct3 : Value} {f3 : Addr}
    (a3 : PySem.W.nsIn K mainGlobals "fixed" = some (some (.ref f3))) (l3 : K.lookup f3 = some ⟨oc3, od3, .func (PySem.W.fnOf "fixed" "fixed" (defArgs s_fixed) (defBody s_fixed) (defScope s_fixed) .none kV3 dc3 pm3 an3 cd3 ct3), sl3⟩) (c3 : PySem.W.codeIn K cd3 "fixed" = true) (k3 : PySem.W.keepIn K (.ref f3) = true)
    {od4 an4 : Option Addr} {sl4 : Array (Option Value)} {oc4 kV4 dc4 pm4 cd4 ct4 : Value} {f4 : Addr}
    (a4 : PySem.W.nsIn K mainGlobals "count_at" = some (some (.ref f4))) (l4 : K.lookup f4 = some ⟨oc4, od4, .func (PySem.W.fnOf "count_at" "count_at" (defArgs s_count_at) (defBody s_count_at) (defScope s_count_at) .none kV4 dc4 pm4 an4 cd4 ct4), sl4⟩) (c4 : PySem.W.codeIn K cd4 "count_at" = true) (k4 : PySem.W.keepIn K (.ref f4) = true)
    {od5 an5 : Option Addr} {sl5 : Array (Option Value)} {oc5 kV5 dc5 pm5 cd5 ct5 : Value} {f5 : Addr}
    (a5 : PySem.W.nsIn K mainGlobals "check_of" = some (some (.ref f5))) (l5 : K.lookup f5 = some ⟨oc5, od5, .func (PySem.W.fnOf "check_of" "check_of" (defArgs s_check_of) (defBody s_check_of) (defScope s_check_of) .none kV5 dc5 pm5 an5 cd5 ct5), sl5⟩) (c5 : PySem.W.codeIn K cd5 "check_of" = true) (k5 : PySem.W.keepIn K (.ref f5) = true)
    {od6 an6 : Option Addr} {sl6 : Array (Option Value)} {oc6 kV6 dc6 pm6 cd6 ct6 : Value} {f6 : Addr}
    (a6 : PySem.W.nsIn K mainGlobals "open_cells" = some (some (.ref f6))) (l6 : K.lookup f6 = some ⟨oc6, od6, .func (PySem.W.fnOf "open_cells" "open_cells" (defArgs s_open_cells) (defBody s_open_cells) (defScope s_open_cells) .none kV6 dc6 pm6 an6 cd6 ct6), sl6⟩) (c6 : PySem.W.codeIn K cd6 "open_cells" = true) (k6 : PySem.W.keepIn K (.ref f6) = true)
    {od7 an7 : Option Addr} {sl7 : Array (Option Value)} {oc7 kV7 dc7 pm7 cd7 ct7 : Value} {f7 : Addr}
    (a7 : PySem.W.nsIn K mainGlobals "good" = some (some (.ref f7))) (l7 : K.lookup f7 = some ⟨oc7, od7, .func (PySem.W.fnOf "good" "good" (defArgs s_good) (defBody s_good) (defScope s_good) .none kV7 dc7 pm7 an7 cd7 ct7), sl7⟩) (c7 : PySem.W.codeIn K cd7 "good" = true) (k7 : PySem.W.keepIn K (.ref f7) = true)
    {od8 an8 : Option Addr} {sl8 : Array (Option Value)} {oc8 kV8 dc8 pm8 cd8 ct8 : Value} {f8 : Addr}
    (a8 : PySem.W.nsIn K mainGlobals "parts_of" = some (some (.ref f8))) (l8 : K.lookup f8 = some ⟨oc8, od8, .func (PySem.W.fnOf "parts_of" "parts_of" (defArgs s_parts_of) (defBody s_parts_of) (defScope s_parts_of) .none kV8 dc8 pm8 an8 cd8 ct8), sl8⟩) (c8 : PySem.W.codeIn K cd8 "parts_of" = true) (k8 : PySem.W.keepIn K (.ref f8) = true)
    {od9 an9 : Option Addr} {sl9 : Array (Option Value)} {oc9 kV9 dc9 pm9 cd9 ct9 : Value} {f9 : Addr}
    (a9 : PySem.W.nsIn K mainGlobals "parity_of" = some (some (.ref f9))) (l9 : K.lookup f9 = some ⟨oc9, od9, .func (PySem.W.fnOf "parity_of" "parity_of" (defArgs s_parity_of) (defBody s_parity_of) (defScope s_parity_of) .none kV9 dc9 pm9 an9 cd9 ct9), sl9⟩) (c9 : PySem.W.codeIn K cd9 "parity_of" = true) (k9 : PySem.W.keepIn K (.ref f9) = true)
    {od10 an10 : Option Addr} {sl10 : Array (Option Value)} {oc10 kV10 dc10 pm10 cd10 ct10 : Value} {f10 : Addr}
    (a10 : PySem.W.nsIn K mainGlobals "is_good" = some (some (.ref f10))) (l10 : K.lookup f10 = some ⟨oc10, od10, .func (PySem.W.fnOf "is_good" "is_good" (defArgs s_is_good) (defBody s_is_good) (defScope s_is_good) .none kV10 dc10 pm10 an10 cd10 ct10), sl10⟩) (c10 : PySem.W.codeIn K cd10 "is_good" = true) (k10 : PySem.W.keepIn K (.ref f10) = true)
    {od11 an11 : Option Addr} {sl11 : Array (Option Value)} {oc11 kV11 dc11 pm11 cd11 ct11 : Value} {f11 : Addr}
    (a11 : PySem.W.nsIn K mainGlobals "check_group" = some (some (.ref f11))) (l11 : K.lookup f11 = some ⟨oc11, od11, .func (PySem.W.fnOf "check_group" "check_group" (defArgs s_check_group) (defBody s_check_group) (defScope s_check_group) .none kV11 dc11 pm11 an11 cd11 ct11), sl11⟩) (c11 : PySem.W.codeIn K cd11 "check_group" = true) (k11 : PySem.W.keepIn K (.ref f11) = true)
    {od12 an12 : Option Addr} {sl12 : Array (Option Value)} {oc12 kV12 dc12 pm12 cd12 ct12 : Value} {f12 : Addr}
    (a12 : PySem.W.nsIn K mainGlobals "check_cells" = some (some (.ref f12))) (l12 : K.lookup f12 = some ⟨oc12, od12, .func (PySem.W.fnOf "check_cells" "check_cells" (defArgs s_check_cells) (defBody s_check_cells) (defScope s_check_cells) .none kV12 dc12 pm12 an12 cd12 ct12), sl12⟩) (c12 : PySem.W.codeIn K cd12 "check_cells" = true) (k12 : PySem.W.keepIn K (.ref f12) = true)
    {od13 an13 : Option Addr} {sl13 : Array (Option Value)} {oc13 kV13 dc13 pm13 cd13 ct13 : Value} {f13 : Addr}
    (a13 : PySem.W.nsIn K mainGlobals "opened_group" = some (some (.ref f13))) (l13 : K.lookup f13 = some ⟨oc13, od13, .func (PySem.W.fnOf "opened_group" "opened_group" (defArgs s_opened_group) (defBody s_opened_group) (defScope s_opened_group) .none kV13 dc13 pm13 an13 cd13 ct13), sl13⟩) (c13 : PySem.W.codeIn K cd13 "opened_group" = true) (k13 : PySem.W.keepIn K (.ref f13) = true)
    {od14 an14 : Option Addr} {sl14 : Array (Option Value)} {oc14 kV14 dc14 pm14 cd14 ct14 : Value} {f14 : Addr}
    (a14 : PySem.W.nsIn K mainGlobals "span_told" = some (some (.ref f14))) (l14 : K.lookup f14 = some ⟨oc14, od14, .func (PySem.W.fnOf "span_told" "span_told" (defArgs s_span_told) (defBody s_span_told) (defScope s_span_told) .none kV14 dc14 pm14 an14 cd14 ct14), sl14⟩) (c14 : PySem.W.codeIn K cd14 "span_told" = true) (k14 : PySem.W.keepIn K (.ref f14) = true)
    {od15 an15 : Option Addr} {sl15 : Array (Option Value)} {oc15 kV15 dc15 pm15 cd15 ct15 : Value} {f15 : Addr}
    (a15 : PySem.W.nsIn K mainGlobals "_law_pool" = some (some (.ref f15))) (l15 : K.lookup f15 = some ⟨oc15, od15, .func (PySem.W.fnOf "_law_pool" "_law_pool" (defArgs s_law_pool) (defBody s_law_pool) (defScope s_law_pool) .none kV15 dc15 pm15 an15 cd15 ct15), sl15⟩) (c15 : PySem.W.codeIn K cd15 "_law_pool" = true) (k15 : PySem.W.keepIn K (.ref f15) = true)
    {od16 an16 : Option Addr} {sl16 : Array (Option Value)} {oc16 kV16 dc16 pm16 cd16 ct16 : Value} {f16 : Addr}
    (a16 : PySem.W.nsIn K mainGlobals "_law_take" = some (some (.ref f16))) (l16 : K.lookup f16 = some ⟨oc16, od16, .func (PySem.W.fnOf "_law_take" "_law_take" (defArgs s_law_take) (defBody s_law_take) (defScope s_law_take) .none kV16 dc16 pm16 an16 cd16 ct16), sl16⟩) (c16 : PySem.W.codeIn K cd16 "_law_take" = true) (k16 : PySem.W.keepIn K (.ref f16) = true)
    {od17 an17 : Option Addr} {sl17 : Array (Option Value)} {oc17 kV17 dc17 pm17 cd17 ct17 : Value} {f17 : Addr}
    (a17 : PySem.W.nsIn K mainGlobals "_law_one" = some (some (.ref f17))) (l17 : K.lookup f17 = some ⟨oc17, od17, .func (PySem.W.fnOf "_law_one" "_law_one" (defArgs s_law_one) (defBody s_law_one) (defScope s_law_one) .none kV17 dc17 pm17 an17 cd17 ct17), sl17⟩) (c17 : PySem.W.codeIn K cd17 "_law_one" = true) (k17 : PySem.W.keepIn K (.ref f17) = true)
    {od18 an18 : Option Addr} {sl18 : Array (Option Value)} {oc18 kV18 dc18 pm18 cd18 ct18 : Value} {f18 : Addr}
    (a18 : PySem.W.nsIn K mainGlobals "_law_count" = some (some (.ref f18))) (l18 : K.lookup f18 = some ⟨oc18, od18, .func (PySem.W.fnOf "_law_count" "_law_count" (defArgs s_law_count) (defBody s_law_count) (defScope s_law_count) .none kV18 dc18 pm18 an18 cd18 ct18), sl18⟩) (c18 : PySem.W.codeIn K cd18 "_law_count" = true) (k18 : PySem.W.keepIn K (.ref f18) = true)
    {od19 an19 : Option Addr} {sl19 : Array (Option Value)} {oc19 kV19 dc19 pm19 cd19 ct19 : Value} {f19 : Addr}
    (a19 : PySem.W.nsIn K mainGlobals "_law_check" = some (some (.ref f19))) (l19 : K.lookup f19 = some ⟨oc19, od19, .func (PySem.W.fnOf "_law_check" "_law_check" (defArgs s_law_check) (defBody s_law_check) (defScope s_law_check) .none kV19 dc19 pm19 an19 cd19 ct19), sl19⟩) (c19 : PySem.W.codeIn K cd19 "_law_check" = true) (k19 : PySem.W.keepIn K (.ref f19) = true)
    {od20 an20 : Option Addr} {sl20 : Array (Option Value)} {oc20 kV20 dc20 pm20 cd20 ct20 : Value} {f20 : Addr}
    (a20 : PySem.W.nsIn K mainGlobals "_law_sum" = some (some (.ref f20))) (l20 : K.lookup f20 = some ⟨oc20, od20, .func (PySem.W.fnOf "_law_sum" "_law_sum" (defArgs s_law_sum) (defBody s_law_sum) (defScope s_law_sum) .none kV20 dc20 pm20 an20 cd20 ct20), sl20⟩) (c20 : PySem.W.codeIn K cd20 "_law_sum" = true) (k20 : PySem.W.keepIn K (.ref f20) = true)
    {od21 an21 : Option Addr} {sl21 : Array (Option Value)} {oc21 kV21 dc21 pm21 cd21 ct21 : Value} {f21 : Addr}
    (a21 : PySem.W.nsIn K mainGlobals "_law_cells" = some (some (.ref f21))) (l21 : K.lookup f21 = some ⟨oc21, od21, .func (PySem.W.fnOf "_law_cells" "_law_cells" (defArgs s_law_cells) (defBody s_law_cells) (defScope s_law_cells) .none kV21 dc21 pm21 an21 cd21 ct21), sl21⟩) (c21 : PySem.W.codeIn K cd21 "_law_cells" = true) (k21 : PySem.W.keepIn K (.ref f21) = true)
    {od22 an22 : Option Addr} {sl22 : Array (Option Value)} {oc22 kV22 dc22 pm22 cd22 ct22 : Value} {f22 : Addr}
    (a22 : PySem.W.nsIn K mainGlobals "_law_loads" = some (some (.ref f22))) (l22 : K.lookup f22 = some ⟨oc22, od22, .func (PySem.W.fnOf "_law_loads" "_law_loads" (defArgs s_law_loads) (defBody s_law_loads) (defScope s_law_loads) .none kV22 dc22 pm22 an22 cd22 ct22), sl22⟩) (c22 : PySem.W.codeIn K cd22 "_law_loads" = true) (k22 : PySem.W.keepIn K (.ref f22) = true)
    {od23 an23 : Option Addr} {sl23 : Array (Option Value)} {oc23 kV23 dc23 pm23 cd23 ct23 : Value} {f23 : Addr}
    (a23 : PySem.W.nsIn K mainGlobals "_law_joined" = some (some (.ref f23))) (l23 : K.lookup f23 = some ⟨oc23, od23, .func (PySem.W.fnOf "_law_joined" "_law_joined" (defArgs s_law_joined) (defBody s_law_joined) (defScope s_law_joined) .none kV23 dc23 pm23 an23 cd23 ct23), sl23⟩) (c23 : PySem.W.codeIn K cd23 "_law_joined" = true) (k23 : PySem.W.keepIn K (.ref f23) = true)
    {od24 an24 : Option Addr} {sl24 : Array (Option Value)} {oc24 kV24 dc24 pm24 cd24 ct24 : Value} {f24 : Addr}
    (a24 : PySem.W.nsIn K mainGlobals "_law_bits" = some (some (.ref f24))) (l24 : K.lookup f24 = some ⟨oc24, od24, .func (PySem.W.fnOf "_law_bits" "_law_bits" (defArgs s_law_bits) (defBody s_law_bits) (defScope s_law_bits) .none kV24 dc24 pm24 an24 cd24 ct24), sl24⟩) (c24 : PySem.W.codeIn K cd24 "_law_bits" = true) (k24 : PySem.W.keepIn K (.ref f24) = true)
    {od25 an25 : Option Addr} {sl25 : Array (Option Value)} {oc25 kV25 dc25 pm25 cd25 ct25 : Value} {f25 : Addr}
    (a25 : PySem.W.nsIn K mainGlobals "_law_heard" = some (some (.ref f25))) (l25 : K.lookup f25 = some ⟨oc25, od25, .func (PySem.W.fnOf "_law_heard" "_law_heard" (defArgs s_law_heard) (defBody s_law_heard) (defScope s_law_heard) .none kV25 dc25 pm25 an25 cd25 ct25), sl25⟩) (c25 : PySem.W.codeIn K cd25 "_law_heard" = true) (k25 : PySem.W.keepIn K (.ref f25) = true)
    {od26 an26 : Option Addr} {sl26 : Array (Option Value)} {oc26 kV26 dc26 pm26 ct26 : Value} {f26 cc26 : Addr}
    (a26 : PySem.W.nsIn K mainGlobals "_law_both" = some (some (.ref f26))) (l26 : K.lookup f26 = some ⟨oc26, od26, .func (PySem.W.fnOf "_law_both" "_law_both" (defArgs s_law_both) (defBody s_law_both) (defScope s_law_both) .none kV26 dc26 pm26 an26 (.ref cc26) ct26), sl26⟩) (c26 : PySem.W.codeIn K (.ref cc26) "_law_both" = true) (k26 : PySem.W.keepIn K (.ref f26) = true)
    {od27 an27 : Option Addr} {sl27 : Array (Option Value)} {oc27 kV27 dc27 pm27 ct27 : Value} {f27 cc27 : Addr}
    (a27 : PySem.W.nsIn K mainGlobals "_law_opened" = some (some (.ref f27))) (l27 : K.lookup f27 = some ⟨oc27, od27, .func (PySem.W.fnOf "_law_opened" "_law_opened" (defArgs s_law_opened) (defBody s_law_opened) (defScope s_law_opened) .none kV27 dc27 pm27 an27 (.ref cc27) ct27), sl27⟩) (c27 : PySem.W.codeIn K (.ref cc27) "_law_opened" = true) (k27 : PySem.W.keepIn K (.ref f27) = true)
    {od28 an28 : Option Addr} {sl28 : Array (Option Value)} {oc28 kV28 dc28 pm28 ct28 : Value} {f28 cc28 : Addr}
    (a28 : PySem.W.nsIn K mainGlobals "_law_sizes_right" = some (some (.ref f28))) (l28 : K.lookup f28 = some ⟨oc28, od28, .func (PySem.W.fnOf "_law_sizes_right" "_law_sizes_right" (defArgs s_law_sizes_right) (defBody s_law_sizes_right) (defScope s_law_sizes_right) .none kV28 dc28 pm28 an28 (.ref cc28) ct28), sl28⟩) (c28 : PySem.W.codeIn K (.ref cc28) "_law_sizes_right" = true) (k28 : PySem.W.keepIn K (.ref f28) = true)
    {od29 an29 : Option Addr} {sl29 : Array (Option Value)} {oc29 kV29 dc29 pm29 cd29 ct29 : Value} {f29 : Addr}
    (a29 : PySem.W.nsIn K mainGlobals "_law_counted" = some (some (.ref f29))) (l29 : K.lookup f29 = some ⟨oc29, od29, .func (PySem.W.fnOf "_law_counted" "_law_counted" (defArgs s_law_counted) (defBody s_law_counted) (defScope s_law_counted) .none kV29 dc29 pm29 an29 cd29 ct29), sl29⟩) (c29 : PySem.W.codeIn K cd29 "_law_counted" = true) (k29 : PySem.W.keepIn K (.ref f29) = true)
    {od30 an30 : Option Addr} {sl30 : Array (Option Value)} {oc30 kV30 dc30 pm30 cd30 ct30 : Value} {f30 : Addr}
    (a30 : PySem.W.nsIn K mainGlobals "_law_counts_right" = some (some (.ref f30))) (l30 : K.lookup f30 = some ⟨oc30, od30, .func (PySem.W.fnOf "_law_counts_right" "_law_counts_right" (defArgs s_law_counts_right) (defBody s_law_counts_right) (defScope s_law_counts_right) .none kV30 dc30 pm30 an30 cd30 ct30), sl30⟩) (c30 : PySem.W.codeIn K cd30 "_law_counts_right" = true) (k30 : PySem.W.keepIn K (.ref f30) = true)
    {od31 an31 : Option Addr} {sl31 : Array (Option Value)} {oc31 kV31 dc31 pm31 ct31 : Value} {f31 cc31 : Addr}
    (a31 : PySem.W.nsIn K mainGlobals "_law_fillings_right" = some (some (.ref f31))) (l31 : K.lookup f31 = some ⟨oc31, od31, .func (PySem.W.fnOf "_law_fillings_right" "_law_fillings_right" (defArgs s_law_fillings_right) (defBody s_law_fillings_right) (defScope s_law_fillings_right) .none kV31 dc31 pm31 an31 (.ref cc31) ct31), sl31⟩) (c31 : PySem.W.codeIn K (.ref cc31) "_law_fillings_right" = true) (k31 : PySem.W.keepIn K (.ref f31) = true)
    {od32 an32 : Option Addr} {sl32 : Array (Option Value)} {oc32 kV32 dc32 pm32 cd32 ct32 : Value} {f32 : Addr}
    (a32 : PySem.W.nsIn K mainGlobals "law" = some (some (.ref f32))) (l32 : K.lookup f32 = some ⟨oc32, od32, .func (PySem.W.fnOf "law" "law" (defArgs s_law) (defBody s_law) (defScope s_law) .none kV32 dc32 pm32 an32 cd32 ct32), sl32⟩) (c32 : PySem.W.codeIn K cd32 "law" = true) (k32 : PySem.W.keepIn K (.ref f32) = true)
    {B O C N : Addr} {PB PO PS PF : Addr} {tc26 : Value} {td26 : Option Addr} {tv26 : Array Value} {ts26 : Array (Option Value)} {tc27 : Value} {td27 : Option Addr} {tv27 : Array Value} {ts27 : Array (Option Value)} {tc28 : Value} {td28 : Option Addr} {tv28 : Array Value} {ts28 : Array (Option Value)} {tc31 : Value} {td31 : Option Addr} {tv31 : Array Value} {ts31 : Array (Option Value)} {tz t1 t2 t3 t4 t5 tp : Tok} 
    (y0 : PySem.W.nsIn K mainGlobals "int" = some none)
    (y1 : PySem.W.nsIn K mainGlobals "len" = some none)
    (y2 : PySem.W.nsIn K mainGlobals "max" = some none)
    (y3 : PySem.W.nsIn K mainGlobals "min" = some none)
    (y4 : PySem.W.nsIn K mainGlobals "range" = some none)
    (y5 : PySem.W.nsIn K mainGlobals "isinstance" = some none)
    (y6 : PySem.W.nsIn K mainGlobals "bool" = some none)
    (y7 : PySem.W.nsIn K mainGlobals "list" = some none)
    (y8 : PySem.W.nsIn K mainGlobals "sum" = some none)
    (y9 : PySem.W.nsIn K mainGlobals "zip" = some none)
    (eB : PySem.W.nsIn K mainGlobals "BadBits" = some (some (.ref B)))
    (eO : PySem.W.nsIn K mainGlobals "Outside" = some (some (.ref O)))
    (eC : PySem.W.nsIn K mainGlobals "BadCells" = some (some (.ref C)))
    (eN : PySem.W.nsIn K mainGlobals "NarrowError" = some (some (.ref N)))
    (m4 : PySem.W.specialIn K (.builtin "object.__class__") "__get__" = some (some (.builtin "getset_descriptor.__get__")))
    (m5 : PySem.W.takesIn K (.builtin "object.__class__") = some true)
    (exB : PySem.W.excIn K B [.type "ValueError", .type "Exception", .type "BaseException", .type "object"] "ValueError.__new__" = true)
    (kBc : PySem.W.keepIn K (.ref B) = true)
    (bBc : PySem.W.subIn K (.ref B) (.type "BaseException") = some true)
    (tBc : PySem.W.typeIn K (.ref B) = some (.type "type"))
    (m0B : PySem.W.findIn K (.ref B) "__getattribute__" = some (some (.builtin "BaseException.__getattribute__")))
    (m1B : PySem.W.findIn K (.ref B) "__getattr__" = some none)
    (m2B : PySem.W.hasDictIn K B = true)
    (m3B : PySem.W.findIn K (.ref B) "__class__" = some (some (.builtin "object.__class__")))
    (m6B : PySem.W.mroIn K B (.type "object") = some true)
    (sBB : PySem.W.subIn K (.ref B) (.ref B) = some true)
    (exO : PySem.W.excIn K O [.type "ValueError", .type "Exception", .type "BaseException", .type "object"] "ValueError.__new__" = true)
    (kOc : PySem.W.keepIn K (.ref O) = true)
    (bOc : PySem.W.subIn K (.ref O) (.type "BaseException") = some true)
    (tOc : PySem.W.typeIn K (.ref O) = some (.type "type"))
    (m0O : PySem.W.findIn K (.ref O) "__getattribute__" = some (some (.builtin "BaseException.__getattribute__")))
    (m1O : PySem.W.findIn K (.ref O) "__getattr__" = some none)
    (m2O : PySem.W.hasDictIn K O = true)
    (m3O : PySem.W.findIn K (.ref O) "__class__" = some (some (.builtin "object.__class__")))
    (m6O : PySem.W.mroIn K O (.type "object") = some true)
    (sOO : PySem.W.subIn K (.ref O) (.ref O) = some true)
    (exC : PySem.W.excIn K C [.type "ValueError", .type "Exception", .type "BaseException", .type "object"] "ValueError.__new__" = true)
    (kCc : PySem.W.keepIn K (.ref C) = true)
    (bCc : PySem.W.subIn K (.ref C) (.type "BaseException") = some true)
    (tCc : PySem.W.typeIn K (.ref C) = some (.type "type"))
    (m0C : PySem.W.findIn K (.ref C) "__getattribute__" = some (some (.builtin "BaseException.__getattribute__")))
    (m1C : PySem.W.findIn K (.ref C) "__getattr__" = some none)
    (m2C : PySem.W.hasDictIn K C = true)
    (m3C : PySem.W.findIn K (.ref C) "__class__" = some (some (.builtin "object.__class__")))
    (m6C : PySem.W.mroIn K C (.type "object") = some true)
    (sCC : PySem.W.subIn K (.ref C) (.ref C) = some true)
    (sOB : PySem.W.subIn K (.ref O) (.ref B) = some false)
    (sCB : PySem.W.subIn K (.ref C) (.ref B) = some false)
    (sCO : PySem.W.subIn K (.ref C) (.ref O) = some false)
    (gz : PySem.W.nsIn K mainGlobals "MOST_ZEROS" = some (some (.int 40 tz)))
    (gk : PySem.W.nsIn K mainGlobals "CHECK_BITS" = some (some (.int 8 t1)))
    (gf : PySem.W.nsIn K mainGlobals "FEEDBACK" = some (some (.int 7 t2)))
    (gl : PySem.W.nsIn K mainGlobals "LOAD_BITS" = some (some (.int 48 t3)))
    (gc : PySem.W.nsIn K mainGlobals "CELL_BITS" = some (some (.int 56 t4)))
    (gm : PySem.W.nsIn K mainGlobals "MOST_GROUP" = some (some (.int 8 t5)))
    (gp : PySem.W.nsIn K mainGlobals "MOST_PROTECTED" = some (some (.int 1000000 tp)))
    (tb26 : K.lookup cc26 = some ⟨tc26, td26, .fields tv26, ts26⟩)
    (tp26 : tv26[11]? = some (.ref PB))
    (hd26 : PySem.W.codeHdIn K cc26 PB = true)
    (nk26 : K.lookup PB = none)
    (tb27 : K.lookup cc27 = some ⟨tc27, td27, .fields tv27, ts27⟩)
    (tp27 : tv27[11]? = some (.ref PO))
    (hd27 : PySem.W.codeHdIn K cc27 PO = true)
    (nk27 : K.lookup PO = none)
    (tb28 : K.lookup cc28 = some ⟨tc28, td28, .fields tv28, ts28⟩)
    (tp28 : tv28[11]? = some (.ref PS))
    (hd28 : PySem.W.codeHdIn K cc28 PS = true)
    (nk28 : K.lookup PS = none)
    (tb31 : K.lookup cc31 = some ⟨tc31, td31, .fields tv31, ts31⟩)
    (tp31 : tv31[11]? = some (.ref PF))
    (hd31 : PySem.W.codeHdIn K cc31 PF = true)
    (nk31 : K.lookup PF = none)
    (ne01 : (PB == PO) = false)
    (ne02 : (PB == PS) = false)
    (ne03 : (PB == PF) = false)
    (ne12 : (PO == PS) = false)
    (ne13 : (PO == PF) = false)
    (ne23 : (PS == PF) = false)
    (hT0 : h.get? PB = some { cls := .none, data := .fields #[] })
    (hT1 : h.get? PO = some { cls := .none, data := .fields #[] })
    (hT2 : h.get? PS = some { cls := .none, data := .fields #[] })
    (hT3 : h.get? PF = some { cls := .none, data := .fields #[] }) :
    LamX.LawAtS l w K CX0 10 63 "_law_script" mg fa h := by
  have e := hfa.symm.trans (PySem.W.mg_of X G a32)
  cases e
  have T : Txt mg := ⟨PySem.W.mg_none_of X G y0, PySem.W.mg_none_of X G y1, PySem.W.mg_none_of X G y2, PySem.W.mg_none_of X G y3, PySem.W.mg_none_of X G y4, PySem.W.mg_none_of X G y5, PySem.W.mg_none_of X G y6, PySem.W.mg_none_of X G y7, PySem.W.mg_none_of X G y8, PySem.W.mg_none_of X G y9⟩
  have EB : ECls K mg "BadBits" B := ⟨PySem.W.mg_of X G eB, exB, kBc, bBc, tBc, ⟨m0B, m1B, bBc, m2B, m3B, m4, m5, m6B⟩, PySem.W.exm_ref bBc m2B tBc sBB⟩
  have EO : ECls K mg "Outside" O := ⟨PySem.W.mg_of X G eO, exO, kOc, bOc, tOc, ⟨m0O, m1O, bOc, m2O, m3O, m4, m5, m6O⟩, PySem.W.exm_ref bOc m2O tOc sOO⟩
  have EC : ECls K mg "BadCells" C := ⟨PySem.W.mg_of X G eC, exC, kCc, bCc, tCc, ⟨m0C, m1C, bCc, m2C, m3C, m4, m5, m6C⟩, PySem.W.exm_ref bCc m2C tCc sCC⟩
  have qOB := PySem.W.exm_ref bBc m2B tBc sOB
  have qCB := PySem.W.exm_ref bBc m2B tBc sCB
  have qCO := PySem.W.exm_ref bOc m2O tOc sCO
  have c_gz := PySem.W.mg_of X G gz
  have c_gk := PySem.W.mg_of X G gk
  have c_gf := PySem.W.mg_of X G gf
  have c_gl := PySem.W.mg_of X G gl
  have c_gc := PySem.W.mg_of X G gc
  have c_gm := PySem.W.mg_of X G gm
  have c_gp := PySem.W.mg_of X G gp
  have nne01 := ne_of_beq_false ne01
  have nne02 := ne_of_beq_false ne02
  have nne03 := ne_of_beq_false ne03
  have nne12 := ne_of_beq_false ne12
  have nne13 := ne_of_beq_false ne13
  have nne23 := ne_of_beq_false ne23
  have F0 := fun_mk (st := s_is_number) l0 c0 k0
  have b0 := F0.binds (ps := ["thing"]) fun _ _ _ _ _ _ us hl => match us, hl with | [_], _ => rfl
  have F1 := fun_mk (st := s_check_bits) l1 c1 k1
  have b1 := F1.binds (ps := ["bits"]) fun _ _ _ _ _ _ us hl => match us, hl with | [_], _ => rfl
  have F2 := fun_mk (st := s_number_of) l2 c2 k2
  have b2 := F2.binds (ps := ["bits"]) fun _ _ _ _ _ _ us hl => match us, hl with | [_], _ => rfl
  have F3 := fun_mk (st := s_fixed) l3 c3 k3
  have b3 := F3.binds (ps := ["n", "w"]) fun _ _ _ _ _ _ us hl => match us, hl with | [_, _], _ => rfl
  have F4 := fun_mk (st := s_count_at) l4 c4 k4
  have b4 := F4.binds (ps := ["bits", "at"]) fun _ _ _ _ _ _ us hl => match us, hl with | [_, _], _ => rfl
  have F5 := fun_mk (st := s_check_of) l5 c5 k5
  have b5 := F5.binds (ps := ["bits"]) fun _ _ _ _ _ _ us hl => match us, hl with | [_], _ => rfl
  have F6 := fun_mk (st := s_open_cells) l6 c6 k6
  have b6 := F6.binds (ps := ["protected", "group"]) fun _ _ _ _ _ _ us hl => match us, hl with | [_, _], _ => rfl
  have F7 := fun_mk (st := s_good) l7 c7 k7
  have b7 := F7.binds (ps := ["protected", "group"]) fun _ _ _ _ _ _ us hl => match us, hl with | [_, _], _ => rfl
  have F8 := fun_mk (st := s_parts_of) l8 c8 k8
  have b8 := F8.binds (ps := ["things", "size"]) fun _ _ _ _ _ _ us hl => match us, hl with | [_, _], _ => rfl
  have F9 := fun_mk (st := s_parity_of) l9 c9 k9
  have b9 := F9.binds (ps := ["loads"]) fun _ _ _ _ _ _ us hl => match us, hl with | [_], _ => rfl
  have F10 := fun_mk (st := s_is_good) l10 c10 k10
  have b10 := F10.binds (ps := ["cell"]) fun _ _ _ _ _ _ us hl => match us, hl with | [_], _ => rfl
  have F11 := fun_mk (st := s_check_group) l11 c11 k11
  have b11 := F11.binds (ps := ["group"]) fun _ _ _ _ _ _ us hl => match us, hl with | [_], _ => rfl
  have F12 := fun_mk (st := s_check_cells) l12 c12 k12
  have b12 := F12.binds (ps := ["protected", "group"]) fun _ _ _ _ _ _ us hl => match us, hl with | [_, _], _ => rfl
  have F13 := fun_mk (st := s_opened_group) l13 c13 k13
  have b13 := F13.binds (ps := ["cells"]) fun _ _ _ _ _ _ us hl => match us, hl with | [_], _ => rfl
  have F14 := fun_mk (st := s_span_told) l14 c14 k14
  have b14 := F14.binds (ps := ["loads"]) fun _ _ _ _ _ _ us hl => match us, hl with | [_], _ => rfl
  have F15 := fun_mk (st := s_law_pool) l15 c15 k15
  have b15 := F15.binds (ps := ["_law_script", "_law_k"]) fun _ _ _ _ _ _ us hl => match us, hl with | [_, _], _ => rfl
  have F16 := fun_mk (st := s_law_take) l16 c16 k16
  have b16 := F16.binds (ps := ["_law_source", "_law_top"]) fun _ _ _ _ _ _ us hl => match us, hl with | [_, _], _ => rfl
  have F17 := fun_mk (st := s_law_one) l17 c17 k17
  have b17 := F17.binds (ps := ["_law_source", "_law_things"]) fun _ _ _ _ _ _ us hl => match us, hl with | [_, _], _ => rfl
  have F18 := fun_mk (st := s_law_count) l18 c18 k18
  have b18 := F18.binds (ps := ["_law_number"]) fun _ _ _ _ _ _ us hl => match us, hl with | [_], _ => rfl
  have F19 := fun_mk (st := s_law_check) l19 c19 k19
  have b19 := F19.binds (ps := ["_law_load"]) fun _ _ _ _ _ _ us hl => match us, hl with | [_], _ => rfl
  have F20 := fun_mk (st := s_law_sum) l20 c20 k20
  have b20 := F20.binds (ps := ["_law_loads_here"]) fun _ _ _ _ _ _ us hl => match us, hl with | [_], _ => rfl
  have F21 := fun_mk (st := s_law_cells) l21 c21 k21
  have b21 := F21.binds (ps := ["_law_loads_here", "_law_group"]) fun _ _ _ _ _ _ us hl => match us, hl with | [_, _], _ => rfl
  have F22 := fun_mk (st := s_law_loads) l22 c22 k22
  have b22 := F22.binds (ps := ["_law_told"]) fun _ _ _ _ _ _ us hl => match us, hl with | [_], _ => rfl
  have F23 := fun_mk (st := s_law_joined) l23 c23 k23
  have b23 := F23.binds (ps := ["_law_cells_here"]) fun _ _ _ _ _ _ us hl => match us, hl with | [_], _ => rfl
  have F24 := fun_mk (st := s_law_bits) l24 c24 k24
  have b24 := F24.binds (ps := ["_law_source"]) fun _ _ _ _ _ _ us hl => match us, hl with | [_], _ => rfl
  have F25 := fun_mk (st := s_law_heard) l25 c25 k25
  have b25 := F25.binds (ps := ["_law_call"]) fun _ _ _ _ _ _ us hl => match us, hl with | [_], _ => rfl
  have F26 := fun_mk (st := s_law_both) l26 c26 k26
  have FC26 := funC_mk (st := s_law_both) l26 c26
  have b26 := F26.binds (ps := ["_law_bits_here", "_law_group"]) fun _ _ _ _ _ _ us hl => match us, hl with | [_, _], _ => rfl
  have F27 := fun_mk (st := s_law_opened) l27 c27 k27
  have FC27 := funC_mk (st := s_law_opened) l27 c27
  have b27 := F27.binds (ps := ["_law_loads_here", "_law_group"]) fun _ _ _ _ _ _ us hl => match us, hl with | [_, _], _ => rfl
  have F28 := fun_mk (st := s_law_sizes_right) l28 c28 k28
  have FC28 := funC_mk (st := s_law_sizes_right) l28 c28
  have b28 := F28.binds (ps := ["_law_source", "_law_cells_here", "_law_group"]) fun _ _ _ _ _ _ us hl => match us, hl with | [_, _, _], _ => rfl
  have F29 := fun_mk (st := s_law_counted) l29 c29 k29
  have b29 := F29.binds (ps := ["_law_loads_here", "_law_number"]) fun _ _ _ _ _ _ us hl => match us, hl with | [_, _], _ => rfl
  have F30 := fun_mk (st := s_law_counts_right) l30 c30 k30
  have b30 := F30.binds (ps := ["_law_source", "_law_bits_here", "_law_loads_here", "_law_group"]) fun _ _ _ _ _ _ us hl => match us, hl with | [_, _, _, _], _ => rfl
  have F31 := fun_mk (st := s_law_fillings_right) l31 c31 k31
  have FC31 := funC_mk (st := s_law_fillings_right) l31 c31
  have b31 := F31.binds (ps := ["_law_source", "_law_bits_here", "_law_loads_here", "_law_group"]) fun _ _ _ _ _ _ us hl => match us, hl with | [_, _, _, _], _ => rfl
  have F32 := fun_mk (st := s_law) l32 c32 k32
  have b32 := F32.binds (ps := ["_law_script"]) fun _ _ _ _ _ _ us hl => match us, hl with | [_], _ => rfl
  refine ⟨PySem.W.fnOf "law" "law" (defArgs s_law) (defBody s_law) (defScope s_law) .none kV32 dc32 pm32 an32 cd32 ct32, [(cc26, PB), (cc27, PO), (cc28, PS), (cc31, PF)], (spLaw K PB PO PS PF), fun p hp => by
    simp only [List.mem_cons, List.not_mem_nil, or_false] at hp
    rcases hp with rfl | rfl | rfl | rfl
    · exact hT0
    · exact hT1
    · exact hT2
    · exact hT3, fun p hp => by
    simp only [List.mem_cons, List.not_mem_nil, or_false] at hp
    rcases hp with rfl | rfl | rfl | rfl
    · exact nk26
    · exact nk27
    · exact nk28
    · exact nk31, fun p hp => by
    simp only [List.mem_cons, List.not_mem_nil, or_false] at hp
    rcases hp with rfl | rfl | rfl | rfl
    · exact PySem.W.codeHd_of_K X hd26
    · exact PySem.W.codeHd_of_K X hd27
    · exact PySem.W.codeHd_of_K X hd28
    · exact PySem.W.codeHd_of_K X hd31, fun s v => .of_eq rfl, fun H a ns hl _ hH hS => ⟨a, ns, rfl, hS, hl, (fun p hp => by
    rcases List.mem_cons.mp hp with z | hp
    · rw [z]
      exact LamX.TabS.nil (hH (cc26, PB) (by simp))
    rcases List.mem_cons.mp hp with z | hp
    · rw [z]
      exact LamX.TabS.nil (hH (cc27, PO) (by simp))
    rcases List.mem_cons.mp hp with z | hp
    · rw [z]
      exact LamX.TabS.nil (hH (cc28, PS) (by simp))
    rw [List.mem_singleton.mp hp]
    exact LamX.TabS.nil (hH (cc31, PF) (by simp))), fun _ => rfl⟩, fun base _ _ TB => ?_⟩
  have TB0 := TB (cc26, PB) (by simp)
  have TB1 := TB (cc27, PO) (by simp)
  have TB2 := TB (cc28, PS) (by simp)
  have TB3 := TB (cc31, PF) (by simp)
  have CN : Con mg t1 t2 t3 t4 t5 := ⟨c_gk, c_gf, c_gl, c_gc, c_gm⟩
  have hne : Apart PB PO PS PF := by
    unfold Apart
    simp only [List.nodup_cons, List.mem_cons, List.not_mem_nil, or_false, not_or, List.nodup_nil, and_true, not_false_eq_true]
    exact ⟨⟨nne01, nne02, nne03⟩, ⟨nne12, nne13⟩, nne23⟩
  have Z0 : C8.Cal l.prog w K mg base 1 "is_number" spIsNum [] := ⟨_, _, _, _, ok_is_number F0 T, PySem.W.mg_of X G a0, k0, b0, .nil⟩
  have Z2 : C8.Cal l.prog w K mg base 1 "number_of" spNumber [] := ⟨_, _, _, _, ok_number_of F2, PySem.W.mg_of X G a2, k2, b2, .nil⟩
  have Z3 : C8.Cal l.prog w K mg base 1 "fixed" spFixed [] := ⟨_, _, _, _, ok_fixed F3 T, PySem.W.mg_of X G a3, k3, b3, .nil⟩
  have Z4 : C8.Cal l.prog w K mg base 2 "count_at" spCountAt [] := ⟨_, _, _, _, ok_count_at F4 T c_gz Z2, PySem.W.mg_of X G a4, k4, b4, .nil⟩
  have Z5 : C8.Cal l.prog w K mg base 2 "check_of" spCheckOf [] := ⟨_, _, _, _, ok_check_of F5 CN Z3, PySem.W.mg_of X G a5, k5, b5, .nil⟩
  have Z8 : C8.Cal l.prog w K mg base 1 "parts_of" spParts [] := ⟨_, _, _, _, ok_parts F8 T, PySem.W.mg_of X G a8, k8, b8, .nil⟩
  have Z9 : C8.Cal l.prog w K mg base 1 "parity_of" spParity [] := ⟨_, _, _, _, ok_parity F9 T, PySem.W.mg_of X G a9, k9, b9, .nil⟩
  have Z10 : C8.Cal l.prog w K mg base 3 "is_good" spIsGood [] := ⟨_, _, _, _, ok_is_good F10 CN Z5, PySem.W.mg_of X G a10, k10, b10, .nil⟩
  have Z13 : C8.Cal l.prog w K mg base 4 "opened_group" spOpened [] := ⟨_, _, _, _, ok_opened F13 CN Z10 Z9, PySem.W.mg_of X G a13, k13, b13, .nil⟩
  have CV : C8.Cal l.prog w K mg base 1 "is_number" spIsNumV [] := ⟨_, _, _, _, ok_is_numberV F0 T, PySem.W.mg_of X G a0, k0, b0, .nil⟩
  have GB := ok_check_bitsX (P := l.prog) (w := w) (base := base) (k := 0) F1 EB CV
  have GG := ok_groupX (P := l.prog) (w := w) (base := base) (k := 0) F11 CN EO
  have GC := ok_cells2 (P := l.prog) (w := w) (base := base) (k := 0) F12 T CN EC GB (PySem.W.mg_of X G a1) k1 b1 GG (PySem.W.mg_of X G a11) k11 b11
  have GS := ok_spanX (P := l.prog) (w := w) (base := base) (k := 0) F14 T CN c_gp EC Z4
  have GD := ok_good2 (P := l.prog) (w := w) (base := base) (k := 0) F7 CN GC (PySem.W.mg_of X G a12) k12 b12 Z8 Z10
  have GO := ok_open2 (P := l.prog) (w := w) (base := base) (k := 0) F6 T CN EC GC (PySem.W.mg_of X G a12) k12 b12 GS (PySem.W.mg_of X G a14) k14 b14 Z8 Z13
  have D : HeardD K mg f25 B O C N := ⟨EB, EO, EC, PySem.W.mg_of X G eN, qOB, qCB, qCO, PySem.W.mg_of X G a25, k25, ⟨_, _, _, _, _, _, _, _, _, l25, c25, b25⟩⟩
  have Z15 : C8.Cal l.prog w K mg base 1 "_law_pool" (spPool K) [] := ⟨_, _, _, _, ok_pool F15 T, PySem.W.mg_of X G a15, k15, b15, .nil⟩
  have Z16 : C8.Cal l.prog w K mg base 1 "_law_take" spTake [] := ⟨_, _, _, _, ok_take F16 T, PySem.W.mg_of X G a16, k16, b16, .nil⟩
  have Z17 : C8.Cal l.prog w K mg base 2 "_law_one" spOne [] := ⟨_, _, _, _, ok_one F17 T Z16, PySem.W.mg_of X G a17, k17, b17, .nil⟩
  have Z18 : C8.Cal l.prog w K mg base 1 "_law_count" spCountL [] := ⟨_, _, _, _, ok_countL F18 T, PySem.W.mg_of X G a18, k18, b18, .nil⟩
  have Z19 : C8.Cal l.prog w K mg base 1 "_law_check" spCheckL [] := ⟨_, _, _, _, ok_checkL F19 T, PySem.W.mg_of X G a19, k19, b19, .nil⟩
  have Z20 : C8.Cal l.prog w K mg base 1 "_law_sum" spSumL [] := ⟨_, _, _, _, ok_sumL F20 T, PySem.W.mg_of X G a20, k20, b20, .nil⟩
  have Z21 : C8.Cal l.prog w K mg base 2 "_law_cells" spCellsL [] := ⟨_, _, _, _, ok_cellsL F21 T Z20 Z19, PySem.W.mg_of X G a21, k21, b21, .nil⟩
  have Z22 : C8.Cal l.prog w K mg base 1 "_law_loads" spLoadsL [] := ⟨_, _, _, _, ok_loadsL F22 T, PySem.W.mg_of X G a22, k22, b22, .nil⟩
  have Z23 : C8.Cal l.prog w K mg base 1 "_law_joined" spJoinL [] := ⟨_, _, _, _, ok_joinL F23, PySem.W.mg_of X G a23, k23, b23, .nil⟩
  have Z24 : C8.Cal l.prog w K mg base 2 "_law_bits" spBitsL [] := ⟨_, _, _, _, ok_bitsL F24 T Z16 Z18, PySem.W.mg_of X G a24, k24, b24, .nil⟩
  have Z29 : C8.Cal l.prog w K mg base 2 "_law_counted" spCounted [] := ⟨_, _, _, _, ok_counted F29 T Z18, PySem.W.mg_of X G a29, k29, b29, .nil⟩
  have Z26 : C8.Cal l.prog w K mg base 8 "_law_both" (spBoth PB PO PS PF) [] := ⟨_, _, _, _, ok_both FC26 D TB0 hne GD (PySem.W.mg_of X G a7) k7 b7 GO (PySem.W.mg_of X G a6) k6 b6, PySem.W.mg_of X G a26, k26, b26, .nil⟩
  have Z27 : C8.Cal l.prog w K mg base 8 "_law_opened" (spOpenedL PB PO PS PF) [] := ⟨_, _, _, _, ok_openedL FC27 D TB1 hne GO (PySem.W.mg_of X G a6) k6 b6 Z21 Z23, PySem.W.mg_of X G a27, k27, b27, .nil⟩
  have Z28 : C8.Cal l.prog w K mg base 9 "_law_sizes_right" (spSizes PB PO PS PF) [] := ⟨_, _, _, _, ok_sizes FC28 T D TB2 hne GD (PySem.W.mg_of X G a7) k7 b7 Z16 Z17 Z19 Z23 Z26, PySem.W.mg_of X G a28, k28, b28, .nil⟩
  have Z30 : C8.Cal l.prog w K mg base 9 "_law_counts_right" (spCounts PB PO PS PF) [] := ⟨_, _, _, _, ok_counts F30 T Z18 Z29 Z27, PySem.W.mg_of X G a30, k30, b30, .nil⟩
  have Z31 : C8.Cal l.prog w K mg base 9 "_law_fillings_right" (spFillings PB PO PS PF) [] := ⟨_, _, _, _, ok_fillings FC31 T D TB3 hne GO (PySem.W.mg_of X G a6) k6 b6 Z18 Z16 Z27 Z21 Z23, PySem.W.mg_of X G a31, k31, b31, .nil⟩
  exact ok_law F32 T Z15 Z16 Z24 Z18 Z22 Z21 Z28 Z30 Z31
end My
open PySem PySem.W PyProof.Rows
set_option maxRecDepth 100000 in
set_option maxHeartbeats 0 in
theorem PySem.Challenge.cw_narrowingbits_k62_cells_refused_holds : PySem.Challenge.rw_narrowingbits_k62_cells_refused.Holds := by
  w_on; o_law; k_head; (case hw => w_witness2)
  k_fill
  refine LamX.walk_ofTs (l := PySem.Challenge.rw_narrowingbits_k62_cells_refused) (n := 63) (k := 10) (x := "_law_script") (CX := fun _ => L2.CX0) rfl (by decide) rfl ⟨rfl, by decide, by decide⟩ (fun w h Y => PySem.W.km_in_of Y) ?F (fun _ _ _ _ _ h => h)
  case F =>
    intro w mg fa h Y KX G hmg
    have hT8 := PySem.W.km_tabs_of Y
    refine' My.all_mk KX G hmg  ?a0 ?l0 ?c0 ?k0 ?a1 ?l1 ?c1 ?k1 ?a2 ?l2 ?c2 ?k2 ?a3 ?l3 ?c3 ?k3 ?a4 ?l4 ?c4 ?k4 ?a5 ?l5 ?c5 ?k5 ?a6 ?l6 ?c6 ?k6 ?a7 ?l7 ?c7 ?k7 ?a8 ?l8 ?c8 ?k8 ?a9 ?l9 ?c9 ?k9 ?a10 ?l10 ?c10 ?k10 ?a11 ?l11 ?c11 ?k11 ?a12 ?l12 ?c12 ?k12 ?a13 ?l13 ?c13 ?k13 ?a14 ?l14 ?c14 ?k14 ?a15 ?l15 ?c15 ?k15 ?a16 ?l16 ?c16 ?k16 ?a17 ?l17 ?c17 ?k17 ?a18 ?l18 ?c18 ?k18 ?a19 ?l19 ?c19 ?k19 ?a20 ?l20 ?c20 ?k20 ?a21 ?l21 ?c21 ?k21 ?a22 ?l22 ?c22 ?k22 ?a23 ?l23 ?c23 ?k23 ?a24 ?l24 ?c24 ?k24 ?a25 ?l25 ?c25 ?k25 ?a26 ?l26 ?c26 ?k26 ?a27 ?l27 ?c27 ?k27 ?a28 ?l28 ?c28 ?k28 ?a29 ?l29 ?c29 ?k29 ?a30 ?l30 ?c30 ?k30 ?a31 ?l31 ?c31 ?k31 ?a32 ?l32 ?c32 ?k32 ?y0 ?y1 ?y2 ?y3 ?y4 ?y5 ?y6 ?y7 ?y8 ?y9 ?eB ?eO ?eC ?eN ?m4 ?m5 ?exB ?kBc ?bBc ?tBc ?m0B ?m1B ?m2B ?m3B ?m6B ?sBB ?exO ?kOc ?bOc ?tOc ?m0O ?m1O ?m2O ?m3O ?m6O ?sOO ?exC ?kCc ?bCc ?tCc ?m0C ?m1C ?m2C ?m3C ?m6C ?sCC ?sOB ?sCB ?sCO ?gz ?gk ?gf ?gl ?gc ?gm ?gp ?tb26 ?tp26 ?hd26 ?nk26 ?tb27 ?tp27 ?hd27 ?nk27 ?tb28 ?tp28 ?hd28 ?nk28 ?tb31 ?tp31 ?hd31 ?nk31 ?ne01 ?ne02 ?ne03 ?ne12 ?ne13 ?ne23 ?hT0 ?hT1 ?hT2 ?hT3
    (case a0 => k_is); (case l0 => k_is); (case c0 => k_is); (case k0 => k_is)
    (case a1 => k_is); (case l1 => k_is); (case c1 => k_is); (case k1 => k_is)
    (case a2 => k_is); (case l2 => k_is); (case c2 => k_is); (case k2 => k_is)
    (case a3 => k_is); (case l3 => k_is); (case c3 => k_is); (case k3 => k_is)
    (case a4 => k_is); (case l4 => k_is); (case c4 => k_is); (case k4 => k_is)
    (case a5 => k_is); (case l5 => k_is); (case c5 => k_is); (case k5 => k_is)
    (case a6 => k_is); (case l6 => k_is); (case c6 => k_is); (case k6 => k_is)
    (case a7 => k_is); (case l7 => k_is); (case c7 => k_is); (case k7 => k_is)
    (case a8 => k_is); (case l8 => k_is); (case c8 => k_is); (case k8 => k_is)
    (case a9 => k_is); (case l9 => k_is); (case c9 => k_is); (case k9 => k_is)
    (case a10 => k_is); (case l10 => k_is); (case c10 => k_is); (case k10 => k_is)
    (case a11 => k_is); (case l11 => k_is); (case c11 => k_is); (case k11 => k_is)
    (case a12 => k_is); (case l12 => k_is); (case c12 => k_is); (case k12 => k_is)
    (case a13 => k_is); (case l13 => k_is); (case c13 => k_is); (case k13 => k_is)
    (case a14 => k_is); (case l14 => k_is); (case c14 => k_is); (case k14 => k_is)
    (case a15 => k_is); (case l15 => k_is); (case c15 => k_is); (case k15 => k_is)
    (case a16 => k_is); (case l16 => k_is); (case c16 => k_is); (case k16 => k_is)
    (case a17 => k_is); (case l17 => k_is); (case c17 => k_is); (case k17 => k_is)
    (case a18 => k_is); (case l18 => k_is); (case c18 => k_is); (case k18 => k_is)
    (case a19 => k_is); (case l19 => k_is); (case c19 => k_is); (case k19 => k_is)
    (case a20 => k_is); (case l20 => k_is); (case c20 => k_is); (case k20 => k_is)
    (case a21 => k_is); (case l21 => k_is); (case c21 => k_is); (case k21 => k_is)
    (case a22 => k_is); (case l22 => k_is); (case c22 => k_is); (case k22 => k_is)
    (case a23 => k_is); (case l23 => k_is); (case c23 => k_is); (case k23 => k_is)
    (case a24 => k_is); (case l24 => k_is); (case c24 => k_is); (case k24 => k_is)
    (case a25 => k_is); (case l25 => k_is); (case c25 => k_is); (case k25 => k_is)
    (case a26 => k_is); (case l26 => k_is); (case c26 => k_is); (case k26 => k_is)
    (case a27 => k_is); (case l27 => k_is); (case c27 => k_is); (case k27 => k_is)
    (case a28 => k_is); (case l28 => k_is); (case c28 => k_is); (case k28 => k_is)
    (case a29 => k_is); (case l29 => k_is); (case c29 => k_is); (case k29 => k_is)
    (case a30 => k_is); (case l30 => k_is); (case c30 => k_is); (case k30 => k_is)
    (case a31 => k_is); (case l31 => k_is); (case c31 => k_is); (case k31 => k_is)
    (case a32 => k_is); (case l32 => k_is); (case c32 => k_is); (case k32 => k_is)
    (case y0 => k_is)
    (case y1 => k_is)
    (case y2 => k_is)
    (case y3 => k_is)
    (case y4 => k_is)
    (case y5 => k_is)
    (case y6 => k_is)
    (case y7 => k_is)
    (case y8 => k_is)
    (case y9 => k_is)
    (case eB => k_is)
    (case eO => k_is)
    (case eC => k_is)
    (case eN => k_is)
    (case m4 => k_is)
    (case m5 => k_is)
    (case kBc => k_is)
    (case bBc => k_is)
    (case tBc => k_is)
    (case m0B => k_is)
    (case m1B => k_is)
    (case m2B => k_is)
    (case m3B => k_is)
    (case m6B => k_is)
    (case sBB => k_is)
    (case kOc => k_is)
    (case bOc => k_is)
    (case tOc => k_is)
    (case m0O => k_is)
    (case m1O => k_is)
    (case m2O => k_is)
    (case m3O => k_is)
    (case m6O => k_is)
    (case sOO => k_is)
    (case kCc => k_is)
    (case bCc => k_is)
    (case tCc => k_is)
    (case m0C => k_is)
    (case m1C => k_is)
    (case m2C => k_is)
    (case m3C => k_is)
    (case m6C => k_is)
    (case sCC => k_is)
    (case sOB => k_is)
    (case sCB => k_is)
    (case sCO => k_is)
    (case gz => k_is)
    (case gk => k_is)
    (case gf => k_is)
    (case gl => k_is)
    (case gc => k_is)
    (case gm => k_is)
    (case gp => k_is)
    (case tb26 => k_is)
    (case tb27 => k_is)
    (case tb28 => k_is)
    (case tb31 => k_is)
    (case tp26 => rfl)
    (case hd26 => kernel_rfl)
    (case tp27 => rfl)
    (case hd27 => kernel_rfl)
    (case tp28 => rfl)
    (case hd28 => kernel_rfl)
    (case tp31 => rfl)
    (case hd31 => kernel_rfl)
    (case nk26 => kernel_rfl)
    (case nk27 => kernel_rfl)
    (case nk28 => kernel_rfl)
    (case nk31 => kernel_rfl)
    (case exB => k_exc)
    (case exO => k_exc)
    (case exC => k_exc)
    (case ne01 => rfl)
    (case ne02 => rfl)
    (case ne03 => rfl)
    (case ne12 => rfl)
    (case ne13 => rfl)
    (case ne23 => rfl)
    (case hT0 => exact hT8 _ (by k_mem))
    (case hT1 => exact hT8 _ (by k_mem))
    (case hT2 => exact hT8 _ (by k_mem))
    (case hT3 => exact hT8 _ (by k_mem))
