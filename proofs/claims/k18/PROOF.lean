import PyProof.Rows.All
import Wide.All
import OpenK.AllK
import Wide.FinOn
import HandS.ForMost
import HandS.Wide
import HandS.IsInst
import HandS.Codes
import HandS.Style
import HandS.EndBits
import HandS.Walk
import HandS.FStr
import HandS.WideBits
import HandS.Defaults
import HandS.Exc
import HandS.TryOnly
import HandS.ExcOwn
import HandS.WordsExc
import HandS.ExcIs
import HandS.Lambda
import HandS.EndTab
import KE.KTupSum
import HandS.Iter
import HandS.Property
import HandS.ForList
import HandS.MakeKw
import HandS.MakeKwOnly
import KE.KExcIs
import HandS.ExcInit
import HandS.ExcField
import HandS.Replace
import HandS.More
import HandS.Text
import HandS.TryMany
import HandS.Deep
import KE.DataFind
import HandS.TupLen
import HandS.TupLe
import HandS.RevRange
import HandS.Zip
import KE.KDictZip
import KE.GoesMore
import HandS.Star
import HandS.DictComp
import HandS.Conv
import KE.KDictSum
import KE.KSortTupG
import PyProof.CollectStr
import PyProof.SliceStr2
import PyProof.WalksMore
import PyProof.MinMaxWalk
import PyProof.SumWalkG
import KE.KDictCopyH
import HandS.Dict
import KE.GoesEnumKw
import KE.KTup
import HandS.Call
import HandS.DictEq
import PySem.Challenge.RW_narrowingbits_k18_bands_by_words
set_option Elab.async false
set_option linter.all false
set_option maxRecDepth 100000
set_option maxHeartbeats 4000000
namespace My
open PySem PySem.Spec PyProof.Rows L2
/-! ### arithmetic -/
theorem cdivw {i j : Int} (h : 0 < j) (h2 : j < 18446744073709551616) : CDivW i j := wide_div (b := 64) h (by omega) (by decide) (by decide)
theorem cmull {i j : Int} (h : -18446744073709551616 < i) (h2 : i < 18446744073709551616) : CMul i j := .inl ⟨by omega, by omega⟩
theorem cmulr {i j : Int} (h : -18446744073709551616 < j) (h2 : j < 18446744073709551616) : CMul i j := .inr ⟨by omega, by omega⟩
theorem pow18 : ((10 : Int) ^ (18 : Int).toNat) = 1000000000000000000 := by decide +kernel
theorem pow30 : ((10 : Int) ^ (30 : Int).toNat) = 1000000000000000000000000000000 := by decide +kernel
theorem pow9 : ((10 : Int) ^ (9 : Int).toNat) = 1000000000 := by decide +kernel
theorem pool_nn (c : Int) (b : Bool) : 0 ≤ (if -1 - c > c then -1 - c else c) * (if b = true then 1 else 0) := by
  refine Int.mul_nonneg ?_ ?_
  · split <;> omega
  · split <;> decide
theorem at_lt {ns : List Int} {k : Int} (h0 : 0 ≤ k) (h : k < ((ns.map V.int).length : Int)) : ∃ z, atI (ns.map V.int) k = some (.int z) := by
  rw [List.length_map] at h
  refine ⟨ns[k.toNat]'(by omega), at_of (j := k.toNat) (by omega) ?_⟩
  rw [List.getElem?_map, List.getElem?_eq_getElem (by omega)]
  rfl
theorem at_mem {xs : List V} {r : Int} (h0 : 0 ≤ r) (h : r < (xs.length : Int)) : ∃ v, atI xs r = some v ∧ v ∈ xs := by
  refine ⟨xs[r.toNat]'(by omega), at_of (j := r.toNat) (by omega) (List.getElem?_eq_getElem (by omega)), List.getElem_mem _⟩
/-! ### heaps -/
theorem same_upd {H : Hp} {p : Addr} {o : HO} (h : H p = none) : Same H (upd H p o) := fun b x e => by
  rw [upd_ne (ne_of_none e h)]
  exact e
/-- a source of draws stands at a -/
def Src (H : Hp) (a : Addr) : Prop := ∃ x y : Int, H a = some (.lst [.int x, .int y]) ∧ 0 ≤ x ∧ 0 ≤ y ∧ y < 2147483647
/-- all but a is as it was -/
def But (a : Addr) (H H' : Hp) : Prop := ∀ b, b ≠ a → H' b = H b
theorem But.refl (a : Addr) (H : Hp) : But a H H := fun _ _ => rfl
theorem But.trans {a : Addr} {H H1 H2 : Hp} (u : But a H H1) (v : But a H1 H2) : But a H H2 := fun b e => (v b e).trans (u b e)
theorem But.upd {a : Addr} {H : Hp} {o : HO} : But a H (upd H a o) := fun b e => upd_ne e
theorem But.at {a b : Addr} {H H' : Hp} {o : HO} (u : But a H H') (n : b ≠ a) (h : H b = some o) : H' b = some o := (u b n).trans h
theorem src_same {H H' : Hp} {a : Addr} (s : Same H H') (h : Src H a) : Src H' a := by
  obtain ⟨x, y, e, r⟩ := h
  exact ⟨x, y, s _ _ e, r⟩
theorem Src.ne {H : Hp} {a p : Addr} (h : Src H a) (n : H p = none) : a ≠ p := by
  obtain ⟨x, y, e, r⟩ := h
  exact ne_of_none e n
theorem same_but {a : Addr} {G H H' : Hp} (s : Same G H) (u : But a H H') (n : G a = none) : Same G H' := fun b o e => by
  rw [u b (ne_of_none e n)]
  exact s b o e
theorem kit_ii {K : PySem.W.Frag} : PySem.W.kitOne K (.type "int") (.type "int") = some true := kit_ty (by decide +kernel)
theorem kit_ib {K : PySem.W.Frag} : PySem.W.kitOne K (.type "int") (.type "bool") = some false := kit_ty (by decide +kernel)
theorem kit_bi {K : PySem.W.Frag} : PySem.W.kitOne K (.type "bool") (.type "int") = some true := kit_ty (by decide +kernel)
theorem kit_bb {K : PySem.W.Frag} : PySem.W.kitOne K (.type "bool") (.type "bool") = some true := kit_ty (by decide +kernel)
theorem kit_tt {K : PySem.W.Frag} : PySem.W.kitOne K (.type "tuple") (.type "tuple") = some true := kit_ty (by decide +kernel)
theorem kit_ll {K : PySem.W.Frag} : PySem.W.kitOne K (.type "list") (.type "list") = some true := kit_ty (by decide +kernel)
theorem kit_tl {K : PySem.W.Frag} : PySem.W.kitOne K (.type "tuple") (.type "list") = some false := kit_ty (by decide +kernel)
theorem kit_lt {K : PySem.W.Frag} : PySem.W.kitOne K (.type "list") (.type "tuple") = some false := kit_ty (by decide +kernel)
theorem op_powc {X : Cx} {a b c : Int} (hc : CPow a b) (h : a ^ b.toNat = c) : OpR X (binaryOp .Pow) (fun x y H Q => x = .int a ∧ y = .int b ∧ Q (.int c) H) := by
  intro pins s σ H x y v u Q I rx ry h'
  obtain ⟨rfl, rfl, q⟩ := h'
  exact op_pow pins s σ H _ _ v u Q I rx ry ⟨_, _, rfl, rfl, hc, by subst h; exact q⟩
theorem dp_pair {K : PySem.W.Frag} {H : Hp} {p : Addr} {a b : Int} (h : H p = some (.tup [.int a, .int b])) : Dp K H (.ref p) (.tuple [.int a, .int b]) := .tup (.inl (.inl h)) (.cons (.int _) (.cons (.int _) .nil))
theorem eq_pair (a b : Int) : PyData.eqv (.tuple [.int a, .int b]) (.tuple [.int a, .int b]) = true := by
  simp [PyData.eqv, PyData.eqvAll]
theorem tup_eq {H : Hp} {p : Addr} {x x' y y' : Int} (h : H p = some (.tup [.int x, .int y])) (h1 : x = x') (h2 : y = y') : H p = some (.tup [.int x', .int y']) := by
  rw [← h1, ← h2]
  exact h
end My
namespace My
section
open PySem PySem.W PyProof.Rows Builtin Builtin.Str Builtin.Int Builtin.Float
def binCodes (n : Nat) : List Nat := (Nat.toDigits 2 n).map Char.toNat
theorem field_plain (ds : List Nat) (h : ds.isEmpty = false) : intField' { align := 62, type := some 98 } false [] ds [] 4 = ⟨ds.toArray⟩ := by
  unfold intField'
  simp [h]
theorem digs_ne (n : Nat) : ((Nat.toDigits 2 n).map fun c => ((if ((98 : Nat) == 88) = true then c.toUpper else c) : Char).toNat).isEmpty = false := by
  cases e : Nat.toDigits 2 n with
  | nil =>
    have := tDigits_len_ge 2 n
    rw [e] at this
    cases this
  | cons a l => rfl
theorem meets_bin {x : Int} {t : Tok} (h0 : 0 ≤ x) (hL : (Nat.toDigits 2 x.natAbs).length ≤ sizeLine) :
    ∀ u, Meets (Builtin.«int.__format__» ⟨[.int x t, .str (Str.ofString "b") u], []⟩) (fun _ R s => ∀ t' k, R (.ok (.ret (.str ⟨(binCodes x.natAbs).toArray⟩ t'))) { s with toks := k }) := by
  intro u
  apply KPc.meets_of
  intro prog w A E s Q h
  unfold Builtin.«int.__format__»
  refine wpAny_bind (wpAny_of_eq (a := (_, _)) rfl ?_)
  refine wpAny_bind (wpAny_of_eq (a := _) rfl ?_)
  kxf_if
  refine wpAny_bind (wpAny_typeNameOf (T := "str") (typeIs_str _ _ _) (by decide) fun _ => ?_)
  refine wpAny_bind (wpAny_of_eq (a := some _) rfl ?_)
  kxf_if
  kxf_if
  refine wpAny_bind (wpAny_typeNameOfCut_int ?_)
  repeat kxf_if
  refine KXf.ret_text (T := ⟨(binCodes x.natAbs).toArray⟩) ?e ?l h
  case e =>
    have hx : decide (x < 0) = false := decide_eq_false (by omega)
    rw [hx]
    show intField' { align := 62, type := some 98 } false [] ((Nat.toDigits 2 x.natAbs).map fun c => ((if ((98 : Nat) == 88) = true then c.toUpper else c) : Char).toNat) [] 4 = _
    exact field_plain _ (digs_ne _)
  case l =>
    have hx : decide (x < 0) = false := decide_eq_false (by omega)
    rw [hx]
    show (intField' { align := 62, type := some 98 } false [] ((Nat.toDigits 2 x.natAbs).map fun c => ((if ((98 : Nat) == 88) = true then c.toUpper else c) : Char).toNat) [] 4).length ≤ sizeLine
    rw [field_plain _ (digs_ne _)]
    show ((binCodes x.natAbs).toArray).size ≤ sizeLine
    rw [List.size_toArray, binCodes, List.length_map]
    exact hL
end
end My
namespace My
open PySem PySem.Spec PyProof.Rows L2
/-! ### an f-string's field in binary -/
section
variable {X : Cx}
theorem pe_fmtB {e : Expr} {te : TE} {k : Nat} {pos p1 p2 : Pos} (he : PE X e te) : PE X (.FormattedValue e (-1) (some (.JoinedStr [.Constant (.str "b") k p1] p2)) pos)
    (fun σ H Q => te σ H fun x H1 => ∃ i : Int, x = .int i ∧ 0 ≤ i ∧ (Nat.toDigits 2 i.natAbs).length ≤ sizeLine ∧ Q (.str (SX.S (binCodes i.natAbs))) H1) := by
  refine ⟨fun pins s σ H Q I h => ?_⟩
  refine wpAny_FormattedValue_spec (thn (he.run pins s σ H _ I h) fun v s1 hv => ?_)
  obtain ⟨x, H1, I1, r1, i, rfl, h0, hL, q⟩ := hv
  obtain ⟨t, rfl⟩ := r1
  refine thn ((pe_joined1 (X := X) (pe_str (x := "b") (j := k) (pos := p1)) (pos := p2)).run pins s1 σ H1 (fun y H2 => y = .str "b" ∧ H2 = H1) I1 ⟨rfl, rfl⟩) fun r s2 hr => ?_
  obtain ⟨y, H2, I2, r2, rfl, rfl⟩ := hr
  obtain ⟨t2, rfl⟩ := r2
  exact ⟨_, t2, rfl, PySem.W.KXf.field_int rfl rfl (by decide) (meets_bin h0 hL) fun t' k => ⟨.str _, _, I2.tok _, ⟨_, rfl⟩, q⟩⟩
/-- a call by keywords alone -/
theorem pe_kw0 {CX : CXT} {k : Nat} {f : Addr} {fd : FuncData} {ps ks : List Str} {sp : Sp} {E : XK} {x : Str} {p pos : Pos} {kws : List Keyword} {tk : TA} {g : List Value → List Value → List Value} {gV : List V → List V → List V}
    (F : FnOk X.prog X.w X.K X.mg X.base CX k f fd ps sp) (hr : Room k X.A) (hg : Gl X x) (hm : X.mg x = some (.ref f)) (hk : PySem.W.keepIn X.K (.ref f) = true) (hb : KBn X.K fd ps 0 ks g gV) (hx : Passes CX X E) (hkw : PK X kws tk)
    (hall : (backToKw pos (keywordEach kws X.env)).all (·.1.isSome) = true := by rfl) (hks : (backToKw pos (keywordEach kws X.env)).filterMap (·.1) = ks := by rfl) (hdb : (x == ("__debug__" : Str)) = false := by decide)
    (hpl : ((backTo pos (starEach [] X.env)).any (·.1) || (backToKw pos (keywordEach kws X.env)).any (·.1.isNone)) = false := by rfl) :
    PE X (.Call (.Name x p) [] kws pos) (fun σ H Q => tk σ H fun zs H2 => zs.length = ks.length ∧ sp (gV [] zs) H2 Q E) := by
  refine ⟨fun pins s σ H Q I h => ?_⟩
  refine wpAny_Call_Name_kw (ld_glob I hg hm ?_ hdb)
  refine PySem.W.callWith_KW0 (h₀ := X.base) I.ok.mod.kin hk hall ?_ hpl
  refine thn (hkw.run pos pins s σ H _ I h) fun ws s2 ⟨zs, H2, I2, rz, l2, q2⟩ => ⟨I2.kIn, ?_⟩
  rw [hks]
  exact run_fnN (us := []) (vs := []) F hr hb hx I2 .nil rz rfl l2 q2
/-- a def that may be called by keywords alone -/
structure CalK (P : Program) (w : World) (K : PySem.W.Frag) (mg : Str → Option Value) (base : Heap) (k : Nat) (x : Str) (ks : List Str) (sp : Sp) : Prop where
  ex : ∃ (f : Addr) (fd : FuncData) (ps : List Str), FnOk P w K mg base CX0 k f fd ps sp ∧ mg x = some (.ref f) ∧ PySem.W.keepIn K (.ref f) = true ∧ KBn K fd ps 0 ks (fun _ ws => ws) (fun _ zs => zs)
theorem pe_ck {k j : Nat} {ks : List Str} {sp : Sp} {x : Str} {p pos : Pos} {kws : List Keyword} {tk : TA} (c : CalK X.prog X.w X.K X.mg X.base k x ks sp) (hr : Room j X.A) (hk : k ≤ j) (hg : Gl X x) (hkw : PK X kws tk)
    (hall : (backToKw pos (keywordEach kws X.env)).all (·.1.isSome) = true := by rfl) (hks : (backToKw pos (keywordEach kws X.env)).filterMap (·.1) = ks := by rfl) (hdb : (x == ("__debug__" : Str)) = false := by decide)
    (hpl : ((backTo pos (starEach [] X.env)).any (·.1) || (backToKw pos (keywordEach kws X.env)).any (·.1.isNone)) = false := by rfl) :
    PE X (.Call (.Name x p) [] kws pos) (fun σ H Q => tk σ H fun zs H2 => zs.length = ks.length ∧ sp zs H2 Q E0) := by
  obtain ⟨f, fd, ps, F, hm, hkp, hb⟩ := c.ex
  exact pe_kw0 F (hr.mono hk) hg hm hkp hb pass0 hkw hall hks hdb hpl
end
/-! ### digits -/
/-- the w binary digits of n, the highest first -/
def bitsW : Nat → Nat → List Nat
  | 0, _ => []
  | w + 1, n => bitsW w (n / 2) ++ [n % 2]
theorem bitsW_len : ∀ w n, (bitsW w n).length = w
  | 0, _ => rfl
  | w + 1, n => by rw [bitsW, List.length_append, bitsW_len w (n / 2)]; rfl
theorem bitsW_bit : ∀ w n, ∀ b ∈ bitsW w n, b < 2
  | 0, _, b, h => by cases h
  | w + 1, n, b, h => by
    rw [bitsW, List.mem_append] at h
    rcases h with h | h
    · exact bitsW_bit w _ b h
    · rw [List.mem_singleton] at h
      omega
theorem digit_code {b : Nat} (h : b < 2) : (Nat.digitChar b).toNat = 48 + b := by
  match b, h with
  | 0, _ => rfl
  | 1, _ => rfl
theorem binCodes_pow : ∀ w n, n < 2 ^ w → binCodes (2 ^ w + n) = 49 :: (bitsW w n).map (48 + ·)
  | 0, n, h => by
    have e : n = 0 := by omega
    subst e
    rfl
  | w + 1, n, h => by
    have p : 2 ^ (w + 1) = 2 * 2 ^ w := by rw [Nat.pow_succ, Nat.mul_comm]
    have g : 0 < 2 ^ w := Nat.two_pow_pos w
    have ih := binCodes_pow w (n / 2) (by omega)
    unfold binCodes at ih ⊢
    rw [Nat.toDigits_of_base_le (by decide) (by omega), List.map_append, show (2 ^ (w + 1) + n) / 2 = 2 ^ w + n / 2 by omega, ih, show (2 ^ (w + 1) + n) % 2 = n % 2 by omega, bitsW, List.map_append]
    show 49 :: _ ++ [(Nat.digitChar (n % 2)).toNat] = _
    rw [digit_code (Nat.mod_lt _ (by decide))]
    rfl
/-- the digits as numbers -/
def bitsI (w n : Nat) : List Int := (bitsW w n).map fun (b : Nat) => (b : Int)
theorem bitsI_len (w n : Nat) : (bitsI w n).length = w := by rw [bitsI, List.length_map, bitsW_len]
theorem digit_int {b : Nat} (h : b < 2) : PySem.intText? ⟨#[48 + b]⟩ = some (b : Int) := by
  match b, h with
  | 0, _ => decide +kernel
  | 1, _ => decide +kernel
theorem take_snoc {α : Type} {l : List α} {i : Nat} {x : α} (h : l[i]? = some x) : l.take i ++ [x] = l.take (i + 1) := by
  rw [List.take_add_one, h]
  rfl
end My
namespace My
open PySem PySem.Spec PyProof.Rows L2
/-! ### lists of numbers compared -/
theorem eqv_same {d : PyData} (h : SeqAt.shaped d = true) : PyData.eqv d d = true := SeqAt.eqv_refl d (SeqAt.canLay_of_shaped h)
theorem dpall_ints {K : PySem.W.Frag} {H : Hp} : ∀ ns : List Int, DpAll K H (ns.map V.int) (ns.map PyData.int)
  | [] => .nil
  | n :: r => .cons (.int n) (dpall_ints r)
theorem dp_ints {K : PySem.W.Frag} {H : Hp} {p : Addr} {ns : List Int} (h : SqL K H p (ns.map V.int)) : Dp K H (.ref p) (.list (ns.map PyData.int)) := .lst h (dpall_ints ns)
theorem sh_ints (ns : List Int) : SeqAt.shaped (.list (ns.map PyData.int)) = true := PySem.W.ke_shaped_ints ns
theorem q_eqI {K : PySem.W.Frag} {H : Hp} {p q : Addr} {ns : List Int} {Q : VK} (hp : H p = some (.lst (ns.map V.int))) (hq : H q = some (.lst (ns.map V.int))) (h : Q (.bl true) H) : rEqD K (.ref p) (.ref q) H Q :=
  ⟨_, _, dp_ints (.inl (.inl hp)), dp_ints (.inl (.inl hq)), sh_ints ns, sh_ints ns, by rw [eqv_same (sh_ints ns)]; exact h⟩
theorem q_neI {K : PySem.W.Frag} {H : Hp} {p q : Addr} {ns : List Int} {Q : VK} (hp : H p = some (.lst (ns.map V.int))) (hq : H q = some (.lst (ns.map V.int))) (h : Q (.bl false) H) : rNeD K (.ref p) (.ref q) H Q :=
  ⟨_, _, dp_ints (.inl (.inl hp)), dp_ints (.inl (.inl hq)), sh_ints ns, sh_ints ns, by rw [eqv_same (sh_ints ns)]; exact h⟩
/-! ### all but the source stays -/
def Up (a : Addr) (H H' : Hp) : Prop := ∀ b o, b ≠ a → H b = some o → H' b = some o
theorem Up.refl (a : Addr) (H : Hp) : Up a H H := fun _ _ _ h => h
theorem up_same {a : Addr} {H H' : Hp} (s : Same H H') : Up a H H' := fun b o _ h => s b o h
theorem But.up {a : Addr} {H H' : Hp} (u : But a H H') : Up a H H' := fun b o n h => (u b n).trans h
theorem Up.trans {a : Addr} {H H1 H2 : Hp} (u : Up a H H1) (v : Up a H1 H2) : Up a H H2 := fun b o n h => v b o n (u b o n h)
theorem Up.to {a : Addr} {G H H' : Hp} (u : Up a H H') (s : Same G H) (n : G a = none) : Same G H' := fun b o e => u b o (ne_of_none e n) (s b o e)
theorem Up.new {a p : Addr} {H H' : Hp} (u : Up a H H') (hs : Src H' a) (n : H' p = none) : H p = none := by
  cases e : H p with
  | none => rfl
  | some o =>
    have := u p o (hs.ne n).symm e
    rw [n] at this
    cases this
theorem src_keep {a p : Addr} {H : Hp} {o : HO} (n : a ≠ p) (h : Src H a) : Src (upd H p o) a := by
  obtain ⟨x, y, e, r⟩ := h
  exact ⟨x, y, by rw [upd_ne n]; exact e, r⟩
/-! ### digits by place -/
theorem bitsW_get : ∀ w n i, i < w → (bitsW w n)[i]? = some (n / 2 ^ (w - 1 - i) % 2)
  | 0, _, i, h => absurd h (Nat.not_lt_zero i)
  | w + 1, n, i, h => by
    rw [bitsW]
    by_cases e : i = w
    · subst e
      rw [List.getElem?_append_right (by rw [bitsW_len]; exact Nat.le_refl _), bitsW_len, show i - i = 0 by omega, show i + 1 - 1 - i = 0 by omega, Nat.pow_zero, Nat.div_one]
      rfl
    · rw [List.getElem?_append_left (by rw [bitsW_len]; omega), bitsW_get w (n / 2) i (by omega), Nat.div_div_eq_div_mul, show w + 1 - 1 - i = (w - 1 - i) + 1 by omega, Nat.pow_succ, Nat.mul_comm]
theorem bitsI_get {w n i : Nat} (h : i < w) : (bitsI w n)[i]? = some (((n / 2 ^ (w - 1 - i) % 2 : Nat)) : Int) := by
  rw [bitsI, List.getElem?_map, bitsW_get w n i h]
  rfl
end My
namespace My
open PySem PySem.Spec PyProof.Rows L2
section
variable {X : Cx}
/-- X(), X an own exception class without own __init__ -/
theorem pmk_none {C : Addr} {bmB : List Value} {B newId initId : String} {x : Str} {p pos : Pos} (F : ExcBaseFacts B newId initId bmB) (q : PySem.W.excIn X.K C bmB newId = true) (gC : X.mg x = some (.ref C)) (kC : PySem.W.keepIn X.K (.ref C) = true) (r : Raises X (.ref C)) (hg : Gl X x)
    (hdb : (x == ("__debug__" : Str)) = false := by decide) : PMk X (.Call (.Name x p) [] [] pos) (fun _ H Q => Q (.ref C) none H) := by
  intro pins s σ H Q I h
  refine wpAny_Call_Name_kw (ld_glob I hg gC (PySem.W.callWith_K0 I.kIn kC ?_) hdb)
  obtain ⟨bm, N, nm, qn, bs, hdct, sn, sub, ab, col, dd, k0, k1, k2, k3, k5, mN, hC, hN, hni, T⟩ := exc_obj I.kIn q
  exact wpAny_call_exc_subT F T hC hN hni (fun _ _ hm => mk_of I hm r h (I.hok.gone hm.new)) (Nat.zero_le _)
/-- isinstance of an own class against another one -/
theorem kit_ref {K : PySem.W.Frag} {C N : Addr} {b : Bool} (i : PySem.W.isClsIn K N = true) (t : PySem.W.typeIn K (.ref N) = some (.type "type")) (s : PySem.W.subIn K (.ref C) (.ref N) = some b) (n : b = false → PySem.W.subIn K (.ref C) (.ref C) = some true) :
    PySem.W.kitOne K (.ref C) (.ref N) = some b := by
  unfold PySem.W.kitOne
  by_cases e : ((Value.ref C) == (Value.ref N)) = true
  · rw [if_pos e]
    have e2 : C = N := Value.ref.inj (beq_iff_eq.mp e)
    subst e2
    cases b with
    | true => rfl
    | false =>
      rw [n rfl] at s
      cases s
  · rw [if_neg e]
    unfold PySem.W.kitCls
    have h : ((PySem.W.clsIn K N).isSome && PySem.W.typeIn K (.ref N) == some (.type "type")) = true := by
      rw [t, Bool.and_eq_true]
      exact ⟨i, by rfl⟩
    show (if _ then _ else _) = _
    rw [if_pos h]
    exact s
/-- an own exception class at C, as the top has written it -/
structure ECls (K : PySem.W.Frag) (mg : Str → Option Value) (x : Str) (C : Addr) : Prop where
  gC : mg x = some (.ref C)
  xC : PySem.W.excIn K C [.type "ValueError", .type "Exception", .type "BaseException", .type "object"] "ValueError.__new__" = true
  kC : PySem.W.keepIn K (.ref C) = true
  bC : PySem.W.subIn K (.ref C) (.type "BaseException") = some true
  tC : PySem.W.typeIn K (.ref C) = some (.type "type")
  ex : ExcC K C
  em : PySem.W.exmOne K (.ref C) (.ref C) = some true
/-- isinstance of the exception that a suite holds, its class told in the reading -/
theorem call_isE1 {a D : Addr} {oe : Obj} {cls : Value} {d : Option Addr} {pn : List (Addr × Obj)} (C : ExcC X.K D) (hz : Zc cls d oe) (hf : ∃ vs, oe.data = .fields vs) :
    CallR (X.suite a ((a, oe) :: pn)) (.builtin "isinstance") (fun xs H Q => cls = .ref D ∧ d = none ∧ rIsE X.K D a xs H Q) := by
  intro pins s σ H xs us Q I r h
  obtain ⟨e1, e2, h⟩ := h
  subst e1 e2
  exact call_isE C hz hf pins s σ H xs us Q I r h
end
end My
namespace My
open PySem PySem.Spec PyProof.Rows L2
/-! ### bit lengths, digits, values -/
def bl (n : Nat) : Nat := Builtin.Int.intBits (n : Int)
theorem bl_zero : bl 0 = 0 := rfl
theorem bl_pos {n : Nat} (h : 0 < n) : bl n = n.log2 + 1 := by
  unfold bl Builtin.Int.intBits
  rw [if_neg (by simp; omega), Int.natAbs_natCast]
theorem bl_lt (n : Nat) : n < 2 ^ bl n := by
  cases n with
  | zero => decide
  | succ n =>
    rw [bl_pos (Nat.succ_pos n)]
    exact Nat.lt_log2_self
theorem bl_le {n k : Nat} (h : n < 2 ^ k) : bl n ≤ k := PyProof.Rows.intBits_le (by rw [Int.natAbs_natCast]; exact h)
theorem bl_half {n : Nat} (h : 0 < n) : bl n = bl (n / 2) + 1 := by
  rw [bl_pos h]
  by_cases e : n = 1
  · subst e
    decide
  · rw [bl_pos (by omega), Nat.log2_def, if_pos (by omega)]
theorem bitsI_succ (w n : Nat) : bitsI (w + 1) n = bitsI w (n / 2) ++ [((n % 2 : Nat) : Int)] := by
  unfold bitsI
  rw [bitsW, List.map_append]
  rfl
def digs (n : Nat) : List Int := bitsI (bl n) n
theorem digs_zero : digs 0 = [] := rfl
theorem digs_step {n : Nat} (h : 0 < n) : digs n = digs (n / 2) ++ [((n % 2 : Nat) : Int)] := by
  unfold digs
  rw [bl_half h, bitsI_succ]
theorem digs_len (n : Nat) : (digs n).length = bl n := bitsI_len _ _
theorem digs_head : ∀ {n : Nat}, 0 < n → ∃ r, digs n = 1 :: r := by
  intro n
  induction n using Nat.strongRecOn with
  | _ n ih =>
    intro h
    rw [digs_step h]
    by_cases e : n = 1
    · subst e
      exact ⟨[], rfl⟩
    · obtain ⟨r, hr⟩ := ih (n / 2) (by omega) (by omega)
      rw [hr]
      exact ⟨r ++ [((n % 2 : Nat) : Int)], rfl⟩
def valI (xs : List Int) : Int := xs.foldl (fun v b => 2 * v + b) 0
theorem valI_snoc (xs : List Int) (b : Int) : valI (xs ++ [b]) = 2 * valI xs + b := by
  unfold valI
  rw [List.foldl_append]
  rfl
theorem valI_bits : ∀ w n, n < 2 ^ w → valI (bitsI w n) = n
  | 0, n, h => by
    have e : n = 0 := by omega
    subst e
    rfl
  | w + 1, n, h => by
    have p : 2 ^ (w + 1) = 2 * 2 ^ w := by rw [Nat.pow_succ, Nat.mul_comm]
    rw [bitsI_succ, valI_snoc, valI_bits w (n / 2) (by omega)]
    omega
theorem valI_digs (n : Nat) : valI (digs n) = n := valI_bits _ _ (bl_lt n)
theorem bitsI_bit {w n : Nat} {x : Int} (h : x ∈ bitsI w n) : 0 ≤ x ∧ x ≤ 1 := by
  obtain ⟨b, hb, rfl⟩ := List.mem_map.mp h
  have := bitsW_bit w n b hb
  omega
/-- all of them are bits -/
def AreBits (xs : List Int) : Prop := ∀ x ∈ xs, 0 ≤ x ∧ x ≤ 1
theorem AreBits.app {xs ys : List Int} (h : AreBits xs) (g : AreBits ys) : AreBits (xs ++ ys) := fun x m => by
  rcases List.mem_append.mp m with m | m
  · exact h x m
  · exact g x m
theorem AreBits.take {xs : List Int} (h : AreBits xs) (n : Nat) : AreBits (xs.take n) := fun x m => h x (List.mem_of_mem_take m)
theorem AreBits.zeros (n : Nat) : AreBits (List.replicate n 0) := fun x m => by
  rw [(List.mem_replicate.mp m).2]
  decide
/-- the code of a count -/
def code (c : Nat) : List Int := List.replicate (bl (c + 1) - 1) 0 ++ digs (c + 1)
theorem code_len (c : Nat) : (code c).length = 2 * bl (c + 1) - 1 := by
  have := bl_half (n := c + 1) (by omega)
  unfold code
  rw [List.length_append, List.length_replicate, digs_len]
  omega
theorem code_bits (c : Nat) : AreBits (code c) := (AreBits.zeros _).app fun _ m => bitsI_bit m
theorem flat_zeros (n : Nat) : (List.replicate n [V.int 0]).flatten = (List.replicate n (0 : Int)).map V.int := by
  induction n with
  | zero => rfl
  | succ n ih =>
    rw [List.replicate_succ, List.flatten_cons, ih, List.replicate_succ]
    rfl
theorem new_at {a p : Addr} {H : Hp} {o o' : HO} (h : H a = some o) (n : H p = none) : (upd H p o') a = some o := by
  rw [upd_ne (ne_of_none h n)]
  exact h
theorem cut_int {xs : List V} {x y : Int} {i k : Nat} (hx : x = (i : Int)) (hy : y = (k : Int)) (hik : i ≤ xs.length) (hk : k ≤ xs.length) : cutV xs (some x) (some y) = (xs.drop i).take (k - i) := by
  subst hx hy
  unfold cutV
  rw [HT.sIx_nat, HT.sIx_nat, Nat.min_eq_left hik, Nat.min_eq_left hk]
theorem cut_to {xs : List V} {y : Int} {k : Nat} (hy : y = (k : Int)) (hk : k ≤ xs.length) : cutV xs none (some y) = xs.take k := by
  subst hy
  unfold cutV
  rw [HT.sIx_none, HT.sIx_nat, Nat.min_eq_left hk, List.drop_zero, Nat.sub_zero]
theorem cut_any {xs : List V} {x y : Int} {i k : Nat} (hx : x = (i : Int)) (hy : y = (k : Int)) (hik : i ≤ xs.length) : cutV xs (some x) (some y) = (xs.drop i).take (k - i) := by
  subst hx hy
  unfold cutV
  rw [HT.sIx_nat, HT.sIx_nat, Nat.min_eq_left hik]
  by_cases h : k ≤ xs.length
  · rw [Nat.min_eq_left h]
  · rw [Nat.min_eq_right (by omega), List.take_of_length_le (by rw [List.length_drop]; omega), List.take_of_length_le (by rw [List.length_drop]; omega)]
/-! ### reading a count -/
/-- zeros ahead of the first 1 -/
def lz : List Int → Nat
  | [] => 0
  | x :: r => if x = 0 then lz r + 1 else 0
theorem lz_le : ∀ l : List Int, lz l ≤ l.length
  | [] => Nat.le_refl _
  | x :: r => by
    have := lz_le r
    simp only [lz, List.length_cons]
    split <;> omega
theorem lz_more : ∀ {l : List Int} {k : Nat}, k ≤ lz l → l[k]? = some 0 → k + 1 ≤ lz l
  | [], k, _, h => by simp at h
  | x :: r, 0, _, h => by
    have e : x = 0 := Option.some.inj h
    simp only [lz, e, if_true]
    omega
  | x :: r, k + 1, hk, h => by
    simp only [lz] at hk ⊢
    by_cases e : x = 0
    · rw [if_pos e] at hk ⊢
      have := lz_more (l := r) (k := k) (by omega) h
      omega
    · rw [if_neg e] at hk
      omega
theorem lz_stop : ∀ {l : List Int} {k : Nat} {x : Int}, k ≤ lz l → l[k]? = some x → x ≠ 0 → lz l = k
  | [], k, _, _, h, _ => by simp at h
  | y :: r, 0, x, _, h, hx => by
    have e : y = x := Option.some.inj h
    simp only [lz, e, if_neg hx]
  | y :: r, k + 1, x, hk, h, hx => by
    simp only [lz] at hk ⊢
    by_cases e : y = 0
    · rw [if_pos e] at hk ⊢
      have := lz_stop (l := r) (k := k) (x := x) (by omega) h hx
      omega
    · rw [if_neg e] at hk
      omega
theorem lz_zeros : ∀ (k : Nat) (l : List Int), lz (List.replicate k 0 ++ l) = k + lz l
  | 0, l => by simp
  | k + 1, l => by
    rw [List.replicate_succ, List.cons_append, lz, if_pos rfl, lz_zeros k l]
    omega
inductive RC where
  | long : RC
  | short : RC
  | read (v : Int) (stop : Nat) : RC
def readC (xs : List Int) (a : Nat) : RC :=
  if 40 < lz (xs.drop a) then .long else if xs.length < a + lz (xs.drop a) + 1 + lz (xs.drop a) then .short
  else .read (valI ((xs.drop (a + lz (xs.drop a))).take (lz (xs.drop a) + 1)) - 1) (a + lz (xs.drop a) + 1 + lz (xs.drop a))
def rcV : RC → List V
  | .long => [.str "long"]
  | .short => [.str "short"]
  | .read v s => [.str "read", .int v, .int s]
/-- a signed number of a count -/
def sgnR : RC → RC
  | .read v s => .read (if v % 2 = 0 then v / 2 else (-(v + 1)) / 2) s
  | r => r
theorem read_code {A B : List Int} {c : Nat} (h : c + 1 < 2 ^ 41) : readC (A ++ code c ++ B) A.length = .read c (A.length + (code c).length) := by
  obtain ⟨r, hr⟩ := digs_head (n := c + 1) (by omega)
  have l1 := bl_half (n := c + 1) (by omega)
  have l2 : bl (c + 1) ≤ 41 := bl_le h
  have e1 : (A ++ code c ++ B).drop A.length = List.replicate (bl (c + 1) - 1) 0 ++ (digs (c + 1) ++ B) := by
    rw [List.append_assoc, List.drop_left' rfl, code, List.append_assoc]
  have e2 : lz ((A ++ code c ++ B).drop A.length) = bl (c + 1) - 1 := by
    rw [e1, lz_zeros, hr]
    simp [lz]
  have e3 : (A ++ code c ++ B).drop (A.length + (bl (c + 1) - 1)) = digs (c + 1) ++ B := by
    rw [← List.drop_drop, e1, List.drop_left' (by rw [List.length_replicate])]
  have e4 : (digs (c + 1) ++ B).take (bl (c + 1) - 1 + 1) = digs (c + 1) := by
    rw [List.take_left' (by rw [digs_len]; omega)]
  unfold readC
  rw [e2, if_neg (by omega), if_neg (by rw [List.length_append, List.length_append, code_len]; omega), e3, e4, valI_digs, code_len]
  congr 1
  · omega
  · omega
theorem read_cut {A : List Int} {c t : Nat} (h : c + 1 < 2 ^ 41) (ht : t < (code c).length) : readC (A ++ (code c).take t) A.length = .short := by
  obtain ⟨r, hr⟩ := digs_head (n := c + 1) (by omega)
  have l1 := bl_half (n := c + 1) (by omega)
  have l2 : bl (c + 1) ≤ 41 := bl_le h
  rw [code_len] at ht
  have e0 : (A ++ (code c).take t).length = A.length + t := by
    rw [List.length_append, List.length_take, code_len]
    omega
  have e1 : (A ++ (code c).take t).drop A.length = (code c).take t := List.drop_left' rfl
  by_cases q : t ≤ bl (c + 1) - 1
  · have e2 : (code c).take t = List.replicate t 0 := by
      unfold code
      rw [List.take_append_of_le_length (by rw [List.length_replicate]; exact q), List.take_replicate, Nat.min_eq_left q]
    have e3 : lz ((A ++ (code c).take t).drop A.length) = t := by
      rw [e1, e2]
      have := lz_zeros t []
      rw [List.append_nil] at this
      rw [this]
      rfl
    unfold readC
    rw [e3, if_neg (by omega), if_pos (by rw [e0]; omega)]
  · have e2 : (code c).take t = List.replicate (bl (c + 1) - 1) 0 ++ (digs (c + 1)).take (t - (bl (c + 1) - 1)) := by
      unfold code
      rw [List.take_append, List.length_replicate, List.take_of_length_le (by rw [List.length_replicate]; omega)]
    have e3 : lz ((A ++ (code c).take t).drop A.length) = bl (c + 1) - 1 := by
      rw [e1, e2, lz_zeros, hr]
      obtain ⟨m, hm⟩ : ∃ m, t - (bl (c + 1) - 1) = m + 1 := ⟨t - (bl (c + 1) - 1) - 1, by omega⟩
      rw [hm, List.take_succ_cons]
      simp [lz]
    unfold readC
    rw [e3, if_neg (by omega), if_pos (by rw [e0]; omega)]
/-! ### what is told, as data -/
def rcD : RC → List PyData
  | .long => [.str "long"]
  | .short => [.str "short"]
  | .read v s => [.str "read", .int v, .int s]
theorem dp_rc {K : PySem.W.Frag} {H : Hp} {p : Addr} {r : RC} (h : H p = some (.tup (rcV r))) : Dp K H (.ref p) (.tuple (rcD r)) := by
  cases r with
  | long => exact .tup (.inl (.inl h)) (.cons (.str _) .nil)
  | short => exact .tup (.inl (.inl h)) (.cons (.str _) .nil)
  | read v s => exact .tup (.inl (.inl h)) (.cons (.str _) (.cons (.int _) (.cons (.int _) .nil)))
theorem sh_rc (r : RC) : SeqAt.shaped (.tuple (rcD r)) = true := by
  cases r with
  | long => decide +kernel
  | short => decide +kernel
  | read v s =>
    have h : PyData.canLay0 (.str "read") = true := by decide +kernel
    simp [SeqAt.shaped, rcD, PyData.canLay0, PyData.canLayAll0, PyData.depth, PyData.depthAll] at h ⊢
    try exact h
theorem q_neR {K : PySem.W.Frag} {H : Hp} {p q : Addr} {r : RC} {Q : VK} (hp : H p = some (.tup (rcV r))) (hq : H q = some (.tup (rcV r))) (h : Q (.bl false) H) : rNeD K (.ref p) (.ref q) H Q :=
  ⟨_, _, dp_rc hp, dp_rc hq, sh_rc r, sh_rc r, by rw [eqv_same (sh_rc r)]; exact h⟩
end My
namespace My
open PySem PySem.Spec PyProof.Rows L2
/-! ### several except clauses, each with a name -/
abbrev Clause := Value × Nat × (Addr → Value → Option Addr → TS)
def wAll (K : PySem.W.Frag) (Wout : WX) (D : Ends) : List Clause → WX
  | [] => Wout
  | (c, i, ts) :: more => wAs K c i ts (wAll K Wout D more) D
inductive Clauses (X : Cx) : List ExceptHandler → List Clause → Prop
  | done : Clauses X [] []
  | step {x n : Str} {c : Value} {i : Nat} {ts : Addr → Value → Option Addr → TS} {first : Stmt} {others : List Stmt} {p1 p2 : Pos} {hds : List ExceptHandler} {cs : List Clause}
      (cl : Names X x c) (slot : X.N[i]? = some n) (lo : X.env.kindOf n = some .local)
      (body : ∀ (a : Addr) (oe : Obj) (cls : Value) (d : Option Addr) (pn : List (Addr × Obj)), Zc cls d oe → (∃ vs, oe.data = .fields vs) → PSs (X.suite a ((a, oe) :: pn)) (first :: others) (ts a cls d))
      (more : Clauses X hds cs) : Clauses X (.ExceptHandler (some (.Name x p1)) (some n) (first :: others) p2 :: hds) ((c, i, ts) :: cs)
section
variable {X : Cx} {todo : List Stmt} {h0 : ExceptHandler} {hds : List ExceptHandler} {cs : List Clause} {pos : Pos} {tb : WX → TS} {Wout : WX}
theorem ps_try_all (e1 : X.stack = X.env :: X.outer) (e2 : X.env.frame = some X.env.locals) (nd : X.N.Nodup) (tk : Takes X Wout)
    (run : ∀ (W : WX) (pn : List (Addr × Obj)) (xe : Value → Shared → Prop), Takes (X.tr pn xe) W → PassesOwn (model X.prog X.w) X.A X.env xe → PSs (X.tr pn xe) todo (tb W))
    (all : Clauses X (h0 :: hds) cs) : PS X (.Try todo (h0 :: hds) [] [] pos) (fun D σ H => tb (wAll X.K Wout D cs) D σ H) := by
  constructor
  intro pins s σ H D I reading
  have here := I.ok
  have fr : X.A.frames = some (X.env :: X.outer) := by
    rw [here.frames, e1]
  apply wpAny_Try_except
  refine wpAny_mono ((run (wAll X.K Wout D cs) (X.pn ++ pins) _ (fun u t caught => ?landing) PassesOwn.looking).run [] s σ H D (I.toTry _) reading) (fun f t out => ?through) (fun _ _ z => z)
  case through =>
    cases f with
    | ret v =>
      obtain ⟨x, σ', H', J, rx, q⟩ := out
      exact ⟨x, σ', H', J.ofTry here, rx, q⟩
    | cont =>
      obtain ⟨σ', H', J, q⟩ := out
      exact ⟨σ', H', J.ofTry here, q⟩
    | brk =>
      obtain ⟨σ', H', J, q⟩ := out
      exact ⟨σ', H', J.ofTry here, q⟩
    | next =>
      obtain ⟨σ', H', J, q⟩ := out
      exact wpAny_execs_nil ⟨σ', H', J.ofTry here, q⟩
  case landing =>
    obtain ⟨a, B, sI, old, σ', H', cls, d, rfl, J0, nb, grown, sky0, fresh, os, bare, wish⟩ := caught
    have J : Inv X pins σ' H' sI := J0.ofTry here
    have sky : Sky B (X.env :: X.outer) a (Zc cls d) X.env.locals t.heap := e1 ▸ sky0
    refine Sky.land Zc.steady fr e2 sky (fun g fly up => ?_)
    have JG : Inv X pins σ' H' { t with heap := g } := J.landed nb fly.1 (grown.trans up) os bare
    obtain ⟨oe, vs, hoe, hz, hdat⟩ := fly.there
    have apart : a ∉ frs (X.env :: X.outer) := by
      intro m
      obtain ⟨_, o2, g2, no⟩ := fly.2.2.1.mem m
      rw [hoe] at g2
      cases g2
      exact no _ hdat
    have aL : a ≠ X.env.locals := by
      intro z
      exact apart (List.mem_filterMap.mpr ⟨X.env, List.mem_cons_self, by rw [e2, z]⟩)
    have aF : a ∉ X.fs := by
      intro m
      obtain ⟨ev, me, q⟩ := List.mem_filterMap.mp m
      exact apart (List.mem_filterMap.mpr ⟨ev, List.mem_cons_of_mem _ me, q⟩)
    have SG := JG.suite hoe hdat fresh aL aF
    have goOn : ∀ {hs2 : List ExceptHandler} {cs2 : List Clause}, Clauses X hs2 cs2 → wAll X.K Wout D cs2 cls d σ' H' → wpAny (model X.prog X.w) X.A (handleBy (.ref a) X.env hs2) (SP X pins D) X.xe { t with heap := g } := by
      intro hs2 cs2 k
      induction k with
      | done =>
        intro wsh
        apply wpAny_handleBy_nil
        obtain ⟨_, _, _, ob, fs, T, oT, ts', g1, z1, d1, f1, _⟩ := id fly
        have leave : wpAny (model X.prog X.w) X.A (setFlight (.ref a) X.env.frame) (fun _ t2 => wpAny (model X.prog X.w) X.A (throw (.ref a) : Sem Flow) (SP X pins D) X.xe t2) X.xe { t with heap := g } := by
          rw [e2]
          exact HandSPX.setFlight_upZ fly fun g3 fly3 up3 => wpAny_throw (tk _ _ ⟨a, B, sI, pins, σ', H', cls, d, rfl, J, nb, (grown.trans up).trans up3, .inr (.inr (e1.symm ▸ fly3)), fresh, os, bare, wsh⟩)
        unfold PySem.passOn
        apply wpAny_bind
        refine wpAny_field g1 d1 f1 ?_
        rw [if_neg (by simp)]
        first
          | exact wpAny_bind leave
          | exact wpAny_bind (wpAny_pure (wpAny_bind leave))
      | @step x n c i ts fst oth p1 p2 hs3 cs3 cl slot lo body more ih =>
        intro wsh
        obtain ⟨b, hb, yes, no⟩ := wsh
        have tyOf : PySem.W.Looks (model X.prog X.w) g (typeOf (.ref a)) cls := fun _ _ _ _ k q => wpAny_typeOf_ref (k _ _ hoe) (hz.1.symm ▸ q)
        have ask := PySem.W.exm_one (M := model X.prog X.w) JG.kIn tyOf hb
        refine wpAny_handleBy_cons (codeAny_handlers_test ?_) (fun z => by cases z)
        have named : ∀ {Q : Value → Shared → Prop} {E : Value → Shared → Prop}, Q c { t with heap := g } → wpAny (model X.prog X.w) (X.A.mark (some (.ref a))) (eval (.Name x p1) X.env) Q E { t with heap := g } := by
          intro Q E q
          obtain ⟨isG, nodbg, isM | ⟨isM, isB, nn⟩⟩ := cl
          · exact ld_glob (X := X.suite a ((a, oe) :: (X.pn ++ pins))) SG isG isM q nodbg
          · exact ld_blt (X := X.suite a ((a, oe) :: (X.pn ++ pins))) SG isG isM isB q nn nodbg
        refine named (ask.here ?_)
        cases b with
        | false => exact ih (no rfl)
        | true =>
          apply codeAny_handlers_suite_as
          refine HandSPX.lands_againZ fly (fun g4 fly4 up4 => ?_)
          have J4 : Inv X pins σ' H' { t with heap := g4 } := J.landed nb fly4.1 ((grown.trans up).trans up4) os bare
          obtain ⟨oe4, vs4, hoe4, hz4, hdat4⟩ := fly4.there
          have S4 := J4.suite hoe4 hdat4 fresh aL aF
          refine store_ok (X := X.suite a ((a, oe4) :: (X.pn ++ pins))) (v := .ref a) S4 nd slot (.inl lo) rfl (fun t5 S5 => ?_) (.inr lo)
          refine wpAny_mono ((body a oe4 cls d (X.pn ++ pins) hz4 ⟨_, hdat4⟩).run [] t5 _ H' _ S5 (yes rfl a fresh)) (fun f t6 out => ?_) (fun _ _ z => z.elim)
          have unname : ∀ {σ6 : L2.St} {H6 : Hp} {Q : Shared → Prop}, Inv (X.suite a ((a, oe4) :: (X.pn ++ pins))) [] σ6 H6 t6 → (∀ t7, Inv X pins (σ6.set i none) H6 t7 → Q t7) →
              wpAny (model X.prog X.w) X.A (do bindName X.env n .none; unbindBehindTheSuite X.env n p2) (fun _ t7 => Q t7) X.xe t6 := by
            intro σ6 H6 Q S6 hq
            exact gone_ok (S6.unsuite here) nd slot lo hq
          cases f with
          | ret u =>
            obtain ⟨v6, σ6, H6, S6, r6, q6⟩ := out
            exact unname S6 fun t7 J7 => ⟨v6, _, _, J7, r6, q6⟩
          | cont =>
            obtain ⟨σ6, H6, S6, q6⟩ := out
            exact unname S6 fun t7 J7 => ⟨_, _, J7, q6⟩
          | brk =>
            obtain ⟨σ6, H6, S6, q6⟩ := out
            exact unname S6 fun t7 J7 => ⟨_, _, J7, q6⟩
          | next =>
            obtain ⟨σ6, H6, S6, q6⟩ := out
            exact unname S6 fun t7 J7 => ⟨_, _, J7, q6⟩
    exact goOn all wish
end
end My
namespace My
open PySem PySem.Spec PyProof.Rows L2
/-! ### shapes of data, for comparing -/
structure ShD (n : Nat) (d : PyData) : Prop where
  lay : d.canLay0 = true
  dep : d.depth ≤ n
theorem ShD.sh {n : Nat} {d : PyData} (h : ShD n d) (hn : n ≤ 64) : SeqAt.shaped d = true := by
  unfold SeqAt.shaped
  rw [h.lay, decide_eq_true (Nat.le_trans h.dep hn)]
  rfl
theorem ShD.mono {n m : Nat} {d : PyData} (h : ShD n d) (hn : n ≤ m) : ShD m d := ⟨h.lay, Nat.le_trans h.dep hn⟩
theorem shd_int {n : Nat} (i : Int) : ShD n (.int i) := ⟨by simp [PyData.canLay0], by simp [PyData.depth]⟩
theorem shd_bl {n : Nat} (b : Bool) : ShD n (.bool b) := ⟨by simp [PyData.canLay0], by simp [PyData.depth]⟩
theorem shd_non {n : Nat} : ShD n .none := ⟨by simp [PyData.canLay0], by simp [PyData.depth]⟩
theorem shd_str {n : Nat} {x : Str} (h : PyData.canLay0 (.str x) = true) : ShD n (.str x) := ⟨h, by simp [PyData.depth]⟩
theorem shd_all {n : Nat} : ∀ {ds : List PyData}, (∀ d ∈ ds, ShD n d) → PyData.canLayAll0 ds = true ∧ PyData.depthAll ds ≤ n
  | [], _ => ⟨rfl, Nat.zero_le _⟩
  | d :: r, h => by
    have h1 := h d List.mem_cons_self
    have h2 := shd_all (ds := r) fun x m => h x (List.mem_cons_of_mem _ m)
    refine ⟨?_, ?_⟩
    · rw [PyData.canLayAll0, h1.lay, h2.1]
      rfl
    · rw [PyData.depthAll]
      exact Nat.max_le.mpr ⟨h1.dep, h2.2⟩
theorem shd_lst {n : Nat} {ds : List PyData} (h : ∀ d ∈ ds, ShD n d) : ShD (n + 1) (.list ds) := ⟨by rw [PyData.canLay0]; exact (shd_all h).1, by rw [PyData.depth]; exact Nat.succ_le_succ (shd_all h).2⟩
theorem shd_tup {n : Nat} {ds : List PyData} (h : ∀ d ∈ ds, ShD n d) : ShD (n + 1) (.tuple ds) := ⟨by rw [PyData.canLay0]; exact (shd_all h).1, by rw [PyData.depth]; exact Nat.succ_le_succ (shd_all h).2⟩
theorem shd_ints {n : Nat} (ns : List Int) : ShD (n + 1) (.list (ns.map PyData.int)) := shd_lst fun d m => by
  obtain ⟨i, _, rfl⟩ := List.mem_map.mp m
  exact shd_int i
theorem q_eqS {K : PySem.W.Frag} {H : Hp} {x y : V} {d : PyData} {Q : VK} (hx : Dp K H x d) (hy : Dp K H y d) (s : SeqAt.shaped d = true) (h : Q (.bl true) H) : rEqD K x y H Q :=
  ⟨_, _, hx, hy, s, s, by rw [eqv_same s]; exact h⟩
theorem q_neS {K : PySem.W.Frag} {H : Hp} {x y : V} {d : PyData} {Q : VK} (hx : Dp K H x d) (hy : Dp K H y d) (s : SeqAt.shaped d = true) (h : Q (.bl false) H) : rNeD K x y H Q :=
  ⟨_, _, hx, hy, s, s, by rw [eqv_same s]; exact h⟩
/-! ### a body that may let out what is caught -/
theorem pss_ex {X : Cx} {W : WX} {n : Nat} {ss : List Stmt} {r : XK → TS} (h : ∀ E : XK, (∀ cls d σ' H', E cls d H' → σ'.length = n → W cls d σ' H') → PSs X ss (r E)) :
    PSs X ss (fun D σ H => ∃ E : XK, (∀ cls d σ' H', E cls d H' → σ'.length = n → W cls d σ' H') ∧ r E D σ H) :=
  ⟨fun pins s σ H D I ⟨E, hE, q⟩ => (h E hE).run pins s σ H D I q⟩
theorem takes_len {X : Cx} {W : WX} (t : Takes X W) : Takes X (fun c d σ H => σ.length = X.N.length → W c d σ H) := fun u s' ⟨a, B, sI, pins, σ, H, cls, d, e, I, nb, up, sky, na, os, ag, w⟩ =>
  t u s' ⟨a, B, sI, pins, σ, H, cls, d, e, I, nb, up, sky, na, os, ag, w I.len⟩
theorem vk_mono {tl : XK → Hp → VK → Prop} {E : XK} {H : Hp} {R R' : VK} (he : ∀ v H1, R v H1 ↔ R' v H1) (h : tl E H R) : tl E H R' := by
  have e : R = R' := funext fun v => funext fun H1 => propext (he v H1)
  rw [← e]
  exact h
theorem len3 {σ : L2.St} (h : σ.length = 3) : ∃ x y z, σ = [x, y, z] := match σ, h with | [x, y, z], _ => ⟨x, y, z, rfl⟩
/-! ### a def that makes lambdas: its code object is known -/
structure FunC (K : PySem.W.Frag) (x qual : Str) (st : Stmt) (f : Addr) (fd : FuncData) (c : Addr) : Prop where
  ex : ∃ (oc : Value) (od : Option Addr) (kV doc pm : Value) (an : Option Addr) (ct : Value) (osl : Array (Option Value)),
    fd = PySem.W.fnOf x qual (defArgs st) (defBody st) (defScope st) .none kV doc pm an (.ref c) ct ∧ K.lookup f = some ⟨oc, od, .func fd, osl⟩ ∧ PySem.W.codeIn K (.ref c) qual = true
theorem FunC.ok {P : Program} {w : World} {K : PySem.W.Frag} {mg : Str → Option Value} {base : Heap} {x qual : Str} {st : Stmt} {f c : Addr} {fd : FuncData} {N ps : List Str} {k : Nat} {sp : Sp} (F : FunC K x qual st f fd c) (S : FnScope N ps (defScope st)) (len : ∀ vs H Q E, sp vs H Q E → vs.length = ps.length)
    (hbody : ∀ (A : Around) (outer : List Env) (s : Shared) (H : Hp) (vs : List V) (Q : VK) (E : XK), Room k (A.deeper (envOfC qual (defScope st) s.heap.objs.size f (.ref c))) → sp vs H Q E →
      ∃ t, PSs (cxOf CX0 P w K mg base N qual (defScope st) f (.ref c) A outer s H E).nox (defBody st) t ∧ t { nx := fun _ H' => Q .non H', rt := Q } (start N vs) H) : FnOk P w K mg base CX0 (k + 1) f fd ps sp := by
  obtain ⟨oc, od, kV, doc, pm, an, ct, osl, rfl, lk, hcd⟩ := F.ex
  refine fn_of lk hcd S len fun A outer s H vs Q E hr hsp => ?_
  obtain ⟨t, h, q⟩ := hbody A outer s H vs Q E hr hsp
  exact ⟨t, h.nox, q⟩
theorem funC_mk {K : PySem.W.Frag} {x qual : Str} {st : Stmt} {f c0 : Addr} {oc : Value} {od an : Option Addr} {osl : Array (Option Value)} {kV doc pm ct : Value} (l : K.lookup f = some ⟨oc, od, .func (PySem.W.fnOf x qual (defArgs st) (defBody st) (defScope st) .none kV doc pm an (.ref c0) ct), osl⟩)
    (c : PySem.W.codeIn K (.ref c0) qual = true) : FunC K x qual st f (PySem.W.fnOf x qual (defArgs st) (defBody st) (defScope st) .none kV doc pm an (.ref c0) ct) c0 := ⟨⟨oc, od, kV, doc, pm, an, ct, osl, rfl, l, c⟩⟩
/-! ### tables beside draws -/
def UpN (a : Addr) (H H' : Hp) : Prop := ∀ b o, b ≠ a → H b = some o → (∀ ps, o ≠ .tbl ps) → H' b = some o
theorem UpN.refl (a : Addr) (H : Hp) : UpN a H H := fun _ _ _ h _ => h
theorem UpN.trans {a : Addr} {H H1 H2 : Hp} (u : UpN a H H1) (v : UpN a H1 H2) : UpN a H H2 := fun b o n h t => v b o n (u b o n h t) t
theorem Up.n {a : Addr} {H H' : Hp} (u : Up a H H') : UpN a H H' := fun b o n h _ => u b o n h
theorem ext_n {a : Addr} {H H' : Hp} (x : LamX.ExtN H H') : UpN a H H' := fun b o _ h t => x b o h t
theorem Src.ext {a : Addr} {H H' : Hp} (x : LamX.ExtN H H') (s : Src H a) : Src H' a := by
  obtain ⟨u, v, e, r⟩ := s
  exact ⟨u, v, x _ _ e (fun ps z => by cases z), r⟩
theorem tabs_up {T : List (Addr × Str)} {a : Addr} {H H' : Hp} (t : LamX.Tabs T H) (u : Up a H H') (s : Src H a) : LamX.Tabs T H' := fun p hp => by
  obtain ⟨x, y, e, _⟩ := s
  obtain ⟨ps, h1, h2, h3⟩ := t p hp
  refine ⟨ps, u _ _ (fun z => ?_) h1, h2, fun pos cv hc => ?_⟩
  · rw [z, e] at h1
    cases h1
  · obtain ⟨c, e1, e2⟩ := h3 pos cv hc
    refine ⟨c, e1, u _ _ (fun z => ?_) e2⟩
    rw [z, e] at e2
    unfold LamX.CodeO at e2
    cases e2
theorem tabs_same {T : List (Addr × Str)} {H H' : Hp} (t : LamX.Tabs T H) (s : Same H H') : LamX.Tabs T H' := t.ext fun b o e => s b o e
theorem ext_same {H H' : Hp} (s : Same H H') : LamX.ExtN H H' := fun b o e _ => s b o e
theorem UpN.to {a : Addr} {G H H' : Hp} (u : UpN a H H') (x : LamX.ExtN G H) (n : G a = none) : LamX.ExtN G H' := fun b o e t => u b o (ne_of_none e n) (x b o e t) t
theorem ext_seq {K : PySem.W.Frag} {H H' : Hp} {a : Addr} {xs : List V} (x : LamX.ExtN H H') (h : SqL K H a xs) : SqL K H' a xs := by
  rcases h with (h | ⟨o, h⟩) | h
  · exact .inl (.inl (x _ _ h (fun ps z => nomatch z)))
  · exact .inl (.inr ⟨o, x _ _ h (fun ps z => nomatch z)⟩)
  · exact .inr h
/-! ### the value of bits -/
theorem valI_lt : ∀ (n : Nat) (xs : List Int), xs.length = n → AreBits xs → ∃ z : Nat, valI xs = (z : Int) ∧ z < 2 ^ n
  | 0, xs, h, _ => by
    rw [List.length_eq_zero_iff.mp h]
    exact ⟨0, rfl, by decide⟩
  | n + 1, xs, h, hb => by
    rcases List.eq_nil_or_concat xs with rfl | ⟨ys, y, rfl⟩
    · cases h
    have hl : ys.length = n := by
      rw [List.length_concat] at h
      omega
    rw [List.concat_eq_append] at hb ⊢
    obtain ⟨z, hz, hz2⟩ := valI_lt n ys hl fun b m => hb b (List.mem_append_left _ m)
    have hb2 := hb y (List.mem_append_right _ (List.mem_singleton.mpr rfl))
    rw [valI_snoc, hz]
    have p : 2 ^ (n + 1) = 2 * 2 ^ n := by rw [Nat.pow_succ, Nat.mul_comm]
    exact ⟨2 * z + y.toNat, by omega, by omega⟩
/-! ### digits with zeros ahead -/
theorem bitsW_zero : ∀ d, bitsW d 0 = List.replicate d 0
  | 0 => rfl
  | d + 1 => by
    rw [bitsW, Nat.zero_div, bitsW_zero d, List.replicate_succ']
theorem bitsW_pad (d : Nat) : ∀ w n, n < 2 ^ w → bitsW (d + w) n = List.replicate d 0 ++ bitsW w n
  | 0, n, h => by
    have e : n = 0 := by omega
    subst e
    rw [Nat.add_zero, bitsW_zero, bitsW, List.append_nil]
  | w + 1, n, h => by
    have p : 2 ^ (w + 1) = 2 * 2 ^ w := by rw [Nat.pow_succ, Nat.mul_comm]
    show bitsW (d + w + 1) n = _
    rw [bitsW, bitsW, bitsW_pad d w (n / 2) (by omega), List.append_assoc]
theorem bitsI_pad (d w n : Nat) (h : n < 2 ^ w) : bitsI (d + w) n = List.replicate d 0 ++ bitsI w n := by
  unfold bitsI
  rw [bitsW_pad d w n h, List.map_append, List.map_replicate]
  rfl
end My
namespace My
open PySem PySem.Spec PyProof.Rows L2
/-! ### xs[i] op= e, for a list -/
theorem get_list {X : Cx} : PGet X (rIxL X.K) := by
  intro pins s σ H o i ov iv Q I ro ri h
  obtain ⟨p, xs, i, z, rfl, rfl, hq, he, q⟩ := h
  cases ro
  obtain ⟨t, rfl⟩ := ri
  obtain ⟨its, r, pl, hz⟩ := I.list hq
  obtain ⟨j, h1, h2, h3, h4, h5⟩ := atI_get he
  obtain ⟨w, ew, rw'⟩ := r.get h2
  have hl := r.length
  have hn := line63
  have fin : EP X pins σ Q w s := ⟨z, H, I, rw', q⟩
  by_cases h0 : 0 ≤ i
  · have hj : i.toNat = j := by
      rw [seqIndex_of h0 h5] at h1
      exact Option.some.inj h1
    exact wpAny_getItem_list pl.isList h0 (by omega) (by rw [hj]; simpa using ew) fin
  · have hj : (i + (its.toArray.size : Int)).toNat = j := by
      rw [seqIndex_neg (by omega) h4] at h1
      rw [List.size_toArray, ← hl]
      exact Option.some.inj h1
    exact wpAny_getItem_list_neg pl.isList (by omega) (by rw [List.size_toArray] <;> omega) (by omega) (by rw [hj]; simpa using ew) fin
/-! ### sum and for over a list or a tuple -/
def SqS (K : PySem.W.Frag) (H : Hp) (p : Addr) (xs : List V) : Prop := SqL K H p xs ∨ SqT K H p xs
def rSumS (K : PySem.W.Frag) : List V → Hp → VK → Prop := fun vs H Q => ∃ (a : Addr) (ns : List Int), vs = [V.ref a] ∧ SqS K H a (ns.map V.int) ∧ Q (.int ns.sum) H
theorem cr_sumS {X : Cx} (hc : X.calm = true) : CallR X (.builtin "sum") (rSumS X.K) := by
  intro pins s σ H vs us Q I r h
  obtain ⟨a, ns, rfl, hs, q⟩ := h
  rcases hs with hs | hs
  · exact cr_sum hc pins s σ H _ us Q I r ⟨a, ns, rfl, hs, q⟩
  · obtain ⟨its, rv, p, _⟩ := I.tuple hs
    rw [Vals.ref1 r]
    obtain ⟨xs, e⟩ := rv.ints.allInts.items
    have hn : numsOf (intItems xs).toList = ns := by rw [← e]; exact rv.ints.numsOf
    rw [nums_intItems] at hn
    have p2 : s.heap.IsTuple a (intItems xs) := by rw [← e]; exact p
    refine PySem.W.ktm_sumG (I.ok.hd hc) p2 fun h' tk t' hk => ?_
    rw [preSum_eq, List.take_of_length_le (by simp), hn]
    exact ⟨.int _, H, I.kept hk, ⟨_, rfl⟩, q⟩
def iSeq (K : PySem.W.Frag) (tl : TE) : TI := fun σ H R => tl σ H fun x H1 => ∃ a, x = .ref a ∧ (((∃ xs, SqL K H1 a xs) ∧ R (Itl K a) H1) ∨ ((∃ xs, SqT K H1 a xs) ∧ R (Itt K a) H1))
theorem pi_seq {X : Cx} {tg l : Expr} {tl : TE} (hl : PE X l tl) : PI X tg l (iSeq X.K tl) := by
  refine ⟨fun pins s σ H R I h => ?_⟩
  refine thn (hl.run pins s σ H _ I h) fun v s1 ⟨x, H1, I1, r1, q1⟩ => ?_
  obtain ⟨a, e, q⟩ := q1
  subst e
  cases r1
  rcases q with ⟨⟨xs, hq⟩, q⟩ | ⟨⟨xs, hq⟩, q⟩
  · obtain ⟨its, rv, p, hz⟩ := I1.list hq
    refine wpAny_pyIter_list p.isList ?_
    refine ⟨s1.heap.objs.size, [s1.heap.objs.size], _, _, H1, rfl, I1.kept (t' := s1.toks) fun b o e => Heap.get?_push_of_some _ e, turn_list a _, ⟨_, Heap.get?_push_size _ rfl, rfl, rfl⟩, fun b hb => ?_, q⟩
    have e : b = s1.heap.objs.size := by simpa using hb
    subst e
    exact I1.fpOk (Nat.le_refl _) (I1.hok.fresh (Nat.le_refl _))
  · obtain ⟨its, rv, p, hz⟩ := I1.tuple hq
    refine wpAny_pyIter_tuple (show s1.heap.IsTuple a its.toArray from p) ?_
    refine ⟨s1.heap.objs.size, [s1.heap.objs.size], _, _, H1, rfl, I1.kept (t' := s1.toks) fun b o e => Heap.get?_push_of_some _ e, turn_tuple a _, ⟨_, Heap.get?_push_size _ rfl, rfl, rfl⟩, fun b hb => ?_, q⟩
    have e : b = s1.heap.objs.size := by simpa using hb
    subst e
    exact I1.fpOk (Nat.le_refl _) (I1.hok.fresh (Nat.le_refl _))
theorem same_seqT {K : PySem.W.Frag} {H H' : Hp} {a : Addr} {xs : List V} (e : Same H H') (h : SqT K H a xs) : SqT K H' a xs := by
  rcases h with (h | ⟨o, h⟩) | h
  · exact .inl (.inl (e _ _ h))
  · exact .inl (.inr ⟨o, e _ _ h⟩)
  · exact .inr h
theorem same_seqS {K : PySem.W.Frag} {H H' : Hp} {a : Addr} {xs : List V} (e : Same H H') (h : SqS K H a xs) : SqS K H' a xs := by
  rcases h with h | h
  · exact .inl (e.seq h)
  · exact .inr (same_seqT e h)
theorem for_seq {K : PySem.W.Frag} {a : Addr} {xs : List V} {g : TG} {tb : TS} {D : Ends} {σ : L2.St} {H : Hp} (Pv : Nat → L2.St → Hp → Prop) (h0 : Pv 0 σ H) (hl : (∀ i σ' H', i ≤ xs.length → Pv i σ' H' → SqL K H' a xs) ∨ (∀ i σ' H', i ≤ xs.length → Pv i σ' H' → SqT K H' a xs))
    (hs : ∀ i x σ H, xs[i]? = some x → Pv i σ H → g x σ H fun σ2 H2 => tb { D with nx := Pv (i + 1), ct := Pv (i + 1), bk := D.nx } σ2 H2) (hd : ∀ σ H, Pv xs.length σ H → D.nx σ H) :
    ((∃ ys, SqL K H a ys) ∧ ∃ W : Nat → Nat → L2.St → Hp → Prop, (∃ m, W 0 m σ H) ∧ ∀ i m σ H, W i m σ H →
      ((Itl K a).stop i H ∧ D.nx σ H) ∨ ((Itl K a).go i H ∧ ∃ N : L2.St → Hp → Prop, (∀ σ' H', N σ' H' → ∃ m', m' < m ∧ W (i + 1) m' σ' H') ∧ ∀ x H', (Itl K a).yld i H x H' → g x σ H' fun σ2 H2 => tb { D with nx := N, ct := N, bk := D.nx } σ2 H2)) ∨
    ((∃ ys, SqT K H a ys) ∧ ∃ W : Nat → Nat → L2.St → Hp → Prop, (∃ m, W 0 m σ H) ∧ ∀ i m σ H, W i m σ H →
      ((Itt K a).stop i H ∧ D.nx σ H) ∨ ((Itt K a).go i H ∧ ∃ N : L2.St → Hp → Prop, (∀ σ' H', N σ' H' → ∃ m', m' < m ∧ W (i + 1) m' σ' H') ∧ ∀ x H', (Itt K a).yld i H x H' → g x σ H' fun σ2 H2 => tb { D with nx := N, ct := N, bk := D.nx } σ2 H2)) := by
  rcases hl with h | h
  · exact .inl ⟨⟨_, h _ _ _ (Nat.zero_le _) h0⟩, for_list Pv h0 h hs hd⟩
  · exact .inr ⟨⟨_, h _ _ _ (Nat.zero_le _) h0⟩, for_tup Pv h0 h hs hd⟩
end My
namespace My
open PySem PySem.Spec PyProof.Rows L2
/-! ### classes: makers, methods, properties, handed round as one fact each -/
theorem passN {X : Cx} : Passes (L2.CX X.prog X.w) X C8.E0 := fun _ _ _ _ _ _ _ c => by
  obtain ⟨_, _, _, _, _, _, _, _, _, _, _, _, z⟩ := c
  exact z.elim
section
variable {X : Cx} {CX : CXT} {k j : Nat} {f C : Addr} {fd : FuncData} {ps ks : List Str} {sp : Sp} {E : XK} {x m : Str} {p pos apos : Pos} {e o : Expr} {es : List Expr} {kws : List Keyword} {ta : TE} {t tk : TA} {g : List Value → List Value → List Value} {gV : List V → List V → List V}
/-- o.m(k = v, ..), nothing by position -/
def tMethK (C : Addr) (m : Str) (n : Nat) (sp : Sp) (E : XK) (ta : TE) (tk : TA) : TE := fun σ H Q => ta σ H fun x H1 => ∃ a dx fs, x = .ref a ∧ H1 a = some (.ins C dx fs) ∧ fs.lookup m = none ∧ tk σ H1 fun zs H2 => zs.length = n ∧ sp (x :: zs) H2 Q E
theorem pe_methK {pl : Sem Bool} (he : PE X o ta) (c : Cls X.K C) (hm : Meth X.K C m f) (F : FnOk X.prog X.w X.K X.mg X.base CX k f fd ps sp) (hr : Room k X.A) (hb : KBn X.K fd ps 1 ks (fun us ws => us ++ ws) (fun vs zs => vs ++ zs)) (hx : Passes CX X E) (hkw : PK X kws tk)
    (hall : (backToKw pos (keywordEach kws X.env)).all (·.1.isSome) = true := by rfl) (hks : (backToKw pos (keywordEach kws X.env)).filterMap (·.1) = ks := by rfl)
    (hpl : ((backTo pos (starEach [] X.env)).any (·.1) || (backToKw pos (keywordEach kws X.env)).any (·.1.isNone)) = false := by rfl)
    (ht : eval (.Call (.Attribute o m apos) [] kws pos) X.env = (do
      let ov ← eval o X.env
      standAt apos.atName
      let (f, first) ← holding [ov] (getMethod ov m pl)
      callWith pos f first (backTo pos (starEach [] X.env)) (backToKw pos (keywordEach kws X.env))) := by rfl) :
    PE X (.Call (.Attribute o m apos) [] kws pos) (tMethK C m ks.length sp E ta tk) := by
  refine ⟨fun pins s σ H Q I h => ?_⟩
  refine PySem.W.methodCall_KW (pl := pl) (thn (he.run pins s σ H _ I h) fun u s1 ⟨x, H1, I1, rx, a, dx, fs, ex, ea, l, q⟩ => ?_) ht
  subst ex
  obtain rfl : u = Value.ref a := rx
  refine getmeth_ok I1 ea c hm l ?_
  refine PySem.W.callWith_KW0 (first := [.ref a]) (h₀ := X.base) I.ok.mod.kin hm.kp hall ?_ hpl
  refine thn (hkw.run pos pins s1 σ H1 _ I1 q) fun ws s2 ⟨zs, H2, I2, rz, l2, q2⟩ => ⟨I2.kIn, ?_⟩
  rw [hks]
  exact run_fnN (us := [.ref a]) (vs := [.ref a]) F hr hb hx I2 (.cons rfl .nil) rz rfl l2 q2
end
/-- a method that may be called -/
structure CalM (P : Program) (w : World) (K : PySem.W.Frag) (mg : Str → Option Value) (base : Heap) (k : Nat) (C : Addr) (m : Str) (ks : List Str) (sp : Sp) : Prop where
  ex : ∃ (f : Addr) (fd : FuncData) (ps : List Str), Meth K C m f ∧ FnOk P w K mg base (L2.CX P w) k f fd ps sp ∧ Binds K fd ps [] ∧ KBn K fd ps 1 ks (fun us ws => us ++ ws) (fun vs zs => vs ++ zs)
/-- a class that may be called -/
structure CalC (P : Program) (w : World) (K : PySem.W.Frag) (mg : Str → Option Value) (base : Heap) (k : Nat) (x : Str) (C : Addr) (ks : List Str) (sp : Sp) : Prop where
  gl : mg x = some (.ref C)
  ex : ∃ (f : Addr) (fd : FuncData) (ps : List Str), Mk K C f ∧ FnOk P w K mg base (L2.CX P w) k f fd ps sp ∧ Binds K fd ps [] ∧ KBn K fd ps 1 ks (fun us ws => us ++ ws) (fun vs zs => vs ++ zs)
/-- a property that may be read -/
structure CalP (P : Program) (w : World) (K : PySem.W.Frag) (mg : Str → Option Value) (base : Heap) (k : Nat) (C : Addr) (f : Str) (sp : Sp) : Prop where
  ex : ∃ (p g : Addr) (fd : FuncData) (ps : List Str), PropOf K C f p g ∧ FnOk P w K mg base CX0 k g fd ps sp ∧ Binds K fd ps []
section
variable {X : Cx} {k j : Nat} {C : Addr} {ks : List Str} {sp : Sp} {E : XK} {x m : Str} {p pos apos : Pos} {e o : Expr} {es : List Expr} {kws : List Keyword} {ta : TE} {t tk : TA}
/-- o.m(e, ..); E: what is wanted of an exception -/
theorem pe_mx {pl : Sem Bool} (M : CalM X.prog X.w X.K X.mg X.base k C m ks sp) (c : Cls X.K C) (hr : Room j X.A) (hk : k ≤ j) (hx : Passes (L2.CX X.prog X.w) X E) (he : PE X o ta) (ha : PA X (e :: es) t)
    (hst : starEach (e :: es) X.env = (false, eval e X.env) :: starEach es X.env := by rfl) (hpl : (backTo pos (starEach es X.env)).any (·.1) = false := by rfl)
    (ht : eval (.Call (.Attribute o m apos) (e :: es) [] pos) X.env = (do
      let ov ← eval o X.env
      standAt apos.atName
      let (f, first) ← holding [ov] (getMethod ov m pl)
      callWith pos f first (backTo pos (starEach (e :: es) X.env)) (backToKw pos (keywordEach [] X.env))) := by rfl) :
    PE X (.Call (.Attribute o m apos) (e :: es) [] pos) (tMeth C m sp [] E ta t) := by
  obtain ⟨f, fd, ps, hm, F, hb, _⟩ := M.ex
  exact pe_meth he c hm F (hr.mono hk) hb .nil hx ha hst hpl ht
/-- o.m() -/
theorem pe_mx0 {pl : Sem Bool} (M : CalM X.prog X.w X.K X.mg X.base k C m ks sp) (c : Cls X.K C) (hr : Room j X.A) (hk : k ≤ j) (hx : Passes (L2.CX X.prog X.w) X E) (he : PE X o ta)
    (ht : eval (.Call (.Attribute o m apos) [] [] pos) X.env = (do
      let ov ← eval o X.env
      standAt apos.atName
      let (f, first) ← holding [ov] (getMethod ov m pl)
      callWith pos f first (backTo pos (starEach [] X.env)) (backToKw pos (keywordEach [] X.env))) := by rfl) :
    PE X (.Call (.Attribute o m apos) [] [] pos) (tMeth C m sp [] E ta tNil) := by
  obtain ⟨f, fd, ps, hm, F, hb, _⟩ := M.ex
  exact pe_meth0 he c hm F (hr.mono hk) hb .nil hx ht
/-- o.m(k = v, ..) -/
theorem pe_mxK {pl : Sem Bool} (M : CalM X.prog X.w X.K X.mg X.base k C m ks sp) (c : Cls X.K C) (hr : Room j X.A) (hk : k ≤ j) (hx : Passes (L2.CX X.prog X.w) X E) (he : PE X o ta) (hkw : PK X kws tk)
    (hall : (backToKw pos (keywordEach kws X.env)).all (·.1.isSome) = true := by rfl) (hks : (backToKw pos (keywordEach kws X.env)).filterMap (·.1) = ks := by rfl)
    (hpl : ((backTo pos (starEach [] X.env)).any (·.1) || (backToKw pos (keywordEach kws X.env)).any (·.1.isNone)) = false := by rfl)
    (ht : eval (.Call (.Attribute o m apos) [] kws pos) X.env = (do
      let ov ← eval o X.env
      standAt apos.atName
      let (f, first) ← holding [ov] (getMethod ov m pl)
      callWith pos f first (backTo pos (starEach [] X.env)) (backToKw pos (keywordEach kws X.env))) := by rfl) :
    PE X (.Call (.Attribute o m apos) [] kws pos) (tMethK C m ks.length sp E ta tk) := by
  obtain ⟨f, fd, ps, hm, F, _, hb⟩ := M.ex
  exact pe_methK he c hm F (hr.mono hk) hb hx hkw hall hks hpl ht
/-- C(e, ..) -/
theorem pe_new (M : CalC X.prog X.w X.K X.mg X.base k x C ks sp) (hr : Room j X.A) (hk : k + 1 ≤ j) (hg : Gl X x) (hx : Passes (L2.CX X.prog X.w) X E) (ha : PA X (e :: es) t) (hdb : (x == ("__debug__" : Str)) = false := by decide)
    (he : starEach (e :: es) X.env = (false, eval e X.env) :: starEach es X.env := by rfl) (hpl : (backTo pos (starEach es X.env)).any (·.1) = false := by rfl) :
    PE X (.Call (.Name x p) (e :: es) [] pos) (tMake C sp [] E t) := by
  obtain ⟨f, fd, ps, hm, F, hb, _⟩ := M.ex
  exact pe_make hm F (hr.mono hk) hg M.gl hb .nil hx ha hdb he hpl
/-- C() -/
theorem pe_new0 (M : CalC X.prog X.w X.K X.mg X.base k x C ks sp) (hr : Room j X.A) (hk : k + 1 ≤ j) (hg : Gl X x) (hx : Passes (L2.CX X.prog X.w) X E) (hdb : (x == ("__debug__" : Str)) = false := by decide) :
    PE X (.Call (.Name x p) [] [] pos) (tMake C sp [] E tNil) := by
  obtain ⟨f, fd, ps, hm, F, hb, _⟩ := M.ex
  exact pe_make0 hm F (hr.mono hk) hg M.gl hb .nil hx hdb
/-- C(k = v, ..) -/
theorem pe_newK (M : CalC X.prog X.w X.K X.mg X.base k x C ks sp) (hr : Room j X.A) (hk : k + 1 ≤ j) (hg : Gl X x) (hx : Passes (L2.CX X.prog X.w) X E) (hkw : PK X kws tk)
    (hall : (backToKw pos (keywordEach kws X.env)).all (·.1.isSome) = true := by rfl) (hks : (backToKw pos (keywordEach kws X.env)).filterMap (·.1) = ks := by rfl) (hdb : (x == ("__debug__" : Str)) = false := by decide)
    (hpl : ((backTo pos (starEach [] X.env)).any (·.1) || (backToKw pos (keywordEach kws X.env)).any (·.1.isNone)) = false := by rfl) :
    PE X (.Call (.Name x p) [] kws pos) (tMakeK C 0 ks.length sp (fun vs zs => vs ++ zs) E tNil tk) := by
  obtain ⟨f, fd, ps, hm, F, _, hb⟩ := M.ex
  exact pe_makeK0 hm F (hr.mono hk) hg M.gl hb hx hkw hall hks hdb hpl
/-- e.f, a property -/
theorem pe_pr {f : Str} (M : CalP X.prog X.w X.K X.mg X.base k C f sp) (c : Cls X.K C) (hr : Room j X.A) (hk : k + 1 ≤ j) (he : PE X e ta) (hab : attributeBase e f X.env (eval e X.env) = eval e X.env) : PE X (.Attribute e f pos) (tProp C sp [] C8.E0 ta) := by
  obtain ⟨p, g, fd, ps, hp, F, hb⟩ := M.ex
  exact pe_prop he c hp F (hr.mono hk) hb .nil pass0 hab
end
end My
namespace My
open PySem PySem.Spec PyProof.Rows L2
/-! ### exceptions with a field of their own -/
/-- isinstance of the exception that a suite holds, where it has its own dict -/
theorem call_isEd {X : Cx} {a D : Addr} {oe : Obj} {cls : Value} {d : Option Addr} {pn : List (Addr × Obj)} (C : ExcC X.K D) (hz : Zc cls d oe) (hf : ∃ vs, oe.data = .fields vs) :
    CallR (X.suite a ((a, oe) :: pn)) (.builtin "isinstance") (fun xs H Q => cls = .ref D ∧ (∃ dd fs, d = some dd ∧ H dd = some (.xd fs)) ∧ rIsE X.K D a xs H Q) := by
  intro pins s σ H xs us Q I r h
  obtain ⟨e1, ⟨dd, fs, e2, ea⟩, c, cv, b, rfl, hcv, e, q⟩ := h
  subst e1 e2
  cases r with
  | cons rx rr =>
    cases rr with
    | cons rt rr =>
      cases rr
      cases rx
      have ec := hcv _ rt
      subst ec
      obtain ⟨hget, _⟩ := I.pin (a, oe) (List.mem_append.mpr (.inl List.mem_cons_self))
      obtain ⟨vs, hv⟩ := hf
      have hx : ObjOk X.prog X.w H s.heap dd (.xd fs) := I.hok dd _ ea
      obtain ⟨mA, hns, hr⟩ := hx
      obtain ⟨od, ho, hl⟩ := lookIn_ns hns
      have J : PySem.W.InstAt s.heap a oe D (some od) := ⟨hget, hz.1, by unfold PySem.W.notCls; rw [hv] <;> rfl, by rw [hz.2]; exact ho⟩
      have hcl : (PySem.W.clsIn X.K D).isSome = true := by
        obtain ⟨cd, hc, _⟩ := PySem.W.any_some C.hd
        rw [hc]
        rfl
      exact PySem.W.kia_one (PySem.W.kitx_exc hcl C.hg C.hk C.hs C.ha C.hn C.ht C.hm) I.kIn J e (fun z => nomatch z) fun tk => ⟨.bl b, H, I.kept (t' := tk) fun _ _ z => z, rfl, q⟩
/-- its __init__: self.f = what is given -/
def spIni (C : Addr) (f : Str) : Sp := fun vs H Q _ => ∃ (a : Addr) (v : V), vs = [.ref a, v] ∧ H a = some (exo a C none) ∧ ∀ dx, H dx = none → dx ≠ a → Q .non (upd (upd H dx (exd dx [(f, v)])) a (exo a C (some dx)))
/-- an own exception class x with one field f, at C -/
structure XDef (P : Program) (w : World) (K : PySem.W.Frag) (mg : Str → Option Value) (base : Heap) (x f : Str) (C : Addr) : Prop where
  gC : mg x = some (.ref C)
  oex : OexC K C
  xf : XfC K C
  no : PySem.W.findIn K (.ref C) f = some none
  isx : ExcC K C
  em : PySem.W.exmOne K (.ref C) (.ref C) = some true
  ini : ∃ (fI : Addr) (fd : FuncData), PySem.W.findIn K (.ref C) "__init__" = some (some (.ref fI)) ∧ PySem.W.typeIn K (.ref fI) = some (.type "function") ∧ FnOk P w K mg base CX0 1 fI fd ["self", f] (spIni C f) ∧ Binds K fd ["self", f] []
theorem pmk_x {X : Cx} {x f : Str} {C : Addr} {j : Nat} {p pos : Pos} {e : Expr} {te : TE} (D : XDef X.prog X.w X.K X.mg X.base x f C) (hr : Room j X.A) (h2 : 2 ≤ j) (hg : Gl X x) (he : PE X e te) (hdb : (x == ("__debug__" : Str)) = false := by decide)
    (hst : starEach [e] X.env = (false, eval e X.env) :: starEach [] X.env := by rfl) : PMk X (.Call (.Name x p) [e] [] pos) (tMkO C (spIni C f) [] (tCons te tNil)) := by
  obtain ⟨fI, fd, iC, tI, F, hb⟩ := D.ini
  exact pmk_oex D.oex iC tI F (hr.mono h2) hb .nil pass0 hg D.gC (pa_cons (hs := hst) he pa_nil) hdb hst (by rfl)
/-- what is made: an exception whose dict holds the field, all else as it was -/
theorem mkx_in {C : Addr} {f : Str} {v : V} {H1 : Hp} {Q : XK} (h : ∀ (d : Addr) (H2 : Hp), H1 d = none → Same H1 H2 → H2 d = some (.xd [(f, v)]) → Q (.ref C) (some d) H2) :
    [v].length ≤ 1000 ∧ ∀ a, H1 a = none → spIni C f (.ref a :: ([v] ++ [])) (upd H1 a (exo a C none))
      (fun u H2 => u = .non ∧ ∃ (d : Addr) (fs : List (Str × V)), H2 a = some (exo a C (some d)) ∧ H2 d = some (exd d fs) ∧ H1 d = none ∧ Q (.ref C) (some d) (upd (del H2 a) d (.xd fs))) (fun _ _ _ => False) := by
  refine ⟨by show 1 ≤ 1000; decide, fun a na => ⟨a, v, rfl, upd_same, fun dx ndx hne => ⟨rfl, dx, [(f, v)], upd_same, (upd_ne hne).trans upd_same, ?_, ?_⟩⟩⟩
  · rw [upd_ne hne] at ndx
    exact ndx
  · have nd : H1 dx = none := by
      rw [upd_ne hne] at ndx
      exact ndx
    refine h dx _ nd (fun b o e => ?_) upd_same
    have b1 := ne_of_none e na
    have b2 := ne_of_none e nd
    rw [upd_ne b2, del_ne b1, upd_ne b1, upd_ne b2, upd_ne b1]
    exact e
end My
namespace My
open PySem PySem.Spec PyProof.Rows L2
/-! ### zip of any number of lists -/
abbrev TupN (h : Heap) (T : Addr) (vs : List Value) : Prop := h.get? T = some { cls := .type "tuple", data := .seq vs.toArray }
abbrev ZipF (h : Heap) (z TI TO : Addr) (f0 : Value) (f : Bool) : Prop := h.get? z = some { cls := .type "zip", dict := none, data := .fields #[f0, .bool f, .bool false, .ref TI, .ref TO], slots := #[] }
structure ApN (z TI TO : Addr) (ps : List (Addr × Addr)) : Prop where
  a1 : TI ≠ z
  a2 : TO ≠ z
  a3 : TI ≠ TO
  a4 : ∀ q ∈ ps, q.1 ≠ z ∧ q.1 ≠ TI ∧ q.1 ≠ TO
  a5 : (ps.map (·.1)).Nodup
  a6 : ∀ q ∈ ps, q.2 ≠ z ∧ q.2 ≠ TO ∧ ∀ r ∈ ps, q.2 ≠ r.1
section
variable {prog : Program} {w : World} {A : Around} {E : Value → Shared → Prop} {s : Shared} {z TI TO : Addr} {ps : List (Addr × Addr)} {xs : Addr → Array Value} {k : Nat} {old : List Value}
/-- nothing that is handed out stands in the way -/
def Fr0 (h : Heap) (f0 : Value) : Prop := f0 = .none ∨ ∃ T : Addr, f0 = rawInt T ∧ h.get? T = none
theorem free_true {f0 : Value} {f : Bool} {Q : Bool → Shared → Prop} (hz : ZipF s.heap z TI TO f0 f) (hf : Fr0 s.heap f0) (h : Q true s) : wpAny (model prog w) A (Builtin.SmallTypes.ownedTupleIsFree (.ref z)) Q E s := by
  unfold Builtin.SmallTypes.ownedTupleIsFree
  rcases hf with rfl | ⟨T, rfl, hT⟩
  · exact wpAny_bind (wpAny_field hz rfl (x := .none) rfl (wpAny_pure h))
  · refine wpAny_bind (wpAny_field hz rfl (x := rawInt T) rfl ?_)
    show wpAny _ _ (loadIfAlive ((T : Int).toNat) >>= _) _ _ _
    have hq : ∀ {R : Option Obj → Shared → Prop}, R none s → wpAny (model prog w) A (loadIfAlive ((T : Int).toNat)) R E s := fun {R} r => by
      rw [Int.toNat_natCast]
      have r' : R (s.heap.get? T) s := by rw [hT]; exact r
      exact fun _ _ _ => r'
    exact wpAny_bind (hq (wpAny_pure h))
theorem next_free {f0 : Value} {f : Bool} {Q : Value → Shared → Prop} (ne : ps ≠ []) (hn : ps.length ≤ 900) (D : ApN z TI TO ps) (hz : ZipF s.heap z TI TO f0 f) (hf : Fr0 s.heap f0) (hI : TupN s.heap TI (ps.map fun q => .ref q.1)) (hO : TupN s.heap TO old) (ho : old.length = ps.length)
    (hi : ∀ q ∈ ps, s.heap.IsListIter q.1 q.2 k) (hl : ∀ q ∈ ps, s.heap.IsList q.2 (xs q.2)) (hk : ∀ q ∈ ps, k < (xs q.2).size)
    (hQ : ∀ h' T, T = s.heap.objs.size → ZipF h' z TI TO (rawInt T) false → TupN h' TO (ps.map fun q => (xs q.2).getD k .none) → (∀ q ∈ ps, h'.IsListIter q.1 q.2 (k + 1)) → TupN h' T (ps.map fun q => (xs q.2).getD k .none) → h'.objs.size = s.heap.objs.size + 1 →
      (∀ c o, c ≠ z → c ≠ TO → (∀ q ∈ ps, c ≠ q.1) → s.heap.get? c = some o → h'.get? c = some o) → Q (.ref T) { s with heap := h' }) :
    wpAny (model prog w) A (Builtin.«zip.__next__» ⟨[.ref z], []⟩) (fun fin s' => ∃ v, fin = .done (.ret v) ∧ Q v s') E s := by
  show wpAny _ _ (field (.ref z) 2 >>= _) _ _ _
  refine wpAny_bind (wpAny_field hz rfl (x := .bool false) rfl ?_)
  show wpAny _ _ (field (.ref z) 3 >>= _) _ _ _
  refine wpAny_bind (wpAny_field hz rfl (x := .ref TI) rfl ?_)
  refine wpAny_bind (wpAny_seqItems hI rfl ?_)
  dsimp only
  have hne : (ps.map fun q => Value.ref q.1).toArray.isEmpty = false := by
    cases ps with
    | nil => exact absurd rfl ne
    | cons q r => rfl
  rw [hne, if_neg Bool.false_ne_true]
  refine wpAny_bind (free_true hz hf ?_)
  rw [if_pos rfl]
  refine wpAny_bind (wpAny_rule ?_)
  refine wpAny_bind (wpAny_field hz rfl (x := .ref TO) rfl ?_)
  dsimp only
  refine wpAny_bind (wpAny_setField_rec hz (by simp) fun g1 z1 b1 => ?_)
  replace z1 : ZipF g1 z TI TO .ellipsis f := z1
  refine wpAny_bind ?_
  refine wpAny_forIn_list _ (fun (rest : List (Value × Nat)) (b : Option Fin × PUnit) (st : Shared) => ∃ (dn rs : List (Addr × Addr)) (od : List Value) (h1 : Heap), ps = dn ++ rs ∧ rest = (rs.map fun q => Value.ref q.1).zipIdx dn.length ∧ b = (none, ⟨⟩) ∧ st = { s with heap := h1 } ∧
      ZipF h1 z TI TO .ellipsis f ∧ od.length = rs.length ∧ TupN h1 TO ((dn.map fun q => (xs q.2).getD k .none) ++ od) ∧ (∀ q ∈ dn, h1.IsListIter q.1 q.2 (k + 1)) ∧ (∀ q ∈ rs, h1.IsListIter q.1 q.2 k) ∧ (∀ q ∈ ps, h1.IsList q.2 (xs q.2)) ∧ h1.objs.size = s.heap.objs.size ∧
      ∀ c, c ≠ z → c ≠ TO → (∀ q ∈ ps, c ≠ q.1) → h1.get? c = s.heap.get? c) _ ?_ ?_ _ _ ⟨[], ps, old, g1, rfl, rfl, rfl, rfl, z1, ho, ?_, fun _ m => absurd m List.not_mem_nil, ?_, ?_, b1.1, fun c c1 _ _ => b1.2 c c1⟩
  · rintro x rest b st ⟨dn, rs, od, h1, e1, e2, rfl, rfl, hz1, hod, hO1, hd1, hr1, hl1, hs1, hf1⟩
    cases rs with
    | nil => cases e2
    | cons q r =>
      obtain ⟨o1, od2, rfl⟩ : ∃ o1 od2, od = o1 :: od2 := by
        cases od with
        | nil => cases hod
        | cons a b => exact ⟨a, b, rfl⟩
      have e3 : x = (Value.ref q.1, dn.length) := (List.cons.inj e2).1
      have e4 : rest = (r.map fun q => Value.ref q.1).zipIdx (dn.length + 1) := (List.cons.inj e2).2
      subst e3
      have mq : q ∈ ps := by rw [e1]; simp
      have hlen : dn.length + (r.length + 1) ≤ 900 := by
        rw [e1, List.length_append, List.length_cons] at hn
        exact hn
      have hod2 : od2.length = r.length := Nat.succ.inj hod
      refine wpAny_bind (wpAny_onRaise ?_)
      show wpAny _ _ (Builtin.SmallTypes.nextOf (.ref q.1) >>= _) _ _ _
      refine wpAny_bind (wpAny_nextOf_list_item (hr1 q List.mem_cons_self) (hl1 q mq) (Array.getElem?_eq_getElem (hk q mq)) fun h2 i2 b2 => wpAny_pure ?_)
      have hO2 : TupN h2 TO ((dn.map fun q => (xs q.2).getD k .none) ++ (o1 :: od2)) := (b2.2 _ (D.a4 q mq).2.2.symm).trans hO1
      dsimp only
      refine wpAny_bind (wpAny_seqItems hO2 rfl ?_)
      dsimp only
      refine wpAny_bind (wpAny_updateSeq hO2 rfl ?_ ?_ ?_)
      · refine wpAny_bind (wpAny_letGo (wpAny_pure ?_))
        have hv : (xs q.2)[k]'(hk q mq) = (xs q.2).getD k .none := by
          rw [Array.getD_eq_getD_getElem?, Array.getElem?_eq_getElem (hk q mq)]
          rfl
        have hnd := D.a5
        rw [e1, List.map_append, List.map_cons] at hnd
        obtain ⟨_, hnd2, hnd3⟩ := List.nodup_append.mp hnd
        have nd1 : ∀ p ∈ dn, p.1 ≠ q.1 := fun p m e => hnd3 p.1 (List.mem_map_of_mem m) q.1 List.mem_cons_self e
        have nd2 : ∀ p ∈ r, p.1 ≠ q.1 := fun p m e => (List.nodup_cons.mp hnd2).1 (by rw [← e]; exact List.mem_map_of_mem (f := (·.1)) m)
        have g3 := Heap.get?_update_self (Obj.mapSeq fun x => x.setIfInBounds dn.length ((xs q.2)[k]'(hk q mq))) hO2 rfl
        have b3 : Heap.SameBut TO h2 (h2.update TO (Obj.mapSeq fun x => x.setIfInBounds dn.length ((xs q.2)[k]'(hk q mq)))) := Heap.SameBut.update ..
        refine ⟨dn ++ [q], r, od2, _, by rw [e1, List.append_assoc]; rfl, by rw [List.length_append]; exact e4, rfl, rfl, ?_, hod2, ?_, ?_, ?_, ?_, ?_, ?_⟩
        · exact (b3.2 _ D.a2.symm).trans ((b2.2 _ (D.a4 q mq).1.symm).trans hz1)
        · refine g3.trans ?_
          rw [hv]
          simp [Obj.mapSeq]
        · intro p m
          rcases List.mem_append.mp m with m | m
          · have mp : p ∈ ps := by rw [e1]; exact List.mem_append_left _ m
            exact ((hd1 p m).extBut b2.extBut (nd1 p m)).extBut b3.extBut (D.a4 p mp).2.2
          · rw [List.mem_singleton.mp m]
            exact i2.extBut b3.extBut (D.a4 q mq).2.2
        · intro p m
          have mp : p ∈ ps := by rw [e1]; exact List.mem_append_right _ (List.mem_cons_of_mem _ m)
          exact ((hr1 p (List.mem_cons_of_mem _ m)).extBut b2.extBut (nd2 p m)).extBut b3.extBut (D.a4 p mp).2.2
        · intro p m
          exact ((hl1 p m).extBut b2.extBut ((D.a6 p m).2.2 q mq)).extBut b3.extBut (D.a6 p m).2.1
        · exact b3.1.trans (b2.1.trans hs1)
        · intro c c1 c2 c3
          exact (b3.2 c c2).trans ((b2.2 c (c3 q mq)).trans (hf1 c c1 c2 c3))
      · rw [List.size_toArray, List.length_append, List.length_map, List.length_cons, hod2]
        exact Nat.le_trans hlen (by decide)
      · rw [Array.size_setIfInBounds, List.size_toArray, List.length_append, List.length_map, List.length_cons, hod2]
        exact Nat.le_trans hlen (by decide)
  · rintro b st ⟨dn, rs, od, h1, e1, e2, rfl, rfl, hz1, hod, hO1, hd1, hr1, hl1, hs1, hf1⟩
    have ers : rs = [] := by
      cases rs with
      | nil => rfl
      | cons a b => cases e2
    subst ers
    have eod : od = [] := List.length_eq_zero_iff.mp hod
    subst eod
    rw [List.append_nil] at e1 hO1
    subst e1
    have hfin : (ps.map fun q => (xs q.2).getD k .none).length ≤ 900 := by
      rw [List.length_map]
      exact hn
    dsimp only
    refine wpAny_bind (wpAny_seqItems hO1 rfl ?_)
    dsimp only
    refine wpAny_bind (wpAny_newTuple ?_ (Nat.le_trans hfin (by decide)))
    have zlt : z < h1.objs.size := Heap.lt_size hz1
    show wpAny _ _ (Builtin.SmallTypes.ownedTupleHandOut (.ref z) (.ref h1.objs.size) >>= _) _ _ _
    refine wpAny_bind ?_
    unfold Builtin.SmallTypes.ownedTupleHandOut
    dsimp only
    have z6 : ZipF (h1.push { cls := .type "tuple", data := .seq (ps.map fun q => (xs q.2).getD k Value.none).toArray }) z TI TO .ellipsis f := Heap.get?_push_of_some _ hz1
    refine wpAny_bind (wpAny_setField_rec z6 (by simp) fun h7 z7 b7 => ?_)
    replace z7 : ZipF h7 z TI TO (rawInt h1.objs.size) f := z7
    refine wpAny_setField_rec z7 (by simp) fun h8 z8 b8 => ?_
    replace z8 : ZipF h8 z TI TO (rawInt h1.objs.size) false := z8
    have up : ∀ c o, c ≠ z → h1.get? c = some o → h8.get? c = some o := fun c o n e => b8.extBut _ _ n (b7.extBut _ _ n (Heap.get?_push_of_some _ e))
    have t8 : TupN h8 h1.objs.size (ps.map fun q => (xs q.2).getD k .none) := b8.extBut _ _ (Nat.ne_of_gt zlt) (b7.extBut _ _ (Nat.ne_of_gt zlt) (Heap.get?_push_size _ rfl))
    have s8 : h8.objs.size = s.heap.objs.size + 1 := by rw [b8.1, b7.1, Heap.size_push, hs1]
    refine wpAny_pure ⟨_, rfl, ?_⟩
    exact hQ h8 h1.objs.size hs1 z8 (up _ _ D.a2 hO1) (fun q m => (hd1 q m).at fun o e => up _ o (D.a4 q m).1 e) t8 s8 fun c o c1 c2 c3 e => up c o c1 ((hf1 c c1 c2 c3).trans e)
  · exact (b1.2 _ D.a2).trans hO
  · exact fun q m => (hi q m).extBut b1.extBut (D.a4 q m).1
  · exact fun q m => (hl q m).extBut b1.extBut (D.a6 q m).1
theorem next_free_end {f0 : Value} {f : Bool} {Q : Fin → Shared → Prop} (hh : A.handled = none) (ne : ps ≠ []) (D : ApN z TI TO ps) (hz : ZipF s.heap z TI TO f0 f) (hf : Fr0 s.heap f0) (hI : TupN s.heap TI (ps.map fun q => .ref q.1))
    (hi : ∀ q ∈ ps, s.heap.IsListIter q.1 q.2 k) (hl : ∀ q ∈ ps, s.heap.IsList q.2 (xs q.2)) (hk : ∀ q ∈ ps, (xs q.2).size ≤ k)
    (hE : ∀ h' e, (∀ c o, c ≠ z → (∀ q ∈ ps, c ≠ q.1) → s.heap.get? c = some o → h'.get? c = some o) → (∃ o, h'.get? e = some o ∧ o.cls = .type "StopIteration") → E (.ref e) { s with heap := h' }) :
    wpAny (model prog w) A (Builtin.«zip.__next__» ⟨[.ref z], []⟩) Q E s := by
  obtain ⟨q, r, rfl⟩ : ∃ q r, ps = q :: r := by
    cases ps with
    | nil => exact absurd rfl ne
    | cons a b => exact ⟨a, b, rfl⟩
  have mq : q ∈ q :: r := List.mem_cons_self
  show wpAny _ _ (field (.ref z) 2 >>= _) _ _ _
  refine wpAny_bind (wpAny_field hz rfl (x := .bool false) rfl ?_)
  show wpAny _ _ (field (.ref z) 3 >>= _) _ _ _
  refine wpAny_bind (wpAny_field hz rfl (x := .ref TI) rfl ?_)
  refine wpAny_bind (wpAny_seqItems hI rfl ?_)
  dsimp only
  rw [show ((q :: r).map fun q => Value.ref q.1).toArray.isEmpty = false from rfl, if_neg Bool.false_ne_true]
  refine wpAny_bind (free_true hz hf ?_)
  rw [if_pos rfl]
  refine wpAny_bind (wpAny_rule ?_)
  refine wpAny_bind (wpAny_field hz rfl (x := .ref TO) rfl ?_)
  dsimp only
  refine wpAny_bind (wpAny_setField_rec hz (by simp) fun g1 z1 b1 => ?_)
  replace z1 : ZipF g1 z TI TO .ellipsis f := z1
  refine wpAny_bind ?_
  rw [List.map_cons, List.zipIdx_cons, List.forIn_cons]
  refine wpAny_bind (wpAny_bind (wpAny_onRaise ?_))
  show wpAny _ _ (Builtin.SmallTypes.nextOf (.ref q.1) >>= _) _ _ _
  refine wpAny_bind (wpAny_nextOf_list_end hh ((hi q mq).extBut b1.extBut (D.a4 q mq).1) ((hl q mq).extBut b1.extBut (D.a6 q mq).1) (Array.getElem?_eq_none (hk q mq)) fun h2 e b2 he => ?_)
  obtain ⟨oe, hoe, hce⟩ := he
  have z2 : ZipF h2 z TI TO .ellipsis f := b2 _ _ (D.a4 q mq).1.symm z1
  have nez : e ≠ z := fun x => by
    subst x
    rw [z2] at hoe
    cases hoe
    simp at hce
  exact wpAny_setField_rec z2 (by simp) fun h3 _ b3 => hE h3 e (fun c o c1 c3 x => b3.extBut _ _ c1 (b2 _ _ (c3 q mq) (b1.extBut _ _ c1 x))) ⟨oe, b3.extBut _ _ nez hoe, hce⟩
theorem next_held {T : Addr} {f : Bool} {oT : Obj} {Q : Value → Shared → Prop} (ne : ps ≠ []) (hn : ps.length ≤ 900) (D : ApN z TI TO ps) (hz : IsZipHeld s.heap z TI TO T f) (hT : s.heap.get? T = some oT) (hI : TupN s.heap TI (ps.map fun q => .ref q.1))
    (hi : ∀ q ∈ ps, s.heap.IsListIter q.1 q.2 k) (hl : ∀ q ∈ ps, s.heap.IsList q.2 (xs q.2)) (hk : ∀ q ∈ ps, k < (xs q.2).size)
    (hQ : ∀ h' U, U = s.heap.objs.size → IsZipHeld h' z TI TO T true → (∀ q ∈ ps, h'.IsListIter q.1 q.2 (k + 1)) → TupN h' U (ps.map fun q => (xs q.2).getD k .none) → h'.objs.size = s.heap.objs.size + 1 →
      (∀ c o, c ≠ z → (∀ q ∈ ps, c ≠ q.1) → s.heap.get? c = some o → h'.get? c = some o) → Q (.ref U) { s with heap := h' }) :
    wpAny (model prog w) A (Builtin.«zip.__next__» ⟨[.ref z], []⟩) (fun fin s' => ∃ v, fin = .done (.ret v) ∧ Q v s') E s := by
  show wpAny _ _ (field (.ref z) 2 >>= _) _ _ _
  refine wpAny_bind (wpAny_field hz rfl (x := .bool false) rfl ?_)
  show wpAny _ _ (field (.ref z) 3 >>= _) _ _ _
  refine wpAny_bind (wpAny_field hz rfl (x := .ref TI) rfl ?_)
  refine wpAny_bind (wpAny_seqItems hI rfl ?_)
  dsimp only
  have hne : (ps.map fun q => Value.ref q.1).toArray.isEmpty = false := by
    cases ps with
    | nil => exact absurd rfl ne
    | cons q r => rfl
  rw [hne, if_neg Bool.false_ne_true]
  refine wpAny_bind (wpAny_tupleHeld_zip hz hT fun g1 z1 b1 => ?_)
  rw [if_neg Bool.false_ne_true]
  refine wpAny_bind ?_
  rw [← Array.forIn_toList]
  refine wpAny_forIn_list _ (fun (rest : List Value) (b : Option Fin × Array Value) (st : Shared) => ∃ (dn rs : List (Addr × Addr)) (h1 : Heap), ps = dn ++ rs ∧ rest = rs.map (fun q => Value.ref q.1) ∧ b = (none, (dn.map fun q => (xs q.2).getD k .none).toArray) ∧ st = { s with heap := h1 } ∧
      IsZipHeld h1 z TI TO T true ∧ (∀ q ∈ dn, h1.IsListIter q.1 q.2 (k + 1)) ∧ (∀ q ∈ rs, h1.IsListIter q.1 q.2 k) ∧ (∀ q ∈ ps, h1.IsList q.2 (xs q.2)) ∧ h1.objs.size = s.heap.objs.size ∧
      ∀ c, c ≠ z → (∀ q ∈ ps, c ≠ q.1) → h1.get? c = s.heap.get? c) _ ?_ ?_ _ _ ⟨[], ps, g1, rfl, rfl, rfl, rfl, z1, fun _ m => absurd m List.not_mem_nil, ?_, ?_, b1.1, fun c c1 _ => b1.2 c c1⟩
  · rintro x rest b st ⟨dn, rs, h1, e1, e2, rfl, rfl, hz1, hd1, hr1, hl1, hs1, hf1⟩
    cases rs with
    | nil => cases e2
    | cons q r =>
      have e3 : x = Value.ref q.1 := (List.cons.inj e2).1
      have e4 : rest = r.map fun q => Value.ref q.1 := (List.cons.inj e2).2
      subst e3
      have mq : q ∈ ps := by rw [e1]; simp
      have hnd := D.a5
      rw [e1, List.map_append, List.map_cons] at hnd
      obtain ⟨_, hnd2, hnd3⟩ := List.nodup_append.mp hnd
      have nd1 : ∀ p ∈ dn, p.1 ≠ q.1 := fun p m e => hnd3 p.1 (List.mem_map_of_mem m) q.1 List.mem_cons_self e
      have nd2 : ∀ p ∈ r, p.1 ≠ q.1 := fun p m e => (List.nodup_cons.mp hnd2).1 (by rw [← e]; exact List.mem_map_of_mem (f := (·.1)) m)
      refine wpAny_bind (wpAny_holding ?_)
      show wpAny _ _ (Builtin.SmallTypes.nextOf (.ref q.1) >>= _) _ _ _
      refine wpAny_bind (wpAny_nextOf_list_item (hr1 q List.mem_cons_self) (hl1 q mq) (Array.getElem?_eq_getElem (hk q mq)) fun h2 i2 b2 => wpAny_pure ?_)
      have hv : (xs q.2)[k]'(hk q mq) = (xs q.2).getD k .none := by
        rw [Array.getD_eq_getD_getElem?, Array.getElem?_eq_getElem (hk q mq)]
        rfl
      dsimp only
      refine wpAny_pure ⟨dn ++ [q], r, h2, by rw [e1, List.append_assoc]; rfl, e4, ?_, rfl, ?_, ?_, ?_, ?_, ?_, ?_⟩
      · rw [hv]
        simp
      · exact (b2.2 _ (D.a4 q mq).1.symm).trans hz1
      · intro p m
        rcases List.mem_append.mp m with m | m
        · exact (hd1 p m).extBut b2.extBut (nd1 p m)
        · rw [List.mem_singleton.mp m]
          exact i2
      · exact fun p m => (hr1 p (List.mem_cons_of_mem _ m)).extBut b2.extBut (nd2 p m)
      · exact fun p m => (hl1 p m).extBut b2.extBut ((D.a6 p m).2.2 q mq)
      · exact b2.1.trans hs1
      · exact fun c c1 c3 => (b2.2 c (c3 q mq)).trans (hf1 c c1 c3)
  · rintro b st ⟨dn, rs, h1, e1, e2, rfl, rfl, hz1, hd1, hr1, hl1, hs1, hf1⟩
    have ers : rs = [] := by
      cases rs with
      | nil => rfl
      | cons a b => cases e2
    subst ers
    rw [List.append_nil] at e1
    subst e1
    have hfin : (ps.map fun q => (xs q.2).getD k .none).length ≤ 900 := by
      rw [List.length_map]
      exact hn
    dsimp only
    refine wpAny_bind (wpAny_newTuple ?_ (Nat.le_trans hfin (by decide)))
    refine wpAny_pure ⟨_, rfl, ?_⟩
    exact hQ _ h1.objs.size hs1 (Heap.get?_push_of_some _ hz1) (fun q m => (hd1 q m).at fun o e => Heap.get?_push_of_some _ e) (Heap.get?_push_size _ rfl) (by show (h1.push _).objs.size = _; rw [Heap.size_push, hs1]) fun c o c1 c3 e => Heap.get?_push_of_some _ ((hf1 c c1 c3).trans e)
  · exact fun q m => (hi q m).extBut b1.extBut (D.a4 q m).1
  · exact fun q m => (hl q m).extBut b1.extBut (D.a6 q m).1
theorem next_held_end {T : Addr} {f : Bool} {oT : Obj} {Q : Fin → Shared → Prop} (hh : A.handled = none) (ne : ps ≠ []) (D : ApN z TI TO ps) (hz : IsZipHeld s.heap z TI TO T f) (hT : s.heap.get? T = some oT) (hI : TupN s.heap TI (ps.map fun q => .ref q.1))
    (hi : ∀ q ∈ ps, s.heap.IsListIter q.1 q.2 k) (hl : ∀ q ∈ ps, s.heap.IsList q.2 (xs q.2)) (hk : ∀ q ∈ ps, (xs q.2).size ≤ k)
    (hE : ∀ h' e, (∀ c o, c ≠ z → (∀ q ∈ ps, c ≠ q.1) → s.heap.get? c = some o → h'.get? c = some o) → (∃ o, h'.get? e = some o ∧ o.cls = .type "StopIteration") → E (.ref e) { s with heap := h' }) :
    wpAny (model prog w) A (Builtin.«zip.__next__» ⟨[.ref z], []⟩) Q E s := by
  obtain ⟨q, r, rfl⟩ : ∃ q r, ps = q :: r := by
    cases ps with
    | nil => exact absurd rfl ne
    | cons a b => exact ⟨a, b, rfl⟩
  have mq : q ∈ q :: r := List.mem_cons_self
  show wpAny _ _ (field (.ref z) 2 >>= _) _ _ _
  refine wpAny_bind (wpAny_field hz rfl (x := .bool false) rfl ?_)
  show wpAny _ _ (field (.ref z) 3 >>= _) _ _ _
  refine wpAny_bind (wpAny_field hz rfl (x := .ref TI) rfl ?_)
  refine wpAny_bind (wpAny_seqItems hI rfl ?_)
  dsimp only
  rw [show ((q :: r).map fun q => Value.ref q.1).toArray.isEmpty = false from rfl, if_neg Bool.false_ne_true]
  refine wpAny_bind (wpAny_tupleHeld_zip hz hT fun g1 z1 b1 => ?_)
  rw [if_neg Bool.false_ne_true]
  refine wpAny_bind ?_
  rw [← Array.forIn_toList, List.map_cons]
  show wpAny _ _ (forIn (Value.ref q.1 :: r.map fun q => Value.ref q.1) _ _) _ _ _
  rw [List.forIn_cons]
  refine wpAny_bind (wpAny_bind (wpAny_holding ?_))
  show wpAny _ _ (Builtin.SmallTypes.nextOf (.ref q.1) >>= _) _ _ _
  refine wpAny_bind (wpAny_nextOf_list_end hh ((hi q mq).extBut b1.extBut (D.a4 q mq).1) ((hl q mq).extBut b1.extBut (D.a6 q mq).1) (Array.getElem?_eq_none (hk q mq)) fun h2 e b2 he => ?_)
  exact hE h2 e (fun c o c1 c3 x => b2 _ _ (c3 q mq) (b1.extBut _ _ c1 x)) he
/-! ### one turn, whatever is handed out -/
def Gd0 (f0 : Value) : Prop := f0 = .none ∨ ∃ T : Addr, f0 = rawInt T
/-- the zip at z over the lists at the second places of ps, k turns behind it -/
def ZipAt (h : Heap) (z TI TO : Addr) (ps : List (Addr × Addr)) (k : Nat) : Prop :=
  (∃ f0 f, ZipF h z TI TO f0 f ∧ Gd0 f0) ∧ TupN h TI (ps.map fun q => .ref q.1) ∧ (∃ old, old.length = ps.length ∧ TupN h TO old) ∧ ∀ q ∈ ps, h.IsListIter q.1 q.2 k
theorem next_any {Q : Option Value → Shared → Prop} (ne : ps ≠ []) (hn : ps.length ≤ 900) (D : ApN z TI TO ps) (hz : ZipAt s.heap z TI TO ps k) (hl : ∀ q ∈ ps, s.heap.IsList q.2 (xs q.2)) (hk : ∀ q ∈ ps, k < (xs q.2).size)
    (hQ : ∀ h' U, U = s.heap.objs.size → ZipAt h' z TI TO ps (k + 1) → TupN h' U (ps.map fun q => (xs q.2).getD k .none) → h'.objs.size = s.heap.objs.size + 1 →
      (∀ c o, c ≠ z → c ≠ TO → (∀ q ∈ ps, c ≠ q.1) → s.heap.get? c = some o → h'.get? c = some o) → Q (some (.ref U)) { s with heap := h' }) : wpAny (model prog w) A (pyNext (.ref z)) Q E s := by
  obtain ⟨⟨f0, f, hzz, hg⟩, hI, ⟨old, hol, hO⟩, hi⟩ := hz
  have hTy : s.TypeIs (.ref z) "zip" := ⟨_, hzz, rfl⟩
  unfold pyNext
  have free : ∀ {B : Around} {E2 : Value → Shared → Prop}, Fr0 s.heap f0 → wpAny (model prog w) B (Builtin.«zip.__next__» ⟨[.ref z], []⟩) (fun fin s' => ∃ v, fin = .done (.ret v) ∧ wpAny (model prog w) A (pure (some v)) Q E s') E2 s := fun hf =>
    next_free ne hn D hzz hf hI hO hol hi hl hk fun h' U e1 e2 e3 e4 e5 e6 e7 => wpAny_pure (hQ h' U e1 ⟨⟨_, _, e2, .inr ⟨_, rfl⟩⟩, e7 _ _ D.a1 D.a3 (fun q m => (D.a4 q m).2.1.symm) hI, ⟨_, List.length_map _, e3⟩, e4⟩ e5 e6 e7)
  refine wpAny_bind (wpAny_attempt (wpAny_callSpecial?_slot (name := Str.ofString "__next__") hTy F.slot_zip_next (wpAny_call_entry F.slot_zip_next hTy F.entry_zip_next ?_ (F.args_zip_next_1 _))))
  rcases hg with rfl | ⟨T, rfl⟩
  · exact free (.inl rfl)
  · cases hT : s.heap.get? T with
    | none => exact free (.inr ⟨T, rfl, hT⟩)
    | some oT =>
      exact next_held ne hn D hzz hT hI hi hl hk fun h' U e1 e2 e4 e5 e6 e7 => wpAny_pure (hQ h' U e1 ⟨⟨_, _, e2, .inr ⟨_, rfl⟩⟩, e7 _ _ D.a1 (fun q m => (D.a4 q m).2.1.symm) hI, ⟨old, hol, e7 _ _ D.a2 (fun q m => (D.a4 q m).2.2.symm) hO⟩, e4⟩ e5 e6 fun c o c1 _ c3 e => e7 c o c1 c3 e)
theorem next_stop {Q : Option Value → Shared → Prop} (hh : A.handled = none) (ne : ps ≠ []) (D : ApN z TI TO ps) (hz : ZipAt s.heap z TI TO ps k) (hl : ∀ q ∈ ps, s.heap.IsList q.2 (xs q.2)) (hk : ∀ q ∈ ps, (xs q.2).size ≤ k)
    (hQ : ∀ h', (∀ c o, c ≠ z → (∀ q ∈ ps, c ≠ q.1) → s.heap.get? c = some o → h'.get? c = some o) → Q none { s with heap := h' }) : wpAny (model prog w) A (pyNext (.ref z)) Q E s := by
  obtain ⟨⟨f0, f, hzz, hg⟩, hI, _, hi⟩ := hz
  have hTy : s.TypeIs (.ref z) "zip" := ⟨_, hzz, rfl⟩
  unfold pyNext
  have out : ∀ (h' : Heap) (e : Addr), (∀ c o, c ≠ z → (∀ q ∈ ps, c ≠ q.1) → s.heap.get? c = some o → h'.get? c = some o) → (∃ o, h'.get? e = some o ∧ o.cls = .type "StopIteration") →
      wpAny (model prog w) A (do if (← isInstance (.ref e) (.type "StopIteration")) then pure none else throw (.ref e)) Q E { s with heap := h' } := fun h' e hk he => by
    obtain ⟨o, ho, hc⟩ := he
    refine wpAny_bind (wpAny_isInstance (T := "StopIteration") (b := true) ⟨o, ho, hc⟩ isSubtype_stop ?_)
    exact wpAny_pure (hQ h' hk)
  refine wpAny_bind (wpAny_attempt (wpAny_callSpecial?_slot (name := Str.ofString "__next__") hTy F.slot_zip_next (wpAny_call_entry F.slot_zip_next hTy F.entry_zip_next ?_ (F.args_zip_next_1 _))))
  rcases hg with rfl | ⟨T, rfl⟩
  · exact next_free_end hh ne D hzz (.inl rfl) hI hi hl hk out
  · cases hT : s.heap.get? T with
    | none => exact next_free_end hh ne D hzz (.inr ⟨T, rfl, hT⟩) hI hi hl hk out
    | some oT => exact next_held_end hh ne D hzz hT hI hi hl hk out
theorem go_zipN {tg : Expr} {U : Addr} {f0 : Value} {f : Bool} {Q : Unit → Shared → Prop} (hz : ZipF s.heap z TI TO f0 f) (hg : Gd0 f0) (hQ : ∀ h' f0', ZipF h' z TI TO f0' f → Gd0 f0' → Heap.SameBut z s.heap h' → Q () { s with heap := h' }) :
    wpAny (model prog w) A (letOwnedTupleGo tg (.ref z) (.ref U)) Q E s := by
  unfold letOwnedTupleGo
  cases tg <;> first
    | exact wpAny_pure (hQ s.heap f0 hz hg (Heap.SameBut.refl _ _))
    | (refine wpAny_bind (wpAny_load hz ?_)
       dsimp only
       split
       · refine wpAny_bind (wpAny_rule ?_)
         exact wpAny_setField_rec hz (by simp) fun h' hz' hs' => hQ h' .none hz' (.inl rfl) hs'
       · exact wpAny_pure (hQ s.heap f0 hz hg (Heap.SameBut.refl _ _)))
end
end My
namespace My
open PySem PySem.Spec PyProof.Rows L2
def zps : List Addr → Nat → List (Addr × Addr)
  | [], _ => []
  | l :: r, n => (n, l) :: zps r (n + 1)
theorem zps_app : ∀ (a b : List Addr) (n : Nat), zps (a ++ b) n = zps a n ++ zps b (n + a.length)
  | [], b, n => rfl
  | l :: a, b, n => by
    show _ :: zps (a ++ b) (n + 1) = _ :: (zps a (n + 1) ++ zps b (n + (a.length + 1)))
    rw [zps_app a b (n + 1), Nat.add_assoc, Nat.add_comm 1]
theorem zps_len : ∀ (a : List Addr) (n : Nat), (zps a n).length = a.length
  | [], _ => rfl
  | l :: a, n => congrArg Nat.succ (zps_len a (n + 1))
theorem zps_two : ∀ (a : List Addr) (n : Nat), (zps a n).map (·.2) = a
  | [], _ => rfl
  | l :: a, n => congrArg (l :: ·) (zps_two a (n + 1))
theorem zps_mem : ∀ {a : List Addr} {n : Nat} {q : Addr × Addr}, q ∈ zps a n → n ≤ q.1 ∧ q.1 < n + a.length ∧ q.2 ∈ a
  | [], n, q, m => absurd m List.not_mem_nil
  | l :: a, n, q, m => by
    rcases List.mem_cons.mp m with e | m
    · subst e
      exact ⟨Nat.le_refl _, Nat.lt_add_of_pos_right (Nat.succ_pos _), List.mem_cons_self⟩
    · obtain ⟨h1, h2, h3⟩ := zps_mem m
      refine ⟨Nat.le_of_succ_le h1, ?_, List.mem_cons_of_mem _ h3⟩
      show q.1 < n + (a.length + 1)
      rw [Nat.add_comm a.length, ← Nat.add_assoc]
      exact h2
theorem zps_nodup : ∀ (a : List Addr) (n : Nat), ((zps a n).map (·.1)).Nodup
  | [], _ => List.nodup_nil
  | l :: a, n => by
    refine List.nodup_cons.mpr ⟨fun m => ?_, zps_nodup a (n + 1)⟩
    obtain ⟨q, mq, e⟩ := List.mem_map.mp m
    have := (zps_mem mq).1
    rw [e] at this
    exact absurd this (Nat.not_succ_le_self n)
theorem zne {a b : Nat} (h : a < b) : a ≠ b := Nat.ne_of_lt h
theorem zps_ap {a : List Addr} {n : Nat} (hl : ∀ l ∈ a, l < n) : ApN (n + a.length + 2) (n + a.length) (n + a.length + 1) (zps a n) where
  a1 := Nat.ne_of_lt (by show n + a.length < n + a.length + 2; omega)
  a2 := Nat.ne_of_lt (by show n + a.length + 1 < n + a.length + 2; omega)
  a3 := Nat.ne_of_lt (by show n + a.length < n + a.length + 1; omega)
  a4 := fun q m => by
    have h := (zps_mem m).2.1
    exact ⟨zne (Nat.lt_of_lt_of_le h (by omega)), zne h, zne (Nat.lt_of_lt_of_le h (by omega))⟩
  a5 := zps_nodup a n
  a6 := fun q m => by
    have h := hl _ (zps_mem m).2.2
    exact ⟨zne (Nat.lt_of_lt_of_le h (by omega)), zne (Nat.lt_of_lt_of_le h (by omega)), fun r mr => zne (Nat.lt_of_lt_of_le h (zps_mem mr).1)⟩
section
variable {prog : Program} {w : World} {A : Around} {E : Value → Shared → Prop} {s : Shared} {ls : List Addr} {xs : Addr → Array Value}
theorem wp_iterAllN {Q : List Value → Shared → Prop} (hl : ∀ l ∈ ls, s.heap.IsList l (xs l)) (hQ : ∀ h', (∀ q ∈ zps ls s.heap.objs.size, h'.IsListIter q.1 q.2 0) → h'.objs.size = s.heap.objs.size + ls.length → (∀ c o, s.heap.get? c = some o → h'.get? c = some o) →
      Q ((zps ls s.heap.objs.size).map fun q => .ref q.1) { s with heap := h' }) : wpAny (model prog w) A (Builtin.SmallTypes.iterAll (ls.map .ref)) Q E s := by
  unfold Builtin.SmallTypes.iterAll
  refine wpAny_bind ?_
  refine wpAny_forIn_list _ (fun (rest : List Value) (b : Array Value) (st : Shared) => ∃ (dn rs : List Addr) (h1 : Heap), ls = dn ++ rs ∧ rest = rs.map .ref ∧ b = ((zps dn s.heap.objs.size).map fun q => Value.ref q.1).toArray ∧ st = { s with heap := h1 } ∧
      (∀ q ∈ zps dn s.heap.objs.size, h1.IsListIter q.1 q.2 0) ∧ h1.objs.size = s.heap.objs.size + dn.length ∧ ∀ c o, s.heap.get? c = some o → h1.get? c = some o) _ ?_ ?_ _ _ ⟨[], ls, s.heap, rfl, rfl, rfl, rfl, fun q m => absurd m List.not_mem_nil, rfl, fun _ _ e => e⟩
  · rintro x rest b st ⟨dn, rs, h1, e1, e2, rfl, rfl, hi, hs, hk⟩
    cases rs with
    | nil => cases e2
    | cons l r =>
      have e3 : x = Value.ref l := (List.cons.inj e2).1
      have e4 : rest = r.map Value.ref := (List.cons.inj e2).2
      subst e3
      have ml : l ∈ ls := by rw [e1]; simp
      have L : h1.IsList l (xs l) := (hl l ml).at fun o e => hk l o e
      refine wpAny_bind (wpAny_holding (wpAny_pyIter_list (s := { s with heap := h1 }) L ?_))
      refine wpAny_pure ⟨dn ++ [l], r, _, by rw [e1, List.append_assoc]; rfl, e4, ?_, rfl, ?_, ?_, ?_⟩
      · rw [zps_app, ← hs]
        simp [zps]
      · intro q m
        rw [zps_app] at m
        rcases List.mem_append.mp m with m | m
        · exact (hi q m).at fun o e => Heap.get?_push_of_some _ e
        · have e : q = (s.heap.objs.size + dn.length, l) := List.mem_singleton.mp m
          subst e
          rw [← hs]
          exact ⟨_, Heap.get?_push_size _ rfl, rfl, rfl⟩
      · show (h1.push _).objs.size = _
        rw [Heap.size_push, hs, List.length_append]
        rfl
      · exact fun c o e => Heap.get?_push_of_some _ (hk c o e)
  · rintro b st ⟨dn, rs, h1, e1, e2, rfl, rfl, hi, hs, hk⟩
    have ers : rs = [] := by
      cases rs with
      | nil => rfl
      | cons a b => cases e2
    subst ers
    rw [List.append_nil] at e1
    subst e1
    exact wpAny_pure (hQ h1 hi hs hk)
theorem wp_newClassZ {vs : List Value} {Q : Value × List Value → Shared → Prop} (h : Q (.type "zip", vs) s) : wpAny (model prog w) A (Builtin.SmallTypes.newClass "zip" ⟨.type "zip" :: vs, []⟩) Q E s := by
  have hsub := sub_zip
  unfold Builtin.SmallTypes.newClass
  wp_walk
  exact h
theorem meets_zipN (ls : List Addr) (xs : Addr → Array Value) : Meets (Builtin.«zip.__new__» ⟨.type "zip" :: ls.map .ref, []⟩) (fun _ R s => (∀ l ∈ ls, s.heap.IsList l (xs l)) ∧ ls.length ≤ 900 ∧
      ∀ h', ZipAt h' (s.heap.objs.size + ls.length + 2) (s.heap.objs.size + ls.length) (s.heap.objs.size + ls.length + 1) (zps ls s.heap.objs.size) 0 → (∀ c o, s.heap.get? c = some o → h'.get? c = some o) → R (.ok (.ret (.ref (s.heap.objs.size + ls.length + 2)))) { s with heap := h' }) :=
  .of_wp fun prog w A R s h => by
    obtain ⟨hl, hn, h⟩ := h
    unfold Builtin.«zip.__new__»
    refine wpAny_bind (wp_newClassZ ?_)
    show wpAny _ _ (Builtin.SmallTypes.iterAll _ >>= _) _ _ _
    refine wpAny_bind (wp_iterAllN hl fun h1 hi hs hk => ?_)
    have hz : (zps ls s.heap.objs.size).length = ls.length := zps_len _ _
    refine wpAny_bind (wpAny_newTuple (s := { s with heap := h1 }) ?_ (by rw [List.length_map, hz]; exact Nat.le_trans hn (by decide)))
    refine wpAny_bind (wpAny_newTuple ?_ (by rw [List.length_map, List.length_map, hz]; exact Nat.le_trans hn (by decide)))
    refine wpAny_bind ?_
    unfold Builtin.SmallTypes.newRecord
    refine wpAny_newObj_type ?_ (by show 5 ≤ _; decide)
    refine wpAny_pure ⟨_, rfl, ?_⟩
    have p1 : (h1.push { cls := .type "tuple", data := .seq ((zps ls s.heap.objs.size).map fun q => Value.ref q.1).toArray }).objs.size = s.heap.objs.size + ls.length + 1 := by rw [Heap.size_push, hs]
    have p2 : ((h1.push { cls := .type "tuple", data := .seq ((zps ls s.heap.objs.size).map fun q => Value.ref q.1).toArray }).push { cls := .type "tuple", data := .seq (((zps ls s.heap.objs.size).map fun q => Value.ref q.1).map fun _ => Value.none).toArray }).objs.size = s.heap.objs.size + ls.length + 2 := by rw [Heap.size_push, p1]
    have R2 := h (((h1.push { cls := .type "tuple", data := .seq ((zps ls s.heap.objs.size).map fun q => Value.ref q.1).toArray }).push { cls := .type "tuple", data := .seq (((zps ls s.heap.objs.size).map fun q => Value.ref q.1).map fun _ => Value.none).toArray }).push
      { cls := .type "zip", dict := none, data := .fields #[.none, .bool false, .bool false, .ref (s.heap.objs.size + ls.length), .ref (s.heap.objs.size + ls.length + 1)], slots := #[] })
      ⟨⟨.none, false, ?_, .inl rfl⟩, ?_, ⟨((zps ls s.heap.objs.size).map fun q => Value.ref q.1).map fun _ => Value.none, by rw [List.length_map, List.length_map], ?_⟩, fun q m => (hi q m).at fun o e => Heap.get?_push_of_some _ (Heap.get?_push_of_some _ (Heap.get?_push_of_some _ e))⟩
      fun c o e => Heap.get?_push_of_some _ (Heap.get?_push_of_some _ (Heap.get?_push_of_some _ (hk c o e)))
    · rw [← p2, ← p1, ← hs] at R2
      exact R2
    · rw [← p2]
      exact Heap.get?_push_size _ rfl
    · rw [← hs]
      exact Heap.get?_push_of_some _ (Heap.get?_push_of_some _ (Heap.get?_push_size _ rfl))
    · rw [← p1]
      exact Heap.get?_push_of_some _ (Heap.get?_push_size _ rfl)
theorem newCall_zipA {vs : List Value} (ne : vs ≠ []) : checkBuiltinCall "zip.__new__" ⟨.type "zip" :: vs, []⟩ = pure () := by
  match vs with
  | [] => exact absurd rfl ne
  | [a] => kernel_rfl
  | a :: b :: r => kernel_rfl
theorem typeCall_zipA (vs : List Value) : checkTypeCall "zip" ⟨vs, []⟩ = pure () := by kernel_rfl
theorem args_objectA (o : Value) (vs : List Value) : argsOk "object.__init__" ⟨o :: vs, []⟩ := by unfold argsOk; kernel_rfl
theorem call_zipN {Q : Value → Shared → Prop} (ne : ls ≠ []) (hn : ls.length ≤ 900) (hl : ∀ l ∈ ls, s.heap.IsList l (xs l))
    (h : ∀ h', ZipAt h' (s.heap.objs.size + ls.length + 2) (s.heap.objs.size + ls.length) (s.heap.objs.size + ls.length + 1) (zps ls s.heap.objs.size) 0 → (∀ c o, s.heap.get? c = some o → h'.get? c = some o) → Q (.ref (s.heap.objs.size + ls.length + 2)) { s with heap := h' }) :
    wpAny (model prog w) A (call (.type "zip") (ls.map .ref)) Q E s := by
  refine callType_new F.called_zip (by decide) (typeCall_zipA _) (newCall_zipA (by simpa using ne)) (fun obj => args_objectA obj _) F.entry_zip_new (meets_zipN ls xs) ⟨hl, hn, fun h' z k => ?_⟩
  obtain ⟨f0, f, hz, _⟩ := z.1
  exact ⟨⟨_, hz, rfl⟩, h h' z k⟩
end
end My
namespace My
open PySem PySem.Spec PyProof.Rows L2
/-- the lists as they stand at each turn, the items in new tuples; all of one length -/
def ItN (K : PySem.W.Frag) (as : List Addr) : It :=
  ⟨fun i H => ∃ xss : Addr → List V, (∀ a ∈ as, SqL K H a (xss a)) ∧ ∀ a ∈ as, i < (xss a).length,
    fun i H v H' => ∃ T vs, v = .ref T ∧ H T = none ∧ H' = upd H T (.tup vs) ∧ ∀ xss : Addr → List V, (∀ a ∈ as, SqL K H a (xss a)) → vs = as.map fun a => (xss a).getD i .non,
    fun i H => ∃ xss : Addr → List V, (∀ a ∈ as, SqL K H a (xss a)) ∧ ∀ a ∈ as, (xss a).length ≤ i⟩
theorem sqls {X : Cx} {pins : List (Addr × Obj)} {σ : L2.St} {H : Hp} {s : Shared} {as : List Addr} {xss : Addr → List V} (I : Inv X pins σ H s) (h : ∀ a ∈ as, SqL X.K H a (xss a)) :
    ∃ xs : Addr → Array Value, ∀ a ∈ as, s.heap.IsList a (xs a) ∧ Vals (xss a) (xs a).toList := by
  have h1 : ∀ a, ∃ x : Array Value, a ∈ as → s.heap.IsList a x ∧ Vals (xss a) x.toList := fun a => by
    by_cases m : a ∈ as
    · obtain ⟨its, rv, p, _⟩ := I.list (h a m)
      exact ⟨its.toArray, fun _ => ⟨p.isList, rv⟩⟩
    · exact ⟨#[], fun m' => absurd m' m⟩
  obtain ⟨f, hf⟩ := Classical.axiomOfChoice h1
  exact ⟨f, hf⟩
theorem zsz {vs : List V} {a : Array Value} (h : Vals vs a.toList) : a.size = vs.length := by
  rw [← Array.length_toList]
  exact h.length.symm
theorem vals_row {xss : Addr → List V} {xs : Addr → Array Value} {i : Nat} : ∀ {ps : List (Addr × Addr)}, (∀ q ∈ ps, Vals (xss q.2) (xs q.2).toList ∧ i < (xss q.2).length) → Vals (ps.map fun q => (xss q.2).getD i .non) (ps.map fun q => (xs q.2).getD i .none)
  | [], _ => .nil
  | q :: ps, h => by
    obtain ⟨h1, h2⟩ := h q List.mem_cons_self
    obtain ⟨u, hu, ru⟩ := h1.get (List.getElem?_eq_getElem h2)
    have e1 : (xss q.2).getD i .non = (xss q.2)[i] := by rw [List.getD_eq_getElem?_getD, List.getElem?_eq_getElem h2]; rfl
    have e2 : (xs q.2).getD i .none = u := by
      rw [Array.getD_eq_getD_getElem?, ← Array.getElem?_toList, hu]
      rfl
    show Vals ((xss q.2).getD i .non :: _) ((xs q.2).getD i .none :: _)
    rw [e1, e2]
    exact .cons ru (vals_row fun r m => h r (List.mem_cons_of_mem _ m))
theorem turn_zipN {P : Program} {w : World} {K : PySem.W.Frag} {tg : Expr} {z TI TO : Addr} {ps : List (Addr × Addr)} (ne : ps ≠ []) (hn : ps.length ≤ 900) (D : ApN z TI TO ps) :
    Turn P w K tg (ItN K (ps.map (·.2))) (z :: TI :: TO :: ps.map (·.1)) z (fun i h => ZipAt h z TI TO ps i) where
  mem := List.mem_cons_self
  obj := fun i h st c hc => by
    obtain ⟨⟨f0, f, hz, _⟩, hTI, ⟨old, _, hTO⟩, hi⟩ := st
    rcases List.mem_cons.mp hc with q | hc
    · rw [q]; exact ⟨_, hz, fun v q => nomatch q⟩
    rcases List.mem_cons.mp hc with q | hc
    · rw [q]; exact ⟨_, hTI, fun v q => nomatch q⟩
    rcases List.mem_cons.mp hc with q | hc
    · rw [q]; exact ⟨_, hTO, fun v q => nomatch q⟩
    obtain ⟨q, mq, rfl⟩ := List.mem_map.mp hc
    obtain ⟨o1, e1, _, d1⟩ := hi q mq
    exact ⟨o1, e1, fun v q => by rw [d1] at q; cases q⟩
  keep := fun i h h' st k => by
    obtain ⟨⟨f0, f, hz, g0⟩, hTI, ⟨old, ho, hTO⟩, hi⟩ := st
    exact ⟨⟨f0, f, k z (by simp) _ hz, g0⟩, k TI (by simp) _ hTI, ⟨old, ho, k TO (by simp) _ hTO⟩, fun q m => (hi q m).at fun o e => k q.1 (by
      refine List.mem_cons_of_mem _ (List.mem_cons_of_mem _ (List.mem_cons_of_mem _ ?_))
      exact List.mem_map_of_mem (f := (·.1)) m) o e⟩
  item := by
    intro X hP hw hK hc i pins s σ H E I hf st hg
    subst hP hw hK
    obtain ⟨xss, hq, hlt⟩ := hg
    have hq' : ∀ q ∈ ps, SqL X.K H q.2 (xss q.2) := fun q m => hq _ (List.mem_map_of_mem (f := (·.2)) m)
    have hlt' : ∀ q ∈ ps, i < (xss q.2).length := fun q m => hlt _ (List.mem_map_of_mem (f := (·.2)) m)
    obtain ⟨xs, hx⟩ := sqls I hq
    have hx' : ∀ q ∈ ps, s.heap.IsList q.2 (xs q.2) ∧ Vals (xss q.2) (xs q.2).toList := fun q m => hx _ (List.mem_map_of_mem (f := (·.2)) m)
    have ⟨⟨f00, f1, hz00, _⟩, _, _, _⟩ := st
    have hzl : z < s.heap.objs.size := Heap.lt_size hz00
    refine next_any (xs := xs) ne hn D st (fun q m => (hx' q m).1) (fun q m => ?_) fun h' U eU st' hT hsz hk => ?_
    · rw [zsz (hx' q m).2]
      exact hlt' q m
    obtain ⟨⟨f0, f, hz, g0⟩, hTI, ⟨old, ho, hTO⟩, hi⟩ := st'
    refine ⟨_, rfl, go_zipN (s := { s with heap := h' }) hz g0 fun h'' f0' hz'' g0' sb => ?_⟩
    subst eU
    have neU : s.heap.objs.size ≠ z := Nat.ne_of_gt hzl
    have hT2 : TupN h'' s.heap.objs.size (ps.map fun q => (xs q.2).getD i .none) := (sb.2 _ neU).trans hT
    have rv := vals_row (xss := xss) (xs := xs) (i := i) (ps := ps) fun q m => ⟨(hx' q m).2, hlt' q m⟩
    have new : ObjOk X.prog X.w (upd H s.heap.objs.size (.tup (ps.map fun q => (xss q.2).getD i .non))) h'' s.heap.objs.size (.tup (ps.map fun q => (xss q.2).getD i .non)) :=
      ⟨by rw [List.length_map]; exact Nat.le_trans hn (by decide), _, rv, ⟨_, hT2, rfl, _, rfl⟩⟩
    have I1 : Inv X pins σ (upd H s.heap.objs.size (.tup (ps.map fun q => (xss q.2).getD i .non))) { s with heap := h'' } :=
      I.turnedNew (t' := s.toks) (ch := z :: TI :: TO :: ps.map (·.1)) (fun c o hb q => (sb.2 c (fun e => hb (by rw [e]; exact List.mem_cons_self))).trans (hk c o (fun e => hb (by rw [e]; exact List.mem_cons_self)) (fun e => hb (by rw [e]; simp)) (fun r m e => hb (by
        rw [e]
        refine List.mem_cons_of_mem _ (List.mem_cons_of_mem _ (List.mem_cons_of_mem _ ?_))
        exact List.mem_map_of_mem (f := (·.1)) m)) q)) hf (Nat.le_refl _) new
    refine ⟨.ref s.heap.objs.size, _, I1, rfl, ⟨_, _, rfl, I.hok.fresh (Nat.le_refl _), rfl, fun xss2 h2 => ?_⟩, ⟨⟨f0', f, hz'', g0'⟩, (sb.2 _ D.a1).trans hTI, ⟨old, ho, (sb.2 _ D.a2).trans hTO⟩, fun q m => (hi q m).at fun o e => (sb.2 _ (D.a4 q m).1).trans e⟩, fun c hcm => ?_⟩
    · rw [List.map_map]
      refine List.map_congr_left fun q m => ?_
      show (xss q.2).getD i .non = (xss2 q.2).getD i .non
      rw [I.list_inj (h2 _ (List.mem_map_of_mem (f := (·.2)) m)) (hq' q m)]
    · have hlt2 : c < s.heap.objs.size := by
        obtain ⟨⟨f0, f, hz, g0⟩, hTI, ⟨old, ho, hTO⟩, hi⟩ := st
        rcases List.mem_cons.mp hcm with q | hc
        · rw [q]; exact hzl
        rcases List.mem_cons.mp hc with q | hc
        · rw [q]; exact Heap.lt_size hTI
        rcases List.mem_cons.mp hc with q | hc
        · rw [q]; exact Heap.lt_size hTO
        obtain ⟨q, mq, rfl⟩ := List.mem_map.mp hc
        obtain ⟨o1, e1, _⟩ := hi q mq
        exact Heap.lt_size e1
      rw [upd_ne (Nat.ne_of_lt hlt2)]
      exact (hf c hcm).1
  done := by
    intro X hP hw hK hc i pins s σ H E I hf st hg
    subst hP hw hK
    obtain ⟨xss, hq, hle⟩ := hg
    obtain ⟨xs, hx⟩ := sqls I hq
    have hx' : ∀ q ∈ ps, s.heap.IsList q.2 (xs q.2) ∧ Vals (xss q.2) (xs q.2).toList := fun q m => hx _ (List.mem_map_of_mem (f := (·.2)) m)
    refine next_stop (xs := xs) (I.ok.hd hc) ne D st (fun q m => (hx' q m).1) (fun q m => ?_) fun h' hk => ⟨rfl, I.turnedL (t' := s.toks) (ch := z :: TI :: TO :: ps.map (·.1)) (fun c o hb q =>
      hk c o (fun e => hb (by rw [e]; exact List.mem_cons_self)) (fun r m e => hb (by
        rw [e]
        refine List.mem_cons_of_mem _ (List.mem_cons_of_mem _ (List.mem_cons_of_mem _ ?_))
        exact List.mem_map_of_mem (f := (·.1)) m)) q) hf⟩
    rw [zsz (hx' q m).2]
    exact hle _ (List.mem_map_of_mem (f := (·.2)) m)
  self := fun A i s Q E st h => by
    obtain ⟨⟨f0, f, hz, _⟩, _⟩ := st
    have hT : s.TypeIs (.ref z) "zip" := ⟨_, hz, rfl⟩
    refine wpAny_pyIter_slot hT F.slot_zip_iter (wpAny_call_entry F.slot_zip_iter hT F.entry_zip_iter ?_ (F.args_zip_iter_1 _))
    show wpAny _ _ (ret (.ref z)) _ _ s
    exact wpAny_pure ⟨_, rfl, "zip", _, hT, F.slot_zip_next.lookup, h⟩
theorem vals_refs : ∀ {as : List Addr} {us : List Value}, Vals (as.map V.ref) us → us = as.map Value.ref
  | [], _, .nil => rfl
  | a :: as, _, .cons r t => by
    cases r
    rw [vals_refs t]
    rfl
/-- the call of zip on lists -/
theorem zipN_made {X : Cx} {pins : List (Addr × Obj)} {σ : L2.St} {H : Hp} {s : Shared} {as : List Addr} {us : List Value} {tg : Expr} {R : It → Hp → Prop} {xss : Addr → List V} (I : Inv X pins σ H s) (ne : as ≠ []) (hn : as.length ≤ 900) (rv : Vals (as.map V.ref) us) (hq : ∀ a ∈ as, SqL X.K H a (xss a)) (q : R (ItN X.K as) H) :
    wpAny (model X.prog X.w) X.A (call (.type "zip") us) (fun v s1 => wpAny (model X.prog X.w) X.A (pyIter v) (PIE X pins σ tg R) X.xe s1) X.xe s := by
  rw [vals_refs rv]
  obtain ⟨xs, hx⟩ := sqls I hq
  have hlt : ∀ l ∈ as, l < s.heap.objs.size := fun l m => by
    obtain ⟨o, ho, _⟩ := (hx l m).1
    exact Heap.lt_size ho
  have nez : zps as s.heap.objs.size ≠ [] := fun e => ne (by rw [← zps_two as s.heap.objs.size, e]; rfl)
  have hnz : (zps as s.heap.objs.size).length ≤ 900 := by rw [zps_len]; exact hn
  refine call_zipN (xs := xs) ne hn (fun l m => (hx l m).1) fun h' st hk => ?_
  have T := turn_zipN (P := X.prog) (w := X.w) (K := X.K) (tg := tg) nez hnz (zps_ap hlt)
  rw [zps_two] at T
  refine T.self _ 0 _ _ _ st ?_
  have I2 : Inv X pins σ H { s with heap := h' } := I.kept (t' := s.toks) hk
  refine ⟨_, _, _, _, H, rfl, I2, T, st, fun c hcm => ?_, q⟩
  have hle : s.heap.objs.size ≤ c := by
    rcases List.mem_cons.mp hcm with q | hc
    · rw [q]; exact Nat.le_trans (Nat.le_add_right _ _) (Nat.le_add_right _ _)
    rcases List.mem_cons.mp hc with q | hc
    · rw [q]; exact Nat.le_add_right _ _
    rcases List.mem_cons.mp hc with q | hc
    · rw [q]; exact Nat.le_trans (Nat.le_add_right _ _) (Nat.le_add_right _ _)
    obtain ⟨q, mq, rfl⟩ := List.mem_map.mp hc
    exact (zps_mem mq).1
  exact I.fpOk hle (I.hok.fresh hle)
def iZipN (K : PySem.W.Frag) (ta : TA) : TI := fun σ H R => ta σ H fun vs H1 => ∃ (as : List Addr) (xss : Addr → List V), vs = as.map V.ref ∧ as ≠ [] ∧ as.length ≤ 900 ∧ (∀ a ∈ as, SqL K H1 a (xss a)) ∧ R (ItN K as) H1
theorem pi_zipN {X : Cx} {tg e : Expr} {es : List Expr} {ta : TA} {p pos : Pos} (hg : Gl X "zip") (hm : X.mg "zip" = none) (ha : PA X (e :: es) ta)
    (hs : starEach (e :: es) X.env = (false, eval e X.env) :: starEach es X.env := by rfl) (hpl : (backTo pos (starEach es X.env)).any (·.1) = false := by rfl) :
    PI X tg (.Call (.Name "zip" p) (e :: es) [] pos) (iZipN X.K ta) := by
  refine ⟨fun pins s σ H R I h => ?_⟩
  refine Call_ (ld_blt I hg hm PyProof.Rows.boot_zip (PyProof.Rows.callWith_type1 (thn (ha.run pos pins s σ H _ I h) fun us s1 ⟨vs, H1, I1, r1, q1⟩ => ?_) hs hpl))
  obtain ⟨as, xss, rfl, ne, hn, hq, q⟩ := q1
  exact zipN_made I1 ne hn r1 hq q
/-- zip(*rows) -/
def iZipS (K : PySem.W.Frag) (te : TE) : TI := fun σ H R => te σ H fun x H1 => ∃ (p : Addr) (as : List Addr) (xss : Addr → List V), x = .ref p ∧ (SqT K H1 p (as.map V.ref) ∨ SqL K H1 p (as.map V.ref)) ∧ as ≠ [] ∧ as.length ≤ 900 ∧ (∀ a ∈ as, SqL K H1 a (xss a)) ∧ R (ItN K as) H1
theorem pi_zipS {X : Cx} {tg e : Expr} {te : TE} {p p2 pos : Pos} (hg : Gl X "zip") (hm : X.mg "zip" = none) (he : PE X e te)
    (hs : starEach [.Starred e p2] X.env = [(true, eval e X.env)] := by rfl) :
    PI X tg (.Call (.Name "zip" p) [.Starred e p2] [] pos) (iZipS X.K te) := by
  refine ⟨fun pins s σ H R I h => ?_⟩
  refine Call_ (ld_blt I hg hm PyProof.Rows.boot_zip ?_)
  rw [hs]
  refine PySem.W.ks_call (P := fun _ => True) rfl (fun h _ => ⟨.machine, .inr (.inl rfl), PySem.W.Looks.of_pure rfl⟩) (PySem.W.ks_lone ?_)
  refine thn (he.run pins s σ H _ I h) fun v s1 ⟨x, H1, I1, r1, q1⟩ => ?_
  obtain ⟨pa, as, xss, rfl, hx, ne, hn, hq, q⟩ := q1
  obtain rfl : v = Value.ref pa := r1
  exact StX.star_any I1 hx fun us s2 I2 rv => ⟨trivial, zipN_made I2 ne hn rv hq q⟩
end My
namespace My
open PySem PySem.Spec PyProof.Rows L2
theorem walk_zipN {K : PySem.W.Frag} {as : List Addr} {xss : Addr → List V} {n : Nat} (hl : ∀ a ∈ as, (xss a).length = n) :
    Walk (ItN K as) n (fun H => ∀ a ∈ as, SqL K H a (xss a)) (fun i H v H' => ∃ T, v = .ref T ∧ H T = none ∧ H' = upd H T (.tup (as.map fun a => (xss a).getD i .non))) :=
  ⟨fun i H hi q => ⟨xss, q, fun a m => by rw [hl a m]; exact hi⟩, fun H q => ⟨xss, q, fun a m => by rw [hl a m]; exact Nat.le_refl _⟩, fun i H v H' _ q y => by
    obtain ⟨T, vs, h1, h2, h3, h4⟩ := y
    exact ⟨T, h1, h2, by rw [h3, h4 xss q]⟩⟩
end My
namespace My
open PySem PySem.Spec PyProof.Rows L2
/-! ### zip of no list at all -/
theorem newCall_zip0 : checkBuiltinCall "zip.__new__" ⟨[.type "zip"], []⟩ = pure () := by kernel_rfl
theorem next_zip0 {prog : Program} {w : World} {A : Around} {E : Value → Shared → Prop} {s : Shared} {z TI TO : Addr} {k : Nat} {Q : Option Value → Shared → Prop} (calm : A.handled = none) (hz : ZipAt s.heap z TI TO [] k)
    (hQ : ∀ h', (∀ c o, s.heap.get? c = some o → h'.get? c = some o) → Q none { s with heap := h' }) : wpAny (model prog w) A (pyNext (.ref z)) Q E s := by
  obtain ⟨⟨f0, f, hzz, hg⟩, hI, _, _⟩ := hz
  have hTy : s.TypeIs (.ref z) "zip" := ⟨_, hzz, rfl⟩
  unfold pyNext
  refine wpAny_bind (wpAny_attempt (wpAny_callSpecial?_slot (name := Str.ofString "__next__") hTy F.slot_zip_next (wpAny_call_entry F.slot_zip_next hTy F.entry_zip_next ?_ (F.args_zip_next_1 _))))
  show wpAny _ _ (field (.ref z) 2 >>= _) _ _ _
  refine wpAny_bind (wpAny_field hzz rfl (x := .bool false) rfl ?_)
  show wpAny _ _ (field (.ref z) 3 >>= _) _ _ _
  refine wpAny_bind (wpAny_field hzz rfl (x := .ref TI) rfl ?_)
  refine wpAny_bind (wpAny_seqItems hI rfl ?_)
  dsimp only
  rw [show (List.map (fun q : Addr × Addr => Value.ref q.1) []).toArray.isEmpty = true from rfl, if_pos rfl]
  refine wpAny_bind (wpAny_rule ?_)
  show wpAny _ _ (Builtin.SmallTypes.stopIteration >>= _) _ _ _
  refine wpAny_bind ?_
  unfold Builtin.SmallTypes.stopIteration
  show wpAny _ _ (newExc (.type "StopIteration") [] >>= _) _ _ _
  refine wpAny_bind ?_
  simp only [newExc, newTuple]
  refine wpAny_bind (wpAny_newObj_type ?_ (by size_fits))
  refine wpAny_bind (m := firstArgMember _ _) (wpAny_of_eq (a := Value.none) (by first | rfl | (unfold firstArgMember; rfl)) ?_)
  refine wpAny_newObj_type ?_ (by size_fits)
  simp only [raiseNew]
  refine wpAny_bind (wpAny_handled ?_)
  rw [show A.in1.handled = none from calm]
  refine wpAny_bind (wpAny_pure (wpAny_throw ?_))
  refine wpAny_bind (wpAny_isInstance (T := "StopIteration") (b := true) ⟨_, Heap.get?_push_size _ rfl, rfl⟩ isSubtype_stop ?_)
  exact wpAny_pure (hQ _ fun c o e => Heap.get?_push_of_some _ (Heap.get?_push_of_some _ e))
def It0 : It := ⟨fun _ _ => False, fun _ _ _ _ => False, fun _ _ => True⟩
theorem turn_zip0 {P : Program} {w : World} {K : PySem.W.Frag} {tg : Expr} {z TI TO : Addr} : Turn P w K tg It0 [z, TI, TO] z (fun i h => ZipAt h z TI TO [] i) where
  mem := List.mem_cons_self
  obj := fun i h st c hc => by
    obtain ⟨⟨f0, f, hz, _⟩, hTI, ⟨old, _, hTO⟩, _⟩ := st
    rcases List.mem_cons.mp hc with rfl | hc
    · exact ⟨_, hz, fun v q => nomatch q⟩
    rcases List.mem_cons.mp hc with rfl | hc
    · exact ⟨_, hTI, fun v q => nomatch q⟩
    rw [List.mem_singleton.mp hc]
    exact ⟨_, hTO, fun v q => nomatch q⟩
  keep := fun i h h' st k => by
    obtain ⟨⟨f0, f, hz, g0⟩, hTI, ⟨old, ho, hTO⟩, _⟩ := st
    exact ⟨⟨f0, f, k z (by simp) _ hz, g0⟩, k TI (by simp) _ hTI, ⟨old, ho, k TO (by simp) _ hTO⟩, fun q m => absurd m List.not_mem_nil⟩
  item := fun X _ _ _ _ i pins s σ H E I hf st hg => hg.elim
  done := fun X e1 e2 e3 calm i pins s σ H E I hf st hg => by
    subst e1 e2 e3
    exact next_zip0 (I.ok.hd calm) st fun h' k => ⟨rfl, I.kept (t' := s.toks) k⟩
  self := fun A i s Q E st h => by
    obtain ⟨⟨f0, f, hz, _⟩, _⟩ := st
    have hT : s.TypeIs (.ref z) "zip" := ⟨_, hz, rfl⟩
    refine wpAny_pyIter_slot hT F.slot_zip_iter (wpAny_call_entry F.slot_zip_iter hT F.entry_zip_iter ?_ (F.args_zip_iter_1 _))
    show wpAny _ _ (ret (.ref z)) _ _ s
    exact wpAny_pure ⟨_, rfl, "zip", _, hT, F.slot_zip_next.lookup, h⟩
theorem zip0_made {X : Cx} {pins : List (Addr × Obj)} {σ : L2.St} {H : Hp} {s : Shared} {tg : Expr} {R : It → Hp → Prop} (I : Inv X pins σ H s) (q : R It0 H) :
    wpAny (model X.prog X.w) X.A (call (.type "zip") []) (fun v s1 => wpAny (model X.prog X.w) X.A (pyIter v) (PIE X pins σ tg R) X.xe s1) X.xe s := by
  refine callType_new F.called_zip (by decide) (typeCall_zipA []) newCall_zip0 (fun obj => args_objectA obj _) F.entry_zip_new (meets_zipN [] fun _ => #[]) ⟨(fun l m => absurd m List.not_mem_nil), Nat.zero_le _, fun h' st k => ?_⟩
  have st' : ZipAt h' (s.heap.objs.size + 2) s.heap.objs.size (s.heap.objs.size + 1) [] 0 := st
  obtain ⟨f0, f, hz, g0⟩ := st'.1
  refine ⟨⟨_, hz, rfl⟩, ?_⟩
  have T := turn_zip0 (P := X.prog) (w := X.w) (K := X.K) (tg := tg) (z := s.heap.objs.size + 2) (TI := s.heap.objs.size) (TO := s.heap.objs.size + 1)
  refine T.self _ 0 _ _ _ st' ?_
  have I2 : Inv X pins σ H { s with heap := h' } := I.kept (t' := s.toks) k
  refine ⟨_, _, _, _, H, rfl, I2, T, st', fun c hc => ?_, q⟩
  have hle : s.heap.objs.size ≤ c := by
    rcases List.mem_cons.mp hc with q | hc
    · rw [q]; exact Nat.le_add_right _ _
    rcases List.mem_cons.mp hc with q | hc
    · rw [q]; exact Nat.le_refl _
    rw [List.mem_singleton.mp hc]
    exact Nat.le_add_right _ _
  exact I.fpOk hle (I.hok.fresh hle)
/-- zip(*rows), rows at times none -/
def iZipS0 (K : PySem.W.Frag) (te : TE) : TI := fun σ H R => te σ H fun x H1 => ∃ (p : Addr) (as : List Addr) (xss : Addr → List V), x = .ref p ∧ (SqT K H1 p (as.map V.ref) ∨ SqL K H1 p (as.map V.ref)) ∧ as.length ≤ 900 ∧ (∀ a ∈ as, SqL K H1 a (xss a)) ∧ (as = [] → R It0 H1) ∧ (as ≠ [] → R (ItN K as) H1)
theorem pi_zipS0 {X : Cx} {tg e : Expr} {te : TE} {p p2 pos : Pos} (hg : Gl X "zip") (hm : X.mg "zip" = none) (he : PE X e te)
    (hs : starEach [.Starred e p2] X.env = [(true, eval e X.env)] := by rfl) : PI X tg (.Call (.Name "zip" p) [.Starred e p2] [] pos) (iZipS0 X.K te) := by
  refine ⟨fun pins s σ H R I h => ?_⟩
  refine Call_ (ld_blt I hg hm PyProof.Rows.boot_zip ?_)
  rw [hs]
  refine PySem.W.ks_call (P := fun _ => True) rfl (fun h _ => ⟨.machine, .inr (.inl rfl), PySem.W.Looks.of_pure rfl⟩) (PySem.W.ks_lone ?_)
  refine thn (he.run pins s σ H _ I h) fun v s1 ⟨x, H1, I1, r1, q1⟩ => ?_
  obtain ⟨pa, as, xss, rfl, hx, hn, hq, q0, q⟩ := q1
  obtain rfl : v = Value.ref pa := r1
  refine StX.star_any I1 hx fun us s2 I2 rv => ⟨trivial, ?_⟩
  by_cases ne : as = []
  · subst ne
    cases rv
    exact zip0_made I2 (q0 rfl)
  · exact zipN_made I2 ne hn rv hq (q ne)
end My
namespace My
open PySem PySem.Spec PyProof.Rows L2
/-! ### dict comprehensions whose keys are tuples -/
/-- key, value, the dict, the heap: what is asked so that the pair may be put in -/
abbrev TPut := V → V → Addr → Hp → (Hp → Prop) → Prop
def putT : TPut := fun y z D G N => ∃ (kvs : List (List Key × V)) (ks : List Key) (b : Addr), y = .ref b ∧ G D = some (.dT kvs) ∧ G b = some (.tup (ks.map kV)) ∧ kvs.length < sizeLine ∧ N (upd G D (.dT (putK kvs ks z)))
theorem put_in {Y : Cx} {ps : List (Addr × Obj)} {τ : L2.St} {G : Hp} {sh : Shared} {EE : Value → Shared → Prop} {D : Addr} {y z : V} {uy uz : Value} {N : Hp → Prop} {QQ : Unit → Shared → Prop} (room : Y.A.units < cLine)
    (inv : Inv Y ps τ G sh) (ry : RelV y uy) (rz : RelV z uz) (wish : putT y z D G N) (go : ∀ sh' G', Inv Y ps τ G' sh' → N G' → QQ () sh') : wpAny (model Y.prog Y.w) Y.A (dictSet D uy uz) QQ EE sh := by
  obtain ⟨kvs, ks, b, rfl, eD, eb, few, n⟩ := wish
  obtain rfl : uy = Value.ref b := ry
  obtain ⟨_, nosys, xs, same, dd⟩ := dt_of inv.hok eD
  have lx : xs.length ≤ sizeLine := by
    have := Paired.length same
    omega
  have lp := length_putK kvs ks z
  refine wpAny_dictSet_heap (hsz := lx) room (key_of inv.hok eb) dd fun hp' stands but => go _ _ ?_ n
  obtain ⟨ob, ents, ep, g1, g2, g3, g4, _, g5⟩ := stands
  have lay : KT (upd G D (.dT (putK kvs ks z))) (putK kvs ks z) (storedH xs ks b uz) := (same.put ks eb rz).keeps fun c ys ec => by
    rw [upd_ne (ne_of ec eD (fun q => nomatch q))]
    exact ec
  exact d_write inv (by rw [eD]; exact True.intro) but ⟨ob, g1⟩ ⟨by omega, nosys, _, lay, ob, ents, ep, g1, g2, g3, g4, g5⟩
/-- {k: v for target in iter if ..}, the keys tuples: D the new dict -/
def tDcT (wi : TI) (g : TG) (tt : TT) (tk tv : TE) (vs : List Nat) : TE := fun σ G Q => wi σ G fun J G1 => ∀ D, G1 D = none → ∃ W : Nat → Nat → Hp → Prop, (∃ m, W 0 m (upd G1 D (.dT []))) ∧ ∀ i m G2, W i m G2 →
  (J.stop i G2 ∧ Q (.ref D) G2) ∨ (J.go i G2 ∧ ∃ N : Hp → Prop, (∀ G', N G' → ∃ m', m' < m ∧ W (i + 1) m' G') ∧ ∀ x G', J.yld i G2 x G' → g x (wipe σ vs) G' fun τ G3 => wipe τ vs = wipe σ vs ∧ tt τ G3 fun b G4 =>
    if b = true then tk τ G4 fun y G5 => tv τ G5 fun z G6 => putT y z D G6 N else N G4)
section
variable {X : Cx}
theorem dcT_core {pins : List (Addr × Obj)} {s : Shared} {σ : L2.St} {H : Hp} {Q : VK} {kx vx tg src : Expr} {ifs : List Expr} {sc : Scope} {own : List (Str × Nat)} {pos at_ : Pos} {wi : TI} {g : TG} {tt : TT} {tk tv : TE} {use : Option (Value → Sem Unit)} {Qf : Value → Shared → Prop}
    (calm : X.calm = true) (room : X.A.units < cLine) (nd : X.N.Nodup) (I : Inv X pins σ H s) (walks : PI X tg src wi) (blk : BlkOk X.N X.env.scope sc own)
    (hg : ∀ (z : Shared) (G : Hp) (C : Addr) (cl : List (Str × Addr)) (fp : List Addr), PG (X.blk z G sc (compEnvC sc cl C X.env) fp) tg g) (ht : ∀ (z : Shared) (G : Hp) (C : Addr) (cl : List (Str × Addr)) (fp : List Addr), PTs (X.blk z G sc (compEnvC sc cl C X.env) fp) ifs tt)
    (hk : ∀ (z : Shared) (G : Hp) (C : Addr) (cl : List (Str × Addr)) (fp : List Addr), PE (X.blk z G sc (compEnvC sc cl C X.env) fp) kx tk) (hv : ∀ (z : Shared) (G : Hp) (C : Addr) (cl : List (Str × Addr)) (fp : List Addr), PE (X.blk z G sc (compEnvC sc cl C X.env) fp) vx tv)
    (plain : ∀ x, foldedSetIterable src X.env x = pure x) (h : tDcT wi g tt tk tv (own.map (·.2)) σ H Q)
    (back : ∀ D C z m G, Inv X pins σ G z → Q (.ref D) G → z.heap.Ns C m → FpOk X pins G C → compPost (model X.prog X.w) X.A X.xe use Qf (.ref D) C (.ok .next) z) :
    wpAny (model X.prog X.w) X.A (comprehension (.DictComp kx vx [⟨tg, src, ifs, 0⟩] sc pos) sc X.env at_ newDict false (eval src X.env) use) Qf X.xe s := by
  have clo : ∀ y ∈ sc.names, y.2 = .free → ∃ c, X.env.cells.lookup y.1 = some c := fun y hy e => (blk.free y hy e).elim (fun k => I.ok.has _ (.inl k)) fun k => I.ok.has _ (.inr k)
  refine wpAny_comprehension_free (use := use) rfl plain (closure_ok clo) blk.kind (fun y hy e => by rw [blk.uniq y hy, e]) (thn (walks.run pins s σ H _ I h) fun xv sa ha => thn ha fun itv sb hb => ?_)
  obtain ⟨it, fp, tn, J, Hb, rfl, Ib, T, tb, fb, ask⟩ := hb
  refine wpAny_newObj_type (newEnv_comp ?_)
  have youngD : Hb sb.heap.objs.size = none := Ib.hok.fresh (Nat.le_refl _)
  obtain ⟨W, ⟨m0, w0⟩, turn⟩ := ask sb.heap.objs.size youngD
  generalize eD : sb.heap.objs.size = D at youngD w0 turn
  obtain ⟨sc0, esc0⟩ : ∃ z : Shared, z = { sb with heap := sb.heap.push { cls := .type "dict", data := .dict #[] } } := ⟨_, rfl⟩
  have hpc : sc0.heap = sb.heap.push { cls := .type "dict", data := .dict #[] } := congrArg Shared.heap esc0
  have older : ∀ b o, sb.heap.get? b = some o → sc0.heap.get? b = some o := fun b o e => hpc ▸ Heap.get?_push_of_some _ e
  obtain ⟨Hc, eHc⟩ : ∃ G : Hp, G = upd Hb D (.dT []) := ⟨_, rfl⟩
  have Ic : Inv X pins σ Hc sc0 := by
    subst esc0 eHc eD
    exact Ib.laid (t' := sb.toks) (fun b o e => Heap.get?_push_of_some _ e) (Nat.le_refl _) (dt_empty sb.heap Ib.big)
  have inside : ∀ b ∈ fp, b < sb.heap.objs.size := fun b hb => (T.obj _ _ tb b hb).elim fun o q => Heap.lt_size q.1
  have okc : ∀ b ∈ fp, FpOk X pins Hc b ∧ b < sc0.heap.objs.size := fun b hb => by
    have lt := inside b hb
    have nb : b ≠ D := eD ▸ Nat.ne_of_lt lt
    exact ⟨⟨by rw [eHc, upd_ne nb]; exact (fb b hb).1, (fb b hb).2⟩, by rw [hpc, Heap.size_push]; exact Nat.lt_succ_of_lt lt⟩
  have tc : tn 0 sc0.heap := T.keep _ _ _ tb fun b _ o e => older b o e
  have Id := block_start Ic blk nd okc
  rw [← eHc] at w0
  obtain ⟨cl, ecl⟩ : ∃ c, c = cellsFrom (sc0.heap.objs.size + 1) sc.names (cloFrom X.env.cells sc.names []) := ⟨_, rfl⟩
  rw [← ecl] at Id
  obtain ⟨ce, ece⟩ : ∃ c, c = compEnvC sc cl sc0.heap.objs.size X.env := ⟨_, rfl⟩
  have g0 := hg sc0 Hc sc0.heap.objs.size cl fp
  have t0 := ht sc0 Hc sc0.heap.objs.size cl fp
  have k0 := hk sc0 Hc sc0.heap.objs.size cl fp
  have v0 := hv sc0 Hc sc0.heap.objs.size cl fp
  rw [← ece] at Id g0 t0 k0 v0
  have locs : ce.locals = sc0.heap.objs.size := by rw [ece]; rfl
  obtain ⟨sd, esd⟩ : ∃ z : Shared, z = { sc0 with heap := pushCells (sc0.heap.push { cls := .type "dict", data := .dict #[] }) sc.names } := ⟨_, rfl⟩
  rw [← esd] at Id
  have td : tn 0 sd.heap := T.keep _ _ _ tc fun b _ o e => by rw [esd]; exact pushCells_keeps _ _ _ _ (Heap.get?_push_of_some _ e)
  have noFp : ∀ b ∈ fp, Hc b = none := fun b hb => (okc b hb).1.1
  have still : ∀ {τ : L2.St} {G : Hp} {z : Shared}, Inv (X.blk sc0 Hc sc ce fp) [] τ G z → (∀ b ∈ fp, G b = none) → ∀ b ∈ fp, FpOk (X.blk sc0 Hc sc ce fp) [] G b := fun {τ G z} J0 no b hb =>
    ⟨no b hb, (J0.ok.exf b hb).1, J0.ok.exfs b hb, .inl hb, fun x c e => (J0.ok.exf b hb).2 x c e, fun p hp => absurd (show p ∈ ([] : List (Addr × Obj)) ++ [] from hp) (by simp)⟩
  suffices loop : codeAny (model X.prog X.w) X.A (.compLoop (.DictComp kx vx [⟨tg, src, ifs, 0⟩] sc pos) 0 (.ref it) (.ref D) ce) (compPost (model X.prog X.w) X.A X.xe use Qf (.ref D) sc0.heap.objs.size) sd by
    have fin := codeAny_compStart_dict loop (T.self X.A 0 _ _ _ td loop)
    subst ece ecl esd eHc esc0 eD
    exact fin
  refine compLoop_anyD (fun n z => ∃ i G, Inv (X.blk sc0 Hc sc ce fp) [] (wipe σ (own.map (·.2))) G z ∧ tn i z.heap ∧ (∀ b ∈ fp, G b = none) ∧ W i n G) ?_ m0 ⟨0, Hc, Id, td, noFp, w0⟩
  rintro n z1 ⟨i, G1, I1, t1, n1, w1⟩
  rcases turn i n G1 w1 with ⟨stop, over⟩ | ⟨goes, N, dec, step⟩
  · refine thnF (T.done (X.blk sc0 Hc sc ce fp) rfl rfl rfl calm i [] z1 _ G1 (fun _ _ => False) I1 (still I1 n1) t1 stop) fun r z2 ⟨er, I2⟩ => ?_
    subst er
    have Iz : Inv X pins σ G1 z2 := Ic.call' (ch := fp) I2.os I2.base I2.hok I2.bare fun b hb => ⟨(okc b hb).1.2.2.2.1, (okc b hb).1.2.1, (okc b hb).1.2.2.2.2.1, (okc b hb).1.2.2.2.2.2⟩
    have noC : G1 sc0.heap.objs.size = none := locs ▸ (show G1 ce.locals = none from I2.free)
    obtain ⟨m, hns, _⟩ := I2.loc
    exact back D sc0.heap.objs.size z2 m G1 Iz over (locs ▸ (show z2.heap.Ns ce.locals m from hns)) (Ic.fpOk (Nat.le_refl _) noC)
  · refine thnF (T.item (X.blk sc0 Hc sc ce fp) rfl rfl rfl calm i [] z1 _ G1 (fun _ _ => False) I1 (still I1 n1) t1 goes) fun r z2 ⟨u, er, h2⟩ => ?_
    subst er
    refine thnF h2 fun _ z3 ⟨x, G3, I3, r3, y3, t3, n3⟩ => ?_
    have I3p := I3.pinned (still I3 n3) (T.obj _ _ t3)
    refine thnF (g0.run _ z3 _ G3 x u _ I3p r3 (step x G3 y3)) fun _ z4 ⟨τ, G4, I4, wp, h4⟩ => ?_
    refine thnF (t0.run _ z4 τ G4 _ I4 h4) fun b z5 ⟨G5, I5, h5⟩ => ?_
    have next : ∀ {z : Shared} {G : Hp}, Inv (X.blk sc0 Hc sc ce fp) ([] ++ pinsAt fp z3.heap) τ G z → N G → ∃ m, m < n ∧ ∃ j G', Inv (X.blk sc0 Hc sc ce fp) [] (wipe σ (own.map (·.2))) G' z ∧ tn j z.heap ∧ (∀ b ∈ fp, G' b = none) ∧ W j m G' := fun {z G} J0 nx => by
      obtain ⟨m', lt, w2⟩ := dec G nx
      have held : ∀ b ∈ fp, ∀ o, z3.heap.get? b = some o → z.heap.get? b = some o ∧ G b = none := fun b hb o e => by
        have q := J0.pin (b, o) (List.mem_append_right _ (List.mem_append_right _ (mem_pinsAt hb e)))
        exact ⟨q.1, q.2.1⟩
      refine ⟨m', lt, i + 1, G, (J0.unpinned (pins := [])).weak (by rw [← wp, wipe_length]) (fun j v e => (wipe_some (wp.symm ▸ e)).1), T.keep _ _ _ t3 fun b hb o e => (held b hb o e).1, fun b hb => ?_, w2⟩
      obtain ⟨o, e, _⟩ := T.obj _ _ t3 b hb
      exact (held b hb o e).2
    have h5 : if b = true then (tk τ G5 fun y G6 => tv τ G6 fun z G7 => putT y z D G7 N) else N G5 := h5
    by_cases yes : b = true
    · subst yes
      rw [if_pos rfl] at h5 ⊢
      refine thnF (k0.run _ z5 τ G5 _ I5 h5) fun uk z6 ⟨yk, G6, I6, r6, h6⟩ => ?_
      refine thnF (v0.run _ z6 τ G6 _ I6 h6) fun uv z7 ⟨yv, G7, I7, r7, h7⟩ => ?_
      exact put_in (Y := X.blk sc0 Hc sc ce fp) room I7 r6 r7 h7 fun z8 G8 I8 nx => next I8 nx
    · rw [if_neg yes] at h5 ⊢
      exact next I5 h5
theorem pe_dcT {kx vx tg src : Expr} {ifs : List Expr} {sc : Scope} {own : List (Str × Nat)} {pos : Pos} {wi : TI} {g : TG} {tt : TT} {tk tv : TE} (calm : X.calm = true) (room : X.A.units < cLine) (nd : X.N.Nodup) (walks : PI X tg src wi) (blk : BlkOk X.N X.env.scope sc own)
    (hg : ∀ (z : Shared) (G : Hp) (C : Addr) (cl : List (Str × Addr)) (fp : List Addr), PG (X.blk z G sc (compEnvC sc cl C X.env) fp) tg g) (ht : ∀ (z : Shared) (G : Hp) (C : Addr) (cl : List (Str × Addr)) (fp : List Addr), PTs (X.blk z G sc (compEnvC sc cl C X.env) fp) ifs tt)
    (hk : ∀ (z : Shared) (G : Hp) (C : Addr) (cl : List (Str × Addr)) (fp : List Addr), PE (X.blk z G sc (compEnvC sc cl C X.env) fp) kx tk) (hv : ∀ (z : Shared) (G : Hp) (C : Addr) (cl : List (Str × Addr)) (fp : List Addr), PE (X.blk z G sc (compEnvC sc cl C X.env) fp) vx tv)
    (plain : ∀ x, foldedSetIterable src X.env x = pure x := by intro _; rfl) : PE X (.DictComp kx vx [⟨tg, src, ifs, 0⟩] sc pos) (tDcT wi g tt tk tv (own.map (·.2))) := by
  refine ⟨fun pins s σ H Q I h => ?_⟩
  rw [arm_eval_DictComp]
  refine dcT_core calm room nd I walks blk hg ht hk hv plain h fun D C z m G J0 q ns fp => ⟨m, ns, fun hp gone => ?_⟩
  exact ⟨.ref D, G, J0.turned (t' := z.toks) (fun b o hb e => (gone.2 b hb).trans e) fp.1 fp.2.1 fp.2.2.2.1 fp.2.2.2.2.1 fp.2.2.2.2.2, rfl, q⟩
end
end My
namespace My
open PySem PySem.Spec PyProof.Rows L2
section
variable {J : It} {n : Nat} {G : Hp → Prop} {Y : Nat → Hp → V → Hp → Prop}
/-- over a walk, no test: P by the turn and the heap -/
theorem dcT_it (w : Walk J n G Y) {g : TG} {tk tv : TE} {vs : List Nat} {σ : L2.St} {H1 : Hp} {D : Addr} {Qd : Hp → Prop} (P : Nat → Hp → Prop) (h0 : P 0 (upd H1 D (.dT []))) (hG : ∀ i H, i ≤ n → P i H → G H)
    (turn : ∀ i x H H', i < n → P i H → Y i H x H' → g x (wipe σ vs) H' fun τ H2 => wipe τ vs = wipe σ vs ∧ tk τ H2 fun y H3 => tv τ H3 fun z H4 => putT y z D H4 (P (i + 1))) (hd : ∀ H, P n H → Qd H) :
    ∃ W : Nat → Nat → Hp → Prop, (∃ m, W 0 m (upd H1 D (.dT []))) ∧ ∀ i m G2, W i m G2 →
      (J.stop i G2 ∧ Qd G2) ∨ (J.go i G2 ∧ ∃ N : Hp → Prop, (∀ G', N G' → ∃ m', m' < m ∧ W (i + 1) m' G') ∧ ∀ x G', J.yld i G2 x G' → g x (wipe σ vs) G' fun τ G3 => wipe τ vs = wipe σ vs ∧ tYes τ G3 fun b G4 =>
        if b = true then tk τ G4 fun y G5 => tv τ G5 fun z G6 => putT y z D G6 N else N G4) := by
  refine ⟨fun i m H => i ≤ n ∧ m = n - i ∧ P i H, ⟨n, Nat.zero_le _, rfl, h0⟩, ?_⟩
  rintro i m H ⟨hi, rfl, p⟩
  rcases Nat.lt_or_ge i n with lt | ge
  · refine .inr ⟨w.goes i H lt (hG i H hi p), P (i + 1), fun H' q => ⟨n - (i + 1), by omega, lt, rfl, q⟩, fun x H' y => ?_⟩
    exact turn i x H H' lt p (w.yields i H x H' lt (hG i H hi p) y)
  · obtain rfl : i = n := by omega
    exact .inl ⟨w.stops H (hG i H hi p), hd H p⟩
end
end My
namespace My
open PySem PySem.Spec PyProof.Rows L2
section
variable {J J1 : It} {n n1 : Nat} {G G1 : Hp → Prop} {Y Y1 : Nat → Hp → V → Hp → Prop}
/-- the outer walk of a comprehension with two for, no test at the outer one -/
theorem lc2_it (w : Walk J n G Y) {g g1 : TG} {tt1 : TT} {te : TE} {wi1 : TI} {vs vs1 : List Nat} {σ : L2.St} {H1 : Hp} {D : Addr} {Qd : Hp → Prop} (P : Nat → Hp → Prop) (h0 : P 0 (upd H1 D (.lst []))) (hG : ∀ i H, i ≤ n → P i H → G H)
    (turn : ∀ i x H H', i < n → P i H → Y i H x H' → g x (wipe σ vs) H' fun τ H2 => wipe τ vs = wipe σ vs ∧ wi1 τ H2 fun J1 H3 => ∃ W1 : Nat → Nat → Hp → Prop, (∃ m, W1 0 m H3) ∧ ∀ j k H, W1 j k H →
      (J1.stop j H ∧ P (i + 1) H) ∨ (J1.go j H ∧ ∃ N1 : Hp → Prop, (∀ H', N1 H' → ∃ k', k' < k ∧ W1 (j + 1) k' H') ∧ ∀ x H', J1.yld j H x H' → g1 x (wipe τ vs1) H' fun τ3 H5 => wipe τ3 vs1 = wipe τ vs1 ∧ tt1 τ3 H5 fun b H6 =>
        if b = true then te τ3 H6 fun y H7 => ∃ acc, H7 D = some (.lst acc) ∧ acc.length < sizeLine ∧ N1 (upd H7 D (.lst (acc ++ [y]))) else N1 H6)) (hd : ∀ H, P n H → Qd H) :
    ∃ W : Nat → Nat → Hp → Prop, (∃ m, W 0 m (upd H1 D (.lst []))) ∧ ∀ i m G2, W i m G2 →
      (J.stop i G2 ∧ Qd G2) ∨ (J.go i G2 ∧ ∃ N : Hp → Prop, (∀ G', N G' → ∃ m', m' < m ∧ W (i + 1) m' G') ∧ ∀ x G', J.yld i G2 x G' → g x (wipe σ vs) G' fun τ G3 => wipe τ vs = wipe σ vs ∧ tYes τ G3 fun b G4 =>
        if b = true then wi1 τ G4 fun J1 H4 => ∃ W1 : Nat → Nat → Hp → Prop, (∃ m, W1 0 m H4) ∧ ∀ j k H, W1 j k H →
          (J1.stop j H ∧ N H) ∨ (J1.go j H ∧ ∃ N1 : Hp → Prop, (∀ H', N1 H' → ∃ k', k' < k ∧ W1 (j + 1) k' H') ∧ ∀ x H', J1.yld j H x H' → g1 x (wipe τ vs1) H' fun τ3 H5 => wipe τ3 vs1 = wipe τ vs1 ∧ tt1 τ3 H5 fun b H6 =>
            if b = true then te τ3 H6 fun y H7 => ∃ acc, H7 D = some (.lst acc) ∧ acc.length < sizeLine ∧ N1 (upd H7 D (.lst (acc ++ [y]))) else N1 H6)
        else N G4) := by
  refine ⟨fun i m H => i ≤ n ∧ m = n - i ∧ P i H, ⟨n, Nat.zero_le _, rfl, h0⟩, ?_⟩
  rintro i m H ⟨hi, rfl, p⟩
  rcases Nat.lt_or_ge i n with lt | ge
  · refine .inr ⟨w.goes i H lt (hG i H hi p), P (i + 1), fun H' q => ⟨n - (i + 1), by omega, lt, rfl, q⟩, fun x H' y => ?_⟩
    exact turn i x H H' lt p (w.yields i H x H' lt (hG i H hi p) y)
  · obtain rfl : i = n := by omega
    exact .inl ⟨w.stops H (hG i H hi p), hd H p⟩
/-- the inner walk, no test -/
theorem lc2_in (w : Walk J1 n1 G1 Y1) {g1 : TG} {te : TE} {vs1 : List Nat} {τ : L2.St} {H3 : Hp} {D : Addr} {Nx : Hp → Prop} (P : Nat → Hp → Prop) (h0 : P 0 H3) (hG : ∀ j H, j ≤ n1 → P j H → G1 H)
    (turn : ∀ j x H H', j < n1 → P j H → Y1 j H x H' → g1 x (wipe τ vs1) H' fun τ3 H5 => wipe τ3 vs1 = wipe τ vs1 ∧ te τ3 H5 fun y H7 => ∃ acc, H7 D = some (.lst acc) ∧ acc.length < sizeLine ∧ P (j + 1) (upd H7 D (.lst (acc ++ [y])))) (hd : ∀ H, P n1 H → Nx H) :
    ∃ W1 : Nat → Nat → Hp → Prop, (∃ m, W1 0 m H3) ∧ ∀ j k H, W1 j k H →
      (J1.stop j H ∧ Nx H) ∨ (J1.go j H ∧ ∃ N1 : Hp → Prop, (∀ H', N1 H' → ∃ k', k' < k ∧ W1 (j + 1) k' H') ∧ ∀ x H', J1.yld j H x H' → g1 x (wipe τ vs1) H' fun τ3 H5 => wipe τ3 vs1 = wipe τ vs1 ∧ tYes τ3 H5 fun b H6 =>
        if b = true then te τ3 H6 fun y H7 => ∃ acc, H7 D = some (.lst acc) ∧ acc.length < sizeLine ∧ N1 (upd H7 D (.lst (acc ++ [y]))) else N1 H6) := by
  refine ⟨fun j k H => j ≤ n1 ∧ k = n1 - j ∧ P j H, ⟨n1, Nat.zero_le _, rfl, h0⟩, ?_⟩
  rintro j k H ⟨hj, rfl, p⟩
  rcases Nat.lt_or_ge j n1 with lt | ge
  · refine .inr ⟨w.goes j H lt (hG j H hj p), P (j + 1), fun H' q => ⟨n1 - (j + 1), by omega, lt, rfl, q⟩, fun x H' y => ?_⟩
    exact turn j x H H' lt p (w.yields j H x H' lt (hG j H hj p) y)
  · obtain rfl : j = n1 := by omega
    exact .inl ⟨w.stops H (hG j H hj p), hd H p⟩
end
end My
namespace My
open PySem PySem.Spec PyProof.Rows L2
/-- a list walked within a comprehension: the written part told -/
theorem pi_listC {X : Cx} {K : PySem.W.Frag} {e tg : Expr} {te : TE} (hK : X.K = K) (h : PE X e te) : PI X tg e (iList K te) := by
  subst hK
  exact pi_list h
end My
namespace My
open PySem PySem.Spec PyProof.Rows L2
/-! ### sorted(d): the keys are pairs of numbers -/
def keyP (c : Int × Int) : List Key := [Sum.inl c.1, Sum.inl c.2]
theorem perm_map_inv {α β : Type} {f : α → β} {l : List β} {m : List β} (h : l.Perm m) : ∀ xs : List α, m = xs.map f → ∃ ws : List α, ws.Perm xs ∧ l = ws.map f := by
  induction h with
  | nil => exact fun xs e => ⟨[], by cases xs with | nil => exact .nil | cons a r => simp at e, rfl⟩
  | cons x _ ih =>
    intro xs e
    cases xs with
    | nil => simp at e
    | cons a r =>
      rw [List.map_cons] at e
      obtain ⟨e1, e2⟩ := List.cons.inj e
      obtain ⟨ws, p, q⟩ := ih r e2
      exact ⟨a :: ws, .cons a p, by rw [List.map_cons, q, e1]⟩
  | swap x y l =>
    intro xs e
    match xs, e with
    | a :: b :: r, e =>
      rw [List.map_cons, List.map_cons] at e
      obtain ⟨e1, e2⟩ := List.cons.inj e
      obtain ⟨e3, e4⟩ := List.cons.inj e2
      exact ⟨b :: a :: r, .swap a b r, by rw [List.map_cons, List.map_cons, e1, e3, e4]⟩
  | trans _ _ ih1 ih2 =>
    intro xs e
    obtain ⟨ws, p, q⟩ := ih2 xs e
    obtain ⟨zs, p2, q2⟩ := ih1 ws q
    exact ⟨zs, p2.trans p, q2⟩
theorem keys_read {knd : HeapKind prog w (List Key)} {acc : Array Value} {es : Array DictEntry} {xs : List (List Key × Addr × Value)} (he : es.toList = xs.map (entryOfKey knd)) (it : ItemsOf (fun i v => ∃ en : DictEntry, es[i]? = some en ∧ v = en.key) acc es.size) :
    acc.toList = xs.map fun x => Value.ref x.2.1 := by
  have l1 : es.size = xs.length := by rw [← Array.length_toList, he, List.length_map]
  apply List.ext_getElem?
  intro j
  rw [List.getElem?_map]
  by_cases hj : j < xs.length
  · have ha : j < acc.toList.length := by rw [Array.length_toList, it.1, l1]; exact hj
    obtain ⟨en, h1, h2⟩ := it.2 j acc.toList[j] (by rw [← Array.getElem?_toList]; exact List.getElem?_eq_getElem ha)
    have h3 := entry_at he j
    rw [h1, List.getElem?_eq_getElem hj] at h3
    have h4 : en = entryOfKey knd xs[j] := Option.some.inj h3
    rw [List.getElem?_eq_getElem ha, List.getElem?_eq_getElem hj, h2, h4]
    rfl
  · rw [List.getElem?_eq_none (by rw [Array.length_toList, it.1, l1]; omega), List.getElem?_eq_none (by omega)]
    rfl
abbrev noStr : Nat → Bool := fun _ => false
theorem tups_of {h : Heap} : ∀ {bs : List Addr}, (∀ b ∈ bs, ∃ (x y : Int) (t u : Tok), IsTup h b #[.int x t, .int y u]) → ∃ fs, PyProof.Rows.TupsOf h noStr (bs.map Value.ref) fs
  | [], _ => ⟨[], .nil⟩
  | b :: r, hb => by
    obtain ⟨fs, k⟩ := tups_of (bs := r) fun c m => hb c (List.mem_cons_of_mem _ m)
    obtain ⟨x, y, t, u, o, h1, h2, n, h3⟩ := hb b List.mem_cons_self
    exact ⟨Value.int x t :: fs, .cons ⟨b, o, _, n, rfl, h1, h2, h3, rfl, fun _ => ⟨x, t, rfl⟩, fun z => nomatch z⟩ k⟩
theorem tup_key {h : Heap} {b : Addr} {x y : Int} {t u : Tok} (k : IsTup h b #[.int x t, .int y u]) : ∃ l, PyProof.Rows.G.tupKeyC h noStr (.ref b) = some l := by
  obtain ⟨o, h1, h2, n, h3⟩ := k
  refine ⟨[Sum.inl x, Sum.inl y], ?_⟩
  have e1 : PyProof.Rows.G.isTupObj h (.ref b) = true := by simp [PyProof.Rows.G.isTupObj, h1, h2]
  unfold PyProof.Rows.G.tupKeyC
  rw [if_pos e1]
  simp [tupKey, h1, h3, tupItems]
theorem kt_keys {H : Hp} : ∀ {kvs : List (List Key × V)} {xs : List (List Key × Addr × Value)}, KT H kvs xs → xs.map (·.1) = kvs.map (·.1) ∧ ∀ x ∈ xs, H x.2.1 = some (.tup (x.1.map kV))
  | _, _, .nil => ⟨rfl, fun _ m => nomatch m⟩
  | _, _, .cons (a := a) (b := b) h t => by
    obtain ⟨k1, k2⟩ := kt_keys t
    refine ⟨by rw [List.map_cons, List.map_cons, k1, h.1], fun x m => ?_⟩
    rcases List.mem_cons.mp m with rfl | m
    · rw [← h.1]
      exact h.2.1
    · exact k2 x m
theorem call_sortedK {X : Cx} (calm : X.calm = true) : CallR X (.builtin "sorted") (fun xs H Q => ∃ (d : Addr) (kvs : List (List Key × V)) (cs : List (Int × Int)), xs = [.ref d] ∧ H d = some (.dT kvs) ∧ kvs.map (·.1) = cs.map keyP ∧
    ∀ (p : Addr) (zs : List ((Int × Int) × Addr)), (zs.map (·.1)).Perm cs → H p = none → (∀ z ∈ zs, H z.2 = some (.tup [.int z.1.1, .int z.1.2])) → Q (.ref p) (upd H p (.lst (zs.map fun z => .ref z.2)))) := by
  intro pins s σ H xs us Q I r ask
  obtain ⟨d, kvs, cs, ex, hd, hc, go⟩ := ask
  subst ex
  obtain ⟨u, eu, rx⟩ := vals1 r
  subst eu
  cases rx
  obtain ⟨few, nosys, ks, kt, o, es, ep, ho, hx, hdt, he, _, _⟩ := dt_of I.hok hd
  have l1 : es.size = ks.length := by rw [← Array.length_toList, he, List.length_map]
  have l2 : kvs.length = ks.length := Paired.length kt
  refine Calls.call_function_entry kind_sorted plain_sorted entry_sorted (args_sorted1 _) ?_
  unfold Builtin.«sorted»
  refine wpAny_bind (m := checkCount "sorted" 1 1 _) (wpAny_pure (wpAny_bind ?_))
  refine PySem.W.kdu_collect (A := X.A.in1) (kdl_raw nosys hx hdt) (I.ok.hd calm) ho (by omega) fun h1 tk acc old its => ?_
  have I1 : Inv X pins σ H { s with heap := h1, toks := tk } := I.kept old
  have rd := keys_read he its
  have kx : ks.map (·.1) = cs.map keyP := by rw [← hc]; exact (kt_keys kt).1
  have lc : cs.length = ks.length := by have := congrArg List.length kx; rw [List.length_map, List.length_map] at this; exact this.symm
  have look : ∀ y ∈ cs.zip ks, y.2.1 = keyP y.1 ∧ H y.2.2.1 = some (.tup [.int y.1.1, .int y.1.2]) := fun y m => by
    obtain ⟨j, hj⟩ := List.getElem?_of_mem m
    obtain ⟨e1, e2⟩ := List.getElem?_zip_eq_some.mp hj
    have e3 := congrArg (fun l => l[j]?) kx
    simp only [List.getElem?_map, e1, e2, Option.map_some, Option.some.injEq] at e3
    refine ⟨e3, ?_⟩
    have e4 := (kt_keys kt).2 y.2 (List.mem_of_getElem? e2)
    rw [e3] at e4
    exact e4
  have objs : ∀ b ∈ ks.map (fun x => x.2.1), ∃ (x y : Int) (t u : Tok), IsTup h1 b #[.int x t, .int y u] := fun b m => by
    obtain ⟨x, mx, rfl⟩ := List.mem_map.mp m
    obtain ⟨j, hj⟩ := List.getElem?_of_mem mx
    have hlt : j < cs.length := by rw [lc]; exact (List.getElem?_eq_some_iff.mp hj).1
    have hz : (cs.zip ks)[j]? = some (cs[j], x) := List.getElem?_zip_eq_some.mpr ⟨List.getElem?_eq_getElem hlt, hj⟩
    obtain ⟨_, hx2⟩ := look _ (List.mem_of_getElem? hz)
    obtain ⟨_, it2, r2, tp⟩ := (show ObjOk X.prog X.w H h1 _ (.tup _) from I1.hok _ _ hx2)
    obtain ⟨w1, w2, rfl, ⟨t1, rfl⟩, ⟨t2, rfl⟩⟩ := vals2 r2
    exact ⟨_, _, t1, t2, tp⟩
  have rd2 : acc.toList = (ks.map fun x => x.2.1).map Value.ref := by rw [rd, List.map_map]; rfl
  have rd3 : acc.toList = (cs.zip ks).map fun y => Value.ref y.2.2.1 := by
    have e : (cs.zip ks).map (·.2) = ks := List.map_snd_zip (by omega)
    rw [rd]
    conv => lhs; rw [← e]
    rw [List.map_map]
    rfl
  refine wpAny_bind (wpAny_newList ?_ (by rw [Array.length_toList, its.1]; omega))
  have at_ : (h1.push (seqObj "list" acc.toList.toArray 0)).get? h1.objs.size = some (seqObj "list" acc.toList.toArray 0) := Heap.get?_push_size _ rfl
  show wpAny _ _ _ _ _ ({ s with heap := h1.push (seqObj "list" acc.toList.toArray 0), toks := tk } : Shared)
  obtain ⟨fs, tf⟩ := tups_of objs
  have kp : PyProof.Rows.G.KeepsTups h1 (h1.push (seqObj "list" acc.toList.toArray 0)) := PyProof.Rows.G.KeepsTups.push _ _
  refine wpAny_bind (wpAny_holding (wpAny_call_entry slot_list_sort ⟨_, at_, rfl⟩ entry_list_sort (PyProof.Rows.G.list_sort_tups (shape := noStr) (s := { s with heap := h1.push (seqObj "list" acc.toList.toArray 0), toks := tk }) at_
    (show PyProof.Rows.TupsOf _ noStr acc.toList fs from by have e := PyProof.Rows.G.TupsOf.keep kp tf; rwa [← rd2] at e) (fun v m => ?_) (by rw [Array.length_toList, its.1]; omega) fun st pm so _ => ⟨_, rfl, ?_⟩) (args_list_sort _)))
  · rw [rd2] at m
    obtain ⟨b, mb, rfl⟩ := List.mem_map.mp m
    obtain ⟨x, y, t, u, k⟩ := objs b mb
    exact tup_key (k.keeps fun _ _ e => Heap.get?_push_of_some _ e)
  · have pl : ((arrOf st).map (·.2)).toList.Perm acc.toList := by
      have e1 := (Array.perm_iff_toList_perm.mp pm).map (·.2)
      rw [pairsOf_toList, List.map_snd_zip (Nat.le_refl _)] at e1
      rw [Array.toList_map]
      exact e1
    obtain ⟨ws, pw, ew⟩ := perm_map_inv pl _ rd3
    obtain ⟨cap, k4⟩ := sortedHeap_at (vs := acc.toList) (out := (arrOf st).map (·.2)) at_
    have young : ∀ b u, h1.get? b = some u → (sortedHeap (h1.push (seqObj "list" acc.toList.toArray 0)) h1.objs.size acc.toList ((arrOf st).map (·.2))).get? b = some u := fun b u e => by
      have lt : b < h1.objs.size := Heap.lt_size e
      rw [sortedHeap_old (Nat.ne_of_lt lt) (by rw [size_push']; exact Nat.lt_succ_of_lt lt)]
      exact Heap.get?_push_of_some _ e
    have vr : Vals (ws.map fun y => V.ref y.2.2.1) ((arrOf st).map (·.2)).toList := by
      rw [ew]
      clear pw ew
      induction ws with
      | nil => exact .nil
      | cons y r ih => exact .cons rfl ih
    have len : (ws.map fun y => V.ref y.2.2.1).length ≤ sizeLine := by
      have e1 := pw.length_eq
      have e2 := List.length_zip (l₁ := cs) (l₂ := ks)
      rw [List.length_map]
      omega
    have gz := go h1.objs.size (ws.map fun y => (y.1, y.2.2.1)) (by
      have e1 := pw.map (·.1)
      rw [List.map_fst_zip (by omega)] at e1
      rw [List.map_map]
      exact e1) (I1.hok.fresh (Nat.le_refl _)) (fun z m => by
        obtain ⟨y, my, rfl⟩ := List.mem_map.mp m
        exact (look y (pw.mem_iff.mp my)).2)
    rw [List.map_map] at gz
    have gz : Q (V.ref h1.objs.size) (upd H h1.objs.size (.lst (ws.map fun y : (Int × Int) × List Key × Addr × Value => V.ref y.2.2.1))) := gz
    exact wpAny_pure ⟨_, rfl, .ref h1.objs.size, upd H h1.objs.size (.lst (ws.map fun y : (Int × Int) × List Key × Addr × Value => V.ref y.2.2.1)), I1.laid (t' := tk) young (Nat.le_refl _)
      (show ObjOk X.prog X.w _ _ _ (.lst (ws.map fun y => V.ref y.2.2.1)) from ⟨len, ((arrOf st).map (·.2)).toList, cap, vr, by rw [Array.toArray_toList]; exact k4⟩), rfl, gz⟩
end My
namespace My
open PySem PySem.Spec PyProof.Rows L2
/-! ### sorted(text) -/
def signs (z : Str) : List Str := z.cps.toList.map fun c => ⟨#[c]⟩
theorem call_sortedT {X : Cx} (calm : X.calm = true) : CallR X (.builtin "sorted") (fun xs H Q => ∃ z : Str, xs = [.str z] ∧ z.cps.size < 64 ∧ ∀ ys p, ys.Perm (signs z) → sortedS ys = true → H p = none → Q (.ref p) (upd H p (.lst (ys.map V.str)))) := by
  intro pins s σ H xs us Q I r ask
  obtain ⟨z, ex, few, go⟩ := ask
  subst ex
  obtain ⟨u, rfl, ru⟩ := vals1 r
  obtain ⟨t, rfl⟩ := ru
  have room : z.cps.size ≤ sizeLine := by rw [sizeLine_eq]; omega
  refine Calls.call_function_entry kind_sorted plain_sorted entry_sorted (args_sorted1 _) ?_
  unfold Builtin.«sorted»
  refine wpAny_bind (m := checkCount "sorted" 1 1 _) (wpAny_pure (wpAny_bind ?_))
  refine wpAny_collect_str (A := X.A.in1) (I.ok.hd calm) z t (fun s1 acc old hg hdr hos its => ?_) room
  obtain ⟨h1, g1, d1, t1, o1⟩ := s1
  obtain rfl : g1 = s.gens := hg
  obtain rfl : d1 = s.drawn := hdr
  obtain rfl : o1 = s.os := hos
  have I1 : Inv X pins σ H { s with heap := h1, toks := t1 } := I.kept old
  have many : acc.toList.length = (signs z).length := by
    unfold signs
    rw [Array.length_toList, its.1, List.length_map, Array.length_toList]
  have all : StrsAre acc.toList (signs z) := strs_at many fun j v e => by
    obtain ⟨c, tt, e1, e2⟩ := its.2 j v (by rw [← Array.getElem?_toList]; exact e)
    refine ⟨⟨#[c]⟩, tt, ?_, e2⟩
    unfold signs
    rw [List.getElem?_map, Array.getElem?_toList, e1]
    rfl
  have few2 : acc.toList.length < 64 := by rw [Array.length_toList, its.1]; exact few
  have at_ : (h1.push (seqObj "list" acc.toList.toArray 0)).get? h1.objs.size = some (seqObj "list" acc.toList.toArray 0) := Heap.get?_push_size _ rfl
  refine wpAny_bind (wpAny_newList ?_ (by rw [sizeLine_eq]; omega))
  show wpAny _ _ _ _ _ ({ s with heap := h1.push (seqObj "list" acc.toList.toArray 0), toks := t1 } : Shared)
  refine wpAny_bind (wpAny_holding (wpAny_call_entry slot_list_sort ⟨_, at_, rfl⟩ entry_list_sort (list_sort_treeK strKind_oneLt (s := { s with heap := h1.push (seqObj "list" acc.toList.toArray 0), toks := t1 }) at_ all.keysOf
    (fun a b l e => keyKind_strs (by rw [← e]; exact all)) few2 fun st pm so => ⟨_, rfl, ?_⟩) (args_list_sort _)))
  obtain ⟨ys, k1, k2, k3⟩ := sorted_out_str all pm so
  obtain ⟨ep, k4⟩ := sortedHeap_at (vs := acc.toList) (out := (arrOf st).map (·.2)) at_
  have fit : (ys.map V.str).length ≤ sizeLine := by
    have := k2.length_eq
    rw [List.length_map, this, ← many, sizeLine_eq]
    omega
  have young : ∀ b u, h1.get? b = some u → (sortedHeap (h1.push (seqObj "list" acc.toList.toArray 0)) h1.objs.size acc.toList ((arrOf st).map (·.2))).get? b = some u := fun b u e => by
    have lt : b < h1.objs.size := Heap.lt_size e
    rw [sortedHeap_old (Nat.ne_of_lt lt) (by rw [size_push']; exact Nat.lt_succ_of_lt lt)]
    exact Heap.get?_push_of_some _ e
  exact wpAny_pure ⟨_, rfl, .ref h1.objs.size, upd H h1.objs.size (.lst (ys.map V.str)), I1.laid (t' := t1) young (Nat.le_refl _)
    (show ObjOk X.prog X.w _ _ _ (.lst (ys.map V.str)) from ⟨fit, ((arrOf st).map (·.2)).toList, ep, vals_of_strs k1, by rw [Array.toArray_toList]; exact k4⟩), rfl, go ys _ k2 k3 (I1.hok.fresh (Nat.le_refl _))⟩
/-! ### text[::-1] -/
def revS (z : Str) : Str := ⟨z.cps.toList.reverse.toArray⟩
theorem revS_size (z : Str) : (revS z).cps.size = z.cps.size := by
  show z.cps.toList.reverse.toArray.size = _
  rw [List.size_toArray, List.length_reverse, Array.length_toList]
theorem rev_picked (z : Str) (t : Tok) : (slicePicked z none none (some (-1, t))).filterMap (z.cps[·]?) = z.cps.toList.reverse := by
  have e : slicePicked z none none (some (-1, t)) = sliceRange ((z.length : Int) - 1) (-1) (-1) := rfl
  rw [e, PySem.W.krv_sliceRange, PySem.W.krv_range, List.filterMap_reverse]
  exact congrArg List.reverse (PySem.W.krv_all z.cps)
def tRevS (te : TE) : TE := fun σ H Q => te σ H fun x H1 => ∃ z, x = .str z ∧ z.length ≤ sizeLine ∧ Q (.str (revS z)) H1
theorem pe_revS {X : Cx} {e : Expr} {te : TE} {k : Nat} {p1 p2 p3 pos : Pos} (he : PE X e te) : PE X (.Subscript e (.Slice none none (some (.UnaryOp .USub (.Constant (.int 1) k p1) p2)) p3) pos) (tRevS te) := by
  have step : PO X (some (.UnaryOp .USub (.Constant (.int 1) k p1) p2)) (tPart (tUn (rU fun i => .int (-i)) (tC (.int 1)))) := po_some (pe_un un_neg pe_int)
  refine ⟨fun pins s σ H Q I ask => Subscript_ (thn (he.run pins s σ H _ I ask) fun v sa ⟨x, Ha, Ia, ra, z, ex, fit, go⟩ => ?_)⟩
  subst ex
  obtain ⟨t, rfl⟩ := ra
  refine wpAny_Slice (thn (po_none.run pins sa σ Ha (fun o G => o = none ∧ G = Ha) Ia ⟨rfl, rfl⟩) fun v1 sb ⟨o1, Hb, Ib, q1, w1, w2⟩ => ?_)
  subst w1 w2
  refine thn (po_none.run pins sb σ Hb (fun o G => o = none ∧ G = Hb) Ib ⟨rfl, rfl⟩) fun v2 sc ⟨o2, Hc, Ic, q2, w1, w2⟩ => ?_
  subst w1 w2
  refine thn (step.run pins sc σ Hc (fun o G => o = some (-1) ∧ G = Hc) Ic ⟨1, rfl, -1, rfl, rfl, rfl⟩) fun v3 sd ⟨o3, Hd, Id, q3, w1, w2⟩ => ?_
  subst w1 w2
  obtain ⟨l1, rfl, m1⟩ := IsPart.raw q1
  obtain ⟨l2, rfl, m2⟩ := IsPart.raw q2
  obtain ⟨l3, rfl, m3⟩ := IsPart.raw q3
  obtain rfl : l1 = none := by
    cases l1 with
    | none => rfl
    | some a => cases m1
  obtain rfl : l2 = none := by
    cases l2 with
    | none => rfl
    | some a => cases m2
  obtain ⟨⟨i3, t3⟩, rfl⟩ : ∃ a, l3 = some a := by
    cases l3 with
    | none => cases m3
    | some a => exact ⟨a, rfl⟩
  obtain rfl : i3 = -1 := Option.some.inj m3
  have Ie : Inv X pins σ Hd { sd with heap := sd.heap.push { cls := .type "slice", data := .fields #[partValue none, partValue none, partValue (some (-1, t3))] } } := Id.kept (t' := sd.toks) fun b ob q => Heap.get?_push_of_some _ q
  refine tail_any (ops := [.str z t, .ref sd.heap.objs.size]) (typeIs_str _ z t) (F.slot_str_getitem.lookup) ?_ (by with_unfolding_all rfl)
  refine wpAny_getItem_str_slice (l := none) (u := none) (st := some (-1, t3)) ⟨_, Heap.get?_push_size _ rfl, rfl, rfl⟩ rfl ?_
  show Made.post (if ((-1 : Int) == 1 && (slicePicked z none none (some (-1, t3))).length == z.length) = true then Made.val (.str z t) else Made.str ⟨((slicePicked z none none (some (-1, t3))).filterMap (z.cps[·]?)).toArray⟩) _ _
  rw [if_neg (by rw [show ((-1 : Int) == 1) = false from rfl, Bool.false_and]; decide), rev_picked]
  exact ⟨by show (revS z).cps.size ≤ _; rw [revS_size]; exact fit, .str (revS z), Hd, Ie.tok _, ⟨_, rfl⟩, go⟩
/-! ### sum and min of a tuple of numbers -/
section
variable {X : Cx}
theorem tup_iter {A : Around} {E : Value → Shared → Prop} {s : Shared} {prog : Program} {w : World} {l : Addr} {its : Array Value} {Q : Value → Shared → Prop} (hl : s.heap.IsTuple l its)
    (h : ∀ sb : Shared, sb = { s with heap := s.heap.push { cls := .type "tuple_iterator", data := .fields #[.ref l, .int 0 0] } } → (sb.heap.IsTupleIter s.heap.objs.size l 0 ∧ sb.heap.IsTuple l its) → (∀ b ∈ [s.heap.objs.size, l], b < sb.heap.objs.size) → l ≠ s.heap.objs.size →
      (∀ (H' : Heap), (∀ b o, b ∉ [s.heap.objs.size] → sb.heap.get? b = some o → H'.get? b = some o) → ∀ b o, s.heap.get? b = some o → H'.get? b = some o) → Q (.ref s.heap.objs.size) sb) : wpAny (model prog w) A (pyIter (.ref l)) Q E s := by
  have lt : l < s.heap.objs.size := by
    obtain ⟨_, e, _⟩ := hl
    exact Heap.lt_size e
  refine wpAny_pyIter_tuple hl (h _ rfl ⟨⟨_, Heap.get?_push_size _ rfl, rfl, rfl⟩, hl.push _⟩ (fun b m => ?_) (Nat.ne_of_lt lt) fun H' k b o e => k b o (fun m => Nat.ne_of_lt (Heap.lt_size e) (List.mem_singleton.mp m)) (Heap.get?_push_of_some _ e))
  show b < (s.heap.push _).objs.size
  rw [Heap.size_push]
  rcases List.mem_cons.mp m with rfl | m
  · exact Nat.lt_succ_self _
  · rw [List.mem_singleton.mp m]
    exact Nat.lt_succ_of_lt lt
def rSumT (K : PySem.W.Frag) : List V → Hp → VK → Prop := fun vs H Q => ∃ (a : Addr) (ns : List Int), vs = [V.ref a] ∧ (SqL K H a (ns.map V.int) ∨ SqT K H a (ns.map V.int)) ∧ Q (.int ns.sum) H
theorem cr_sumT (calm : X.calm = true) : CallR X (.builtin "sum") (rSumT X.K) := by
  intro pins s σ H vs us Q I r ask
  obtain ⟨a, ns, rfl, hs | hs, go⟩ := ask
  · exact cr_sum calm pins s σ H _ us Q I r ⟨a, ns, rfl, hs, go⟩
  obtain ⟨its, rv, tp, _⟩ := I.tuple hs
  rw [Vals.ref1 r]
  have nums := rv.ints
  obtain ⟨xs, e⟩ := nums.allInts.items
  have vals : xs.toList.map (·.1) = ns := by rw [← nums_intItems, ← e]; exact nums.numsOf
  rw [e] at tp
  refine call_sum_walkG (tup_iter (its := intItems xs) tp fun sb eb st fp ne keep => ?_)
  subst eb
  refine ⟨_, _, _, _, _, _, numAt xs, rfl, Walks.tuple (A := X.A.in1) (I.ok.hd calm) _ a ne (intItems xs), st, fp, (fun _ _ => intItems_at), fun h' tk t' k => ?_⟩
  have size : (intItems xs).size = xs.size := by simp [intItems]
  rw [size, preSum_eq, vals, List.take_of_length_le (by rw [← vals, List.length_map, Array.length_toList]; exact Nat.le_refl _)]
  exact ⟨.int _, H, I.kept (keep h' k), ⟨_, rfl⟩, go⟩
def rMinT (K : PySem.W.Frag) : List V → Hp → VK → Prop := fun vs H Q => ∃ (a : Addr) (ns : List Int), vs = [V.ref a] ∧ (SqL K H a (ns.map V.int) ∨ SqT K H a (ns.map V.int)) ∧ 0 < ns.length ∧ ∀ m, m ∈ ns → (∀ y, y ∈ ns → m ≤ y) → Q (.int m) H
theorem cr_minT (calm : X.calm = true) : CallR X (.builtin "min") (rMinT X.K) := by
  intro pins s σ H vs us Q I r ask
  obtain ⟨a, ns, rfl, hs | hs, some, go⟩ := ask
  · exact cr_min calm pins s σ H _ us Q I r ⟨a, ns, rfl, hs, some, go⟩
  obtain ⟨its, rv, tp, _⟩ := I.tuple hs
  rw [Vals.ref1 r]
  have nums := rv.ints
  obtain ⟨xs, e⟩ := nums.allInts.items
  have vals : xs.toList.map (·.1) = ns := by rw [← nums_intItems, ← e]; exact nums.numsOf
  rw [e] at tp
  have many : xs.size = ns.length := by rw [← vals, List.length_map, Array.length_toList]
  have size : (intItems xs).size = xs.size := by simp [intItems]
  refine call_min_walk (tup_iter (its := intItems xs) tp fun sb eb st fp ne keep => ?_)
  subst eb
  refine ⟨_, _, _, _, _, _, _, rfl, Walks.tuple (A := X.A.in1) (I.ok.hd calm) _ a ne (intItems xs), st, fp, by omega, CmpOf.ints_lt (numAt xs) (fun _ _ => intItems_at), fun v h' tk hv k => ?_⟩
  obtain ⟨t, rfl⟩ := intItems_at hv
  obtain ⟨g1, g2⟩ := argBest_lt (numAt xs) ((intItems xs).size - 1)
  refine ⟨.int _, H, I.kept (keep h' k), ⟨_, rfl⟩, go _ ?_ fun y my => ?_⟩
  · rw [numAt_eq, vals]
    exact PySem.getD_mem (by omega)
  · obtain ⟨j, hj, rfl⟩ := mem_getD my
    have := g2 j (by omega)
    rw [numAt_eq, numAt_eq, vals] at this
    rw [numAt_eq, vals]
    exact this
end
/-! ### text * number -/
def repS (z : Str) (k : Int) : Str := ⟨(List.replicate k.toNat z.cps.toList).flatten.toArray⟩
theorem fold_app (c : Array Nat) : ∀ (n : Nat) (acc : Array Nat), (List.replicate n c).foldl (· ++ ·) acc = acc ++ ((List.replicate n c.toList).flatten).toArray
  | 0, acc => by simp
  | n + 1, acc => by
    rw [List.replicate_succ, List.foldl_cons, fold_app c n, List.replicate_succ, List.flatten_cons]
    apply Array.toList_inj.mp
    simp
theorem repS_made {z : Str} {k : Int} {t : Tok} {Q : Value → Shared → Prop} {s : Shared} (fit : z.length * k.toNat ≤ sizeLine) (h : ∀ t' tk, Q (.str (repS z k) t') { s with toks := tk }) (h0 : Q (.str z t) s ∨ ¬ (k = 1 ∨ z.length = 0)) (h1 : k = 1 ∨ z.length = 0 → repS z k = z) :
    (if k < 1 then Made.str Str.empty else if (k == 1 || z.length == 0) = true then Made.val (.str z t) else Made.str ⟨(List.replicate k.toNat z.cps).foldl (· ++ ·) #[]⟩).post Q s := by
  split
  · rename_i c
    have e : repS z k = Str.empty := by
      unfold repS
      rw [show k.toNat = 0 by omega]
      rfl
    exact ⟨by decide, by rw [← e]; exact h _ _⟩
  · split
    · rename_i c2
      simp only [Bool.or_eq_true, beq_iff_eq] at c2
      rcases h0 with h0 | h0
      · exact h0
      · exact absurd c2 h0
    · have e : (⟨(List.replicate k.toNat z.cps).foldl (· ++ ·) #[]⟩ : Str) = repS z k := by
        rw [fold_app]
        unfold repS
        simp
      rw [e]
      refine ⟨?_, h _ _⟩
      show (List.replicate k.toNat z.cps.toList).flatten.toArray.size ≤ _
      have fl : ∀ n : Nat, (List.replicate n z.cps.toList).flatten.length = n * z.cps.size := fun n => by
        induction n with
        | zero => simp
        | succ n ih => rw [List.replicate_succ, List.flatten_cons, List.length_append, ih, Array.length_toList, Nat.add_mul, Nat.one_mul, Nat.add_comm]
      rw [List.size_toArray, fl, Nat.mul_comm]
      exact fit
theorem op_mulS {X : Cx} : OpR X (binaryOp .Mult) (fun x y H Q => ∃ (z : Str) (k : Int), x = .str z ∧ y = .int k ∧ z.length ≤ 1000 ∧ -1000 ≤ k ∧ k ≤ 1000 ∧ Q (.str (repS z k)) H) := by
  intro pins s σ H x y v u Q I rx ry ask
  obtain ⟨z, k, rfl, rfl, a1, a2, a3, go⟩ := ask
  obtain ⟨t, rfl⟩ := rx
  obtain ⟨t', rfl⟩ := ry
  have fit : z.length * k.toNat ≤ sizeLine := by
    rw [sizeLine_eq]
    have h2 : k.toNat ≤ 1000 := by omega
    exact Nat.le_trans (Nat.mul_le_mul a1 h2) (by decide)
  have one : k = 1 ∨ z.length = 0 → repS z k = z := fun c => by
    unfold repS
    rcases c with rfl | c
    · show (⟨(List.replicate 1 z.cps.toList).flatten.toArray⟩ : Str) = z
      simp
    · have e : z.cps = #[] := Array.size_eq_zero_iff.mp c
      have e2 : ∀ n : Nat, (List.replicate n ([] : List Nat)).flatten = [] := fun n => by induction n with | zero => rfl | succ n ih => rw [List.replicate_succ, List.flatten_cons, ih]; rfl
      rw [e]
      show (⟨(List.replicate k.toNat ([] : List Nat)).flatten.toArray⟩ : Str) = z
      rw [e2]
      cases z with
      | mk c => cases e; rfl
  refine P.mul_str (by
      have h1 : ¬ k < -(2 ^ 63 : Int) := by omega
      have h2 : ¬ k ≥ 2 ^ 63 := by omega
      rw [decide_eq_false h1, decide_eq_false h2]
      rfl) (fun c1 _ z2 => ?_) (fun _ _ => ?_) (repS_made fit (fun t' tk => ⟨.str _, H, I.tok _, ⟨_, rfl⟩, go⟩) ?_ one)
  · have h3 : ((2 : Int) ^ 63 - 1) / 1000 ≤ (2 ^ 63 - 1) / k := by
      refine Int.le_ediv_of_mul_le (by omega) ?_
      have h4 : ((2 : Int) ^ 63 - 1) / 1000 * k ≤ ((2 : Int) ^ 63 - 1) / 1000 * 1000 := Int.mul_le_mul_of_nonneg_left a3 (by decide)
      exact Int.le_trans h4 (by decide)
    have h5 : (1000 : Int) < ((2 : Int) ^ 63 - 1) / 1000 := by decide
    omega
  · unfold Builtin.Str.tooLong
    exact decide_eq_false (by omega)
  · by_cases c : k = 1 ∨ z.length = 0
    · exact .inl ⟨.str z, H, I, ⟨t, rfl⟩, by rw [one c] at go; exact go⟩
    · exact .inr c
end My
namespace My
open PySem PySem.Spec PyProof.Rows L2
/-! ### several except clauses, each with a name or without -/
/-- an exception that stands in the heap h of the def that looks at it -/
structure Lnd (X : Cx) (pins : List (Addr × Obj)) (z : Shared) (a : Addr) (cls : Value) (d : Option Addr) (σ : L2.St) (H : Hp) : Prop where
  ex : ∃ (B : Heap) (y : Shared), Inv X pins σ H y ∧ (∀ b o, y.heap.get? b = some o → b ∉ frs X.stack → B.get? b = some o) ∧ y.heap.UpToSlots z.heap ∧
    HandSPX.FlyingZ B (X.env :: X.outer) a (Zc cls d) z.heap ∧ z.os = y.os ∧ AllBare z.gens
  no : H a = none
section
variable {X : Cx} {pins : List (Addr × Obj)} {z : Shared} {a : Addr} {cls : Value} {d : Option Addr} {σ : L2.St} {H : Hp}
theorem Lnd.inv (l : Lnd X pins z a cls d σ H) : Inv X pins σ H z := by
  obtain ⟨B, y, I, keeps, grown, f, o, g⟩ := l.ex
  exact I.landed keeps f.1 grown o g
/-- the object itself -/
theorem Lnd.obj (l : Lnd X pins z a cls d σ H) : ∃ (oe : Obj) (vs : Array Value), z.heap.get? a = some oe ∧ Zc cls d oe ∧ oe.data = .fields vs := by
  obtain ⟨B, y, I, keeps, grown, f, o, g⟩ := l.ex
  obtain ⟨oe, vs, h1, h2, h3⟩ := f.there
  exact ⟨oe, vs, h1, h2, h3⟩
/-- it is no frame -/
theorem Lnd.nofr (l : Lnd X pins z a cls d σ H) : a ∉ frs (X.env :: X.outer) := fun m => by
  obtain ⟨B, y, I, keeps, grown, f, o, g⟩ := l.ex
  obtain ⟨oe, vs, h1, h2, h3⟩ := f.there
  obtain ⟨e0, o2, h4, h5⟩ := f.2.2.1.mem m
  have : oe = o2 := Option.some.inj (h1.symm.trans h4)
  exact h5 vs (this ▸ h3)
theorem Lnd.suite (hf : X.env.frame = some X.env.locals) (l : Lnd X pins z a cls d σ H) {oe : Obj} {vs : Array Value} (h1 : z.heap.get? a = some oe) (h3 : oe.data = .fields vs) : Inv (X.suite a ((a, oe) :: (X.pn ++ pins))) [] σ H z := by
  refine l.inv.suite h1 h3 l.no (fun e => l.nofr ?_) (fun m => l.nofr ?_)
  · exact List.mem_filterMap.mpr ⟨_, List.mem_cons_self, hf.trans (congrArg some e.symm)⟩
  · obtain ⟨e, me, q⟩ := List.mem_filterMap.mp m
    exact List.mem_filterMap.mpr ⟨e, List.mem_cons_of_mem _ me, q⟩
/-- how the clauses hds deal with it -/
def Hnd (X : Cx) (hds : List ExceptHandler) (w : Ends → WX) : Prop := ∀ (pins : List (Addr × Obj)) (z : Shared) (a : Addr) (cls : Value) (d : Option Addr) (σ : L2.St) (H : Hp) (D : Ends), Lnd X pins z a cls d σ H → w D cls d σ H →
  wpAny (model X.prog X.w) X.A (handleBy (.ref a) X.env hds) (SP X pins D) X.xe z
theorem hnd_nil {Wout : WX} (hs : X.stack = X.env :: X.outer) (hf : X.env.frame = some X.env.locals) (tk : Takes X Wout) : Hnd X [] (fun _ => Wout) := by
  intro pins z a cls d σ H D l hw
  refine wpAny_handleBy_nil ?_
  obtain ⟨B, y, I, keeps, grown, f, o, g⟩ := l.ex
  obtain ⟨q1, q2, q3, oe, vs, T, oT, ts, q4, q5, q6, q7, q8⟩ := id f
  unfold PySem.passOn
  refine wpAny_bind (wpAny_field q4 q6 q7 ?_)
  rw [if_neg (by simp : ¬ ((Value.ref T == Value.none) = true))]
  have out : wpAny (model X.prog X.w) X.A (setFlight (.ref a) X.env.frame) (fun _ s4 => wpAny (model X.prog X.w) X.A (throw (.ref a) : Sem Flow) (SP X pins D) X.xe s4) X.xe z := by
    rw [hf]
    refine HandSPX.setFlight_upZ f fun h4 held up4 => wpAny_throw (tk _ _ ⟨a, B, y, pins, σ, H, cls, d, rfl, I, keeps, grown.trans up4, .inr (.inr (hs ▸ held)), l.no, o, g, hw⟩)
  first
    | exact wpAny_bind (wpAny_pure (wpAny_bind out))
    | exact wpAny_bind out
theorem Lnd.names {x : Str} {c : Value} {np : Pos} (hf : X.env.frame = some X.env.locals) (l : Lnd X pins z a cls d σ H) (hc : Names X x c) {Q E : Value → Shared → Prop} (q : Q c z) :
    wpAny (model X.prog X.w) (X.A.mark (some (.ref a))) (eval (.Name x np) X.env) Q E z := by
  obtain ⟨oe, vs, h1, h2, h3⟩ := l.obj
  have S := l.suite hf h1 h3
  rcases hc with ⟨hg, nd, hm | ⟨hm, hv, hn⟩⟩
  · exact ld_glob (X := X.suite a _) S hg hm q nd
  · exact ld_blt (X := X.suite a _) S hg hm hv q hn nd
theorem Lnd.test {c : Value} {b : Bool} (l : Lnd X pins z a cls d σ H) (h : PySem.W.exmOne X.K cls c = some b) {Q : Bool → Shared → Prop} {E : Value → Shared → Prop} (q : Q b z) :
    wpAny (model X.prog X.w) (X.A.mark (some (.ref a))) (excMatches (.ref a) c) Q E z := by
  obtain ⟨oe, vs, h1, h2, h3⟩ := l.obj
  exact (PySem.W.exm_one (M := model X.prog X.w) l.inv.kIn (fun _ _ _ _ k q => wpAny_typeOf_ref (k _ _ h1) (h2.1.symm ▸ q)) h).here q
/-- the flight set to none: the exception stands as before -/
theorem Lnd.again (l : Lnd X pins z a cls d σ H) {M : Model} {A : Around} {E : Value → Shared → Prop} {Q : Unit → Shared → Prop} (q : ∀ z', Lnd X pins z' a cls d σ H → Q () z') : wpAny M A (setFlight (.ref a) none) Q E z := by
  obtain ⟨B, y, I, keeps, grown, f, o, g⟩ := l.ex
  exact HandSPX.lands_againZ f fun h4 f4 up4 => q _ ⟨⟨B, y, I, keeps, grown.trans up4, f4, o, g⟩, l.no⟩
section
variable {x n : Str} {c : Value} {i : Nat} {b₀ : Stmt} {su : List Stmt} {np pos : Pos} {hds : List ExceptHandler} {w : Ends → WX} {ts : Addr → Value → Option Addr → TS}
/-- what a clause without a name wishes -/
def wOne (K : PySem.W.Frag) (c : Value) (ts : Addr → Value → Option Addr → TS) (w : Ends → WX) : Ends → WX := fun D cls d σ H =>
  ∃ b, PySem.W.exmOne K cls c = some b ∧ (b = true → ∀ a, H a = none → ts a cls d D σ H) ∧ (b = false → w D cls d σ H)
/-- the ends behind a suite whose name i goes -/
def Ends.go (D : Ends) (i : Nat) : Ends := ⟨fun σ' H' => D.nx (σ'.set i none) H', D.rt, fun σ' H' => D.bk (σ'.set i none) H', fun σ' H' => D.ct (σ'.set i none) H'⟩
/-- .. a clause with a name, whose place is i -/
def wNam (K : PySem.W.Frag) (c : Value) (i : Nat) (ts : Addr → Value → Option Addr → TS) (w : Ends → WX) : Ends → WX := fun D cls d σ H =>
  ∃ b, PySem.W.exmOne K cls c = some b ∧ (b = true → ∀ a, H a = none → ts a cls d (Ends.go D i) (σ.set i (some (.ref a))) H) ∧ (b = false → w D cls d σ H)
theorem hnd_one (hf : X.env.frame = some X.env.locals) (hc : Names X x c)
    (hsu : ∀ (a : Addr) (oe : Obj) (cls : Value) (d : Option Addr) (pn : List (Addr × Obj)), Zc cls d oe → (∃ vs, oe.data = .fields vs) → PSs (X.suite a ((a, oe) :: pn)) (b₀ :: su) (ts a cls d)) (r : Hnd X hds w) :
    Hnd X (.ExceptHandler (some (.Name x np)) none (b₀ :: su) pos :: hds) (wOne X.K c ts w) := by
  rintro pins z a cls d σ H D l ⟨b, hb, yes, no⟩
  have ok := l.inv.ok
  refine wpAny_handleBy_cons (codeAny_handlers_test (l.names hf hc (l.test hb ?_))) (fun q => nomatch q)
  cases b with
  | false => exact r pins z a cls d σ H D l (no rfl)
  | true =>
    refine codeAny_handlers_suite (l.again fun z2 l2 => ?_)
    obtain ⟨oe, vs, h1, h2, h3⟩ := l2.obj
    refine wpAny_mono ((hsu a oe cls d (X.pn ++ pins) h2 ⟨vs, h3⟩).run [] z2 σ H D (l2.suite hf h1 h3) (yes rfl a l2.no)) (fun f y hy => ?_) (fun _ _ e => e.elim)
    match f, hy with
    | .next, ⟨_, _, J, q⟩ => exact ⟨_, _, J.unsuite ok, q⟩
    | .brk, ⟨_, _, J, q⟩ => exact ⟨_, _, J.unsuite ok, q⟩
    | .cont, ⟨_, _, J, q⟩ => exact ⟨_, _, J.unsuite ok, q⟩
    | .ret u, ⟨_, _, _, J, rv, q⟩ => exact ⟨_, _, _, J.unsuite ok, rv, q⟩
theorem hnd_nam (hf : X.env.frame = some X.env.locals) (hN : X.N.Nodup) (hi : X.N[i]? = some n) (hln : X.env.kindOf n = some .local) (hc : Names X x c)
    (hsu : ∀ (a : Addr) (oe : Obj) (cls : Value) (d : Option Addr) (pn : List (Addr × Obj)), Zc cls d oe → (∃ vs, oe.data = .fields vs) → PSs (X.suite a ((a, oe) :: pn)) (b₀ :: su) (ts a cls d)) (r : Hnd X hds w) :
    Hnd X (.ExceptHandler (some (.Name x np)) (some n) (b₀ :: su) pos :: hds) (wNam X.K c i ts w) := by
  rintro pins z a cls d σ H D l ⟨b, hb, yes, no⟩
  have ok := l.inv.ok
  refine wpAny_handleBy_cons (codeAny_handlers_test (l.names hf hc (l.test hb ?_))) (fun q => nomatch q)
  cases b with
  | false => exact r pins z a cls d σ H D l (no rfl)
  | true =>
    refine codeAny_handlers_suite_as (l.again fun z2 l2 => ?_)
    obtain ⟨oe, vs, h1, h2, h3⟩ := l2.obj
    refine store_ok (X := X.suite a _) (v := .ref a) (l2.suite hf h1 h3) hN hi (Or.inl hln) rfl (fun z3 I3 => ?_) (Or.inr hln)
    refine wpAny_mono ((hsu a oe cls d (X.pn ++ pins) h2 ⟨vs, h3⟩).run [] z3 _ H _ I3 (yes rfl a l2.no)) (fun f y hy => ?_) (fun _ _ e => e.elim)
    match f, hy with
    | .next, ⟨_, _, J, q⟩ => exact gone_ok (J.unsuite ok) hN hi hln fun _ J2 => ⟨_, _, J2, q⟩
    | .brk, ⟨_, _, J, q⟩ => exact gone_ok (J.unsuite ok) hN hi hln fun _ J2 => ⟨_, _, J2, q⟩
    | .cont, ⟨_, _, J, q⟩ => exact gone_ok (J.unsuite ok) hN hi hln fun _ J2 => ⟨_, _, J2, q⟩
    | .ret u, ⟨_, _, _, J, rv, q⟩ => exact gone_ok (J.unsuite ok) hN hi hln fun _ J2 => ⟨_, _, _, J2, rv, q⟩
/-- try with such clauses -/
theorem ps_tryN {body : List Stmt} {h₀ : ExceptHandler} {tb : WX → TS} (hs : X.stack = X.env :: X.outer) (hf : X.env.frame = some X.env.locals)
    (hb : ∀ (W : WX) (pn : List (Addr × Obj)) (xe : Value → Shared → Prop), Takes (X.tr pn xe) W → PassesOwn (model X.prog X.w) X.A X.env xe → PSs (X.tr pn xe) body (tb W)) (hh : Hnd X (h₀ :: hds) w) :
    PS X (.Try body (h₀ :: hds) [] [] pos) (fun D σ H => tb (w D) D σ H) := by
  refine ⟨fun pins s σ H D I h => wpAny_Try_except ?_⟩
  have ok := I.ok
  have back : ∀ {pn' : List (Addr × Obj)} {xe : Value → Shared → Prop} {σ' : L2.St} {H' : Hp} {y : Shared}, Inv (X.tr (X.pn ++ pins) xe) pn' σ' H' y → Inv X pins σ' H' y := fun J => J.ofTry ok
  have run := (hb (w D) (X.pn ++ pins) (fun e z => wpAny (model X.prog X.w) X.A (noteFrame e X.env) (fun _ z2 => wpAny (model X.prog X.w) X.A (setFlight e none) (fun _ z3 => wpAny (model X.prog X.w) X.A (handleBy e X.env (h₀ :: hds)) (SP X pins D) X.xe z3) X.xe z2) X.xe z) ?_ PassesOwn.looking).run [] s σ H D (I.toTry _) h
  · refine wpAny_mono run (fun f y hy => ?_) (fun _ _ e => e)
    match f, hy with
    | .next, ⟨_, _, J, q⟩ => exact wpAny_execs_nil ⟨_, _, back J, q⟩
    | .brk, ⟨_, _, J, q⟩ => exact ⟨_, _, back J, q⟩
    | .cont, ⟨_, _, J, q⟩ => exact ⟨_, _, back J, q⟩
    | .ret u, ⟨_, _, _, J, rv, q⟩ => exact ⟨_, _, _, back J, rv, q⟩
  · rintro u z ⟨a, B, y, pins2, σ', H', cls, d, rfl, J, keeps, grown, sky, na, o, g, hw⟩
    have frs_eq : X.A.frames = some (X.env :: X.outer) := hs ▸ ok.frames
    refine Sky.land Zc.steady frs_eq hf (hs ▸ sky) fun h3 f3 up3 => ?_
    exact hh pins { z with heap := h3 } a cls d σ' H' D ⟨⟨B, y, back J, keeps, grown.trans up3, f3, o, g⟩, na⟩ hw
end
end
end My
namespace My
open PySem PySem.Spec PyProof.Rows L2
/-! ### a dict that is shown and asked in one expression, its keys tuples of bools -/
def bLeaf (b : Bool) : Leaf := .num (if b = true then 1 else 0)
theorem bLeaf_inj {b c : Bool} (e : bLeaf b = bLeaf c) : b = c := by
  cases b <;> cases c <;> first | rfl | exact absurd e (by decide)
theorem leaves_are {pg : Program} {wd : World} : ∀ {bs : List Bool} {us : List Value}, Vals (bs.map V.bl) us → ItemsAre (leafKind pg wd) (bs.map bLeaf) us
  | [], _, r => by
    rw [List.map_nil] at r
    cases r
    exact .nil
  | b :: bs, _, r => by
    rw [List.map_cons] at r
    cases r with
    | cons hd tl =>
      refine .cons ?_ (leaves_are tl)
      have e : _ = Value.bool b := hd
      rw [e]
      show Leaf.isOf (bLeaf b) (.bool b) = true
      cases b <;> rfl
theorem bools_key {pg : Program} {wd : World} {G : Hp} {hp : Heap} {ad : Addr} {bs : List Bool} (ok : HOk pg wd G hp) (e : G ad = some (.tup (bs.map V.bl))) : (tupleKind (leafKind pg wd)).is hp (bs.map bLeaf) ad := by
  obtain ⟨_, its, rel, ob, g1, g2, n, g3⟩ := (show ObjOk pg wd G hp ad (.tup (bs.map V.bl)) from ok ad _ e)
  exact ⟨ob, its.toArray, n, g1, g2, g3, by simpa using leaves_are rel⟩
abbrev BEnt := List Bool × Addr × V
/-- what stands in the dict by what was shown -/
abbrev BRow : List BEnt → List (List Leaf × Addr × Value) → Prop := Paired fun p q => p.1.map bLeaf = q.1 ∧ p.2.1 = q.2.1 ∧ RelV p.2.2 q.2.2
theorem bls_inj : ∀ {xs ys : List Bool}, xs.map bLeaf = ys.map bLeaf → xs = ys
  | [], [], _ => rfl
  | [], _ :: _, e => by simp at e
  | _ :: _, [], e => by simp at e
  | x :: xs, y :: ys, e => by
    rw [List.map_cons, List.map_cons] at e
    injection e with e1 e2
    rw [bLeaf_inj e1, bls_inj e2]
theorem BRow.keys {es : List BEnt} {qs : List (List Leaf × Addr × Value)} (rw_ : BRow es qs) : qs.map (·.1) = (es.map (·.1)).map (List.map bLeaf) := by
  induction rw_ with
  | nil => rfl
  | cons hd tl ih => rw [List.map_cons, List.map_cons, List.map_cons, ih, hd.1]
theorem BRow.look {es : List BEnt} {qs : List (List Leaf × Addr × Value)} (rw_ : BRow es qs) (bs : List Bool) {z : V} {uz : Value} (rz : RelV z uz) :
    RelV ((valV (es.map fun e => (e.1, e.2.2)) bs).getD z) (((atKey qs (bs.map bLeaf)).map (·.2)).getD uz) := by
  induction rw_ with
  | nil => exact rz
  | @cons p q ps qs hd tl ih =>
    obtain ⟨k1, k2, k3⟩ := hd
    by_cases e : p.1 = bs
    · have e' : q.1 = bs.map bLeaf := by rw [← k1, e]
      have f : atKey (q :: qs) (bs.map bLeaf) = some q.2 := by simp [atKey, List.find?_cons, e']
      have g : valV ((p :: ps).map fun e => (e.1, e.2.2)) bs = some p.2.2 := by simp [valV, List.find?_cons, e]
      rw [f, g]
      exact k3
    · have e' : ¬ q.1 = bs.map bLeaf := fun y => e (bls_inj (k1.trans y))
      have f : atKey (q :: qs) (bs.map bLeaf) = atKey qs (bs.map bLeaf) := by simp [atKey, List.find?_cons, e']
      have g : valV ((p :: ps).map fun e => (e.1, e.2.2)) bs = valV (ps.map fun e => (e.1, e.2.2)) bs := by simp [valV, List.find?_cons, e]
      rw [f, g]
      exact ih
theorem BRow.snoc {es : List BEnt} {qs : List (List Leaf × Addr × Value)} {p : BEnt} {q : List Leaf × Addr × Value} (rw_ : BRow es qs) (hd : p.1.map bLeaf = q.1 ∧ p.2.1 = q.2.1 ∧ RelV p.2.2 q.2.2) : BRow (es ++ [p]) (qs ++ [q]) := Paired.snoc rw_ hd
section
variable {X : Cx} {pins : List (Addr × Obj)} {σ : L2.St} {G : Hp}
theorem stores_b {E : Value → Shared → Prop} {Q : Shared → Prop} {d : Addr} (room : X.A.units < cLine) : ∀ (more es : List BEnt) (ws : List (Value × Value)) (qs : List (List Leaf × Addr × Value)) (sh : Shared), Inv X pins σ G sh → FpOk X pins G d →
    sh.heap.DictOfH (tupleKind (leafKind X.prog X.w)) d qs → BRow es qs → VV (more.map fun e => (V.ref e.2.1, e.2.2)) ws → (∀ e ∈ more, G e.2.1 = some (.tup (e.1.map V.bl))) → ((es ++ more).map (·.1)).Nodup → (es ++ more).length ≤ 15 →
    (∀ sh' qs', Inv X pins σ G sh' → sh'.heap.DictOfH (tupleKind (leafKind X.prog X.w)) d qs' → BRow (es ++ more) qs' → Q sh') →
    wpAny (model X.prog X.w) X.A (storeAll d ws) (fun _ sh' => Q sh') E sh
  | [], es, ws, qs, sh, I, fp, dd, row, vv, _, _, _, q => by
    cases vv
    unfold storeAll
    rw [List.forIn_nil]
    rw [List.append_nil] at q
    exact wpAny_pure (q sh qs I dd row)
  | e :: more, es, ws, qs, sh, I, fp, dd, row, vv, hk, nd, hl, q => by
    rw [List.map_cons] at vv
    cases vv with
    | @cons _ wv _ ws' hd tl =>
      obtain ⟨u, v⟩ := wv
      obtain ⟨r1, r2⟩ := hd
      obtain rfl : u = Value.ref e.2.1 := r1
      have el : (es ++ [e]) ++ more = es ++ e :: more := by simp
      have hq : qs.length ≤ 15 := by
        have := Paired.length row
        rw [List.length_append] at hl
        omega
      have fresh : atKey qs (e.1.map bLeaf) = none := by
        have hn : e.1.map bLeaf ∉ qs.map (·.1) := fun m => by
          rw [row.keys] at m
          obtain ⟨b, hb, eb⟩ := List.mem_map.mp m
          rw [List.map_append, List.nodup_append] at nd
          exact nd.2.2 b hb e.1 (by rw [List.map_cons]; exact List.mem_cons_self) (bls_inj eb)
        unfold atKey
        rw [Option.map_eq_none_iff, List.find?_eq_none]
        intro x mx z
        exact hn (List.mem_map.mpr ⟨x, mx, of_decide_eq_true z⟩)
      unfold storeAll
      rw [List.forIn_cons]
      refine wpAny_bind (wpAny_bind (wpAny_dictSet_heap (hsz := by rw [sizeLine_eq]; omega) (knd := tupleKind (leafKind X.prog X.w)) room (bools_key I.hok (hk e List.mem_cons_self)) dd fun h' dd' sb => wpAny_pure ?_))
      rw [storedH_new fresh] at dd'
      obtain ⟨f0, f1, f2, f3, f4, f5⟩ := id fp
      have I1 := I.turned (t' := sh.toks + (tupleKind (leafKind X.prog X.w)).draws (e.1.map bLeaf)) (fun b o nb eb => (sb.2 b nb).trans eb) f0 f1 f3 f4 f5
      exact stores_b room more (es ++ [e]) ws' _ _ I1 fp dd' (row.snoc ⟨rfl, rfl, r2⟩) tl (fun x m => hk x (List.mem_cons_of_mem _ m)) (by rw [el]; exact nd) (by rw [el]; exact hl) (by rw [el]; exact q)
end
/-- {(..): v, ..}.get(e, f): the pairs, then e, then f -/
def tBGet (trs : List (TE × TE)) (te tf : TE) : TE := fun σ G Q => tPairs trs σ G fun ps G2 => ∃ es : List BEnt, ps = es.map (fun e => (V.ref e.2.1, e.2.2)) ∧ es.length ≤ 15 ∧ (es.map (·.1)).Nodup ∧ (∀ e ∈ es, G2 e.2.1 = some (.tup (e.1.map V.bl))) ∧
  te σ G2 fun y G3 => tf σ G3 fun z G4 => ∃ (b : Addr) (bs : List Bool), y = .ref b ∧ G4 b = some (.tup (bs.map V.bl)) ∧ (∀ e ∈ es, G4 e.2.1 = some (.tup (e.1.map V.bl))) ∧ Q ((valV (es.map fun e => (e.1, e.2.2)) bs).getD z) G4
theorem pe_bget {X : Cx} {keys : List (Option Expr)} {values : List Expr} {dpos apos cpos : Pos} {e f : Expr} {trs : List (TE × TE)} {te tf : TE} (room : X.A.units + 1 < cLine) (hp : PPs X dpos keys values trs) (he : PE X e te) (hf : PE X f tf)
    (m : M2 X (.Dict keys values dpos) "get" apos e f cpos) (hall : keys.all (·.isSome) = true := by rfl) (hl : keys.length = values.length := by rfl) (h0 : keys ≠ [] := by decide) (h15 : keys.length ≤ 15 := by decide) :
    PE X (.Call (.Attribute (.Dict keys values dpos) "get" apos) [e, f] [] cpos) (tBGet trs te tf) := by
  refine ⟨fun pins sh σ G Q I q => ?_⟩
  refine wpAny_Call_method m.base m.few m.line PySem.F.plainAttrs_dict PySem.F.slot_dict_get PySem.F.type_dict_get ?_
  refine wpAny_Dict_any hall hl h0 h15 ?_
  generalize hd : sh.heap.objs.size = d
  have hn : G d = none := I.hok.fresh (Nat.le_of_eq hd)
  have I1 : Inv X pins σ G { sh with heap := sh.heap.push { cls := .type "dict", data := .dict #[] } } := I.kept (t' := sh.toks) fun b o eb => Heap.get?_push_of_some _ eb
  have fp1 : FpOk X pins G d := I.fpOk (Nat.le_of_eq hd) hn
  have g1 : (sh.heap.push { cls := .type "dict", data := .dict #[] }).get? d = some { cls := .type "dict", data := .dict #[] } := by
    rw [← hd]
    exact Heap.get?_push_size _ rfl
  have I2 := I1.pinned (fp := [d]) (fun b hb => by rw [List.mem_singleton.mp hb]; exact fp1) (fun b hb => by rw [List.mem_singleton.mp hb]; exact ⟨_, g1, fun v z => by cases z⟩)
  refine thn (hp.run _ _ σ G _ I2 q) fun ws s2 ⟨ps, G2, I3, rel, es, ep, l15, nd, hk, q2⟩ => ?_
  subst ep
  have pin2 := I3.pin (d, { cls := .type "dict", data := .dict #[] }) (List.mem_append_right _ (List.mem_append_right _ (mem_pinsAt (List.mem_singleton.mpr rfl) g1)))
  have I4 := I3.unpinned
  have fp2 : FpOk X pins G2 d := ⟨pin2.2.1, fp1.2⟩
  have ds : (d == sysModules) = false := by
    have hb : sysModules < sh.heap.objs.size := I.big
    rw [hd] at hb
    exact beq_eq_false_iff_ne.mpr (Nat.ne_of_gt hb)
  have dd0 : s2.heap.DictOfH (tupleKind (leafKind X.prog X.w)) d [] := ⟨_, #[], 0, pin2.1, ⟨rfl, rfl, rfl⟩, rfl, rfl, fun x mx => (nomatch mx), List.nodup_nil⟩
  refine stores_b (Q := fun s3 => _) (by omega) es [] ws [] s2 I4 fp2 dd0 .nil rel hk nd l15 fun s3 qs I5 dd row => ?_
  obtain ⟨ob, ar, ep, o1, o2, o3, o4, o5, o6⟩ := id dd
  refine ⟨⟨ob, o1, o2.1⟩, fun b eb => by cases eb; exact ⟨ob, o1, o2.2.1⟩, ?_⟩
  have I6 := I5.pinned (fp := [d]) (fun b hb => by rw [List.mem_singleton.mp hb]; exact fp2) (fun b hb => by rw [List.mem_singleton.mp hb]; exact ⟨ob, o1, fun v z => by rw [o3] at z; cases z⟩)
  rw [m.trees]
  refine Calls.callWith_builtin rfl (Calls.evalArgs_plain (Calls.spliced_cons (thn (he.run _ s3 σ G2 _ I6 q2) fun u s4 ⟨y, G3, J1, ry, q3⟩ =>
    Calls.spliced_cons (thn (hf.run _ s4 σ G3 _ J1 q3) fun v s5 ⟨z, G4, J2, rz, b, bs, ey, eb, hk4, q4⟩ => Calls.spliced_nil ?_))))
  subst ey
  obtain rfl : u = Value.ref b := ry
  have pin5 := J2.pin (d, ob) (List.mem_append_right _ (List.mem_append_right _ (mem_pinsAt (List.mem_singleton.mpr rfl) o1)))
  have dd5 : s5.heap.DictOfH (tupleKind (leafKind X.prog X.w)) d qs := by
    refine ⟨ob, ar, ep, pin5.1, o2, o3, o4, ?_, o6⟩
    have all : ∀ {es : List BEnt} {qs : List (List Leaf × Addr × Value)}, BRow es qs → (∀ e ∈ es, G4 e.2.1 = some (.tup (e.1.map V.bl))) → ∀ x ∈ qs, (tupleKind (leafKind X.prog X.w)).is s5.heap x.1 x.2.1 := by
      intro es qs r
      induction r with
      | nil => exact fun _ x mx => nomatch mx
      | @cons p q ps qs hd tl ih =>
        intro hk x mx
        rcases List.mem_cons.mp mx with rfl | mx
        · rw [← hd.1, ← hd.2.1]
          exact bools_key J2.hok (hk p List.mem_cons_self)
        · exact ih (fun e me => hk e (List.mem_cons_of_mem _ me)) x mx
    exact all row hk4
  refine call_meetsIn PySem.F.slot_dict_get ⟨ob, pin5.1, o2.1⟩ PySem.F.entry_dict_get (PySem.F.args_dict_get_3 _ _ _) (meetsH_dict_get_default (tupleKind (leafKind X.prog X.w)) d b ds v) ⟨tupleKind_room_in1 room, bs.map bLeaf, qs, bools_key J2.hok eb, dd5, ?_⟩
  exact ⟨_, G4, J2.unpinned.tok _, row.look bs rz, q4⟩
end My
namespace My
open PySem PySem.Spec PyProof.Rows L2
/-! ### enumerate(list, start=k) -/
/-- the items of the list at a, each beside its number, the first one z -/
def Ites (K : PySem.W.Frag) (a : Addr) (z : Int) : It :=
  ⟨fun i G => ∃ (ys : List V) (y : V), SqL K G a ys ∧ ys[i]? = some y, fun i G v G' => ∃ t y, v = .ref t ∧ G t = none ∧ G' = upd G t (.tup [.int (z + (i : Nat)), y]) ∧ ∀ ys, SqL K G a ys → ys[i]? = some y, fun i G => ∃ ys : List V, SqL K G a ys ∧ ys.length = i⟩
theorem turn_enumS {pg : Program} {wd : World} {K : PySem.W.Frag} {elts : List Expr} {kk : Nat} {tp : Pos} (a e it : Addr) (z : Int) :
    Turn pg wd K (.Tuple elts kk tp) (Ites K a z) [e, it] e (fun i h => (∃ old, IsEnum h e it (z + (i : Nat)) old) ∧ h.IsListIter it a i ∧ e ≠ it ∧ a ≠ it) where
  mem := List.mem_cons_self
  obj := fun i h st b hb => by
    obtain ⟨⟨old, he⟩, ⟨o, ho, hc, hd⟩, _⟩ := st
    rcases List.mem_cons.mp hb with rfl | hb
    · exact ⟨_, he, fun v q => nomatch q⟩
    · rw [List.mem_singleton.mp hb]
      exact ⟨o, ho, fun v q => by rw [hd] at q; cases q⟩
  keep := fun i h h' st k => by
    obtain ⟨⟨old, he⟩, hi, h3⟩ := st
    exact ⟨⟨old, k e List.mem_cons_self _ he⟩, hi.at fun o q => k it (List.mem_cons_of_mem _ (List.mem_singleton.mpr rfl)) o q, h3⟩
  item := fun X e1 e2 e3 calm i pins sh σ G Er I hf st hg => by
    subst e1 e2 e3
    obtain ⟨⟨old, he⟩, hit, hne, hal⟩ := st
    obtain ⟨ys, y, hq, hy⟩ := hg
    obtain ⟨its, rv, p, hz⟩ := I.list hq
    obtain ⟨u, hu, ru⟩ := rv.get hy
    have hel : e < sh.heap.objs.size := Heap.lt_size he
    have hil : it < sh.heap.objs.size := by
      obtain ⟨_, q, _⟩ := hit
      exact Heap.lt_size q
    have lt : i < its.toArray.size := by
      rw [List.size_toArray]
      exact (List.getElem?_eq_some_iff.mp hu).1
    refine wpAny_pyNext_enum_itemC (Draws.list (prog := X.prog) (w := X.w) (A := X.A.in1) (I.ok.hd calm) it a hal its.toArray) he ⟨hit, p.isList⟩ lt hne (fun m => ?_) fun x h' tk hx ho hst hT hsz hk => ?_
    · simp only [List.mem_cons, List.not_mem_nil, or_false] at m
      rcases m with m | m
      · exact hne m
      · obtain ⟨ol, gl, _, nl, dl⟩ := p.isList
        rw [← m, he] at gl
        cases gl
        cases dl
    have ex : x = u := by
      have h3 : its[i]? = some x := by simpa using hx
      rw [hu] at h3
      exact (Option.some.inj h3).symm
    subst ex
    refine ⟨_, rfl, wpAny_letOwnedTupleGo_enum (s := { sh with heap := h', toks := tk + 1 }) ho fun h'' he' sb => ?_⟩
    have hT2 : h''.get? sh.heap.objs.size = some { cls := .type "tuple", data := .seq #[.int (z + (i : Nat)) tk, x] } := (sb.2 _ (Nat.ne_of_gt hel)).trans hT
    have new : ObjOk X.prog X.w (upd G sh.heap.objs.size (.tup [.int (z + (i : Nat)), y])) h'' sh.heap.objs.size (.tup [.int (z + (i : Nat)), y]) :=
      ⟨by show 2 ≤ sizeLine; decide, [.int (z + (i : Nat)) tk, x], .cons ⟨_, rfl⟩ (.cons ru .nil), ⟨_, hT2, rfl, _, rfl⟩⟩
    have I1 : Inv X pins σ (upd G sh.heap.objs.size (.tup [.int (z + (i : Nat)), y])) { sh with heap := h'', toks := tk + 1 } :=
      I.turnedNew (ch := [e, it]) (fun b ob hb q => (sb.2 b (fun y => hb (by simp [y]))).trans (hk b ob (fun y => hb (by simp [y])) (fun y => hb (by simp [y])) q)) hf (Nat.le_refl _) new
    refine ⟨.ref sh.heap.objs.size, _, I1, rfl, ⟨_, y, rfl, I.hok.fresh (Nat.le_refl _), rfl, fun zs hzs => by rw [I.list_inj hzs hq]; exact hy⟩, ⟨⟨x, ?_⟩, hst.1.at fun o q => (sb.2 it (Ne.symm hne)).trans q, hne, hal⟩, fun b hb => ?_⟩
    · have e1 : z + ((i + 1 : Nat) : Int) = z + (i : Nat) + 1 := by omega
      rw [e1]
      exact he'
    · have hb' : b < sh.heap.objs.size := by
        rcases List.mem_cons.mp hb with rfl | hb
        · exact hel
        · rw [List.mem_singleton.mp hb]
          exact hil
      rw [upd_ne (Nat.ne_of_lt hb')]
      exact (hf b hb).1
  done := fun X e1 e2 e3 calm i pins sh σ G Er I hf st hg => by
    subst e1 e2 e3
    obtain ⟨⟨old, he⟩, hit, hne, hal⟩ := st
    obtain ⟨ys, hq, hy⟩ := hg
    obtain ⟨its, rv, p, hz⟩ := I.list hq
    obtain ⟨f0, f1, f2, f3, f4, f5⟩ := hf it (List.mem_cons_of_mem _ (List.mem_singleton.mpr rfl))
    have hl : its.toArray.size = i := by
      rw [List.size_toArray, ← rv.length]
      exact hy
    exact wpAny_pyNext_enum_endD (Draws.list (prog := X.prog) (w := X.w) (A := X.A.in1) (I.ok.hd calm) it a hal its.toArray) he ⟨hl.symm ▸ hit, p.isList⟩ fun h' eb => ⟨rfl, I.turned (t' := sh.toks) (fun b o hb q => eb b o hb q) f0 f1 f3 f4 f5⟩
  self := fun A i sh Q E st h => by
    obtain ⟨⟨_, he⟩, _⟩ := st
    exact wpAny_pyIter_enum he h
def iEnumS (K : PySem.W.Frag) (ta : TA) (tk : TA) : TI := fun σ G R => ta σ G fun vs G1 => tk σ G1 fun zs G2 => ∃ (a : Addr) (z : Int) (ys : List V), vs = [.ref a] ∧ zs = [.int z] ∧ SqL K G2 a ys ∧ -(2 ^ 62) ≤ z ∧ z < 2 ^ 62 ∧ R (Ites K a z) G2
theorem pi_enumS {X : Cx} {e b : Expr} {ta tk : TA} {p pos tp kp : Pos} {elts : List Expr} {kk : Nat} (hg : Gl X "enumerate") (hm : X.mg "enumerate" = none) (ha : PA X [e] ta) (hk : PK X [⟨some "start", b, kp⟩] tk)
    (hpl : ((backTo pos (starEach [e] X.env)).any (·.1) || (backToKw pos (keywordEach [⟨some "start", b, kp⟩] X.env)).any (·.1.isNone)) = false := by rfl) (hst : starEach [e] X.env = (false, eval e X.env) :: starEach [] X.env := by rfl)
    (hall : (backToKw pos (keywordEach [⟨some "start", b, kp⟩] X.env)).all (·.1.isSome) = true := by rfl) (hks : (backToKw pos (keywordEach [⟨some "start", b, kp⟩] X.env)).filterMap (·.1) = [("start" : Str)] := by rfl) :
    PI X (.Tuple elts kk tp) (.Call (.Name "enumerate" p) [e] [⟨some "start", b, kp⟩] pos) (iEnumS X.K ta tk) := by
  refine ⟨fun pins sh σ G R I h => ?_⟩
  refine wpAny_Call_Name_kw (ld_blt I hg hm boot_enumerate ?_)
  refine PySem.W.callWith_of (P := fun _ => True) hpl (fun _ _ => ⟨.machine, .inr (.inl rfl), PySem.W.Looks.now⟩) (PyProof.Rows.evalArgs_kw2 hall (thn (ha.run pos pins sh σ G _ I h) fun us s1 ⟨vs, G1, I1, r1, q1⟩ => thn (hk.run pos pins s1 σ G1 _ I1 q1) fun ws s2 ⟨zs, G2, I2, r2, q2⟩ => ?_) hst)
  obtain ⟨a, z, ys, rfl, rfl, hq, b1, b2, q⟩ := q2
  rw [hks]
  cases r1 with
  | cons ra rr =>
    cases rr
    cases ra
    cases r2 with
    | cons rz rr =>
      cases rr
      obtain ⟨t, rfl⟩ := rz
      refine ⟨trivial, ?_⟩
      obtain ⟨its, rv, pl, hz⟩ := I2.list hq
      refine enum_begins_start (begins_list a its.toArray) pl.isList (by omega) (by omega) fun h' he hit hsz hk' => ?_
      refine wpAny_pyIter_enum he ?_
      have I3 : Inv X pins σ G2 { s2 with heap := h' } := I2.kept (t' := s2.toks) hk'
      have hal : a ≠ s2.heap.objs.size := fun y => by
        obtain ⟨ol, gl, _⟩ := pl.isList
        rw [y] at gl
        exact absurd (Heap.lt_size gl) (Nat.lt_irrefl _)
      refine ⟨s2.heap.objs.size + 1, [s2.heap.objs.size + 1, s2.heap.objs.size], _, _, G2, rfl, I3, turn_enumS a (s2.heap.objs.size + 1) s2.heap.objs.size z, ⟨⟨.none, ?_⟩, ⟨_, hit, rfl, rfl⟩, Nat.succ_ne_self _, hal⟩, fun b hb => ?_, q⟩
      · have e0 : z + ((0 : Nat) : Int) = z := by omega
        rw [e0]
        exact he
      · have hle : s2.heap.objs.size ≤ b := by
          rcases List.mem_cons.mp hb with rfl | hb
          · exact Nat.le_add_right _ _
          · rw [List.mem_singleton.mp hb]
            exact Nat.le_refl _
        exact I2.fpOk hle (I2.hok.fresh hle)
theorem walk_enumS {K : PySem.W.Frag} {a : Addr} {ys : List V} {z : Int} : Walk (Ites K a z) ys.length (fun G => SqL K G a ys) (YPair (fun i => some (.int (z + (i : Nat)))) (fun i => ys[i]?)) := by
  refine ⟨fun i _ hi q => ⟨ys, ys[i], q, by simp [hi]⟩, fun _ q => ⟨ys, q, rfl⟩, fun i G v G' _ q y => ?_⟩
  obtain ⟨t, w, h1, h2, h3, h4⟩ := y
  exact ⟨t, .int (z + (i : Nat)), w, h1, h2, h3, rfl, h4 ys q⟩
/-! ### x or y, x of any kind -/
def tOrA (K : PySem.W.Frag) (ta tb : TE) : TE := fun σ G Q => ta σ G fun x G1 => ∃ k, TruV K x G1 k ∧ (k = true → Q x G1) ∧ (k = false → tb σ G1 Q)
theorem pe_orA {X : Cx} {a b : Expr} {more : List Expr} {pos : Pos} {ta tb : TE} (ha : PE X a ta) (hb : PE X (.BoolOp .Or (b :: more) pos) tb) : PE X (.BoolOp .Or (a :: b :: more) pos) (tOrA X.K ta tb) := by
  refine ⟨fun pins sh σ G Q I h => ?_⟩
  refine BoolOp_or (thn (ha.run pins sh σ G _ I h) fun v s1 ⟨x, G1, I1, r1, k, tk, q1, q2⟩ => ?_)
  refine thn (tru_ok pins s1 σ G1 x v (fun c G2 => c = k ∧ G2 = G1) I1 r1 ⟨k, tk, rfl, rfl⟩) fun c s2 ⟨G2, I2, ec, eg⟩ => ?_
  subst ec eg
  cases c with
  | true => exact ⟨x, G2, I2, r1, q1 rfl⟩
  | false => exact hb.run pins s2 σ G2 Q I2 (q2 rfl)
/-! ### list.extend(tuple) -/
theorem extend_tup (l : Addr) (xs : Array Value) (n : Nat) (b : Addr) (ys : Array Value) (m : Nat) (db : Option Addr) (sb : Array (Option Value)) (short : ¬(!xs.isEmpty && Builtin.List.listTooLong (xs.size + ys.size)) = true) (fx : xs.size ≤ sizeLine) (fy : xs.size + ys.size ≤ sizeLine + 1) :
    Meets (Builtin.«list.extend» ⟨[.ref l, .ref b], []⟩) (fun _ R sh => sh.heap.get? l = some { cls := .type "list", dict := none, data := .seq xs n, slots := #[] } ∧ sh.heap.get? b = some { cls := .type "tuple", dict := db, data := .seq ys m, slots := sb } ∧
      R (.ok (.ret Value.none)) { sh with heap := sh.heap.update l (Obj.mapSeq fun x => x ++ ys), toks := sh.toks }) :=
  .of_wp fun pg wd A R sh h => by
    obtain ⟨hp, gg, dd, tk, oo⟩ := sh
    obtain ⟨gl, gb, h⟩ := h
    have i1 := AutoSeq1.idx_int
    have i2 := AutoSeq1.sub_tuple_tuple
    have i3 := AutoSeq1.sub_list_list
    have i4 := AutoSeq1.sub_tuple_list
    have i5 := AutoSeq1.sub_list_tuple
    have fz : (xs ++ ys).size ≤ sizeLine + 1 := by
      rw [Array.size_append]
      exact fy
    wp_walk using (wpAny_updateSeq gl rfl (hz := fx) (_hz' := fz)), wpAny_loadPart' gl, wpAny_loadPart' gb
    exact ⟨_, rfl, h⟩
def rExtT (K : PySem.W.Frag) : V → List V → Hp → VK → Prop := fun x vs G Q => ∃ l b xs zs, x = .ref l ∧ vs = [.ref b] ∧ G l = some (.lst xs) ∧ SqT K G b zs ∧ zs ≠ [] ∧ xs.length + zs.length ≤ sizeLine ∧ Q .non (upd G l (.lst (xs ++ zs)))
theorem mt_extT {X : Cx} : MtM X "list.extend" (rExtT X.K) := by
  intro pins sh σ G x vs v us Q I rx rv h
  obtain ⟨l, b, xs, zs, rfl, rfl, hG, hB, hne, hz, q⟩ := h
  cases rx
  obtain ⟨u, rfl, ru⟩ := rv.one
  cases ru
  obtain ⟨z, its, n, r, hl, e⟩ := I.lstM hG
  obtain ⟨its2, r2, p2, hz2⟩ := I.tuple hB
  have hl2 : its2.length = zs.length := r2.length.symm
  obtain ⟨⟨cls, dd, data, sl⟩, ho, hc, n2, hd⟩ := id p2
  simp only at hc hd
  subst hc hd
  have hsz : its.toArray.size + its2.toArray.size ≤ sizeLine := by
    rw [List.size_toArray, List.size_toArray]
    omega
  have short : ¬ (!its.toArray.isEmpty && Builtin.List.listTooLong (its.toArray.size + its2.toArray.size)) = true := by
    rw [notLongL hsz, Bool.and_false]
    exact Bool.false_ne_true
  refine call_meets PySem.F.slot_list_extend ⟨_, e, rfl⟩ PySem.F.entry_list_extend (PySem.F.args_list_extend_2 _ _) (extend_tup l its.toArray n b its2.toArray n2 dd sl short (by rw [List.size_toArray]; omega) (by omega)) ⟨e, ho, ?_⟩
  refine ⟨.non, _, I.lset (its' := its ++ its2) hG e (by simp) (r.append r2) ?_, rfl, q⟩
  rw [List.length_append]
  omega
end My
namespace My
open PySem PySem.Spec PyProof.Rows L2
/-! ### a dict against one that is empty -/
section
variable {K1 K2 : Type} [DecidableEq K1] [DecidableEq K2] {pg : Program} {wd : World} {kn1 : HeapKind pg wd K1} {kn2 : HeapKind pg wd K2} {A : Around} {E : Value → Shared → Prop} {sh : Shared}
theorem pairs_bare {nm : String} {a b : Addr} {xs : List (K1 × Addr × Value)} {Q : Bool → Shared → Prop} (na : (a == sysModules) = false) (nb : (b == sysModules) = false) (m1 : sh.heap.DictOfH kn1 a xs) (m2 : sh.heap.DictOfH kn2 b []) (q : Q xs.isEmpty sh) :
    wpAny (model pg wd) A (Builtin.Dict.samePairs nm a b) Q E sh := by
  obtain ⟨o1, e1, p1, g1, _, d1, t1, _, _⟩ := m1
  obtain ⟨o2, e2, p2, g2, _, d2, t2, _, _⟩ := m2
  have z1 : e1.size = xs.length := size_of_entries t1
  have z2 : e2.size = 0 := size_of_entries t2
  unfold Builtin.Dict.samePairs
  unfold Builtin.Dict.showsAll
  rw [if_neg (by rw [na]; decide : ¬ (a == sysModules) = true), if_neg (by rw [nb]; decide : ¬ (b == sysModules) = true)]
  apply wpAny_bind
  apply wpAny_pure
  apply wpAny_bind
  apply wpAny_pure
  apply wpAny_bind
  apply wpAny_dictEntries g1 d1
  dsimp only
  apply wpAny_bind
  apply wpAny_dictEntries g2 d2
  cases xs with
  | cons x r =>
    have hne : e1.size ≠ e2.size := by
      rw [z1, z2]
      exact Nat.succ_ne_zero _
    rw [if_pos (by simpa using hne)]
    apply wpAny_bind
    apply wpAny_rule
    apply wpAny_pure
    exact q
  | nil =>
    have z0 : e1.size = 0 := z1
    rw [if_neg (by rw [z0, z2]; decide)]
    apply wpAny_bind
    apply wpAny_dictEpoch g1 d1
    apply wpAny_bind
    rw [z0, Std.Legacy.Range.forIn_eq_forIn_range']
    simp only [Std.Legacy.Range.size, Nat.sub_self, Nat.zero_add, Nat.zero_div, List.range'_zero, List.forIn_nil]
    apply wpAny_pure
    apply wpAny_pure
    exact q
end
/-- d == e, e without keys -/
def rEqE : R2 := fun x y H Q => ∃ (a b : Addr) (kvs : List (List Key × V)), x = .ref a ∧ y = .ref b ∧ H a = some (.dT kvs) ∧ H b = some (.dT []) ∧ Q (.bl kvs.isEmpty) H
theorem op_eqE {X : Cx} (hu : X.A.units + 64 < cLine) : OpR X (compareOp .Eq) rEqE := by
  intro pins s σ H x y v u Q I rx ry hyp
  obtain ⟨a, b, kvs, rfl, rfl, ha, hb, q⟩ := hyp
  obtain rfl : v = .ref a := rx
  obtain rfl : u = .ref b := ry
  obtain ⟨_, na, xs, r1, m1⟩ := dt_of I.hok ha
  obtain ⟨_, nb, ys, r2, m2⟩ := dt_of I.hok hb
  cases r2
  have hl : kvs.length = xs.length := Paired.length r1
  have e : kvs.isEmpty = xs.isEmpty := by
    cases kvs <;> cases xs <;> first | rfl | cases hl
  rw [e] at q
  refine wpAny_richCompare_same_room (op := .Eq) m1.typeIs m2.typeIs PySem.F.slot_dict_eq (wpAny_call_entry PySem.F.slot_dict_eq m1.typeIs PySem.F.entry_dict_eq ?_ (PySem.F.args_dict_eq_2 _ _)) (by omega)
  refine (?_ : wpAny _ _ (Builtin.Dict.dictSlotArgs "__eq__" ⟨[.ref a, .ref b], []⟩ >>= _) _ _ s)
  apply wpAny_bind
  unfold Builtin.Dict.dictSlotArgs; apply wpAny_bind
  refine wpAny_notOrdered_dict m1.typeIs ?_
  refine (?_ : wpAny _ _ (pure (Value.ref a, Value.ref b)) _ _ s)
  apply wpAny_pure
  apply wpAny_bind
  apply wpAny_isInstance (T := "dict") m2.typeIs PySem.F.sub_dict_dict
  simp only [Bool.false_eq_true, Bool.not_true, if_false]
  apply wpAny_bind
  apply wpAny_pure
  apply wpAny_bind
  apply wpAny_pure
  apply wpAny_bind
  refine pairs_bare na nb m1 m2 ?_
  refine wpAny_pure ⟨_, rfl, ?_, ?_⟩
  · exact fun x => nomatch x
  · simpa using ⟨.bl xs.isEmpty, H, I, rfl, q⟩
end My
namespace My
open PySem PySem.Spec PyProof.Rows L2
local macro_rules | `(tactic| walk_at "sq") => `(tactic| first | assumption | exact .inl (.inl (by assumption)) | exact .inl (.inl upd_same))
local macro_rules | `(tactic| walk_at "st") => `(tactic| first
  | refine ⟨_, rfl, ?_⟩
  | refine ⟨_, _, rfl, rfl, ?_⟩
  | refine ⟨cmull (by omega) (by omega), ?_⟩
  | refine ⟨cmulr (by omega) (by omega), ?_⟩
  | refine ⟨cdivw (by omega) (by omega), ?_⟩
  | refine ⟨(⟨by decide, by decide⟩ : CDiv _ _), ?_⟩
  | refine ⟨(show (0 : Int) < _ by omega), ?_⟩
  | refine ⟨(show (0 : Int) ≤ _ by omega), ?_⟩
  | refine ⟨(⟨by decide, by decide, by decide⟩ : CPow _ _), ?_⟩
  | refine ⟨(⟨by omega, by omega, by omega⟩ : CPow _ _), ?_⟩
  | refine .inl ⟨_, rfl, ?_⟩
  | refine .inr ⟨_, rfl, ?_⟩
  | refine ⟨_, _, _, _, _, rfl, .ty _, .base (.int _), kit_ii, ?_⟩
  | refine ⟨_, _, _, _, _, rfl, .ty _, .base (.int _), kit_ib, ?_⟩
  | refine ⟨_, _, _, _, _, rfl, .ty _, .base (.tup (by assumption)), kit_tt, ?_⟩
  | refine ⟨_, _, _, _, _, rfl, .ty _, .base (.lst (by assumption)), kit_ll, ?_⟩
  | refine iteT ?_
  | refine iteF ?_
  | refine ⟨_, _, rfl, .inl (.inl (by first | assumption | exact upd_same)), rfl, ?_⟩
  | refine ⟨_, _, rfl, ?_⟩
  | refine ⟨cmulr (by split <;> decide) (by split <;> decide), ?_⟩
  | refine ⟨_, _, rfl, .inl (by walk_at "sq"), ?_⟩
  | refine ⟨_, _, rfl, .inr (by walk_at "sq"), ?_⟩
  | refine ⟨_, _, _, _, rfl, rfl, (by walk_at "sq"), rfl, ?_⟩
  | refine ⟨rfl, ?_⟩
  | (refine ite2 (fun hc => ?_) (fun hc => ?_) <;> (try simp only [decide_eq_true_eq, Bool.not_eq_true', decide_eq_false_iff_not, Bool.not_eq_true, Bool.not_eq_false', Bool.false_eq_true, reduceCtorEq, V.int.injEq, not_true_eq_false, not_false_eq_true] at hc) <;> (try (exfalso; omega))))
local macro_rules | `(tactic| walk_at "ev") => `(tactic| repeat' walk_at "st")
def top (i : Nat) : Stmt := PySem.Challenge.pw_narrowingbits_k18_bands_by_words.main.body.getD i (.Pass ⟨0, 0, 0, 0⟩)
abbrev s_wall : Stmt := top 0
theorem sc_wall : FnScope ["k"] ["k"] (defScope s_wall) := ⟨rfl, rfl, rfl, by decide +kernel, rfl, by decide +kernel, by decide +kernel⟩
abbrev s_is_number : Stmt := top 7
theorem sc_is_number : FnScope ["thing"] ["thing"] (defScope s_is_number) := ⟨rfl, rfl, rfl, by decide +kernel, rfl, by decide +kernel, by decide +kernel⟩
abbrev s_check_rect : Stmt := top 9
theorem sc_check_rect : FnScope ["rect", "x0", "x1", "y0", "y1"] ["rect"] (defScope s_check_rect) := ⟨rfl, rfl, rfl, by decide +kernel, rfl, by decide +kernel, by decide +kernel⟩
abbrev s_has_cells : Stmt := top 10
theorem sc_has_cells : FnScope ["rect", "x0", "x1", "y0", "y1"] ["rect"] (defScope s_has_cells) := ⟨rfl, rfl, rfl, by decide +kernel, rfl, by decide +kernel, by decide +kernel⟩
abbrev s_is_row : Stmt := top 11
theorem sc_is_row : FnScope ["thing", "width", "number"] ["thing", "width"] (defScope s_is_row) := ⟨rfl, rfl, rfl, by decide +kernel, rfl, by decide +kernel, by decide +kernel⟩
abbrev s_rows_fit : Stmt := top 12
theorem sc_rows_fit : FnScope ["rows", "rect", "x0", "x1", "y0", "y1", "height", "row"] ["rows", "rect"] (defScope s_rows_fit) := ⟨rfl, rfl, rfl, by decide +kernel, rfl, by decide +kernel, by decide +kernel⟩
abbrev s_pair : Stmt := top 15
theorem sc_pair : FnScope ["a", "b", "d"] ["a", "b"] (defScope s_pair) := ⟨rfl, rfl, rfl, by decide +kernel, rfl, by decide +kernel, by decide +kernel⟩
abbrev s_back : Stmt := top 16
theorem sc_back : FnScope ["s", "d", "b"] ["s", "d"] (defScope s_back) := ⟨rfl, rfl, rfl, by decide +kernel, rfl, by decide +kernel, by decide +kernel⟩
abbrev s_low_rect : Stmt := top 20
theorem sc_low_rect : FnScope ["rect", "letter", "x0", "x1", "y0", "y1"] ["rect", "letter"] (defScope s_low_rect) := ⟨rfl, rfl, rfl, by decide +kernel, rfl, by decide +kernel, by decide +kernel⟩
abbrev s_high_rect : Stmt := top 21
theorem sc_high_rect : FnScope ["rect", "letter", "x0", "x1", "y0", "y1"] ["rect", "letter"] (defScope s_high_rect) := ⟨rfl, rfl, rfl, by decide +kernel, rfl, by decide +kernel, by decide +kernel⟩
abbrev s_band_rects : Stmt := top 22
theorem sc_band_rects : FnScope ["rect", "word", "low", "highs", "letter"] ["rect", "word"] (defScope s_band_rects) := ⟨rfl, rfl, rfl, by decide +kernel, rfl, by decide +kernel, by decide +kernel⟩
abbrev s_halved : Stmt := top 23
theorem sc_halved : FnScope ["grid", "letter", "rect", "start", "lows", "highs", "numbers", "low", "high"] ["grid", "letter"] (defScope s_halved) := ⟨rfl, rfl, rfl, by decide +kernel, rfl, by decide +kernel, by decide +kernel⟩
abbrev s_joined : Stmt := top 24
theorem sc_joined : FnScope ["low", "high", "rect", "letter", "start", "stop", "lows", "_", "highs", "one", "other", "numbers"] ["low", "high", "rect", "letter"] (defScope s_joined) := ⟨rfl, rfl, rfl, by decide +kernel, rfl, by decide +kernel, by decide +kernel⟩
abbrev s_bands : Stmt := top 25
theorem sc_bands : FnScope ["grid", "word", "low", "highs", "letter", "high"] ["grid", "word"] (defScope s_bands) := ⟨rfl, rfl, rfl, by decide +kernel, rfl, by decide +kernel, by decide +kernel⟩
abbrev s_unbands : Stmt := top 26
theorem sc_unbands : FnScope ["parts", "rect", "word", "part", "low", "number", "high"] ["parts", "rect", "word"] (defScope s_unbands) := ⟨rfl, rfl, rfl, by decide +kernel, rfl, by decide +kernel, by decide +kernel⟩
abbrev s_check_cells : Stmt := top 27
theorem sc_check_cells : FnScope ["rect"] ["rect"] (defScope s_check_cells) := ⟨rfl, rfl, rfl, by decide +kernel, rfl, by decide +kernel, by decide +kernel⟩
abbrev s_check_letter : Stmt := top 28
theorem sc_check_letter : FnScope ["letter"] ["letter"] (defScope s_check_letter) := ⟨rfl, rfl, rfl, by decide +kernel, rfl, by decide +kernel, by decide +kernel⟩
abbrev s_check_word : Stmt := top 29
theorem sc_check_word : FnScope ["word", "letter"] ["word"] (defScope s_check_word) := ⟨rfl, rfl, rfl, by decide +kernel, rfl, by decide +kernel, by decide +kernel⟩
abbrev s_along : Stmt := top 30
theorem sc_along : FnScope ["rows", "letter", "column"] ["rows", "letter"] (defScope s_along) := ⟨rfl, rfl, rfl, by decide +kernel, rfl, by decide +kernel, by decide +kernel⟩
abbrev s_grid : Stmt := top 31
theorem sc_grid : FnScope ["rect", "numbers", "letter"] ["rect", "numbers", "letter"] (defScope s_grid) := ⟨rfl, rfl, rfl, by decide +kernel, rfl, by decide +kernel, by decide +kernel⟩
abbrev s_is_alone : Stmt := top 32
theorem sc_is_alone : FnScope ["i", "start", "stop"] ["i", "start", "stop"] (defScope s_is_alone) := ⟨rfl, rfl, rfl, by decide +kernel, rfl, by decide +kernel, by decide +kernel⟩
abbrev s_halved_numbers : Stmt := top 33
theorem sc_halved_numbers : FnScope ["numbers", "start", "stop", "low", "high", "i", "first", "s", "d"] ["numbers", "start"] (defScope s_halved_numbers) := ⟨rfl, rfl, rfl, by decide +kernel, rfl, by decide +kernel, by decide +kernel⟩
abbrev s_joined_numbers : Stmt := top 34
theorem sc_joined_numbers : FnScope ["low", "high", "start", "stop", "numbers", "i", "s"] ["low", "high", "start", "stop"] (defScope s_joined_numbers) := ⟨rfl, rfl, rfl, by decide +kernel, rfl, by decide +kernel, by decide +kernel⟩
abbrev s_law_pool : Stmt := top 36
theorem sc_law_pool : FnScope ["_law_script", "_law_k", "_law_cell", "_law_big", "_law_mixed"] ["_law_script", "_law_k"] (defScope s_law_pool) := ⟨rfl, rfl, rfl, by decide +kernel, rfl, by decide +kernel, by decide +kernel⟩
abbrev s_law_take : Stmt := top 37
theorem sc_law_take : FnScope ["_law_source", "_law_top", "_law_drawn"] ["_law_source", "_law_top"] (defScope s_law_take) := ⟨rfl, rfl, rfl, by decide +kernel, rfl, by decide +kernel, by decide +kernel⟩
abbrev s_law_one : Stmt := top 38
theorem sc_law_one : FnScope ["_law_source", "_law_things"] ["_law_source", "_law_things"] (defScope s_law_one) := ⟨rfl, rfl, rfl, by decide +kernel, rfl, by decide +kernel, by decide +kernel⟩
abbrev s_law_is_number : Stmt := top 39
theorem sc_law_is_number : FnScope ["_law_n"] ["_law_n"] (defScope s_law_is_number) := ⟨rfl, rfl, rfl, by decide +kernel, rfl, by decide +kernel, by decide +kernel⟩
abbrev s_law_number : Stmt := top 40
theorem sc_law_number : FnScope ["_law_source", "_law_way", "_law_great"] ["_law_source"] (defScope s_law_number) := ⟨rfl, rfl, rfl, by decide +kernel, rfl, by decide +kernel, by decide +kernel⟩
abbrev s_law_rect : Stmt := top 41
theorem sc_law_rect : FnScope ["_law_source", "_law_most", "_law_found", "_law_side", "_law_begin"] ["_law_source", "_law_most"] (defScope s_law_rect) := ⟨rfl, rfl, rfl, by decide +kernel, rfl, by decide +kernel, by decide +kernel⟩
abbrev s_law_rows : Stmt := top 42
theorem sc_law_rows : FnScope ["_law_source", "_law_rect_here", "_law_x0", "_law_x1", "_law_y0", "_law_y1", "_law_y", "_law_x"] ["_law_source", "_law_rect_here"] (defScope s_law_rows) := ⟨rfl, rfl, rfl, by decide +kernel, rfl, by decide +kernel, by decide +kernel⟩
abbrev s_law_cells : Stmt := top 43
theorem sc_law_cells : FnScope ["_law_rect_here", "_law_rows_here", "_law_found", "_law_y", "_law_x"] ["_law_rect_here", "_law_rows_here"] (defScope s_law_cells) := ⟨rfl, rfl, rfl, by decide +kernel, rfl, by decide +kernel, by decide +kernel⟩
abbrev s_law_half : Stmt := top 44
theorem sc_law_half : FnScope ["_law_cells_here", "_law_letter", "_law_low", "_law_high", "_law_spot", "_law_x", "_law_y", "_law_goal", "_law_other"] ["_law_cells_here", "_law_letter"] (defScope s_law_half) := ⟨rfl, rfl, rfl, by decide +kernel, rfl, by decide +kernel, by decide +kernel⟩
abbrev s_law_half_rects : Stmt := top 45
theorem sc_law_half_rects : FnScope ["_law_rect_here", "_law_letter", "_law_x0", "_law_x1", "_law_y0", "_law_y1"] ["_law_rect_here", "_law_letter"] (defScope s_law_half_rects) := ⟨rfl, rfl, rfl, by decide +kernel, rfl, by decide +kernel, by decide +kernel⟩
abbrev s_law_rows_of : Stmt := top 46
theorem sc_law_rows_of : FnScope ["_law_rect_here", "_law_cells_here", "_law_x0", "_law_x1", "_law_y0", "_law_y1", "_law_y", "_law_x"] ["_law_rect_here", "_law_cells_here"] (defScope s_law_rows_of) := ⟨rfl, rfl, rfl, by decide +kernel, rfl, by decide +kernel, by decide +kernel⟩
abbrev s_law_bands : Stmt := top 47
theorem sc_law_bands : FnScope ["_law_rect_here", "_law_cells_here", "_law_word_here", "_law_found", "_law_letter", "_law_rects", "_law_parts"] ["_law_rect_here", "_law_cells_here", "_law_word_here"] (defScope s_law_bands) := ⟨rfl, rfl, rfl, by decide +kernel, rfl, by decide +kernel, by decide +kernel⟩
abbrev s_law_is_grid : Stmt := top 48
theorem sc_law_is_grid : FnScope ["_law_grid", "_law_rect_here", "_law_rows_here", "_law_row", "_law_n"] ["_law_grid", "_law_rect_here", "_law_rows_here"] (defScope s_law_is_grid) := ⟨rfl, rfl, rfl, by decide +kernel, rfl, by decide +kernel, by decide +kernel⟩
abbrev s_law_refused : Stmt := top 49
theorem sc_law_refused : FnScope ["_law_call", "e", "_law_kinds"] ["_law_call"] (defScope s_law_refused) := ⟨rfl, rfl, rfl, by decide +kernel, rfl, by decide +kernel, by decide +kernel⟩
abbrev s_law_word : Stmt := top 50
theorem sc_law_word : FnScope ["_law_source", "_law_many", "_law_turn"] ["_law_source"] (defScope s_law_word) := ⟨rfl, rfl, rfl, by decide +kernel, rfl, by decide +kernel, by decide +kernel⟩
abbrev s_law_right : Stmt := top 51
theorem sc_law_right : FnScope ["_law_source", "_law_rect_here", "_law_word_here", "_law_rows_here", "_law_due", "_law_told", "_law_part", "_law_place", "_law_cells_here", "_law_some", "_law_again", "_law_one_here", "_law_other"] ["_law_source", "_law_rect_here", "_law_word_here"] (defScope s_law_right) := ⟨rfl, rfl, rfl, by decide +kernel, rfl, by decide +kernel, by decide +kernel⟩
abbrev s_law_refusals_right : Stmt := top 52
theorem sc_law_refusals_right : FnScope ["_law_source", "_law_rect_here", "_law_word_here", "_law_a", "_law_b", "_law_c", "_law_d", "_law_at", "_law_bare", "_law_grid", "_law_parts", "_law_strange", "_law_wrong", "_law_x0", "_law_x1", "_law_y0", "_law_y1"] ["_law_source", "_law_rect_here", "_law_word_here"] (defScope s_law_refusals_right) := ⟨rfl, rfl, rfl, by decide +kernel, rfl, by decide +kernel, by decide +kernel⟩
abbrev s_law : Stmt := top 53
theorem sc_law : FnScope ["_law_script", "_law_k", "_law_source", "_law_rect_here", "_law_word_here"] ["_law_script"] (defScope s_law) := ⟨rfl, rfl, rfl, by decide +kernel, rfl, by decide +kernel, by decide +kernel⟩
abbrev s_BadField_init : Stmt := inClass (top 3) 0
theorem sc_BadField_init : FnScope ["self", "name"] ["self", "name"] (defScope s_BadField_init) := ⟨rfl, rfl, rfl, by decide +kernel, rfl, by decide +kernel, by decide +kernel⟩
abbrev s_Grid_init : Stmt := inClass (top 13) 0
theorem sc_Grid_init : FnScope ["self", "rect", "rows", "row"] ["self", "rect", "rows"] (defScope s_Grid_init) := ⟨rfl, rfl, rfl, by decide +kernel, rfl, by decide +kernel, by decide +kernel⟩
abbrev s_Grid_rect : Stmt := inClass (top 13) 1
theorem sc_Grid_rect : FnScope ["self"] ["self"] (defScope s_Grid_rect) := ⟨rfl, rfl, rfl, by decide +kernel, rfl, by decide +kernel, by decide +kernel⟩
abbrev s_Grid_rows : Stmt := inClass (top 13) 2
theorem sc_Grid_rows : FnScope ["self", "row"] ["self"] (defScope s_Grid_rows) := ⟨rfl, rfl, rfl, by decide +kernel, rfl, by decide +kernel, by decide +kernel⟩
abbrev s_Grid_at : Stmt := inClass (top 13) 3
theorem sc_Grid_at : FnScope ["self", "x", "y"] ["self", "x", "y"] (defScope s_Grid_at) := ⟨rfl, rfl, rfl, by decide +kernel, rfl, by decide +kernel, by decide +kernel⟩
section
variable {P : Program} {w : World} {K : PySem.W.Frag} {mg : Str → Option Value} {base : Heap}
structure Txt (mg : Str → Option Value) : Prop where
  z_int : mg "int" = none
  z_bool : mg "bool" = none
  z_len : mg "len" = none
  z_max : mg "max" = none
  z_min : mg "min" = none
  z_range : mg "range" = none
  z_isinstance : mg "isinstance" = none
  z_list : mg "list" = none
  z_tuple : mg "tuple" = none
  z_zip : mg "zip" = none
  z_sorted : mg "sorted" = none
  z_enumerate : mg "enumerate" = none
  z_reversed : mg "reversed" = none
/-! ### a draw -/
def spTake : Sp := fun vs H Q _ => ∃ (a : Addr) (m : Int), vs = [.ref a, .int m] ∧ Src H a ∧ 0 < m ∧ m < 18446744073709551616 ∧ ∀ (r : Int) (H' : Hp), 0 ≤ r → r < m → Src H' a → But a H H' → Q (.int r) H'
theorem ok_take {f : Addr} {fd : FuncData} {k : Nat} (F : Fun K "_law_take" "_law_take" s_law_take f fd) (T : Txt mg) : FnOk P w K mg base CX0 (k + 1) f fd ["_law_source", "_law_top"] spTake := by
  refine F.ok sc_law_take (fun vs H Q E h => ?_) (fun cdv A outer s H vs Q E hr h => ?_)
  · obtain ⟨a, m, rfl, _⟩ := h
    rfl
  · obtain ⟨a, m, rfl, ⟨x, y, ha, hx, hy, hy2⟩, hm, hm2, q⟩ := h
    refine ⟨_, (pss_cons (ps_if (pt_cmpR op_gt (pe_ix ix_list (pv 0) pe_int (fun _ _ => rfl)) pe_int (nomark _)) (pss_cons (ps_set (i := 2) sc_law_take.nd rfl (Or.inl rfl) (pe_op op_mod (pe_callTy call_int1 (by rfl) T.z_int PyProof.Rows.boot_int (pa_cons (pe_ix ix_list (pv 0) pe_int (fun _ _ => rfl)) pa_nil)) (pv 1)))
    (pss_cons (ps_asg (pe_op op_fdivW (pe_ix ix_list (pv 0) pe_int (fun _ _ => rfl)) (pv 1)) (pg_sub (pv 0) pe_int set_list))
    (pss_one (ps_ret (pv 2))))) pss_nil)
    (pss_cons (ps_asg (pe_op op_mod (pe_callTy call_int1 (by rfl) T.z_int PyProof.Rows.boot_int (pa_cons (pe_op op_add (pe_op op_mul (pe_ix ix_list (pv 0) pe_int (fun _ _ => rfl)) pe_int) pe_int) pa_nil)) pe_int) (pg_sub (pv 0) pe_int set_list))
    (pss_one (ps_ret (pe_op op_mod (pe_callTy call_int1 (by rfl) T.z_int PyProof.Rows.boot_int (pa_cons (pe_op op_fdiv (pe_op op_mod (pe_callTy call_int1 (by rfl) T.z_int PyProof.Rows.boot_int (pa_cons (pe_op op_mul (pe_ix ix_list (pv 0) pe_int (fun _ _ => rfl)) (pe_ix ix_list (pv 0) pe_int (fun _ _ => rfl))) pa_nil)) pe_int) pe_int) pa_nil)) (pv 1)))))), ?_⟩
    walk_at "ev"
    · refine q _ _ (Int.emod_nonneg _ (by omega)) (Int.emod_lt_of_pos _ hm) ⟨_, _, upd_same, Int.ediv_nonneg hx (by omega), hy, hy2⟩ But.upd
    · refine q _ _ (Int.emod_nonneg _ (by omega)) (Int.emod_lt_of_pos _ hm) ⟨_, _, upd_same, hx, Int.emod_nonneg _ (by omega), Int.emod_lt_of_pos _ (by omega)⟩ But.upd
/-! ### the pool of a cell -/
def spPool (K : PySem.W.Frag) : Sp := fun vs H Q _ => ∃ (a : Addr) (ns : List Int) (k : Int), vs = [.ref a, .int k] ∧ SqL K H a (ns.map V.int) ∧ 0 ≤ k ∧ k < 100 ∧ ∀ (p : Addr) (H' : Hp), H p = none → Same H H' → Src H' p → Q (.ref p) H'
theorem ok_pool {f : Addr} {fd : FuncData} {k : Nat} (F : Fun K "_law_pool" "_law_pool" s_law_pool f fd) (T : Txt mg) : FnOk P w K mg base CX0 (k + 1) f fd ["_law_script", "_law_k"] (spPool K) := by
  refine F.ok sc_law_pool (fun vs H Q E h => ?_) (fun cdv A outer s H vs Q E hr h => ?_)
  · obtain ⟨a, ns, k, rfl, _⟩ := h
    rfl
  · obtain ⟨a, ns, k, rfl, hS, hk, hk2, q⟩ := h
    refine ⟨_, (pss_cons (ps_set (i := 2) sc_law_pool.nd rfl (Or.inl rfl) pe_int)
    (pss_cons (ps_if (pt_cmpR op_lt (pv 1) (pe_callB call_len_seq (by rfl) T.z_len PySem.boot_len (pa_cons (pv 0) pa_nil)) (nomark _)) (pss_one (ps_set (i := 2) sc_law_pool.nd rfl (Or.inl rfl) (pe_ix ix_list (pv 0) (pv 1) (fun _ _ => rfl)))) pss_nil)
    (pss_cons (ps_set (i := 3) sc_law_pool.nd rfl (Or.inl rfl) (pe_callB (call_max2 rfl) (by rfl) T.z_max PyProof.Rows.boot_max (pa_cons (pe_callTy call_int1 (by rfl) T.z_int PyProof.Rows.boot_int (pa_cons (pv 2) pa_nil)) (pa_cons (pe_callTy call_int1 (by rfl) T.z_int PyProof.Rows.boot_int (pa_cons (pe_op op_sub (pe_un un_neg pe_int) (pv 2)) pa_nil)) pa_nil))))
    (pss_cons (ps_set (i := 4) sc_law_pool.nd rfl (Or.inl rfl) (pe_op op_mod (pe_callTy call_int1 (by rfl) T.z_int PyProof.Rows.boot_int (pa_cons (pe_op op_mul (pe_op op_add (pe_op op_add (pe_op op_add (pe_op op_mod (pe_callTy call_int1 (by rfl) T.z_int PyProof.Rows.boot_int (pa_cons (pv 3) pa_nil)) pe_int) (pe_op op_mul (pe_op op_mul pe_int (pv 1)) (pv 1))) (pe_op op_mul pe_int (pv 1))) pe_int) pe_int) pa_nil)) pe_int))
    (pss_one (ps_ret (pe_lst (pa_cons (pe_op op_mul (pv 3) (pe_callTy call_int1 (by rfl) T.z_int PyProof.Rows.boot_int (pa_cons (pe_cmpR op_ge (pv 3) (pe_op (op_powc (a := 10) (b := 18) (c := 1000000000000000000) ⟨by decide, by decide, by decide⟩ (by decide +kernel)) pe_int pe_int) (nomark _)) pa_nil))) (pa_cons (pv 4) pa_nil))))))))), ?_⟩
    walk_at "ev"
    · obtain ⟨z, hz⟩ := at_lt hk (by assumption)
      refine ⟨_, _, _, _, rfl, rfl, hS, hz, ?_⟩
      walk_at "ev"
      refine ⟨(by show 2 ≤ sizeLine; decide), fun p np => q p _ np (same_upd np) ⟨_, _, upd_same, pool_nn _ _, Int.emod_nonneg _ (by omega), Int.emod_lt_of_pos _ (by omega)⟩⟩
    · refine ⟨(by show 2 ≤ sizeLine; decide), fun p np => q p _ np (same_upd np) ⟨_, _, upd_same, pool_nn _ _, Int.emod_nonneg _ (by omega), Int.emod_lt_of_pos _ (by omega)⟩⟩
/-! ### one of some things -/
def spOne : Sp := fun vs H Q _ => ∃ (a t : Addr) (xs : List V), vs = [.ref a, .ref t] ∧ Src H a ∧ t ≠ a ∧ H t = some (.lst xs) ∧ xs ≠ [] ∧ xs.length ≤ 1000 ∧ ∀ (v : V) (H' : Hp), v ∈ xs → Src H' a → But a H H' → Q v H'
theorem ok_one {f : Addr} {fd : FuncData} {k : Nat} (F : Fun K "_law_one" "_law_one" s_law_one f fd) (T : Txt mg) (c_law_take : C8.Cal P w K mg base 1 "_law_take" spTake []) : FnOk P w K mg base CX0 (k + 2) f fd ["_law_source", "_law_things"] spOne := by
  refine F.ok sc_law_one (fun vs H Q E h => ?_) (fun cdv A outer s H vs Q E hr h => ?_)
  · obtain ⟨a, t, xs, rfl, _⟩ := h
    rfl
  · obtain ⟨a, t, xs, rfl, ha, hta, ht, hx, hl, q⟩ := h
    refine ⟨_, (pss_one (ps_ret (pe_ix ix_list (pv 1) (C8.pe_c c_law_take hr (by omega) (by rfl) (pa_cons (pv 0) (pa_cons (pe_callB call_len_seq (by rfl) T.z_len PySem.boot_len (pa_cons (pv 1) pa_nil)) pa_nil))) (fun _ _ => rfl)))), ?_⟩
    walk_at "ev"
    have hp : 0 < xs.length := List.length_pos_iff.mpr hx
    refine ⟨ha, (by omega), (by omega), fun r H' h0 h1 s1 u1 => ?_⟩
    obtain ⟨v, hv, hm⟩ := at_mem (xs := xs) h0 h1
    exact ⟨_, _, _, _, rfl, rfl, .inl (.inl (u1.at hta ht)), hv, q v H' hm s1 u1⟩
/-! ### numbers that are drawn -/
def spNum : Sp := fun vs H Q _ => ∃ (a : Addr), vs = [.ref a] ∧ Src H a ∧ ∀ (n : Int) (H' : Hp), Src H' a → Up a H H' → Q (.int n) H'
theorem ok_number {f : Addr} {fd : FuncData} {k : Nat} (F : Fun K "_law_number" "_law_number" s_law_number f fd) (T : Txt mg) (c_law_take : C8.Cal P w K mg base 1 "_law_take" spTake []) : FnOk P w K mg base CX0 (k + 2) f fd ["_law_source"] spNum := by
  refine F.ok sc_law_number (fun vs H Q E h => ?_) (fun cdv A outer s H vs Q E hr h => ?_)
  · obtain ⟨a, rfl, _⟩ := h
    rfl
  · obtain ⟨a, rfl, ha, q⟩ := h
    refine ⟨_, (pss_cons (ps_set (i := 1) sc_law_number.nd rfl (Or.inl rfl) (C8.pe_c c_law_take hr (by omega) (by rfl) (pa_cons (pv 0) (pa_cons pe_int pa_nil))))
    (pss_cons (ps_if (pt_cmpR op_lt (pv 1) pe_int (nomark _)) (pss_one (ps_ret (pe_op op_sub (C8.pe_c c_law_take hr (by omega) (by rfl) (pa_cons (pv 0) (pa_cons pe_int pa_nil))) pe_int))) pss_nil)
    (pss_cons (ps_if (pt_cmpR op_eq (pv 1) pe_int (nomark _)) (pss_one (ps_ret (pe_op op_sub (C8.pe_c c_law_take hr (by omega) (by rfl) (pa_cons (pv 0) (pa_cons pe_int pa_nil))) pe_int))) pss_nil)
    (pss_cons (ps_set (i := 2) sc_law_number.nd rfl (Or.inl rfl) (pe_op op_sub (pe_op op_sub (pe_op (op_powc (a := 10) (b := 30) (c := 1000000000000000000000000000000) ⟨by decide, by decide, by decide⟩ (by decide +kernel)) pe_int pe_int) (pe_op op_mul (pe_op (op_powc (a := 10) (b := 9) (c := 1000000000) ⟨by decide, by decide, by decide⟩ (by decide +kernel)) pe_int pe_int) (C8.pe_c c_law_take hr (by omega) (by rfl) (pa_cons (pv 0) (pa_cons (pe_op (op_powc (a := 10) (b := 9) (c := 1000000000) ⟨by decide, by decide, by decide⟩ (by decide +kernel)) pe_int pe_int) pa_nil))))) (C8.pe_c c_law_take hr (by omega) (by rfl) (pa_cons (pv 0) (pa_cons (pe_op (op_powc (a := 10) (b := 9) (c := 1000000000) ⟨by decide, by decide, by decide⟩ (by decide +kernel)) pe_int pe_int) pa_nil)))))
    (pss_one (ps_ret (pe_ifExp (pt_cmpR op_eq (C8.pe_c c_law_take hr (by omega) (by rfl) (pa_cons (pv 0) (pa_cons pe_int pa_nil))) pe_int (nomark _)) (pv 2) (pe_op op_sub pe_int (pv 2))))))))), ?_⟩
    walk_at "ev"
    refine ⟨ha, by decide, by decide, fun r1 H1 h0 h1 s1 u1 => ?_⟩
    walk_at "ev"
    · refine ⟨s1, by decide, by decide, fun r2 H2 g0 g1 s2 u2 => ?_⟩
      walk_at "ev"
      exact q _ _ s2 (u1.up.trans u2.up)
    · refine ⟨s1, by decide, by decide, fun r2 H2 g0 g1 s2 u2 => ?_⟩
      walk_at "ev"
      exact q _ _ s2 (u1.up.trans u2.up)
    · refine ⟨s1, by decide, by decide, fun r2 H2 g0 g1 s2 u2 => ?_⟩
      walk_at "ev"
      refine ⟨s2, by decide, by decide, fun r3 H3 k0 k1 s3 u3 => ?_⟩
      walk_at "ev"
      refine ⟨s3, by decide, by decide, fun r4 H4 l0 l1 s4 u4 => ?_⟩
      walk_at "ev"
      · exact q _ _ s4 ((u1.up.trans u2.up).trans (u3.up.trans u4.up))
      · exact q _ _ s4 ((u1.up.trans u2.up).trans (u3.up.trans u4.up))
/-! ### a rect -/
def Sd (m x0 x1 : Int) : Prop := x0 < x1 ∧ x1 ≤ x0 + m ∧ -2000000000 ≤ x0 ∧ x0 ≤ 2000000000
def rcs (m : Int) : Nat → List Int → Prop
  | 0, xs => xs = []
  | 1, xs => ∃ a b, xs = [a, b] ∧ Sd m a b
  | 2, xs => ∃ a b c d, xs = [a, b, c, d] ∧ Sd m a b ∧ Sd m c d
  | _, _ => False
def spRect : Sp := fun vs H Q _ => ∃ (a : Addr) (m : Int), vs = [.ref a, .int m] ∧ Src H a ∧ 0 < m ∧ m ≤ 1000 ∧ ∀ (q : Addr) (H' : Hp) (x0 x1 y0 y1 : Int), H q = none → Src H' a → Up a H H' → H' q = some (.tup [.int x0, .int x1, .int y0, .int y1]) → Sd m x0 x1 → Sd m y0 y1 → Q (.ref q) H'
theorem ok_rect {f : Addr} {fd : FuncData} {k : Nat} (F : Fun K "_law_rect" "_law_rect" s_law_rect f fd) (T : Txt mg) (c_law_take : C8.Cal P w K mg base 1 "_law_take" spTake []) (c_law_one : C8.Cal P w K mg base 2 "_law_one" spOne []) : FnOk P w K mg base CX0 (k + 3) f fd ["_law_source", "_law_most"] spRect := by
  refine F.ok sc_law_rect (fun vs H Q E h => ?_) (fun cdv A outer s H vs Q E hr h => ?_)
  · obtain ⟨a, m, rfl, _⟩ := h
    rfl
  · obtain ⟨a, m, rfl, ha, hm, hm2, q⟩ := h
    refine ⟨_, (pss_cons (ps_set (i := 2) sc_law_rect.nd rfl (Or.inl rfl) (pe_lst pa_nil))
    (pss_cons (ps_for PassesOwn.never rfl (pi_range1 (by rfl) T.z_range (pa_cons pe_int pa_nil)) (pg_name (i := 3) sc_law_rect.nd rfl (Or.inl rfl))
      (pss_cons (ps_set (i := 4) sc_law_rect.nd rfl (Or.inl rfl) (pe_op op_add (pe_op op_sub (C8.pe_c c_law_take hr (by omega) (by rfl) (pa_cons (pv 0) (pa_cons pe_int pa_nil))) pe_int) (C8.pe_c c_law_one hr (by omega) (by rfl) (pa_cons (pv 0) (pa_cons (pe_lst (pa_cons pe_int (pa_cons pe_int (pa_cons pe_int (pa_cons (pe_op op_sub pe_int (pe_op (op_powc (a := 10) (b := 9) (c := 1000000000) ⟨by decide, by decide, by decide⟩ (by decide +kernel)) pe_int pe_int)) (pa_cons (pe_op op_add (pe_op (op_powc (a := 10) (b := 9) (c := 1000000000) ⟨by decide, by decide, by decide⟩ (by decide +kernel)) pe_int pe_int) pe_int) pa_nil)))))) pa_nil)))))
    (pss_one (ps_set (i := 2) sc_law_rect.nd rfl (Or.inl rfl) (pe_op op_cat (pv 2) (pe_lst (pa_cons (pv 4) (pa_cons (pe_op op_add (pe_op op_add (pv 4) pe_int) (C8.pe_c c_law_take hr (by omega) (by rfl) (pa_cons (pv 0) (pa_cons (pv 1) pa_nil)))) pa_nil))))))))
    (pss_one (ps_ret (pe_tup (pa_cons (pe_ix ix_list (pv 2) pe_int (fun _ _ => rfl)) (pa_cons (pe_ix ix_list (pv 2) pe_int (fun _ _ => rfl)) (pa_cons (pe_ix ix_list (pv 2) pe_int (fun _ _ => rfl)) (pa_cons (pe_ix ix_list (pv 2) pe_int (fun _ _ => rfl)) pa_nil))))))))), ?_⟩
    walk_at "ev"
    refine ⟨(by show 0 ≤ sizeLine; decide), fun p0 n0 => ?_⟩
    walk_at "ev"
    refine ⟨by omega, by omega, for_range (fun i σ H1 => ∃ (v3 v4 : Option V) (p : Addr) (xs : List Int), σ = [some (.ref a), some (.int m), some (.ref p), v3, v4] ∧ H1 p = some (.lst (xs.map V.int)) ∧ p ≠ a ∧ rcs m i xs ∧ Src H1 a ∧ Up a H H1) ⟨_, _, p0, [], rfl, upd_same, (ha.ne n0).symm, rfl, src_same (same_upd n0) ha, up_same (same_upd n0)⟩ ?_ ?_⟩
    · rintro i σ H1 hi ⟨v3, v4, p, xs, rfl, ep, npa, hx, s1, u1⟩
      walk_at "ev"
      refine ⟨s1, by decide, by decide, fun r0 H2 r00 r01 s2 u2 => ?_⟩
      walk_at "ev"
      refine ⟨(by show 5 ≤ sizeLine; decide), fun t nt => ?_⟩
      refine ⟨_, _, _, rfl, src_same (same_upd nt) s2, (s2.ne nt).symm, upd_same, (by simp), (by show 5 ≤ 1000; decide), fun v H3 hv s3 u3 => ?_⟩
      obtain ⟨z, rfl, z0, z1⟩ : ∃ z, v = V.int z ∧ -1000000000 ≤ z ∧ z ≤ 1000000001 := by
        simp only [List.mem_cons, List.not_mem_nil, or_false] at hv
        rcases hv with e | e | e | e | e
        · exact ⟨_, e, by decide, by decide⟩
        · exact ⟨_, e, by decide, by decide⟩
        · exact ⟨_, e, by decide, by decide⟩
        · exact ⟨_, e, by decide, by decide⟩
        · exact ⟨_, e, by decide, by decide⟩
      have u13 := (u1.trans u2.up).trans ((up_same (same_upd nt)).trans u3.up)
      have ep3 := u3.up _ _ npa (new_at (o' := .lst _) (u2.up _ _ npa ep) nt)
      walk_at "ev"
      refine ⟨s3, by omega, by omega, fun r1 H4 r10 r11 s4 u4 => ?_⟩
      have ep4 := u4.up _ _ npa ep3
      walk_at "ev"
      refine ⟨(by show 2 ≤ sizeLine; decide), fun p2 n2 => ?_⟩
      have ep5 := new_at (o' := .lst [V.int (r0 - 7 + z), V.int (r0 - 7 + z + 1 + r1)]) ep4 n2
      have hlx : xs.length ≤ 4 := by
        match i, hx with
        | 0, hx => rw [hx]; decide
        | 1, hx => obtain ⟨a1, b1, rfl, _⟩ := hx; show 2 ≤ 4; decide
        | 2, _ => exact absurd hi (by decide)
      refine ⟨p, p2, _, _, rfl, rfl, ep5, upd_same, Nat.le_of_lt (small1000 (by rw [List.length_map]; show xs.length + 2 ≤ 1000; omega)), fun p3 n3 => ?_⟩
      have s5 := src_same ((same_upd (o := .lst [V.int (r0 - 7 + z), V.int (r0 - 7 + z + 1 + r1)]) n2).trans (same_upd (o := .lst (xs.map V.int ++ [V.int (r0 - 7 + z), V.int (r0 - 7 + z + 1 + r1)])) n3)) s4
      refine ⟨_, _, p3, xs ++ [r0 - 7 + z, r0 - 7 + z + 1 + r1], rfl, by rw [upd_same, List.map_append]; rfl, ?_, ?_, s5, (u13.trans u4.up).trans (up_same ((same_upd n2).trans (same_upd n3)))⟩
      · exact ((src_same (same_upd n2) s4).ne n3).symm
      · have g : Sd m (r0 - 7 + z) (r0 - 7 + z + 1 + r1) := ⟨by omega, by omega, by omega, by omega⟩
        match i, hx with
        | 0, hx => rw [hx]; exact ⟨_, _, rfl, g⟩
        | 1, hx => obtain ⟨a1, b1, rfl, g1⟩ := hx; exact ⟨_, _, _, _, rfl, g1, g⟩
        | 2, _ => exact absurd hi (by decide)
    · rintro σ H1 ⟨v3, v4, p, xs, rfl, ep, npa, ⟨x0, x1, y0, y1, rfl, g1, g2⟩, s1, u1⟩
      walk_at "ev"
      refine ⟨(by show 4 ≤ sizeLine; decide), ?_⟩
      exact fun q' nq => q q' _ x0 x1 y0 y1 (u1.new s1 nq) (src_same (same_upd nq) s1) (u1.trans (up_same (same_upd nq))) upd_same g1 g2
theorem blk_in {N : List Str} {sc0 scope0 scope : Scope} {own : List (Str × Nat)} {cl : List (Str × Addr)} {C : Addr} {env : Env} (hs : env.scope = sc0) (h : blkC N (relS scope0 sc0) scope own = true) : BlkOk N (compEnvC scope0 cl C env).scope scope own := by
  subst hs
  exact blkOk_by h
/-! ### rows of numbers -/
def RowsA (N : Addr → Prop) (H : Hp) (as : List Addr) (rows : List (List Int)) : Prop := as.length = rows.length ∧ ∀ (i : Nat) (b : Addr) (r : List Int), as[i]? = some b → rows[i]? = some r → N b ∧ H b = some (.lst (r.map V.int))
def Rows (N : Addr → Prop) (H : Hp) (p : Addr) (rows : List (List Int)) : Prop := N p ∧ ∃ as : List Addr, H p = some (.lst (as.map V.ref)) ∧ RowsA N H as rows
theorem RowsA.up {N M : Addr → Prop} {H H' : Hp} {as : List Addr} {rows : List (List Int)} (h : RowsA N H as rows) (u : ∀ b o, N b → H b = some o → M b ∧ H' b = some o) : RowsA M H' as rows :=
  ⟨h.1, fun i b r e1 e2 => by
    obtain ⟨n, e⟩ := h.2 i b r e1 e2
    exact u b _ n e⟩
theorem Rows.up {N M : Addr → Prop} {H H' : Hp} {p : Addr} {rows : List (List Int)} (h : Rows N H p rows) (u : ∀ b o, N b → H b = some o → M b ∧ H' b = some o) : Rows M H' p rows := by
  obtain ⟨n, as, e, r⟩ := h
  obtain ⟨m, e'⟩ := u p _ n e
  exact ⟨m, as, e', r.up u⟩
theorem RowsA.nil {N : Addr → Prop} {H : Hp} : RowsA N H [] [] := ⟨rfl, fun i b r e => nomatch e⟩
theorem RowsA.app {N : Addr → Prop} {H : Hp} {as : List Addr} {rows : List (List Int)} {b : Addr} {r : List Int} (h : RowsA N H as rows) (n : N b) (e : H b = some (.lst (r.map V.int))) : RowsA N H (as ++ [b]) (rows ++ [r]) := by
  refine ⟨by rw [List.length_append, List.length_append, h.1]; rfl, fun i c s e1 e2 => ?_⟩
  by_cases hi : i < as.length
  · rw [List.getElem?_append_left hi] at e1
    rw [List.getElem?_append_left (by rw [← h.1]; exact hi)] at e2
    exact h.2 i c s e1 e2
  · have hi2 : as.length ≤ i := Nat.le_of_not_lt hi
    rw [List.getElem?_append_right hi2] at e1
    rw [List.getElem?_append_right (by rw [← h.1]; exact hi2), ← h.1] at e2
    cases hk : i - as.length with
    | zero =>
      rw [hk] at e1 e2
      cases e1
      cases e2
      exact ⟨n, e⟩
    | succ k =>
      rw [hk] at e1
      cases e1
def ofSize (w h : Nat) (rows : List (List Int)) : Prop := rows.length = h ∧ ∀ r ∈ rows, r.length = w
def spRowsL : Sp := fun vs H Q _ => ∃ (a rp : Addr) (x0 x1 y0 y1 : Int), vs = [.ref a, .ref rp] ∧ Src H a ∧ rp ≠ a ∧ H rp = some (.tup [.int x0, .int x1, .int y0, .int y1]) ∧ Sd 900 x0 x1 ∧ Sd 900 y0 y1 ∧
  ∀ (q : Addr) (H' : Hp) (rows : List (List Int)), H q = none → Src H' a → Up a H H' → Rows (· ≠ a) H' q rows → ofSize (x1 - x0).toNat (y1 - y0).toNat rows → Q (.ref q) H'
theorem ok_rows {f : Addr} {fd : FuncData} {k : Nat} (F : Fun K "_law_rows" "_law_rows" s_law_rows f fd) (T : Txt mg) (c_law_number : C8.Cal P w K mg base 2 "_law_number" spNum []) : FnOk P w K mg base CX0 (k + 3) f fd ["_law_source", "_law_rect_here"] spRowsL := by
  refine F.ok sc_law_rows (fun vs H Q E h => ?_) (fun cdv A outer s H vs Q E hr h => ?_)
  · obtain ⟨a, rp, x0, x1, y0, y1, rfl, _⟩ := h
    rfl
  · obtain ⟨a, rp, x0, x1, y0, y1, rfl, ha, hna, hrp, ⟨gx1, gx2, gx3, gx4⟩, ⟨gy1, gy2, gy3, gy4⟩, q⟩ := h
    refine ⟨_, (pss_cons (ps_asg (pv 1) (pg_tup rfl (pgs_cons (pg_name (i := 2) sc_law_rows.nd rfl (Or.inr rfl)) (pgs_cons (pg_name (i := 3) sc_law_rows.nd rfl (Or.inr rfl)) (pgs_cons (pg_name (i := 4) sc_law_rows.nd rfl (Or.inl rfl)) (pgs_cons (pg_name (i := 5) sc_law_rows.nd rfl (Or.inl rfl)) pgs_nil))))))
    (pss_one (ps_ret (pe_lc (own := [("_law_y", 6)]) (g := (gName 6)) (tt := tYes) rfl sc_law_rows.nd (pi_range2 (by rfl) T.z_range (pa_cons (pv 4) (pa_cons (pv 5) pa_nil))) (blkOk_by (N := ["_law_source", "_law_rect_here", "_law_x0", "_law_x1", "_law_y0", "_law_y1", "_law_y", "_law_x"]) (sc := defScope s_law_rows) (by decide +kernel)) (fun _ _ _ _ _ => pg_name (i := 6) sc_law_rows.nd rfl (by first | exact Or.inl rfl | exact Or.inr rfl)) (fun _ _ _ _ _ => pts_nil) (fun _ _ _ _ _ => (pe_lc (own := [("_law_x", 7)]) (g := (gName 7)) (tt := tYes) rfl sc_law_rows.nd (pi_range2 (by rfl) T.z_range (pa_cons (pv 2) (pa_cons (pv 3) pa_nil))) (blk_in (N := ["_law_source", "_law_rect_here", "_law_x0", "_law_x1", "_law_y0", "_law_y1", "_law_y", "_law_x"]) (sc0 := defScope s_law_rows) rfl (by decide +kernel)) (fun _ _ _ _ _ => pg_name (i := 7) sc_law_rows.nd rfl (by first | exact Or.inl rfl | exact Or.inr rfl)) (fun _ _ _ _ _ => pts_nil) (fun _ _ _ _ _ => (C8.pe_c c_law_number hr (by omega) (by rfl) (pa_cons (pv 0) pa_nil))))))))), ?_⟩
    walk_at "ev"
    refine ⟨⟨by omega, by omega, by omega, by omega⟩, fun D nD => ?_⟩
    have nDa : D ≠ a := (ha.ne nD).symm
    refine lc_it walk_range (fun i H2 => Up a H H2 ∧ Src H2 a ∧ ∃ as rows, H2 D = some (.lst (as.map V.ref)) ∧ RowsA (fun b => b ≠ a ∧ b ≠ D) H2 as rows ∧ ofSize (x1 - x0).toNat i rows) ⟨up_same (same_upd nD), src_same (same_upd nD) ha, [], [], upd_same, .nil, rfl, fun _ m => absurd m List.not_mem_nil⟩ (fun _ _ _ _ => trivial) ?_ ?_
    · rintro i x H2 H3 hi ⟨u2, s2, as, rows, e2, hR, hO⟩ ⟨rfl, rfl⟩
      walk_at "ev"
      refine ⟨⟨by omega, by omega, by omega, by omega⟩, fun D2 nD2 => ?_⟩
      have n2a : D2 ≠ a := (s2.ne nD2).symm
      have n2D : D2 ≠ D := fun z => by
        rw [z, e2] at nD2
        cases nD2
      refine lc_it walk_range (fun t H4 => Up a H3 H4 ∧ Src H4 a ∧ ∃ ns : List Int, H4 D2 = some (.lst (ns.map V.int)) ∧ ns.length = t) ⟨up_same (same_upd nD2), src_same (same_upd nD2) s2, [], upd_same, rfl⟩ (fun _ _ _ _ => trivial) ?_ ?_
      · rintro t z H4 H5 ht ⟨u4, s4, ns, e4, hl⟩ ⟨rfl, rfl⟩
        walk_at "ev"
        refine ⟨s4, fun n H6 s6 u6 => ?_⟩
        have e6 := u6 _ _ n2a e4
        refine ⟨_, e6, small1000 (by rw [List.length_map]; omega), fun b o nb e => by
          rw [upd_ne (ne_of_none e nD2)]
          exact u6 _ _ nb (u4 _ _ nb e), src_keep n2a.symm s6, ns ++ [n], by rw [upd_same, List.map_append]; rfl, by rw [List.length_append, hl]; rfl⟩
      · rintro H4 ⟨u4, s4, ns, e4, hl⟩
        have e5 := u4 _ _ nDa e2
        have hal : as.length ≤ 1000 := by
          rw [hR.1, hO.1]
          omega
        refine ⟨_, e5, small1000 (by rw [List.length_map]; exact hal), ?_, src_keep nDa.symm s4, as ++ [D2], rows ++ [ns], by rw [upd_same, List.map_append]; rfl, ?_, ?_⟩
        · exact fun b o nb e => by
            rw [upd_ne (ne_of_none e nD)]
            exact u4 _ _ nb (u2 _ _ nb e)
        · refine (hR.up fun b o n e => ⟨n, ?_⟩).app ⟨n2a, n2D⟩ ?_
          · rw [upd_ne n.2]
            exact u4 _ _ n.1 e
          · rw [upd_ne n2D]
            exact e4
        · refine ⟨by rw [List.length_append, hO.1]; rfl, fun r m => ?_⟩
          rcases List.mem_append.mp m with m | m
          · exact hO.2 r m
          · rw [List.mem_singleton.mp m, hl]
    · rintro H2 ⟨u2, s2, as, rows, e2, hR, hO⟩
      exact q D H2 rows nD s2 u2 ⟨nDa, as, e2, hR.up fun b o n e => ⟨n.1, e⟩⟩ hO
def LetW (ls : List Nat) : Prop := ∀ c ∈ ls, c = 88 ∨ c = 89
theorem str_X : (Str.ofString "X") = SX.S [88] := by decide +kernel
theorem str_Y : (Str.ofString "Y") = SX.S [89] := by decide +kernel
theorem str_nil : (Str.ofString "") = SX.S [] := by decide +kernel
def mx (a b : Int) : Int := if b > a then b else a
theorem mx_ge (a b : Int) : a ≤ mx a b := by
  unfold mx
  split <;> omega
theorem kit_llt {K : PySem.W.Frag} : PySem.W.kitAny K (.type "list") [.type "list", .type "tuple"] = some true := by
  unfold PySem.W.kitAny
  rw [kit_ll]
/-! ### grids: what is checked -/
def spIsNum : Sp := fun vs H Q _ => ∃ (i : Int), vs = [.int i] ∧ Q (.bl true) H
theorem ok_is_number {f : Addr} {fd : FuncData} {k : Nat} (F : Fun K "is_number" "is_number" s_is_number f fd) (T : Txt mg) : FnOk P w K mg base CX0 (k + 1) f fd ["thing"] spIsNum := by
  refine F.ok sc_is_number (fun vs H Q E h => ?_) (fun cdv A outer s H vs Q E hr h => ?_)
  · obtain ⟨i, rfl, _⟩ := h
    rfl
  · obtain ⟨i, rfl, q⟩ := h
    refine ⟨_, (pss_one (ps_ret (pe_and (pe_callB call_isi (by rfl) T.z_isinstance PyProof.Rows.boot_isinstance (pa_cons (pv 0) (pa_cons (pe_bltn (v := .ty "int") (by rfl) T.z_int PyProof.Rows.boot_int rfl) pa_nil))) (pe_one (pe_not (pe_callB call_isi (by rfl) T.z_isinstance PyProof.Rows.boot_isinstance (pa_cons (pv 0) (pa_cons (pe_bltn (v := .ty "bool") (by rfl) T.z_bool PyProof.Rows.boot_bool rfl) pa_nil)))))))), ?_⟩
    walk_at "ev"
    exact q
def spHas (K : PySem.W.Frag) : Sp := fun vs H Q _ => ∃ (rp : Addr) (x0 x1 y0 y1 : Int), vs = [.ref rp] ∧ SqT K H rp [.int x0, .int x1, .int y0, .int y1] ∧ Q (.bl (decide (x0 < x1 ∧ y0 < y1))) H
theorem ok_has {f : Addr} {fd : FuncData} {k : Nat} (F : Fun K "has_cells" "has_cells" s_has_cells f fd) (T : Txt mg) : FnOk P w K mg base CX0 (k + 1) f fd ["rect"] (spHas K) := by
  refine F.ok sc_has_cells (fun vs H Q E h => ?_) (fun cdv A outer s H vs Q E hr h => ?_)
  · obtain ⟨rp, x0, x1, y0, y1, rfl, _⟩ := h
    rfl
  · obtain ⟨rp, x0, x1, y0, y1, rfl, hrp, q⟩ := h
    refine ⟨_, (pss_cons (ps_asg (pv 0) (pg_tup rfl (pgs_cons (pg_name (i := 1) sc_has_cells.nd rfl (Or.inl rfl)) (pgs_cons (pg_name (i := 2) sc_has_cells.nd rfl (Or.inl rfl)) (pgs_cons (pg_name (i := 3) sc_has_cells.nd rfl (Or.inl rfl)) (pgs_cons (pg_name (i := 4) sc_has_cells.nd rfl (Or.inl rfl)) pgs_nil))))))
    (pss_one (ps_ret (pe_and (pe_cmpR op_lt (pv 1) (pv 2) (nomark _)) (pe_one (pe_cmpR op_lt (pv 3) (pv 4) (nomark _))))))), ?_⟩
    walk_at "ev"
    refine ⟨rp, _, rfl, hrp, rfl, ?_⟩
    walk_at "ev"
    · rename_i hc
      have e : (decide (x0 < x1 ∧ y0 < y1)) = decide (y0 < y1) := by simp only [hc, true_and]
      rw [e] at q
      exact q
    · rename_i hc
      have e : (decide (x0 < x1 ∧ y0 < y1)) = false := decide_eq_false fun z => hc z.1
      rw [e] at q
      exact q
def spChk (K : PySem.W.Frag) : Sp := fun vs H Q _ => ∃ (rp : Addr) (x0 x1 y0 y1 : Int), vs = [.ref rp] ∧ SqT K H rp [.int x0, .int x1, .int y0, .int y1] ∧ x0 ≤ x1 ∧ y0 ≤ y1 ∧ Q .non H
theorem ok_chk {f : Addr} {fd : FuncData} {k : Nat} (F : Fun K "check_rect" "check_rect" s_check_rect f fd) (T : Txt mg) : FnOk P w K mg base CX0 (k + 1) f fd ["rect"] (spChk K) := by
  refine F.ok sc_check_rect (fun vs H Q E h => ?_) (fun cdv A outer s H vs Q E hr h => ?_)
  · obtain ⟨rp, x0, x1, y0, y1, rfl, _⟩ := h
    rfl
  · obtain ⟨rp, x0, x1, y0, y1, rfl, hrp, hx, hy, q⟩ := h
    refine ⟨_, (pss_cons (ps_asg (pv 0) (pg_tup rfl (pgs_cons (pg_name (i := 1) sc_check_rect.nd rfl (Or.inl rfl)) (pgs_cons (pg_name (i := 2) sc_check_rect.nd rfl (Or.inl rfl)) (pgs_cons (pg_name (i := 3) sc_check_rect.nd rfl (Or.inl rfl)) (pgs_cons (pg_name (i := 4) sc_check_rect.nd rfl (Or.inl rfl)) pgs_nil))))))
    (pss_one (ps_if (PW.pt (pw_or (pt_cmpR op_gt (pv 1) (pv 2) (nomark _)) (pw_or1 (pt_cmpR op_gt (pv 3) (pv 4) (nomark _))))) (pss_one ps_never) pss_nil))), ?_⟩
    walk_at "ev"
    refine ⟨rp, _, rfl, hrp, rfl, ?_⟩
    walk_at "ev"
    exact q
def spChkX (K : PySem.W.Frag) (BG : Addr) : Sp := fun vs H Q E => ∃ (rp : Addr) (x0 x1 y0 y1 : Int), vs = [.ref rp] ∧ SqT K H rp [.int x0, .int x1, .int y0, .int y1] ∧ (x0 ≤ x1 → y0 ≤ y1 → Q .non H) ∧ (x1 < x0 ∨ y1 < y0 → E (.ref BG) none H)
theorem ok_chkX {f BG : Addr} {fd : FuncData} {k : Nat} (F : Fun K "check_rect" "check_rect" s_check_rect f fd) (T : Txt mg) (e_BadGrid : ECls K mg "BadGrid" BG) : FnOk P w K mg base (L2.CX P w) (k + 1) f fd ["rect"] (spChkX K BG) := by
  refine F.okX sc_check_rect (fun vs H Q E h => ?_) (fun cdv A outer s H vs Q E hr h => ?_)
  · obtain ⟨rp, x0, x1, y0, y1, rfl, _⟩ := h
    rfl
  · obtain ⟨rp, x0, x1, y0, y1, rfl, hrp, q, x⟩ := h
    refine ⟨_, (pss_cons (ps_asg (pv 0) (pg_tup rfl (pgs_cons (pg_name (i := 1) sc_check_rect.nd rfl (Or.inl rfl)) (pgs_cons (pg_name (i := 2) sc_check_rect.nd rfl (Or.inl rfl)) (pgs_cons (pg_name (i := 3) sc_check_rect.nd rfl (Or.inl rfl)) (pgs_cons (pg_name (i := 4) sc_check_rect.nd rfl (Or.inl rfl)) pgs_nil))))))
    (pss_one (ps_if (PW.pt (pw_or (pt_cmpR op_gt (pv 1) (pv 2) (nomark _)) (pw_or1 (pt_cmpR op_gt (pv 3) (pv 4) (nomark _))))) (pss_one (ps_raise rfl (takes_of rfl rfl rfl rfl) (pmk_none PySem.F.excBase_ValueError e_BadGrid.xC e_BadGrid.gC e_BadGrid.kC (raises_own e_BadGrid.bC e_BadGrid.tC) (by rfl)))) pss_nil))), ?_⟩
    walk_at "ev"
    refine ⟨rp, _, rfl, hrp, rfl, ?_⟩
    walk_at "ev"
    · rename_i hc
      exact x (.inl hc)
    · rename_i h1 h2
      exact x (.inr h2)
    · rename_i h1 h2
      exact q (by omega) (by omega)
def spIsRow (K : PySem.W.Frag) : Sp := fun vs H Q _ => ∃ (p : Addr) (ns : List Int) (wd : Int), vs = [.ref p, .int wd] ∧ H p = some (.lst (ns.map V.int)) ∧ ∀ H' : Hp, Same H H' → Q (.bl (decide ((ns.length : Int) = wd))) H'
theorem ok_is_row {f : Addr} {fd : FuncData} {k : Nat} (F : Fun K "is_row" "is_row" s_is_row f fd) (T : Txt mg) (c_is_number : C8.Cal P w K mg base 1 "is_number" spIsNum []) : FnOk P w K mg base CX0 (k + 2) f fd ["thing", "width"] (spIsRow K) := by
  refine F.ok sc_is_row (fun vs H Q E h => ?_) (fun cdv A outer s H vs Q E hr h => ?_)
  · obtain ⟨p, ns, wd, rfl, _⟩ := h
    rfl
  · obtain ⟨p, ns, wd, rfl, hp, q⟩ := h
    refine ⟨_, (pss_cons (ps_if (PW.pt (pw_or (pt_not (pt_val (pe_callB call_isiT (by rfl) T.z_isinstance PyProof.Rows.boot_isinstance (pa_cons (pv 0) (pa_cons (pe_tup (pa_cons (pe_bltn (v := .ty "list") (by rfl) T.z_list PyProof.Rows.boot_list rfl) (pa_cons (pe_bltn (v := .ty "tuple") (by rfl) T.z_tuple PyProof.Rows.boot_tuple rfl) pa_nil))) pa_nil))))) (pw_or1 (pt_cmpR op_ne (pe_callB call_len_seq (by rfl) T.z_len PySem.boot_len (pa_cons (pv 0) pa_nil)) (pv 1) (nomark _))))) (pss_one (ps_ret pe_bl)) pss_nil)
    (pss_cons (ps_for PassesOwn.never rfl (pi_seq (pv 0)) (pg_name (i := 2) sc_is_row.nd rfl (Or.inl rfl))
      (pss_one (ps_if (pt_not (pt_val (C8.pe_c c_is_number hr (by omega) (by rfl) (pa_cons (pv 2) pa_nil)))) (pss_one (ps_ret pe_bl)) pss_nil)))
    (pss_one (ps_ret pe_bl)))), ?_⟩
    walk_at "ev"
    refine ⟨(by show 2 ≤ sizeLine; decide), fun t nt => ?_⟩
    have hp1 := new_at (o' := .tup [.ty "list", .ty "tuple"]) hp nt
    have s1 := same_upd (o := .tup [.ty "list", .ty "tuple"]) nt
    refine ⟨_, t, _, _, _, _, rfl, upd_same, .cons (.ty _) (.cons (.ty _) .nil), .base (.lst hp1), kit_llt, ?_⟩
    generalize upd H t (.tup [.ty "list", .ty "tuple"]) = H1 at hp1 s1 ⊢
    have hL : ((List.map V.int ns).length : Int) = ns.length := by rw [List.length_map]
    walk_at "ev"
    · rename_i hc
      rw [hL] at hc
      rw [decide_eq_false hc] at q
      exact q _ s1
    · rename_i hc
      rw [hL] at hc
      have hc : (ns.length : Int) = wd := by omega
      rw [decide_eq_true hc] at q
      refine .inl ⟨⟨_, .inl (.inl hp1)⟩, ?_⟩
      refine for_it (walk_list (xs := ns.map V.int)) (fun i σ H3 => H3 = H1 ∧ ∃ v, σ = [some (.ref p), some (.int wd), v]) ⟨rfl, _, rfl⟩ (fun _ _ _ _ h => by rw [h.1]; exact .inl (.inl hp1)) ?_ ?_
      · rintro i x σ H3 H4 hi ⟨rfl, v, rfl⟩ ⟨rfl, hx⟩
        rw [List.getElem?_map] at hx
        obtain ⟨z, hz, rfl⟩ := Option.map_eq_some_iff.mp hx
        walk_at "ev"
        exact ⟨_, rfl⟩
      · rintro σ H3 ⟨rfl, v, rfl⟩
        walk_at "ev"
        exact q _ s1
def Fits (x0 x1 y0 y1 : Int) (rows : List (List Int)) : Prop := (x0 < x1 ∧ y0 < y1 ∧ (rows.length : Int) = y1 - y0 ∧ ∀ r ∈ rows, (r.length : Int) = x1 - x0) ∨ (¬ (x0 < x1 ∧ y0 < y1) ∧ rows = [])
def spFit (K : PySem.W.Frag) : Sp := fun vs H Q _ => ∃ (p rp : Addr) (x0 x1 y0 y1 : Int) (rows : List (List Int)), vs = [.ref p, .ref rp] ∧ SqT K H rp [.int x0, .int x1, .int y0, .int y1] ∧ Rows (fun _ => True) H p rows ∧
  (Fits x0 x1 y0 y1 rows → ∀ H' : Hp, Same H H' → Q (.bl true) H') ∧ (¬ Fits x0 x1 y0 y1 rows → ∀ H' : Hp, Same H H' → Q (.bl false) H')
theorem ok_fit {f : Addr} {fd : FuncData} {k : Nat} (F : Fun K "rows_fit" "rows_fit" s_rows_fit f fd) (T : Txt mg) (c_has_cells : C8.Cal P w K mg base 1 "has_cells" (spHas K) []) (c_is_row : C8.Cal P w K mg base 2 "is_row" (spIsRow K) []) : FnOk P w K mg base CX0 (k + 3) f fd ["rows", "rect"] (spFit K) := by
  refine F.ok sc_rows_fit (fun vs H Q E h => ?_) (fun cdv A outer s H vs Q E hr h => ?_)
  · obtain ⟨p, rp, x0, x1, y0, y1, rows, rfl, _⟩ := h
    rfl
  · obtain ⟨p, rp, x0, x1, y0, y1, rows, rfl, hrp, ⟨_, as, hp, hA⟩, qT, qF⟩ := h
    refine ⟨_, (pss_cons (ps_asg (pv 1) (pg_tup rfl (pgs_cons (pg_name (i := 2) sc_rows_fit.nd rfl (Or.inl rfl)) (pgs_cons (pg_name (i := 3) sc_rows_fit.nd rfl (Or.inl rfl)) (pgs_cons (pg_name (i := 4) sc_rows_fit.nd rfl (Or.inl rfl)) (pgs_cons (pg_name (i := 5) sc_rows_fit.nd rfl (Or.inl rfl)) pgs_nil))))))
    (pss_cons (ps_set (i := 6) sc_rows_fit.nd rfl (Or.inl rfl) (pe_ifExp (pt_val (C8.pe_c c_has_cells hr (by omega) (by rfl) (pa_cons (pv 1) pa_nil))) (pe_op op_sub (pv 5) (pv 4)) pe_int))
    (pss_cons (ps_if (PW.pt (pw_or (pt_not (pt_val (pe_callB call_isiT (by rfl) T.z_isinstance PyProof.Rows.boot_isinstance (pa_cons (pv 0) (pa_cons (pe_tup (pa_cons (pe_bltn (v := .ty "list") (by rfl) T.z_list PyProof.Rows.boot_list rfl) (pa_cons (pe_bltn (v := .ty "tuple") (by rfl) T.z_tuple PyProof.Rows.boot_tuple rfl) pa_nil))) pa_nil))))) (pw_or1 (pt_cmpR op_ne (pe_callB call_len_seq (by rfl) T.z_len PySem.boot_len (pa_cons (pv 0) pa_nil)) (pv 6) (nomark _))))) (pss_one (ps_ret pe_bl)) pss_nil)
    (pss_cons (ps_for PassesOwn.never rfl (pi_seq (pv 0)) (pg_name (i := 7) sc_rows_fit.nd rfl (Or.inl rfl))
      (pss_one (ps_if (pt_not (pt_val (C8.pe_c c_is_row hr (by omega) (by rfl) (pa_cons (pv 7) (pa_cons (pe_op op_sub (pv 3) (pv 2)) pa_nil))))) (pss_one (ps_ret pe_bl)) pss_nil)))
    (pss_one (ps_ret pe_bl)))))), ?_⟩
    walk_at "ev"
    refine ⟨rp, _, rfl, hrp, rfl, ?_⟩
    walk_at "ev"
    refine ⟨rp, x0, x1, y0, y1, rfl, hrp, ?_⟩
    have hl : (as.map V.ref).length = rows.length := (List.length_map _).trans hA.1
    have fit0 : ∀ b : Bool, decide (x0 < x1 ∧ y0 < y1) = b → (rows.length : Int) ≠ (if b = true then y1 - y0 else 0) → ¬ Fits x0 x1 y0 y1 rows := fun b eb ne ft => by
      rcases ft with ⟨g1, g2, g3, _⟩ | ⟨g1, g2⟩
      · rw [decide_eq_true ⟨g1, g2⟩] at eb
        rw [← eb, if_pos rfl] at ne
        exact ne g3
      · rw [decide_eq_false g1] at eb
        rw [← eb, if_neg Bool.false_ne_true, g2] at ne
        exact ne rfl
    have fit1 : ∀ b : Bool, decide (x0 < x1 ∧ y0 < y1) = b → (rows.length : Int) = (if b = true then y1 - y0 else 0) → (∀ r ∈ rows, (r.length : Int) = x1 - x0) → Fits x0 x1 y0 y1 rows := fun b eb el all => by
      cases b with
      | true =>
        have g := of_decide_eq_true eb
        rw [if_pos rfl] at el
        exact .inl ⟨g.1, g.2, el, all⟩
      | false =>
        rw [if_neg Bool.false_ne_true] at el
        exact .inr ⟨of_decide_eq_false eb, List.length_eq_zero_iff.mp (by omega)⟩
    have fit2 : ∀ (r : List Int), r ∈ rows → (r.length : Int) ≠ x1 - x0 → ¬ Fits x0 x1 y0 y1 rows := fun r m ne ft => by
      rcases ft with ⟨_, _, _, g⟩ | ⟨_, g⟩
      · exact ne (g r m)
      · rw [g] at m
        cases m
    generalize hb : decide (x0 < x1 ∧ y0 < y1) = c at fit0 fit1 ⊢
    have fit0 := fit0 c rfl
    have fit1 := fit1 c rfl
    clear hb
    cases c
    all_goals
      simp only [if_true, if_false, Bool.false_eq_true] at fit0 fit1
      walk_at "ev"
      refine ⟨(by show 2 ≤ sizeLine; decide), fun t nt => ?_⟩
      have hp1 := new_at (o' := .tup [.ty "list", .ty "tuple"]) hp nt
      have s1 := same_upd (o := .tup [.ty "list", .ty "tuple"]) nt
      refine ⟨_, t, _, _, _, _, rfl, upd_same, .cons (.ty _) (.cons (.ty _) .nil), .base (.lst hp1), kit_llt, ?_⟩
      have hA1 := hA.up (M := fun _ => True) fun b o _ e => ⟨trivial, new_at (o' := .tup [.ty "list", .ty "tuple"]) e nt⟩
      generalize upd H t (.tup [.ty "list", .ty "tuple"]) = H1 at hp1 s1 hA1 ⊢
      walk_at "ev"
      · rename_i hc
        rw [hl] at hc
        exact qF (fit0 hc) _ s1
      · rename_i hc
        rw [hl] at hc
        have fit1 := fit1 (by omega)
        refine .inl ⟨⟨_, .inl (.inl hp1)⟩, ?_⟩
        refine for_it (walk_list (xs := as.map V.ref)) (fun i σ H3 => Same H1 H3 ∧ (∀ r ∈ rows.take i, (r.length : Int) = x1 - x0) ∧ ∃ v6 v7, σ = [some (.ref p), some (.ref rp), some (.int x0), some (.int x1), some (.int y0), some (.int y1), v6, v7]) ⟨fun _ _ e => e, (fun r m => nomatch m), _, _, rfl⟩ (fun _ _ _ _ h => .inl (.inl (h.1 _ _ hp1))) ?_ ?_
        · rintro i x σ H3 H4 hi ⟨s3, hall, v6, v7, rfl⟩ ⟨rfl, hx⟩
          rw [List.getElem?_map] at hx
          obtain ⟨b, hb, rfl⟩ := Option.map_eq_some_iff.mp hx
          obtain ⟨r, hr⟩ : ∃ r, rows[i]? = some r := ⟨rows[i]'(by rw [← hA.1]; exact (List.getElem?_eq_some_iff.mp hb).1), List.getElem?_eq_getElem _⟩
          have hb3 := s3 _ _ (hA1.2 i b r hb hr).2
          walk_at "ev"
          refine ⟨b, r, _, rfl, hb3, fun H5 s5 => ?_⟩
          by_cases hw : (r.length : Int) = x1 - x0
          · rw [decide_eq_true hw]
            walk_at "ev"
            refine ⟨s3.trans s5, fun r' m => ?_, _, _, rfl⟩
            rw [← take_snoc hr] at m
            rcases List.mem_append.mp m with m | m
            · exact hall r' m
            · rw [List.mem_singleton.mp m]
              exact hw
          · rw [decide_eq_false hw]
            walk_at "ev"
            exact qF (fit2 r (List.mem_of_getElem? hr) hw) _ ((s1.trans s3).trans s5)
        · rintro σ H3 ⟨s3, hall, v6, v7, rfl⟩
          rw [hl, List.take_length] at hall
          walk_at "ev"
          exact qT (fit1 hall) _ (s1.trans s3)
theorem lk_here {k : Str} {v : V} {r : List (Str × V)} : List.lookup k ((k, v) :: r) = some v := by
  have e : (k == k) = true := beq_self_eq_true k
  simp only [List.lookup, e]
theorem lk_past {k g : Str} {v : V} {r : List (Str × V)} (h : (k == g) = false) : List.lookup k ((g, v) :: r) = List.lookup k r := by
  simp only [List.lookup, h]
theorem put_here {f : Str} {v x : V} {r : List (Str × V)} : putF f v ((f, x) :: r) = (f, v) :: r := if_pos rfl
/-! ### a grid -/
theorem Rows.off {N : Addr → Prop} {H : Hp} {p x : Addr} {rows : List (List Int)} (h : Rows N H p rows) (hx : ∀ xs, H x ≠ some (.lst xs)) : Rows (fun b => N b ∧ b ≠ x) H p rows := by
  obtain ⟨n, as, e, l, r⟩ := h
  refine ⟨⟨n, fun z => hx _ (by rw [← z]; exact e)⟩, as, e, l, fun i b w e1 e2 => ?_⟩
  obtain ⟨m, g⟩ := r i b w e1 e2
  exact ⟨⟨m, fun z => hx _ (by rw [← z]; exact g)⟩, g⟩
structure GridK (K : PySem.W.Frag) (C : Addr) : Prop where
  cl : Cls K C
  n1 : NoAttr K C "_rect"
  n2 : NoAttr K C "_rows"
/-- a grid: its rect's tuple, its own rows -/
def GridN (N : Addr → Prop) (C : Addr) (H : Hp) (x : Addr) (rc : List Int) (rows : List (List Int)) : Prop := ∃ dx t p, H x = some (.ins C dx [("_rect", .ref t), ("_rows", .ref p)]) ∧ H t = some (.tup (rc.map V.int)) ∧ Rows N H p rows
abbrev GridAt := GridN (fun _ => True)
def spGInitX (K : PySem.W.Frag) (C BG : Addr) : Sp := fun vs H Q E => ∃ (x dx rp p : Addr) (x0 x1 y0 y1 : Int) (rows : List (List Int)), vs = [.ref x, .ref rp, .ref p] ∧ H x = some (.ins C dx []) ∧ H rp = some (.tup [.int x0, .int x1, .int y0, .int y1]) ∧ Rows (fun _ => True) H p rows ∧ rows.length ≤ 900 ∧
  (¬ (x0 ≤ x1 ∧ y0 ≤ y1 ∧ Fits x0 x1 y0 y1 rows) → ∀ H' : Hp, Same H H' → E (.ref BG) none H') ∧
  (x0 ≤ x1 → y0 ≤ y1 → Fits x0 x1 y0 y1 rows → ∀ H' : Hp, (∀ b o, b ≠ x → H b = some o → H' b = some o) → GridN (fun b => H b = none) C H' x [x0, x1, y0, y1] rows → Q .non H')
theorem ok_ginitX {f f1 C BG : Addr} {fd fd1 : FuncData} {k : Nat} (F : Fun K "__init__" "Grid.__init__" s_Grid_init f fd) (GK : GridK K C) (T : Txt mg) (e_BadGrid : ECls K mg "BadGrid" BG)
    (G_check_rect : FnOk P w K mg base (L2.CX P w) 1 f1 fd1 ["rect"] (spChkX K BG)) (g_check_rect : mg "check_rect" = some (.ref f1)) (k_check_rect : PySem.W.keepIn K (.ref f1) = true) (b_check_rect : Binds K fd1 ["rect"] [])
    (c_rows_fit : C8.Cal P w K mg base 3 "rows_fit" (spFit K) []) : FnOk P w K mg base (L2.CX P w) (k + 4) f fd ["self", "rect", "rows"] (spGInitX K C BG) := by
  refine F.okX sc_Grid_init (fun vs H Q E h => ?_) (fun cdv A outer s H vs Q E hr h => ?_)
  · obtain ⟨x, dx, rp, p, x0, x1, y0, y1, rows, rfl, _⟩ := h
    rfl
  · obtain ⟨x, dx, rp, p, x0, x1, y0, y1, rows, rfl, hx, hrp, hR, hl, xx, q⟩ := h
    refine ⟨_, (pss_cons (ps_expr (pe_call G_check_rect (hr.mono (by omega)) (by rfl) g_check_rect k_check_rect b_check_rect .nil (passes_call (takes_of rfl rfl rfl rfl) (fun _ _ _ _ h => h)) (pa_cons (pv 1) pa_nil)))
    (pss_cons (ps_if (pt_not (pt_val (C8.pe_c c_rows_fit hr (by omega) (by rfl) (pa_cons (pv 2) (pa_cons (pv 1) pa_nil))))) (pss_one (ps_raise rfl (takes_of rfl rfl rfl rfl) (pmk_none PySem.F.excBase_ValueError e_BadGrid.xC e_BadGrid.gC e_BadGrid.kC (raises_own e_BadGrid.bC e_BadGrid.tC) (by rfl)))) pss_nil)
    (pss_cons (ps_fld (pv 0) (pe_callTy call_tuple_of (by rfl) T.z_tuple PyProof.Rows.boot_tuple (pa_cons (pv 1) pa_nil)) rfl)
    (pss_one (ps_fld (pv 0) (pe_lc (own := [("row", 3)]) (g := (gName 3)) (tt := tYes) rfl sc_Grid_init.nd (pi_list (pv 2)) (blkOk_by (N := ["self", "rect", "rows", "row"]) (sc := defScope s_Grid_init) (by decide +kernel)) (fun _ _ _ _ _ => pg_name (i := 3) sc_Grid_init.nd rfl (by first | exact Or.inl rfl | exact Or.inr rfl)) (fun _ _ _ _ _ => pts_nil) (fun _ _ _ _ _ => (pe_callTy (call_list_of : CallR _ (.type "list") (fun xs H Q => ∃ p ys, xs = [.ref p] ∧ (SqL K H p ys ∨ SqT K H p ys) ∧ ∀ (l : Addr), H l = none → Q (.ref l) (upd H l (.lst ys)))) (by rfl) T.z_list PyProof.Rows.boot_list (pa_cons (pv 3) pa_nil)))) rfl))))), ?_⟩
    walk_at "ev"
    refine ⟨rp, x0, x1, y0, y1, rfl, .inl (.inl hrp), fun gx gy => ?_, fun hbad => xx (by omega) _ fun _ _ e => e⟩
    walk_at "ev"
    refine ⟨p, rp, x0, x1, y0, y1, rows, rfl, .inl (.inl hrp), hR, fun hF H1 s1 => ?_, fun hF H1 s1 => ?_⟩
    rotate_left
    · walk_at "ev"
      exact xx (fun z => hF z.2.2) _ s1
    have q := q gx gy hF
    have hx1 := s1 _ _ hx
    have hrp1 := s1 _ _ hrp
    have hR1 := hR.up (M := fun _ => True) fun b o _ e => ⟨trivial, s1 _ _ e⟩
    walk_at "ev"
    refine ⟨rp, _, rfl, .inr ⟨.inl (.inl hrp1), ?_⟩⟩
    walk_at "ev"
    refine ⟨x, C, dx, [], rfl, hx1, GK.cl, GK.n1, by decide, ?_⟩
    have hxn : ∀ xs, H1 x ≠ some (.lst xs) := fun xs e => by
      rw [hx1] at e
      cases e
    have hR2 := (hR1.off hxn).up (M := (· ≠ x)) (H' := upd H1 x (.ins C dx [("_rect", .ref rp)])) fun b o n e => ⟨n.2, (upd_ne n.2).trans e⟩
    have hx2 : upd H1 x (.ins C dx [("_rect", .ref rp)]) x = some (.ins C dx [("_rect", .ref rp)]) := upd_same
    have hrx : rp ≠ x := fun z => by
      rw [z, hx1] at hrp1
      cases hrp1
    have hrp2 := (upd_ne (H := H1) (o := .ins C dx [("_rect", .ref rp)]) hrx).trans hrp1
    have o2 : ∀ b o, b ≠ x → H b = some o → upd H1 x (.ins C dx [("_rect", .ref rp)]) b = some o := fun b o nb e => (upd_ne nb).trans (s1 _ _ e)
    rw [show putF ("_rect" : Str) (V.ref rp) [] = [(("_rect" : Str), V.ref rp)] from rfl]
    generalize upd H1 x (.ins C dx [("_rect", .ref rp)]) = H2 at hR2 hx2 hrp2 o2 ⊢
    have hfr : ∀ b, b ≠ x → H2 b = none → H b = none := fun b nb e => by
      cases hb : H b with
      | none => rfl
      | some o =>
        rw [o2 b o nb hb] at e
        cases e
    obtain ⟨npx, as, hp, hA⟩ := hR2
    walk_at "ev"
    refine ⟨⟨_, .inl (.inl hp)⟩, fun D nD => ?_⟩
    have hal : (as.map V.ref).length = rows.length := by rw [List.length_map, hA.1]
    refine lc_it (walk_list (xs := as.map V.ref)) (fun i H3 => Same H2 H3 ∧ ∃ cs : List Addr, H3 D = some (.lst (cs.map V.ref)) ∧ RowsA (fun b => b ≠ D ∧ H b = none) H3 cs (rows.take i)) ⟨same_upd nD, [], upd_same, .nil⟩ (fun _ _ _ h => .inl (.inl (h.1 _ _ hp))) ?_ ?_
    · rintro i x1 H3 H4 hi ⟨s3, cs, e4, hC⟩ ⟨rfl, hx1⟩
      rw [List.getElem?_map] at hx1
      obtain ⟨b, hb, rfl⟩ := Option.map_eq_some_iff.mp hx1
      obtain ⟨r, hr⟩ : ∃ r, rows[i]? = some r := ⟨rows[i]'(by rw [← hA.1]; exact (List.getElem?_eq_some_iff.mp hb).1), List.getElem?_eq_getElem _⟩
      have hb4 := s3 _ _ (hA.2 i b r hb hr).2
      walk_at "ev"
      intro d2 nd2
      have nDd2 : d2 ≠ D := fun z => by
        rw [z, e4] at nd2
        cases nd2
      have nd2x : d2 ≠ x := fun z => by
        rw [z, s3 _ _ hx2] at nd2
        cases nd2
      have fd2 := hfr d2 nd2x (s3.free nd2)
      have hcl : cs.length = i := by
        rw [hC.1, List.length_take]
        omega
      refine ⟨_, new_at e4 nd2, small1000 (by rw [List.length_map]; omega), fun b' o e => ?_, cs ++ [d2], by rw [upd_same, List.map_append]; rfl, ?_⟩
      · rw [upd_ne (ne_of_none e nD)]
        exact new_at (s3 _ _ e) nd2
      · rw [← take_snoc hr]
        refine (hC.up fun b' o n e => ⟨n, ?_⟩).app ⟨nDd2, fd2⟩ ?_
        · rw [upd_ne n.1]
          exact new_at e nd2
        · rw [upd_ne nDd2, upd_same]
    · rintro H3 ⟨s3, cs, e4, hC⟩
      rw [hal, List.take_length] at hC
      have hx3 := s3 _ _ hx2
      have nDx : D ≠ x := fun z => by
        rw [z, hx2] at nD
        cases nD
      walk_at "ev"
      refine ⟨x, C, dx, _, rfl, hx3, GK.cl, GK.n2, (by show 1 < 1000; decide), ?_⟩
      refine q _ (fun b o nb e => (upd_ne nb).trans (s3 _ _ (o2 b o nb e))) ⟨dx, rp, D, upd_same, (upd_ne hrx).trans (s3 _ _ hrp2), hfr D nDx nD, cs, (upd_ne nDx).trans e4, ?_⟩
      have hC2 : RowsA (fun b => b ≠ x ∧ H b = none) H3 cs rows := by
        refine ⟨hC.1, fun i b r e1 e2 => ?_⟩
        obtain ⟨n, g⟩ := hC.2 i b r e1 e2
        refine ⟨⟨fun z => ?_, n.2⟩, g⟩
        rw [z, hx3] at g
        cases g
      exact hC2.up fun b o n e => ⟨n.2, (upd_ne n.1).trans e⟩
def spGRect (C : Addr) : Sp := fun vs H Q _ => ∃ (x t p dx : Addr), vs = [.ref x] ∧ H x = some (.ins C dx [("_rect", .ref t), ("_rows", .ref p)]) ∧ Q (.ref t) H
theorem ok_grect {f C : Addr} {fd : FuncData} {k : Nat} (F : Fun K "rect" "Grid.rect" s_Grid_rect f fd) (T : Txt mg) (GK : GridK K C) : FnOk P w K mg base CX0 (k + 1) f fd ["self"] (spGRect C) := by
  refine F.ok sc_Grid_rect (fun vs H Q E h => ?_) (fun cdv A outer s H vs Q E hr h => ?_)
  · obtain ⟨x, t, p, dx, rfl, _⟩ := h
    rfl
  · obtain ⟨x, t, p, dx, rfl, hx, q⟩ := h
    refine ⟨_, (pss_one (ps_ret (pe_fld (pv 0) rfl))), ?_⟩
    walk_at "ev"
    refine ⟨x, C, dx, _, _, rfl, hx, GK.cl, GK.n1, lk_here, ?_⟩
    exact q
def spGRows (C : Addr) : Sp := fun vs H Q _ => ∃ (x : Addr) (rc : List Int) (rows : List (List Int)), vs = [.ref x] ∧ GridAt C H x rc rows ∧ rows.length ≤ 900 ∧ ∀ (q : Addr) (H' : Hp), H q = none → Same H H' → Rows (fun _ => True) H' q rows → Q (.ref q) H'
theorem ok_grows {f C : Addr} {fd : FuncData} {k : Nat} (F : Fun K "rows" "Grid.rows" s_Grid_rows f fd) (T : Txt mg) (GK : GridK K C) : FnOk P w K mg base CX0 (k + 1) f fd ["self"] (spGRows C) := by
  refine F.ok sc_Grid_rows (fun vs H Q E h => ?_) (fun cdv A outer s H vs Q E hr h => ?_)
  · obtain ⟨x, rc, rows, rfl, _⟩ := h
    rfl
  · obtain ⟨x, rc, rows, rfl, ⟨dx, t, p, hx, ht, hR⟩, hl, q⟩ := h
    refine ⟨_, (pss_one (ps_ret (pe_lc (own := [("row", 1)]) (g := (gName 1)) (tt := tYes) rfl sc_Grid_rows.nd (pi_list (pe_fld (pv 0) rfl)) (blkOk_by (N := ["self", "row"]) (sc := defScope s_Grid_rows) (by decide +kernel)) (fun _ _ _ _ _ => pg_name (i := 1) sc_Grid_rows.nd rfl (by first | exact Or.inl rfl | exact Or.inr rfl)) (fun _ _ _ _ _ => pts_nil) (fun _ _ _ _ _ => (pe_callTy (call_list_of : CallR _ (.type "list") (fun xs H Q => ∃ p ys, xs = [.ref p] ∧ (SqL K H p ys ∨ SqT K H p ys) ∧ ∀ (l : Addr), H l = none → Q (.ref l) (upd H l (.lst ys)))) (by rfl) T.z_list PyProof.Rows.boot_list (pa_cons (pv 1) pa_nil)))))), ?_⟩
    walk_at "ev"
    refine ⟨x, C, dx, _, _, rfl, hx, GK.cl, GK.n2, (lk_past (by decide +kernel)).trans lk_here, ?_⟩
    obtain ⟨_, as, hp, hA⟩ := hR
    refine ⟨p, rfl, ⟨_, .inl (.inl hp)⟩, fun D nD => ?_⟩
    have hal : (as.map V.ref).length = rows.length := by rw [List.length_map, hA.1]
    refine lc_it (walk_list (xs := as.map V.ref)) (fun i H3 => Same H H3 ∧ ∃ cs : List Addr, H3 D = some (.lst (cs.map V.ref)) ∧ RowsA (· ≠ D) H3 cs (rows.take i)) ⟨same_upd nD, [], upd_same, .nil⟩ (fun _ _ _ h => .inl (.inl (h.1 _ _ hp))) ?_ ?_
    · rintro i x1 H3 H4 hi ⟨s3, cs, e4, hC⟩ ⟨rfl, hx1⟩
      rw [List.getElem?_map] at hx1
      obtain ⟨b, hb, rfl⟩ := Option.map_eq_some_iff.mp hx1
      obtain ⟨r, hr⟩ : ∃ r, rows[i]? = some r := ⟨rows[i]'(by rw [← hA.1]; exact (List.getElem?_eq_some_iff.mp hb).1), List.getElem?_eq_getElem _⟩
      have hb4 := s3 _ _ (hA.2 i b r hb hr).2
      walk_at "ev"
      intro d2 nd2
      have nDd2 : d2 ≠ D := fun z => by
        rw [z, e4] at nd2
        cases nd2
      have hcl : cs.length = i := by
        rw [hC.1, List.length_take]
        omega
      refine ⟨_, new_at e4 nd2, small1000 (by rw [List.length_map]; omega), fun b' o e => ?_, cs ++ [d2], by rw [upd_same, List.map_append]; rfl, ?_⟩
      · rw [upd_ne (ne_of_none e nD)]
        exact new_at (s3 _ _ e) nd2
      · rw [← take_snoc hr]
        refine (hC.up fun b' o n e => ⟨n, ?_⟩).app nDd2 ?_
        · rw [upd_ne n]
          exact new_at e nd2
        · rw [upd_ne nDd2, upd_same]
    · rintro H3 ⟨s3, cs, e4, hC⟩
      rw [hal, List.take_length] at hC
      exact q D H3 nD s3 ⟨trivial, cs, e4, hC.up fun b o _ e => ⟨trivial, e⟩⟩
/-! ### a cell's number -/
def cellI (x0 y0 : Int) (rows : List (List Int)) (x y : Int) : Int := (rows.getD (y - y0).toNat []).getD (x - x0).toNat 0
def spGInit (K : PySem.W.Frag) (C : Addr) : Sp := fun vs H Q _ => ∃ (x dx rp p : Addr) (x0 x1 y0 y1 : Int) (rows : List (List Int)), vs = [.ref x, .ref rp, .ref p] ∧ H x = some (.ins C dx []) ∧ H rp = some (.tup [.int x0, .int x1, .int y0, .int y1]) ∧ x0 ≤ x1 ∧ y0 ≤ y1 ∧ Rows (fun _ => True) H p rows ∧ Fits x0 x1 y0 y1 rows ∧ rows.length ≤ 900 ∧
  ∀ H' : Hp, (∀ b o, b ≠ x → H b = some o → H' b = some o) → GridN (fun b => H b = none) C H' x [x0, x1, y0, y1] rows → Q .non H'
theorem ginit_imp {C BG : Addr} {vs : List V} {H : Hp} {Q : VK} {E : XK} (h : spGInit K C vs H Q E) : spGInitX K C BG vs H Q E := by
  obtain ⟨x, dx, rp, p, x0, x1, y0, y1, rows, e, hx, hrp, gx, gy, hR, hF, hl, q⟩ := h
  exact ⟨x, dx, rp, p, x0, x1, y0, y1, rows, e, hx, hrp, hR, hl, fun z => absurd ⟨gx, gy, hF⟩ z, fun _ _ _ => q⟩
theorem FnOk_imp {CX : CXT} {k : Nat} {f : Addr} {fd : FuncData} {ps : List Str} {sp sp' : Sp} (imp : ∀ vs H Q E, sp vs H Q E → sp' vs H Q E) (F : FnOk P w K mg base CX k f fd ps sp') : FnOk P w K mg base CX k f fd ps sp :=
  ⟨fun vs H Q E h => F.len vs H Q E (imp vs H Q E h), fun A outer s H args us vs Q E hr he hb hv hs => F.run A outer s H args us vs Q E hr he hb hv (imp vs H Q E hs)⟩
/-! ### pairs and halves of a row -/
def pS (a b : Int) : Int := b + (a - b) / 2
def spPair : Sp := fun vs H Q _ => ∃ (a b : Int), vs = [.int a, .int b] ∧ ∀ (q : Addr), H q = none → Q (.ref q) (upd H q (.tup [.int (pS a b), .int (a - b)]))
theorem ok_pair {f : Addr} {fd : FuncData} {k : Nat} (F : Fun K "pair" "pair" s_pair f fd) (T : Txt mg) : FnOk P w K mg base CX0 (k + 1) f fd ["a", "b"] spPair := by
  refine F.ok sc_pair (fun vs H Q E h => ?_) (fun cdv A outer s H vs Q E hr h => ?_)
  · obtain ⟨a, b, rfl, _⟩ := h
    rfl
  · obtain ⟨a, b, rfl, q⟩ := h
    refine ⟨_, (pss_cons (ps_set (i := 2) sc_pair.nd rfl (Or.inl rfl) (pe_op op_sub (pv 0) (pv 1)))
    (pss_one (ps_ret (pe_tup (pa_cons (pe_op op_add (pv 1) (pe_op op_fdivW (pv 2) pe_int)) (pa_cons (pv 2) pa_nil)))))), ?_⟩
    walk_at "ev"
    refine ⟨(by show 2 ≤ sizeLine; decide), fun q' nq => q q' nq⟩
def Lt2 (c : Nat) : Prop := c = 88 ∨ c = 89
def lowR (c : Nat) (x0 x1 y0 y1 : Int) : List Int := if c = 88 then [x0 / 2, (x1 + 1) / 2, y0, y1] else [x0, x1, y0 / 2, (y1 + 1) / 2]
def highR (c : Nat) (x0 x1 y0 y1 : Int) : List Int := if c = 88 then [(x0 + 1) / 2, x1 / 2, y0, y1] else [x0, x1, (y0 + 1) / 2, y1 / 2]
def spLowR (K : PySem.W.Frag) (g : Nat → Int → Int → Int → Int → List Int) : Sp := fun vs H Q _ => ∃ (rp : Addr) (c : Nat) (x0 x1 y0 y1 : Int), vs = [.ref rp, .str (SX.S [c])] ∧ Lt2 c ∧ SqT K H rp [.int x0, .int x1, .int y0, .int y1] ∧ ∀ (q : Addr), H q = none → Q (.ref q) (upd H q (.tup ((g c x0 x1 y0 y1).map V.int)))
theorem eq_X (c : Nat) : decide (V.str (SX.S [c]) = V.str (Str.ofString "X")) = decide (c = 88) := by
  rw [str_X]
  by_cases h : c = 88
  · rw [h, decide_eq_true rfl, decide_eq_true rfl]
  · rw [decide_eq_false h, decide_eq_false fun e => h (List.head_eq_of_cons_eq (SX.S_inj (V.str.inj e)))]
theorem is_X {c : Nat} (h : V.str (SX.S [c]) = V.str (Str.ofString "X")) : c = 88 := of_decide_eq_true (by rw [← eq_X]; exact decide_eq_true h)
theorem not_X {c : Nat} (h : ¬ V.str (SX.S [c]) = V.str (Str.ofString "X")) : c ≠ 88 := of_decide_eq_false (by rw [← eq_X]; exact decide_eq_false h)
theorem ok_low_rect {f : Addr} {fd : FuncData} {k : Nat} (F : Fun K "low_rect" "low_rect" s_low_rect f fd) (T : Txt mg) : FnOk P w K mg base CX0 (k + 1) f fd ["rect", "letter"] (spLowR K lowR) := by
  refine F.ok sc_low_rect (fun vs H Q E h => ?_) (fun cdv A outer s H vs Q E hr h => ?_)
  · obtain ⟨rp, c, x0, x1, y0, y1, rfl, _⟩ := h
    rfl
  · obtain ⟨rp, c, x0, x1, y0, y1, rfl, hc, hrp, q⟩ := h
    refine ⟨_, (pss_cons (ps_asg (pv 0) (pg_tup rfl (pgs_cons (pg_name (i := 2) sc_low_rect.nd rfl (Or.inl rfl)) (pgs_cons (pg_name (i := 3) sc_low_rect.nd rfl (Or.inl rfl)) (pgs_cons (pg_name (i := 4) sc_low_rect.nd rfl (Or.inl rfl)) (pgs_cons (pg_name (i := 5) sc_low_rect.nd rfl (Or.inl rfl)) pgs_nil))))))
    (pss_cons (ps_if (pt_cmpR op_eq (pv 1) pe_str (nomark _)) (pss_one (ps_ret (pe_tup (pa_cons (pe_op op_fdivW (pv 2) pe_int) (pa_cons (pe_op op_fdivW (pe_op op_add (pv 3) pe_int) pe_int) (pa_cons (pv 4) (pa_cons (pv 5) pa_nil))))))) pss_nil)
    (pss_one (ps_ret (pe_tup (pa_cons (pv 2) (pa_cons (pv 3) (pa_cons (pe_op op_fdivW (pv 4) pe_int) (pa_cons (pe_op op_fdivW (pe_op op_add (pv 5) pe_int) pe_int) pa_nil))))))))), ?_⟩
    walk_at "ev"
    refine ⟨rp, _, rfl, hrp, rfl, ?_⟩
    walk_at "ev"
    · rename_i hl
      have e : c = 88 := is_X hl
      have eg : lowR c x0 x1 y0 y1 = [x0 / 2, (x1 + 1) / 2, y0, y1] := if_pos e
      rw [eg] at q
      exact ⟨(by show 4 ≤ sizeLine; decide), fun q' nq => q q' nq⟩
    · rename_i hl
      have e : c ≠ 88 := not_X hl
      have eg : lowR c x0 x1 y0 y1 = [x0, x1, y0 / 2, (y1 + 1) / 2] := if_neg e
      rw [eg] at q
      exact ⟨(by show 4 ≤ sizeLine; decide), fun q' nq => q q' nq⟩
theorem ok_high_rect {f : Addr} {fd : FuncData} {k : Nat} (F : Fun K "high_rect" "high_rect" s_high_rect f fd) (T : Txt mg) : FnOk P w K mg base CX0 (k + 1) f fd ["rect", "letter"] (spLowR K highR) := by
  refine F.ok sc_high_rect (fun vs H Q E h => ?_) (fun cdv A outer s H vs Q E hr h => ?_)
  · obtain ⟨rp, c, x0, x1, y0, y1, rfl, _⟩ := h
    rfl
  · obtain ⟨rp, c, x0, x1, y0, y1, rfl, hc, hrp, q⟩ := h
    refine ⟨_, (pss_cons (ps_asg (pv 0) (pg_tup rfl (pgs_cons (pg_name (i := 2) sc_high_rect.nd rfl (Or.inl rfl)) (pgs_cons (pg_name (i := 3) sc_high_rect.nd rfl (Or.inl rfl)) (pgs_cons (pg_name (i := 4) sc_high_rect.nd rfl (Or.inl rfl)) (pgs_cons (pg_name (i := 5) sc_high_rect.nd rfl (Or.inl rfl)) pgs_nil))))))
    (pss_cons (ps_if (pt_cmpR op_eq (pv 1) pe_str (nomark _)) (pss_one (ps_ret (pe_tup (pa_cons (pe_op op_fdivW (pe_op op_add (pv 2) pe_int) pe_int) (pa_cons (pe_op op_fdivW (pv 3) pe_int) (pa_cons (pv 4) (pa_cons (pv 5) pa_nil))))))) pss_nil)
    (pss_one (ps_ret (pe_tup (pa_cons (pv 2) (pa_cons (pv 3) (pa_cons (pe_op op_fdivW (pe_op op_add (pv 4) pe_int) pe_int) (pa_cons (pe_op op_fdivW (pv 5) pe_int) pa_nil))))))))), ?_⟩
    walk_at "ev"
    refine ⟨rp, _, rfl, hrp, rfl, ?_⟩
    walk_at "ev"
    · rename_i hl
      have e : c = 88 := is_X hl
      have eg : highR c x0 x1 y0 y1 = [(x0 + 1) / 2, x1 / 2, y0, y1] := if_pos e
      rw [eg] at q
      exact ⟨(by show 4 ≤ sizeLine; decide), fun q' nq => q q' nq⟩
    · rename_i hl
      have e : c ≠ 88 := not_X hl
      have eg : highR c x0 x1 y0 y1 = [x0, x1, (y0 + 1) / 2, y1 / 2] := if_neg e
      rw [eg] at q
      exact ⟨(by show 4 ≤ sizeLine; decide), fun q' nq => q q' nq⟩
def alone (s e i : Int) : Bool := decide (2 * i < s ∨ 2 * i + 1 ≥ e)
def spAlone : Sp := fun vs H Q _ => ∃ (i s e : Int), vs = [.int i, .int s, .int e] ∧ Q (.bl (alone s e i)) H
theorem ok_alone {f : Addr} {fd : FuncData} {k : Nat} (F : Fun K "_is_alone" "_is_alone" s_is_alone f fd) (T : Txt mg) : FnOk P w K mg base CX0 (k + 1) f fd ["i", "start", "stop"] spAlone := by
  refine F.ok sc_is_alone (fun vs H Q E h => ?_) (fun cdv A outer s H vs Q E hr h => ?_)
  · obtain ⟨i, s0, e0, rfl, _⟩ := h
    rfl
  · obtain ⟨i, s0, e0, rfl, q⟩ := h
    refine ⟨_, (pss_one (ps_ret (pe_or (pe_cmpR op_lt (pe_op op_mul pe_int (pv 0)) (pv 1) (nomark _)) (pe_one (pe_cmpR op_ge (pe_op op_add (pe_op op_mul pe_int (pv 0)) pe_int) (pv 2) (nomark _)))))), ?_⟩
    walk_at "ev"
    · rename_i hc
      have e : alone s0 e0 i = true := decide_eq_true (.inl hc)
      rw [e] at q
      exact q
    · rename_i hc
      have e : alone s0 e0 i = decide (e0 ≤ 2 * i + 1) := by
        unfold alone
        simp only [hc, false_or, ge_iff_le]
      rw [e] at q
      exact q
def nz (ns : List Int) (i : Int) : Int := ns.getD i.toNat 0
def lowAt (s : Int) (ns : List Int) (i : Int) : Int := if alone s (s + ns.length) i = true then nz ns (mx 0 (2 * i - s)) else pS (nz ns (2 * i - s)) (nz ns (2 * i - s + 1))
def highAt (s : Int) (ns : List Int) (i : Int) : Int := nz ns (2 * i - s) - nz ns (2 * i - s + 1)
def lowsTo (s : Int) (ns : List Int) (t : Nat) : List Int := (List.range t).map fun (j : Nat) => lowAt s ns (s / 2 + j)
def highsTo (s : Int) (ns : List Int) (t : Nat) : List Int := (List.range t).map fun (j : Nat) => highAt s ns ((s + 1) / 2 + j)
def halvL (s : Int) (ns : List Int) : List Int := lowsTo s ns ((s + ns.length + 1) / 2 - s / 2).toNat
def halvH (s : Int) (ns : List Int) : List Int := highsTo s ns ((s + ns.length) / 2 - (s + 1) / 2).toNat
theorem lows_succ (s : Int) (ns : List Int) (t : Nat) : lowsTo s ns (t + 1) = lowsTo s ns t ++ [lowAt s ns (s / 2 + t)] := by
  unfold lowsTo
  rw [List.range_succ, List.map_append]
  rfl
theorem highs_succ (s : Int) (ns : List Int) (t : Nat) : highsTo s ns (t + 1) = highsTo s ns t ++ [highAt s ns ((s + 1) / 2 + t)] := by
  unfold highsTo
  rw [List.range_succ, List.map_append]
  rfl
theorem at_nz {ns : List Int} {i : Int} (h0 : 0 ≤ i) (h : i < (ns.length : Int)) : atI (ns.map V.int) i = some (.int (nz ns i)) := by
  refine at_of (j := i.toNat) (by omega) ?_
  have hl : i.toNat < ns.length := by omega
  rw [List.getElem?_map, List.getElem?_eq_getElem hl]
  unfold nz
  rw [List.getD_eq_getElem?_getD, List.getElem?_eq_getElem hl]
  rfl
def hN (s n : Int) (t : Nat) : Nat := (min (s / 2 + t) ((s + n) / 2) - (s + 1) / 2).toNat
def spHalv : Sp := fun vs H Q _ => ∃ (p : Addr) (s : Int) (ns : List Int), vs = [.ref p, .int s] ∧ H p = some (.lst (ns.map V.int)) ∧ 1 ≤ ns.length ∧ ns.length ≤ 900 ∧ -4000000000 ≤ s ∧ s ≤ 4000000000 ∧
  ∀ (q l h : Addr) (H' : Hp), H l = none → H h = none → Same H H' → H' q = some (.tup [.ref l, .ref h]) → H' l = some (.lst ((halvL s ns).map V.int)) → H' h = some (.lst ((halvH s ns).map V.int)) → Q (.ref q) H'
theorem ok_halv {f : Addr} {fd : FuncData} {k : Nat} (F : Fun K "_halved_numbers" "_halved_numbers" s_halved_numbers f fd) (T : Txt mg) (c_is_alone : C8.Cal P w K mg base 1 "_is_alone" spAlone []) (c_pair : C8.Cal P w K mg base 1 "pair" spPair []) : FnOk P w K mg base CX0 (k + 2) f fd ["numbers", "start"] spHalv := by
  refine F.ok sc_halved_numbers (fun vs H Q E h => ?_) (fun cdv A outer s H vs Q E hr h => ?_)
  · obtain ⟨p, s0, ns, rfl, _⟩ := h
    rfl
  · obtain ⟨p, s0, ns, rfl, hp, hn1, hn2, hs1, hs2, q⟩ := h
    have hcl : (ns.map V.int).length = ns.length := List.length_map _
    refine ⟨_, (pss_cons (ps_set (i := 2) sc_halved_numbers.nd rfl (Or.inl rfl) (pe_op op_add (pv 1) (pe_callB call_len_seq (by rfl) T.z_len PySem.boot_len (pa_cons (pv 0) pa_nil))))
    (pss_cons (ps_set (i := 3) sc_halved_numbers.nd rfl (Or.inl rfl) (pe_lst pa_nil))
    (pss_cons (ps_set (i := 4) sc_halved_numbers.nd rfl (Or.inl rfl) (pe_lst pa_nil))
    (pss_cons (ps_for PassesOwn.never rfl (pi_range2 (by rfl) T.z_range (pa_cons (pe_op op_fdivW (pv 1) pe_int) (pa_cons (pe_op op_fdivW (pe_op op_add (pv 2) pe_int) pe_int) pa_nil))) (pg_name (i := 5) sc_halved_numbers.nd rfl (Or.inl rfl))
      (pss_cons (ps_set (i := 6) sc_halved_numbers.nd rfl (Or.inl rfl) (pe_op op_sub (pe_op op_mul pe_int (pv 5)) (pv 1)))
    (pss_one (ps_if (pt_val (C8.pe_c c_is_alone hr (by omega) (by rfl) (pa_cons (pv 5) (pa_cons (pv 1) (pa_cons (pv 2) pa_nil))))) (pss_one (ps_expr (pe_bm PySem.F.plainAttrs_list PySem.F.slot_list_append PySem.F.type_list_append mt_append (pv 3) (pa_cons (pe_ix ix_list (pv 0) (pe_callB (call_max2 rfl) (by rfl) T.z_max PyProof.Rows.boot_max (pa_cons pe_int (pa_cons (pv 6) pa_nil))) (fun _ _ => rfl)) pa_nil)))) (pss_cons (ps_asg (C8.pe_c c_pair hr (by omega) (by rfl) (pa_cons (pe_ix ix_list (pv 0) (pv 6) (fun _ _ => rfl)) (pa_cons (pe_ix ix_list (pv 0) (pe_op op_add (pv 6) pe_int) (fun _ _ => rfl)) pa_nil))) (pg_tup rfl (pgs_cons (pg_name (i := 7) sc_halved_numbers.nd rfl (Or.inl rfl)) (pgs_cons (pg_name (i := 8) sc_halved_numbers.nd rfl (Or.inl rfl)) pgs_nil))))
    (pss_cons (ps_expr (pe_bm PySem.F.plainAttrs_list PySem.F.slot_list_append PySem.F.type_list_append mt_append (pv 3) (pa_cons (pv 7) pa_nil)))
    (pss_one (ps_expr (pe_bm PySem.F.plainAttrs_list PySem.F.slot_list_append PySem.F.type_list_append mt_append (pv 4) (pa_cons (pv 8) pa_nil))))))))))
    (pss_one (ps_ret (pe_tup (pa_cons (pv 3) (pa_cons (pv 4) pa_nil))))))))), ?_⟩
    walk_at "ev"
    refine ⟨(by show 0 ≤ sizeLine; decide), fun l nl => ?_⟩
    walk_at "ev"
    refine ⟨(by show 0 ≤ sizeLine; decide), fun h nh => ?_⟩
    have nhl : h ≠ l := fun z => by
      rw [z, upd_same] at nh
      cases nh
    have sA : Same H (upd (upd H l (.lst [])) h (.lst [])) := (same_upd nl).trans (same_upd nh)
    have nh0 : H h = none := (same_upd nl).free nh
    walk_at "ev"
    refine ⟨⟨by omega, by omega, by omega, by omega⟩, ?_⟩
    rw [hcl]
    have hlen : ((s0 + (ns.length : Int) + 1) / 2 - s0 / 2).toNat ≤ 902 := by omega
    refine for_it walk_range (fun t σ H3 => ∃ v5 v6 v7 v8, σ = [some (.ref p), some (.int s0), some (.int (s0 + ns.length)), some (.ref l), some (.ref h), v5, v6, v7, v8] ∧ Same H H3 ∧ H3 l = some (.lst ((lowsTo s0 ns t).map V.int)) ∧ H3 h = some (.lst ((highsTo s0 ns (hN s0 ns.length t)).map V.int)))
      ⟨_, _, _, _, rfl, sA, by rw [upd_ne nhl.symm, upd_same]; rfl, by
        rw [upd_same]
        have e : hN s0 ns.length 0 = 0 := by
          unfold hN
          omega
        rw [e]
        rfl⟩ (fun _ _ _ _ _ => trivial) ?_ ?_
    · rintro t x σ H3 H4 ht ⟨v5, v6, v7, v8, rfl, s3, e1, e2⟩ ⟨rfl, rfl⟩
      have hp3 := s3 _ _ hp
      have hlt : (lowsTo s0 ns t).length = t := by
        unfold lowsTo
        rw [List.length_map, List.length_range]
      have hht : (highsTo s0 ns (hN s0 ns.length t)).length ≤ 902 := by
        unfold highsTo
        rw [List.length_map, List.length_range]
        unfold hN
        omega
      walk_at "ev"
      refine ⟨_, _, _, rfl, ?_⟩
      by_cases hal : 2 * (s0 / 2 + (t : Int)) < s0 ∨ 2 * (s0 / 2 + (t : Int)) + 1 ≥ s0 + ns.length
      · have ea : alone s0 (s0 + ns.length) (s0 / 2 + t) = true := decide_eq_true hal
        rw [ea]
        walk_at "ev"
        refine ⟨.inl ⟨rfl, _, .inl (.inl e1)⟩, ?_⟩
        walk_at "ev"
        have hm : 0 ≤ mx 0 (2 * (s0 / 2 + (t : Int)) - s0) ∧ mx 0 (2 * (s0 / 2 + (t : Int)) - s0) < (ns.length : Int) := by
          unfold mx
          constructor <;> (split <;> omega)
        refine ⟨_, _, _, _, rfl, rfl, .inl (.inl hp3), at_nz hm.1 hm.2, ?_⟩
        walk_at "ev"
        have hv : lowAt s0 ns (s0 / 2 + t) = nz ns (mx 0 (2 * (s0 / 2 + (t : Int)) - s0)) := if_pos ea
        have hst : hN s0 ns.length (t + 1) = hN s0 ns.length t := by
          unfold hN
          omega
        refine ⟨l, _, _, rfl, rfl, e1, small1000 (by rw [List.length_map, hlt]; omega), _, _, _, _, rfl, fun b o e => ?_, ?_, ?_⟩
        · rw [upd_ne (ne_of_none e nl)]
          exact s3 _ _ e
        · rw [upd_same, lows_succ, List.map_append, hv]
          rfl
        · rw [upd_ne nhl, hst]
          exact e2
      · have ea : alone s0 (s0 + ns.length) (s0 / 2 + t) = false := decide_eq_false hal
        rw [ea]
        walk_at "ev"
        refine ⟨_, _, _, _, rfl, rfl, .inl (.inl hp3), at_nz (by omega) (by omega), ?_⟩
        walk_at "ev"
        refine ⟨_, _, _, _, rfl, rfl, .inl (.inl hp3), at_nz (by omega) (by omega), ?_⟩
        walk_at "ev"
        intro u nu
        refine ⟨u, _, rfl, .inl (.inl upd_same), rfl, ?_⟩
        have hu1 := new_at (o' := .tup [.int (pS (nz ns (2 * (s0 / 2 + (t : Int)) - s0)) (nz ns (2 * (s0 / 2 + (t : Int)) - s0 + 1))), .int (highAt s0 ns (s0 / 2 + t))]) e1 nu
        have hu2 := new_at (o' := .tup [.int (pS (nz ns (2 * (s0 / 2 + (t : Int)) - s0)) (nz ns (2 * (s0 / 2 + (t : Int)) - s0 + 1))), .int (highAt s0 ns (s0 / 2 + t))]) e2 nu
        have sB := s3.trans (same_upd (o := .tup [.int (pS (nz ns (2 * (s0 / 2 + (t : Int)) - s0)) (nz ns (2 * (s0 / 2 + (t : Int)) - s0 + 1))), .int (highAt s0 ns (s0 / 2 + t))]) nu)
        have hv : lowAt s0 ns (s0 / 2 + t) = pS (nz ns (2 * (s0 / 2 + (t : Int)) - s0)) (nz ns (2 * (s0 / 2 + (t : Int)) - s0 + 1)) := if_neg (by rw [ea]; exact Bool.false_ne_true)
        have hst : hN s0 ns.length (t + 1) = hN s0 ns.length t + 1 ∧ (s0 + 1) / 2 + (hN s0 ns.length t : Nat) = s0 / 2 + (t : Int) := by
          unfold hN
          omega
        show gCons _ _ [.int (pS (nz ns (2 * (s0 / 2 + (t : Int)) - s0)) (nz ns (2 * (s0 / 2 + (t : Int)) - s0 + 1))), .int (highAt s0 ns (s0 / 2 + t))] _ (upd H4 u (.tup [.int (pS (nz ns (2 * (s0 / 2 + (t : Int)) - s0)) (nz ns (2 * (s0 / 2 + (t : Int)) - s0 + 1))), .int (highAt s0 ns (s0 / 2 + t))])) _
        generalize upd H4 u (.tup [.int (pS (nz ns (2 * (s0 / 2 + (t : Int)) - s0)) (nz ns (2 * (s0 / 2 + (t : Int)) - s0 + 1))), .int (highAt s0 ns (s0 / 2 + t))]) = H5 at hu1 hu2 sB ⊢
        walk_at "ev"
        refine ⟨.inl ⟨rfl, _, .inl (.inl hu1)⟩, ?_⟩
        walk_at "ev"
        refine ⟨l, _, _, rfl, rfl, hu1, small1000 (by rw [List.length_map, hlt]; omega), ?_⟩
        have hu3 := (upd_ne (H := H5) (o := .lst ((lowsTo s0 ns t).map V.int ++ [.int (pS (nz ns (2 * (s0 / 2 + (t : Int)) - s0)) (nz ns (2 * (s0 / 2 + (t : Int)) - s0 + 1)))])) nhl).trans hu2
        walk_at "ev"
        refine ⟨.inl ⟨rfl, _, .inl (.inl hu3)⟩, ?_⟩
        walk_at "ev"
        refine ⟨h, _, _, rfl, rfl, hu3, small1000 (by rw [List.length_map]; omega), _, _, _, _, rfl, fun b o e => ?_, ?_, ?_⟩
        · rw [upd_ne (ne_of_none e nh0), upd_ne (ne_of_none e nl)]
          exact sB _ _ e
        · rw [upd_ne nhl.symm, upd_same, lows_succ, List.map_append, hv]
          rfl
        · rw [upd_same, hst.1, highs_succ, List.map_append, hst.2]
          rfl
    · rintro σ H3 ⟨v5, v6, v7, v8, rfl, s3, e1, e2⟩
      walk_at "ev"
      refine ⟨(by show 2 ≤ sizeLine; decide), fun q' nq => ?_⟩
      exact q q' l h _ nl nh0 (s3.trans (same_upd nq)) upd_same (new_at e1 nq) (by
        have ee : hN s0 ns.length ((s0 + (ns.length : Int) + 1) / 2 - s0 / 2).toNat = ((s0 + ns.length) / 2 - (s0 + 1) / 2).toNat := by
          unfold hN
          omega
        rw [ee] at e2
        exact new_at e2 nq)
/-! ### rows turned into columns -/
def trans (w : Nat) (rows : List (List Int)) : List (List Int) := (List.range w).map fun x => rows.map fun r => r.getD x 0
def along (c w : Nat) (rows : List (List Int)) : List (List Int) := if c = 88 then rows else trans w rows
theorem trans_len (w : Nat) (rows : List (List Int)) : (trans w rows).length = w := by
  unfold trans
  rw [List.length_map, List.length_range]
theorem trans_row {w : Nat} {rows : List (List Int)} {r : List Int} (m : r ∈ trans w rows) : r.length = rows.length := by
  unfold trans at m
  obtain ⟨x, _, rfl⟩ := List.mem_map.mp m
  exact List.length_map _
def spAlong (K : PySem.W.Frag) : Sp := fun vs H Q _ => ∃ (p : Addr) (c w : Nat) (rows : List (List Int)), vs = [.ref p, .str (SX.S [c])] ∧ Lt2 c ∧ Rows (fun _ => True) H p rows ∧ rows ≠ [] ∧ rows.length ≤ 900 ∧ w ≤ 900 ∧ (∀ r ∈ rows, r.length = w) ∧ ∀ (q : Addr) (H' : Hp), Same H H' → Rows (fun _ => True) H' q (along c w rows) → Q (.ref q) H'
/-- what a list at an address holds -/
def lstAt (H : Hp) (a : Addr) : List V := match H a with
  | some (.lst xs) => xs
  | _ => []
theorem lstAt_of {H : Hp} {a : Addr} {xs : List V} (h : H a = some (.lst xs)) : lstAt H a = xs := by
  unfold lstAt
  rw [h]
theorem col_of {H : Hp} {x : Nat} : ∀ {as : List Addr} {rows : List (List Int)}, RowsA (fun _ => True) H as rows → (∀ r ∈ rows, x < r.length) → (as.map fun a => (lstAt H a).getD x .non) = (rows.map fun r => r.getD x 0).map V.int
  | [], [], _, _ => rfl
  | [], r :: rs, h, _ => nomatch h.1
  | a :: as, [], h, _ => nomatch h.1
  | a :: as, r :: rs, h, hl => by
    have e := (h.2 0 a r rfl rfl).2
    have hx := hl r List.mem_cons_self
    have ih := col_of (x := x) (as := as) (rows := rs) ⟨Nat.succ.inj h.1, fun i b s e1 e2 => h.2 (i + 1) b s e1 e2⟩ fun s m => hl s (List.mem_cons_of_mem _ m)
    rw [List.map_cons, List.map_cons, List.map_cons, ih, lstAt_of e]
    congr 1
    rw [List.getD_eq_getElem?_getD, List.getD_eq_getElem?_getD, List.getElem?_map, List.getElem?_eq_getElem hx]
    rfl
def along0 (c w : Nat) (rows : List (List Int)) : List (List Int) := if rows = [] then [] else along c w rows
theorem walk_zip0 : Walk It0 0 (fun _ => True) (fun _ _ _ _ => False) := ⟨fun i _ hi _ => absurd hi (Nat.not_lt_zero _), fun _ _ => trivial, fun i _ _ _ hi _ _ => absurd hi (Nat.not_lt_zero _)⟩
def spAlong0 (K : PySem.W.Frag) : Sp := fun vs H Q _ => ∃ (p : Addr) (c w : Nat) (rows : List (List Int)), vs = [.ref p, .str (SX.S [c])] ∧ Lt2 c ∧ Rows (fun _ => True) H p rows ∧ rows.length ≤ 900 ∧ w ≤ 900 ∧ (∀ r ∈ rows, r.length = w) ∧ ∀ (q : Addr) (H' : Hp), Same H H' → Rows (fun _ => True) H' q (along0 c w rows) → Q (.ref q) H'
theorem along_imp {vs : List V} {H : Hp} {Q : VK} {E : XK} (h : spAlong K vs H Q E) : spAlong0 K vs H Q E := by
  obtain ⟨p, c, wd, rows, e, hc, hR, hne, hl, hw, hrw, q⟩ := h
  refine ⟨p, c, wd, rows, e, hc, hR, hl, hw, hrw, fun a H' s r => q a H' s ?_⟩
  rw [show along0 c wd rows = along c wd rows from if_neg hne] at r
  exact r
theorem ok_along0 {f : Addr} {fd : FuncData} {k : Nat} (F : Fun K "_along" "_along" s_along f fd) (T : Txt mg) : FnOk P w K mg base CX0 (k + 1) f fd ["rows", "letter"] (spAlong0 K) := by
  refine F.ok sc_along (fun vs H Q E h => ?_) (fun cdv A outer s H vs Q E hr h => ?_)
  · obtain ⟨p, c, wd, rows, rfl, _⟩ := h
    rfl
  · obtain ⟨p, c, wd, rows, rfl, hc, hR, hl, hw, hrw, q⟩ := h
    refine ⟨_, (pss_cons (ps_if (pt_cmpR op_eq (pv 1) pe_str (nomark _)) (pss_one (ps_ret (pv 0))) pss_nil)
    (pss_one (ps_ret (pe_lc (own := [("column", 2)]) (g := (gName 2)) (tt := tYes) rfl sc_along.nd (pi_zipS0 (by rfl) T.z_zip (pv 0)) (blkOk_by (N := ["rows", "letter", "column"]) (sc := defScope s_along) (by decide +kernel)) (fun _ _ _ _ _ => pg_name (i := 2) sc_along.nd rfl (by first | exact Or.inl rfl | exact Or.inr rfl)) (fun _ _ _ _ _ => pts_nil) (fun _ _ _ _ _ => (pe_callTy (call_list_of : CallR _ (.type "list") (fun xs H Q => ∃ p ys, xs = [.ref p] ∧ (SqL K H p ys ∨ SqT K H p ys) ∧ ∀ (l : Addr), H l = none → Q (.ref l) (upd H l (.lst ys)))) (by rfl) T.z_list PyProof.Rows.boot_list (pa_cons (pv 2) pa_nil))))))), ?_⟩
    walk_at "ev"
    · rename_i hX
      have e : along0 c wd rows = rows := by
        unfold along0
        split
        · rename_i z
          rw [z]
        · exact if_pos (is_X hX)
      rw [e] at q
      exact q p H (fun _ _ e => e) hR
    · rename_i hX
      obtain ⟨_, as, hp, hA⟩ := hR
      have hrow : ∀ a ∈ as, ∃ r ∈ rows, H a = some (.lst (r.map V.int)) := fun a m => by
        obtain ⟨i, hi⟩ := List.getElem?_of_mem m
        have hil := (List.getElem?_eq_some_iff.mp hi).1
        have hr : rows[i]? = some (rows[i]'(by rw [← hA.1]; exact hil)) := List.getElem?_eq_getElem _
        exact ⟨_, List.mem_of_getElem? hr, (hA.2 i a _ hi hr).2⟩
      refine ⟨p, as, lstAt H, rfl, .inr (.inl (.inl hp)), by rw [hA.1]; exact hl, fun a m => ?_, fun ea D nD => ?_, fun nea D nD => ?_⟩
      · obtain ⟨r, _, e⟩ := hrow a m
        exact .inl (.inl (by rw [lstAt_of e]; exact e))
      · have er : rows = [] := List.length_eq_zero_iff.mp (by rw [← hA.1, ea]; rfl)
        have e : along0 c wd rows = [] := if_pos er
        rw [e] at q
        refine lc_it walk_zip0 (fun i H3 => H3 = upd H D (.lst [])) rfl (fun _ _ _ _ => trivial) ?_ ?_
        · rintro i x H3 H4 hi _ z
          exact z.elim
        · rintro H3 rfl
          exact q D _ (same_upd nD) ⟨trivial, [], upd_same, RowsA.nil⟩
      have hne : rows ≠ [] := fun z => nea (List.length_eq_zero_iff.mp (by rw [hA.1, z]; rfl))
      have e : along0 c wd rows = trans wd rows := (if_neg hne).trans (if_neg (not_X hX))
      rw [e] at q
      have htl := trans_len wd rows
      refine lc_it (walk_zipN (xss := lstAt H) (n := wd) fun a m => ?_) (fun i H3 => Same H H3 ∧ ∃ cs : List Addr, H3 D = some (.lst (cs.map V.ref)) ∧ RowsA (· ≠ D) H3 cs ((trans wd rows).take i)) ⟨same_upd nD, [], upd_same, .nil⟩ (fun i H3 _ h a m => ?_) ?_ ?_
      · obtain ⟨r, mr, e⟩ := hrow a m
        rw [lstAt_of e, List.length_map]
        exact hrw r mr
      · obtain ⟨r, mr, e⟩ := hrow a m
        exact .inl (.inl (by rw [lstAt_of e]; exact h.1 _ _ e))
      · rintro i x H3 H4 hi ⟨s3, cs, e4, hC⟩ ⟨t, rfl, nt, rfl⟩
        rw [col_of hA fun r m => by rw [hrw r m]; exact hi]
        have ntD : D ≠ t := fun z => by
          rw [← z, e4] at nt
          cases nt
        have e5 := new_at (o' := .tup ((rows.map fun r => r.getD i 0).map V.int)) e4 nt
        have s5 := s3.trans (same_upd (o := .tup ((rows.map fun r => r.getD i 0).map V.int)) nt)
        have hC5 : RowsA (· ≠ D) (upd H3 t (.tup ((rows.map fun r => r.getD i 0).map V.int))) cs ((trans wd rows).take i) := hC.up fun b o n e => ⟨n, new_at e nt⟩
        have et : upd H3 t (.tup ((rows.map fun r => r.getD i 0).map V.int)) t = some (.tup ((rows.map fun r => r.getD i 0).map V.int)) := upd_same
        generalize upd H3 t (.tup ((rows.map fun r => r.getD i 0).map V.int)) = H5 at e5 s5 hC5 et ⊢
        walk_at "ev"
        intro d2 nd2
        have nDd2 : d2 ≠ D := fun z => by
          rw [z, e5] at nd2
          cases nd2
        have hcl : cs.length = i := by
          rw [hC.1, List.length_take, htl]
          omega
        have hr : (trans wd rows)[i]? = some (rows.map fun r => r.getD i 0) := by
          unfold trans
          rw [List.getElem?_map, List.getElem?_range hi]
          rfl
        refine ⟨_, new_at e5 nd2, small1000 (by rw [List.length_map]; omega), fun b' o e => ?_, cs ++ [d2], by rw [upd_same, List.map_append]; rfl, ?_⟩
        · rw [upd_ne (ne_of_none e nD)]
          exact new_at (s5 _ _ e) nd2
        · rw [← take_snoc hr]
          refine (hC5.up fun b' o n e => ⟨n, ?_⟩).app nDd2 ?_
          · rw [upd_ne n]
            exact new_at e nd2
          · rw [upd_ne nDd2, upd_same]
      · rintro H3 ⟨s3, cs, e4, hC⟩
        rw [List.take_of_length_le (Nat.le_of_eq htl)] at hC
        exact q D H3 s3 ⟨trivial, cs, e4, hC.up fun b o _ e => ⟨trivial, e⟩⟩
/-! ### a grid out of rows or columns -/
theorem GridN.mono {N M : Addr → Prop} {C : Addr} {H : Hp} {x : Addr} {rc : List Int} {rows : List (List Int)} (h : GridN N C H x rc rows) (k : ∀ b, N b → M b) : GridN M C H x rc rows := by
  obtain ⟨dx, t, p, e1, e2, e3⟩ := h
  exact ⟨dx, t, p, e1, e2, e3.up fun b o n e => ⟨k b n, e⟩⟩
def spGrid (K : PySem.W.Frag) (C : Addr) : Sp := fun vs H Q _ => ∃ (rp p : Addr) (c w : Nat) (x0 x1 y0 y1 : Int) (rows gr : List (List Int)), vs = [.ref rp, .ref p, .str (SX.S [c])] ∧ Lt2 c ∧ H rp = some (.tup [.int x0, .int x1, .int y0, .int y1]) ∧ x0 ≤ x1 ∧ y0 ≤ y1 ∧ Rows (fun _ => True) H p rows ∧
  ((x0 < x1 ∧ y0 < y1 ∧ gr = along c w rows ∧ rows ≠ [] ∧ rows.length ≤ 900 ∧ w ≤ 900 ∧ (∀ r ∈ rows, r.length = w) ∧ gr.length ≤ 900 ∧ Fits x0 x1 y0 y1 gr) ∨ (¬ (x0 < x1 ∧ y0 < y1) ∧ gr = [])) ∧
  ∀ (x : Addr) (H' : Hp), H x = none → Same H H' → GridN (fun b => H b = none) C H' x [x0, x1, y0, y1] gr → Q (.ref x) H'
theorem ok_grid {f C : Addr} {fd : FuncData} {k : Nat} (F : Fun K "_grid" "_grid" s_grid f fd) (T : Txt mg) (c_along : C8.Cal P w K mg base 1 "_along" (spAlong K) []) (c_has_cells : C8.Cal P w K mg base 1 "has_cells" (spHas K) []) (M_Grid : CalC P w K mg base 4 "Grid" C ["rect", "rows"] (spGInit K C)) : FnOk P w K mg base CX0 (k + 6) f fd ["rect", "numbers", "letter"] (spGrid K C) := by
  refine F.ok sc_grid (fun vs H Q E h => ?_) (fun cdv A outer s H vs Q E hr h => ?_)
  · obtain ⟨rp, p, c, wd, x0, x1, y0, y1, rows, gr, rfl, _⟩ := h
    rfl
  · obtain ⟨rp, p, c, wd, x0, x1, y0, y1, rows, gr, rfl, hc, hrp, gx, gy, hR, hG, q⟩ := h
    refine ⟨_, (pss_one (ps_ret (pe_new M_Grid hr (by omega) (by rfl) passN (pa_cons (pv 0) (pa_cons (pe_ifExp (pt_val (C8.pe_c c_has_cells hr (by omega) (by rfl) (pa_cons (pv 0) pa_nil))) (C8.pe_c c_along hr (by omega) (by rfl) (pa_cons (pv 1) (pa_cons (pv 2) pa_nil))) (pe_lst pa_nil)) pa_nil))))), ?_⟩
    have tail : ∀ (H1 : Hp) (p1 : Addr) (X : V → Hp → Prop), Same H H1 → Rows (fun _ => True) H1 p1 gr → gr.length ≤ 900 → Fits x0 x1 y0 y1 gr → (∀ v H', Q v H' → X v H') →
      ∀ x dx : Addr, H1 x = none → H1 dx = none → dx ≠ x → spGInit K C [.ref x, .ref rp, .ref p1] (upd (upd H1 dx (.own x)) x (.ins C dx [])) (fun v H' => v = .non ∧ X (.ref x) H') (fun _ _ _ => False) := by
      intro H1 p1 X s1 hR1 hl hF hX x dx nx nd ndx
      have sA : Same H1 (upd (upd H1 dx (.own x)) x (.ins C dx [])) := (same_upd nd).trans (same_upd (by rw [upd_ne ndx.symm]; exact nx))
      have e1 := s1 _ _ hrp
      refine ⟨x, dx, rp, p1, x0, x1, y0, y1, gr, rfl, upd_same, sA _ _ e1, gx, gy, hR1.up fun b o _ e => ⟨trivial, sA _ _ e⟩, hF, hl, fun H' o' g' => ⟨rfl, hX _ _ (q x H' (s1.free nx) (fun b o e => ?_) ?_)⟩⟩
      · exact o' b o (ne_of_none (s1 _ _ e) nx) (sA _ _ (s1 _ _ e))
      · exact g'.mono fun b e => (s1.trans sA).free e
    walk_at "ev"
    refine ⟨rp, x0, x1, y0, y1, rfl, .inl (.inl hrp), ?_⟩
    rcases hG with ⟨g1, g2, ge, hne, hl, hw, hrw, hgl, hF⟩ | ⟨g0, ge⟩
    · rw [decide_eq_true (⟨g1, g2⟩ : x0 < x1 ∧ y0 < y1)]
      walk_at "ev"
      refine ⟨p, c, wd, rows, rfl, hc, hR, hne, hl, hw, hrw, fun p1 H1 s1 hR1 => ?_⟩
      rw [← ge] at hR1
      exact tail H1 p1 Q s1 hR1 hgl hF (fun _ _ z => z)
    · rw [decide_eq_false g0]
      walk_at "ev"
      refine ⟨(by show 0 ≤ sizeLine; decide), fun p1 n1 => ?_⟩
      refine tail _ p1 Q (same_upd n1) ?_ (by rw [ge]; exact Nat.zero_le _) (.inr ⟨g0, ge⟩) (fun _ _ z => z)
      rw [ge]
      exact ⟨trivial, [], upd_same, .nil⟩
/-! ### a grid halved -/
def spCells (K : PySem.W.Frag) : Sp := fun vs H Q _ => ∃ (rp : Addr) (x0 x1 y0 y1 : Int), vs = [.ref rp] ∧ SqT K H rp [.int x0, .int x1, .int y0, .int y1] ∧ x0 < x1 ∧ y0 < y1 ∧ Q .non H
theorem ok_cells {f : Addr} {fd : FuncData} {k : Nat} (F : Fun K "_check_cells" "_check_cells" s_check_cells f fd) (T : Txt mg) (c_has_cells : C8.Cal P w K mg base 1 "has_cells" (spHas K) []) : FnOk P w K mg base CX0 (k + 2) f fd ["rect"] (spCells K) := by
  refine F.ok sc_check_cells (fun vs H Q E h => ?_) (fun cdv A outer s H vs Q E hr h => ?_)
  · obtain ⟨rp, x0, x1, y0, y1, rfl, _⟩ := h
    rfl
  · obtain ⟨rp, x0, x1, y0, y1, rfl, hrp, hx, hy, q⟩ := h
    refine ⟨_, (pss_one (ps_if (pt_not (pt_val (C8.pe_c c_has_cells hr (by omega) (by rfl) (pa_cons (pv 0) pa_nil)))) (pss_one ps_never) pss_nil)), ?_⟩
    walk_at "ev"
    refine ⟨rp, x0, x1, y0, y1, rfl, hrp, ?_⟩
    rw [decide_eq_true (⟨hx, hy⟩ : x0 < x1 ∧ y0 < y1)]
    walk_at "ev"
    exact q
def spLetter : Sp := fun vs H Q _ => ∃ (c : Nat), vs = [.str (SX.S [c])] ∧ Lt2 c ∧ Q .non H
theorem ok_letter {f LT : Addr} {fd : FuncData} {k : Nat} (F : Fun K "_check_letter" "_check_letter" s_check_letter f fd) (T : Txt mg) (hLT : mg "LETTERS" = some (.ref LT)) (hLq : ∀ H : Hp, SqT K H LT [.str "X", .str "Y"]) : FnOk P w K mg base CX0 (k + 1) f fd ["letter"] spLetter := by
  refine F.ok sc_check_letter (fun vs H Q E h => ?_) (fun cdv A outer s H vs Q E hr h => ?_)
  · obtain ⟨c, rfl, _⟩ := h
    rfl
  · obtain ⟨c, rfl, hc, q⟩ := h
    refine ⟨_, (pss_one (ps_if (pt_cmpR op_notIn_seq (pv 0) (pe_glob (v := .ref LT) (by rfl) hLT rfl) (by rfl)) (pss_one ps_never) pss_nil)), ?_⟩
    walk_at "ev"
    have hin : inV (V.str (SX.S [c])) [V.str "X", V.str "Y"] = true := by
      rcases hc with rfl | rfl
      · show inV (V.str (SX.S [88])) [V.str (Str.ofString "X"), V.str (Str.ofString "Y")] = true
        decide +kernel
      · show inV (V.str (SX.S [89])) [V.str (Str.ofString "X"), V.str (Str.ofString "Y")] = true
        decide +kernel
    refine ⟨LT, _, rfl, .inr (hLq _), rfl, rfl, ?_⟩
    rw [hin, if_pos rfl]
    walk_at "ev"
    exact q
/-- both bands of a grid's rows -/
def lowB (c w : Nat) (s : Int) (rows : List (List Int)) : List (List Int) := (along c w rows).map (halvL s)
def highB (c w : Nat) (s : Int) (rows : List (List Int)) : List (List Int) := (along c w rows).map (halvH s)
def lowG (c : Nat) (x0 x1 y0 y1 : Int) (rows : List (List Int)) : List (List Int) := along c ((y1 + 1) / 2 - y0 / 2).toNat (lowB c (x1 - x0).toNat (if c = 88 then x0 else y0) rows)
def highG (c : Nat) (x0 x1 y0 y1 : Int) (rows : List (List Int)) : List (List Int) := if (if c = 88 then (x0 + 1) / 2 < x1 / 2 else (y0 + 1) / 2 < y1 / 2) then along c (y1 / 2 - (y0 + 1) / 2).toNat (highB c (x1 - x0).toNat (if c = 88 then x0 else y0) rows) else []
/-- a grid of its size -/
structure GR (x0 x1 y0 y1 : Int) (rows : List (List Int)) : Prop where
  x : x0 < x1
  y : y0 < y1
  xm : x1 ≤ x0 + 900
  ym : y1 ≤ y0 + 900
  xb : -3000000000 ≤ x0 ∧ x0 ≤ 3000000000
  yb : -3000000000 ≤ y0 ∧ y0 ≤ 3000000000
  sz : ofSize (x1 - x0).toNat (y1 - y0).toNat rows
theorem GridN.same {N : Addr → Prop} {C : Addr} {H H' : Hp} {x : Addr} {rc : List Int} {rows : List (List Int)} (h : GridN N C H x rc rows) (s : Same H H') : GridN N C H' x rc rows := by
  obtain ⟨dx, t, p, e1, e2, e3⟩ := h
  exact ⟨dx, t, p, s _ _ e1, s _ _ e2, e3.up fun b o n e => ⟨n, s _ _ e⟩⟩
theorem halvL_len (s : Int) (ns : List Int) : (halvL s ns).length = ((s + ns.length + 1) / 2 - s / 2).toNat := by
  unfold halvL lowsTo
  rw [List.length_map, List.length_range]
theorem halvH_len (s : Int) (ns : List Int) : (halvH s ns).length = ((s + ns.length) / 2 - (s + 1) / 2).toNat := by
  unfold halvH highsTo
  rw [List.length_map, List.length_range]
theorem along_X {c w : Nat} {rows : List (List Int)} (h : c = 88) : along c w rows = rows := if_pos h
theorem along_Y {c w : Nat} {rows : List (List Int)} (h : c ≠ 88) : along c w rows = trans w rows := if_neg h
def spHalved (K : PySem.W.Frag) (C : Addr) : Sp := fun vs H Q _ => ∃ (x : Addr) (c : Nat) (x0 x1 y0 y1 : Int) (rows : List (List Int)), vs = [.ref x, .str (SX.S [c])] ∧ Lt2 c ∧ GR x0 x1 y0 y1 rows ∧ GridAt C H x [x0, x1, y0, y1] rows ∧
  ∀ (q g h : Addr) (H' : Hp), H g = none → H h = none → Same H H' → H' q = some (.tup [.ref g, .ref h]) → GridN (fun b => H b = none) C H' g (lowR c x0 x1 y0 y1) (lowG c x0 x1 y0 y1 rows) → GridN (fun b => H b = none) C H' h (highR c x0 x1 y0 y1) (highG c x0 x1 y0 y1 rows) → Q (.ref q) H'
theorem ok_halved {f C : Addr} {fd : FuncData} {k : Nat} (F : Fun K "halved" "halved" s_halved f fd) (T : Txt mg) (GK : GridK K C) (M_rect : CalP P w K mg base 1 C "rect" (spGRect C)) (M_rows : CalP P w K mg base 1 C "rows" (spGRows C))
    (c_check_cells : C8.Cal P w K mg base 2 "_check_cells" (spCells K) []) (c_check_letter : C8.Cal P w K mg base 1 "_check_letter" spLetter []) (c_along : C8.Cal P w K mg base 1 "_along" (spAlong K) [])
    (c_halved_numbers : C8.Cal P w K mg base 2 "_halved_numbers" spHalv []) (c_low_rect : C8.Cal P w K mg base 1 "low_rect" (spLowR K lowR) []) (c_high_rect : C8.Cal P w K mg base 1 "high_rect" (spLowR K highR) []) (c_grid : C8.Cal P w K mg base 6 "_grid" (spGrid K C) []) :
    FnOk P w K mg base CX0 (k + 7) f fd ["grid", "letter"] (spHalved K C) := by
  refine F.ok sc_halved (fun vs H Q E h => ?_) (fun cdv A outer s H vs Q E hr h => ?_)
  · obtain ⟨x, c, x0, x1, y0, y1, rows, rfl, _⟩ := h
    rfl
  · obtain ⟨x, c, x0, x1, y0, y1, rows, rfl, hc, hG, hg, q⟩ := h
    obtain ⟨dx, t, p, hx, ht, hR⟩ := _root_.id hg
    have gx := hG.x
    have gy := hG.y
    have gxm := hG.xm
    have gym := hG.ym
    have gxb := hG.xb
    have gyb := hG.yb
    have gl := hG.sz.1
    have hne : rows ≠ [] := fun z => by
      rw [z] at gl
      simp only [List.length_nil] at gl
      omega
    refine ⟨_, (pss_cons (ps_set (i := 2) sc_halved.nd rfl (Or.inl rfl) (pe_pr M_rect GK.cl hr (by omega) (pv 0) rfl))
    (pss_cons (ps_expr (C8.pe_c c_check_cells hr (by omega) (by rfl) (pa_cons (pv 2) pa_nil)))
    (pss_cons (ps_expr (C8.pe_c c_check_letter hr (by omega) (by rfl) (pa_cons (pv 1) pa_nil)))
    (pss_cons (ps_set (i := 3) sc_halved.nd rfl (Or.inl rfl) (pe_ifExp (pt_cmpR op_eq (pv 1) pe_str (nomark _)) (pe_ix ix_tup (pv 2) pe_int (fun _ _ => rfl)) (pe_ix ix_tup (pv 2) pe_int (fun _ _ => rfl))))
    (pss_cons (ps_set (i := 4) sc_halved.nd rfl (Or.inl rfl) (pe_lst pa_nil))
    (pss_cons (ps_set (i := 5) sc_halved.nd rfl (Or.inl rfl) (pe_lst pa_nil))
    (pss_cons (ps_for PassesOwn.never rfl (pi_list (C8.pe_c c_along hr (by omega) (by rfl) (pa_cons (pe_pr M_rows GK.cl hr (by omega) (pv 0) rfl) (pa_cons (pv 1) pa_nil)))) (pg_name (i := 6) sc_halved.nd rfl (Or.inl rfl))
      (pss_cons (ps_asg (C8.pe_c c_halved_numbers hr (by omega) (by rfl) (pa_cons (pv 6) (pa_cons (pv 3) pa_nil))) (pg_tup rfl (pgs_cons (pg_name (i := 7) sc_halved.nd rfl (Or.inl rfl)) (pgs_cons (pg_name (i := 8) sc_halved.nd rfl (Or.inl rfl)) pgs_nil))))
    (pss_cons (ps_expr (pe_bm PySem.F.plainAttrs_list PySem.F.slot_list_append PySem.F.type_list_append mt_append (pv 4) (pa_cons (pv 7) pa_nil)))
    (pss_one (ps_expr (pe_bm PySem.F.plainAttrs_list PySem.F.slot_list_append PySem.F.type_list_append mt_append (pv 5) (pa_cons (pv 8) pa_nil)))))))
    (pss_one (ps_ret (pe_tup (pa_cons (C8.pe_c c_grid hr (by omega) (by rfl) (pa_cons (C8.pe_c c_low_rect hr (by omega) (by rfl) (pa_cons (pv 2) (pa_cons (pv 1) pa_nil))) (pa_cons (pv 4) (pa_cons (pv 1) pa_nil)))) (pa_cons (C8.pe_c c_grid hr (by omega) (by rfl) (pa_cons (C8.pe_c c_high_rect hr (by omega) (by rfl) (pa_cons (pv 2) (pa_cons (pv 1) pa_nil))) (pa_cons (pv 5) (pa_cons (pv 1) pa_nil)))) pa_nil)))))))))))), ?_⟩
    rcases hc with rfl | rfl
    · have hBl : rows.length = (y1 - y0).toNat := hG.sz.1
      have hBr : ∀ r ∈ rows, r.length = (x1 - x0).toNat := hG.sz.2
      walk_at "ev"
      refine ⟨x, dx, _, rfl, hx, x, t, p, dx, rfl, hx, ?_⟩
      walk_at "ev"
      refine ⟨t, x0, x1, y0, y1, rfl, .inl (.inl ht), gx, gy, ?_⟩
      walk_at "ev"
      refine ⟨.inl rfl, ?_⟩
      walk_at "ev"
      refine ⟨(by show 0 ≤ sizeLine; decide), fun l nl => ?_⟩
      walk_at "ev"
      refine ⟨(by show 0 ≤ sizeLine; decide), fun h nh => ?_⟩
      have nhl : h ≠ l := fun z => by
        rw [z, upd_same] at nh
        cases nh
      have sA : Same H (upd (upd H l (.lst [])) h (.lst [])) := (same_upd nl).trans (same_upd nh)
      have nh0 : H h = none := (same_upd nl).free nh
      have el0 : upd (upd H l (.lst [])) h (.lst []) l = some (.lst []) := by
        rw [upd_ne nhl.symm, upd_same]
      have eh0 : upd (upd H l (.lst [])) h (.lst []) h = some (.lst []) := upd_same
      walk_at "ev"
      generalize upd (upd H l (.lst [])) h (.lst []) = G at sA el0 eh0 ⊢
      refine ⟨x, dx, _, rfl, sA _ _ hx, x, [x0, x1, y0, y1], rows, rfl, ⟨dx, t, p, sA _ _ hx, sA _ _ ht, hR.up fun b o _ e => ⟨trivial, sA _ _ e⟩⟩, by omega, fun p1 H1 n1 s1 hR1 => ?_⟩
      walk_at "ev"
      refine ⟨p1, 88, (x1 - x0).toNat, rows, rfl, .inl rfl, hR1, hne, by omega, by omega, hG.sz.2, fun p2 H2 s2 hR2 => ?_⟩
      rw [along_X rfl] at hR2
      obtain ⟨_, bs, ep2, hB⟩ := hR2
      have s12 := s1.trans s2
      have nN : ∀ (b : Addr) (ws : List V), ws ≠ [] → H2 b = some (.lst ws) → b ≠ l ∧ b ≠ h := fun b ws nw e => ⟨fun z => by
        rw [z, s12 _ _ el0] at e
        cases e
        exact nw rfl, fun z => by
        rw [z, s12 _ _ eh0] at e
        cases e
        exact nw rfl⟩
      have hbl : bs.length = (y1 - y0).toNat := by rw [hB.1, hBl]
      have np2 := nN p2 _ (fun z => by
        have := congrArg List.length z
        rw [List.length_map, hbl] at this
        simp only [List.length_nil] at this
        omega) ep2
      walk_at "ev"
      -- T2
      refine ⟨⟨_, .inl (.inl ep2)⟩, ?_⟩
      have hBn : ∀ r ∈ rows, 1 ≤ r.length ∧ r.length ≤ 900 := fun r m => by
        rw [hBr r m]
        omega
      refine for_it (walk_list (xs := bs.map V.ref)) (fun i σ H3 => ∃ v6 v7 v8, σ = [some (.ref x), some (.str (SX.S [88])), some (.ref t), some (.int x0), some (.ref l), some (.ref h), v6, v7, v8] ∧ Same H H3 ∧ (∀ b o, b ≠ l → b ≠ h → H2 b = some o → H3 b = some o) ∧ ∃ cs ds : List Addr, H3 l = some (.lst (cs.map V.ref)) ∧ H3 h = some (.lst (ds.map V.ref)) ∧ RowsA (fun b => b ≠ l ∧ b ≠ h) H3 cs ((rows.take i).map (halvL x0)) ∧ RowsA (fun b => b ≠ l ∧ b ≠ h) H3 ds ((rows.take i).map (halvH x0)))
        ⟨_, _, _, rfl, sA.trans s12, fun _ _ _ _ e => e, [], [], s12 _ _ el0, s12 _ _ eh0, .nil, .nil⟩ (fun _ _ _ _ ⟨_, _, _, _, _, k3, _⟩ => .inl (.inl (k3 _ _ np2.1 np2.2 ep2))) ?_ ?_
      · rintro i y σ H3 H4 hi ⟨v6, v7, v8, rfl, s3, k3, cs, ds, e1, e2, hC, hD⟩ ⟨rfl, hy⟩
        rw [List.getElem?_map] at hy
        obtain ⟨b, hb, rfl⟩ := Option.map_eq_some_iff.mp hy
        have hbi := (List.getElem?_eq_some_iff.mp hb).1
        obtain ⟨r, hr⟩ : ∃ r, (rows)[i]? = some r := ⟨(rows)[i]'(by rw [← hB.1]; exact hbi), List.getElem?_eq_getElem _⟩
        have hb2 := (hB.2 i b r hb hr).2
        have hrn := hBn r (List.mem_of_getElem? hr)
        have nb := nN b _ (fun z => by
          have := congrArg List.length z
          rw [List.length_map] at this
          simp only [List.length_nil] at this
          omega) hb2
        have hb3 := k3 _ _ nb.1 nb.2 hb2
        have hcl : cs.length = i := by
          rw [hC.1, List.length_map, List.length_take, hBl]
          omega
        have hdl : ds.length = i := by
          rw [hD.1, List.length_map, List.length_take, hBl]
          omega
        walk_at "ev"
        refine ⟨b, x0, r, rfl, hb3, hrn.1, hrn.2, by omega, by omega, fun u l1 h1 H5 nl1 nh1 s5 eu el eh => ?_⟩
        refine ⟨u, _, rfl, .inl (.inl eu), rfl, ?_⟩
        have e1' := s5 _ _ e1
        have e2' := s5 _ _ e2
        have n1l : l1 ≠ l := fun z => by
          rw [z, e1] at nl1
          cases nl1
        have n1h : l1 ≠ h := fun z => by
          rw [z, e2] at nl1
          cases nl1
        have n2l : h1 ≠ l := fun z => by
          rw [z, e1] at nh1
          cases nh1
        have n2h : h1 ≠ h := fun z => by
          rw [z, e2] at nh1
          cases nh1
        walk_at "ev"
        refine ⟨.inl ⟨rfl, _, .inl (.inl e1')⟩, ?_⟩
        walk_at "ev"
        refine ⟨l, _, _, rfl, rfl, e1', small1000 (by rw [List.length_map]; omega), ?_⟩
        have e2'' := (upd_ne (H := H5) (o := .lst (cs.map V.ref ++ [.ref l1])) nhl).trans e2'
        walk_at "ev"
        refine ⟨.inl ⟨rfl, _, .inl (.inl e2'')⟩, ?_⟩
        walk_at "ev"
        refine ⟨h, _, _, rfl, rfl, e2'', small1000 (by rw [List.length_map]; omega), _, _, _, rfl, fun b' o e => ?_, fun b' o m1 m2 e => ?_, cs ++ [l1], ds ++ [h1], ?_, ?_, ?_, ?_⟩
        · rw [upd_ne (ne_of_none e nh0), upd_ne (ne_of_none e nl)]
          exact s5 _ _ (s3 _ _ e)
        · rw [upd_ne m2, upd_ne m1]
          exact s5 _ _ (k3 _ _ m1 m2 e)
        · rw [upd_ne nhl.symm, upd_same, List.map_append]
          rfl
        · rw [upd_same, List.map_append]
          rfl
        · rw [← take_snoc hr, List.map_append]
          refine (hC.up fun b' o n e => ⟨n, ?_⟩).app ⟨n1l, n1h⟩ ?_
          · rw [upd_ne n.2, upd_ne n.1]
            exact s5 _ _ e
          · rw [upd_ne n1h, upd_ne n1l]
            exact el
        · rw [← take_snoc hr, List.map_append]
          refine (hD.up fun b' o n e => ⟨n, ?_⟩).app ⟨n2l, n2h⟩ ?_
          · rw [upd_ne n.2, upd_ne n.1]
            exact s5 _ _ e
          · rw [upd_ne n2h, upd_ne n2l]
            exact eh
      · rintro σ H3 ⟨v6, v7, v8, rfl, s3, k3, cs, ds, e1, e2, hC, hD⟩
        rw [List.take_of_length_le (by rw [List.length_map, hB.1]; exact Nat.le_refl _)] at hC hD
        walk_at "ev"
        have ht3 := s3 _ _ ht
        refine ⟨t, 88, x0, x1, y0, y1, rfl, .inl rfl, .inl (.inl ht3), fun r1 nr1 => ?_⟩
        have s4 := s3.trans (same_upd (o := .tup ((lowR 88 x0 x1 y0 y1).map V.int)) nr1)
        have er1 : upd H3 r1 (.tup ((lowR 88 x0 x1 y0 y1).map V.int)) r1 = some (.tup ((lowR 88 x0 x1 y0 y1).map V.int)) := upd_same
        have e1' := new_at (o' := .tup ((lowR 88 x0 x1 y0 y1).map V.int)) e1 nr1
        have e2' := new_at (o' := .tup ((lowR 88 x0 x1 y0 y1).map V.int)) e2 nr1
        have hC' : RowsA (fun _ => True) (upd H3 r1 (.tup ((lowR 88 x0 x1 y0 y1).map V.int))) cs (rows.map (halvL x0)) := hC.up fun b o _ e => ⟨trivial, new_at e nr1⟩
        have hD' : RowsA (fun _ => True) (upd H3 r1 (.tup ((lowR 88 x0 x1 y0 y1).map V.int))) ds (rows.map (halvH x0)) := hD.up fun b o _ e => ⟨trivial, new_at e nr1⟩
        walk_at "ev"
        generalize upd H3 r1 (.tup ((lowR 88 x0 x1 y0 y1).map V.int)) = H4 at s4 er1 e1' e2' hC' hD' ⊢
        have hLn : ∀ r ∈ rows.map (halvL x0), r.length = ((x1 + 1) / 2 - x0 / 2).toNat := fun r m => by
          obtain ⟨r0, m0, rfl⟩ := List.mem_map.mp m
          have := hBr r0 m0
          rw [halvL_len, this]
          congr 1
          omega
        have hHn : ∀ r ∈ rows.map (halvH x0), r.length = (x1 / 2 - (x0 + 1) / 2).toNat := fun r m => by
          obtain ⟨r0, m0, rfl⟩ := List.mem_map.mp m
          have := hBr r0 m0
          rw [halvH_len, this]
          congr 1
          omega
        have hLl : (rows.map (halvL x0)).length = rows.length := List.length_map _
        have hHl : (rows.map (halvH x0)).length = rows.length := List.length_map _
        refine ⟨r1, l, 88, ((x1 + 1) / 2 - x0 / 2).toNat, x0 / 2, (x1 + 1) / 2, y0, y1, rows.map (halvL x0), lowG 88 x0 x1 y0 y1 rows, rfl, .inl rfl, er1, by omega, by omega, ⟨trivial, cs, e1', hC'⟩, .inl ⟨by omega, by omega, rfl, ?_, by omega, by omega, hLn, ?_, ?_⟩, fun g H5 ng s5 gg => ?_⟩
        · intro z
          rw [z] at hLl
          simp only [List.length_nil] at hLl
          omega
        · show (rows.map (halvL x0)).length ≤ 900
          omega
        · exact .inl ⟨by omega, by omega, by show ((rows.map (halvL x0)).length : Int) = _; omega, fun r m => by rw [hLn r m]; omega⟩
        walk_at "ev"
        have s45 := s4.trans s5
        refine ⟨t, 88, x0, x1, y0, y1, rfl, .inl rfl, .inl (.inl (s45 _ _ ht)), fun r2 nr2 => ?_⟩
        have s6 := s45.trans (same_upd (o := .tup ((highR 88 x0 x1 y0 y1).map V.int)) nr2)
        have er2 : upd H5 r2 (.tup ((highR 88 x0 x1 y0 y1).map V.int)) r2 = some (.tup ((highR 88 x0 x1 y0 y1).map V.int)) := upd_same
        have gg' := gg.same (same_upd (o := .tup ((highR 88 x0 x1 y0 y1).map V.int)) nr2)
        have e2'' := new_at (o' := .tup ((highR 88 x0 x1 y0 y1).map V.int)) (s5 _ _ e2') nr2
        have hD'' : RowsA (fun _ => True) (upd H5 r2 (.tup ((highR 88 x0 x1 y0 y1).map V.int))) ds (rows.map (halvH x0)) := hD'.up fun b o _ e => ⟨trivial, new_at (s5 _ _ e) nr2⟩
        walk_at "ev"
        generalize upd H5 r2 (.tup ((highR 88 x0 x1 y0 y1).map V.int)) = H6 at s6 er2 gg' e2'' hD'' ⊢
        refine ⟨r2, h, 88, (x1 / 2 - (x0 + 1) / 2).toNat, (x0 + 1) / 2, x1 / 2, y0, y1, rows.map (halvH x0), highG 88 x0 x1 y0 y1 rows, rfl, .inl rfl, er2, by omega, by omega, ⟨trivial, ds, e2'', hD''⟩, ?_, fun gh H7 ngh s7 gg2 => ?_⟩
        · by_cases hcell : (x0 + 1) / 2 < x1 / 2
          · have eg : highG 88 x0 x1 y0 y1 rows = along 88 (x1 / 2 - (x0 + 1) / 2).toNat (rows.map (halvH x0)) := if_pos hcell
            refine .inl ⟨by omega, by omega, eg, ?_, by omega, by omega, hHn, ?_, ?_⟩
            · intro z
              rw [z] at hHl
              simp only [List.length_nil] at hHl
              omega
            · rw [eg]
              show (rows.map (halvH x0)).length ≤ 900
              omega
            · rw [eg]
              exact .inl ⟨by omega, by omega, by show ((rows.map (halvH x0)).length : Int) = _; omega, fun r m => by rw [hHn r m]; omega⟩
          · exact .inr ⟨fun z => hcell z.1, if_neg hcell⟩
        · refine ⟨(by show 2 ≤ sizeLine; decide), fun q' nq => ?_⟩
          have s8 := same_upd (o := .tup [.ref g, .ref gh]) nq
          exact q q' g gh _ (s4.free ng) (s6.free ngh) ((s6.trans s7).trans s8) upd_same (((gg'.same s7).same s8).mono fun b e => s4.free e) ((gg2.same s8).mono fun b e => s6.free e)
      -- T2END
    · have hBl : (trans (x1 - x0).toNat rows).length = (x1 - x0).toNat := trans_len _ _
      have hBr : ∀ r ∈ trans (x1 - x0).toNat rows, r.length = (y1 - y0).toNat := fun r m => by rw [trans_row m, hG.sz.1]
      walk_at "ev"
      refine ⟨x, dx, _, rfl, hx, x, t, p, dx, rfl, hx, ?_⟩
      walk_at "ev"
      refine ⟨t, x0, x1, y0, y1, rfl, .inl (.inl ht), gx, gy, ?_⟩
      walk_at "ev"
      refine ⟨.inr rfl, ?_⟩
      walk_at "ev"
      refine ⟨(by show 0 ≤ sizeLine; decide), fun l nl => ?_⟩
      walk_at "ev"
      refine ⟨(by show 0 ≤ sizeLine; decide), fun h nh => ?_⟩
      have nhl : h ≠ l := fun z => by
        rw [z, upd_same] at nh
        cases nh
      have sA : Same H (upd (upd H l (.lst [])) h (.lst [])) := (same_upd nl).trans (same_upd nh)
      have nh0 : H h = none := (same_upd nl).free nh
      have el0 : upd (upd H l (.lst [])) h (.lst []) l = some (.lst []) := by
        rw [upd_ne nhl.symm, upd_same]
      have eh0 : upd (upd H l (.lst [])) h (.lst []) h = some (.lst []) := upd_same
      walk_at "ev"
      generalize upd (upd H l (.lst [])) h (.lst []) = G at sA el0 eh0 ⊢
      refine ⟨x, dx, _, rfl, sA _ _ hx, x, [x0, x1, y0, y1], rows, rfl, ⟨dx, t, p, sA _ _ hx, sA _ _ ht, hR.up fun b o _ e => ⟨trivial, sA _ _ e⟩⟩, by omega, fun p1 H1 n1 s1 hR1 => ?_⟩
      walk_at "ev"
      refine ⟨p1, 89, (x1 - x0).toNat, rows, rfl, .inr rfl, hR1, hne, by omega, by omega, hG.sz.2, fun p2 H2 s2 hR2 => ?_⟩
      rw [along_Y (by decide)] at hR2
      obtain ⟨_, bs, ep2, hB⟩ := hR2
      have s12 := s1.trans s2
      have nN : ∀ (b : Addr) (ws : List V), ws ≠ [] → H2 b = some (.lst ws) → b ≠ l ∧ b ≠ h := fun b ws nw e => ⟨fun z => by
        rw [z, s12 _ _ el0] at e
        cases e
        exact nw rfl, fun z => by
        rw [z, s12 _ _ eh0] at e
        cases e
        exact nw rfl⟩
      have hbl : bs.length = (x1 - x0).toNat := by rw [hB.1, hBl]
      have np2 := nN p2 _ (fun z => by
        have := congrArg List.length z
        rw [List.length_map, hbl] at this
        simp only [List.length_nil] at this
        omega) ep2
      walk_at "ev"
      -- T2
      refine ⟨⟨_, .inl (.inl ep2)⟩, ?_⟩
      have hBn : ∀ r ∈ (trans (x1 - x0).toNat rows), 1 ≤ r.length ∧ r.length ≤ 900 := fun r m => by
        rw [hBr r m]
        omega
      refine for_it (walk_list (xs := bs.map V.ref)) (fun i σ H3 => ∃ v6 v7 v8, σ = [some (.ref x), some (.str (SX.S [89])), some (.ref t), some (.int y0), some (.ref l), some (.ref h), v6, v7, v8] ∧ Same H H3 ∧ (∀ b o, b ≠ l → b ≠ h → H2 b = some o → H3 b = some o) ∧ ∃ cs ds : List Addr, H3 l = some (.lst (cs.map V.ref)) ∧ H3 h = some (.lst (ds.map V.ref)) ∧ RowsA (fun b => b ≠ l ∧ b ≠ h) H3 cs (((trans (x1 - x0).toNat rows).take i).map (halvL y0)) ∧ RowsA (fun b => b ≠ l ∧ b ≠ h) H3 ds (((trans (x1 - x0).toNat rows).take i).map (halvH y0)))
        ⟨_, _, _, rfl, sA.trans s12, fun _ _ _ _ e => e, [], [], s12 _ _ el0, s12 _ _ eh0, .nil, .nil⟩ (fun _ _ _ _ ⟨_, _, _, _, _, k3, _⟩ => .inl (.inl (k3 _ _ np2.1 np2.2 ep2))) ?_ ?_
      · rintro i y σ H3 H4 hi ⟨v6, v7, v8, rfl, s3, k3, cs, ds, e1, e2, hC, hD⟩ ⟨rfl, hy⟩
        rw [List.getElem?_map] at hy
        obtain ⟨b, hb, rfl⟩ := Option.map_eq_some_iff.mp hy
        have hbi := (List.getElem?_eq_some_iff.mp hb).1
        obtain ⟨r, hr⟩ : ∃ r, ((trans (x1 - x0).toNat rows))[i]? = some r := ⟨((trans (x1 - x0).toNat rows))[i]'(by rw [← hB.1]; exact hbi), List.getElem?_eq_getElem _⟩
        have hb2 := (hB.2 i b r hb hr).2
        have hrn := hBn r (List.mem_of_getElem? hr)
        have nb := nN b _ (fun z => by
          have := congrArg List.length z
          rw [List.length_map] at this
          simp only [List.length_nil] at this
          omega) hb2
        have hb3 := k3 _ _ nb.1 nb.2 hb2
        have hcl : cs.length = i := by
          rw [hC.1, List.length_map, List.length_take, hBl]
          omega
        have hdl : ds.length = i := by
          rw [hD.1, List.length_map, List.length_take, hBl]
          omega
        walk_at "ev"
        refine ⟨b, y0, r, rfl, hb3, hrn.1, hrn.2, by omega, by omega, fun u l1 h1 H5 nl1 nh1 s5 eu el eh => ?_⟩
        refine ⟨u, _, rfl, .inl (.inl eu), rfl, ?_⟩
        have e1' := s5 _ _ e1
        have e2' := s5 _ _ e2
        have n1l : l1 ≠ l := fun z => by
          rw [z, e1] at nl1
          cases nl1
        have n1h : l1 ≠ h := fun z => by
          rw [z, e2] at nl1
          cases nl1
        have n2l : h1 ≠ l := fun z => by
          rw [z, e1] at nh1
          cases nh1
        have n2h : h1 ≠ h := fun z => by
          rw [z, e2] at nh1
          cases nh1
        walk_at "ev"
        refine ⟨.inl ⟨rfl, _, .inl (.inl e1')⟩, ?_⟩
        walk_at "ev"
        refine ⟨l, _, _, rfl, rfl, e1', small1000 (by rw [List.length_map]; omega), ?_⟩
        have e2'' := (upd_ne (H := H5) (o := .lst (cs.map V.ref ++ [.ref l1])) nhl).trans e2'
        walk_at "ev"
        refine ⟨.inl ⟨rfl, _, .inl (.inl e2'')⟩, ?_⟩
        walk_at "ev"
        refine ⟨h, _, _, rfl, rfl, e2'', small1000 (by rw [List.length_map]; omega), _, _, _, rfl, fun b' o e => ?_, fun b' o m1 m2 e => ?_, cs ++ [l1], ds ++ [h1], ?_, ?_, ?_, ?_⟩
        · rw [upd_ne (ne_of_none e nh0), upd_ne (ne_of_none e nl)]
          exact s5 _ _ (s3 _ _ e)
        · rw [upd_ne m2, upd_ne m1]
          exact s5 _ _ (k3 _ _ m1 m2 e)
        · rw [upd_ne nhl.symm, upd_same, List.map_append]
          rfl
        · rw [upd_same, List.map_append]
          rfl
        · rw [← take_snoc hr, List.map_append]
          refine (hC.up fun b' o n e => ⟨n, ?_⟩).app ⟨n1l, n1h⟩ ?_
          · rw [upd_ne n.2, upd_ne n.1]
            exact s5 _ _ e
          · rw [upd_ne n1h, upd_ne n1l]
            exact el
        · rw [← take_snoc hr, List.map_append]
          refine (hD.up fun b' o n e => ⟨n, ?_⟩).app ⟨n2l, n2h⟩ ?_
          · rw [upd_ne n.2, upd_ne n.1]
            exact s5 _ _ e
          · rw [upd_ne n2h, upd_ne n2l]
            exact eh
      · rintro σ H3 ⟨v6, v7, v8, rfl, s3, k3, cs, ds, e1, e2, hC, hD⟩
        rw [List.take_of_length_le (by rw [List.length_map, hB.1]; exact Nat.le_refl _)] at hC hD
        walk_at "ev"
        have ht3 := s3 _ _ ht
        refine ⟨t, 89, x0, x1, y0, y1, rfl, .inr rfl, .inl (.inl ht3), fun r1 nr1 => ?_⟩
        have s4 := s3.trans (same_upd (o := .tup ((lowR 89 x0 x1 y0 y1).map V.int)) nr1)
        have er1 : upd H3 r1 (.tup ((lowR 89 x0 x1 y0 y1).map V.int)) r1 = some (.tup ((lowR 89 x0 x1 y0 y1).map V.int)) := upd_same
        have e1' := new_at (o' := .tup ((lowR 89 x0 x1 y0 y1).map V.int)) e1 nr1
        have e2' := new_at (o' := .tup ((lowR 89 x0 x1 y0 y1).map V.int)) e2 nr1
        have hC' : RowsA (fun _ => True) (upd H3 r1 (.tup ((lowR 89 x0 x1 y0 y1).map V.int))) cs ((trans (x1 - x0).toNat rows).map (halvL y0)) := hC.up fun b o _ e => ⟨trivial, new_at e nr1⟩
        have hD' : RowsA (fun _ => True) (upd H3 r1 (.tup ((lowR 89 x0 x1 y0 y1).map V.int))) ds ((trans (x1 - x0).toNat rows).map (halvH y0)) := hD.up fun b o _ e => ⟨trivial, new_at e nr1⟩
        walk_at "ev"
        generalize upd H3 r1 (.tup ((lowR 89 x0 x1 y0 y1).map V.int)) = H4 at s4 er1 e1' e2' hC' hD' ⊢
        have hLn : ∀ r ∈ (trans (x1 - x0).toNat rows).map (halvL y0), r.length = ((y1 + 1) / 2 - y0 / 2).toNat := fun r m => by
          obtain ⟨r0, m0, rfl⟩ := List.mem_map.mp m
          have := hBr r0 m0
          rw [halvL_len, this]
          congr 1
          omega
        have hHn : ∀ r ∈ (trans (x1 - x0).toNat rows).map (halvH y0), r.length = (y1 / 2 - (y0 + 1) / 2).toNat := fun r m => by
          obtain ⟨r0, m0, rfl⟩ := List.mem_map.mp m
          have := hBr r0 m0
          rw [halvH_len, this]
          congr 1
          omega
        have hLl : ((trans (x1 - x0).toNat rows).map (halvL y0)).length = (trans (x1 - x0).toNat rows).length := List.length_map _
        have hHl : ((trans (x1 - x0).toNat rows).map (halvH y0)).length = (trans (x1 - x0).toNat rows).length := List.length_map _
        refine ⟨r1, l, 89, ((y1 + 1) / 2 - y0 / 2).toNat, x0, x1, y0 / 2, (y1 + 1) / 2, (trans (x1 - x0).toNat rows).map (halvL y0), lowG 89 x0 x1 y0 y1 rows, rfl, .inr rfl, er1, by omega, by omega, ⟨trivial, cs, e1', hC'⟩, .inl ⟨by omega, by omega, rfl, ?_, by omega, by omega, hLn, ?_, ?_⟩, fun g H5 ng s5 gg => ?_⟩
        · intro z
          rw [z] at hLl
          simp only [List.length_nil] at hLl
          omega
        · show (trans _ _).length ≤ 900
          rw [trans_len]
          omega
        · exact .inl ⟨by omega, by omega, by show ((trans _ _).length : Int) = _; rw [trans_len]; omega, fun r m => by rw [trans_row m]; show (((trans (x1 - x0).toNat rows).map (halvL y0)).length : Int) = _; omega⟩
        walk_at "ev"
        have s45 := s4.trans s5
        refine ⟨t, 89, x0, x1, y0, y1, rfl, .inr rfl, .inl (.inl (s45 _ _ ht)), fun r2 nr2 => ?_⟩
        have s6 := s45.trans (same_upd (o := .tup ((highR 89 x0 x1 y0 y1).map V.int)) nr2)
        have er2 : upd H5 r2 (.tup ((highR 89 x0 x1 y0 y1).map V.int)) r2 = some (.tup ((highR 89 x0 x1 y0 y1).map V.int)) := upd_same
        have gg' := gg.same (same_upd (o := .tup ((highR 89 x0 x1 y0 y1).map V.int)) nr2)
        have e2'' := new_at (o' := .tup ((highR 89 x0 x1 y0 y1).map V.int)) (s5 _ _ e2') nr2
        have hD'' : RowsA (fun _ => True) (upd H5 r2 (.tup ((highR 89 x0 x1 y0 y1).map V.int))) ds ((trans (x1 - x0).toNat rows).map (halvH y0)) := hD'.up fun b o _ e => ⟨trivial, new_at (s5 _ _ e) nr2⟩
        walk_at "ev"
        generalize upd H5 r2 (.tup ((highR 89 x0 x1 y0 y1).map V.int)) = H6 at s6 er2 gg' e2'' hD'' ⊢
        refine ⟨r2, h, 89, (y1 / 2 - (y0 + 1) / 2).toNat, x0, x1, (y0 + 1) / 2, y1 / 2, (trans (x1 - x0).toNat rows).map (halvH y0), highG 89 x0 x1 y0 y1 rows, rfl, .inr rfl, er2, by omega, by omega, ⟨trivial, ds, e2'', hD''⟩, ?_, fun gh H7 ngh s7 gg2 => ?_⟩
        · by_cases hcell : (y0 + 1) / 2 < y1 / 2
          · have eg : highG 89 x0 x1 y0 y1 rows = along 89 (y1 / 2 - (y0 + 1) / 2).toNat ((trans (x1 - x0).toNat rows).map (halvH y0)) := if_pos hcell
            refine .inl ⟨by omega, by omega, eg, ?_, by omega, by omega, hHn, ?_, ?_⟩
            · intro z
              rw [z] at hHl
              simp only [List.length_nil] at hHl
              omega
            · rw [eg]
              show (trans _ _).length ≤ 900
              rw [trans_len]
              omega
            · rw [eg]
              exact .inl ⟨by omega, by omega, by show ((trans _ _).length : Int) = _; rw [trans_len]; omega, fun r m => by rw [trans_row m]; show (((trans (x1 - x0).toNat rows).map (halvH y0)).length : Int) = _; omega⟩
          · exact .inr ⟨fun z => hcell z.2, if_neg hcell⟩
        · refine ⟨(by show 2 ≤ sizeLine; decide), fun q' nq => ?_⟩
          have s8 := same_upd (o := .tup [.ref g, .ref gh]) nq
          exact q q' g gh _ (s4.free ng) (s6.free ngh) ((s6.trans s7).trans s8) upd_same (((gg'.same s7).same s8).mono fun b e => s4.free e) ((gg2.same s8).mono fun b e => s6.free e)
      -- T2END
/-! ### what a step refuses -/
def spCellsX (K : PySem.W.Frag) (O : Addr) : Sp := fun vs H Q E => ∃ (rp : Addr) (x0 x1 y0 y1 : Int), vs = [.ref rp] ∧ SqT K H rp [.int x0, .int x1, .int y0, .int y1] ∧ (x0 < x1 → y0 < y1 → Q .non H) ∧ (¬ (x0 < x1 ∧ y0 < y1) → E (.ref O) none H)
theorem ok_cellsX {f O : Addr} {fd : FuncData} {k : Nat} (F : Fun K "_check_cells" "_check_cells" s_check_cells f fd) (T : Txt mg) (e_Outside : ECls K mg "Outside" O) (c_has_cells : C8.Cal P w K mg base 1 "has_cells" (spHas K) []) : FnOk P w K mg base (L2.CX P w) (k + 2) f fd ["rect"] (spCellsX K O) := by
  refine F.okX sc_check_cells (fun vs H Q E h => ?_) (fun cdv A outer s H vs Q E hr h => ?_)
  · obtain ⟨rp, x0, x1, y0, y1, rfl, _⟩ := h
    rfl
  · obtain ⟨rp, x0, x1, y0, y1, rfl, hrp, q, x⟩ := h
    refine ⟨_, (pss_one (ps_if (pt_not (pt_val (C8.pe_c c_has_cells hr (by omega) (by rfl) (pa_cons (pv 0) pa_nil)))) (pss_one (ps_raise rfl (takes_of rfl rfl rfl rfl) (pmk_none PySem.F.excBase_ValueError e_Outside.xC e_Outside.gC e_Outside.kC (raises_own e_Outside.bC e_Outside.tC) (by rfl)))) pss_nil)), ?_⟩
    walk_at "ev"
    refine ⟨rp, x0, x1, y0, y1, rfl, hrp, ?_⟩
    by_cases hc : x0 < x1 ∧ y0 < y1
    · rw [decide_eq_true hc]
      walk_at "ev"
      exact q hc.1 hc.2
    · rw [decide_eq_false hc]
      walk_at "ev"
      exact x hc
def spLetterX (BF : Addr) : Sp := fun vs H Q E => ∃ (t : Str), vs = [.str t] ∧ (t = "X" ∨ t = "Y" → Q .non H) ∧ (t ≠ "X" → t ≠ "Y" → ∀ (d : Addr) (H' : Hp), H d = none → Same H H' → H' d = some (.xd [("name", .str "word")]) → E (.ref BF) (some d) H')
theorem inXY (t : Str) : inV (V.str t) [V.str "X", V.str "Y"] = decide (t = "X" ∨ t = "Y") := by
  unfold inV
  by_cases h1 : t = "X"
  · subst h1
    decide +kernel
  · by_cases h2 : t = "Y"
    · subst h2
      decide +kernel
    · rw [decide_eq_false (fun z => z.elim h1 h2)]
      have e1 : ¬ (Str.ofString "X") = t := fun z => h1 z.symm
      have e2 : ¬ (Str.ofString "Y") = t := fun z => h2 z.symm
      simp [eqV, e1, e2]
theorem ok_letterX {f LT BF : Addr} {fd : FuncData} {k : Nat} (F : Fun K "_check_letter" "_check_letter" s_check_letter f fd) (T : Txt mg) (x_BadField : XDef P w K mg base "BadField" "name" BF) (hLT : mg "LETTERS" = some (.ref LT)) (hLq : ∀ H : Hp, SqT K H LT [.str "X", .str "Y"]) : FnOk P w K mg base (L2.CX P w) (k + 3) f fd ["letter"] (spLetterX BF) := by
  refine F.okX sc_check_letter (fun vs H Q E h => ?_) (fun cdv A outer s H vs Q E hr h => ?_)
  · obtain ⟨t, rfl, _⟩ := h
    rfl
  · obtain ⟨t, rfl, q, x⟩ := h
    refine ⟨_, (pss_one (ps_if (pt_cmpR op_notIn_seq (pv 0) (pe_glob (v := .ref LT) (by rfl) hLT rfl) (by rfl)) (pss_one (ps_raise rfl (takes_of rfl rfl rfl rfl) (pmk_x x_BadField hr (by omega) (by rfl) pe_str))) pss_nil)), ?_⟩
    walk_at "ev"
    refine ⟨LT, _, rfl, .inr (hLq _), rfl, rfl, ?_⟩
    rw [inXY]
    by_cases ht : t = "X" ∨ t = "Y"
    · rw [decide_eq_true ht, if_pos rfl]
      walk_at "ev"
      exact q ht
    · rw [decide_eq_false ht, if_pos rfl]
      walk_at "ev"
      exact mkx_in fun d H2 nd s2 ed => x (fun z => ht (.inl z)) (fun z => ht (.inr z)) d H2 nd s2 ed
def spGRowsF (C : Addr) : Sp := fun vs H Q _ => ∃ (x : Addr) (rc : List Int) (rows : List (List Int)), vs = [.ref x] ∧ GridAt C H x rc rows ∧ rows.length ≤ 900 ∧ ∀ (q : Addr) (H' : Hp), H q = none → Same H H' → Rows (fun b => H b = none) H' q rows → Q (.ref q) H'
theorem ok_growsF {f C : Addr} {fd : FuncData} {k : Nat} (F : Fun K "rows" "Grid.rows" s_Grid_rows f fd) (T : Txt mg) (GK : GridK K C) : FnOk P w K mg base CX0 (k + 1) f fd ["self"] (spGRowsF C) := by
  refine F.ok sc_Grid_rows (fun vs H Q E h => ?_) (fun cdv A outer s H vs Q E hr h => ?_)
  · obtain ⟨x, rc, rows, rfl, _⟩ := h
    rfl
  · obtain ⟨x, rc, rows, rfl, ⟨dx, t, p, hx, ht, hR⟩, hl, q⟩ := h
    refine ⟨_, (pss_one (ps_ret (pe_lc (own := [("row", 1)]) (g := (gName 1)) (tt := tYes) rfl sc_Grid_rows.nd (pi_list (pe_fld (pv 0) rfl)) (blkOk_by (N := ["self", "row"]) (sc := defScope s_Grid_rows) (by decide +kernel)) (fun _ _ _ _ _ => pg_name (i := 1) sc_Grid_rows.nd rfl (by first | exact Or.inl rfl | exact Or.inr rfl)) (fun _ _ _ _ _ => pts_nil) (fun _ _ _ _ _ => (pe_callTy (call_list_of : CallR _ (.type "list") (fun xs H Q => ∃ p ys, xs = [.ref p] ∧ (SqL K H p ys ∨ SqT K H p ys) ∧ ∀ (l : Addr), H l = none → Q (.ref l) (upd H l (.lst ys)))) (by rfl) T.z_list PyProof.Rows.boot_list (pa_cons (pv 1) pa_nil)))))), ?_⟩
    walk_at "ev"
    refine ⟨x, C, dx, _, _, rfl, hx, GK.cl, GK.n2, (lk_past (by decide +kernel)).trans lk_here, ?_⟩
    obtain ⟨_, as, hp, hA⟩ := hR
    refine ⟨p, rfl, ⟨_, .inl (.inl hp)⟩, fun D nD => ?_⟩
    have hal : (as.map V.ref).length = rows.length := by rw [List.length_map, hA.1]
    refine lc_it (walk_list (xs := as.map V.ref)) (fun i H3 => Same H H3 ∧ ∃ cs : List Addr, H3 D = some (.lst (cs.map V.ref)) ∧ RowsA (fun b => b ≠ D ∧ H b = none) H3 cs (rows.take i)) ⟨same_upd nD, [], upd_same, .nil⟩ (fun _ _ _ h => .inl (.inl (h.1 _ _ hp))) ?_ ?_
    · rintro i x1 H3 H4 hi ⟨s3, cs, e4, hC⟩ ⟨rfl, hx1⟩
      rw [List.getElem?_map] at hx1
      obtain ⟨b, hb, rfl⟩ := Option.map_eq_some_iff.mp hx1
      obtain ⟨r, hr⟩ : ∃ r, rows[i]? = some r := ⟨rows[i]'(by rw [← hA.1]; exact (List.getElem?_eq_some_iff.mp hb).1), List.getElem?_eq_getElem _⟩
      have hb4 := s3 _ _ (hA.2 i b r hb hr).2
      walk_at "ev"
      intro d2 nd2
      have nDd2 : d2 ≠ D := fun z => by
        rw [z, e4] at nd2
        cases nd2
      have hcl : cs.length = i := by
        rw [hC.1, List.length_take]
        omega
      refine ⟨_, new_at e4 nd2, small1000 (by rw [List.length_map]; omega), fun b' o e => ?_, cs ++ [d2], by rw [upd_same, List.map_append]; rfl, ?_⟩
      · rw [upd_ne (ne_of_none e nD)]
        exact new_at (s3 _ _ e) nd2
      · rw [← take_snoc hr]
        refine (hC.up fun b' o n e => ⟨n, ?_⟩).app ⟨nDd2, s3.free nd2⟩ ?_
        · rw [upd_ne n.1]
          exact new_at e nd2
        · rw [upd_ne nDd2, upd_same]
    · rintro H3 ⟨s3, cs, e4, hC⟩
      rw [hal, List.take_length] at hC
      exact q D H3 nD s3 ⟨nD, cs, e4, hC.up fun b o n e => ⟨n.2, e⟩⟩
theorem grows_imp {C : Addr} {vs : List V} {H : Hp} {Q : VK} {E : XK} (h : spGRows C vs H Q E) : spGRowsF C vs H Q E := by
  obtain ⟨x, rc, rows, e, hG, hl, q⟩ := h
  exact ⟨x, rc, rows, e, hG, hl, fun a H' n s r => q a H' n s (r.up fun b o _ e => ⟨trivial, e⟩)⟩
/-! ### for the law -/
theorem dpa_rows {K : PySem.W.Frag} {N : Addr → Prop} {H : Hp} : ∀ {as : List Addr} {rows : List (List Int)}, RowsA N H as rows → DpAll K H (as.map V.ref) (rows.map fun r => .list (r.map PyData.int))
  | [], [], _ => .nil
  | [], _ :: _, h => nomatch h.1
  | _ :: _, [], h => nomatch h.1
  | a :: as, r :: rs, h => .cons (dp_ints (.inl (.inl (h.2 0 a r rfl rfl).2))) (dpa_rows ⟨Nat.succ.inj h.1, fun i b s e1 e2 => h.2 (i + 1) b s e1 e2⟩)
theorem dp_rows {K : PySem.W.Frag} {N : Addr → Prop} {H : Hp} {p : Addr} {rows : List (List Int)} (h : Rows N H p rows) : Dp K H (.ref p) (.list (rows.map fun r => .list (r.map PyData.int))) := by
  obtain ⟨_, as, e, r⟩ := h
  exact .lst (.inl (.inl e)) (dpa_rows r)
theorem sh_rows (rows : List (List Int)) : SeqAt.shaped (.list (rows.map fun r => .list (r.map PyData.int))) = true := (shd_lst (n := 1) fun d m => by
  obtain ⟨r, _, rfl⟩ := List.mem_map.mp m
  exact shd_ints r).sh (by decide)
theorem dp_tups {K : PySem.W.Frag} {H : Hp} {p : Addr} {ns : List Int} (h : H p = some (.tup (ns.map V.int))) : Dp K H (.ref p) (.tuple (ns.map PyData.int)) := .tup (.inl (.inl h)) (dpall_ints ns)
theorem sh_tups (ns : List Int) : SeqAt.shaped (.tuple (ns.map PyData.int)) = true := (shd_tup (n := 0) fun d m => by
  obtain ⟨r, _, rfl⟩ := List.mem_map.mp m
  exact shd_int r).sh (by decide)
theorem q_neT {K : PySem.W.Frag} {H : Hp} {p q : Addr} {ns : List Int} {Q : VK} (hp : H p = some (.tup (ns.map V.int))) (hq : H q = some (.tup (ns.map V.int))) (h : Q (.bl false) H) : rNeD K (.ref p) (.ref q) H Q :=
  ⟨_, _, dp_tups hp, dp_tups hq, sh_tups ns, sh_tups ns, by rw [eqv_same (sh_tups ns)]; exact h⟩
theorem q_neW {K : PySem.W.Frag} {N M : Addr → Prop} {H : Hp} {p q : Addr} {rows : List (List Int)} {Q : VK} (hp : Rows N H p rows) (hq : Rows M H q rows) (h : Q (.bl false) H) : rNeD K (.ref p) (.ref q) H Q :=
  ⟨_, _, dp_rows hp, dp_rows hq, sh_rows rows, sh_rows rows, by rw [eqv_same (sh_rows rows)]; exact h⟩
/-! ### the law's small helps -/
theorem ok_lisnum {f : Addr} {fd : FuncData} {k : Nat} (F : Fun K "_law_is_number" "_law_is_number" s_law_is_number f fd) (T : Txt mg) : FnOk P w K mg base CX0 (k + 1) f fd ["_law_n"] spIsNum := by
  refine F.ok sc_law_is_number (fun vs H Q E h => ?_) (fun cdv A outer s H vs Q E hr h => ?_)
  · obtain ⟨i, rfl, _⟩ := h
    rfl
  · obtain ⟨i, rfl, q⟩ := h
    refine ⟨_, (pss_one (ps_ret (pe_and (pe_callB call_isi (by rfl) T.z_isinstance PyProof.Rows.boot_isinstance (pa_cons (pv 0) (pa_cons (pe_bltn (v := .ty "int") (by rfl) T.z_int PyProof.Rows.boot_int rfl) pa_nil))) (pe_one (pe_not (pe_callB call_isi (by rfl) T.z_isinstance PyProof.Rows.boot_isinstance (pa_cons (pv 0) (pa_cons (pe_bltn (v := .ty "bool") (by rfl) T.z_bool PyProof.Rows.boot_bool rfl) pa_nil)))))))), ?_⟩
    walk_at "ev"
    exact q
def spHRects (K : PySem.W.Frag) : Sp := fun vs H Q _ => ∃ (rp : Addr) (c : Nat) (x0 x1 y0 y1 : Int), vs = [.ref rp, .str (SX.S [c])] ∧ Lt2 c ∧ SqT K H rp [.int x0, .int x1, .int y0, .int y1] ∧
  ∀ (q t u : Addr) (H' : Hp), H q = none → Same H H' → H' q = some (.lst [.ref t, .ref u]) → H' t = some (.tup ((lowR c x0 x1 y0 y1).map V.int)) → H' u = some (.tup ((highR c x0 x1 y0 y1).map V.int)) → Q (.ref q) H'
theorem ok_hrects {f : Addr} {fd : FuncData} {k : Nat} (F : Fun K "_law_half_rects" "_law_half_rects" s_law_half_rects f fd) (T : Txt mg) : FnOk P w K mg base CX0 (k + 1) f fd ["_law_rect_here", "_law_letter"] (spHRects K) := by
  refine F.ok sc_law_half_rects (fun vs H Q E h => ?_) (fun cdv A outer s H vs Q E hr h => ?_)
  · obtain ⟨rp, c, x0, x1, y0, y1, rfl, _⟩ := h
    rfl
  · obtain ⟨rp, c, x0, x1, y0, y1, rfl, hc, hrp, q⟩ := h
    refine ⟨_, (pss_cons (ps_asg (pv 0) (pg_tup rfl (pgs_cons (pg_name (i := 2) sc_law_half_rects.nd rfl (Or.inl rfl)) (pgs_cons (pg_name (i := 3) sc_law_half_rects.nd rfl (Or.inl rfl)) (pgs_cons (pg_name (i := 4) sc_law_half_rects.nd rfl (Or.inl rfl)) (pgs_cons (pg_name (i := 5) sc_law_half_rects.nd rfl (Or.inl rfl)) pgs_nil))))))
    (pss_cons (ps_if (pt_cmpR op_eq (pv 1) pe_str (nomark _)) (pss_one (ps_ret (pe_lst (pa_cons (pe_tup (pa_cons (pe_op op_fdivW (pv 2) pe_int) (pa_cons (pe_op op_sub pe_int (pe_op op_fdivW (pe_op op_sub pe_int (pv 3)) pe_int)) (pa_cons (pv 4) (pa_cons (pv 5) pa_nil))))) (pa_cons (pe_tup (pa_cons (pe_op op_sub pe_int (pe_op op_fdivW (pe_op op_sub pe_int (pv 2)) pe_int)) (pa_cons (pe_op op_fdivW (pv 3) pe_int) (pa_cons (pv 4) (pa_cons (pv 5) pa_nil))))) pa_nil))))) pss_nil)
    (pss_one (ps_ret (pe_lst (pa_cons (pe_tup (pa_cons (pv 2) (pa_cons (pv 3) (pa_cons (pe_op op_fdivW (pv 4) pe_int) (pa_cons (pe_op op_sub pe_int (pe_op op_fdivW (pe_op op_sub pe_int (pv 5)) pe_int)) pa_nil))))) (pa_cons (pe_tup (pa_cons (pv 2) (pa_cons (pv 3) (pa_cons (pe_op op_sub pe_int (pe_op op_fdivW (pe_op op_sub pe_int (pv 4)) pe_int)) (pa_cons (pe_op op_fdivW (pv 5) pe_int) pa_nil))))) pa_nil))))))), ?_⟩
    walk_at "ev"
    refine ⟨rp, _, rfl, hrp, rfl, ?_⟩
    have fin : ∀ (q' t u : Addr) (L U : List Int), H t = none → (upd H t (.tup (L.map V.int))) u = none → (upd (upd H t (.tup (L.map V.int))) u (.tup (U.map V.int))) q' = none → L = lowR c x0 x1 y0 y1 → U = highR c x0 x1 y0 y1 →
        Q (.ref q') (upd (upd (upd H t (.tup (L.map V.int))) u (.tup (U.map V.int))) q' (.lst [.ref t, .ref u])) := fun q' t u L U nt nu nq eL eU => by
      have sA := (same_upd (o := .tup (L.map V.int)) nt).trans (same_upd (o := .tup (U.map V.int)) nu)
      refine q q' t u _ (sA.free nq) (sA.trans (same_upd nq)) upd_same ?_ ?_
      · rw [← eL]
        exact new_at (new_at upd_same nu) nq
      · rw [← eU]
        exact new_at upd_same nq
    walk_at "ev"
    · rename_i hl
      have e : c = 88 := is_X hl
      refine ⟨(by show 4 ≤ sizeLine; decide), fun t nt => ?_⟩
      walk_at "ev"
      refine ⟨(by show 4 ≤ sizeLine; decide), fun u nu => ?_⟩
      refine ⟨(by show 2 ≤ sizeLine; decide), fun q' nq => ?_⟩
      refine fin q' t u [x0 / 2, 0 - (0 - x1) / 2, y0, y1] [0 - (0 - x0) / 2, x1 / 2, y0, y1] nt nu nq ?_ ?_
      · rw [show lowR c x0 x1 y0 y1 = [x0 / 2, (x1 + 1) / 2, y0, y1] from if_pos e]
        congr 2
        omega
      · rw [show highR c x0 x1 y0 y1 = [(x0 + 1) / 2, x1 / 2, y0, y1] from if_pos e]
        congr 1
        omega
    · rename_i hl
      have e : c ≠ 88 := not_X hl
      refine ⟨(by show 4 ≤ sizeLine; decide), fun t nt => ?_⟩
      walk_at "ev"
      refine ⟨(by show 4 ≤ sizeLine; decide), fun u nu => ?_⟩
      refine ⟨(by show 2 ≤ sizeLine; decide), fun q' nq => ?_⟩
      refine fin q' t u [x0, x1, y0 / 2, 0 - (0 - y1) / 2] [x0, x1, 0 - (0 - y0) / 2, y1 / 2] nt nu nq ?_ ?_
      · rw [show lowR c x0 x1 y0 y1 = [x0, x1, y0 / 2, (y1 + 1) / 2] from if_neg e]
        congr 4
        omega
      · rw [show highR c x0 x1 y0 y1 = [x0, x1, (y0 + 1) / 2, y1 / 2] from if_neg e]
        congr 3
        omega
/-- a grid that is as it should be -/
def spIsGrid (K : PySem.W.Frag) (C : Addr) : Sp := fun vs H Q _ => ∃ (g rp p : Addr) (rc : List Int) (rows : List (List Int)), vs = [.ref g, .ref rp, .ref p] ∧ GridAt C H g rc rows ∧ H rp = some (.tup (rc.map V.int)) ∧ Rows (fun _ => True) H p rows ∧ rows.length ≤ 900 ∧ ∀ H' : Hp, Same H H' → Q (.bl true) H'
theorem ok_isgrid {f C : Addr} {fd : FuncData} {k : Nat} (F : Fun K "_law_is_grid" "_law_is_grid" s_law_is_grid f fd) (T : Txt mg) (GK : GridK K C) (M_rect : CalP P w K mg base 1 C "rect" (spGRect C)) (M_rows : CalP P w K mg base 1 C "rows" (spGRows C)) (c_law_is_number : C8.Cal P w K mg base 1 "_law_is_number" spIsNum []) : FnOk P w K mg base CX0 (k + 3) f fd ["_law_grid", "_law_rect_here", "_law_rows_here"] (spIsGrid K C) := by
  refine F.ok sc_law_is_grid (fun vs H Q E h => ?_) (fun cdv A outer s H vs Q E hr h => ?_)
  · obtain ⟨g, rp, p, rc, rows, rfl, _⟩ := h
    rfl
  · obtain ⟨g, rp, p, rc, rows, rfl, hG, hrp, hR, hl, q⟩ := h
    have hu := hr.units
    have hu1 := hu_of hr
    obtain ⟨dx, t, gp, hx, ht, hGR⟩ := _root_.id hG
    refine ⟨_, (pss_cons (ps_if (PW.pt (pw_or (pt_not (pt_val (pe_callB call_isi (by rfl) T.z_isinstance PyProof.Rows.boot_isinstance (pa_cons (pe_pr M_rect GK.cl hr (by omega) (pv 0) rfl) (pa_cons (pe_bltn (v := .ty "tuple") (by rfl) T.z_tuple PyProof.Rows.boot_tuple rfl) pa_nil))))) (pw_or (pt_cmpR (op_neD hu) (pe_pr M_rect GK.cl hr (by omega) (pv 0) rfl) (pv 1) (nomark _)) (pw_or (pt_not (pt_val (pe_callB call_isi (by rfl) T.z_isinstance PyProof.Rows.boot_isinstance (pa_cons (pe_pr M_rows GK.cl hr (by omega) (pv 0) rfl) (pa_cons (pe_bltn (v := .ty "list") (by rfl) T.z_list PyProof.Rows.boot_list rfl) pa_nil))))) (pw_or1 (pt_cmpR (op_neD hu) (pe_pr M_rows GK.cl hr (by omega) (pv 0) rfl) (pv 2) (nomark _))))))) (pss_one (ps_ret pe_bl)) pss_nil)
    (pss_cons (ps_for PassesOwn.never rfl (pi_list (pe_pr M_rows GK.cl hr (by omega) (pv 0) rfl)) (pg_name (i := 3) sc_law_is_grid.nd rfl (Or.inl rfl))
      (pss_one (ps_if (PW.pt (pw_or (pt_not (pt_val (pe_callB call_isi (by rfl) T.z_isinstance PyProof.Rows.boot_isinstance (pa_cons (pv 3) (pa_cons (pe_bltn (v := .ty "list") (by rfl) T.z_list PyProof.Rows.boot_list rfl) pa_nil))))) (pw_or1 (pt_cmpR (op_neD hu) (pe_lc (own := [("_law_n", 4)]) (g := (gName 4)) (tt := _) rfl sc_law_is_grid.nd (pi_list (pv 3)) (blkOk_by (N := ["_law_grid", "_law_rect_here", "_law_rows_here", "_law_row", "_law_n"]) (sc := defScope s_law_is_grid) (by decide +kernel)) (fun _ _ _ _ _ => pg_name (i := 4) sc_law_is_grid.nd rfl (by first | exact Or.inl rfl | exact Or.inr rfl)) (fun _ _ _ _ _ => (pts_one (pt_not (pt_val (C8.pe_c c_law_is_number hr (by omega) (by rfl) (pa_cons (pv 4) pa_nil)))))) (fun _ _ _ _ _ => (pv 4))) (pe_lst pa_nil) (nomark _))))) (pss_one (ps_ret pe_bl)) pss_nil)))
    (pss_one (ps_ret pe_bl)))), ?_⟩
    walk_at "ev"
    refine ⟨g, dx, _, rfl, hx, g, t, gp, dx, rfl, hx, ?_⟩
    walk_at "ev"
    refine ⟨g, dx, _, rfl, hx, g, t, gp, dx, rfl, hx, ?_⟩
    walk_at "ev"
    refine q_neT ht hrp ?_
    walk_at "ev"
    refine ⟨g, dx, _, rfl, hx, g, rc, rows, rfl, hG, hl, fun q1 H1 n1 s1 R1 => ?_⟩
    obtain ⟨_, as1, e1, A1⟩ := R1
    walk_at "ev"
    have hG1 := hG.same s1
    refine ⟨g, dx, _, rfl, s1 _ _ hx, g, rc, rows, rfl, hG1, hl, fun q2 H2 n2 s2 R2 => ?_⟩
    walk_at "ev"
    refine q_neW R2 (hR.up (M := fun _ => True) fun b o _ e => ⟨trivial, s2 _ _ (s1 _ _ e)⟩) ?_
    have s12 := s1.trans s2
    have hx2 := s12 _ _ hx
    have hG2 := hG.same s12
    clear R2 A1 e1 n2 s2 s1 hG1
    walk_at "ev"
    refine ⟨g, dx, _, rfl, hx2, g, rc, rows, rfl, hG2, hl, fun q3 H3 n3 s3 R3 => ?_⟩
    obtain ⟨_, as, e3, hA⟩ := R3
    have hal : (as.map V.ref).length = rows.length := by rw [List.length_map, hA.1]
    refine ⟨q3, rfl, ⟨_, .inl (.inl e3)⟩, ?_⟩
    refine for_it (walk_list (xs := as.map V.ref)) (fun i σ G => Same H3 G ∧ ∃ v4 v5, σ = [some (.ref g), some (.ref rp), some (.ref p), v4, v5]) ⟨fun _ _ e => e, _, _, rfl⟩ (fun _ _ _ _ h => .inl (.inl (h.1 _ _ e3))) ?_ ?_
    · rintro i x σ G G2 hi ⟨s4, v4, v5, rfl⟩ ⟨rfl, hx1⟩
      rw [List.getElem?_map] at hx1
      obtain ⟨b, hb, rfl⟩ := Option.map_eq_some_iff.mp hx1
      obtain ⟨r, hr⟩ : ∃ r, rows[i]? = some r := ⟨rows[i]'(by rw [← hA.1]; exact (List.getElem?_eq_some_iff.mp hb).1), List.getElem?_eq_getElem _⟩
      have hb4 := s4 _ _ (hA.2 i b r hb hr).2
      walk_at "ev"
      refine ⟨⟨_, .inl (.inl hb4)⟩, fun D nD => ?_⟩
      have nDb : D ≠ b := fun z => by
        rw [z, hb4] at nD
        cases nD
      refine lc_it (walk_list (xs := r.map V.int)) (fun _ G3 => G3 = upd G2 D (.lst [])) rfl (fun _ _ _ h => by rw [h]; exact .inl (.inl (new_at hb4 nD))) ?_ ?_
      · rintro j y G3 G4 hj rfl ⟨rfl, hy⟩
        rw [List.getElem?_map] at hy
        obtain ⟨z, hz, rfl⟩ := Option.map_eq_some_iff.mp hy
        walk_at "ev"
        exact rfl
      · rintro G3 rfl
        refine ⟨by show 0 ≤ sizeLine; decide, fun t4 n4 => ?_⟩
        have s5 : Same H3 (upd (upd G2 D (.lst [])) t4 (.lst [])) := s4.trans ((same_upd nD).trans (same_upd n4))
        refine q_neI (ns := []) (new_at upd_same n4) upd_same ?_
        walk_at "ev"
        exact ⟨s5, _, _, rfl⟩
    · rintro σ G ⟨s4, v4, v5, rfl⟩
      walk_at "ev"
      exact q _ ((s12.trans s3).trans s4)
/-! ### numbers by their cells -/
abbrev Cel := Int × Int
theorem keyP_inj {a b : Cel} (e : keyP a = keyP b) : a = b := by
  unfold keyP at e
  injection e with e1 e2
  injection e2 with e2 _
  injection e1 with e1
  injection e2 with e2
  exact Prod.ext e1 e2
def setC (S : Cel → Option Int) (c : Cel) (v : Int) : Cel → Option Int := fun z => if z = c then some v else S z
structure CD (H : Hp) (d : Addr) (S : Cel → Option Int) (n : Nat) : Prop where
  ex : ∃ (kvs : List (List Key × V)) (cs : List Cel), H d = some (.dT kvs) ∧ kvs.map (·.1) = cs.map keyP ∧ cs.Nodup ∧ cs.length ≤ n ∧ ∀ c, valV kvs (keyP c) = (S c).map V.int
theorem valV_out {κ : Type} [DecidableEq κ] {k : κ} {kvs : List (κ × V)} (h : valV kvs k = none) : k ∉ kvs.map (·.1) := fun m => by
  obtain ⟨x, mx, rfl⟩ := List.mem_map.mp m
  have := valV_any x.1 kvs
  rw [h] at this
  have h2 : (kvs.any fun kv => decide (kv.1 = x.1)) = true := List.any_eq_true.mpr ⟨x, mx, decide_eq_true rfl⟩
  rw [h2] at this
  cases this
theorem CD.start {H : Hp} {d : Addr} : CD (upd H d (.dT [])) d (fun _ => none) 0 := ⟨[], [], upd_same, rfl, List.nodup_nil, Nat.le_refl _, fun _ => rfl⟩
theorem CD.at_ {H H' : Hp} {d : Addr} {S : Cel → Option Int} {n m : Nat} (h : CD H d S n) (e : H' d = H d) (l : n ≤ m) : CD H' d S m := by
  obtain ⟨kvs, cs, h1, h2, h3, h4, h5⟩ := h.ex
  exact ⟨kvs, cs, e.trans h1, h2, h3, Nat.le_trans h4 l, h5⟩
theorem CD.same {H H' : Hp} {d : Addr} {S : Cel → Option Int} {n : Nat} (h : CD H d S n) (s : Same H H') : CD H' d S n := by
  obtain ⟨kvs, cs, h1, h2, h3, h4, h5⟩ := h.ex
  exact ⟨kvs, cs, s _ _ h1, h2, h3, h4, h5⟩
theorem CD.get {H : Hp} {d b : Addr} {S : Cel → Option Int} {n : Nat} (h : CD H d S n) (c : Cel) (eb : H b = some (.tup [.int c.1, .int c.2])) : DGet H d (.ref b) ((S c).map V.int) := by
  obtain ⟨kvs, cs, h1, h2, h3, h4, h5⟩ := h.ex
  rw [← h5 c]
  exact DGet.t h1 eb
theorem CD.put {H : Hp} {d b : Addr} {S : Cel → Option Int} {n : Nat} (h : CD H d S n) (hn : n ≤ 900) (c : Cel) (v : Int) (eb : H b = some (.tup [.int c.1, .int c.2])) : ∃ kvs, DPut H d (.ref b) (.int v) (upd H d (.dT kvs)) ∧ CD (upd H d (.dT kvs)) d (setC S c v) (n + 1) := by
  obtain ⟨kvs, cs, h1, h2, h3, h4, h5⟩ := h.ex
  have hl : kvs.length = cs.length := by
    have := congrArg List.length h2
    rwa [List.length_map, List.length_map] at this
  refine ⟨putK kvs (keyP c) (.int v), DPut.t h1 eb (small1000 (by omega)), ?_⟩
  have val : ∀ z, valV (putK kvs (keyP c) (.int v)) (keyP z) = (setC S c v z).map V.int := fun z => by
    rw [valV_put]
    unfold setC
    by_cases hz : z = c
    · rw [if_pos hz, if_pos (by rw [hz])]
      rfl
    · rw [if_neg hz, if_neg fun e => hz (keyP_inj e)]
      exact h5 z
  cases hv : valV kvs (keyP c) with
  | none =>
    have e := putK_new (kvs := kvs) (k := keyP c) (.int v) hv
    refine ⟨_, cs ++ [c], upd_same, ?_, ?_, by rw [List.length_append]; exact Nat.succ_le_succ h4, val⟩
    · rw [e, List.map_append, List.map_append, h2]
      rfl
    · rw [List.nodup_append]
      refine ⟨h3, List.nodup_cons.mpr ⟨List.not_mem_nil, List.nodup_nil⟩, fun a ma b mb eab => ?_⟩
      rw [List.mem_singleton.mp mb] at eab
      refine valV_out hv ?_
      rw [h2, ← eab]
      exact List.mem_map.mpr ⟨a, ma, rfl⟩
  | some y =>
    refine ⟨_, cs, upd_same, ?_, h3, Nat.le_succ_of_le h4, val⟩
    unfold putK
    rw [valV_any, hv]
    show (List.map _ _).map _ = _
    rw [List.map_map, ← h2]
    refine List.map_congr_left fun x mx => ?_
    show (if x.1 = keyP c then (x.1, V.int v) else x).1 = x.1
    split <;> rfl
/-- the numbers of rows by their cells -/
def inR (x0 x1 y0 y1 : Int) (c : Cel) : Prop := x0 ≤ c.1 ∧ c.1 < x1 ∧ y0 ≤ c.2 ∧ c.2 < y1
instance (x0 x1 y0 y1 : Int) (c : Cel) : Decidable (inR x0 x1 y0 y1 c) := inferInstanceAs (Decidable (_ ∧ _ ∧ _ ∧ _))
def cellsS (x0 x1 y0 y1 : Int) (rows : List (List Int)) : Cel → Option Int := fun c => if inR x0 x1 y0 y1 c then some (cellI x0 y0 rows c.1 c.2) else none
/-- rows by a function -/
def rowsF (x0 x1 y0 y1 : Int) (F : Cel → Int) : List (List Int) := if x0 < x1 ∧ y0 < y1 then (List.range (y1 - y0).toNat).map fun (j : Nat) => (List.range (x1 - x0).toNat).map fun (i : Nat) => F (x0 + i, y0 + j) else []
def spCellsL (K : PySem.W.Frag) : Sp := fun vs H Q _ => ∃ (rp p : Addr) (x0 x1 y0 y1 : Int) (rows : List (List Int)), vs = [.ref rp, .ref p] ∧ SqT K H rp [.int x0, .int x1, .int y0, .int y1] ∧ Rows (fun _ => True) H p rows ∧ GR x0 x1 y0 y1 rows ∧ x1 ≤ x0 + 30 ∧ y1 ≤ y0 + 30 ∧
  ∀ (q : Addr) (H' : Hp), H q = none → Same H H' → CD H' q (cellsS x0 x1 y0 y1 rows) 900 → Q (.ref q) H'
/-- the cells ahead of the x-th of the y-th row -/
def partS (x0 x1 y0 : Int) (rows : List (List Int)) (j i : Nat) : Cel → Option Int := fun c => if inR x0 x1 y0 (y0 + j) c ∨ inR x0 (x0 + i) (y0 + j) (y0 + j + 1) c then some (cellI x0 y0 rows c.1 c.2) else none
theorem part_set (x0 x1 y0 : Int) (rows : List (List Int)) (j i : Nat) : setC (partS x0 x1 y0 rows j i) (x0 + i, y0 + j) (cellI x0 y0 rows (x0 + i) (y0 + j)) = partS x0 x1 y0 rows j (i + 1) := by
  funext c
  unfold setC partS
  by_cases h : c = (x0 + i, y0 + j)
  · rw [if_pos h, if_pos (.inr (by rw [h]; unfold inR; omega)), h]
  · rw [if_neg h]
    have h2 : ¬ (c.1 = x0 + i ∧ c.2 = y0 + j) := fun z => h (Prod.ext z.1 z.2)
    have e : (inR x0 x1 y0 (y0 + j) c ∨ inR x0 (x0 + i) (y0 + j) (y0 + j + 1) c) ↔ (inR x0 x1 y0 (y0 + j) c ∨ inR x0 (x0 + (i + 1 : Nat)) (y0 + j) (y0 + j + 1) c) := by
      unfold inR
      omega
    simp only [e]
theorem part_row (x0 x1 y0 : Int) (rows : List (List Int)) (j : Nat) (hx : x0 ≤ x1) : partS x0 x1 y0 rows j (x1 - x0).toNat = partS x0 x1 y0 rows (j + 1) 0 := by
  funext c
  unfold partS
  have e : (inR x0 x1 y0 (y0 + j) c ∨ inR x0 (x0 + (x1 - x0).toNat) (y0 + j) (y0 + j + 1) c) ↔ (inR x0 x1 y0 (y0 + (j + 1 : Nat)) c ∨ inR x0 (x0 + (0 : Nat)) (y0 + (j + 1 : Nat)) (y0 + (j + 1 : Nat) + 1) c) := by
    unfold inR
    omega
  simp only [e]
theorem ok_cellsL {f : Addr} {fd : FuncData} {k : Nat} (F : Fun K "_law_cells" "_law_cells" s_law_cells f fd) (T : Txt mg) : FnOk P w K mg base CX0 (k + 1) f fd ["_law_rect_here", "_law_rows_here"] (spCellsL K) := by
  refine F.ok sc_law_cells (fun vs H Q E h => ?_) (fun cdv A outer s H vs Q E hr h => ?_)
  · obtain ⟨rp, p, x0, x1, y0, y1, rows, rfl, _⟩ := h
    rfl
  · obtain ⟨rp, p, x0, x1, y0, y1, rows, rfl, hrp, ⟨_, as, hp, hA⟩, ⟨gx, gy, gxm, gym, gxb, gyb, g1, g2⟩, mx, my, q⟩ := h
    have hu := hr.units
    have hu1 := hu_of hr
    refine ⟨_, (pss_cons (ps_set (i := 2) sc_law_cells.nd rfl (Or.inl rfl) pe_dnewT)
    (pss_cons (ps_for PassesOwn.never rfl (pi_range2 (by rfl) T.z_range (pa_cons (pe_ix ix_tup (pv 0) pe_int (fun _ _ => rfl)) (pa_cons (pe_ix ix_tup (pv 0) pe_int (fun _ _ => rfl)) pa_nil))) (pg_name (i := 3) sc_law_cells.nd rfl (Or.inl rfl))
      (pss_one (ps_for PassesOwn.never rfl (pi_range2 (by rfl) T.z_range (pa_cons (pe_ix ix_tup (pv 0) pe_int (fun _ _ => rfl)) (pa_cons (pe_ix ix_tup (pv 0) pe_int (fun _ _ => rfl)) pa_nil))) (pg_name (i := 4) sc_law_cells.nd rfl (Or.inl rfl))
      (pss_one (ps_dput hu1 (pv 2) (pe_tup (pa_cons (pv 4) (pa_cons (pv 3) pa_nil))) (pe_ix ix_list (pe_ix ix_list (pv 1) (pe_op op_sub (pv 3) (pe_ix ix_tup (pv 0) pe_int (fun _ _ => rfl))) (fun _ _ => rfl)) (pe_op op_sub (pv 4) (pe_ix ix_tup (pv 0) pe_int (fun _ _ => rfl))) (fun _ _ => rfl)) rfl)))))
    (pss_one (ps_ret (pv 2))))), ?_⟩
    walk_at "ev"
    intro d nd
    walk_at "ev"
    have hrp1 := same_seqT (same_upd (o := .dT []) nd) hrp
    refine ⟨_, _, _, _, rfl, rfl, hrp1, rfl, ?_⟩
    walk_at "ev"
    refine ⟨⟨by omega, by omega, by omega, by omega⟩, ?_⟩
    have st : partS x0 x1 y0 rows 0 0 = fun _ => none := by
      funext c
      unfold partS
      rw [if_neg]
      unfold inR
      omega
    refine for_it walk_range (fun j σ G => Same H G ∧ CD G d (partS x0 x1 y0 rows j 0) (30 * j) ∧ ∃ v3 v4, σ = [some (.ref rp), some (.ref p), some (.ref d), v3, v4]) ⟨same_upd nd, by rw [st]; exact CD.start, _, _, rfl⟩ (fun _ _ _ _ _ => trivial) ?_ ?_
    · rintro j y σ G G2 hj ⟨s1, hD, v3, v4, rfl⟩ ⟨rfl, rfl⟩
      walk_at "ev"
      have hrpG := same_seqT s1 hrp
      refine ⟨_, _, _, _, rfl, rfl, hrpG, rfl, ?_⟩
      walk_at "ev"
      refine ⟨⟨by omega, by omega, by omega, by omega⟩, ?_⟩
      refine for_it walk_range (fun i σ G => Same H G ∧ CD G d (partS x0 x1 y0 rows j i) (30 * j + i) ∧ ∃ v4, σ = [some (.ref rp), some (.ref p), some (.ref d), some (.int (y0 + j)), v4]) ⟨s1, hD, _, rfl⟩ (fun _ _ _ _ _ => trivial) ?_ ?_
      · rintro i x σ G G2 hi ⟨s2, hD2, v4, rfl⟩ ⟨rfl, rfl⟩
        have hrp2 := same_seqT s2 hrp
        have hjl : j < rows.length := by
          rw [g1]
          exact hj
        have hrow := List.getElem?_eq_getElem hjl
        have hja : j < as.length := by
          rw [hA.1]
          exact hjl
        have hb := s2 _ _ (hA.2 j _ _ (List.getElem?_eq_getElem hja) hrow).2
        have hil : i < (rows[j]).length := by
          rw [g2 _ (List.getElem_mem hjl)]
          exact hi
        have cv : cellI x0 y0 rows (x0 + i) (y0 + j) = (rows[j])[i] := by
          unfold cellI
          rw [show (y0 + (j : Int) - y0).toNat = j from by omega, show (x0 + (i : Int) - x0).toNat = i from by omega, List.getD_eq_getElem?_getD (l := rows), hrow, Option.getD_some, List.getD_eq_getElem?_getD, List.getElem?_eq_getElem hil]
          rfl
        walk_at "ev"
        refine ⟨_, _, _, _, rfl, rfl, .inl (.inl (s2 _ _ hp)), at_of (j := j) (v := .ref (as[j])) (by omega) (by rw [List.getElem?_map, List.getElem?_eq_getElem hja]; rfl), ?_⟩
        walk_at "ev"
        refine ⟨_, _, _, _, rfl, rfl, .inl (.inl hb), at_of (j := i) (v := .int (cellI x0 y0 rows (x0 + i) (y0 + j))) (by omega) (by rw [List.getElem?_map, List.getElem?_eq_getElem hil, cv]; rfl), ?_⟩
        walk_at "ev"
        refine ⟨(by show 2 ≤ sizeLine; decide), fun t nt => ?_⟩
        have s3 := s2.trans (same_upd (o := .tup [.int (x0 + i), .int (y0 + j)]) nt)
        have hD3 := hD2.same (same_upd (o := .tup [.int (x0 + i), .int (y0 + j)]) nt)
        obtain ⟨kvs, dp, hD4⟩ := hD3.put (b := t) (by omega) (x0 + i, y0 + j) (cellI x0 y0 rows (x0 + i) (y0 + j)) upd_same
        rw [part_set] at hD4
        refine ⟨d, _, rfl, dp, fun b o e => (upd_ne (ne_of_none e nd)).trans (s3 _ _ e), hD4.at_ rfl (by omega), _, rfl⟩
      · rintro σ G ⟨s2, hD2, v4, rfl⟩
        rw [part_row x0 x1 y0 rows j (by omega)] at hD2
        exact ⟨s2, hD2.at_ rfl (by omega), _, _, rfl⟩
    · rintro σ G ⟨s1, hD, v3, v4, rfl⟩
      walk_at "ev"
      have en : partS x0 x1 y0 rows (y1 - y0).toNat 0 = cellsS x0 x1 y0 y1 rows := by
        funext c
        unfold partS cellsS
        have e : (inR x0 x1 y0 (y0 + (y1 - y0).toNat) c ∨ inR x0 (x0 + (0 : Nat)) (y0 + (y1 - y0).toNat) (y0 + (y1 - y0).toNat + 1) c) ↔ inR x0 x1 y0 y1 c := by
          unfold inR
          omega
        simp only [e]
      rw [en] at hD
      exact q d G nd s1 (hD.at_ rfl (by omega))
def spRowsOf (K : PySem.W.Frag) : Sp := fun vs H Q _ => ∃ (rp d : Addr) (x0 x1 y0 y1 : Int) (S : Cel → Option Int) (F : Cel → Int) (n : Nat), vs = [.ref rp, .ref d] ∧ SqT K H rp [.int x0, .int x1, .int y0, .int y1] ∧ CD H d S n ∧ (∀ c, inR x0 x1 y0 y1 c → S c = some (F c)) ∧ x1 ≤ x0 + 900 ∧ y1 ≤ y0 + 900 ∧ -4000000000 ≤ x0 ∧ x0 ≤ 4000000000 ∧ -4000000000 ≤ y0 ∧ y0 ≤ 4000000000 ∧
  ∀ (q : Addr) (H' : Hp), H q = none → Same H H' → Rows (fun b => H b = none) H' q (rowsF x0 x1 y0 y1 F) → Q (.ref q) H'
theorem ok_rowsof {f : Addr} {fd : FuncData} {k : Nat} (F0 : Fun K "_law_rows_of" "_law_rows_of" s_law_rows_of f fd) (T : Txt mg) : FnOk P w K mg base CX0 (k + 1) f fd ["_law_rect_here", "_law_cells_here"] (spRowsOf K) := by
  refine F0.ok sc_law_rows_of (fun vs H Q E h => ?_) (fun cdv A outer s H vs Q E hr h => ?_)
  · obtain ⟨rp, d, x0, x1, y0, y1, S, F, n, rfl, _⟩ := h
    rfl
  · obtain ⟨rp, d, x0, x1, y0, y1, S, F, n, rfl, hrp, hD, hS, mx, my, b1, b2, b3, b4, q⟩ := h
    have hu := hr.units
    have hu1 := hu_of hr
    refine ⟨_, (pss_cons (ps_asg (pv 0) (pg_tup rfl (pgs_cons (pg_name (i := 2) sc_law_rows_of.nd rfl (Or.inr rfl)) (pgs_cons (pg_name (i := 3) sc_law_rows_of.nd rfl (Or.inr rfl)) (pgs_cons (pg_name (i := 4) sc_law_rows_of.nd rfl (Or.inl rfl)) (pgs_cons (pg_name (i := 5) sc_law_rows_of.nd rfl (Or.inl rfl)) pgs_nil))))))
    (pss_cons (ps_if (PW.pt (pw_or (pt_cmpR op_ge (pv 2) (pv 3) (nomark _)) (pw_or1 (pt_cmpR op_ge (pv 4) (pv 5) (nomark _))))) (pss_one (ps_ret (pe_lst pa_nil))) pss_nil)
    (pss_one (ps_ret (pe_lc (own := [("_law_y", 6)]) (g := (gName 6)) (tt := tYes) rfl sc_law_rows_of.nd (pi_range2 (by rfl) T.z_range (pa_cons (pv 4) (pa_cons (pv 5) pa_nil))) (blkOk_by (N := ["_law_rect_here", "_law_cells_here", "_law_x0", "_law_x1", "_law_y0", "_law_y1", "_law_y", "_law_x"]) (sc := defScope s_law_rows_of) (by decide +kernel)) (fun _ _ _ _ _ => pg_name (i := 6) sc_law_rows_of.nd rfl (by first | exact Or.inl rfl | exact Or.inr rfl)) (fun _ _ _ _ _ => pts_nil) (fun _ _ _ _ _ => (pe_lc (own := [("_law_x", 7)]) (g := (gName 7)) (tt := tYes) rfl sc_law_rows_of.nd (pi_range2 (by rfl) T.z_range (pa_cons (pv 2) (pa_cons (pv 3) pa_nil))) (blk_in (N := ["_law_rect_here", "_law_cells_here", "_law_x0", "_law_x1", "_law_y0", "_law_y1", "_law_y", "_law_x"]) (sc0 := defScope s_law_rows_of) rfl (by decide +kernel)) (fun _ _ _ _ _ => pg_name (i := 7) sc_law_rows_of.nd rfl (by first | exact Or.inl rfl | exact Or.inr rfl)) (fun _ _ _ _ _ => pts_nil) (fun _ _ _ _ _ => (pe_dget hu1 (pv 1) (pe_tup (pa_cons (pv 7) (pa_cons (pv 6) pa_nil))) (fun _ _ => rfl)))))))))), ?_⟩
    walk_at "ev"
    refine ⟨rp, _, rfl, hrp, rfl, ?_⟩
    have none_ : ¬ (x0 < x1 ∧ y0 < y1) → ∀ D : Addr, H D = none → Q (.ref D) (upd H D (.lst [])) := fun hc D nD => by
      refine q D _ nD (same_upd nD) ?_
      unfold rowsF
      rw [if_neg hc]
      exact ⟨nD, [], upd_same, RowsA.nil⟩
    walk_at "ev"
    · rename_i hc
      exact ⟨(by show 0 ≤ sizeLine; decide), fun D nD => none_ (by omega) D nD⟩
    · rename_i hc1 hc2
      exact ⟨(by show 0 ≤ sizeLine; decide), fun D nD => none_ (by omega) D nD⟩
    · rename_i hc1 hc2
      have cx : x0 < x1 := by omega
      have cy : y0 < y1 := by omega
      have re : rowsF x0 x1 y0 y1 F = (List.range (y1 - y0).toNat).map fun (j : Nat) => (List.range (x1 - x0).toNat).map fun (i : Nat) => F (x0 + i, y0 + j) := if_pos ⟨cx, cy⟩
      refine ⟨⟨by omega, by omega, by omega, by omega⟩, fun D nD => ?_⟩
      refine lc_it walk_range (fun j G => Same H G ∧ ∃ cs : List Addr, G D = some (.lst (cs.map V.ref)) ∧ RowsA (fun b => b ≠ D ∧ H b = none) G cs ((List.range j).map fun (j : Nat) => (List.range (x1 - x0).toNat).map fun (i : Nat) => F (x0 + i, y0 + j))) ⟨same_upd nD, [], upd_same, .nil⟩ (fun _ _ _ _ => trivial) ?_ ?_
      · rintro j x G G2 hj ⟨s1, cs, eD, hC⟩ ⟨rfl, rfl⟩
        walk_at "ev"
        refine ⟨⟨by omega, by omega, by omega, by omega⟩, fun D2 nD2 => ?_⟩
        have n2D : D2 ≠ D := fun z => by
          rw [z, eD] at nD2
          cases nD2
        refine lc_it walk_range (fun i G3 => Same G2 G3 ∧ G3 D2 = some (.lst (((List.range i).map fun (i : Nat) => F (x0 + i, y0 + j)).map V.int))) ⟨same_upd nD2, upd_same⟩ (fun _ _ _ _ => trivial) ?_ ?_
        · rintro i x G3 G4 hi ⟨s3, e3⟩ ⟨rfl, rfl⟩
          walk_at "ev"
          refine ⟨(by show 2 ≤ sizeLine; decide), fun t nt => ?_⟩
          have s4 := (s1.trans s3).trans (same_upd (o := .tup [.int (x0 + i), .int (y0 + j)]) nt)
          have dg := (hD.same s4).get (b := t) (x0 + i, y0 + j) upd_same
          rw [hS _ (by unfold inR; omega)] at dg
          refine ⟨d, _, rfl, dg, ?_⟩
          refine ⟨_, new_at e3 nt, small1000 (by rw [List.length_map, List.length_map, List.length_range]; omega), fun b o e => ?_, ?_⟩
          · rw [upd_ne (ne_of_none e nD2)]
            exact new_at (s3 _ _ e) nt
          · rw [upd_same, List.range_succ, List.map_append, List.map_append]
            rfl
        · rintro G3 ⟨s3, e3⟩
          have eD3 := s3 _ _ eD
          have lC : cs.length = j := by rw [hC.1, List.length_map, List.length_range]
          refine ⟨_, eD3, small1000 (by rw [List.length_map, lC]; omega), fun b o e => ?_, cs ++ [D2], by rw [upd_same, List.map_append]; rfl, ?_⟩
          · rw [upd_ne (ne_of_none e nD)]
            exact s3 _ _ (s1 _ _ e)
          · rw [List.range_succ, List.map_append]
            refine (hC.up fun b o n e => ⟨n, ?_⟩).app ⟨n2D, s1.free nD2⟩ ?_
            · rw [upd_ne n.1]
              exact s3 _ _ e
            · rw [upd_ne n2D]
              exact e3
      · rintro G ⟨s1, cs, eD, hC⟩
        refine q D G nD s1 ⟨nD, cs, eD, ?_⟩
        rw [re]
        exact hC.up fun b o n e => ⟨n.2, e⟩
/-! ### halves by the law -/
def gC (c : Nat) (z : Cel) : Cel := if c = 88 then (z.1 / 2, z.2) else (z.1, z.2 / 2)
def oC (c : Nat) (z : Cel) : Cel := if c = 88 then (z.1 + 1 - 2 * (z.1 - z.1 / 2 * 2), z.2) else (z.1, z.2 + 1 - 2 * (z.2 - z.2 / 2 * 2))
def wrL (c : Nat) (S : Cel → Option Int) (z : Cel) : Option (Cel × Int) := match S z, S (oC c z) with
  | some a, none => some (gC c z, a)
  | some a, some b => if HT.lexLt [z.1, z.2] [(oC c z).1, (oC c z).2] = true then some (gC c z, (a + b) / 2) else none
  | none, _ => none
def wrH (c : Nat) (S : Cel → Option Int) (z : Cel) : Option (Cel × Int) := match S z, S (oC c z) with
  | some a, some b => if HT.lexLt [z.1, z.2] [(oC c z).1, (oC c z).2] = true then some (gC c z, a - b) else none
  | _, _ => none
def stepW (wr : Cel → Option (Cel × Int)) (L : Cel → Option Int) (z : Cel) : Cel → Option Int := match wr z with
  | some p => setC L p.1 p.2
  | none => L
def foldW (wr : Cel → Option (Cel × Int)) (zs : List Cel) : Cel → Option Int := zs.foldl (stepW wr) fun _ => none
theorem foldW_snoc (wr : Cel → Option (Cel × Int)) (zs : List Cel) (z : Cel) : foldW wr (zs ++ [z]) = stepW wr (foldW wr zs) z := by
  unfold foldW
  rw [List.foldl_append]
  rfl
theorem fold_val (wr : Cel → Option (Cel × Int)) (g : Cel) (v : Int) : ∀ (zs : List Cel) (L : Cel → Option Int), (∀ z ∈ zs, ∀ u, wr z = some (g, u) → u = v) → (L g = some v ∨ ∃ z ∈ zs, ∃ u, wr z = some (g, u)) → zs.foldl (stepW wr) L g = some v
  | [], L, _, h => by
    rcases h with h | ⟨z, m, _⟩
    · exact h
    · cases m
  | z :: zs, L, all, h => by
    refine fold_val wr g v zs (stepW wr L z) (fun y m => all y (List.mem_cons_of_mem _ m)) ?_
    have here : ∀ u, wr z = some (g, u) → stepW wr L z g = some v := fun u e => by
      unfold stepW
      rw [e]
      show setC L g u g = some v
      unfold setC
      rw [if_pos rfl, all z List.mem_cons_self u e]
    rcases h with h | ⟨y, m, u, e⟩
    · refine .inl ?_
      cases hw : wr z with
      | none =>
        unfold stepW
        rw [hw]
        exact h
      | some p =>
        by_cases hp : p.1 = g
        · exact here p.2 (by rw [hw, ← hp])
        · unfold stepW
          rw [hw]
          show setC L p.1 p.2 g = some v
          unfold setC
          rw [if_neg fun e => hp e.symm]
          exact h
    · rcases List.mem_cons.mp m with rfl | m
      · exact .inl (here u e)
      · exact .inr ⟨y, m, u, e⟩
theorem eq_Y (c : Nat) : decide (V.str (SX.S [c]) = V.str (Str.ofString "Y")) = decide (c = 89) := by
  rw [str_Y]
  by_cases h : c = 89
  · rw [h, decide_eq_true rfl, decide_eq_true rfl]
  · rw [decide_eq_false h, decide_eq_false fun e => h (List.head_eq_of_cons_eq (SX.S_inj (V.str.inj e)))]
theorem is_Y {c : Nat} (h : V.str (SX.S [c]) = V.str (Str.ofString "Y")) : c = 89 := of_decide_eq_true (by rw [← eq_Y]; exact decide_eq_true h)
theorem not_Y {c : Nat} (h : ¬ V.str (SX.S [c]) = V.str (Str.ofString "Y")) : c ≠ 89 := of_decide_eq_false (by rw [← eq_Y]; exact decide_eq_false h)
theorem CD.dT {H : Hp} {d : Addr} {S : Cel → Option Int} {n : Nat} (h : CD H d S n) : ∃ kv, H d = some (.dT kv) := by
  obtain ⟨kvs, cs, h1, _⟩ := h.ex
  exact ⟨kvs, h1⟩
theorem wrL_none {c : Nat} {S : Cel → Option Int} {z : Cel} {a : Int} (h1 : S z = some a) (h2 : S (oC c z) = none) : wrL c S z = some (gC c z, a) ∧ wrH c S z = none := by
  unfold wrL wrH
  rw [h1, h2]
  exact ⟨rfl, rfl⟩
theorem wrL_some {c : Nat} {S : Cel → Option Int} {z : Cel} {a b : Int} (h1 : S z = some a) (h2 : S (oC c z) = some b) (h3 : HT.lexLt [z.1, z.2] [(oC c z).1, (oC c z).2] = true) : wrL c S z = some (gC c z, (a + b) / 2) ∧ wrH c S z = some (gC c z, a - b) := by
  unfold wrL wrH
  rw [h1, h2]
  show (if _ then _ else _) = _ ∧ (if _ then _ else _) = _
  rw [if_pos h3, if_pos h3]
  exact ⟨rfl, rfl⟩
theorem wrL_not {c : Nat} {S : Cel → Option Int} {z : Cel} {a b : Int} (h1 : S z = some a) (h2 : S (oC c z) = some b) (h3 : HT.lexLt [z.1, z.2] [(oC c z).1, (oC c z).2] = false) : wrL c S z = none ∧ wrH c S z = none := by
  unfold wrL wrH
  rw [h1, h2]
  show (if _ then _ else _) = _ ∧ (if _ then _ else _) = _
  rw [if_neg (by rw [h3]; exact Bool.false_ne_true), if_neg (by rw [h3]; exact Bool.false_ne_true)]
  exact ⟨rfl, rfl⟩
theorem stepW_some {wr : Cel → Option (Cel × Int)} {L : Cel → Option Int} {z g : Cel} {v : Int} (h : wr z = some (g, v)) : stepW wr L z = setC L g v := by
  unfold stepW
  rw [h]
theorem stepW_none {wr : Cel → Option (Cel × Int)} {L : Cel → Option Int} {z : Cel} (h : wr z = none) : stepW wr L z = L := by
  unfold stepW
  rw [h]
def spHalf : Sp := fun vs H Q _ => ∃ (d : Addr) (c : Nat) (S : Cel → Option Int) (n : Nat), vs = [.ref d, .str (SX.S [c])] ∧ Lt2 c ∧ CD H d S n ∧ n ≤ 900 ∧
  ∀ (q lo hi : Addr) (zs : List Cel) (H' : Hp), H q = none → Same H H' → H' q = some (.lst [.ref lo, .ref hi]) → (∀ z, z ∈ zs ↔ (S z).isSome = true) → CD H' lo (foldW (wrL c S) zs) 900 → CD H' hi (foldW (wrH c S) zs) 900 → Q (.ref q) H'
theorem ok_half {f : Addr} {fd : FuncData} {k : Nat} (F0 : Fun K "_law_half" "_law_half" s_law_half f fd) (T : Txt mg) : FnOk P w K mg base CX0 (k + 1) f fd ["_law_cells_here", "_law_letter"] spHalf := by
  refine F0.ok sc_law_half (fun vs H Q E h => ?_) (fun cdv A outer s H vs Q E hr h => ?_)
  · obtain ⟨d, c, S, n, rfl, _⟩ := h
    rfl
  · obtain ⟨d, c, S, n, rfl, hc, hD, hn, q⟩ := h
    have hu := hr.units
    have hu1 := hu_of hr
    refine ⟨_, (pss_cons (ps_par (i := 2) (j := 3) rfl sc_law_half.nd rfl rfl (by decide) rfl rfl (pa_cons pe_dnewT (pa_cons pe_dnewT pa_nil)) rfl)
    (pss_cons (ps_for PassesOwn.never rfl (pi_list (pe_callB (call_sortedK rfl) (by rfl) T.z_sorted PyProof.Rows.boot_sorted (pa_cons (pv 0) pa_nil))) (pg_name (i := 4) sc_law_half.nd rfl (Or.inl rfl))
      (pss_cons (ps_asg (pv 4) (pg_tup rfl (pgs_cons (pg_name (i := 5) sc_law_half.nd rfl (Or.inl rfl)) (pgs_cons (pg_name (i := 6) sc_law_half.nd rfl (Or.inl rfl)) pgs_nil))))
    (pss_cons (ps_par (i := 7) (j := 8) rfl sc_law_half.nd rfl rfl (by decide) rfl rfl (pa_cons (pe_tup (pa_cons (pe_op op_fdivW (pv 5) pe_int) (pa_cons (pv 6) pa_nil))) (pa_cons (pe_tup (pa_cons (pe_op op_sub (pe_op op_add (pv 5) pe_int) (pe_op op_mul pe_int (pe_op op_sub (pv 5) (pe_op op_mul (pe_op op_fdivW (pv 5) pe_int) pe_int)))) (pa_cons (pv 6) pa_nil))) pa_nil)) rfl)
    (C8.pss_cut (ps_if (pt_cmpR op_eq (pv 1) pe_str (nomark _)) (pss_one (ps_par (i := 7) (j := 8) rfl sc_law_half.nd rfl rfl (by decide) rfl rfl (pa_cons (pe_tup (pa_cons (pv 5) (pa_cons (pe_op op_fdivW (pv 6) pe_int) pa_nil))) (pa_cons (pe_tup (pa_cons (pv 5) (pa_cons (pe_op op_sub (pe_op op_add (pv 6) pe_int) (pe_op op_mul pe_int (pe_op op_sub (pv 6) (pe_op op_mul (pe_op op_fdivW (pv 6) pe_int) pe_int)))) pa_nil))) pa_nil)) rfl)) pss_nil)
    (pss_one (ps_if (pt_cmp (pc_dnotin hu1 (pv 8) (pv 0))) (pss_one (ps_dput hu1 (pv 2) (pv 7) (pe_dget hu1 (pv 0) (pv 4) (fun _ _ => rfl)) rfl)) (pss_one (ps_if (pt_cmpR (op_ltT (Nat.lt_of_le_of_lt (Nat.le_add_right _ 64) hu)) (pv 4) (pv 8) (nomark _)) (pss_cons (ps_dput hu1 (pv 2) (pv 7) (pe_op op_fdivW (pe_op op_add (pe_dget hu1 (pv 0) (pv 4) (fun _ _ => rfl)) (pe_dget hu1 (pv 0) (pv 8) (fun _ _ => rfl))) pe_int) rfl)
    (pss_one (ps_dput hu1 (pv 3) (pv 7) (pe_op op_sub (pe_dget hu1 (pv 0) (pv 4) (fun _ _ => rfl)) (pe_dget hu1 (pv 0) (pv 8) (fun _ _ => rfl))) rfl))) pss_nil))))))))
    (pss_one (ps_ret (pe_lst (pa_cons (pv 2) (pa_cons (pv 3) pa_nil))))))), ?_⟩
    walk_at "ev"
    intro lo nlo
    walk_at "ev"
    intro hi nhi
    walk_at "ev"
    obtain ⟨kvs, cs, d1, d2, d3, d4, d5⟩ := hD.ex
    have sA := (same_upd (o := .dT []) nlo).trans (same_upd (o := .dT []) nhi)
    refine ⟨d, kvs, cs, rfl, sA _ _ d1, d2, fun p zs hp np hz => ?_⟩
    have sP := sA.trans (same_upd (o := .lst (zs.map fun z => .ref z.2)) np)
    have nhl : hi ≠ lo := fun z => by
      rw [z, upd_same] at nhi
      cases nhi
    have nh0 : H hi = none := (same_upd (o := .dT []) nlo).free nhi
    have elo : upd (upd (upd H lo (.dT [])) hi (.dT [])) p (.lst (zs.map fun z => .ref z.2)) lo = some (.dT []) := new_at (new_at upd_same nhi) np
    have ehi : upd (upd (upd H lo (.dT [])) hi (.dT [])) p (.lst (zs.map fun z => .ref z.2)) hi = some (.dT []) := new_at upd_same np
    have ep : upd (upd (upd H lo (.dT [])) hi (.dT [])) p (.lst (zs.map fun z => .ref z.2)) p = some (.lst (zs.map fun z => .ref z.2)) := upd_same
    have hz0 : ∀ z ∈ zs, upd (upd (upd H lo (.dT [])) hi (.dT [])) p (.lst (zs.map fun z => .ref z.2)) z.2 = some (.tup [.int z.1.1, .int z.1.2]) := fun z m => new_at (hz z m) np
    generalize upd (upd (upd H lo (.dT [])) hi (.dT [])) p (.lst (zs.map fun z => .ref z.2)) = H1 at sP elo ehi ep hz0 ⊢
    have dom : ∀ z, z ∈ zs.map (·.1) ↔ (S z).isSome = true := fun z => by
      rw [hp.mem_iff]
      have h5 := d5 z
      constructor
      · intro m
        cases hs : S z with
        | some v => rfl
        | none =>
          rw [hs] at h5
          exact absurd (show keyP z ∈ kvs.map (·.1) by rw [d2]; exact List.mem_map.mpr ⟨z, m, rfl⟩) (valV_out h5)
      · intro m
        obtain ⟨v, hv⟩ := Option.isSome_iff_exists.mp m
        rw [hv] at h5
        have h6 := valV_any (keyP z) kvs
        rw [h5] at h6
        obtain ⟨x, mx, hx⟩ := List.any_eq_true.mp (h6.trans rfl)
        have h7 : keyP z ∈ cs.map keyP := by
          rw [← d2]
          exact List.mem_map.mpr ⟨x, mx, of_decide_eq_true hx⟩
        obtain ⟨y, my, ey⟩ := List.mem_map.mp h7
        rw [← keyP_inj ey]
        exact my
    have lz : zs.length ≤ 900 := by
      have := hp.length_eq
      rw [List.length_map] at this
      omega
    walk_at "ev"
    refine ⟨⟨_, .inl (.inl ep)⟩, ?_⟩
    refine for_it (walk_list (xs := zs.map fun z => V.ref z.2)) (fun i σ G => (∀ b o, b ≠ lo → b ≠ hi → H1 b = some o → G b = some o) ∧ CD G lo (foldW (wrL c S) ((zs.take i).map (·.1))) i ∧ CD G hi (foldW (wrH c S) ((zs.take i).map (·.1))) i ∧
      ∃ v4 v5 v6 v7 v8, σ = [some (.ref d), some (.str (SX.S [c])), some (.ref lo), some (.ref hi), v4, v5, v6, v7, v8]) ⟨fun _ _ _ _ e => e, ⟨[], [], elo, rfl, List.nodup_nil, Nat.le_refl _, fun _ => rfl⟩, ⟨[], [], ehi, rfl, List.nodup_nil, Nat.le_refl _, fun _ => rfl⟩, _, _, _, _, _, rfl⟩ (fun _ _ _ _ h => .inl (.inl (h.1 _ _ (fun z => by rw [z, elo] at ep; cases ep) (fun z => by rw [z, ehi] at ep; cases ep) ep))) ?_ ?_
    · rintro i x σ G G2 hi' ⟨o1, hL, hH, v4, v5, v6, v7, v8, rfl⟩ ⟨rfl, hx1⟩
      rw [List.getElem?_map] at hx1
      obtain ⟨z, hzi, rfl⟩ := Option.map_eq_some_iff.mp hx1
      have ne : ∀ {b : Addr} {o : HO}, H1 b = some o → (∀ kv, o ≠ .dT kv) → b ≠ lo ∧ b ≠ hi := fun {b o} e k => ⟨fun z => (by rw [z, elo] at e; cases e; exact k _ rfl), fun z => (by rw [z, ehi] at e; cases e; exact k _ rfl)⟩
      have hdo : ∀ {d' : Addr} {kv : List (List Key × V)}, H d' = some (.dT kv) → d' ≠ lo ∧ d' ≠ hi := fun {d' kv} e => ⟨fun z => (by rw [z, nlo] at e; cases e), fun z => (by rw [z, nh0] at e; cases e)⟩
      have hd1 := o1 d _ (hdo d1).1 (hdo d1).2 (sP _ _ d1)
      have hDG : CD G2 d S n := ⟨kvs, cs, hd1, d2, d3, d4, d5⟩
      have hzm := List.mem_of_getElem? hzi
      have zz := hz0 z hzm
      have hzG : G2 z.2 = some (.tup [.int z.1.1, .int z.1.2]) := o1 _ _ (ne zz fun _ q => nomatch q).1 (ne zz fun _ q => nomatch q).2 zz
      obtain ⟨a, ha⟩ := Option.isSome_iff_exists.mp ((dom z.1).mp (List.mem_map.mpr ⟨z, hzm, rfl⟩))
      walk_at "ev"
      refine ⟨(by show 2 ≤ sizeLine; decide), fun t nt => ?_⟩
      walk_at "ev"
      refine ⟨(by show 2 ≤ sizeLine; decide), fun u nu => ?_⟩
      have sB := (same_upd (o := .tup [.int (z.1.1 / 2), .int z.1.2]) nt).trans (same_upd (o := .tup [.int (z.1.1 + 1 - 2 * (z.1.1 - z.1.1 / 2 * 2)), .int z.1.2]) nu)
      have et : upd (upd G2 t (.tup [.int (z.1.1 / 2), .int z.1.2])) u (.tup [.int (z.1.1 + 1 - 2 * (z.1.1 - z.1.1 / 2 * 2)), .int z.1.2]) t = some (.tup [.int (z.1.1 / 2), .int z.1.2]) := new_at upd_same nu
      have eu : upd (upd G2 t (.tup [.int (z.1.1 / 2), .int z.1.2])) u (.tup [.int (z.1.1 + 1 - 2 * (z.1.1 - z.1.1 / 2 * 2)), .int z.1.2]) u = some (.tup [.int (z.1.1 + 1 - 2 * (z.1.1 - z.1.1 / 2 * 2)), .int z.1.2]) := upd_same
      walk_at "ev"
      refine ⟨fun σ G3 => ∃ (t u : Addr), Same G2 G3 ∧ G3 t = some (.tup [.int (gC c z.1).1, .int (gC c z.1).2]) ∧ G3 u = some (.tup [.int (oC c z.1).1, .int (oC c z.1).2]) ∧ σ = [some (.ref d), some (.str (SX.S [c])), some (.ref lo), some (.ref hi), some (.ref z.2), some (.int z.1.1), some (.int z.1.2), some (.ref t), some (.ref u)], ?_, ?_⟩
      · rcases hc with rfl | rfl
        · walk_at "ev"
          exact ⟨t, u, sB, et, eu, rfl⟩
        · walk_at "ev"
          refine ⟨(by show 2 ≤ sizeLine; decide), fun t2 nt2 => ?_⟩
          walk_at "ev"
          refine ⟨(by show 2 ≤ sizeLine; decide), fun u2 nu2 => ?_⟩
          walk_at "ev"
          exact ⟨t2, u2, (sB.trans (same_upd nt2)).trans (same_upd nu2), new_at upd_same nu2, upd_same, rfl⟩
      · rintro σ G3 ⟨t, u, s3, et, eu, rfl⟩
        have hD3 := hDG.same s3
        have hL3 := hL.same s3
        have hH3 := hH.same s3
        have hz3 := s3 _ _ hzG
        have dz := hD3.get (b := z.2) z.1 hz3
        have du := hD3.get (b := u) (oC c z.1) eu
        rw [ha] at dz
        have hti : (zs.take (i + 1)).map (·.1) = (zs.take i).map (·.1) ++ [z.1] := by rw [← take_snoc hzi, List.map_append]; rfl
        have iz : i < zs.length := (List.getElem?_eq_some_iff.mp hzi).1
        rw [hti, foldW_snoc, foldW_snoc]
        obtain ⟨kl, el⟩ := hL3.dT
        obtain ⟨kh, eh⟩ := hH3.dT
        have tlo : t ≠ lo := fun y => by
          rw [y, el] at et
          cases et
        have thi : t ≠ hi := fun y => by
          rw [y, eh] at et
          cases et
        have o3 : ∀ b o, b ≠ lo → b ≠ hi → H1 b = some o → G3 b = some o := fun b o n1 n2 e => s3 _ _ (o1 b o n1 n2 e)
        have hdlo := (hdo d1).1
        have hdhi := (hdo d1).2
        cases hs : S (oC c z.1) with
        | none =>
          rw [hs] at du
          obtain ⟨w1, w2⟩ := wrL_none ha hs
          rw [stepW_some w1, stepW_none w2]
          obtain ⟨kvs', dp, hL4⟩ := hL3.put (by omega) (gC c z.1) a et
          walk_at "ev"
          refine ⟨d, _, rfl, du, ?_⟩
          walk_at "ev"
          refine ⟨d, _, rfl, dz, ?_⟩
          walk_at "ev"
          refine ⟨lo, _, rfl, dp, fun b o n1 n2 e => (upd_ne n1).trans (o3 b o n1 n2 e), hL4, hH3.at_ (upd_ne nhl) (Nat.le_succ _), _, _, _, _, _, rfl⟩
        | some b =>
          rw [hs] at du
          walk_at "ev"
          refine ⟨d, _, rfl, du, ?_⟩
          walk_at "ev"
          refine ⟨z.2, u, [z.1.1, z.1.2], [(oC c z.1).1, (oC c z.1).2], rfl, rfl, .inl (.inl hz3), .inl (.inl eu), ?_⟩
          cases hlt : HT.lexLt [z.1.1, z.1.2] [(oC c z.1).1, (oC c z.1).2] with
          | true =>
            obtain ⟨w1, w2⟩ := wrL_some ha hs hlt
            rw [stepW_some w1, stepW_some w2]
            obtain ⟨kvs', dp, hL4⟩ := hL3.put (by omega) (gC c z.1) ((a + b) / 2) et
            walk_at "ev"
            refine ⟨d, _, rfl, dz, ?_⟩
            walk_at "ev"
            refine ⟨d, _, rfl, du, ?_⟩
            walk_at "ev"
            refine ⟨lo, _, rfl, dp, ?_⟩
            have hD4 := hD3.at_ (H' := upd G3 lo (.dT kvs')) (upd_ne hdlo) (Nat.le_refl _)
            have hH4 := hH3.at_ (H' := upd G3 lo (.dT kvs')) (upd_ne nhl) (Nat.le_refl _)
            have et4 : upd G3 lo (.dT kvs') t = some (.tup [.int (gC c z.1).1, .int (gC c z.1).2]) := (upd_ne tlo).trans et
            have dz4 := hD4.get (b := z.2) z.1 ((upd_ne fun y => by rw [y, el] at hz3; cases hz3).trans hz3)
            have du4 := hD4.get (b := u) (oC c z.1) ((upd_ne fun y => by rw [y, el] at eu; cases eu).trans eu)
            rw [ha] at dz4
            rw [hs] at du4
            obtain ⟨kvh, dp2, hH5⟩ := hH4.put (by omega) (gC c z.1) (a - b) et4
            have o4 : ∀ b' o, b' ≠ lo → b' ≠ hi → H1 b' = some o → upd G3 lo (.dT kvs') b' = some o := fun b' o n1 n2 e => (upd_ne n1).trans (o3 b' o n1 n2 e)
            generalize upd G3 lo (.dT kvs') = G4 at dz4 du4 dp2 hH5 hL4 o4 ⊢
            walk_at "ev"
            refine ⟨d, _, rfl, dz4, ?_⟩
            walk_at "ev"
            refine ⟨d, _, rfl, du4, ?_⟩
            walk_at "ev"
            refine ⟨hi, _, rfl, dp2, fun b o n1 n2 e => (upd_ne n2).trans (o4 b o n1 n2 e), hL4.at_ (upd_ne nhl.symm) (Nat.le_refl _), hH5, _, _, _, _, _, rfl⟩
          | false =>
            obtain ⟨w1, w2⟩ := wrL_not ha hs hlt
            rw [stepW_none w1, stepW_none w2]
            walk_at "ev"
            exact ⟨o3, hL3.at_ rfl (Nat.le_succ _), hH3.at_ rfl (Nat.le_succ _), _, _, _, _, _, rfl⟩
    · rintro σ G ⟨o1, hL, hH, v4, v5, v6, v7, v8, rfl⟩
      rw [List.length_map, List.take_length] at hL hH
      walk_at "ev"
      refine ⟨(by show 2 ≤ sizeLine; decide), fun q' nq => ?_⟩
      have s1 : Same H G := fun b o e => o1 b o (fun y => by rw [y, nlo] at e; cases e) (fun y => by rw [y, nh0] at e; cases e) (sP _ _ e)
      exact q q' lo hi (zs.map (·.1)) _ (s1.free nq) (s1.trans (same_upd nq)) upd_same dom ((hL.same (same_upd nq)).at_ rfl lz) ((hH.same (same_upd nq)).at_ rfl lz)
/-! ### both bands, cell by cell -/
def eC (c : Nat) (g : Cel) : Cel := if c = 88 then (2 * g.1, g.2) else (g.1, 2 * g.2)
def pC (c : Nat) (g : Cel) : Cel := if c = 88 then (2 * g.1 + 1, g.2) else (g.1, 2 * g.2 + 1)
theorem oC_e {c : Nat} (hc : Lt2 c) (g : Cel) : oC c (eC c g) = pC c g := by
  rcases hc with rfl | rfl
  · show ((2 * g.1 + 1 - 2 * (2 * g.1 - 2 * g.1 / 2 * 2), g.2) : Cel) = (2 * g.1 + 1, g.2)
    congr 1
    omega
  · show ((g.1, 2 * g.2 + 1 - 2 * (2 * g.2 - 2 * g.2 / 2 * 2)) : Cel) = (g.1, 2 * g.2 + 1)
    congr 1
    omega
theorem oC_p {c : Nat} (hc : Lt2 c) (g : Cel) : oC c (pC c g) = eC c g := by
  rcases hc with rfl | rfl
  · show ((2 * g.1 + 1 + 1 - 2 * (2 * g.1 + 1 - (2 * g.1 + 1) / 2 * 2), g.2) : Cel) = (2 * g.1, g.2)
    congr 1
    omega
  · show ((g.1, 2 * g.2 + 1 + 1 - 2 * (2 * g.2 + 1 - (2 * g.2 + 1) / 2 * 2)) : Cel) = (g.1, 2 * g.2)
    congr 1
    omega
theorem gC_e {c : Nat} (hc : Lt2 c) (g : Cel) : gC c (eC c g) = g := by
  rcases hc with rfl | rfl
  · refine Prod.ext ?_ rfl
    show 2 * g.1 / 2 = g.1
    omega
  · refine Prod.ext rfl ?_
    show 2 * g.2 / 2 = g.2
    omega
theorem gC_p {c : Nat} (hc : Lt2 c) (g : Cel) : gC c (pC c g) = g := by
  rcases hc with rfl | rfl
  · refine Prod.ext ?_ rfl
    show (2 * g.1 + 1) / 2 = g.1
    omega
  · refine Prod.ext rfl ?_
    show (2 * g.2 + 1) / 2 = g.2
    omega
theorem gC_inv {c : Nat} (hc : Lt2 c) {z g : Cel} (h : gC c z = g) : z = eC c g ∨ z = pC c g := by
  subst h
  rcases hc with rfl | rfl
  · by_cases h : z.1 = 2 * (z.1 / 2)
    · exact .inl (Prod.ext h rfl)
    · refine .inr (Prod.ext ?_ rfl)
      show z.1 = 2 * (z.1 / 2) + 1
      omega
  · by_cases h : z.2 = 2 * (z.2 / 2)
    · exact .inl (Prod.ext rfl h)
    · refine .inr (Prod.ext rfl ?_)
      show z.2 = 2 * (z.2 / 2) + 1
      omega
theorem lex_ep {c : Nat} (hc : Lt2 c) (g : Cel) : HT.lexLt [(eC c g).1, (eC c g).2] [(pC c g).1, (pC c g).2] = true ∧ HT.lexLt [(pC c g).1, (pC c g).2] [(eC c g).1, (eC c g).2] = false := by
  rcases hc with rfl | rfl
  · constructor
    · show HT.lexLt [2 * g.1, g.2] [2 * g.1 + 1, g.2] = true
      rw [HT.lexLt_cons, if_neg (by omega)]
      exact decide_eq_true (by omega)
    · show HT.lexLt [2 * g.1 + 1, g.2] [2 * g.1, g.2] = false
      rw [HT.lexLt_cons, if_neg (by omega)]
      exact decide_eq_false (by omega)
  · constructor
    · show HT.lexLt [g.1, 2 * g.2] [g.1, 2 * g.2 + 1] = true
      rw [HT.lexLt_cons, if_pos rfl, HT.lexLt_cons, if_neg (by omega)]
      exact decide_eq_true (by omega)
    · show HT.lexLt [g.1, 2 * g.2 + 1] [g.1, 2 * g.2] = false
      rw [HT.lexLt_cons, if_pos rfl, HT.lexLt_cons, if_neg (by omega)]
      exact decide_eq_false (by omega)
section
variable {c : Nat} {S : Cel → Option Int} {zs : List Cel} {g : Cel} {a b : Int}
theorem wr_out {z : Cel} {u : Int} : (wrL c S z = some (g, u) → gC c z = g) ∧ (wrH c S z = some (g, u) → gC c z = g) := by
  unfold wrL wrH
  constructor <;> intro h <;> split at h <;> first | (split at h <;> first | (injection h with h; exact congrArg Prod.fst h) | cases h) | (injection h with h; exact congrArg Prod.fst h) | cases h
theorem fold_e (hc : Lt2 c) (dom : ∀ z, z ∈ zs ↔ (S z).isSome = true) (h1 : S (eC c g) = some a) (h2 : S (pC c g) = none) : foldW (wrL c S) zs g = some a := by
  have we := wrL_none (c := c) h1 (by rw [oC_e hc]; exact h2)
  rw [gC_e hc] at we
  refine fold_val _ g a zs _ (fun z m u e => ?_) (.inr ⟨eC c g, (dom _).mpr (by rw [h1]; rfl), a, we.1⟩)
  rcases gC_inv hc (wr_out.1 e) with rfl | rfl
  · rw [we.1] at e
    injection e with e
    exact (congrArg Prod.snd e).symm
  · have := (dom _).mp m
    rw [h2] at this
    cases this
theorem fold_p (hc : Lt2 c) (dom : ∀ z, z ∈ zs ↔ (S z).isSome = true) (h1 : S (eC c g) = none) (h2 : S (pC c g) = some b) : foldW (wrL c S) zs g = some b := by
  have we := wrL_none (c := c) h2 (by rw [oC_p hc]; exact h1)
  rw [gC_p hc] at we
  refine fold_val _ g b zs _ (fun z m u e => ?_) (.inr ⟨pC c g, (dom _).mpr (by rw [h2]; rfl), b, we.1⟩)
  rcases gC_inv hc (wr_out.1 e) with rfl | rfl
  · have := (dom _).mp m
    rw [h1] at this
    cases this
  · rw [we.1] at e
    injection e with e
    exact (congrArg Prod.snd e).symm
theorem fold_ep (hc : Lt2 c) (dom : ∀ z, z ∈ zs ↔ (S z).isSome = true) (h1 : S (eC c g) = some a) (h2 : S (pC c g) = some b) : foldW (wrL c S) zs g = some ((a + b) / 2) ∧ foldW (wrH c S) zs g = some (a - b) := by
  have we := wrL_some (c := c) h1 (by rw [oC_e hc]; exact h2) (by rw [oC_e hc]; exact (lex_ep hc g).1)
  have wp := wrL_not (c := c) h2 (by rw [oC_p hc]; exact h1) (by rw [oC_p hc]; exact (lex_ep hc g).2)
  rw [gC_e hc] at we
  have me := (dom (eC c g)).mpr (by rw [h1]; rfl)
  constructor
  · refine fold_val _ g _ zs _ (fun z m u e => ?_) (.inr ⟨eC c g, me, _, we.1⟩)
    rcases gC_inv hc (wr_out.1 e) with rfl | rfl
    · rw [we.1] at e
      injection e with e
      exact (congrArg Prod.snd e).symm
    · rw [wp.1] at e
      cases e
  · refine fold_val _ g _ zs _ (fun z m u e => ?_) (.inr ⟨eC c g, me, _, we.2⟩)
    rcases gC_inv hc (wr_out.2 e) with rfl | rfl
    · rw [we.2] at e
      injection e with e
      exact (congrArg Prod.snd e).symm
    · rw [wp.2] at e
      cases e
end
/-- the low and the high number of a cell -/
def lowV (c : Nat) (x0 x1 y0 y1 : Int) (rows : List (List Int)) (g : Cel) : Int :=
  if inR x0 x1 y0 y1 (eC c g) then (if inR x0 x1 y0 y1 (pC c g) then (cellI x0 y0 rows (eC c g).1 (eC c g).2 + cellI x0 y0 rows (pC c g).1 (pC c g).2) / 2 else cellI x0 y0 rows (eC c g).1 (eC c g).2) else cellI x0 y0 rows (pC c g).1 (pC c g).2
def highV (c : Nat) (x0 y0 : Int) (rows : List (List Int)) (g : Cel) : Int := cellI x0 y0 rows (eC c g).1 (eC c g).2 - cellI x0 y0 rows (pC c g).1 (pC c g).2
theorem cellsS_in {x0 x1 y0 y1 : Int} {rows : List (List Int)} {z : Cel} (h : inR x0 x1 y0 y1 z) : cellsS x0 x1 y0 y1 rows z = some (cellI x0 y0 rows z.1 z.2) := if_pos h
theorem cellsS_out {x0 x1 y0 y1 : Int} {rows : List (List Int)} {z : Cel} (h : ¬ inR x0 x1 y0 y1 z) : cellsS x0 x1 y0 y1 rows z = none := if_neg h
theorem fold_low {c : Nat} (hc : Lt2 c) {x0 x1 y0 y1 : Int} {rows : List (List Int)} {zs : List Cel} (dom : ∀ z, z ∈ zs ↔ (cellsS x0 x1 y0 y1 rows z).isSome = true) {g : Cel} (h : inR x0 x1 y0 y1 (eC c g) ∨ inR x0 x1 y0 y1 (pC c g)) :
    foldW (wrL c (cellsS x0 x1 y0 y1 rows)) zs g = some (lowV c x0 x1 y0 y1 rows g) := by
  unfold lowV
  by_cases h1 : inR x0 x1 y0 y1 (eC c g)
  · rw [if_pos h1]
    by_cases h2 : inR x0 x1 y0 y1 (pC c g)
    · rw [if_pos h2]
      exact (fold_ep hc dom (cellsS_in h1) (cellsS_in h2)).1
    · rw [if_neg h2]
      exact fold_e hc dom (cellsS_in h1) (cellsS_out h2)
  · rw [if_neg h1]
    exact fold_p hc dom (cellsS_out h1) (cellsS_in (h.resolve_left h1))
theorem fold_high {c : Nat} (hc : Lt2 c) {x0 x1 y0 y1 : Int} {rows : List (List Int)} {zs : List Cel} (dom : ∀ z, z ∈ zs ↔ (cellsS x0 x1 y0 y1 rows z).isSome = true) {g : Cel} (h1 : inR x0 x1 y0 y1 (eC c g)) (h2 : inR x0 x1 y0 y1 (pC c g)) :
    foldW (wrH c (cellsS x0 x1 y0 y1 rows)) zs g = some (highV c x0 y0 rows g) := (fold_ep hc dom (cellsS_in h1) (cellsS_in h2)).2
/-! ### the same as the program's rows -/
theorem map_range_getD {α β : Type} (d : α) (f : α → β) (l : List α) : l.map f = (List.range l.length).map fun (j : Nat) => f (l.getD j d) := by
  apply List.ext_getElem?
  intro i
  rw [List.getElem?_map, List.getElem?_map]
  by_cases h : i < l.length
  · rw [List.getElem?_eq_getElem h, List.getElem?_range h]
    show some (f _) = some (f _)
    rw [List.getD_eq_getElem?_getD, List.getElem?_eq_getElem h]
    rfl
  · rw [List.getElem?_eq_none (by omega), List.getElem?_eq_none (by rw [List.length_range]; omega)]
    rfl
theorem pS_mid (a b : Int) : pS a b = (a + b) / 2 := by
  unfold pS
  omega
/-- a row's low number at i, by numbers of any kind -/
theorem lowAt_by {s e : Int} {ns : List Int} (hl : s + ns.length = e) (h1 : s < e) {i : Int} (h2 : s / 2 ≤ i) (h3 : i < (e + 1) / 2) {f : Int → Int} (hf : ∀ x, s ≤ x → x < e → f x = nz ns (x - s)) :
    lowAt s ns i = if s ≤ 2 * i then (if 2 * i + 1 < e then (f (2 * i) + f (2 * i + 1)) / 2 else f (2 * i)) else f (2 * i + 1) := by
  unfold lowAt alone
  rw [hl]
  by_cases a : s ≤ 2 * i
  · rw [if_pos a]
    by_cases b : 2 * i + 1 < e
    · rw [if_pos b, if_neg (by rw [decide_eq_true_eq]; omega), pS_mid, hf _ (by omega) (by omega), hf _ (by omega) (by omega)]
      rw [show 2 * i + 1 - s = 2 * i - s + 1 from by omega]
    · rw [if_neg b, if_pos (by rw [decide_eq_true_eq]; omega), hf _ (by omega) (by omega)]
      congr 1
      unfold mx
      split <;> omega
  · rw [if_neg a, if_pos (by rw [decide_eq_true_eq]; omega), hf _ (by omega) (by omega)]
    congr 1
    unfold mx
    split <;> omega
theorem cell_row {x0 y0 : Int} {rows : List (List Int)} {j : Nat} (x : Int) : cellI x0 y0 rows x (y0 + j) = nz (rows.getD j []) (x - x0) := by
  unfold cellI nz
  rw [show (y0 + (j : Int) - y0).toNat = j from by omega]
theorem cell_col {x0 y0 : Int} {rows : List (List Int)} {i : Nat} (y : Int) : cellI x0 y0 rows (x0 + i) y = nz (rows.map fun r => r.getD i 0) (y - y0) := by
  unfold cellI nz
  rw [show (x0 + (i : Int) - x0).toNat = i from by omega, List.getD_eq_getElem?_getD (l := rows), List.getD_eq_getElem?_getD (l := rows.map _), List.getElem?_map]
  cases rows[(y - y0).toNat]? with
  | none => rfl
  | some r => rfl
theorem getD_mem {rows : List (List Int)} {j : Nat} (h : j < rows.length) : rows.getD j [] ∈ rows := by
  rw [List.getD_eq_getElem?_getD, List.getElem?_eq_getElem h]
  exact List.getElem_mem h
theorem getD_range {f : Nat → Int} {n j : Nat} (h : j < n) : ((List.range n).map f).getD j 0 = f j := by
  rw [List.getD_eq_getElem?_getD, List.getElem?_map, List.getElem?_range h]
  rfl
theorem low_X {x0 x1 y0 y1 : Int} {rows : List (List Int)} (h : GR x0 x1 y0 y1 rows) : lowG 88 x0 x1 y0 y1 rows = rowsF (x0 / 2) ((x1 + 1) / 2) y0 y1 (lowV 88 x0 x1 y0 y1 rows) := by
  obtain ⟨gx, gy, gxm, gym, gxb, gyb, g1, g2⟩ := h
  have e1 : lowG 88 x0 x1 y0 y1 rows = rows.map (halvL x0) := rfl
  have e2 : rowsF (x0 / 2) ((x1 + 1) / 2) y0 y1 (lowV 88 x0 x1 y0 y1 rows) = (List.range (y1 - y0).toNat).map fun (j : Nat) => (List.range ((x1 + 1) / 2 - x0 / 2).toNat).map fun (i : Nat) => lowV 88 x0 x1 y0 y1 rows (x0 / 2 + i, y0 + j) := if_pos ⟨by omega, by omega⟩
  rw [e1, e2, map_range_getD [] (halvL x0) rows, g1]
  refine List.map_congr_left fun j mj => ?_
  have hj := List.mem_range.mp mj
  have hr := g2 _ (getD_mem (rows := rows) (j := j) (by omega))
  have hl : x0 + ((rows.getD j []).length : Int) = x1 := by omega
  unfold halvL lowsTo
  rw [hl]
  refine List.map_congr_left fun i mi => ?_
  have hi := List.mem_range.mp mi
  rw [lowAt_by (f := fun x => cellI x0 y0 rows x (y0 + j)) hl gx (by omega) (by omega) fun x _ _ => cell_row x]
  unfold lowV
  rw [show eC 88 (x0 / 2 + (i : Int), y0 + (j : Int)) = (2 * (x0 / 2 + (i : Int)), y0 + (j : Int)) from rfl, show pC 88 (x0 / 2 + (i : Int), y0 + (j : Int)) = (2 * (x0 / 2 + (i : Int)) + 1, y0 + (j : Int)) from rfl]
  by_cases a : x0 ≤ 2 * (x0 / 2 + (i : Int))
  · rw [if_pos a, if_pos (show inR x0 x1 y0 y1 (2 * (x0 / 2 + (i : Int)), y0 + j) by unfold inR; omega)]
    by_cases b : 2 * (x0 / 2 + (i : Int)) + 1 < x1
    · rw [if_pos b, if_pos (show inR x0 x1 y0 y1 (2 * (x0 / 2 + (i : Int)) + 1, y0 + j) by unfold inR; omega)]
    · rw [if_neg b, if_neg (show ¬ inR x0 x1 y0 y1 (2 * (x0 / 2 + (i : Int)) + 1, y0 + j) by unfold inR; omega)]
  · rw [if_neg a, if_neg (show ¬ inR x0 x1 y0 y1 (2 * (x0 / 2 + (i : Int)), y0 + j) by unfold inR; omega)]
theorem low_Y {x0 x1 y0 y1 : Int} {rows : List (List Int)} (h : GR x0 x1 y0 y1 rows) : lowG 89 x0 x1 y0 y1 rows = rowsF x0 x1 (y0 / 2) ((y1 + 1) / 2) (lowV 89 x0 x1 y0 y1 rows) := by
  obtain ⟨gx, gy, gxm, gym, gxb, gyb, g1, g2⟩ := h
  have e1 : lowG 89 x0 x1 y0 y1 rows = trans ((y1 + 1) / 2 - y0 / 2).toNat ((trans (x1 - x0).toNat rows).map (halvL y0)) := rfl
  have e2 : rowsF x0 x1 (y0 / 2) ((y1 + 1) / 2) (lowV 89 x0 x1 y0 y1 rows) = (List.range ((y1 + 1) / 2 - y0 / 2).toNat).map fun (j : Nat) => (List.range (x1 - x0).toNat).map fun (i : Nat) => lowV 89 x0 x1 y0 y1 rows (x0 + i, y0 / 2 + j) := if_pos ⟨by omega, by omega⟩
  rw [e1, e2]
  unfold trans
  refine List.map_congr_left fun j mj => ?_
  have hj := List.mem_range.mp mj
  rw [List.map_map, List.map_map]
  refine List.map_congr_left fun i mi => ?_
  have hi := List.mem_range.mp mi
  have hl : y0 + ((rows.map fun r => r.getD i 0).length : Int) = y1 := by
    rw [List.length_map]
    omega
  show (halvL y0 (rows.map fun r => r.getD i 0)).getD j 0 = _
  unfold halvL lowsTo
  rw [hl, getD_range hj, lowAt_by (f := fun y => cellI x0 y0 rows (x0 + i) y) hl gy (by omega) (by omega) fun y _ _ => cell_col y]
  unfold lowV
  rw [show eC 89 (x0 + (i : Int), y0 / 2 + (j : Int)) = (x0 + (i : Int), 2 * (y0 / 2 + (j : Int))) from rfl, show pC 89 (x0 + (i : Int), y0 / 2 + (j : Int)) = (x0 + (i : Int), 2 * (y0 / 2 + (j : Int)) + 1) from rfl]
  by_cases a : y0 ≤ 2 * (y0 / 2 + (j : Int))
  · rw [if_pos a, if_pos (show inR x0 x1 y0 y1 (x0 + i, 2 * (y0 / 2 + (j : Int))) by unfold inR; omega)]
    by_cases b : 2 * (y0 / 2 + (j : Int)) + 1 < y1
    · rw [if_pos b, if_pos (show inR x0 x1 y0 y1 (x0 + i, 2 * (y0 / 2 + (j : Int)) + 1) by unfold inR; omega)]
    · rw [if_neg b, if_neg (show ¬ inR x0 x1 y0 y1 (x0 + i, 2 * (y0 / 2 + (j : Int)) + 1) by unfold inR; omega)]
  · rw [if_neg a, if_neg (show ¬ inR x0 x1 y0 y1 (x0 + i, 2 * (y0 / 2 + (j : Int))) by unfold inR; omega)]
theorem high_X {x0 x1 y0 y1 : Int} {rows : List (List Int)} (h : GR x0 x1 y0 y1 rows) : highG 88 x0 x1 y0 y1 rows = rowsF ((x0 + 1) / 2) (x1 / 2) y0 y1 (highV 88 x0 y0 rows) := by
  obtain ⟨gx, gy, gxm, gym, gxb, gyb, g1, g2⟩ := h
  have e1 : highG 88 x0 x1 y0 y1 rows = if (x0 + 1) / 2 < x1 / 2 then rows.map (halvH x0) else [] := rfl
  rw [e1]
  by_cases hc : (x0 + 1) / 2 < x1 / 2
  · have e2 : rowsF ((x0 + 1) / 2) (x1 / 2) y0 y1 (highV 88 x0 y0 rows) = (List.range (y1 - y0).toNat).map fun (j : Nat) => (List.range (x1 / 2 - (x0 + 1) / 2).toNat).map fun (i : Nat) => highV 88 x0 y0 rows ((x0 + 1) / 2 + i, y0 + j) := if_pos ⟨hc, by omega⟩
    rw [if_pos hc, e2, map_range_getD [] (halvH x0) rows, g1]
    refine List.map_congr_left fun j mj => ?_
    have hj := List.mem_range.mp mj
    have hr := g2 _ (getD_mem (rows := rows) (j := j) (by omega))
    have hl : x0 + ((rows.getD j []).length : Int) = x1 := by omega
    unfold halvH highsTo
    rw [hl]
    refine List.map_congr_left fun i mi => ?_
    unfold highAt highV
    show _ = cellI x0 y0 rows (2 * ((x0 + 1) / 2 + (i : Int))) (y0 + j) - cellI x0 y0 rows (2 * ((x0 + 1) / 2 + (i : Int)) + 1) (y0 + j)
    rw [cell_row, cell_row, show 2 * ((x0 + 1) / 2 + (i : Int)) + 1 - x0 = 2 * ((x0 + 1) / 2 + (i : Int)) - x0 + 1 from by omega]
  · rw [if_neg hc]
    exact (if_neg fun z => hc z.1).symm
theorem high_Y {x0 x1 y0 y1 : Int} {rows : List (List Int)} (h : GR x0 x1 y0 y1 rows) : highG 89 x0 x1 y0 y1 rows = rowsF x0 x1 ((y0 + 1) / 2) (y1 / 2) (highV 89 x0 y0 rows) := by
  obtain ⟨gx, gy, gxm, gym, gxb, gyb, g1, g2⟩ := h
  have e1 : highG 89 x0 x1 y0 y1 rows = if (y0 + 1) / 2 < y1 / 2 then trans (y1 / 2 - (y0 + 1) / 2).toNat ((trans (x1 - x0).toNat rows).map (halvH y0)) else [] := rfl
  rw [e1]
  by_cases hc : (y0 + 1) / 2 < y1 / 2
  · have e2 : rowsF x0 x1 ((y0 + 1) / 2) (y1 / 2) (highV 89 x0 y0 rows) = (List.range (y1 / 2 - (y0 + 1) / 2).toNat).map fun (j : Nat) => (List.range (x1 - x0).toNat).map fun (i : Nat) => highV 89 x0 y0 rows (x0 + i, (y0 + 1) / 2 + j) := if_pos ⟨by omega, hc⟩
    rw [if_pos hc, e2]
    unfold trans
    refine List.map_congr_left fun j mj => ?_
    have hj := List.mem_range.mp mj
    rw [List.map_map, List.map_map]
    refine List.map_congr_left fun i mi => ?_
    have hl : y0 + ((rows.map fun r => r.getD i 0).length : Int) = y1 := by
      rw [List.length_map]
      omega
    show (halvH y0 (rows.map fun r => r.getD i 0)).getD j 0 = _
    unfold halvH highsTo
    rw [hl, getD_range hj]
    unfold highAt highV
    show _ = cellI x0 y0 rows (x0 + i) (2 * ((y0 + 1) / 2 + (j : Int))) - cellI x0 y0 rows (x0 + i) (2 * ((y0 + 1) / 2 + (j : Int)) + 1)
    rw [cell_col, cell_col, show 2 * ((y0 + 1) / 2 + (j : Int)) + 1 - y0 = 2 * ((y0 + 1) / 2 + (j : Int)) - y0 + 1 from by omega]
  · rw [if_neg hc]
    exact (if_neg fun z => hc z.2).symm
/-! ### what a call is refused by -/
theorem boot_ValueError : bootBuiltins "ValueError" = some (.type "ValueError") := by decide +kernel
/-- isinstance of the exception that a suite holds, its class told in the reading -/
theorem call_isE2 {X : Cx} {a : Addr} {oe : Obj} {cls : Value} {d : Option Addr} {pn : List (Addr × Obj)} (hz : Zc cls d oe) (hf : ∃ vs, oe.data = .fields vs) :
    CallR (X.suite a ((a, oe) :: pn)) (.builtin "isinstance") (fun xs H Q => ∃ D : Addr, ExcC X.K D ∧ cls = .ref D ∧ d = none ∧ rIsE X.K D a xs H Q) := by
  intro pins s σ H xs us Q I r h
  obtain ⟨D, C, e1, e2, h⟩ := h
  subst e1 e2
  exact call_isE C hz hf pins s σ H xs us Q I r h
/-- the class D is the i-th of two -/
structure GO (K : PySem.W.Frag) (BG O BF N D : Addr) (i : Nat) : Prop where
  lt : i < 2
  ex : ExcC K D
  xb : PySem.W.exmOne K (.ref D) (.ref BF) = some false
  em : PySem.W.exmOne K (.ref D) (.ref N) = some true
  g : PySem.W.kitOne K (.ref D) (.ref BG) = some (i == 0)
  o : PySem.W.kitOne K (.ref D) (.ref O) = some (i == 1)
  v : PySem.W.kitOne K (.ref D) (.type "ValueError") = some true
def goS (i : Nat) : Str := if i = 0 then "grid" else "outside"
def refTT (K : PySem.W.Frag) (BG O BF N : Addr) : (XK → Hp → VK → Prop) → Hp → VK → Prop := fun tl H Q =>
  tl (fun cls d H' => (d = none ∧ ∃ (D : Addr) (i : Nat), GO K BG O BF N D i ∧ cls = .ref D ∧ ∀ G, Same H' G → Q (.str (goS i)) G) ∨ (cls = .ref BF ∧ ∃ (dd : Addr) (n : Str), d = some dd ∧ H' dd = some (.xd [("name", .str n)]) ∧ n.length ≤ 100 ∧ ∀ G, Same H' G → Q (.str ("field " ++ n)) G)) H (fun _ H1 => Q (.str "") H1)
structure RefD (P : Program) (w : World) (K : PySem.W.Frag) (mg : Str → Option Value) (base : Heap) (g BG O BF N : Addr) : Prop where
  gG : mg "BadGrid" = some (.ref BG)
  gO : mg "Outside" = some (.ref O)
  gN : mg "NarrowError" = some (.ref N)
  zV : mg "ValueError" = none
  xF : XDef P w K mg base "BadField" "name" BF
  k1 : PySem.W.kitOne K (.ref BF) (.ref BG) = some false
  k2 : PySem.W.kitOne K (.ref BF) (.ref O) = some false
  hm : mg "_law_refused" = some (.ref g)
  hk : PySem.W.keepIn K (.ref g) = true
  df : ∃ (oc kV doc pm cdv ct : Value) (an od : Option Addr) (osl : Array (Option Value)), K.lookup g = some ⟨oc, od, .func (PySem.W.fnOf "_law_refused" "_law_refused" (defArgs s_law_refused) (defBody s_law_refused) (defScope s_law_refused) .none kV doc pm an cdv ct), osl⟩ ∧
    PySem.W.codeIn K cdv "_law_refused" = true ∧ L2.Binds K (PySem.W.fnOf "_law_refused" "_law_refused" (defArgs s_law_refused) (defBody s_law_refused) (defScope s_law_refused) .none kV doc pm an cdv ct) ["_law_call"] []
theorem rep0' : (repS " " 0 : Str) = "" := by decide +kernel
theorem app_nil' (x : Str) : x ++ repS " " 0 = x := by
  show (⟨x.cps ++ _⟩ : Str) = x
  have : (repS " " 0).cps = #[] := by decide +kernel
  rw [this, Array.append_empty]
theorem app_len (x y : Str) : (x ++ y).length = x.length + y.length := by
  show (⟨x.cps ++ y.cps⟩ : Str).cps.size = x.cps.size + y.cps.size
  exact Array.size_append
theorem three' {σ : L2.St} (h : σ.length = 3) : ∃ a b c, σ = [a, b, c] := by
  match σ, h with
  | [a, b, c], _ => exact ⟨a, b, c, rfl⟩
theorem ref_gives {X : Cx} {g BG O BF N : Addr} {cdg : Value} {q : Str} (T : Txt X.mg) (e : RefD X.prog X.w X.K X.mg X.base g BG O BF N) (hu : X.A.units + 64 < cLine) : LamX.GivesTo X ["_law_call", "e", "_law_kinds"] "_law_refused" (defScope s_law_refused) g cdg (defBody s_law_refused) "_law_call" q (refTT X.K BG O BF N) := by
  obtain ⟨P, w, K, mg, base, A0, N0, s00, H00, env0, out0, stk0, ex0, fn0, calm0, pn0, xe0⟩ := X
  intro f c' s H Q tl act hc h
  dsimp only at *
  have x1 := e.xF
  refine ⟨_, pss_cons (ps_tryN (X := (cxOf C8.CX0 P w K mg base ["_law_call", "e", "_law_kinds"] "_law_refused" (defScope s_law_refused) g cdg A0 stk0 s H C8.E0).nox) rfl rfl
      (fun W pn xe tk _ => pss_ex (n := 3) fun E hW => pss_one (ps_expr (act _ pn xe E _ _ (takes_len tk) hW)))
      (hnd_nam (i := 1) rfl sc_law_refused.nd rfl rfl ⟨rfl, by decide, .inl x1.gC⟩ (fun a oe cls d pn hz hf => pss_one (ps_ret (pe_op op_add_str (pe_op op_add_str pe_str (pe_xf x1.xf x1.no hz hf (pv 1)))
          (pe_op op_mulS pe_str (pe_callTy call_int1 (by rfl) T.z_int PyProof.Rows.boot_int (pa_cons (pe_or (pe_callB (call_isEd x1.isx hz hf) (by rfl) T.z_isinstance PyProof.Rows.boot_isinstance (pa_cons (pv 1) (pa_cons (pe_glob (v := .ref BG) (by rfl) e.gG rfl) pa_nil)))
            (pe_one (pe_callB (call_isEd x1.isx hz hf) (by rfl) T.z_isinstance PyProof.Rows.boot_isinstance (pa_cons (pv 1) (pa_cons (pe_glob (v := .ref O) (by rfl) e.gO rfl) pa_nil))))) pa_nil))))))
        (hnd_nam (i := 1) rfl sc_law_refused.nd rfl rfl ⟨rfl, by decide, .inl e.gN⟩ (fun a oe cls d pn hz hf => (pss_cons (ps_set (i := 2) sc_law_refused.nd rfl (Or.inl rfl) (pe_lst (pa_cons (pe_callB (call_isE2 hz hf) (by rfl) T.z_isinstance PyProof.Rows.boot_isinstance (pa_cons (pv 1) (pa_cons (pe_glob (v := .ref BG) (by rfl) e.gG rfl) pa_nil))) (pa_cons (pe_callB (call_isE2 hz hf) (by rfl) T.z_isinstance PyProof.Rows.boot_isinstance (pa_cons (pv 1) (pa_cons (pe_glob (v := .ref O) (by rfl) e.gO rfl) pa_nil))) (pa_cons (pe_callB (call_isE2 hz hf) (by rfl) T.z_isinstance PyProof.Rows.boot_isinstance (pa_cons (pv 1) (pa_cons (pe_bltn (v := .ty "ValueError") (by rfl) e.zV boot_ValueError rfl) pa_nil))) pa_nil)))))
    (pss_one (ps_ret (pe_bget (show A0.units + 3 + 1 < cLine by omega) (pps_cons (pe_tup (pa_cons pe_bl (pa_cons pe_bl (pa_cons pe_bl pa_nil)))) pe_str (pps_cons (pe_tup (pa_cons pe_bl (pa_cons pe_bl (pa_cons pe_bl pa_nil)))) pe_str pps_nil)) (pe_tup (pa_cons (pe_ix (ix_list : IxR _ (rIxL K)) (pv 2) pe_int (fun _ _ => rfl)) (pa_cons (pe_ix (ix_list : IxR _ (rIxL K)) (pv 2) pe_int (fun _ _ => rfl)) (pa_cons (pe_ix (ix_list : IxR _ (rIxL K)) (pv 2) pe_int (fun _ _ => rfl)) pa_nil)))) pe_str ⟨rfl, rfl, rfl, rfl⟩))))) (hnd_nil rfl rfl takes0))))
    (pss_one (ps_ret pe_str)), ?_⟩
  refine ⟨fun cls d H' => (d = none ∧ ∃ (D : Addr) (i : Nat), GO K BG O BF N D i ∧ cls = .ref D ∧ ∀ G, Same H' G → Q (.str (goS i)) G) ∨ (cls = .ref BF ∧ ∃ (dd : Addr) (n : Str), d = some dd ∧ H' dd = some (.xd [("name", .str n)]) ∧ n.length ≤ 100 ∧ ∀ G, Same H' G → Q (.str ("field " ++ n)) G), ?_, ?_⟩
  · rintro cls d σ' H' hh hlen
    obtain ⟨v0, v1, v2, rfl⟩ := three' hlen
    rcases hh with ⟨rfl, D, i, I3, rfl, k⟩ | ⟨rfl, dd, n, rfl, ed, ln, k⟩
    · refine ⟨false, I3.xb, (fun z => nomatch z), fun _ => ⟨true, I3.em, fun _ a0 _ => ?_, fun z => nomatch z⟩⟩
      walk_at "ev"
      refine ⟨D, I3.ex, rfl, rfl, _, .ref BG, _, rfl, fun _ z => z, I3.g, ?_⟩
      walk_at "ev"
      refine ⟨D, I3.ex, rfl, rfl, _, .ref O, _, rfl, fun _ z => z, I3.o, ?_⟩
      walk_at "ev"
      refine ⟨D, I3.ex, rfl, rfl, _, .type "ValueError", _, rfl, fun _ z => z, I3.v, ?_⟩
      refine ⟨(by show 3 ≤ sizeLine; decide), fun p np => ?_⟩
      show tBGet _ _ _ [v0, some (.ref a0), some (.ref p)] _ _
      unfold tBGet
      show tTup (tCons (tC (V.bl true)) (tCons (tC (V.bl false)) (tCons (tC (V.bl true)) tNil))) _ _ _
      refine ⟨(by show 3 ≤ sizeLine; decide), fun t1 n1 => ?_⟩
      show tPairs _ [v0, some (.ref a0), some (.ref p)] _ _
      unfold tPairs
      show tTup (tCons (tC (V.bl false)) (tCons (tC (V.bl true)) (tCons (tC (V.bl true)) tNil))) [v0, some (.ref a0), some (.ref p)] _ _
      refine ⟨(by show 3 ≤ sizeLine; decide), fun t2 n2 => ?_⟩
      refine ⟨[([true, false, true], t1, .str "grid"), ([false, true, true], t2, .str "outside")], rfl, (by show 2 ≤ 15; decide), (show [[true, false, true], [false, true, true]].Nodup by decide), ?_, ?_⟩
      · intro e' me
        simp only [List.mem_cons, List.not_mem_nil, or_false] at me
        rcases me with rfl | rfl
        · exact new_at upd_same n2
        · exact upd_same
      · have ep := new_at (o' := .tup [.bl false, .bl true, .bl true]) (new_at (o' := .tup [.bl true, .bl false, .bl true]) (upd_same (H := H') (a := p) (o := .lst [.bl (i == 0), .bl (i == 1), .bl true])) n1) n2
        have sK : Same H' (upd (upd (upd H' p (.lst [.bl (i == 0), .bl (i == 1), .bl true])) t1 (.tup [.bl true, .bl false, .bl true])) t2 (.tup [.bl false, .bl true, .bl true])) := ((same_upd np).trans (same_upd n1)).trans (same_upd n2)
        have e1 := new_at (o' := .tup [.bl false, .bl true, .bl true]) (upd_same (H := upd H' p (.lst [.bl (i == 0), .bl (i == 1), .bl true])) (a := t1) (o := .tup [.bl true, .bl false, .bl true])) n2
        have e2 := upd_same (H := upd (upd H' p (.lst [.bl (i == 0), .bl (i == 1), .bl true])) t1 (.tup [.bl true, .bl false, .bl true])) (a := t2) (o := .tup [.bl false, .bl true, .bl true])
        generalize upd (upd (upd H' p (.lst [.bl (i == 0), .bl (i == 1), .bl true])) t1 (.tup [.bl true, .bl false, .bl true])) t2 (.tup [.bl false, .bl true, .bl true]) = G1 at ep sK e1 e2 ⊢
        walk_at "ev"
        refine ⟨(by show 3 ≤ sizeLine; decide), fun b nb => ?_⟩
        refine ⟨b, [i == 0, i == 1, true], rfl, upd_same, fun e' me => ?_, ?_⟩
        · simp only [List.mem_cons, List.not_mem_nil, or_false] at me
          rcases me with rfl | rfl
          · exact new_at e1 nb
          · exact new_at e2 nb
        · have kk := k _ (sK.trans (same_upd (o := .tup [.bl (i == 0), .bl (i == 1), .bl true]) nb))
          have lt := I3.lt
          match i, lt, kk with
          | 0, _, kk => exact kk
          | 1, _, kk => exact kk
    · refine ⟨true, x1.em, fun _ a0 _ => ?_, fun z => nomatch z⟩
      walk_at "ev"
      refine ⟨dd, _, _, rfl, ed, rfl, ?_⟩
      refine ⟨_, _, rfl, rfl, Nat.le_of_lt (small1000 (by show 6 + n.length ≤ 1000; omega)), ?_⟩
      walk_at "ev"
      refine ⟨⟨dd, _, rfl, ed⟩, _, .ref BG, false, rfl, fun _ z => z, e.k1, ?_⟩
      walk_at "ev"
      refine ⟨⟨dd, _, rfl, ed⟩, _, .ref O, false, rfl, fun _ z => z, e.k2, ?_⟩
      walk_at "ev"
      refine ⟨by decide +kernel, by decide, by decide, ?_⟩
      refine ⟨_, _, rfl, rfl, Nat.le_of_lt (small1000 (by rw [show (repS " " (if false = true then 1 else 0)).length = 0 from by decide +kernel, app_len, show ("field " : Str).length = 6 from by decide +kernel]; omega)), ?_⟩
      rw [show repS " " (if false = true then 1 else 0) = repS " " 0 from rfl, app_nil']
      exact k _ fun _ _ e => e
  · walk_at "ev"
    exact ⟨hc, h⟩
/-! ### bands -/
structure Gd where
  x0 : Int
  x1 : Int
  y0 : Int
  y1 : Int
  rows : List (List Int)
def Gd.rc (g : Gd) : List Int := [g.x0, g.x1, g.y0, g.y1]
def lowD (c : Nat) (g : Gd) : Gd := if c = 88 then ⟨g.x0 / 2, (g.x1 + 1) / 2, g.y0, g.y1, lowG c g.x0 g.x1 g.y0 g.y1 g.rows⟩ else ⟨g.x0, g.x1, g.y0 / 2, (g.y1 + 1) / 2, lowG c g.x0 g.x1 g.y0 g.y1 g.rows⟩
def highD (c : Nat) (g : Gd) : Gd := if c = 88 then ⟨(g.x0 + 1) / 2, g.x1 / 2, g.y0, g.y1, highG c g.x0 g.x1 g.y0 g.y1 g.rows⟩ else ⟨g.x0, g.x1, (g.y0 + 1) / 2, g.y1 / 2, highG c g.x0 g.x1 g.y0 g.y1 g.rows⟩
def lowsD (ls : List Nat) (g : Gd) : Gd := ls.foldl (fun g c => lowD c g) g
def highsD : List Nat → Gd → List Gd
  | [], _ => []
  | c :: r, g => highD c g :: highsD r (lowD c g)
theorem lowsD_app (a : List Nat) (c : Nat) (g : Gd) : lowsD (a ++ [c]) g = lowD c (lowsD a g) := by
  unfold lowsD
  rw [List.foldl_append]
  rfl
theorem highsD_app : ∀ (a : List Nat) (c : Nat) (g : Gd), highsD (a ++ [c]) g = highsD a g ++ [highD c (lowsD a g)]
  | [], _, _ => rfl
  | b :: a, c, g => congrArg (highD b g :: ·) (highsD_app a c (lowD b g))
theorem highsD_len : ∀ (a : List Nat) (g : Gd), (highsD a g).length = a.length
  | [], _ => rfl
  | b :: a, g => congrArg Nat.succ (highsD_len a (lowD b g))
def GRd (g : Gd) : Prop := GR g.x0 g.x1 g.y0 g.y1 g.rows
theorem lowD_rc (c : Nat) (g : Gd) : (lowD c g).rc = lowR c g.x0 g.x1 g.y0 g.y1 := by
  unfold lowD lowR
  split <;> rfl
theorem highD_rc (c : Nat) (g : Gd) : (highD c g).rc = highR c g.x0 g.x1 g.y0 g.y1 := by
  unfold highD highR
  split <;> rfl
theorem lowD_rows (c : Nat) (g : Gd) : (lowD c g).rows = lowG c g.x0 g.x1 g.y0 g.y1 g.rows := by
  unfold lowD
  split <;> rfl
theorem highD_rows (c : Nat) (g : Gd) : (highD c g).rows = highG c g.x0 g.x1 g.y0 g.y1 g.rows := by
  unfold highD
  split <;> rfl
theorem GRd.low {c : Nat} {g : Gd} (h : GRd g) : GRd (lowD c g) := by
  obtain ⟨gx, gy, gxm, gym, gxb, gyb, g1, g2⟩ := h
  by_cases hc : c = 88
  · have e : lowD c g = ⟨g.x0 / 2, (g.x1 + 1) / 2, g.y0, g.y1, g.rows.map (halvL g.x0)⟩ := by
      unfold lowD
      rw [if_pos hc]
      unfold lowG lowB
      rw [along_X hc, along_X hc, if_pos hc]
    rw [e]
    refine ⟨?_, gy, ?_, gym, ?_, gyb, ?_, ?_⟩
    · show g.x0 / 2 < (g.x1 + 1) / 2
      omega
    · show (g.x1 + 1) / 2 ≤ g.x0 / 2 + 900
      omega
    · show -3000000000 ≤ g.x0 / 2 ∧ g.x0 / 2 ≤ 3000000000
      omega
    · rw [List.length_map]
      exact g1
    · intro r m
      obtain ⟨r0, m0, rfl⟩ := List.mem_map.mp m
      rw [halvL_len, g2 r0 m0]
      show _ = ((g.x1 + 1) / 2 - g.x0 / 2).toNat
      congr 1
      omega
  · have e : lowD c g = ⟨g.x0, g.x1, g.y0 / 2, (g.y1 + 1) / 2, trans ((g.y1 + 1) / 2 - g.y0 / 2).toNat ((trans (g.x1 - g.x0).toNat g.rows).map (halvL g.y0))⟩ := by
      unfold lowD
      rw [if_neg hc]
      unfold lowG lowB
      rw [along_Y hc, along_Y hc, if_neg hc]
    rw [e]
    refine ⟨gx, ?_, gxm, ?_, gxb, ?_, ?_, ?_⟩
    · show g.y0 / 2 < (g.y1 + 1) / 2
      omega
    · show (g.y1 + 1) / 2 ≤ g.y0 / 2 + 900
      omega
    · show -3000000000 ≤ g.y0 / 2 ∧ g.y0 / 2 ≤ 3000000000
      omega
    · exact trans_len _ _
    · intro r m
      rw [trans_row m, List.length_map, trans_len]
theorem GRd.lows {g : Gd} (h : GRd g) (ls : List Nat) : GRd (lowsD ls g) := by
  induction ls generalizing g with
  | nil => exact h
  | cons c r ih => exact ih h.low
def AllG (N : Addr → Prop) (C : Addr) (H : Hp) (as : List Addr) (gs : List Gd) : Prop := as.length = gs.length ∧ ∀ (i : Nat) (a : Addr) (g : Gd), as[i]? = some a → gs[i]? = some g → GridN N C H a g.rc g.rows
theorem AllG.nil {N : Addr → Prop} {C : Addr} {H : Hp} : AllG N C H [] [] := ⟨rfl, fun i b r e => nomatch e⟩
theorem AllG.app {N : Addr → Prop} {C : Addr} {H : Hp} {as : List Addr} {gs : List Gd} {b : Addr} {g : Gd} (h : AllG N C H as gs) (n : GridN N C H b g.rc g.rows) : AllG N C H (as ++ [b]) (gs ++ [g]) := by
  refine ⟨by rw [List.length_append, List.length_append, h.1]; rfl, fun i c s e1 e2 => ?_⟩
  by_cases hi : i < as.length
  · rw [List.getElem?_append_left hi] at e1
    rw [List.getElem?_append_left (by rw [← h.1]; exact hi)] at e2
    exact h.2 i c s e1 e2
  · have hi2 : as.length ≤ i := Nat.le_of_not_lt hi
    rw [List.getElem?_append_right hi2] at e1
    rw [List.getElem?_append_right (by rw [← h.1]; exact hi2), ← h.1] at e2
    cases hk : i - as.length with
    | zero =>
      rw [hk] at e1 e2
      cases e1
      cases e2
      exact n
    | succ k =>
      rw [hk] at e1
      cases e1
theorem AllG.up {N M : Addr → Prop} {C : Addr} {H H' : Hp} {as : List Addr} {gs : List Gd} (h : AllG N C H as gs) (k : ∀ a rc rows, GridN N C H a rc rows → GridN M C H' a rc rows) : AllG M C H' as gs :=
  ⟨h.1, fun i a g e1 e2 => k _ _ _ (h.2 i a g e1 e2)⟩
/-- a list that is written holds no grid's parts -/
theorem GridN.past {N M : Addr → Prop} {C : Addr} {H : Hp} {x D : Addr} {rc : List Int} {rows : List (List Int)} {ws : List V} {o : HO} (h : GridN N C H x rc rows) (e : H D = some (.lst ws)) (k : ∀ b, N b → b ≠ D ∧ M b) : GridN M C (upd H D o) x rc rows := by
  obtain ⟨dx, t, p, e1, e2, e3⟩ := h
  refine ⟨dx, t, p, ?_, ?_, e3.up fun b o' n e' => ⟨(k b n).2, (upd_ne (k b n).1).trans e'⟩⟩
  · rw [upd_ne fun z => by rw [z, e] at e1; cases e1]
    exact e1
  · rw [upd_ne fun z => by rw [z, e] at e2; cases e2]
    exact e2
def spChkW : Sp := fun vs H Q _ => ∃ (ls : List Nat), vs = [.str (SX.S ls)] ∧ LetW ls ∧ ls.length ≤ 10 ∧ Q .non H
theorem cps_get {ls : List Nat} {i c : Nat} (h : (SX.S ls).cps[i]? = some c) : ls[i]? = some c := by
  have e : (SX.S ls).cps = ls.toArray := rfl
  rw [e, List.getElem?_toArray] at h
  exact h
theorem ok_chkw {f : Addr} {fd : FuncData} {k : Nat} {t : Tok} (F : Fun K "_check_word" "_check_word" s_check_word f fd) (T : Txt mg) (hML : mg "MOST_LETTERS" = some (.int 10 t)) (c_check_letter : C8.Cal P w K mg base 1 "_check_letter" spLetter []) : FnOk P w K mg base CX0 (k + 2) f fd ["word"] spChkW := by
  refine F.ok sc_check_word (fun vs H Q E h => ?_) (fun cdv A outer s H vs Q E hr h => ?_)
  · obtain ⟨ls, rfl, _⟩ := h
    rfl
  · obtain ⟨ls, rfl, hL, hl, q⟩ := h
    have hs : (SX.S ls).length ≤ sizeLine := by
      rw [SX.S_len]
      exact Nat.le_of_lt (small1000 (by omega))
    have hsl := SX.S_len ls
    refine ⟨_, (pss_cons (ps_if (pt_cmpR op_gt (pe_callB call_len_str (by rfl) T.z_len PySem.boot_len (pa_cons (pv 0) pa_nil)) (pe_glob (v := .int 10) (by rfl) hML ⟨_, rfl⟩) (nomark _)) (pss_one ps_never) pss_nil)
    (pss_one (ps_for PassesOwn.never rfl (pi_str (pv 0)) (pg_name (i := 1) sc_check_word.nd rfl (Or.inl rfl))
      (pss_one (ps_expr (C8.pe_c c_check_letter hr (by omega) (by rfl) (pa_cons (pv 1) pa_nil))))))), ?_⟩
    walk_at "ev"
    refine ⟨hs, ?_⟩
    walk_at "ev"
    refine for_it (walk_str (z := SX.S ls)) (fun i σ H3 => H3 = H ∧ ∃ v, σ = [some (.str (SX.S ls)), v]) ⟨rfl, _, rfl⟩ (fun _ _ _ _ _ => trivial) ?_ ?_
    · rintro i x σ H3 H4 hi ⟨rfl, v, rfl⟩ ⟨rfl, c, hc, rfl⟩
      walk_at "ev"
      refine ⟨hL c (List.mem_of_getElem? (cps_get hc)), ?_⟩
      walk_at "ev"
      exact ⟨_, rfl⟩
    · rintro σ H3 ⟨rfl, v, rfl⟩
      walk_at "ev"
      exact q
theorem AllG.cons {N : Addr → Prop} {C : Addr} {H : Hp} {as : List Addr} {gs : List Gd} {b : Addr} {g : Gd} (n : GridN N C H b g.rc g.rows) (h : AllG N C H as gs) : AllG N C H (b :: as) (g :: gs) :=
  ⟨congrArg Nat.succ h.1, fun i c s e1 e2 => match i, e1, e2 with
    | 0, e1, e2 => by
      cases e1
      cases e2
      exact n
    | i + 1, e1, e2 => h.2 i c s e1 e2⟩
theorem AllG.rev {N : Addr → Prop} {C : Addr} {H : Hp} {as : List Addr} {gs : List Gd} (h : AllG N C H as gs) : AllG N C H as.reverse gs.reverse := by
  refine ⟨by rw [List.length_reverse, List.length_reverse, h.1], fun i a g e1 e2 => ?_⟩
  have hi : i < as.length := by
    have := (List.getElem?_eq_some_iff.mp e1).1
    rw [List.length_reverse] at this
    exact this
  rw [List.getElem?_reverse hi] at e1
  rw [List.getElem?_reverse (by rw [← h.1]; exact hi), ← h.1] at e2
  exact h.2 _ a g e1 e2
def spBands (K : PySem.W.Frag) (C : Addr) : Sp := fun vs H Q _ => ∃ (x : Addr) (g : Gd) (ls : List Nat), vs = [.ref x, .str (SX.S ls)] ∧ GRd g ∧ GridAt C H x g.rc g.rows ∧ LetW ls ∧ ls.length ≤ 10 ∧
  ∀ (q : Addr) (as : List Addr) (H' : Hp), Same H H' → H' q = some (.lst (as.map V.ref)) → AllG (fun _ => True) C H' as (lowsD ls g :: (highsD ls g).reverse) → Q (.ref q) H'
def spBandsN (K : PySem.W.Frag) (C : Addr) : Sp := fun vs H Q _ => ∃ (x : Addr) (g : Gd) (ls : List Nat) (N : Addr → Prop), vs = [.ref x, .str (SX.S ls)] ∧ GRd g ∧ GridN N C H x g.rc g.rows ∧ (∀ b, H b = none → N b) ∧ LetW ls ∧ ls.length ≤ 10 ∧
  ∀ (q : Addr) (as : List Addr) (H' : Hp), Same H H' → H' q = some (.lst (as.map V.ref)) → AllG N C H' as (lowsD ls g :: (highsD ls g).reverse) → Q (.ref q) H'
theorem ok_bandsN {f C : Addr} {fd : FuncData} {k : Nat} (F : Fun K "bands" "bands" s_bands f fd) (T : Txt mg) (GK : GridK K C) (M_rect : CalP P w K mg base 1 C "rect" (spGRect C))
    (c_check_cells : C8.Cal P w K mg base 2 "_check_cells" (spCells K) []) (c_check_word : C8.Cal P w K mg base 2 "_check_word" spChkW []) (c_halved : C8.Cal P w K mg base 7 "halved" (spHalved K C) []) : FnOk P w K mg base CX0 (k + 8) f fd ["grid", "word"] (spBandsN K C) := by
  refine F.ok sc_bands (fun vs H Q E h => ?_) (fun cdv A outer s H vs Q E hr h => ?_)
  · obtain ⟨x, g, ls, N, rfl, _⟩ := h
    rfl
  · obtain ⟨x, g, ls, N, rfl, hG, hg, hN, hL, hl, q⟩ := h
    obtain ⟨dx, t, p, hx, ht, hR⟩ := _root_.id hg
    refine ⟨_, (pss_cons (ps_expr (C8.pe_c c_check_cells hr (by omega) (by rfl) (pa_cons (pe_pr M_rect GK.cl hr (by omega) (pv 0) rfl) pa_nil)))
    (pss_cons (ps_expr (C8.pe_c c_check_word hr (by omega) (by rfl) (pa_cons (pv 1) pa_nil)))
    (pss_cons (ps_set (i := 2) sc_bands.nd rfl (Or.inl rfl) (pv 0))
    (pss_cons (ps_set (i := 3) sc_bands.nd rfl (Or.inl rfl) (pe_lst pa_nil))
    (pss_cons (ps_for PassesOwn.never rfl (pi_str (pv 1)) (pg_name (i := 4) sc_bands.nd rfl (Or.inl rfl))
      (pss_cons (ps_asg (C8.pe_c c_halved hr (by omega) (by rfl) (pa_cons (pv 2) (pa_cons (pv 4) pa_nil))) (pg_tup rfl (pgs_cons (pg_name (i := 2) sc_bands.nd rfl (Or.inl rfl)) (pgs_cons (pg_name (i := 5) sc_bands.nd rfl (Or.inl rfl)) pgs_nil))))
    (pss_one (ps_expr (pe_bm PySem.F.plainAttrs_list PySem.F.slot_list_append PySem.F.type_list_append mt_append (pv 3) (pa_cons (pv 5) pa_nil))))))
    (pss_one (ps_ret (pe_op op_cat (pe_lst (pa_cons (pv 2) pa_nil)) (pe_revL (pv 3)))))))))), ?_⟩
    walk_at "ev"
    refine ⟨x, dx, _, rfl, hx, x, t, p, dx, rfl, hx, ?_⟩
    walk_at "ev"
    refine ⟨t, g.x0, g.x1, g.y0, g.y1, rfl, .inl (.inl ht), hG.x, hG.y, ?_⟩
    walk_at "ev"
    refine ⟨hL, hl, ?_⟩
    walk_at "ev"
    refine ⟨(by show 0 ≤ sizeLine; decide), fun D nD => ?_⟩
    walk_at "ev"
    have hsz : (SX.S ls).cps.size = ls.length := rfl
    refine for_it (walk_str (z := SX.S ls)) (fun i σ H3 => ∃ lw v4 v5, σ = [some (.ref x), some (.str (SX.S ls)), some (.ref lw), some (.ref D), v4, v5] ∧ Same H H3 ∧ GridN (fun b => b ≠ D ∧ N b) C H3 lw (lowsD (ls.take i) g).rc (lowsD (ls.take i) g).rows ∧ ∃ hs : List Addr, H3 D = some (.lst (hs.map V.ref)) ∧ AllG (fun b => b ≠ D ∧ N b) C H3 hs (highsD (ls.take i) g))
      ⟨x, _, _, rfl, same_upd nD, ?_, [], upd_same, .nil⟩ (fun _ _ _ _ _ => trivial) ?_ ?_
    · exact ⟨dx, t, p, new_at hx nD, new_at ht nD, hR.up fun b o n e => ⟨⟨ne_of_none e nD, n⟩, new_at e nD⟩⟩
    · rintro i y σ H3 H4 hi ⟨lw, v4, v5, rfl, s3, hl3, hs, eD, hA⟩ ⟨rfl, c, hc, rfl⟩
      have hc' := cps_get hc
      have hcl := hL c (List.mem_of_getElem? hc')
      have ht1 : ls.take (i + 1) = ls.take i ++ [c] := (take_snoc hc').symm
      have hG3 := hG.lows (ls.take i)
      have hsl : hs.length ≤ 10 := by
        rw [hA.1, highsD_len, List.length_take]
        omega
      rw [ht1, lowsD_app, highsD_app]
      generalize lowsD (ls.take i) g = gi at hl3 hG3 ⊢
      generalize highsD (ls.take i) g = his at hA ⊢
      walk_at "ev"
      refine ⟨lw, c, gi.x0, gi.x1, gi.y0, gi.y1, gi.rows, rfl, hcl, hG3, hl3.mono fun _ _ => trivial, fun u a b H5 na nb s5 eu ga gb => ?_⟩
      refine ⟨u, _, rfl, .inl (.inl eu), rfl, ?_⟩
      have eD5 := s5 _ _ eD
      have fD0 : ∀ b, H4 b = none → b ≠ D := fun b e z => by
        rw [z, eD] at e
        cases e
      have fD : ∀ b, H4 b = none → b ≠ D ∧ (b ≠ D ∧ N b) := fun b e => ⟨fD0 b e, fD0 b e, hN b (s3.free e)⟩
      walk_at "ev"
      refine ⟨.inl ⟨rfl, _, .inl (.inl eD5)⟩, ?_⟩
      walk_at "ev"
      have ea := lowD_rc c gi
      have eb := highD_rc c gi
      refine ⟨D, _, _, rfl, rfl, eD5, small1000 (by rw [List.length_map]; omega), a, _, _, rfl, fun b' o e => ?_, ?_, hs ++ [b], by rw [upd_same, List.map_append]; rfl, ?_⟩
      · rw [upd_ne (ne_of_none e nD)]
        exact s5 _ _ (s3 _ _ e)
      · rw [ea, lowD_rows]
        exact ga.past eD5 fD
      · refine ((hA.up fun a' rc rows' h => (h.same s5).past eD5 fun b' n => ⟨n.1, n⟩)).app ?_
        rw [eb, highD_rows]
        exact gb.past eD5 fD
    · rintro σ H3 ⟨lw, v4, v5, rfl, s3, hl3, hs, eD, hA⟩
      rw [hsz, List.take_length] at hl3 hA
      walk_at "ev"
      refine ⟨(by show 1 ≤ sizeLine; decide), fun p0 n0 => ?_⟩
      have eD0 := new_at (o' := .lst [.ref lw]) eD n0
      walk_at "ev"
      refine ⟨D, _, rfl, .inl (.inl eD0), fun p1 n1 => ?_⟩
      have hsl : hs.length ≤ 10 := by
        rw [hA.1, highsD_len]
        exact hl
      have e0 : upd (upd H3 p0 (.lst [.ref lw])) p1 (.lst (hs.map V.ref).reverse) p0 = some (.lst [.ref lw]) := new_at upd_same n1
      refine ⟨p0, p1, _, _, rfl, rfl, e0, upd_same, Nat.le_of_lt (small1000 (by rw [List.length_reverse, List.length_map]; show 1 + _ ≤ 1000; omega)), fun p2 n2 => ?_⟩
      have sZ := ((same_upd (o := .lst [V.ref lw]) n0).trans (same_upd (o := .lst (hs.map V.ref).reverse) n1)).trans (same_upd (o := .lst ([V.ref lw] ++ (hs.map V.ref).reverse)) n2)
      refine q p2 (lw :: hs.reverse) _ (s3.trans sZ) (by rw [upd_same, List.map_cons, List.map_reverse]; rfl) ?_
      exact .cons ((hl3.same sZ).mono fun _ n => n.2) ((hA.up fun a' rc rows' h => (h.same sZ).mono fun _ n => n.2).rev)

theorem bands_imp {K : PySem.W.Frag} {C : Addr} {vs : List V} {H : Hp} {Q : VK} {E : XK} (h : spBands K C vs H Q E) : spBandsN K C vs H Q E := by
  obtain ⟨x, g, ls, e, hG, hg, hL, hl, q⟩ := h
  exact ⟨x, g, ls, fun _ => True, e, hG, hg, fun _ _ => trivial, hL, hl, q⟩
/-! ### numbers led back -/
def spBack : Sp := fun vs H Q _ => ∃ (s d : Int), vs = [.int s, .int d] ∧ ∀ (q : Addr), H q = none → Q (.ref q) (upd H q (.tup [.int (s - d / 2 + d), .int (s - d / 2)]))
theorem ok_back {f : Addr} {fd : FuncData} {k : Nat} (F : Fun K "back" "back" s_back f fd) (T : Txt mg) : FnOk P w K mg base CX0 (k + 1) f fd ["s", "d"] spBack := by
  refine F.ok sc_back (fun vs H Q E h => ?_) (fun cdv A outer s H vs Q E hr h => ?_)
  · obtain ⟨a, b, rfl, _⟩ := h
    rfl
  · obtain ⟨a, b, rfl, q⟩ := h
    refine ⟨_, (pss_cons (ps_set (i := 2) sc_back.nd rfl (Or.inl rfl) (pe_op op_sub (pv 0) (pe_op op_fdivW (pv 1) pe_int)))
    (pss_one (ps_ret (pe_tup (pa_cons (pe_op op_add (pv 2) (pv 1)) (pa_cons (pv 2) pa_nil)))))), ?_⟩
    walk_at "ev"
    refine ⟨(by show 2 ≤ sizeLine; decide), fun q' nq => q q' nq⟩
/-- the number at x of a row that is led back -/
def jAt (s e : Int) (lo hi : List Int) (x : Int) : Int :=
  if alone s e (x / 2) = true then nz lo (x / 2 - s / 2) else if x = 2 * (x / 2) then nz lo (x / 2 - s / 2) - nz hi (x / 2 - (s + 1) / 2) / 2 + nz hi (x / 2 - (s + 1) / 2) else nz lo (x / 2 - s / 2) - nz hi (x / 2 - (s + 1) / 2) / 2
def jTo (s e : Int) (lo hi : List Int) (t : Nat) : List Int := (List.range t).map fun (k : Nat) => jAt s e lo hi (s + k)
def jRow (s e : Int) (lo hi : List Int) : List Int := jTo s e lo hi (e - s).toNat
theorem jTo_succ (s e : Int) (lo hi : List Int) (t : Nat) : jTo s e lo hi (t + 1) = jTo s e lo hi t ++ [jAt s e lo hi (s + t)] := by
  unfold jTo
  rw [List.range_succ, List.map_append]
  rfl
/-- how many numbers the first t ones make -/
def mN (s e : Int) (t : Nat) : Nat := (min (2 * (s / 2 + (t : Int))) e - s).toNat
def spJoinN : Sp := fun vs H Q _ => ∃ (p r : Addr) (s e : Int) (lo hi : List Int), vs = [.ref p, .ref r, .int s, .int e] ∧ H p = some (.lst (lo.map V.int)) ∧ H r = some (.lst (hi.map V.int)) ∧ s < e ∧ e ≤ s + 900 ∧ -4000000000 ≤ s ∧ s ≤ 4000000000 ∧
  (lo.length : Int) = (e + 1) / 2 - s / 2 ∧ ((s + 1) / 2 ≤ e / 2 → (hi.length : Int) = e / 2 - (s + 1) / 2) ∧ ∀ (q : Addr) (H' : Hp), H q = none → Same H H' → H' q = some (.lst ((jRow s e lo hi).map V.int)) → Q (.ref q) H'
theorem ok_joinN {f : Addr} {fd : FuncData} {k : Nat} (F : Fun K "_joined_numbers" "_joined_numbers" s_joined_numbers f fd) (T : Txt mg) (c_is_alone : C8.Cal P w K mg base 1 "_is_alone" spAlone []) (c_back : C8.Cal P w K mg base 1 "back" spBack []) : FnOk P w K mg base CX0 (k + 2) f fd ["low", "high", "start", "stop"] spJoinN := by
  refine F.ok sc_joined_numbers (fun vs H Q E h => ?_) (fun cdv A outer s H vs Q E hr h => ?_)
  · obtain ⟨p, r, s0, e0, lo, hi, rfl, _⟩ := h
    rfl
  · obtain ⟨p, r, s0, e0, lo, hi, rfl, hp, hr', hse, hm, hb1, hb2, hlo, hhi, q⟩ := h
    refine ⟨_, (pss_cons (ps_set (i := 4) sc_joined_numbers.nd rfl (Or.inl rfl) (pe_lst pa_nil))
    (pss_cons (ps_for PassesOwn.never rfl (pi_enumS (by rfl) T.z_enumerate (pa_cons (pv 0) pa_nil) (pk_cons (pe_op op_fdivW (pv 2) pe_int) pk_nil)) (pg_tup rfl (pgs_cons (pg_name (i := 5) sc_joined_numbers.nd rfl (Or.inl rfl)) (pgs_cons (pg_name (i := 6) sc_joined_numbers.nd rfl (Or.inl rfl)) pgs_nil)))
      (pss_one (ps_if (pt_val (C8.pe_c c_is_alone hr (by omega) (by rfl) (pa_cons (pv 5) (pa_cons (pv 2) (pa_cons (pv 3) pa_nil))))) (pss_one (ps_expr (pe_bm PySem.F.plainAttrs_list PySem.F.slot_list_append PySem.F.type_list_append mt_append (pv 4) (pa_cons (pv 6) pa_nil)))) (pss_one (ps_expr (pe_bm PySem.F.plainAttrs_list PySem.F.slot_list_extend PySem.F.type_list_extend mt_extT (pv 4) (pa_cons (C8.pe_c c_back hr (by omega) (by rfl) (pa_cons (pv 6) (pa_cons (pe_ix ix_list (pv 1) (pe_op op_sub (pv 5) (pe_op op_fdivW (pe_op op_add (pv 2) pe_int) pe_int)) (fun _ _ => rfl)) pa_nil))) pa_nil)))))))
    (pss_one (ps_ret (pv 4))))), ?_⟩
    walk_at "ev"
    refine ⟨(by show 0 ≤ sizeLine; decide), fun l nl => ?_⟩
    walk_at "ev"
    have hp0 := new_at (o' := .lst []) hp nl
    have hll : (lo.map V.int).length = lo.length := List.length_map _
    have m0 : mN s0 e0 0 = 0 := by
      unfold mN
      omega
    refine ⟨p, s0 / 2, _, rfl, rfl, .inl (.inl hp0), by omega, by omega, ?_⟩
    refine for_it (walk_enumS (ys := lo.map V.int)) (fun t σ G => Same H G ∧ G l = some (.lst ((jTo s0 e0 lo hi (mN s0 e0 t)).map V.int)) ∧ ∃ v5 v6, σ = [some (.ref p), some (.ref r), some (.int s0), some (.int e0), some (.ref l), v5, v6]) ⟨same_upd nl, by rw [upd_same, m0]; rfl, _, _, rfl⟩ (fun _ _ _ _ h => .inl (.inl (h.1 _ _ hp))) ?_ ?_
    · rintro t x σ G G2 ht ⟨s1, el, v5, v6, rfl⟩ ⟨T1, x1, y1, rfl, nT, rfl, ex, ey⟩
      rw [hll] at ht
      obtain rfl := Option.some.inj ex
      replace ey : (lo.map V.int)[t]? = some y1 := ey
      rw [List.getElem?_map, List.getElem?_eq_getElem ht] at ey
      obtain rfl := Option.some.inj ey
      have hv : nz lo (s0 / 2 + (t : Int) - s0 / 2) = lo[t] := by
        unfold nz
        rw [show (s0 / 2 + (t : Int) - s0 / 2).toNat = t from by omega, List.getD_eq_getElem?_getD, List.getElem?_eq_getElem ht]
        rfl
      have s2 := s1.trans (same_upd (o := .tup [.int (s0 / 2 + (t : Int)), .int lo[t]]) nT)
      have el2 := new_at (o' := .tup [.int (s0 / 2 + (t : Int)), .int lo[t]]) el nT
      have eT : upd G T1 (.tup [.int (s0 / 2 + (t : Int)), .int lo[t]]) T1 = some (.tup [.int (s0 / 2 + (t : Int)), .int lo[t]]) := upd_same
      generalize upd G T1 (.tup [.int (s0 / 2 + (t : Int)), .int lo[t]]) = G1 at s2 el2 eT ⊢
      have ljt : ∀ m, (jTo s0 e0 lo hi m).length = m := fun m => by
        unfold jTo
        rw [List.length_map, List.length_range]
      have mle : mN s0 e0 t ≤ 900 := by
        unfold mN
        omega
      walk_at "ev"
      refine ⟨_, _, _, rfl, ?_⟩
      by_cases hal : 2 * (s0 / 2 + (t : Int)) < s0 ∨ 2 * (s0 / 2 + (t : Int)) + 1 ≥ e0
      · have ea : alone s0 e0 (s0 / 2 + t) = true := decide_eq_true hal
        rw [ea]
        have m1 : mN s0 e0 (t + 1) = mN s0 e0 t + 1 := by
          unfold mN
          omega
        have mx2 : (s0 + (mN s0 e0 t : Nat)) / 2 = s0 / 2 + (t : Int) := by
          unfold mN
          omega
        have jv : jAt s0 e0 lo hi (s0 + (mN s0 e0 t : Nat)) = lo[t] := by
          unfold jAt
          rw [mx2, if_pos ea, hv]
        walk_at "ev"
        refine ⟨.inl ⟨rfl, _, .inl (.inl el2)⟩, ?_⟩
        walk_at "ev"
        refine ⟨l, _, _, rfl, rfl, el2, small1000 (by rw [List.length_map, ljt]; omega), ?_⟩
        refine ⟨fun b o e => (upd_ne (ne_of_none e nl)).trans (s2 _ _ e), ?_, _, _, rfl⟩
        rw [upd_same, m1, jTo_succ, List.map_append, jv]
        rfl
      · have ea : alone s0 e0 (s0 / 2 + t) = false := decide_eq_false hal
        rw [ea]
        have m1 : mN s0 e0 (t + 1) = mN s0 e0 t + 1 + 1 := by
          unfold mN
          omega
        have x0' : s0 + (mN s0 e0 t : Nat) = 2 * (s0 / 2 + (t : Int)) := by
          unfold mN
          omega
        have jh : ((s0 / 2 + (t : Int)) - (s0 + 1) / 2).toNat < hi.length := by
          have := hhi (by omega)
          omega
        have hw : nz hi (s0 / 2 + (t : Int) - (s0 + 1) / 2) = hi[((s0 / 2 + (t : Int)) - (s0 + 1) / 2).toNat] := by
          unfold nz
          rw [List.getD_eq_getElem?_getD, List.getElem?_eq_getElem jh]
          rfl
        have jv : jAt s0 e0 lo hi (s0 + (mN s0 e0 t : Nat)) = lo[t] - hi[((s0 / 2 + (t : Int)) - (s0 + 1) / 2).toNat] / 2 + hi[((s0 / 2 + (t : Int)) - (s0 + 1) / 2).toNat] := by
          unfold jAt
          rw [x0', show 2 * (s0 / 2 + (t : Int)) / 2 = s0 / 2 + (t : Int) from by omega, if_neg (by rw [ea]; exact Bool.false_ne_true), if_pos rfl, hv, hw]
        have jv2 : jAt s0 e0 lo hi (s0 + ((mN s0 e0 t + 1 : Nat) : Int)) = lo[t] - hi[((s0 / 2 + (t : Int)) - (s0 + 1) / 2).toNat] / 2 := by
          unfold jAt
          rw [show s0 + ((mN s0 e0 t + 1 : Nat) : Int) = 2 * (s0 / 2 + (t : Int)) + 1 from by omega, show (2 * (s0 / 2 + (t : Int)) + 1) / 2 = s0 / 2 + (t : Int) from by omega, if_neg (by rw [ea]; exact Bool.false_ne_true), if_neg (by omega), hv, hw]
        walk_at "ev"
        refine ⟨.inl ⟨rfl, _, .inl (.inl el2)⟩, ?_⟩
        walk_at "ev"
        refine ⟨_, _, _, _, rfl, rfl, .inl (.inl (s2 _ _ hr')), at_of (j := ((s0 / 2 + (t : Int)) - (s0 + 1) / 2).toNat) (v := .int (hi[((s0 / 2 + (t : Int)) - (s0 + 1) / 2).toNat])) (by omega) (by rw [List.getElem?_map, List.getElem?_eq_getElem jh]; rfl), ?_⟩
        walk_at "ev"
        intro b nb
        have s3 := s2.trans (same_upd (o := .tup [.int (lo[t] - hi[((s0 / 2 + (t : Int)) - (s0 + 1) / 2).toNat] / 2 + hi[((s0 / 2 + (t : Int)) - (s0 + 1) / 2).toNat]), .int (lo[t] - hi[((s0 / 2 + (t : Int)) - (s0 + 1) / 2).toNat] / 2)]) nb)
        have el3 := new_at (o' := .tup [.int (lo[t] - hi[((s0 / 2 + (t : Int)) - (s0 + 1) / 2).toNat] / 2 + hi[((s0 / 2 + (t : Int)) - (s0 + 1) / 2).toNat]), .int (lo[t] - hi[((s0 / 2 + (t : Int)) - (s0 + 1) / 2).toNat] / 2)]) el2 nb
        walk_at "ev"
        refine ⟨l, b, _, _, rfl, rfl, el3, .inl (.inl upd_same), by simp, Nat.le_of_lt (small1000 (by rw [List.length_map, ljt]; show _ + 2 ≤ 1000; omega)), ?_⟩
        refine ⟨fun b o e => (upd_ne (ne_of_none e nl)).trans (s3 _ _ e), ?_, _, _, rfl⟩
        rw [upd_same, m1, jTo_succ, jTo_succ, List.map_append, List.map_append, jv, jv2, List.append_assoc]
        rfl
    · rintro σ G ⟨s1, el, v5, v6, rfl⟩
      have me : mN s0 e0 (lo.map V.int).length = (e0 - s0).toNat := by
        rw [hll]
        unfold mN
        omega
      rw [me] at el
      walk_at "ev"
      exact q l G nl s1 el
/-- the rect of the low band, its numbers -/
structure BandOk (a0 a1 b0 b1 : Int) : Prop where
  ax : a1 ≤ a0 + 900
  by_ : b1 ≤ b0 + 900
  a : -4000000000 ≤ a0 ∧ a0 ≤ 4000000000
  b : -4000000000 ≤ b0 ∧ b0 ≤ 4000000000
theorem low_all {c : Nat} (hc : Lt2 c) {x0 x1 y0 y1 : Int} {rows : List (List Int)} (h : GR x0 x1 y0 y1 rows) : ∃ a0 a1 b0 b1, lowR c x0 x1 y0 y1 = [a0, a1, b0, b1] ∧ (∀ g, inR a0 a1 b0 b1 g → inR x0 x1 y0 y1 (eC c g) ∨ inR x0 x1 y0 y1 (pC c g)) ∧ lowG c x0 x1 y0 y1 rows = rowsF a0 a1 b0 b1 (lowV c x0 x1 y0 y1 rows) ∧ BandOk a0 a1 b0 b1 ∧ a0 < a1 ∧ b0 < b1 := by
  have gx := h.x
  have gy := h.y
  have gxm := h.xm
  have gym := h.ym
  have gxb := h.xb
  have gyb := h.yb
  rcases hc with rfl | rfl
  · refine ⟨_, _, _, _, rfl, fun g hg => ?_, low_X h, ⟨by omega, by omega, by omega, by omega⟩, by omega, by omega⟩
    obtain ⟨g1, g2, g3, g4⟩ := hg
    by_cases z : x0 ≤ 2 * g.1
    · exact .inl ⟨z, by show 2 * g.1 < x1; omega, g3, g4⟩
    · exact .inr ⟨by show x0 ≤ 2 * g.1 + 1; omega, by show 2 * g.1 + 1 < x1; omega, g3, g4⟩
  · refine ⟨_, _, _, _, rfl, fun g hg => ?_, low_Y h, ⟨by omega, by omega, by omega, by omega⟩, by omega, by omega⟩
    obtain ⟨g1, g2, g3, g4⟩ := hg
    by_cases z : y0 ≤ 2 * g.2
    · exact .inl ⟨g1, g2, z, by show 2 * g.2 < y1; omega⟩
    · exact .inr ⟨g1, g2, by show y0 ≤ 2 * g.2 + 1; omega, by show 2 * g.2 + 1 < y1; omega⟩
theorem high_all {c : Nat} (hc : Lt2 c) {x0 x1 y0 y1 : Int} {rows : List (List Int)} (h : GR x0 x1 y0 y1 rows) : ∃ a0 a1 b0 b1, highR c x0 x1 y0 y1 = [a0, a1, b0, b1] ∧ (∀ g, inR a0 a1 b0 b1 g → inR x0 x1 y0 y1 (eC c g) ∧ inR x0 x1 y0 y1 (pC c g)) ∧ highG c x0 x1 y0 y1 rows = rowsF a0 a1 b0 b1 (highV c x0 y0 rows) ∧ BandOk a0 a1 b0 b1 := by
  have gx := h.x
  have gy := h.y
  have gxm := h.xm
  have gym := h.ym
  have gxb := h.xb
  have gyb := h.yb
  rcases hc with rfl | rfl
  · refine ⟨_, _, _, _, rfl, fun g hg => ?_, high_X h, ⟨by omega, by omega, by omega, by omega⟩⟩
    obtain ⟨g1, g2, g3, g4⟩ := hg
    exact ⟨⟨by show x0 ≤ 2 * g.1; omega, by show 2 * g.1 < x1; omega, g3, g4⟩, by show x0 ≤ 2 * g.1 + 1; omega, by show 2 * g.1 + 1 < x1; omega, g3, g4⟩
  · refine ⟨_, _, _, _, rfl, fun g hg => ?_, high_Y h, ⟨by omega, by omega, by omega, by omega⟩⟩
    obtain ⟨g1, g2, g3, g4⟩ := hg
    exact ⟨⟨g1, g2, by show y0 ≤ 2 * g.2; omega, by show 2 * g.2 < y1; omega⟩, g1, g2, by show y0 ≤ 2 * g.2 + 1; omega, by show 2 * g.2 + 1 < y1; omega⟩
theorem rowsF_len {a0 a1 b0 b1 : Int} {F : Cel → Int} (h : BandOk a0 a1 b0 b1) : (rowsF a0 a1 b0 b1 F).length ≤ 900 := by
  have := h.by_
  unfold rowsF
  split
  · rw [List.length_map, List.length_range]
    omega
  · exact Nat.zero_le _
theorem rowsF_row {a0 a1 b0 b1 : Int} {F : Cel → Int} (h1 : a0 < a1) (h2 : b0 < b1) : ∃ r, (rowsF a0 a1 b0 b1 F)[0]? = some r ∧ ∃ z, r[0]? = some z := by
  unfold rowsF
  rw [if_pos ⟨h1, h2⟩]
  refine ⟨_, by rw [List.getElem?_map, List.getElem?_range (by omega)]; rfl, _, by rw [List.getElem?_map, List.getElem?_range (by omega)]; rfl⟩
/-! ### two bands put together -/
theorem cell_rowsF {x0 x1 y0 y1 : Int} {F : Cel → Int} {x y : Int} (h : inR x0 x1 y0 y1 (x, y)) : cellI x0 y0 (rowsF x0 x1 y0 y1 F) x y = F (x, y) := by
  obtain ⟨h1, h2, h3, h4⟩ := h
  have h1 : x0 ≤ x := h1
  have h2 : x < x1 := h2
  have h3 : y0 ≤ y := h3
  have h4 : y < y1 := h4
  unfold cellI rowsF
  rw [if_pos ⟨by omega, by omega⟩, List.getD_eq_getElem?_getD (l := List.map _ _), List.getElem?_map, List.getElem?_range (by omega)]
  show ((List.range (x1 - x0).toNat).map _).getD _ 0 = _
  rw [getD_range (by omega)]
  congr 2 <;> omega
theorem rowsF_congr {x0 x1 y0 y1 : Int} {F G : Cel → Int} (h : ∀ z, inR x0 x1 y0 y1 z → F z = G z) : rowsF x0 x1 y0 y1 F = rowsF x0 x1 y0 y1 G := by
  unfold rowsF
  split
  · refine List.map_congr_left fun j mj => List.map_congr_left fun i mi => h _ ?_
    have := List.mem_range.mp mj
    have := List.mem_range.mp mi
    refine ⟨?_, ?_, ?_, ?_⟩
    · show x0 ≤ x0 + (i : Int)
      omega
    · show x0 + (i : Int) < x1
      omega
    · show y0 ≤ y0 + (j : Int)
      omega
    · show y0 + (j : Int) < y1
      omega
  · rfl
theorem fits_rows {x0 x1 y0 y1 : Int} {rows : List (List Int)} (h : Fits x0 x1 y0 y1 rows) : rows = rowsF x0 x1 y0 y1 (fun z => cellI x0 y0 rows z.1 z.2) := by
  rcases h with ⟨hx, hy, hl, hr⟩ | ⟨hn, rfl⟩
  · unfold rowsF
    rw [if_pos ⟨hx, hy⟩]
    conv => lhs; rw [show rows = rows.map id from (List.map_id _).symm, map_range_getD [] id rows]
    rw [show rows.length = (y1 - y0).toNat from by omega]
    refine List.map_congr_left fun j mj => ?_
    have hj := List.mem_range.mp mj
    have hrl := hr _ (getD_mem (rows := rows) (j := j) (by omega))
    show rows.getD j [] = _
    conv => lhs; rw [show rows.getD j [] = (rows.getD j []).map id from (List.map_id _).symm, map_range_getD 0 id (rows.getD j [])]
    rw [show (rows.getD j []).length = (x1 - x0).toNat from by omega]
    refine List.map_congr_left fun i mi => ?_
    show (rows.getD j []).getD i 0 = cellI x0 y0 rows (x0 + i) (y0 + j)
    rw [cell_row]
    unfold nz
    rw [show (x0 + (i : Int) - x0).toNat = i from by omega]
  · unfold rowsF
    rw [if_neg hn]
theorem rowsF_fits {x0 x1 y0 y1 : Int} {F : Cel → Int} : Fits x0 x1 y0 y1 (rowsF x0 x1 y0 y1 F) := by
  unfold rowsF
  by_cases h : x0 < x1 ∧ y0 < y1
  · rw [if_pos h]
    refine .inl ⟨h.1, h.2, ?_, fun r m => ?_⟩
    · rw [List.length_map, List.length_range]
      omega
    · obtain ⟨j, _, rfl⟩ := List.mem_map.mp m
      rw [List.length_map, List.length_range]
      omega
  · rw [if_neg h]
    exact .inr ⟨h, rfl⟩
/-- a rect with cells, of a size -/
structure RCo (x0 x1 y0 y1 : Int) : Prop where
  x : x0 < x1
  y : y0 < y1
  xm : x1 ≤ x0 + 900
  ym : y1 ≤ y0 + 900
  xb : -3000000000 ≤ x0 ∧ x0 ≤ 3000000000
  yb : -3000000000 ≤ y0 ∧ y0 ≤ 3000000000
theorem RCo.gr {x0 x1 y0 y1 : Int} (h : RCo x0 x1 y0 y1) {rows : List (List Int)} (f : Fits x0 x1 y0 y1 rows) : GR x0 x1 y0 y1 rows := by
  refine ⟨h.x, h.y, h.xm, h.ym, h.xb, h.yb, ?_⟩
  rcases f with ⟨_, _, hl, hr⟩ | ⟨hn, _⟩
  · exact ⟨by omega, fun r m => by have := hr r m; omega⟩
  · exact absurd ⟨h.x, h.y⟩ hn
theorem GR.rc {x0 x1 y0 y1 : Int} {rows : List (List Int)} (h : GR x0 x1 y0 y1 rows) : RCo x0 x1 y0 y1 ∧ Fits x0 x1 y0 y1 rows := by
  obtain ⟨gx, gy, gxm, gym, gxb, gyb, g1, g2⟩ := h
  exact ⟨⟨gx, gy, gxm, gym, gxb, gyb⟩, .inl ⟨gx, gy, by omega, fun r m => by rw [g2 r m]; omega⟩⟩
def jF (c : Nat) (x0 x1 y0 y1 : Int) (lo hi : Gd) (z : Cel) : Int :=
  if inR x0 x1 y0 y1 (eC c (gC c z)) ∧ inR x0 x1 y0 y1 (pC c (gC c z)) then
    (if z = eC c (gC c z) then cellI lo.x0 lo.y0 lo.rows (gC c z).1 (gC c z).2 - cellI hi.x0 hi.y0 hi.rows (gC c z).1 (gC c z).2 / 2 + cellI hi.x0 hi.y0 hi.rows (gC c z).1 (gC c z).2
    else cellI lo.x0 lo.y0 lo.rows (gC c z).1 (gC c z).2 - cellI hi.x0 hi.y0 hi.rows (gC c z).1 (gC c z).2 / 2)
  else cellI lo.x0 lo.y0 lo.rows (gC c z).1 (gC c z).2
def joinD (c : Nat) (x0 x1 y0 y1 : Int) (lo hi : Gd) : Gd := ⟨x0, x1, y0, y1, rowsF x0 x1 y0 y1 (jF c x0 x1 y0 y1 lo hi)⟩
theorem eC_ne_pC {c : Nat} (hc : Lt2 c) (g : Cel) : pC c g ≠ eC c g := fun h => by
  rcases hc with rfl | rfl
  · have : 2 * g.1 + 1 = 2 * g.1 := congrArg Prod.fst h
    omega
  · have : 2 * g.2 + 1 = 2 * g.2 := congrArg Prod.snd h
    omega
theorem gd_ext {a b : Gd} (h : a.rc = b.rc) (r : a.rows = b.rows) : a = b := by
  obtain ⟨a0, a1, a2, a3, ar⟩ := a
  obtain ⟨b0, b1, b2, b3, br⟩ := b
  unfold Gd.rc at h
  simp only [List.cons.injEq, and_true] at h
  obtain ⟨h1, h2, h3, h4⟩ := h
  simp only at r
  rw [h1, h2, h3, h4, r]
theorem join_gr {c : Nat} {x0 x1 y0 y1 : Int} {lo hi : Gd} (h : RCo x0 x1 y0 y1) : GRd (joinD c x0 x1 y0 y1 lo hi) := h.gr rowsF_fits
theorem join_low {c : Nat} (hc : Lt2 c) {x0 x1 y0 y1 : Int} {lo hi : Gd} (h : RCo x0 x1 y0 y1) (el : lo.rc = lowR c x0 x1 y0 y1) (fl : Fits lo.x0 lo.x1 lo.y0 lo.y1 lo.rows) : lowD c (joinD c x0 x1 y0 y1 lo hi) = lo := by
  have hG : GR x0 x1 y0 y1 (joinD c x0 x1 y0 y1 lo hi).rows := h.gr rowsF_fits
  obtain ⟨a0, a1, b0, b1, eL, fL, gL, _, _, _⟩ := low_all hc hG
  have er : lo.rc = [a0, a1, b0, b1] := el.trans eL
  unfold Gd.rc at er
  simp only [List.cons.injEq, and_true] at er
  obtain ⟨e1, e2, e3, e4⟩ := er
  refine gd_ext ((lowD_rc c _).trans el.symm) ?_
  rw [lowD_rows]
  show lowG c x0 x1 y0 y1 (joinD c x0 x1 y0 y1 lo hi).rows = lo.rows
  rw [gL, fits_rows fl, e1, e2, e3, e4]
  refine rowsF_congr fun g hg => ?_
  have hin := fL g hg
  unfold lowV
  have cj : ∀ z, inR x0 x1 y0 y1 z → cellI x0 y0 (joinD c x0 x1 y0 y1 lo hi).rows z.1 z.2 = jF c x0 x1 y0 y1 lo hi z := fun z hz => cell_rowsF hz
  by_cases h1 : inR x0 x1 y0 y1 (eC c g)
  · by_cases h2 : inR x0 x1 y0 y1 (pC c g)
    · rw [if_pos h1, if_pos h2, cj _ h1, cj _ h2]
      unfold jF
      have hb : inR x0 x1 y0 y1 (eC c g) ∧ inR x0 x1 y0 y1 (pC c g) := ⟨h1, h2⟩
      rw [gC_e hc, gC_p hc, if_pos hb, if_pos hb, if_pos (rfl : eC c g = eC c g), if_neg (eC_ne_pC hc g), e1, e3]
      omega
    · rw [if_pos h1, if_neg h2, cj _ h1]
      unfold jF
      rw [gC_e hc, if_neg fun z => h2 z.2, e1, e3]
  · have h2 := hin.resolve_left h1
    rw [if_neg h1, cj _ h2]
    unfold jF
    rw [gC_p hc, if_neg fun z => h1 z.1, e1, e3]
theorem join_high {c : Nat} (hc : Lt2 c) {x0 x1 y0 y1 : Int} {lo hi : Gd} (h : RCo x0 x1 y0 y1) (eh : hi.rc = highR c x0 x1 y0 y1) (fh : Fits hi.x0 hi.x1 hi.y0 hi.y1 hi.rows) : highD c (joinD c x0 x1 y0 y1 lo hi) = hi := by
  have hG : GR x0 x1 y0 y1 (joinD c x0 x1 y0 y1 lo hi).rows := h.gr rowsF_fits
  obtain ⟨a0, a1, b0, b1, eH, fH, gH, _⟩ := high_all hc hG
  have er : hi.rc = [a0, a1, b0, b1] := eh.trans eH
  unfold Gd.rc at er
  simp only [List.cons.injEq, and_true] at er
  obtain ⟨e1, e2, e3, e4⟩ := er
  refine gd_ext ((highD_rc c _).trans eh.symm) ?_
  rw [highD_rows]
  show highG c x0 x1 y0 y1 (joinD c x0 x1 y0 y1 lo hi).rows = hi.rows
  rw [gH, fits_rows fh, e1, e2, e3, e4]
  refine rowsF_congr fun g hg => ?_
  obtain ⟨h1, h2⟩ := fH g hg
  have cj : ∀ z, inR x0 x1 y0 y1 z → cellI x0 y0 (joinD c x0 x1 y0 y1 lo hi).rows z.1 z.2 = jF c x0 x1 y0 y1 lo hi z := fun z hz => cell_rowsF hz
  unfold highV
  rw [cj _ h1, cj _ h2]
  unfold jF
  have hb : inR x0 x1 y0 y1 (eC c g) ∧ inR x0 x1 y0 y1 (pC c g) := ⟨h1, h2⟩
  rw [gC_e hc, gC_p hc, if_pos hb, if_pos hb, if_pos (rfl : eC c g = eC c g), if_neg (eC_ne_pC hc g), e1, e3]
  omega
theorem join_of {c : Nat} (hc : Lt2 c) {g : Gd} (h : GRd g) : joinD c g.x0 g.x1 g.y0 g.y1 (lowD c g) (highD c g) = g := by
  have hR := GR.rc h
  obtain ⟨a0, a1, b0, b1, eL, fL, gL, _, _, _⟩ := low_all hc h
  obtain ⟨c0, c1, d0, d1, eH, fH, gH, _⟩ := high_all hc h
  refine gd_ext rfl ?_
  show rowsF g.x0 g.x1 g.y0 g.y1 _ = g.rows
  conv => rhs; rw [fits_rows hR.2]
  have el : (lowD c g).rc = [a0, a1, b0, b1] := (lowD_rc c g).trans eL
  have eh : (highD c g).rc = [c0, c1, d0, d1] := (highD_rc c g).trans eH
  unfold Gd.rc at el eh
  simp only [List.cons.injEq, and_true] at el eh
  obtain ⟨l1, l2, l3, l4⟩ := el
  obtain ⟨m1, m2, m3, m4⟩ := eh
  refine rowsF_congr fun z hz => ?_
  have inG : inR a0 a1 b0 b1 (gC c z) := by
    have hx := hR.1
    obtain ⟨z1, z2, z3, z4⟩ := hz
    rcases hc with rfl | rfl
    · have q : lowR 88 g.x0 g.x1 g.y0 g.y1 = [g.x0 / 2, (g.x1 + 1) / 2, g.y0, g.y1] := rfl
      rw [q] at eL
      simp only [List.cons.injEq, and_true] at eL
      obtain ⟨rfl, rfl, rfl, rfl⟩ := eL
      refine ⟨?_, ?_, z3, z4⟩
      · show g.x0 / 2 ≤ z.1 / 2
        omega
      · show z.1 / 2 < (g.x1 + 1) / 2
        omega
    · have q : lowR 89 g.x0 g.x1 g.y0 g.y1 = [g.x0, g.x1, g.y0 / 2, (g.y1 + 1) / 2] := rfl
      rw [q] at eL
      simp only [List.cons.injEq, and_true] at eL
      obtain ⟨rfl, rfl, rfl, rfl⟩ := eL
      refine ⟨z1, z2, ?_, ?_⟩
      · show g.y0 / 2 ≤ z.2 / 2
        omega
      · show z.2 / 2 < (g.y1 + 1) / 2
        omega
  have cl : cellI (lowD c g).x0 (lowD c g).y0 (lowD c g).rows (gC c z).1 (gC c z).2 = lowV c g.x0 g.x1 g.y0 g.y1 g.rows (gC c z) := by
    rw [l1, l3, lowD_rows, gL]
    exact cell_rowsF inG
  have zz := gC_inv hc (z := z) (g := gC c z) rfl
  unfold jF
  by_cases hb : inR g.x0 g.x1 g.y0 g.y1 (eC c (gC c z)) ∧ inR g.x0 g.x1 g.y0 g.y1 (pC c (gC c z))
  · have inH : inR c0 c1 d0 d1 (gC c z) := by
      obtain ⟨⟨p1, p2, p3, p4⟩, q1, q2, q3, q4⟩ := hb
      rcases hc with rfl | rfl
      · have q : highR 88 g.x0 g.x1 g.y0 g.y1 = [(g.x0 + 1) / 2, g.x1 / 2, g.y0, g.y1] := rfl
        rw [q] at eH
        simp only [List.cons.injEq, and_true] at eH
        obtain ⟨rfl, rfl, rfl, rfl⟩ := eH
        have p1 : g.x0 ≤ 2 * (z.1 / 2) := p1
        have q2 : 2 * (z.1 / 2) + 1 < g.x1 := q2
        refine ⟨?_, ?_, p3, p4⟩
        · show (g.x0 + 1) / 2 ≤ z.1 / 2
          omega
        · show z.1 / 2 < g.x1 / 2
          omega
      · have q : highR 89 g.x0 g.x1 g.y0 g.y1 = [g.x0, g.x1, (g.y0 + 1) / 2, g.y1 / 2] := rfl
        rw [q] at eH
        simp only [List.cons.injEq, and_true] at eH
        obtain ⟨rfl, rfl, rfl, rfl⟩ := eH
        have p3 : g.y0 ≤ 2 * (z.2 / 2) := p3
        have q4 : 2 * (z.2 / 2) + 1 < g.y1 := q4
        refine ⟨p1, p2, ?_, ?_⟩
        · show (g.y0 + 1) / 2 ≤ z.2 / 2
          omega
        · show z.2 / 2 < g.y1 / 2
          omega
    have ch : cellI (highD c g).x0 (highD c g).y0 (highD c g).rows (gC c z).1 (gC c z).2 = highV c g.x0 g.y0 g.rows (gC c z) := by
      rw [m1, m3, highD_rows, gH]
      exact cell_rowsF inH
    rw [if_pos hb, cl, ch]
    unfold lowV highV
    rw [if_pos hb.1, if_pos hb.2]
    by_cases he : z = eC c (gC c z)
    · rw [if_pos he, ← he]
      omega
    · have hp := zz.resolve_left he
      rw [if_neg he, ← hp]
      omega
  · rw [if_neg hb, cl]
    unfold lowV
    rcases zz with he | hp
    · have h1 : inR g.x0 g.x1 g.y0 g.y1 (eC c (gC c z)) := he ▸ hz
      rw [if_pos h1, if_neg fun w => hb ⟨h1, w⟩, ← he]
    · have h2 : inR g.x0 g.x1 g.y0 g.y1 (pC c (gC c z)) := hp ▸ hz
      rw [if_neg fun w => hb ⟨w, h2⟩, ← hp]
/-! ### the rects of bands -/
def RcA (H : Hp) (as : List Addr) (ds : List Gd) : Prop := as.length = ds.length ∧ ∀ (i : Nat) (a : Addr) (d : Gd), as[i]? = some a → ds[i]? = some d → H a = some (.tup (d.rc.map V.int))
theorem RcA.nil {H : Hp} : RcA H [] [] := ⟨rfl, fun i b r e => nomatch e⟩
theorem RcA.app {H : Hp} {as : List Addr} {ds : List Gd} {b : Addr} {d : Gd} (h : RcA H as ds) (e : H b = some (.tup (d.rc.map V.int))) : RcA H (as ++ [b]) (ds ++ [d]) := by
  refine ⟨by rw [List.length_append, List.length_append, h.1]; rfl, fun i c s e1 e2 => ?_⟩
  by_cases hi : i < as.length
  · rw [List.getElem?_append_left hi] at e1
    rw [List.getElem?_append_left (by rw [← h.1]; exact hi)] at e2
    exact h.2 i c s e1 e2
  · have hi2 : as.length ≤ i := Nat.le_of_not_lt hi
    rw [List.getElem?_append_right hi2] at e1
    rw [List.getElem?_append_right (by rw [← h.1]; exact hi2), ← h.1] at e2
    cases hk : i - as.length with
    | zero =>
      rw [hk] at e1 e2
      cases e1
      cases e2
      exact e
    | succ k =>
      rw [hk] at e1
      cases e1
theorem RcA.cons {H : Hp} {as : List Addr} {ds : List Gd} {b : Addr} {d : Gd} (e : H b = some (.tup (d.rc.map V.int))) (h : RcA H as ds) : RcA H (b :: as) (d :: ds) :=
  ⟨congrArg Nat.succ h.1, fun i c s e1 e2 => match i, e1, e2 with
    | 0, e1, e2 => by
      cases e1
      cases e2
      exact e
    | i + 1, e1, e2 => h.2 i c s e1 e2⟩
theorem RcA.rev {H : Hp} {as : List Addr} {ds : List Gd} (h : RcA H as ds) : RcA H as.reverse ds.reverse := by
  refine ⟨by rw [List.length_reverse, List.length_reverse, h.1], fun i a g e1 e2 => ?_⟩
  have hi : i < as.length := by
    have := (List.getElem?_eq_some_iff.mp e1).1
    rw [List.length_reverse] at this
    exact this
  rw [List.getElem?_reverse hi] at e1
  rw [List.getElem?_reverse (by rw [← h.1]; exact hi), ← h.1] at e2
  exact h.2 _ a g e1 e2
theorem RcA.same {H H' : Hp} {as : List Addr} {ds : List Gd} (h : RcA H as ds) (s : Same H H') : RcA H' as ds := ⟨h.1, fun i a d e1 e2 => s _ _ (h.2 i a d e1 e2)⟩
def spBRects (K : PySem.W.Frag) : Sp := fun vs H Q _ => ∃ (rp : Addr) (g : Gd) (ls : List Nat), vs = [.ref rp, .str (SX.S ls)] ∧ H rp = some (.tup (g.rc.map V.int)) ∧ LetW ls ∧ ls.length ≤ 10 ∧
  ∀ (q : Addr) (as : List Addr) (H' : Hp), H q = none → Same H H' → H' q = some (.lst (as.map V.ref)) → RcA H' as (lowsD ls g :: (highsD ls g).reverse) → Q (.ref q) H'
theorem ok_brects {f : Addr} {fd : FuncData} {k : Nat} (F : Fun K "band_rects" "band_rects" s_band_rects f fd) (T : Txt mg) (c_low_rect : C8.Cal P w K mg base 1 "low_rect" (spLowR K lowR) []) (c_high_rect : C8.Cal P w K mg base 1 "high_rect" (spLowR K highR) []) : FnOk P w K mg base CX0 (k + 2) f fd ["rect", "word"] (spBRects K) := by
  refine F.ok sc_band_rects (fun vs H Q E h => ?_) (fun cdv A outer s H vs Q E hr h => ?_)
  · obtain ⟨rp, g, ls, rfl, _⟩ := h
    rfl
  · obtain ⟨rp, g, ls, rfl, hrp, hL, hl, q⟩ := h
    refine ⟨_, (pss_cons (ps_set (i := 2) sc_band_rects.nd rfl (Or.inl rfl) (pv 0))
    (pss_cons (ps_set (i := 3) sc_band_rects.nd rfl (Or.inl rfl) (pe_lst pa_nil))
    (pss_cons (ps_for PassesOwn.never rfl (pi_str (pv 1)) (pg_name (i := 4) sc_band_rects.nd rfl (Or.inl rfl))
      (pss_cons (ps_expr (pe_bm PySem.F.plainAttrs_list PySem.F.slot_list_append PySem.F.type_list_append mt_append (pv 3) (pa_cons (C8.pe_c c_high_rect hr (by omega) (by rfl) (pa_cons (pv 2) (pa_cons (pv 4) pa_nil))) pa_nil)))
    (pss_one (ps_set (i := 2) sc_band_rects.nd rfl (Or.inl rfl) (C8.pe_c c_low_rect hr (by omega) (by rfl) (pa_cons (pv 2) (pa_cons (pv 4) pa_nil)))))))
    (pss_one (ps_ret (pe_op op_cat (pe_lst (pa_cons (pv 2) pa_nil)) (pe_revL (pv 3)))))))), ?_⟩
    walk_at "ev"
    refine ⟨(by show 0 ≤ sizeLine; decide), fun D nD => ?_⟩
    walk_at "ev"
    have hsz : (SX.S ls).cps.size = ls.length := rfl
    refine for_it (walk_str (z := SX.S ls)) (fun i σ H3 => ∃ lw v4, σ = [some (.ref rp), some (.str (SX.S ls)), some (.ref lw), some (.ref D), v4] ∧ Same H H3 ∧ H3 lw = some (.tup ((lowsD (ls.take i) g).rc.map V.int)) ∧ ∃ hs : List Addr, H3 D = some (.lst (hs.map V.ref)) ∧ RcA H3 hs (highsD (ls.take i) g))
      ⟨rp, _, rfl, same_upd nD, new_at hrp nD, [], upd_same, .nil⟩ (fun _ _ _ _ _ => trivial) ?_ ?_
    · rintro i y σ H3 H4 hi ⟨lw, v4, rfl, s3, hl3, hs, eD, hA⟩ ⟨rfl, c, hc, rfl⟩
      have hc' := cps_get hc
      have hcl := hL c (List.mem_of_getElem? hc')
      have ht1 : ls.take (i + 1) = ls.take i ++ [c] := (take_snoc hc').symm
      have hsl : hs.length ≤ 10 := by
        rw [hA.1, highsD_len, List.length_take]
        omega
      rw [ht1, lowsD_app, highsD_app]
      generalize lowsD (ls.take i) g = gi at hl3 ⊢
      generalize highsD (ls.take i) g = his at hA ⊢
      walk_at "ev"
      refine ⟨.inl ⟨rfl, _, .inl (.inl eD)⟩, ?_⟩
      walk_at "ev"
      refine ⟨lw, c, gi.x0, gi.x1, gi.y0, gi.y1, rfl, hcl, .inl (.inl hl3), fun a na => ?_⟩
      have sa := same_upd (o := .tup ((highR c gi.x0 gi.x1 gi.y0 gi.y1).map V.int)) na
      have ea : upd H4 a (.tup ((highR c gi.x0 gi.x1 gi.y0 gi.y1).map V.int)) a = some (.tup ((highR c gi.x0 gi.x1 gi.y0 gi.y1).map V.int)) := upd_same
      generalize upd H4 a (.tup ((highR c gi.x0 gi.x1 gi.y0 gi.y1).map V.int)) = H5 at sa ea ⊢
      walk_at "ev"
      refine ⟨D, _, _, rfl, rfl, sa _ _ eD, small1000 (by rw [List.length_map]; omega), ?_⟩
      have nlD : lw ≠ D := fun z => by
        rw [z, eD] at hl3
        cases hl3
      have hl6 : upd H5 D (.lst (hs.map V.ref ++ [.ref a])) lw = some (.tup (gi.rc.map V.int)) := by
        rw [upd_ne nlD]
        exact sa _ _ hl3
      have eD6 : upd H5 D (.lst (hs.map V.ref ++ [.ref a])) D = some (.lst ((hs ++ [a]).map V.ref)) := by
        rw [upd_same, List.map_append]
        rfl
      have naD : ∀ b : Addr, H4 b = none → b ≠ D := fun b e z => by
        rw [z, eD] at e
        cases e
      have s6 : Same H (upd H5 D (.lst (hs.map V.ref ++ [.ref a]))) := fun b' o e => by
        rw [upd_ne (ne_of_none e nD)]
        exact sa _ _ (s3 _ _ e)
      have hA6 : RcA (upd H5 D (.lst (hs.map V.ref ++ [.ref a]))) (hs ++ [a]) (his ++ [highD c gi]) := by
        refine RcA.app ⟨hA.1, fun i b d e1 e2 => ?_⟩ ?_
        · have eb := hA.2 i b d e1 e2
          rw [upd_ne (fun z => by
            rw [z, eD] at eb
            cases eb)]
          exact sa _ _ eb
        · rw [upd_ne (naD a na), highD_rc]
          exact ea
      generalize upd H5 D (.lst (hs.map V.ref ++ [.ref a])) = H6 at hl6 eD6 s6 hA6 ⊢
      walk_at "ev"
      refine ⟨lw, c, gi.x0, gi.x1, gi.y0, gi.y1, rfl, hcl, .inl (.inl hl6), fun a2 na2 => ?_⟩
      have s7 := same_upd (o := .tup ((lowR c gi.x0 gi.x1 gi.y0 gi.y1).map V.int)) na2
      refine ⟨a2, _, rfl, s6.trans s7, ?_, hs ++ [a], s7 _ _ eD6, hA6.same s7⟩
      rw [upd_same, lowD_rc]
    · rintro σ H3 ⟨lw, v4, rfl, s3, hl3, hs, eD, hA⟩
      rw [hsz, List.take_length] at hl3 hA
      walk_at "ev"
      refine ⟨(by show 1 ≤ sizeLine; decide), fun p0 n0 => ?_⟩
      have eD0 := new_at (o' := .lst [.ref lw]) eD n0
      walk_at "ev"
      refine ⟨D, _, rfl, .inl (.inl eD0), fun p1 n1 => ?_⟩
      have hsl : hs.length ≤ 10 := by
        rw [hA.1, highsD_len]
        exact hl
      have e0 : upd (upd H3 p0 (.lst [.ref lw])) p1 (.lst (hs.map V.ref).reverse) p0 = some (.lst [.ref lw]) := new_at upd_same n1
      refine ⟨p0, p1, _, _, rfl, rfl, e0, upd_same, Nat.le_of_lt (small1000 (by rw [List.length_reverse, List.length_map]; show 1 + _ ≤ 1000; omega)), fun p2 n2 => ?_⟩
      have sZ0 := (same_upd (o := .lst [V.ref lw]) n0).trans (same_upd (o := .lst (hs.map V.ref).reverse) n1)
      have sZ := sZ0.trans (same_upd (o := .lst ([V.ref lw] ++ (hs.map V.ref).reverse)) n2)
      exact q p2 (lw :: hs.reverse) _ ((s3.trans sZ0).free n2) (s3.trans sZ) (by rw [upd_same, List.map_cons, List.map_reverse]; rfl) (.cons (sZ _ _ hl3) ((hA.same sZ).rev))
/-! ### a row and its bands -/
theorem nz_get {r : List Int} {i : Int} {j : Nat} (h : i = (j : Int)) : nz r i = r.getD j 0 := by
  unfold nz
  rw [h, Int.toNat_natCast]
theorem jRow_of (s : Int) (r : List Int) : jRow s (s + r.length) (halvL s r) (halvH s r) = r := by
  unfold jRow jTo
  rw [show (s + (r.length : Int) - s).toNat = r.length from by omega]
  conv => rhs; rw [show r = r.map id from (List.map_id _).symm, map_range_getD 0 id r]
  refine List.map_congr_left fun k mk => ?_
  have hk := List.mem_range.mp mk
  show jAt s (s + r.length) (halvL s r) (halvH s r) (s + k) = r.getD k 0
  unfold jAt
  have eL : nz (halvL s r) ((s + (k : Int)) / 2 - s / 2) = lowAt s r ((s + (k : Int)) / 2) := by
    rw [nz_get (j := ((s + (k : Int)) / 2 - s / 2).toNat) (by omega)]
    unfold halvL lowsTo
    rw [getD_range (by omega)]
    congr 1
    omega
  rw [eL]
  by_cases ha : alone s (s + r.length) ((s + (k : Int)) / 2) = true
  · rw [if_pos ha]
    unfold lowAt
    rw [if_pos ha]
    have := of_decide_eq_true ha
    refine nz_get ?_
    unfold mx
    split <;> omega
  · rw [if_neg ha]
    have hn := mt (fun z : 2 * ((s + (k : Int)) / 2) < s ∨ 2 * ((s + (k : Int)) / 2) + 1 ≥ s + r.length => decide_eq_true z) ha
    have eH : nz (halvH s r) ((s + (k : Int)) / 2 - (s + 1) / 2) = highAt s r ((s + (k : Int)) / 2) := by
      rw [nz_get (j := ((s + (k : Int)) / 2 - (s + 1) / 2).toNat) (by omega)]
      unfold halvH highsTo
      rw [getD_range (by omega)]
      congr 1
      omega
    rw [eH]
    unfold lowAt highAt pS
    rw [if_neg ha]
    by_cases he : s + (k : Int) = 2 * ((s + (k : Int)) / 2)
    · rw [if_pos he, show nz r (2 * ((s + (k : Int)) / 2) - s) = r.getD k 0 from nz_get (by omega)]
      omega
    · rw [if_neg he, show nz r (2 * ((s + (k : Int)) / 2) - s + 1) = r.getD k 0 from nz_get (by omega)]
      omega
theorem trans_trans {n w : Nat} {L : List (List Int)} (hl : L.length = w) (hr : ∀ r ∈ L, r.length = n) : trans w (trans n L) = L := by
  conv => rhs; rw [show L = L.map id from (List.map_id _).symm, map_range_getD [] id L, hl]
  unfold trans
  refine List.map_congr_left fun x mx => ?_
  have hx := List.mem_range.mp mx
  rw [List.map_map]
  show _ = L.getD x []
  have hxl := hr _ (getD_mem (rows := L) (j := x) (by omega))
  conv => rhs; rw [show L.getD x [] = (L.getD x []).map id from (List.map_id _).symm, map_range_getD 0 id (L.getD x []), hxl]
  refine List.map_congr_left fun y my => ?_
  show (L.map fun r => r.getD y 0).getD x 0 = (L.getD x []).getD y 0
  rw [List.getD_eq_getElem?_getD, List.getElem?_map, List.getElem?_eq_getElem (by omega), List.getD_eq_getElem?_getD (l := L), List.getElem?_eq_getElem (by omega)]
  rfl
/-! ### the columns of a grid and of its bands -/
theorem len_pos {α : Type} {l : List α} (h : l ≠ []) : 0 < l.length := List.length_pos_iff.mpr h
theorem along0_ne {c w : Nat} {rows : List (List Int)} (h : rows ≠ []) : along0 c w rows = along c w rows := if_neg h
theorem ne_of_len {rows : List (List Int)} (h : 0 < rows.length) : rows ≠ [] := fun z => by
  rw [z] at h
  exact absurd h (Nat.lt_irrefl 0)
theorem trans_ne {n : Nat} {rows : List (List Int)} (h : 0 < n) : trans n rows ≠ [] := ne_of_len (by rw [trans_len]; exact h)
structure Cols (c : Nat) (g : Gd) (s e : Int) (cols : List (List Int)) (W1 W2 : Nat) : Prop where
  hs : s = (if c = 88 then g.x0 else g.y0)
  he : e = (if c = 88 then g.x1 else g.y1)
  lt : s < e
  le : e ≤ s + 900
  b1 : -3000000000 ≤ s
  b2 : s ≤ 3000000000
  ne : cols ≠ []
  len : cols.length ≤ 900
  row : ∀ r ∈ cols, (r.length : Int) = e - s
  back : along c (e - s).toNat cols = g.rows
  l1 : (lowD c g).rows.length ≤ 900
  w1 : W1 ≤ 900
  r1 : ∀ r ∈ (lowD c g).rows, r.length = W1
  lo : along0 c W1 (lowD c g).rows = cols.map (halvL s)
  l2 : (highD c g).rows.length ≤ 900
  w2 : W2 ≤ 900
  r2 : ∀ r ∈ (highD c g).rows, r.length = W2
  hi : along0 c W2 (highD c g).rows = cols.map (halvH s) ∨ (along0 c W2 (highD c g).rows = [] ∧ cols.map (halvH s) = cols.map fun _ => ([] : List Int))
theorem cols_all {c : Nat} (hc : Lt2 c) {g : Gd} (hG : GRd g) : ∃ s e cols W1 W2, Cols c g s e cols W1 W2 := by
  obtain ⟨gx, gy, gxm, gym, gxb, gyb, g1, g2⟩ := _root_.id hG
  rcases hc with rfl | rfl
  · have el : (lowD 88 g).rows = g.rows.map (halvL g.x0) := rfl
    have eh : (highD 88 g).rows = if (g.x0 + 1) / 2 < g.x1 / 2 then g.rows.map (halvH g.x0) else [] := rfl
    have hlen : ∀ r ∈ g.rows, (r.length : Int) = g.x1 - g.x0 := fun r m => by rw [g2 r m]; omega
    have hne : g.rows ≠ [] := ne_of_len (by rw [g1]; omega)
    refine ⟨g.x0, g.x1, g.rows, ((g.x1 + 1) / 2 - g.x0 / 2).toNat, (g.x1 / 2 - (g.x0 + 1) / 2).toNat, rfl, rfl, gx, gxm, gxb.1, gxb.2, hne, by rw [g1]; omega, hlen, rfl, by rw [el, List.length_map, g1]; omega, by omega, ?_, ?_, ?_, by omega, ?_, ?_⟩
    · rw [el]
      intro r m
      obtain ⟨r0, m0, rfl⟩ := List.mem_map.mp m
      rw [halvL_len, hlen r0 m0]
      congr 2
      omega
    · rw [el, along0_ne (by intro z; exact hne (List.map_eq_nil_iff.mp z))]
      rfl
    · rw [eh]
      split
      · rw [List.length_map, g1]
        omega
      · exact Nat.zero_le _
    · rw [eh]
      intro r m
      split at m
      · obtain ⟨r0, m0, rfl⟩ := List.mem_map.mp m
        rw [halvH_len, hlen r0 m0]
        congr 2
        omega
      · cases m
    · rw [eh]
      split
      · left
        rw [along0_ne (by intro z; exact hne (List.map_eq_nil_iff.mp z))]
        rfl
      · rename_i hn
        right
        refine ⟨rfl, List.map_congr_left fun r m => List.length_eq_zero_iff.mp ?_⟩
        rw [halvH_len, hlen r m]
        omega
  · have el : (lowD 89 g).rows = trans ((g.y1 + 1) / 2 - g.y0 / 2).toNat ((trans (g.x1 - g.x0).toNat g.rows).map (halvL g.y0)) := rfl
    have eh : (highD 89 g).rows = if (g.y0 + 1) / 2 < g.y1 / 2 then trans (g.y1 / 2 - (g.y0 + 1) / 2).toNat ((trans (g.x1 - g.x0).toNat g.rows).map (halvH g.y0)) else [] := rfl
    have hlen : ∀ r ∈ trans (g.x1 - g.x0).toNat g.rows, (r.length : Int) = g.y1 - g.y0 := fun r m => by rw [trans_row m, g1]; omega
    have ml : ∀ f : List Int → List Int, ((trans (g.x1 - g.x0).toNat g.rows).map f).length = (g.x1 - g.x0).toNat := fun f => by rw [List.length_map, trans_len]
    refine ⟨g.y0, g.y1, trans (g.x1 - g.x0).toNat g.rows, (g.x1 - g.x0).toNat, (g.x1 - g.x0).toNat, rfl, rfl, gy, gym, gyb.1, gyb.2, trans_ne (by omega), by rw [trans_len]; omega, hlen, ?_, ?_, by omega, ?_, ?_, ?_, by omega, ?_, ?_⟩
    · exact (along_Y (by decide)).trans (trans_trans g1 g2)
    · rw [el, trans_len]
      omega
    · rw [el]
      intro r m
      rw [trans_row m, ml]
    · rw [el, along0_ne (trans_ne (by omega)), along_Y (by decide)]
      refine trans_trans (ml _) fun r m => ?_
      obtain ⟨r0, m0, rfl⟩ := List.mem_map.mp m
      rw [halvL_len, hlen r0 m0]
      congr 2
      omega
    · rw [eh]
      split
      · rw [trans_len]
        omega
      · exact Nat.zero_le _
    · rw [eh]
      intro r m
      split at m
      · rw [trans_row m, ml]
      · cases m
    · rw [eh]
      split
      · left
        rw [along0_ne (trans_ne (by omega)), along_Y (by decide)]
        refine trans_trans (ml _) fun r m => ?_
        obtain ⟨r0, m0, rfl⟩ := List.mem_map.mp m
        rw [halvH_len, hlen r0 m0]
        congr 2
        omega
      · rename_i hn
        right
        refine ⟨rfl, List.map_congr_left fun r m => List.length_eq_zero_iff.mp ?_⟩
        rw [halvH_len, hlen r m]
        omega
/-! ### two bands joined -/
def spJoined (K : PySem.W.Frag) (C : Addr) : Sp := fun vs H Q _ => ∃ (lo hi rp : Addr) (c : Nat) (g : Gd), vs = [.ref lo, .ref hi, .ref rp, .str (SX.S [c])] ∧ Lt2 c ∧ GRd g ∧ H rp = some (.tup (g.rc.map V.int)) ∧ GridAt C H lo (lowD c g).rc (lowD c g).rows ∧ GridAt C H hi (highD c g).rc (highD c g).rows ∧
  ∀ (x : Addr) (H' : Hp), H x = none → Same H H' → GridN (fun b => H b = none) C H' x g.rc g.rows → Q (.ref x) H'
theorem ok_joined {f C : Addr} {fd : FuncData} {k : Nat} (F : Fun K "joined" "joined" s_joined f fd) (T : Txt mg) (GK : GridK K C) (M_rect : CalP P w K mg base 1 C "rect" (spGRect C)) (M_rows : CalP P w K mg base 1 C "rows" (spGRows C))
    (c_check_rect : C8.Cal P w K mg base 1 "check_rect" (spChk K) []) (c_check_cells : C8.Cal P w K mg base 2 "_check_cells" (spCells K) []) (c_check_letter : C8.Cal P w K mg base 1 "_check_letter" spLetter []) (c_along : C8.Cal P w K mg base 1 "_along" (spAlong0 K) [])
    (c_joined_numbers : C8.Cal P w K mg base 2 "_joined_numbers" spJoinN []) (c_low_rect : C8.Cal P w K mg base 1 "low_rect" (spLowR K lowR) []) (c_high_rect : C8.Cal P w K mg base 1 "high_rect" (spLowR K highR) []) (c_grid : C8.Cal P w K mg base 6 "_grid" (spGrid K C) []) :
    FnOk P w K mg base CX0 (k + 7) f fd ["low", "high", "rect", "letter"] (spJoined K C) := by
  refine F.ok sc_joined (fun vs H Q E h => ?_) (fun cdv A outer s H vs Q E hr h => ?_)
  · obtain ⟨lo, hi, rp, c, g, rfl, _⟩ := h
    rfl
  · obtain ⟨lo, hi, rp, c, g, rfl, hc, hG, hrp, hlo, hhi, q⟩ := h
    have hu := hr.units
    refine ⟨_, (pss_cons (ps_expr (C8.pe_c c_check_rect hr (by omega) (by rfl) (pa_cons (pv 2) pa_nil)))
    (pss_cons (ps_expr (C8.pe_c c_check_cells hr (by omega) (by rfl) (pa_cons (pv 2) pa_nil)))
    (pss_cons (ps_expr (C8.pe_c c_check_letter hr (by omega) (by rfl) (pa_cons (pv 3) pa_nil)))
    (pss_cons (ps_if (PW.pt (pw_or (pt_cmpR (op_neD hu) (pe_pr M_rect GK.cl hr (by omega) (pv 0) rfl) (C8.pe_c c_low_rect hr (by omega) (by rfl) (pa_cons (pv 2) (pa_cons (pv 3) pa_nil))) (nomark _)) (pw_or1 (pt_cmpR (op_neD hu) (pe_pr M_rect GK.cl hr (by omega) (pv 1) rfl) (C8.pe_c c_high_rect hr (by omega) (by rfl) (pa_cons (pv 2) (pa_cons (pv 3) pa_nil))) (nomark _))))) (pss_one ps_never) pss_nil)
    (C8.pss_cut (ps_asg (pe_ifExp (pt_cmpR op_eq (pv 3) pe_str (nomark _)) (pe_tup (pa_cons (pe_ix ix_tup (pv 2) pe_int (fun _ _ => rfl)) (pa_cons (pe_ix ix_tup (pv 2) pe_int (fun _ _ => rfl)) pa_nil))) (pe_tup (pa_cons (pe_ix ix_tup (pv 2) pe_int (fun _ _ => rfl)) (pa_cons (pe_ix ix_tup (pv 2) pe_int (fun _ _ => rfl)) pa_nil)))) (pg_tup rfl (pgs_cons (pg_name (i := 4) sc_joined.nd rfl (Or.inr rfl)) (pgs_cons (pg_name (i := 5) sc_joined.nd rfl (Or.inr rfl)) pgs_nil))))
    (pss_cons (ps_set (i := 6) sc_joined.nd rfl (Or.inl rfl) (C8.pe_c c_along hr (by omega) (by rfl) (pa_cons (pe_pr M_rows GK.cl hr (by omega) (pv 0) rfl) (pa_cons (pv 3) pa_nil))))
    (C8.pss_cut (ps_set (i := 8) sc_joined.nd rfl (Or.inl rfl) (pe_orA (C8.pe_c c_along hr (by omega) (by rfl) (pa_cons (pe_pr M_rows GK.cl hr (by omega) (pv 1) rfl) (pa_cons (pv 3) pa_nil))) (pe_one (pe_lc (own := [("_", 7)]) (g := (gName 7)) (tt := tYes) rfl sc_joined.nd (pi_list (pv 6)) (blkOk_by (N := ["low", "high", "rect", "letter", "start", "stop", "lows", "_", "highs", "one", "other", "numbers"]) (sc := defScope s_joined) (by decide +kernel)) (fun _ _ _ _ _ => pg_name (i := 7) sc_joined.nd rfl (by first | exact Or.inl rfl | exact Or.inr rfl)) (fun _ _ _ _ _ => pts_nil) (fun _ _ _ _ _ => (pe_lst pa_nil))))))
    (C8.pss_cut (ps_setLc (i := 11) (own := [("one", 9), ("other", 10)]) (g := (gTup K 2 (gCons (gName 9) (gCons (gName 10) gNil)))) (tt := tYes) rfl sc_joined.nd rfl rfl (sw_true rfl rfl rfl (by decide +kernel)) (pi_zipN (by rfl) T.z_zip (pa_cons (pv 6) (pa_cons (pv 8) pa_nil))) (blkOk_by (N := ["low", "high", "rect", "letter", "start", "stop", "lows", "_", "highs", "one", "other", "numbers"]) (sc := defScope s_joined) (by decide +kernel)) (fun _ _ _ _ _ => pg_tup rfl (pgs_cons (pg_name (i := 9) sc_joined.nd rfl (by first | exact Or.inl rfl | exact Or.inr rfl)) (pgs_cons (pg_name (i := 10) sc_joined.nd rfl (by first | exact Or.inl rfl | exact Or.inr rfl)) pgs_nil))) (fun _ _ _ _ _ => pts_nil) (fun _ _ _ _ _ => (C8.pe_c c_joined_numbers hr (by omega) (by rfl) (pa_cons (pv 9) (pa_cons (pv 10) (pa_cons (pv 4) (pa_cons (pv 5) pa_nil)))))))
    (pss_one (ps_ret (C8.pe_c c_grid hr (by omega) (by rfl) (pa_cons (pv 2) (pa_cons (pv 11) (pa_cons (pv 3) pa_nil)))))))))))))), ?_⟩
    walk_at "ev"
    refine ⟨rp, g.x0, g.x1, g.y0, g.y1, rfl, .inl (.inl hrp), Int.le_of_lt hG.x, Int.le_of_lt hG.y, ?_⟩
    walk_at "ev"
    refine ⟨rp, g.x0, g.x1, g.y0, g.y1, rfl, .inl (.inl hrp), hG.x, hG.y, ?_⟩
    walk_at "ev"
    refine ⟨hc, ?_⟩
    obtain ⟨dl, tl, pl, hl1, hl2, hl3⟩ := _root_.id hlo
    obtain ⟨dh, th, ph, hh1, hh2, hh3⟩ := _root_.id hhi
    walk_at "ev"
    refine ⟨lo, dl, _, rfl, hl1, lo, tl, pl, dl, rfl, hl1, ?_⟩
    walk_at "ev"
    refine ⟨rp, c, g.x0, g.x1, g.y0, g.y1, rfl, hc, .inl (.inl hrp), fun a1 n1 => ?_⟩
    have s1 := same_upd (o := .tup ((lowR c g.x0 g.x1 g.y0 g.y1).map V.int)) n1
    have ea1 : upd H a1 (.tup ((lowR c g.x0 g.x1 g.y0 g.y1).map V.int)) a1 = some (.tup ((lowR c g.x0 g.x1 g.y0 g.y1).map V.int)) := upd_same
    rw [← lowD_rc] at s1 ea1 ⊢
    generalize upd H a1 (.tup ((lowD c g).rc.map V.int)) = H1 at s1 ea1 ⊢
    refine q_neT (s1 _ _ hl2) ea1 ?_
    walk_at "ev"
    refine ⟨hi, dh, _, rfl, s1 _ _ hh1, hi, th, ph, dh, rfl, s1 _ _ hh1, ?_⟩
    walk_at "ev"
    refine ⟨rp, c, g.x0, g.x1, g.y0, g.y1, rfl, hc, .inl (.inl (s1 _ _ hrp)), fun a2 n2 => ?_⟩
    have s2 := s1.trans (same_upd (o := .tup ((highR c g.x0 g.x1 g.y0 g.y1).map V.int)) n2)
    have ea2 : upd H1 a2 (.tup ((highR c g.x0 g.x1 g.y0 g.y1).map V.int)) a2 = some (.tup ((highR c g.x0 g.x1 g.y0 g.y1).map V.int)) := upd_same
    rw [← highD_rc] at s2 ea2 ⊢
    generalize upd H1 a2 (.tup ((highD c g).rc.map V.int)) = H2 at s2 ea2 ⊢
    refine q_neT (s2 _ _ hh2) ea2 ?_
    clear ea1 ea2 n2 s1 n1
    walk_at "ev"
    obtain ⟨s0, e0, cols, W1, W2, hC⟩ := cols_all hc hG
    refine ⟨fun σ G => Same H G ∧ σ = [some (.ref lo), some (.ref hi), some (.ref rp), some (.str (SX.S [c])), some (.int s0), some (.int e0), none, none, none, none, none, none], ?_, ?_⟩
    · walk_at "ev"
      · rename_i hX
        have e := is_X hX
        have z1 := hC.hs.trans (if_pos e)
        have z2 := hC.he.trans (if_pos e)
        refine ⟨_, _, _, _, rfl, rfl, .inl (.inl (s2 _ _ hrp)), at_of (j := 0) (v := .int s0) rfl (by rw [z1]; rfl), ?_⟩
        walk_at "ev"
        refine ⟨_, _, _, _, rfl, rfl, .inl (.inl (s2 _ _ hrp)), at_of (j := 1) (v := .int e0) rfl (by rw [z2]; rfl), ?_⟩
        walk_at "ev"
        refine ⟨(by show 2 ≤ sizeLine; decide), fun t3 n3 => ?_⟩
        walk_at "ev"
        exact ⟨s2.trans (same_upd n3), rfl⟩
      · rename_i hX
        have e := not_X hX
        have z1 := hC.hs.trans (if_neg e)
        have z2 := hC.he.trans (if_neg e)
        refine ⟨_, _, _, _, rfl, rfl, .inl (.inl (s2 _ _ hrp)), at_of (j := 2) (v := .int s0) rfl (by rw [z1]; rfl), ?_⟩
        walk_at "ev"
        refine ⟨_, _, _, _, rfl, rfl, .inl (.inl (s2 _ _ hrp)), at_of (j := 3) (v := .int e0) rfl (by rw [z2]; rfl), ?_⟩
        walk_at "ev"
        refine ⟨(by show 2 ≤ sizeLine; decide), fun t3 n3 => ?_⟩
        walk_at "ev"
        exact ⟨s2.trans (same_upd n3), rfl⟩
    rintro σ G ⟨s3, rfl⟩
    clear s2 hl2 hh2
    walk_at "ev"
    refine ⟨lo, dl, _, rfl, s3 _ _ hl1, lo, _, _, rfl, hlo.same s3, hC.l1, fun q1 H1 n1 s4 R1 => ?_⟩
    walk_at "ev"
    refine ⟨q1, c, W1, _, rfl, hc, R1, hC.l1, hC.w1, hC.r1, fun q2 H2 s5 R2 => ?_⟩
    rw [hC.lo] at R2
    walk_at "ev"
    refine ⟨fun σ G => ∃ (q3 : Addr) (v7 : Option V), Same H2 G ∧ Rows (fun _ => True) G q3 (cols.map (halvH s0)) ∧ σ = [some (.ref lo), some (.ref hi), some (.ref rp), some (.str (SX.S [c])), some (.int s0), some (.int e0), some (.ref q2), v7, some (.ref q3), none, none, none], ?_, ?_⟩
    · have s6 := (s3.trans s4).trans s5
      walk_at "ev"
      refine ⟨hi, dh, _, rfl, s6 _ _ hh1, hi, _, _, rfl, hhi.same s6, hC.l2, fun q4 H4 n4 s7 R4 => ?_⟩
      walk_at "ev"
      refine ⟨q4, c, W2, _, rfl, hc, R4, hC.l2, hC.w2, hC.r2, fun q5 H5 s8 R5 => ?_⟩
      walk_at "ev"
      obtain ⟨_, as2, e2, A2⟩ := R2
      have s78 := s7.trans s8
      have e25 := s78 _ _ e2
      obtain ⟨_, as5, e5, A5⟩ := _root_.id R5
      rcases hC.hi with hh | ⟨hh, hz⟩
      · rw [hh] at R5 A5
        refine ⟨true, .inl ⟨_, .inl (.inl e5), ?_⟩, fun _ => ?_, fun z => nomatch z⟩
        · have z : 0 < (as5.map V.ref).length := by
            rw [List.length_map, A5.1, List.length_map]
            exact len_pos hC.ne
          cases as5 with
          | nil => exact absurd z (Nat.lt_irrefl 0)
          | cons a as => rfl
        · walk_at "ev"
          exact ⟨q5, _, s78, R5, rfl⟩
      · rw [hh] at A5
        refine ⟨false, .inl ⟨_, .inl (.inl e5), by rw [List.length_eq_zero_iff.mp A5.1]; rfl⟩, fun z => (nomatch z), fun _ => ?_⟩
        have hal : (as2.map V.ref).length = cols.length := by rw [List.length_map, A2.1, List.length_map]
        walk_at "ev"
        refine ⟨⟨_, .inl (.inl e25)⟩, fun D nD => ?_⟩
        refine lc_it (walk_list (xs := as2.map V.ref)) (fun i G => Same H5 G ∧ ∃ ds : List Addr, G D = some (.lst (ds.map V.ref)) ∧ RowsA (· ≠ D) G ds ((cols.map fun _ => ([] : List Int)).take i)) ⟨same_upd nD, [], upd_same, .nil⟩ (fun _ _ _ h => .inl (.inl (h.1 _ _ e25))) ?_ ?_
        · rintro i x G G2 hi ⟨s9, ds, eD, hD⟩ ⟨rfl, hx⟩
          rw [hal] at hi
          have hci := hC.len
          have hdl : ds.length = i := by
            rw [hD.1, List.length_take, List.length_map]
            omega
          have hr : (cols.map fun _ => ([] : List Int))[i]? = some [] := by
            rw [List.getElem?_map, List.getElem?_eq_getElem hi]
            rfl
          walk_at "ev"
          refine ⟨by show 0 ≤ sizeLine; decide, fun d nd => ?_⟩
          have ndD : d ≠ D := fun z => by
            rw [z, eD] at nd
            cases nd
          refine ⟨_, new_at eD nd, small1000 (by rw [List.length_map]; omega), fun b' o e => ?_, ds ++ [d], by rw [upd_same, List.map_append]; rfl, ?_⟩
          · rw [upd_ne (ne_of_none e nD)]
            exact new_at (s9 _ _ e) nd
          · rw [← take_snoc hr]
            refine (hD.up fun b' o n e => ⟨n, ?_⟩).app ndD ?_
            · rw [upd_ne n]
              exact new_at e nd
            · rw [upd_ne ndD, upd_same]
              rfl
        · rintro G ⟨s9, ds, eD, hD⟩
          rw [hal, ← List.length_map (as := cols) (fun _ => ([] : List Int)), List.take_length, ← hz] at hD
          exact ⟨D, _, s78.trans s9, ⟨trivial, ds, eD, hD.up fun b o _ e => ⟨trivial, e⟩⟩, rfl⟩
    rintro σ G1 ⟨q3, v7, s6, R3, rfl⟩
    obtain ⟨_, as2, e2, A2⟩ := R2
    obtain ⟨_, as3, e3, A3⟩ := R3
    have s16 := ((s3.trans s4).trans s5).trans s6
    have e21 := s6 _ _ e2
    have l2 : as2.length = cols.length := by rw [A2.1, List.length_map]
    have l3 : as3.length = cols.length := by rw [A3.1, List.length_map]
    have g2 := lstAt_of e21
    have g3 := lstAt_of e3
    walk_at "ev"
    refine ⟨fun σ G => ∃ (q4 : Addr) (v7 v9 v10 : Option V), Same G1 G ∧ Rows (fun _ => True) G q4 cols ∧ σ = [some (.ref lo), some (.ref hi), some (.ref rp), some (.str (SX.S [c])), some (.int s0), some (.int e0), some (.ref q2), v7, some (.ref q3), v9, v10, some (.ref q4)], ?_, ?_⟩
    · walk_at "ev"
      refine ⟨[q2, q3], lstAt G1, rfl, by simp, (by show 2 ≤ 900; decide), fun a m => ?_, fun D nD => ?_⟩
      · rcases List.mem_cons.mp m with rfl | m
        · exact .inl (.inl (by rw [g2]; exact e21))
        · obtain rfl := List.mem_singleton.mp m
          exact .inl (.inl (by rw [g3]; exact e3))
      refine lc_it (walk_zipN (xss := lstAt G1) (n := cols.length) fun a m => ?_) (fun i G => Same G1 G ∧ ∃ ds : List Addr, G D = some (.lst (ds.map V.ref)) ∧ RowsA (· ≠ D) G ds (cols.take i)) ⟨same_upd nD, [], upd_same, .nil⟩ (fun i G _ h a m => ?_) ?_ ?_
      · rcases List.mem_cons.mp m with rfl | m
        · rw [g2, List.length_map, l2]
        · obtain rfl := List.mem_singleton.mp m
          rw [g3, List.length_map, l3]
      · rcases List.mem_cons.mp m with rfl | m
        · exact .inl (.inl (by rw [g2]; exact h.1 _ _ e21))
        · obtain rfl := List.mem_singleton.mp m
          exact .inl (.inl (by rw [g3]; exact h.1 _ _ e3))
      · rintro i x G G2 hi ⟨s9, ds, eD, hD⟩ ⟨t, rfl, nt, rfl⟩
        obtain ⟨b2, hb2⟩ : ∃ b, as2[i]? = some b := ⟨as2[i]'(by omega), List.getElem?_eq_getElem _⟩
        obtain ⟨b3, hb3⟩ : ∃ b, as3[i]? = some b := ⟨as3[i]'(by omega), List.getElem?_eq_getElem _⟩
        obtain ⟨r, hr⟩ : ∃ r, cols[i]? = some r := ⟨cols[i], List.getElem?_eq_getElem _⟩
        have x2 : (lstAt G1 q2).getD i .non = .ref b2 := by
          rw [g2, List.getD_eq_getElem?_getD, List.getElem?_map, hb2]
          rfl
        have x3 : (lstAt G1 q3).getD i .non = .ref b3 := by
          rw [g3, List.getD_eq_getElem?_getD, List.getElem?_map, hb3]
          rfl
        have x23 : ([q2, q3].map fun a => (lstAt G1 a).getD i V.non) = [.ref b2, .ref b3] := by
          rw [List.map_cons, List.map_cons, List.map_nil, x2, x3]
        rw [x23]
        have E2 := s9 _ _ (s6 _ _ (A2.2 i b2 (halvL s0 r) hb2 (by rw [List.getElem?_map, hr]; rfl)).2)
        have E3 := s9 _ _ (A3.2 i b3 (halvH s0 r) hb3 (by rw [List.getElem?_map, hr]; rfl)).2
        have hrl := hC.row r (List.mem_of_getElem? hr)
        have hcl := hC.len
        have sT := s9.trans (same_upd (o := .tup [.ref b2, .ref b3]) nt)
        have eDT := new_at (o' := .tup [.ref b2, .ref b3]) eD nt
        have E2 := new_at (o' := .tup [.ref b2, .ref b3]) E2 nt
        have E3 := new_at (o' := .tup [.ref b2, .ref b3]) E3 nt
        have hDT : RowsA (· ≠ D) (upd G t (.tup [.ref b2, .ref b3])) ds (cols.take i) := hD.up fun b o n e => ⟨n, new_at e nt⟩
        have eT : upd G t (.tup [.ref b2, .ref b3]) t = some (.tup [.ref b2, .ref b3]) := upd_same
        generalize upd G t (.tup [.ref b2, .ref b3]) = G5 at sT eDT E2 E3 hDT eT ⊢
        walk_at "ev"
        have hs := hC.lt
        have hs1 := hC.le
        have hs2 := hC.b1
        have hs3 := hC.b2
        have hdl : ds.length = i := by
          rw [hDT.1, List.length_take]
          omega
        refine ⟨b2, b3, s0, e0, halvL s0 r, halvH s0 r, rfl, E2, E3, hC.lt, hC.le, by omega, by omega, ?_, fun h => ?_, fun d G6 nd s10 ed => ?_⟩
        · rw [halvL_len, hrl]
          omega
        · rw [halvH_len, hrl]
          omega
        have ndD : d ≠ D := fun z => by
          rw [z, eDT] at nd
          cases nd
        have er : jRow s0 e0 (halvL s0 r) (halvH s0 r) = r := by
          have z := jRow_of s0 r
          rw [hrl, show s0 + (e0 - s0) = e0 from by omega] at z
          exact z
        rw [er] at ed
        refine ⟨_, s10 _ _ eDT, small1000 (by rw [List.length_map]; omega), fun b' o e => ?_, ds ++ [d], by rw [upd_same, List.map_append]; rfl, ?_⟩
        · rw [upd_ne (ne_of_none e nD)]
          exact s10 _ _ (sT _ _ e)
        · rw [← take_snoc hr]
          refine (hDT.up fun b' o n e => ⟨n, ?_⟩).app ndD ?_
          · rw [upd_ne n]
            exact s10 _ _ e
          · rw [upd_ne ndD]
            exact ed
      · rintro G ⟨s9, ds, eD, hD⟩
        rw [List.take_length] at hD
        exact ⟨D, _, _, _, s9, ⟨trivial, ds, eD, hD.up fun b o _ e => ⟨trivial, e⟩⟩, rfl⟩
    rintro σ G2 ⟨q4, v7, v9, v10, s9, R4, rfl⟩
    walk_at "ev"
    have sZ := s16.trans s9
    have hF := (GR.rc hG).2
    have hgl := hG.sz.1
    have hgy := hG.y
    have hgym := hG.ym
    have hle := hC.le
    refine ⟨rp, q4, c, (e0 - s0).toNat, g.x0, g.x1, g.y0, g.y1, cols, g.rows, rfl, hc, sZ _ _ hrp, Int.le_of_lt hG.x, Int.le_of_lt hG.y, R4, .inl ⟨hG.x, hG.y, hC.back.symm, hC.ne, hC.len, by omega, fun r m => by have := hC.row r m; omega, by omega, hF⟩, fun x H' nx s11 hg => q x H' (sZ.free nx) (sZ.trans s11) (hg.mono fun b e => sZ.free e)⟩
/-! ### bands put together again -/
theorem dpa_rc {K : PySem.W.Frag} {H : Hp} : ∀ {as : List Addr} {ds : List Gd}, RcA H as ds → DpAll K H (as.map V.ref) (ds.map fun d => .tuple (d.rc.map PyData.int))
  | [], [], _ => .nil
  | [], _ :: _, h => nomatch h.1
  | _ :: _, [], h => nomatch h.1
  | a :: as, d :: ds, h => .cons (dp_tups (h.2 0 a d rfl rfl)) (dpa_rc ⟨Nat.succ.inj h.1, fun i b s e1 e2 => h.2 (i + 1) b s e1 e2⟩)
theorem sh_rcs (ds : List Gd) : SeqAt.shaped (.list (ds.map fun d => .tuple (d.rc.map PyData.int))) = true := (shd_lst (n := 1) fun d m => by
  obtain ⟨r, _, rfl⟩ := List.mem_map.mp m
  exact shd_tup (n := 0) fun d m => by
    obtain ⟨r, _, rfl⟩ := List.mem_map.mp m
    exact shd_int r).sh (by decide)
theorem q_neRc {K : PySem.W.Frag} {H : Hp} {p q : Addr} {as bs : List Addr} {ds : List Gd} {Q : VK} (hp : H p = some (.lst (as.map V.ref))) (ha : RcA H as ds) (hq : H q = some (.lst (bs.map V.ref))) (hb : RcA H bs ds) (h : Q (.bl false) H) : rNeD K (.ref p) (.ref q) H Q :=
  ⟨_, _, .lst (.inl (.inl hp)) (dpa_rc ha), .lst (.inl (.inl hq)) (dpa_rc hb), sh_rcs ds, sh_rcs ds, by rw [eqv_same (sh_rcs ds)]; exact h⟩
theorem RcA.past {H : Hp} {as : List Addr} {ds : List Gd} {D : Addr} {xs : List V} {o : HO} (h : RcA H as ds) (hD : H D = some (.lst xs)) : RcA (upd H D o) as ds :=
  ⟨h.1, fun i a d e1 e2 => by
    have e := h.2 i a d e1 e2
    rw [upd_ne (fun z => by
      rw [z, hD] at e
      cases e)]
    exact e⟩
theorem highsD_get : ∀ (ls : List Nat) (g : Gd) (i c : Nat), ls[i]? = some c → (highsD ls g)[i]? = some (highD c (lowsD (ls.take i) g))
  | [], _, _, _, h => by cases h
  | b :: ls, g, 0, c, h => by
    obtain rfl := Option.some.inj h
    rfl
  | b :: ls, g, i + 1, c, h => highsD_get ls (lowD b g) i c h
def spUnb (K : PySem.W.Frag) (C : Addr) : Sp := fun vs H Q _ => ∃ (p rp : Addr) (as : List Addr) (g : Gd) (ls : List Nat), vs = [.ref p, .ref rp, .str (SX.S ls)] ∧ GRd g ∧ LetW ls ∧ ls.length ≤ 10 ∧ H rp = some (.tup (g.rc.map V.int)) ∧ H p = some (.lst (as.map V.ref)) ∧ AllG (fun _ => True) C H as (lowsD ls g :: (highsD ls g).reverse) ∧
  ∀ (x : Addr) (H' : Hp), Same H H' → GridN (fun _ => True) C H' x g.rc g.rows → Q (.ref x) H'
theorem ok_unbands {f C : Addr} {fd : FuncData} {k : Nat} (F : Fun K "unbands" "unbands" s_unbands f fd) (T : Txt mg) (GK : GridK K C) (M_rect : CalP P w K mg base 1 C "rect" (spGRect C))
    (c_check_rect : C8.Cal P w K mg base 1 "check_rect" (spChk K) []) (c_check_cells : C8.Cal P w K mg base 2 "_check_cells" (spCells K) []) (c_check_word : C8.Cal P w K mg base 2 "_check_word" spChkW []) (c_band_rects : C8.Cal P w K mg base 2 "band_rects" (spBRects K) []) (c_joined : C8.Cal P w K mg base 7 "joined" (spJoined K C) []) :
    FnOk P w K mg base CX0 (k + 8) f fd ["parts", "rect", "word"] (spUnb K C) := by
  refine F.ok sc_unbands (fun vs H Q E h => ?_) (fun cdv A outer s H vs Q E hr h => ?_)
  · obtain ⟨p, rp, as, g, ls, rfl, _⟩ := h
    rfl
  · obtain ⟨p, rp, as, g, ls, rfl, hG, hL, hl, hrp, hp, hA, q⟩ := h
    have hu := hr.units
    refine ⟨_, (pss_cons (ps_expr (C8.pe_c c_check_rect hr (by omega) (by rfl) (pa_cons (pv 1) pa_nil)))
    (pss_cons (ps_expr (C8.pe_c c_check_cells hr (by omega) (by rfl) (pa_cons (pv 1) pa_nil)))
    (pss_cons (ps_expr (C8.pe_c c_check_word hr (by omega) (by rfl) (pa_cons (pv 2) pa_nil)))
    (C8.pss_cut (ps_if (pt_cmpR (op_neD hu) (pe_lc (own := [("part", 3)]) (g := (gName 3)) (tt := tYes) rfl sc_unbands.nd (pi_list (pv 0)) (blkOk_by (N := ["parts", "rect", "word", "part", "low", "number", "high"]) (sc := defScope s_unbands) (by decide +kernel)) (fun _ _ _ _ _ => pg_name (i := 3) sc_unbands.nd rfl (by first | exact Or.inl rfl | exact Or.inr rfl)) (fun _ _ _ _ _ => pts_nil) (fun _ _ _ _ _ => (pe_pr M_rect GK.cl hr (by omega) (pv 3) rfl))) (C8.pe_c c_band_rects hr (by omega) (by rfl) (pa_cons (pv 1) (pa_cons (pv 2) pa_nil))) (nomark _)) (pss_one ps_never) pss_nil)
    (pss_cons (ps_set (i := 4) sc_unbands.nd rfl (Or.inl rfl) (pe_ix ix_list (pv 0) pe_int (fun _ _ => rfl)))
    (pss_cons (ps_for PassesOwn.never rfl (pi_revR (by rfl) T.z_reversed (prg_1 (by rfl) T.z_range (pe_callB call_len_str (by rfl) T.z_len PySem.boot_len (pa_cons (pv 2) pa_nil)))) (pg_name (i := 5) sc_unbands.nd rfl (Or.inl rfl))
      (pss_cons (ps_set (i := 6) sc_unbands.nd rfl (Or.inl rfl) (pe_ix ix_list (pv 0) (pe_op op_sub (pe_callB call_len_str (by rfl) T.z_len PySem.boot_len (pa_cons (pv 2) pa_nil)) (pv 5)) (fun _ _ => rfl)))
    (pss_one (ps_set (i := 4) sc_unbands.nd rfl (Or.inl rfl) (C8.pe_c c_joined hr (by omega) (by rfl) (pa_cons (pv 4) (pa_cons (pv 6) (pa_cons (pe_ix ix_list (C8.pe_c c_band_rects hr (by omega) (by rfl) (pa_cons (pv 1) (pa_cons (pe_slice C8.sl_txt (pv 2) po_none (po_some (pv 5))) pa_nil))) pe_int (fun _ _ => rfl)) (pa_cons (pe_ix ix_str (pv 2) (pv 5) (fun _ _ => rfl)) pa_nil)))))))))
    (pss_one (ps_ret (pv 4))))))))), ?_⟩
    walk_at "ev"
    refine ⟨rp, g.x0, g.x1, g.y0, g.y1, rfl, .inl (.inl hrp), Int.le_of_lt hG.x, Int.le_of_lt hG.y, ?_⟩
    walk_at "ev"
    refine ⟨rp, g.x0, g.x1, g.y0, g.y1, rfl, .inl (.inl hrp), hG.x, hG.y, ?_⟩
    walk_at "ev"
    have hal : as.length = ls.length + 1 := by rw [hA.1, List.length_cons, List.length_reverse, highsD_len]
    refine ⟨hL, hl, fun σ G => Same H G ∧ ∃ v3, σ = [some (.ref p), some (.ref rp), some (.str (SX.S ls)), v3, none, none, none], ?_, ?_⟩
    · walk_at "ev"
      refine ⟨⟨_, .inl (.inl hp)⟩, fun D nD => ?_⟩
      obtain ⟨gs, hgs⟩ : ∃ gs, lowsD ls g :: (highsD ls g).reverse = gs := ⟨_, rfl⟩
      rw [hgs] at hA
      have hml : (as.map V.ref).length = gs.length := by rw [List.length_map, hA.1]
      have hgl : gs.length = ls.length + 1 := by rw [← hA.1, hal]
      refine lc_it (walk_list (xs := as.map V.ref)) (fun i G => Same H G ∧ ∃ ts : List Addr, G D = some (.lst (ts.map V.ref)) ∧ RcA G ts (gs.take i)) ⟨same_upd nD, [], upd_same, .nil⟩ (fun _ _ _ h => .inl (.inl (h.1 _ _ hp))) ?_ ?_
      · rintro i x G G2 hi ⟨s1, ts, eD, hT⟩ ⟨rfl, hx⟩
        rw [List.getElem?_map] at hx
        obtain ⟨b, hb, rfl⟩ := Option.map_eq_some_iff.mp hx
        obtain ⟨d, hd⟩ : ∃ d, gs[i]? = some d := ⟨gs[i]'(by omega), List.getElem?_eq_getElem _⟩
        obtain ⟨db, t, pp, hb1, hb2, _⟩ := (hA.2 i b d hb hd).same s1
        have htl : ts.length = i := by
          rw [hT.1, List.length_take]
          omega
        walk_at "ev"
        refine ⟨b, db, _, rfl, hb1, b, t, pp, db, rfl, hb1, ?_⟩
        refine ⟨_, eD, small1000 (by rw [List.length_map]; omega), fun b' o e => ?_, ts ++ [t], by rw [upd_same, List.map_append]; rfl, ?_⟩
        · rw [upd_ne (ne_of_none e nD)]
          exact s1 _ _ e
        · rw [← take_snoc hd]
          refine (hT.past eD).app ?_
          rw [upd_ne (fun z => by
            rw [z, eD] at hb2
            cases hb2)]
          exact hb2
      · rintro G ⟨s1, ts, eD, hT⟩
        rw [hml, List.take_length] at hT
        walk_at "ev"
        refine ⟨rp, g, ls, rfl, s1 _ _ hrp, hL, hl, fun q2 as2 H2 n2 s2 e2 A2 => ?_⟩
        rw [hgs] at A2
        refine q_neRc (s2 _ _ eD) (hT.same s2) e2 A2 ?_
        walk_at "ev"
        exact ⟨s1.trans s2, _, rfl⟩
    rintro σ G ⟨s1, v3, rfl⟩
    obtain ⟨a0, ha0⟩ : ∃ a, as[0]? = some a := ⟨as[0]'(by omega), List.getElem?_eq_getElem _⟩
    have hls : (SX.S ls).length = ls.length := SX.S_len ls
    walk_at "ev"
    refine ⟨_, _, _, _, rfl, rfl, .inl (.inl (s1 _ _ hp)), at_of (j := 0) (v := .ref a0) rfl (by rw [List.getElem?_map, ha0]; rfl), ?_⟩
    walk_at "ev"
    have hz : (SX.S ls).length ≤ sizeLine := by
      rw [hls]
      exact Nat.le_of_lt (small1000 (by omega))
    have hnn : ((ls.length : Int) - 0).toNat = ls.length := by omega
    have g0 : (lowsD ls g :: (highsD ls g).reverse)[0]? = some (lowsD ls g) := rfl
    have h0 := (hA.2 0 a0 _ ha0 g0).same s1
    refine ⟨hz, ?_⟩
    rw [hls]
    refine ⟨_, rfl, by decide, by decide, Int.le_trans (by decide) (Int.natCast_nonneg _), Int.lt_of_le_of_lt (show (ls.length : Int) ≤ 10 by omega) (by decide), ?_⟩
    refine for_it walk_rangeC (fun i σ G => ∃ (lw : Addr) (v5 v6 : Option V), σ = [some (.ref p), some (.ref rp), some (.str (SX.S ls)), v3, some (.ref lw), v5, v6] ∧ Same H G ∧ GridN (fun _ => True) C G lw (lowsD (ls.take (ls.length - i)) g).rc (lowsD (ls.take (ls.length - i)) g).rows)
      ⟨a0, _, _, rfl, s1, by rw [Nat.sub_zero, List.take_length]; exact h0⟩ (fun _ _ _ _ _ => trivial) ?_ ?_
    · rintro i x σ G G2 hi ⟨lw, v5, v6, rfl, s2, hg2⟩ ⟨rfl, ex⟩
      rw [hnn] at hi
      obtain ⟨k', hk⟩ : ∃ k', i + k' + 1 = ls.length := ⟨ls.length - 1 - i, by omega⟩
      obtain ⟨c, hc⟩ : ∃ c, ls[k']? = some c := ⟨ls[k']'(by omega), List.getElem?_eq_getElem _⟩
      have hcl := hL c (List.mem_of_getElem? hc)
      replace ex : x = .int (k' : Int) := ex.trans (congrArg V.int (by show (0 : Int) + ((((ls.length : Int) - 0).toNat : Nat) : Int) - 1 + ((i : Nat) : Int) * -1 = (k' : Int); omega))
      subst ex
      have ht : ls.take (ls.length - i) = ls.take k' ++ [c] := by
        rw [show ls.length - i = k' + 1 from by omega]
        exact (take_snoc hc).symm
      have hG2 := hG.lows (ls.take k')
      rw [ht, lowsD_app] at hg2
      rw [show ls.length - (i + 1) = k' from by omega]
      obtain ⟨b, hb⟩ : ∃ b, as[i + 1]? = some b := ⟨as[i + 1]'(by omega), List.getElem?_eq_getElem _⟩
      have hgb : (lowsD ls g :: (highsD ls g).reverse)[i + 1]? = some (highD c (lowsD (ls.take k') g)) := by
        show ((highsD ls g).reverse)[i]? = _
        rw [List.getElem?_reverse (by rw [highsD_len]; omega), highsD_len, show ls.length - 1 - i = k' from by omega]
        exact highsD_get ls g k' c hc
      have hb2 := (hA.2 (i + 1) b _ hb hgb).same s2
      walk_at "ev"
      refine ⟨hz, ?_⟩
      rw [hls]
      walk_at "ev"
      refine ⟨_, _, _, _, rfl, rfl, .inl (.inl (s2 _ _ hp)), at_of (j := i + 1) (v := .ref b) (by omega) (by rw [List.getElem?_map, hb]; rfl), ?_⟩
      walk_at "ev"
      refine ⟨hz, ?_⟩
      walk_at "ev"
      rw [SX.slice_to (by omega), Int.toNat_natCast]
      refine ⟨rp, g, ls.take k', rfl, s2 _ _ hrp, fun c m => hL c (List.mem_of_mem_take m), by rw [List.length_take]; omega, fun q3 as3 H3 n3 s3 e3 A3 => ?_⟩
      obtain ⟨b3, hb3⟩ : ∃ b, as3[0]? = some b := ⟨as3[0]'(by rw [A3.1]; exact Nat.zero_lt_succ _), List.getElem?_eq_getElem _⟩
      have E3 := A3.2 0 b3 _ hb3 rfl
      refine ⟨_, _, _, _, rfl, rfl, .inl (.inl e3), at_of (j := 0) (v := .ref b3) rfl (by rw [List.getElem?_map, hb3]; rfl), ?_⟩
      walk_at "ev"
      refine ⟨_, _, c, rfl, rfl, hz, atI_nat hc, ?_⟩
      walk_at "ev"
      have s4 := s2.trans s3
      refine ⟨lw, b, b3, c, lowsD (ls.take k') g, rfl, hcl, hG2, E3, (hg2.same s3).mono fun _ _ => trivial, (hb2.same s3).mono fun _ _ => trivial, fun x5 H5 n5 s5 g5 => ?_⟩
      exact ⟨x5, _, _, rfl, s4.trans s5, g5.mono fun _ _ => trivial⟩
    · rintro σ G ⟨lw, v5, v6, rfl, s2, hg2⟩
      rw [hnn, Nat.sub_self] at hg2
      walk_at "ev"
      exact q lw G s2 hg2
/-! ### a word -/
theorem joinL_one : ∀ cs : List Nat, TL.joinL [] (cs.map fun c => [c]) = cs
  | [] => rfl
  | [c] => rfl
  | c :: d :: r => by
    show [c] ++ ([] ++ TL.joinL [] ((d :: r).map fun c => [c])) = _
    rw [joinL_one (d :: r)]
    rfl
theorem join_cs (cs : List Nat) : Txt.join (Str.ofString "") (cs.map fun c => SX.S [c]) = SX.S cs := by
  have e := SX.join_S [] (cs.map fun c => [c])
  rw [joinL_one, List.map_map] at e
  rw [str_nil]
  exact e
theorem sum_ones (cs : List Nat) : ((cs.map fun c => SX.S [c]).map (·.length)).sum = cs.length := by
  induction cs with
  | nil => rfl
  | cons c r ih =>
    rw [List.map_cons, List.map_cons, List.sum_cons, ih, List.length_cons, SX.S_len]
    show 1 + _ = _
    omega
def spWord : Sp := fun vs H Q _ => ∃ (a : Addr), vs = [.ref a] ∧ Src H a ∧ ∀ (ls : List Nat) (H' : Hp), LetW ls → ls.length ≤ 10 → Src H' a → Up a H H' → Q (.str (SX.S ls)) H'
theorem ok_word {f : Addr} {fd : FuncData} {k : Nat} (F : Fun K "_law_word" "_law_word" s_law_word f fd) (T : Txt mg) (c_law_one : C8.Cal P w K mg base 2 "_law_one" spOne []) : FnOk P w K mg base CX0 (k + 3) f fd ["_law_source"] spWord := by
  refine F.ok sc_law_word (fun vs H Q E h => ?_) (fun cdv A outer s H vs Q E hr h => ?_)
  · obtain ⟨a, rfl, _⟩ := h
    rfl
  · obtain ⟨a, rfl, ha, q⟩ := h
    refine ⟨_, (pss_cons (ps_set (i := 1) sc_law_word.nd rfl (Or.inl rfl) (C8.pe_c c_law_one hr (by omega) (by rfl) (pa_cons (pv 0) (pa_cons (pe_lst (pa_cons pe_int (pa_cons pe_int (pa_cons pe_int (pa_cons pe_int (pa_cons pe_int (pa_cons pe_int (pa_cons pe_int (pa_cons pe_int (pa_cons pe_int pa_nil)))))))))) pa_nil))))
    (pss_one (ps_ret (pe_join pe_str (pe_lc (own := [("_law_turn", 2)]) (g := (gName 2)) (tt := tYes) rfl sc_law_word.nd (pi_range1 (by rfl) T.z_range (pa_cons (pv 1) pa_nil)) (blkOk_by (N := ["_law_source", "_law_many", "_law_turn"]) (sc := defScope s_law_word) (by decide +kernel)) (fun _ _ _ _ _ => pg_name (i := 2) sc_law_word.nd rfl (by first | exact Or.inl rfl | exact Or.inr rfl)) (fun _ _ _ _ _ => pts_nil) (fun _ _ _ _ _ => (C8.pe_c c_law_one hr (by omega) (by rfl) (pa_cons (pv 0) (pa_cons (pe_lst (pa_cons pe_str (pa_cons pe_str pa_nil))) pa_nil))))))))), ?_⟩
    walk_at "ev"
    refine ⟨(by show 9 ≤ sizeLine; decide), fun t0 nt0 => ?_⟩
    walk_at "ev"
    refine ⟨_, _, _, rfl, src_same (same_upd nt0) ha, (ha.ne nt0).symm, upd_same, (by simp), (by show 9 ≤ 1000; decide), fun v H1 hv s1 u1 => ?_⟩
    obtain ⟨m, rfl, hm0, hm⟩ : ∃ m : Int, v = .int m ∧ 0 ≤ m ∧ m ≤ 10 := by
      simp only [List.mem_cons, List.not_mem_nil, or_false] at hv
      rcases hv with e | e | e | e | e | e | e | e | e <;> exact ⟨_, e, by decide, by decide⟩
    have U1 : Up a H H1 := (up_same (same_upd nt0)).trans u1.up
    walk_at "ev"
    refine ⟨⟨_, rfl⟩, ?_⟩
    walk_at "ev"
    refine ⟨by omega, by omega, fun D nD => ?_⟩
    have nDa : D ≠ a := (s1.ne nD).symm
    refine lc_it walk_range (fun i H2 => Up a H1 H2 ∧ Src H2 a ∧ ∃ ls : List Nat, H2 D = some (.lst (ls.map fun c => V.str (SX.S [c]))) ∧ LetW ls ∧ ls.length = i) ⟨up_same (same_upd nD), src_same (same_upd nD) s1, [], upd_same, fun _ m => absurd m List.not_mem_nil, rfl⟩ (fun _ _ _ _ => trivial) ?_ ?_
    · rintro i x H2 H3 hi ⟨u2, s2, ls, e2, hL, hl⟩ ⟨rfl, rfl⟩
      walk_at "ev"
      refine ⟨(by show 2 ≤ sizeLine; decide), fun t nt => ?_⟩
      refine ⟨_, _, _, rfl, src_same (same_upd nt) s2, (s2.ne nt).symm, upd_same, (by simp), (by show 2 ≤ 1000; decide), fun v H4 hv s4 u4 => ?_⟩
      obtain ⟨c, rfl, hc⟩ : ∃ c, v = V.str (SX.S [c]) ∧ (c = 88 ∨ c = 89) := by
        simp only [List.mem_cons, List.not_mem_nil, or_false] at hv
        rcases hv with e | e
        · exact ⟨88, by rw [e, str_X], .inl rfl⟩
        · exact ⟨89, by rw [e, str_Y], .inr rfl⟩
      have e4 := u4.up _ _ nDa (new_at (o' := .lst _) e2 nt)
      refine ⟨_, e4, small1000 (by rw [List.length_map]; omega), fun b o nb e => ?_, src_keep nDa.symm s4, ls ++ [c], by rw [upd_same, List.map_append]; rfl, fun z m => ?_, by rw [List.length_append, hl]; rfl⟩
      · rw [upd_ne (ne_of_none e nD)]
        exact u4.up _ _ nb (new_at (o' := .lst _) (u2 _ _ nb e) nt)
      · rcases List.mem_append.mp m with m | m
        · exact hL z m
        · rw [List.mem_singleton.mp m]
          exact hc
    · rintro H2 ⟨u2, s2, ls, e2, hL, hl⟩
      refine ⟨_, D, ls.map (fun c => SX.S [c]), rfl, rfl, .inl (.inl (.inl (by rw [e2, List.map_map]; rfl))), ?_, ?_⟩
      · rw [sum_ones, List.length_map]
        show ls.length + ls.length * 0 ≤ _
        omega
      rw [join_cs]
      exact q ls H2 hL (by omega) s2 (U1.trans u2)
/-! ### the law's bands: dicts of cells -/
def cellsD (g : Gd) : Cel → Option Int := cellsS g.x0 g.x1 g.y0 g.y1 g.rows
theorem fold_none {wr : Cel → Option (Cel × Int)} {g : Cel} : ∀ (zs : List Cel) (L : Cel → Option Int), (∀ z ∈ zs, ∀ u, wr z ≠ some (g, u)) → L g = none → zs.foldl (stepW wr) L g = none
  | [], _, _, h => h
  | z :: zs, L, hz, h => fold_none zs (stepW wr L z) (fun y m => hz y (List.mem_cons_of_mem _ m)) (by
    cases e : wr z with
    | none => exact (congrFun (stepW_none e) g).trans h
    | some p =>
      have ne : g ≠ p.1 := fun q => hz z List.mem_cons_self p.2 (by rw [e, q])
      refine (congrFun (stepW_some (g := p.1) (v := p.2) e) g).trans ?_
      unfold setC
      rw [if_neg ne]
      exact h)
theorem wrL_dom {c : Nat} {S : Cel → Option Int} {z g : Cel} {u : Int} (h : wrL c S z = some (g, u)) : (S z).isSome = true := by
  unfold wrL at h
  split at h <;> first | (rename_i e _; rw [e]; rfl) | cases h
theorem wrH_dom {c : Nat} {S : Cel → Option Int} {z g : Cel} {u : Int} (h : wrH c S z = some (g, u)) : (S z).isSome = true ∧ (S (oC c z)).isSome = true := by
  unfold wrH at h
  split at h
  · rename_i e1 e2
    rw [e1, e2]
    exact ⟨rfl, rfl⟩
  · cases h
theorem cells_dom {x0 x1 y0 y1 : Int} {rows : List (List Int)} {z : Cel} (h : (cellsS x0 x1 y0 y1 rows z).isSome = true) : inR x0 x1 y0 y1 z := by
  by_cases h1 : inR x0 x1 y0 y1 z
  · exact h1
  · rw [cellsS_out h1] at h
    cases h
theorem in_lowR {c : Nat} (hc : Lt2 c) {x0 x1 y0 y1 a0 a1 b0 b1 : Int} (e : lowR c x0 x1 y0 y1 = [a0, a1, b0, b1]) {z : Cel} (h : inR x0 x1 y0 y1 z) : inR a0 a1 b0 b1 (gC c z) := by
  obtain ⟨z1, z2, z3, z4⟩ := h
  rcases hc with rfl | rfl
  · have q : lowR 88 x0 x1 y0 y1 = [x0 / 2, (x1 + 1) / 2, y0, y1] := rfl
    rw [q] at e
    simp only [List.cons.injEq, and_true] at e
    obtain ⟨rfl, rfl, rfl, rfl⟩ := e
    refine ⟨?_, ?_, z3, z4⟩
    · show x0 / 2 ≤ z.1 / 2
      omega
    · show z.1 / 2 < (x1 + 1) / 2
      omega
  · have q : lowR 89 x0 x1 y0 y1 = [x0, x1, y0 / 2, (y1 + 1) / 2] := rfl
    rw [q] at e
    simp only [List.cons.injEq, and_true] at e
    obtain ⟨rfl, rfl, rfl, rfl⟩ := e
    refine ⟨z1, z2, ?_, ?_⟩
    · show y0 / 2 ≤ z.2 / 2
      omega
    · show z.2 / 2 < (y1 + 1) / 2
      omega
theorem in_highR {c : Nat} (hc : Lt2 c) {x0 x1 y0 y1 a0 a1 b0 b1 : Int} (e : highR c x0 x1 y0 y1 = [a0, a1, b0, b1]) {g : Cel} (h : inR x0 x1 y0 y1 (eC c g)) (h2 : inR x0 x1 y0 y1 (pC c g)) : inR a0 a1 b0 b1 g := by
  obtain ⟨p1, p2, p3, p4⟩ := h
  obtain ⟨q1, q2, q3, q4⟩ := h2
  rcases hc with rfl | rfl
  · have q : highR 88 x0 x1 y0 y1 = [(x0 + 1) / 2, x1 / 2, y0, y1] := rfl
    rw [q] at e
    simp only [List.cons.injEq, and_true] at e
    obtain ⟨rfl, rfl, rfl, rfl⟩ := e
    have p1 : x0 ≤ 2 * g.1 := p1
    have q2 : 2 * g.1 + 1 < x1 := q2
    refine ⟨?_, ?_, p3, p4⟩ <;> omega
  · have q : highR 89 x0 x1 y0 y1 = [x0, x1, (y0 + 1) / 2, y1 / 2] := rfl
    rw [q] at e
    simp only [List.cons.injEq, and_true] at e
    obtain ⟨rfl, rfl, rfl, rfl⟩ := e
    have p3 : y0 ≤ 2 * g.2 := p3
    have q4 : 2 * g.2 + 1 < y1 := q4
    refine ⟨p1, p2, ?_, ?_⟩ <;> omega
theorem fold_lowD {c : Nat} (hc : Lt2 c) {g : Gd} (hG : GRd g) {zs : List Cel} (dom : ∀ z, z ∈ zs ↔ (cellsD g z).isSome = true) : foldW (wrL c (cellsD g)) zs = cellsD (lowD c g) := by
  funext q
  obtain ⟨a0, a1, b0, b1, eL, fL, gL, _, _, _⟩ := low_all hc hG
  have el : (lowD c g).rc = [a0, a1, b0, b1] := (lowD_rc c g).trans eL
  unfold Gd.rc at el
  simp only [List.cons.injEq, and_true] at el
  obtain ⟨l1, l2, l3, l4⟩ := el
  unfold cellsD
  rw [l1, l2, l3, l4, lowD_rows, gL]
  by_cases hq : inR a0 a1 b0 b1 q
  · rw [cellsS_in hq]
    refine (fold_low hc dom (fL q hq)).trans (congrArg some ?_)
    exact (cell_rowsF (x := q.1) (y := q.2) hq).symm
  · rw [cellsS_out hq]
    refine fold_none _ _ (fun z m u e => hq ?_) rfl
    have h1 := in_lowR hc eL (cells_dom ((dom z).mp m))
    rw [wr_out.1 e] at h1
    exact h1
theorem fold_highD {c : Nat} (hc : Lt2 c) {g : Gd} (hG : GRd g) {zs : List Cel} (dom : ∀ z, z ∈ zs ↔ (cellsD g z).isSome = true) : foldW (wrH c (cellsD g)) zs = cellsD (highD c g) := by
  funext q
  obtain ⟨a0, a1, b0, b1, eH, fH, gH, _⟩ := high_all hc hG
  have eh : (highD c g).rc = [a0, a1, b0, b1] := (highD_rc c g).trans eH
  unfold Gd.rc at eh
  simp only [List.cons.injEq, and_true] at eh
  obtain ⟨l1, l2, l3, l4⟩ := eh
  unfold cellsD
  rw [l1, l2, l3, l4, highD_rows, gH]
  by_cases hq : inR a0 a1 b0 b1 q
  · rw [cellsS_in hq]
    refine (fold_high hc dom (fH q hq).1 (fH q hq).2).trans (congrArg some ?_)
    exact (cell_rowsF (x := q.1) (y := q.2) hq).symm
  · rw [cellsS_out hq]
    refine fold_none _ _ (fun z m u e => hq ?_) rfl
    have h1 := wrH_dom e
    have d1 := cells_dom h1.1
    have d2 := cells_dom h1.2
    rcases gC_inv hc (wr_out.2 e) with rfl | rfl
    · rw [oC_e hc] at d2
      exact in_highR hc eH d1 d2
    · rw [oC_p hc] at d2
      exact in_highR hc eH d2 d1
/-- a place and its cells, of each band -/
def BdA (H : Hp) (as : List Addr) (ds : List Gd) : Prop := as.length = ds.length ∧ ∀ (i : Nat) (a : Addr) (d : Gd), as[i]? = some a → ds[i]? = some d → ∃ t D, H a = some (.tup [.ref t, .ref D]) ∧ H t = some (.tup (d.rc.map V.int)) ∧ CD H D (cellsD d) 900
theorem BdA.nil {H : Hp} : BdA H [] [] := ⟨rfl, fun i b r e => nomatch e⟩
theorem BdA.cons {H : Hp} {as : List Addr} {ds : List Gd} {b : Addr} {d : Gd} (e : ∃ t D, H b = some (.tup [.ref t, .ref D]) ∧ H t = some (.tup (d.rc.map V.int)) ∧ CD H D (cellsD d) 900) (h : BdA H as ds) : BdA H (b :: as) (d :: ds) :=
  ⟨congrArg Nat.succ h.1, fun i c s e1 e2 => match i, e1, e2 with
    | 0, e1, e2 => by
      cases e1
      cases e2
      exact e
    | i + 1, e1, e2 => h.2 i c s e1 e2⟩
theorem BdA.same {H H' : Hp} {as : List Addr} {ds : List Gd} (h : BdA H as ds) (s : Same H H') : BdA H' as ds := ⟨h.1, fun i a d e1 e2 => by
  obtain ⟨t, D, h1, h2, h3⟩ := h.2 i a d e1 e2
  exact ⟨t, D, s _ _ h1, s _ _ h2, h3.same s⟩⟩
def spLBands (K : PySem.W.Frag) : Sp := fun vs H Q _ => ∃ (rp d : Addr) (g : Gd) (ls : List Nat), vs = [.ref rp, .ref d, .str (SX.S ls)] ∧ H rp = some (.tup (g.rc.map V.int)) ∧ CD H d (cellsD g) 900 ∧ GRd g ∧ LetW ls ∧ ls.length ≤ 10 ∧
  ∀ (q : Addr) (as : List Addr) (H' : Hp), H q = none → Same H H' → H' q = some (.lst (as.map V.ref)) → BdA H' as (lowsD ls g :: (highsD ls g).reverse) → Q (.ref q) H'
theorem ok_lbands {f : Addr} {fd : FuncData} {k : Nat} (F0 : Fun K "_law_bands" "_law_bands" s_law_bands f fd) (T : Txt mg) (c_law_half_rects : C8.Cal P w K mg base 1 "_law_half_rects" (spHRects K) []) (c_law_half : C8.Cal P w K mg base 1 "_law_half" spHalf []) : FnOk P w K mg base CX0 (k + 2) f fd ["_law_rect_here", "_law_cells_here", "_law_word_here"] (spLBands K) := by
  refine F0.ok sc_law_bands (fun vs H Q E h => ?_) (fun cdv A outer s H vs Q E hr h => ?_)
  · obtain ⟨rp, d, g, ls, rfl, _⟩ := h
    rfl
  · obtain ⟨rp, d, g, ls, rfl, hrp, hd, hG, hL, hl, q⟩ := h
    refine ⟨_, (pss_cons (ps_set (i := 3) sc_law_bands.nd rfl (Or.inl rfl) (pe_lst pa_nil))
    (pss_cons (ps_for PassesOwn.never rfl (pi_str (pv 2)) (pg_name (i := 4) sc_law_bands.nd rfl (Or.inl rfl))
      (pss_cons (ps_par (i := 5) (j := 6) rfl sc_law_bands.nd rfl rfl (by decide) rfl rfl (pa_cons (C8.pe_c c_law_half_rects hr (by omega) (by rfl) (pa_cons (pv 0) (pa_cons (pv 4) pa_nil))) (pa_cons (C8.pe_c c_law_half hr (by omega) (by rfl) (pa_cons (pv 1) (pa_cons (pv 4) pa_nil))) pa_nil)) rfl)
    (pss_cons (ps_set (i := 3) sc_law_bands.nd rfl (Or.inl rfl) (pe_op op_cat (pe_lst (pa_cons (pe_tup (pa_cons (pe_ix ix_list (pv 5) pe_int (fun _ _ => rfl)) (pa_cons (pe_ix ix_list (pv 6) pe_int (fun _ _ => rfl)) pa_nil))) pa_nil)) (pv 3)))
    (pss_one (ps_par (i := 0) (j := 1) rfl sc_law_bands.nd rfl rfl (by decide) rfl rfl (pa_cons (pe_ix ix_list (pv 5) pe_int (fun _ _ => rfl)) (pa_cons (pe_ix ix_list (pv 6) pe_int (fun _ _ => rfl)) pa_nil)) rfl)))))
    (pss_one (ps_ret (pe_op op_cat (pe_lst (pa_cons (pe_tup (pa_cons (pv 0) (pa_cons (pv 1) pa_nil))) pa_nil)) (pv 3)))))), ?_⟩
    walk_at "ev"
    refine ⟨(by show 0 ≤ sizeLine; decide), fun F nF => ?_⟩
    walk_at "ev"
    have hsz : (SX.S ls).cps.size = ls.length := rfl
    refine for_it (walk_str (z := SX.S ls)) (fun i σ G => ∃ (rp1 d1 F1 : Addr) (as : List Addr) (v4 v5 v6 : Option V), σ = [some (.ref rp1), some (.ref d1), some (.str (SX.S ls)), some (.ref F1), v4, v5, v6] ∧ Same H G ∧ G rp1 = some (.tup ((lowsD (ls.take i) g).rc.map V.int)) ∧ CD G d1 (cellsD (lowsD (ls.take i) g)) 900 ∧ G F1 = some (.lst (as.map V.ref)) ∧ BdA G as (highsD (ls.take i) g).reverse)
      ⟨rp, d, F, [], _, _, _, rfl, same_upd nF, new_at hrp nF, hd.same (same_upd nF), upd_same, .nil⟩ (fun _ _ _ _ _ => trivial) ?_ ?_
    · rintro i y σ G G2 hi ⟨rp1, d1, F1, as, v4, v5, v6, rfl, s1, h1, h2, h3, h4⟩ ⟨rfl, c, hc, rfl⟩
      have hc' := cps_get hc
      have hcl := hL c (List.mem_of_getElem? hc')
      have ht1 : ls.take (i + 1) = ls.take i ++ [c] := (take_snoc hc').symm
      have hG3 := hG.lows (ls.take i)
      have hal : as.length ≤ 10 := by
        rw [h4.1, List.length_reverse, highsD_len, List.length_take]
        omega
      rw [ht1, lowsD_app, highsD_app, List.reverse_append]
      generalize lowsD (ls.take i) g = gi at h1 h2 hG3 ⊢
      generalize (highsD (ls.take i) g).reverse = his at h4 ⊢
      walk_at "ev"
      refine ⟨rp1, c, gi.x0, gi.x1, gi.y0, gi.y1, rfl, hcl, .inl (.inl h1), fun q1 t u H5 n5 s5 e5 et eu => ?_⟩
      rw [← lowD_rc] at et
      rw [← highD_rc] at eu
      walk_at "ev"
      refine ⟨d1, c, _, 900, rfl, hcl, h2.same s5, Nat.le_refl _, fun q2 lo hi zs H6 n6 s6 e6 dom cl ch => ?_⟩
      rw [fold_lowD hcl hG3 dom] at cl
      rw [fold_highD hcl hG3 dom] at ch
      have s56 := s5.trans s6
      have h36 := s56 _ _ h3
      have h46 := h4.same s56
      have e56 := s6 _ _ e5
      have et6 := s6 _ _ et
      have eu6 := s6 _ _ eu
      have sH6 := s1.trans s56
      clear h1 h2 h3 h4 s5 n5 e5 et eu s6 n6 s56 dom
      walk_at "ev"
      refine ⟨(by show 2 ≤ sizeLine; decide), fun t1 nt1 => ?_⟩
      walk_at "ev"
      refine ⟨(by show 1 ≤ sizeLine; decide), fun p1 np1 => ?_⟩
      walk_at "ev"
      have sA := same_upd (o := .tup [.ref u, .ref hi]) nt1
      have sB := same_upd (o := .lst [.ref t1]) np1
      refine ⟨p1, F1, _, _, rfl, rfl, upd_same, sB _ _ (sA _ _ h36), Nat.le_of_lt (small1000 (by rw [List.length_map]; show 1 + _ ≤ 1000; omega)), fun p2 n2 => ?_⟩
      have sC := same_upd (o := .lst ([V.ref t1] ++ as.map V.ref)) n2
      have sABC := (sA.trans sB).trans sC
      have eT := (sB.trans sC) _ _ (upd_same (H := H6) (a := t1) (o := .tup [.ref u, .ref hi]))
      have eP : upd (upd (upd H6 t1 (.tup [.ref u, .ref hi])) p1 (.lst [.ref t1])) p2 (.lst ([V.ref t1] ++ as.map V.ref)) p2 = some (.lst ((t1 :: as).map V.ref)) := upd_same
      have e56 := sABC _ _ e56
      have e6 := sABC _ _ e6
      generalize upd (upd (upd H6 t1 (.tup [.ref u, .ref hi])) p1 (.lst [.ref t1])) p2 (.lst ([V.ref t1] ++ as.map V.ref)) = H7 at sABC eT eP e56 e6 ⊢
      walk_at "ev"
      exact ⟨t, lo, p2, t1 :: as, _, _, _, rfl, sH6.trans sABC, sABC _ _ et6, cl.same sABC, eP, .cons ⟨u, hi, eT, sABC _ _ eu6, ch.same sABC⟩ (h46.same sABC)⟩
    · rintro σ G ⟨rp1, d1, F1, as, v4, v5, v6, rfl, s1, h1, h2, h3, h4⟩
      rw [hsz, List.take_length] at h1 h2 h4
      have hal : as.length ≤ 10 := by
        rw [h4.1, List.length_reverse, highsD_len]
        exact hl
      walk_at "ev"
      refine ⟨(by show 2 ≤ sizeLine; decide), fun t1 nt1 => ?_⟩
      refine ⟨(by show 1 ≤ sizeLine; decide), fun p1 np1 => ?_⟩
      walk_at "ev"
      have sA := same_upd (o := .tup [.ref rp1, .ref d1]) nt1
      have sB := same_upd (o := .lst [.ref t1]) np1
      refine ⟨p1, F1, _, _, rfl, rfl, upd_same, sB _ _ (sA _ _ h3), Nat.le_of_lt (small1000 (by rw [List.length_map]; show 1 + _ ≤ 1000; omega)), fun p2 n2 => ?_⟩
      have sC := same_upd (o := .lst ([V.ref t1] ++ as.map V.ref)) n2
      have sABC := (sA.trans sB).trans sC
      have eT := (sB.trans sC) _ _ (upd_same (H := G) (a := t1) (o := .tup [.ref rp1, .ref d1]))
      exact q p2 (t1 :: as) _ ((s1.trans (sA.trans sB)).free n2) (s1.trans sABC) upd_same (.cons ⟨rp1, d1, eT, sABC _ _ h1, h2.same sABC⟩ (h4.same sABC))
/-! ### what bands refuse -/
def WordOk (ls : List Nat) : Prop := LetW ls ∧ ls.length ≤ 10
def spChkWX (BF : Addr) : Sp := fun vs H Q E => ∃ (ls : List Nat), vs = [.str (SX.S ls)] ∧ ls.length ≤ 100 ∧ (WordOk ls → Q .non H) ∧ (¬ WordOk ls → ∀ (d : Addr) (H' : Hp), H d = none → Same H H' → H' d = some (.xd [("name", .str "word")]) → E (.ref BF) (some d) H')
theorem S_X {c : Nat} (h : SX.S [c] = "X") : c = 88 := by
  have e : SX.S [c] = SX.S [88] := h.trans (by decide +kernel)
  have e2 : ([c] : List Nat).toArray = [88].toArray := congrArg Str.cps e
  simpa using e2
theorem S_Y {c : Nat} (h : SX.S [c] = "Y") : c = 89 := by
  have e : SX.S [c] = SX.S [89] := h.trans (by decide +kernel)
  have e2 : ([c] : List Nat).toArray = [89].toArray := congrArg Str.cps e
  simpa using e2
theorem ok_chkwX {f f1 BF : Addr} {fd fd1 : FuncData} {k : Nat} {t : Tok} (F : Fun K "_check_word" "_check_word" s_check_word f fd) (T : Txt mg) (x_BadField : XDef P w K mg base "BadField" "name" BF) (hML : mg "MOST_LETTERS" = some (.int 10 t))
    (G_check_letter : FnOk P w K mg base (L2.CX P w) 3 f1 fd1 ["letter"] (spLetterX BF)) (g_check_letter : mg "_check_letter" = some (.ref f1)) (k_check_letter : PySem.W.keepIn K (.ref f1) = true) (b_check_letter : Binds K fd1 ["letter"] []) : FnOk P w K mg base (L2.CX P w) (k + 4) f fd ["word"] (spChkWX BF) := by
  refine F.okX sc_check_word (fun vs H Q E h => ?_) (fun cdv A outer s H vs Q E hr h => ?_)
  · obtain ⟨ls, rfl, _⟩ := h
    rfl
  · obtain ⟨ls, rfl, hb, q, x⟩ := h
    have hs : (SX.S ls).length ≤ sizeLine := by
      rw [SX.S_len]
      exact Nat.le_of_lt (small1000 (by omega))
    have hsl := SX.S_len ls
    refine ⟨_, (pss_cons (ps_if (pt_cmpR op_gt (pe_callB call_len_str (by rfl) T.z_len PySem.boot_len (pa_cons (pv 0) pa_nil)) (pe_glob (v := .int 10) (by rfl) hML ⟨_, rfl⟩) (nomark _)) (pss_one (ps_raise rfl (takes_of rfl rfl rfl rfl) (pmk_x x_BadField hr (by omega) (by rfl) pe_str))) pss_nil)
    (pss_one (ps_for (passes_of rfl) rfl (pi_str (pv 0)) (pg_name (i := 1) sc_check_word.nd rfl (Or.inl rfl))
      (pss_one (ps_expr (pe_call G_check_letter (hr.mono (by omega)) (by rfl) g_check_letter k_check_letter b_check_letter .nil (passes_call (takes_of rfl rfl rfl rfl) (fun _ _ _ _ h => h)) (pa_cons (pv 1) pa_nil))))))), ?_⟩
    walk_at "ev"
    refine ⟨hs, ?_⟩
    walk_at "ev"
    · rename_i hl
      exact mkx_in fun d H2 nd s2 ed => x (fun z => by have := z.2; rw [hsl] at hl; omega) d H2 nd s2 ed
    rename_i hl
    rw [hsl] at hl
    refine for_it (walk_str (z := SX.S ls)) (fun i σ H3 => H3 = H ∧ (∃ v, σ = [some (.str (SX.S ls)), v]) ∧ ∀ j c, j < i → ls[j]? = some c → c = 88 ∨ c = 89) ⟨rfl, ⟨_, rfl⟩, fun j c hj => absurd hj (Nat.not_lt_zero j)⟩ (fun _ _ _ _ _ => trivial) ?_ ?_
    · rintro i y σ H3 H4 hi ⟨rfl, ⟨v, rfl⟩, hp⟩ ⟨rfl, c, hc, rfl⟩
      have hc' := cps_get hc
      walk_at "ev"
      refine ⟨fun ht => ?_, fun n1 n2 d H' nd s' ed => x (fun z => ?_) d H' nd s' ed⟩
      · walk_at "ev"
        refine ⟨⟨_, rfl⟩, fun j c' hj hcj => ?_⟩
        rcases Nat.lt_succ_iff_lt_or_eq.mp hj with hj | rfl
        · exact hp j c' hj hcj
        · rw [hc'] at hcj
          obtain rfl := Option.some.inj hcj
          exact ht.elim (fun z => .inl (S_X z)) (fun z => .inr (S_Y z))
      · rcases z.1 c (List.mem_of_getElem? hc') with rfl | rfl
        · exact n1 (by decide +kernel)
        · exact n2 (by decide +kernel)
    · rintro σ H3 ⟨rfl, ⟨v, rfl⟩, hp⟩
      walk_at "ev"
      refine q ⟨fun c m => ?_, by omega⟩
      obtain ⟨j, hj⟩ := List.getElem?_of_mem m
      exact hp j c (List.getElem?_eq_some_iff.mp hj).1 hj
def spBandsX (K : PySem.W.Frag) (C O BF : Addr) : Sp := fun vs H Q E => ∃ (x : Addr) (ls : List Nat) (x0 x1 y0 y1 : Int) (rows : List (List Int)), vs = [.ref x, .str (SX.S ls)] ∧ GridAt C H x [x0, x1, y0, y1] rows ∧ ls.length ≤ 100 ∧ ((¬ (x0 < x1 ∧ y0 < y1) ∧ E (.ref O) none H) ∨
  (x0 < x1 ∧ y0 < y1 ∧ ¬ WordOk ls ∧ ∀ (d : Addr) (H' : Hp), H d = none → Same H H' → H' d = some (.xd [("name", .str "word")]) → E (.ref BF) (some d) H'))
theorem ok_bandsX {f f1 f2 C O BF : Addr} {fd fd1 fd2 : FuncData} {k : Nat} (F : Fun K "bands" "bands" s_bands f fd) (T : Txt mg) (GK : GridK K C) (M_rect : CalP P w K mg base 1 C "rect" (spGRect C))
    (G_check_cells : FnOk P w K mg base (L2.CX P w) 2 f1 fd1 ["rect"] (spCellsX K O)) (g_check_cells : mg "_check_cells" = some (.ref f1)) (k_check_cells : PySem.W.keepIn K (.ref f1) = true) (b_check_cells : Binds K fd1 ["rect"] [])
    (G_check_word : FnOk P w K mg base (L2.CX P w) 4 f2 fd2 ["word"] (spChkWX BF)) (g_check_word : mg "_check_word" = some (.ref f2)) (k_check_word : PySem.W.keepIn K (.ref f2) = true) (b_check_word : Binds K fd2 ["word"] [])
    (c_halved : C8.Cal P w K mg base 7 "halved" (spHalved K C) []) :
    FnOk P w K mg base (L2.CX P w) (k + 8) f fd ["grid", "word"] (spBandsX K C O BF) := by
  refine F.okX sc_bands (fun vs H Q E h => ?_) (fun cdv A outer s H vs Q E hr h => ?_)
  · obtain ⟨x, t, x0, x1, y0, y1, rows, rfl, _⟩ := h
    rfl
  · obtain ⟨x, ls, x0, x1, y0, y1, rows, rfl, ⟨dx, rp, p, hx, ht, hR⟩, hl, h⟩ := h
    refine ⟨_, (pss_cons (ps_expr (pe_call G_check_cells (hr.mono (by omega)) (by rfl) g_check_cells k_check_cells b_check_cells .nil (passes_call (takes_of rfl rfl rfl rfl) (fun _ _ _ _ h => h)) (pa_cons (pe_pr M_rect GK.cl hr (by omega) (pv 0) rfl) pa_nil)))
    (pss_cons (ps_expr (pe_call G_check_word (hr.mono (by omega)) (by rfl) g_check_word k_check_word b_check_word .nil (passes_call (takes_of rfl rfl rfl rfl) (fun _ _ _ _ h => h)) (pa_cons (pv 1) pa_nil)))
    (pss_cons (ps_set (i := 2) sc_bands.nd rfl (Or.inl rfl) (pv 0))
    (pss_cons (ps_set (i := 3) sc_bands.nd rfl (Or.inl rfl) (pe_lst pa_nil))
    (pss_cons (ps_for (passes_of rfl) rfl (pi_str (pv 1)) (pg_name (i := 4) sc_bands.nd rfl (Or.inl rfl))
      (pss_cons (ps_asg (C8.pe_c c_halved hr (by omega) (by rfl) (pa_cons (pv 2) (pa_cons (pv 4) pa_nil))) (pg_tup rfl (pgs_cons (pg_name (i := 2) sc_bands.nd rfl (Or.inl rfl)) (pgs_cons (pg_name (i := 5) sc_bands.nd rfl (Or.inl rfl)) pgs_nil))))
    (pss_one (ps_expr (pe_bm PySem.F.plainAttrs_list PySem.F.slot_list_append PySem.F.type_list_append mt_append (pv 3) (pa_cons (pv 5) pa_nil))))))
    (pss_one (ps_ret (pe_op op_cat (pe_lst (pa_cons (pv 2) pa_nil)) (pe_revL (pv 3)))))))))), ?_⟩
    walk_at "ev"
    refine ⟨x, dx, _, rfl, hx, x, rp, p, dx, rfl, hx, ?_⟩
    walk_at "ev"
    rcases h with ⟨hc, e⟩ | ⟨hx, hy, n1, e⟩
    · exact ⟨rp, x0, x1, y0, y1, rfl, .inl (.inl ht), fun h1 h2 => absurd ⟨h1, h2⟩ hc, fun _ => e⟩
    · refine ⟨rp, x0, x1, y0, y1, rfl, .inl (.inl ht), fun _ _ => ?_, fun z => absurd ⟨hx, hy⟩ z⟩
      walk_at "ev"
      exact ⟨hl, fun z => absurd z n1, fun _ d H' nd s' ed => e d H' nd s' ed⟩
/-! ### what is refused on the way back -/
theorem eqv_rcs : ∀ (ds es : List Gd), PyData.eqv (.list (ds.map fun d => .tuple (d.rc.map PyData.int))) (.list (es.map fun d => .tuple (d.rc.map PyData.int))) = decide (ds.map Gd.rc = es.map Gd.rc) := by
  intro ds es
  rw [PyData.eqv]
  induction ds generalizing es with
  | nil => cases es <;> rfl
  | cons d ds ih =>
    cases es with
    | nil => rfl
    | cons e es =>
      show (PyData.eqv (.tuple (d.rc.map PyData.int)) (.tuple (e.rc.map PyData.int)) && _) = _
      rw [ih es]
      rw [show PyData.eqv (.tuple (d.rc.map PyData.int)) (.tuple (e.rc.map PyData.int)) = decide (d.rc = e.rc) from by
        rw [PyData.eqv]
        exact PySem.W.ked_eqvAll _ _]
      simp only [List.map_cons, List.cons.injEq, Bool.decide_and]
theorem q_neRd {K : PySem.W.Frag} {H : Hp} {p q : Addr} {as bs : List Addr} {ds es : List Gd} {Q : VK} (hp : H p = some (.lst (as.map V.ref))) (ha : RcA H as ds) (hq : H q = some (.lst (bs.map V.ref))) (hb : RcA H bs es) (hn : ds.map Gd.rc ≠ es.map Gd.rc) (h : Q (.bl true) H) : rNeD K (.ref p) (.ref q) H Q :=
  ⟨_, _, .lst (.inl (.inl hp)) (dpa_rc ha), .lst (.inl (.inl hq)) (dpa_rc hb), sh_rcs ds, sh_rcs es, by rw [eqv_rcs, decide_eq_false hn]; exact h⟩
def spUnbX (K : PySem.W.Frag) (C O BF BG : Addr) : Sp := fun vs H Q E => ∃ (p rp : Addr) (x0 x1 y0 y1 : Int) (ls : List Nat), vs = [.ref p, .ref rp, .str (SX.S ls)] ∧ H rp = some (.tup [.int x0, .int x1, .int y0, .int y1]) ∧ ls.length ≤ 100 ∧
  ((¬ (x0 ≤ x1 ∧ y0 ≤ y1) ∧ E (.ref BG) none H) ∨ (x0 ≤ x1 ∧ y0 ≤ y1 ∧ ¬ (x0 < x1 ∧ y0 < y1) ∧ E (.ref O) none H) ∨
   (x0 < x1 ∧ y0 < y1 ∧ ¬ WordOk ls ∧ ∀ (d : Addr) (H' : Hp), H d = none → Same H H' → H' d = some (.xd [("name", .str "word")]) → E (.ref BF) (some d) H') ∨
   (x0 < x1 ∧ y0 < y1 ∧ WordOk ls ∧ ∃ (as : List Addr) (ds : List Gd) (g : Gd), g.rc = [x0, x1, y0, y1] ∧ H p = some (.lst (as.map V.ref)) ∧ as.length ≤ 100 ∧ AllG (fun _ => True) C H as ds ∧ ds.map Gd.rc ≠ (lowsD ls g :: (highsD ls g).reverse).map Gd.rc ∧ ∀ H' : Hp, Same H H' → E (.ref BG) none H'))
theorem ok_unbX {f f1 f2 f3 C O BF BG : Addr} {fd fd1 fd2 fd3 : FuncData} {k : Nat} (F : Fun K "unbands" "unbands" s_unbands f fd) (T : Txt mg) (GK : GridK K C) (e_BadGrid : ECls K mg "BadGrid" BG) (M_rect : CalP P w K mg base 1 C "rect" (spGRect C))
    (G_check_rect : FnOk P w K mg base (L2.CX P w) 1 f3 fd3 ["rect"] (spChkX K BG)) (g_check_rect : mg "check_rect" = some (.ref f3)) (k_check_rect : PySem.W.keepIn K (.ref f3) = true) (b_check_rect : Binds K fd3 ["rect"] [])
    (G_check_cells : FnOk P w K mg base (L2.CX P w) 2 f1 fd1 ["rect"] (spCellsX K O)) (g_check_cells : mg "_check_cells" = some (.ref f1)) (k_check_cells : PySem.W.keepIn K (.ref f1) = true) (b_check_cells : Binds K fd1 ["rect"] [])
    (G_check_word : FnOk P w K mg base (L2.CX P w) 4 f2 fd2 ["word"] (spChkWX BF)) (g_check_word : mg "_check_word" = some (.ref f2)) (k_check_word : PySem.W.keepIn K (.ref f2) = true) (b_check_word : Binds K fd2 ["word"] [])
    (c_band_rects : C8.Cal P w K mg base 2 "band_rects" (spBRects K) []) (c_joined : C8.Cal P w K mg base 7 "joined" (spJoined K C) []) :
    FnOk P w K mg base (L2.CX P w) (k + 8) f fd ["parts", "rect", "word"] (spUnbX K C O BF BG) := by
  refine F.okX sc_unbands (fun vs H Q E h => ?_) (fun cdv A outer s H vs Q E hr h => ?_)
  · obtain ⟨p, rp, x0, x1, y0, y1, ls, rfl, _⟩ := h
    rfl
  · obtain ⟨p, rp, x0, x1, y0, y1, ls, rfl, hrp, hl, h⟩ := h
    have hu := hr.units
    refine ⟨_, (pss_cons (ps_expr (pe_call G_check_rect (hr.mono (by omega)) (by rfl) g_check_rect k_check_rect b_check_rect .nil (passes_call (takes_of rfl rfl rfl rfl) (fun _ _ _ _ h => h)) (pa_cons (pv 1) pa_nil)))
    (pss_cons (ps_expr (pe_call G_check_cells (hr.mono (by omega)) (by rfl) g_check_cells k_check_cells b_check_cells .nil (passes_call (takes_of rfl rfl rfl rfl) (fun _ _ _ _ h => h)) (pa_cons (pv 1) pa_nil)))
    (pss_cons (ps_expr (pe_call G_check_word (hr.mono (by omega)) (by rfl) g_check_word k_check_word b_check_word .nil (passes_call (takes_of rfl rfl rfl rfl) (fun _ _ _ _ h => h)) (pa_cons (pv 2) pa_nil)))
    (C8.pss_cut (ps_if (pt_cmpR (op_neD hu) (pe_lc (own := [("part", 3)]) (g := (gName 3)) (tt := tYes) rfl sc_unbands.nd (pi_list (pv 0)) (blkOk_by (N := ["parts", "rect", "word", "part", "low", "number", "high"]) (sc := defScope s_unbands) (by decide +kernel)) (fun _ _ _ _ _ => pg_name (i := 3) sc_unbands.nd rfl (by first | exact Or.inl rfl | exact Or.inr rfl)) (fun _ _ _ _ _ => pts_nil) (fun _ _ _ _ _ => (pe_pr M_rect GK.cl hr (by omega) (pv 3) rfl))) (C8.pe_c c_band_rects hr (by omega) (by rfl) (pa_cons (pv 1) (pa_cons (pv 2) pa_nil))) (nomark _)) (pss_one (ps_raise rfl (takes_of rfl rfl rfl rfl) (pmk_none PySem.F.excBase_ValueError e_BadGrid.xC e_BadGrid.gC e_BadGrid.kC (raises_own e_BadGrid.bC e_BadGrid.tC) (by rfl)))) pss_nil)
    (pss_cons (ps_set (i := 4) sc_unbands.nd rfl (Or.inl rfl) (pe_ix ix_list (pv 0) pe_int (fun _ _ => rfl)))
    (pss_cons (ps_for (passes_of rfl) rfl (pi_revR (by rfl) T.z_reversed (prg_1 (by rfl) T.z_range (pe_callB call_len_str (by rfl) T.z_len PySem.boot_len (pa_cons (pv 2) pa_nil)))) (pg_name (i := 5) sc_unbands.nd rfl (Or.inl rfl))
      (pss_cons (ps_set (i := 6) sc_unbands.nd rfl (Or.inl rfl) (pe_ix ix_list (pv 0) (pe_op op_sub (pe_callB call_len_str (by rfl) T.z_len PySem.boot_len (pa_cons (pv 2) pa_nil)) (pv 5)) (fun _ _ => rfl)))
    (pss_one (ps_set (i := 4) sc_unbands.nd rfl (Or.inl rfl) (C8.pe_c c_joined hr (by omega) (by rfl) (pa_cons (pv 4) (pa_cons (pv 6) (pa_cons (pe_ix ix_list (C8.pe_c c_band_rects hr (by omega) (by rfl) (pa_cons (pv 1) (pa_cons (pe_slice C8.sl_txt (pv 2) po_none (po_some (pv 5))) pa_nil))) pe_int (fun _ _ => rfl)) (pa_cons (pe_ix ix_str (pv 2) (pv 5) (fun _ _ => rfl)) pa_nil)))))))))
    (pss_one (ps_ret (pv 4))))))))), ?_⟩
    walk_at "ev"
    rcases h with ⟨hc, e⟩ | ⟨h1, h2, hc, e⟩ | ⟨hx, hy, n1, e⟩ | ⟨hx, hy, hw, as, ds, g, hg, hp, hal, hA, hne, e⟩
    · exact ⟨rp, x0, x1, y0, y1, rfl, .inl (.inl hrp), fun h1 h2 => absurd ⟨h1, h2⟩ hc, fun _ => e⟩
    · refine ⟨rp, x0, x1, y0, y1, rfl, .inl (.inl hrp), fun _ _ => ?_, fun z => absurd z (by omega)⟩
      walk_at "ev"
      exact ⟨rp, x0, x1, y0, y1, rfl, .inl (.inl hrp), fun h1 h2 => absurd ⟨h1, h2⟩ hc, fun _ => e⟩
    · refine ⟨rp, x0, x1, y0, y1, rfl, .inl (.inl hrp), fun _ _ => ?_, fun z => absurd z (by omega)⟩
      walk_at "ev"
      refine ⟨rp, x0, x1, y0, y1, rfl, .inl (.inl hrp), fun _ _ => ?_, fun z => absurd ⟨hx, hy⟩ z⟩
      walk_at "ev"
      exact ⟨hl, fun z => absurd z n1, fun _ d H' nd s' ed => e d H' nd s' ed⟩
    · refine ⟨rp, x0, x1, y0, y1, rfl, .inl (.inl hrp), fun _ _ => ?_, fun z => absurd z (by omega)⟩
      walk_at "ev"
      refine ⟨rp, x0, x1, y0, y1, rfl, .inl (.inl hrp), fun _ _ => ?_, fun z => absurd ⟨hx, hy⟩ z⟩
      walk_at "ev"
      refine ⟨hl, fun _ => ?_, fun z => absurd hw z⟩
      walk_at "ev"
      refine ⟨fun _ _ => False, ?_, fun _ _ z => z.elim⟩
      walk_at "ev"
      refine ⟨⟨_, .inl (.inl hp)⟩, fun D nD => ?_⟩
      have hml : (as.map V.ref).length = ds.length := by rw [List.length_map, hA.1]
      refine lc_it (walk_list (xs := as.map V.ref)) (fun i G => Same H G ∧ ∃ ts : List Addr, G D = some (.lst (ts.map V.ref)) ∧ RcA G ts (ds.take i)) ⟨same_upd nD, [], upd_same, .nil⟩ (fun _ _ _ h => .inl (.inl (h.1 _ _ hp))) ?_ ?_
      · rintro i x G G2 hi ⟨s1, ts, eD, hT⟩ ⟨rfl, hx⟩
        rw [List.getElem?_map] at hx
        obtain ⟨b, hb, rfl⟩ := Option.map_eq_some_iff.mp hx
        obtain ⟨d, hd⟩ : ∃ d, ds[i]? = some d := ⟨ds[i]'(by omega), List.getElem?_eq_getElem _⟩
        obtain ⟨db, t, pp, hb1, hb2, _⟩ := (hA.2 i b d hb hd).same s1
        have hA1 := hA.1
        have htl : ts.length = i := by
          rw [hT.1, List.length_take]
          omega
        walk_at "ev"
        refine ⟨b, db, _, rfl, hb1, b, t, pp, db, rfl, hb1, ?_⟩
        refine ⟨_, eD, small1000 (by rw [List.length_map]; omega), fun b' o e => ?_, ts ++ [t], by rw [upd_same, List.map_append]; rfl, ?_⟩
        · rw [upd_ne (ne_of_none e nD)]
          exact s1 _ _ e
        · rw [← take_snoc hd]
          refine (hT.past eD).app ?_
          rw [upd_ne (fun z => by
            rw [z, eD] at hb2
            cases hb2)]
          exact hb2
      · rintro G ⟨s1, ts, eD, hT⟩
        rw [hml, List.take_length] at hT
        walk_at "ev"
        refine ⟨rp, g, ls, rfl, by rw [hg]; exact s1 _ _ hrp, hw.1, hw.2, fun q2 as2 H2 n2 s2 e2 A2 => ?_⟩
        refine q_neRd (s2 _ _ eD) (hT.same s2) e2 A2 hne ?_
        walk_at "ev"
        exact e H2 (s1.trans s2)
/-! ### a grid that has bands that are told -/
theorem GRd.rco {g : Gd} (h : GRd g) : RCo g.x0 g.x1 g.y0 g.y1 := (GR.rc h).1
theorem bands_of : ∀ (ls : List Nat) (g : Gd), LetW ls → GRd g → ∀ ds : List Gd, ds.map Gd.rc = (lowsD ls g :: (highsD ls g).reverse).map Gd.rc → (∀ d ∈ ds, Fits d.x0 d.x1 d.y0 d.y1 d.rows) →
    ∃ g', GRd g' ∧ g'.rc = g.rc ∧ lowsD ls g' :: (highsD ls g').reverse = ds
  | [], g, _, hG, ds, e, hF => by
    obtain ⟨d, rfl, e0⟩ := List.map_eq_singleton_iff.mp (show ds.map Gd.rc = [g.rc] from e)
    · have e1 : d.rc = g.rc := e0
      have e2 := e1
      unfold Gd.rc at e2
      simp only [List.cons.injEq, and_true] at e2
      obtain ⟨a1, a2, a3, a4⟩ := e2
      have hf := hF d List.mem_cons_self
      have hr := hG.rco
      rw [← a1, ← a2, ← a3, ← a4] at hr
      exact ⟨d, hr.gr hf, e1, rfl⟩
  | c :: r, g, hL, hG, ds, e, hF => by
    have hc : Lt2 c := hL c List.mem_cons_self
    have e' : ds.map Gd.rc = (lowsD r (lowD c g) :: (highsD r (lowD c g)).reverse).map Gd.rc ++ [(highD c g).rc] := by
      rw [e]
      show (lowsD r (lowD c g) :: (highD c g :: highsD r (lowD c g)).reverse).map Gd.rc = _
      rw [List.reverse_cons, ← List.cons_append, List.map_append]
      rfl
    obtain ⟨l1, l2, rfl, m1, m2⟩ := List.map_eq_append_iff.mp e'
    obtain ⟨h, rfl, hh⟩ := List.map_eq_singleton_iff.mp m2
    obtain ⟨g1, G1, r1, k1⟩ := bands_of r (lowD c g) (fun z m => hL z (List.mem_cons_of_mem _ m)) hG.low l1 m1 fun d m => hF d (List.mem_append_left _ m)
    have hfh := hF h (List.mem_append_right _ List.mem_cons_self)
    have jl := join_low (hi := h) hc hG.rco (r1.trans (lowD_rc c g)) (GR.rc G1).2
    have jh := join_high (lo := g1) hc hG.rco (hh.trans (highD_rc c g)) hfh
    refine ⟨joinD c g.x0 g.x1 g.y0 g.y1 g1 h, join_gr hG.rco, rfl, ?_⟩
    show lowsD r (lowD c _) :: (highD c _ :: highsD r (lowD c _)).reverse = _
    rw [jl, jh, List.reverse_cons, ← List.cons_append, k1]
/-- a band's rect is not large -/
structure InB (d : Gd) : Prop where
  xm : d.x1 ≤ d.x0 + 30
  ym : d.y1 ≤ d.y0 + 30
  xb : -2000000000 ≤ d.x0 ∧ d.x0 ≤ 2000000000
  yb : -2000000000 ≤ d.y0 ∧ d.y0 ≤ 2000000000
  xo : d.x0 ≤ d.x1
  yo : d.y0 ≤ d.y1
theorem InB.low {c : Nat} {g : Gd} (h : InB g) : InB (lowD c g) := by
  obtain ⟨h1, h2, ⟨h3, h4⟩, ⟨h5, h6⟩, h7, h8⟩ := h
  unfold lowD
  split <;> (constructor <;> dsimp only <;> first | assumption | (constructor <;> omega) | omega)
theorem InB.high {c : Nat} {g : Gd} (h : InB g) (hG : GRd g) : InB (highD c g) := by
  have gx := hG.x
  have gy := hG.y
  obtain ⟨h1, h2, ⟨h3, h4⟩, ⟨h5, h6⟩, h7, h8⟩ := h
  unfold highD
  split <;> (constructor <;> dsimp only <;> first | assumption | (constructor <;> omega) | omega)
theorem InB.lows {g : Gd} (h : InB g) : ∀ (ls : List Nat), InB (lowsD ls g) := fun ls => by
  induction ls generalizing g with
  | nil => exact h
  | cons c r ih => exact ih h.low
theorem InB.highs : ∀ (ls : List Nat) {g : Gd}, InB g → GRd g → ∀ d ∈ highsD ls g, InB d
  | [], _, _, _, _, m => nomatch m
  | c :: r, g, h, hG, d, m => by
    rcases List.mem_cons.mp m with rfl | m
    · exact h.high hG
    · exact InB.highs r h.low hG.low d m
theorem InB.all {g : Gd} (h : InB g) (hG : GRd g) (ls : List Nat) : ∀ d ∈ lowsD ls g :: (highsD ls g).reverse, InB d := fun d m => by
  rcases List.mem_cons.mp m with rfl | m
  · exact h.lows ls
  · exact h.highs ls hG d (List.mem_reverse.mp m)
theorem fits_high {c : Nat} (hc : Lt2 c) {g : Gd} (h : GRd g) : Fits (highD c g).x0 (highD c g).x1 (highD c g).y0 (highD c g).y1 (highD c g).rows := by
  obtain ⟨a0, a1, b0, b1, eH, fH, gH, _⟩ := high_all hc h
  have eh : (highD c g).rc = [a0, a1, b0, b1] := (highD_rc c g).trans eH
  unfold Gd.rc at eh
  simp only [List.cons.injEq, and_true] at eh
  obtain ⟨l1, l2, l3, l4⟩ := eh
  rw [l1, l2, l3, l4, highD_rows, gH]
  exact rowsF_fits
theorem fits_highs : ∀ (ls : List Nat) {g : Gd}, LetW ls → GRd g → ∀ d ∈ highsD ls g, Fits d.x0 d.x1 d.y0 d.y1 d.rows
  | [], _, _, _, _, m => nomatch m
  | c :: r, g, hL, hG, d, m => by
    rcases List.mem_cons.mp m with rfl | m
    · exact fits_high (hL c List.mem_cons_self) hG
    · exact fits_highs r (fun z m => hL z (List.mem_cons_of_mem _ m)) hG.low d m
theorem fits_all {g : Gd} (hG : GRd g) {ls : List Nat} (hL : LetW ls) : ∀ d ∈ lowsD ls g :: (highsD ls g).reverse, Fits d.x0 d.x1 d.y0 d.y1 d.rows := fun d m => by
  rcases List.mem_cons.mp m with rfl | m
  · exact (GR.rc (hG.lows ls)).2
  · exact fits_highs ls hL hG d (List.mem_reverse.mp m)
/-- a dict of cells is empty where there are none -/
theorem CD.bare {H : Hp} {D : Addr} {d : Gd} {n : Nat} (h : CD H D (cellsD d) n) : ∃ kvs : List (List Key × V), H D = some (.dT kvs) ∧ kvs.isEmpty = !decide (d.x0 < d.x1 ∧ d.y0 < d.y1) := by
  obtain ⟨kvs, cs, h1, h2, h3, h4, h5⟩ := h.ex
  refine ⟨kvs, h1, ?_⟩
  by_cases hc : d.x0 < d.x1 ∧ d.y0 < d.y1
  · rw [decide_eq_true hc]
    have e := h5 (d.x0, d.y0)
    have z : cellsD d (d.x0, d.y0) = some (cellI d.x0 d.y0 d.rows d.x0 d.y0) := cellsS_in ⟨Int.le_refl _, hc.1, Int.le_refl _, hc.2⟩
    rw [z] at e
    cases kvs with
    | nil => cases e
    | cons a r => rfl
  · rw [decide_eq_false hc]
    cases kvs with
    | nil => rfl
    | cons a r =>
      exfalso
      cases cs with
      | nil => cases h2
      | cons c cs =>
        have ek : a.1 = keyP c := (List.cons.inj h2).1
        have e := h5 c
        have z : cellsD d c = none := cellsS_out fun ⟨z1, z2, z3, z4⟩ => hc ⟨by omega, by omega⟩
        rw [z] at e
        exact (valV_out e) (by rw [← ek]; exact List.mem_cons_self)
/-! ### bands as they should be -/
theorem not_src {a b : Addr} {H : Hp} {o : HO} (h : Src H a) (e : H b = some o) (n : ∀ xs, o ≠ .lst xs) : b ≠ a := fun z => by
  obtain ⟨u, v, e2, _⟩ := h
  rw [z, e2] at e
  cases e
  exact n _ rfl
theorem BdA.upa {a : Addr} {H H' : Hp} {as : List Addr} {ds : List Gd} (h : BdA H as ds) (s : Src H a) (u : Up a H H') : BdA H' as ds := ⟨h.1, fun i b d e1 e2 => by
  obtain ⟨t, D, h1, h2, h3⟩ := h.2 i b d e1 e2
  obtain ⟨kv, hk⟩ := h3.dT
  exact ⟨t, D, u _ _ (not_src s h1 fun _ z => nomatch z) h1, u _ _ (not_src s h2 fun _ z => nomatch z) h2, h3.at_ ((u _ _ (not_src s hk fun _ z => nomatch z) hk).trans hk.symm) (Nat.le_refl _)⟩⟩
theorem AllG.upS {C a S1 : Addr} {H H' : Hp} {as : List Addr} {ds : List Gd} (h : AllG (fun b => b ≠ a ∧ b ≠ S1) C H as ds) (s : Src H a) (u : Up a H H') : AllG (fun b => b ≠ a ∧ b ≠ S1) C H' as ds := h.up fun x rc rows g => by
  obtain ⟨dx, t, p, e1, e2, e3⟩ := g
  exact ⟨dx, t, p, u _ _ (not_src s e1 fun _ z => nomatch z) e1, u _ _ (not_src s e2 fun _ z => nomatch z) e2, e3.up fun b o n e => ⟨n, u b o n.1 e⟩⟩
theorem InB.of_rc {d e : Gd} (h : InB e) (r : d.rc = e.rc) : InB d := by
  obtain ⟨h1, h2, h3, h4, h5, h6⟩ := h
  unfold Gd.rc at r
  simp only [List.cons.injEq, and_true] at r
  obtain ⟨r1, r2, r3, r4⟩ := r
  rw [← r1, ← r2] at h1
  rw [← r3, ← r4] at h2
  rw [← r1] at h3
  rw [← r3] at h4
  rw [← r1, ← r2] at h5
  rw [← r3, ← r4] at h6
  exact ⟨h1, h2, h3, h4, h5, h6⟩
theorem none_src {a : Addr} {H : Hp} (s : Src H a) (e : H a = none) : False := by
  obtain ⟨u, v, e2, _⟩ := s
  rw [e] at e2
  cases e2
theorem none_some {b : Addr} {H : Hp} {o : HO} (s : H b = some o) (e : H b = none) : False := by
  rw [e] at s
  cases s
theorem fits_len {d : Gd} (h : InB d) (f : Fits d.x0 d.x1 d.y0 d.y1 d.rows) : d.rows.length ≤ 900 := by
  have := h.ym
  rcases f with ⟨_, _, e, _⟩ | ⟨_, e⟩
  · omega
  · rw [e]
    exact Nat.zero_le _
def spRight (K : PySem.W.Frag) : Sp := fun vs H Q _ => ∃ (a rp : Addr) (x0 x1 y0 y1 : Int) (ls : List Nat), vs = [.ref a, .ref rp, .str (SX.S ls)] ∧ Src H a ∧ rp ≠ a ∧ H rp = some (.tup [.int x0, .int x1, .int y0, .int y1]) ∧ Sd 30 x0 x1 ∧ Sd 30 y0 y1 ∧ LetW ls ∧ ls.length ≤ 10 ∧
  ∀ H' : Hp, Src H' a → Up a H H' → Q (.bl true) H'
theorem ok_right {f C : Addr} {fd : FuncData} {k : Nat} (F0 : Fun K "_law_right" "_law_right" s_law_right f fd) (T : Txt mg) (GK : GridK K C) (M_Grid : CalC P w K mg base 4 "Grid" C ["rect", "rows"] (spGInit K C)) (M_rect : CalP P w K mg base 1 C "rect" (spGRect C)) (M_rows : CalP P w K mg base 1 C "rows" (spGRows C))
    (c_law_rows : C8.Cal P w K mg base 3 "_law_rows" spRowsL []) (c_law_bands : C8.Cal P w K mg base 2 "_law_bands" (spLBands K) []) (c_law_cells : C8.Cal P w K mg base 1 "_law_cells" (spCellsL K) []) (c_bands : C8.Cal P w K mg base 8 "bands" (spBands K C) []) (c_unbands : C8.Cal P w K mg base 8 "unbands" (spUnb K C) [])
    (c_law_is_grid : C8.Cal P w K mg base 3 "_law_is_grid" (spIsGrid K C) []) (c_law_rows_of : C8.Cal P w K mg base 1 "_law_rows_of" (spRowsOf K) []) : FnOk P w K mg base CX0 (k + 9) f fd ["_law_source", "_law_rect_here", "_law_word_here"] (spRight K) := by
  refine F0.ok sc_law_right (fun vs H Q E h => ?_) (fun cdv A outer s H vs Q E hr h => ?_)
  · obtain ⟨a, rp, x0, x1, y0, y1, ls, rfl, _⟩ := h
    rfl
  · obtain ⟨a, rp, x0, x1, y0, y1, ls, rfl, ha, hna, hrp, sx, sy, hL, hl, q⟩ := h
    have hu := hr.units
    have hu1 := hu_of hr
    refine ⟨_, (pss_cons (ps_set (i := 3) sc_law_right.nd rfl (Or.inl rfl) (C8.pe_c c_law_rows hr (by omega) (by rfl) (pa_cons (pv 0) (pa_cons (pv 1) pa_nil))))
    (C8.pss_cut (ps_par (i := 4) (j := 5) rfl sc_law_right.nd rfl rfl (by decide) rfl rfl (pa_cons (C8.pe_c c_law_bands hr (by omega) (by rfl) (pa_cons (pv 1) (pa_cons (C8.pe_c c_law_cells hr (by omega) (by rfl) (pa_cons (pv 1) (pa_cons (pv 3) pa_nil))) (pa_cons (pv 2) pa_nil)))) (pa_cons (C8.pe_c c_bands hr (by omega) (by rfl) (pa_cons (pe_new M_Grid hr (by omega) (by rfl) passN (pa_cons (pv 1) (pa_cons (pv 3) pa_nil))) (pa_cons (pv 2) pa_nil))) pa_nil)) rfl)
    (pss_cons (ps_if (PW.pt (pw_or (pt_not (pt_val (pe_callB call_isi (by rfl) T.z_isinstance PyProof.Rows.boot_isinstance (pa_cons (pv 5) (pa_cons (pe_bltn (v := .ty "list") (by rfl) T.z_list PyProof.Rows.boot_list rfl) pa_nil))))) (pw_or1 (pt_cmpR op_ne (pe_callB call_len_seq (by rfl) T.z_len PySem.boot_len (pa_cons (pv 5) pa_nil)) (pe_callB call_len_seq (by rfl) T.z_len PySem.boot_len (pa_cons (pv 4) pa_nil)) (nomark _))))) (pss_one (ps_ret pe_bl)) pss_nil)
    (C8.pss_cut (ps_for PassesOwn.never rfl (pi_zipN (by rfl) T.z_zip (pa_cons (pv 5) (pa_cons (pv 4) pa_nil))) (pg_tup rfl (pgs_cons (pg_name (i := 6) sc_law_right.nd rfl (Or.inl rfl)) (pgs_cons (pg_tup rfl (pgs_cons (pg_name (i := 7) sc_law_right.nd rfl (Or.inl rfl)) (pgs_cons (pg_name (i := 8) sc_law_right.nd rfl (Or.inl rfl)) pgs_nil))) pgs_nil)))
      (pss_one (ps_if (pt_not (pt_val (C8.pe_c c_law_is_grid hr (by omega) (by rfl) (pa_cons (pv 6) (pa_cons (pv 7) (pa_cons (C8.pe_c c_law_rows_of hr (by omega) (by rfl) (pa_cons (pv 7) (pa_cons (pv 8) pa_nil))) pa_nil)))))) (pss_one (ps_ret pe_bl)) pss_nil)))
    (C8.pss_cut (ps_if (pt_not (pt_val (C8.pe_c c_law_is_grid hr (by omega) (by rfl) (pa_cons (C8.pe_c c_unbands hr (by omega) (by rfl) (pa_cons (pv 5) (pa_cons (pv 1) (pa_cons (pv 2) pa_nil)))) (pa_cons (pv 1) (pa_cons (pv 3) pa_nil)))))) (pss_one (ps_ret pe_bl)) pss_nil)
    (pss_cons (ps_set (i := 9) sc_law_right.nd rfl (Or.inl rfl) (pe_lst pa_nil))
    (C8.pss_cut (ps_for PassesOwn.never rfl (pi_list (pv 4)) (pg_tup rfl (pgs_cons (pg_name (i := 7) sc_law_right.nd rfl (Or.inl rfl)) (pgs_cons (pg_name (i := 8) sc_law_right.nd rfl (Or.inl rfl)) pgs_nil)))
      (pss_one (ps_expr (pe_bm PySem.F.plainAttrs_list PySem.F.slot_list_append PySem.F.type_list_append mt_append (pv 9) (pa_cons (pe_new M_Grid hr (by omega) (by rfl) passN (pa_cons (pv 7) (pa_cons (pe_ifExp (pt_cmpR (op_eqE hu) (pv 8) pe_dnewT (nomark _)) (pe_lst pa_nil) (C8.pe_c c_law_rows hr (by omega) (by rfl) (pa_cons (pv 0) (pa_cons (pv 7) pa_nil)))) pa_nil))) pa_nil)))))
    (pss_cons (ps_set (i := 10) sc_law_right.nd rfl (Or.inl rfl) (C8.pe_c c_bands hr (by omega) (by rfl) (pa_cons (C8.pe_c c_unbands hr (by omega) (by rfl) (pa_cons (pv 9) (pa_cons (pv 1) (pa_cons (pv 2) pa_nil)))) (pa_cons (pv 2) pa_nil))))
    (pss_one (ps_ret (pe_cmpR (op_eqD hu) (pe_lc (own := [("_law_one_here", 11), ("_law_other", 12)]) (g := (gTup K 2 (gCons (gName 11) (gCons (gName 12) gNil)))) (tt := _) rfl sc_law_right.nd (pi_zipN (by rfl) T.z_zip (pa_cons (pv 10) (pa_cons (pv 9) pa_nil))) (blkOk_by (N := ["_law_source", "_law_rect_here", "_law_word_here", "_law_rows_here", "_law_due", "_law_told", "_law_part", "_law_place", "_law_cells_here", "_law_some", "_law_again", "_law_one_here", "_law_other"]) (sc := defScope s_law_right) (by decide +kernel)) (fun _ _ _ _ _ => pg_tup rfl (pgs_cons (pg_name (i := 11) sc_law_right.nd rfl (by first | exact Or.inl rfl | exact Or.inr rfl)) (pgs_cons (pg_name (i := 12) sc_law_right.nd rfl (by first | exact Or.inl rfl | exact Or.inr rfl)) pgs_nil))) (fun _ _ _ _ _ => (pts_one (pt_not (pt_val (C8.pe_c c_law_is_grid hr (by omega) (by rfl) (pa_cons (pv 11) (pa_cons (pe_pr M_rect GK.cl hr (by omega) (pv 12) rfl) (pa_cons (pe_pr M_rows GK.cl hr (by omega) (pv 12) rfl) pa_nil)))))))) (fun _ _ _ _ _ => pe_int)) (pe_lst pa_nil) (nomark _)))))))))))), ?_⟩
    walk_at "ev"
    obtain ⟨sx1, sx2, sx3, sx4⟩ := sx
    obtain ⟨sy1, sy2, sy3, sy4⟩ := sy
    refine ⟨a, rp, x0, x1, y0, y1, rfl, ha, hna, hrp, ⟨sx1, by omega, sx3, sx4⟩, ⟨sy1, by omega, sy3, sy4⟩, fun q3 H1 rows n1 s1 u1 hR hO => ?_⟩
    have hrp1 := u1 _ _ hna hrp
    have hG : GRd ⟨x0, x1, y0, y1, rows⟩ := ⟨sx1, sy1, by show x1 ≤ x0 + 900; omega, by show y1 ≤ y0 + 900; omega, ⟨by show -3000000000 ≤ x0; omega, by show x0 ≤ 3000000000; omega⟩, ⟨by show -3000000000 ≤ y0; omega, by show y0 ≤ 3000000000; omega⟩, hO⟩
    have hO1 := hO.1
    walk_at "ev"
    refine ⟨fun σ G => ∃ (D1 T1 : Addr) (das tas : List Addr), σ = [some (.ref a), some (.ref rp), some (.str (SX.S ls)), some (.ref q3), some (.ref D1), some (.ref T1), none, none, none, none, none, none, none] ∧ Same H1 G ∧ D1 ≠ a ∧ G D1 = some (.lst (das.map V.ref)) ∧ BdA G das (lowsD ls ⟨x0, x1, y0, y1, rows⟩ :: (highsD ls ⟨x0, x1, y0, y1, rows⟩).reverse) ∧ G T1 = some (.lst (tas.map V.ref)) ∧ AllG (fun _ => True) C G tas (lowsD ls ⟨x0, x1, y0, y1, rows⟩ :: (highsD ls ⟨x0, x1, y0, y1, rows⟩).reverse), ?_, ?_⟩
    · walk_at "ev"
      refine ⟨rp, q3, x0, x1, y0, y1, rows, rfl, .inl (.inl hrp1), hR.up fun b o _ e => ⟨trivial, e⟩, hG, by omega, by omega, fun d H2 n2 s2 cd => ?_⟩
      walk_at "ev"
      refine ⟨rp, d, ⟨x0, x1, y0, y1, rows⟩, ls, rfl, s2 _ _ hrp1, cd, hG, hL, hl, fun D1 das H3 n3 s3 e3 b3 => ?_⟩
      have s13 := s2.trans s3
      walk_at "ev"
      intro x dx nx ndx hne
      have s4 : Same H3 (upd (upd H3 dx (.own x)) x (.ins C dx [])) := (same_upd ndx).trans (same_upd ((upd_ne hne.symm).trans nx))
      have s14 := s13.trans s4
      refine ⟨x, dx, rp, q3, x0, x1, y0, y1, rows, rfl, upd_same, s14 _ _ hrp1, by omega, by omega, hR.up fun b o _ e => ⟨trivial, s14 _ _ e⟩, .inl ⟨sx1, sy1, by omega, fun r m => by rw [hO.2 r m]; omega⟩, by omega, fun H5 o5 G5 => ?_⟩
      have s35 : Same H3 H5 := fun b o e => o5 b o (ne_of_none e nx) (s4 b o e)
      have G5 : GridAt C H5 x [x0, x1, y0, y1] rows := G5.mono fun _ _ => trivial
      walk_at "ev"
      refine ⟨x, ⟨x0, x1, y0, y1, rows⟩, ls, rfl, hG, G5, hL, hl, fun T1 tas H6 s6 e6 A6 => ?_⟩
      have s36 := s35.trans s6
      walk_at "ev"
      exact ⟨D1, T1, das, tas, rfl, s13.trans s36, ((src_same s2 s1).ne n3).symm, s36 _ _ e3, b3.same s36, e6, A6⟩
    rintro σ G ⟨D1, T1, das, tas, rfl, s2, nD1, eD1, hB, eT1, hT⟩
    have hib : ∀ d ∈ lowsD ls ⟨x0, x1, y0, y1, rows⟩ :: (highsD ls ⟨x0, x1, y0, y1, rows⟩).reverse, InB d := InB.all ⟨by show x1 ≤ x0 + 30; omega, by show y1 ≤ y0 + 30; omega, ⟨sx3, sx4⟩, ⟨sy3, sy4⟩, Int.le_of_lt sx1, Int.le_of_lt sy1⟩ hG ls
    have hfb := fits_all hG hL
    have hgl : (lowsD ls ⟨x0, x1, y0, y1, rows⟩ :: (highsD ls ⟨x0, x1, y0, y1, rows⟩).reverse).length = ls.length + 1 := by rw [List.length_cons, List.length_reverse, highsD_len]
    obtain ⟨gs, hgs⟩ : ∃ gs, lowsD ls ⟨x0, x1, y0, y1, rows⟩ :: (highsD ls ⟨x0, x1, y0, y1, rows⟩).reverse = gs := ⟨_, rfl⟩
    rw [hgs] at hB hT hib hfb hgl
    have hdl : das.length = ls.length + 1 := by rw [hB.1, hgl]
    have htl : tas.length = ls.length + 1 := by rw [hT.1, hgl]
    have hal : (tas.map V.ref).length = (das.map V.ref).length := by rw [List.length_map, List.length_map, htl, hdl]
    have g2 := lstAt_of eT1
    have g3 := lstAt_of eD1
    walk_at "ev"
    refine ⟨fun σ G' => ∃ v6 v7 v8 : Option V, σ = [some (.ref a), some (.ref rp), some (.str (SX.S ls)), some (.ref q3), some (.ref D1), some (.ref T1), v6, v7, v8, none, none, none, none] ∧ Same G G', ?_, ?_⟩
    · walk_at "ev"
      refine ⟨[T1, D1], lstAt G, rfl, by simp, (by show 2 ≤ 900; decide), fun b m => ?_, ?_⟩
      · rcases List.mem_cons.mp m with rfl | m
        · exact .inl (.inl (by rw [g2]; exact eT1))
        · obtain rfl := List.mem_singleton.mp m
          exact .inl (.inl (by rw [g3]; exact eD1))
      refine for_it (walk_zipN (xss := lstAt G) (n := ls.length + 1) fun b m => ?_) (fun i σ G' => ∃ v6 v7 v8 : Option V, σ = [some (.ref a), some (.ref rp), some (.str (SX.S ls)), some (.ref q3), some (.ref D1), some (.ref T1), v6, v7, v8, none, none, none, none] ∧ Same G G') ⟨_, _, _, rfl, fun _ _ e => e⟩ (fun i σ G' _ h b m => ?_) ?_ ?_
      · rcases List.mem_cons.mp m with rfl | m
        · rw [g2, List.length_map, htl]
        · obtain rfl := List.mem_singleton.mp m
          rw [g3, List.length_map, hdl]
      · obtain ⟨_, _, _, _, h⟩ := h
        rcases List.mem_cons.mp m with rfl | m
        · exact .inl (.inl (by rw [g2]; exact h _ _ eT1))
        · obtain rfl := List.mem_singleton.mp m
          exact .inl (.inl (by rw [g3]; exact h _ _ eD1))
      · rintro i x σ G1 G2 hi ⟨v6, v7, v8, rfl, s3⟩ ⟨t, rfl, nt, rfl⟩
        obtain ⟨b2, hb2⟩ : ∃ b, tas[i]? = some b := ⟨tas[i]'(by omega), List.getElem?_eq_getElem _⟩
        obtain ⟨b3, hb3⟩ : ∃ b, das[i]? = some b := ⟨das[i]'(by omega), List.getElem?_eq_getElem _⟩
        obtain ⟨d, hd⟩ : ∃ d, gs[i]? = some d := ⟨gs[i]'(by omega), List.getElem?_eq_getElem _⟩
        have x2 : (lstAt G T1).getD i .non = .ref b2 := by
          rw [g2, List.getD_eq_getElem?_getD, List.getElem?_map, hb2]
          rfl
        have x3 : (lstAt G D1).getD i .non = .ref b3 := by
          rw [g3, List.getD_eq_getElem?_getD, List.getElem?_map, hb3]
          rfl
        have x23 : ([T1, D1].map fun a => (lstAt G a).getD i V.non) = [.ref b2, .ref b3] := by
          rw [List.map_cons, List.map_cons, List.map_nil, x2, x3]
        rw [x23]
        have s4 := s3.trans (same_upd (o := .tup [.ref b2, .ref b3]) nt)
        have eT : upd G1 t (.tup [.ref b2, .ref b3]) t = some (.tup [.ref b2, .ref b3]) := upd_same
        generalize upd G1 t (.tup [.ref b2, .ref b3]) = G5 at s4 eT ⊢
        obtain ⟨t1, Dd, k1, k2, k3⟩ := (hB.same s4).2 i b3 d hb3 hd
        have kg := (hT.2 i b2 d hb2 hd).same s4
        have dm := List.mem_of_getElem? hd
        have hdi := hib d dm
        have hdf := hfb d dm
        walk_at "ev"
        have z1 := hdi.xm
        have z2 := hdi.ym
        have z3 := hdi.xb
        have z4 := hdi.yb
        refine ⟨t1, Dd, d.x0, d.x1, d.y0, d.y1, cellsD d, fun z => cellI d.x0 d.y0 d.rows z.1 z.2, 900, rfl, .inl (.inl k2), k3, fun c hc => cellsS_in hc, by omega, by omega, by omega, by omega, by omega, by omega, fun q5 H5 n5 s5 R5 => ?_⟩
        rw [← fits_rows hdf] at R5
        walk_at "ev"
        refine ⟨b2, t1, q5, d.rc, d.rows, rfl, kg.same s5, s5 _ _ k2, R5.up fun b o _ e => ⟨trivial, e⟩, fits_len hdi hdf, fun H6 s6 => ?_⟩
        walk_at "ev"
        exact ⟨_, _, _, rfl, (s4.trans s5).trans s6⟩
      · rintro σ G1 ⟨v6, v7, v8, rfl, s3⟩
        walk_at "ev"
        exact ⟨_, _, _, rfl, s3⟩
    rintro σ G1 ⟨v6, v7, v8, rfl, s3⟩
    walk_at "ev"
    refine ⟨fun σ G' => σ = [some (.ref a), some (.ref rp), some (.str (SX.S ls)), some (.ref q3), some (.ref D1), some (.ref T1), v6, v7, v8, none, none, none, none] ∧ Same G G', ?_, ?_⟩
    · have s13 := s2.trans s3
      walk_at "ev"
      refine ⟨T1, rp, tas, ⟨x0, x1, y0, y1, rows⟩, ls, rfl, hG, hL, hl, s13 _ _ hrp1, s3 _ _ eT1, by rw [hgs]; exact hT.up fun _ _ _ h => h.same s3, fun x5 H5 s5 g5 => ?_⟩
      walk_at "ev"
      refine ⟨x5, rp, q3, [x0, x1, y0, y1], rows, rfl, g5, s5 _ _ (s13 _ _ hrp1), hR.up fun b o _ e => ⟨trivial, s5 _ _ (s13 _ _ e)⟩, by omega, fun H6 s6 => ?_⟩
      walk_at "ev"
      exact (s3.trans s5).trans s6
    rintro σ G2 ⟨rfl, s4⟩
    clear s3 g2 g3
    have sr2 := src_same (s2.trans s4) s1
    have uH2 : Up a H G2 := u1.trans (up_same (s2.trans s4))
    have eD2 := s4 _ _ eD1
    have hB2 := hB.same s4
    have hrp2 := (s2.trans s4) _ _ hrp1
    clear hB hT eT1 eD1 s4 s2 hR
    walk_at "ev"
    refine ⟨(by show 0 ≤ sizeLine; decide), fun S1 nS0 => ?_⟩
    have nS1 : S1 ≠ a := (sr2.ne nS0).symm
    walk_at "ev"
    refine ⟨fun σ G' => ∃ (v6 v7 v8 : Option V) (sas : List Addr) (ds : List Gd), σ = [some (.ref a), some (.ref rp), some (.str (SX.S ls)), some (.ref q3), some (.ref D1), some (.ref T1), v6, v7, v8, some (.ref S1), none, none, none] ∧ Src G' a ∧ Up a G2 G' ∧ G' S1 = some (.lst (sas.map V.ref)) ∧ AllG (fun b => b ≠ a ∧ b ≠ S1) C G' sas ds ∧ ds.map Gd.rc = gs.map Gd.rc ∧ ∀ d ∈ ds, Fits d.x0 d.x1 d.y0 d.y1 d.rows, ?_, ?_⟩
    · have dl : (das.map V.ref).length = ls.length + 1 := by rw [List.length_map, hdl]
      walk_at "ev"
      refine ⟨⟨_, .inl (.inl (new_at eD2 nS0))⟩, ?_⟩
      refine for_it (walk_list (xs := das.map V.ref)) (fun i σ G' => ∃ (v6 v7 v8 : Option V) (sas : List Addr) (ds : List Gd), σ = [some (.ref a), some (.ref rp), some (.str (SX.S ls)), some (.ref q3), some (.ref D1), some (.ref T1), v6, v7, v8, some (.ref S1), none, none, none] ∧ Src G' a ∧ Up a G2 G' ∧ G' S1 = some (.lst (sas.map V.ref)) ∧ AllG (fun b => b ≠ a ∧ b ≠ S1) C G' sas ds ∧ ds.map Gd.rc = (gs.take i).map Gd.rc ∧ ∀ d ∈ ds, Fits d.x0 d.x1 d.y0 d.y1 d.rows)
        ⟨_, _, _, [], [], rfl, src_same (same_upd nS0) sr2, up_same (same_upd nS0), upd_same, .nil, rfl, fun _ m => nomatch m⟩ (fun i σ G' _ h => ?_) ?_ ?_
      · obtain ⟨_, _, _, _, _, _, _, u, _⟩ := h
        exact .inl (.inl (u _ _ nD1 eD2))
      · rintro i x σ G6 G5 hi ⟨v6, v7, v8, sas, ds, rfl, sr5, uu, eS, hA, hrc, hfd⟩ ⟨rfl, hx⟩
        rw [List.getElem?_map] at hx
        obtain ⟨b3, hb3, rfl⟩ := Option.map_eq_some_iff.mp hx
        obtain ⟨d, hd⟩ : ∃ d, gs[i]? = some d := ⟨gs[i]'(by omega), List.getElem?_eq_getElem _⟩
        obtain ⟨t1, Dd, k1, k2, k3⟩ := (hB2.upa sr2 uu).2 i b3 d hb3 hd
        have dm := List.mem_of_getElem? hd
        have hdi := hib d dm
        have hdf := hfb d dm
        have z1 := hdi.xm
        have z2 := hdi.ym
        have z3 := hdi.xb
        have z4 := hdi.yb
        have hsl : sas.length = i := by
          have z := congrArg List.length hrc
          rw [List.length_map, List.length_map, List.length_take] at z
          rw [hA.1, z]
          omega
        obtain ⟨kvs, hk, hke⟩ := k3.bare
        walk_at "ev"
        refine ⟨.inl ⟨rfl, _, .inl (.inl eS)⟩, ?_⟩
        walk_at "ev"
        intro p0 np0
        refine ⟨Dd, p0, kvs, rfl, rfl, new_at hk np0, upd_same, ?_⟩
        rw [hke]
        have s55 := same_upd (o := .dT []) np0
        have sr50 := src_same s55 sr5
        have k20 := s55 _ _ k2
        have eS0 := s55 _ _ eS
        generalize upd G5 p0 (.dT []) = G50 at s55 sr50 k20 eS0 ⊢
        have t1a := not_src sr50 k20 (fun _ z => nomatch z)
        by_cases hc : d.x0 < d.x1 ∧ d.y0 < d.y1
        · rw [decide_eq_true hc]
          walk_at "ev"
          refine ⟨a, t1, d.x0, d.x1, d.y0, d.y1, rfl, sr50, t1a, k20, ⟨hc.1, by omega, z3⟩, ⟨hc.2, by omega, z4⟩, fun pr H6 rw1 n6 sr6 uA R6 hO1 => ?_⟩
          have u6 : Up a G5 H6 := (up_same s55).trans uA
          have k26 := uA _ _ t1a k20
          have eS6 := uA _ _ nS1 eS0
          have hF : Fits d.x0 d.x1 d.y0 d.y1 rw1 := .inl ⟨hc.1, hc.2, by have := hO1.1; omega, fun r m => by rw [hO1.2 r m]; omega⟩
          walk_at "ev"
          intro x dx nx ndx hne
          have s8 : Same H6 (upd (upd H6 dx (.own x)) x (.ins C dx [])) := (same_upd ndx).trans (same_upd ((upd_ne hne.symm).trans nx))
          refine ⟨x, dx, t1, pr, d.x0, d.x1, d.y0, d.y1, rw1, rfl, upd_same, s8 _ _ k26, hdi.xo, hdi.yo, R6.up fun b o _ e => ⟨trivial, s8 _ _ e⟩, hF, fits_len (d := ⟨d.x0, d.x1, d.y0, d.y1, rw1⟩) ⟨z1, z2, z3, z4, hdi.xo, hdi.yo⟩ hF, fun H7 o7 G7 => ?_⟩
          have s67 : Same H6 H7 := fun b o e => o7 b o (ne_of_none e nx) (s8 b o e)
          have eS7 := s67 _ _ eS6
          have G7 : GridN (fun b => b ≠ a ∧ b ≠ S1) C H7 x [d.x0, d.x1, d.y0, d.y1] rw1 := GridN.mono G7 fun b e => ⟨fun z => none_src (src_same s8 sr6) (z ▸ e), fun z => none_some (s8 _ _ eS6) (z ▸ e)⟩
          refine ⟨rfl, ?_⟩
          walk_at "ev"
          refine ⟨S1, _, _, rfl, rfl, eS7, small1000 (by rw [List.length_map]; omega), ?_⟩
          have sr7 := src_same s67 sr6
          have u7 : Up a G5 H7 := u6.trans (up_same s67)
          refine ⟨_, _, _, sas ++ [x], ds ++ [⟨d.x0, d.x1, d.y0, d.y1, rw1⟩], rfl, ?_, fun b o nb e => ?_, by rw [upd_same, List.map_append]; rfl, ?_, ?_, fun d' m => ?_⟩
          · obtain ⟨u, v, e2, b1⟩ := sr7
            exact ⟨u, v, (upd_ne fun z => nS1 z.symm).trans e2, b1⟩
          · rw [upd_ne (ne_of_none e nS0)]
            exact u7 b o nb (uu b o nb e)
          · refine AllG.app ((hA.upS sr5 u7).up fun a' rc rows' h => h.past eS7 fun b' n => ⟨n.2, n⟩) (G7.past eS7 fun b' n => ⟨n.2, n⟩)
          · rw [List.map_append, hrc, ← take_snoc hd, List.map_append]
            rfl
          · rcases List.mem_append.mp m with m | m
            · exact hfd d' m
            · obtain rfl := List.mem_singleton.mp m
              exact hF
        · rw [decide_eq_false hc]
          walk_at "ev"
          refine ⟨(by show 0 ≤ sizeLine; decide), fun pr npr => ?_⟩
          have s6 := same_upd (o := .lst []) npr
          have R6 : Rows (· ≠ a) (upd G50 pr (.lst [])) pr [] := ⟨(sr50.ne npr).symm, [], upd_same, .nil⟩
          obtain ⟨rw1, hrw⟩ : ∃ rw1 : List (List Int), [] = rw1 := ⟨_, rfl⟩
          have hF : Fits d.x0 d.x1 d.y0 d.y1 rw1 := .inr ⟨hc, hrw.symm⟩
          rw [hrw] at R6
          have sr6 := src_same s6 sr50
          have k26 := s6 _ _ k20
          have eS6 := s6 _ _ eS0
          generalize upd G50 pr (.lst []) = H6 at s6 R6 sr6 k26 eS6 ⊢
          have u6 : Up a G5 H6 := up_same (s55.trans s6)
          walk_at "ev"
          intro x dx nx ndx hne
          have s8 : Same H6 (upd (upd H6 dx (.own x)) x (.ins C dx [])) := (same_upd ndx).trans (same_upd ((upd_ne hne.symm).trans nx))
          refine ⟨x, dx, t1, pr, d.x0, d.x1, d.y0, d.y1, rw1, rfl, upd_same, s8 _ _ k26, hdi.xo, hdi.yo, R6.up fun b o _ e => ⟨trivial, s8 _ _ e⟩, hF, fits_len (d := ⟨d.x0, d.x1, d.y0, d.y1, rw1⟩) ⟨z1, z2, z3, z4, hdi.xo, hdi.yo⟩ hF, fun H7 o7 G7 => ?_⟩
          have s67 : Same H6 H7 := fun b o e => o7 b o (ne_of_none e nx) (s8 b o e)
          have eS7 := s67 _ _ eS6
          have G7 : GridN (fun b => b ≠ a ∧ b ≠ S1) C H7 x [d.x0, d.x1, d.y0, d.y1] rw1 := GridN.mono G7 fun b e => ⟨fun z => none_src (src_same s8 sr6) (z ▸ e), fun z => none_some (s8 _ _ eS6) (z ▸ e)⟩
          refine ⟨rfl, ?_⟩
          walk_at "ev"
          refine ⟨S1, _, _, rfl, rfl, eS7, small1000 (by rw [List.length_map]; omega), ?_⟩
          have sr7 := src_same s67 sr6
          have u7 : Up a G5 H7 := u6.trans (up_same s67)
          refine ⟨_, _, _, sas ++ [x], ds ++ [⟨d.x0, d.x1, d.y0, d.y1, rw1⟩], rfl, ?_, fun b o nb e => ?_, by rw [upd_same, List.map_append]; rfl, ?_, ?_, fun d' m => ?_⟩
          · obtain ⟨u, v, e2, b1⟩ := sr7
            exact ⟨u, v, (upd_ne fun z => nS1 z.symm).trans e2, b1⟩
          · rw [upd_ne (ne_of_none e nS0)]
            exact u7 b o nb (uu b o nb e)
          · refine AllG.app ((hA.upS sr5 u7).up fun a' rc rows' h => h.past eS7 fun b' n => ⟨n.2, n⟩) (G7.past eS7 fun b' n => ⟨n.2, n⟩)
          · rw [List.map_append, hrc, ← take_snoc hd, List.map_append]
            rfl
          · rcases List.mem_append.mp m with m | m
            · exact hfd d' m
            · obtain rfl := List.mem_singleton.mp m
              exact hF
      · rintro σ G5 ⟨v6, v7, v8, sas, ds, rfl, sr5, uu, eS, hA, hrc, hfd⟩
        rw [dl, ← hgl, List.take_length] at hrc
        walk_at "ev"
        exact ⟨_, _, _, sas, ds, rfl, sr5, uu, eS, hA, hrc, hfd⟩
    rintro σ G5 ⟨v6, v7, v8, sas, ds, rfl, sr5, uu, eS, hA, hrc, hfd⟩
    obtain ⟨g', hg', erc, ebs⟩ := bands_of ls ⟨x0, x1, y0, y1, rows⟩ hL hG ds (by rw [hgs]; exact hrc) hfd
    have hdsl : ds.length = ls.length + 1 := by
      have z := congrArg List.length hrc
      rw [List.length_map, List.length_map] at z
      rw [z, hgl]
    have hsl : sas.length = ls.length + 1 := by rw [hA.1, hdsl]
    walk_at "ev"
    refine ⟨S1, rp, sas, g', ls, rfl, hg', hL, hl, by rw [erc]; exact uu _ _ hna hrp2, eS, by rw [ebs]; exact hA.up fun _ _ _ h => h.mono fun _ _ => trivial, fun x5 H6 s6 g6 => ?_⟩
    walk_at "ev"
    refine ⟨x5, g', ls, rfl, hg', g6, hL, hl, fun q7 as7 H7 s7 e7 A7 => ?_⟩
    rw [ebs] at A7
    have s67 := s6.trans s7
    have eS7 := s67 _ _ eS
    have hA7 := hA.up fun _ _ _ h => h.same s67
    have l7 : as7.length = ls.length + 1 := by rw [A7.1, hdsl]
    have g2 := lstAt_of e7
    have g3 := lstAt_of eS7
    walk_at "ev"
    refine ⟨[q7, S1], lstAt H7, rfl, by simp, (by show 2 ≤ 900; decide), fun b m => ?_, fun D nD => ?_⟩
    · rcases List.mem_cons.mp m with rfl | m
      · exact .inl (.inl (by rw [g2]; exact e7))
      · obtain rfl := List.mem_singleton.mp m
        exact .inl (.inl (by rw [g3]; exact eS7))
    refine lc_it (walk_zipN (xss := lstAt H7) (n := ls.length + 1) fun b m => ?_) (fun i G => Same H7 G ∧ G D = some (.lst [])) ⟨same_upd nD, upd_same⟩ (fun i G _ h b m => ?_) ?_ ?_
    · rcases List.mem_cons.mp m with rfl | m
      · rw [g2, List.length_map, l7]
      · obtain rfl := List.mem_singleton.mp m
        rw [g3, List.length_map, hsl]
    · rcases List.mem_cons.mp m with rfl | m
      · exact .inl (.inl (by rw [g2]; exact h.1 _ _ e7))
      · obtain rfl := List.mem_singleton.mp m
        exact .inl (.inl (by rw [g3]; exact h.1 _ _ eS7))
    · rintro i x G8 G9 hi ⟨s8, eD⟩ ⟨t, rfl, nt, rfl⟩
      obtain ⟨b2, hb2⟩ : ∃ b, as7[i]? = some b := ⟨as7[i]'(by omega), List.getElem?_eq_getElem _⟩
      obtain ⟨b3, hb3⟩ : ∃ b, sas[i]? = some b := ⟨sas[i]'(by omega), List.getElem?_eq_getElem _⟩
      obtain ⟨d, hd⟩ : ∃ d, ds[i]? = some d := ⟨ds[i]'(by omega), List.getElem?_eq_getElem _⟩
      obtain ⟨e, he⟩ : ∃ e, gs[i]? = some e := ⟨gs[i]'(by omega), List.getElem?_eq_getElem _⟩
      have hre : d.rc = e.rc := by
        have z := congrArg (fun l => l[i]?) hrc
        simp only [List.getElem?_map, hd, he, Option.map_some] at z
        exact Option.some.inj z
      have hdi := (hib e (List.mem_of_getElem? he)).of_rc hre
      have hdf := hfd d (List.mem_of_getElem? hd)
      have x2 : (lstAt H7 q7).getD i .non = .ref b2 := by
        rw [g2, List.getD_eq_getElem?_getD, List.getElem?_map, hb2]
        rfl
      have x3 : (lstAt H7 S1).getD i .non = .ref b3 := by
        rw [g3, List.getD_eq_getElem?_getD, List.getElem?_map, hb3]
        rfl
      have x23 : ([q7, S1].map fun a => (lstAt H7 a).getD i V.non) = [.ref b2, .ref b3] := by
        rw [List.map_cons, List.map_cons, List.map_nil, x2, x3]
      rw [x23]
      have s9 := s8.trans (same_upd (o := .tup [.ref b2, .ref b3]) nt)
      have eDT := new_at (o' := .tup [.ref b2, .ref b3]) eD nt
      have eT : upd G8 t (.tup [.ref b2, .ref b3]) t = some (.tup [.ref b2, .ref b3]) := upd_same
      generalize upd G8 t (.tup [.ref b2, .ref b3]) = G10 at s9 eT eDT ⊢
      have kg := (A7.2 i b2 d hb2 hd).same s9
      have kh : GridAt C G10 b3 d.rc d.rows := ((hA7.2 i b3 d hb3 hd).same s9).mono fun _ _ => trivial
      obtain ⟨db, tt, pp, j1, j2, _⟩ := _root_.id kh
      walk_at "ev"
      refine ⟨b3, db, _, rfl, j1, b3, tt, pp, db, rfl, j1, ?_⟩
      walk_at "ev"
      refine ⟨b3, db, _, rfl, j1, b3, d.rc, d.rows, rfl, kh, fits_len hdi hdf, fun q9 H9 n9 s19 R9 => ?_⟩
      walk_at "ev"
      refine ⟨b2, tt, q9, d.rc, d.rows, rfl, kg.same s19, s19 _ _ j2, R9.up fun b o _ e => ⟨trivial, e⟩, fits_len hdi hdf, fun H8 s20 => ?_⟩
      walk_at "ev"
      exact ⟨(s9.trans s19).trans s20, s20 _ _ (s19 _ _ eDT)⟩
    · rintro G8 ⟨s8, eD⟩
      walk_at "ev"
      refine ⟨(by show 0 ≤ sizeLine; decide), fun t4 n4 => ?_⟩
      refine q_eqI (ns := []) (new_at eD n4) upd_same ?_
      have sZ := (s67.trans s8).trans (same_upd (o := .lst []) n4)
      exact q _ (src_same sZ sr5) ((uH2.trans uu).trans (up_same sZ))
/-! ### what is refused -/
def lamOf (x : Str) : Str := x ++ (".<locals>." : Str) ++ ("<lambda>" : Str)
def tabsG (PG : Addr) : List (Addr × Str) := [(PG, lamOf ("_law_refusals_right" : Str))]
theorem tabsG_fn {PG P : Addr} {x : Str} (m : (P, x) ∈ tabsG PG) : ∀ p ∈ tabsG PG, p.1 = P → p.2 = x := fun p hp _ => by
  have e1 := List.mem_singleton.mp m
  have e2 := List.mem_singleton.mp hp
  rw [e2, ← e1]
theorem GridN.extN {N : Addr → Prop} {C : Addr} {H H' : Hp} {x : Addr} {rc : List Int} {rows : List (List Int)} (h : GridN N C H x rc rows) (s : LamX.ExtN H H') : GridN N C H' x rc rows := by
  obtain ⟨dx, t, p, e1, e2, ⟨n, as, e3, l, r⟩⟩ := h
  refine ⟨dx, t, p, s _ _ e1 (fun _ z => nomatch z), s _ _ e2 (fun _ z => nomatch z), n, as, s _ _ e3 (fun _ z => nomatch z), l, fun i b r' h1 h2 => ?_⟩
  obtain ⟨m, e⟩ := r i b r' h1 h2
  exact ⟨m, s _ _ e (fun _ z => nomatch z)⟩
theorem Rows.extN {N : Addr → Prop} {H H' : Hp} {p : Addr} {rows : List (List Int)} (h : Rows N H p rows) (s : LamX.ExtN H H') : Rows N H' p rows := by
  obtain ⟨n, as, e3, l, r⟩ := h
  refine ⟨n, as, s _ _ e3 (fun _ z => nomatch z), l, fun i b r' h1 h2 => ?_⟩
  obtain ⟨m, e⟩ := r i b r' h1 h2
  exact ⟨m, s _ _ e (fun _ z => nomatch z)⟩
def refE (K : PySem.W.Frag) (BG O BF N : Addr) (Q : VK) : XK := fun cls d H' => (d = none ∧ ∃ (D : Addr) (i : Nat), GO K BG O BF N D i ∧ cls = .ref D ∧ ∀ G, Same H' G → Q (.str (goS i)) G) ∨ (cls = .ref BF ∧ ∃ (dd : Addr) (n : Str), d = some dd ∧ H' dd = some (.xd [("name", .str n)]) ∧ n.length ≤ 100 ∧ ∀ G, Same H' G → Q (.str ("field " ++ n)) G)
theorem ref_in {BG O BF N : Addr} {tl : XK → Hp → VK → Prop} {H : Hp} {Q : VK} {wd : Str} (h : ∀ Q : VK, (∀ H', Same H H' → Q (.str wd) H') → tl (refE K BG O BF N Q) H (fun _ H1 => Q (.str "") H1)) (q : ∀ H', Same H H' → Q (.str wd) H') : refTT K BG O BF N tl H Q := h Q q
theorem E_out {BG O BF N : Addr} {H H1 : Hp} {Q : VK} (g : GO K BG O BF N O 1) (s : Same H H1) (q : ∀ H', Same H H' → Q (.str "outside") H') : refE K BG O BF N Q (.ref O) none H1 := .inl ⟨rfl, O, 1, g, rfl, fun G s' => q G (s.trans s')⟩
theorem E_grid {BG O BF N : Addr} {H H1 : Hp} {Q : VK} (g : GO K BG O BF N BG 0) (s : Same H H1) (q : ∀ H', Same H H' → Q (.str "grid") H') : refE K BG O BF N Q (.ref BG) none H1 := .inl ⟨rfl, BG, 0, g, rfl, fun G s' => q G (s.trans s')⟩
theorem fld_word : ("field " : Str) ++ ("word" : Str) = ("field word" : Str) := by decide +kernel
theorem E_word {BG O BF N d : Addr} {H H1 : Hp} {Q : VK} (s : Same H H1) (e : H1 d = some (.xd [("name", .str "word")])) (q : ∀ H', Same H H' → Q (.str "field word") H') : refE K BG O BF N Q (.ref BF) (some d) H1 :=
  .inr ⟨rfl, d, "word", rfl, e, by decide +kernel, fun G s' => by rw [fld_word]; exact q G (s.trans s')⟩
theorem lay {H : Hp} {t : Addr} {o : HO} (n : H t = none) : ∃ J, upd H t o = J ∧ Same H J ∧ J t = some o := ⟨_, rfl, same_upd n, upd_same⟩
/-- _law_refused(lambda: body) -/
theorem pe_refd {X : Cx} {TT0 : List (Addr × Str)} {g BG O BF N c P : Addr} {k : Nat} {params : Arguments} {body : Expr} {scope : Scope} {t : XK → TE} {p lpos pos : Pos} (T : Txt X.mg) (D : RefD X.prog X.w X.K X.mg X.base g BG O BF N) (hu : X.A.units + 64 < cLine) (hg : Gl X "_law_refused")
    (TB : LamX.TabB X.base X.mg c P) (hcode : X.env.code = .ref c) (hmT : (P, X.env.qual ++ "<lambda>") ∈ TT0) (hf : ∀ p ∈ TT0, p.1 = P → p.2 = X.env.qual ++ "<lambda>") (hr : Room (k + 2) X.A)
    (hbody : ∀ (A : Around) (outer : List Env) (s : Shared) (H : Hp) (E : XK) (f c' : Addr), Room k (A.deeper (LamX.lamEnv X scope s.heap.objs.size f c')) → PE (LamX.lamCx X A outer s H E scope f c') body (t E))
    (L : LamX.LamS X.env.scope scope) (hdef : defaultsOf params X.env = ([], [])) (hbind : ∀ (q : Str) (cl : List (Str × Addr)) (pm cv ctv : Value), bindArgs (PySem.W.kla_fn "<lambda>" q params body scope cl pm cv ctv) ⟨[], []⟩ = pure []) :
    PE X (.Call (.Name "_law_refused" p) [.Lambda params body scope lpos] [] pos) (LamX.tLam TT0 (refTT X.K BG O BF N) t) := by
  obtain ⟨oc, kV, doc, pm, cdv, ct, an, od, osl, lk, hcd, hb⟩ := D.df
  exact LamX.pe_lamcall hg D.hm D.hk lk hcd hb sc_law_refused rfl (Or.inl rfl) (ref_gives T D hu) TB hcode hmT hf hr L hdef hbind hbody
theorem cut_drop {xs : List V} {y : Int} {k : Nat} (hy : y = (k : Int)) (hk : k ≤ xs.length) : cutV xs (some y) none = xs.drop k := by
  subst hy
  unfold cutV
  rw [HT.sIx_none, HT.sIx_nat, Nat.min_eq_left hk, List.take_of_length_le (by rw [List.length_drop]; exact Nat.le_refl _)]
theorem cut_take {xs : List V} {y : Int} {k : Nat} (hy : y = (k : Int)) (hk : k ≤ xs.length) : cutV xs none (some y) = xs.take k := by
  subst hy
  unfold cutV
  rw [HT.sIx_none, HT.sIx_nat, Nat.min_eq_left hk, List.drop_zero, Nat.sub_zero]
theorem GridN.upa {C a : Addr} {H H' : Hp} {x : Addr} {rc : List Int} {rows : List (List Int)} (h : GridN (· ≠ a) C H x rc rows) (s : Src H a) (u : Up a H H') : GridN (· ≠ a) C H' x rc rows := by
  obtain ⟨dx, t, p, e1, e2, e3⟩ := h
  exact ⟨dx, t, p, u _ _ (not_src s e1 fun _ z => nomatch z) e1, u _ _ (not_src s e2 fun _ z => nomatch z) e2, e3.up fun b o n e => ⟨n, u b o n e⟩⟩
/-- what stands while the refusals are looked at -/
structure RK (C PG a rp x b P1 : Addr) (x0 x1 y0 y1 : Int) (rows : List (List Int)) (pas : List Addr) (gs : List Gd) (H G : Hp) : Prop where
  sr : Src G a
  up : UpN a H G
  tb : LamX.Tabs (tabsG PG) G
  gx : GridN (· ≠ a) C G x [x0, x1, y0, y1] rows
  gb : GridN (· ≠ a) C G b [x0, x1, y1, y1] []
  rp : G rp = some (.tup [.int x0, .int x1, .int y0, .int y1])
  nP : P1 ≠ a
  eP : G P1 = some (.lst (pas.map V.ref))
  gp : AllG (· ≠ a) C G pas gs
section
variable {C PG a rp x b P1 : Addr} {x0 x1 y0 y1 : Int} {rows : List (List Int)} {pas : List Addr} {gs : List Gd} {H G G' : Hp}
theorem RK.ext (k : RK C PG a rp x b P1 x0 x1 y0 y1 rows pas gs H G) (e : LamX.ExtN G G') (t : LamX.Tabs (tabsG PG) G') : RK C PG a rp x b P1 x0 x1 y0 y1 rows pas gs H G' :=
  ⟨k.sr.ext e, k.up.trans (ext_n e), t, k.gx.extN e, k.gb.extN e, e _ _ k.rp (fun _ z => nomatch z), k.nP, e _ _ k.eP (fun _ z => nomatch z), k.gp.up fun _ _ _ h => h.extN e⟩
theorem RK.same (k : RK C PG a rp x b P1 x0 x1 y0 y1 rows pas gs H G) (s : Same G G') : RK C PG a rp x b P1 x0 x1 y0 y1 rows pas gs H G' := k.ext (ext_same s) (tabs_same k.tb s)
theorem RK.but (k : RK C PG a rp x b P1 x0 x1 y0 y1 rows pas gs H G) (s : Src G' a) (u : Up a G G') : RK C PG a rp x b P1 x0 x1 y0 y1 rows pas gs H G' :=
  ⟨s, k.up.trans u.n, tabs_up k.tb u k.sr, k.gx.upa k.sr u, k.gb.upa k.sr u, u _ _ (not_src k.sr k.rp fun _ z => nomatch z) k.rp, k.nP, u _ _ k.nP k.eP, k.gp.up fun _ _ _ h => h.upa k.sr u⟩
end
theorem AllG.append {N : Addr → Prop} {C : Addr} {H : Hp} {bs : List Addr} {es : List Gd} (h2 : AllG N C H bs es) : ∀ {as : List Addr} {ds : List Gd}, AllG N C H as ds → AllG N C H (as ++ bs) (ds ++ es)
  | [], [], _ => h2
  | [], _ :: _, h => nomatch h.1
  | _ :: _, [], h => nomatch h.1
  | a :: as, d :: ds, h => .cons (h.2 0 a d rfl rfl) (AllG.append h2 ⟨Nat.succ.inj h.1, fun i b s e1 e2 => h.2 (i + 1) b s e1 e2⟩)
theorem AllG.drop {N : Addr → Prop} {C : Addr} {H : Hp} {as : List Addr} {ds : List Gd} (h : AllG N C H as ds) (n : Nat) : AllG N C H (as.drop n) (ds.drop n) := by
  refine ⟨by rw [List.length_drop, List.length_drop, h.1], fun i b r e1 e2 => ?_⟩
  rw [List.getElem?_drop] at e1 e2
  exact h.2 _ b r e1 e2
theorem AllG.take {N : Addr → Prop} {C : Addr} {H : Hp} {as : List Addr} {ds : List Gd} (h : AllG N C H as ds) (n : Nat) : AllG N C H (as.take n) (ds.take n) := by
  refine ⟨by rw [List.length_take, List.length_take, h.1], fun i b r e1 e2 => ?_⟩
  rw [List.getElem?_take] at e1 e2
  by_cases hi : i < n
  · rw [if_pos hi] at e1 e2
    exact h.2 _ b r e1 e2
  · rw [if_neg hi] at e1
    cases e1
def spRefus (PG : Addr) : Sp := fun vs H Q _ => ∃ (a rp : Addr) (x0 x1 y0 y1 : Int) (ls : List Nat), vs = [.ref a, .ref rp, .str (SX.S ls)] ∧ Src H a ∧ rp ≠ a ∧ H rp = some (.tup [.int x0, .int x1, .int y0, .int y1]) ∧ Sd 30 x0 x1 ∧ Sd 30 y0 y1 ∧ LetW ls ∧ ls.length ≤ 10 ∧ LamX.Tabs (tabsG PG) H ∧
  ∀ H' : Hp, Src H' a → UpN a H H' → LamX.Tabs (tabsG PG) H' → Q (.bl true) H'
theorem ok_refus {f cR PG gR C BG O BF N f1 f2 : Addr} {fd fd1 fd2 : FuncData} {k : Nat} (F0 : FunC K "_law_refusals_right" "_law_refusals_right" s_law_refusals_right f fd cR) (T : Txt mg) (D : RefD P w K mg base gR BG O BF N) (gB : GO K BG O BF N BG 0) (gO : GO K BG O BF N O 1) (TBR : LamX.TabB base mg cR PG) (GK : GridK K C)
    (M_Grid : CalC P w K mg base 4 "Grid" C ["rect", "rows"] (spGInit K C)) (M_rect : CalP P w K mg base 1 C "rect" (spGRect C)) (M_rows : CalP P w K mg base 1 C "rows" (spGRows C))
    (G_bands : FnOk P w K mg base (L2.CX P w) 8 f1 fd1 ["grid", "word"] (spBandsX K C O BF)) (g_bands : mg "bands" = some (.ref f1)) (k_bands : PySem.W.keepIn K (.ref f1) = true) (b_bands : Binds K fd1 ["grid", "word"] [])
    (G_unbands : FnOk P w K mg base (L2.CX P w) 8 f2 fd2 ["parts", "rect", "word"] (spUnbX K C O BF BG)) (g_unbands : mg "unbands" = some (.ref f2)) (k_unbands : PySem.W.keepIn K (.ref f2) = true) (b_unbands : Binds K fd2 ["parts", "rect", "word"] [])
    (c_bands : C8.Cal P w K mg base 8 "bands" (spBandsN K C) []) (c_law_rows : C8.Cal P w K mg base 3 "_law_rows" spRowsL []) (c_law_take : C8.Cal P w K mg base 1 "_law_take" spTake []) (c_law_one : C8.Cal P w K mg base 2 "_law_one" spOne []) : FnOk P w K mg base CX0 (k + 12) f fd ["_law_source", "_law_rect_here", "_law_word_here"] (spRefus PG) := by
  refine F0.ok sc_law_refusals_right (fun vs H Q E h => ?_) (fun A outer s H vs Q E hr h => ?_)
  · obtain ⟨a, rp, x0, x1, y0, y1, ls, rfl, _⟩ := h
    rfl
  · obtain ⟨a, rp, x0, x1, y0, y1, ls, rfl, ha, hna, hrp, ⟨sx1, sx2, sx3, sx4⟩, ⟨sy1, sy2, sy3, sy4⟩, hL, hl, hT, q⟩ := h
    have hu := hr.units
    have hu1 := hu_of hr
    refine ⟨_, (pss_cons (ps_asg (pv 1) (pg_tup rfl (pgs_cons (pg_name (i := 13) sc_law_refusals_right.nd rfl (Or.inr rfl)) (pgs_cons (pg_name (i := 14) sc_law_refusals_right.nd rfl (Or.inr rfl)) (pgs_cons (pg_name (i := 15) sc_law_refusals_right.nd rfl (Or.inr rfl)) (pgs_cons (pg_name (i := 16) sc_law_refusals_right.nd rfl (Or.inr rfl)) pgs_nil))))))
    (pss_cons (ps_asg (pe_tup (pa_cons (pe_new M_Grid hr (by omega) (by rfl) passN (pa_cons (pv 1) (pa_cons (C8.pe_c c_law_rows hr (by omega) (by rfl) (pa_cons (pv 0) (pa_cons (pv 1) pa_nil))) pa_nil))) (pa_cons (pe_new M_Grid hr (by omega) (by rfl) passN (pa_cons (pe_tup (pa_cons (pv 13) (pa_cons (pv 14) (pa_cons (pv 16) (pa_cons (pv 16) pa_nil))))) (pa_cons (pe_lst pa_nil) pa_nil))) pa_nil))) (pg_tup rfl (pgs_cons (pg_name (i := 9) sc_law_refusals_right.nd rfl (Or.inr rfl)) (pgs_cons (pg_name (i := 8) sc_law_refusals_right.nd rfl (Or.inr rfl)) pgs_nil))))
    (C8.pss_cut (ps_set (i := 10) sc_law_refusals_right.nd rfl (Or.inr rfl) (C8.pe_c c_bands hr (by omega) (by rfl) (pa_cons (pv 9) (pa_cons (pv 2) pa_nil))))
    (C8.pss_cut (ps_set (i := 12) sc_law_refusals_right.nd rfl (Or.inr rfl) (C8.pe_c c_law_one hr (by omega) (by rfl) (pa_cons (pv 0) (pa_cons (pe_lst (pa_cons pe_str (pa_cons pe_str (pa_cons (pe_op op_add_str (pv 2) pe_str) (pa_cons pe_str (pa_cons (pe_op op_add_str (pv 2) pe_str) pa_nil)))))) pa_nil))))
    (C8.pss_cut (ps_if (pt_cmpR op_ne (pe_refd (k := 9) T D hu (by rfl) TBR rfl (.head _) (tabsG_fn (.head _)) (hr.mono (by omega)) (fun A outer s H E f c' hr2 => (pe_call G_bands (hr2.mono (by omega)) (by rfl) g_bands k_bands b_bands .nil (passes_call (takes_of rfl rfl rfl rfl) (fun _ _ _ _ h => h)) (pa_cons (pv 8) (pa_cons (pv 12) pa_nil)))) (LamX.lamS_by (by show LamX.lamSB (defScope s_law_refusals_right) _ = true; decide +kernel)) rfl (fun _ _ _ _ _ => rfl)) pe_str (nomark _)) (pss_one (ps_ret pe_bl)) pss_nil)
    (C8.pss_cut (ps_if (pt_cmpR op_ne (pe_refd (k := 9) T D hu (by rfl) TBR rfl (.head _) (tabsG_fn (.head _)) (hr.mono (by omega)) (fun A outer s H E f c' hr2 => (pe_call G_bands (hr2.mono (by omega)) (by rfl) g_bands k_bands b_bands .nil (passes_call (takes_of rfl rfl rfl rfl) (fun _ _ _ _ h => h)) (pa_cons (pv 9) (pa_cons (pv 12) pa_nil)))) (LamX.lamS_by (by show LamX.lamSB (defScope s_law_refusals_right) _ = true; decide +kernel)) rfl (fun _ _ _ _ _ => rfl)) pe_str (nomark _)) (pss_one (ps_ret pe_bl)) pss_nil)
    (C8.pss_cut (ps_if (pt_cmpR op_ne (pe_refd (k := 9) T D hu (by rfl) TBR rfl (.head _) (tabsG_fn (.head _)) (hr.mono (by omega)) (fun A outer s H E f c' hr2 => (pe_call G_unbands (hr2.mono (by omega)) (by rfl) g_unbands k_unbands b_unbands .nil (passes_call (takes_of rfl rfl rfl rfl) (fun _ _ _ _ h => h)) (pa_cons (pv 10) (pa_cons (pe_tup (pa_cons (pv 14) (pa_cons (pv 13) (pa_cons (pv 15) (pa_cons (pv 16) pa_nil))))) (pa_cons (pv 12) pa_nil))))) (LamX.lamS_by (by show LamX.lamSB (defScope s_law_refusals_right) _ = true; decide +kernel)) rfl (fun _ _ _ _ _ => rfl)) pe_str (nomark _)) (pss_one (ps_ret pe_bl)) pss_nil)
    (C8.pss_cut (ps_if (pt_cmpR op_ne (pe_refd (k := 9) T D hu (by rfl) TBR rfl (.head _) (tabsG_fn (.head _)) (hr.mono (by omega)) (fun A outer s H E f c' hr2 => (pe_call G_unbands (hr2.mono (by omega)) (by rfl) g_unbands k_unbands b_unbands .nil (passes_call (takes_of rfl rfl rfl rfl) (fun _ _ _ _ h => h)) (pa_cons (pe_lst pa_nil) (pa_cons (pe_tup (pa_cons (pv 13) (pa_cons (pv 13) (pa_cons (pv 15) (pa_cons (pv 16) pa_nil))))) (pa_cons (pv 12) pa_nil))))) (LamX.lamS_by (by show LamX.lamSB (defScope s_law_refusals_right) _ = true; decide +kernel)) rfl (fun _ _ _ _ _ => rfl)) pe_str (nomark _)) (pss_one (ps_ret pe_bl)) pss_nil)
    (C8.pss_cut (ps_if (pt_cmpR op_ne (pe_refd (k := 9) T D hu (by rfl) TBR rfl (.head _) (tabsG_fn (.head _)) (hr.mono (by omega)) (fun A outer s H E f c' hr2 => (pe_call G_unbands (hr2.mono (by omega)) (by rfl) g_unbands k_unbands b_unbands .nil (passes_call (takes_of rfl rfl rfl rfl) (fun _ _ _ _ h => h)) (pa_cons (pe_lst pa_nil) (pa_cons (pv 1) (pa_cons (pv 12) pa_nil))))) (LamX.lamS_by (by show LamX.lamSB (defScope s_law_refusals_right) _ = true; decide +kernel)) rfl (fun _ _ _ _ _ => rfl)) pe_str (nomark _)) (pss_one (ps_ret pe_bl)) pss_nil)
    (C8.pss_cut (ps_if (pt_cmpR op_ne (pe_refd (k := 9) T D hu (by rfl) TBR rfl (.head _) (tabsG_fn (.head _)) (hr.mono (by omega)) (fun A outer s H E f c' hr2 => (pe_call G_unbands (hr2.mono (by omega)) (by rfl) g_unbands k_unbands b_unbands .nil (passes_call (takes_of rfl rfl rfl rfl) (fun _ _ _ _ h => h)) (pa_cons (pe_op op_cat (pv 10) (pe_lst (pa_cons (pv 9) pa_nil))) (pa_cons (pv 1) (pa_cons (pv 2) pa_nil))))) (LamX.lamS_by (by show LamX.lamSB (defScope s_law_refusals_right) _ = true; decide +kernel)) rfl (fun _ _ _ _ _ => rfl)) pe_str (nomark _)) (pss_one (ps_ret pe_bl)) pss_nil)
    (C8.pss_cut (ps_if (pt_cmpR op_ne (pe_refd (k := 9) T D hu (by rfl) TBR rfl (.head _) (tabsG_fn (.head _)) (hr.mono (by omega)) (fun A outer s H E f c' hr2 => (pe_call G_unbands (hr2.mono (by omega)) (by rfl) g_unbands k_unbands b_unbands .nil (passes_call (takes_of rfl rfl rfl rfl) (fun _ _ _ _ h => h)) (pa_cons (pe_slice (sl_list : SlR _ (rSlL K)) (pv 10) (po_some pe_int) po_none) (pa_cons (pv 1) (pa_cons (pv 2) pa_nil))))) (LamX.lamS_by (by show LamX.lamSB (defScope s_law_refusals_right) _ = true; decide +kernel)) rfl (fun _ _ _ _ _ => rfl)) pe_str (nomark _)) (pss_one (ps_ret pe_bl)) pss_nil)
    (pss_cons (ps_set (i := 7) sc_law_refusals_right.nd rfl (Or.inr rfl) (C8.pe_c c_law_take hr (by omega) (by rfl) (pa_cons (pv 0) (pa_cons (pe_callB call_len_seq (by rfl) T.z_len PySem.boot_len (pa_cons (pv 10) pa_nil)) pa_nil))))
    (pss_cons (ps_asg (pe_pr M_rect GK.cl hr (by omega) (pe_ix ix_list (pv 10) (pv 7) (fun _ _ => rfl)) rfl) (pg_tup rfl (pgs_cons (pg_name (i := 3) sc_law_refusals_right.nd rfl (Or.inl rfl)) (pgs_cons (pg_name (i := 4) sc_law_refusals_right.nd rfl (Or.inl rfl)) (pgs_cons (pg_name (i := 5) sc_law_refusals_right.nd rfl (Or.inl rfl)) (pgs_cons (pg_name (i := 6) sc_law_refusals_right.nd rfl (Or.inl rfl)) pgs_nil))))))
    (C8.pss_cut (ps_set (i := 11) sc_law_refusals_right.nd rfl (Or.inr rfl) (pe_new M_Grid hr (by omega) (by rfl) passN (pa_cons (pe_tup (pa_cons (pv 3) (pa_cons (pv 4) (pa_cons (pe_op op_add (pv 5) pe_int) (pa_cons (pe_op op_add (pv 6) pe_int) pa_nil))))) (pa_cons (pe_pr M_rows GK.cl hr (by omega) (pe_ix ix_list (pv 10) (pv 7) (fun _ _ => rfl)) rfl) pa_nil))))
    (pss_one (ps_ret (pe_cmpR op_eq (pe_refd (k := 9) T D hu (by rfl) TBR rfl (.head _) (tabsG_fn (.head _)) (hr.mono (by omega)) (fun A outer s H E f c' hr2 => (pe_call G_unbands (hr2.mono (by omega)) (by rfl) g_unbands k_unbands b_unbands .nil (passes_call (takes_of rfl rfl rfl rfl) (fun _ _ _ _ h => h)) (pa_cons (pe_op op_cat (pe_op op_cat (pe_slice (sl_list : SlR _ (rSlL K)) (pv 10) po_none (po_some (pv 7))) (pe_lst (pa_cons (pv 11) pa_nil))) (pe_slice (sl_list : SlR _ (rSlL K)) (pv 10) (po_some (pe_op op_add (pv 7) pe_int)) po_none)) (pa_cons (pv 1) (pa_cons (pv 2) pa_nil))))) (LamX.lamS_by (by show LamX.lamSB (defScope s_law_refusals_right) _ = true; decide +kernel)) rfl (fun _ _ _ _ _ => rfl)) pe_str (nomark _)))))))))))))))))), ?_⟩
    walk_at "ev"
    refine ⟨a, rp, x0, x1, y0, y1, rfl, ha, hna, hrp, ⟨sx1, by omega, sx3, sx4⟩, ⟨sy1, by omega, sy3, sy4⟩, fun pr H1 rows n1 s1 u1 hR hO => ?_⟩
    have hrp1 := u1 _ _ hna hrp
    have hO1 := hO.1
    have hG : GRd ⟨x0, x1, y0, y1, rows⟩ := ⟨sx1, sy1, by show x1 ≤ x0 + 900; omega, by show y1 ≤ y0 + 900; omega, ⟨by show -3000000000 ≤ x0; omega, by show x0 ≤ 3000000000; omega⟩, ⟨by show -3000000000 ≤ y0; omega, by show y0 ≤ 3000000000; omega⟩, hO⟩
    have hfit : Fits x0 x1 y0 y1 rows := .inl ⟨sx1, sy1, by omega, fun r m => by rw [hO.2 r m]; omega⟩
    walk_at "ev"
    intro x dx nx ndx hne
    have s2 : Same H1 (upd (upd H1 dx (.own x)) x (.ins C dx [])) := (same_upd ndx).trans (same_upd ((upd_ne hne.symm).trans nx))
    refine ⟨x, dx, rp, pr, x0, x1, y0, y1, rows, rfl, upd_same, s2 _ _ hrp1, by omega, by omega, hR.up fun b o _ e => ⟨trivial, s2 _ _ e⟩, hfit, by omega, fun H2 o2 G2 => ?_⟩
    have s12 : Same H1 H2 := fun b o e => o2 b o (ne_of_none e nx) (s2 b o e)
    have G2 : GridN (· ≠ a) C H2 x [x0, x1, y0, y1] rows := GridN.mono G2 fun b e z => none_src (src_same s2 s1) (z ▸ e)
    have sr2 := src_same s12 s1
    have hrp2 := s12 _ _ hrp1
    have uH2 : Up a H H2 := u1.trans (up_same s12)
    clear s12 s2 o2 nx ndx hne hR s1 hrp1
    refine ⟨rfl, ?_⟩
    walk_at "ev"
    refine ⟨(by show 4 ≤ sizeLine; decide), fun t3 n3 => ?_⟩
    walk_at "ev"
    refine ⟨(by show 0 ≤ sizeLine; decide), fun l4 n4 => ?_⟩
    have q3 := same_upd (o := .tup [.int x0, .int x1, .int y1, .int y1]) n3
    have q4 := same_upd (o := .lst []) n4
    have e3 := q4 _ _ (upd_same (H := H2) (a := t3) (o := .tup [.int x0, .int x1, .int y1, .int y1]))
    have e4 : Rows (fun _ => True) (upd (upd H2 t3 (.tup [.int x0, .int x1, .int y1, .int y1])) l4 (.lst [])) l4 [] := ⟨trivial, [], upd_same, .nil⟩
    have s24 := q3.trans q4
    generalize upd (upd H2 t3 (.tup [.int x0, .int x1, .int y1, .int y1])) l4 (.lst []) = H4 at s24 e3 e4 ⊢
    clear q3 q4 n4
    have sr4 := src_same s24 sr2
    walk_at "ev"
    intro b db nb ndb hneb
    have s5 : Same H4 (upd (upd H4 db (.own b)) b (.ins C db [])) := (same_upd ndb).trans (same_upd ((upd_ne hneb.symm).trans nb))
    refine ⟨b, db, t3, l4, x0, x1, y1, y1, [], rfl, upd_same, s5 _ _ e3, by omega, by omega, e4.up fun b o _ e => ⟨trivial, s5 _ _ e⟩, .inr ⟨by omega, rfl⟩, Nat.zero_le _, fun H5 o5 G5 => ?_⟩
    have s45 : Same H4 H5 := fun c o e => o5 c o (ne_of_none e nb) (s5 c o e)
    have G5 : GridN (· ≠ a) C H5 b [x0, x1, y1, y1] [] := GridN.mono G5 fun c e z => none_src (src_same s5 sr4) (z ▸ e)
    have s25 := s24.trans s45
    have sr5 := src_same s25 sr2
    have hrp5 := s25 _ _ hrp2
    have G25 := G2.same s25
    have uH5 : Up a H H5 := uH2.trans (up_same s25)
    have hT5 : LamX.Tabs (tabsG PG) H5 := tabs_up hT uH5 ha
    clear s45 s5 o5 nb ndb hneb e3 e4 s24 G2 s25 sr4 uH2 sr2 hrp2 n3
    refine ⟨rfl, ?_⟩
    walk_at "ev"
    refine ⟨(by show 2 ≤ sizeLine; decide), fun tq ntq => ?_⟩
    have s56 := same_upd (o := .tup [.ref x, .ref b]) ntq
    replace sr5 := src_same s56 sr5
    replace hrp5 := s56 _ _ hrp5
    replace G25 := G25.same s56
    replace G5 := G5.same s56
    replace uH5 := uH5.trans (up_same s56)
    replace hT5 := tabs_same hT5 s56
    have eTq : upd H5 tq (.tup [.ref x, .ref b]) tq = some (.tup [.ref x, .ref b]) := upd_same
    generalize upd H5 tq (.tup [.ref x, .ref b]) = H55 at sr5 hrp5 G25 G5 uH5 hT5 eTq ⊢
    clear s56
    walk_at "ev"
    refine ⟨fun σ G => ∃ (P1 : Addr) (pas : List Addr) (gs : List Gd), gs = lowsD ls ⟨x0, x1, y0, y1, rows⟩ :: (highsD ls ⟨x0, x1, y0, y1, rows⟩).reverse ∧ σ = [some (.ref a), some (.ref rp), some (.str (SX.S ls)), none, none, none, none, none, some (.ref b), some (.ref x), some (.ref P1), none, none, some (.int x0), some (.int x1), some (.int y0), some (.int y1)] ∧ RK C PG a rp x b P1 x0 x1 y0 y1 rows pas gs H G, ?_, ?_⟩
    · walk_at "ev"
      refine ⟨x, ⟨x0, x1, y0, y1, rows⟩, ls, (· ≠ a), rfl, hG, G25, fun c e z => none_src sr5 (z ▸ e), hL, hl, fun P1 pas H6 s6 e6 A6 => ?_⟩
      walk_at "ev"
      have sr6 := src_same s6 sr5
      refine ⟨P1, pas, _, rfl, rfl, sr6, (uH5.trans (up_same s6)).n, tabs_same hT5 s6, G25.same s6, G5.same s6, s6 _ _ hrp5, fun z => ?_, e6, A6⟩
      obtain ⟨u, v, e, _⟩ := sr6
      have hl6 := A6.1
      rw [z, e] at e6
      cases pas with
      | nil => cases hl6
      | cons p0 ps => cases e6
    rintro σ G ⟨P1, pas, gs, hgs, rfl, k⟩
    clear G25 G5 sr5 hrp5 hT5 uH5
    have hgl : gs.length = ls.length + 1 := by rw [hgs, List.length_cons, List.length_reverse, highsD_len]
    have hpl : pas.length = ls.length + 1 := by rw [k.gp.1, hgl]
    walk_at "ev"
    refine ⟨fun σ G => ∃ ws : List Nat, σ = [some (.ref a), some (.ref rp), some (.str (SX.S ls)), none, none, none, none, none, some (.ref b), some (.ref x), some (.ref P1), none, some (.str (SX.S ws)), some (.int x0), some (.int x1), some (.int y0), some (.int y1)] ∧ RK C PG a rp x b P1 x0 x1 y0 y1 rows pas gs H G ∧ ¬ WordOk ws ∧ ws.length ≤ 100, ?_, ?_⟩
    · walk_at "ev"
      refine ⟨by rw [SX.S_len]; exact Nat.le_of_lt (small1000 (by show ls.length + 1 ≤ 1000; omega)), ?_⟩
      walk_at "ev"
      refine ⟨by rw [SX.S_len]; exact Nat.le_of_lt (small1000 (by show ls.length + 1 ≤ 1000; omega)), ?_⟩
      walk_at "ev"
      refine ⟨(by show 5 ≤ sizeLine; decide), fun t5 n5 => ?_⟩
      obtain ⟨J5, hJ5, q5, e5⟩ := lay (o := .lst [.str "Z", .str "xy", .str (SX.S ls ++ " "), .str "XXXXXXYYYYY", .str (SX.S ls ++ "x")]) n5
      rw [hJ5]
      have k5 := k.same q5
      walk_at "ev"
      refine ⟨a, t5, _, rfl, k5.sr, (Src.ne k.sr n5).symm, e5, by simp, by show 5 ≤ 1000; decide, fun v G hv sv uv => ?_⟩
      have kG := k5.but sv uv.up
      have w1 : ("Z" : Str) = SX.S [90] := by decide +kernel
      have w2 : ("xy" : Str) = SX.S [120, 121] := by decide +kernel
      have w3 : (SX.S ls ++ (" " : Str)) = SX.S (ls ++ [32]) := by
        rw [← SX.S_cat]
        congr 1
      have w4 : ("XXXXXXYYYYY" : Str) = SX.S [88, 88, 88, 88, 88, 88, 89, 89, 89, 89, 89] := by decide +kernel
      have w5 : (SX.S ls ++ ("x" : Str)) = SX.S (ls ++ [120]) := by
        rw [← SX.S_cat]
        congr 1
      have no : ∀ (c : Nat) (l : List Nat), c ≠ 88 → c ≠ 89 → c ∈ l → ¬ WordOk l := fun c l h1 h2 m z => (z.1 c m).elim h1 h2
      simp only [List.mem_cons, List.not_mem_nil, or_false] at hv
      rcases hv with rfl | rfl | rfl | rfl | rfl
      · exact ⟨[90], by rw [← w1]; rfl, kG, no 90 _ (by decide) (by decide) (by simp), by decide⟩
      · exact ⟨[120, 121], by rw [← w2]; rfl, kG, no 120 _ (by decide) (by decide) (by simp), by decide⟩
      · exact ⟨ls ++ [32], by rw [← w3]; rfl, kG, no 32 _ (by decide) (by decide) (by simp), by rw [List.length_append]; show ls.length + 1 ≤ 100; omega⟩
      · exact ⟨[88, 88, 88, 88, 88, 88, 89, 89, 89, 89, 89], by rw [← w4]; rfl, kG, fun z => absurd z.2 (by decide), by decide⟩
      · exact ⟨ls ++ [120], by rw [← w5]; rfl, kG, no 120 _ (by decide) (by decide) (by simp), by rw [List.length_append]; show ls.length + 1 ≤ 100; omega⟩
    rintro σ G ⟨ws, rfl, k, nw, wl⟩
    refine ⟨fun σ G => σ = [some (.ref a), some (.ref rp), some (.str (SX.S ls)), none, none, none, none, none, some (.ref b), some (.ref x), some (.ref P1), none, some (.str (SX.S ws)), some (.int x0), some (.int x1), some (.int y0), some (.int y1)] ∧ RK C PG a rp x b P1 x0 x1 y0 y1 rows pas gs H G, ?_, ?_⟩
    · walk_at "ev"
      refine ⟨k.tb, fun H1 x1' t1' => ?_⟩
      have k1 := k.ext x1' t1'
      refine ref_in (wd := "outside") (fun Q' hq => ?_) fun H2 s2 => ?_
      · walk_at "ev"
        exact ⟨b, ws, x0, x1, y1, y1, [], rfl, k1.gb.mono fun _ _ => trivial, wl, .inl ⟨by omega, E_out gO (Same.refl _) hq⟩⟩
      walk_at "ev"
      exact k1.same s2
    rintro σ G ⟨rfl, k⟩
    refine ⟨fun σ G => σ = [some (.ref a), some (.ref rp), some (.str (SX.S ls)), none, none, none, none, none, some (.ref b), some (.ref x), some (.ref P1), none, some (.str (SX.S ws)), some (.int x0), some (.int x1), some (.int y0), some (.int y1)] ∧ RK C PG a rp x b P1 x0 x1 y0 y1 rows pas gs H G, ?_, ?_⟩
    · walk_at "ev"
      refine ⟨k.tb, fun H1 x1' t1' => ?_⟩
      have k1 := k.ext x1' t1'
      refine ref_in (wd := "field word") (fun Q' hq => ?_) fun H2 s2 => ?_
      · walk_at "ev"
        exact ⟨x, ws, x0, x1, y0, y1, rows, rfl, k1.gx.mono fun _ _ => trivial, wl, .inr ⟨sx1, sy1, nw, fun d H' nd s' ed => E_word s' ed hq⟩⟩
      walk_at "ev"
      exact k1.same s2
    rintro σ G ⟨rfl, k⟩
    refine ⟨fun σ G => σ = [some (.ref a), some (.ref rp), some (.str (SX.S ls)), none, none, none, none, none, some (.ref b), some (.ref x), some (.ref P1), none, some (.str (SX.S ws)), some (.int x0), some (.int x1), some (.int y0), some (.int y1)] ∧ RK C PG a rp x b P1 x0 x1 y0 y1 rows pas gs H G, ?_, ?_⟩
    · walk_at "ev"
      refine ⟨k.tb, fun H1 x1' t1' => ?_⟩
      have k1 := k.ext x1' t1'
      refine ref_in (wd := "grid") (fun Q' hq => ?_) fun H2 s2 => ?_
      · walk_at "ev"
        refine ⟨(by show 4 ≤ sizeLine; decide), fun t1 m1 => ?_⟩
        walk_at "ev"
        exact ⟨P1, t1, x1, x0, y0, y1, ws, rfl, upd_same, wl, .inl ⟨by omega, E_grid gB (same_upd m1) hq⟩⟩
      walk_at "ev"
      exact k1.same s2
    rintro σ G ⟨rfl, k⟩
    refine ⟨fun σ G => σ = [some (.ref a), some (.ref rp), some (.str (SX.S ls)), none, none, none, none, none, some (.ref b), some (.ref x), some (.ref P1), none, some (.str (SX.S ws)), some (.int x0), some (.int x1), some (.int y0), some (.int y1)] ∧ RK C PG a rp x b P1 x0 x1 y0 y1 rows pas gs H G, ?_, ?_⟩
    · walk_at "ev"
      refine ⟨k.tb, fun H1 x1' t1' => ?_⟩
      have k1 := k.ext x1' t1'
      refine ref_in (wd := "outside") (fun Q' hq => ?_) fun H2 s2 => ?_
      · walk_at "ev"
        refine ⟨(by show 0 ≤ sizeLine; decide), fun l1 m0 => ?_⟩
        walk_at "ev"
        refine ⟨(by show 4 ≤ sizeLine; decide), fun t1 m1 => ?_⟩
        walk_at "ev"
        exact ⟨l1, t1, x0, x0, y0, y1, ws, rfl, upd_same, wl, .inr (.inl ⟨by omega, by omega, by omega, E_out gO ((same_upd m0).trans (same_upd m1)) hq⟩)⟩
      walk_at "ev"
      exact k1.same s2
    rintro σ G ⟨rfl, k⟩
    refine ⟨fun σ G => σ = [some (.ref a), some (.ref rp), some (.str (SX.S ls)), none, none, none, none, none, some (.ref b), some (.ref x), some (.ref P1), none, some (.str (SX.S ws)), some (.int x0), some (.int x1), some (.int y0), some (.int y1)] ∧ RK C PG a rp x b P1 x0 x1 y0 y1 rows pas gs H G, ?_, ?_⟩
    · walk_at "ev"
      refine ⟨k.tb, fun H1 x1' t1' => ?_⟩
      have k1 := k.ext x1' t1'
      refine ref_in (wd := "field word") (fun Q' hq => ?_) fun H2 s2 => ?_
      · walk_at "ev"
        refine ⟨(by show 0 ≤ sizeLine; decide), fun l1 m0 => ?_⟩
        walk_at "ev"
        exact ⟨l1, rp, x0, x1, y0, y1, ws, rfl, (same_upd m0) _ _ k1.rp, wl, .inr (.inr (.inl ⟨sx1, sy1, nw, fun d H' nd s' ed => E_word ((same_upd m0).trans s') ed hq⟩))⟩
      walk_at "ev"
      exact k1.same s2
    rintro σ G ⟨rfl, k⟩
    refine ⟨fun σ G => σ = [some (.ref a), some (.ref rp), some (.str (SX.S ls)), none, none, none, none, none, some (.ref b), some (.ref x), some (.ref P1), none, some (.str (SX.S ws)), some (.int x0), some (.int x1), some (.int y0), some (.int y1)] ∧ RK C PG a rp x b P1 x0 x1 y0 y1 rows pas gs H G, ?_, ?_⟩
    · walk_at "ev"
      refine ⟨k.tb, fun H1 x1' t1' => ?_⟩
      have k1 := k.ext x1' t1'
      refine ref_in (wd := "grid") (fun Q' hq => ?_) fun H2 s2 => ?_
      · walk_at "ev"
        refine ⟨(by show 1 ≤ sizeLine; decide), fun l1 m0 => ?_⟩
        have sA := same_upd (o := .lst [.ref x]) m0
        walk_at "ev"
        refine ⟨P1, l1, _, _, rfl, rfl, sA _ _ k1.eP, upd_same, Nat.le_of_lt (small1000 (by rw [List.length_map]; show _ + 1 ≤ 1000; omega)), fun p2 m2 => ?_⟩
        have sB := sA.trans (same_upd (o := .lst (pas.map V.ref ++ [.ref x])) m2)
        walk_at "ev"
        refine ⟨p2, rp, x0, x1, y0, y1, ls, rfl, sB _ _ k1.rp, by omega, .inr (.inr (.inr ⟨sx1, sy1, ⟨hL, hl⟩, pas ++ [x], gs ++ [⟨x0, x1, y0, y1, rows⟩], ⟨x0, x1, y0, y1, rows⟩, rfl, by rw [upd_same, List.map_append]; rfl, by rw [List.length_append]; show pas.length + 1 ≤ 100; omega,
          AllG.app (g := ⟨x0, x1, y0, y1, rows⟩) (k1.gp.up fun _ _ _ h => (h.same sB).mono fun _ _ => trivial) ((k1.gx.same sB).mono fun _ _ => trivial), fun z => ?_, fun H' s' => E_grid gB (sB.trans s') hq⟩))⟩
        rw [← hgs] at z
        have := congrArg List.length z
        rw [List.length_map, List.length_map, List.length_append] at this
        exact absurd this (Nat.succ_ne_self _)
      walk_at "ev"
      exact k1.same s2
    rintro σ G ⟨rfl, k⟩
    refine ⟨fun σ G => σ = [some (.ref a), some (.ref rp), some (.str (SX.S ls)), none, none, none, none, none, some (.ref b), some (.ref x), some (.ref P1), none, some (.str (SX.S ws)), some (.int x0), some (.int x1), some (.int y0), some (.int y1)] ∧ RK C PG a rp x b P1 x0 x1 y0 y1 rows pas gs H G, ?_, ?_⟩
    · walk_at "ev"
      refine ⟨k.tb, fun H1 x1' t1' => ?_⟩
      have k1 := k.ext x1' t1'
      refine ref_in (wd := "grid") (fun Q' hq => ?_) fun H2 s2 => ?_
      · walk_at "ev"
        refine ⟨P1, _, rfl, .inl (.inl k1.eP), fun l1 m0 => ?_⟩
        have hc1 : cutV (pas.map V.ref) (some 1) none = (pas.drop 1).map V.ref := by
          rw [List.map_drop]
          exact cut_drop (k := 1) rfl (by rw [List.length_map]; omega)
        rw [hc1]
        have sA := same_upd (o := .lst ((pas.drop 1).map V.ref)) m0
        walk_at "ev"
        refine ⟨l1, rp, x0, x1, y0, y1, ls, rfl, sA _ _ k1.rp, by omega, .inr (.inr (.inr ⟨sx1, sy1, ⟨hL, hl⟩, pas.drop 1, gs.drop 1, ⟨x0, x1, y0, y1, rows⟩, rfl, upd_same, by rw [List.length_drop]; omega,
          (k1.gp.drop 1).up fun _ _ _ h => (h.same sA).mono fun _ _ => trivial, fun z => ?_, fun H' s' => E_grid gB (sA.trans s') hq⟩))⟩
        rw [← hgs] at z
        have := congrArg List.length z
        rw [List.length_map, List.length_map, List.length_drop] at this
        omega
      walk_at "ev"
      exact k1.same s2
    rintro σ G ⟨rfl, k⟩
    walk_at "ev"
    refine ⟨P1, _, rfl, .inl (.inl (.inl k.eP)), ?_⟩
    have hpm : (pas.map V.ref).length = ls.length + 1 := by rw [List.length_map, hpl]
    rw [hpm]
    walk_at "ev"
    refine ⟨k.sr, by omega, by omega, fun r G1 r0 r1 sv uv => ?_⟩
    have kG := k.but sv uv.up
    obtain ⟨n, rfl⟩ : ∃ n : Nat, r = (n : Int) := ⟨r.toNat, by omega⟩
    obtain ⟨pa, hpa⟩ : ∃ b, pas[n]? = some b := ⟨pas[n]'(by omega), List.getElem?_eq_getElem _⟩
    obtain ⟨d, hd⟩ : ∃ d, gs[n]? = some d := ⟨gs[n]'(by omega), List.getElem?_eq_getElem _⟩
    have hdi : InB d := by
      have z := InB.all (g := ⟨x0, x1, y0, y1, rows⟩) ⟨by show x1 ≤ x0 + 30; omega, by show y1 ≤ y0 + 30; omega, ⟨sx3, sx4⟩, ⟨sy3, sy4⟩, Int.le_of_lt sx1, Int.le_of_lt sy1⟩ hG ls
      rw [← hgs] at z
      exact z d (List.mem_of_getElem? hd)
    have hdf : Fits d.x0 d.x1 d.y0 d.y1 d.rows := by
      have z := fits_all hG hL
      rw [← hgs] at z
      exact z d (List.mem_of_getElem? hd)
    have kd := kG.gp.2 n pa d hpa hd
    obtain ⟨db, td, pd, j1, j2, _⟩ := _root_.id kd
    have j2 : G1 td = some (.tup [.int d.x0, .int d.x1, .int d.y0, .int d.y1]) := j2
    clear k
    walk_at "ev"
    refine ⟨_, _, _, _, rfl, rfl, .inl (.inl kG.eP), at_of (j := n) (v := .ref pa) rfl (by rw [List.getElem?_map, hpa]; rfl), ?_⟩
    walk_at "ev"
    refine ⟨pa, db, _, rfl, j1, pa, td, pd, db, rfl, j1, ?_⟩
    walk_at "ev"
    refine ⟨fun σ G => ∃ (xs : Addr), σ = [some (.ref a), some (.ref rp), some (.str (SX.S ls)), some (.int d.x0), some (.int d.x1), some (.int d.y0), some (.int d.y1), some (.int (n : Int)), some (.ref b), some (.ref x), some (.ref P1), some (.ref xs), some (.str (SX.S ws)), some (.int x0), some (.int x1), some (.int y0), some (.int y1)] ∧ RK C PG a rp x b P1 x0 x1 y0 y1 rows pas gs H G ∧ GridN (· ≠ a) C G xs [d.x0, d.x1, d.y0 + 1, d.y1 + 1] d.rows, ?_, ?_⟩
    · walk_at "ev"
      refine ⟨(by show 4 ≤ sizeLine; decide), fun t5 n5 => ?_⟩
      obtain ⟨J5, hJ5, q5, e5⟩ := lay (o := .tup [.int d.x0, .int d.x1, .int (d.y0 + 1), .int (d.y1 + 1)]) n5
      rw [hJ5]
      have k5 := kG.same q5
      walk_at "ev"
      refine ⟨_, _, _, _, rfl, rfl, .inl (.inl k5.eP), at_of (j := n) (v := .ref pa) rfl (by rw [List.getElem?_map, hpa]; rfl), ?_⟩
      walk_at "ev"
      refine ⟨pa, db, _, rfl, q5 _ _ j1, pa, d.rc, d.rows, rfl, (kd.same q5).mono fun _ _ => trivial, fits_len hdi hdf, fun q9 H9 n9 s9 R9 => ?_⟩
      walk_at "ev"
      intro y dy ny ndy hney
      have s10 : Same H9 (upd (upd H9 dy (.own y)) y (.ins C dy [])) := (same_upd ndy).trans (same_upd ((upd_ne hney.symm).trans ny))
      have hfs : Fits d.x0 d.x1 (d.y0 + 1) (d.y1 + 1) d.rows := by
        rcases hdf with ⟨f1, f2, f3, f4⟩ | ⟨f1, f2⟩
        · exact .inl ⟨f1, by omega, by omega, f4⟩
        · exact .inr ⟨fun z => f1 ⟨z.1, by have := z.2; omega⟩, f2⟩
      have yo := hdi.yo
      refine ⟨y, dy, t5, q9, d.x0, d.x1, d.y0 + 1, d.y1 + 1, d.rows, rfl, upd_same, s10 _ _ (s9 _ _ e5), hdi.xo, by omega, R9.up fun b o _ e => ⟨trivial, s10 _ _ e⟩, hfs, fits_len hdi hdf, fun H10 o10 G10 => ?_⟩
      have s910 : Same H9 H10 := fun c o e => o10 c o (ne_of_none e ny) (s10 c o e)
      have k10 := k5.same (s9.trans s910)
      refine ⟨rfl, ?_⟩
      walk_at "ev"
      exact ⟨k10, GridN.mono G10 fun c e z => none_src (src_same s10 (k5.same s9).sr) (z ▸ e)⟩
    rintro σ G ⟨xs, rfl, k, gS⟩
    clear kG kd j1 j2
    walk_at "ev"
    refine ⟨k.tb, fun H1 x1' t1' => ?_⟩
    have k1 := k.ext x1' t1'
    have gS1 := gS.extN x1'
    refine ref_in (wd := "grid") (fun Q' hq => ?_) fun H2 s2 => ?_
    · walk_at "ev"
      refine ⟨P1, _, rfl, .inl (.inl k1.eP), fun l1 m1 => ?_⟩
      have hc1 : cutV (pas.map V.ref) none (some (n : Int)) = (pas.take n).map V.ref := by
        rw [List.map_take]
        exact cut_take rfl (by rw [hpm]; omega)
      rw [hc1]
      obtain ⟨J1, hJ1, a1, f1⟩ := lay (o := .lst ((pas.take n).map V.ref)) m1
      rw [hJ1]
      walk_at "ev"
      refine ⟨(by show 1 ≤ sizeLine; decide), fun l2 m2 => ?_⟩
      obtain ⟨J2, hJ2, a2, f2⟩ := lay (o := .lst [.ref xs]) m2
      rw [hJ2]
      walk_at "ev"
      refine ⟨l1, l2, _, _, rfl, rfl, a2 _ _ f1, f2, Nat.le_of_lt (small1000 (by rw [List.length_map, List.length_take]; show _ + 1 ≤ 1000; omega)), fun l3 m3 => ?_⟩
      obtain ⟨J3, hJ3, a3, f3⟩ := lay (o := .lst ((pas.take n).map V.ref ++ [.ref xs])) m3
      rw [hJ3]
      walk_at "ev"
      refine ⟨P1, _, rfl, .inl (.inl (a3 _ _ (a2 _ _ (a1 _ _ k1.eP)))), fun l4 m4 => ?_⟩
      have hc2 : cutV (pas.map V.ref) (some ((n : Int) + 1)) none = (pas.drop (n + 1)).map V.ref := by
        rw [List.map_drop]
        exact cut_drop (by omega) (by rw [hpm]; omega)
      rw [hc2]
      obtain ⟨J4, hJ4, a4, f4⟩ := lay (o := .lst ((pas.drop (n + 1)).map V.ref)) m4
      rw [hJ4]
      walk_at "ev"
      refine ⟨l3, l4, _, _, rfl, rfl, a4 _ _ f3, f4, Nat.le_of_lt (small1000 (by rw [List.length_append, List.length_map, List.length_map, List.length_take, List.length_drop]; show _ + 1 + _ ≤ 1000; omega)), fun l5 m5 => ?_⟩
      obtain ⟨J5, hJ5, a5, f5⟩ := lay (o := .lst ((pas.take n).map V.ref ++ [.ref xs] ++ (pas.drop (n + 1)).map V.ref)) m5
      rw [hJ5]
      walk_at "ev"
      have sZ := (((a1.trans a2).trans a3).trans a4).trans a5
      have gp := k1.gp.up (M := fun _ => True) fun _ _ _ h => (h.same sZ).mono fun _ _ => trivial
      have hA : AllG (fun _ => True) C J5 ((pas.take n ++ [xs]) ++ pas.drop (n + 1)) ((gs.take n ++ [⟨d.x0, d.x1, d.y0 + 1, d.y1 + 1, d.rows⟩]) ++ gs.drop (n + 1)) :=
        AllG.append (gp.drop (n + 1)) (AllG.app (g := ⟨d.x0, d.x1, d.y0 + 1, d.y1 + 1, d.rows⟩) (gp.take n) ((gS1.same sZ).mono fun _ _ => trivial))
      refine ⟨l5, rp, x0, x1, y0, y1, ls, rfl, sZ _ _ k1.rp, by omega, .inr (.inr (.inr ⟨sx1, sy1, ⟨hL, hl⟩, _, _, ⟨x0, x1, y0, y1, rows⟩, rfl, by rw [f5, List.map_append, List.map_append]; rfl, by rw [List.length_append, List.length_append, List.length_take, List.length_drop]; show _ + 1 + _ ≤ 100; omega, hA, fun z => ?_, fun H' s' => E_grid gB (sZ.trans s') hq⟩))⟩
      rw [← hgs] at z
      have z2 := congrArg (fun l => l[n]?) z
      have hnl : (gs.take n).length = n := by rw [List.length_take]; omega
      simp only [List.getElem?_map, List.append_assoc] at z2
      rw [List.getElem?_append_right (by omega), hnl, Nat.sub_self, hd] at z2
      have z3 : [d.x0, d.x1, d.y0 + 1, d.y1 + 1] = [d.x0, d.x1, d.y0, d.y1] := Option.some.inj z2
      simp only [List.cons.injEq, and_true] at z3
      omega
    · walk_at "ev"
      have k2 := k1.same s2
      exact q _ k2.sr k2.up k2.tb
/-! ### the law -/
def spLaw (K : PySem.W.Frag) (PG : Addr) : Sp := fun vs H Q _ => ∃ (a : Addr) (ns : List Int), vs = [.ref a] ∧ SqL K H a (ns.map V.int) ∧ ns.length ≤ 63 ∧ LamX.Tabs (tabsG PG) H ∧ ∀ H', Q (.bl true) H'
theorem ok_law {f PG : Addr} {fd : FuncData} {k : Nat} (F : Fun K "law" "law" s_law f fd) (T : Txt mg) (c_law_pool : C8.Cal P w K mg base 1 "_law_pool" (spPool K) []) (c_law_rect : C8.Cal P w K mg base 3 "_law_rect" spRect []) (c_law_word : C8.Cal P w K mg base 3 "_law_word" spWord [])
    (c_law_right : C8.Cal P w K mg base 9 "_law_right" (spRight K) []) (c_law_refusals_right : C8.Cal P w K mg base 12 "_law_refusals_right" (spRefus PG) []) : FnOk P w K mg base CX0 (k + 13) f fd ["_law_script"] (spLaw K PG) := by
  refine F.ok sc_law (fun vs H Q E h => ?_) (fun cdv A outer s H vs Q E hr h => ?_)
  · obtain ⟨a, ns, rfl, _⟩ := h
    rfl
  · obtain ⟨a, ns, rfl, hS, hl, hT, q⟩ := h
    have hu := hr.units
    refine ⟨_, (pss_cons (ps_for PassesOwn.never rfl (pi_range1 (by rfl) T.z_range (pa_cons (pe_callB (call_max2 rfl) (by rfl) T.z_max PyProof.Rows.boot_max (pa_cons pe_int (pa_cons (pe_callB (call_min2 rfl) (by rfl) T.z_min PyProof.Rows.boot_min (pa_cons (pe_callB call_len_seq (by rfl) T.z_len PySem.boot_len (pa_cons (pv 0) pa_nil)) (pa_cons pe_int pa_nil))) pa_nil))) pa_nil)) (pg_name (i := 1) sc_law.nd rfl (Or.inl rfl))
      (pss_cons (ps_set (i := 2) sc_law.nd rfl (Or.inl rfl) (C8.pe_c c_law_pool hr (by omega) (by rfl) (pa_cons (pv 0) (pa_cons (pv 1) pa_nil))))
    (pss_cons (ps_par (i := 3) (j := 4) rfl sc_law.nd rfl rfl (by decide) rfl rfl (pa_cons (C8.pe_c c_law_rect hr (by omega) (by rfl) (pa_cons (pv 2) (pa_cons pe_int pa_nil))) (pa_cons (C8.pe_c c_law_word hr (by omega) (by rfl) (pa_cons (pv 2) pa_nil)) pa_nil)) rfl)
    (pss_one (ps_if (PW.pt (pw_or (pt_not (pt_val (C8.pe_c c_law_right hr (by omega) (by rfl) (pa_cons (pv 2) (pa_cons (pv 3) (pa_cons (pv 4) pa_nil)))))) (pw_or1 (pt_not (pt_val (C8.pe_c c_law_refusals_right hr (by omega) (by rfl) (pa_cons (pv 2) (pa_cons (pv 3) (pa_cons (pv 4) pa_nil))))))))) (pss_one (ps_ret pe_bl)) pss_nil)))))
    (pss_one (ps_ret pe_bl))), ?_⟩
    walk_at "ev"
    refine ⟨(by split <;> split <;> omega), (by split <;> split <;> omega), ?_⟩
    refine for_range (fun i σ H1 => ∃ v1 v2 v3 v4, σ = [some (.ref a), v1, v2, v3, v4] ∧ LamX.ExtN H H1 ∧ LamX.Tabs (tabsG PG) H1) ⟨_, _, _, _, rfl, LamX.ExtN.refl H, hT⟩ ?_ ?_
    · rintro i σ H1 hi ⟨v1, v2, v3, v4, rfl, x1, t1⟩
      walk_at "ev"
      refine ⟨_, _, _, rfl, ext_seq x1 hS, (by omega), ?_, fun p H2 np sm hs => ?_⟩
      · split at hi <;> split at hi <;> omega
      walk_at "ev"
      refine ⟨hs, by decide, by decide, fun rq H3 a0 a1 b0 b1 nq s3 u3 erq sx sy => ?_⟩
      have rqp : rq ≠ p := (hs.ne nq).symm
      walk_at "ev"
      refine ⟨s3, fun ls H4 hL hlw s4 u4 => ?_⟩
      have erq4 := u4 _ _ rqp erq
      obtain ⟨sx1, sx2, sx3, sx4⟩ := sx
      obtain ⟨sy1, sy2, sy3, sy4⟩ := sy
      have u34 := u3.trans u4
      have t4 := tabs_up (tabs_same t1 sm) u34 hs
      walk_at "ev"
      refine ⟨p, rq, a0, a1, b0, b1, ls, rfl, s4, rqp, erq4, ⟨sx1, by omega, sx3, sx4⟩, ⟨sy1, by omega, sy3, sy4⟩, hL, hlw, fun H5 s5 u5 => ?_⟩
      have t5 := tabs_up t4 u5 s4
      walk_at "ev"
      refine ⟨p, rq, a0, a1, b0, b1, ls, rfl, s5, rqp, u5 _ _ rqp erq4, ⟨sx1, by omega, sx3, sx4⟩, ⟨sy1, by omega, sy3, sy4⟩, hL, hlw, t5, fun H7 s7 u7 t7 => ?_⟩
      walk_at "ev"
      exact ⟨_, _, _, _, rfl, x1.trans (UpN.to ((u34.n.trans u5.n).trans u7) (ext_same sm) np), t7⟩
    · rintro σ H1 ⟨v1, v2, v3, v4, rfl, x1, t1⟩
      walk_at "ev"
      exact q H1
theorem ok_badfield {f C : Addr} {fd : FuncData} {k : Nat} (F : Fun K "__init__" "BadField.__init__" s_BadField_init f fd) (T : OexC K C) (n : PySem.W.findIn K (.ref C) "name" = some none) : FnOk P w K mg base CX0 (k + 1) f fd ["self", "name"] (spIni C "name") := by
  refine F.ok sc_BadField_init (fun vs H Q E h => ?_) (fun cdv A outer s H vs Q E hr h => ?_)
  · obtain ⟨a, v, rfl, _⟩ := h
    rfl
  · obtain ⟨a, v, rfl, ha, q⟩ := h
    refine ⟨_, (pss_one (ps_ost (pv 0) (pv 1))), ?_⟩
    walk_at "ev"
    exact ⟨a, C, rfl, T, n, .inl ⟨ha, q⟩⟩
end
/-! ### what the top has written -/
theorem kit_tyr {K : PySem.W.Frag} {C : Addr} {T : String} {b : Bool} (m : PySem.W.kitMeta T = true) (s : PySem.W.subIn K (.ref C) (.type T) = some b) : PySem.W.kitOne K (.ref C) (.type T) = some b := by
  unfold PySem.W.kitOne
  rw [if_neg (by simp)]
  unfold PySem.W.kitCls
  show (if _ then _ else _) = _
  rw [if_pos m]
  exact s
theorem kbm1 {K : PySem.W.Frag} {x qual s p : Str} {params : Arguments} {body : List Stmt} {scope : Scope} {kV doc pm cd ct : Value} {an : Option Addr} (h : ∀ z u, bindArgs (PySem.W.fnOf x qual params body scope .none kV doc pm an cd ct) ⟨[z], [(p, u)]⟩ = pure [(s, z), (p, u)]) : KBn K (PySem.W.fnOf x qual params body scope .none kV doc pm an cd ct) [s, p] 1 [p] (fun us ws => us ++ ws) (fun vs zs => vs ++ zs) :=
  ⟨fun st us ws _ h1 h2 => match us, ws, h1, h2 with | [z], [u], _, _ => .of_eq (h z u), fun r1 r2 => r1.append r2⟩
theorem kbm2 {K : PySem.W.Frag} {x qual s p p2 : Str} {params : Arguments} {body : List Stmt} {scope : Scope} {kV doc pm cd ct : Value} {an : Option Addr} (h : ∀ z u v, bindArgs (PySem.W.fnOf x qual params body scope .none kV doc pm an cd ct) ⟨[z], [(p, u), (p2, v)]⟩ = pure [(s, z), (p, u), (p2, v)]) : KBn K (PySem.W.fnOf x qual params body scope .none kV doc pm an cd ct) [s, p, p2] 1 [p, p2] (fun us ws => us ++ ws) (fun vs zs => vs ++ zs) :=
  ⟨fun st us ws _ h1 h2 => match us, ws, h1, h2 with | [z], [u, v], _, _ => .of_eq (h z u v), fun r1 r2 => r1.append r2⟩
theorem all_mk {l : PySem.W.OpenLaw} {w : World} {K : PySem.W.Frag} {h : Heap} {mg : Str → Option Value} {fa : Addr} (X : K.In h) (G : h.Ns mainGlobals mg) (hfa : mg "law" = some (.ref fa))
    {C : Addr} {BF NSBF : Addr} {nmBF qnBF : Str} {bsBF bmBF suBF : List Value} {slBF : List Str} {abBF : Bool} {coBF : Option Bool} {ddBF : Option Addr} {kaBF kbBF kcBF kdBF keBF : Option Value} (eC : PySem.W.nsIn K mainGlobals "Grid" = some (some (.ref C))) (pgC : PySem.W.plainGet K C Str.empty = true) (hdC : PySem.W.hasDictIn K C = true) (poC : PySem.W.plainOver K C = true) (saC : PySem.W.findIn K (.ref C) "__setattr__" = some (some (.builtin "object.__setattr__"))) (mkC : PySem.W.makesIn K C = true) (kcC : PySem.W.keepIn K (.ref C) = true) (naC0 : PySem.W.findIn K (.ref C) "_rect" = some none) (naC1 : PySem.W.findIn K (.ref C) "_rows" = some none) (eBF : PySem.W.nsIn K mainGlobals "BadField" = some (some (.ref BF))) (lcBF : K.lookup BF = some (excClassObj nmBF qnBF BF NSBF bsBF bmBF true slBF suBF abBF coBF ddBF kaBF kbBF kcBF kdBF keBF "ValueError.__new__")) (rvBF : PySem.HandSPX.refsVE bmBF = true) (saBF : PySem.W.findIn K (.ref BF) "__setattr__" = some (some (.builtin "object.__setattr__"))) (exBF : PySem.W.subIn K (.ref BF) (.type "BaseException") = some true) (tyBF : PySem.W.typeIn K (.ref BF) = some (.type "type")) (kpBF : PySem.W.keepIn K (.ref BF) = true) (gaBF : PySem.W.findIn K (.ref BF) "__getattribute__" = some (some (.builtin "BaseException.__getattribute__"))) (ggBF : PySem.W.findIn K (.ref BF) "__getattr__" = some none) (hdBF : PySem.W.hasDictIn K BF = true) (naBF : PySem.W.findIn K (.ref BF) "name" = some none) (caBF : PySem.W.findIn K (.ref BF) "__class__" = some (some (.builtin "object.__class__"))) (moBF : PySem.W.mroIn K BF (.type "object") = some true) (sBFBF : PySem.W.subIn K (.ref BF) (.ref BF) = some true)
    {od0 an0 : Option Addr} {sl0 : Array (Option Value)} {oc0 kV0 dc0 pm0 cd0 ct0 : Value} {f0 : Addr}
    (a0 : PySem.W.nsIn K mainGlobals "is_number" = some (some (.ref f0))) (l0 : K.lookup f0 = some ⟨oc0, od0, .func (PySem.W.fnOf "is_number" "is_number" (defArgs s_is_number) (defBody s_is_number) (defScope s_is_number) .none kV0 dc0 pm0 an0 cd0 ct0), sl0⟩) (c0 : PySem.W.codeIn K cd0 "is_number" = true) (k0 : PySem.W.keepIn K (.ref f0) = true)
    {od1 an1 : Option Addr} {sl1 : Array (Option Value)} {oc1 kV1 dc1 pm1 cd1 ct1 : Value} {f1 : Addr}
    (a1 : PySem.W.nsIn K mainGlobals "check_rect" = some (some (.ref f1))) (l1 : K.lookup f1 = some ⟨oc1, od1, .func (PySem.W.fnOf "check_rect" "check_rect" (defArgs s_check_rect) (defBody s_check_rect) (defScope s_check_rect) .none kV1 dc1 pm1 an1 cd1 ct1), sl1⟩) (c1 : PySem.W.codeIn K cd1 "check_rect" = true) (k1 : PySem.W.keepIn K (.ref f1) = true)
    {od2 an2 : Option Addr} {sl2 : Array (Option Value)} {oc2 kV2 dc2 pm2 cd2 ct2 : Value} {f2 : Addr}
    (a2 : PySem.W.nsIn K mainGlobals "has_cells" = some (some (.ref f2))) (l2 : K.lookup f2 = some ⟨oc2, od2, .func (PySem.W.fnOf "has_cells" "has_cells" (defArgs s_has_cells) (defBody s_has_cells) (defScope s_has_cells) .none kV2 dc2 pm2 an2 cd2 ct2), sl2⟩) (c2 : PySem.W.codeIn K cd2 "has_cells" = true) (k2 : PySem.W.keepIn K (.ref f2) = true)
    {od3 an3 : Option Addr} {sl3 : Array (Option Value)} {oc3 kV3 dc3 pm3 cd3 ct3 : Value} {f3 : Addr}
    (a3 : PySem.W.nsIn K mainGlobals "is_row" = some (some (.ref f3))) (l3 : K.lookup f3 = some ⟨oc3, od3, .func (PySem.W.fnOf "is_row" "is_row" (defArgs s_is_row) (defBody s_is_row) (defScope s_is_row) .none kV3 dc3 pm3 an3 cd3 ct3), sl3⟩) (c3 : PySem.W.codeIn K cd3 "is_row" = true) (k3 : PySem.W.keepIn K (.ref f3) = true)
    {od4 an4 : Option Addr} {sl4 : Array (Option Value)} {oc4 kV4 dc4 pm4 cd4 ct4 : Value} {f4 : Addr}
    (a4 : PySem.W.nsIn K mainGlobals "rows_fit" = some (some (.ref f4))) (l4 : K.lookup f4 = some ⟨oc4, od4, .func (PySem.W.fnOf "rows_fit" "rows_fit" (defArgs s_rows_fit) (defBody s_rows_fit) (defScope s_rows_fit) .none kV4 dc4 pm4 an4 cd4 ct4), sl4⟩) (c4 : PySem.W.codeIn K cd4 "rows_fit" = true) (k4 : PySem.W.keepIn K (.ref f4) = true)
    {od5 an5 : Option Addr} {sl5 : Array (Option Value)} {oc5 kV5 dc5 pm5 cd5 ct5 : Value} {f5 : Addr}
    (a5 : PySem.W.findIn K (.ref BF) "__init__" = some (some (.ref f5))) (i5 : PySem.W.isFn K (.ref f5) = true)
    (l5 : K.lookup f5 = some ⟨oc5, od5, .func (PySem.W.fnOf "__init__" "BadField.__init__" (defArgs s_BadField_init) (defBody s_BadField_init) (defScope s_BadField_init) .none kV5 dc5 pm5 an5 cd5 ct5), sl5⟩) (c5 : PySem.W.codeIn K cd5 "BadField.__init__" = true) (k5 : PySem.W.keepIn K (.ref f5) = true)
    {od6 an6 : Option Addr} {sl6 : Array (Option Value)} {oc6 kV6 dc6 pm6 cd6 ct6 : Value} {f6 : Addr}
    (a6 : PySem.W.findIn K (.ref C) "__init__" = some (some (.ref f6))) (i6 : PySem.W.isFn K (.ref f6) = true)
    (l6 : K.lookup f6 = some ⟨oc6, od6, .func (PySem.W.fnOf "__init__" "Grid.__init__" (defArgs s_Grid_init) (defBody s_Grid_init) (defScope s_Grid_init) .none kV6 dc6 pm6 an6 cd6 ct6), sl6⟩) (c6 : PySem.W.codeIn K cd6 "Grid.__init__" = true) (k6 : PySem.W.keepIn K (.ref f6) = true)
    {od7 an7 : Option Addr} {sl7 : Array (Option Value)} {oc7 kV7 dc7 pm7 cd7 ct7 : Value} {f7 : Addr}
    {p7 : Addr} {rs7 : List Value} (a7 : PySem.W.findIn K (.ref C) "rect" = some (some (.ref p7))) (g7 : PySem.W.specialIn K (.ref p7) "__get__" = some (some (.builtin "property.__get__"))) (t7 : PySem.W.takesIn K (.ref p7) = some true) (r7 : PySem.W.recIn K p7 "property" = some (.ref f7 :: rs7))
    (l7 : K.lookup f7 = some ⟨oc7, od7, .func (PySem.W.fnOf "rect" "Grid.rect" (defArgs s_Grid_rect) (defBody s_Grid_rect) (defScope s_Grid_rect) .none kV7 dc7 pm7 an7 cd7 ct7), sl7⟩) (c7 : PySem.W.codeIn K cd7 "Grid.rect" = true) (k7 : PySem.W.keepIn K (.ref f7) = true)
    {od8 an8 : Option Addr} {sl8 : Array (Option Value)} {oc8 kV8 dc8 pm8 cd8 ct8 : Value} {f8 : Addr}
    {p8 : Addr} {rs8 : List Value} (a8 : PySem.W.findIn K (.ref C) "rows" = some (some (.ref p8))) (g8 : PySem.W.specialIn K (.ref p8) "__get__" = some (some (.builtin "property.__get__"))) (t8 : PySem.W.takesIn K (.ref p8) = some true) (r8 : PySem.W.recIn K p8 "property" = some (.ref f8 :: rs8))
    (l8 : K.lookup f8 = some ⟨oc8, od8, .func (PySem.W.fnOf "rows" "Grid.rows" (defArgs s_Grid_rows) (defBody s_Grid_rows) (defScope s_Grid_rows) .none kV8 dc8 pm8 an8 cd8 ct8), sl8⟩) (c8 : PySem.W.codeIn K cd8 "Grid.rows" = true) (k8 : PySem.W.keepIn K (.ref f8) = true)
    {od9 an9 : Option Addr} {sl9 : Array (Option Value)} {oc9 kV9 dc9 pm9 cd9 ct9 : Value} {f9 : Addr}
    (a9 : PySem.W.nsIn K mainGlobals "pair" = some (some (.ref f9))) (l9 : K.lookup f9 = some ⟨oc9, od9, .func (PySem.W.fnOf "pair" "pair" (defArgs s_pair) (defBody s_pair) (defScope s_pair) .none kV9 dc9 pm9 an9 cd9 ct9), sl9⟩) (c9 : PySem.W.codeIn K cd9 "pair" = true) (k9 : PySem.W.keepIn K (.ref f9) = true)
    {od10 an10 : Option Addr} {sl10 : Array (Option Value)} {oc10 kV10 dc10 pm10 cd10 ct10 : Value} {f10 : Addr}
    (a10 : PySem.W.nsIn K mainGlobals "back" = some (some (.ref f10))) (l10 : K.lookup f10 = some ⟨oc10, od10, .func (PySem.W.fnOf "back" "back" (defArgs s_back) (defBody s_back) (defScope s_back) .none kV10 dc10 pm10 an10 cd10 ct10), sl10⟩) (c10 : PySem.W.codeIn K cd10 "back" = true) (k10 : PySem.W.keepIn K (.ref f10) = true)
    {od11 an11 : Option Addr} {sl11 : Array (Option Value)} {oc11 kV11 dc11 pm11 cd11 ct11 : Value} {f11 : Addr}
    (a11 : PySem.W.nsIn K mainGlobals "low_rect" = some (some (.ref f11))) (l11 : K.lookup f11 = some ⟨oc11, od11, .func (PySem.W.fnOf "low_rect" "low_rect" (defArgs s_low_rect) (defBody s_low_rect) (defScope s_low_rect) .none kV11 dc11 pm11 an11 cd11 ct11), sl11⟩) (c11 : PySem.W.codeIn K cd11 "low_rect" = true) (k11 : PySem.W.keepIn K (.ref f11) = true)
    {od12 an12 : Option Addr} {sl12 : Array (Option Value)} {oc12 kV12 dc12 pm12 cd12 ct12 : Value} {f12 : Addr}
    (a12 : PySem.W.nsIn K mainGlobals "high_rect" = some (some (.ref f12))) (l12 : K.lookup f12 = some ⟨oc12, od12, .func (PySem.W.fnOf "high_rect" "high_rect" (defArgs s_high_rect) (defBody s_high_rect) (defScope s_high_rect) .none kV12 dc12 pm12 an12 cd12 ct12), sl12⟩) (c12 : PySem.W.codeIn K cd12 "high_rect" = true) (k12 : PySem.W.keepIn K (.ref f12) = true)
    {od13 an13 : Option Addr} {sl13 : Array (Option Value)} {oc13 kV13 dc13 pm13 cd13 ct13 : Value} {f13 : Addr}
    (a13 : PySem.W.nsIn K mainGlobals "band_rects" = some (some (.ref f13))) (l13 : K.lookup f13 = some ⟨oc13, od13, .func (PySem.W.fnOf "band_rects" "band_rects" (defArgs s_band_rects) (defBody s_band_rects) (defScope s_band_rects) .none kV13 dc13 pm13 an13 cd13 ct13), sl13⟩) (c13 : PySem.W.codeIn K cd13 "band_rects" = true) (k13 : PySem.W.keepIn K (.ref f13) = true)
    {od14 an14 : Option Addr} {sl14 : Array (Option Value)} {oc14 kV14 dc14 pm14 cd14 ct14 : Value} {f14 : Addr}
    (a14 : PySem.W.nsIn K mainGlobals "halved" = some (some (.ref f14))) (l14 : K.lookup f14 = some ⟨oc14, od14, .func (PySem.W.fnOf "halved" "halved" (defArgs s_halved) (defBody s_halved) (defScope s_halved) .none kV14 dc14 pm14 an14 cd14 ct14), sl14⟩) (c14 : PySem.W.codeIn K cd14 "halved" = true) (k14 : PySem.W.keepIn K (.ref f14) = true)
    {od15 an15 : Option Addr} {sl15 : Array (Option Value)} {oc15 kV15 dc15 pm15 cd15 ct15 : Value} {f15 : Addr}
    (a15 : PySem.W.nsIn K mainGlobals "joined" = some (some (.ref f15))) (l15 : K.lookup f15 = some ⟨oc15, od15, .func (PySem.W.fnOf "joined" "joined" (defArgs s_joined) (defBody s_joined) (defScope s_joined) .none kV15 dc15 pm15 an15 cd15 ct15), sl15⟩) (c15 : PySem.W.codeIn K cd15 "joined" = true) (k15 : PySem.W.keepIn K (.ref f15) = true)
    {od16 an16 : Option Addr} {sl16 : Array (Option Value)} {oc16 kV16 dc16 pm16 cd16 ct16 : Value} {f16 : Addr}
    (a16 : PySem.W.nsIn K mainGlobals "bands" = some (some (.ref f16))) (l16 : K.lookup f16 = some ⟨oc16, od16, .func (PySem.W.fnOf "bands" "bands" (defArgs s_bands) (defBody s_bands) (defScope s_bands) .none kV16 dc16 pm16 an16 cd16 ct16), sl16⟩) (c16 : PySem.W.codeIn K cd16 "bands" = true) (k16 : PySem.W.keepIn K (.ref f16) = true)
    {od17 an17 : Option Addr} {sl17 : Array (Option Value)} {oc17 kV17 dc17 pm17 cd17 ct17 : Value} {f17 : Addr}
    (a17 : PySem.W.nsIn K mainGlobals "unbands" = some (some (.ref f17))) (l17 : K.lookup f17 = some ⟨oc17, od17, .func (PySem.W.fnOf "unbands" "unbands" (defArgs s_unbands) (defBody s_unbands) (defScope s_unbands) .none kV17 dc17 pm17 an17 cd17 ct17), sl17⟩) (c17 : PySem.W.codeIn K cd17 "unbands" = true) (k17 : PySem.W.keepIn K (.ref f17) = true)
    {od18 an18 : Option Addr} {sl18 : Array (Option Value)} {oc18 kV18 dc18 pm18 cd18 ct18 : Value} {f18 : Addr}
    (a18 : PySem.W.nsIn K mainGlobals "_check_cells" = some (some (.ref f18))) (l18 : K.lookup f18 = some ⟨oc18, od18, .func (PySem.W.fnOf "_check_cells" "_check_cells" (defArgs s_check_cells) (defBody s_check_cells) (defScope s_check_cells) .none kV18 dc18 pm18 an18 cd18 ct18), sl18⟩) (c18 : PySem.W.codeIn K cd18 "_check_cells" = true) (k18 : PySem.W.keepIn K (.ref f18) = true)
    {od19 an19 : Option Addr} {sl19 : Array (Option Value)} {oc19 kV19 dc19 pm19 cd19 ct19 : Value} {f19 : Addr}
    (a19 : PySem.W.nsIn K mainGlobals "_check_letter" = some (some (.ref f19))) (l19 : K.lookup f19 = some ⟨oc19, od19, .func (PySem.W.fnOf "_check_letter" "_check_letter" (defArgs s_check_letter) (defBody s_check_letter) (defScope s_check_letter) .none kV19 dc19 pm19 an19 cd19 ct19), sl19⟩) (c19 : PySem.W.codeIn K cd19 "_check_letter" = true) (k19 : PySem.W.keepIn K (.ref f19) = true)
    {od20 an20 : Option Addr} {sl20 : Array (Option Value)} {oc20 kV20 dc20 pm20 cd20 ct20 : Value} {f20 : Addr}
    (a20 : PySem.W.nsIn K mainGlobals "_check_word" = some (some (.ref f20))) (l20 : K.lookup f20 = some ⟨oc20, od20, .func (PySem.W.fnOf "_check_word" "_check_word" (defArgs s_check_word) (defBody s_check_word) (defScope s_check_word) .none kV20 dc20 pm20 an20 cd20 ct20), sl20⟩) (c20 : PySem.W.codeIn K cd20 "_check_word" = true) (k20 : PySem.W.keepIn K (.ref f20) = true)
    {od21 an21 : Option Addr} {sl21 : Array (Option Value)} {oc21 kV21 dc21 pm21 cd21 ct21 : Value} {f21 : Addr}
    (a21 : PySem.W.nsIn K mainGlobals "_along" = some (some (.ref f21))) (l21 : K.lookup f21 = some ⟨oc21, od21, .func (PySem.W.fnOf "_along" "_along" (defArgs s_along) (defBody s_along) (defScope s_along) .none kV21 dc21 pm21 an21 cd21 ct21), sl21⟩) (c21 : PySem.W.codeIn K cd21 "_along" = true) (k21 : PySem.W.keepIn K (.ref f21) = true)
    {od22 an22 : Option Addr} {sl22 : Array (Option Value)} {oc22 kV22 dc22 pm22 cd22 ct22 : Value} {f22 : Addr}
    (a22 : PySem.W.nsIn K mainGlobals "_grid" = some (some (.ref f22))) (l22 : K.lookup f22 = some ⟨oc22, od22, .func (PySem.W.fnOf "_grid" "_grid" (defArgs s_grid) (defBody s_grid) (defScope s_grid) .none kV22 dc22 pm22 an22 cd22 ct22), sl22⟩) (c22 : PySem.W.codeIn K cd22 "_grid" = true) (k22 : PySem.W.keepIn K (.ref f22) = true)
    {od23 an23 : Option Addr} {sl23 : Array (Option Value)} {oc23 kV23 dc23 pm23 cd23 ct23 : Value} {f23 : Addr}
    (a23 : PySem.W.nsIn K mainGlobals "_is_alone" = some (some (.ref f23))) (l23 : K.lookup f23 = some ⟨oc23, od23, .func (PySem.W.fnOf "_is_alone" "_is_alone" (defArgs s_is_alone) (defBody s_is_alone) (defScope s_is_alone) .none kV23 dc23 pm23 an23 cd23 ct23), sl23⟩) (c23 : PySem.W.codeIn K cd23 "_is_alone" = true) (k23 : PySem.W.keepIn K (.ref f23) = true)
    {od24 an24 : Option Addr} {sl24 : Array (Option Value)} {oc24 kV24 dc24 pm24 cd24 ct24 : Value} {f24 : Addr}
    (a24 : PySem.W.nsIn K mainGlobals "_halved_numbers" = some (some (.ref f24))) (l24 : K.lookup f24 = some ⟨oc24, od24, .func (PySem.W.fnOf "_halved_numbers" "_halved_numbers" (defArgs s_halved_numbers) (defBody s_halved_numbers) (defScope s_halved_numbers) .none kV24 dc24 pm24 an24 cd24 ct24), sl24⟩) (c24 : PySem.W.codeIn K cd24 "_halved_numbers" = true) (k24 : PySem.W.keepIn K (.ref f24) = true)
    {od25 an25 : Option Addr} {sl25 : Array (Option Value)} {oc25 kV25 dc25 pm25 cd25 ct25 : Value} {f25 : Addr}
    (a25 : PySem.W.nsIn K mainGlobals "_joined_numbers" = some (some (.ref f25))) (l25 : K.lookup f25 = some ⟨oc25, od25, .func (PySem.W.fnOf "_joined_numbers" "_joined_numbers" (defArgs s_joined_numbers) (defBody s_joined_numbers) (defScope s_joined_numbers) .none kV25 dc25 pm25 an25 cd25 ct25), sl25⟩) (c25 : PySem.W.codeIn K cd25 "_joined_numbers" = true) (k25 : PySem.W.keepIn K (.ref f25) = true)
    {od26 an26 : Option Addr} {sl26 : Array (Option Value)} {oc26 kV26 dc26 pm26 cd26 ct26 : Value} {f26 : Addr}
    (a26 : PySem.W.nsIn K mainGlobals "_law_pool" = some (some (.ref f26))) (l26 : K.lookup f26 = some ⟨oc26, od26, .func (PySem.W.fnOf "_law_pool" "_law_pool" (defArgs s_law_pool) (defBody s_law_pool) (defScope s_law_pool) .none kV26 dc26 pm26 an26 cd26 ct26), sl26⟩) (c26 : PySem.W.codeIn K cd26 "_law_pool" = true) (k26 : PySem.W.keepIn K (.ref f26) = true)
    {od27 an27 : Option Addr} {sl27 : Array (Option Value)} {oc27 kV27 dc27 pm27 cd27 ct27 : Value} {f27 : Addr}
    (a27 : PySem.W.nsIn K mainGlobals "_law_take" = some (some (.ref f27))) (l27 : K.lookup f27 = some ⟨oc27, od27, .func (PySem.W.fnOf "_law_take" "_law_take" (defArgs s_law_take) (defBody s_law_take) (defScope s_law_take) .none kV27 dc27 pm27 an27 cd27 ct27), sl27⟩) (c27 : PySem.W.codeIn K cd27 "_law_take" = true) (k27 : PySem.W.keepIn K (.ref f27) = true)
    {od28 an28 : Option Addr} {sl28 : Array (Option Value)} {oc28 kV28 dc28 pm28 cd28 ct28 : Value} {f28 : Addr}
    (a28 : PySem.W.nsIn K mainGlobals "_law_one" = some (some (.ref f28))) (l28 : K.lookup f28 = some ⟨oc28, od28, .func (PySem.W.fnOf "_law_one" "_law_one" (defArgs s_law_one) (defBody s_law_one) (defScope s_law_one) .none kV28 dc28 pm28 an28 cd28 ct28), sl28⟩) (c28 : PySem.W.codeIn K cd28 "_law_one" = true) (k28 : PySem.W.keepIn K (.ref f28) = true)
    {od29 an29 : Option Addr} {sl29 : Array (Option Value)} {oc29 kV29 dc29 pm29 cd29 ct29 : Value} {f29 : Addr}
    (a29 : PySem.W.nsIn K mainGlobals "_law_number" = some (some (.ref f29))) (l29 : K.lookup f29 = some ⟨oc29, od29, .func (PySem.W.fnOf "_law_number" "_law_number" (defArgs s_law_number) (defBody s_law_number) (defScope s_law_number) .none kV29 dc29 pm29 an29 cd29 ct29), sl29⟩) (c29 : PySem.W.codeIn K cd29 "_law_number" = true) (k29 : PySem.W.keepIn K (.ref f29) = true)
    {od30 an30 : Option Addr} {sl30 : Array (Option Value)} {oc30 kV30 dc30 pm30 cd30 ct30 : Value} {f30 : Addr}
    (a30 : PySem.W.nsIn K mainGlobals "_law_is_number" = some (some (.ref f30))) (l30 : K.lookup f30 = some ⟨oc30, od30, .func (PySem.W.fnOf "_law_is_number" "_law_is_number" (defArgs s_law_is_number) (defBody s_law_is_number) (defScope s_law_is_number) .none kV30 dc30 pm30 an30 cd30 ct30), sl30⟩) (c30 : PySem.W.codeIn K cd30 "_law_is_number" = true) (k30 : PySem.W.keepIn K (.ref f30) = true)
    {od31 an31 : Option Addr} {sl31 : Array (Option Value)} {oc31 kV31 dc31 pm31 cd31 ct31 : Value} {f31 : Addr}
    (a31 : PySem.W.nsIn K mainGlobals "_law_rect" = some (some (.ref f31))) (l31 : K.lookup f31 = some ⟨oc31, od31, .func (PySem.W.fnOf "_law_rect" "_law_rect" (defArgs s_law_rect) (defBody s_law_rect) (defScope s_law_rect) .none kV31 dc31 pm31 an31 cd31 ct31), sl31⟩) (c31 : PySem.W.codeIn K cd31 "_law_rect" = true) (k31 : PySem.W.keepIn K (.ref f31) = true)
    {od32 an32 : Option Addr} {sl32 : Array (Option Value)} {oc32 kV32 dc32 pm32 cd32 ct32 : Value} {f32 : Addr}
    (a32 : PySem.W.nsIn K mainGlobals "_law_rows" = some (some (.ref f32))) (l32 : K.lookup f32 = some ⟨oc32, od32, .func (PySem.W.fnOf "_law_rows" "_law_rows" (defArgs s_law_rows) (defBody s_law_rows) (defScope s_law_rows) .none kV32 dc32 pm32 an32 cd32 ct32), sl32⟩) (c32 : PySem.W.codeIn K cd32 "_law_rows" = true) (k32 : PySem.W.keepIn K (.ref f32) = true)
    {od33 an33 : Option Addr} {sl33 : Array (Option Value)} {oc33 kV33 dc33 pm33 cd33 ct33 : Value} {f33 : Addr}
    (a33 : PySem.W.nsIn K mainGlobals "_law_cells" = some (some (.ref f33))) (l33 : K.lookup f33 = some ⟨oc33, od33, .func (PySem.W.fnOf "_law_cells" "_law_cells" (defArgs s_law_cells) (defBody s_law_cells) (defScope s_law_cells) .none kV33 dc33 pm33 an33 cd33 ct33), sl33⟩) (c33 : PySem.W.codeIn K cd33 "_law_cells" = true) (k33 : PySem.W.keepIn K (.ref f33) = true)
    {od34 an34 : Option Addr} {sl34 : Array (Option Value)} {oc34 kV34 dc34 pm34 cd34 ct34 : Value} {f34 : Addr}
    (a34 : PySem.W.nsIn K mainGlobals "_law_half" = some (some (.ref f34))) (l34 : K.lookup f34 = some ⟨oc34, od34, .func (PySem.W.fnOf "_law_half" "_law_half" (defArgs s_law_half) (defBody s_law_half) (defScope s_law_half) .none kV34 dc34 pm34 an34 cd34 ct34), sl34⟩) (c34 : PySem.W.codeIn K cd34 "_law_half" = true) (k34 : PySem.W.keepIn K (.ref f34) = true)
    {od35 an35 : Option Addr} {sl35 : Array (Option Value)} {oc35 kV35 dc35 pm35 cd35 ct35 : Value} {f35 : Addr}
    (a35 : PySem.W.nsIn K mainGlobals "_law_half_rects" = some (some (.ref f35))) (l35 : K.lookup f35 = some ⟨oc35, od35, .func (PySem.W.fnOf "_law_half_rects" "_law_half_rects" (defArgs s_law_half_rects) (defBody s_law_half_rects) (defScope s_law_half_rects) .none kV35 dc35 pm35 an35 cd35 ct35), sl35⟩) (c35 : PySem.W.codeIn K cd35 "_law_half_rects" = true) (k35 : PySem.W.keepIn K (.ref f35) = true)
    {od36 an36 : Option Addr} {sl36 : Array (Option Value)} {oc36 kV36 dc36 pm36 cd36 ct36 : Value} {f36 : Addr}
    (a36 : PySem.W.nsIn K mainGlobals "_law_rows_of" = some (some (.ref f36))) (l36 : K.lookup f36 = some ⟨oc36, od36, .func (PySem.W.fnOf "_law_rows_of" "_law_rows_of" (defArgs s_law_rows_of) (defBody s_law_rows_of) (defScope s_law_rows_of) .none kV36 dc36 pm36 an36 cd36 ct36), sl36⟩) (c36 : PySem.W.codeIn K cd36 "_law_rows_of" = true) (k36 : PySem.W.keepIn K (.ref f36) = true)
    {od37 an37 : Option Addr} {sl37 : Array (Option Value)} {oc37 kV37 dc37 pm37 cd37 ct37 : Value} {f37 : Addr}
    (a37 : PySem.W.nsIn K mainGlobals "_law_bands" = some (some (.ref f37))) (l37 : K.lookup f37 = some ⟨oc37, od37, .func (PySem.W.fnOf "_law_bands" "_law_bands" (defArgs s_law_bands) (defBody s_law_bands) (defScope s_law_bands) .none kV37 dc37 pm37 an37 cd37 ct37), sl37⟩) (c37 : PySem.W.codeIn K cd37 "_law_bands" = true) (k37 : PySem.W.keepIn K (.ref f37) = true)
    {od38 an38 : Option Addr} {sl38 : Array (Option Value)} {oc38 kV38 dc38 pm38 cd38 ct38 : Value} {f38 : Addr}
    (a38 : PySem.W.nsIn K mainGlobals "_law_is_grid" = some (some (.ref f38))) (l38 : K.lookup f38 = some ⟨oc38, od38, .func (PySem.W.fnOf "_law_is_grid" "_law_is_grid" (defArgs s_law_is_grid) (defBody s_law_is_grid) (defScope s_law_is_grid) .none kV38 dc38 pm38 an38 cd38 ct38), sl38⟩) (c38 : PySem.W.codeIn K cd38 "_law_is_grid" = true) (k38 : PySem.W.keepIn K (.ref f38) = true)
    {od39 an39 : Option Addr} {sl39 : Array (Option Value)} {oc39 kV39 dc39 pm39 cd39 ct39 : Value} {f39 : Addr}
    (a39 : PySem.W.nsIn K mainGlobals "_law_refused" = some (some (.ref f39))) (l39 : K.lookup f39 = some ⟨oc39, od39, .func (PySem.W.fnOf "_law_refused" "_law_refused" (defArgs s_law_refused) (defBody s_law_refused) (defScope s_law_refused) .none kV39 dc39 pm39 an39 cd39 ct39), sl39⟩) (c39 : PySem.W.codeIn K cd39 "_law_refused" = true) (k39 : PySem.W.keepIn K (.ref f39) = true)
    {od40 an40 : Option Addr} {sl40 : Array (Option Value)} {oc40 kV40 dc40 pm40 cd40 ct40 : Value} {f40 : Addr}
    (a40 : PySem.W.nsIn K mainGlobals "_law_word" = some (some (.ref f40))) (l40 : K.lookup f40 = some ⟨oc40, od40, .func (PySem.W.fnOf "_law_word" "_law_word" (defArgs s_law_word) (defBody s_law_word) (defScope s_law_word) .none kV40 dc40 pm40 an40 cd40 ct40), sl40⟩) (c40 : PySem.W.codeIn K cd40 "_law_word" = true) (k40 : PySem.W.keepIn K (.ref f40) = true)
    {od41 an41 : Option Addr} {sl41 : Array (Option Value)} {oc41 kV41 dc41 pm41 cd41 ct41 : Value} {f41 : Addr}
    (a41 : PySem.W.nsIn K mainGlobals "_law_right" = some (some (.ref f41))) (l41 : K.lookup f41 = some ⟨oc41, od41, .func (PySem.W.fnOf "_law_right" "_law_right" (defArgs s_law_right) (defBody s_law_right) (defScope s_law_right) .none kV41 dc41 pm41 an41 cd41 ct41), sl41⟩) (c41 : PySem.W.codeIn K cd41 "_law_right" = true) (k41 : PySem.W.keepIn K (.ref f41) = true)
    {od42 an42 : Option Addr} {sl42 : Array (Option Value)} {oc42 kV42 dc42 pm42 ct42 : Value} {f42 cc42 : Addr}
    (a42 : PySem.W.nsIn K mainGlobals "_law_refusals_right" = some (some (.ref f42))) (l42 : K.lookup f42 = some ⟨oc42, od42, .func (PySem.W.fnOf "_law_refusals_right" "_law_refusals_right" (defArgs s_law_refusals_right) (defBody s_law_refusals_right) (defScope s_law_refusals_right) .none kV42 dc42 pm42 an42 (.ref cc42) ct42), sl42⟩) (c42 : PySem.W.codeIn K (.ref cc42) "_law_refusals_right" = true) (k42 : PySem.W.keepIn K (.ref f42) = true)
    {od43 an43 : Option Addr} {sl43 : Array (Option Value)} {oc43 kV43 dc43 pm43 cd43 ct43 : Value} {f43 : Addr}
    (a43 : PySem.W.nsIn K mainGlobals "law" = some (some (.ref f43))) (l43 : K.lookup f43 = some ⟨oc43, od43, .func (PySem.W.fnOf "law" "law" (defArgs s_law) (defBody s_law) (defScope s_law) .none kV43 dc43 pm43 an43 cd43 ct43), sl43⟩) (c43 : PySem.W.codeIn K cd43 "law" = true) (k43 : PySem.W.keepIn K (.ref f43) = true)
    {BG O N : Addr} {PG : Addr} {tc42 : Value} {td42 : Option Addr} {tv42 : Array Value} {ts42 : Array (Option Value)} {R0 : Addr} {dR : Option Addr} {u1 u2 : Tok} {nR : Nat} {sR : Array (Option Value)} {tm : Tok} 
    (y0 : PySem.W.nsIn K mainGlobals "int" = some none)
    (y1 : PySem.W.nsIn K mainGlobals "bool" = some none)
    (y2 : PySem.W.nsIn K mainGlobals "len" = some none)
    (y3 : PySem.W.nsIn K mainGlobals "max" = some none)
    (y4 : PySem.W.nsIn K mainGlobals "min" = some none)
    (y5 : PySem.W.nsIn K mainGlobals "range" = some none)
    (y6 : PySem.W.nsIn K mainGlobals "isinstance" = some none)
    (y7 : PySem.W.nsIn K mainGlobals "list" = some none)
    (y8 : PySem.W.nsIn K mainGlobals "tuple" = some none)
    (y9 : PySem.W.nsIn K mainGlobals "zip" = some none)
    (y10 : PySem.W.nsIn K mainGlobals "sorted" = some none)
    (y11 : PySem.W.nsIn K mainGlobals "enumerate" = some none)
    (y12 : PySem.W.nsIn K mainGlobals "reversed" = some none)
    (eBG : PySem.W.nsIn K mainGlobals "BadGrid" = some (some (.ref BG)))
    (eO : PySem.W.nsIn K mainGlobals "Outside" = some (some (.ref O)))
    (eN : PySem.W.nsIn K mainGlobals "NarrowError" = some (some (.ref N)))
    (m4 : PySem.W.specialIn K (.builtin "object.__class__") "__get__" = some (some (.builtin "getset_descriptor.__get__")))
    (m5 : PySem.W.takesIn K (.builtin "object.__class__") = some true)
    (exBG : PySem.W.excIn K BG [.type "ValueError", .type "Exception", .type "BaseException", .type "object"] "ValueError.__new__" = true)
    (kBGc : PySem.W.keepIn K (.ref BG) = true)
    (bBGc : PySem.W.subIn K (.ref BG) (.type "BaseException") = some true)
    (tBGc : PySem.W.typeIn K (.ref BG) = some (.type "type"))
    (m0BG : PySem.W.findIn K (.ref BG) "__getattribute__" = some (some (.builtin "BaseException.__getattribute__")))
    (m1BG : PySem.W.findIn K (.ref BG) "__getattr__" = some none)
    (m2BG : PySem.W.hasDictIn K BG = true)
    (m3BG : PySem.W.findIn K (.ref BG) "__class__" = some (some (.builtin "object.__class__")))
    (m6BG : PySem.W.mroIn K BG (.type "object") = some true)
    (sBGBG : PySem.W.subIn K (.ref BG) (.ref BG) = some true)
    (exO : PySem.W.excIn K O [.type "ValueError", .type "Exception", .type "BaseException", .type "object"] "ValueError.__new__" = true)
    (kOc : PySem.W.keepIn K (.ref O) = true)
    (bOc : PySem.W.subIn K (.ref O) (.type "BaseException") = some true)
    (tOc : PySem.W.typeIn K (.ref O) = some (.type "type"))
    (m0O : PySem.W.findIn K (.ref O) "__getattribute__" = some (some (.builtin "BaseException.__getattribute__")))
    (m1O : PySem.W.findIn K (.ref O) "__getattr__" = some none)
    (m2O : PySem.W.hasDictIn K O = true)
    (m3O : PySem.W.findIn K (.ref O) "__class__" = some (some (.builtin "object.__class__")))
    (m6O : PySem.W.mroIn K O (.type "object") = some true)
    (sOO : PySem.W.subIn K (.ref O) (.ref O) = some true)
    (iBGc : PySem.W.isClsIn K BG = true)
    (iOc : PySem.W.isClsIn K O = true)
    (iBFc : PySem.W.isClsIn K BF = true)
    (tBFc : PySem.W.typeIn K (.ref BF) = some (.type "type"))
    (iNc : PySem.W.isClsIn K N = true)
    (tNc : PySem.W.typeIn K (.ref N) = some (.type "type"))
    (sBFBG : PySem.W.subIn K (.ref BF) (.ref BG) = some false)
    (sBFO : PySem.W.subIn K (.ref BF) (.ref O) = some false)
    (sBGO : PySem.W.subIn K (.ref BG) (.ref O) = some false)
    (sOBG : PySem.W.subIn K (.ref O) (.ref BG) = some false)
    (sBGBF : PySem.W.subIn K (.ref BG) (.ref BF) = some false)
    (sOBF : PySem.W.subIn K (.ref O) (.ref BF) = some false)
    (sBGN : PySem.W.subIn K (.ref BG) (.ref N) = some true)
    (sON : PySem.W.subIn K (.ref O) (.ref N) = some true)
    (gM : PySem.W.nsIn K mainGlobals "MOST_LETTERS" = some (some (.int 10 tm)))
    (gL : PySem.W.nsIn K mainGlobals "LETTERS" = some (some (.ref R0)))
    (lL : K.lookup R0 = some ⟨.type "tuple", dR, .seq #[.str "X" u1, .str "Y" u2] nR, sR⟩)
    (bNc : PySem.W.subIn K (.ref N) (.type "BaseException") = some true)
    (m2N : PySem.W.hasDictIn K N = true)
    (kVG : PySem.W.subIn K (.ref BG) (.type "ValueError") = some true)
    (kVO : PySem.W.subIn K (.ref O) (.type "ValueError") = some true)
    (zV : PySem.W.nsIn K mainGlobals "ValueError" = some none)
    (tiBF : PySem.W.typeIn K (.ref f5) = some (.type "function"))
    (tb42 : K.lookup cc42 = some ⟨tc42, td42, .fields tv42, ts42⟩)
    (tp42 : tv42[11]? = some (.ref PG))
    (hd42 : PySem.W.codeHdIn K cc42 PG = true)
    (nk42 : K.lookup PG = none)
    (hT0 : h.get? PG = some { cls := .none, data := .fields #[] }) :
    LamX.LawAtS l w K CX0 13 63 "_law_script" mg fa h := by
  have e := hfa.symm.trans (PySem.W.mg_of X G a43)
  cases e
  have T : Txt mg := ⟨PySem.W.mg_none_of X G y0, PySem.W.mg_none_of X G y1, PySem.W.mg_none_of X G y2, PySem.W.mg_none_of X G y3, PySem.W.mg_none_of X G y4, PySem.W.mg_none_of X G y5, PySem.W.mg_none_of X G y6, PySem.W.mg_none_of X G y7, PySem.W.mg_none_of X G y8, PySem.W.mg_none_of X G y9, PySem.W.mg_none_of X G y10, PySem.W.mg_none_of X G y11, PySem.W.mg_none_of X G y12⟩
  have EBG : ECls K mg "BadGrid" BG := ⟨PySem.W.mg_of X G eBG, exBG, kBGc, bBGc, tBGc, ⟨m0BG, m1BG, bBGc, m2BG, m3BG, m4, m5, m6BG⟩, PySem.W.exm_ref bBGc m2BG tBGc sBGBG⟩
  have EO : ECls K mg "Outside" O := ⟨PySem.W.mg_of X G eO, exO, kOc, bOc, tOc, ⟨m0O, m1O, bOc, m2O, m3O, m4, m5, m6O⟩, PySem.W.exm_ref bOc m2O tOc sOO⟩
  have rBFBG := kit_ref iBGc tBGc sBFBG fun _ => sBFBF
  have rBFO := kit_ref iOc tOc sBFO fun _ => sBFBF
  have rBGBG := kit_ref iBGc tBGc sBGBG fun _ => sBGBG
  have rBGO := kit_ref iOc tOc sBGO fun _ => sBGBG
  have rOBG := kit_ref iBGc tBGc sOBG fun _ => sOO
  have rOO := kit_ref iOc tOc sOO fun _ => sOO
  have rBGBF := kit_ref iBFc tBFc sBGBF fun _ => sBGBG
  have rOBF := kit_ref iBFc tBFc sOBF fun _ => sOO
  have rBGN := kit_ref iNc tNc sBGN fun _ => sBGBG
  have rON := kit_ref iNc tNc sON fun _ => sOO
  have c_gM := PySem.W.mg_of X G gM
  have clC : Cls K C := ⟨pgC, hdC, poC, saC⟩
  have glC := PySem.W.mg_of X G eC
  have glBF := PySem.W.mg_of X G eBF
  have oxBF : OexC K BF := ⟨⟨_, _, _, _, _, _, _, _, _, _, _, _, _, _, _, lcBF, rvBF⟩, saBF, exBF, tyBF, kpBF⟩
  have xfBF : XfC K BF := ⟨gaBF, ggBF, exBF, hdBF⟩
  have isBF : ExcC K BF := ⟨gaBF, ggBF, exBF, hdBF, caBF, m4, m5, moBF⟩
  have emBF := PySem.W.exm_ref exBF hdBF tyBF sBFBF
  have F0 := fun_mk (st := s_is_number) l0 c0 k0
  have b0 := F0.binds (ps := ["thing"]) fun _ _ _ _ _ _ us hl => match us, hl with | [_], _ => rfl
  have F1 := fun_mk (st := s_check_rect) l1 c1 k1
  have b1 := F1.binds (ps := ["rect"]) fun _ _ _ _ _ _ us hl => match us, hl with | [_], _ => rfl
  have F2 := fun_mk (st := s_has_cells) l2 c2 k2
  have b2 := F2.binds (ps := ["rect"]) fun _ _ _ _ _ _ us hl => match us, hl with | [_], _ => rfl
  have F3 := fun_mk (st := s_is_row) l3 c3 k3
  have b3 := F3.binds (ps := ["thing", "width"]) fun _ _ _ _ _ _ us hl => match us, hl with | [_, _], _ => rfl
  have F4 := fun_mk (st := s_rows_fit) l4 c4 k4
  have b4 := F4.binds (ps := ["rows", "rect"]) fun _ _ _ _ _ _ us hl => match us, hl with | [_, _], _ => rfl
  have F5 := fun_mk (st := s_BadField_init) l5 c5 k5
  have b5 := F5.binds (ps := ["self", "name"]) fun _ _ _ _ _ _ us hl => match us, hl with | [_, _], _ => rfl
  have F6 := fun_mk (st := s_Grid_init) l6 c6 k6
  have b6 := F6.binds (ps := ["self", "rect", "rows"]) fun _ _ _ _ _ _ us hl => match us, hl with | [_, _, _], _ => rfl
  have F7 := fun_mk (st := s_Grid_rect) l7 c7 k7
  have b7 := F7.binds (ps := ["self"]) fun _ _ _ _ _ _ us hl => match us, hl with | [_], _ => rfl
  have F8 := fun_mk (st := s_Grid_rows) l8 c8 k8
  have b8 := F8.binds (ps := ["self"]) fun _ _ _ _ _ _ us hl => match us, hl with | [_], _ => rfl
  have F9 := fun_mk (st := s_pair) l9 c9 k9
  have b9 := F9.binds (ps := ["a", "b"]) fun _ _ _ _ _ _ us hl => match us, hl with | [_, _], _ => rfl
  have F10 := fun_mk (st := s_back) l10 c10 k10
  have b10 := F10.binds (ps := ["s", "d"]) fun _ _ _ _ _ _ us hl => match us, hl with | [_, _], _ => rfl
  have F11 := fun_mk (st := s_low_rect) l11 c11 k11
  have b11 := F11.binds (ps := ["rect", "letter"]) fun _ _ _ _ _ _ us hl => match us, hl with | [_, _], _ => rfl
  have F12 := fun_mk (st := s_high_rect) l12 c12 k12
  have b12 := F12.binds (ps := ["rect", "letter"]) fun _ _ _ _ _ _ us hl => match us, hl with | [_, _], _ => rfl
  have F13 := fun_mk (st := s_band_rects) l13 c13 k13
  have b13 := F13.binds (ps := ["rect", "word"]) fun _ _ _ _ _ _ us hl => match us, hl with | [_, _], _ => rfl
  have F14 := fun_mk (st := s_halved) l14 c14 k14
  have b14 := F14.binds (ps := ["grid", "letter"]) fun _ _ _ _ _ _ us hl => match us, hl with | [_, _], _ => rfl
  have F15 := fun_mk (st := s_joined) l15 c15 k15
  have b15 := F15.binds (ps := ["low", "high", "rect", "letter"]) fun _ _ _ _ _ _ us hl => match us, hl with | [_, _, _, _], _ => rfl
  have F16 := fun_mk (st := s_bands) l16 c16 k16
  have b16 := F16.binds (ps := ["grid", "word"]) fun _ _ _ _ _ _ us hl => match us, hl with | [_, _], _ => rfl
  have F17 := fun_mk (st := s_unbands) l17 c17 k17
  have b17 := F17.binds (ps := ["parts", "rect", "word"]) fun _ _ _ _ _ _ us hl => match us, hl with | [_, _, _], _ => rfl
  have F18 := fun_mk (st := s_check_cells) l18 c18 k18
  have b18 := F18.binds (ps := ["rect"]) fun _ _ _ _ _ _ us hl => match us, hl with | [_], _ => rfl
  have F19 := fun_mk (st := s_check_letter) l19 c19 k19
  have b19 := F19.binds (ps := ["letter"]) fun _ _ _ _ _ _ us hl => match us, hl with | [_], _ => rfl
  have F20 := fun_mk (st := s_check_word) l20 c20 k20
  have b20 := F20.binds (ps := ["word"]) fun _ _ _ _ _ _ us hl => match us, hl with | [_], _ => rfl
  have F21 := fun_mk (st := s_along) l21 c21 k21
  have b21 := F21.binds (ps := ["rows", "letter"]) fun _ _ _ _ _ _ us hl => match us, hl with | [_, _], _ => rfl
  have F22 := fun_mk (st := s_grid) l22 c22 k22
  have b22 := F22.binds (ps := ["rect", "numbers", "letter"]) fun _ _ _ _ _ _ us hl => match us, hl with | [_, _, _], _ => rfl
  have F23 := fun_mk (st := s_is_alone) l23 c23 k23
  have b23 := F23.binds (ps := ["i", "start", "stop"]) fun _ _ _ _ _ _ us hl => match us, hl with | [_, _, _], _ => rfl
  have F24 := fun_mk (st := s_halved_numbers) l24 c24 k24
  have b24 := F24.binds (ps := ["numbers", "start"]) fun _ _ _ _ _ _ us hl => match us, hl with | [_, _], _ => rfl
  have F25 := fun_mk (st := s_joined_numbers) l25 c25 k25
  have b25 := F25.binds (ps := ["low", "high", "start", "stop"]) fun _ _ _ _ _ _ us hl => match us, hl with | [_, _, _, _], _ => rfl
  have F26 := fun_mk (st := s_law_pool) l26 c26 k26
  have b26 := F26.binds (ps := ["_law_script", "_law_k"]) fun _ _ _ _ _ _ us hl => match us, hl with | [_, _], _ => rfl
  have F27 := fun_mk (st := s_law_take) l27 c27 k27
  have b27 := F27.binds (ps := ["_law_source", "_law_top"]) fun _ _ _ _ _ _ us hl => match us, hl with | [_, _], _ => rfl
  have F28 := fun_mk (st := s_law_one) l28 c28 k28
  have b28 := F28.binds (ps := ["_law_source", "_law_things"]) fun _ _ _ _ _ _ us hl => match us, hl with | [_, _], _ => rfl
  have F29 := fun_mk (st := s_law_number) l29 c29 k29
  have b29 := F29.binds (ps := ["_law_source"]) fun _ _ _ _ _ _ us hl => match us, hl with | [_], _ => rfl
  have F30 := fun_mk (st := s_law_is_number) l30 c30 k30
  have b30 := F30.binds (ps := ["_law_n"]) fun _ _ _ _ _ _ us hl => match us, hl with | [_], _ => rfl
  have F31 := fun_mk (st := s_law_rect) l31 c31 k31
  have b31 := F31.binds (ps := ["_law_source", "_law_most"]) fun _ _ _ _ _ _ us hl => match us, hl with | [_, _], _ => rfl
  have F32 := fun_mk (st := s_law_rows) l32 c32 k32
  have b32 := F32.binds (ps := ["_law_source", "_law_rect_here"]) fun _ _ _ _ _ _ us hl => match us, hl with | [_, _], _ => rfl
  have F33 := fun_mk (st := s_law_cells) l33 c33 k33
  have b33 := F33.binds (ps := ["_law_rect_here", "_law_rows_here"]) fun _ _ _ _ _ _ us hl => match us, hl with | [_, _], _ => rfl
  have F34 := fun_mk (st := s_law_half) l34 c34 k34
  have b34 := F34.binds (ps := ["_law_cells_here", "_law_letter"]) fun _ _ _ _ _ _ us hl => match us, hl with | [_, _], _ => rfl
  have F35 := fun_mk (st := s_law_half_rects) l35 c35 k35
  have b35 := F35.binds (ps := ["_law_rect_here", "_law_letter"]) fun _ _ _ _ _ _ us hl => match us, hl with | [_, _], _ => rfl
  have F36 := fun_mk (st := s_law_rows_of) l36 c36 k36
  have b36 := F36.binds (ps := ["_law_rect_here", "_law_cells_here"]) fun _ _ _ _ _ _ us hl => match us, hl with | [_, _], _ => rfl
  have F37 := fun_mk (st := s_law_bands) l37 c37 k37
  have b37 := F37.binds (ps := ["_law_rect_here", "_law_cells_here", "_law_word_here"]) fun _ _ _ _ _ _ us hl => match us, hl with | [_, _, _], _ => rfl
  have F38 := fun_mk (st := s_law_is_grid) l38 c38 k38
  have b38 := F38.binds (ps := ["_law_grid", "_law_rect_here", "_law_rows_here"]) fun _ _ _ _ _ _ us hl => match us, hl with | [_, _, _], _ => rfl
  have F39 := fun_mk (st := s_law_refused) l39 c39 k39
  have b39 := F39.binds (ps := ["_law_call"]) fun _ _ _ _ _ _ us hl => match us, hl with | [_], _ => rfl
  have F40 := fun_mk (st := s_law_word) l40 c40 k40
  have b40 := F40.binds (ps := ["_law_source"]) fun _ _ _ _ _ _ us hl => match us, hl with | [_], _ => rfl
  have F41 := fun_mk (st := s_law_right) l41 c41 k41
  have b41 := F41.binds (ps := ["_law_source", "_law_rect_here", "_law_word_here"]) fun _ _ _ _ _ _ us hl => match us, hl with | [_, _, _], _ => rfl
  have F42 := fun_mk (st := s_law_refusals_right) l42 c42 k42
  have FC42 := funC_mk (st := s_law_refusals_right) l42 c42
  have b42 := F42.binds (ps := ["_law_source", "_law_rect_here", "_law_word_here"]) fun _ _ _ _ _ _ us hl => match us, hl with | [_, _, _], _ => rfl
  have F43 := fun_mk (st := s_law) l43 c43 k43
  have b43 := F43.binds (ps := ["_law_script"]) fun _ _ _ _ _ _ us hl => match us, hl with | [_], _ => rfl
  refine ⟨PySem.W.fnOf "law" "law" (defArgs s_law) (defBody s_law) (defScope s_law) .none kV43 dc43 pm43 an43 cd43 ct43, [(cc42, PG)], (spLaw K PG), fun p hp => by
    simp only [List.mem_cons, List.not_mem_nil, or_false] at hp
    rcases hp with rfl
    · exact hT0, fun p hp => by
    simp only [List.mem_cons, List.not_mem_nil, or_false] at hp
    rcases hp with rfl
    · exact nk42, fun p hp => by
    simp only [List.mem_cons, List.not_mem_nil, or_false] at hp
    rcases hp with rfl
    · exact PySem.W.codeHd_of_K X hd42, fun s v => .of_eq rfl, fun H a ns hl _ hH hS => ⟨a, ns, rfl, hS, hl, (fun p hp => by
    rw [List.mem_singleton.mp hp]
    exact LamX.TabS.nil (hH (cc42, PG) (by simp))), fun _ => rfl⟩, fun base _ _ TB => ?_⟩
  have TB0 := TB (cc42, PG) (by simp)
  have Z0 : C8.Cal l.prog w K mg base 1 "is_number" spIsNum [] := ⟨_, _, _, _, ok_is_number F0 T, PySem.W.mg_of X G a0, k0, b0, .nil⟩
  have Z1 : C8.Cal l.prog w K mg base 1 "check_rect" (spChk K) [] := ⟨_, _, _, _, ok_chk F1 T, PySem.W.mg_of X G a1, k1, b1, .nil⟩
  have GCR := ok_chkX (P := l.prog) (w := w) (base := base) (k := 0) F1 T EBG
  have Z2 : C8.Cal l.prog w K mg base 1 "has_cells" (spHas K) [] := ⟨_, _, _, _, ok_has F2 T, PySem.W.mg_of X G a2, k2, b2, .nil⟩
  have Z3 : C8.Cal l.prog w K mg base 2 "is_row" (spIsRow K) [] := ⟨_, _, _, _, ok_is_row F3 T Z0, PySem.W.mg_of X G a3, k3, b3, .nil⟩
  have Z4 : C8.Cal l.prog w K mg base 3 "rows_fit" (spFit K) [] := ⟨_, _, _, _, ok_fit F4 T Z2 Z3, PySem.W.mg_of X G a4, k4, b4, .nil⟩
  have GK : GridK K C := ⟨clC, naC0, naC1⟩
  have XF : XDef l.prog w K mg base "BadField" "name" BF := ⟨glBF, oxBF, xfBF, naBF, isBF, emBF, ⟨_, _, a5, tiBF, ok_badfield (k := 0) F5 oxBF naBF, b5⟩⟩
  have GIX := ok_ginitX (P := l.prog) (w := w) (base := base) (k := 0) F6 GK T EBG GCR (PySem.W.mg_of X G a1) k1 b1 Z4
  have M0X : CalC l.prog w K mg base 4 "Grid" C ["rect", "rows"] (spGInitX K C BG) := ⟨glC, ⟨_, _, _, ⟨mkC, a6, i6, kcC⟩, GIX, b6, kbm2 fun _ _ _ => rfl⟩⟩
  have M0 : CalC l.prog w K mg base 4 "Grid" C ["rect", "rows"] (spGInit K C) := ⟨glC, ⟨_, _, _, ⟨mkC, a6, i6, kcC⟩, FnOk_imp (fun _ _ _ _ => ginit_imp) GIX, b6, kbm2 fun _ _ _ => rfl⟩⟩
  have M1 : CalP l.prog w K mg base 1 C "rect" (spGRect C) := ⟨⟨_, _, _, _, ⟨a7, g7, t7, ⟨_, r7⟩⟩, ok_grect (k := 0) F7 T GK, b7⟩⟩
  have GRF := ok_growsF (P := l.prog) (w := w) (mg := mg) (base := base) (k := 0) F8 T GK
  have M2 : CalP l.prog w K mg base 1 C "rows" (spGRows C) := ⟨⟨_, _, _, _, ⟨a8, g8, t8, ⟨_, r8⟩⟩, FnOk_imp (fun _ _ _ _ => grows_imp) GRF, b8⟩⟩
  have Z9 : C8.Cal l.prog w K mg base 1 "pair" spPair [] := ⟨_, _, _, _, ok_pair F9 T, PySem.W.mg_of X G a9, k9, b9, .nil⟩
  have Z10 : C8.Cal l.prog w K mg base 1 "back" spBack [] := ⟨_, _, _, _, ok_back F10 T, PySem.W.mg_of X G a10, k10, b10, .nil⟩
  have Z11 : C8.Cal l.prog w K mg base 1 "low_rect" (spLowR K lowR) [] := ⟨_, _, _, _, ok_low_rect F11 T, PySem.W.mg_of X G a11, k11, b11, .nil⟩
  have Z12 : C8.Cal l.prog w K mg base 1 "high_rect" (spLowR K highR) [] := ⟨_, _, _, _, ok_high_rect F12 T, PySem.W.mg_of X G a12, k12, b12, .nil⟩
  have Z13 : C8.Cal l.prog w K mg base 2 "band_rects" (spBRects K) [] := ⟨_, _, _, _, ok_brects F13 T Z11 Z12, PySem.W.mg_of X G a13, k13, b13, .nil⟩
  have Z23 : C8.Cal l.prog w K mg base 1 "_is_alone" spAlone [] := ⟨_, _, _, _, ok_alone F23 T, PySem.W.mg_of X G a23, k23, b23, .nil⟩
  have Z24 : C8.Cal l.prog w K mg base 2 "_halved_numbers" spHalv [] := ⟨_, _, _, _, ok_halv F24 T Z23 Z9, PySem.W.mg_of X G a24, k24, b24, .nil⟩
  have Z25 : C8.Cal l.prog w K mg base 2 "_joined_numbers" spJoinN [] := ⟨_, _, _, _, ok_joinN F25 T Z23 Z10, PySem.W.mg_of X G a25, k25, b25, .nil⟩
  have GA0 := ok_along0 (P := l.prog) (w := w) (mg := mg) (base := base) (k := 0) F21 T
  have ZA0 : C8.Cal l.prog w K mg base 1 "_along" (spAlong0 K) [] := ⟨_, _, _, _, GA0, PySem.W.mg_of X G a21, k21, b21, .nil⟩
  have Z21 : C8.Cal l.prog w K mg base 1 "_along" (spAlong K) [] := ⟨_, _, _, _, FnOk_imp (fun _ _ _ _ => along_imp) GA0, PySem.W.mg_of X G a21, k21, b21, .nil⟩
  have Z22 : C8.Cal l.prog w K mg base 6 "_grid" (spGrid K C) [] := ⟨_, _, _, _, ok_grid F22 T Z21 Z2 M0, PySem.W.mg_of X G a22, k22, b22, .nil⟩
  have Z18 : C8.Cal l.prog w K mg base 2 "_check_cells" (spCells K) [] := ⟨_, _, _, _, ok_cells F18 T Z2, PySem.W.mg_of X G a18, k18, b18, .nil⟩
  have GCC := ok_cellsX (P := l.prog) (w := w) (base := base) (k := 0) F18 T EO Z2
  have hLq : ∀ H : Hp, SqT K H R0 [.str "X", .str "Y"] := fun H => .inr ⟨_, _, _, lL, rfl, rfl, (by show 2 ≤ sizeLine; decide), .cons ⟨_, rfl⟩ (.cons ⟨_, rfl⟩ .nil)⟩
  have Z19 : C8.Cal l.prog w K mg base 1 "_check_letter" spLetter [] := ⟨_, _, _, _, ok_letter F19 T (PySem.W.mg_of X G gL) hLq, PySem.W.mg_of X G a19, k19, b19, .nil⟩
  have GCL := ok_letterX (P := l.prog) (w := w) (base := base) (k := 0) F19 T XF (PySem.W.mg_of X G gL) hLq
  have Z14 : C8.Cal l.prog w K mg base 7 "halved" (spHalved K C) [] := ⟨_, _, _, _, ok_halved F14 T GK M1 M2 Z18 Z19 Z21 Z24 Z11 Z12 Z22, PySem.W.mg_of X G a14, k14, b14, .nil⟩
  have Z15 : C8.Cal l.prog w K mg base 7 "joined" (spJoined K C) [] := ⟨_, _, _, _, ok_joined F15 T GK M1 M2 Z1 Z18 Z19 ZA0 Z25 Z11 Z12 Z22, PySem.W.mg_of X G a15, k15, b15, .nil⟩
  have Z20 : C8.Cal l.prog w K mg base 2 "_check_word" spChkW [] := ⟨_, _, _, _, ok_chkw F20 T (PySem.W.mg_of X G gM) Z19, PySem.W.mg_of X G a20, k20, b20, .nil⟩
  have GBN := ok_bandsN (P := l.prog) (w := w) (base := base) (k := 0) F16 T GK M1 Z18 Z20 Z14
  have ZBN : C8.Cal l.prog w K mg base 8 "bands" (spBandsN K C) [] := ⟨_, _, _, _, GBN, PySem.W.mg_of X G a16, k16, b16, .nil⟩
  have Z16 : C8.Cal l.prog w K mg base 8 "bands" (spBands K C) [] := ⟨_, _, _, _, FnOk_imp (fun _ _ _ _ => bands_imp) GBN, PySem.W.mg_of X G a16, k16, b16, .nil⟩
  have Z17 : C8.Cal l.prog w K mg base 8 "unbands" (spUnb K C) [] := ⟨_, _, _, _, ok_unbands F17 T GK M1 Z1 Z18 Z20 Z13 Z15, PySem.W.mg_of X G a17, k17, b17, .nil⟩
  have GCW := ok_chkwX (P := l.prog) (w := w) (base := base) (k := 0) F20 T XF (PySem.W.mg_of X G gM) GCL (PySem.W.mg_of X G a19) k19 b19
  have GBX := ok_bandsX (P := l.prog) (w := w) (base := base) (k := 0) F16 T GK M1 GCC (PySem.W.mg_of X G a18) k18 b18 GCW (PySem.W.mg_of X G a20) k20 b20 Z14
  have GUX := ok_unbX (P := l.prog) (w := w) (base := base) (k := 0) F17 T GK EBG M1 GCR (PySem.W.mg_of X G a1) k1 b1 GCC (PySem.W.mg_of X G a18) k18 b18 GCW (PySem.W.mg_of X G a20) k20 b20 Z13 Z15
  have Z26 : C8.Cal l.prog w K mg base 1 "_law_pool" (spPool K) [] := ⟨_, _, _, _, ok_pool F26 T, PySem.W.mg_of X G a26, k26, b26, .nil⟩
  have Z27 : C8.Cal l.prog w K mg base 1 "_law_take" spTake [] := ⟨_, _, _, _, ok_take F27 T, PySem.W.mg_of X G a27, k27, b27, .nil⟩
  have Z28 : C8.Cal l.prog w K mg base 2 "_law_one" spOne [] := ⟨_, _, _, _, ok_one F28 T Z27, PySem.W.mg_of X G a28, k28, b28, .nil⟩
  have Z29 : C8.Cal l.prog w K mg base 2 "_law_number" spNum [] := ⟨_, _, _, _, ok_number F29 T Z27, PySem.W.mg_of X G a29, k29, b29, .nil⟩
  have Z30 : C8.Cal l.prog w K mg base 1 "_law_is_number" spIsNum [] := ⟨_, _, _, _, ok_lisnum F30 T, PySem.W.mg_of X G a30, k30, b30, .nil⟩
  have Z31 : C8.Cal l.prog w K mg base 3 "_law_rect" spRect [] := ⟨_, _, _, _, ok_rect F31 T Z27 Z28, PySem.W.mg_of X G a31, k31, b31, .nil⟩
  have Z32 : C8.Cal l.prog w K mg base 3 "_law_rows" spRowsL [] := ⟨_, _, _, _, ok_rows F32 T Z29, PySem.W.mg_of X G a32, k32, b32, .nil⟩
  have Z33 : C8.Cal l.prog w K mg base 1 "_law_cells" (spCellsL K) [] := ⟨_, _, _, _, ok_cellsL F33 T, PySem.W.mg_of X G a33, k33, b33, .nil⟩
  have Z34 : C8.Cal l.prog w K mg base 1 "_law_half" spHalf [] := ⟨_, _, _, _, ok_half F34 T, PySem.W.mg_of X G a34, k34, b34, .nil⟩
  have Z35 : C8.Cal l.prog w K mg base 1 "_law_half_rects" (spHRects K) [] := ⟨_, _, _, _, ok_hrects F35 T, PySem.W.mg_of X G a35, k35, b35, .nil⟩
  have Z36 : C8.Cal l.prog w K mg base 1 "_law_rows_of" (spRowsOf K) [] := ⟨_, _, _, _, ok_rowsof F36 T, PySem.W.mg_of X G a36, k36, b36, .nil⟩
  have Z37 : C8.Cal l.prog w K mg base 2 "_law_bands" (spLBands K) [] := ⟨_, _, _, _, ok_lbands F37 T Z35 Z34, PySem.W.mg_of X G a37, k37, b37, .nil⟩
  have Z40 : C8.Cal l.prog w K mg base 3 "_law_word" spWord [] := ⟨_, _, _, _, ok_word F40 T Z28, PySem.W.mg_of X G a40, k40, b40, .nil⟩
  have Z38 : C8.Cal l.prog w K mg base 3 "_law_is_grid" (spIsGrid K C) [] := ⟨_, _, _, _, ok_isgrid F38 T GK M1 M2 Z30, PySem.W.mg_of X G a38, k38, b38, .nil⟩
  have gB : GO K BG O BF N BG 0 := ⟨by decide, EBG.ex, PySem.W.exm_ref exBF hdBF tyBF sBGBF, PySem.W.exm_ref bNc m2N tNc sBGN, rBGBG, rBGO, kit_tyr (by decide +kernel) kVG⟩
  have gO : GO K BG O BF N O 1 := ⟨by decide, EO.ex, PySem.W.exm_ref exBF hdBF tyBF sOBF, PySem.W.exm_ref bNc m2N tNc sON, rOBG, rOO, kit_tyr (by decide +kernel) kVO⟩
  have D : RefD l.prog w K mg base f39 BG O BF N := ⟨EBG.gC, EO.gC, PySem.W.mg_of X G eN, PySem.W.mg_none_of X G zV, XF, rBFBG, rBFO, PySem.W.mg_of X G a39, k39, ⟨_, _, _, _, _, _, _, _, _, l39, c39, b39⟩⟩
  have Z41 : C8.Cal l.prog w K mg base 9 "_law_right" (spRight K) [] := ⟨_, _, _, _, ok_right F41 T GK M0 M1 M2 Z32 Z37 Z33 Z16 Z17 Z38 Z36, PySem.W.mg_of X G a41, k41, b41, .nil⟩
  have Z42 : C8.Cal l.prog w K mg base 12 "_law_refusals_right" (spRefus PG) [] := ⟨_, _, _, _, ok_refus FC42 T D gB gO TB0 GK M0 M1 M2 GBX (PySem.W.mg_of X G a16) k16 b16 GUX (PySem.W.mg_of X G a17) k17 b17 ZBN Z32 Z27 Z28, PySem.W.mg_of X G a42, k42, b42, .nil⟩
  exact ok_law F43 T Z26 Z31 Z40 Z41 Z42
end My
open PySem PySem.W PyProof.Rows
set_option maxRecDepth 100000 in
set_option maxHeartbeats 0 in
theorem PySem.Challenge.cw_narrowingbits_k18_bands_by_words_holds : PySem.Challenge.rw_narrowingbits_k18_bands_by_words.Holds := by
  w_on; o_law; k_head; (case hw => w_witness2)
  k_fill
  refine LamX.walk_ofTs (l := PySem.Challenge.rw_narrowingbits_k18_bands_by_words) (n := 63) (k := 13) (x := "_law_script") (CX := fun _ => L2.CX0) rfl (by decide) rfl ⟨rfl, by decide, by decide⟩ (fun w h Y => PySem.W.km_in_of Y) ?F (fun _ _ _ _ _ h => h)
  case F =>
    intro w mg fa h Y KX G hmg
    have hT8 := PySem.W.km_tabs_of Y
    refine' My.all_mk KX G hmg ?eC ?pgC ?hdC ?poC ?saC ?mkC ?kcC ?naC0 ?naC1 ?eBF ?lcBF ?rvBF ?saBF ?exBF ?tyBF ?kpBF ?gaBF ?ggBF ?hdBF ?naBF ?caBF ?moBF ?sBFBF ?a0 ?l0 ?c0 ?k0 ?a1 ?l1 ?c1 ?k1 ?a2 ?l2 ?c2 ?k2 ?a3 ?l3 ?c3 ?k3 ?a4 ?l4 ?c4 ?k4 ?a5 ?i5 ?l5 ?c5 ?k5 ?a6 ?i6 ?l6 ?c6 ?k6 ?a7 ?g7 ?t7 ?r7 ?l7 ?c7 ?k7 ?a8 ?g8 ?t8 ?r8 ?l8 ?c8 ?k8 ?a9 ?l9 ?c9 ?k9 ?a10 ?l10 ?c10 ?k10 ?a11 ?l11 ?c11 ?k11 ?a12 ?l12 ?c12 ?k12 ?a13 ?l13 ?c13 ?k13 ?a14 ?l14 ?c14 ?k14 ?a15 ?l15 ?c15 ?k15 ?a16 ?l16 ?c16 ?k16 ?a17 ?l17 ?c17 ?k17 ?a18 ?l18 ?c18 ?k18 ?a19 ?l19 ?c19 ?k19 ?a20 ?l20 ?c20 ?k20 ?a21 ?l21 ?c21 ?k21 ?a22 ?l22 ?c22 ?k22 ?a23 ?l23 ?c23 ?k23 ?a24 ?l24 ?c24 ?k24 ?a25 ?l25 ?c25 ?k25 ?a26 ?l26 ?c26 ?k26 ?a27 ?l27 ?c27 ?k27 ?a28 ?l28 ?c28 ?k28 ?a29 ?l29 ?c29 ?k29 ?a30 ?l30 ?c30 ?k30 ?a31 ?l31 ?c31 ?k31 ?a32 ?l32 ?c32 ?k32 ?a33 ?l33 ?c33 ?k33 ?a34 ?l34 ?c34 ?k34 ?a35 ?l35 ?c35 ?k35 ?a36 ?l36 ?c36 ?k36 ?a37 ?l37 ?c37 ?k37 ?a38 ?l38 ?c38 ?k38 ?a39 ?l39 ?c39 ?k39 ?a40 ?l40 ?c40 ?k40 ?a41 ?l41 ?c41 ?k41 ?a42 ?l42 ?c42 ?k42 ?a43 ?l43 ?c43 ?k43 ?y0 ?y1 ?y2 ?y3 ?y4 ?y5 ?y6 ?y7 ?y8 ?y9 ?y10 ?y11 ?y12 ?eBG ?eO ?eN ?m4 ?m5 ?exBG ?kBGc ?bBGc ?tBGc ?m0BG ?m1BG ?m2BG ?m3BG ?m6BG ?sBGBG ?exO ?kOc ?bOc ?tOc ?m0O ?m1O ?m2O ?m3O ?m6O ?sOO ?iBGc ?iOc ?iBFc ?tBFc ?iNc ?tNc ?sBFBG ?sBFO ?sBGO ?sOBG ?sBGBF ?sOBF ?sBGN ?sON ?gM ?gL ?lL ?bNc ?m2N ?kVG ?kVO ?zV ?tiBF ?tb42 ?tp42 ?hd42 ?nk42 ?hT0
    (case eC => k_is)
    (case pgC => k_is)
    (case hdC => k_is)
    (case poC => k_is)
    (case saC => k_is)
    (case mkC => k_is)
    (case kcC => k_is)
    (case naC0 => k_is)
    (case naC1 => k_is)
    (case eBF => k_is)
    (case lcBF => k_is)
    (case rvBF => rfl)
    (case saBF => k_is)
    (case exBF => k_is)
    (case tyBF => k_is)
    (case kpBF => k_is)
    (case gaBF => k_is)
    (case ggBF => k_is)
    (case hdBF => k_is)
    (case naBF => k_is)
    (case caBF => k_is)
    (case moBF => k_is)
    (case sBFBF => k_is)
    (case a0 => k_is); (case l0 => k_is); (case c0 => k_is); (case k0 => k_is)
    (case a1 => k_is); (case l1 => k_is); (case c1 => k_is); (case k1 => k_is)
    (case a2 => k_is); (case l2 => k_is); (case c2 => k_is); (case k2 => k_is)
    (case a3 => k_is); (case l3 => k_is); (case c3 => k_is); (case k3 => k_is)
    (case a4 => k_is); (case l4 => k_is); (case c4 => k_is); (case k4 => k_is)
    (case a5 => k_is); (case i5 => k_is); (case l5 => k_is); (case c5 => k_is); (case k5 => k_is)
    (case a6 => k_is); (case i6 => k_is); (case l6 => k_is); (case c6 => k_is); (case k6 => k_is)
    (case a7 => k_is); (case g7 => k_is); (case t7 => k_is); (case r7 => k_is); (case l7 => k_is); (case c7 => k_is); (case k7 => k_is)
    (case a8 => k_is); (case g8 => k_is); (case t8 => k_is); (case r8 => k_is); (case l8 => k_is); (case c8 => k_is); (case k8 => k_is)
    (case a9 => k_is); (case l9 => k_is); (case c9 => k_is); (case k9 => k_is)
    (case a10 => k_is); (case l10 => k_is); (case c10 => k_is); (case k10 => k_is)
    (case a11 => k_is); (case l11 => k_is); (case c11 => k_is); (case k11 => k_is)
    (case a12 => k_is); (case l12 => k_is); (case c12 => k_is); (case k12 => k_is)
    (case a13 => k_is); (case l13 => k_is); (case c13 => k_is); (case k13 => k_is)
    (case a14 => k_is); (case l14 => k_is); (case c14 => k_is); (case k14 => k_is)
    (case a15 => k_is); (case l15 => k_is); (case c15 => k_is); (case k15 => k_is)
    (case a16 => k_is); (case l16 => k_is); (case c16 => k_is); (case k16 => k_is)
    (case a17 => k_is); (case l17 => k_is); (case c17 => k_is); (case k17 => k_is)
    (case a18 => k_is); (case l18 => k_is); (case c18 => k_is); (case k18 => k_is)
    (case a19 => k_is); (case l19 => k_is); (case c19 => k_is); (case k19 => k_is)
    (case a20 => k_is); (case l20 => k_is); (case c20 => k_is); (case k20 => k_is)
    (case a21 => k_is); (case l21 => k_is); (case c21 => k_is); (case k21 => k_is)
    (case a22 => k_is); (case l22 => k_is); (case c22 => k_is); (case k22 => k_is)
    (case a23 => k_is); (case l23 => k_is); (case c23 => k_is); (case k23 => k_is)
    (case a24 => k_is); (case l24 => k_is); (case c24 => k_is); (case k24 => k_is)
    (case a25 => k_is); (case l25 => k_is); (case c25 => k_is); (case k25 => k_is)
    (case a26 => k_is); (case l26 => k_is); (case c26 => k_is); (case k26 => k_is)
    (case a27 => k_is); (case l27 => k_is); (case c27 => k_is); (case k27 => k_is)
    (case a28 => k_is); (case l28 => k_is); (case c28 => k_is); (case k28 => k_is)
    (case a29 => k_is); (case l29 => k_is); (case c29 => k_is); (case k29 => k_is)
    (case a30 => k_is); (case l30 => k_is); (case c30 => k_is); (case k30 => k_is)
    (case a31 => k_is); (case l31 => k_is); (case c31 => k_is); (case k31 => k_is)
    (case a32 => k_is); (case l32 => k_is); (case c32 => k_is); (case k32 => k_is)
    (case a33 => k_is); (case l33 => k_is); (case c33 => k_is); (case k33 => k_is)
    (case a34 => k_is); (case l34 => k_is); (case c34 => k_is); (case k34 => k_is)
    (case a35 => k_is); (case l35 => k_is); (case c35 => k_is); (case k35 => k_is)
    (case a36 => k_is); (case l36 => k_is); (case c36 => k_is); (case k36 => k_is)
    (case a37 => k_is); (case l37 => k_is); (case c37 => k_is); (case k37 => k_is)
    (case a38 => k_is); (case l38 => k_is); (case c38 => k_is); (case k38 => k_is)
    (case a39 => k_is); (case l39 => k_is); (case c39 => k_is); (case k39 => k_is)
    (case a40 => k_is); (case l40 => k_is); (case c40 => k_is); (case k40 => k_is)
    (case a41 => k_is); (case l41 => k_is); (case c41 => k_is); (case k41 => k_is)
    (case a42 => k_is); (case l42 => k_is); (case c42 => k_is); (case k42 => k_is)
    (case a43 => k_is); (case l43 => k_is); (case c43 => k_is); (case k43 => k_is)
    (case y0 => k_is)
    (case y1 => k_is)
    (case y2 => k_is)
    (case y3 => k_is)
    (case y4 => k_is)
    (case y5 => k_is)
    (case y6 => k_is)
    (case y7 => k_is)
    (case y8 => k_is)
    (case y9 => k_is)
    (case y10 => k_is)
    (case y11 => k_is)
    (case y12 => k_is)
    (case eBG => k_is)
    (case eO => k_is)
    (case eN => k_is)
    (case m4 => k_is)
    (case m5 => k_is)
    (case kBGc => k_is)
    (case bBGc => k_is)
    (case tBGc => k_is)
    (case m0BG => k_is)
    (case m1BG => k_is)
    (case m2BG => k_is)
    (case m3BG => k_is)
    (case m6BG => k_is)
    (case sBGBG => k_is)
    (case kOc => k_is)
    (case bOc => k_is)
    (case tOc => k_is)
    (case m0O => k_is)
    (case m1O => k_is)
    (case m2O => k_is)
    (case m3O => k_is)
    (case m6O => k_is)
    (case sOO => k_is)
    (case iBGc => k_is)
    (case iOc => k_is)
    (case iBFc => k_is)
    (case tBFc => k_is)
    (case iNc => k_is)
    (case tNc => k_is)
    (case sBFBG => k_is)
    (case sBFO => k_is)
    (case sBGO => k_is)
    (case sOBG => k_is)
    (case sBGBF => k_is)
    (case sOBF => k_is)
    (case sBGN => k_is)
    (case sON => k_is)
    (case gM => k_is)
    (case gL => k_is)
    (case lL => k_is)
    (case bNc => k_is)
    (case m2N => k_is)
    (case kVG => k_is)
    (case kVO => k_is)
    (case zV => k_is)
    (case tiBF => k_is)
    (case tb42 => k_is)
    (case tp42 => rfl)
    (case hd42 => kernel_rfl)
    (case nk42 => kernel_rfl)
    (case exBG => k_exc)
    (case exO => k_exc)
    (case hT0 => exact hT8 _ (by k_mem))
