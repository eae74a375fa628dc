import PyProof.Rows.All
import Wide.All
import OpenK.AllK
import Wide.FinOn
import HandS.ForMost
import HandS.Wide
import HandS.IsInst
import HandS.Codes
import HandS.Style
import HandS.EndBits
import HandS.Walk
import HandS.FStr
import HandS.WideBits
import HandS.Defaults
import HandS.Exc
import HandS.TryOnly
import HandS.ExcOwn
import HandS.WordsExc
import HandS.ExcIs
import HandS.Lambda
import HandS.EndTab
import KE.KTupSum
import HandS.Iter
import HandS.Property
import HandS.ForList
import HandS.MakeKw
import HandS.MakeKwOnly
import KE.KExcIs
import HandS.ExcInit
import HandS.ExcField
import HandS.Replace
import HandS.More
import HandS.Text
import HandS.TryMany
import HandS.Deep
import KE.DataFind
import HandS.TupLen
import HandS.TupLe
import HandS.CallLocal
import PyProof.ReprLen
import PyProof.FitsInt
import HandS.Zip
import KE.KDictZip
import KE.GoesMore
import HandS.Star
import HandS.DictComp
import PyProof.CollectStr
import PyProof.SliceStr2
import PyProof.WalksMore
import PyProof.MinMaxWalk
import PyProof.SumWalkG
import KE.KDictCopyH
import HandS.Dict
import PyProof.ReprRoads
import HandS.Words
import PySem.Challenge.RW_narrowingbits_k23_colours_and_back
set_option Elab.async false
set_option linter.all false
set_option maxRecDepth 100000
set_option maxHeartbeats 4000000
namespace My
open PySem PySem.Spec PyProof.Rows L2
/-! ### arithmetic -/
theorem cdivw {i j : Int} (h : 0 < j) (h2 : j < 18446744073709551616) : CDivW i j := wide_div (b := 64) h (by omega) (by decide) (by decide)
theorem cmull {i j : Int} (h : -18446744073709551616 < i) (h2 : i < 18446744073709551616) : CMul i j := .inl ⟨by omega, by omega⟩
theorem cmulr {i j : Int} (h : -18446744073709551616 < j) (h2 : j < 18446744073709551616) : CMul i j := .inr ⟨by omega, by omega⟩
theorem pow18 : ((10 : Int) ^ (18 : Int).toNat) = 1000000000000000000 := by decide +kernel
theorem pow30 : ((10 : Int) ^ (30 : Int).toNat) = 1000000000000000000000000000000 := by decide +kernel
theorem pow9 : ((10 : Int) ^ (9 : Int).toNat) = 1000000000 := by decide +kernel
theorem pool_nn (c : Int) (b : Bool) : 0 ≤ (if -1 - c > c then -1 - c else c) * (if b = true then 1 else 0) := by
  refine Int.mul_nonneg ?_ ?_
  · split <;> omega
  · split <;> decide
theorem at_lt {ns : List Int} {k : Int} (h0 : 0 ≤ k) (h : k < ((ns.map V.int).length : Int)) : ∃ z, atI (ns.map V.int) k = some (.int z) := by
  rw [List.length_map] at h
  refine ⟨ns[k.toNat]'(by omega), at_of (j := k.toNat) (by omega) ?_⟩
  rw [List.getElem?_map, List.getElem?_eq_getElem (by omega)]
  rfl
theorem at_mem {xs : List V} {r : Int} (h0 : 0 ≤ r) (h : r < (xs.length : Int)) : ∃ v, atI xs r = some v ∧ v ∈ xs := by
  refine ⟨xs[r.toNat]'(by omega), at_of (j := r.toNat) (by omega) (List.getElem?_eq_getElem (by omega)), List.getElem_mem _⟩
/-! ### heaps -/
theorem same_upd {H : Hp} {p : Addr} {o : HO} (h : H p = none) : Same H (upd H p o) := fun b x e => by
  rw [upd_ne (ne_of_none e h)]
  exact e
/-- a source of draws stands at a -/
def Src (H : Hp) (a : Addr) : Prop := ∃ x y : Int, H a = some (.lst [.int x, .int y]) ∧ 0 ≤ x ∧ 0 ≤ y ∧ y < 2147483647
/-- all but a is as it was -/
def But (a : Addr) (H H' : Hp) : Prop := ∀ b, b ≠ a → H' b = H b
theorem But.refl (a : Addr) (H : Hp) : But a H H := fun _ _ => rfl
theorem But.trans {a : Addr} {H H1 H2 : Hp} (u : But a H H1) (v : But a H1 H2) : But a H H2 := fun b e => (v b e).trans (u b e)
theorem But.upd {a : Addr} {H : Hp} {o : HO} : But a H (upd H a o) := fun b e => upd_ne e
theorem But.at {a b : Addr} {H H' : Hp} {o : HO} (u : But a H H') (n : b ≠ a) (h : H b = some o) : H' b = some o := (u b n).trans h
theorem src_same {H H' : Hp} {a : Addr} (s : Same H H') (h : Src H a) : Src H' a := by
  obtain ⟨x, y, e, r⟩ := h
  exact ⟨x, y, s _ _ e, r⟩
theorem Src.ne {H : Hp} {a p : Addr} (h : Src H a) (n : H p = none) : a ≠ p := by
  obtain ⟨x, y, e, r⟩ := h
  exact ne_of_none e n
theorem same_but {a : Addr} {G H H' : Hp} (s : Same G H) (u : But a H H') (n : G a = none) : Same G H' := fun b o e => by
  rw [u b (ne_of_none e n)]
  exact s b o e
theorem kit_ii {K : PySem.W.Frag} : PySem.W.kitOne K (.type "int") (.type "int") = some true := kit_ty (by decide +kernel)
theorem kit_ib {K : PySem.W.Frag} : PySem.W.kitOne K (.type "int") (.type "bool") = some false := kit_ty (by decide +kernel)
theorem kit_bi {K : PySem.W.Frag} : PySem.W.kitOne K (.type "bool") (.type "int") = some true := kit_ty (by decide +kernel)
theorem kit_bb {K : PySem.W.Frag} : PySem.W.kitOne K (.type "bool") (.type "bool") = some true := kit_ty (by decide +kernel)
theorem kit_tt {K : PySem.W.Frag} : PySem.W.kitOne K (.type "tuple") (.type "tuple") = some true := kit_ty (by decide +kernel)
theorem kit_ll {K : PySem.W.Frag} : PySem.W.kitOne K (.type "list") (.type "list") = some true := kit_ty (by decide +kernel)
theorem kit_tl {K : PySem.W.Frag} : PySem.W.kitOne K (.type "tuple") (.type "list") = some false := kit_ty (by decide +kernel)
theorem kit_lt {K : PySem.W.Frag} : PySem.W.kitOne K (.type "list") (.type "tuple") = some false := kit_ty (by decide +kernel)
theorem op_powc {X : Cx} {a b c : Int} (hc : CPow a b) (h : a ^ b.toNat = c) : OpR X (binaryOp .Pow) (fun x y H Q => x = .int a ∧ y = .int b ∧ Q (.int c) H) := by
  intro pins s σ H x y v u Q I rx ry h'
  obtain ⟨rfl, rfl, q⟩ := h'
  exact op_pow pins s σ H _ _ v u Q I rx ry ⟨_, _, rfl, rfl, hc, by subst h; exact q⟩
theorem dp_pair {K : PySem.W.Frag} {H : Hp} {p : Addr} {a b : Int} (h : H p = some (.tup [.int a, .int b])) : Dp K H (.ref p) (.tuple [.int a, .int b]) := .tup (.inl (.inl h)) (.cons (.int _) (.cons (.int _) .nil))
theorem eq_pair (a b : Int) : PyData.eqv (.tuple [.int a, .int b]) (.tuple [.int a, .int b]) = true := by
  simp [PyData.eqv, PyData.eqvAll]
theorem tup_eq {H : Hp} {p : Addr} {x x' y y' : Int} (h : H p = some (.tup [.int x, .int y])) (h1 : x = x') (h2 : y = y') : H p = some (.tup [.int x', .int y']) := by
  rw [← h1, ← h2]
  exact h
end My
namespace My
section
open PySem PySem.W PyProof.Rows Builtin Builtin.Str Builtin.Int Builtin.Float
def binCodes (n : Nat) : List Nat := (Nat.toDigits 2 n).map Char.toNat
theorem field_plain (ds : List Nat) (h : ds.isEmpty = false) : intField' { align := 62, type := some 98 } false [] ds [] 4 = ⟨ds.toArray⟩ := by
  unfold intField'
  simp [h]
theorem digs_ne (n : Nat) : ((Nat.toDigits 2 n).map fun c => ((if ((98 : Nat) == 88) = true then c.toUpper else c) : Char).toNat).isEmpty = false := by
  cases e : Nat.toDigits 2 n with
  | nil =>
    have := tDigits_len_ge 2 n
    rw [e] at this
    cases this
  | cons a l => rfl
theorem meets_bin {x : Int} {t : Tok} (h0 : 0 ≤ x) (hL : (Nat.toDigits 2 x.natAbs).length ≤ sizeLine) :
    ∀ u, Meets (Builtin.«int.__format__» ⟨[.int x t, .str (Str.ofString "b") u], []⟩) (fun _ R s => ∀ t' k, R (.ok (.ret (.str ⟨(binCodes x.natAbs).toArray⟩ t'))) { s with toks := k }) := by
  intro u
  apply KPc.meets_of
  intro prog w A E s Q h
  unfold Builtin.«int.__format__»
  refine wpAny_bind (wpAny_of_eq (a := (_, _)) rfl ?_)
  refine wpAny_bind (wpAny_of_eq (a := _) rfl ?_)
  kxf_if
  refine wpAny_bind (wpAny_typeNameOf (T := "str") (typeIs_str _ _ _) (by decide) fun _ => ?_)
  refine wpAny_bind (wpAny_of_eq (a := some _) rfl ?_)
  kxf_if
  kxf_if
  refine wpAny_bind (wpAny_typeNameOfCut_int ?_)
  repeat kxf_if
  refine KXf.ret_text (T := ⟨(binCodes x.natAbs).toArray⟩) ?e ?l h
  case e =>
    have hx : decide (x < 0) = false := decide_eq_false (by omega)
    rw [hx]
    show intField' { align := 62, type := some 98 } false [] ((Nat.toDigits 2 x.natAbs).map fun c => ((if ((98 : Nat) == 88) = true then c.toUpper else c) : Char).toNat) [] 4 = _
    exact field_plain _ (digs_ne _)
  case l =>
    have hx : decide (x < 0) = false := decide_eq_false (by omega)
    rw [hx]
    show (intField' { align := 62, type := some 98 } false [] ((Nat.toDigits 2 x.natAbs).map fun c => ((if ((98 : Nat) == 88) = true then c.toUpper else c) : Char).toNat) [] 4).length ≤ sizeLine
    rw [field_plain _ (digs_ne _)]
    show ((binCodes x.natAbs).toArray).size ≤ sizeLine
    rw [List.size_toArray, binCodes, List.length_map]
    exact hL
end
end My
namespace My
open PySem PySem.Spec PyProof.Rows L2
/-! ### an f-string's field in binary -/
section
variable {X : Cx}
theorem pe_fmtB {e : Expr} {te : TE} {k : Nat} {pos p1 p2 : Pos} (he : PE X e te) : PE X (.FormattedValue e (-1) (some (.JoinedStr [.Constant (.str "b") k p1] p2)) pos)
    (fun σ H Q => te σ H fun x H1 => ∃ i : Int, x = .int i ∧ 0 ≤ i ∧ (Nat.toDigits 2 i.natAbs).length ≤ sizeLine ∧ Q (.str (SX.S (binCodes i.natAbs))) H1) := by
  refine ⟨fun pins s σ H Q I h => ?_⟩
  refine wpAny_FormattedValue_spec (thn (he.run pins s σ H _ I h) fun v s1 hv => ?_)
  obtain ⟨x, H1, I1, r1, i, rfl, h0, hL, q⟩ := hv
  obtain ⟨t, rfl⟩ := r1
  refine thn ((pe_joined1 (X := X) (pe_str (x := "b") (j := k) (pos := p1)) (pos := p2)).run pins s1 σ H1 (fun y H2 => y = .str "b" ∧ H2 = H1) I1 ⟨rfl, rfl⟩) fun r s2 hr => ?_
  obtain ⟨y, H2, I2, r2, rfl, rfl⟩ := hr
  obtain ⟨t2, rfl⟩ := r2
  exact ⟨_, t2, rfl, PySem.W.KXf.field_int rfl rfl (by decide) (meets_bin h0 hL) fun t' k => ⟨.str _, _, I2.tok _, ⟨_, rfl⟩, q⟩⟩
/-- a call by keywords alone -/
theorem pe_kw0 {CX : CXT} {k : Nat} {f : Addr} {fd : FuncData} {ps ks : List Str} {sp : Sp} {E : XK} {x : Str} {p pos : Pos} {kws : List Keyword} {tk : TA} {g : List Value → List Value → List Value} {gV : List V → List V → List V}
    (F : FnOk X.prog X.w X.K X.mg X.base CX k f fd ps sp) (hr : Room k X.A) (hg : Gl X x) (hm : X.mg x = some (.ref f)) (hk : PySem.W.keepIn X.K (.ref f) = true) (hb : KBn X.K fd ps 0 ks g gV) (hx : Passes CX X E) (hkw : PK X kws tk)
    (hall : (backToKw pos (keywordEach kws X.env)).all (·.1.isSome) = true := by rfl) (hks : (backToKw pos (keywordEach kws X.env)).filterMap (·.1) = ks := by rfl) (hdb : (x == ("__debug__" : Str)) = false := by decide)
    (hpl : ((backTo pos (starEach [] X.env)).any (·.1) || (backToKw pos (keywordEach kws X.env)).any (·.1.isNone)) = false := by rfl) :
    PE X (.Call (.Name x p) [] kws pos) (fun σ H Q => tk σ H fun zs H2 => zs.length = ks.length ∧ sp (gV [] zs) H2 Q E) := by
  refine ⟨fun pins s σ H Q I h => ?_⟩
  refine wpAny_Call_Name_kw (ld_glob I hg hm ?_ hdb)
  refine PySem.W.callWith_KW0 (h₀ := X.base) I.ok.mod.kin hk hall ?_ hpl
  refine thn (hkw.run pos pins s σ H _ I h) fun ws s2 ⟨zs, H2, I2, rz, l2, q2⟩ => ⟨I2.kIn, ?_⟩
  rw [hks]
  exact run_fnN (us := []) (vs := []) F hr hb hx I2 .nil rz rfl l2 q2
/-- a def that may be called by keywords alone -/
structure CalK (P : Program) (w : World) (K : PySem.W.Frag) (mg : Str → Option Value) (base : Heap) (k : Nat) (x : Str) (ks : List Str) (sp : Sp) : Prop where
  ex : ∃ (f : Addr) (fd : FuncData) (ps : List Str), FnOk P w K mg base CX0 k f fd ps sp ∧ mg x = some (.ref f) ∧ PySem.W.keepIn K (.ref f) = true ∧ KBn K fd ps 0 ks (fun _ ws => ws) (fun _ zs => zs)
theorem pe_ck {k j : Nat} {ks : List Str} {sp : Sp} {x : Str} {p pos : Pos} {kws : List Keyword} {tk : TA} (c : CalK X.prog X.w X.K X.mg X.base k x ks sp) (hr : Room j X.A) (hk : k ≤ j) (hg : Gl X x) (hkw : PK X kws tk)
    (hall : (backToKw pos (keywordEach kws X.env)).all (·.1.isSome) = true := by rfl) (hks : (backToKw pos (keywordEach kws X.env)).filterMap (·.1) = ks := by rfl) (hdb : (x == ("__debug__" : Str)) = false := by decide)
    (hpl : ((backTo pos (starEach [] X.env)).any (·.1) || (backToKw pos (keywordEach kws X.env)).any (·.1.isNone)) = false := by rfl) :
    PE X (.Call (.Name x p) [] kws pos) (fun σ H Q => tk σ H fun zs H2 => zs.length = ks.length ∧ sp zs H2 Q E0) := by
  obtain ⟨f, fd, ps, F, hm, hkp, hb⟩ := c.ex
  exact pe_kw0 F (hr.mono hk) hg hm hkp hb pass0 hkw hall hks hdb hpl
end
/-! ### digits -/
/-- the w binary digits of n, the highest first -/
def bitsW : Nat → Nat → List Nat
  | 0, _ => []
  | w + 1, n => bitsW w (n / 2) ++ [n % 2]
theorem bitsW_len : ∀ w n, (bitsW w n).length = w
  | 0, _ => rfl
  | w + 1, n => by rw [bitsW, List.length_append, bitsW_len w (n / 2)]; rfl
theorem bitsW_bit : ∀ w n, ∀ b ∈ bitsW w n, b < 2
  | 0, _, b, h => by cases h
  | w + 1, n, b, h => by
    rw [bitsW, List.mem_append] at h
    rcases h with h | h
    · exact bitsW_bit w _ b h
    · rw [List.mem_singleton] at h
      omega
theorem digit_code {b : Nat} (h : b < 2) : (Nat.digitChar b).toNat = 48 + b := by
  match b, h with
  | 0, _ => rfl
  | 1, _ => rfl
theorem binCodes_pow : ∀ w n, n < 2 ^ w → binCodes (2 ^ w + n) = 49 :: (bitsW w n).map (48 + ·)
  | 0, n, h => by
    have e : n = 0 := by omega
    subst e
    rfl
  | w + 1, n, h => by
    have p : 2 ^ (w + 1) = 2 * 2 ^ w := by rw [Nat.pow_succ, Nat.mul_comm]
    have g : 0 < 2 ^ w := Nat.two_pow_pos w
    have ih := binCodes_pow w (n / 2) (by omega)
    unfold binCodes at ih ⊢
    rw [Nat.toDigits_of_base_le (by decide) (by omega), List.map_append, show (2 ^ (w + 1) + n) / 2 = 2 ^ w + n / 2 by omega, ih, show (2 ^ (w + 1) + n) % 2 = n % 2 by omega, bitsW, List.map_append]
    show 49 :: _ ++ [(Nat.digitChar (n % 2)).toNat] = _
    rw [digit_code (Nat.mod_lt _ (by decide))]
    rfl
/-- the digits as numbers -/
def bitsI (w n : Nat) : List Int := (bitsW w n).map fun (b : Nat) => (b : Int)
theorem bitsI_len (w n : Nat) : (bitsI w n).length = w := by rw [bitsI, List.length_map, bitsW_len]
theorem digit_int {b : Nat} (h : b < 2) : PySem.intText? ⟨#[48 + b]⟩ = some (b : Int) := by
  match b, h with
  | 0, _ => decide +kernel
  | 1, _ => decide +kernel
theorem take_snoc {α : Type} {l : List α} {i : Nat} {x : α} (h : l[i]? = some x) : l.take i ++ [x] = l.take (i + 1) := by
  rw [List.take_add_one, h]
  rfl
end My
namespace My
open PySem PySem.Spec PyProof.Rows L2
/-! ### lists of numbers compared -/
theorem eqv_same {d : PyData} (h : SeqAt.shaped d = true) : PyData.eqv d d = true := SeqAt.eqv_refl d (SeqAt.canLay_of_shaped h)
theorem dpall_ints {K : PySem.W.Frag} {H : Hp} : ∀ ns : List Int, DpAll K H (ns.map V.int) (ns.map PyData.int)
  | [] => .nil
  | n :: r => .cons (.int n) (dpall_ints r)
theorem dp_ints {K : PySem.W.Frag} {H : Hp} {p : Addr} {ns : List Int} (h : SqL K H p (ns.map V.int)) : Dp K H (.ref p) (.list (ns.map PyData.int)) := .lst h (dpall_ints ns)
theorem sh_ints (ns : List Int) : SeqAt.shaped (.list (ns.map PyData.int)) = true := PySem.W.ke_shaped_ints ns
theorem q_eqI {K : PySem.W.Frag} {H : Hp} {p q : Addr} {ns : List Int} {Q : VK} (hp : H p = some (.lst (ns.map V.int))) (hq : H q = some (.lst (ns.map V.int))) (h : Q (.bl true) H) : rEqD K (.ref p) (.ref q) H Q :=
  ⟨_, _, dp_ints (.inl (.inl hp)), dp_ints (.inl (.inl hq)), sh_ints ns, sh_ints ns, by rw [eqv_same (sh_ints ns)]; exact h⟩
theorem q_neI {K : PySem.W.Frag} {H : Hp} {p q : Addr} {ns : List Int} {Q : VK} (hp : H p = some (.lst (ns.map V.int))) (hq : H q = some (.lst (ns.map V.int))) (h : Q (.bl false) H) : rNeD K (.ref p) (.ref q) H Q :=
  ⟨_, _, dp_ints (.inl (.inl hp)), dp_ints (.inl (.inl hq)), sh_ints ns, sh_ints ns, by rw [eqv_same (sh_ints ns)]; exact h⟩
/-! ### all but the source stays -/
def Up (a : Addr) (H H' : Hp) : Prop := ∀ b o, b ≠ a → H b = some o → H' b = some o
theorem Up.refl (a : Addr) (H : Hp) : Up a H H := fun _ _ _ h => h
theorem up_same {a : Addr} {H H' : Hp} (s : Same H H') : Up a H H' := fun b o _ h => s b o h
theorem But.up {a : Addr} {H H' : Hp} (u : But a H H') : Up a H H' := fun b o n h => (u b n).trans h
theorem Up.trans {a : Addr} {H H1 H2 : Hp} (u : Up a H H1) (v : Up a H1 H2) : Up a H H2 := fun b o n h => v b o n (u b o n h)
theorem Up.to {a : Addr} {G H H' : Hp} (u : Up a H H') (s : Same G H) (n : G a = none) : Same G H' := fun b o e => u b o (ne_of_none e n) (s b o e)
theorem Up.new {a p : Addr} {H H' : Hp} (u : Up a H H') (hs : Src H' a) (n : H' p = none) : H p = none := by
  cases e : H p with
  | none => rfl
  | some o =>
    have := u p o (hs.ne n).symm e
    rw [n] at this
    cases this
theorem src_keep {a p : Addr} {H : Hp} {o : HO} (n : a ≠ p) (h : Src H a) : Src (upd H p o) a := by
  obtain ⟨x, y, e, r⟩ := h
  exact ⟨x, y, by rw [upd_ne n]; exact e, r⟩
/-! ### digits by place -/
theorem bitsW_get : ∀ w n i, i < w → (bitsW w n)[i]? = some (n / 2 ^ (w - 1 - i) % 2)
  | 0, _, i, h => absurd h (Nat.not_lt_zero i)
  | w + 1, n, i, h => by
    rw [bitsW]
    by_cases e : i = w
    · subst e
      rw [List.getElem?_append_right (by rw [bitsW_len]; exact Nat.le_refl _), bitsW_len, show i - i = 0 by omega, show i + 1 - 1 - i = 0 by omega, Nat.pow_zero, Nat.div_one]
      rfl
    · rw [List.getElem?_append_left (by rw [bitsW_len]; omega), bitsW_get w (n / 2) i (by omega), Nat.div_div_eq_div_mul, show w + 1 - 1 - i = (w - 1 - i) + 1 by omega, Nat.pow_succ, Nat.mul_comm]
theorem bitsI_get {w n i : Nat} (h : i < w) : (bitsI w n)[i]? = some (((n / 2 ^ (w - 1 - i) % 2 : Nat)) : Int) := by
  rw [bitsI, List.getElem?_map, bitsW_get w n i h]
  rfl
end My
namespace My
open PySem PySem.Spec PyProof.Rows L2
section
variable {X : Cx}
/-- X(), X an own exception class without own __init__ -/
theorem pmk_none {C : Addr} {bmB : List Value} {B newId initId : String} {x : Str} {p pos : Pos} (F : ExcBaseFacts B newId initId bmB) (q : PySem.W.excIn X.K C bmB newId = true) (gC : X.mg x = some (.ref C)) (kC : PySem.W.keepIn X.K (.ref C) = true) (r : Raises X (.ref C)) (hg : Gl X x)
    (hdb : (x == ("__debug__" : Str)) = false := by decide) : PMk X (.Call (.Name x p) [] [] pos) (fun _ H Q => Q (.ref C) none H) := by
  intro pins s σ H Q I h
  refine wpAny_Call_Name_kw (ld_glob I hg gC (PySem.W.callWith_K0 I.kIn kC ?_) hdb)
  obtain ⟨bm, N, nm, qn, bs, hdct, sn, sub, ab, col, dd, k0, k1, k2, k3, k5, mN, hC, hN, hni, T⟩ := exc_obj I.kIn q
  exact wpAny_call_exc_subT F T hC hN hni (fun _ _ hm => mk_of I hm r h (I.hok.gone hm.new)) (Nat.zero_le _)
/-- isinstance of an own class against another one -/
theorem kit_ref {K : PySem.W.Frag} {C N : Addr} {b : Bool} (i : PySem.W.isClsIn K N = true) (t : PySem.W.typeIn K (.ref N) = some (.type "type")) (s : PySem.W.subIn K (.ref C) (.ref N) = some b) (n : b = false → PySem.W.subIn K (.ref C) (.ref C) = some true) :
    PySem.W.kitOne K (.ref C) (.ref N) = some b := by
  unfold PySem.W.kitOne
  by_cases e : ((Value.ref C) == (Value.ref N)) = true
  · rw [if_pos e]
    have e2 : C = N := Value.ref.inj (beq_iff_eq.mp e)
    subst e2
    cases b with
    | true => rfl
    | false =>
      rw [n rfl] at s
      cases s
  · rw [if_neg e]
    unfold PySem.W.kitCls
    have h : ((PySem.W.clsIn K N).isSome && PySem.W.typeIn K (.ref N) == some (.type "type")) = true := by
      rw [t, Bool.and_eq_true]
      exact ⟨i, by rfl⟩
    show (if _ then _ else _) = _
    rw [if_pos h]
    exact s
/-- an own exception class at C, as the top has written it -/
structure ECls (K : PySem.W.Frag) (mg : Str → Option Value) (x : Str) (C : Addr) : Prop where
  gC : mg x = some (.ref C)
  xC : PySem.W.excIn K C [.type "ValueError", .type "Exception", .type "BaseException", .type "object"] "ValueError.__new__" = true
  kC : PySem.W.keepIn K (.ref C) = true
  bC : PySem.W.subIn K (.ref C) (.type "BaseException") = some true
  tC : PySem.W.typeIn K (.ref C) = some (.type "type")
  ex : ExcC K C
  em : PySem.W.exmOne K (.ref C) (.ref C) = some true
/-- isinstance of the exception that a suite holds, its class told in the reading -/
theorem call_isE1 {a D : Addr} {oe : Obj} {cls : Value} {d : Option Addr} {pn : List (Addr × Obj)} (C : ExcC X.K D) (hz : Zc cls d oe) (hf : ∃ vs, oe.data = .fields vs) :
    CallR (X.suite a ((a, oe) :: pn)) (.builtin "isinstance") (fun xs H Q => cls = .ref D ∧ d = none ∧ rIsE X.K D a xs H Q) := by
  intro pins s σ H xs us Q I r h
  obtain ⟨e1, e2, h⟩ := h
  subst e1 e2
  exact call_isE C hz hf pins s σ H xs us Q I r h
end
end My
namespace My
open PySem PySem.Spec PyProof.Rows L2
/-! ### bit lengths, digits, values -/
def bl (n : Nat) : Nat := Builtin.Int.intBits (n : Int)
theorem bl_zero : bl 0 = 0 := rfl
theorem bl_pos {n : Nat} (h : 0 < n) : bl n = n.log2 + 1 := by
  unfold bl Builtin.Int.intBits
  rw [if_neg (by simp; omega), Int.natAbs_natCast]
theorem bl_lt (n : Nat) : n < 2 ^ bl n := by
  cases n with
  | zero => decide
  | succ n =>
    rw [bl_pos (Nat.succ_pos n)]
    exact Nat.lt_log2_self
theorem bl_le {n k : Nat} (h : n < 2 ^ k) : bl n ≤ k := PyProof.Rows.intBits_le (by rw [Int.natAbs_natCast]; exact h)
theorem bl_half {n : Nat} (h : 0 < n) : bl n = bl (n / 2) + 1 := by
  rw [bl_pos h]
  by_cases e : n = 1
  · subst e
    decide
  · rw [bl_pos (by omega), Nat.log2_def, if_pos (by omega)]
theorem bitsI_succ (w n : Nat) : bitsI (w + 1) n = bitsI w (n / 2) ++ [((n % 2 : Nat) : Int)] := by
  unfold bitsI
  rw [bitsW, List.map_append]
  rfl
def digs (n : Nat) : List Int := bitsI (bl n) n
theorem digs_zero : digs 0 = [] := rfl
theorem digs_step {n : Nat} (h : 0 < n) : digs n = digs (n / 2) ++ [((n % 2 : Nat) : Int)] := by
  unfold digs
  rw [bl_half h, bitsI_succ]
theorem digs_len (n : Nat) : (digs n).length = bl n := bitsI_len _ _
theorem digs_head : ∀ {n : Nat}, 0 < n → ∃ r, digs n = 1 :: r := by
  intro n
  induction n using Nat.strongRecOn with
  | _ n ih =>
    intro h
    rw [digs_step h]
    by_cases e : n = 1
    · subst e
      exact ⟨[], rfl⟩
    · obtain ⟨r, hr⟩ := ih (n / 2) (by omega) (by omega)
      rw [hr]
      exact ⟨r ++ [((n % 2 : Nat) : Int)], rfl⟩
def valI (xs : List Int) : Int := xs.foldl (fun v b => 2 * v + b) 0
theorem valI_snoc (xs : List Int) (b : Int) : valI (xs ++ [b]) = 2 * valI xs + b := by
  unfold valI
  rw [List.foldl_append]
  rfl
theorem valI_bits : ∀ w n, n < 2 ^ w → valI (bitsI w n) = n
  | 0, n, h => by
    have e : n = 0 := by omega
    subst e
    rfl
  | w + 1, n, h => by
    have p : 2 ^ (w + 1) = 2 * 2 ^ w := by rw [Nat.pow_succ, Nat.mul_comm]
    rw [bitsI_succ, valI_snoc, valI_bits w (n / 2) (by omega)]
    omega
theorem valI_digs (n : Nat) : valI (digs n) = n := valI_bits _ _ (bl_lt n)
theorem bitsI_bit {w n : Nat} {x : Int} (h : x ∈ bitsI w n) : 0 ≤ x ∧ x ≤ 1 := by
  obtain ⟨b, hb, rfl⟩ := List.mem_map.mp h
  have := bitsW_bit w n b hb
  omega
/-- all of them are bits -/
def AreBits (xs : List Int) : Prop := ∀ x ∈ xs, 0 ≤ x ∧ x ≤ 1
theorem AreBits.app {xs ys : List Int} (h : AreBits xs) (g : AreBits ys) : AreBits (xs ++ ys) := fun x m => by
  rcases List.mem_append.mp m with m | m
  · exact h x m
  · exact g x m
theorem AreBits.take {xs : List Int} (h : AreBits xs) (n : Nat) : AreBits (xs.take n) := fun x m => h x (List.mem_of_mem_take m)
theorem AreBits.zeros (n : Nat) : AreBits (List.replicate n 0) := fun x m => by
  rw [(List.mem_replicate.mp m).2]
  decide
/-- the code of a count -/
def code (c : Nat) : List Int := List.replicate (bl (c + 1) - 1) 0 ++ digs (c + 1)
theorem code_len (c : Nat) : (code c).length = 2 * bl (c + 1) - 1 := by
  have := bl_half (n := c + 1) (by omega)
  unfold code
  rw [List.length_append, List.length_replicate, digs_len]
  omega
theorem code_bits (c : Nat) : AreBits (code c) := (AreBits.zeros _).app fun _ m => bitsI_bit m
theorem flat_zeros (n : Nat) : (List.replicate n [V.int 0]).flatten = (List.replicate n (0 : Int)).map V.int := by
  induction n with
  | zero => rfl
  | succ n ih =>
    rw [List.replicate_succ, List.flatten_cons, ih, List.replicate_succ]
    rfl
theorem new_at {a p : Addr} {H : Hp} {o o' : HO} (h : H a = some o) (n : H p = none) : (upd H p o') a = some o := by
  rw [upd_ne (ne_of_none h n)]
  exact h
theorem cut_int {xs : List V} {x y : Int} {i k : Nat} (hx : x = (i : Int)) (hy : y = (k : Int)) (hik : i ≤ xs.length) (hk : k ≤ xs.length) : cutV xs (some x) (some y) = (xs.drop i).take (k - i) := by
  subst hx hy
  unfold cutV
  rw [HT.sIx_nat, HT.sIx_nat, Nat.min_eq_left hik, Nat.min_eq_left hk]
theorem cut_to {xs : List V} {y : Int} {k : Nat} (hy : y = (k : Int)) (hk : k ≤ xs.length) : cutV xs none (some y) = xs.take k := by
  subst hy
  unfold cutV
  rw [HT.sIx_none, HT.sIx_nat, Nat.min_eq_left hk, List.drop_zero, Nat.sub_zero]
theorem cut_any {xs : List V} {x y : Int} {i k : Nat} (hx : x = (i : Int)) (hy : y = (k : Int)) (hik : i ≤ xs.length) : cutV xs (some x) (some y) = (xs.drop i).take (k - i) := by
  subst hx hy
  unfold cutV
  rw [HT.sIx_nat, HT.sIx_nat, Nat.min_eq_left hik]
  by_cases h : k ≤ xs.length
  · rw [Nat.min_eq_left h]
  · rw [Nat.min_eq_right (by omega), List.take_of_length_le (by rw [List.length_drop]; omega), List.take_of_length_le (by rw [List.length_drop]; omega)]
/-! ### reading a count -/
/-- zeros ahead of the first 1 -/
def lz : List Int → Nat
  | [] => 0
  | x :: r => if x = 0 then lz r + 1 else 0
theorem lz_le : ∀ l : List Int, lz l ≤ l.length
  | [] => Nat.le_refl _
  | x :: r => by
    have := lz_le r
    simp only [lz, List.length_cons]
    split <;> omega
theorem lz_more : ∀ {l : List Int} {k : Nat}, k ≤ lz l → l[k]? = some 0 → k + 1 ≤ lz l
  | [], k, _, h => by simp at h
  | x :: r, 0, _, h => by
    have e : x = 0 := Option.some.inj h
    simp only [lz, e, if_true]
    omega
  | x :: r, k + 1, hk, h => by
    simp only [lz] at hk ⊢
    by_cases e : x = 0
    · rw [if_pos e] at hk ⊢
      have := lz_more (l := r) (k := k) (by omega) h
      omega
    · rw [if_neg e] at hk
      omega
theorem lz_stop : ∀ {l : List Int} {k : Nat} {x : Int}, k ≤ lz l → l[k]? = some x → x ≠ 0 → lz l = k
  | [], k, _, _, h, _ => by simp at h
  | y :: r, 0, x, _, h, hx => by
    have e : y = x := Option.some.inj h
    simp only [lz, e, if_neg hx]
  | y :: r, k + 1, x, hk, h, hx => by
    simp only [lz] at hk ⊢
    by_cases e : y = 0
    · rw [if_pos e] at hk ⊢
      have := lz_stop (l := r) (k := k) (x := x) (by omega) h hx
      omega
    · rw [if_neg e] at hk
      omega
theorem lz_zeros : ∀ (k : Nat) (l : List Int), lz (List.replicate k 0 ++ l) = k + lz l
  | 0, l => by simp
  | k + 1, l => by
    rw [List.replicate_succ, List.cons_append, lz, if_pos rfl, lz_zeros k l]
    omega
inductive RC where
  | long : RC
  | short : RC
  | read (v : Int) (stop : Nat) : RC
def readC (xs : List Int) (a : Nat) : RC :=
  if 40 < lz (xs.drop a) then .long else if xs.length < a + lz (xs.drop a) + 1 + lz (xs.drop a) then .short
  else .read (valI ((xs.drop (a + lz (xs.drop a))).take (lz (xs.drop a) + 1)) - 1) (a + lz (xs.drop a) + 1 + lz (xs.drop a))
def rcV : RC → List V
  | .long => [.str "long"]
  | .short => [.str "short"]
  | .read v s => [.str "read", .int v, .int s]
/-- a signed number of a count -/
def sgnR : RC → RC
  | .read v s => .read (if v % 2 = 0 then v / 2 else (-(v + 1)) / 2) s
  | r => r
theorem read_code {A B : List Int} {c : Nat} (h : c + 1 < 2 ^ 41) : readC (A ++ code c ++ B) A.length = .read c (A.length + (code c).length) := by
  obtain ⟨r, hr⟩ := digs_head (n := c + 1) (by omega)
  have l1 := bl_half (n := c + 1) (by omega)
  have l2 : bl (c + 1) ≤ 41 := bl_le h
  have e1 : (A ++ code c ++ B).drop A.length = List.replicate (bl (c + 1) - 1) 0 ++ (digs (c + 1) ++ B) := by
    rw [List.append_assoc, List.drop_left' rfl, code, List.append_assoc]
  have e2 : lz ((A ++ code c ++ B).drop A.length) = bl (c + 1) - 1 := by
    rw [e1, lz_zeros, hr]
    simp [lz]
  have e3 : (A ++ code c ++ B).drop (A.length + (bl (c + 1) - 1)) = digs (c + 1) ++ B := by
    rw [← List.drop_drop, e1, List.drop_left' (by rw [List.length_replicate])]
  have e4 : (digs (c + 1) ++ B).take (bl (c + 1) - 1 + 1) = digs (c + 1) := by
    rw [List.take_left' (by rw [digs_len]; omega)]
  unfold readC
  rw [e2, if_neg (by omega), if_neg (by rw [List.length_append, List.length_append, code_len]; omega), e3, e4, valI_digs, code_len]
  congr 1
  · omega
  · omega
theorem read_cut {A : List Int} {c t : Nat} (h : c + 1 < 2 ^ 41) (ht : t < (code c).length) : readC (A ++ (code c).take t) A.length = .short := by
  obtain ⟨r, hr⟩ := digs_head (n := c + 1) (by omega)
  have l1 := bl_half (n := c + 1) (by omega)
  have l2 : bl (c + 1) ≤ 41 := bl_le h
  rw [code_len] at ht
  have e0 : (A ++ (code c).take t).length = A.length + t := by
    rw [List.length_append, List.length_take, code_len]
    omega
  have e1 : (A ++ (code c).take t).drop A.length = (code c).take t := List.drop_left' rfl
  by_cases q : t ≤ bl (c + 1) - 1
  · have e2 : (code c).take t = List.replicate t 0 := by
      unfold code
      rw [List.take_append_of_le_length (by rw [List.length_replicate]; exact q), List.take_replicate, Nat.min_eq_left q]
    have e3 : lz ((A ++ (code c).take t).drop A.length) = t := by
      rw [e1, e2]
      have := lz_zeros t []
      rw [List.append_nil] at this
      rw [this]
      rfl
    unfold readC
    rw [e3, if_neg (by omega), if_pos (by rw [e0]; omega)]
  · have e2 : (code c).take t = List.replicate (bl (c + 1) - 1) 0 ++ (digs (c + 1)).take (t - (bl (c + 1) - 1)) := by
      unfold code
      rw [List.take_append, List.length_replicate, List.take_of_length_le (by rw [List.length_replicate]; omega)]
    have e3 : lz ((A ++ (code c).take t).drop A.length) = bl (c + 1) - 1 := by
      rw [e1, e2, lz_zeros, hr]
      obtain ⟨m, hm⟩ : ∃ m, t - (bl (c + 1) - 1) = m + 1 := ⟨t - (bl (c + 1) - 1) - 1, by omega⟩
      rw [hm, List.take_succ_cons]
      simp [lz]
    unfold readC
    rw [e3, if_neg (by omega), if_pos (by rw [e0]; omega)]
/-! ### what is told, as data -/
def rcD : RC → List PyData
  | .long => [.str "long"]
  | .short => [.str "short"]
  | .read v s => [.str "read", .int v, .int s]
theorem dp_rc {K : PySem.W.Frag} {H : Hp} {p : Addr} {r : RC} (h : H p = some (.tup (rcV r))) : Dp K H (.ref p) (.tuple (rcD r)) := by
  cases r with
  | long => exact .tup (.inl (.inl h)) (.cons (.str _) .nil)
  | short => exact .tup (.inl (.inl h)) (.cons (.str _) .nil)
  | read v s => exact .tup (.inl (.inl h)) (.cons (.str _) (.cons (.int _) (.cons (.int _) .nil)))
theorem sh_rc (r : RC) : SeqAt.shaped (.tuple (rcD r)) = true := by
  cases r with
  | long => decide +kernel
  | short => decide +kernel
  | read v s =>
    have h : PyData.canLay0 (.str "read") = true := by decide +kernel
    simp [SeqAt.shaped, rcD, PyData.canLay0, PyData.canLayAll0, PyData.depth, PyData.depthAll] at h ⊢
    try exact h
theorem q_neR {K : PySem.W.Frag} {H : Hp} {p q : Addr} {r : RC} {Q : VK} (hp : H p = some (.tup (rcV r))) (hq : H q = some (.tup (rcV r))) (h : Q (.bl false) H) : rNeD K (.ref p) (.ref q) H Q :=
  ⟨_, _, dp_rc hp, dp_rc hq, sh_rc r, sh_rc r, by rw [eqv_same (sh_rc r)]; exact h⟩
end My
namespace My
open PySem PySem.Spec PyProof.Rows L2
/-! ### several except clauses, each with a name -/
abbrev Clause := Value × Nat × (Addr → Value → Option Addr → TS)
def wAll (K : PySem.W.Frag) (Wout : WX) (D : Ends) : List Clause → WX
  | [] => Wout
  | (c, i, ts) :: more => wAs K c i ts (wAll K Wout D more) D
inductive Clauses (X : Cx) : List ExceptHandler → List Clause → Prop
  | done : Clauses X [] []
  | step {x n : Str} {c : Value} {i : Nat} {ts : Addr → Value → Option Addr → TS} {first : Stmt} {others : List Stmt} {p1 p2 : Pos} {hds : List ExceptHandler} {cs : List Clause}
      (cl : Names X x c) (slot : X.N[i]? = some n) (lo : X.env.kindOf n = some .local)
      (body : ∀ (a : Addr) (oe : Obj) (cls : Value) (d : Option Addr) (pn : List (Addr × Obj)), Zc cls d oe → (∃ vs, oe.data = .fields vs) → PSs (X.suite a ((a, oe) :: pn)) (first :: others) (ts a cls d))
      (more : Clauses X hds cs) : Clauses X (.ExceptHandler (some (.Name x p1)) (some n) (first :: others) p2 :: hds) ((c, i, ts) :: cs)
section
variable {X : Cx} {todo : List Stmt} {h0 : ExceptHandler} {hds : List ExceptHandler} {cs : List Clause} {pos : Pos} {tb : WX → TS} {Wout : WX}
theorem ps_try_all (e1 : X.stack = X.env :: X.outer) (e2 : X.env.frame = some X.env.locals) (nd : X.N.Nodup) (tk : Takes X Wout)
    (run : ∀ (W : WX) (pn : List (Addr × Obj)) (xe : Value → Shared → Prop), Takes (X.tr pn xe) W → PassesOwn (model X.prog X.w) X.A X.env xe → PSs (X.tr pn xe) todo (tb W))
    (all : Clauses X (h0 :: hds) cs) : PS X (.Try todo (h0 :: hds) [] [] pos) (fun D σ H => tb (wAll X.K Wout D cs) D σ H) := by
  constructor
  intro pins s σ H D I reading
  have here := I.ok
  have fr : X.A.frames = some (X.env :: X.outer) := by
    rw [here.frames, e1]
  apply wpAny_Try_except
  refine wpAny_mono ((run (wAll X.K Wout D cs) (X.pn ++ pins) _ (fun u t caught => ?landing) PassesOwn.looking).run [] s σ H D (I.toTry _) reading) (fun f t out => ?through) (fun _ _ z => z)
  case through =>
    cases f with
    | ret v =>
      obtain ⟨x, σ', H', J, rx, q⟩ := out
      exact ⟨x, σ', H', J.ofTry here, rx, q⟩
    | cont =>
      obtain ⟨σ', H', J, q⟩ := out
      exact ⟨σ', H', J.ofTry here, q⟩
    | brk =>
      obtain ⟨σ', H', J, q⟩ := out
      exact ⟨σ', H', J.ofTry here, q⟩
    | next =>
      obtain ⟨σ', H', J, q⟩ := out
      exact wpAny_execs_nil ⟨σ', H', J.ofTry here, q⟩
  case landing =>
    obtain ⟨a, B, sI, old, σ', H', cls, d, rfl, J0, nb, grown, sky0, fresh, os, bare, wish⟩ := caught
    have J : Inv X pins σ' H' sI := J0.ofTry here
    have sky : Sky B (X.env :: X.outer) a (Zc cls d) X.env.locals t.heap := e1 ▸ sky0
    refine Sky.land Zc.steady fr e2 sky (fun g fly up => ?_)
    have JG : Inv X pins σ' H' { t with heap := g } := J.landed nb fly.1 (grown.trans up) os bare
    obtain ⟨oe, vs, hoe, hz, hdat⟩ := fly.there
    have apart : a ∉ frs (X.env :: X.outer) := by
      intro m
      obtain ⟨_, o2, g2, no⟩ := fly.2.2.1.mem m
      rw [hoe] at g2
      cases g2
      exact no _ hdat
    have aL : a ≠ X.env.locals := by
      intro z
      exact apart (List.mem_filterMap.mpr ⟨X.env, List.mem_cons_self, by rw [e2, z]⟩)
    have aF : a ∉ X.fs := by
      intro m
      obtain ⟨ev, me, q⟩ := List.mem_filterMap.mp m
      exact apart (List.mem_filterMap.mpr ⟨ev, List.mem_cons_of_mem _ me, q⟩)
    have SG := JG.suite hoe hdat fresh aL aF
    have goOn : ∀ {hs2 : List ExceptHandler} {cs2 : List Clause}, Clauses X hs2 cs2 → wAll X.K Wout D cs2 cls d σ' H' → wpAny (model X.prog X.w) X.A (handleBy (.ref a) X.env hs2) (SP X pins D) X.xe { t with heap := g } := by
      intro hs2 cs2 k
      induction k with
      | done =>
        intro wsh
        apply wpAny_handleBy_nil
        obtain ⟨_, _, _, ob, fs, T, oT, ts', g1, z1, d1, f1, _⟩ := id fly
        have leave : wpAny (model X.prog X.w) X.A (setFlight (.ref a) X.env.frame) (fun _ t2 => wpAny (model X.prog X.w) X.A (throw (.ref a) : Sem Flow) (SP X pins D) X.xe t2) X.xe { t with heap := g } := by
          rw [e2]
          exact HandSPX.setFlight_upZ fly fun g3 fly3 up3 => wpAny_throw (tk _ _ ⟨a, B, sI, pins, σ', H', cls, d, rfl, J, nb, (grown.trans up).trans up3, .inr (.inr (e1.symm ▸ fly3)), fresh, os, bare, wsh⟩)
        unfold PySem.passOn
        apply wpAny_bind
        refine wpAny_field g1 d1 f1 ?_
        rw [if_neg (by simp)]
        first
          | exact wpAny_bind leave
          | exact wpAny_bind (wpAny_pure (wpAny_bind leave))
      | @step x n c i ts fst oth p1 p2 hs3 cs3 cl slot lo body more ih =>
        intro wsh
        obtain ⟨b, hb, yes, no⟩ := wsh
        have tyOf : PySem.W.Looks (model X.prog X.w) g (typeOf (.ref a)) cls := fun _ _ _ _ k q => wpAny_typeOf_ref (k _ _ hoe) (hz.1.symm ▸ q)
        have ask := PySem.W.exm_one (M := model X.prog X.w) JG.kIn tyOf hb
        refine wpAny_handleBy_cons (codeAny_handlers_test ?_) (fun z => by cases z)
        have named : ∀ {Q : Value → Shared → Prop} {E : Value → Shared → Prop}, Q c { t with heap := g } → wpAny (model X.prog X.w) (X.A.mark (some (.ref a))) (eval (.Name x p1) X.env) Q E { t with heap := g } := by
          intro Q E q
          obtain ⟨isG, nodbg, isM | ⟨isM, isB, nn⟩⟩ := cl
          · exact ld_glob (X := X.suite a ((a, oe) :: (X.pn ++ pins))) SG isG isM q nodbg
          · exact ld_blt (X := X.suite a ((a, oe) :: (X.pn ++ pins))) SG isG isM isB q nn nodbg
        refine named (ask.here ?_)
        cases b with
        | false => exact ih (no rfl)
        | true =>
          apply codeAny_handlers_suite_as
          refine HandSPX.lands_againZ fly (fun g4 fly4 up4 => ?_)
          have J4 : Inv X pins σ' H' { t with heap := g4 } := J.landed nb fly4.1 ((grown.trans up).trans up4) os bare
          obtain ⟨oe4, vs4, hoe4, hz4, hdat4⟩ := fly4.there
          have S4 := J4.suite hoe4 hdat4 fresh aL aF
          refine store_ok (X := X.suite a ((a, oe4) :: (X.pn ++ pins))) (v := .ref a) S4 nd slot (.inl lo) rfl (fun t5 S5 => ?_) (.inr lo)
          refine wpAny_mono ((body a oe4 cls d (X.pn ++ pins) hz4 ⟨_, hdat4⟩).run [] t5 _ H' _ S5 (yes rfl a fresh)) (fun f t6 out => ?_) (fun _ _ z => z.elim)
          have unname : ∀ {σ6 : L2.St} {H6 : Hp} {Q : Shared → Prop}, Inv (X.suite a ((a, oe4) :: (X.pn ++ pins))) [] σ6 H6 t6 → (∀ t7, Inv X pins (σ6.set i none) H6 t7 → Q t7) →
              wpAny (model X.prog X.w) X.A (do bindName X.env n .none; unbindBehindTheSuite X.env n p2) (fun _ t7 => Q t7) X.xe t6 := by
            intro σ6 H6 Q S6 hq
            exact gone_ok (S6.unsuite here) nd slot lo hq
          cases f with
          | ret u =>
            obtain ⟨v6, σ6, H6, S6, r6, q6⟩ := out
            exact unname S6 fun t7 J7 => ⟨v6, _, _, J7, r6, q6⟩
          | cont =>
            obtain ⟨σ6, H6, S6, q6⟩ := out
            exact unname S6 fun t7 J7 => ⟨_, _, J7, q6⟩
          | brk =>
            obtain ⟨σ6, H6, S6, q6⟩ := out
            exact unname S6 fun t7 J7 => ⟨_, _, J7, q6⟩
          | next =>
            obtain ⟨σ6, H6, S6, q6⟩ := out
            exact unname S6 fun t7 J7 => ⟨_, _, J7, q6⟩
    exact goOn all wish
end
end My
namespace My
open PySem PySem.Spec PyProof.Rows L2
/-! ### shapes of data, for comparing -/
structure ShD (n : Nat) (d : PyData) : Prop where
  lay : d.canLay0 = true
  dep : d.depth ≤ n
theorem ShD.sh {n : Nat} {d : PyData} (h : ShD n d) (hn : n ≤ 64) : SeqAt.shaped d = true := by
  unfold SeqAt.shaped
  rw [h.lay, decide_eq_true (Nat.le_trans h.dep hn)]
  rfl
theorem ShD.mono {n m : Nat} {d : PyData} (h : ShD n d) (hn : n ≤ m) : ShD m d := ⟨h.lay, Nat.le_trans h.dep hn⟩
theorem shd_int {n : Nat} (i : Int) : ShD n (.int i) := ⟨by simp [PyData.canLay0], by simp [PyData.depth]⟩
theorem shd_bl {n : Nat} (b : Bool) : ShD n (.bool b) := ⟨by simp [PyData.canLay0], by simp [PyData.depth]⟩
theorem shd_non {n : Nat} : ShD n .none := ⟨by simp [PyData.canLay0], by simp [PyData.depth]⟩
theorem shd_str {n : Nat} {x : Str} (h : PyData.canLay0 (.str x) = true) : ShD n (.str x) := ⟨h, by simp [PyData.depth]⟩
theorem shd_all {n : Nat} : ∀ {ds : List PyData}, (∀ d ∈ ds, ShD n d) → PyData.canLayAll0 ds = true ∧ PyData.depthAll ds ≤ n
  | [], _ => ⟨rfl, Nat.zero_le _⟩
  | d :: r, h => by
    have h1 := h d List.mem_cons_self
    have h2 := shd_all (ds := r) fun x m => h x (List.mem_cons_of_mem _ m)
    refine ⟨?_, ?_⟩
    · rw [PyData.canLayAll0, h1.lay, h2.1]
      rfl
    · rw [PyData.depthAll]
      exact Nat.max_le.mpr ⟨h1.dep, h2.2⟩
theorem shd_lst {n : Nat} {ds : List PyData} (h : ∀ d ∈ ds, ShD n d) : ShD (n + 1) (.list ds) := ⟨by rw [PyData.canLay0]; exact (shd_all h).1, by rw [PyData.depth]; exact Nat.succ_le_succ (shd_all h).2⟩
theorem shd_tup {n : Nat} {ds : List PyData} (h : ∀ d ∈ ds, ShD n d) : ShD (n + 1) (.tuple ds) := ⟨by rw [PyData.canLay0]; exact (shd_all h).1, by rw [PyData.depth]; exact Nat.succ_le_succ (shd_all h).2⟩
theorem shd_ints {n : Nat} (ns : List Int) : ShD (n + 1) (.list (ns.map PyData.int)) := shd_lst fun d m => by
  obtain ⟨i, _, rfl⟩ := List.mem_map.mp m
  exact shd_int i
theorem q_eqS {K : PySem.W.Frag} {H : Hp} {x y : V} {d : PyData} {Q : VK} (hx : Dp K H x d) (hy : Dp K H y d) (s : SeqAt.shaped d = true) (h : Q (.bl true) H) : rEqD K x y H Q :=
  ⟨_, _, hx, hy, s, s, by rw [eqv_same s]; exact h⟩
theorem q_neS {K : PySem.W.Frag} {H : Hp} {x y : V} {d : PyData} {Q : VK} (hx : Dp K H x d) (hy : Dp K H y d) (s : SeqAt.shaped d = true) (h : Q (.bl false) H) : rNeD K x y H Q :=
  ⟨_, _, hx, hy, s, s, by rw [eqv_same s]; exact h⟩
/-! ### a body that may let out what is caught -/
theorem pss_ex {X : Cx} {W : WX} {n : Nat} {ss : List Stmt} {r : XK → TS} (h : ∀ E : XK, (∀ cls d σ' H', E cls d H' → σ'.length = n → W cls d σ' H') → PSs X ss (r E)) :
    PSs X ss (fun D σ H => ∃ E : XK, (∀ cls d σ' H', E cls d H' → σ'.length = n → W cls d σ' H') ∧ r E D σ H) :=
  ⟨fun pins s σ H D I ⟨E, hE, q⟩ => (h E hE).run pins s σ H D I q⟩
theorem takes_len {X : Cx} {W : WX} (t : Takes X W) : Takes X (fun c d σ H => σ.length = X.N.length → W c d σ H) := fun u s' ⟨a, B, sI, pins, σ, H, cls, d, e, I, nb, up, sky, na, os, ag, w⟩ =>
  t u s' ⟨a, B, sI, pins, σ, H, cls, d, e, I, nb, up, sky, na, os, ag, w I.len⟩
theorem vk_mono {tl : XK → Hp → VK → Prop} {E : XK} {H : Hp} {R R' : VK} (he : ∀ v H1, R v H1 ↔ R' v H1) (h : tl E H R) : tl E H R' := by
  have e : R = R' := funext fun v => funext fun H1 => propext (he v H1)
  rw [← e]
  exact h
theorem len3 {σ : L2.St} (h : σ.length = 3) : ∃ x y z, σ = [x, y, z] := match σ, h with | [x, y, z], _ => ⟨x, y, z, rfl⟩
/-! ### a def that makes lambdas: its code object is known -/
structure FunC (K : PySem.W.Frag) (x qual : Str) (st : Stmt) (f : Addr) (fd : FuncData) (c : Addr) : Prop where
  ex : ∃ (oc : Value) (od : Option Addr) (kV doc pm : Value) (an : Option Addr) (ct : Value) (osl : Array (Option Value)),
    fd = PySem.W.fnOf x qual (defArgs st) (defBody st) (defScope st) .none kV doc pm an (.ref c) ct ∧ K.lookup f = some ⟨oc, od, .func fd, osl⟩ ∧ PySem.W.codeIn K (.ref c) qual = true
theorem FunC.ok {P : Program} {w : World} {K : PySem.W.Frag} {mg : Str → Option Value} {base : Heap} {x qual : Str} {st : Stmt} {f c : Addr} {fd : FuncData} {N ps : List Str} {k : Nat} {sp : Sp} (F : FunC K x qual st f fd c) (S : FnScope N ps (defScope st)) (len : ∀ vs H Q E, sp vs H Q E → vs.length = ps.length)
    (hbody : ∀ (A : Around) (outer : List Env) (s : Shared) (H : Hp) (vs : List V) (Q : VK) (E : XK), Room k (A.deeper (envOfC qual (defScope st) s.heap.objs.size f (.ref c))) → sp vs H Q E →
      ∃ t, PSs (cxOf CX0 P w K mg base N qual (defScope st) f (.ref c) A outer s H E).nox (defBody st) t ∧ t { nx := fun _ H' => Q .non H', rt := Q } (start N vs) H) : FnOk P w K mg base CX0 (k + 1) f fd ps sp := by
  obtain ⟨oc, od, kV, doc, pm, an, ct, osl, rfl, lk, hcd⟩ := F.ex
  refine fn_of lk hcd S len fun A outer s H vs Q E hr hsp => ?_
  obtain ⟨t, h, q⟩ := hbody A outer s H vs Q E hr hsp
  exact ⟨t, h.nox, q⟩
theorem funC_mk {K : PySem.W.Frag} {x qual : Str} {st : Stmt} {f c0 : Addr} {oc : Value} {od an : Option Addr} {osl : Array (Option Value)} {kV doc pm ct : Value} (l : K.lookup f = some ⟨oc, od, .func (PySem.W.fnOf x qual (defArgs st) (defBody st) (defScope st) .none kV doc pm an (.ref c0) ct), osl⟩)
    (c : PySem.W.codeIn K (.ref c0) qual = true) : FunC K x qual st f (PySem.W.fnOf x qual (defArgs st) (defBody st) (defScope st) .none kV doc pm an (.ref c0) ct) c0 := ⟨⟨oc, od, kV, doc, pm, an, ct, osl, rfl, l, c⟩⟩
/-! ### tables beside draws -/
def UpN (a : Addr) (H H' : Hp) : Prop := ∀ b o, b ≠ a → H b = some o → (∀ ps, o ≠ .tbl ps) → H' b = some o
theorem UpN.refl (a : Addr) (H : Hp) : UpN a H H := fun _ _ _ h _ => h
theorem UpN.trans {a : Addr} {H H1 H2 : Hp} (u : UpN a H H1) (v : UpN a H1 H2) : UpN a H H2 := fun b o n h t => v b o n (u b o n h t) t
theorem Up.n {a : Addr} {H H' : Hp} (u : Up a H H') : UpN a H H' := fun b o n h _ => u b o n h
theorem ext_n {a : Addr} {H H' : Hp} (x : LamX.ExtN H H') : UpN a H H' := fun b o _ h t => x b o h t
theorem Src.ext {a : Addr} {H H' : Hp} (x : LamX.ExtN H H') (s : Src H a) : Src H' a := by
  obtain ⟨u, v, e, r⟩ := s
  exact ⟨u, v, x _ _ e (fun ps z => by cases z), r⟩
theorem tabs_up {T : List (Addr × Str)} {a : Addr} {H H' : Hp} (t : LamX.Tabs T H) (u : Up a H H') (s : Src H a) : LamX.Tabs T H' := fun p hp => by
  obtain ⟨x, y, e, _⟩ := s
  obtain ⟨ps, h1, h2, h3⟩ := t p hp
  refine ⟨ps, u _ _ (fun z => ?_) h1, h2, fun pos cv hc => ?_⟩
  · rw [z, e] at h1
    cases h1
  · obtain ⟨c, e1, e2⟩ := h3 pos cv hc
    refine ⟨c, e1, u _ _ (fun z => ?_) e2⟩
    rw [z, e] at e2
    unfold LamX.CodeO at e2
    cases e2
theorem tabs_same {T : List (Addr × Str)} {H H' : Hp} (t : LamX.Tabs T H) (s : Same H H') : LamX.Tabs T H' := t.ext fun b o e => s b o e
theorem ext_same {H H' : Hp} (s : Same H H') : LamX.ExtN H H' := fun b o e _ => s b o e
theorem UpN.to {a : Addr} {G H H' : Hp} (u : UpN a H H') (x : LamX.ExtN G H) (n : G a = none) : LamX.ExtN G H' := fun b o e t => u b o (ne_of_none e n) (x b o e t) t
theorem ext_seq {K : PySem.W.Frag} {H H' : Hp} {a : Addr} {xs : List V} (x : LamX.ExtN H H') (h : SqL K H a xs) : SqL K H' a xs := by
  rcases h with (h | ⟨o, h⟩) | h
  · exact .inl (.inl (x _ _ h (fun ps z => nomatch z)))
  · exact .inl (.inr ⟨o, x _ _ h (fun ps z => nomatch z)⟩)
  · exact .inr h
/-! ### the value of bits -/
theorem valI_lt : ∀ (n : Nat) (xs : List Int), xs.length = n → AreBits xs → ∃ z : Nat, valI xs = (z : Int) ∧ z < 2 ^ n
  | 0, xs, h, _ => by
    rw [List.length_eq_zero_iff.mp h]
    exact ⟨0, rfl, by decide⟩
  | n + 1, xs, h, hb => by
    rcases List.eq_nil_or_concat xs with rfl | ⟨ys, y, rfl⟩
    · cases h
    have hl : ys.length = n := by
      rw [List.length_concat] at h
      omega
    rw [List.concat_eq_append] at hb ⊢
    obtain ⟨z, hz, hz2⟩ := valI_lt n ys hl fun b m => hb b (List.mem_append_left _ m)
    have hb2 := hb y (List.mem_append_right _ (List.mem_singleton.mpr rfl))
    rw [valI_snoc, hz]
    have p : 2 ^ (n + 1) = 2 * 2 ^ n := by rw [Nat.pow_succ, Nat.mul_comm]
    exact ⟨2 * z + y.toNat, by omega, by omega⟩
/-! ### digits with zeros ahead -/
theorem bitsW_zero : ∀ d, bitsW d 0 = List.replicate d 0
  | 0 => rfl
  | d + 1 => by
    rw [bitsW, Nat.zero_div, bitsW_zero d, List.replicate_succ']
theorem bitsW_pad (d : Nat) : ∀ w n, n < 2 ^ w → bitsW (d + w) n = List.replicate d 0 ++ bitsW w n
  | 0, n, h => by
    have e : n = 0 := by omega
    subst e
    rw [Nat.add_zero, bitsW_zero, bitsW, List.append_nil]
  | w + 1, n, h => by
    have p : 2 ^ (w + 1) = 2 * 2 ^ w := by rw [Nat.pow_succ, Nat.mul_comm]
    show bitsW (d + w + 1) n = _
    rw [bitsW, bitsW, bitsW_pad d w (n / 2) (by omega), List.append_assoc]
theorem bitsI_pad (d w n : Nat) (h : n < 2 ^ w) : bitsI (d + w) n = List.replicate d 0 ++ bitsI w n := by
  unfold bitsI
  rw [bitsW_pad d w n h, List.map_append, List.map_replicate]
  rfl
end My
namespace My
open PySem PySem.Spec PyProof.Rows L2
/-! ### xs[i] op= e, for a list -/
theorem get_list {X : Cx} : PGet X (rIxL X.K) := by
  intro pins s σ H o i ov iv Q I ro ri h
  obtain ⟨p, xs, i, z, rfl, rfl, hq, he, q⟩ := h
  cases ro
  obtain ⟨t, rfl⟩ := ri
  obtain ⟨its, r, pl, hz⟩ := I.list hq
  obtain ⟨j, h1, h2, h3, h4, h5⟩ := atI_get he
  obtain ⟨w, ew, rw'⟩ := r.get h2
  have hl := r.length
  have hn := line63
  have fin : EP X pins σ Q w s := ⟨z, H, I, rw', q⟩
  by_cases h0 : 0 ≤ i
  · have hj : i.toNat = j := by
      rw [seqIndex_of h0 h5] at h1
      exact Option.some.inj h1
    exact wpAny_getItem_list pl.isList h0 (by omega) (by rw [hj]; simpa using ew) fin
  · have hj : (i + (its.toArray.size : Int)).toNat = j := by
      rw [seqIndex_neg (by omega) h4] at h1
      rw [List.size_toArray, ← hl]
      exact Option.some.inj h1
    exact wpAny_getItem_list_neg pl.isList (by omega) (by rw [List.size_toArray] <;> omega) (by omega) (by rw [hj]; simpa using ew) fin
/-! ### sum and for over a list or a tuple -/
def SqS (K : PySem.W.Frag) (H : Hp) (p : Addr) (xs : List V) : Prop := SqL K H p xs ∨ SqT K H p xs
def rSumS (K : PySem.W.Frag) : List V → Hp → VK → Prop := fun vs H Q => ∃ (a : Addr) (ns : List Int), vs = [V.ref a] ∧ SqS K H a (ns.map V.int) ∧ Q (.int ns.sum) H
theorem cr_sumS {X : Cx} (hc : X.calm = true) : CallR X (.builtin "sum") (rSumS X.K) := by
  intro pins s σ H vs us Q I r h
  obtain ⟨a, ns, rfl, hs, q⟩ := h
  rcases hs with hs | hs
  · exact cr_sum hc pins s σ H _ us Q I r ⟨a, ns, rfl, hs, q⟩
  · obtain ⟨its, rv, p, _⟩ := I.tuple hs
    rw [Vals.ref1 r]
    obtain ⟨xs, e⟩ := rv.ints.allInts.items
    have hn : numsOf (intItems xs).toList = ns := by rw [← e]; exact rv.ints.numsOf
    rw [nums_intItems] at hn
    have p2 : s.heap.IsTuple a (intItems xs) := by rw [← e]; exact p
    refine PySem.W.ktm_sumG (I.ok.hd hc) p2 fun h' tk t' hk => ?_
    rw [preSum_eq, List.take_of_length_le (by simp), hn]
    exact ⟨.int _, H, I.kept hk, ⟨_, rfl⟩, q⟩
def iSeq (K : PySem.W.Frag) (tl : TE) : TI := fun σ H R => tl σ H fun x H1 => ∃ a, x = .ref a ∧ (((∃ xs, SqL K H1 a xs) ∧ R (Itl K a) H1) ∨ ((∃ xs, SqT K H1 a xs) ∧ R (Itt K a) H1))
theorem pi_seq {X : Cx} {tg l : Expr} {tl : TE} (hl : PE X l tl) : PI X tg l (iSeq X.K tl) := by
  refine ⟨fun pins s σ H R I h => ?_⟩
  refine thn (hl.run pins s σ H _ I h) fun v s1 ⟨x, H1, I1, r1, q1⟩ => ?_
  obtain ⟨a, e, q⟩ := q1
  subst e
  cases r1
  rcases q with ⟨⟨xs, hq⟩, q⟩ | ⟨⟨xs, hq⟩, q⟩
  · obtain ⟨its, rv, p, hz⟩ := I1.list hq
    refine wpAny_pyIter_list p.isList ?_
    refine ⟨s1.heap.objs.size, [s1.heap.objs.size], _, _, H1, rfl, I1.kept (t' := s1.toks) fun b o e => Heap.get?_push_of_some _ e, turn_list a _, ⟨_, Heap.get?_push_size _ rfl, rfl, rfl⟩, fun b hb => ?_, q⟩
    have e : b = s1.heap.objs.size := by simpa using hb
    subst e
    exact I1.fpOk (Nat.le_refl _) (I1.hok.fresh (Nat.le_refl _))
  · obtain ⟨its, rv, p, hz⟩ := I1.tuple hq
    refine wpAny_pyIter_tuple (show s1.heap.IsTuple a its.toArray from p) ?_
    refine ⟨s1.heap.objs.size, [s1.heap.objs.size], _, _, H1, rfl, I1.kept (t' := s1.toks) fun b o e => Heap.get?_push_of_some _ e, turn_tuple a _, ⟨_, Heap.get?_push_size _ rfl, rfl, rfl⟩, fun b hb => ?_, q⟩
    have e : b = s1.heap.objs.size := by simpa using hb
    subst e
    exact I1.fpOk (Nat.le_refl _) (I1.hok.fresh (Nat.le_refl _))
theorem same_seqT {K : PySem.W.Frag} {H H' : Hp} {a : Addr} {xs : List V} (e : Same H H') (h : SqT K H a xs) : SqT K H' a xs := by
  rcases h with (h | ⟨o, h⟩) | h
  · exact .inl (.inl (e _ _ h))
  · exact .inl (.inr ⟨o, e _ _ h⟩)
  · exact .inr h
theorem same_seqS {K : PySem.W.Frag} {H H' : Hp} {a : Addr} {xs : List V} (e : Same H H') (h : SqS K H a xs) : SqS K H' a xs := by
  rcases h with h | h
  · exact .inl (e.seq h)
  · exact .inr (same_seqT e h)
theorem for_seq {K : PySem.W.Frag} {a : Addr} {xs : List V} {g : TG} {tb : TS} {D : Ends} {σ : L2.St} {H : Hp} (Pv : Nat → L2.St → Hp → Prop) (h0 : Pv 0 σ H) (hl : (∀ i σ' H', i ≤ xs.length → Pv i σ' H' → SqL K H' a xs) ∨ (∀ i σ' H', i ≤ xs.length → Pv i σ' H' → SqT K H' a xs))
    (hs : ∀ i x σ H, xs[i]? = some x → Pv i σ H → g x σ H fun σ2 H2 => tb { D with nx := Pv (i + 1), ct := Pv (i + 1), bk := D.nx } σ2 H2) (hd : ∀ σ H, Pv xs.length σ H → D.nx σ H) :
    ((∃ ys, SqL K H a ys) ∧ ∃ W : Nat → Nat → L2.St → Hp → Prop, (∃ m, W 0 m σ H) ∧ ∀ i m σ H, W i m σ H →
      ((Itl K a).stop i H ∧ D.nx σ H) ∨ ((Itl K a).go i H ∧ ∃ N : L2.St → Hp → Prop, (∀ σ' H', N σ' H' → ∃ m', m' < m ∧ W (i + 1) m' σ' H') ∧ ∀ x H', (Itl K a).yld i H x H' → g x σ H' fun σ2 H2 => tb { D with nx := N, ct := N, bk := D.nx } σ2 H2)) ∨
    ((∃ ys, SqT K H a ys) ∧ ∃ W : Nat → Nat → L2.St → Hp → Prop, (∃ m, W 0 m σ H) ∧ ∀ i m σ H, W i m σ H →
      ((Itt K a).stop i H ∧ D.nx σ H) ∨ ((Itt K a).go i H ∧ ∃ N : L2.St → Hp → Prop, (∀ σ' H', N σ' H' → ∃ m', m' < m ∧ W (i + 1) m' σ' H') ∧ ∀ x H', (Itt K a).yld i H x H' → g x σ H' fun σ2 H2 => tb { D with nx := N, ct := N, bk := D.nx } σ2 H2)) := by
  rcases hl with h | h
  · exact .inl ⟨⟨_, h _ _ _ (Nat.zero_le _) h0⟩, for_list Pv h0 h hs hd⟩
  · exact .inr ⟨⟨_, h _ _ _ (Nat.zero_le _) h0⟩, for_tup Pv h0 h hs hd⟩
end My
namespace My
open PySem PySem.Spec PyProof.Rows L2
/-! ### classes: makers, methods, properties, handed round as one fact each -/
theorem passN {X : Cx} : Passes (L2.CX X.prog X.w) X C8.E0 := fun _ _ _ _ _ _ _ c => by
  obtain ⟨_, _, _, _, _, _, _, _, _, _, _, _, z⟩ := c
  exact z.elim
section
variable {X : Cx} {CX : CXT} {k j : Nat} {f C : Addr} {fd : FuncData} {ps ks : List Str} {sp : Sp} {E : XK} {x m : Str} {p pos apos : Pos} {e o : Expr} {es : List Expr} {kws : List Keyword} {ta : TE} {t tk : TA} {g : List Value → List Value → List Value} {gV : List V → List V → List V}
/-- o.m(k = v, ..), nothing by position -/
def tMethK (C : Addr) (m : Str) (n : Nat) (sp : Sp) (E : XK) (ta : TE) (tk : TA) : TE := fun σ H Q => ta σ H fun x H1 => ∃ a dx fs, x = .ref a ∧ H1 a = some (.ins C dx fs) ∧ fs.lookup m = none ∧ tk σ H1 fun zs H2 => zs.length = n ∧ sp (x :: zs) H2 Q E
theorem pe_methK {pl : Sem Bool} (he : PE X o ta) (c : Cls X.K C) (hm : Meth X.K C m f) (F : FnOk X.prog X.w X.K X.mg X.base CX k f fd ps sp) (hr : Room k X.A) (hb : KBn X.K fd ps 1 ks (fun us ws => us ++ ws) (fun vs zs => vs ++ zs)) (hx : Passes CX X E) (hkw : PK X kws tk)
    (hall : (backToKw pos (keywordEach kws X.env)).all (·.1.isSome) = true := by rfl) (hks : (backToKw pos (keywordEach kws X.env)).filterMap (·.1) = ks := by rfl)
    (hpl : ((backTo pos (starEach [] X.env)).any (·.1) || (backToKw pos (keywordEach kws X.env)).any (·.1.isNone)) = false := by rfl)
    (ht : eval (.Call (.Attribute o m apos) [] kws pos) X.env = (do
      let ov ← eval o X.env
      standAt apos.atName
      let (f, first) ← holding [ov] (getMethod ov m pl)
      callWith pos f first (backTo pos (starEach [] X.env)) (backToKw pos (keywordEach kws X.env))) := by rfl) :
    PE X (.Call (.Attribute o m apos) [] kws pos) (tMethK C m ks.length sp E ta tk) := by
  refine ⟨fun pins s σ H Q I h => ?_⟩
  refine PySem.W.methodCall_KW (pl := pl) (thn (he.run pins s σ H _ I h) fun u s1 ⟨x, H1, I1, rx, a, dx, fs, ex, ea, l, q⟩ => ?_) ht
  subst ex
  obtain rfl : u = Value.ref a := rx
  refine getmeth_ok I1 ea c hm l ?_
  refine PySem.W.callWith_KW0 (first := [.ref a]) (h₀ := X.base) I.ok.mod.kin hm.kp hall ?_ hpl
  refine thn (hkw.run pos pins s1 σ H1 _ I1 q) fun ws s2 ⟨zs, H2, I2, rz, l2, q2⟩ => ⟨I2.kIn, ?_⟩
  rw [hks]
  exact run_fnN (us := [.ref a]) (vs := [.ref a]) F hr hb hx I2 (.cons rfl .nil) rz rfl l2 q2
end
/-- a method that may be called -/
structure CalM (P : Program) (w : World) (K : PySem.W.Frag) (mg : Str → Option Value) (base : Heap) (k : Nat) (C : Addr) (m : Str) (ks : List Str) (sp : Sp) : Prop where
  ex : ∃ (f : Addr) (fd : FuncData) (ps : List Str), Meth K C m f ∧ FnOk P w K mg base (L2.CX P w) k f fd ps sp ∧ Binds K fd ps [] ∧ KBn K fd ps 1 ks (fun us ws => us ++ ws) (fun vs zs => vs ++ zs)
/-- a class that may be called -/
structure CalC (P : Program) (w : World) (K : PySem.W.Frag) (mg : Str → Option Value) (base : Heap) (k : Nat) (x : Str) (C : Addr) (ks : List Str) (sp : Sp) : Prop where
  gl : mg x = some (.ref C)
  ex : ∃ (f : Addr) (fd : FuncData) (ps : List Str), Mk K C f ∧ FnOk P w K mg base (L2.CX P w) k f fd ps sp ∧ Binds K fd ps [] ∧ KBn K fd ps 1 ks (fun us ws => us ++ ws) (fun vs zs => vs ++ zs)
/-- a property that may be read -/
structure CalP (P : Program) (w : World) (K : PySem.W.Frag) (mg : Str → Option Value) (base : Heap) (k : Nat) (C : Addr) (f : Str) (sp : Sp) : Prop where
  ex : ∃ (p g : Addr) (fd : FuncData) (ps : List Str), PropOf K C f p g ∧ FnOk P w K mg base CX0 k g fd ps sp ∧ Binds K fd ps []
section
variable {X : Cx} {k j : Nat} {C : Addr} {ks : List Str} {sp : Sp} {E : XK} {x m : Str} {p pos apos : Pos} {e o : Expr} {es : List Expr} {kws : List Keyword} {ta : TE} {t tk : TA}
/-- o.m(e, ..); E: what is wanted of an exception -/
theorem pe_mx {pl : Sem Bool} (M : CalM X.prog X.w X.K X.mg X.base k C m ks sp) (c : Cls X.K C) (hr : Room j X.A) (hk : k ≤ j) (hx : Passes (L2.CX X.prog X.w) X E) (he : PE X o ta) (ha : PA X (e :: es) t)
    (hst : starEach (e :: es) X.env = (false, eval e X.env) :: starEach es X.env := by rfl) (hpl : (backTo pos (starEach es X.env)).any (·.1) = false := by rfl)
    (ht : eval (.Call (.Attribute o m apos) (e :: es) [] pos) X.env = (do
      let ov ← eval o X.env
      standAt apos.atName
      let (f, first) ← holding [ov] (getMethod ov m pl)
      callWith pos f first (backTo pos (starEach (e :: es) X.env)) (backToKw pos (keywordEach [] X.env))) := by rfl) :
    PE X (.Call (.Attribute o m apos) (e :: es) [] pos) (tMeth C m sp [] E ta t) := by
  obtain ⟨f, fd, ps, hm, F, hb, _⟩ := M.ex
  exact pe_meth he c hm F (hr.mono hk) hb .nil hx ha hst hpl ht
/-- o.m() -/
theorem pe_mx0 {pl : Sem Bool} (M : CalM X.prog X.w X.K X.mg X.base k C m ks sp) (c : Cls X.K C) (hr : Room j X.A) (hk : k ≤ j) (hx : Passes (L2.CX X.prog X.w) X E) (he : PE X o ta)
    (ht : eval (.Call (.Attribute o m apos) [] [] pos) X.env = (do
      let ov ← eval o X.env
      standAt apos.atName
      let (f, first) ← holding [ov] (getMethod ov m pl)
      callWith pos f first (backTo pos (starEach [] X.env)) (backToKw pos (keywordEach [] X.env))) := by rfl) :
    PE X (.Call (.Attribute o m apos) [] [] pos) (tMeth C m sp [] E ta tNil) := by
  obtain ⟨f, fd, ps, hm, F, hb, _⟩ := M.ex
  exact pe_meth0 he c hm F (hr.mono hk) hb .nil hx ht
/-- o.m(k = v, ..) -/
theorem pe_mxK {pl : Sem Bool} (M : CalM X.prog X.w X.K X.mg X.base k C m ks sp) (c : Cls X.K C) (hr : Room j X.A) (hk : k ≤ j) (hx : Passes (L2.CX X.prog X.w) X E) (he : PE X o ta) (hkw : PK X kws tk)
    (hall : (backToKw pos (keywordEach kws X.env)).all (·.1.isSome) = true := by rfl) (hks : (backToKw pos (keywordEach kws X.env)).filterMap (·.1) = ks := by rfl)
    (hpl : ((backTo pos (starEach [] X.env)).any (·.1) || (backToKw pos (keywordEach kws X.env)).any (·.1.isNone)) = false := by rfl)
    (ht : eval (.Call (.Attribute o m apos) [] kws pos) X.env = (do
      let ov ← eval o X.env
      standAt apos.atName
      let (f, first) ← holding [ov] (getMethod ov m pl)
      callWith pos f first (backTo pos (starEach [] X.env)) (backToKw pos (keywordEach kws X.env))) := by rfl) :
    PE X (.Call (.Attribute o m apos) [] kws pos) (tMethK C m ks.length sp E ta tk) := by
  obtain ⟨f, fd, ps, hm, F, _, hb⟩ := M.ex
  exact pe_methK he c hm F (hr.mono hk) hb hx hkw hall hks hpl ht
/-- C(e, ..) -/
theorem pe_new (M : CalC X.prog X.w X.K X.mg X.base k x C ks sp) (hr : Room j X.A) (hk : k + 1 ≤ j) (hg : Gl X x) (hx : Passes (L2.CX X.prog X.w) X E) (ha : PA X (e :: es) t) (hdb : (x == ("__debug__" : Str)) = false := by decide)
    (he : starEach (e :: es) X.env = (false, eval e X.env) :: starEach es X.env := by rfl) (hpl : (backTo pos (starEach es X.env)).any (·.1) = false := by rfl) :
    PE X (.Call (.Name x p) (e :: es) [] pos) (tMake C sp [] E t) := by
  obtain ⟨f, fd, ps, hm, F, hb, _⟩ := M.ex
  exact pe_make hm F (hr.mono hk) hg M.gl hb .nil hx ha hdb he hpl
/-- C() -/
theorem pe_new0 (M : CalC X.prog X.w X.K X.mg X.base k x C ks sp) (hr : Room j X.A) (hk : k + 1 ≤ j) (hg : Gl X x) (hx : Passes (L2.CX X.prog X.w) X E) (hdb : (x == ("__debug__" : Str)) = false := by decide) :
    PE X (.Call (.Name x p) [] [] pos) (tMake C sp [] E tNil) := by
  obtain ⟨f, fd, ps, hm, F, hb, _⟩ := M.ex
  exact pe_make0 hm F (hr.mono hk) hg M.gl hb .nil hx hdb
/-- C(k = v, ..) -/
theorem pe_newK (M : CalC X.prog X.w X.K X.mg X.base k x C ks sp) (hr : Room j X.A) (hk : k + 1 ≤ j) (hg : Gl X x) (hx : Passes (L2.CX X.prog X.w) X E) (hkw : PK X kws tk)
    (hall : (backToKw pos (keywordEach kws X.env)).all (·.1.isSome) = true := by rfl) (hks : (backToKw pos (keywordEach kws X.env)).filterMap (·.1) = ks := by rfl) (hdb : (x == ("__debug__" : Str)) = false := by decide)
    (hpl : ((backTo pos (starEach [] X.env)).any (·.1) || (backToKw pos (keywordEach kws X.env)).any (·.1.isNone)) = false := by rfl) :
    PE X (.Call (.Name x p) [] kws pos) (tMakeK C 0 ks.length sp (fun vs zs => vs ++ zs) E tNil tk) := by
  obtain ⟨f, fd, ps, hm, F, _, hb⟩ := M.ex
  exact pe_makeK0 hm F (hr.mono hk) hg M.gl hb hx hkw hall hks hdb hpl
/-- e.f, a property -/
theorem pe_pr {f : Str} (M : CalP X.prog X.w X.K X.mg X.base k C f sp) (c : Cls X.K C) (hr : Room j X.A) (hk : k + 1 ≤ j) (he : PE X e ta) (hab : attributeBase e f X.env (eval e X.env) = eval e X.env) : PE X (.Attribute e f pos) (tProp C sp [] C8.E0 ta) := by
  obtain ⟨p, g, fd, ps, hp, F, hb⟩ := M.ex
  exact pe_prop he c hp F (hr.mono hk) hb .nil pass0 hab
end
end My
namespace My
open PySem PySem.Spec PyProof.Rows L2
/-! ### exceptions with a field of their own -/
/-- isinstance of the exception that a suite holds, where it has its own dict -/
theorem call_isEd {X : Cx} {a D : Addr} {oe : Obj} {cls : Value} {d : Option Addr} {pn : List (Addr × Obj)} (C : ExcC X.K D) (hz : Zc cls d oe) (hf : ∃ vs, oe.data = .fields vs) :
    CallR (X.suite a ((a, oe) :: pn)) (.builtin "isinstance") (fun xs H Q => cls = .ref D ∧ (∃ dd fs, d = some dd ∧ H dd = some (.xd fs)) ∧ rIsE X.K D a xs H Q) := by
  intro pins s σ H xs us Q I r h
  obtain ⟨e1, ⟨dd, fs, e2, ea⟩, c, cv, b, rfl, hcv, e, q⟩ := h
  subst e1 e2
  cases r with
  | cons rx rr =>
    cases rr with
    | cons rt rr =>
      cases rr
      cases rx
      have ec := hcv _ rt
      subst ec
      obtain ⟨hget, _⟩ := I.pin (a, oe) (List.mem_append.mpr (.inl List.mem_cons_self))
      obtain ⟨vs, hv⟩ := hf
      have hx : ObjOk X.prog X.w H s.heap dd (.xd fs) := I.hok dd _ ea
      obtain ⟨mA, hns, hr⟩ := hx
      obtain ⟨od, ho, hl⟩ := lookIn_ns hns
      have J : PySem.W.InstAt s.heap a oe D (some od) := ⟨hget, hz.1, by unfold PySem.W.notCls; rw [hv] <;> rfl, by rw [hz.2]; exact ho⟩
      have hcl : (PySem.W.clsIn X.K D).isSome = true := by
        obtain ⟨cd, hc, _⟩ := PySem.W.any_some C.hd
        rw [hc]
        rfl
      exact PySem.W.kia_one (PySem.W.kitx_exc hcl C.hg C.hk C.hs C.ha C.hn C.ht C.hm) I.kIn J e (fun z => nomatch z) fun tk => ⟨.bl b, H, I.kept (t' := tk) fun _ _ z => z, rfl, q⟩
/-- its __init__: self.f = what is given -/
def spIni (C : Addr) (f : Str) : Sp := fun vs H Q _ => ∃ (a : Addr) (v : V), vs = [.ref a, v] ∧ H a = some (exo a C none) ∧ ∀ dx, H dx = none → dx ≠ a → Q .non (upd (upd H dx (exd dx [(f, v)])) a (exo a C (some dx)))
/-- an own exception class x with one field f, at C -/
structure XDef (P : Program) (w : World) (K : PySem.W.Frag) (mg : Str → Option Value) (base : Heap) (x f : Str) (C : Addr) : Prop where
  gC : mg x = some (.ref C)
  oex : OexC K C
  xf : XfC K C
  no : PySem.W.findIn K (.ref C) f = some none
  isx : ExcC K C
  em : PySem.W.exmOne K (.ref C) (.ref C) = some true
  ini : ∃ (fI : Addr) (fd : FuncData), PySem.W.findIn K (.ref C) "__init__" = some (some (.ref fI)) ∧ PySem.W.typeIn K (.ref fI) = some (.type "function") ∧ FnOk P w K mg base CX0 1 fI fd ["self", f] (spIni C f) ∧ Binds K fd ["self", f] []
theorem pmk_x {X : Cx} {x f : Str} {C : Addr} {j : Nat} {p pos : Pos} {e : Expr} {te : TE} (D : XDef X.prog X.w X.K X.mg X.base x f C) (hr : Room j X.A) (h2 : 2 ≤ j) (hg : Gl X x) (he : PE X e te) (hdb : (x == ("__debug__" : Str)) = false := by decide)
    (hst : starEach [e] X.env = (false, eval e X.env) :: starEach [] X.env := by rfl) : PMk X (.Call (.Name x p) [e] [] pos) (tMkO C (spIni C f) [] (tCons te tNil)) := by
  obtain ⟨fI, fd, iC, tI, F, hb⟩ := D.ini
  exact pmk_oex D.oex iC tI F (hr.mono h2) hb .nil pass0 hg D.gC (pa_cons (hs := hst) he pa_nil) hdb hst (by rfl)
/-- what is made: an exception whose dict holds the field, all else as it was -/
theorem mkx_in {C : Addr} {f : Str} {v : V} {H1 : Hp} {Q : XK} (h : ∀ (d : Addr) (H2 : Hp), H1 d = none → Same H1 H2 → H2 d = some (.xd [(f, v)]) → Q (.ref C) (some d) H2) :
    [v].length ≤ 1000 ∧ ∀ a, H1 a = none → spIni C f (.ref a :: ([v] ++ [])) (upd H1 a (exo a C none))
      (fun u H2 => u = .non ∧ ∃ (d : Addr) (fs : List (Str × V)), H2 a = some (exo a C (some d)) ∧ H2 d = some (exd d fs) ∧ H1 d = none ∧ Q (.ref C) (some d) (upd (del H2 a) d (.xd fs))) (fun _ _ _ => False) := by
  refine ⟨by show 1 ≤ 1000; decide, fun a na => ⟨a, v, rfl, upd_same, fun dx ndx hne => ⟨rfl, dx, [(f, v)], upd_same, (upd_ne hne).trans upd_same, ?_, ?_⟩⟩⟩
  · rw [upd_ne hne] at ndx
    exact ndx
  · have nd : H1 dx = none := by
      rw [upd_ne hne] at ndx
      exact ndx
    refine h dx _ nd (fun b o e => ?_) upd_same
    have b1 := ne_of_none e na
    have b2 := ne_of_none e nd
    rw [upd_ne b2, del_ne b1, upd_ne b1, upd_ne b2, upd_ne b1]
    exact e
end My
namespace My
open PySem PySem.Spec PyProof.Rows L2
/-! ### zip of any number of lists -/
abbrev TupN (h : Heap) (T : Addr) (vs : List Value) : Prop := h.get? T = some { cls := .type "tuple", data := .seq vs.toArray }
abbrev ZipF (h : Heap) (z TI TO : Addr) (f0 : Value) (f : Bool) : Prop := h.get? z = some { cls := .type "zip", dict := none, data := .fields #[f0, .bool f, .bool false, .ref TI, .ref TO], slots := #[] }
structure ApN (z TI TO : Addr) (ps : List (Addr × Addr)) : Prop where
  a1 : TI ≠ z
  a2 : TO ≠ z
  a3 : TI ≠ TO
  a4 : ∀ q ∈ ps, q.1 ≠ z ∧ q.1 ≠ TI ∧ q.1 ≠ TO
  a5 : (ps.map (·.1)).Nodup
  a6 : ∀ q ∈ ps, q.2 ≠ z ∧ q.2 ≠ TO ∧ ∀ r ∈ ps, q.2 ≠ r.1
section
variable {prog : Program} {w : World} {A : Around} {E : Value → Shared → Prop} {s : Shared} {z TI TO : Addr} {ps : List (Addr × Addr)} {xs : Addr → Array Value} {k : Nat} {old : List Value}
/-- nothing that is handed out stands in the way -/
def Fr0 (h : Heap) (f0 : Value) : Prop := f0 = .none ∨ ∃ T : Addr, f0 = rawInt T ∧ h.get? T = none
theorem free_true {f0 : Value} {f : Bool} {Q : Bool → Shared → Prop} (hz : ZipF s.heap z TI TO f0 f) (hf : Fr0 s.heap f0) (h : Q true s) : wpAny (model prog w) A (Builtin.SmallTypes.ownedTupleIsFree (.ref z)) Q E s := by
  unfold Builtin.SmallTypes.ownedTupleIsFree
  rcases hf with rfl | ⟨T, rfl, hT⟩
  · exact wpAny_bind (wpAny_field hz rfl (x := .none) rfl (wpAny_pure h))
  · refine wpAny_bind (wpAny_field hz rfl (x := rawInt T) rfl ?_)
    show wpAny _ _ (loadIfAlive ((T : Int).toNat) >>= _) _ _ _
    have hq : ∀ {R : Option Obj → Shared → Prop}, R none s → wpAny (model prog w) A (loadIfAlive ((T : Int).toNat)) R E s := fun {R} r => by
      rw [Int.toNat_natCast]
      have r' : R (s.heap.get? T) s := by rw [hT]; exact r
      exact fun _ _ _ => r'
    exact wpAny_bind (hq (wpAny_pure h))
theorem next_free {f0 : Value} {f : Bool} {Q : Value → Shared → Prop} (ne : ps ≠ []) (hn : ps.length ≤ 900) (D : ApN z TI TO ps) (hz : ZipF s.heap z TI TO f0 f) (hf : Fr0 s.heap f0) (hI : TupN s.heap TI (ps.map fun q => .ref q.1)) (hO : TupN s.heap TO old) (ho : old.length = ps.length)
    (hi : ∀ q ∈ ps, s.heap.IsListIter q.1 q.2 k) (hl : ∀ q ∈ ps, s.heap.IsList q.2 (xs q.2)) (hk : ∀ q ∈ ps, k < (xs q.2).size)
    (hQ : ∀ h' T, T = s.heap.objs.size → ZipF h' z TI TO (rawInt T) false → TupN h' TO (ps.map fun q => (xs q.2).getD k .none) → (∀ q ∈ ps, h'.IsListIter q.1 q.2 (k + 1)) → TupN h' T (ps.map fun q => (xs q.2).getD k .none) → h'.objs.size = s.heap.objs.size + 1 →
      (∀ c o, c ≠ z → c ≠ TO → (∀ q ∈ ps, c ≠ q.1) → s.heap.get? c = some o → h'.get? c = some o) → Q (.ref T) { s with heap := h' }) :
    wpAny (model prog w) A (Builtin.«zip.__next__» ⟨[.ref z], []⟩) (fun fin s' => ∃ v, fin = .done (.ret v) ∧ Q v s') E s := by
  show wpAny _ _ (field (.ref z) 2 >>= _) _ _ _
  refine wpAny_bind (wpAny_field hz rfl (x := .bool false) rfl ?_)
  show wpAny _ _ (field (.ref z) 3 >>= _) _ _ _
  refine wpAny_bind (wpAny_field hz rfl (x := .ref TI) rfl ?_)
  refine wpAny_bind (wpAny_seqItems hI rfl ?_)
  dsimp only
  have hne : (ps.map fun q => Value.ref q.1).toArray.isEmpty = false := by
    cases ps with
    | nil => exact absurd rfl ne
    | cons q r => rfl
  rw [hne, if_neg Bool.false_ne_true]
  refine wpAny_bind (free_true hz hf ?_)
  rw [if_pos rfl]
  refine wpAny_bind (wpAny_rule ?_)
  refine wpAny_bind (wpAny_field hz rfl (x := .ref TO) rfl ?_)
  dsimp only
  refine wpAny_bind (wpAny_setField_rec hz (by simp) fun g1 z1 b1 => ?_)
  replace z1 : ZipF g1 z TI TO .ellipsis f := z1
  refine wpAny_bind ?_
  refine wpAny_forIn_list _ (fun (rest : List (Value × Nat)) (b : Option Fin × PUnit) (st : Shared) => ∃ (dn rs : List (Addr × Addr)) (od : List Value) (h1 : Heap), ps = dn ++ rs ∧ rest = (rs.map fun q => Value.ref q.1).zipIdx dn.length ∧ b = (none, ⟨⟩) ∧ st = { s with heap := h1 } ∧
      ZipF h1 z TI TO .ellipsis f ∧ od.length = rs.length ∧ TupN h1 TO ((dn.map fun q => (xs q.2).getD k .none) ++ od) ∧ (∀ q ∈ dn, h1.IsListIter q.1 q.2 (k + 1)) ∧ (∀ q ∈ rs, h1.IsListIter q.1 q.2 k) ∧ (∀ q ∈ ps, h1.IsList q.2 (xs q.2)) ∧ h1.objs.size = s.heap.objs.size ∧
      ∀ c, c ≠ z → c ≠ TO → (∀ q ∈ ps, c ≠ q.1) → h1.get? c = s.heap.get? c) _ ?_ ?_ _ _ ⟨[], ps, old, g1, rfl, rfl, rfl, rfl, z1, ho, ?_, fun _ m => absurd m List.not_mem_nil, ?_, ?_, b1.1, fun c c1 _ _ => b1.2 c c1⟩
  · rintro x rest b st ⟨dn, rs, od, h1, e1, e2, rfl, rfl, hz1, hod, hO1, hd1, hr1, hl1, hs1, hf1⟩
    cases rs with
    | nil => cases e2
    | cons q r =>
      obtain ⟨o1, od2, rfl⟩ : ∃ o1 od2, od = o1 :: od2 := by
        cases od with
        | nil => cases hod
        | cons a b => exact ⟨a, b, rfl⟩
      have e3 : x = (Value.ref q.1, dn.length) := (List.cons.inj e2).1
      have e4 : rest = (r.map fun q => Value.ref q.1).zipIdx (dn.length + 1) := (List.cons.inj e2).2
      subst e3
      have mq : q ∈ ps := by rw [e1]; simp
      have hlen : dn.length + (r.length + 1) ≤ 900 := by
        rw [e1, List.length_append, List.length_cons] at hn
        exact hn
      have hod2 : od2.length = r.length := Nat.succ.inj hod
      refine wpAny_bind (wpAny_onRaise ?_)
      show wpAny _ _ (Builtin.SmallTypes.nextOf (.ref q.1) >>= _) _ _ _
      refine wpAny_bind (wpAny_nextOf_list_item (hr1 q List.mem_cons_self) (hl1 q mq) (Array.getElem?_eq_getElem (hk q mq)) fun h2 i2 b2 => wpAny_pure ?_)
      have hO2 : TupN h2 TO ((dn.map fun q => (xs q.2).getD k .none) ++ (o1 :: od2)) := (b2.2 _ (D.a4 q mq).2.2.symm).trans hO1
      dsimp only
      refine wpAny_bind (wpAny_seqItems hO2 rfl ?_)
      dsimp only
      refine wpAny_bind (wpAny_updateSeq hO2 rfl ?_ ?_ ?_)
      · refine wpAny_bind (wpAny_letGo (wpAny_pure ?_))
        have hv : (xs q.2)[k]'(hk q mq) = (xs q.2).getD k .none := by
          rw [Array.getD_eq_getD_getElem?, Array.getElem?_eq_getElem (hk q mq)]
          rfl
        have hnd := D.a5
        rw [e1, List.map_append, List.map_cons] at hnd
        obtain ⟨_, hnd2, hnd3⟩ := List.nodup_append.mp hnd
        have nd1 : ∀ p ∈ dn, p.1 ≠ q.1 := fun p m e => hnd3 p.1 (List.mem_map_of_mem m) q.1 List.mem_cons_self e
        have nd2 : ∀ p ∈ r, p.1 ≠ q.1 := fun p m e => (List.nodup_cons.mp hnd2).1 (by rw [← e]; exact List.mem_map_of_mem (f := (·.1)) m)
        have g3 := Heap.get?_update_self (Obj.mapSeq fun x => x.setIfInBounds dn.length ((xs q.2)[k]'(hk q mq))) hO2 rfl
        have b3 : Heap.SameBut TO h2 (h2.update TO (Obj.mapSeq fun x => x.setIfInBounds dn.length ((xs q.2)[k]'(hk q mq)))) := Heap.SameBut.update ..
        refine ⟨dn ++ [q], r, od2, _, by rw [e1, List.append_assoc]; rfl, by rw [List.length_append]; exact e4, rfl, rfl, ?_, hod2, ?_, ?_, ?_, ?_, ?_, ?_⟩
        · exact (b3.2 _ D.a2.symm).trans ((b2.2 _ (D.a4 q mq).1.symm).trans hz1)
        · refine g3.trans ?_
          rw [hv]
          simp [Obj.mapSeq]
        · intro p m
          rcases List.mem_append.mp m with m | m
          · have mp : p ∈ ps := by rw [e1]; exact List.mem_append_left _ m
            exact ((hd1 p m).extBut b2.extBut (nd1 p m)).extBut b3.extBut (D.a4 p mp).2.2
          · rw [List.mem_singleton.mp m]
            exact i2.extBut b3.extBut (D.a4 q mq).2.2
        · intro p m
          have mp : p ∈ ps := by rw [e1]; exact List.mem_append_right _ (List.mem_cons_of_mem _ m)
          exact ((hr1 p (List.mem_cons_of_mem _ m)).extBut b2.extBut (nd2 p m)).extBut b3.extBut (D.a4 p mp).2.2
        · intro p m
          exact ((hl1 p m).extBut b2.extBut ((D.a6 p m).2.2 q mq)).extBut b3.extBut (D.a6 p m).2.1
        · exact b3.1.trans (b2.1.trans hs1)
        · intro c c1 c2 c3
          exact (b3.2 c c2).trans ((b2.2 c (c3 q mq)).trans (hf1 c c1 c2 c3))
      · rw [List.size_toArray, List.length_append, List.length_map, List.length_cons, hod2]
        exact Nat.le_trans hlen (by decide)
      · rw [Array.size_setIfInBounds, List.size_toArray, List.length_append, List.length_map, List.length_cons, hod2]
        exact Nat.le_trans hlen (by decide)
  · rintro b st ⟨dn, rs, od, h1, e1, e2, rfl, rfl, hz1, hod, hO1, hd1, hr1, hl1, hs1, hf1⟩
    have ers : rs = [] := by
      cases rs with
      | nil => rfl
      | cons a b => cases e2
    subst ers
    have eod : od = [] := List.length_eq_zero_iff.mp hod
    subst eod
    rw [List.append_nil] at e1 hO1
    subst e1
    have hfin : (ps.map fun q => (xs q.2).getD k .none).length ≤ 900 := by
      rw [List.length_map]
      exact hn
    dsimp only
    refine wpAny_bind (wpAny_seqItems hO1 rfl ?_)
    dsimp only
    refine wpAny_bind (wpAny_newTuple ?_ (Nat.le_trans hfin (by decide)))
    have zlt : z < h1.objs.size := Heap.lt_size hz1
    show wpAny _ _ (Builtin.SmallTypes.ownedTupleHandOut (.ref z) (.ref h1.objs.size) >>= _) _ _ _
    refine wpAny_bind ?_
    unfold Builtin.SmallTypes.ownedTupleHandOut
    dsimp only
    have z6 : ZipF (h1.push { cls := .type "tuple", data := .seq (ps.map fun q => (xs q.2).getD k Value.none).toArray }) z TI TO .ellipsis f := Heap.get?_push_of_some _ hz1
    refine wpAny_bind (wpAny_setField_rec z6 (by simp) fun h7 z7 b7 => ?_)
    replace z7 : ZipF h7 z TI TO (rawInt h1.objs.size) f := z7
    refine wpAny_setField_rec z7 (by simp) fun h8 z8 b8 => ?_
    replace z8 : ZipF h8 z TI TO (rawInt h1.objs.size) false := z8
    have up : ∀ c o, c ≠ z → h1.get? c = some o → h8.get? c = some o := fun c o n e => b8.extBut _ _ n (b7.extBut _ _ n (Heap.get?_push_of_some _ e))
    have t8 : TupN h8 h1.objs.size (ps.map fun q => (xs q.2).getD k .none) := b8.extBut _ _ (Nat.ne_of_gt zlt) (b7.extBut _ _ (Nat.ne_of_gt zlt) (Heap.get?_push_size _ rfl))
    have s8 : h8.objs.size = s.heap.objs.size + 1 := by rw [b8.1, b7.1, Heap.size_push, hs1]
    refine wpAny_pure ⟨_, rfl, ?_⟩
    exact hQ h8 h1.objs.size hs1 z8 (up _ _ D.a2 hO1) (fun q m => (hd1 q m).at fun o e => up _ o (D.a4 q m).1 e) t8 s8 fun c o c1 c2 c3 e => up c o c1 ((hf1 c c1 c2 c3).trans e)
  · exact (b1.2 _ D.a2).trans hO
  · exact fun q m => (hi q m).extBut b1.extBut (D.a4 q m).1
  · exact fun q m => (hl q m).extBut b1.extBut (D.a6 q m).1
theorem next_free_end {f0 : Value} {f : Bool} {Q : Fin → Shared → Prop} (hh : A.handled = none) (ne : ps ≠ []) (D : ApN z TI TO ps) (hz : ZipF s.heap z TI TO f0 f) (hf : Fr0 s.heap f0) (hI : TupN s.heap TI (ps.map fun q => .ref q.1))
    (hi : ∀ q ∈ ps, s.heap.IsListIter q.1 q.2 k) (hl : ∀ q ∈ ps, s.heap.IsList q.2 (xs q.2)) (hk : ∀ q ∈ ps, (xs q.2).size ≤ k)
    (hE : ∀ h' e, (∀ c o, c ≠ z → (∀ q ∈ ps, c ≠ q.1) → s.heap.get? c = some o → h'.get? c = some o) → (∃ o, h'.get? e = some o ∧ o.cls = .type "StopIteration") → E (.ref e) { s with heap := h' }) :
    wpAny (model prog w) A (Builtin.«zip.__next__» ⟨[.ref z], []⟩) Q E s := by
  obtain ⟨q, r, rfl⟩ : ∃ q r, ps = q :: r := by
    cases ps with
    | nil => exact absurd rfl ne
    | cons a b => exact ⟨a, b, rfl⟩
  have mq : q ∈ q :: r := List.mem_cons_self
  show wpAny _ _ (field (.ref z) 2 >>= _) _ _ _
  refine wpAny_bind (wpAny_field hz rfl (x := .bool false) rfl ?_)
  show wpAny _ _ (field (.ref z) 3 >>= _) _ _ _
  refine wpAny_bind (wpAny_field hz rfl (x := .ref TI) rfl ?_)
  refine wpAny_bind (wpAny_seqItems hI rfl ?_)
  dsimp only
  rw [show ((q :: r).map fun q => Value.ref q.1).toArray.isEmpty = false from rfl, if_neg Bool.false_ne_true]
  refine wpAny_bind (free_true hz hf ?_)
  rw [if_pos rfl]
  refine wpAny_bind (wpAny_rule ?_)
  refine wpAny_bind (wpAny_field hz rfl (x := .ref TO) rfl ?_)
  dsimp only
  refine wpAny_bind (wpAny_setField_rec hz (by simp) fun g1 z1 b1 => ?_)
  replace z1 : ZipF g1 z TI TO .ellipsis f := z1
  refine wpAny_bind ?_
  rw [List.map_cons, List.zipIdx_cons, List.forIn_cons]
  refine wpAny_bind (wpAny_bind (wpAny_onRaise ?_))
  show wpAny _ _ (Builtin.SmallTypes.nextOf (.ref q.1) >>= _) _ _ _
  refine wpAny_bind (wpAny_nextOf_list_end hh ((hi q mq).extBut b1.extBut (D.a4 q mq).1) ((hl q mq).extBut b1.extBut (D.a6 q mq).1) (Array.getElem?_eq_none (hk q mq)) fun h2 e b2 he => ?_)
  obtain ⟨oe, hoe, hce⟩ := he
  have z2 : ZipF h2 z TI TO .ellipsis f := b2 _ _ (D.a4 q mq).1.symm z1
  have nez : e ≠ z := fun x => by
    subst x
    rw [z2] at hoe
    cases hoe
    simp at hce
  exact wpAny_setField_rec z2 (by simp) fun h3 _ b3 => hE h3 e (fun c o c1 c3 x => b3.extBut _ _ c1 (b2 _ _ (c3 q mq) (b1.extBut _ _ c1 x))) ⟨oe, b3.extBut _ _ nez hoe, hce⟩
theorem next_held {T : Addr} {f : Bool} {oT : Obj} {Q : Value → Shared → Prop} (ne : ps ≠ []) (hn : ps.length ≤ 900) (D : ApN z TI TO ps) (hz : IsZipHeld s.heap z TI TO T f) (hT : s.heap.get? T = some oT) (hI : TupN s.heap TI (ps.map fun q => .ref q.1))
    (hi : ∀ q ∈ ps, s.heap.IsListIter q.1 q.2 k) (hl : ∀ q ∈ ps, s.heap.IsList q.2 (xs q.2)) (hk : ∀ q ∈ ps, k < (xs q.2).size)
    (hQ : ∀ h' U, U = s.heap.objs.size → IsZipHeld h' z TI TO T true → (∀ q ∈ ps, h'.IsListIter q.1 q.2 (k + 1)) → TupN h' U (ps.map fun q => (xs q.2).getD k .none) → h'.objs.size = s.heap.objs.size + 1 →
      (∀ c o, c ≠ z → (∀ q ∈ ps, c ≠ q.1) → s.heap.get? c = some o → h'.get? c = some o) → Q (.ref U) { s with heap := h' }) :
    wpAny (model prog w) A (Builtin.«zip.__next__» ⟨[.ref z], []⟩) (fun fin s' => ∃ v, fin = .done (.ret v) ∧ Q v s') E s := by
  show wpAny _ _ (field (.ref z) 2 >>= _) _ _ _
  refine wpAny_bind (wpAny_field hz rfl (x := .bool false) rfl ?_)
  show wpAny _ _ (field (.ref z) 3 >>= _) _ _ _
  refine wpAny_bind (wpAny_field hz rfl (x := .ref TI) rfl ?_)
  refine wpAny_bind (wpAny_seqItems hI rfl ?_)
  dsimp only
  have hne : (ps.map fun q => Value.ref q.1).toArray.isEmpty = false := by
    cases ps with
    | nil => exact absurd rfl ne
    | cons q r => rfl
  rw [hne, if_neg Bool.false_ne_true]
  refine wpAny_bind (wpAny_tupleHeld_zip hz hT fun g1 z1 b1 => ?_)
  rw [if_neg Bool.false_ne_true]
  refine wpAny_bind ?_
  rw [← Array.forIn_toList]
  refine wpAny_forIn_list _ (fun (rest : List Value) (b : Option Fin × Array Value) (st : Shared) => ∃ (dn rs : List (Addr × Addr)) (h1 : Heap), ps = dn ++ rs ∧ rest = rs.map (fun q => Value.ref q.1) ∧ b = (none, (dn.map fun q => (xs q.2).getD k .none).toArray) ∧ st = { s with heap := h1 } ∧
      IsZipHeld h1 z TI TO T true ∧ (∀ q ∈ dn, h1.IsListIter q.1 q.2 (k + 1)) ∧ (∀ q ∈ rs, h1.IsListIter q.1 q.2 k) ∧ (∀ q ∈ ps, h1.IsList q.2 (xs q.2)) ∧ h1.objs.size = s.heap.objs.size ∧
      ∀ c, c ≠ z → (∀ q ∈ ps, c ≠ q.1) → h1.get? c = s.heap.get? c) _ ?_ ?_ _ _ ⟨[], ps, g1, rfl, rfl, rfl, rfl, z1, fun _ m => absurd m List.not_mem_nil, ?_, ?_, b1.1, fun c c1 _ => b1.2 c c1⟩
  · rintro x rest b st ⟨dn, rs, h1, e1, e2, rfl, rfl, hz1, hd1, hr1, hl1, hs1, hf1⟩
    cases rs with
    | nil => cases e2
    | cons q r =>
      have e3 : x = Value.ref q.1 := (List.cons.inj e2).1
      have e4 : rest = r.map fun q => Value.ref q.1 := (List.cons.inj e2).2
      subst e3
      have mq : q ∈ ps := by rw [e1]; simp
      have hnd := D.a5
      rw [e1, List.map_append, List.map_cons] at hnd
      obtain ⟨_, hnd2, hnd3⟩ := List.nodup_append.mp hnd
      have nd1 : ∀ p ∈ dn, p.1 ≠ q.1 := fun p m e => hnd3 p.1 (List.mem_map_of_mem m) q.1 List.mem_cons_self e
      have nd2 : ∀ p ∈ r, p.1 ≠ q.1 := fun p m e => (List.nodup_cons.mp hnd2).1 (by rw [← e]; exact List.mem_map_of_mem (f := (·.1)) m)
      refine wpAny_bind (wpAny_holding ?_)
      show wpAny _ _ (Builtin.SmallTypes.nextOf (.ref q.1) >>= _) _ _ _
      refine wpAny_bind (wpAny_nextOf_list_item (hr1 q List.mem_cons_self) (hl1 q mq) (Array.getElem?_eq_getElem (hk q mq)) fun h2 i2 b2 => wpAny_pure ?_)
      have hv : (xs q.2)[k]'(hk q mq) = (xs q.2).getD k .none := by
        rw [Array.getD_eq_getD_getElem?, Array.getElem?_eq_getElem (hk q mq)]
        rfl
      dsimp only
      refine wpAny_pure ⟨dn ++ [q], r, h2, by rw [e1, List.append_assoc]; rfl, e4, ?_, rfl, ?_, ?_, ?_, ?_, ?_, ?_⟩
      · rw [hv]
        simp
      · exact (b2.2 _ (D.a4 q mq).1.symm).trans hz1
      · intro p m
        rcases List.mem_append.mp m with m | m
        · exact (hd1 p m).extBut b2.extBut (nd1 p m)
        · rw [List.mem_singleton.mp m]
          exact i2
      · exact fun p m => (hr1 p (List.mem_cons_of_mem _ m)).extBut b2.extBut (nd2 p m)
      · exact fun p m => (hl1 p m).extBut b2.extBut ((D.a6 p m).2.2 q mq)
      · exact b2.1.trans hs1
      · exact fun c c1 c3 => (b2.2 c (c3 q mq)).trans (hf1 c c1 c3)
  · rintro b st ⟨dn, rs, h1, e1, e2, rfl, rfl, hz1, hd1, hr1, hl1, hs1, hf1⟩
    have ers : rs = [] := by
      cases rs with
      | nil => rfl
      | cons a b => cases e2
    subst ers
    rw [List.append_nil] at e1
    subst e1
    have hfin : (ps.map fun q => (xs q.2).getD k .none).length ≤ 900 := by
      rw [List.length_map]
      exact hn
    dsimp only
    refine wpAny_bind (wpAny_newTuple ?_ (Nat.le_trans hfin (by decide)))
    refine wpAny_pure ⟨_, rfl, ?_⟩
    exact hQ _ h1.objs.size hs1 (Heap.get?_push_of_some _ hz1) (fun q m => (hd1 q m).at fun o e => Heap.get?_push_of_some _ e) (Heap.get?_push_size _ rfl) (by show (h1.push _).objs.size = _; rw [Heap.size_push, hs1]) fun c o c1 c3 e => Heap.get?_push_of_some _ ((hf1 c c1 c3).trans e)
  · exact fun q m => (hi q m).extBut b1.extBut (D.a4 q m).1
  · exact fun q m => (hl q m).extBut b1.extBut (D.a6 q m).1
theorem next_held_end {T : Addr} {f : Bool} {oT : Obj} {Q : Fin → Shared → Prop} (hh : A.handled = none) (ne : ps ≠ []) (D : ApN z TI TO ps) (hz : IsZipHeld s.heap z TI TO T f) (hT : s.heap.get? T = some oT) (hI : TupN s.heap TI (ps.map fun q => .ref q.1))
    (hi : ∀ q ∈ ps, s.heap.IsListIter q.1 q.2 k) (hl : ∀ q ∈ ps, s.heap.IsList q.2 (xs q.2)) (hk : ∀ q ∈ ps, (xs q.2).size ≤ k)
    (hE : ∀ h' e, (∀ c o, c ≠ z → (∀ q ∈ ps, c ≠ q.1) → s.heap.get? c = some o → h'.get? c = some o) → (∃ o, h'.get? e = some o ∧ o.cls = .type "StopIteration") → E (.ref e) { s with heap := h' }) :
    wpAny (model prog w) A (Builtin.«zip.__next__» ⟨[.ref z], []⟩) Q E s := by
  obtain ⟨q, r, rfl⟩ : ∃ q r, ps = q :: r := by
    cases ps with
    | nil => exact absurd rfl ne
    | cons a b => exact ⟨a, b, rfl⟩
  have mq : q ∈ q :: r := List.mem_cons_self
  show wpAny _ _ (field (.ref z) 2 >>= _) _ _ _
  refine wpAny_bind (wpAny_field hz rfl (x := .bool false) rfl ?_)
  show wpAny _ _ (field (.ref z) 3 >>= _) _ _ _
  refine wpAny_bind (wpAny_field hz rfl (x := .ref TI) rfl ?_)
  refine wpAny_bind (wpAny_seqItems hI rfl ?_)
  dsimp only
  rw [show ((q :: r).map fun q => Value.ref q.1).toArray.isEmpty = false from rfl, if_neg Bool.false_ne_true]
  refine wpAny_bind (wpAny_tupleHeld_zip hz hT fun g1 z1 b1 => ?_)
  rw [if_neg Bool.false_ne_true]
  refine wpAny_bind ?_
  rw [← Array.forIn_toList, List.map_cons]
  show wpAny _ _ (forIn (Value.ref q.1 :: r.map fun q => Value.ref q.1) _ _) _ _ _
  rw [List.forIn_cons]
  refine wpAny_bind (wpAny_bind (wpAny_holding ?_))
  show wpAny _ _ (Builtin.SmallTypes.nextOf (.ref q.1) >>= _) _ _ _
  refine wpAny_bind (wpAny_nextOf_list_end hh ((hi q mq).extBut b1.extBut (D.a4 q mq).1) ((hl q mq).extBut b1.extBut (D.a6 q mq).1) (Array.getElem?_eq_none (hk q mq)) fun h2 e b2 he => ?_)
  exact hE h2 e (fun c o c1 c3 x => b2 _ _ (c3 q mq) (b1.extBut _ _ c1 x)) he
/-! ### one turn, whatever is handed out -/
def Gd0 (f0 : Value) : Prop := f0 = .none ∨ ∃ T : Addr, f0 = rawInt T
/-- the zip at z over the lists at the second places of ps, k turns behind it -/
def ZipAt (h : Heap) (z TI TO : Addr) (ps : List (Addr × Addr)) (k : Nat) : Prop :=
  (∃ f0 f, ZipF h z TI TO f0 f ∧ Gd0 f0) ∧ TupN h TI (ps.map fun q => .ref q.1) ∧ (∃ old, old.length = ps.length ∧ TupN h TO old) ∧ ∀ q ∈ ps, h.IsListIter q.1 q.2 k
theorem next_any {Q : Option Value → Shared → Prop} (ne : ps ≠ []) (hn : ps.length ≤ 900) (D : ApN z TI TO ps) (hz : ZipAt s.heap z TI TO ps k) (hl : ∀ q ∈ ps, s.heap.IsList q.2 (xs q.2)) (hk : ∀ q ∈ ps, k < (xs q.2).size)
    (hQ : ∀ h' U, U = s.heap.objs.size → ZipAt h' z TI TO ps (k + 1) → TupN h' U (ps.map fun q => (xs q.2).getD k .none) → h'.objs.size = s.heap.objs.size + 1 →
      (∀ c o, c ≠ z → c ≠ TO → (∀ q ∈ ps, c ≠ q.1) → s.heap.get? c = some o → h'.get? c = some o) → Q (some (.ref U)) { s with heap := h' }) : wpAny (model prog w) A (pyNext (.ref z)) Q E s := by
  obtain ⟨⟨f0, f, hzz, hg⟩, hI, ⟨old, hol, hO⟩, hi⟩ := hz
  have hTy : s.TypeIs (.ref z) "zip" := ⟨_, hzz, rfl⟩
  unfold pyNext
  have free : ∀ {B : Around} {E2 : Value → Shared → Prop}, Fr0 s.heap f0 → wpAny (model prog w) B (Builtin.«zip.__next__» ⟨[.ref z], []⟩) (fun fin s' => ∃ v, fin = .done (.ret v) ∧ wpAny (model prog w) A (pure (some v)) Q E s') E2 s := fun hf =>
    next_free ne hn D hzz hf hI hO hol hi hl hk fun h' U e1 e2 e3 e4 e5 e6 e7 => wpAny_pure (hQ h' U e1 ⟨⟨_, _, e2, .inr ⟨_, rfl⟩⟩, e7 _ _ D.a1 D.a3 (fun q m => (D.a4 q m).2.1.symm) hI, ⟨_, List.length_map _, e3⟩, e4⟩ e5 e6 e7)
  refine wpAny_bind (wpAny_attempt (wpAny_callSpecial?_slot (name := Str.ofString "__next__") hTy F.slot_zip_next (wpAny_call_entry F.slot_zip_next hTy F.entry_zip_next ?_ (F.args_zip_next_1 _))))
  rcases hg with rfl | ⟨T, rfl⟩
  · exact free (.inl rfl)
  · cases hT : s.heap.get? T with
    | none => exact free (.inr ⟨T, rfl, hT⟩)
    | some oT =>
      exact next_held ne hn D hzz hT hI hi hl hk fun h' U e1 e2 e4 e5 e6 e7 => wpAny_pure (hQ h' U e1 ⟨⟨_, _, e2, .inr ⟨_, rfl⟩⟩, e7 _ _ D.a1 (fun q m => (D.a4 q m).2.1.symm) hI, ⟨old, hol, e7 _ _ D.a2 (fun q m => (D.a4 q m).2.2.symm) hO⟩, e4⟩ e5 e6 fun c o c1 _ c3 e => e7 c o c1 c3 e)
theorem next_stop {Q : Option Value → Shared → Prop} (hh : A.handled = none) (ne : ps ≠ []) (D : ApN z TI TO ps) (hz : ZipAt s.heap z TI TO ps k) (hl : ∀ q ∈ ps, s.heap.IsList q.2 (xs q.2)) (hk : ∀ q ∈ ps, (xs q.2).size ≤ k)
    (hQ : ∀ h', (∀ c o, c ≠ z → (∀ q ∈ ps, c ≠ q.1) → s.heap.get? c = some o → h'.get? c = some o) → Q none { s with heap := h' }) : wpAny (model prog w) A (pyNext (.ref z)) Q E s := by
  obtain ⟨⟨f0, f, hzz, hg⟩, hI, _, hi⟩ := hz
  have hTy : s.TypeIs (.ref z) "zip" := ⟨_, hzz, rfl⟩
  unfold pyNext
  have out : ∀ (h' : Heap) (e : Addr), (∀ c o, c ≠ z → (∀ q ∈ ps, c ≠ q.1) → s.heap.get? c = some o → h'.get? c = some o) → (∃ o, h'.get? e = some o ∧ o.cls = .type "StopIteration") →
      wpAny (model prog w) A (do if (← isInstance (.ref e) (.type "StopIteration")) then pure none else throw (.ref e)) Q E { s with heap := h' } := fun h' e hk he => by
    obtain ⟨o, ho, hc⟩ := he
    refine wpAny_bind (wpAny_isInstance (T := "StopIteration") (b := true) ⟨o, ho, hc⟩ isSubtype_stop ?_)
    exact wpAny_pure (hQ h' hk)
  refine wpAny_bind (wpAny_attempt (wpAny_callSpecial?_slot (name := Str.ofString "__next__") hTy F.slot_zip_next (wpAny_call_entry F.slot_zip_next hTy F.entry_zip_next ?_ (F.args_zip_next_1 _))))
  rcases hg with rfl | ⟨T, rfl⟩
  · exact next_free_end hh ne D hzz (.inl rfl) hI hi hl hk out
  · cases hT : s.heap.get? T with
    | none => exact next_free_end hh ne D hzz (.inr ⟨T, rfl, hT⟩) hI hi hl hk out
    | some oT => exact next_held_end hh ne D hzz hT hI hi hl hk out
theorem go_zipN {tg : Expr} {U : Addr} {f0 : Value} {f : Bool} {Q : Unit → Shared → Prop} (hz : ZipF s.heap z TI TO f0 f) (hg : Gd0 f0) (hQ : ∀ h' f0', ZipF h' z TI TO f0' f → Gd0 f0' → Heap.SameBut z s.heap h' → Q () { s with heap := h' }) :
    wpAny (model prog w) A (letOwnedTupleGo tg (.ref z) (.ref U)) Q E s := by
  unfold letOwnedTupleGo
  cases tg <;> first
    | exact wpAny_pure (hQ s.heap f0 hz hg (Heap.SameBut.refl _ _))
    | (refine wpAny_bind (wpAny_load hz ?_)
       dsimp only
       split
       · refine wpAny_bind (wpAny_rule ?_)
         exact wpAny_setField_rec hz (by simp) fun h' hz' hs' => hQ h' .none hz' (.inl rfl) hs'
       · exact wpAny_pure (hQ s.heap f0 hz hg (Heap.SameBut.refl _ _)))
end
end My
namespace My
open PySem PySem.Spec PyProof.Rows L2
def zps : List Addr → Nat → List (Addr × Addr)
  | [], _ => []
  | l :: r, n => (n, l) :: zps r (n + 1)
theorem zps_app : ∀ (a b : List Addr) (n : Nat), zps (a ++ b) n = zps a n ++ zps b (n + a.length)
  | [], b, n => rfl
  | l :: a, b, n => by
    show _ :: zps (a ++ b) (n + 1) = _ :: (zps a (n + 1) ++ zps b (n + (a.length + 1)))
    rw [zps_app a b (n + 1), Nat.add_assoc, Nat.add_comm 1]
theorem zps_len : ∀ (a : List Addr) (n : Nat), (zps a n).length = a.length
  | [], _ => rfl
  | l :: a, n => congrArg Nat.succ (zps_len a (n + 1))
theorem zps_two : ∀ (a : List Addr) (n : Nat), (zps a n).map (·.2) = a
  | [], _ => rfl
  | l :: a, n => congrArg (l :: ·) (zps_two a (n + 1))
theorem zps_mem : ∀ {a : List Addr} {n : Nat} {q : Addr × Addr}, q ∈ zps a n → n ≤ q.1 ∧ q.1 < n + a.length ∧ q.2 ∈ a
  | [], n, q, m => absurd m List.not_mem_nil
  | l :: a, n, q, m => by
    rcases List.mem_cons.mp m with e | m
    · subst e
      exact ⟨Nat.le_refl _, Nat.lt_add_of_pos_right (Nat.succ_pos _), List.mem_cons_self⟩
    · obtain ⟨h1, h2, h3⟩ := zps_mem m
      refine ⟨Nat.le_of_succ_le h1, ?_, List.mem_cons_of_mem _ h3⟩
      show q.1 < n + (a.length + 1)
      rw [Nat.add_comm a.length, ← Nat.add_assoc]
      exact h2
theorem zps_nodup : ∀ (a : List Addr) (n : Nat), ((zps a n).map (·.1)).Nodup
  | [], _ => List.nodup_nil
  | l :: a, n => by
    refine List.nodup_cons.mpr ⟨fun m => ?_, zps_nodup a (n + 1)⟩
    obtain ⟨q, mq, e⟩ := List.mem_map.mp m
    have := (zps_mem mq).1
    rw [e] at this
    exact absurd this (Nat.not_succ_le_self n)
theorem zne {a b : Nat} (h : a < b) : a ≠ b := Nat.ne_of_lt h
theorem zps_ap {a : List Addr} {n : Nat} (hl : ∀ l ∈ a, l < n) : ApN (n + a.length + 2) (n + a.length) (n + a.length + 1) (zps a n) where
  a1 := Nat.ne_of_lt (by show n + a.length < n + a.length + 2; omega)
  a2 := Nat.ne_of_lt (by show n + a.length + 1 < n + a.length + 2; omega)
  a3 := Nat.ne_of_lt (by show n + a.length < n + a.length + 1; omega)
  a4 := fun q m => by
    have h := (zps_mem m).2.1
    exact ⟨zne (Nat.lt_of_lt_of_le h (by omega)), zne h, zne (Nat.lt_of_lt_of_le h (by omega))⟩
  a5 := zps_nodup a n
  a6 := fun q m => by
    have h := hl _ (zps_mem m).2.2
    exact ⟨zne (Nat.lt_of_lt_of_le h (by omega)), zne (Nat.lt_of_lt_of_le h (by omega)), fun r mr => zne (Nat.lt_of_lt_of_le h (zps_mem mr).1)⟩
section
variable {prog : Program} {w : World} {A : Around} {E : Value → Shared → Prop} {s : Shared} {ls : List Addr} {xs : Addr → Array Value}
theorem wp_iterAllN {Q : List Value → Shared → Prop} (hl : ∀ l ∈ ls, s.heap.IsList l (xs l)) (hQ : ∀ h', (∀ q ∈ zps ls s.heap.objs.size, h'.IsListIter q.1 q.2 0) → h'.objs.size = s.heap.objs.size + ls.length → (∀ c o, s.heap.get? c = some o → h'.get? c = some o) →
      Q ((zps ls s.heap.objs.size).map fun q => .ref q.1) { s with heap := h' }) : wpAny (model prog w) A (Builtin.SmallTypes.iterAll (ls.map .ref)) Q E s := by
  unfold Builtin.SmallTypes.iterAll
  refine wpAny_bind ?_
  refine wpAny_forIn_list _ (fun (rest : List Value) (b : Array Value) (st : Shared) => ∃ (dn rs : List Addr) (h1 : Heap), ls = dn ++ rs ∧ rest = rs.map .ref ∧ b = ((zps dn s.heap.objs.size).map fun q => Value.ref q.1).toArray ∧ st = { s with heap := h1 } ∧
      (∀ q ∈ zps dn s.heap.objs.size, h1.IsListIter q.1 q.2 0) ∧ h1.objs.size = s.heap.objs.size + dn.length ∧ ∀ c o, s.heap.get? c = some o → h1.get? c = some o) _ ?_ ?_ _ _ ⟨[], ls, s.heap, rfl, rfl, rfl, rfl, fun q m => absurd m List.not_mem_nil, rfl, fun _ _ e => e⟩
  · rintro x rest b st ⟨dn, rs, h1, e1, e2, rfl, rfl, hi, hs, hk⟩
    cases rs with
    | nil => cases e2
    | cons l r =>
      have e3 : x = Value.ref l := (List.cons.inj e2).1
      have e4 : rest = r.map Value.ref := (List.cons.inj e2).2
      subst e3
      have ml : l ∈ ls := by rw [e1]; simp
      have L : h1.IsList l (xs l) := (hl l ml).at fun o e => hk l o e
      refine wpAny_bind (wpAny_holding (wpAny_pyIter_list (s := { s with heap := h1 }) L ?_))
      refine wpAny_pure ⟨dn ++ [l], r, _, by rw [e1, List.append_assoc]; rfl, e4, ?_, rfl, ?_, ?_, ?_⟩
      · rw [zps_app, ← hs]
        simp [zps]
      · intro q m
        rw [zps_app] at m
        rcases List.mem_append.mp m with m | m
        · exact (hi q m).at fun o e => Heap.get?_push_of_some _ e
        · have e : q = (s.heap.objs.size + dn.length, l) := List.mem_singleton.mp m
          subst e
          rw [← hs]
          exact ⟨_, Heap.get?_push_size _ rfl, rfl, rfl⟩
      · show (h1.push _).objs.size = _
        rw [Heap.size_push, hs, List.length_append]
        rfl
      · exact fun c o e => Heap.get?_push_of_some _ (hk c o e)
  · rintro b st ⟨dn, rs, h1, e1, e2, rfl, rfl, hi, hs, hk⟩
    have ers : rs = [] := by
      cases rs with
      | nil => rfl
      | cons a b => cases e2
    subst ers
    rw [List.append_nil] at e1
    subst e1
    exact wpAny_pure (hQ h1 hi hs hk)
theorem wp_newClassZ {vs : List Value} {Q : Value × List Value → Shared → Prop} (h : Q (.type "zip", vs) s) : wpAny (model prog w) A (Builtin.SmallTypes.newClass "zip" ⟨.type "zip" :: vs, []⟩) Q E s := by
  have hsub := sub_zip
  unfold Builtin.SmallTypes.newClass
  wp_walk
  exact h
theorem meets_zipN (ls : List Addr) (xs : Addr → Array Value) : Meets (Builtin.«zip.__new__» ⟨.type "zip" :: ls.map .ref, []⟩) (fun _ R s => (∀ l ∈ ls, s.heap.IsList l (xs l)) ∧ ls.length ≤ 900 ∧
      ∀ h', ZipAt h' (s.heap.objs.size + ls.length + 2) (s.heap.objs.size + ls.length) (s.heap.objs.size + ls.length + 1) (zps ls s.heap.objs.size) 0 → (∀ c o, s.heap.get? c = some o → h'.get? c = some o) → R (.ok (.ret (.ref (s.heap.objs.size + ls.length + 2)))) { s with heap := h' }) :=
  .of_wp fun prog w A R s h => by
    obtain ⟨hl, hn, h⟩ := h
    unfold Builtin.«zip.__new__»
    refine wpAny_bind (wp_newClassZ ?_)
    show wpAny _ _ (Builtin.SmallTypes.iterAll _ >>= _) _ _ _
    refine wpAny_bind (wp_iterAllN hl fun h1 hi hs hk => ?_)
    have hz : (zps ls s.heap.objs.size).length = ls.length := zps_len _ _
    refine wpAny_bind (wpAny_newTuple (s := { s with heap := h1 }) ?_ (by rw [List.length_map, hz]; exact Nat.le_trans hn (by decide)))
    refine wpAny_bind (wpAny_newTuple ?_ (by rw [List.length_map, List.length_map, hz]; exact Nat.le_trans hn (by decide)))
    refine wpAny_bind ?_
    unfold Builtin.SmallTypes.newRecord
    refine wpAny_newObj_type ?_ (by show 5 ≤ _; decide)
    refine wpAny_pure ⟨_, rfl, ?_⟩
    have p1 : (h1.push { cls := .type "tuple", data := .seq ((zps ls s.heap.objs.size).map fun q => Value.ref q.1).toArray }).objs.size = s.heap.objs.size + ls.length + 1 := by rw [Heap.size_push, hs]
    have p2 : ((h1.push { cls := .type "tuple", data := .seq ((zps ls s.heap.objs.size).map fun q => Value.ref q.1).toArray }).push { cls := .type "tuple", data := .seq (((zps ls s.heap.objs.size).map fun q => Value.ref q.1).map fun _ => Value.none).toArray }).objs.size = s.heap.objs.size + ls.length + 2 := by rw [Heap.size_push, p1]
    have R2 := h (((h1.push { cls := .type "tuple", data := .seq ((zps ls s.heap.objs.size).map fun q => Value.ref q.1).toArray }).push { cls := .type "tuple", data := .seq (((zps ls s.heap.objs.size).map fun q => Value.ref q.1).map fun _ => Value.none).toArray }).push
      { cls := .type "zip", dict := none, data := .fields #[.none, .bool false, .bool false, .ref (s.heap.objs.size + ls.length), .ref (s.heap.objs.size + ls.length + 1)], slots := #[] })
      ⟨⟨.none, false, ?_, .inl rfl⟩, ?_, ⟨((zps ls s.heap.objs.size).map fun q => Value.ref q.1).map fun _ => Value.none, by rw [List.length_map, List.length_map], ?_⟩, fun q m => (hi q m).at fun o e => Heap.get?_push_of_some _ (Heap.get?_push_of_some _ (Heap.get?_push_of_some _ e))⟩
      fun c o e => Heap.get?_push_of_some _ (Heap.get?_push_of_some _ (Heap.get?_push_of_some _ (hk c o e)))
    · rw [← p2, ← p1, ← hs] at R2
      exact R2
    · rw [← p2]
      exact Heap.get?_push_size _ rfl
    · rw [← hs]
      exact Heap.get?_push_of_some _ (Heap.get?_push_of_some _ (Heap.get?_push_size _ rfl))
    · rw [← p1]
      exact Heap.get?_push_of_some _ (Heap.get?_push_size _ rfl)
theorem newCall_zipA {vs : List Value} (ne : vs ≠ []) : checkBuiltinCall "zip.__new__" ⟨.type "zip" :: vs, []⟩ = pure () := by
  match vs with
  | [] => exact absurd rfl ne
  | [a] => kernel_rfl
  | a :: b :: r => kernel_rfl
theorem typeCall_zipA (vs : List Value) : checkTypeCall "zip" ⟨vs, []⟩ = pure () := by kernel_rfl
theorem args_objectA (o : Value) (vs : List Value) : argsOk "object.__init__" ⟨o :: vs, []⟩ := by unfold argsOk; kernel_rfl
theorem call_zipN {Q : Value → Shared → Prop} (ne : ls ≠ []) (hn : ls.length ≤ 900) (hl : ∀ l ∈ ls, s.heap.IsList l (xs l))
    (h : ∀ h', ZipAt h' (s.heap.objs.size + ls.length + 2) (s.heap.objs.size + ls.length) (s.heap.objs.size + ls.length + 1) (zps ls s.heap.objs.size) 0 → (∀ c o, s.heap.get? c = some o → h'.get? c = some o) → Q (.ref (s.heap.objs.size + ls.length + 2)) { s with heap := h' }) :
    wpAny (model prog w) A (call (.type "zip") (ls.map .ref)) Q E s := by
  refine callType_new F.called_zip (by decide) (typeCall_zipA _) (newCall_zipA (by simpa using ne)) (fun obj => args_objectA obj _) F.entry_zip_new (meets_zipN ls xs) ⟨hl, hn, fun h' z k => ?_⟩
  obtain ⟨f0, f, hz, _⟩ := z.1
  exact ⟨⟨_, hz, rfl⟩, h h' z k⟩
end
end My
namespace My
open PySem PySem.Spec PyProof.Rows L2
/-- the lists as they stand at each turn, the items in new tuples; all of one length -/
def ItN (K : PySem.W.Frag) (as : List Addr) : It :=
  ⟨fun i H => ∃ xss : Addr → List V, (∀ a ∈ as, SqL K H a (xss a)) ∧ ∀ a ∈ as, i < (xss a).length,
    fun i H v H' => ∃ T vs, v = .ref T ∧ H T = none ∧ H' = upd H T (.tup vs) ∧ ∀ xss : Addr → List V, (∀ a ∈ as, SqL K H a (xss a)) → vs = as.map fun a => (xss a).getD i .non,
    fun i H => ∃ xss : Addr → List V, (∀ a ∈ as, SqL K H a (xss a)) ∧ ∀ a ∈ as, (xss a).length ≤ i⟩
theorem sqls {X : Cx} {pins : List (Addr × Obj)} {σ : L2.St} {H : Hp} {s : Shared} {as : List Addr} {xss : Addr → List V} (I : Inv X pins σ H s) (h : ∀ a ∈ as, SqL X.K H a (xss a)) :
    ∃ xs : Addr → Array Value, ∀ a ∈ as, s.heap.IsList a (xs a) ∧ Vals (xss a) (xs a).toList := by
  have h1 : ∀ a, ∃ x : Array Value, a ∈ as → s.heap.IsList a x ∧ Vals (xss a) x.toList := fun a => by
    by_cases m : a ∈ as
    · obtain ⟨its, rv, p, _⟩ := I.list (h a m)
      exact ⟨its.toArray, fun _ => ⟨p.isList, rv⟩⟩
    · exact ⟨#[], fun m' => absurd m' m⟩
  obtain ⟨f, hf⟩ := Classical.axiomOfChoice h1
  exact ⟨f, hf⟩
theorem zsz {vs : List V} {a : Array Value} (h : Vals vs a.toList) : a.size = vs.length := by
  rw [← Array.length_toList]
  exact h.length.symm
theorem vals_row {xss : Addr → List V} {xs : Addr → Array Value} {i : Nat} : ∀ {ps : List (Addr × Addr)}, (∀ q ∈ ps, Vals (xss q.2) (xs q.2).toList ∧ i < (xss q.2).length) → Vals (ps.map fun q => (xss q.2).getD i .non) (ps.map fun q => (xs q.2).getD i .none)
  | [], _ => .nil
  | q :: ps, h => by
    obtain ⟨h1, h2⟩ := h q List.mem_cons_self
    obtain ⟨u, hu, ru⟩ := h1.get (List.getElem?_eq_getElem h2)
    have e1 : (xss q.2).getD i .non = (xss q.2)[i] := by rw [List.getD_eq_getElem?_getD, List.getElem?_eq_getElem h2]; rfl
    have e2 : (xs q.2).getD i .none = u := by
      rw [Array.getD_eq_getD_getElem?, ← Array.getElem?_toList, hu]
      rfl
    show Vals ((xss q.2).getD i .non :: _) ((xs q.2).getD i .none :: _)
    rw [e1, e2]
    exact .cons ru (vals_row fun r m => h r (List.mem_cons_of_mem _ m))
theorem turn_zipN {P : Program} {w : World} {K : PySem.W.Frag} {tg : Expr} {z TI TO : Addr} {ps : List (Addr × Addr)} (ne : ps ≠ []) (hn : ps.length ≤ 900) (D : ApN z TI TO ps) :
    Turn P w K tg (ItN K (ps.map (·.2))) (z :: TI :: TO :: ps.map (·.1)) z (fun i h => ZipAt h z TI TO ps i) where
  mem := List.mem_cons_self
  obj := fun i h st c hc => by
    obtain ⟨⟨f0, f, hz, _⟩, hTI, ⟨old, _, hTO⟩, hi⟩ := st
    rcases List.mem_cons.mp hc with q | hc
    · rw [q]; exact ⟨_, hz, fun v q => nomatch q⟩
    rcases List.mem_cons.mp hc with q | hc
    · rw [q]; exact ⟨_, hTI, fun v q => nomatch q⟩
    rcases List.mem_cons.mp hc with q | hc
    · rw [q]; exact ⟨_, hTO, fun v q => nomatch q⟩
    obtain ⟨q, mq, rfl⟩ := List.mem_map.mp hc
    obtain ⟨o1, e1, _, d1⟩ := hi q mq
    exact ⟨o1, e1, fun v q => by rw [d1] at q; cases q⟩
  keep := fun i h h' st k => by
    obtain ⟨⟨f0, f, hz, g0⟩, hTI, ⟨old, ho, hTO⟩, hi⟩ := st
    exact ⟨⟨f0, f, k z (by simp) _ hz, g0⟩, k TI (by simp) _ hTI, ⟨old, ho, k TO (by simp) _ hTO⟩, fun q m => (hi q m).at fun o e => k q.1 (by
      refine List.mem_cons_of_mem _ (List.mem_cons_of_mem _ (List.mem_cons_of_mem _ ?_))
      exact List.mem_map_of_mem (f := (·.1)) m) o e⟩
  item := by
    intro X hP hw hK hc i pins s σ H E I hf st hg
    subst hP hw hK
    obtain ⟨xss, hq, hlt⟩ := hg
    have hq' : ∀ q ∈ ps, SqL X.K H q.2 (xss q.2) := fun q m => hq _ (List.mem_map_of_mem (f := (·.2)) m)
    have hlt' : ∀ q ∈ ps, i < (xss q.2).length := fun q m => hlt _ (List.mem_map_of_mem (f := (·.2)) m)
    obtain ⟨xs, hx⟩ := sqls I hq
    have hx' : ∀ q ∈ ps, s.heap.IsList q.2 (xs q.2) ∧ Vals (xss q.2) (xs q.2).toList := fun q m => hx _ (List.mem_map_of_mem (f := (·.2)) m)
    have ⟨⟨f00, f1, hz00, _⟩, _, _, _⟩ := st
    have hzl : z < s.heap.objs.size := Heap.lt_size hz00
    refine next_any (xs := xs) ne hn D st (fun q m => (hx' q m).1) (fun q m => ?_) fun h' U eU st' hT hsz hk => ?_
    · rw [zsz (hx' q m).2]
      exact hlt' q m
    obtain ⟨⟨f0, f, hz, g0⟩, hTI, ⟨old, ho, hTO⟩, hi⟩ := st'
    refine ⟨_, rfl, go_zipN (s := { s with heap := h' }) hz g0 fun h'' f0' hz'' g0' sb => ?_⟩
    subst eU
    have neU : s.heap.objs.size ≠ z := Nat.ne_of_gt hzl
    have hT2 : TupN h'' s.heap.objs.size (ps.map fun q => (xs q.2).getD i .none) := (sb.2 _ neU).trans hT
    have rv := vals_row (xss := xss) (xs := xs) (i := i) (ps := ps) fun q m => ⟨(hx' q m).2, hlt' q m⟩
    have new : ObjOk X.prog X.w (upd H s.heap.objs.size (.tup (ps.map fun q => (xss q.2).getD i .non))) h'' s.heap.objs.size (.tup (ps.map fun q => (xss q.2).getD i .non)) :=
      ⟨by rw [List.length_map]; exact Nat.le_trans hn (by decide), _, rv, ⟨_, hT2, rfl, _, rfl⟩⟩
    have I1 : Inv X pins σ (upd H s.heap.objs.size (.tup (ps.map fun q => (xss q.2).getD i .non))) { s with heap := h'' } :=
      I.turnedNew (t' := s.toks) (ch := z :: TI :: TO :: ps.map (·.1)) (fun c o hb q => (sb.2 c (fun e => hb (by rw [e]; exact List.mem_cons_self))).trans (hk c o (fun e => hb (by rw [e]; exact List.mem_cons_self)) (fun e => hb (by rw [e]; simp)) (fun r m e => hb (by
        rw [e]
        refine List.mem_cons_of_mem _ (List.mem_cons_of_mem _ (List.mem_cons_of_mem _ ?_))
        exact List.mem_map_of_mem (f := (·.1)) m)) q)) hf (Nat.le_refl _) new
    refine ⟨.ref s.heap.objs.size, _, I1, rfl, ⟨_, _, rfl, I.hok.fresh (Nat.le_refl _), rfl, fun xss2 h2 => ?_⟩, ⟨⟨f0', f, hz'', g0'⟩, (sb.2 _ D.a1).trans hTI, ⟨old, ho, (sb.2 _ D.a2).trans hTO⟩, fun q m => (hi q m).at fun o e => (sb.2 _ (D.a4 q m).1).trans e⟩, fun c hcm => ?_⟩
    · rw [List.map_map]
      refine List.map_congr_left fun q m => ?_
      show (xss q.2).getD i .non = (xss2 q.2).getD i .non
      rw [I.list_inj (h2 _ (List.mem_map_of_mem (f := (·.2)) m)) (hq' q m)]
    · have hlt2 : c < s.heap.objs.size := by
        obtain ⟨⟨f0, f, hz, g0⟩, hTI, ⟨old, ho, hTO⟩, hi⟩ := st
        rcases List.mem_cons.mp hcm with q | hc
        · rw [q]; exact hzl
        rcases List.mem_cons.mp hc with q | hc
        · rw [q]; exact Heap.lt_size hTI
        rcases List.mem_cons.mp hc with q | hc
        · rw [q]; exact Heap.lt_size hTO
        obtain ⟨q, mq, rfl⟩ := List.mem_map.mp hc
        obtain ⟨o1, e1, _⟩ := hi q mq
        exact Heap.lt_size e1
      rw [upd_ne (Nat.ne_of_lt hlt2)]
      exact (hf c hcm).1
  done := by
    intro X hP hw hK hc i pins s σ H E I hf st hg
    subst hP hw hK
    obtain ⟨xss, hq, hle⟩ := hg
    obtain ⟨xs, hx⟩ := sqls I hq
    have hx' : ∀ q ∈ ps, s.heap.IsList q.2 (xs q.2) ∧ Vals (xss q.2) (xs q.2).toList := fun q m => hx _ (List.mem_map_of_mem (f := (·.2)) m)
    refine next_stop (xs := xs) (I.ok.hd hc) ne D st (fun q m => (hx' q m).1) (fun q m => ?_) fun h' hk => ⟨rfl, I.turnedL (t' := s.toks) (ch := z :: TI :: TO :: ps.map (·.1)) (fun c o hb q =>
      hk c o (fun e => hb (by rw [e]; exact List.mem_cons_self)) (fun r m e => hb (by
        rw [e]
        refine List.mem_cons_of_mem _ (List.mem_cons_of_mem _ (List.mem_cons_of_mem _ ?_))
        exact List.mem_map_of_mem (f := (·.1)) m)) q) hf⟩
    rw [zsz (hx' q m).2]
    exact hle _ (List.mem_map_of_mem (f := (·.2)) m)
  self := fun A i s Q E st h => by
    obtain ⟨⟨f0, f, hz, _⟩, _⟩ := st
    have hT : s.TypeIs (.ref z) "zip" := ⟨_, hz, rfl⟩
    refine wpAny_pyIter_slot hT F.slot_zip_iter (wpAny_call_entry F.slot_zip_iter hT F.entry_zip_iter ?_ (F.args_zip_iter_1 _))
    show wpAny _ _ (ret (.ref z)) _ _ s
    exact wpAny_pure ⟨_, rfl, "zip", _, hT, F.slot_zip_next.lookup, h⟩
theorem vals_refs : ∀ {as : List Addr} {us : List Value}, Vals (as.map V.ref) us → us = as.map Value.ref
  | [], _, .nil => rfl
  | a :: as, _, .cons r t => by
    cases r
    rw [vals_refs t]
    rfl
/-- the call of zip on lists -/
theorem zipN_made {X : Cx} {pins : List (Addr × Obj)} {σ : L2.St} {H : Hp} {s : Shared} {as : List Addr} {us : List Value} {tg : Expr} {R : It → Hp → Prop} {xss : Addr → List V} (I : Inv X pins σ H s) (ne : as ≠ []) (hn : as.length ≤ 900) (rv : Vals (as.map V.ref) us) (hq : ∀ a ∈ as, SqL X.K H a (xss a)) (q : R (ItN X.K as) H) :
    wpAny (model X.prog X.w) X.A (call (.type "zip") us) (fun v s1 => wpAny (model X.prog X.w) X.A (pyIter v) (PIE X pins σ tg R) X.xe s1) X.xe s := by
  rw [vals_refs rv]
  obtain ⟨xs, hx⟩ := sqls I hq
  have hlt : ∀ l ∈ as, l < s.heap.objs.size := fun l m => by
    obtain ⟨o, ho, _⟩ := (hx l m).1
    exact Heap.lt_size ho
  have nez : zps as s.heap.objs.size ≠ [] := fun e => ne (by rw [← zps_two as s.heap.objs.size, e]; rfl)
  have hnz : (zps as s.heap.objs.size).length ≤ 900 := by rw [zps_len]; exact hn
  refine call_zipN (xs := xs) ne hn (fun l m => (hx l m).1) fun h' st hk => ?_
  have T := turn_zipN (P := X.prog) (w := X.w) (K := X.K) (tg := tg) nez hnz (zps_ap hlt)
  rw [zps_two] at T
  refine T.self _ 0 _ _ _ st ?_
  have I2 : Inv X pins σ H { s with heap := h' } := I.kept (t' := s.toks) hk
  refine ⟨_, _, _, _, H, rfl, I2, T, st, fun c hcm => ?_, q⟩
  have hle : s.heap.objs.size ≤ c := by
    rcases List.mem_cons.mp hcm with q | hc
    · rw [q]; exact Nat.le_trans (Nat.le_add_right _ _) (Nat.le_add_right _ _)
    rcases List.mem_cons.mp hc with q | hc
    · rw [q]; exact Nat.le_add_right _ _
    rcases List.mem_cons.mp hc with q | hc
    · rw [q]; exact Nat.le_trans (Nat.le_add_right _ _) (Nat.le_add_right _ _)
    obtain ⟨q, mq, rfl⟩ := List.mem_map.mp hc
    exact (zps_mem mq).1
  exact I.fpOk hle (I.hok.fresh hle)
def iZipN (K : PySem.W.Frag) (ta : TA) : TI := fun σ H R => ta σ H fun vs H1 => ∃ (as : List Addr) (xss : Addr → List V), vs = as.map V.ref ∧ as ≠ [] ∧ as.length ≤ 900 ∧ (∀ a ∈ as, SqL K H1 a (xss a)) ∧ R (ItN K as) H1
theorem pi_zipN {X : Cx} {tg e : Expr} {es : List Expr} {ta : TA} {p pos : Pos} (hg : Gl X "zip") (hm : X.mg "zip" = none) (ha : PA X (e :: es) ta)
    (hs : starEach (e :: es) X.env = (false, eval e X.env) :: starEach es X.env := by rfl) (hpl : (backTo pos (starEach es X.env)).any (·.1) = false := by rfl) :
    PI X tg (.Call (.Name "zip" p) (e :: es) [] pos) (iZipN X.K ta) := by
  refine ⟨fun pins s σ H R I h => ?_⟩
  refine Call_ (ld_blt I hg hm PyProof.Rows.boot_zip (PyProof.Rows.callWith_type1 (thn (ha.run pos pins s σ H _ I h) fun us s1 ⟨vs, H1, I1, r1, q1⟩ => ?_) hs hpl))
  obtain ⟨as, xss, rfl, ne, hn, hq, q⟩ := q1
  exact zipN_made I1 ne hn r1 hq q
/-- zip(*rows) -/
def iZipS (K : PySem.W.Frag) (te : TE) : TI := fun σ H R => te σ H fun x H1 => ∃ (p : Addr) (as : List Addr) (xss : Addr → List V), x = .ref p ∧ (SqT K H1 p (as.map V.ref) ∨ SqL K H1 p (as.map V.ref)) ∧ as ≠ [] ∧ as.length ≤ 900 ∧ (∀ a ∈ as, SqL K H1 a (xss a)) ∧ R (ItN K as) H1
theorem pi_zipS {X : Cx} {tg e : Expr} {te : TE} {p p2 pos : Pos} (hg : Gl X "zip") (hm : X.mg "zip" = none) (he : PE X e te)
    (hs : starEach [.Starred e p2] X.env = [(true, eval e X.env)] := by rfl) :
    PI X tg (.Call (.Name "zip" p) [.Starred e p2] [] pos) (iZipS X.K te) := by
  refine ⟨fun pins s σ H R I h => ?_⟩
  refine Call_ (ld_blt I hg hm PyProof.Rows.boot_zip ?_)
  rw [hs]
  refine PySem.W.ks_call (P := fun _ => True) rfl (fun h _ => ⟨.machine, .inr (.inl rfl), PySem.W.Looks.of_pure rfl⟩) (PySem.W.ks_lone ?_)
  refine thn (he.run pins s σ H _ I h) fun v s1 ⟨x, H1, I1, r1, q1⟩ => ?_
  obtain ⟨pa, as, xss, rfl, hx, ne, hn, hq, q⟩ := q1
  obtain rfl : v = Value.ref pa := r1
  exact StX.star_any I1 hx fun us s2 I2 rv => ⟨trivial, zipN_made I2 ne hn rv hq q⟩
end My
namespace My
open PySem PySem.Spec PyProof.Rows L2
theorem walk_zipN {K : PySem.W.Frag} {as : List Addr} {xss : Addr → List V} {n : Nat} (hl : ∀ a ∈ as, (xss a).length = n) :
    Walk (ItN K as) n (fun H => ∀ a ∈ as, SqL K H a (xss a)) (fun i H v H' => ∃ T, v = .ref T ∧ H T = none ∧ H' = upd H T (.tup (as.map fun a => (xss a).getD i .non))) :=
  ⟨fun i H hi q => ⟨xss, q, fun a m => by rw [hl a m]; exact hi⟩, fun H q => ⟨xss, q, fun a m => by rw [hl a m]; exact Nat.le_refl _⟩, fun i H v H' _ q y => by
    obtain ⟨T, vs, h1, h2, h3, h4⟩ := y
    exact ⟨T, h1, h2, by rw [h3, h4 xss q]⟩⟩
end My
namespace My
open PySem PySem.Spec PyProof.Rows L2
/-! ### dict comprehensions whose keys are tuples -/
/-- key, value, the dict, the heap: what is asked so that the pair may be put in -/
abbrev TPut := V → V → Addr → Hp → (Hp → Prop) → Prop
def putT : TPut := fun y z D G N => ∃ (kvs : List (List Key × V)) (ks : List Key) (b : Addr), y = .ref b ∧ G D = some (.dT kvs) ∧ G b = some (.tup (ks.map kV)) ∧ kvs.length < sizeLine ∧ N (upd G D (.dT (putK kvs ks z)))
theorem put_in {Y : Cx} {ps : List (Addr × Obj)} {τ : L2.St} {G : Hp} {sh : Shared} {EE : Value → Shared → Prop} {D : Addr} {y z : V} {uy uz : Value} {N : Hp → Prop} {QQ : Unit → Shared → Prop} (room : Y.A.units < cLine)
    (inv : Inv Y ps τ G sh) (ry : RelV y uy) (rz : RelV z uz) (wish : putT y z D G N) (go : ∀ sh' G', Inv Y ps τ G' sh' → N G' → QQ () sh') : wpAny (model Y.prog Y.w) Y.A (dictSet D uy uz) QQ EE sh := by
  obtain ⟨kvs, ks, b, rfl, eD, eb, few, n⟩ := wish
  obtain rfl : uy = Value.ref b := ry
  obtain ⟨_, nosys, xs, same, dd⟩ := dt_of inv.hok eD
  have lx : xs.length ≤ sizeLine := by
    have := Paired.length same
    omega
  have lp := length_putK kvs ks z
  refine wpAny_dictSet_heap (hsz := lx) room (key_of inv.hok eb) dd fun hp' stands but => go _ _ ?_ n
  obtain ⟨ob, ents, ep, g1, g2, g3, g4, _, g5⟩ := stands
  have lay : KT (upd G D (.dT (putK kvs ks z))) (putK kvs ks z) (storedH xs ks b uz) := (same.put ks eb rz).keeps fun c ys ec => by
    rw [upd_ne (ne_of ec eD (fun q => nomatch q))]
    exact ec
  exact d_write inv (by rw [eD]; exact True.intro) but ⟨ob, g1⟩ ⟨by omega, nosys, _, lay, ob, ents, ep, g1, g2, g3, g4, g5⟩
/-- {k: v for target in iter if ..}, the keys tuples: D the new dict -/
def tDcT (wi : TI) (g : TG) (tt : TT) (tk tv : TE) (vs : List Nat) : TE := fun σ G Q => wi σ G fun J G1 => ∀ D, G1 D = none → ∃ W : Nat → Nat → Hp → Prop, (∃ m, W 0 m (upd G1 D (.dT []))) ∧ ∀ i m G2, W i m G2 →
  (J.stop i G2 ∧ Q (.ref D) G2) ∨ (J.go i G2 ∧ ∃ N : Hp → Prop, (∀ G', N G' → ∃ m', m' < m ∧ W (i + 1) m' G') ∧ ∀ x G', J.yld i G2 x G' → g x (wipe σ vs) G' fun τ G3 => wipe τ vs = wipe σ vs ∧ tt τ G3 fun b G4 =>
    if b = true then tk τ G4 fun y G5 => tv τ G5 fun z G6 => putT y z D G6 N else N G4)
section
variable {X : Cx}
theorem dcT_core {pins : List (Addr × Obj)} {s : Shared} {σ : L2.St} {H : Hp} {Q : VK} {kx vx tg src : Expr} {ifs : List Expr} {sc : Scope} {own : List (Str × Nat)} {pos at_ : Pos} {wi : TI} {g : TG} {tt : TT} {tk tv : TE} {use : Option (Value → Sem Unit)} {Qf : Value → Shared → Prop}
    (calm : X.calm = true) (room : X.A.units < cLine) (nd : X.N.Nodup) (I : Inv X pins σ H s) (walks : PI X tg src wi) (blk : BlkOk X.N X.env.scope sc own)
    (hg : ∀ (z : Shared) (G : Hp) (C : Addr) (cl : List (Str × Addr)) (fp : List Addr), PG (X.blk z G sc (compEnvC sc cl C X.env) fp) tg g) (ht : ∀ (z : Shared) (G : Hp) (C : Addr) (cl : List (Str × Addr)) (fp : List Addr), PTs (X.blk z G sc (compEnvC sc cl C X.env) fp) ifs tt)
    (hk : ∀ (z : Shared) (G : Hp) (C : Addr) (cl : List (Str × Addr)) (fp : List Addr), PE (X.blk z G sc (compEnvC sc cl C X.env) fp) kx tk) (hv : ∀ (z : Shared) (G : Hp) (C : Addr) (cl : List (Str × Addr)) (fp : List Addr), PE (X.blk z G sc (compEnvC sc cl C X.env) fp) vx tv)
    (plain : ∀ x, foldedSetIterable src X.env x = pure x) (h : tDcT wi g tt tk tv (own.map (·.2)) σ H Q)
    (back : ∀ D C z m G, Inv X pins σ G z → Q (.ref D) G → z.heap.Ns C m → FpOk X pins G C → compPost (model X.prog X.w) X.A X.xe use Qf (.ref D) C (.ok .next) z) :
    wpAny (model X.prog X.w) X.A (comprehension (.DictComp kx vx [⟨tg, src, ifs, 0⟩] sc pos) sc X.env at_ newDict false (eval src X.env) use) Qf X.xe s := by
  have clo : ∀ y ∈ sc.names, y.2 = .free → ∃ c, X.env.cells.lookup y.1 = some c := fun y hy e => (blk.free y hy e).elim (fun k => I.ok.has _ (.inl k)) fun k => I.ok.has _ (.inr k)
  refine wpAny_comprehension_free (use := use) rfl plain (closure_ok clo) blk.kind (fun y hy e => by rw [blk.uniq y hy, e]) (thn (walks.run pins s σ H _ I h) fun xv sa ha => thn ha fun itv sb hb => ?_)
  obtain ⟨it, fp, tn, J, Hb, rfl, Ib, T, tb, fb, ask⟩ := hb
  refine wpAny_newObj_type (newEnv_comp ?_)
  have youngD : Hb sb.heap.objs.size = none := Ib.hok.fresh (Nat.le_refl _)
  obtain ⟨W, ⟨m0, w0⟩, turn⟩ := ask sb.heap.objs.size youngD
  generalize eD : sb.heap.objs.size = D at youngD w0 turn
  obtain ⟨sc0, esc0⟩ : ∃ z : Shared, z = { sb with heap := sb.heap.push { cls := .type "dict", data := .dict #[] } } := ⟨_, rfl⟩
  have hpc : sc0.heap = sb.heap.push { cls := .type "dict", data := .dict #[] } := congrArg Shared.heap esc0
  have older : ∀ b o, sb.heap.get? b = some o → sc0.heap.get? b = some o := fun b o e => hpc ▸ Heap.get?_push_of_some _ e
  obtain ⟨Hc, eHc⟩ : ∃ G : Hp, G = upd Hb D (.dT []) := ⟨_, rfl⟩
  have Ic : Inv X pins σ Hc sc0 := by
    subst esc0 eHc eD
    exact Ib.laid (t' := sb.toks) (fun b o e => Heap.get?_push_of_some _ e) (Nat.le_refl _) (dt_empty sb.heap Ib.big)
  have inside : ∀ b ∈ fp, b < sb.heap.objs.size := fun b hb => (T.obj _ _ tb b hb).elim fun o q => Heap.lt_size q.1
  have okc : ∀ b ∈ fp, FpOk X pins Hc b ∧ b < sc0.heap.objs.size := fun b hb => by
    have lt := inside b hb
    have nb : b ≠ D := eD ▸ Nat.ne_of_lt lt
    exact ⟨⟨by rw [eHc, upd_ne nb]; exact (fb b hb).1, (fb b hb).2⟩, by rw [hpc, Heap.size_push]; exact Nat.lt_succ_of_lt lt⟩
  have tc : tn 0 sc0.heap := T.keep _ _ _ tb fun b _ o e => older b o e
  have Id := block_start Ic blk nd okc
  rw [← eHc] at w0
  obtain ⟨cl, ecl⟩ : ∃ c, c = cellsFrom (sc0.heap.objs.size + 1) sc.names (cloFrom X.env.cells sc.names []) := ⟨_, rfl⟩
  rw [← ecl] at Id
  obtain ⟨ce, ece⟩ : ∃ c, c = compEnvC sc cl sc0.heap.objs.size X.env := ⟨_, rfl⟩
  have g0 := hg sc0 Hc sc0.heap.objs.size cl fp
  have t0 := ht sc0 Hc sc0.heap.objs.size cl fp
  have k0 := hk sc0 Hc sc0.heap.objs.size cl fp
  have v0 := hv sc0 Hc sc0.heap.objs.size cl fp
  rw [← ece] at Id g0 t0 k0 v0
  have locs : ce.locals = sc0.heap.objs.size := by rw [ece]; rfl
  obtain ⟨sd, esd⟩ : ∃ z : Shared, z = { sc0 with heap := pushCells (sc0.heap.push { cls := .type "dict", data := .dict #[] }) sc.names } := ⟨_, rfl⟩
  rw [← esd] at Id
  have td : tn 0 sd.heap := T.keep _ _ _ tc fun b _ o e => by rw [esd]; exact pushCells_keeps _ _ _ _ (Heap.get?_push_of_some _ e)
  have noFp : ∀ b ∈ fp, Hc b = none := fun b hb => (okc b hb).1.1
  have still : ∀ {τ : L2.St} {G : Hp} {z : Shared}, Inv (X.blk sc0 Hc sc ce fp) [] τ G z → (∀ b ∈ fp, G b = none) → ∀ b ∈ fp, FpOk (X.blk sc0 Hc sc ce fp) [] G b := fun {τ G z} J0 no b hb =>
    ⟨no b hb, (J0.ok.exf b hb).1, J0.ok.exfs b hb, .inl hb, fun x c e => (J0.ok.exf b hb).2 x c e, fun p hp => absurd (show p ∈ ([] : List (Addr × Obj)) ++ [] from hp) (by simp)⟩
  suffices loop : codeAny (model X.prog X.w) X.A (.compLoop (.DictComp kx vx [⟨tg, src, ifs, 0⟩] sc pos) 0 (.ref it) (.ref D) ce) (compPost (model X.prog X.w) X.A X.xe use Qf (.ref D) sc0.heap.objs.size) sd by
    have fin := codeAny_compStart_dict loop (T.self X.A 0 _ _ _ td loop)
    subst ece ecl esd eHc esc0 eD
    exact fin
  refine compLoop_anyD (fun n z => ∃ i G, Inv (X.blk sc0 Hc sc ce fp) [] (wipe σ (own.map (·.2))) G z ∧ tn i z.heap ∧ (∀ b ∈ fp, G b = none) ∧ W i n G) ?_ m0 ⟨0, Hc, Id, td, noFp, w0⟩
  rintro n z1 ⟨i, G1, I1, t1, n1, w1⟩
  rcases turn i n G1 w1 with ⟨stop, over⟩ | ⟨goes, N, dec, step⟩
  · refine thnF (T.done (X.blk sc0 Hc sc ce fp) rfl rfl rfl calm i [] z1 _ G1 (fun _ _ => False) I1 (still I1 n1) t1 stop) fun r z2 ⟨er, I2⟩ => ?_
    subst er
    have Iz : Inv X pins σ G1 z2 := Ic.call' (ch := fp) I2.os I2.base I2.hok I2.bare fun b hb => ⟨(okc b hb).1.2.2.2.1, (okc b hb).1.2.1, (okc b hb).1.2.2.2.2.1, (okc b hb).1.2.2.2.2.2⟩
    have noC : G1 sc0.heap.objs.size = none := locs ▸ (show G1 ce.locals = none from I2.free)
    obtain ⟨m, hns, _⟩ := I2.loc
    exact back D sc0.heap.objs.size z2 m G1 Iz over (locs ▸ (show z2.heap.Ns ce.locals m from hns)) (Ic.fpOk (Nat.le_refl _) noC)
  · refine thnF (T.item (X.blk sc0 Hc sc ce fp) rfl rfl rfl calm i [] z1 _ G1 (fun _ _ => False) I1 (still I1 n1) t1 goes) fun r z2 ⟨u, er, h2⟩ => ?_
    subst er
    refine thnF h2 fun _ z3 ⟨x, G3, I3, r3, y3, t3, n3⟩ => ?_
    have I3p := I3.pinned (still I3 n3) (T.obj _ _ t3)
    refine thnF (g0.run _ z3 _ G3 x u _ I3p r3 (step x G3 y3)) fun _ z4 ⟨τ, G4, I4, wp, h4⟩ => ?_
    refine thnF (t0.run _ z4 τ G4 _ I4 h4) fun b z5 ⟨G5, I5, h5⟩ => ?_
    have next : ∀ {z : Shared} {G : Hp}, Inv (X.blk sc0 Hc sc ce fp) ([] ++ pinsAt fp z3.heap) τ G z → N G → ∃ m, m < n ∧ ∃ j G', Inv (X.blk sc0 Hc sc ce fp) [] (wipe σ (own.map (·.2))) G' z ∧ tn j z.heap ∧ (∀ b ∈ fp, G' b = none) ∧ W j m G' := fun {z G} J0 nx => by
      obtain ⟨m', lt, w2⟩ := dec G nx
      have held : ∀ b ∈ fp, ∀ o, z3.heap.get? b = some o → z.heap.get? b = some o ∧ G b = none := fun b hb o e => by
        have q := J0.pin (b, o) (List.mem_append_right _ (List.mem_append_right _ (mem_pinsAt hb e)))
        exact ⟨q.1, q.2.1⟩
      refine ⟨m', lt, i + 1, G, (J0.unpinned (pins := [])).weak (by rw [← wp, wipe_length]) (fun j v e => (wipe_some (wp.symm ▸ e)).1), T.keep _ _ _ t3 fun b hb o e => (held b hb o e).1, fun b hb => ?_, w2⟩
      obtain ⟨o, e, _⟩ := T.obj _ _ t3 b hb
      exact (held b hb o e).2
    have h5 : if b = true then (tk τ G5 fun y G6 => tv τ G6 fun z G7 => putT y z D G7 N) else N G5 := h5
    by_cases yes : b = true
    · subst yes
      rw [if_pos rfl] at h5 ⊢
      refine thnF (k0.run _ z5 τ G5 _ I5 h5) fun uk z6 ⟨yk, G6, I6, r6, h6⟩ => ?_
      refine thnF (v0.run _ z6 τ G6 _ I6 h6) fun uv z7 ⟨yv, G7, I7, r7, h7⟩ => ?_
      exact put_in (Y := X.blk sc0 Hc sc ce fp) room I7 r6 r7 h7 fun z8 G8 I8 nx => next I8 nx
    · rw [if_neg yes] at h5 ⊢
      exact next I5 h5
theorem pe_dcT {kx vx tg src : Expr} {ifs : List Expr} {sc : Scope} {own : List (Str × Nat)} {pos : Pos} {wi : TI} {g : TG} {tt : TT} {tk tv : TE} (calm : X.calm = true) (room : X.A.units < cLine) (nd : X.N.Nodup) (walks : PI X tg src wi) (blk : BlkOk X.N X.env.scope sc own)
    (hg : ∀ (z : Shared) (G : Hp) (C : Addr) (cl : List (Str × Addr)) (fp : List Addr), PG (X.blk z G sc (compEnvC sc cl C X.env) fp) tg g) (ht : ∀ (z : Shared) (G : Hp) (C : Addr) (cl : List (Str × Addr)) (fp : List Addr), PTs (X.blk z G sc (compEnvC sc cl C X.env) fp) ifs tt)
    (hk : ∀ (z : Shared) (G : Hp) (C : Addr) (cl : List (Str × Addr)) (fp : List Addr), PE (X.blk z G sc (compEnvC sc cl C X.env) fp) kx tk) (hv : ∀ (z : Shared) (G : Hp) (C : Addr) (cl : List (Str × Addr)) (fp : List Addr), PE (X.blk z G sc (compEnvC sc cl C X.env) fp) vx tv)
    (plain : ∀ x, foldedSetIterable src X.env x = pure x := by intro _; rfl) : PE X (.DictComp kx vx [⟨tg, src, ifs, 0⟩] sc pos) (tDcT wi g tt tk tv (own.map (·.2))) := by
  refine ⟨fun pins s σ H Q I h => ?_⟩
  rw [arm_eval_DictComp]
  refine dcT_core calm room nd I walks blk hg ht hk hv plain h fun D C z m G J0 q ns fp => ⟨m, ns, fun hp gone => ?_⟩
  exact ⟨.ref D, G, J0.turned (t' := z.toks) (fun b o hb e => (gone.2 b hb).trans e) fp.1 fp.2.1 fp.2.2.2.1 fp.2.2.2.2.1 fp.2.2.2.2.2, rfl, q⟩
end
end My
namespace My
open PySem PySem.Spec PyProof.Rows L2
section
variable {J : It} {n : Nat} {G : Hp → Prop} {Y : Nat → Hp → V → Hp → Prop}
/-- over a walk, no test: P by the turn and the heap -/
theorem dcT_it (w : Walk J n G Y) {g : TG} {tk tv : TE} {vs : List Nat} {σ : L2.St} {H1 : Hp} {D : Addr} {Qd : Hp → Prop} (P : Nat → Hp → Prop) (h0 : P 0 (upd H1 D (.dT []))) (hG : ∀ i H, i ≤ n → P i H → G H)
    (turn : ∀ i x H H', i < n → P i H → Y i H x H' → g x (wipe σ vs) H' fun τ H2 => wipe τ vs = wipe σ vs ∧ tk τ H2 fun y H3 => tv τ H3 fun z H4 => putT y z D H4 (P (i + 1))) (hd : ∀ H, P n H → Qd H) :
    ∃ W : Nat → Nat → Hp → Prop, (∃ m, W 0 m (upd H1 D (.dT []))) ∧ ∀ i m G2, W i m G2 →
      (J.stop i G2 ∧ Qd G2) ∨ (J.go i G2 ∧ ∃ N : Hp → Prop, (∀ G', N G' → ∃ m', m' < m ∧ W (i + 1) m' G') ∧ ∀ x G', J.yld i G2 x G' → g x (wipe σ vs) G' fun τ G3 => wipe τ vs = wipe σ vs ∧ tYes τ G3 fun b G4 =>
        if b = true then tk τ G4 fun y G5 => tv τ G5 fun z G6 => putT y z D G6 N else N G4) := by
  refine ⟨fun i m H => i ≤ n ∧ m = n - i ∧ P i H, ⟨n, Nat.zero_le _, rfl, h0⟩, ?_⟩
  rintro i m H ⟨hi, rfl, p⟩
  rcases Nat.lt_or_ge i n with lt | ge
  · refine .inr ⟨w.goes i H lt (hG i H hi p), P (i + 1), fun H' q => ⟨n - (i + 1), by omega, lt, rfl, q⟩, fun x H' y => ?_⟩
    exact turn i x H H' lt p (w.yields i H x H' lt (hG i H hi p) y)
  · obtain rfl : i = n := by omega
    exact .inl ⟨w.stops H (hG i H hi p), hd H p⟩
end
end My
namespace My
open PySem PySem.Spec PyProof.Rows L2
section
variable {J J1 : It} {n n1 : Nat} {G G1 : Hp → Prop} {Y Y1 : Nat → Hp → V → Hp → Prop}
/-- the outer walk of a comprehension with two for, no test at the outer one -/
theorem lc2_it (w : Walk J n G Y) {g g1 : TG} {tt1 : TT} {te : TE} {wi1 : TI} {vs vs1 : List Nat} {σ : L2.St} {H1 : Hp} {D : Addr} {Qd : Hp → Prop} (P : Nat → Hp → Prop) (h0 : P 0 (upd H1 D (.lst []))) (hG : ∀ i H, i ≤ n → P i H → G H)
    (turn : ∀ i x H H', i < n → P i H → Y i H x H' → g x (wipe σ vs) H' fun τ H2 => wipe τ vs = wipe σ vs ∧ wi1 τ H2 fun J1 H3 => ∃ W1 : Nat → Nat → Hp → Prop, (∃ m, W1 0 m H3) ∧ ∀ j k H, W1 j k H →
      (J1.stop j H ∧ P (i + 1) H) ∨ (J1.go j H ∧ ∃ N1 : Hp → Prop, (∀ H', N1 H' → ∃ k', k' < k ∧ W1 (j + 1) k' H') ∧ ∀ x H', J1.yld j H x H' → g1 x (wipe τ vs1) H' fun τ3 H5 => wipe τ3 vs1 = wipe τ vs1 ∧ tt1 τ3 H5 fun b H6 =>
        if b = true then te τ3 H6 fun y H7 => ∃ acc, H7 D = some (.lst acc) ∧ acc.length < sizeLine ∧ N1 (upd H7 D (.lst (acc ++ [y]))) else N1 H6)) (hd : ∀ H, P n H → Qd H) :
    ∃ W : Nat → Nat → Hp → Prop, (∃ m, W 0 m (upd H1 D (.lst []))) ∧ ∀ i m G2, W i m G2 →
      (J.stop i G2 ∧ Qd G2) ∨ (J.go i G2 ∧ ∃ N : Hp → Prop, (∀ G', N G' → ∃ m', m' < m ∧ W (i + 1) m' G') ∧ ∀ x G', J.yld i G2 x G' → g x (wipe σ vs) G' fun τ G3 => wipe τ vs = wipe σ vs ∧ tYes τ G3 fun b G4 =>
        if b = true then wi1 τ G4 fun J1 H4 => ∃ W1 : Nat → Nat → Hp → Prop, (∃ m, W1 0 m H4) ∧ ∀ j k H, W1 j k H →
          (J1.stop j H ∧ N H) ∨ (J1.go j H ∧ ∃ N1 : Hp → Prop, (∀ H', N1 H' → ∃ k', k' < k ∧ W1 (j + 1) k' H') ∧ ∀ x H', J1.yld j H x H' → g1 x (wipe τ vs1) H' fun τ3 H5 => wipe τ3 vs1 = wipe τ vs1 ∧ tt1 τ3 H5 fun b H6 =>
            if b = true then te τ3 H6 fun y H7 => ∃ acc, H7 D = some (.lst acc) ∧ acc.length < sizeLine ∧ N1 (upd H7 D (.lst (acc ++ [y]))) else N1 H6)
        else N G4) := by
  refine ⟨fun i m H => i ≤ n ∧ m = n - i ∧ P i H, ⟨n, Nat.zero_le _, rfl, h0⟩, ?_⟩
  rintro i m H ⟨hi, rfl, p⟩
  rcases Nat.lt_or_ge i n with lt | ge
  · refine .inr ⟨w.goes i H lt (hG i H hi p), P (i + 1), fun H' q => ⟨n - (i + 1), by omega, lt, rfl, q⟩, fun x H' y => ?_⟩
    exact turn i x H H' lt p (w.yields i H x H' lt (hG i H hi p) y)
  · obtain rfl : i = n := by omega
    exact .inl ⟨w.stops H (hG i H hi p), hd H p⟩
/-- the inner walk, no test -/
theorem lc2_in (w : Walk J1 n1 G1 Y1) {g1 : TG} {te : TE} {vs1 : List Nat} {τ : L2.St} {H3 : Hp} {D : Addr} {Nx : Hp → Prop} (P : Nat → Hp → Prop) (h0 : P 0 H3) (hG : ∀ j H, j ≤ n1 → P j H → G1 H)
    (turn : ∀ j x H H', j < n1 → P j H → Y1 j H x H' → g1 x (wipe τ vs1) H' fun τ3 H5 => wipe τ3 vs1 = wipe τ vs1 ∧ te τ3 H5 fun y H7 => ∃ acc, H7 D = some (.lst acc) ∧ acc.length < sizeLine ∧ P (j + 1) (upd H7 D (.lst (acc ++ [y])))) (hd : ∀ H, P n1 H → Nx H) :
    ∃ W1 : Nat → Nat → Hp → Prop, (∃ m, W1 0 m H3) ∧ ∀ j k H, W1 j k H →
      (J1.stop j H ∧ Nx H) ∨ (J1.go j H ∧ ∃ N1 : Hp → Prop, (∀ H', N1 H' → ∃ k', k' < k ∧ W1 (j + 1) k' H') ∧ ∀ x H', J1.yld j H x H' → g1 x (wipe τ vs1) H' fun τ3 H5 => wipe τ3 vs1 = wipe τ vs1 ∧ tYes τ3 H5 fun b H6 =>
        if b = true then te τ3 H6 fun y H7 => ∃ acc, H7 D = some (.lst acc) ∧ acc.length < sizeLine ∧ N1 (upd H7 D (.lst (acc ++ [y]))) else N1 H6) := by
  refine ⟨fun j k H => j ≤ n1 ∧ k = n1 - j ∧ P j H, ⟨n1, Nat.zero_le _, rfl, h0⟩, ?_⟩
  rintro j k H ⟨hj, rfl, p⟩
  rcases Nat.lt_or_ge j n1 with lt | ge
  · refine .inr ⟨w.goes j H lt (hG j H hj p), P (j + 1), fun H' q => ⟨n1 - (j + 1), by omega, lt, rfl, q⟩, fun x H' y => ?_⟩
    exact turn j x H H' lt p (w.yields j H x H' lt (hG j H hj p) y)
  · obtain rfl : j = n1 := by omega
    exact .inl ⟨w.stops H (hG j H hj p), hd H p⟩
end
end My
namespace My
open PySem PySem.Spec PyProof.Rows L2
/-- a list walked within a comprehension: the written part told -/
theorem pi_listC {X : Cx} {K : PySem.W.Frag} {e tg : Expr} {te : TE} (hK : X.K = K) (h : PE X e te) : PI X tg e (iList K te) := by
  subst hK
  exact pi_list h
end My
namespace My
open PySem PySem.Spec PyProof.Rows L2
/-! ### sorted(text) -/
def signs (z : Str) : List Str := z.cps.toList.map fun c => ⟨#[c]⟩
theorem call_sortedT {X : Cx} (calm : X.calm = true) : CallR X (.builtin "sorted") (fun xs H Q => ∃ z : Str, xs = [.str z] ∧ z.cps.size < 64 ∧ ∀ ys p, ys.Perm (signs z) → sortedS ys = true → H p = none → Q (.ref p) (upd H p (.lst (ys.map V.str)))) := by
  intro pins s σ H xs us Q I r ask
  obtain ⟨z, ex, few, go⟩ := ask
  subst ex
  obtain ⟨u, rfl, ru⟩ := vals1 r
  obtain ⟨t, rfl⟩ := ru
  have room : z.cps.size ≤ sizeLine := by rw [sizeLine_eq]; omega
  refine Calls.call_function_entry kind_sorted plain_sorted entry_sorted (args_sorted1 _) ?_
  unfold Builtin.«sorted»
  refine wpAny_bind (m := checkCount "sorted" 1 1 _) (wpAny_pure (wpAny_bind ?_))
  refine wpAny_collect_str (A := X.A.in1) (I.ok.hd calm) z t (fun s1 acc old hg hdr hos its => ?_) room
  obtain ⟨h1, g1, d1, t1, o1⟩ := s1
  obtain rfl : g1 = s.gens := hg
  obtain rfl : d1 = s.drawn := hdr
  obtain rfl : o1 = s.os := hos
  have I1 : Inv X pins σ H { s with heap := h1, toks := t1 } := I.kept old
  have many : acc.toList.length = (signs z).length := by
    unfold signs
    rw [Array.length_toList, its.1, List.length_map, Array.length_toList]
  have all : StrsAre acc.toList (signs z) := strs_at many fun j v e => by
    obtain ⟨c, tt, e1, e2⟩ := its.2 j v (by rw [← Array.getElem?_toList]; exact e)
    refine ⟨⟨#[c]⟩, tt, ?_, e2⟩
    unfold signs
    rw [List.getElem?_map, Array.getElem?_toList, e1]
    rfl
  have few2 : acc.toList.length < 64 := by rw [Array.length_toList, its.1]; exact few
  have at_ : (h1.push (seqObj "list" acc.toList.toArray 0)).get? h1.objs.size = some (seqObj "list" acc.toList.toArray 0) := Heap.get?_push_size _ rfl
  refine wpAny_bind (wpAny_newList ?_ (by rw [sizeLine_eq]; omega))
  show wpAny _ _ _ _ _ ({ s with heap := h1.push (seqObj "list" acc.toList.toArray 0), toks := t1 } : Shared)
  refine wpAny_bind (wpAny_holding (wpAny_call_entry slot_list_sort ⟨_, at_, rfl⟩ entry_list_sort (list_sort_treeK strKind_oneLt (s := { s with heap := h1.push (seqObj "list" acc.toList.toArray 0), toks := t1 }) at_ all.keysOf
    (fun a b l e => keyKind_strs (by rw [← e]; exact all)) few2 fun st pm so => ⟨_, rfl, ?_⟩) (args_list_sort _)))
  obtain ⟨ys, k1, k2, k3⟩ := sorted_out_str all pm so
  obtain ⟨ep, k4⟩ := sortedHeap_at (vs := acc.toList) (out := (arrOf st).map (·.2)) at_
  have fit : (ys.map V.str).length ≤ sizeLine := by
    have := k2.length_eq
    rw [List.length_map, this, ← many, sizeLine_eq]
    omega
  have young : ∀ b u, h1.get? b = some u → (sortedHeap (h1.push (seqObj "list" acc.toList.toArray 0)) h1.objs.size acc.toList ((arrOf st).map (·.2))).get? b = some u := fun b u e => by
    have lt : b < h1.objs.size := Heap.lt_size e
    rw [sortedHeap_old (Nat.ne_of_lt lt) (by rw [size_push']; exact Nat.lt_succ_of_lt lt)]
    exact Heap.get?_push_of_some _ e
  exact wpAny_pure ⟨_, rfl, .ref h1.objs.size, upd H h1.objs.size (.lst (ys.map V.str)), I1.laid (t' := t1) young (Nat.le_refl _)
    (show ObjOk X.prog X.w _ _ _ (.lst (ys.map V.str)) from ⟨fit, ((arrOf st).map (·.2)).toList, ep, vals_of_strs k1, by rw [Array.toArray_toList]; exact k4⟩), rfl, go ys _ k2 k3 (I1.hok.fresh (Nat.le_refl _))⟩
/-! ### text[::-1] -/
def revS (z : Str) : Str := ⟨z.cps.toList.reverse.toArray⟩
theorem revS_size (z : Str) : (revS z).cps.size = z.cps.size := by
  show z.cps.toList.reverse.toArray.size = _
  rw [List.size_toArray, List.length_reverse, Array.length_toList]
theorem rev_picked (z : Str) (t : Tok) : (slicePicked z none none (some (-1, t))).filterMap (z.cps[·]?) = z.cps.toList.reverse := by
  have e : slicePicked z none none (some (-1, t)) = sliceRange ((z.length : Int) - 1) (-1) (-1) := rfl
  rw [e, PySem.W.krv_sliceRange, PySem.W.krv_range, List.filterMap_reverse]
  exact congrArg List.reverse (PySem.W.krv_all z.cps)
def tRevS (te : TE) : TE := fun σ H Q => te σ H fun x H1 => ∃ z, x = .str z ∧ z.length ≤ sizeLine ∧ Q (.str (revS z)) H1
theorem pe_revS {X : Cx} {e : Expr} {te : TE} {k : Nat} {p1 p2 p3 pos : Pos} (he : PE X e te) : PE X (.Subscript e (.Slice none none (some (.UnaryOp .USub (.Constant (.int 1) k p1) p2)) p3) pos) (tRevS te) := by
  have step : PO X (some (.UnaryOp .USub (.Constant (.int 1) k p1) p2)) (tPart (tUn (rU fun i => .int (-i)) (tC (.int 1)))) := po_some (pe_un un_neg pe_int)
  refine ⟨fun pins s σ H Q I ask => Subscript_ (thn (he.run pins s σ H _ I ask) fun v sa ⟨x, Ha, Ia, ra, z, ex, fit, go⟩ => ?_)⟩
  subst ex
  obtain ⟨t, rfl⟩ := ra
  refine wpAny_Slice (thn (po_none.run pins sa σ Ha (fun o G => o = none ∧ G = Ha) Ia ⟨rfl, rfl⟩) fun v1 sb ⟨o1, Hb, Ib, q1, w1, w2⟩ => ?_)
  subst w1 w2
  refine thn (po_none.run pins sb σ Hb (fun o G => o = none ∧ G = Hb) Ib ⟨rfl, rfl⟩) fun v2 sc ⟨o2, Hc, Ic, q2, w1, w2⟩ => ?_
  subst w1 w2
  refine thn (step.run pins sc σ Hc (fun o G => o = some (-1) ∧ G = Hc) Ic ⟨1, rfl, -1, rfl, rfl, rfl⟩) fun v3 sd ⟨o3, Hd, Id, q3, w1, w2⟩ => ?_
  subst w1 w2
  obtain ⟨l1, rfl, m1⟩ := IsPart.raw q1
  obtain ⟨l2, rfl, m2⟩ := IsPart.raw q2
  obtain ⟨l3, rfl, m3⟩ := IsPart.raw q3
  obtain rfl : l1 = none := by
    cases l1 with
    | none => rfl
    | some a => cases m1
  obtain rfl : l2 = none := by
    cases l2 with
    | none => rfl
    | some a => cases m2
  obtain ⟨⟨i3, t3⟩, rfl⟩ : ∃ a, l3 = some a := by
    cases l3 with
    | none => cases m3
    | some a => exact ⟨a, rfl⟩
  obtain rfl : i3 = -1 := Option.some.inj m3
  have Ie : Inv X pins σ Hd { sd with heap := sd.heap.push { cls := .type "slice", data := .fields #[partValue none, partValue none, partValue (some (-1, t3))] } } := Id.kept (t' := sd.toks) fun b ob q => Heap.get?_push_of_some _ q
  refine tail_any (ops := [.str z t, .ref sd.heap.objs.size]) (typeIs_str _ z t) (F.slot_str_getitem.lookup) ?_ (by with_unfolding_all rfl)
  refine wpAny_getItem_str_slice (l := none) (u := none) (st := some (-1, t3)) ⟨_, Heap.get?_push_size _ rfl, rfl, rfl⟩ rfl ?_
  show Made.post (if ((-1 : Int) == 1 && (slicePicked z none none (some (-1, t3))).length == z.length) = true then Made.val (.str z t) else Made.str ⟨((slicePicked z none none (some (-1, t3))).filterMap (z.cps[·]?)).toArray⟩) _ _
  rw [if_neg (by rw [show ((-1 : Int) == 1) = false from rfl, Bool.false_and]; decide), rev_picked]
  exact ⟨by show (revS z).cps.size ≤ _; rw [revS_size]; exact fit, .str (revS z), Hd, Ie.tok _, ⟨_, rfl⟩, go⟩
/-! ### sum and min of a tuple of numbers -/
section
variable {X : Cx}
theorem tup_iter {A : Around} {E : Value → Shared → Prop} {s : Shared} {prog : Program} {w : World} {l : Addr} {its : Array Value} {Q : Value → Shared → Prop} (hl : s.heap.IsTuple l its)
    (h : ∀ sb : Shared, sb = { s with heap := s.heap.push { cls := .type "tuple_iterator", data := .fields #[.ref l, .int 0 0] } } → (sb.heap.IsTupleIter s.heap.objs.size l 0 ∧ sb.heap.IsTuple l its) → (∀ b ∈ [s.heap.objs.size, l], b < sb.heap.objs.size) → l ≠ s.heap.objs.size →
      (∀ (H' : Heap), (∀ b o, b ∉ [s.heap.objs.size] → sb.heap.get? b = some o → H'.get? b = some o) → ∀ b o, s.heap.get? b = some o → H'.get? b = some o) → Q (.ref s.heap.objs.size) sb) : wpAny (model prog w) A (pyIter (.ref l)) Q E s := by
  have lt : l < s.heap.objs.size := by
    obtain ⟨_, e, _⟩ := hl
    exact Heap.lt_size e
  refine wpAny_pyIter_tuple hl (h _ rfl ⟨⟨_, Heap.get?_push_size _ rfl, rfl, rfl⟩, hl.push _⟩ (fun b m => ?_) (Nat.ne_of_lt lt) fun H' k b o e => k b o (fun m => Nat.ne_of_lt (Heap.lt_size e) (List.mem_singleton.mp m)) (Heap.get?_push_of_some _ e))
  show b < (s.heap.push _).objs.size
  rw [Heap.size_push]
  rcases List.mem_cons.mp m with rfl | m
  · exact Nat.lt_succ_self _
  · rw [List.mem_singleton.mp m]
    exact Nat.lt_succ_of_lt lt
def rSumT (K : PySem.W.Frag) : List V → Hp → VK → Prop := fun vs H Q => ∃ (a : Addr) (ns : List Int), vs = [V.ref a] ∧ (SqL K H a (ns.map V.int) ∨ SqT K H a (ns.map V.int)) ∧ Q (.int ns.sum) H
theorem cr_sumT (calm : X.calm = true) : CallR X (.builtin "sum") (rSumT X.K) := by
  intro pins s σ H vs us Q I r ask
  obtain ⟨a, ns, rfl, hs | hs, go⟩ := ask
  · exact cr_sum calm pins s σ H _ us Q I r ⟨a, ns, rfl, hs, go⟩
  obtain ⟨its, rv, tp, _⟩ := I.tuple hs
  rw [Vals.ref1 r]
  have nums := rv.ints
  obtain ⟨xs, e⟩ := nums.allInts.items
  have vals : xs.toList.map (·.1) = ns := by rw [← nums_intItems, ← e]; exact nums.numsOf
  rw [e] at tp
  refine call_sum_walkG (tup_iter (its := intItems xs) tp fun sb eb st fp ne keep => ?_)
  subst eb
  refine ⟨_, _, _, _, _, _, numAt xs, rfl, Walks.tuple (A := X.A.in1) (I.ok.hd calm) _ a ne (intItems xs), st, fp, (fun _ _ => intItems_at), fun h' tk t' k => ?_⟩
  have size : (intItems xs).size = xs.size := by simp [intItems]
  rw [size, preSum_eq, vals, List.take_of_length_le (by rw [← vals, List.length_map, Array.length_toList]; exact Nat.le_refl _)]
  exact ⟨.int _, H, I.kept (keep h' k), ⟨_, rfl⟩, go⟩
def rMinT (K : PySem.W.Frag) : List V → Hp → VK → Prop := fun vs H Q => ∃ (a : Addr) (ns : List Int), vs = [V.ref a] ∧ (SqL K H a (ns.map V.int) ∨ SqT K H a (ns.map V.int)) ∧ 0 < ns.length ∧ ∀ m, m ∈ ns → (∀ y, y ∈ ns → m ≤ y) → Q (.int m) H
theorem cr_minT (calm : X.calm = true) : CallR X (.builtin "min") (rMinT X.K) := by
  intro pins s σ H vs us Q I r ask
  obtain ⟨a, ns, rfl, hs | hs, some, go⟩ := ask
  · exact cr_min calm pins s σ H _ us Q I r ⟨a, ns, rfl, hs, some, go⟩
  obtain ⟨its, rv, tp, _⟩ := I.tuple hs
  rw [Vals.ref1 r]
  have nums := rv.ints
  obtain ⟨xs, e⟩ := nums.allInts.items
  have vals : xs.toList.map (·.1) = ns := by rw [← nums_intItems, ← e]; exact nums.numsOf
  rw [e] at tp
  have many : xs.size = ns.length := by rw [← vals, List.length_map, Array.length_toList]
  have size : (intItems xs).size = xs.size := by simp [intItems]
  refine call_min_walk (tup_iter (its := intItems xs) tp fun sb eb st fp ne keep => ?_)
  subst eb
  refine ⟨_, _, _, _, _, _, _, rfl, Walks.tuple (A := X.A.in1) (I.ok.hd calm) _ a ne (intItems xs), st, fp, by omega, CmpOf.ints_lt (numAt xs) (fun _ _ => intItems_at), fun v h' tk hv k => ?_⟩
  obtain ⟨t, rfl⟩ := intItems_at hv
  obtain ⟨g1, g2⟩ := argBest_lt (numAt xs) ((intItems xs).size - 1)
  refine ⟨.int _, H, I.kept (keep h' k), ⟨_, rfl⟩, go _ ?_ fun y my => ?_⟩
  · rw [numAt_eq, vals]
    exact PySem.getD_mem (by omega)
  · obtain ⟨j, hj, rfl⟩ := mem_getD my
    have := g2 j (by omega)
    rw [numAt_eq, numAt_eq, vals] at this
    rw [numAt_eq, vals]
    exact this
end
/-! ### text * number -/
def repS (z : Str) (k : Int) : Str := ⟨(List.replicate k.toNat z.cps.toList).flatten.toArray⟩
theorem fold_app (c : Array Nat) : ∀ (n : Nat) (acc : Array Nat), (List.replicate n c).foldl (· ++ ·) acc = acc ++ ((List.replicate n c.toList).flatten).toArray
  | 0, acc => by simp
  | n + 1, acc => by
    rw [List.replicate_succ, List.foldl_cons, fold_app c n, List.replicate_succ, List.flatten_cons]
    apply Array.toList_inj.mp
    simp
theorem repS_made {z : Str} {k : Int} {t : Tok} {Q : Value → Shared → Prop} {s : Shared} (fit : z.length * k.toNat ≤ sizeLine) (h : ∀ t' tk, Q (.str (repS z k) t') { s with toks := tk }) (h0 : Q (.str z t) s ∨ ¬ (k = 1 ∨ z.length = 0)) (h1 : k = 1 ∨ z.length = 0 → repS z k = z) :
    (if k < 1 then Made.str Str.empty else if (k == 1 || z.length == 0) = true then Made.val (.str z t) else Made.str ⟨(List.replicate k.toNat z.cps).foldl (· ++ ·) #[]⟩).post Q s := by
  split
  · rename_i c
    have e : repS z k = Str.empty := by
      unfold repS
      rw [show k.toNat = 0 by omega]
      rfl
    exact ⟨by decide, by rw [← e]; exact h _ _⟩
  · split
    · rename_i c2
      simp only [Bool.or_eq_true, beq_iff_eq] at c2
      rcases h0 with h0 | h0
      · exact h0
      · exact absurd c2 h0
    · have e : (⟨(List.replicate k.toNat z.cps).foldl (· ++ ·) #[]⟩ : Str) = repS z k := by
        rw [fold_app]
        unfold repS
        simp
      rw [e]
      refine ⟨?_, h _ _⟩
      show (List.replicate k.toNat z.cps.toList).flatten.toArray.size ≤ _
      have fl : ∀ n : Nat, (List.replicate n z.cps.toList).flatten.length = n * z.cps.size := fun n => by
        induction n with
        | zero => simp
        | succ n ih => rw [List.replicate_succ, List.flatten_cons, List.length_append, ih, Array.length_toList, Nat.add_mul, Nat.one_mul, Nat.add_comm]
      rw [List.size_toArray, fl, Nat.mul_comm]
      exact fit
theorem op_mulS {X : Cx} : OpR X (binaryOp .Mult) (fun x y H Q => ∃ (z : Str) (k : Int), x = .str z ∧ y = .int k ∧ z.length ≤ 1000 ∧ -1000 ≤ k ∧ k ≤ 1000 ∧ Q (.str (repS z k)) H) := by
  intro pins s σ H x y v u Q I rx ry ask
  obtain ⟨z, k, rfl, rfl, a1, a2, a3, go⟩ := ask
  obtain ⟨t, rfl⟩ := rx
  obtain ⟨t', rfl⟩ := ry
  have fit : z.length * k.toNat ≤ sizeLine := by
    rw [sizeLine_eq]
    have h2 : k.toNat ≤ 1000 := by omega
    exact Nat.le_trans (Nat.mul_le_mul a1 h2) (by decide)
  have one : k = 1 ∨ z.length = 0 → repS z k = z := fun c => by
    unfold repS
    rcases c with rfl | c
    · show (⟨(List.replicate 1 z.cps.toList).flatten.toArray⟩ : Str) = z
      simp
    · have e : z.cps = #[] := Array.size_eq_zero_iff.mp c
      have e2 : ∀ n : Nat, (List.replicate n ([] : List Nat)).flatten = [] := fun n => by induction n with | zero => rfl | succ n ih => rw [List.replicate_succ, List.flatten_cons, ih]; rfl
      rw [e]
      show (⟨(List.replicate k.toNat ([] : List Nat)).flatten.toArray⟩ : Str) = z
      rw [e2]
      cases z with
      | mk c => cases e; rfl
  refine P.mul_str (by
      have h1 : ¬ k < -(2 ^ 63 : Int) := by omega
      have h2 : ¬ k ≥ 2 ^ 63 := by omega
      rw [decide_eq_false h1, decide_eq_false h2]
      rfl) (fun c1 _ z2 => ?_) (fun _ _ => ?_) (repS_made fit (fun t' tk => ⟨.str _, H, I.tok _, ⟨_, rfl⟩, go⟩) ?_ one)
  · have h3 : ((2 : Int) ^ 63 - 1) / 1000 ≤ (2 ^ 63 - 1) / k := by
      refine Int.le_ediv_of_mul_le (by omega) ?_
      have h4 : ((2 : Int) ^ 63 - 1) / 1000 * k ≤ ((2 : Int) ^ 63 - 1) / 1000 * 1000 := Int.mul_le_mul_of_nonneg_left a3 (by decide)
      exact Int.le_trans h4 (by decide)
    have h5 : (1000 : Int) < ((2 : Int) ^ 63 - 1) / 1000 := by decide
    omega
  · unfold Builtin.Str.tooLong
    exact decide_eq_false (by omega)
  · by_cases c : k = 1 ∨ z.length = 0
    · exact .inl ⟨.str z, H, I, ⟨t, rfl⟩, by rw [one c] at go; exact go⟩
    · exact .inr c
end My
namespace My
open PySem PySem.Spec PyProof.Rows L2
/-! ### several except clauses, each with a name or without -/
/-- an exception that stands in the heap h of the def that looks at it -/
structure Lnd (X : Cx) (pins : List (Addr × Obj)) (z : Shared) (a : Addr) (cls : Value) (d : Option Addr) (σ : L2.St) (H : Hp) : Prop where
  ex : ∃ (B : Heap) (y : Shared), Inv X pins σ H y ∧ (∀ b o, y.heap.get? b = some o → b ∉ frs X.stack → B.get? b = some o) ∧ y.heap.UpToSlots z.heap ∧
    HandSPX.FlyingZ B (X.env :: X.outer) a (Zc cls d) z.heap ∧ z.os = y.os ∧ AllBare z.gens
  no : H a = none
section
variable {X : Cx} {pins : List (Addr × Obj)} {z : Shared} {a : Addr} {cls : Value} {d : Option Addr} {σ : L2.St} {H : Hp}
theorem Lnd.inv (l : Lnd X pins z a cls d σ H) : Inv X pins σ H z := by
  obtain ⟨B, y, I, keeps, grown, f, o, g⟩ := l.ex
  exact I.landed keeps f.1 grown o g
/-- the object itself -/
theorem Lnd.obj (l : Lnd X pins z a cls d σ H) : ∃ (oe : Obj) (vs : Array Value), z.heap.get? a = some oe ∧ Zc cls d oe ∧ oe.data = .fields vs := by
  obtain ⟨B, y, I, keeps, grown, f, o, g⟩ := l.ex
  obtain ⟨oe, vs, h1, h2, h3⟩ := f.there
  exact ⟨oe, vs, h1, h2, h3⟩
/-- it is no frame -/
theorem Lnd.nofr (l : Lnd X pins z a cls d σ H) : a ∉ frs (X.env :: X.outer) := fun m => by
  obtain ⟨B, y, I, keeps, grown, f, o, g⟩ := l.ex
  obtain ⟨oe, vs, h1, h2, h3⟩ := f.there
  obtain ⟨e0, o2, h4, h5⟩ := f.2.2.1.mem m
  have : oe = o2 := Option.some.inj (h1.symm.trans h4)
  exact h5 vs (this ▸ h3)
theorem Lnd.suite (hf : X.env.frame = some X.env.locals) (l : Lnd X pins z a cls d σ H) {oe : Obj} {vs : Array Value} (h1 : z.heap.get? a = some oe) (h3 : oe.data = .fields vs) : Inv (X.suite a ((a, oe) :: (X.pn ++ pins))) [] σ H z := by
  refine l.inv.suite h1 h3 l.no (fun e => l.nofr ?_) (fun m => l.nofr ?_)
  · exact List.mem_filterMap.mpr ⟨_, List.mem_cons_self, hf.trans (congrArg some e.symm)⟩
  · obtain ⟨e, me, q⟩ := List.mem_filterMap.mp m
    exact List.mem_filterMap.mpr ⟨e, List.mem_cons_of_mem _ me, q⟩
/-- how the clauses hds deal with it -/
def Hnd (X : Cx) (hds : List ExceptHandler) (w : Ends → WX) : Prop := ∀ (pins : List (Addr × Obj)) (z : Shared) (a : Addr) (cls : Value) (d : Option Addr) (σ : L2.St) (H : Hp) (D : Ends), Lnd X pins z a cls d σ H → w D cls d σ H →
  wpAny (model X.prog X.w) X.A (handleBy (.ref a) X.env hds) (SP X pins D) X.xe z
theorem hnd_nil {Wout : WX} (hs : X.stack = X.env :: X.outer) (hf : X.env.frame = some X.env.locals) (tk : Takes X Wout) : Hnd X [] (fun _ => Wout) := by
  intro pins z a cls d σ H D l hw
  refine wpAny_handleBy_nil ?_
  obtain ⟨B, y, I, keeps, grown, f, o, g⟩ := l.ex
  obtain ⟨q1, q2, q3, oe, vs, T, oT, ts, q4, q5, q6, q7, q8⟩ := id f
  unfold PySem.passOn
  refine wpAny_bind (wpAny_field q4 q6 q7 ?_)
  rw [if_neg (by simp : ¬ ((Value.ref T == Value.none) = true))]
  have out : wpAny (model X.prog X.w) X.A (setFlight (.ref a) X.env.frame) (fun _ s4 => wpAny (model X.prog X.w) X.A (throw (.ref a) : Sem Flow) (SP X pins D) X.xe s4) X.xe z := by
    rw [hf]
    refine HandSPX.setFlight_upZ f fun h4 held up4 => wpAny_throw (tk _ _ ⟨a, B, y, pins, σ, H, cls, d, rfl, I, keeps, grown.trans up4, .inr (.inr (hs ▸ held)), l.no, o, g, hw⟩)
  first
    | exact wpAny_bind (wpAny_pure (wpAny_bind out))
    | exact wpAny_bind out
theorem Lnd.names {x : Str} {c : Value} {np : Pos} (hf : X.env.frame = some X.env.locals) (l : Lnd X pins z a cls d σ H) (hc : Names X x c) {Q E : Value → Shared → Prop} (q : Q c z) :
    wpAny (model X.prog X.w) (X.A.mark (some (.ref a))) (eval (.Name x np) X.env) Q E z := by
  obtain ⟨oe, vs, h1, h2, h3⟩ := l.obj
  have S := l.suite hf h1 h3
  rcases hc with ⟨hg, nd, hm | ⟨hm, hv, hn⟩⟩
  · exact ld_glob (X := X.suite a _) S hg hm q nd
  · exact ld_blt (X := X.suite a _) S hg hm hv q hn nd
theorem Lnd.test {c : Value} {b : Bool} (l : Lnd X pins z a cls d σ H) (h : PySem.W.exmOne X.K cls c = some b) {Q : Bool → Shared → Prop} {E : Value → Shared → Prop} (q : Q b z) :
    wpAny (model X.prog X.w) (X.A.mark (some (.ref a))) (excMatches (.ref a) c) Q E z := by
  obtain ⟨oe, vs, h1, h2, h3⟩ := l.obj
  exact (PySem.W.exm_one (M := model X.prog X.w) l.inv.kIn (fun _ _ _ _ k q => wpAny_typeOf_ref (k _ _ h1) (h2.1.symm ▸ q)) h).here q
/-- the flight set to none: the exception stands as before -/
theorem Lnd.again (l : Lnd X pins z a cls d σ H) {M : Model} {A : Around} {E : Value → Shared → Prop} {Q : Unit → Shared → Prop} (q : ∀ z', Lnd X pins z' a cls d σ H → Q () z') : wpAny M A (setFlight (.ref a) none) Q E z := by
  obtain ⟨B, y, I, keeps, grown, f, o, g⟩ := l.ex
  exact HandSPX.lands_againZ f fun h4 f4 up4 => q _ ⟨⟨B, y, I, keeps, grown.trans up4, f4, o, g⟩, l.no⟩
section
variable {x n : Str} {c : Value} {i : Nat} {b₀ : Stmt} {su : List Stmt} {np pos : Pos} {hds : List ExceptHandler} {w : Ends → WX} {ts : Addr → Value → Option Addr → TS}
/-- what a clause without a name wishes -/
def wOne (K : PySem.W.Frag) (c : Value) (ts : Addr → Value → Option Addr → TS) (w : Ends → WX) : Ends → WX := fun D cls d σ H =>
  ∃ b, PySem.W.exmOne K cls c = some b ∧ (b = true → ∀ a, H a = none → ts a cls d D σ H) ∧ (b = false → w D cls d σ H)
/-- the ends behind a suite whose name i goes -/
def Ends.go (D : Ends) (i : Nat) : Ends := ⟨fun σ' H' => D.nx (σ'.set i none) H', D.rt, fun σ' H' => D.bk (σ'.set i none) H', fun σ' H' => D.ct (σ'.set i none) H'⟩
/-- .. a clause with a name, whose place is i -/
def wNam (K : PySem.W.Frag) (c : Value) (i : Nat) (ts : Addr → Value → Option Addr → TS) (w : Ends → WX) : Ends → WX := fun D cls d σ H =>
  ∃ b, PySem.W.exmOne K cls c = some b ∧ (b = true → ∀ a, H a = none → ts a cls d (Ends.go D i) (σ.set i (some (.ref a))) H) ∧ (b = false → w D cls d σ H)
theorem hnd_one (hf : X.env.frame = some X.env.locals) (hc : Names X x c)
    (hsu : ∀ (a : Addr) (oe : Obj) (cls : Value) (d : Option Addr) (pn : List (Addr × Obj)), Zc cls d oe → (∃ vs, oe.data = .fields vs) → PSs (X.suite a ((a, oe) :: pn)) (b₀ :: su) (ts a cls d)) (r : Hnd X hds w) :
    Hnd X (.ExceptHandler (some (.Name x np)) none (b₀ :: su) pos :: hds) (wOne X.K c ts w) := by
  rintro pins z a cls d σ H D l ⟨b, hb, yes, no⟩
  have ok := l.inv.ok
  refine wpAny_handleBy_cons (codeAny_handlers_test (l.names hf hc (l.test hb ?_))) (fun q => nomatch q)
  cases b with
  | false => exact r pins z a cls d σ H D l (no rfl)
  | true =>
    refine codeAny_handlers_suite (l.again fun z2 l2 => ?_)
    obtain ⟨oe, vs, h1, h2, h3⟩ := l2.obj
    refine wpAny_mono ((hsu a oe cls d (X.pn ++ pins) h2 ⟨vs, h3⟩).run [] z2 σ H D (l2.suite hf h1 h3) (yes rfl a l2.no)) (fun f y hy => ?_) (fun _ _ e => e.elim)
    match f, hy with
    | .next, ⟨_, _, J, q⟩ => exact ⟨_, _, J.unsuite ok, q⟩
    | .brk, ⟨_, _, J, q⟩ => exact ⟨_, _, J.unsuite ok, q⟩
    | .cont, ⟨_, _, J, q⟩ => exact ⟨_, _, J.unsuite ok, q⟩
    | .ret u, ⟨_, _, _, J, rv, q⟩ => exact ⟨_, _, _, J.unsuite ok, rv, q⟩
theorem hnd_nam (hf : X.env.frame = some X.env.locals) (hN : X.N.Nodup) (hi : X.N[i]? = some n) (hln : X.env.kindOf n = some .local) (hc : Names X x c)
    (hsu : ∀ (a : Addr) (oe : Obj) (cls : Value) (d : Option Addr) (pn : List (Addr × Obj)), Zc cls d oe → (∃ vs, oe.data = .fields vs) → PSs (X.suite a ((a, oe) :: pn)) (b₀ :: su) (ts a cls d)) (r : Hnd X hds w) :
    Hnd X (.ExceptHandler (some (.Name x np)) (some n) (b₀ :: su) pos :: hds) (wNam X.K c i ts w) := by
  rintro pins z a cls d σ H D l ⟨b, hb, yes, no⟩
  have ok := l.inv.ok
  refine wpAny_handleBy_cons (codeAny_handlers_test (l.names hf hc (l.test hb ?_))) (fun q => nomatch q)
  cases b with
  | false => exact r pins z a cls d σ H D l (no rfl)
  | true =>
    refine codeAny_handlers_suite_as (l.again fun z2 l2 => ?_)
    obtain ⟨oe, vs, h1, h2, h3⟩ := l2.obj
    refine store_ok (X := X.suite a _) (v := .ref a) (l2.suite hf h1 h3) hN hi (Or.inl hln) rfl (fun z3 I3 => ?_) (Or.inr hln)
    refine wpAny_mono ((hsu a oe cls d (X.pn ++ pins) h2 ⟨vs, h3⟩).run [] z3 _ H _ I3 (yes rfl a l2.no)) (fun f y hy => ?_) (fun _ _ e => e.elim)
    match f, hy with
    | .next, ⟨_, _, J, q⟩ => exact gone_ok (J.unsuite ok) hN hi hln fun _ J2 => ⟨_, _, J2, q⟩
    | .brk, ⟨_, _, J, q⟩ => exact gone_ok (J.unsuite ok) hN hi hln fun _ J2 => ⟨_, _, J2, q⟩
    | .cont, ⟨_, _, J, q⟩ => exact gone_ok (J.unsuite ok) hN hi hln fun _ J2 => ⟨_, _, J2, q⟩
    | .ret u, ⟨_, _, _, J, rv, q⟩ => exact gone_ok (J.unsuite ok) hN hi hln fun _ J2 => ⟨_, _, _, J2, rv, q⟩
/-- try with such clauses -/
theorem ps_tryN {body : List Stmt} {h₀ : ExceptHandler} {tb : WX → TS} (hs : X.stack = X.env :: X.outer) (hf : X.env.frame = some X.env.locals)
    (hb : ∀ (W : WX) (pn : List (Addr × Obj)) (xe : Value → Shared → Prop), Takes (X.tr pn xe) W → PassesOwn (model X.prog X.w) X.A X.env xe → PSs (X.tr pn xe) body (tb W)) (hh : Hnd X (h₀ :: hds) w) :
    PS X (.Try body (h₀ :: hds) [] [] pos) (fun D σ H => tb (w D) D σ H) := by
  refine ⟨fun pins s σ H D I h => wpAny_Try_except ?_⟩
  have ok := I.ok
  have back : ∀ {pn' : List (Addr × Obj)} {xe : Value → Shared → Prop} {σ' : L2.St} {H' : Hp} {y : Shared}, Inv (X.tr (X.pn ++ pins) xe) pn' σ' H' y → Inv X pins σ' H' y := fun J => J.ofTry ok
  have run := (hb (w D) (X.pn ++ pins) (fun e z => wpAny (model X.prog X.w) X.A (noteFrame e X.env) (fun _ z2 => wpAny (model X.prog X.w) X.A (setFlight e none) (fun _ z3 => wpAny (model X.prog X.w) X.A (handleBy e X.env (h₀ :: hds)) (SP X pins D) X.xe z3) X.xe z2) X.xe z) ?_ PassesOwn.looking).run [] s σ H D (I.toTry _) h
  · refine wpAny_mono run (fun f y hy => ?_) (fun _ _ e => e)
    match f, hy with
    | .next, ⟨_, _, J, q⟩ => exact wpAny_execs_nil ⟨_, _, back J, q⟩
    | .brk, ⟨_, _, J, q⟩ => exact ⟨_, _, back J, q⟩
    | .cont, ⟨_, _, J, q⟩ => exact ⟨_, _, back J, q⟩
    | .ret u, ⟨_, _, _, J, rv, q⟩ => exact ⟨_, _, _, back J, rv, q⟩
  · rintro u z ⟨a, B, y, pins2, σ', H', cls, d, rfl, J, keeps, grown, sky, na, o, g, hw⟩
    have frs_eq : X.A.frames = some (X.env :: X.outer) := hs ▸ ok.frames
    refine Sky.land Zc.steady frs_eq hf (hs ▸ sky) fun h3 f3 up3 => ?_
    exact hh pins { z with heap := h3 } a cls d σ' H' D ⟨⟨B, y, back J, keeps, grown.trans up3, f3, o, g⟩, na⟩ hw
end
end
end My
namespace My
open PySem PySem.Spec PyProof.Rows L2
/-! ### a dict that is shown and asked in one expression, its keys tuples of bools -/
def bLeaf (b : Bool) : Leaf := .num (if b = true then 1 else 0)
theorem bLeaf_inj {b c : Bool} (e : bLeaf b = bLeaf c) : b = c := by
  cases b <;> cases c <;> first | rfl | exact absurd e (by decide)
theorem leaves_are {pg : Program} {wd : World} : ∀ {bs : List Bool} {us : List Value}, Vals (bs.map V.bl) us → ItemsAre (leafKind pg wd) (bs.map bLeaf) us
  | [], _, r => by
    rw [List.map_nil] at r
    cases r
    exact .nil
  | b :: bs, _, r => by
    rw [List.map_cons] at r
    cases r with
    | cons hd tl =>
      refine .cons ?_ (leaves_are tl)
      have e : _ = Value.bool b := hd
      rw [e]
      show Leaf.isOf (bLeaf b) (.bool b) = true
      cases b <;> rfl
theorem bools_key {pg : Program} {wd : World} {G : Hp} {hp : Heap} {ad : Addr} {bs : List Bool} (ok : HOk pg wd G hp) (e : G ad = some (.tup (bs.map V.bl))) : (tupleKind (leafKind pg wd)).is hp (bs.map bLeaf) ad := by
  obtain ⟨_, its, rel, ob, g1, g2, n, g3⟩ := (show ObjOk pg wd G hp ad (.tup (bs.map V.bl)) from ok ad _ e)
  exact ⟨ob, its.toArray, n, g1, g2, g3, by simpa using leaves_are rel⟩
abbrev BEnt := List Bool × Addr × V
/-- what stands in the dict by what was shown -/
abbrev BRow : List BEnt → List (List Leaf × Addr × Value) → Prop := Paired fun p q => p.1.map bLeaf = q.1 ∧ p.2.1 = q.2.1 ∧ RelV p.2.2 q.2.2
theorem bls_inj : ∀ {xs ys : List Bool}, xs.map bLeaf = ys.map bLeaf → xs = ys
  | [], [], _ => rfl
  | [], _ :: _, e => by simp at e
  | _ :: _, [], e => by simp at e
  | x :: xs, y :: ys, e => by
    rw [List.map_cons, List.map_cons] at e
    injection e with e1 e2
    rw [bLeaf_inj e1, bls_inj e2]
theorem BRow.keys {es : List BEnt} {qs : List (List Leaf × Addr × Value)} (rw_ : BRow es qs) : qs.map (·.1) = (es.map (·.1)).map (List.map bLeaf) := by
  induction rw_ with
  | nil => rfl
  | cons hd tl ih => rw [List.map_cons, List.map_cons, List.map_cons, ih, hd.1]
theorem BRow.look {es : List BEnt} {qs : List (List Leaf × Addr × Value)} (rw_ : BRow es qs) (bs : List Bool) {z : V} {uz : Value} (rz : RelV z uz) :
    RelV ((valV (es.map fun e => (e.1, e.2.2)) bs).getD z) (((atKey qs (bs.map bLeaf)).map (·.2)).getD uz) := by
  induction rw_ with
  | nil => exact rz
  | @cons p q ps qs hd tl ih =>
    obtain ⟨k1, k2, k3⟩ := hd
    by_cases e : p.1 = bs
    · have e' : q.1 = bs.map bLeaf := by rw [← k1, e]
      have f : atKey (q :: qs) (bs.map bLeaf) = some q.2 := by simp [atKey, List.find?_cons, e']
      have g : valV ((p :: ps).map fun e => (e.1, e.2.2)) bs = some p.2.2 := by simp [valV, List.find?_cons, e]
      rw [f, g]
      exact k3
    · have e' : ¬ q.1 = bs.map bLeaf := fun y => e (bls_inj (k1.trans y))
      have f : atKey (q :: qs) (bs.map bLeaf) = atKey qs (bs.map bLeaf) := by simp [atKey, List.find?_cons, e']
      have g : valV ((p :: ps).map fun e => (e.1, e.2.2)) bs = valV (ps.map fun e => (e.1, e.2.2)) bs := by simp [valV, List.find?_cons, e]
      rw [f, g]
      exact ih
theorem BRow.snoc {es : List BEnt} {qs : List (List Leaf × Addr × Value)} {p : BEnt} {q : List Leaf × Addr × Value} (rw_ : BRow es qs) (hd : p.1.map bLeaf = q.1 ∧ p.2.1 = q.2.1 ∧ RelV p.2.2 q.2.2) : BRow (es ++ [p]) (qs ++ [q]) := Paired.snoc rw_ hd
section
variable {X : Cx} {pins : List (Addr × Obj)} {σ : L2.St} {G : Hp}
theorem stores_b {E : Value → Shared → Prop} {Q : Shared → Prop} {d : Addr} (room : X.A.units < cLine) : ∀ (more es : List BEnt) (ws : List (Value × Value)) (qs : List (List Leaf × Addr × Value)) (sh : Shared), Inv X pins σ G sh → FpOk X pins G d →
    sh.heap.DictOfH (tupleKind (leafKind X.prog X.w)) d qs → BRow es qs → VV (more.map fun e => (V.ref e.2.1, e.2.2)) ws → (∀ e ∈ more, G e.2.1 = some (.tup (e.1.map V.bl))) → ((es ++ more).map (·.1)).Nodup → (es ++ more).length ≤ 15 →
    (∀ sh' qs', Inv X pins σ G sh' → sh'.heap.DictOfH (tupleKind (leafKind X.prog X.w)) d qs' → BRow (es ++ more) qs' → Q sh') →
    wpAny (model X.prog X.w) X.A (storeAll d ws) (fun _ sh' => Q sh') E sh
  | [], es, ws, qs, sh, I, fp, dd, row, vv, _, _, _, q => by
    cases vv
    unfold storeAll
    rw [List.forIn_nil]
    rw [List.append_nil] at q
    exact wpAny_pure (q sh qs I dd row)
  | e :: more, es, ws, qs, sh, I, fp, dd, row, vv, hk, nd, hl, q => by
    rw [List.map_cons] at vv
    cases vv with
    | @cons _ wv _ ws' hd tl =>
      obtain ⟨u, v⟩ := wv
      obtain ⟨r1, r2⟩ := hd
      obtain rfl : u = Value.ref e.2.1 := r1
      have el : (es ++ [e]) ++ more = es ++ e :: more := by simp
      have hq : qs.length ≤ 15 := by
        have := Paired.length row
        rw [List.length_append] at hl
        omega
      have fresh : atKey qs (e.1.map bLeaf) = none := by
        have hn : e.1.map bLeaf ∉ qs.map (·.1) := fun m => by
          rw [row.keys] at m
          obtain ⟨b, hb, eb⟩ := List.mem_map.mp m
          rw [List.map_append, List.nodup_append] at nd
          exact nd.2.2 b hb e.1 (by rw [List.map_cons]; exact List.mem_cons_self) (bls_inj eb)
        unfold atKey
        rw [Option.map_eq_none_iff, List.find?_eq_none]
        intro x mx z
        exact hn (List.mem_map.mpr ⟨x, mx, of_decide_eq_true z⟩)
      unfold storeAll
      rw [List.forIn_cons]
      refine wpAny_bind (wpAny_bind (wpAny_dictSet_heap (hsz := by rw [sizeLine_eq]; omega) (knd := tupleKind (leafKind X.prog X.w)) room (bools_key I.hok (hk e List.mem_cons_self)) dd fun h' dd' sb => wpAny_pure ?_))
      rw [storedH_new fresh] at dd'
      obtain ⟨f0, f1, f2, f3, f4, f5⟩ := id fp
      have I1 := I.turned (t' := sh.toks + (tupleKind (leafKind X.prog X.w)).draws (e.1.map bLeaf)) (fun b o nb eb => (sb.2 b nb).trans eb) f0 f1 f3 f4 f5
      exact stores_b room more (es ++ [e]) ws' _ _ I1 fp dd' (row.snoc ⟨rfl, rfl, r2⟩) tl (fun x m => hk x (List.mem_cons_of_mem _ m)) (by rw [el]; exact nd) (by rw [el]; exact hl) (by rw [el]; exact q)
end
/-- {(..): v, ..}.get(e, f): the pairs, then e, then f -/
def tBGet (trs : List (TE × TE)) (te tf : TE) : TE := fun σ G Q => tPairs trs σ G fun ps G2 => ∃ es : List BEnt, ps = es.map (fun e => (V.ref e.2.1, e.2.2)) ∧ es.length ≤ 15 ∧ (es.map (·.1)).Nodup ∧ (∀ e ∈ es, G2 e.2.1 = some (.tup (e.1.map V.bl))) ∧
  te σ G2 fun y G3 => tf σ G3 fun z G4 => ∃ (b : Addr) (bs : List Bool), y = .ref b ∧ G4 b = some (.tup (bs.map V.bl)) ∧ (∀ e ∈ es, G4 e.2.1 = some (.tup (e.1.map V.bl))) ∧ Q ((valV (es.map fun e => (e.1, e.2.2)) bs).getD z) G4
theorem pe_bget {X : Cx} {keys : List (Option Expr)} {values : List Expr} {dpos apos cpos : Pos} {e f : Expr} {trs : List (TE × TE)} {te tf : TE} (room : X.A.units + 1 < cLine) (hp : PPs X dpos keys values trs) (he : PE X e te) (hf : PE X f tf)
    (m : M2 X (.Dict keys values dpos) "get" apos e f cpos) (hall : keys.all (·.isSome) = true := by rfl) (hl : keys.length = values.length := by rfl) (h0 : keys ≠ [] := by decide) (h15 : keys.length ≤ 15 := by decide) :
    PE X (.Call (.Attribute (.Dict keys values dpos) "get" apos) [e, f] [] cpos) (tBGet trs te tf) := by
  refine ⟨fun pins sh σ G Q I q => ?_⟩
  refine wpAny_Call_method m.base m.few m.line PySem.F.plainAttrs_dict PySem.F.slot_dict_get PySem.F.type_dict_get ?_
  refine wpAny_Dict_any hall hl h0 h15 ?_
  generalize hd : sh.heap.objs.size = d
  have hn : G d = none := I.hok.fresh (Nat.le_of_eq hd)
  have I1 : Inv X pins σ G { sh with heap := sh.heap.push { cls := .type "dict", data := .dict #[] } } := I.kept (t' := sh.toks) fun b o eb => Heap.get?_push_of_some _ eb
  have fp1 : FpOk X pins G d := I.fpOk (Nat.le_of_eq hd) hn
  have g1 : (sh.heap.push { cls := .type "dict", data := .dict #[] }).get? d = some { cls := .type "dict", data := .dict #[] } := by
    rw [← hd]
    exact Heap.get?_push_size _ rfl
  have I2 := I1.pinned (fp := [d]) (fun b hb => by rw [List.mem_singleton.mp hb]; exact fp1) (fun b hb => by rw [List.mem_singleton.mp hb]; exact ⟨_, g1, fun v z => by cases z⟩)
  refine thn (hp.run _ _ σ G _ I2 q) fun ws s2 ⟨ps, G2, I3, rel, es, ep, l15, nd, hk, q2⟩ => ?_
  subst ep
  have pin2 := I3.pin (d, { cls := .type "dict", data := .dict #[] }) (List.mem_append_right _ (List.mem_append_right _ (mem_pinsAt (List.mem_singleton.mpr rfl) g1)))
  have I4 := I3.unpinned
  have fp2 : FpOk X pins G2 d := ⟨pin2.2.1, fp1.2⟩
  have ds : (d == sysModules) = false := by
    have hb : sysModules < sh.heap.objs.size := I.big
    rw [hd] at hb
    exact beq_eq_false_iff_ne.mpr (Nat.ne_of_gt hb)
  have dd0 : s2.heap.DictOfH (tupleKind (leafKind X.prog X.w)) d [] := ⟨_, #[], 0, pin2.1, ⟨rfl, rfl, rfl⟩, rfl, rfl, fun x mx => (nomatch mx), List.nodup_nil⟩
  refine stores_b (Q := fun s3 => _) (by omega) es [] ws [] s2 I4 fp2 dd0 .nil rel hk nd l15 fun s3 qs I5 dd row => ?_
  obtain ⟨ob, ar, ep, o1, o2, o3, o4, o5, o6⟩ := id dd
  refine ⟨⟨ob, o1, o2.1⟩, fun b eb => by cases eb; exact ⟨ob, o1, o2.2.1⟩, ?_⟩
  have I6 := I5.pinned (fp := [d]) (fun b hb => by rw [List.mem_singleton.mp hb]; exact fp2) (fun b hb => by rw [List.mem_singleton.mp hb]; exact ⟨ob, o1, fun v z => by rw [o3] at z; cases z⟩)
  rw [m.trees]
  refine Calls.callWith_builtin rfl (Calls.evalArgs_plain (Calls.spliced_cons (thn (he.run _ s3 σ G2 _ I6 q2) fun u s4 ⟨y, G3, J1, ry, q3⟩ =>
    Calls.spliced_cons (thn (hf.run _ s4 σ G3 _ J1 q3) fun v s5 ⟨z, G4, J2, rz, b, bs, ey, eb, hk4, q4⟩ => Calls.spliced_nil ?_))))
  subst ey
  obtain rfl : u = Value.ref b := ry
  have pin5 := J2.pin (d, ob) (List.mem_append_right _ (List.mem_append_right _ (mem_pinsAt (List.mem_singleton.mpr rfl) o1)))
  have dd5 : s5.heap.DictOfH (tupleKind (leafKind X.prog X.w)) d qs := by
    refine ⟨ob, ar, ep, pin5.1, o2, o3, o4, ?_, o6⟩
    have all : ∀ {es : List BEnt} {qs : List (List Leaf × Addr × Value)}, BRow es qs → (∀ e ∈ es, G4 e.2.1 = some (.tup (e.1.map V.bl))) → ∀ x ∈ qs, (tupleKind (leafKind X.prog X.w)).is s5.heap x.1 x.2.1 := by
      intro es qs r
      induction r with
      | nil => exact fun _ x mx => nomatch mx
      | @cons p q ps qs hd tl ih =>
        intro hk x mx
        rcases List.mem_cons.mp mx with rfl | mx
        · rw [← hd.1, ← hd.2.1]
          exact bools_key J2.hok (hk p List.mem_cons_self)
        · exact ih (fun e me => hk e (List.mem_cons_of_mem _ me)) x mx
    exact all row hk4
  refine call_meetsIn PySem.F.slot_dict_get ⟨ob, pin5.1, o2.1⟩ PySem.F.entry_dict_get (PySem.F.args_dict_get_3 _ _ _) (meetsH_dict_get_default (tupleKind (leafKind X.prog X.w)) d b ds v) ⟨tupleKind_room_in1 room, bs.map bLeaf, qs, bools_key J2.hok eb, dd5, ?_⟩
  exact ⟨_, G4, J2.unpinned.tok _, row.look bs rz, q4⟩
end My
/-! GD1: defs that show data (repr): nothing is being shown around them. -/
namespace GdX
open PySem PySem.Spec PyProof.Rows L2
/-- a promise, kept where no repr is under way -/
structure FnG (P : Program) (w : World) (K : PySem.W.Frag) (mg : Str → Option Value) (base : Heap) (CX : CXT) (k : Nat) (f : Addr) (fd : FuncData) (ps : List Str) (sp : Sp) : Prop where
  many : ∀ xs J Q E, sp xs J Q E → xs.length = ps.length
  go : ∀ (B : Around) (up : List Env) (t : Shared) (J : Hp) (ar : Args) (ys : List Value) (xs : List V) (Q : VK) (E : XK), B.guards = some [] → Room k B → Env0 P w K mg base B up t J → BindsTo t fd ar (ps.zip ys) → Vals xs ys → sp xs J Q E → codeAny (model P w) B (.call (.ref f) ar) (CR CX up P w J t Q E) t
section
variable {P : Program} {w : World} {K : PySem.W.Frag} {mg : Str → Option Value} {base : Heap}
theorem fnG_of {CX : CXT} {k : Nat} {f : Addr} {nm ql : Str} {pr : Arguments} {bd : List Stmt} {sc : Scope} {dV kV dc pm cdv ct oc : Value} {an od : Option Addr} {sl : Array (Option Value)} {N ps : List Str} {sp : Sp}
    (lk : K.lookup f = some ⟨oc, od, .func (PySem.W.fnOf nm ql pr bd sc dV kV dc pm an cdv ct), sl⟩) (hc : PySem.W.codeIn K cdv ql = true) (S : FnScope N ps sc) (many : ∀ xs J Q E, sp xs J Q E → xs.length = ps.length)
    (hb : ∀ (B : Around) (up : List Env) (t : Shared) (J : Hp) (xs : List V) (Q : VK) (E : XK), B.guards = some [] → Room k (B.deeper (envOfC ql sc t.heap.objs.size f cdv)) → sp xs J Q E →
      ∃ r, PSs (cxOf CX P w K mg base N ql sc f cdv B up t J E) bd r ∧ r { nx := fun _ J' => Q .non J', rt := Q } (L2.start N xs) J) : FnG P w K mg base CX (k + 1) f (PySem.W.fnOf nm ql pr bd sc dV kV dc pm an cdv ct) ps sp := by
  constructor
  · exact many
  intro B up t J ar ys xs Q E hgd hrm en hbd hv hs
  have hm := many _ _ _ _ hs
  have kIn : K.In t.heap := en.mod.kin.keeps fun b o e => (en.bs b o e).1
  have noL : t.heap.NoLimit := en.mod.nolimit.keeps fun b o e => (en.bs b o e).1
  have kinds : ∀ y ∈ ps.zip ys, sc.names.lookup y.1 = some .local ∨ (sc.names.lookup y.1 = some .cell ∧ ((cellsFrom (t.heap.objs.size + 1) sc.names []).lookup y.1).isSome = true) := by
    rintro ⟨n, v⟩ hy
    exact (S.par n (List.of_mem_zip hy).1).imp id fun q => ⟨q, PySem.W.cellsFrom_some _ _ _ (.inl q)⟩
  refine codeAny_call_function hrm.depth (kIn _ _ lk) rfl S.co S.gen rfl (PySem.W.codeRec_of kIn hc) (hbd _ _ _ _ ?_)
  refine wpAny_newFunctionEnv_cells S.kind kinds ?_
  intro env he t1 x
  subst he
  refine ⟨noL.keeps x.toInCall.keep, codeAny_func ?_⟩
  obtain ⟨r, pr, hq⟩ := hb B up t J xs Q E hgd (hrm.deeper _) hs
  have st : Inv (cxOf CX P w K mg base N ql sc f cdv B up t J E) [] (L2.start N xs) J t1 := inv_start S hrm.hd en hm hv x
  refine wpAny_mono (pr.run [] t1 (L2.start N xs) J _ st hq) ?_ (fun _ _ z => z)
  intro fl t2 hf
  match fl, hf with
  | .ret u, ⟨v, σ', J', I', rv, q⟩ => exact ⟨v, J', I'.os, I'.bare, I'.base, I'.hok, rv, q⟩
  | .next, ⟨σ', J', I', q⟩ => exact ⟨V.non, J', I'.os, I'.bare, I'.base, I'.hok, rfl, q⟩
  | .brk, ⟨_, _, _, q⟩ => exact q.elim
  | .cont, ⟨_, _, _, q⟩ => exact q.elim
/-- the def as the text has it -/
theorem funG {x ql : Str} {st : Stmt} {f : Addr} {fd : FuncData} {N ps : List Str} {k : Nat} {sp : Sp} (F : L2.Fun K x ql st f fd) (S : FnScope N ps (L2.defScope st)) (many : ∀ xs J Q E, sp xs J Q E → xs.length = ps.length)
    (hb : ∀ (cdv : Value) (B : Around) (up : List Env) (t : Shared) (J : Hp) (xs : List V) (Q : VK) (E : XK), B.guards = some [] → Room k (B.deeper (envOfC ql (L2.defScope st) t.heap.objs.size f cdv)) → sp xs J Q E →
      ∃ r, PSs (cxOf L2.CX0 P w K mg base N ql (L2.defScope st) f cdv B up t J E).nox (L2.defBody st) r ∧ r { nx := fun _ J' => Q .non J', rt := Q } (L2.start N xs) J) : FnG P w K mg base L2.CX0 (k + 1) f fd ps sp := by
  obtain ⟨oc, od, kV, dc, pm, an, cdv, ct, sl, e, lk, hc⟩ := F.ex
  rw [e] at lk ⊢
  exact fnG_of lk hc S many fun B up t J xs Q E g r h => (hb cdv B up t J xs Q E g r h).imp fun _ z => ⟨z.1.nox, z.2⟩
end
/-! ### the call -/
section
variable {X : Cx} {CX : CXT} {k j : Nat} {f : Addr} {fd : FuncData} {ps : List Str} {sp : Sp} {E : XK} {x : Str} {p pos : Pos} {e : Expr} {es : List Expr} {t : TA}
theorem runG {pins : List (Addr × Obj)} {σ : L2.St} {J : Hp} {s : Shared} {Q : VK} {ys : List Value} {xs : List V} (F : FnG X.prog X.w X.K X.mg X.base CX k f fd ps sp) (hgd : X.A.guards = some []) (hr : Room k X.A) (hb : Binds X.K fd ps []) (hx : Passes CX X E)
    (I : Inv X pins σ J s) (r : Vals xs ys) (h : sp xs J Q E) : wpAny (model X.prog X.w) X.A (call (.ref f) ys) (EP X pins σ Q) X.xe s := by
  have hn : (ys ++ []).length = ps.length := by rw [List.append_nil, ← r.length]; exact F.many _ _ _ _ h
  have hb' := hb s ys I.kIn hn
  rw [List.append_nil] at hb'
  refine wpAny_call (codeAny_mono (F.go X.A X.stack s J ⟨ys, []⟩ ys xs Q E hgd hr I.env0 hb' r h) ?_)
  intro a s' hq
  match a, hq with
  | .error z, hq => exact hx pins σ J s z s' I hq
  | .ok (.ret u), hq => exact I.after hq
/-- f(e, ..) -/
theorem pe_cG (F : FnG X.prog X.w X.K X.mg X.base CX k f fd ps sp) (hgd : X.A.guards = some []) (hr : Room j X.A) (hk : k ≤ j) (hg : Gl X x) (hm : X.mg x = some (.ref f)) (kp : PySem.W.keepIn X.K (.ref f) = true) (hb : Binds X.K fd ps []) (hx : Passes CX X E) (ha : PA X (e :: es) t)
    (hdb : (x == ("__debug__" : Str)) = false := by decide) (he : starEach (e :: es) X.env = (false, eval e X.env) :: starEach es X.env := by rfl) (hpl : (backTo pos (starEach es X.env)).any (·.1) = false := by rfl) : PE X (.Call (.Name x p) (e :: es) [] pos) (tCall sp [] E t) := by
  constructor
  intro pins s σ J Q I h
  apply wpAny_Call_Name_kw
  apply ld_glob I hg hm ?_ hdb
  apply PySem.W.callWith_K (h₀ := X.base) I.ok.mod.kin kp ?_ he hpl
  apply thn (ha.run pos pins s σ J _ I h)
  rintro ys s1 ⟨xs, J1, I1, r, q⟩
  exact ⟨I1.kIn, runG F hgd (hr.mono hk) hb hx I1 r (by rw [List.append_nil] at q; exact q)⟩
end
/-! ### the head of a law -/
def topH (K : PySem.W.Frag) (a : Addr) (lo : Obj) (ns : List Int) (ts : List Addr) : Hp := fun b => if b = a then (if K.lookup a = none then some (.frz lo (.lst (ns.map V.int))) else none) else if b ∈ ts then some (.tbl #[]) else none
theorem topH_cases (K : PySem.W.Frag) (a : Addr) (lo : Obj) (ns : List Int) (ts : List Addr) (b : Addr) :
    topH K a lo ns ts b = none ∨ (b = a ∧ K.lookup a = none ∧ topH K a lo ns ts b = some (.frz lo (.lst (ns.map V.int)))) ∨ (b ≠ a ∧ b ∈ ts ∧ topH K a lo ns ts b = some (.tbl #[])) := by
  unfold topH
  by_cases h1 : b = a
  · rw [if_pos h1]
    by_cases h2 : K.lookup a = none
    · rw [if_pos h2]; exact .inr (.inl ⟨h1, h2, rfl⟩)
    · rw [if_neg h2]; exact .inl rfl
  · rw [if_neg h1]
    by_cases h3 : b ∈ ts
    · rw [if_pos h3]; exact .inr (.inr ⟨h1, h3, rfl⟩)
    · rw [if_neg h3]; exact .inl rfl
theorem law_callG {P : Program} {w : World} {K : PySem.W.Frag} {mg mb : Str → Option Value} {CX : CXT} {k : Nat} {fa a : Addr} {cs : List (Addr × Addr)} {fd : FuncData} {x : Str} {sp : Sp} {t : Shared} {vs : List Value} {ns : List Int}
    (kIn : K.In t.heap) (hg : t.heap.Ns mainGlobals mg) (hbn : t.heap.Ns builtinsNs mb) (hbb : ∀ x : Str, x ≠ "__name__" → mb x = bootBuiltins x) (noL : t.heap.NoLimit) (gen0 : t.gens = #[])
    (tab : ∀ p ∈ cs, t.heap.get? p.2 = some { cls := .none, data := .fields #[] }) (own : ∀ p ∈ cs, K.lookup p.2 = none) (cod : ∀ p ∈ cs, PySem.W.CodeHd t.heap p.1 p.2)
    (hbm : ∃ (bm : Addr) (ob : Obj), mg "__builtins__" = some (.ref bm) ∧ bm ≠ builtinsNs ∧ t.heap.get? bm = some ob ∧ ob.cls = .type "module" ∧ ob.dict = some builtinsNs ∧ ob.data = .plain)
    (hl : t.heap.get? a = some { cls := .type "list", data := .seq vs.toArray }) (hi : IntsAre vs ns) (hz : ns.length ≤ sizeLine) (hr : Room k callerA)
    (F : ∀ base : Heap, K.In base → base.Ns mainGlobals mg → (∀ p ∈ cs, LamX.TabB base mg p.1 p.2) → FnG P w K mg base CX k fa fd [x] sp) (hbd : ∀ (s : Shared) (u : Value), BindsTo s fd ⟨[u], []⟩ [(x, u)])
    (hsp : ∀ H : Hp, (∀ p ∈ cs, H p.2 = some (.tbl #[])) → SqL K H a (ns.map V.int) → sp [.ref a] H (fun v _ => v = .bl true) fun _ _ _ => False)
    (hCX : ∀ H e s', CX [] H t (fun _ _ _ => False) e s' → False) :
    codeAny (model P w) callerA (.call (.ref fa) ⟨[.ref a], []⟩) (fun r s' => r = .ok (.ret (.bool true)) ∧ OldK t.heap s'.heap ∧ s'.os = t.os ∧ AllBare s'.gens) t := by
  have rv := vals_ints hi
  have hlen : vs.length = ns.length := hi.length
  obtain ⟨ts, ets⟩ : ∃ ts : List Addr, ts = cs.map (·.2) := ⟨_, rfl⟩
  have inT : ∀ p ∈ cs, p.2 ∈ ts := fun p hp => by rw [ets]; exact List.mem_map_of_mem hp
  have ofT : ∀ b ∈ ts, ∃ p ∈ cs, p.2 = b := fun b hb => by rw [ets] at hb; simpa using hb
  have tabT : ∀ b ∈ ts, t.heap.get? b = some { cls := .none, data := .fields #[] } := fun b hb => by
    obtain ⟨p, hp, rfl⟩ := ofT b hb
    exact tab p hp
  have an : a ∉ ts := fun hb => by
    have z := tabT a hb
    rw [hl] at z
    have z := congrArg Obj.data (Option.some.inj z)
    cases (show Data.seq vs.toArray _ = Data.fields #[] from z)
  obtain ⟨H, eH⟩ : ∃ H, H = topH K a { cls := .type "list", data := .seq vs.toArray } ns ts := ⟨_, rfl⟩
  have cases3 := fun b => topH_cases K a { cls := .type "list", data := .seq vs.toArray } ns ts b
  rw [← eH] at cases3
  have hT : ∀ p ∈ cs, H p.2 = some (.tbl #[]) := fun p hp => by
    have hne : p.2 ≠ a := fun z => an (z ▸ inT p hp)
    rw [eH]
    unfold topH
    rw [if_neg hne, if_pos (inT p hp)]
  have hS : SqL K H a (ns.map V.int) := by
    by_cases q : K.lookup a = none
    · refine .inl (.inr ⟨{ cls := .type "list", data := .seq vs.toArray }, ?_⟩)
      rw [eH]
      unfold topH
      rw [if_pos rfl, if_pos q]
    · obtain ⟨o, ho⟩ := Option.ne_none_iff_exists'.mp q
      have z := kIn a o ho
      rw [hl] at z
      cases z
      exact .inr ⟨_, vs.toArray, _, ho, rfl, rfl, rfl, by rw [List.size_toArray, hlen]; exact hz, by simpa using rv⟩
  have hok : HOk P w H t.heap := fun b u z => by
    rcases cases3 b with q | ⟨rfl, _, q⟩ | ⟨_, hb, q⟩
    · rw [q] at z; cases z
    · rw [q] at z; cases z
      exact ⟨hl, by rw [List.length_map]; exact hz, vs, _, rv, hl⟩
    · rw [q] at z; cases z
      exact tabT b hb
  have off : ∀ {b : Addr} {o : Obj}, t.heap.get? b = some o → (∀ xs n, o.data ≠ .seq xs n) → o.data ≠ .fields #[] → H b = none := fun {b o} e h1 h2 => by
    rcases cases3 b with q | ⟨rfl, _, _⟩ | ⟨_, hb, _⟩
    · exact q
    · rw [hl] at e; cases e; exact (h1 _ _ rfl).elim
    · rw [tabT b hb] at e; cases e; exact (h2 rfl).elim
  have seen : ∀ {b : Addr} {o : Obj}, t.heap.get? b = some o → (∀ xs n, o.data ≠ .seq xs n) → o.data ≠ .fields #[] → (hidT t.heap H).get? b = some o := fun e h1 h2 => hidT_get e (off e h1 h2)
  have nsOf : ∀ {b : Addr} {m : Str → Option Value}, t.heap.Ns b m → (hidT t.heap H).Ns b m := by
    rintro b m ⟨o, es, ep, e, hd, r⟩
    exact ⟨o, es, ep, seen e (fun _ _ z => by rw [hd] at z; cases z) (fun z => by rw [hd] at z; cases z), hd, r⟩
  have kHid : K.In (hidT t.heap H) := fun b o ho => by
    have e := kIn b o ho
    rcases cases3 b with q | ⟨rfl, q, _⟩ | ⟨_, hb, _⟩
    · exact hidT_get e q
    · rw [q] at ho; cases ho
    · obtain ⟨p, hp, rfl⟩ := ofT b hb
      rw [own p hp] at ho; cases ho
  have md : L2.Mod K mg (hidT t.heap H) := ⟨kHid, nsOf hg, ⟨mb, nsOf hbn, hbb⟩, noL.elim fun mc z => ⟨mc, nsOf z.1, z.2⟩⟩
  have gNot : ∀ b, t.heap.get? b = some { cls := .none, data := .fields #[] } → mainGlobals ≠ b := fun b z q => by
    obtain ⟨o, es, ep, e, hd, _⟩ := hg
    rw [q, z] at e
    cases e
    cases hd
  have TB : ∀ p ∈ cs, LamX.TabB (hidT t.heap H) mg p.1 p.2 := fun p hp => by
    obtain ⟨o, us, fl, tf, flags, tg, inF, tx, tt, e1, r1, r2, r3, rest⟩ := cod p hp
    obtain ⟨bm, ob, b1, b2, b3, b4, b5, b6⟩ := hbm
    refine ⟨⟨o, us, fl, tf, flags, tg, inF, tx, tt, seen e1 (fun _ _ z => ?_) (fun z => ?_), r1, r2, r3, rest⟩, ⟨bm, ob, b1, b2, fun q => ?_, fun q => ?_, seen b3 (fun _ _ z => ?_) (fun z => ?_), b4, b5, b6⟩, gNot _ (tab p hp)⟩
    · rw [r2] at z; cases z
    · rw [r2] at z; cases z; simp at r3
    · obtain ⟨o', es, ep, e, hd, _⟩ := hg
      rw [← q, b3] at e
      cases e
      rw [b6] at hd
      cases hd
    · rw [q, tab p hp] at b3
      cases b3
      cases b6
    · rw [b6] at z; cases z
    · rw [b6] at z; cases z
  have en : Env0 P w K mg (hidT t.heap H) callerA [] t H := ⟨rfl, md, fun b o e => of_hidT e, Nat.le_of_eq (hidT_size _ _), trivial, fun b hb => (List.not_mem_nil hb).elim, hok, .of_eq gen0⟩
  refine codeAny_mono ((F _ kHid (nsOf hg) TB).go callerA [] t H ⟨[.ref a], []⟩ [.ref a] [.ref a] _ _ rfl hr en (hbd t (.ref a)) (.cons rfl .nil) (hsp H hT hS)) ?_
  intro r t' hq
  match r, hq with
  | .error e, hq => exact (hCX H e t' hq).elim
  | .ok (.ret u), ⟨v, H', os, bare, un, hok', r', q⟩ =>
    have q : v = .bl true := q
    subst q
    obtain rfl : u = Value.bool true := r'
    have keep : ∀ b o, b ∉ ts → t.heap.get? b = some o → t'.heap.get? b = some o := fun b o nb e => by
      rcases cases3 b with z | ⟨_, _, z⟩ | ⟨_, z, _⟩
      · exact un.keep b o e z (fun y => by cases y) (fun y => by cases y)
      · obtain ⟨e1, _⟩ := hok b _ z
        obtain ⟨e2, _⟩ := hok' b _ (un.frzs b _ _ z)
        rw [e] at e1
        cases e1
        exact e2
      · exact (nb z).elim
    have more : ∀ p ∈ cs, ∃ m : Array Value, t'.heap.get? p.2 = some { cls := .none, data := .fields m } := fun p hp => by
      obtain ⟨m, z⟩ := un.tbls p.2 #[] (hT p hp)
      exact ⟨_, hok' p.2 _ z⟩
    refine ⟨rfl, ⟨fun b o e => ?_, fun b o e => ?_⟩, os, bare⟩
    · by_cases hb : b ∈ ts
      · obtain ⟨p, hp, rfl⟩ := ofT b hb
        obtain ⟨m, hm⟩ := more p hp
        rw [tab p hp] at e
        cases e
        exact .inr (.inl ⟨((cod p hp).tab (tab p hp)).isCodeTable, rfl, #[], m, rfl, by rw [Array.empty_append]; exact hm⟩)
      · exact .inl (keep b o hb e)
    · by_cases hb : b ∈ ts
      · obtain ⟨p, hp, rfl⟩ := ofT b hb
        obtain ⟨m, hm⟩ := more p hp
        exact ⟨_, hm⟩
      · exact ⟨o, keep b o hb e⟩
/-- what is known of the law's promise where the head has run -/
def LawG (l : PySem.W.OpenLaw) (w : World) (K : PySem.W.Frag) (CX : CXT) (k n : Nat) (x : Str) (mg : Str → Option Value) (fa : Addr) (h : Heap) : Prop :=
  ∃ (fd : FuncData) (cs : List (Addr × Addr)) (sp : Sp), (∀ p ∈ cs, h.get? p.2 = some { cls := .none, data := .fields #[] }) ∧ (∀ p ∈ cs, K.lookup p.2 = none) ∧ (∀ p ∈ cs, PySem.W.CodeHd h p.1 p.2) ∧ (∀ (s : Shared) (u : Value), BindsTo s fd ⟨[u], []⟩ [(x, u)]) ∧
    (∀ (J : Hp) (a : Addr) (ns : List Int), ns.length ≤ n → (∀ z ∈ ns, Builtin.Int.intBits z ≤ 1048576) → (∀ p ∈ cs, J p.2 = some (.tbl #[])) → SqL K J a (ns.map V.int) → sp [.ref a] J (fun v _ => v = .bl true) fun _ _ _ => False) ∧
    ∀ base : Heap, K.In base → base.Ns mainGlobals mg → (∀ p ∈ cs, LamX.TabB base mg p.1 p.2) → FnG l.prog w K mg base CX k fa fd [x] sp
theorem walk_ofG {l : PySem.W.OpenLaw} {n k : Nat} {q : Program} {loose : List Str} {XP : (Str → Option Value) → Heap → Prop} {YP : World → Heap → Prop} {d : DefRec} {K : Params → PySem.W.Frag} {CX : World → CXT} {x : Str}
    (hn : l.most = some n) (hz : n ≤ sizeLine) (hdf : d.params.defaults = []) (hr : Room k callerA) (hY : ∀ (w : World) (h : Heap), YP w h → (K w.params).In h)
    (F : ∀ (w : World) (mg : Str → Option Value) (fa : Addr) (h : Heap), YP w h → (K w.params).In h → h.Ns mainGlobals mg → mg d.name = some (.ref fa) → LawG l w (K w.params) (CX w) k n x mg fa h)
    (hCX : ∀ (w : World) (J : Hp) (s : Shared) (e : Value) (s' : Shared), CX w [] J s (fun _ _ _ => False) e s' → False) :
    PySem.W.WalkO q loose XP YP l.row.toRowW d [] (fun f vs => PySem.call f vs) := by
  apply Att.attach_callB hn hdf
  intro w s0 t mg mb fa o pm cd dc a vs ns G Y _ _ _ hmg hob hin hle hbt hgn
  have kIn := hY w _ Y
  obtain ⟨fd, cs, sp, h1, h2, h3, h4, h5, h6⟩ := F w mg fa _ Y kIn G.T.g hmg
  exact law_callG kIn G.T.g G.T.b G.T.builtins G.T.nolimit hgn h1 h2 h3 G.T.bmain hob hin (Nat.le_trans hle hz) hr h6 h4 (fun J hJ hS => h5 J a ns hle hbt hJ hS) fun J e s' => hCX w J t e s'
end GdX
namespace GdX
open PySem PySem.Spec PyProof.Rows L2
/-- repr(d), d data without dicts -/
def rShow (K : PySem.W.Frag) : List V → Hp → VK → Prop := fun vs H Q => ∃ (a : Addr) (d : PyData), vs = [V.ref a] ∧ Dp K H (.ref a) d ∧ d.showable = true ∧ d.hasDict = false ∧ d.depth ≤ 20 ∧ d.shown.length ≤ sizeLine ∧ Q (.str d.shown) H
theorem cr_show {X : Cx} (hgd : X.A.guards = some []) (hu : X.A.units + 64 < cLine) : CallR X (.builtin "repr") (rShow X.K) := by
  intro pins s σ H vs us Q I r h
  obtain ⟨a, d, rfl, hd, h1, h2, h3, h4, q⟩ := h
  obtain ⟨as, z⟩ := Dp.reads I d _ _ hd (show RelV (.ref a) (.ref a) from rfl)
  rw [Vals.ref1 r]
  refine repr_of_reads' z h1 (PyData.noDict_hsm h2) hgd (by omega) (fun _ _ e => e) (fun h' u tk hk => ?_) h4
  exact ⟨.str _, H, I.kept hk, ⟨_, rfl⟩, q⟩
end GdX
namespace My
open PySem PySem.Spec PyProof.Rows L2
local macro_rules | `(tactic| walk_at "sq") => `(tactic| first | assumption | exact .inl (.inl (by assumption)) | exact .inl (.inl upd_same))
local macro_rules | `(tactic| walk_at "st") => `(tactic| first
  | refine ⟨_, rfl, ?_⟩
  | refine ⟨_, _, rfl, rfl, ?_⟩
  | refine ⟨cmull (by omega) (by omega), ?_⟩
  | refine ⟨cmulr (by omega) (by omega), ?_⟩
  | refine ⟨cdivw (by omega) (by omega), ?_⟩
  | refine ⟨(⟨by decide, by decide⟩ : CDiv _ _), ?_⟩
  | refine ⟨(show (0 : Int) < _ by omega), ?_⟩
  | refine ⟨(show (0 : Int) ≤ _ by omega), ?_⟩
  | refine ⟨(⟨by decide, by decide, by decide⟩ : CPow _ _), ?_⟩
  | refine ⟨(⟨by omega, by omega, by omega⟩ : CPow _ _), ?_⟩
  | refine .inl ⟨_, rfl, ?_⟩
  | refine .inr ⟨_, rfl, ?_⟩
  | refine ⟨_, _, _, _, _, rfl, .ty _, .base (.int _), kit_ii, ?_⟩
  | refine ⟨_, _, _, _, _, rfl, .ty _, .base (.int _), kit_ib, ?_⟩
  | refine ⟨_, _, _, _, _, rfl, .ty _, .base (.tup (by assumption)), kit_tt, ?_⟩
  | refine ⟨_, _, _, _, _, rfl, .ty _, .base (.lst (by assumption)), kit_ll, ?_⟩
  | refine iteT ?_
  | refine iteF ?_
  | refine ⟨_, _, rfl, .inl (.inl (by first | assumption | exact upd_same)), rfl, ?_⟩
  | refine ⟨_, _, rfl, ?_⟩
  | refine ⟨cmulr (by split <;> decide) (by split <;> decide), ?_⟩
  | refine ⟨_, _, rfl, .inl (by walk_at "sq"), ?_⟩
  | refine ⟨_, _, rfl, .inr (by walk_at "sq"), ?_⟩
  | refine ⟨_, _, _, _, rfl, rfl, (by walk_at "sq"), rfl, ?_⟩
  | refine ⟨rfl, ?_⟩
  | (refine ite2 (fun hc => ?_) (fun hc => ?_) <;> (try simp only [decide_eq_true_eq, Bool.not_eq_true', decide_eq_false_iff_not, Bool.not_eq_true, Bool.not_eq_false', Bool.false_eq_true, reduceCtorEq, V.int.injEq, not_true_eq_false, not_false_eq_true] at hc) <;> (try (exfalso; omega))))
local macro_rules | `(tactic| walk_at "ev") => `(tactic| repeat' walk_at "st")
def top (i : Nat) : Stmt := PySem.Challenge.pw_narrowingbits_k23_colours_and_back.main.body.getD i (.Pass ⟨0, 0, 0, 0⟩)
abbrev s_pair : Stmt := top 6
theorem sc_pair : FnScope ["a", "b", "d"] ["a", "b"] (defScope s_pair) := ⟨rfl, rfl, rfl, by decide +kernel, rfl, by decide +kernel, by decide +kernel⟩
abbrev s_back : Stmt := top 7
theorem sc_back : FnScope ["s", "d", "b"] ["s", "d"] (defScope s_back) := ⟨rfl, rfl, rfl, by decide +kernel, rfl, by decide +kernel, by decide +kernel⟩
abbrev s_coloured : Stmt := top 9
theorem sc_coloured : FnScope ["channels"] ["channels"] (defScope s_coloured) := ⟨rfl, rfl, rfl, by decide +kernel, rfl, by decide +kernel, by decide +kernel⟩
abbrev s_uncoloured : Stmt := top 10
theorem sc_uncoloured : FnScope ["channels"] ["channels"] (defScope s_uncoloured) := ⟨rfl, rfl, rfl, by decide +kernel, rfl, by decide +kernel, by decide +kernel⟩
abbrev s_coloured_cell : Stmt := top 11
theorem sc_coloured_cell : FnScope ["r", "g", "b", "t", "v", "y", "u"] ["r", "g", "b"] (defScope s_coloured_cell) := ⟨rfl, rfl, rfl, by decide +kernel, rfl, by decide +kernel, by decide +kernel⟩
abbrev s_uncoloured_cell : Stmt := top 12
theorem sc_uncoloured_cell : FnScope ["y", "u", "v", "g", "t", "r", "b"] ["y", "u", "v"] (defScope s_uncoloured_cell) := ⟨rfl, rfl, rfl, by decide +kernel, rfl, by decide +kernel, by decide +kernel⟩
abbrev s_check_form : Stmt := top 13
theorem sc_check_form : FnScope ["channels", "rows", "row", "forms"] ["channels"] (defScope s_check_form) := ⟨rfl, rfl, rfl, by decide +kernel, rfl, by decide +kernel, by decide +kernel⟩
abbrev s_cell_by_cell : Stmt := top 14
theorem sc_cell_by_cell : FnScope ["channels", "change", "told", "ones", "twos", "threes", "a", "b", "c", "cells", "number", "cell"] ["channels", "change"] (defScope s_cell_by_cell) := ⟨rfl, rfl, rfl, by decide +kernel, rfl, by decide +kernel, by decide +kernel⟩
abbrev s_law_pool : Stmt := top 16
theorem sc_law_pool : FnScope ["_law_script", "_law_k", "_law_cell", "_law_big", "_law_mixed"] ["_law_script", "_law_k"] (defScope s_law_pool) := ⟨rfl, rfl, rfl, by decide +kernel, rfl, by decide +kernel, by decide +kernel⟩
abbrev s_law_take : Stmt := top 17
theorem sc_law_take : FnScope ["_law_source", "_law_top", "_law_drawn"] ["_law_source", "_law_top"] (defScope s_law_take) := ⟨rfl, rfl, rfl, by decide +kernel, rfl, by decide +kernel, by decide +kernel⟩
abbrev s_law_one : Stmt := top 18
theorem sc_law_one : FnScope ["_law_source", "_law_things"] ["_law_source", "_law_things"] (defScope s_law_one) := ⟨rfl, rfl, rfl, by decide +kernel, rfl, by decide +kernel, by decide +kernel⟩
abbrev s_law_is_number : Stmt := top 19
theorem sc_law_is_number : FnScope ["_law_n"] ["_law_n"] (defScope s_law_is_number) := ⟨rfl, rfl, rfl, by decide +kernel, rfl, by decide +kernel, by decide +kernel⟩
abbrev s_law_number : Stmt := top 20
theorem sc_law_number : FnScope ["_law_source", "_law_way", "_law_great"] ["_law_source"] (defScope s_law_number) := ⟨rfl, rfl, rfl, by decide +kernel, rfl, by decide +kernel, by decide +kernel⟩
abbrev s_law_refused : Stmt := top 21
theorem sc_law_refused : FnScope ["_law_call", "e", "_law_kinds"] ["_law_call"] (defScope s_law_refused) := ⟨rfl, rfl, rfl, by decide +kernel, rfl, by decide +kernel, by decide +kernel⟩
abbrev s_law_channel : Stmt := top 22
theorem sc_law_channel : FnScope ["_law_source", "_law_wide", "_law_high", "_law_y", "_law_x"] ["_law_source", "_law_wide", "_law_high"] (defScope s_law_channel) := ⟨rfl, rfl, rfl, by decide +kernel, rfl, by decide +kernel, by decide +kernel⟩
abbrev s_law_due : Stmt := top 23
theorem sc_law_due : FnScope ["_law_r", "_law_g", "_law_b", "_law_v", "_law_t"] ["_law_r", "_law_g", "_law_b"] (defScope s_law_due) := ⟨rfl, rfl, rfl, by decide +kernel, rfl, by decide +kernel, by decide +kernel⟩
abbrev s_law_are_rows : Stmt := top 24
theorem sc_law_are_rows : FnScope ["_law_told", "_law_due_here", "_law_rows", "_law_row", "_law_n"] ["_law_told", "_law_due_here"] (defScope s_law_are_rows) := ⟨rfl, rfl, rfl, by decide +kernel, rfl, by decide +kernel, by decide +kernel⟩
abbrev s_law_right : Stmt := top 25
theorem sc_law_right : FnScope ["_law_source", "_law_wide", "_law_high", "_law_c", "_law_some", "_law_due_here", "_law_before", "_law_y", "_law_x", "_law_cells", "_law_row", "_law_cell", "_law_told", "_law_rows", "_law_given", "_law_back"] ["_law_source", "_law_wide", "_law_high"] (defScope s_law_right) := ⟨rfl, rfl, rfl, by decide +kernel, rfl, by decide +kernel, by decide +kernel⟩
abbrev s_law_refusals_right : Stmt := top 26
theorem sc_law_refusals_right : FnScope ["_law_source", "_law_wide", "_law_high", "_law_c", "_law_rows", "_law_row", "_law_at", "_law_wrong", "_law_way", "_law_one_here", "_law_some"] ["_law_source", "_law_wide", "_law_high"] (defScope s_law_refusals_right) := ⟨rfl, rfl, rfl, by decide +kernel, rfl, by decide +kernel, by decide +kernel⟩
abbrev s_law : Stmt := top 27
theorem sc_law : FnScope ["_law_script", "_law_k", "_law_source", "_law_wide", "_law_high"] ["_law_script"] (defScope s_law) := ⟨rfl, rfl, rfl, by decide +kernel, rfl, by decide +kernel, by decide +kernel⟩
abbrev s_BadField_init : Stmt := inClass (top 2) 0
theorem sc_BadField_init : FnScope ["self", "name"] ["self", "name"] (defScope s_BadField_init) := ⟨rfl, rfl, rfl, by decide +kernel, rfl, by decide +kernel, by decide +kernel⟩
section
variable {P : Program} {w : World} {K : PySem.W.Frag} {mg : Str → Option Value} {base : Heap}
structure Txt (mg : Str → Option Value) : Prop where
  z_int : mg "int" = none
  z_bool : mg "bool" = none
  z_len : mg "len" = none
  z_max : mg "max" = none
  z_min : mg "min" = none
  z_range : mg "range" = none
  z_isinstance : mg "isinstance" = none
  z_list : mg "list" = none
  z_zip : mg "zip" = none
  z_repr : mg "repr" = none
/-! ### a draw -/
def spTake : Sp := fun vs H Q _ => ∃ (a : Addr) (m : Int), vs = [.ref a, .int m] ∧ Src H a ∧ 0 < m ∧ m < 18446744073709551616 ∧ ∀ (r : Int) (H' : Hp), 0 ≤ r → r < m → Src H' a → But a H H' → Q (.int r) H'
theorem ok_take {f : Addr} {fd : FuncData} {k : Nat} (F : Fun K "_law_take" "_law_take" s_law_take f fd) (T : Txt mg) : FnOk P w K mg base CX0 (k + 1) f fd ["_law_source", "_law_top"] spTake := by
  refine F.ok sc_law_take (fun vs H Q E h => ?_) (fun cdv A outer s H vs Q E hr h => ?_)
  · obtain ⟨a, m, rfl, _⟩ := h
    rfl
  · obtain ⟨a, m, rfl, ⟨x, y, ha, hx, hy, hy2⟩, hm, hm2, q⟩ := h
    refine ⟨_, (pss_cons (ps_if (pt_cmpR op_gt (pe_ix ix_list (pv 0) pe_int (fun _ _ => rfl)) pe_int (nomark _)) (pss_cons (ps_set (i := 2) sc_law_take.nd rfl (Or.inl rfl) (pe_op op_mod (pe_callTy call_int1 (by rfl) T.z_int PyProof.Rows.boot_int (pa_cons (pe_ix ix_list (pv 0) pe_int (fun _ _ => rfl)) pa_nil)) (pv 1)))
    (pss_cons (ps_asg (pe_op op_fdivW (pe_ix ix_list (pv 0) pe_int (fun _ _ => rfl)) (pv 1)) (pg_sub (pv 0) pe_int set_list))
    (pss_one (ps_ret (pv 2))))) pss_nil)
    (pss_cons (ps_asg (pe_op op_mod (pe_callTy call_int1 (by rfl) T.z_int PyProof.Rows.boot_int (pa_cons (pe_op op_add (pe_op op_mul (pe_ix ix_list (pv 0) pe_int (fun _ _ => rfl)) pe_int) pe_int) pa_nil)) pe_int) (pg_sub (pv 0) pe_int set_list))
    (pss_one (ps_ret (pe_op op_mod (pe_callTy call_int1 (by rfl) T.z_int PyProof.Rows.boot_int (pa_cons (pe_op op_fdiv (pe_op op_mod (pe_callTy call_int1 (by rfl) T.z_int PyProof.Rows.boot_int (pa_cons (pe_op op_mul (pe_ix ix_list (pv 0) pe_int (fun _ _ => rfl)) (pe_ix ix_list (pv 0) pe_int (fun _ _ => rfl))) pa_nil)) pe_int) pe_int) pa_nil)) (pv 1)))))), ?_⟩
    walk_at "ev"
    · refine q _ _ (Int.emod_nonneg _ (by omega)) (Int.emod_lt_of_pos _ hm) ⟨_, _, upd_same, Int.ediv_nonneg hx (by omega), hy, hy2⟩ But.upd
    · refine q _ _ (Int.emod_nonneg _ (by omega)) (Int.emod_lt_of_pos _ hm) ⟨_, _, upd_same, hx, Int.emod_nonneg _ (by omega), Int.emod_lt_of_pos _ (by omega)⟩ But.upd
/-! ### the pool of a cell -/
def spPool (K : PySem.W.Frag) : Sp := fun vs H Q _ => ∃ (a : Addr) (ns : List Int) (k : Int), vs = [.ref a, .int k] ∧ SqL K H a (ns.map V.int) ∧ 0 ≤ k ∧ k < 100 ∧ ∀ (p : Addr) (H' : Hp), H p = none → Same H H' → Src H' p → Q (.ref p) H'
theorem ok_pool {f : Addr} {fd : FuncData} {k : Nat} (F : Fun K "_law_pool" "_law_pool" s_law_pool f fd) (T : Txt mg) : FnOk P w K mg base CX0 (k + 1) f fd ["_law_script", "_law_k"] (spPool K) := by
  refine F.ok sc_law_pool (fun vs H Q E h => ?_) (fun cdv A outer s H vs Q E hr h => ?_)
  · obtain ⟨a, ns, k, rfl, _⟩ := h
    rfl
  · obtain ⟨a, ns, k, rfl, hS, hk, hk2, q⟩ := h
    refine ⟨_, (pss_cons (ps_set (i := 2) sc_law_pool.nd rfl (Or.inl rfl) pe_int)
    (pss_cons (ps_if (pt_cmpR op_lt (pv 1) (pe_callB call_len_seq (by rfl) T.z_len PySem.boot_len (pa_cons (pv 0) pa_nil)) (nomark _)) (pss_one (ps_set (i := 2) sc_law_pool.nd rfl (Or.inl rfl) (pe_ix ix_list (pv 0) (pv 1) (fun _ _ => rfl)))) pss_nil)
    (pss_cons (ps_set (i := 3) sc_law_pool.nd rfl (Or.inl rfl) (pe_callB (call_max2 rfl) (by rfl) T.z_max PyProof.Rows.boot_max (pa_cons (pe_callTy call_int1 (by rfl) T.z_int PyProof.Rows.boot_int (pa_cons (pv 2) pa_nil)) (pa_cons (pe_callTy call_int1 (by rfl) T.z_int PyProof.Rows.boot_int (pa_cons (pe_op op_sub (pe_un un_neg pe_int) (pv 2)) pa_nil)) pa_nil))))
    (pss_cons (ps_set (i := 4) sc_law_pool.nd rfl (Or.inl rfl) (pe_op op_mod (pe_callTy call_int1 (by rfl) T.z_int PyProof.Rows.boot_int (pa_cons (pe_op op_mul (pe_op op_add (pe_op op_add (pe_op op_add (pe_op op_mod (pe_callTy call_int1 (by rfl) T.z_int PyProof.Rows.boot_int (pa_cons (pv 3) pa_nil)) pe_int) (pe_op op_mul (pe_op op_mul pe_int (pv 1)) (pv 1))) (pe_op op_mul pe_int (pv 1))) pe_int) pe_int) pa_nil)) pe_int))
    (pss_one (ps_ret (pe_lst (pa_cons (pe_op op_mul (pv 3) (pe_callTy call_int1 (by rfl) T.z_int PyProof.Rows.boot_int (pa_cons (pe_cmpR op_ge (pv 3) (pe_op (op_powc (a := 10) (b := 18) (c := 1000000000000000000) ⟨by decide, by decide, by decide⟩ (by decide +kernel)) pe_int pe_int) (nomark _)) pa_nil))) (pa_cons (pv 4) pa_nil))))))))), ?_⟩
    walk_at "ev"
    · obtain ⟨z, hz⟩ := at_lt hk (by assumption)
      refine ⟨_, _, _, _, rfl, rfl, hS, hz, ?_⟩
      walk_at "ev"
      refine ⟨(by show 2 ≤ sizeLine; decide), fun p np => q p _ np (same_upd np) ⟨_, _, upd_same, pool_nn _ _, Int.emod_nonneg _ (by omega), Int.emod_lt_of_pos _ (by omega)⟩⟩
    · refine ⟨(by show 2 ≤ sizeLine; decide), fun p np => q p _ np (same_upd np) ⟨_, _, upd_same, pool_nn _ _, Int.emod_nonneg _ (by omega), Int.emod_lt_of_pos _ (by omega)⟩⟩
/-! ### one of some things -/
def spOne : Sp := fun vs H Q _ => ∃ (a t : Addr) (xs : List V), vs = [.ref a, .ref t] ∧ Src H a ∧ t ≠ a ∧ H t = some (.lst xs) ∧ xs ≠ [] ∧ xs.length ≤ 1000 ∧ ∀ (v : V) (H' : Hp), v ∈ xs → Src H' a → But a H H' → Q v H'
theorem ok_one {f : Addr} {fd : FuncData} {k : Nat} (F : Fun K "_law_one" "_law_one" s_law_one f fd) (T : Txt mg) (c_law_take : C8.Cal P w K mg base 1 "_law_take" spTake []) : FnOk P w K mg base CX0 (k + 2) f fd ["_law_source", "_law_things"] spOne := by
  refine F.ok sc_law_one (fun vs H Q E h => ?_) (fun cdv A outer s H vs Q E hr h => ?_)
  · obtain ⟨a, t, xs, rfl, _⟩ := h
    rfl
  · obtain ⟨a, t, xs, rfl, ha, hta, ht, hx, hl, q⟩ := h
    refine ⟨_, (pss_one (ps_ret (pe_ix ix_list (pv 1) (C8.pe_c c_law_take hr (by omega) (by rfl) (pa_cons (pv 0) (pa_cons (pe_callB call_len_seq (by rfl) T.z_len PySem.boot_len (pa_cons (pv 1) pa_nil)) pa_nil))) (fun _ _ => rfl)))), ?_⟩
    walk_at "ev"
    have hp : 0 < xs.length := List.length_pos_iff.mpr hx
    refine ⟨ha, (by omega), (by omega), fun r H' h0 h1 s1 u1 => ?_⟩
    obtain ⟨v, hv, hm⟩ := at_mem (xs := xs) h0 h1
    exact ⟨_, _, _, _, rfl, rfl, .inl (.inl (u1.at hta ht)), hv, q v H' hm s1 u1⟩
/-! ### numbers that are drawn -/
def Big (n : Int) : Prop := -(10 ^ 31) < n ∧ n < 10 ^ 31
def spNum : Sp := fun vs H Q _ => ∃ (a : Addr), vs = [.ref a] ∧ Src H a ∧ ∀ (n : Int) (H' : Hp), Big n → Src H' a → But a H H' → Q (.int n) H'
theorem ok_number {f : Addr} {fd : FuncData} {k : Nat} (F : Fun K "_law_number" "_law_number" s_law_number f fd) (T : Txt mg) (c_law_take : C8.Cal P w K mg base 1 "_law_take" spTake []) : FnOk P w K mg base CX0 (k + 2) f fd ["_law_source"] spNum := by
  refine F.ok sc_law_number (fun vs H Q E h => ?_) (fun cdv A outer s H vs Q E hr h => ?_)
  · obtain ⟨a, rfl, _⟩ := h
    rfl
  · obtain ⟨a, rfl, ha, q⟩ := h
    refine ⟨_, (pss_cons (ps_set (i := 1) sc_law_number.nd rfl (Or.inl rfl) (C8.pe_c c_law_take hr (by omega) (by rfl) (pa_cons (pv 0) (pa_cons pe_int pa_nil))))
    (pss_cons (ps_if (pt_cmpR op_lt (pv 1) pe_int (nomark _)) (pss_one (ps_ret (pe_op op_sub (C8.pe_c c_law_take hr (by omega) (by rfl) (pa_cons (pv 0) (pa_cons pe_int pa_nil))) pe_int))) pss_nil)
    (pss_cons (ps_if (pt_cmpR op_eq (pv 1) pe_int (nomark _)) (pss_one (ps_ret (pe_op op_sub (C8.pe_c c_law_take hr (by omega) (by rfl) (pa_cons (pv 0) (pa_cons pe_int pa_nil))) pe_int))) pss_nil)
    (pss_cons (ps_set (i := 2) sc_law_number.nd rfl (Or.inl rfl) (pe_op op_sub (pe_op op_sub (pe_op (op_powc (a := 10) (b := 30) (c := 1000000000000000000000000000000) ⟨by decide, by decide, by decide⟩ (by decide +kernel)) pe_int pe_int) (pe_op op_mul (pe_op (op_powc (a := 10) (b := 9) (c := 1000000000) ⟨by decide, by decide, by decide⟩ (by decide +kernel)) pe_int pe_int) (C8.pe_c c_law_take hr (by omega) (by rfl) (pa_cons (pv 0) (pa_cons (pe_op (op_powc (a := 10) (b := 9) (c := 1000000000) ⟨by decide, by decide, by decide⟩ (by decide +kernel)) pe_int pe_int) pa_nil))))) (C8.pe_c c_law_take hr (by omega) (by rfl) (pa_cons (pv 0) (pa_cons (pe_op (op_powc (a := 10) (b := 9) (c := 1000000000) ⟨by decide, by decide, by decide⟩ (by decide +kernel)) pe_int pe_int) pa_nil)))))
    (pss_one (ps_ret (pe_ifExp (pt_cmpR op_eq (C8.pe_c c_law_take hr (by omega) (by rfl) (pa_cons (pv 0) (pa_cons pe_int pa_nil))) pe_int (nomark _)) (pv 2) (pe_op op_sub pe_int (pv 2))))))))), ?_⟩
    walk_at "ev"
    refine ⟨ha, by decide, by decide, fun r1 H1 h0 h1 s1 u1 => ?_⟩
    walk_at "ev"
    · refine ⟨s1, by decide, by decide, fun r2 H2 g0 g1 s2 u2 => ?_⟩
      walk_at "ev"
      exact q _ _ ⟨by omega, by omega⟩ s2 (u1.trans u2)
    · refine ⟨s1, by decide, by decide, fun r2 H2 g0 g1 s2 u2 => ?_⟩
      walk_at "ev"
      exact q _ _ ⟨by omega, by omega⟩ s2 (u1.trans u2)
    · refine ⟨s1, by decide, by decide, fun r2 H2 g0 g1 s2 u2 => ?_⟩
      walk_at "ev"
      refine ⟨s2, by decide, by decide, fun r3 H3 k0 k1 s3 u3 => ?_⟩
      walk_at "ev"
      refine ⟨s3, by decide, by decide, fun r4 H4 l0 l1 s4 u4 => ?_⟩
      walk_at "ev"
      · exact q _ _ ⟨by omega, by omega⟩ s4 ((u1.trans u2).trans (u3.trans u4))
      · exact q _ _ ⟨by omega, by omega⟩ s4 ((u1.trans u2).trans (u3.trans u4))
theorem blk_in {N : List Str} {sc0 scope0 scope : Scope} {own : List (Str × Nat)} {cl : List (Str × Addr)} {C : Addr} {env : Env} (hs : env.scope = sc0) (h : blkC N (relS scope0 sc0) scope own = true) : BlkOk N (compEnvC scope0 cl C env).scope scope own := by
  subst hs
  exact blkOk_by h
/-! ### rows of numbers -/
def RowsA (N : Addr → Prop) (H : Hp) (as : List Addr) (rows : List (List Int)) : Prop := as.length = rows.length ∧ ∀ (i : Nat) (b : Addr) (r : List Int), as[i]? = some b → rows[i]? = some r → N b ∧ H b = some (.lst (r.map V.int))
def Rows (N : Addr → Prop) (H : Hp) (p : Addr) (rows : List (List Int)) : Prop := N p ∧ ∃ as : List Addr, H p = some (.lst (as.map V.ref)) ∧ RowsA N H as rows
theorem RowsA.up {N M : Addr → Prop} {H H' : Hp} {as : List Addr} {rows : List (List Int)} (h : RowsA N H as rows) (u : ∀ b o, N b → H b = some o → M b ∧ H' b = some o) : RowsA M H' as rows :=
  ⟨h.1, fun i b r e1 e2 => by
    obtain ⟨n, e⟩ := h.2 i b r e1 e2
    exact u b _ n e⟩
theorem Rows.up {N M : Addr → Prop} {H H' : Hp} {p : Addr} {rows : List (List Int)} (h : Rows N H p rows) (u : ∀ b o, N b → H b = some o → M b ∧ H' b = some o) : Rows M H' p rows := by
  obtain ⟨n, as, e, r⟩ := h
  obtain ⟨m, e'⟩ := u p _ n e
  exact ⟨m, as, e', r.up u⟩
theorem RowsA.nil {N : Addr → Prop} {H : Hp} : RowsA N H [] [] := ⟨rfl, fun i b r e => nomatch e⟩
theorem RowsA.app {N : Addr → Prop} {H : Hp} {as : List Addr} {rows : List (List Int)} {b : Addr} {r : List Int} (h : RowsA N H as rows) (n : N b) (e : H b = some (.lst (r.map V.int))) : RowsA N H (as ++ [b]) (rows ++ [r]) := by
  refine ⟨by rw [List.length_append, List.length_append, h.1]; rfl, fun i c s e1 e2 => ?_⟩
  by_cases hi : i < as.length
  · rw [List.getElem?_append_left hi] at e1
    rw [List.getElem?_append_left (by rw [← h.1]; exact hi)] at e2
    exact h.2 i c s e1 e2
  · have hi2 : as.length ≤ i := Nat.le_of_not_lt hi
    rw [List.getElem?_append_right hi2] at e1
    rw [List.getElem?_append_right (by rw [← h.1]; exact hi2), ← h.1] at e2
    cases hk : i - as.length with
    | zero =>
      rw [hk] at e1 e2
      cases e1
      cases e2
      exact ⟨n, e⟩
    | succ k =>
      rw [hk] at e1
      cases e1
def ofSize (w h : Nat) (rows : List (List Int)) : Prop := rows.length = h ∧ ∀ r ∈ rows, r.length = w
/-! ### channels: lists of rows -/
def ChA (N : Addr → Prop) (H : Hp) (qs : List Addr) (cs : List (List (List Int))) : Prop := qs.length = cs.length ∧ ∀ (i : Nat) (q : Addr) (c : List (List Int)), qs[i]? = some q → cs[i]? = some c → Rows N H q c
theorem ChA.up {N M : Addr → Prop} {H H' : Hp} {qs : List Addr} {cs : List (List (List Int))} (h : ChA N H qs cs) (u : ∀ b o, N b → H b = some o → M b ∧ H' b = some o) : ChA M H' qs cs :=
  ⟨h.1, fun i q c e1 e2 => (h.2 i q c e1 e2).up u⟩
def Chs (N : Addr → Prop) (H : Hp) (p : Addr) (cs : List (List (List Int))) : Prop := N p ∧ ∃ qs : List Addr, H p = some (.lst (qs.map V.ref)) ∧ ChA N H qs cs
theorem Chs.up {N M : Addr → Prop} {H H' : Hp} {p : Addr} {cs : List (List (List Int))} (h : Chs N H p cs) (u : ∀ b o, N b → H b = some o → M b ∧ H' b = some o) : Chs M H' p cs := by
  obtain ⟨n, qs, e, r⟩ := h
  exact ⟨(u p _ n e).1, qs, (u p _ n e).2, r.up u⟩
theorem ChA.nil {N : Addr → Prop} {H : Hp} : ChA N H [] [] := ⟨rfl, fun i b r e => nomatch e⟩
theorem ChA.cons {N : Addr → Prop} {H : Hp} {q : Addr} {qs : List Addr} {c : List (List Int)} {cs : List (List (List Int))} (h : Rows N H q c) (r : ChA N H qs cs) : ChA N H (q :: qs) (c :: cs) :=
  ⟨congrArg Nat.succ r.1, fun i a d e1 e2 => match i, e1, e2 with
    | 0, e1, e2 => by cases e1; cases e2; exact h
    | i + 1, e1, e2 => r.2 i a d e1 e2⟩
theorem ChA.app {N : Addr → Prop} {H : Hp} {qs : List Addr} {cs : List (List (List Int))} {q : Addr} {c : List (List Int)} (h : ChA N H qs cs) (r : Rows N H q c) : ChA N H (qs ++ [q]) (cs ++ [c]) := by
  refine ⟨by rw [List.length_append, List.length_append, h.1]; rfl, fun i a d e1 e2 => ?_⟩
  by_cases hi : i < qs.length
  · rw [List.getElem?_append_left hi] at e1
    rw [List.getElem?_append_left (by rw [← h.1]; exact hi)] at e2
    exact h.2 i a d e1 e2
  · have hj : qs.length ≤ i := Nat.le_of_not_lt hi
    rw [List.getElem?_append_right hj] at e1
    rw [List.getElem?_append_right (by rw [← h.1]; exact hj), ← h.1] at e2
    generalize i - qs.length = j at e1 e2
    match j, e1, e2 with
    | 0, e1, e2 => cases e1; cases e2; exact r
    | j + 1, e1, _ => cases e1
/-- a list or a tuple that is walked -/
def iSeqS (K : PySem.W.Frag) (tl : TE) : TI := fun σ H R => tl σ H fun x H1 => ∃ (a : Addr) (xs : List V), x = .ref a ∧ SqS K H1 a xs ∧ ∀ (J : It) (G : Hp → Prop), Walk J xs.length G (YAt xs) → (∀ H', Same H1 H' → G H') → R J H1
theorem pi_seqS {X : Cx} {tg l : Expr} {tl : TE} (hl : PE X l tl) : PI X tg l (iSeqS X.K tl) := by
  refine ⟨fun pins s σ H R I h => ?_⟩
  refine thn (hl.run pins s σ H _ I h) fun v s1 ⟨x, H1, I1, r1, a, xs, e, hS, q⟩ => ?_
  subst e
  cases r1
  rcases hS with hq | hq
  · obtain ⟨its, rv, p, hz⟩ := I1.list hq
    refine wpAny_pyIter_list p.isList ?_
    refine ⟨s1.heap.objs.size, [s1.heap.objs.size], _, _, H1, rfl, I1.kept (t' := s1.toks) fun b o e => Heap.get?_push_of_some _ e, turn_list a _, ⟨_, Heap.get?_push_size _ rfl, rfl, rfl⟩, fun b hb => ?_, q _ _ walk_list fun H' s => s.seq hq⟩
    have e : b = s1.heap.objs.size := by simpa using hb
    subst e
    exact I1.fpOk (Nat.le_refl _) (I1.hok.fresh (Nat.le_refl _))
  · obtain ⟨its, rv, p, hz⟩ := I1.tuple hq
    refine wpAny_pyIter_tuple (show s1.heap.IsTuple a its.toArray from p) ?_
    refine ⟨s1.heap.objs.size, [s1.heap.objs.size], _, _, H1, rfl, I1.kept (t' := s1.toks) fun b o e => Heap.get?_push_of_some _ e, turn_tuple a _, ⟨_, Heap.get?_push_size _ rfl, rfl, rfl⟩, fun b hb => ?_, q _ _ walk_tup fun H' s => same_seqT s hq⟩
    have e : b = s1.heap.objs.size := by simpa using hb
    subst e
    exact I1.fpOk (Nat.le_refl _) (I1.hok.fresh (Nat.le_refl _))
theorem q_ixS {K : PySem.W.Frag} {H : Hp} {p : Addr} {xs : List V} {i : Int} {v : V} {Q : VK} (h : SqS K H p xs) (e : atI xs i = some v) (q : Q v H) : rIx K (.ref p) (.int i) H Q := by
  rcases h with h | h
  · exact .inl ⟨p, xs, i, v, rfl, rfl, h, e, q⟩
  · exact .inr (.inl ⟨p, xs, i, v, rfl, rfl, h, e, q⟩)
/-- a row's numbers of cells -/
def lens (c : List (List Int)) : List Int := c.map fun r => (r.length : Int)
/-- three channels of one form -/
def Ok3 (cs : List (List (List Int))) : Prop := ∃ c0 c1 c2, cs = [c0, c1, c2] ∧ lens c0 = lens c1 ∧ lens c0 = lens c2
/-! ### what is checked -/
theorem dp_lens {K : PySem.W.Frag} {H : Hp} {p : Addr} {c : List (List Int)} (h : H p = some (.lst ((lens c).map V.int))) : Dp K H (.ref p) (.list ((lens c).map PyData.int)) := dp_ints (.inl (.inl h))
theorem q_neL {K : PySem.W.Frag} {H : Hp} {p q : Addr} {b c : List (List Int)} {Q : VK} (hp : Dp K H (.ref p) (.list ((lens b).map PyData.int))) (hq : Dp K H (.ref q) (.list ((lens c).map PyData.int))) (h : Q (.bl (!decide (lens b = lens c))) H) : rNeD K (.ref p) (.ref q) H Q :=
  ⟨_, _, hp, hq, sh_ints _, sh_ints _, by rw [show PyData.eqv (.list ((lens b).map PyData.int)) (.list ((lens c).map PyData.int)) = decide (lens b = lens c) from by rw [PyData.eqv]; exact PySem.W.ked_eqvAll _ _]; exact h⟩
def spChkF (K : PySem.W.Frag) (BG : Addr) : Sp := fun vs H Q E => ∃ (p : Addr) (qs : List Addr) (cs : List (List (List Int))), vs = [.ref p] ∧ SqS K H p (qs.map V.ref) ∧ ChA (fun _ => True) H qs cs ∧ cs.length ≤ 900 ∧ (∀ c ∈ cs, c.length ≤ 900) ∧
  (Ok3 cs → ∀ H', Same H H' → Q .non H') ∧ (¬ Ok3 cs → ∀ H', Same H H' → E (.ref BG) none H')
theorem ok_chkf {f BG : Addr} {fd : FuncData} {k : Nat} (F : Fun K "_check_form" "_check_form" s_check_form f fd) (T : Txt mg) (e_BadGrid : ECls K mg "BadGrid" BG) : FnOk P w K mg base (L2.CX P w) (k + 1) f fd ["channels"] (spChkF K BG) := by
  refine F.okX sc_check_form (fun vs H Q E h => ?_) (fun cdv A outer s H vs Q E hr h => ?_)
  · obtain ⟨p, qs, cs, rfl, _⟩ := h
    rfl
  · obtain ⟨p, qs, cs, rfl, hS, hA, hl, hc, q, x⟩ := h
    have hu := hr.units
    have hlen : (qs.map V.ref).length = cs.length := (List.length_map _).trans hA.1
    refine ⟨_, (pss_cons (ps_if (pt_cmpR op_ne (pe_callB call_len_seq (by rfl) T.z_len PySem.boot_len (pa_cons (pv 0) pa_nil)) pe_int (nomark _)) (pss_one (ps_raise rfl (takes_of rfl rfl rfl rfl) (pmk_none PySem.F.excBase_ValueError e_BadGrid.xC e_BadGrid.gC e_BadGrid.kC (raises_own e_BadGrid.bC e_BadGrid.tC) (by rfl)))) pss_nil)
    (pss_cons (ps_setLc (i := 3) (own := [("rows", 1)]) (g := (gName 1)) (tt := tYes) rfl sc_check_form.nd rfl rfl (sw_true rfl rfl rfl (by decide +kernel)) (pi_seqS (pv 0)) (blkOk_by (N := ["channels", "rows", "row", "forms"]) (sc := defScope s_check_form) (by decide +kernel)) (fun _ _ _ _ _ => pg_name (i := 1) sc_check_form.nd rfl (by first | exact Or.inl rfl | exact Or.inr rfl)) (fun _ _ _ _ _ => pts_nil) (fun _ _ _ _ _ => (pe_lc (own := [("row", 2)]) (g := (gName 2)) (tt := tYes) rfl sc_check_form.nd (pi_listC (K := K) rfl (pv 1)) (blk_in (N := ["channels", "rows", "row", "forms"]) (sc0 := defScope s_check_form) rfl (by decide +kernel)) (fun _ _ _ _ _ => pg_name (i := 2) sc_check_form.nd rfl (by first | exact Or.inl rfl | exact Or.inr rfl)) (fun _ _ _ _ _ => pts_nil) (fun _ _ _ _ _ => (pe_callB (call_len_seq : CallR _ (.builtin "len") (fun xs H Q => ∃ p ys, xs = [.ref p] ∧ (SqL K H p ys ∨ SqT K H p ys) ∧ Q (.int ys.length) H)) (by rfl) T.z_len PySem.boot_len (pa_cons (pv 2) pa_nil))))))
    (pss_one (ps_if (PW.pt (pw_or (pt_cmpR (op_neD hu) (pe_ix ix_list (pv 3) pe_int (fun _ _ => rfl)) (pe_ix ix_list (pv 3) pe_int (fun _ _ => rfl)) (nomark _)) (pw_or1 (pt_cmpR (op_neD hu) (pe_ix ix_list (pv 3) pe_int (fun _ _ => rfl)) (pe_ix ix_list (pv 3) pe_int (fun _ _ => rfl)) (nomark _))))) (pss_one (ps_raise rfl (takes_of rfl rfl rfl rfl) (pmk_none PySem.F.excBase_ValueError e_BadGrid.xC e_BadGrid.gC e_BadGrid.kC (raises_own e_BadGrid.bC e_BadGrid.tC) (by rfl)))) pss_nil)))), ?_⟩
    walk_at "ev"
    refine ⟨p, _, rfl, hS, ?_⟩
    have hL3 : ((List.map V.ref qs).length : Int) = cs.length := by rw [hlen]
    walk_at "ev"
    · rename_i h3
      exact x (fun ⟨_, _, _, e, _⟩ => h3 (by rw [hL3, e]; rfl)) H fun _ _ e => e
    · rename_i h3
      have h3 : cs.length = 3 := by omega
      obtain ⟨c0, c1, c2, rfl⟩ : ∃ c0 c1 c2, cs = [c0, c1, c2] := by
        match cs, h3 with
        | [c0, c1, c2], _ => exact ⟨c0, c1, c2, rfl⟩
      obtain ⟨q0, q1, q2, rfl⟩ : ∃ q0 q1 q2, qs = [q0, q1, q2] := by
        match qs, hA.1 with
        | [q0, q1, q2], _ => exact ⟨q0, q1, q2, rfl⟩
      refine ⟨p, _, rfl, hS, fun J G wk hG D nD => ?_⟩
      refine lc_it wk (fun i H2 => Same H H2 ∧ ∃ ls : List Addr, H2 D = some (.lst (ls.map V.ref)) ∧ RowsA (· ≠ D) H2 ls (([c0, c1, c2].take i).map lens)) ⟨same_upd nD, [], upd_same, .nil⟩ (fun _ _ _ h => hG _ h.1) ?_ ?_
      · rintro i y H2 H3 hi ⟨s2, ls, e2, hR⟩ ⟨rfl, hy⟩
        rw [List.getElem?_map] at hy
        obtain ⟨q', hq', rfl⟩ := Option.map_eq_some_iff.mp hy
        obtain ⟨c, hcc⟩ : ∃ c, [c0, c1, c2][i]? = some c := ⟨_, List.getElem?_eq_getElem (by simpa using hi)⟩
        obtain ⟨_, as, ea, hA1⟩ := hA.2 i q' c hq' hcc
        have hcl := hc c (List.mem_of_getElem? hcc)
        walk_at "ev"
        refine ⟨⟨_, .inl (.inl (s2 _ _ ea))⟩, fun D2 nD2 => ?_⟩
        have n2D : D2 ≠ D := fun z => by rw [z, e2] at nD2; cases nD2
        refine lc_it (walk_list (xs := as.map V.ref)) (fun t H4 => Same H3 H4 ∧ H4 D2 = some (.lst (((lens c).take t).map V.int))) ⟨same_upd nD2, upd_same⟩ (fun _ _ _ h => .inl (.inl (h.1 _ _ (s2 _ _ ea)))) ?_ ?_
        · rintro t z H4 H5 ht ⟨s4, e4⟩ ⟨rfl, hz⟩
          rw [List.getElem?_map] at hz
          obtain ⟨b, hb, rfl⟩ := Option.map_eq_some_iff.mp hz
          obtain ⟨r, hr'⟩ : ∃ r, c[t]? = some r := ⟨_, List.getElem?_eq_getElem (by rw [← hA1.1]; exact (List.getElem?_eq_some_iff.mp hb).1)⟩
          have hb4 := s4 _ _ (s2 _ _ (hA1.2 t b r hb hr').2)
          walk_at "ev"
          refine ⟨_, e4, small1000 (by rw [List.length_map, List.length_take]; have := (List.getElem?_eq_some_iff.mp hr').1; omega), fun b' o e => ?_, ?_⟩
          · rw [upd_ne (ne_of_none e nD2)]
            exact s4 _ _ e
          · rw [upd_same, ← take_snoc (show (lens c)[t]? = some (r.length : Int) by unfold lens; rw [List.getElem?_map, hr']; rfl), List.map_append, List.length_map]
            rfl
        · rintro H4 ⟨s4, e4⟩
          have hll : (as.map V.ref).length = (lens c).length := by unfold lens; rw [List.length_map, List.length_map, hA1.1]
          rw [hll, List.take_length] at e4
          have hls : ls.length ≤ 3 := by rw [hR.1, List.length_map, List.length_take]; show min i 3 ≤ 3; omega
          refine ⟨_, s4 _ _ e2, small1000 (by rw [List.length_map]; omega), fun b o e => ?_, ls ++ [D2], by rw [upd_same, List.map_append]; rfl, ?_⟩
          · rw [upd_ne (ne_of_none e nD)]
            exact s4 _ _ (s2 _ _ e)
          · rw [← take_snoc hcc, List.map_append]
            refine (hR.up fun b o n e => ⟨n, ?_⟩).app n2D ?_
            · rw [upd_ne n]
              exact s4 _ _ e
            · rw [upd_ne n2D]
              exact e4
      · rintro H2 ⟨s2, ls, e2, hR⟩
        obtain ⟨l0, l1, l2, rfl⟩ : ∃ l0 l1 l2, ls = [l0, l1, l2] := by
          have := hR.1
          match ls, this with
          | [l0, l1, l2], _ => exact ⟨l0, l1, l2, rfl⟩
        have d0 := dp_lens (K := K) (hR.2 0 l0 (lens c0) rfl rfl).2
        have d1 := dp_lens (K := K) (hR.2 1 l1 (lens c1) rfl rfl).2
        have d2 := dp_lens (K := K) (hR.2 2 l2 (lens c2) rfl rfl).2
        have eD : SqL K H2 D [.ref l0, .ref l1, .ref l2] := .inl (.inl e2)
        walk_at "ev"
        refine q_neL d0 d1 ?_
        by_cases h01 : lens c0 = lens c1
        · rw [decide_eq_true h01]
          walk_at "ev"
          refine q_neL d0 d2 ?_
          by_cases h02 : lens c0 = lens c2
          · rw [decide_eq_true h02]
            walk_at "ev"
            exact q ⟨c0, c1, c2, rfl, h01, h02⟩ _ s2
          · rw [decide_eq_false h02]
            walk_at "ev"
            exact x (fun ⟨_, _, _, e, _, z⟩ => h02 (by injection e with e0 e; injection e with e1 e; injection e with e2 e; rw [e0, e2]; exact z)) _ s2
        · rw [decide_eq_false h01]
          walk_at "ev"
          exact x (fun ⟨_, _, _, e, z, _⟩ => h01 (by injection e with e0 e; injection e with e1 e; rw [e0, e1]; exact z)) _ s2
/-! ### one cell -/
def pS (a b : Int) : Int := b + (a - b) / 2
def spPair : Sp := fun vs H Q _ => ∃ (a b : Int), vs = [.int a, .int b] ∧ ∀ (q : Addr), H q = none → Q (.ref q) (upd H q (.tup [.int (pS a b), .int (a - b)]))
theorem ok_pair {f : Addr} {fd : FuncData} {k : Nat} (F : Fun K "pair" "pair" s_pair f fd) (T : Txt mg) : FnOk P w K mg base CX0 (k + 1) f fd ["a", "b"] spPair := by
  refine F.ok sc_pair (fun vs H Q E h => ?_) (fun cdv A outer s H vs Q E hr h => ?_)
  · obtain ⟨a, b, rfl, _⟩ := h
    rfl
  · obtain ⟨a, b, rfl, q⟩ := h
    refine ⟨_, (pss_cons (ps_set (i := 2) sc_pair.nd rfl (Or.inl rfl) (pe_op op_sub (pv 0) (pv 1)))
    (pss_one (ps_ret (pe_tup (pa_cons (pe_op op_add (pv 1) (pe_op op_fdivW (pv 2) pe_int)) (pa_cons (pv 2) pa_nil)))))), ?_⟩
    walk_at "ev"
    refine ⟨(by show 2 ≤ sizeLine; decide), fun q' nq => q q' nq⟩
def spBack : Sp := fun vs H Q _ => ∃ (s d : Int), vs = [.int s, .int d] ∧ ∀ (q : Addr), H q = none → Q (.ref q) (upd H q (.tup [.int (s - d / 2 + d), .int (s - d / 2)]))
theorem ok_back {f : Addr} {fd : FuncData} {k : Nat} (F : Fun K "back" "back" s_back f fd) (T : Txt mg) : FnOk P w K mg base CX0 (k + 1) f fd ["s", "d"] spBack := by
  refine F.ok sc_back (fun vs H Q E h => ?_) (fun cdv A outer s H vs Q E hr h => ?_)
  · obtain ⟨a, b, rfl, _⟩ := h
    rfl
  · obtain ⟨a, b, rfl, q⟩ := h
    refine ⟨_, (pss_cons (ps_set (i := 2) sc_back.nd rfl (Or.inl rfl) (pe_op op_sub (pv 0) (pe_op op_fdivW (pv 1) pe_int)))
    (pss_one (ps_ret (pe_tup (pa_cons (pe_op op_add (pv 2) (pv 1)) (pa_cons (pv 2) pa_nil)))))), ?_⟩
    walk_at "ev"
    refine ⟨(by show 2 ≤ sizeLine; decide), fun q' nq => q q' nq⟩
abbrev Cel3 := Int → Int → Int → List Int
def cC : Cel3 := fun r g b => [pS g (pS r b), g - pS r b, r - b]
def uC : Cel3 := fun y u v => [y - u / 2 - v / 2 + v, y - u / 2 + u, y - u / 2 - v / 2]
def spCel (F : Cel3) : Sp := fun vs H Q _ => ∃ (a b c : Int), vs = [.int a, .int b, .int c] ∧ ∀ (q : Addr) (H' : Hp), H q = none → Same H H' → H' q = some (.tup ((F a b c).map V.int)) → Q (.ref q) H'
theorem ok_ccell {f : Addr} {fd : FuncData} {k : Nat} (F : Fun K "_coloured_cell" "_coloured_cell" s_coloured_cell f fd) (T : Txt mg) (c_pair : C8.Cal P w K mg base 1 "pair" spPair []) : FnOk P w K mg base CX0 (k + 2) f fd ["r", "g", "b"] (spCel cC) := by
  refine F.ok sc_coloured_cell (fun vs H Q E h => ?_) (fun cdv A outer s H vs Q E hr h => ?_)
  · obtain ⟨a, b, c, rfl, _⟩ := h
    rfl
  · obtain ⟨a, b, c, rfl, q⟩ := h
    refine ⟨_, (pss_cons (ps_asg (C8.pe_c c_pair hr (by omega) (by rfl) (pa_cons (pv 0) (pa_cons (pv 2) pa_nil))) (pg_tup rfl (pgs_cons (pg_name (i := 3) sc_coloured_cell.nd rfl (Or.inl rfl)) (pgs_cons (pg_name (i := 4) sc_coloured_cell.nd rfl (Or.inl rfl)) pgs_nil))))
    (pss_cons (ps_asg (C8.pe_c c_pair hr (by omega) (by rfl) (pa_cons (pv 1) (pa_cons (pv 3) pa_nil))) (pg_tup rfl (pgs_cons (pg_name (i := 5) sc_coloured_cell.nd rfl (Or.inl rfl)) (pgs_cons (pg_name (i := 6) sc_coloured_cell.nd rfl (Or.inl rfl)) pgs_nil))))
    (pss_one (ps_ret (pe_tup (pa_cons (pv 5) (pa_cons (pv 6) (pa_cons (pv 4) pa_nil)))))))), ?_⟩
    walk_at "ev"
    refine fun t1 n1 => ?_
    walk_at "ev"
    refine fun t2 n2 => ?_
    walk_at "ev"
    refine ⟨(by show 3 ≤ sizeLine; decide), fun q' nq => q q' _ (((same_upd n1).trans (same_upd n2)).free nq) (((same_upd n1).trans (same_upd n2)).trans (same_upd nq)) upd_same⟩
theorem ok_ucell {f : Addr} {fd : FuncData} {k : Nat} (F : Fun K "_uncoloured_cell" "_uncoloured_cell" s_uncoloured_cell f fd) (T : Txt mg) (c_back : C8.Cal P w K mg base 1 "back" spBack []) : FnOk P w K mg base CX0 (k + 2) f fd ["y", "u", "v"] (spCel uC) := by
  refine F.ok sc_uncoloured_cell (fun vs H Q E h => ?_) (fun cdv A outer s H vs Q E hr h => ?_)
  · obtain ⟨a, b, c, rfl, _⟩ := h
    rfl
  · obtain ⟨a, b, c, rfl, q⟩ := h
    refine ⟨_, (pss_cons (ps_asg (C8.pe_c c_back hr (by omega) (by rfl) (pa_cons (pv 0) (pa_cons (pv 1) pa_nil))) (pg_tup rfl (pgs_cons (pg_name (i := 3) sc_uncoloured_cell.nd rfl (Or.inl rfl)) (pgs_cons (pg_name (i := 4) sc_uncoloured_cell.nd rfl (Or.inl rfl)) pgs_nil))))
    (pss_cons (ps_asg (C8.pe_c c_back hr (by omega) (by rfl) (pa_cons (pv 4) (pa_cons (pv 2) pa_nil))) (pg_tup rfl (pgs_cons (pg_name (i := 5) sc_uncoloured_cell.nd rfl (Or.inl rfl)) (pgs_cons (pg_name (i := 6) sc_uncoloured_cell.nd rfl (Or.inl rfl)) pgs_nil))))
    (pss_one (ps_ret (pe_tup (pa_cons (pv 5) (pa_cons (pv 3) (pa_cons (pv 6) pa_nil)))))))), ?_⟩
    walk_at "ev"
    refine fun t1 n1 => ?_
    walk_at "ev"
    refine fun t2 n2 => ?_
    walk_at "ev"
    refine ⟨(by show 3 ≤ sizeLine; decide), fun q' nq => q q' _ (((same_upd n1).trans (same_upd n2)).free nq) (((same_upd n1).trans (same_upd n2)).trans (same_upd nq)) upd_same⟩
/-! ### cell by cell -/
def rowF (F : Cel3) (k : Nat) (z : List (Int × Int × Int)) : List Int := z.map fun q => (F q.1 q.2.1 q.2.2).getD k 0
def zrow (p : List Int × List Int × List Int) : List (Int × Int × Int) := p.1.zip (p.2.1.zip p.2.2)
def chanF (F : Cel3) (k : Nat) (c0 c1 c2 : List (List Int)) : List (List Int) := (c0.zip (c1.zip c2)).map fun p => rowF F k (zrow p)
def cbc (F : Cel3) (c0 c1 c2 : List (List Int)) : List (List (List Int)) := [chanF F 0 c0 c1 c2, chanF F 1 c0 c1 c2, chanF F 2 c0 c1 c2]
/-- lists of rows that grow -/
def ChP (N : Addr → Prop) (H : Hp) (ds : List Addr) (f : Nat → List (List Int)) : Prop := ∀ (k : Nat) (d : Addr), ds[k]? = some d → ∃ as : List Addr, H d = some (.lst (as.map V.ref)) ∧ RowsA N H as (f k)
theorem ChP.up {N M : Addr → Prop} {H H' : Hp} {ds : List Addr} {f : Nat → List (List Int)} (h : ChP N H ds f) (u : ∀ b o, N b → H b = some o → M b ∧ H' b = some o) (v : ∀ d ∈ ds, ∀ o, H d = some o → H' d = some o) : ChP M H' ds f := fun k d e => by
  obtain ⟨as, e1, r⟩ := h k d e
  exact ⟨as, v d (List.mem_of_getElem? e) _ e1, r.up u⟩
theorem ChP.push {N : Addr → Prop} {H : Hp} {ds : List Addr} {f : Nat → List (List Int)} {t : Nat} {d b : Addr} {as : List Addr} {r : List Int} (h : ChP N H ds f) (nd : ds.Nodup) (e : ds[t]? = some d) (ed : H d = some (.lst (as.map V.ref))) (hr : RowsA N H as (f t)) (no : ∀ x, N x → x ∉ ds) (nb : N b) (eb : H b = some (.lst (r.map V.int))) :
    ChP N (upd H d (.lst (as.map V.ref ++ [.ref b]))) ds (fun k => if k = t then f t ++ [r] else f k) := fun k d' e' => by
  have kp : ∀ x o, N x → H x = some o → N x ∧ upd H d (.lst (as.map V.ref ++ [.ref b])) x = some o := fun x o n ex => ⟨n, by
    rw [upd_ne fun z => no x n (by rw [z]; exact List.mem_of_getElem? e)]
    exact ex⟩
  by_cases hk : k = t
  · subst hk
    rw [e] at e'
    cases e'
    simp only [if_true]
    exact ⟨as ++ [b], by rw [upd_same, List.map_append]; rfl, (hr.up kp).app nb (kp b _ nb eb).2⟩
  · have hne : d' ≠ d := fun z => by
      have hi := (List.getElem?_eq_some_iff.mp e').1
      have hj := (List.getElem?_eq_some_iff.mp e).1
      exact hk ((List.getElem?_inj hi nd).mp (by rw [e', e, z]))
    obtain ⟨as', e1, r1⟩ := h k d' e'
    simp only [if_neg hk]
    exact ⟨as', by rw [upd_ne hne]; exact e1, r1.up kp⟩
theorem lstAt_of' {H : Hp} {a : Addr} {xs : List V} (h : H a = some (.lst xs)) : (match H a with | some (.lst xs) => xs | _ => []) = xs := by rw [h]
/-- what a list at an address holds -/
def lstAt (H : Hp) (a : Addr) : List V := match H a with
  | some (.lst xs) => xs
  | _ => []
theorem lstAt_of {H : Hp} {a : Addr} {xs : List V} (h : H a = some (.lst xs)) : lstAt H a = xs := lstAt_of' h
theorem lens_len {a b : List (List Int)} (h : lens a = lens b) : a.length = b.length := by
  have := congrArg List.length h
  unfold lens at this
  rw [List.length_map, List.length_map] at this
  exact this
theorem lens_row {a b : List (List Int)} (h : lens a = lens b) {i : Nat} {r s : List Int} (h1 : a[i]? = some r) (h2 : b[i]? = some s) : r.length = s.length := by
  have := congrArg (fun l : List Int => l[i]?) h
  unfold lens at this
  simp only [List.getElem?_map, h1, h2, Option.map_some, Option.some.injEq] at this
  omega
structure Heldd (P : Program) (w : World) (K : PySem.W.Frag) (mg : Str → Option Value) (base : Heap) (f1 f2 : Addr) : Prop where
  h1 : L2.Held P w K mg base 2 f1 (spCel cC)
  h2 : L2.Held P w K mg base 2 f2 (spCel uC)
  ne : f1 ≠ f2
def spOf (f1 f2 : Addr) : Addr → Option Sp := fun f => if f = f1 then some (spCel cC) else if f = f2 then some (spCel uC) else none
theorem Heldd.all {f1 f2 : Addr} (h : Heldd P w K mg base f1 f2) : ∀ f sp, spOf f1 f2 f = some sp → L2.Held P w K mg base 2 f sp := fun f sp e => by
  unfold spOf at e
  by_cases e1 : f = f1
  · rw [if_pos e1] at e
    cases e
    rw [e1]
    exact h.h1
  · rw [if_neg e1] at e
    by_cases e2 : f = f2
    · rw [if_pos e2] at e
      cases e
      rw [e2]
      exact h.h2
    · rw [if_neg e2] at e
      cases e
def Same3 (c0 c1 c2 : List (List Int)) : Prop := lens c0 = lens c1 ∧ lens c0 = lens c2
structure Cbc (K : PySem.W.Frag) (H : Hp) (p : Addr) (c0 c1 c2 : List (List Int)) : Prop where
  ex : ∃ q0 q1 q2 : Addr, SqS K H p [.ref q0, .ref q1, .ref q2] ∧ Rows (fun _ => True) H q0 c0 ∧ Rows (fun _ => True) H q1 c1 ∧ Rows (fun _ => True) H q2 c2
  same : Same3 c0 c1 c2
  small : c0.length ≤ 900
  small2 : ∀ r ∈ c0, r.length ≤ 900
/-- the i-th three rows -/
theorem zip3_at {α β γ : Type} {a : List α} {b : List β} {c : List γ} {i : Nat} {x : α} {y : β} {z : γ} (h1 : a[i]? = some x) (h2 : b[i]? = some y) (h3 : c[i]? = some z) : (a.zip (b.zip c))[i]? = some (x, y, z) := by
  rw [List.getElem?_zip_eq_some]
  exact ⟨h1, List.getElem?_zip_eq_some.mpr ⟨h2, h3⟩⟩
theorem zip3_len {α β γ : Type} {a : List α} {b : List β} {c : List γ} (h1 : a.length = b.length) (h2 : a.length = c.length) : (a.zip (b.zip c)).length = a.length := by
  rw [List.length_zip, List.length_zip]
  omega
theorem get_of {α : Type} {l : List α} {i : Nat} (h : i < l.length) : ∃ x, l[i]? = some x := ⟨_, List.getElem?_eq_getElem h⟩
theorem getD_of {xs : List V} {i : Nat} {v : V} (h : xs[i]? = some v) : xs.getD i .non = v := by
  rw [List.getD_eq_getElem?_getD, h]
  rfl
/-- tuples of cells -/
def TpA (G : Cel3) (H : Hp) (ts : List Addr) (z : List (Int × Int × Int)) : Prop := ∀ (j : Nat) (a : Addr) (q : Int × Int × Int), ts[j]? = some a → z[j]? = some q → H a = some (.tup ((G q.1 q.2.1 q.2.2).map V.int))
theorem TpA.app {G : Cel3} {H H' : Hp} {ts : List Addr} {z : List (Int × Int × Int)} {a : Addr} {x : Int × Int × Int} (h : TpA G H ts z) (s : ∀ b o, (∃ ys, o = .tup ys) → H b = some o → H' b = some o) (hz : z[ts.length]? = some x) (e : H' a = some (.tup ((G x.1 x.2.1 x.2.2).map V.int))) : TpA G H' (ts ++ [a]) z := fun j b q e1 e2 => by
  by_cases hj : j < ts.length
  · rw [List.getElem?_append_left hj] at e1
    exact s b _ ⟨_, rfl⟩ (h j b q e1 e2)
  · have hj2 : ts.length ≤ j := Nat.le_of_not_lt hj
    rw [List.getElem?_append_right hj2] at e1
    have hk : j = ts.length := by
      have := (List.getElem?_eq_some_iff.mp e1).1
      simp at this
      omega
    subst hk
    rw [Nat.sub_self] at e1
    cases e1
    rw [hz] at e2
    cases e2
    exact e
def FnF (f1 f2 fa : Addr) (G : Cel3) : Prop := (fa = f1 ∧ G = cC) ∨ (fa = f2 ∧ G = uC)
theorem FnF.sp {f1 f2 fa : Addr} {G : Cel3} (h : FnF f1 f2 fa G) (ne : f1 ≠ f2) : spOf f1 f2 fa = some (spCel G) := by
  unfold spOf
  rcases h with ⟨e, e2⟩ | ⟨e, e2⟩
  · rw [e, e2, if_pos rfl]
  · rw [e, e2, if_neg (Ne.symm ne), if_pos rfl]
theorem FnF.three {f1 f2 fa : Addr} {G : Cel3} (h : FnF f1 f2 fa G) (a b c : Int) : ∃ x y z, G a b c = [x, y, z] := by
  rcases h with ⟨e, e2⟩ | ⟨e, e2⟩
  · exact ⟨_, _, _, by rw [e2]; rfl⟩
  · exact ⟨_, _, _, by rw [e2]; rfl⟩
def spCbc (K : PySem.W.Frag) (f1 f2 : Addr) : Sp := fun vs H Q _ => ∃ (p fa : Addr) (G : Cel3) (c0 c1 c2 : List (List Int)), vs = [.ref p, .ref fa] ∧ FnF f1 f2 fa G ∧ Cbc K H p c0 c1 c2 ∧
  ∀ (q : Addr) (H' : Hp), H q = none → Same H H' → Chs (fun b => H b = none) H' q (cbc G c0 c1 c2) → Q (.ref q) H'
theorem ok_cbc {f f1 f2 : Addr} {fd : FuncData} {k : Nat} (F : Fun K "_cell_by_cell" "_cell_by_cell" s_cell_by_cell f fd) (T : Txt mg) (HF : Heldd P w K mg base f1 f2) : FnOk P w K mg base CX0 (k + 3) f fd ["channels", "change"] (spCbc K f1 f2) := by
  refine F.ok sc_cell_by_cell (fun vs H Q E h => ?_) (fun cdv A outer s H vs Q E hr h => ?_)
  · obtain ⟨p, fa, G, c0, c1, c2, rfl, _⟩ := h
    rfl
  · obtain ⟨p, fa, G, c0, c1, c2, rfl, hG, ⟨⟨q0, q1, q2, hS, h0, h1, h2⟩, ⟨l1, l2⟩, sm, sm2⟩, q⟩ := h
    have hu := hr.units
    refine ⟨_, (pss_cons (ps_set (i := 2) sc_cell_by_cell.nd rfl (Or.inl rfl) (pe_lst (pa_cons (pe_lst pa_nil) (pa_cons (pe_lst pa_nil) (pa_cons (pe_lst pa_nil) pa_nil)))))
    (pss_cons (ps_for PassesOwn.never rfl (pi_zipN (by rfl) T.z_zip (pa_cons (pe_ix ix_seq (pv 0) pe_int (fun _ _ => rfl)) (pa_cons (pe_ix ix_seq (pv 0) pe_int (fun _ _ => rfl)) (pa_cons (pe_ix ix_seq (pv 0) pe_int (fun _ _ => rfl)) pa_nil)))) (pg_tup rfl (pgs_cons (pg_name (i := 3) sc_cell_by_cell.nd rfl (Or.inl rfl)) (pgs_cons (pg_name (i := 4) sc_cell_by_cell.nd rfl (Or.inl rfl)) (pgs_cons (pg_name (i := 5) sc_cell_by_cell.nd rfl (Or.inl rfl)) pgs_nil))))
      (pss_cons (ps_setLc (i := 9) (own := [("a", 6), ("b", 7), ("c", 8)]) (g := (gTup K 3 (gCons (gName 6) (gCons (gName 7) (gCons (gName 8) gNil))))) (tt := tYes) rfl sc_cell_by_cell.nd rfl rfl (sw_true rfl rfl rfl (by decide +kernel)) (pi_zipN (by rfl) T.z_zip (pa_cons (pv 3) (pa_cons (pv 4) (pa_cons (pv 5) pa_nil)))) (blkOk_by (N := ["channels", "change", "told", "ones", "twos", "threes", "a", "b", "c", "cells", "number", "cell"]) (sc := defScope s_cell_by_cell) (by decide +kernel)) (fun _ _ _ _ _ => pg_tup rfl (pgs_cons (pg_name (i := 6) sc_cell_by_cell.nd rfl (by first | exact Or.inl rfl | exact Or.inr rfl)) (pgs_cons (pg_name (i := 7) sc_cell_by_cell.nd rfl (by first | exact Or.inl rfl | exact Or.inr rfl)) (pgs_cons (pg_name (i := 8) sc_cell_by_cell.nd rfl (by first | exact Or.inl rfl | exact Or.inr rfl)) pgs_nil)))) (fun _ _ _ _ _ => pts_nil) (fun _ _ _ _ _ => (L2.pe_callA HF.all (hr.mono (by omega)) (i := 1) rfl (Or.inr (Or.inl rfl)) (pa_cons (pv 6) (pa_cons (pv 7) (pa_cons (pv 8) pa_nil))))))
    (pss_one (ps_for PassesOwn.never rfl (pi_range1 (by rfl) T.z_range (pa_cons pe_int pa_nil)) (pg_name (i := 10) sc_cell_by_cell.nd rfl (Or.inr rfl))
      (pss_one (ps_expr (pe_bm PySem.F.plainAttrs_list PySem.F.slot_list_append PySem.F.type_list_append mt_append (pe_ix ix_list (pv 2) (pv 10) (fun _ _ => rfl)) (pa_cons (pe_lc (own := [("cell", 11)]) (g := (gName 11)) (tt := tYes) rfl sc_cell_by_cell.nd (pi_list (pv 9)) (blkOk_by (N := ["channels", "change", "told", "ones", "twos", "threes", "a", "b", "c", "cells", "number", "cell"]) (sc := defScope s_cell_by_cell) (by decide +kernel)) (fun _ _ _ _ _ => pg_name (i := 11) sc_cell_by_cell.nd rfl (by first | exact Or.inl rfl | exact Or.inr rfl)) (fun _ _ _ _ _ => pts_nil) (fun _ _ _ _ _ => (pe_ix (ix_tup : IxR _ (rIxT K)) (pv 11) (pv 10) (fun _ _ => rfl)))) pa_nil))))))))
    (pss_one (ps_ret (pv 2))))), ?_⟩
    obtain ⟨_, as0, e0, r0⟩ := h0
    obtain ⟨_, as1, e1, r1⟩ := h1
    obtain ⟨_, as2, e2, r2⟩ := h2
    have g1 := lens_len l1
    have g2 := lens_len l2
    refine ⟨(by show 0 ≤ sizeLine; decide), fun d0 n0 => ?_⟩
    refine ⟨(by show 0 ≤ sizeLine; decide), fun d1 n1 => ?_⟩
    refine ⟨(by show 0 ≤ sizeLine; decide), fun d2 n2 => ?_⟩
    refine ⟨(by show 3 ≤ sizeLine; decide), fun D nD => ?_⟩
    have s1 := ((same_upd (o := .lst []) n0).trans (same_upd (o := .lst []) n1)).trans ((same_upd (o := .lst []) n2).trans (same_upd (o := .lst [.ref d0, .ref d1, .ref d2]) nD))
    have k0 : upd (upd (upd (upd H d0 (.lst [])) d1 (.lst [])) d2 (.lst [])) D (.lst [.ref d0, .ref d1, .ref d2]) d0 = some (.lst []) := new_at (new_at (new_at upd_same n1) n2) nD
    have k1 : upd (upd (upd (upd H d0 (.lst [])) d1 (.lst [])) d2 (.lst [])) D (.lst [.ref d0, .ref d1, .ref d2]) d1 = some (.lst []) := new_at (new_at upd_same n2) nD
    have k2 : upd (upd (upd (upd H d0 (.lst [])) d1 (.lst [])) d2 (.lst [])) D (.lst [.ref d0, .ref d1, .ref d2]) d2 = some (.lst []) := new_at upd_same nD
    have kD : upd (upd (upd (upd H d0 (.lst [])) d1 (.lst [])) d2 (.lst [])) D (.lst [.ref d0, .ref d1, .ref d2]) D = some (.lst [.ref d0, .ref d1, .ref d2]) := upd_same
    have f1' := (same_upd (o := .lst []) n0).free n1
    have f2' := ((same_upd (o := .lst []) n0).trans (same_upd (o := .lst []) n1)).free n2
    have fD' := ((same_upd (o := .lst []) n0).trans (same_upd (o := .lst []) n1)).trans (same_upd (o := .lst []) n2) |>.free nD
    have nd : [d0, d1, d2].Nodup := by
      have a01 : d0 ≠ d1 := fun z => by rw [← z, upd_same] at n1; cases n1
      have a12 : d1 ≠ d2 := fun z => by rw [← z, upd_same] at n2; cases n2
      have a02 : d0 ≠ d2 := fun z => by rw [← z, new_at (upd_same (H := H) (a := d0) (o := .lst [])) n1] at n2; cases n2
      simp [a01, a12, a02]
    have nDd : D ∉ [d0, d1, d2] := fun m => by
      simp only [List.mem_cons, List.not_mem_nil, or_false] at m
      rcases m with z | z | z
      · rw [z, new_at (new_at (upd_same (H := H) (a := d0) (o := .lst [])) n1) n2] at nD; cases nD
      · rw [z, new_at (upd_same (H := upd H d0 (.lst [])) (a := d1) (o := .lst [])) n2] at nD; cases nD
      · rw [z, upd_same] at nD; cases nD
    have fds : ∀ d ∈ [d0, d1, d2], H d = none := fun d m => by
      simp only [List.mem_cons, List.not_mem_nil, or_false] at m
      rcases m with rfl | rfl | rfl
      · exact n0
      · exact f1'
      · exact f2'
    generalize upd (upd (upd (upd H d0 (.lst [])) d1 (.lst [])) d2 (.lst [])) D (.lst [.ref d0, .ref d1, .ref d2]) = H1 at s1 k0 k1 k2 kD ⊢
    have hS1 := same_seqS s1 hS
    walk_at "ev"
    refine q_ixS hS1 rfl ?_
    walk_at "ev"
    refine q_ixS hS1 rfl ?_
    walk_at "ev"
    refine q_ixS hS1 rfl ?_
    walk_at "ev"
    have z0 : lstAt H1 q0 = as0.map V.ref := lstAt_of (s1 _ _ e0)
    have z1 : lstAt H1 q1 = as1.map V.ref := lstAt_of (s1 _ _ e1)
    have z2 : lstAt H1 q2 = as2.map V.ref := lstAt_of (s1 _ _ e2)
    have qz : ∀ {G' : Hp}, Same H G' → ∀ a ∈ [q0, q1, q2], SqL K G' a (lstAt H1 a) := fun {G'} sg a m => by
      simp only [List.mem_cons, List.not_mem_nil, or_false] at m
      rcases m with rfl | rfl | rfl
      · rw [z0]; exact .inl (.inl (sg _ _ e0))
      · rw [z1]; exact .inl (.inl (sg _ _ e1))
      · rw [z2]; exact .inl (.inl (sg _ _ e2))
    refine ⟨[q0, q1, q2], lstAt H1, rfl, by simp, by show 3 ≤ 900; decide, qz s1, ?_⟩
    refine for_it (walk_zipN (xss := lstAt H1) (n := c0.length) fun a m => ?_) (fun i σ H3 => (∃ v3 v4 v5 v6 v7 v8 v9 v10 v11, σ = [some (.ref p), some (.ref fa), some (.ref D), v3, v4, v5, v6, v7, v8, v9, v10, v11]) ∧ Same H H3 ∧ H3 D = some (.lst [.ref d0, .ref d1, .ref d2]) ∧ ChP (fun b => H b = none ∧ b ≠ D ∧ b ∉ [d0, d1, d2]) H3 [d0, d1, d2] (fun k => (chanF G k c0 c1 c2).take i))
      ⟨⟨_, _, _, _, _, _, _, _, _, rfl⟩, s1, kD, ?_⟩ (fun i σ H3 _ h a m => qz h.2.1 a m) ?_ ?_
    · simp only [List.mem_cons, List.not_mem_nil, or_false] at m
      rcases m with rfl | rfl | rfl
      · rw [z0, List.length_map, r0.1]
      · rw [z1, List.length_map, r1.1, g1]
      · rw [z2, List.length_map, r2.1, g2]
    · intro k d e
      match k, e with
      | 0, e => cases e; exact ⟨[], k0, .nil⟩
      | 1, e => cases e; exact ⟨[], k1, .nil⟩
      | 2, e => cases e; exact ⟨[], k2, .nil⟩
    · rintro i x σ H3 H4 hi ⟨⟨v3, v4, v5, v6, v7, v8, v9, v10, v11, rfl⟩, s3, eD, hP⟩ ⟨TT, rfl, nT, rfl⟩
      obtain ⟨w0, hw0⟩ := get_of hi
      obtain ⟨w1, hw1⟩ := get_of (show i < c1.length by omega)
      obtain ⟨w2, hw2⟩ := get_of (show i < c2.length by omega)
      obtain ⟨b0, hb0⟩ := get_of (show i < as0.length by rw [r0.1]; omega)
      obtain ⟨b1, hb1⟩ := get_of (show i < as1.length by rw [r1.1]; omega)
      obtain ⟨b2, hb2⟩ := get_of (show i < as2.length by rw [r2.1]; omega)
      have x0 := (r0.2 i b0 w0 hb0 hw0).2
      have x1 := (r1.2 i b1 w1 hb1 hw1).2
      have x2 := (r2.2 i b2 w2 hb2 hw2).2
      have m1 := lens_row l1 hw0 hw1
      have m2 := lens_row l2 hw0 hw2
      have mm := sm2 w0 (List.mem_of_getElem? hw0)
      have eT : ([q0, q1, q2].map fun a => (lstAt H1 a).getD i .non) = [V.ref b0, V.ref b1, V.ref b2] := by
        show [(lstAt H1 q0).getD i .non, (lstAt H1 q1).getD i .non, (lstAt H1 q2).getD i .non] = _
        rw [z0, z1, z2, getD_of (v := .ref b0) (by rw [List.getElem?_map, hb0]; rfl), getD_of (v := .ref b1) (by rw [List.getElem?_map, hb1]; rfl), getD_of (v := .ref b2) (by rw [List.getElem?_map, hb2]; rfl)]
      rw [eT]
      have s4 := s3.trans (same_upd (o := .tup [V.ref b0, V.ref b1, V.ref b2]) nT)
      have eD4 := new_at (o' := .tup [V.ref b0, V.ref b1, V.ref b2]) eD nT
      have hP4 : ChP (fun b => H b = none ∧ b ≠ D ∧ b ∉ [d0, d1, d2]) (upd H3 TT (.tup [V.ref b0, V.ref b1, V.ref b2])) [d0, d1, d2] (fun k => (chanF G k c0 c1 c2).take i) := hP.up (fun b o n e => ⟨n, new_at e nT⟩) (fun d m o e => new_at e nT)
      have eTT : upd H3 TT (.tup [V.ref b0, V.ref b1, V.ref b2]) TT = some (.tup [V.ref b0, V.ref b1, V.ref b2]) := upd_same
      generalize upd H3 TT (.tup [V.ref b0, V.ref b1, V.ref b2]) = H4 at s4 eD4 hP4 eTT ⊢
      walk_at "ev"
      have y0 : lstAt H4 b0 = w0.map V.int := lstAt_of (s4 _ _ x0)
      have y1 : lstAt H4 b1 = w1.map V.int := lstAt_of (s4 _ _ x1)
      have y2 : lstAt H4 b2 = w2.map V.int := lstAt_of (s4 _ _ x2)
      have qy : ∀ {G' : Hp}, Same H G' → ∀ a ∈ [b0, b1, b2], SqL K G' a (lstAt H4 a) := fun {G'} sg a m => by
        simp only [List.mem_cons, List.not_mem_nil, or_false] at m
        rcases m with rfl | rfl | rfl
        · rw [y0]; exact .inl (.inl (sg _ _ x0))
        · rw [y1]; exact .inl (.inl (sg _ _ x1))
        · rw [y2]; exact .inl (.inl (sg _ _ x2))
      refine ⟨[b0, b1, b2], lstAt H4, rfl, by simp, by show 3 ≤ 900; decide, qy s4, fun D2 nD2 => ?_⟩
      refine lc_it (walk_zipN (xss := lstAt H4) (n := w0.length) fun a m => ?_) (fun t H5 => Same H4 H5 ∧ ∃ ts : List Addr, H5 D2 = some (.lst (ts.map V.ref)) ∧ ts.length = t ∧ TpA G H5 ts (zrow (w0, w1, w2))) ⟨same_upd nD2, [], upd_same, rfl, fun j a q e => nomatch e⟩ (fun t H5 _ h a m => qy (s4.trans h.1) a m) ?_ ?_
      · simp only [List.mem_cons, List.not_mem_nil, or_false] at m
        rcases m with rfl | rfl | rfl
        · rw [y0, List.length_map]
        · rw [y1, List.length_map, m1]
        · rw [y2, List.length_map, m2]
      · rintro t y H5 H6 ht ⟨s5, ts, e5, tl, hT⟩ ⟨T2, rfl, nT2, rfl⟩
        obtain ⟨n0', hn0⟩ := get_of ht
        obtain ⟨n1', hn1⟩ := get_of (show t < w1.length by omega)
        obtain ⟨n2', hn2⟩ := get_of (show t < w2.length by omega)
        have eT2 : ([b0, b1, b2].map fun a => (lstAt H4 a).getD t .non) = [V.int n0', V.int n1', V.int n2'] := by
          show [(lstAt H4 b0).getD t .non, (lstAt H4 b1).getD t .non, (lstAt H4 b2).getD t .non] = _
          rw [y0, y1, y2, getD_of (v := .int n0') (by rw [List.getElem?_map, hn0]; rfl), getD_of (v := .int n1') (by rw [List.getElem?_map, hn1]; rfl), getD_of (v := .int n2') (by rw [List.getElem?_map, hn2]; rfl)]
        rw [eT2]
        have s6 := s5.trans (same_upd (o := .tup [V.int n0', V.int n1', V.int n2']) nT2)
        have e6 := new_at (o' := .tup [V.int n0', V.int n1', V.int n2']) e5 nT2
        have k6 : ∀ b o, H5 b = some o → upd H5 T2 (.tup [V.int n0', V.int n1', V.int n2']) b = some o := fun b o e => new_at e nT2
        have eT6 : upd H5 T2 (.tup [V.int n0', V.int n1', V.int n2']) T2 = some (.tup [V.int n0', V.int n1', V.int n2']) := upd_same
        generalize upd H5 T2 (.tup [V.int n0', V.int n1', V.int n2']) = H6 at s6 e6 k6 eT6 ⊢
        walk_at "ev"
        refine ⟨fa, spCel G, rfl, hG.sp HF.ne, ?_⟩
        walk_at "ev"
        refine ⟨n0', n1', n2', rfl, fun T3 H7 nT3 s7 e7 => ?_⟩
        have nT3D : T3 ≠ D2 := fun z => by rw [z, e6] at nT3; cases nT3
        refine ⟨_, s7 _ _ e6, small1000 (by rw [List.length_map]; omega), fun b o e => ?_, ts ++ [T3], by rw [upd_same, List.map_append]; rfl, by rw [List.length_append, tl]; rfl, hT.app (fun b o ho e => ?_) (x := (n0', n1', n2')) ?_ ?_⟩
        · rw [upd_ne (ne_of_none e nD2)]
          exact s7 _ _ (s6 _ _ e)
        · rw [upd_ne fun z => by rw [z, e5] at e; obtain ⟨ys, rfl⟩ := ho; cases e]
          exact s7 _ _ (k6 _ _ e)
        · rw [tl]
          exact zip3_at hn0 hn1 hn2
        · rw [upd_ne nT3D]
          exact e7
      · rintro H5 ⟨s5, ts, e5, tl, hT⟩
        have nD2' : H D2 = none := s4.free nD2
        have n2D : D2 ≠ D := fun z => by rw [z, eD4] at nD2; cases nD2
        have n2d : D2 ∉ [d0, d1, d2] := fun m => by
          obtain ⟨j, hj⟩ := List.getElem?_of_mem m
          obtain ⟨as, ea, _⟩ := hP4 j D2 hj
          rw [ea] at nD2
          cases nD2
        have hP5 : ChP (fun b => H b = none ∧ b ≠ D ∧ b ∉ [d0, d1, d2]) H5 [d0, d1, d2] (fun k => (chanF G k c0 c1 c2).take i) := hP4.up (fun b o n e => ⟨n, s5 _ _ e⟩) (fun d m o e => s5 _ _ e)
        have eD5 := s5 _ _ eD4
        have s5' := s4.trans s5
        clear hP4 hP eD eD4 s5 s4 s3 qy y0 y1 y2 eTT eT
        walk_at "ev"
        refine ⟨by decide, by decide, for_it walk_range (fun t σ G' => (∃ v3 v4 v5 v6 v7 v8 v10 v11, σ = [some (.ref p), some (.ref fa), some (.ref D), v3, v4, v5, v6, v7, v8, some (.ref D2), v10, v11]) ∧ Same H G' ∧ G' D = some (.lst [.ref d0, .ref d1, .ref d2]) ∧ G' D2 = some (.lst (ts.map V.ref)) ∧ TpA G G' ts (zrow (w0, w1, w2)) ∧ ChP (fun b => H b = none ∧ b ≠ D ∧ b ∉ [d0, d1, d2]) G' [d0, d1, d2] (fun k => if k < t then (chanF G k c0 c1 c2).take (i + 1) else (chanF G k c0 c1 c2).take i))
          ⟨⟨_, _, _, _, _, _, _, _, rfl⟩, s5', eD5, e5, hT, hP5⟩ (fun _ _ _ _ _ => trivial) ?_ ?_⟩
        · rintro t y σ G3 G4 ht ⟨⟨v3, v4, v5, v6, v7, v8, v10, v11, rfl⟩, sg, gD, gD2, gT, gP⟩ ⟨rfl, ex⟩
          have ex : y = V.int (t : Int) := by
            rw [ex]
            show V.int (0 + (t : Int)) = _
            rw [Int.zero_add]
          subst ex
          obtain ⟨d, hd⟩ : ∃ d, [d0, d1, d2][t]? = some d := get_of ht
          have eix : atI [V.ref d0, .ref d1, .ref d2] (t : Int) = some (.ref d) := atI_nat (by
            rw [show [V.ref d0, .ref d1, .ref d2] = [d0, d1, d2].map V.ref from rfl, List.getElem?_map, hd]; rfl)
          obtain ⟨asd, ed, rd⟩ := gP t d hd
          have rd : RowsA (fun b => H b = none ∧ b ≠ D ∧ b ∉ [d0, d1, d2]) G4 asd ((chanF G t c0 c1 c2).take i) := by
            simp only [Nat.lt_irrefl, if_false] at rd
            exact rd
          have eQ : SqL K G4 D [V.ref d0, .ref d1, .ref d2] := .inl (.inl gD)
          walk_at "ev"
          refine ⟨_, _, _, _, rfl, rfl, eQ, eix, .inl ⟨rfl, _, .inl (.inl ed)⟩, ?_⟩
          walk_at "ev"
          refine ⟨⟨_, .inl (.inl gD2)⟩, fun D3 nD3 => ?_⟩
          have nd3 : D3 ≠ d := fun z => by rw [z, ed] at nD3; cases nD3
          have zl : (zrow (w0, w1, w2)).length = ts.length := by
            unfold zrow
            rw [zip3_len m1 m2, tl]
          refine lc_it (walk_list (xs := ts.map V.ref)) (fun j G5 => Same G4 G5 ∧ G5 D3 = some (.lst (((rowF G t (zrow (w0, w1, w2))).take j).map V.int))) ⟨same_upd nD3, upd_same⟩ (fun _ _ _ h => .inl (.inl (h.1 _ _ gD2))) ?_ ?_
          · rintro j y G5 G6 hj ⟨s6, e6⟩ ⟨rfl, hy⟩
            rw [List.getElem?_map] at hy
            obtain ⟨a, ha, rfl⟩ := Option.map_eq_some_iff.mp hy
            have hj' := (List.getElem?_eq_some_iff.mp ha).1
            obtain ⟨zq, hzq⟩ := get_of (show j < (zrow (w0, w1, w2)).length by omega)
            have ea := s6 _ _ (gT j a zq ha hzq)
            have eat : atI ((G zq.1 zq.2.1 zq.2.2).map V.int) (t : Int) = some (.int ((G zq.1 zq.2.1 zq.2.2).getD t 0)) := atI_nat (by
              obtain ⟨u0, u1, u2, eu⟩ := hG.three zq.1 zq.2.1 zq.2.2
              rw [eu]
              match t, ht with
              | 0, _ => rfl
              | 1, _ => rfl
              | 2, _ => rfl)
            walk_at "ev"
            refine ⟨_, _, _, _, rfl, rfl, .inl (.inl ea), eat, ?_⟩
            refine ⟨_, e6, small1000 (by rw [List.length_map, List.length_take]; unfold rowF; rw [List.length_map]; omega), fun b o e => ?_, ?_⟩
            · rw [upd_ne (ne_of_none e nD3)]
              exact s6 _ _ e
            · rw [upd_same, ← take_snoc (show (rowF G t (zrow (w0, w1, w2)))[j]? = some ((G zq.1 zq.2.1 zq.2.2).getD t 0) by unfold rowF; rw [List.getElem?_map, hzq]; rfl), List.map_append]
              rfl
          · rintro G5 ⟨s6, e6⟩
            have hll : (ts.map V.ref).length = (rowF G t (zrow (w0, w1, w2))).length := by unfold rowF; rw [List.length_map, List.length_map, zl]
            rw [hll, List.take_length] at e6
            have hal : asd.length ≤ 900 := by
              rw [rd.1, List.length_take]
              omega
            have ed5 := s6 _ _ ed
            have gP5 : ChP (fun b => H b = none ∧ b ≠ D ∧ b ∉ [d0, d1, d2]) G5 [d0, d1, d2] (fun k => if k < t then (chanF G k c0 c1 c2).take (i + 1) else (chanF G k c0 c1 c2).take i) := gP.up (fun b o n e => ⟨n, s6 _ _ e⟩) (fun d m o e => s6 _ _ e)
            have n3D : D3 ≠ D := fun z => by rw [z, gD] at nD3; cases nD3
            have n3m : D3 ∉ [d0, d1, d2] := fun m => by
              obtain ⟨j, hj⟩ := List.getElem?_of_mem m
              obtain ⟨as, ea, _⟩ := gP j D3 hj
              rw [ea] at nD3
              cases nD3
            have dD : d ≠ D := fun z => nDd (by rw [← z]; exact List.mem_of_getElem? hd)
            have push := gP5.push nd hd ed5 (by
              simp only [Nat.lt_irrefl, if_false]
              exact rd.up fun b o n e => ⟨n, s6 _ _ e⟩) (fun x n => n.2.2) ⟨sg.free nD3, n3D, n3m⟩ e6
            refine ⟨d, _, _, rfl, rfl, ed5, small1000 (by rw [List.length_map]; omega), ⟨_, _, _, _, _, _, _, _, rfl⟩, fun b o e => ?_, ?_, ?_, fun j a zq e1 e2 => ?_, fun k d' e => ?_⟩
            · rw [upd_ne (ne_of_none e (fds d (List.mem_of_getElem? hd)))]
              exact s6 _ _ (sg _ _ e)
            · rw [upd_ne (Ne.symm dD)]
              exact s6 _ _ gD
            · rw [upd_ne fun z => n2d (by rw [z]; exact List.mem_of_getElem? hd)]
              exact s6 _ _ gD2
            · have := s6 _ _ (gT j a zq e1 e2)
              rw [upd_ne fun z => by rw [z, ed5] at this; cases this]
              exact this
            · obtain ⟨as', q1, q2⟩ := push k d' e
              refine ⟨as', q1, ?_⟩
              have ef : (if k = t then (if t < t then (chanF G t c0 c1 c2).take (i + 1) else (chanF G t c0 c1 c2).take i) ++ [rowF G t (zrow (w0, w1, w2))] else if k < t then (chanF G k c0 c1 c2).take (i + 1) else (chanF G k c0 c1 c2).take i) = (if k < t + 1 then (chanF G k c0 c1 c2).take (i + 1) else (chanF G k c0 c1 c2).take i) := by
                by_cases h1 : k = t
                · subst h1
                  rw [if_pos rfl, if_neg (Nat.lt_irrefl _), if_pos (Nat.lt_succ_self _)]
                  exact take_snoc (show (chanF G k c0 c1 c2)[i]? = some (rowF G k (zrow (w0, w1, w2))) by unfold chanF; rw [List.getElem?_map, zip3_at hw0 hw1 hw2]; rfl)
                · rw [if_neg h1]
                  by_cases h2 : k < t
                  · rw [if_pos h2, if_pos (by omega)]
                  · rw [if_neg h2, if_neg (by omega)]
              show RowsA _ _ as' (if k < t + 1 then (chanF G k c0 c1 c2).take (i + 1) else (chanF G k c0 c1 c2).take i)
              rw [← ef]
              exact q2
        · rintro σ G3 ⟨⟨v3, v4, v5, v6, v7, v8, v10, v11, rfl⟩, sg, gD, gD2, gT, gP⟩
          refine ⟨⟨_, _, _, _, _, _, _, _, _, rfl⟩, sg, gD, fun k d e => ?_⟩
          have hk : k < 3 := (List.getElem?_eq_some_iff.mp e).1
          have := gP k d e
          simp only [show k < (3 : Int).toNat from hk, if_true] at this
          exact this
    · rintro σ H3 ⟨⟨v3, v4, v5, v6, v7, v8, v9, v10, v11, rfl⟩, s3, eD, hP⟩
      have full : ∀ k, (chanF G k c0 c1 c2).take c0.length = chanF G k c0 c1 c2 := fun k => List.take_of_length_le (by
        unfold chanF
        rw [List.length_map, zip3_len g1 g2]
        exact Nat.le_refl _)
      walk_at "ev"
      refine q D H3 fD' s3 ⟨fD', [d0, d1, d2], eD, rfl, fun k d c e1 e2 => ?_⟩
      obtain ⟨as, ea, ra⟩ := hP k d e1
      have ra : RowsA _ H3 as ((chanF G k c0 c1 c2).take c0.length) := ra
      rw [full] at ra
      refine ⟨fds d (List.mem_of_getElem? e1), as, ea, ?_⟩
      have ec : c = chanF G k c0 c1 c2 := by
        match k, e2 with
        | 0, e2 => cases e2; rfl
        | 1, e2 => cases e2; rfl
        | 2, e2 => cases e2; rfl
      rw [ec]
      exact ra.up fun b o n e => ⟨n.1, e⟩
/-! ### coloured and uncoloured: told, or refused -/
def cbcL (G : Cel3) (cs : List (List (List Int))) : List (List (List Int)) := cbc G (cs.getD 0 []) (cs.getD 1 []) (cs.getD 2 [])
def spCol (K : PySem.W.Frag) (BG : Addr) (G : Cel3) : Sp := fun vs H Q E => ∃ (p : Addr) (qs : List Addr) (cs : List (List (List Int))), vs = [.ref p] ∧ SqS K H p (qs.map V.ref) ∧ ChA (fun _ => True) H qs cs ∧ cs.length ≤ 900 ∧ (∀ c ∈ cs, c.length ≤ 900 ∧ ∀ r ∈ c, r.length ≤ 900) ∧
  (Ok3 cs → ∀ (q : Addr) (H' : Hp), H q = none → Same H H' → Chs (fun b => H b = none) H' q (cbcL G cs) → Q (.ref q) H') ∧ (¬ Ok3 cs → ∀ H', Same H H' → E (.ref BG) none H')
theorem col_x {f1 BG : Addr} {p : Addr} {qs : List Addr} {cs : List (List (List Int))} {H : Hp} (hS : SqS K H p (qs.map V.ref)) (hA : ChA (fun _ => True) H qs cs) (hc : ∀ c ∈ cs, c.length ≤ 900 ∧ ∀ r ∈ c, r.length ≤ 900) {c0 c1 c2 : List (List Int)} (e : cs = [c0, c1, c2]) (h3 : Same3 c0 c1 c2) {H1 : Hp} (s1 : Same H H1) : Cbc K H1 p c0 c1 c2 := by
  subst e
  obtain ⟨q0, q1, q2, rfl⟩ : ∃ q0 q1 q2, qs = [q0, q1, q2] := by
    match qs, hA.1 with
    | [q0, q1, q2], _ => exact ⟨q0, q1, q2, rfl⟩
  have hA := hA.up (M := fun _ => True) fun b o n e => ⟨n, s1 _ _ e⟩
  exact ⟨⟨q0, q1, q2, same_seqS s1 hS, hA.2 0 q0 c0 rfl rfl, hA.2 1 q1 c1 rfl rfl, hA.2 2 q2 c2 rfl rfl⟩, h3, (hc c0 (by simp)).1, (hc c0 (by simp)).2⟩
theorem ok_col {f fc f1 f2 BG : Addr} {fd fdc : FuncData} {k : Nat} (F : Fun K "coloured" "coloured" s_coloured f fd) (T : Txt mg) (mg1 : mg "_coloured_cell" = some (.ref f1))
    (G_check_form : FnOk P w K mg base (L2.CX P w) 1 fc fdc ["channels"] (spChkF K BG)) (g_check_form : mg "_check_form" = some (.ref fc)) (k_check_form : PySem.W.keepIn K (.ref fc) = true) (b_check_form : Binds K fdc ["channels"] [])
    (c_cell_by_cell : C8.Cal P w K mg base 3 "_cell_by_cell" (spCbc K f1 f2) []) : FnOk P w K mg base (L2.CX P w) (k + 4) f fd ["channels"] (spCol K BG cC) := by
  refine F.okX sc_coloured (fun vs H Q E h => ?_) (fun cdv A outer s H vs Q E hr h => ?_)
  · obtain ⟨p, qs, cs, rfl, _⟩ := h
    rfl
  · obtain ⟨p, qs, cs, rfl, hS, hA, hl, hc, q, x⟩ := h
    refine ⟨_, (pss_cons (ps_expr (pe_call G_check_form (hr.mono (by omega)) (by rfl) g_check_form k_check_form b_check_form .nil (passes_call (takes_of rfl rfl rfl rfl) (fun _ _ _ _ h => h)) (pa_cons (pv 0) pa_nil)))
    (pss_one (ps_ret (C8.pe_c c_cell_by_cell hr (by omega) (by rfl) (pa_cons (pv 0) (pa_cons (pe_glob (v := .ref f1) (by rfl) mg1 rfl) pa_nil)))))), ?_⟩
    walk_at "ev"
    refine ⟨p, qs, cs, rfl, hS, hA, hl, fun c m => (hc c m).1, fun ok H1 s1 => ?_, fun no H1 s1 => x no _ s1⟩
    have q := q ok
    obtain ⟨c0, c1, c2, e, h1, h2⟩ := ok
    subst e
    walk_at "ev"
    exact ⟨p, f1, cC, c0, c1, c2, rfl, .inl ⟨rfl, rfl⟩, col_x (f1 := f1) (BG := BG) hS hA hc rfl ⟨h1, h2⟩ s1, fun q' H' nq s' hC => q q' H' (s1.free nq) (s1.trans s') (hC.up fun b o n e => ⟨s1.free n, e⟩)⟩
theorem ok_unc {f fc f1 f2 BG : Addr} {fd fdc : FuncData} {k : Nat} (F : Fun K "uncoloured" "uncoloured" s_uncoloured f fd) (T : Txt mg) (mg2 : mg "_uncoloured_cell" = some (.ref f2))
    (G_check_form : FnOk P w K mg base (L2.CX P w) 1 fc fdc ["channels"] (spChkF K BG)) (g_check_form : mg "_check_form" = some (.ref fc)) (k_check_form : PySem.W.keepIn K (.ref fc) = true) (b_check_form : Binds K fdc ["channels"] [])
    (c_cell_by_cell : C8.Cal P w K mg base 3 "_cell_by_cell" (spCbc K f1 f2) []) : FnOk P w K mg base (L2.CX P w) (k + 4) f fd ["channels"] (spCol K BG uC) := by
  refine F.okX sc_uncoloured (fun vs H Q E h => ?_) (fun cdv A outer s H vs Q E hr h => ?_)
  · obtain ⟨p, qs, cs, rfl, _⟩ := h
    rfl
  · obtain ⟨p, qs, cs, rfl, hS, hA, hl, hc, q, x⟩ := h
    refine ⟨_, (pss_cons (ps_expr (pe_call G_check_form (hr.mono (by omega)) (by rfl) g_check_form k_check_form b_check_form .nil (passes_call (takes_of rfl rfl rfl rfl) (fun _ _ _ _ h => h)) (pa_cons (pv 0) pa_nil)))
    (pss_one (ps_ret (C8.pe_c c_cell_by_cell hr (by omega) (by rfl) (pa_cons (pv 0) (pa_cons (pe_glob (v := .ref f2) (by rfl) mg2 rfl) pa_nil)))))), ?_⟩
    walk_at "ev"
    refine ⟨p, qs, cs, rfl, hS, hA, hl, fun c m => (hc c m).1, fun ok H1 s1 => ?_, fun no H1 s1 => x no _ s1⟩
    have q := q ok
    obtain ⟨c0, c1, c2, e, h1, h2⟩ := ok
    subst e
    walk_at "ev"
    exact ⟨p, f2, uC, c0, c1, c2, rfl, .inr ⟨rfl, rfl⟩, col_x (f1 := f1) (BG := BG) hS hA hc rfl ⟨h1, h2⟩ s1, fun q' H' nq s' hC => q q' H' (s1.free nq) (s1.trans s') (hC.up fun b o n e => ⟨s1.free n, e⟩)⟩
/-! ### the law's channels -/
def BigR (rows : List (List Int)) : Prop := ∀ r ∈ rows, ∀ n ∈ r, Big n
def spChan : Sp := fun vs H Q _ => ∃ (a : Addr) (wd ht : Int), vs = [.ref a, .int wd, .int ht] ∧ Src H a ∧ 0 ≤ wd ∧ wd ≤ 100 ∧ 0 ≤ ht ∧ ht ≤ 100 ∧
  ∀ (q : Addr) (H' : Hp) (rows : List (List Int)), H q = none → Src H' a → Up a H H' → Rows (fun b => H b = none) H' q rows → ofSize wd.toNat ht.toNat rows → BigR rows → Q (.ref q) H'
theorem ok_chan {f : Addr} {fd : FuncData} {k : Nat} (F : Fun K "_law_channel" "_law_channel" s_law_channel f fd) (T : Txt mg) (c_law_one : C8.Cal P w K mg base 2 "_law_one" spOne []) (c_law_number : C8.Cal P w K mg base 2 "_law_number" spNum []) : FnOk P w K mg base CX0 (k + 3) f fd ["_law_source", "_law_wide", "_law_high"] spChan := by
  refine F.ok sc_law_channel (fun vs H Q E h => ?_) (fun cdv A outer s H vs Q E hr h => ?_)
  · obtain ⟨a, wd, ht, rfl, _⟩ := h
    rfl
  · obtain ⟨a, wd, ht, rfl, ha, w0, w1, h0, h1, q⟩ := h
    refine ⟨_, (pss_one (ps_ret (pe_lc (own := [("_law_y", 3)]) (g := (gName 3)) (tt := tYes) rfl sc_law_channel.nd (pi_range1 (by rfl) T.z_range (pa_cons (pv 2) pa_nil)) (blkOk_by (N := ["_law_source", "_law_wide", "_law_high", "_law_y", "_law_x"]) (sc := defScope s_law_channel) (by decide +kernel)) (fun _ _ _ _ _ => pg_name (i := 3) sc_law_channel.nd rfl (by first | exact Or.inl rfl | exact Or.inr rfl)) (fun _ _ _ _ _ => pts_nil) (fun _ _ _ _ _ => (pe_lc (own := [("_law_x", 4)]) (g := (gName 4)) (tt := tYes) rfl sc_law_channel.nd (pi_range1 (by rfl) T.z_range (pa_cons (pv 1) pa_nil)) (blk_in (N := ["_law_source", "_law_wide", "_law_high", "_law_y", "_law_x"]) (sc0 := defScope s_law_channel) rfl (by decide +kernel)) (fun _ _ _ _ _ => pg_name (i := 4) sc_law_channel.nd rfl (by first | exact Or.inl rfl | exact Or.inr rfl)) (fun _ _ _ _ _ => pts_nil) (fun _ _ _ _ _ => (C8.pe_c c_law_one hr (by omega) (by rfl) (pa_cons (pv 0) (pa_cons (pe_lst (pa_cons pe_int (pa_cons pe_int (pa_cons (C8.pe_c c_law_number hr (by omega) (by rfl) (pa_cons (pv 0) pa_nil)) (pa_cons (C8.pe_c c_law_number hr (by omega) (by rfl) (pa_cons (pv 0) pa_nil)) pa_nil))))) pa_nil))))))))), ?_⟩
    walk_at "ev"
    refine ⟨by omega, by omega, fun D nD => ?_⟩
    have nDa : D ≠ a := (ha.ne nD).symm
    refine lc_it walk_range (fun i H2 => Up a H H2 ∧ Src H2 a ∧ ∃ as rows, H2 D = some (.lst (as.map V.ref)) ∧ RowsA (fun b => H b = none ∧ b ≠ D) H2 as rows ∧ ofSize wd.toNat i rows ∧ BigR rows) ⟨up_same (same_upd nD), src_same (same_upd nD) ha, [], [], upd_same, .nil, ⟨rfl, fun _ m => absurd m List.not_mem_nil⟩, fun _ m => absurd m List.not_mem_nil⟩ (fun _ _ _ _ => trivial) ?_ ?_
    · rintro i x H2 H3 hi ⟨u2, s2, as, rows, e2, hR, hO, hB⟩ ⟨rfl, rfl⟩
      walk_at "ev"
      refine ⟨by omega, by omega, fun D2 nD2 => ?_⟩
      have n2a : D2 ≠ a := (s2.ne nD2).symm
      have n2D : D2 ≠ D := fun z => by
        rw [z, e2] at nD2
        cases nD2
      refine lc_it walk_range (fun t H4 => Up a H3 H4 ∧ Src H4 a ∧ ∃ ns : List Int, H4 D2 = some (.lst (ns.map V.int)) ∧ ns.length = t ∧ ∀ n ∈ ns, Big n) ⟨up_same (same_upd nD2), src_same (same_upd nD2) s2, [], upd_same, rfl, fun _ m => absurd m List.not_mem_nil⟩ (fun _ _ _ _ => trivial) ?_ ?_
      · rintro t z H4 H5 ht ⟨u4, s4, ns, e4, hl, hb⟩ ⟨rfl, rfl⟩
        walk_at "ev"
        refine ⟨s4, fun m1 H6 g1 s6 u6 => ?_⟩
        walk_at "ev"
        refine ⟨s6, fun m2 H7 g2 s7 u7 => ?_⟩
        walk_at "ev"
        refine ⟨by show 4 ≤ sizeLine; decide, fun p np => ?_⟩
        walk_at "ev"
        refine ⟨_, _, _, rfl, src_same (same_upd np) s7, (s7.ne np).symm, upd_same, by simp, by show 4 ≤ 1000; decide, fun v H8 hv s8 u8 => ?_⟩
        obtain ⟨n, rfl, gn⟩ : ∃ n, v = V.int n ∧ Big n := by
          simp only [List.mem_cons, List.not_mem_nil, or_false] at hv
          rcases hv with e | e | e | e
          · exact ⟨_, e, by decide, by decide⟩
          · exact ⟨_, e, by decide, by decide⟩
          · exact ⟨_, e, g1⟩
          · exact ⟨_, e, g2⟩
        have u68 : Up a H5 H8 := ((u6.up.trans u7.up).trans (up_same (same_upd np))).trans u8.up
        have e8 := u68 _ _ n2a e4
        refine ⟨_, e8, small1000 (by rw [List.length_map]; omega), fun b o nb e => by
          rw [upd_ne (ne_of_none e nD2)]
          exact u68 _ _ nb (u4 _ _ nb e), src_keep n2a.symm s8, ns ++ [n], by rw [upd_same, List.map_append]; rfl, by rw [List.length_append, hl]; rfl, fun m hm => ?_⟩
        rcases List.mem_append.mp hm with hm | hm
        · exact hb m hm
        · rw [List.mem_singleton.mp hm]
          exact gn
      · rintro H4 ⟨u4, s4, ns, e4, hl, hb⟩
        have e5 := u4 _ _ nDa e2
        have hal : as.length ≤ 1000 := by
          rw [hR.1, hO.1]
          omega
        refine ⟨_, e5, small1000 (by rw [List.length_map]; omega), ?_, src_keep nDa.symm s4, as ++ [D2], rows ++ [ns], by rw [upd_same, List.map_append]; rfl, ?_, ?_, ?_⟩
        · exact fun b o nb e => by
            rw [upd_ne (ne_of_none e nD)]
            exact u4 _ _ nb (u2 _ _ nb e)
        · have n2H : H D2 = none := by
            cases q : H D2 with
            | none => rfl
            | some o =>
              rw [u2 _ _ n2a q] at nD2
              cases nD2
          refine (hR.up fun b o n e => ⟨n, ?_⟩).app ⟨n2H, n2D⟩ ?_
          · rw [upd_ne n.2]
            exact u4 _ _ (fun z => by
              obtain ⟨_, _, ez, _⟩ := ha
              rw [← z, n.1] at ez
              cases ez) e
          · rw [upd_ne n2D]
            exact e4
        · refine ⟨by rw [List.length_append, hO.1]; rfl, fun r m => ?_⟩
          rcases List.mem_append.mp m with m | m
          · exact hO.2 r m
          · rw [List.mem_singleton.mp m, hl]
        · intro r m
          rcases List.mem_append.mp m with m | m
          · exact hB r m
          · rw [List.mem_singleton.mp m]
            exact hb
    · rintro H2 ⟨u2, s2, as, rows, e2, hR, hO, hB⟩
      exact q D H2 rows nD s2 u2 ⟨nD, as, e2, hR.up fun b o n e => ⟨n.1, e⟩⟩ hO hB
def spDue : Sp := fun vs H Q _ => ∃ (r g b : Int), vs = [.int r, .int g, .int b] ∧ ∀ (q : Addr) (H' : Hp), H q = none → Same H H' → H' q = some (.lst ((cC r g b).map V.int)) → Q (.ref q) H'
theorem due_eq (r g b : Int) : [V.int ((g + (r + b) / 2) / 2), .int (g - (r + b) / 2), .int (r - b)] = (cC r g b).map V.int := by
  have e1 : pS r b = (r + b) / 2 := by
    unfold pS
    omega
  show _ = [V.int (pS g (pS r b)), .int (g - pS r b), .int (r - b)]
  rw [e1]
  unfold pS
  rw [show (g + (r + b) / 2) / 2 = (r + b) / 2 + (g - (r + b) / 2) / 2 by omega]
theorem ok_due {f : Addr} {fd : FuncData} {k : Nat} (F : Fun K "_law_due" "_law_due" s_law_due f fd) (T : Txt mg) : FnOk P w K mg base CX0 (k + 1) f fd ["_law_r", "_law_g", "_law_b"] spDue := by
  refine F.ok sc_law_due (fun vs H Q E h => ?_) (fun cdv A outer s H vs Q E hr h => ?_)
  · obtain ⟨r, g, b, rfl, _⟩ := h
    rfl
  · obtain ⟨r, g, b, rfl, q⟩ := h
    refine ⟨_, (pss_cons (ps_set (i := 3) sc_law_due.nd rfl (Or.inl rfl) (pe_op op_sub (pv 0) (pv 2)))
    (pss_cons (ps_set (i := 4) sc_law_due.nd rfl (Or.inl rfl) (pe_op op_fdivW (pe_op op_add (pv 0) (pv 2)) pe_int))
    (pss_one (ps_ret (pe_lst (pa_cons (pe_op op_fdivW (pe_op op_add (pv 1) (pv 4)) pe_int) (pa_cons (pe_op op_sub (pv 1) (pv 4)) (pa_cons (pv 3) pa_nil)))))))), ?_⟩
    walk_at "ev"
    refine ⟨by show 3 ≤ sizeLine; decide, fun p np => q p _ np (same_upd np) ?_⟩
    rw [upd_same, due_eq]
def spIsNum : Sp := fun vs H Q _ => ∃ (i : Int), vs = [.int i] ∧ Q (.bl true) H
theorem ok_lisnum {f : Addr} {fd : FuncData} {k : Nat} (F : Fun K "_law_is_number" "_law_is_number" s_law_is_number f fd) (T : Txt mg) : FnOk P w K mg base CX0 (k + 1) f fd ["_law_n"] spIsNum := by
  refine F.ok sc_law_is_number (fun vs H Q E h => ?_) (fun cdv A outer s H vs Q E hr h => ?_)
  · obtain ⟨i, rfl, _⟩ := h
    rfl
  · obtain ⟨i, rfl, q⟩ := h
    refine ⟨_, (pss_one (ps_ret (pe_and (pe_callB call_isi (by rfl) T.z_isinstance PyProof.Rows.boot_isinstance (pa_cons (pv 0) (pa_cons (pe_bltn (v := .ty "int") (by rfl) T.z_int PyProof.Rows.boot_int rfl) pa_nil))) (pe_one (pe_not (pe_callB call_isi (by rfl) T.z_isinstance PyProof.Rows.boot_isinstance (pa_cons (pv 0) (pa_cons (pe_bltn (v := .ty "bool") (by rfl) T.z_bool PyProof.Rows.boot_bool rfl) pa_nil)))))))), ?_⟩
    walk_at "ev"
    exact q
/-! ### channels as data -/
def rowsD (rows : List (List Int)) : PyData := .list (rows.map fun r => .list (r.map PyData.int))
def chsD (cs : List (List (List Int))) : PyData := .list (cs.map rowsD)
theorem dpa_rows {K : PySem.W.Frag} {N : Addr → Prop} {H : Hp} : ∀ {as : List Addr} {rows : List (List Int)}, RowsA N H as rows → DpAll K H (as.map V.ref) (rows.map fun r => .list (r.map PyData.int))
  | [], [], _ => .nil
  | [], _ :: _, h => nomatch h.1
  | _ :: _, [], h => nomatch h.1
  | a :: as, r :: rs, h => .cons (dp_ints (.inl (.inl (h.2 0 a r rfl rfl).2))) (dpa_rows ⟨Nat.succ.inj h.1, fun i b s e1 e2 => h.2 (i + 1) b s e1 e2⟩)
theorem dp_rows {K : PySem.W.Frag} {N : Addr → Prop} {H : Hp} {p : Addr} {rows : List (List Int)} (h : Rows N H p rows) : Dp K H (.ref p) (rowsD rows) := by
  obtain ⟨_, as, e, r⟩ := h
  exact .lst (.inl (.inl e)) (dpa_rows r)
theorem dpa_chs {K : PySem.W.Frag} {N : Addr → Prop} {H : Hp} : ∀ {qs : List Addr} {cs : List (List (List Int))}, ChA N H qs cs → DpAll K H (qs.map V.ref) (cs.map rowsD)
  | [], [], _ => .nil
  | [], _ :: _, h => nomatch h.1
  | _ :: _, [], h => nomatch h.1
  | a :: as, r :: rs, h => .cons (dp_rows (h.2 0 a r rfl rfl)) (dpa_chs ⟨Nat.succ.inj h.1, fun i b s e1 e2 => h.2 (i + 1) b s e1 e2⟩)
theorem dp_chs {K : PySem.W.Frag} {N : Addr → Prop} {H : Hp} {p : Addr} {cs : List (List (List Int))} (h : Chs N H p cs) : Dp K H (.ref p) (chsD cs) := by
  obtain ⟨_, qs, e, r⟩ := h
  exact .lst (.inl (.inl e)) (dpa_chs r)
theorem shd_rows (rows : List (List Int)) : ShD 2 (rowsD rows) := shd_lst (n := 1) fun d m => by
  obtain ⟨r, _, rfl⟩ := List.mem_map.mp m
  exact shd_ints r
theorem shd_chs (cs : List (List (List Int))) : ShD 3 (chsD cs) := shd_lst (n := 2) fun d m => by
  obtain ⟨r, _, rfl⟩ := List.mem_map.mp m
  exact shd_rows r
def spAre (K : PySem.W.Frag) : Sp := fun vs H Q _ => ∃ (p p2 : Addr) (cs : List (List (List Int))), vs = [.ref p, .ref p2] ∧ Chs (fun _ => True) H p cs ∧ Chs (fun _ => True) H p2 cs ∧ ∀ H', Same H H' → Q (.bl true) H'
theorem ok_are {f : Addr} {fd : FuncData} {k : Nat} (F : Fun K "_law_are_rows" "_law_are_rows" s_law_are_rows f fd) (T : Txt mg) (c_law_is_number : C8.Cal P w K mg base 1 "_law_is_number" spIsNum []) : FnOk P w K mg base CX0 (k + 2) f fd ["_law_told", "_law_due_here"] (spAre K) := by
  refine F.ok sc_law_are_rows (fun vs H Q E h => ?_) (fun cdv A outer s H vs Q E hr h => ?_)
  · obtain ⟨p, p2, cs, rfl, _⟩ := h
    rfl
  · obtain ⟨p, p2, cs, rfl, hC, hC2, q⟩ := h
    have hu := hr.units
    have hu1 := hu_of hr
    obtain ⟨_, qs, ep, hA⟩ := _root_.id hC
    have hal : (qs.map V.ref).length = cs.length := by rw [List.length_map, hA.1]
    refine ⟨_, (pss_cons (ps_if (PW.pt (pw_or (pt_not (pt_val (pe_callB call_isi (by rfl) T.z_isinstance PyProof.Rows.boot_isinstance (pa_cons (pv 0) (pa_cons (pe_bltn (v := .ty "list") (by rfl) T.z_list PyProof.Rows.boot_list rfl) pa_nil))))) (pw_or1 (pt_cmpR (op_neD hu) (pv 0) (pv 1) (nomark _))))) (pss_one (ps_ret pe_bl)) pss_nil)
    (pss_cons (ps_for PassesOwn.never rfl (pi_list (pv 0)) (pg_name (i := 2) sc_law_are_rows.nd rfl (Or.inl rfl))
      (pss_one (ps_for PassesOwn.never rfl (pi_list (pv 2)) (pg_name (i := 3) sc_law_are_rows.nd rfl (Or.inl rfl))
      (pss_one (ps_if (PW.pt (pw_or (pt_not (pt_val (pe_callB call_isi (by rfl) T.z_isinstance PyProof.Rows.boot_isinstance (pa_cons (pv 2) (pa_cons (pe_bltn (v := .ty "list") (by rfl) T.z_list PyProof.Rows.boot_list rfl) pa_nil))))) (pw_or (pt_not (pt_val (pe_callB call_isi (by rfl) T.z_isinstance PyProof.Rows.boot_isinstance (pa_cons (pv 3) (pa_cons (pe_bltn (v := .ty "list") (by rfl) T.z_list PyProof.Rows.boot_list rfl) pa_nil))))) (pw_or1 (pt_cmpR (op_neD hu) (pe_lc (own := [("_law_n", 4)]) (g := (gName 4)) (tt := _) rfl sc_law_are_rows.nd (pi_list (pv 3)) (blkOk_by (N := ["_law_told", "_law_due_here", "_law_rows", "_law_row", "_law_n"]) (sc := defScope s_law_are_rows) (by decide +kernel)) (fun _ _ _ _ _ => pg_name (i := 4) sc_law_are_rows.nd rfl (by first | exact Or.inl rfl | exact Or.inr rfl)) (fun _ _ _ _ _ => (pts_one (pt_not (pt_val (C8.pe_c c_law_is_number hr (by omega) (by rfl) (pa_cons (pv 4) pa_nil)))))) (fun _ _ _ _ _ => (pv 4))) (pe_lst pa_nil) (nomark _)))))) (pss_one (ps_ret pe_bl)) pss_nil)))))
    (pss_one (ps_ret pe_bl)))), ?_⟩
    walk_at "ev"
    refine q_neS (dp_chs hC) (dp_chs hC2) ((shd_chs cs).sh (by decide)) ?_
    walk_at "ev"
    refine ⟨⟨_, .inl (.inl ep)⟩, ?_⟩
    refine for_it (walk_list (xs := qs.map V.ref)) (fun i σ G => Same H G ∧ ∃ v2 v3 v4, σ = [some (.ref p), some (.ref p2), v2, v3, v4]) ⟨fun _ _ e => e, _, _, _, rfl⟩ (fun _ _ _ _ h => .inl (.inl (h.1 _ _ ep))) ?_ ?_
    · rintro i x σ G G2 hi ⟨s4, v2, v3, v4, rfl⟩ ⟨rfl, hx1⟩
      rw [List.getElem?_map] at hx1
      obtain ⟨c, hc, rfl⟩ := Option.map_eq_some_iff.mp hx1
      obtain ⟨rows, hrows⟩ : ∃ r, cs[i]? = some r := ⟨_, List.getElem?_eq_getElem (by rw [← hA.1]; exact (List.getElem?_eq_some_iff.mp hc).1)⟩
      obtain ⟨_, as, ec, hR⟩ := hA.2 i c rows hc hrows
      walk_at "ev"
      refine ⟨⟨_, .inl (.inl (s4 _ _ ec))⟩, ?_⟩
      refine for_it (walk_list (xs := as.map V.ref)) (fun j σ G => Same H G ∧ ∃ v3 v4, σ = [some (.ref p), some (.ref p2), some (.ref c), v3, v4]) ⟨s4, _, _, rfl⟩ (fun _ _ _ _ h => .inl (.inl (h.1 _ _ ec))) ?_ ?_
      · rintro j x σ G G3 hj ⟨s5, v3, v4, rfl⟩ ⟨rfl, hx2⟩
        rw [List.getElem?_map] at hx2
        obtain ⟨b, hb, rfl⟩ := Option.map_eq_some_iff.mp hx2
        obtain ⟨r, hr'⟩ : ∃ r, rows[j]? = some r := ⟨_, List.getElem?_eq_getElem (by rw [← hR.1]; exact (List.getElem?_eq_some_iff.mp hb).1)⟩
        have hb4 := s5 _ _ (hR.2 j b r hb hr').2
        have hc4 := s5 _ _ ec
        walk_at "ev"
        refine ⟨⟨_, .inl (.inl hb4)⟩, fun D nD => ?_⟩
        refine lc_it (walk_list (xs := r.map V.int)) (fun _ G4 => G4 = upd G3 D (.lst [])) rfl (fun _ _ _ h => by rw [h]; exact .inl (.inl (new_at hb4 nD))) ?_ ?_
        · rintro j y G4 G5 hj rfl ⟨rfl, hy⟩
          rw [List.getElem?_map] at hy
          obtain ⟨z, hz, rfl⟩ := Option.map_eq_some_iff.mp hy
          walk_at "ev"
          exact rfl
        · rintro G4 rfl
          refine ⟨by show 0 ≤ sizeLine; decide, fun t4 n4 => ?_⟩
          have s6 : Same H (upd (upd G3 D (.lst [])) t4 (.lst [])) := s5.trans ((same_upd nD).trans (same_upd n4))
          refine q_neI (ns := []) (new_at upd_same n4) upd_same ?_
          walk_at "ev"
          exact ⟨s6, _, _, rfl⟩
      · rintro σ G ⟨s5, v3, v4, rfl⟩
        exact ⟨s5, _, _, _, rfl⟩
    · rintro σ G ⟨s4, v2, v3, v4, rfl⟩
      walk_at "ev"
      exact q _ s4
/-! ### there and back, cell by cell -/
theorem uc_cell (r g b : Int) : uC ((cC r g b).getD 0 0) ((cC r g b).getD 1 0) ((cC r g b).getD 2 0) = [r, g, b] := by
  simp only [uC, cC, List.getD_cons_zero, List.getD_cons_succ, List.cons.injEq, and_true]
  unfold pS
  omega
theorem cu_cell (y u v : Int) : cC ((uC y u v).getD 0 0) ((uC y u v).getD 1 0) ((uC y u v).getD 2 0) = [y, u, v] := by
  simp only [cC, uC, List.getD_cons_zero, List.getD_cons_succ, List.cons.injEq, and_true]
  unfold pS
  omega
def prj (k : Nat) (q : Int × Int × Int) : Int := [q.1, q.2.1, q.2.2].getD k 0
theorem zrow_map (z : List (Int × Int × Int)) (f g h : Int × Int × Int → Int) : zrow (z.map f, z.map g, z.map h) = z.map fun q => (f q, g q, h q) := by
  unfold zrow
  show (z.map f).zip ((z.map g).zip (z.map h)) = _
  rw [List.zip_map', List.zip_map']
theorem map_fst_zip' {α β : Type} : ∀ {a : List α} {b : List β}, a.length = b.length → (a.zip b).map Prod.fst = a
  | [], _, _ => rfl
  | x :: a, [], h => nomatch h
  | x :: a, y :: b, h => congrArg (x :: ·) (map_fst_zip' (Nat.succ.inj h))
theorem map_snd_zip' {α β : Type} : ∀ {a : List α} {b : List β}, a.length = b.length → (a.zip b).map Prod.snd = b
  | [], [], _ => rfl
  | [], y :: b, h => nomatch h
  | x :: a, [], h => nomatch h
  | x :: a, y :: b, h => congrArg (y :: ·) (map_snd_zip' (Nat.succ.inj h))
theorem zrow_prj {r0 r1 r2 : List Int} (h1 : r0.length = r1.length) (h2 : r0.length = r2.length) : (zrow (r0, r1, r2)).map (prj 0) = r0 ∧ (zrow (r0, r1, r2)).map (prj 1) = r1 ∧ (zrow (r0, r1, r2)).map (prj 2) = r2 := by
  have e12 : r1.length = r2.length := by omega
  have e0 : r0.length = (r1.zip r2).length := by rw [List.length_zip]; omega
  unfold zrow
  refine ⟨?_, ?_, ?_⟩
  · exact map_fst_zip' e0
  · have : (r0.zip (r1.zip r2)).map (prj 1) = ((r0.zip (r1.zip r2)).map Prod.snd).map Prod.fst := by rw [List.map_map]; rfl
    rw [this, map_snd_zip' e0, map_fst_zip' e12]
  · have : (r0.zip (r1.zip r2)).map (prj 2) = ((r0.zip (r1.zip r2)).map Prod.snd).map Prod.snd := by rw [List.map_map]; rfl
    rw [this, map_snd_zip' e0, map_snd_zip' e12]
/-- F undoes G, cell by cell -/
def Undo (F G : Cel3) : Prop := ∀ a b c, F ((G a b c).getD 0 0) ((G a b c).getD 1 0) ((G a b c).getD 2 0) = [a, b, c]
theorem row_undo {F G : Cel3} (h : Undo F G) (k : Nat) (z : List (Int × Int × Int)) : rowF F k (zrow (rowF G 0 z, rowF G 1 z, rowF G 2 z)) = z.map (prj k) := by
  unfold rowF
  rw [zrow_map, List.map_map]
  refine List.map_congr_left fun q _ => ?_
  show (F _ _ _).getD k 0 = prj k q
  rw [h]
  rfl
theorem rows3 {c0 c1 c2 : List (List Int)} (h : Same3 c0 c1 c2) {p : List Int × List Int × List Int} (m : p ∈ c0.zip (c1.zip c2)) : p.1.length = p.2.1.length ∧ p.1.length = p.2.2.length := by
  obtain ⟨i, hi⟩ := List.getElem?_of_mem m
  rw [List.getElem?_zip_eq_some] at hi
  obtain ⟨h1, h2⟩ := hi
  rw [List.getElem?_zip_eq_some] at h2
  exact ⟨lens_row h.1 h1 h2.1, lens_row h.2 h1 h2.2⟩
theorem zip3_map {α β : Type} (Z : List α) (f g h : α → β) : (Z.map f).zip ((Z.map g).zip (Z.map h)) = Z.map fun q => (f q, g q, h q) := by
  rw [List.zip_map', List.zip_map']
theorem prjC {c0 c1 c2 : List (List Int)} (h : Same3 c0 c1 c2) : ((c0.zip (c1.zip c2)).map fun p => (zrow p).map (prj 0)) = c0 ∧ ((c0.zip (c1.zip c2)).map fun p => (zrow p).map (prj 1)) = c1 ∧ ((c0.zip (c1.zip c2)).map fun p => (zrow p).map (prj 2)) = c2 := by
  have l1 := lens_len h.1
  have l2 := lens_len h.2
  have e12 : c1.length = c2.length := by omega
  have e0 : c0.length = (c1.zip c2).length := by rw [List.length_zip]; omega
  refine ⟨?_, ?_, ?_⟩
  · refine Eq.trans (List.map_congr_left fun p m => (zrow_prj (rows3 h m).1 (rows3 h m).2).1) ?_
    exact map_fst_zip' e0
  · refine Eq.trans (List.map_congr_left fun p m => (zrow_prj (rows3 h m).1 (rows3 h m).2).2.1) ?_
    have : ((c0.zip (c1.zip c2)).map fun p => p.2.1) = ((c0.zip (c1.zip c2)).map Prod.snd).map Prod.fst := by rw [List.map_map]; rfl
    rw [this, map_snd_zip' e0, map_fst_zip' e12]
  · refine Eq.trans (List.map_congr_left fun p m => (zrow_prj (rows3 h m).1 (rows3 h m).2).2.2) ?_
    have : ((c0.zip (c1.zip c2)).map fun p => p.2.2) = ((c0.zip (c1.zip c2)).map Prod.snd).map Prod.snd := by rw [List.map_map]; rfl
    rw [this, map_snd_zip' e0, map_snd_zip' e12]
theorem chan_undo {F G : Cel3} (h : Undo F G) (k : Nat) (c0 c1 c2 : List (List Int)) : chanF F k (chanF G 0 c0 c1 c2) (chanF G 1 c0 c1 c2) (chanF G 2 c0 c1 c2) = (c0.zip (c1.zip c2)).map fun p => (zrow p).map (prj k) := by
  unfold chanF
  rw [zip3_map, List.map_map]
  exact List.map_congr_left fun p _ => row_undo h k (zrow p)
theorem cbc_undo {F G : Cel3} (h : Undo F G) {c0 c1 c2 : List (List Int)} (h3 : Same3 c0 c1 c2) : cbc F (chanF G 0 c0 c1 c2) (chanF G 1 c0 c1 c2) (chanF G 2 c0 c1 c2) = [c0, c1, c2] := by
  obtain ⟨e0, e1, e2⟩ := prjC h3
  unfold cbc
  rw [chan_undo h, chan_undo h, chan_undo h, e0, e1, e2]
theorem lens_chan (G : Cel3) (k j : Nat) (c0 c1 c2 : List (List Int)) : lens (chanF G k c0 c1 c2) = lens (chanF G j c0 c1 c2) := by
  unfold lens chanF
  rw [List.map_map, List.map_map]
  refine List.map_congr_left fun p _ => ?_
  show ((rowF G k (zrow p)).length : Int) = ((rowF G j (zrow p)).length : Int)
  unfold rowF
  rw [List.length_map, List.length_map]
theorem same_chan (G : Cel3) (c0 c1 c2 : List (List Int)) : Same3 (chanF G 0 c0 c1 c2) (chanF G 1 c0 c1 c2) (chanF G 2 c0 c1 c2) := ⟨lens_chan .., lens_chan ..⟩
theorem undo_uc : Undo uC cC := uc_cell
theorem undo_cu : Undo cC uC := cu_cell
/-- sizes, and numbers that are not too great -/
structure ChOk (n : Nat) (c : List (List Int)) : Prop where
  len : c.length ≤ 4
  row : ∀ r ∈ c, r.length ≤ 5
  num : ∀ r ∈ c, ∀ z ∈ r, -(10 : Int) ^ n < z ∧ z < 10 ^ n
theorem chok_chan {G : Cel3} (hG : G = cC ∨ G = uC) {c0 c1 c2 : List (List Int)} (h3 : Same3 c0 c1 c2) (h0 : ChOk 31 c0) (h1 : ChOk 31 c1) (h2 : ChOk 31 c2) {k : Nat} (hk : k < 3) : ChOk 33 (chanF G k c0 c1 c2) := by
  have l1 := lens_len h3.1
  have l2 := lens_len h3.2
  refine ⟨?_, fun r m => ?_, fun r m z mz => ?_⟩
  · unfold chanF
    rw [List.length_map, zip3_len l1 l2]
    exact h0.len
  · unfold chanF at m
    obtain ⟨p, mp, rfl⟩ := List.mem_map.mp m
    obtain ⟨g1, g2⟩ := rows3 h3 mp
    unfold rowF zrow
    rw [List.length_map, zip3_len g1 g2]
    exact h0.row _ (List.of_mem_zip mp).1
  · unfold chanF at m
    obtain ⟨p, mp, rfl⟩ := List.mem_map.mp m
    unfold rowF at mz
    obtain ⟨q, mq, rfl⟩ := List.mem_map.mp mz
    have mp1 := List.of_mem_zip mp
    have mp2 := List.of_mem_zip mp1.2
    unfold zrow at mq
    have mq1 := List.of_mem_zip mq
    have mq2 := List.of_mem_zip mq1.2
    have b0 := h0.num _ mp1.1 _ mq1.1
    have b1 := h1.num _ mp2.1 _ mq2.1
    have b2 := h2.num _ mp2.2 _ mq2.2
    obtain ⟨x, y, v⟩ := q
    rcases hG with rfl | rfl
    · match k, hk with
      | 0, _ => simp only [cC, pS, List.getD_cons_zero, List.getD_cons_succ] at *; omega
      | 1, _ => simp only [cC, pS, List.getD_cons_zero, List.getD_cons_succ] at *; omega
      | 2, _ => simp only [cC, pS, List.getD_cons_zero, List.getD_cons_succ] at *; omega
    · match k, hk with
      | 0, _ => simp only [uC, List.getD_cons_zero, List.getD_cons_succ] at *; omega
      | 1, _ => simp only [uC, List.getD_cons_zero, List.getD_cons_succ] at *; omega
      | 2, _ => simp only [uC, List.getD_cons_zero, List.getD_cons_succ] at *; omega
/-! ### what is shown -/
structure ShownBy (m : Nat) (d : PyData) : Prop where
  sh : d.showable = true
  len : d.shown.length ≤ m
theorem shown_int {i : Int} (h : -(10 : Int) ^ 33 < i ∧ i < 10 ^ 33) : ShownBy 34 (.int i) := by
  have hn : i.natAbs < 10 ^ 33 := by omega
  refine ⟨?_, ?_⟩
  · show decide (i.natAbs.log2 < 1920) = true
    refine decide_eq_true ?_
    by_cases z : i.natAbs = 0
    · rw [z]; decide
    · exact (Nat.log2_lt z).mpr (Nat.lt_trans hn (by decide))
  · show (Str.ofString (toString i)).length ≤ 34
    rw [PySem.ofString_length]
    exact int_text_length_le10 (by decide) hn
theorem shown_lst {m : Nat} {ds : List PyData} (h : ∀ d ∈ ds, ShownBy m d) : ShownBy (ds.length * (m + 2) + 3) (.list ds) := by
  have key : ∀ ds : List PyData, (∀ d ∈ ds, ShownBy m d) → PyData.showableAll ds = true ∧ ((PyData.shownAll ds).map (·.length)).sum ≤ ds.length * m ∧ (PyData.shownAll ds).length = ds.length := by
    intro ds
    induction ds with
    | nil => exact fun _ => ⟨rfl, by simp [PyData.shownAll], rfl⟩
    | cons d ds ih =>
      intro h
      obtain ⟨a, b, c⟩ := ih fun x mx => h x (List.mem_cons_of_mem _ mx)
      have hd := h d List.mem_cons_self
      refine ⟨by rw [PyData.showableAll, hd.sh, a]; rfl, ?_, by rw [PyData.shownAll, List.length_cons, c]; rfl⟩
      rw [PyData.shownAll, List.map_cons, List.sum_cons, List.length_cons, Nat.succ_mul]
      have := hd.len
      omega
  obtain ⟨a, b, c⟩ := key ds h
  refine ⟨by rw [PyData.showable]; exact a, ?_⟩
  rw [PyData.shown]
  refine Nat.le_trans (listText_len_le _) ?_
  rw [c, Nat.mul_add]
  omega
theorem ShownBy.mono {m n : Nat} {d : PyData} (h : ShownBy m d) (l : m ≤ n) : ShownBy n d := ⟨h.sh, Nat.le_trans h.len l⟩
theorem shown_rows {c : List (List Int)} (h : ChOk 33 c) : ShownBy 800 (rowsD c) := by
  refine (shown_lst (m := 183) fun d m => ?_).mono ?_
  · obtain ⟨r, mr, rfl⟩ := List.mem_map.mp m
    refine (shown_lst (m := 34) fun e me => ?_).mono ?_
    · obtain ⟨z, mz, rfl⟩ := List.mem_map.mp me
      exact shown_int (h.num r mr z mz)
    · rw [List.length_map]
      have := h.row r mr
      omega
  · rw [List.length_map]
    have := h.len
    omega
theorem shown_chs {cs : List (List (List Int))} (hl : cs.length ≤ 3) (h : ∀ c ∈ cs, ChOk 33 c) : ShownBy 2500 (chsD cs) := by
  refine (shown_lst (m := 800) fun d m => ?_).mono ?_
  · obtain ⟨c, mc, rfl⟩ := List.mem_map.mp m
    exact shown_rows (h c mc)
  · rw [List.length_map]
    omega
theorem ChOk.up {c : List (List Int)} (h : ChOk 31 c) : ChOk 33 c := ⟨h.len, h.row, fun r m z mz => by
  have := h.num r m z mz
  omega⟩
structure ShowOk (d : PyData) : Prop where
  a : d.showable = true
  b : d.hasDict = false
  c : d.depth ≤ 20
  e : d.shown.length ≤ sizeLine
theorem show_ok {d : PyData} {m n : Nat} (hs : ShD n d) (hn : n ≤ 20) (hm : ShownBy m d) (hz : m ≤ 100000) : ShowOk d :=
  ⟨hm.sh, PyData.hasDict_of_canLay d hs.lay, Nat.le_trans hs.dep hn, Nat.le_trans hm.len (Nat.le_trans hz (by decide))⟩
/-! ### for both halves of the law -/
theorem lens_of {w h : Nat} {c : List (List Int)} (o : ofSize w h c) : lens c = List.replicate h (w : Int) := by
  unfold lens
  rw [List.map_congr_left (g := fun _ => (w : Int)) fun r m => by rw [o.2 r m], List.map_const', o.1]
theorem same3_of {w h : Nat} {c0 c1 c2 : List (List Int)} (o0 : ofSize w h c0) (o1 : ofSize w h c1) (o2 : ofSize w h c2) : Same3 c0 c1 c2 := ⟨by rw [lens_of o0, lens_of o1], by rw [lens_of o0, lens_of o2]⟩
theorem chok_of {w h : Nat} {c : List (List Int)} (o : ofSize w h c) (b : BigR c) (hw : w ≤ 5) (hh : h ≤ 4) : ChOk 31 c := ⟨by rw [o.1]; exact hh, fun r m => by rw [o.2 r m]; exact hw, fun r m z mz => b r m z mz⟩
theorem Chs.gets {N : Addr → Prop} {H : Hp} {p : Addr} {cs : List (List (List Int))} (h : Chs N H p cs) {k : Nat} {c : List (List Int)} {r : List Int} (e1 : cs[k]? = some c) (e2 : c[0]? = some r) :
    ∃ (qs : List Addr) (q : Addr) (as : List Addr) (b : Addr), H p = some (.lst (qs.map V.ref)) ∧ qs[k]? = some q ∧ H q = some (.lst (as.map V.ref)) ∧ as[0]? = some b ∧ N b ∧ H b = some (.lst (r.map V.int)) := by
  obtain ⟨_, qs, ep, hA⟩ := h
  obtain ⟨q, hq⟩ : ∃ q, qs[k]? = some q := get_of (by rw [hA.1]; exact (List.getElem?_eq_some_iff.mp e1).1)
  obtain ⟨_, as, eq, hR⟩ := hA.2 k q c hq e1
  obtain ⟨b, hb⟩ : ∃ b, as[0]? = some b := get_of (by rw [hR.1]; exact (List.getElem?_eq_some_iff.mp e2).1)
  exact ⟨qs, q, as, b, ep, hq, eq, hb, hR.2 0 b r hb e2⟩
theorem at_ref {as : List Addr} {i : Nat} {b : Addr} (h : as[i]? = some b) : atI (as.map V.ref) (i : Int) = some (.ref b) := atI_nat (by rw [List.getElem?_map, h]; rfl)
theorem at_int {ns : List Int} {i : Nat} {z : Int} (h : ns[i]? = some z) : atI (ns.map V.int) (i : Int) = some (.int z) := atI_nat (by rw [List.getElem?_map, h]; rfl)
theorem big_show {n : Int} (h : -(10 : Int) ^ 31 < n ∧ n < 10 ^ 31) : -(10 : Int) ^ 33 < n ∧ n < 10 ^ 33 := by omega
/-- lists of cells -/
def TpL (G : Cel3) (H : Hp) (ts : List Addr) (z : List (Int × Int × Int)) : Prop := ∀ (j : Nat) (a : Addr) (q : Int × Int × Int), ts[j]? = some a → z[j]? = some q → H a = some (.lst ((G q.1 q.2.1 q.2.2).map V.int))
theorem TpL.app {G : Cel3} {H H' : Hp} {ts : List Addr} {z : List (Int × Int × Int)} {a : Addr} {x : Int × Int × Int} (h : TpL G H ts z) (s : ∀ (j : Nat) (b : Addr) (q : Int × Int × Int), ts[j]? = some b → z[j]? = some q → H b = some (.lst ((G q.1 q.2.1 q.2.2).map V.int)) → H' b = some (.lst ((G q.1 q.2.1 q.2.2).map V.int))) (hz : z[ts.length]? = some x) (e : H' a = some (.lst ((G x.1 x.2.1 x.2.2).map V.int))) : TpL G H' (ts ++ [a]) z := fun j b q e1 e2 => by
  by_cases hj : j < ts.length
  · rw [List.getElem?_append_left hj] at e1
    exact s j b q e1 e2 (h j b q e1 e2)
  · have hj2 : ts.length ≤ j := Nat.le_of_not_lt hj
    rw [List.getElem?_append_right hj2] at e1
    have hk : j = ts.length := by
      have := (List.getElem?_eq_some_iff.mp e1).1
      simp at this
      omega
    subst hk
    rw [Nat.sub_self] at e1
    cases e1
    rw [hz] at e2
    cases e2
    exact e
theorem lst_ne {xs : List Int} {as : List Addr} (h : xs ≠ []) : (HO.lst (xs.map V.int)) ≠ .lst (as.map V.ref) := fun e => by
  injection e with e
  match xs, as, h, e with
  | x :: xs, [], _, e => cases e
  | x :: xs, a :: as, _, e => injection e with e _; cases e
theorem col_pre {K : PySem.W.Frag} {N : Addr → Prop} {H : Hp} {p : Addr} {cs : List (List (List Int))} (h : Chs N H p cs) : ∃ qs : List Addr, SqS K H p (qs.map V.ref) ∧ ChA (fun _ => True) H qs cs := by
  obtain ⟨_, qs, e, hA⟩ := h
  exact ⟨qs, .inl (.inl (.inl e)), hA.up fun b o _ e => ⟨trivial, e⟩⟩
theorem col_sm {cs : List (List (List Int))} (k : ∀ c ∈ cs, ChOk 33 c) : ∀ c ∈ cs, c.length ≤ 900 ∧ ∀ r ∈ c, r.length ≤ 900 := fun c m => ⟨Nat.le_trans (k c m).len (by decide), fun r mr => Nat.le_trans ((k c m).row r mr) (by decide)⟩
theorem size_chan {w h : Nat} (G : Cel3) (k : Nat) {c0 c1 c2 : List (List Int)} (o0 : ofSize w h c0) (o1 : ofSize w h c1) (o2 : ofSize w h c2) : ofSize w h (chanF G k c0 c1 c2) := by
  have h3 := same3_of o0 o1 o2
  refine ⟨?_, fun r m => ?_⟩
  · unfold chanF
    rw [List.length_map, zip3_len (lens_len h3.1) (lens_len h3.2), o0.1]
  · unfold chanF at m
    obtain ⟨p, mp, rfl⟩ := List.mem_map.mp m
    obtain ⟨g1, g2⟩ := rows3 h3 mp
    unfold rowF zrow
    rw [List.length_map, zip3_len g1 g2]
    exact o0.2 _ (List.of_mem_zip mp).1
theorem first_cell {w h : Nat} {c : List (List Int)} (o : ofSize w h c) (hw : 1 ≤ w) (hh : 1 ≤ h) : ∃ z rest, c[0]? = some (z :: rest) := by
  obtain ⟨r, hr⟩ := get_of (show 0 < c.length by rw [o.1]; exact hh)
  have := o.2 r (List.mem_of_getElem? hr)
  match r, hr, this with
  | [], _, e => rw [← e] at hw; exact absurd hw (by decide)
  | z :: rest, hr, _ => exact ⟨z, rest, hr⟩
/-- the first number of a channel is exchanged -/
theorem Chs.past {N M : Addr → Prop} {H : Hp} {p b : Addr} {cs : List (List (List Int))} {o : HO} (h : Chs N H p cs) (k : ∀ x, N x → x ≠ b ∧ M x) : Chs M (upd H b o) p cs :=
  h.up fun x o' n e => ⟨(k x n).2, (upd_ne (k x n).1).trans e⟩
def pairD (cs ds : List (List (List Int))) : PyData := .list [chsD cs, chsD ds]
theorem show_pair {cs ds : List (List (List Int))} (h1 : ShownBy 2500 (chsD cs)) (h2 : ShownBy 2500 (chsD ds)) : ShowOk (pairD cs ds) := by
  refine show_ok (n := 4) (shd_lst (n := 3) fun d m => ?_) (by decide) (shown_lst (m := 2500) (ds := [chsD cs, chsD ds]) fun d m => ?_) (by show 2 * (2500 + 2) + 3 ≤ 100000; decide)
  · simp only [List.mem_cons, List.not_mem_nil, or_false] at m
    rcases m with rfl | rfl
    · exact shd_chs _
    · exact shd_chs _
  · simp only [List.mem_cons, List.not_mem_nil, or_false] at m
    rcases m with rfl | rfl
    · exact h1
    · exact h2
theorem dp_pairs {K : PySem.W.Frag} {N M : Addr → Prop} {H : Hp} {L p q : Addr} {cs ds : List (List (List Int))} (e : H L = some (.lst [.ref p, .ref q])) (h1 : Chs N H p cs) (h2 : Chs M H q ds) : Dp K H (.ref L) (pairD cs ds) :=
  .lst (.inl (.inl e)) (.cons (dp_chs h1) (.cons (dp_chs h2) .nil))
theorem ixN_zero {x : V} {xs : List V} : ixN (x :: xs).length (0 : Int) = some 0 := by
  unfold ixN
  rw [if_pos (by decide), if_pos (by rw [List.length_cons]; omega)]
  rfl
/-! ### the law: what is right -/
def spRightL (K : PySem.W.Frag) : Sp := fun vs H Q _ => ∃ (a : Addr) (wd ht : Int), vs = [.ref a, .int wd, .int ht] ∧ Src H a ∧ 1 ≤ wd ∧ wd ≤ 5 ∧ 1 ≤ ht ∧ ht ≤ 4 ∧ ∀ (H' : Hp), Src H' a → Up a H H' → Q (.bl true) H'
theorem ok_rightL {f fa fb BG : Addr} {fd fda fdb : FuncData} {k : Nat} (F : Fun K "_law_right" "_law_right" s_law_right f fd) (T : Txt mg) (c_law_channel : C8.Cal P w K mg base 3 "_law_channel" spChan []) (c_law_due : C8.Cal P w K mg base 1 "_law_due" spDue []) (c_law_are_rows : C8.Cal P w K mg base 2 "_law_are_rows" (spAre K) [])
    (G_coloured : FnOk P w K mg base (L2.CX P w) 4 fa fda ["channels"] (spCol K BG cC)) (g_coloured : mg "coloured" = some (.ref fa)) (k_coloured : PySem.W.keepIn K (.ref fa) = true) (b_coloured : Binds K fda ["channels"] [])
    (G_uncoloured : FnOk P w K mg base (L2.CX P w) 4 fb fdb ["channels"] (spCol K BG uC)) (g_uncoloured : mg "uncoloured" = some (.ref fb)) (k_uncoloured : PySem.W.keepIn K (.ref fb) = true) (b_uncoloured : Binds K fdb ["channels"] []) : GdX.FnG P w K mg base CX0 (k + 5) f fd ["_law_source", "_law_wide", "_law_high"] (spRightL K) := by
  refine GdX.funG F sc_law_right (fun vs H Q E h => ?_) (fun cdv A outer s H vs Q E hgd hr h => ?_)
  · obtain ⟨a, wd, ht, rfl, _⟩ := h
    rfl
  · obtain ⟨a, wd, ht, rfl, ha, w0, w1, h0, h1, q⟩ := h
    have hu := hr.units
    refine ⟨_, (pss_cons (ps_set (i := 4) sc_law_right.nd rfl (Or.inr rfl) (pe_lc (own := [("_law_c", 3)]) (g := (gName 3)) (tt := tYes) rfl sc_law_right.nd (pi_range1 (by rfl) T.z_range (pa_cons pe_int pa_nil)) (blkOk_by (N := ["_law_source", "_law_wide", "_law_high", "_law_c", "_law_some", "_law_due_here", "_law_before", "_law_y", "_law_x", "_law_cells", "_law_row", "_law_cell", "_law_told", "_law_rows", "_law_given", "_law_back"]) (sc := defScope s_law_right) (by decide +kernel)) (fun _ _ _ _ _ => pg_name (i := 3) sc_law_right.nd rfl (by first | exact Or.inl rfl | exact Or.inr rfl)) (fun _ _ _ _ _ => pts_nil) (fun _ _ _ _ _ => (C8.pe_c c_law_channel hr (by omega) (by rfl) (pa_cons (pv 0) (pa_cons (pv 1) (pa_cons (pv 2) pa_nil)))))))
    (pss_cons (ps_par (i := 5) (j := 6) rfl sc_law_right.nd rfl rfl (by decide) rfl rfl (pa_cons (pe_lst (pa_cons (pe_lst pa_nil) (pa_cons (pe_lst pa_nil) (pa_cons (pe_lst pa_nil) pa_nil)))) (pa_cons (pe_callB (GdX.cr_show hgd hu) (by rfl) T.z_repr PyProof.Rows.boot_repr (pa_cons (pv 4) pa_nil)) pa_nil)) rfl)
    (C8.pss_cut (ps_for PassesOwn.never rfl (pi_range1 (by rfl) T.z_range (pa_cons (pv 2) pa_nil)) (pg_name (i := 7) sc_law_right.nd rfl (Or.inr rfl))
      (pss_cons (ps_setLc (i := 9) (own := [("_law_x", 8)]) (g := (gName 8)) (tt := tYes) rfl sc_law_right.nd rfl rfl (sw_true rfl rfl rfl (by decide +kernel)) (pi_range1 (by rfl) T.z_range (pa_cons (pv 1) pa_nil)) (blkOk_by (N := ["_law_source", "_law_wide", "_law_high", "_law_c", "_law_some", "_law_due_here", "_law_before", "_law_y", "_law_x", "_law_cells", "_law_row", "_law_cell", "_law_told", "_law_rows", "_law_given", "_law_back"]) (sc := defScope s_law_right) (by decide +kernel)) (fun _ _ _ _ _ => pg_name (i := 8) sc_law_right.nd rfl (by first | exact Or.inl rfl | exact Or.inr rfl)) (fun _ _ _ _ _ => pts_nil) (fun _ _ _ _ _ => (C8.pe_c c_law_due hr (by omega) (by rfl) (pa_cons (pe_ix (ix_list : IxR _ (rIxL K)) (pe_ix (ix_list : IxR _ (rIxL K)) (pe_ix (ix_list : IxR _ (rIxL K)) (pv 4) pe_int (fun _ _ => rfl)) (pv 7) (fun _ _ => rfl)) (pv 8) (fun _ _ => rfl)) (pa_cons (pe_ix (ix_list : IxR _ (rIxL K)) (pe_ix (ix_list : IxR _ (rIxL K)) (pe_ix (ix_list : IxR _ (rIxL K)) (pv 4) pe_int (fun _ _ => rfl)) (pv 7) (fun _ _ => rfl)) (pv 8) (fun _ _ => rfl)) (pa_cons (pe_ix (ix_list : IxR _ (rIxL K)) (pe_ix (ix_list : IxR _ (rIxL K)) (pe_ix (ix_list : IxR _ (rIxL K)) (pv 4) pe_int (fun _ _ => rfl)) (pv 7) (fun _ _ => rfl)) (pv 8) (fun _ _ => rfl)) pa_nil))))))
    (pss_one (ps_for PassesOwn.never rfl (pi_range1 (by rfl) T.z_range (pa_cons pe_int pa_nil)) (pg_name (i := 3) sc_law_right.nd rfl (Or.inr rfl))
      (pss_cons (ps_set (i := 10) sc_law_right.nd rfl (Or.inl rfl) (pe_ix ix_list (pv 5) (pv 3) (fun _ _ => rfl)))
    (pss_one (ps_expr (pe_bm PySem.F.plainAttrs_list PySem.F.slot_list_append PySem.F.type_list_append mt_append (pv 10) (pa_cons (pe_lc (own := [("_law_cell", 11)]) (g := (gName 11)) (tt := tYes) rfl sc_law_right.nd (pi_list (pv 9)) (blkOk_by (N := ["_law_source", "_law_wide", "_law_high", "_law_c", "_law_some", "_law_due_here", "_law_before", "_law_y", "_law_x", "_law_cells", "_law_row", "_law_cell", "_law_told", "_law_rows", "_law_given", "_law_back"]) (sc := defScope s_law_right) (by decide +kernel)) (fun _ _ _ _ _ => pg_name (i := 11) sc_law_right.nd rfl (by first | exact Or.inl rfl | exact Or.inr rfl)) (fun _ _ _ _ _ => pts_nil) (fun _ _ _ _ _ => (pe_ix (ix_list : IxR _ (rIxL K)) (pv 11) (pv 3) (fun _ _ => rfl)))) pa_nil)))))))))
    (pss_cons (ps_set (i := 12) sc_law_right.nd rfl (Or.inl rfl) (pe_call G_coloured (hr.mono (by omega)) (by rfl) g_coloured k_coloured b_coloured .nil passN (pa_cons (pv 4) pa_nil)))
    (C8.pss_cut (ps_if (PW.pt (pw_or (pt_not (pt_val (C8.pe_c c_law_are_rows hr (by omega) (by rfl) (pa_cons (pv 12) (pa_cons (pv 5) pa_nil))))) (pw_or (pt_cmpR op_ne (pe_callB (GdX.cr_show hgd hu) (by rfl) T.z_repr PyProof.Rows.boot_repr (pa_cons (pv 4) pa_nil)) (pv 6) (nomark _)) (pw_or1 (pt_not (pt_val (C8.pe_c c_law_are_rows hr (by omega) (by rfl) (pa_cons (pe_call G_uncoloured (hr.mono (by omega)) (by rfl) g_uncoloured k_uncoloured b_uncoloured .nil passN (pa_cons (pv 5) pa_nil)) (pa_cons (pv 4) pa_nil))))))))) (pss_one (ps_ret pe_bl)) pss_nil)
    (pss_cons (ps_set (i := 10) sc_law_right.nd rfl (Or.inl rfl) (pe_ix ix_list (pe_ix ix_list (pv 12) pe_int (fun _ _ => rfl)) pe_int (fun _ _ => rfl)))
    (pss_cons (ps_asg (pe_op op_add (pe_ix ix_list (pv 10) pe_int (fun _ _ => rfl)) pe_int) (pg_sub (pv 10) pe_int set_list))
    (C8.pss_cut (ps_if (pt_not (pt_val (C8.pe_c c_law_are_rows hr (by omega) (by rfl) (pa_cons (pe_call G_coloured (hr.mono (by omega)) (by rfl) g_coloured k_coloured b_coloured .nil passN (pa_cons (pe_tup (pa_cons (pe_ix ix_list (pv 4) pe_int (fun _ _ => rfl)) (pa_cons (pe_ix ix_list (pv 4) pe_int (fun _ _ => rfl)) (pa_cons (pe_ix ix_list (pv 4) pe_int (fun _ _ => rfl)) pa_nil)))) pa_nil)) (pa_cons (pv 5) pa_nil))))) (pss_one (ps_ret pe_bl)) pss_nil)
    (C8.pss_cut (ps_setLc (i := 14) (own := [("_law_rows", 13)]) (g := (gName 13)) (tt := tYes) rfl sc_law_right.nd rfl rfl (sw_true rfl rfl rfl (by decide +kernel)) (pi_list (pv 4)) (blkOk_by (N := ["_law_source", "_law_wide", "_law_high", "_law_c", "_law_some", "_law_due_here", "_law_before", "_law_y", "_law_x", "_law_cells", "_law_row", "_law_cell", "_law_told", "_law_rows", "_law_given", "_law_back"]) (sc := defScope s_law_right) (by decide +kernel)) (fun _ _ _ _ _ => pg_name (i := 13) sc_law_right.nd rfl (by first | exact Or.inl rfl | exact Or.inr rfl)) (fun _ _ _ _ _ => pts_nil) (fun _ _ _ _ _ => (pe_lc (own := [("_law_row", 10)]) (g := (gName 10)) (tt := tYes) rfl sc_law_right.nd (pi_listC (K := K) rfl (pv 13)) (blk_in (N := ["_law_source", "_law_wide", "_law_high", "_law_c", "_law_some", "_law_due_here", "_law_before", "_law_y", "_law_x", "_law_cells", "_law_row", "_law_cell", "_law_told", "_law_rows", "_law_given", "_law_back"]) (sc0 := defScope s_law_right) rfl (by decide +kernel)) (fun _ _ _ _ _ => pg_name (i := 10) sc_law_right.nd rfl (by first | exact Or.inl rfl | exact Or.inr rfl)) (fun _ _ _ _ _ => pts_nil) (fun _ _ _ _ _ => (pe_callTy (call_list_of : CallR _ (.type "list") (fun xs H Q => ∃ p ys, xs = [.ref p] ∧ (SqL K H p ys ∨ SqT K H p ys) ∧ ∀ (l : Addr), H l = none → Q (.ref l) (upd H l (.lst ys)))) (by rfl) T.z_list PyProof.Rows.boot_list (pa_cons (pv 10) pa_nil))))))
    (C8.pss_cut (ps_par (i := 12) (j := 15) rfl sc_law_right.nd rfl rfl (by decide) rfl rfl (pa_cons (pe_call G_coloured (hr.mono (by omega)) (by rfl) g_coloured k_coloured b_coloured .nil passN (pa_cons (pv 14) pa_nil)) (pa_cons (pe_call G_uncoloured (hr.mono (by omega)) (by rfl) g_uncoloured k_uncoloured b_uncoloured .nil passN (pa_cons (pv 14) pa_nil)) pa_nil)) rfl)
    (C8.pss_cut (ps_set (i := 6) sc_law_right.nd rfl (Or.inl rfl) (pe_callB (GdX.cr_show hgd hu) (by rfl) T.z_repr PyProof.Rows.boot_repr (pa_cons (pe_lst (pa_cons (pv 12) (pa_cons (pv 15) pa_nil))) pa_nil)))
    (pss_cons (ps_set (i := 10) sc_law_right.nd rfl (Or.inl rfl) (pe_ix ix_list (pe_ix ix_list (pv 14) pe_int (fun _ _ => rfl)) pe_int (fun _ _ => rfl)))
    (pss_cons (ps_asg (pe_op op_add (pe_ix ix_list (pv 10) pe_int (fun _ _ => rfl)) pe_int) (pg_sub (pv 10) pe_int set_list))
    (C8.pss_cut (ps_if (PW.pt (pw_or (pt_cmpR op_ne (pe_callB (GdX.cr_show hgd hu) (by rfl) T.z_repr PyProof.Rows.boot_repr (pa_cons (pe_lst (pa_cons (pv 12) (pa_cons (pv 15) pa_nil))) pa_nil)) (pv 6) (nomark _)) (pw_or1 (pt_not (pt_val (C8.pe_c c_law_are_rows hr (by omega) (by rfl) (pa_cons (pe_call G_coloured (hr.mono (by omega)) (by rfl) g_coloured k_coloured b_coloured .nil passN (pa_cons (pv 15) pa_nil)) (pa_cons (pv 4) pa_nil)))))))) (pss_one (ps_ret pe_bl)) pss_nil)
    (pss_cons (ps_set (i := 10) sc_law_right.nd rfl (Or.inl rfl) (pe_ix ix_list (pe_ix ix_list (pv 15) pe_int (fun _ _ => rfl)) pe_int (fun _ _ => rfl)))
    (pss_cons (ps_asg (pe_op op_add (pe_ix ix_list (pv 10) pe_int (fun _ _ => rfl)) pe_int) (pg_sub (pv 10) pe_int set_list))
    (pss_one (ps_ret (C8.pe_c c_law_are_rows hr (by omega) (by rfl) (pa_cons (pe_call G_coloured (hr.mono (by omega)) (by rfl) g_coloured k_coloured b_coloured .nil passN (pa_cons (pe_call G_uncoloured (hr.mono (by omega)) (by rfl) g_uncoloured k_uncoloured b_uncoloured .nil passN (pa_cons (pv 4) pa_nil)) pa_nil)) (pa_cons (pv 4) pa_nil))))))))))))))))))))), ?_⟩
    walk_at "ev"
    refine ⟨by decide, by decide, fun D nD => ?_⟩
    have nDa : D ≠ a := (ha.ne nD).symm
    refine lc_it walk_range (fun i H2 => Up a H H2 ∧ Src H2 a ∧ ∃ qs cs, H2 D = some (.lst (qs.map V.ref)) ∧ ChA (fun b => b ≠ D ∧ b ≠ a) H2 qs cs ∧ cs.length = i ∧ ∀ c ∈ cs, ofSize wd.toNat ht.toNat c ∧ BigR c) ⟨up_same (same_upd nD), src_same (same_upd nD) ha, [], [], upd_same, .nil, rfl, fun _ m => absurd m List.not_mem_nil⟩ (fun _ _ _ _ => trivial) ?_ ?_
    · rintro i x H2 H3 hi ⟨u2, s2, qs, cs, e2, hA, hl, hO⟩ ⟨rfl, rfl⟩
      walk_at "ev"
      refine ⟨a, wd, ht, rfl, s2, by omega, by omega, by omega, by omega, fun p H4 rows np s4 u4 hR oR bR => ?_⟩
      have e4 := u4 _ _ nDa e2
      have hq : qs.length ≤ 3 := by
        rw [hA.1, hl]
        exact Nat.le_of_lt hi
      have nDn : ∀ b, H3 b = none → b ≠ D := fun b e z => by rw [z, e2] at e; cases e
      have nDs : ∀ b, H3 b = none → b ≠ a := fun b e => (s2.ne e).symm
      refine ⟨_, e4, small1000 (by rw [List.length_map]; omega), ?_, src_keep nDa.symm s4, qs ++ [p], cs ++ [rows], by rw [upd_same, List.map_append]; rfl, ?_, by rw [List.length_append, hl]; rfl, fun c m => ?_⟩
      · exact fun b o nb e => by
          rw [upd_ne (ne_of_none e nD)]
          exact u4 _ _ nb (u2 _ _ nb e)
      · refine (hA.up fun b o n e => ⟨n, ?_⟩).app (hR.up fun b o n e => ⟨⟨nDn b n, nDs b n⟩, ?_⟩)
        · rw [upd_ne n.1]
          exact u4 _ _ n.2 e
        · rw [upd_ne (nDn b n)]
          exact e
      · rcases List.mem_append.mp m with m | m
        · exact hO c m
        · rw [List.mem_singleton.mp m]
          exact ⟨oR, bR⟩
    · rintro H1 ⟨uG, sG, qs, cs, eD, hA, hl, hO⟩
      obtain ⟨c0, c1, c2, rfl⟩ : ∃ c0 c1 c2, cs = [c0, c1, c2] := by
        match cs, hl with
        | [c0, c1, c2], _ => exact ⟨c0, c1, c2, rfl⟩
      obtain ⟨o0, b0⟩ := hO c0 (by simp)
      obtain ⟨o1, b1⟩ := hO c1 (by simp)
      obtain ⟨o2, b2⟩ := hO c2 (by simp)
      have h3 := same3_of o0 o1 o2
      have k0 := chok_of o0 b0 (by omega) (by omega)
      have k1 := chok_of o1 b1 (by omega) (by omega)
      have k2 := chok_of o2 b2 (by omega) (by omega)
      have hS : Chs (fun b => b ≠ a) H1 D [c0, c1, c2] := ⟨nDa, qs, eD, hA.up fun b o n e => ⟨n.2, e⟩⟩
      have cT : ∀ {G : Hp}, Same H1 G → Chs (fun _ => True) G D [c0, c1, c2] := fun s => hS.up fun b o _ e => ⟨trivial, s _ _ e⟩
      have cok : ∀ c ∈ [c0, c1, c2], ChOk 33 c := fun c m => by
        simp only [List.mem_cons, List.not_mem_nil, or_false] at m
        rcases m with rfl | rfl | rfl
        · exact k0.up
        · exact k1.up
        · exact k2.up
      have show0 := shown_chs (cs := [c0, c1, c2]) (Nat.le_refl 3) cok
      have showS := show_ok (shd_chs [c0, c1, c2]) (by decide) show0 (by decide)
      have cC3 : ∀ c ∈ cbc cC c0 c1 c2, ChOk 33 c := fun c m => by
        simp only [cbc, List.mem_cons, List.not_mem_nil, or_false] at m
        rcases m with rfl | rfl | rfl
        · exact chok_chan (.inl rfl) h3 k0 k1 k2 (by decide)
        · exact chok_chan (.inl rfl) h3 k0 k1 k2 (by decide)
        · exact chok_chan (.inl rfl) h3 k0 k1 k2 (by decide)
      have uC3 : ∀ c ∈ cbc uC c0 c1 c2, ChOk 33 c := fun c m => by
        simp only [cbc, List.mem_cons, List.not_mem_nil, or_false] at m
        rcases m with rfl | rfl | rfl
        · exact chok_chan (.inr rfl) h3 k0 k1 k2 (by decide)
        · exact chok_chan (.inr rfl) h3 k0 k1 k2 (by decide)
        · exact chok_chan (.inr rfl) h3 k0 k1 k2 (by decide)
      have ccS : Same3 (chanF cC 0 c0 c1 c2) (chanF cC 1 c0 c1 c2) (chanF cC 2 c0 c1 c2) := same_chan ..
      have ucS : Same3 (chanF uC 0 c0 c1 c2) (chanF uC 1 c0 c1 c2) (chanF uC 2 c0 c1 c2) := same_chan ..
      have backC := cbc_undo undo_uc h3
      have backU := cbc_undo undo_cu h3
      have okS : Ok3 [c0, c1, c2] := ⟨_, _, _, rfl, h3.1, h3.2⟩
      have okC : Ok3 (cbc cC c0 c1 c2) := ⟨_, _, _, rfl, ccS.1, ccS.2⟩
      have okU : Ok3 (cbc uC c0 c1 c2) := ⟨_, _, _, rfl, ucS.1, ucS.2⟩
      have showP := show_pair (shown_chs (cs := cbc cC c0 c1 c2) (Nat.le_refl 3) cC3) (shown_chs (cs := cbc uC c0 c1 c2) (Nat.le_refl 3) uC3)
      have fin : ∀ G : Hp, Same H1 G → Q (.bl true) G := fun G s => q G (src_same s sG) (uG.trans (up_same s))
      clear q hO hl uG hr
      walk_at "ev"
      refine ⟨(by show 0 ≤ sizeLine; decide), fun d0 n0 => ?_⟩
      refine ⟨(by show 0 ≤ sizeLine; decide), fun d1 n1 => ?_⟩
      refine ⟨(by show 0 ≤ sizeLine; decide), fun d2 n2 => ?_⟩
      refine ⟨(by show 3 ≤ sizeLine; decide), fun p5 nD5 => ?_⟩
      have s1 := ((same_upd (o := .lst []) n0).trans (same_upd (o := .lst []) n1)).trans ((same_upd (o := .lst []) n2).trans (same_upd (o := .lst [.ref d0, .ref d1, .ref d2]) nD5))
      have kk0 : upd (upd (upd (upd H1 d0 (.lst [])) d1 (.lst [])) d2 (.lst [])) p5 (.lst [.ref d0, .ref d1, .ref d2]) d0 = some (.lst []) := new_at (new_at (new_at upd_same n1) n2) nD5
      have kk1 : upd (upd (upd (upd H1 d0 (.lst [])) d1 (.lst [])) d2 (.lst [])) p5 (.lst [.ref d0, .ref d1, .ref d2]) d1 = some (.lst []) := new_at (new_at upd_same n2) nD5
      have kk2 : upd (upd (upd (upd H1 d0 (.lst [])) d1 (.lst [])) d2 (.lst [])) p5 (.lst [.ref d0, .ref d1, .ref d2]) d2 = some (.lst []) := new_at upd_same nD5
      have kD : upd (upd (upd (upd H1 d0 (.lst [])) d1 (.lst [])) d2 (.lst [])) p5 (.lst [.ref d0, .ref d1, .ref d2]) p5 = some (.lst [.ref d0, .ref d1, .ref d2]) := upd_same
      have f1' := (same_upd (o := .lst []) n0).free n1
      have f2' := ((same_upd (o := .lst []) n0).trans (same_upd (o := .lst []) n1)).free n2
      have fD' := ((same_upd (o := .lst []) n0).trans (same_upd (o := .lst []) n1)).trans (same_upd (o := .lst []) n2) |>.free nD5
      have nd : [d0, d1, d2].Nodup := by
        have a01 : d0 ≠ d1 := fun z => by rw [← z, upd_same] at n1; cases n1
        have a12 : d1 ≠ d2 := fun z => by rw [← z, upd_same] at n2; cases n2
        have a02 : d0 ≠ d2 := fun z => by rw [← z, new_at (upd_same (H := H1) (a := d0) (o := .lst [])) n1] at n2; cases n2
        simp [a01, a12, a02]
      have nDd : p5 ∉ [d0, d1, d2] := fun m => by
        simp only [List.mem_cons, List.not_mem_nil, or_false] at m
        rcases m with z | z | z
        · rw [z, new_at (new_at (upd_same (H := H1) (a := d0) (o := .lst [])) n1) n2] at nD5; cases nD5
        · rw [z, new_at (upd_same (H := upd H1 d0 (.lst [])) (a := d1) (o := .lst [])) n2] at nD5; cases nD5
        · rw [z, upd_same] at nD5; cases nD5
      have fds : ∀ d ∈ [d0, d1, d2], H1 d = none := fun d m => by
        simp only [List.mem_cons, List.not_mem_nil, or_false] at m
        rcases m with rfl | rfl | rfl
        · exact n0
        · exact f1'
        · exact f2'
      generalize upd (upd (upd (upd H1 d0 (.lst [])) d1 (.lst [])) d2 (.lst [])) p5 (.lst [.ref d0, .ref d1, .ref d2]) = G1 at s1 kk0 kk1 kk2 kD ⊢
      walk_at "ev"
      refine ⟨D, _, rfl, dp_chs (cT s1), showS.a, showS.b, showS.c, showS.e, ?_⟩
      walk_at "ev"
      refine ⟨fun σ G => (∃ v3 v7 v8 v9 v10 v11 v12 v13 v14 v15, σ = [some (.ref a), some (.int wd), some (.int ht), v3, some (.ref D), some (.ref p5), some (.str (chsD [c0, c1, c2]).shown), v7, v8, v9, v10, v11, v12, v13, v14, v15]) ∧ Same H1 G ∧ Chs (fun _ => True) G p5 (cbc cC c0 c1 c2), ?_, ?_⟩
      · obtain ⟨q0, q1, q2, rfl⟩ : ∃ q0 q1 q2, qs = [q0, q1, q2] := by
          match qs, hA.1 with
          | [q0, q1, q2], _ => exact ⟨q0, q1, q2, rfl⟩
        obtain ⟨_, as0, e0, r0⟩ := hA.2 0 q0 c0 rfl rfl
        obtain ⟨_, as1, e1, r1⟩ := hA.2 1 q1 c1 rfl rfl
        obtain ⟨_, as2, e2, r2⟩ := hA.2 2 q2 c2 rfl rfl
        walk_at "ev"
        refine ⟨by omega, by omega, for_it walk_range (fun i σ G => (∃ v3 v7 v8 v9 v10 v11 v12 v13 v14 v15, σ = [some (.ref a), some (.int wd), some (.int ht), v3, some (.ref D), some (.ref p5), some (.str (chsD [c0, c1, c2]).shown), v7, v8, v9, v10, v11, v12, v13, v14, v15]) ∧ Same H1 G ∧ G p5 = some (.lst [.ref d0, .ref d1, .ref d2]) ∧ ChP (fun b => H1 b = none ∧ b ≠ p5 ∧ b ∉ [d0, d1, d2]) G [d0, d1, d2] (fun k => (chanF cC k c0 c1 c2).take i))
          ⟨⟨_, _, _, _, _, _, _, _, _, _, rfl⟩, s1, kD, ?_⟩ (fun _ _ _ _ _ => trivial) ?_ ?_⟩
        · intro k d e
          match k, e with
          | 0, e => cases e; exact ⟨[], kk0, .nil⟩
          | 1, e => cases e; exact ⟨[], kk1, .nil⟩
          | 2, e => cases e; exact ⟨[], kk2, .nil⟩
        · rintro i x σ H3 H4 hi ⟨⟨v3, v7, v8, v9, v10, v11, v12, v13, v14, v15, rfl⟩, s4, eD4, hP4⟩ ⟨rfl, ex⟩
          have ex : x = V.int (i : Int) := by
            rw [ex]
            show V.int (0 + (i : Int)) = _
            rw [Int.zero_add]
          subst ex
          obtain ⟨w0', hw0⟩ := get_of (show i < c0.length by rw [o0.1]; exact hi)
          obtain ⟨w1', hw1⟩ := get_of (show i < c1.length by rw [o1.1]; exact hi)
          obtain ⟨w2', hw2⟩ := get_of (show i < c2.length by rw [o2.1]; exact hi)
          obtain ⟨b0', hb0⟩ := get_of (show i < as0.length by rw [r0.1, o0.1]; exact hi)
          obtain ⟨b1', hb1⟩ := get_of (show i < as1.length by rw [r1.1, o1.1]; exact hi)
          obtain ⟨b2', hb2⟩ := get_of (show i < as2.length by rw [r2.1, o2.1]; exact hi)
          have x0 := (r0.2 i b0' w0' hb0 hw0).2
          have x1 := (r1.2 i b1' w1' hb1 hw1).2
          have x2 := (r2.2 i b2' w2' hb2 hw2).2
          have m0 := o0.2 w0' (List.mem_of_getElem? hw0)
          have m1 := o1.2 w1' (List.mem_of_getElem? hw1)
          have m2 := o2.2 w2' (List.mem_of_getElem? hw2)
          walk_at "ev"
          refine ⟨by omega, by omega, fun D2 nD2 => ?_⟩
          refine lc_it walk_range (fun t H5 => Same H4 H5 ∧ ∃ ts : List Addr, H5 D2 = some (.lst (ts.map V.ref)) ∧ ts.length = t ∧ TpL cC H5 ts (zrow (w0', w1', w2'))) ⟨same_upd nD2, [], upd_same, rfl, fun j a q e => nomatch e⟩ (fun _ _ _ _ => trivial) ?_ ?_
          · rintro t y H5 H6 ht' ⟨s5, ts, e5, tl, hT⟩ ⟨rfl, ex⟩
            have ex : y = V.int (t : Int) := by
              rw [ex]
              show V.int (0 + (t : Int)) = _
              rw [Int.zero_add]
            subst ex
            obtain ⟨n0', hn0⟩ := get_of (show t < w0'.length by rw [m0]; exact ht')
            obtain ⟨n1', hn1⟩ := get_of (show t < w1'.length by rw [m1]; exact ht')
            obtain ⟨n2', hn2⟩ := get_of (show t < w2'.length by rw [m2]; exact ht')
            have s6 := s4.trans s5
            have i0 : SqL K H6 D [V.ref q0, .ref q1, .ref q2] := .inl (.inl (s6 _ _ eD))
            have i1 : SqL K H6 q0 (as0.map V.ref) := .inl (.inl (s6 _ _ e0))
            have i2 : SqL K H6 q1 (as1.map V.ref) := .inl (.inl (s6 _ _ e1))
            have i3 : SqL K H6 q2 (as2.map V.ref) := .inl (.inl (s6 _ _ e2))
            have j0 : SqL K H6 b0' (w0'.map V.int) := .inl (.inl (s6 _ _ x0))
            have j1 : SqL K H6 b1' (w1'.map V.int) := .inl (.inl (s6 _ _ x1))
            have j2 : SqL K H6 b2' (w2'.map V.int) := .inl (.inl (s6 _ _ x2))
            walk_at "ev"
            refine ⟨_, _, _, _, rfl, rfl, i1, at_ref hb0, ?_⟩
            walk_at "ev"
            refine ⟨_, _, _, _, rfl, rfl, j0, at_int hn0, ?_⟩
            walk_at "ev"
            refine ⟨_, _, _, _, rfl, rfl, i2, at_ref hb1, ?_⟩
            walk_at "ev"
            refine ⟨_, _, _, _, rfl, rfl, j1, at_int hn1, ?_⟩
            walk_at "ev"
            refine ⟨_, _, _, _, rfl, rfl, i3, at_ref hb2, ?_⟩
            walk_at "ev"
            refine ⟨_, _, _, _, rfl, rfl, j2, at_int hn2, ?_⟩
            walk_at "ev"
            refine ⟨n0', n1', n2', rfl, fun T3 H7 nT3 s7 e7 => ?_⟩
            have nT3D : T3 ≠ D2 := fun z => by rw [z, e5] at nT3; cases nT3
            refine ⟨_, s7 _ _ e5, small1000 (by rw [List.length_map]; omega), fun b o e => ?_, ts ++ [T3], by rw [upd_same, List.map_append]; rfl, by rw [List.length_append, tl]; rfl, hT.app (fun j b q' g1 g2 e => ?_) (x := (n0', n1', n2')) ?_ ?_⟩
            · rw [upd_ne (ne_of_none e nD2)]
              exact s7 _ _ (s5 _ _ e)
            · rw [upd_ne fun z => by rw [z, e5] at e; exact lst_ne (xs := cC q'.1 q'.2.1 q'.2.2) (by simp [cC]) (Option.some.inj e).symm]
              exact s7 _ _ e
            · rw [tl]
              exact zip3_at hn0 hn1 hn2
            · rw [upd_ne nT3D]
              exact e7
          · rintro H5 ⟨s5, ts, e5, tl, hT⟩
            have nD2' : H1 D2 = none := s4.free nD2
            have n2D : D2 ≠ p5 := fun z => by rw [z, eD4] at nD2; cases nD2
            have n2d : D2 ∉ [d0, d1, d2] := fun m => by
              obtain ⟨j, hj⟩ := List.getElem?_of_mem m
              obtain ⟨as, ea, _⟩ := hP4 j D2 hj
              rw [ea] at nD2
              cases nD2
            have hP5 : ChP (fun b => H1 b = none ∧ b ≠ p5 ∧ b ∉ [d0, d1, d2]) H5 [d0, d1, d2] (fun k => (chanF cC k c0 c1 c2).take i) := hP4.up (fun b o n e => ⟨n, s5 _ _ e⟩) (fun d m o e => s5 _ _ e)
            have eD5 := s5 _ _ eD4
            have s5' := s4.trans s5
            clear hP4 eD4 s5
            walk_at "ev"
            refine ⟨by decide, by decide, for_it walk_range (fun t σ G' => (∃ v3 v7 v8 v10 v11 v12 v13 v14 v15, σ = [some (.ref a), some (.int wd), some (.int ht), v3, some (.ref D), some (.ref p5), some (.str (chsD [c0, c1, c2]).shown), v7, v8, some (.ref D2), v10, v11, v12, v13, v14, v15]) ∧ Same H1 G' ∧ G' p5 = some (.lst [.ref d0, .ref d1, .ref d2]) ∧ G' D2 = some (.lst (ts.map V.ref)) ∧ TpL cC G' ts (zrow (w0', w1', w2')) ∧ ChP (fun b => H1 b = none ∧ b ≠ p5 ∧ b ∉ [d0, d1, d2]) G' [d0, d1, d2] (fun k => if k < t then (chanF cC k c0 c1 c2).take (i + 1) else (chanF cC k c0 c1 c2).take i))
              ⟨⟨_, _, _, _, _, _, _, _, _, rfl⟩, s5', eD5, e5, hT, hP5⟩ (fun _ _ _ _ _ => trivial) ?_ ?_⟩
            · rintro t y σ G3 G4 ht' ⟨⟨v3, v7, v8, v10, v11, v12, v13, v14, v15, rfl⟩, sg, gD, gD2, gT, gP⟩ ⟨rfl, ex⟩
              have ex : y = V.int (t : Int) := by
                rw [ex]
                show V.int (0 + (t : Int)) = _
                rw [Int.zero_add]
              subst ex
              obtain ⟨d, hd⟩ : ∃ d, [d0, d1, d2][t]? = some d := get_of ht'
              have eix : atI [V.ref d0, .ref d1, .ref d2] (t : Int) = some (.ref d) := at_ref (as := [d0, d1, d2]) hd
              obtain ⟨asd, ed, rd⟩ := gP t d hd
              have rd : RowsA (fun b => H1 b = none ∧ b ≠ p5 ∧ b ∉ [d0, d1, d2]) G4 asd ((chanF cC t c0 c1 c2).take i) := by
                simp only [Nat.lt_irrefl, if_false] at rd
                exact rd
              have eQ : SqL K G4 p5 [V.ref d0, .ref d1, .ref d2] := .inl (.inl gD)
              walk_at "ev"
              refine ⟨_, _, _, _, rfl, rfl, eQ, eix, ?_⟩
              walk_at "ev"
              refine ⟨.inl ⟨rfl, _, .inl (.inl ed)⟩, ?_⟩
              walk_at "ev"
              refine ⟨⟨_, .inl (.inl gD2)⟩, fun D3 nD3 => ?_⟩
              have nd3 : D3 ≠ d := fun z => by rw [z, ed] at nD3; cases nD3
              have zl : (zrow (w0', w1', w2')).length = ts.length := by
                unfold zrow
                rw [zip3_len (show w0'.length = w1'.length by omega) (show w0'.length = w2'.length by omega), tl, m0]
              refine lc_it (walk_list (xs := ts.map V.ref)) (fun j G5 => Same G4 G5 ∧ G5 D3 = some (.lst (((rowF cC t (zrow (w0', w1', w2'))).take j).map V.int))) ⟨same_upd nD3, upd_same⟩ (fun _ _ _ h => .inl (.inl (h.1 _ _ gD2))) ?_ ?_
              · rintro j y G5 G6 hj ⟨s6, e6⟩ ⟨rfl, hy⟩
                rw [List.getElem?_map] at hy
                obtain ⟨a', ha', rfl⟩ := Option.map_eq_some_iff.mp hy
                have hj' := (List.getElem?_eq_some_iff.mp ha').1
                obtain ⟨zq, hzq⟩ := get_of (show j < (zrow (w0', w1', w2')).length by omega)
                have ea := s6 _ _ (gT j a' zq ha' hzq)
                have eat : atI ((cC zq.1 zq.2.1 zq.2.2).map V.int) (t : Int) = some (.int ((cC zq.1 zq.2.1 zq.2.2).getD t 0)) := at_int (by
                  match t, ht' with
                  | 0, _ => rfl
                  | 1, _ => rfl
                  | 2, _ => rfl)
                have ea' : SqL K G6 a' ((cC zq.1 zq.2.1 zq.2.2).map V.int) := .inl (.inl ea)
                walk_at "ev"
                refine ⟨_, _, _, _, rfl, rfl, ea', eat, ?_⟩
                refine ⟨_, e6, small1000 (by rw [List.length_map, List.length_take]; unfold rowF; rw [List.length_map, zl, tl]; omega), fun b o e => ?_, ?_⟩
                · rw [upd_ne (ne_of_none e nD3)]
                  exact s6 _ _ e
                · rw [upd_same, ← take_snoc (show (rowF cC t (zrow (w0', w1', w2')))[j]? = some ((cC zq.1 zq.2.1 zq.2.2).getD t 0) by unfold rowF; rw [List.getElem?_map, hzq]; rfl), List.map_append]
                  rfl
              · rintro G5 ⟨s6, e6⟩
                have hll : (ts.map V.ref).length = (rowF cC t (zrow (w0', w1', w2'))).length := by unfold rowF; rw [List.length_map, List.length_map, zl]
                rw [hll, List.take_length] at e6
                have hal : asd.length ≤ 900 := by
                  rw [rd.1, List.length_take]
                  have := hi
                  omega
                have ed5 := s6 _ _ ed
                have gP5 : ChP (fun b => H1 b = none ∧ b ≠ p5 ∧ b ∉ [d0, d1, d2]) G5 [d0, d1, d2] (fun k => if k < t then (chanF cC k c0 c1 c2).take (i + 1) else (chanF cC k c0 c1 c2).take i) := gP.up (fun b o n e => ⟨n, s6 _ _ e⟩) (fun d m o e => s6 _ _ e)
                have n3D : D3 ≠ p5 := fun z => by rw [z, gD] at nD3; cases nD3
                have n3m : D3 ∉ [d0, d1, d2] := fun m => by
                  obtain ⟨j, hj⟩ := List.getElem?_of_mem m
                  obtain ⟨as, ea, _⟩ := gP j D3 hj
                  rw [ea] at nD3
                  cases nD3
                have dD : d ≠ p5 := fun z => nDd (by rw [← z]; exact List.mem_of_getElem? hd)
                have push := gP5.push nd hd ed5 (by
                  simp only [Nat.lt_irrefl, if_false]
                  exact rd.up fun b o n e => ⟨n, s6 _ _ e⟩) (fun x n => n.2.2) ⟨sg.free nD3, n3D, n3m⟩ e6
                refine ⟨d, _, _, rfl, rfl, ed5, small1000 (by rw [List.length_map]; omega), ⟨_, _, _, _, _, _, _, _, _, rfl⟩, fun b o e => ?_, ?_, ?_, fun j a' zq e1 e2 => ?_, fun k d' e => ?_⟩
                · rw [upd_ne (ne_of_none e (fds d (List.mem_of_getElem? hd)))]
                  exact s6 _ _ (sg _ _ e)
                · rw [upd_ne (Ne.symm dD)]
                  exact s6 _ _ gD
                · rw [upd_ne fun z => n2d (by rw [z]; exact List.mem_of_getElem? hd)]
                  exact s6 _ _ gD2
                · have := s6 _ _ (gT j a' zq e1 e2)
                  rw [upd_ne fun z => by rw [z, ed5] at this; exact lst_ne (xs := cC zq.1 zq.2.1 zq.2.2) (by simp [cC]) (Option.some.inj this).symm]
                  exact this
                · obtain ⟨as', g1, g2⟩ := push k d' e
                  refine ⟨as', g1, ?_⟩
                  have ef : (if k = t then (if t < t then (chanF cC t c0 c1 c2).take (i + 1) else (chanF cC t c0 c1 c2).take i) ++ [rowF cC t (zrow (w0', w1', w2'))] else if k < t then (chanF cC k c0 c1 c2).take (i + 1) else (chanF cC k c0 c1 c2).take i) = (if k < t + 1 then (chanF cC k c0 c1 c2).take (i + 1) else (chanF cC k c0 c1 c2).take i) := by
                    by_cases g3 : k = t
                    · subst g3
                      rw [if_pos rfl, if_neg (Nat.lt_irrefl _), if_pos (Nat.lt_succ_self _)]
                      exact take_snoc (show (chanF cC k c0 c1 c2)[i]? = some (rowF cC k (zrow (w0', w1', w2'))) by unfold chanF; rw [List.getElem?_map, zip3_at hw0 hw1 hw2]; rfl)
                    · rw [if_neg g3]
                      by_cases g4 : k < t
                      · rw [if_pos g4, if_pos (by omega)]
                      · rw [if_neg g4, if_neg (by omega)]
                  show RowsA _ _ as' (if k < t + 1 then (chanF cC k c0 c1 c2).take (i + 1) else (chanF cC k c0 c1 c2).take i)
                  rw [← ef]
                  exact g2
            · rintro σ G3 ⟨⟨v3, v7, v8, v10, v11, v12, v13, v14, v15, rfl⟩, sg, gD, gD2, gT, gP⟩
              refine ⟨⟨_, _, _, _, _, _, _, _, _, _, rfl⟩, sg, gD, fun k d e => ?_⟩
              have hk : k < 3 := (List.getElem?_eq_some_iff.mp e).1
              have := gP k d e
              simp only [show k < (3 : Int).toNat from hk, if_true] at this
              exact this
        · rintro σ H3 ⟨⟨v3, v7, v8, v9, v10, v11, v12, v13, v14, v15, rfl⟩, s3, eD', hP⟩
          refine ⟨⟨_, _, _, _, _, _, _, _, _, _, rfl⟩, s3, trivial, [d0, d1, d2], eD', rfl, fun k d c e1 e2 => ?_⟩
          obtain ⟨as, ea, ra⟩ := hP k d e1
          have full : (chanF cC k c0 c1 c2).take ht.toNat = chanF cC k c0 c1 c2 := List.take_of_length_le (by
            unfold chanF
            rw [List.length_map, zip3_len (lens_len h3.1) (lens_len h3.2), o0.1]
            exact Nat.le_refl _)
          have ra : RowsA (fun b => H1 b = none ∧ b ≠ p5 ∧ b ∉ [d0, d1, d2]) H3 as ((chanF cC k c0 c1 c2).take ht.toNat) := ra
          rw [full] at ra
          have ec : c = chanF cC k c0 c1 c2 := by
            match k, e2 with
            | 0, e2 => cases e2; rfl
            | 1, e2 => cases e2; rfl
            | 2, e2 => cases e2; rfl
          rw [ec]
          exact ⟨trivial, as, ea, ra.up fun b o n e => ⟨trivial, e⟩⟩
      · obtain ⟨q0, q1, q2, rfl⟩ : ∃ q0 q1 q2, qs = [q0, q1, q2] := by
          match qs, hA.1 with
          | [q0, q1, q2], _ => exact ⟨q0, q1, q2, rfl⟩
        rintro σ G2 ⟨⟨v3, v7, v8, v9, v10, v11, v12, v13, v14, v15, rfl⟩, sG2, hDue⟩
        have hD2 : Chs (fun _ => True) G2 D [c0, c1, c2] := cT sG2
        clear kk0 kk1 kk2 kD n0 n1 n2 nD5 f1' f2' fD' nd nDd fds s1 G1
        walk_at "ev"
        obtain ⟨qs1, hq1, hA1⟩ := col_pre (K := K) hD2
        refine ⟨D, qs1, _, rfl, hq1, hA1, by show 3 ≤ 900; decide, col_sm cok, fun _ p12 G3 n12 s3 hTold => ?_, fun no => absurd okS no⟩
        have hTold : Chs (fun b => G2 b = none) G3 p12 (cbc cC c0 c1 c2) := hTold
        walk_at "ev"
        refine ⟨fun σ G => (∃ v3 v7 v8 v9 v10 v11 v13 v14 v15, σ = [some (.ref a), some (.int wd), some (.int ht), v3, some (.ref D), some (.ref p5), some (.str (chsD [c0, c1, c2]).shown), v7, v8, v9, v10, v11, some (.ref p12), v13, v14, v15]) ∧ Same G2 G ∧ Chs (fun b => G2 b = none) G p12 (cbc cC c0 c1 c2), ?_, ?_⟩
        · have hD3 : Chs (fun _ => True) G3 D [c0, c1, c2] := cT (sG2.trans s3)
          have hDue3 := hDue.up (M := fun _ => True) fun b o n e => ⟨n, s3 _ _ e⟩
          walk_at "ev"
          refine ⟨p12, p5, _, rfl, hTold.up fun b o _ e => ⟨trivial, e⟩, hDue3, fun G4 s4 => ?_⟩
          have hD4 : Chs (fun _ => True) G4 D [c0, c1, c2] := cT ((sG2.trans s3).trans s4)
          have hDue4 := hDue3.up (M := fun _ => True) fun b o n e => ⟨n, s4 _ _ e⟩
          walk_at "ev"
          refine ⟨D, _, rfl, dp_chs hD4, showS.a, showS.b, showS.c, showS.e, ?_⟩
          walk_at "ev"
          obtain ⟨qs2, hq2, hA2⟩ := col_pre (K := K) hDue4
          refine ⟨p5, qs2, _, rfl, hq2, hA2, by show 3 ≤ 900; decide, col_sm cC3, fun _ p6 G5 n6 s5 hB => ?_, fun no => absurd okC no⟩
          have hB : Chs (fun b => G4 b = none) G5 p6 [c0, c1, c2] := by
            rw [← backC]
            exact hB
          walk_at "ev"
          refine ⟨p6, D, _, rfl, hB.up fun b o _ e => ⟨trivial, e⟩, cT (((sG2.trans s3).trans s4).trans s5), fun G6 s6 => ?_⟩
          walk_at "ev"
          exact ⟨⟨_, _, _, _, _, _, _, _, _, rfl⟩, ((s3.trans s4).trans s5).trans s6, hTold.up fun b o n e => ⟨n, ((s4.trans s5).trans s6) _ _ e⟩⟩
        · rintro σ G3 ⟨⟨v3, v7, v8, v9, v10, v11, v13, v14, v15, rfl⟩, s3, hTold⟩
          obtain ⟨z, rest, hz⟩ := first_cell (size_chan cC 0 o0 o1 o2) (by omega) (by omega)
          obtain ⟨us, u0, as, b, t1, t2, t3, t4, t5, t6⟩ := hTold.gets (k := 0) rfl hz
          have j1 : SqL K G3 p12 (us.map V.ref) := .inl (.inl t1)
          have j2 : SqL K G3 u0 (as.map V.ref) := .inl (.inl t3)
          have j3 : SqL K G3 b ((z :: rest).map V.int) := .inl (.inl t6)
          walk_at "ev"
          refine ⟨_, _, _, _, rfl, rfl, j1, at_ref (i := 0) t2, ?_⟩
          walk_at "ev"
          refine ⟨_, _, _, _, rfl, rfl, j2, at_ref (i := 0) t4, ?_⟩
          walk_at "ev"
          refine ⟨_, _, _, _, rfl, rfl, j3, at_int (i := 0) (z := z) rfl, ?_⟩
          walk_at "ev"
          refine ⟨b, _, _, 0, rfl, rfl, t6, ixN_zero, ?_⟩
          have sU : Same G2 (upd G3 b (.lst (((z :: rest).map V.int).set 0 (.int (z + 1))))) := fun x o e => by
            rw [upd_ne (ne_of_none e t5)]
            exact s3 _ _ e
          generalize upd G3 b (.lst (((z :: rest).map V.int).set 0 (.int (z + 1)))) = G4 at sU ⊢
          clear j1 j2 j3 t1 t3 t6 hTold s3
          have sG4 := sG2.trans sU
          have hDue4 := hDue.up (M := fun _ => True) fun b o n e => ⟨n, sU _ _ e⟩
          have eD4 : SqL K G4 D [V.ref q0, .ref q1, .ref q2] := .inl (.inl (sG4 _ _ eD))
          have hA4 : ChA (fun _ => True) G4 [q0, q1, q2] [c0, c1, c2] := hA.up fun b o _ e => ⟨trivial, sG4 _ _ e⟩
          walk_at "ev"
          refine ⟨fun σ G => (∃ v3 v7 v8 v9 v10 v11 v12 v13 v14 v15, σ = [some (.ref a), some (.int wd), some (.int ht), v3, some (.ref D), some (.ref p5), some (.str (chsD [c0, c1, c2]).shown), v7, v8, v9, v10, v11, v12, v13, v14, v15]) ∧ Same H1 G, ?_, ?_⟩
          · walk_at "ev"
            refine ⟨by show 3 ≤ sizeLine; decide, fun T1 nT1 => ?_⟩
            have sT := same_upd (o := .tup [V.ref q0, .ref q1, .ref q2]) nT1
            refine ⟨T1, [q0, q1, q2], _, rfl, .inr (.inl (.inl upd_same)), hA4.up (fun b o n e => ⟨n, sT _ _ e⟩), by show 3 ≤ 900; decide, col_sm cok, fun _ p6 G5 n6 s5 hB => ?_, fun no => absurd okS no⟩
            have hB : Chs _ G5 p6 (cbc cC c0 c1 c2) := hB
            have hDue5 := hDue4.up (M := fun _ => True) fun b o n e => ⟨n, s5 _ _ (sT _ _ e)⟩
            walk_at "ev"
            refine ⟨p6, p5, _, rfl, hB.up fun b o _ e => ⟨trivial, e⟩, hDue5, fun G6 s6 => ?_⟩
            walk_at "ev"
            exact ⟨⟨_, _, _, _, _, _, _, _, _, _, rfl⟩, ((sG4.trans sT).trans s5).trans s6⟩
          · clear hDue4 eD4 hA4 sG4 sU
            rintro σ G4 ⟨⟨v3, v7, v8, v9, v10, v11, v12, v13, v14, v15, rfl⟩, s4⟩
            have hD4 : Chs (fun _ => True) G4 D [c0, c1, c2] := cT s4
            have eD4 : SqL K G4 D [V.ref q0, .ref q1, .ref q2] := .inl (.inl (s4 _ _ eD))
            have hA4 : ChA (fun _ => True) G4 [q0, q1, q2] [c0, c1, c2] := hA.up fun b o _ e => ⟨trivial, s4 _ _ e⟩
            walk_at "ev"
            refine ⟨fun σ G => (∃ v3 v7 v8 v9 v10 v11 v12 v13 p14 v15, σ = [some (.ref a), some (.int wd), some (.int ht), v3, some (.ref D), some (.ref p5), some (.str (chsD [c0, c1, c2]).shown), v7, v8, v9, v10, v11, v12, v13, some (.ref p14), v15] ∧ Chs (fun b => G4 b = none) G p14 [c0, c1, c2]) ∧ Same G4 G, ?_, ?_⟩
            · walk_at "ev"
              refine ⟨⟨_, eD4⟩, fun D4 nD4 => ?_⟩
              refine lc_it (walk_list (xs := [V.ref q0, .ref q1, .ref q2])) (fun i G => Same G4 G ∧ ∃ gs : List Addr, G D4 = some (.lst (gs.map V.ref)) ∧ ChA (fun b => b ≠ D4 ∧ G4 b = none) G gs ([c0, c1, c2].take i)) ⟨same_upd nD4, [], upd_same, .nil⟩ (fun _ _ _ h => .inl (.inl (h.1 _ _ (s4 _ _ eD)))) ?_ ?_
              · rintro i x G G5 hi ⟨s5, gs, eg, hg⟩ ⟨rfl, hx⟩
                obtain ⟨c, hc⟩ : ∃ c, [c0, c1, c2][i]? = some c := get_of hi
                obtain ⟨q', hq'⟩ : ∃ q', [q0, q1, q2][i]? = some q' := get_of hi
                have ex : x = V.ref q' := by
                  have : ([q0, q1, q2].map V.ref)[i]? = some x := hx
                  rw [List.getElem?_map, hq'] at this
                  exact (Option.some.inj this).symm
                subst ex
                obtain ⟨_, as, ea, hR⟩ := hA4.2 i q' c hq' hc
                have ea5 := s5 _ _ ea
                have gl : gs.length ≤ 3 := by rw [hg.1, List.length_take]; exact Nat.min_le_right _ _
                have cl := (cok c (List.mem_of_getElem? hc)).len
                walk_at "ev"
                refine ⟨⟨_, .inl (.inl ea5)⟩, fun D5 nD5 => ?_⟩
                have n54 : D5 ≠ D4 := fun z => by rw [z, eg] at nD5; cases nD5
                refine lc_it (walk_list (xs := as.map V.ref)) (fun t G6 => Same G5 G6 ∧ ∃ bs : List Addr, G6 D5 = some (.lst (bs.map V.ref)) ∧ RowsA (fun b => b ≠ D5 ∧ b ≠ D4 ∧ G4 b = none) G6 bs (c.take t)) ⟨same_upd nD5, [], upd_same, .nil⟩ (fun _ _ _ h => .inl (.inl (h.1 _ _ ea5))) ?_ ?_
                · rintro t y G6 G7 ht' ⟨s6, bs, eb, hb⟩ ⟨rfl, hy⟩
                  rw [List.getElem?_map] at hy
                  obtain ⟨b', hb', rfl⟩ := Option.map_eq_some_iff.mp hy
                  obtain ⟨r, hr'⟩ : ∃ r, c[t]? = some r := get_of (by rw [← hR.1]; exact (List.getElem?_eq_some_iff.mp hb').1)
                  have er := s6 _ _ (s5 _ _ (hR.2 t b' r hb' hr').2)
                  have bl : bs.length ≤ 4 := by rw [hb.1, List.length_take]; exact Nat.le_trans (Nat.min_le_right _ _) cl
                  walk_at "ev"
                  refine fun l nl => ?_
                  have nl5 : l ≠ D5 := fun z => by rw [z, eb] at nl; cases nl
                  have nl4 : l ≠ D4 := fun z => by rw [z, s6 _ _ eg] at nl; cases nl
                  refine ⟨_, new_at eb nl, small1000 (by rw [List.length_map]; omega), fun b o e => ?_, bs ++ [l], by rw [upd_same, List.map_append]; rfl, ?_⟩
                  · rw [upd_ne (ne_of_none e nD5)]
                    exact new_at (s6 _ _ e) nl
                  · rw [← take_snoc hr']
                    refine (hb.up fun b o n e => ⟨n, ?_⟩).app ⟨nl5, nl4, s5.free (s6.free nl)⟩ ?_
                    · rw [upd_ne n.1]
                      exact new_at e nl
                    · rw [upd_ne nl5, upd_same]
                · rintro G6 ⟨s6, bs, eb, hb⟩
                  rw [List.length_map, hR.1, List.take_length] at hb
                  refine ⟨_, s6 _ _ eg, small1000 (by rw [List.length_map]; omega), fun b o e => ?_, gs ++ [D5], by rw [upd_same, List.map_append]; rfl, ?_⟩
                  · rw [upd_ne (ne_of_none e nD4)]
                    exact s6 _ _ (s5 _ _ e)
                  · rw [← take_snoc hc]
                    refine (hg.up fun b o n e => ⟨n, ?_⟩).app ⟨⟨n54, s5.free nD5⟩, bs, ?_, hb.up fun b o n e => ⟨⟨n.2.1, n.2.2⟩, ?_⟩⟩
                    · rw [upd_ne n.1]
                      exact s6 _ _ e
                    · rw [upd_ne n54]
                      exact eb
                    · rw [upd_ne n.2.1]
                      exact e
              · rintro G ⟨s5, gs, eg, hg⟩
                exact ⟨⟨_, _, _, _, _, _, _, _, D4, _, rfl, nD4, gs, eg, hg.up fun b o n e => ⟨n.2, e⟩⟩, s5⟩
            · rintro σ G5 ⟨⟨v3, v7, v8, v9, v10, v11, v12, v13, p14, v15, rfl, hGv⟩, s5⟩
              clear hD4 eD4 hA4
              have sG5 := s4.trans s5
              have hGT : Chs (fun _ => True) G5 p14 [c0, c1, c2] := hGv.up fun b o n e => ⟨trivial, e⟩
              refine ⟨fun σ G => (∃ v3 v7 v8 v9 v10 v11 p12 v13 p15, σ = [some (.ref a), some (.int wd), some (.int ht), v3, some (.ref D), some (.ref p5), some (.str (chsD [c0, c1, c2]).shown), v7, v8, v9, v10, v11, some (.ref p12), v13, some (.ref p14), some (.ref p15)] ∧ Chs (fun b => G5 b = none) G p12 (cbc cC c0 c1 c2) ∧ Chs (fun b => G5 b = none) G p15 (cbc uC c0 c1 c2)) ∧ Same G5 G, ?_, ?_⟩
              · walk_at "ev"
                obtain ⟨qs1, hq1, hA1⟩ := col_pre (K := K) hGT
                refine ⟨p14, qs1, _, rfl, hq1, hA1, by show 3 ≤ 900; decide, col_sm cok, fun _ p12 G6 n12 s6 hTo => ?_, fun no => absurd okS no⟩
                have hTo : Chs (fun b => G5 b = none) G6 p12 (cbc cC c0 c1 c2) := hTo
                have hGT6 : Chs (fun _ => True) G6 p14 [c0, c1, c2] := hGv.up fun b o n e => ⟨trivial, s6 _ _ e⟩
                walk_at "ev"
                obtain ⟨qs2, hq2, hA2⟩ := col_pre (K := K) hGT6
                refine ⟨p14, qs2, _, rfl, hq2, hA2, by show 3 ≤ 900; decide, col_sm cok, fun _ p15 G7 n15 s7 hBa => ?_, fun no => absurd okS no⟩
                have hBa : Chs (fun b => G6 b = none) G7 p15 (cbc uC c0 c1 c2) := hBa
                walk_at "ev"
                exact ⟨⟨_, _, _, _, _, _, _, _, _, rfl, hTo.up fun b o n e => ⟨n, s7 _ _ e⟩, hBa.up fun b o n e => ⟨s6.free n, e⟩⟩, s6.trans s7⟩
              rintro σ G7 ⟨⟨v3, v7, v8, v9, v10, v11, p12, v13, p15, rfl, hTo7, hBa7⟩, s67⟩
              have hGv7 : Chs (fun b => G4 b = none ∧ G5 b ≠ none) G7 p14 [c0, c1, c2] := hGv.up fun b o n e => ⟨⟨n, by rw [e]; exact nofun⟩, s67 _ _ e⟩
              clear hGT hGv
              refine ⟨fun σ G => (∃ v3 v7 v8 v9 v10 v11 v13, σ = [some (.ref a), some (.int wd), some (.int ht), v3, some (.ref D), some (.ref p5), some (.str (pairD (cbc cC c0 c1 c2) (cbc uC c0 c1 c2)).shown), v7, v8, v9, v10, v11, some (.ref p12), v13, some (.ref p14), some (.ref p15)]) ∧ Same G7 G, ?_, ?_⟩
              · walk_at "ev"
                refine ⟨by show 2 ≤ sizeLine; decide, fun L1 nL1 => ?_⟩
                have sL := same_upd (o := .lst [V.ref p12, .ref p15]) nL1
                have hToL := hTo7.up (M := fun b => G5 b = none) fun b o n e => ⟨n, sL _ _ e⟩
                have hBaL := hBa7.up (M := fun b => G5 b = none) fun b o n e => ⟨n, sL _ _ e⟩
                have eL : upd G7 L1 (.lst [V.ref p12, .ref p15]) L1 = some (.lst [V.ref p12, .ref p15]) := upd_same
                generalize upd G7 L1 (.lst [V.ref p12, .ref p15]) = G8 at sL hToL hBaL eL ⊢
                walk_at "ev"
                refine ⟨L1, _, rfl, dp_pairs eL hToL hBaL, showP.a, showP.b, showP.c, showP.e, ?_⟩
                walk_at "ev"
                exact ⟨⟨_, _, _, _, _, _, _, rfl⟩, sL⟩
              rintro σ G8 ⟨⟨v3, v7, v8, v9, v10, v11, v13, rfl⟩, s8⟩
              have hToL := hTo7.up (M := fun b => G5 b = none) fun b o n e => ⟨n, s8 _ _ e⟩
              have hBaL := hBa7.up (M := fun b => G5 b = none) fun b o n e => ⟨n, s8 _ _ e⟩
              have hGvL := hGv7.up (M := fun b => G4 b = none ∧ G5 b ≠ none) fun b o n e => ⟨n, s8 _ _ e⟩
              have sG8 := s67.trans s8
              clear hTo7 hBa7 hGv7 s67 s8
              obtain ⟨z, rest, hz⟩ := first_cell o0 (by omega) (by omega)
              obtain ⟨us, u0, as, b, t1, t2, t3, t4, ⟨t5, t5'⟩, t6⟩ := hGvL.gets (k := 0) rfl hz
              have j1 : SqL K G8 p14 (us.map V.ref) := .inl (.inl t1)
              have j2 : SqL K G8 u0 (as.map V.ref) := .inl (.inl t3)
              have j3 : SqL K G8 b ((z :: rest).map V.int) := .inl (.inl t6)
              walk_at "ev"
              refine ⟨_, _, _, _, rfl, rfl, j1, at_ref (i := 0) t2, ?_⟩
              walk_at "ev"
              refine ⟨_, _, _, _, rfl, rfl, j2, at_ref (i := 0) t4, ?_⟩
              walk_at "ev"
              refine ⟨_, _, _, _, rfl, rfl, j3, at_int (i := 0) (z := z) rfl, ?_⟩
              walk_at "ev"
              refine ⟨b, _, _, 0, rfl, rfl, t6, ixN_zero, ?_⟩
              have sU : Same G4 (upd G8 b (.lst (((z :: rest).map V.int).set 0 (.int (z + 1))))) := fun x o e => by
                rw [upd_ne (ne_of_none e t5)]
                exact sG8 _ _ (s5 _ _ e)
              have hToU : Chs (fun b => G5 b = none) (upd G8 b (.lst (((z :: rest).map V.int).set 0 (.int (z + 1))))) p12 (cbc cC c0 c1 c2) := hToL.past fun x n => ⟨fun e => t5' (by rw [← e]; exact n), n⟩
              have hBaU : Chs (fun b => G5 b = none) (upd G8 b (.lst (((z :: rest).map V.int).set 0 (.int (z + 1))))) p15 (cbc uC c0 c1 c2) := hBaL.past fun x n => ⟨fun e => t5' (by rw [← e]; exact n), n⟩
              generalize upd G8 b (.lst (((z :: rest).map V.int).set 0 (.int (z + 1)))) = G9 at sU hToU hBaU ⊢
              clear j1 j2 j3 t1 t3 t6 hToL hBaL hGvL sG8
              have hD9 : Chs (fun _ => True) G9 D [c0, c1, c2] := cT (s4.trans sU)
              walk_at "ev"
              refine ⟨fun σ G => (∃ v3 v6 v7 v8 v9 v10 v11 v12 v13 v14, σ = [some (.ref a), some (.int wd), some (.int ht), v3, some (.ref D), some (.ref p5), v6, v7, v8, v9, v10, v11, v12, v13, v14, some (.ref p15)]) ∧ Same G4 G ∧ Chs (fun b => G5 b = none) G p15 (cbc uC c0 c1 c2), ?_, ?_⟩
              · walk_at "ev"
                refine ⟨by show 2 ≤ sizeLine; decide, fun L2 nL2 => ?_⟩
                have sL := same_upd (o := .lst [V.ref p12, .ref p15]) nL2
                have hToM := hToU.up (M := fun b => G5 b = none) fun b o n e => ⟨n, sL _ _ e⟩
                have hBaM := hBaU.up (M := fun b => G5 b = none) fun b o n e => ⟨n, sL _ _ e⟩
                have eL : upd G9 L2 (.lst [V.ref p12, .ref p15]) L2 = some (.lst [V.ref p12, .ref p15]) := upd_same
                generalize upd G9 L2 (.lst [V.ref p12, .ref p15]) = G10 at sL hToM hBaM eL ⊢
                walk_at "ev"
                refine ⟨L2, _, rfl, dp_pairs eL hToM hBaM, showP.a, showP.b, showP.c, showP.e, ?_⟩
                walk_at "ev"
                obtain ⟨qs3, hq3, hA3⟩ := col_pre (K := K) hBaM
                refine ⟨p15, qs3, _, rfl, hq3, hA3, by show 3 ≤ 900; decide, col_sm uC3, fun _ p16 G11 n16 s11 hC => ?_, fun no => absurd okU no⟩
                have hC : Chs (fun b => G10 b = none) G11 p16 [c0, c1, c2] := by
                  rw [← backU]
                  exact hC
                have hD11 : Chs (fun _ => True) G11 D [c0, c1, c2] := cT (((s4.trans sU).trans sL).trans s11)
                walk_at "ev"
                refine ⟨p16, D, _, rfl, hC.up fun b o _ e => ⟨trivial, e⟩, hD11, fun G12 s12 => ?_⟩
                walk_at "ev"
                exact ⟨⟨_, _, _, _, _, _, _, _, _, _, rfl⟩, ((sU.trans sL).trans s11).trans s12, hBaM.up fun b o n e => ⟨n, s12 _ _ (s11 _ _ e)⟩⟩
              · clear hToU hBaU hD9 sU t5 t5' t2 t4
                rintro σ G9 ⟨⟨v3, v6, v7, v8, v9, v10, v11, v12, v13, v14, rfl⟩, s9, hBa⟩
                obtain ⟨z2, rest2, hz2⟩ := first_cell (size_chan uC 2 o0 o1 o2) (by omega) (by omega)
                obtain ⟨us, u0, as, b, t1, t2, t3, t4, t5, t6⟩ := hBa.gets (k := 2) rfl hz2
                have j1 : SqL K G9 p15 (us.map V.ref) := .inl (.inl t1)
                have j2 : SqL K G9 u0 (as.map V.ref) := .inl (.inl t3)
                have j3 : SqL K G9 b ((z2 :: rest2).map V.int) := .inl (.inl t6)
                walk_at "ev"
                refine ⟨_, _, _, _, rfl, rfl, j1, at_ref (i := 2) t2, ?_⟩
                walk_at "ev"
                refine ⟨_, _, _, _, rfl, rfl, j2, at_ref (i := 0) t4, ?_⟩
                walk_at "ev"
                refine ⟨_, _, _, _, rfl, rfl, j3, at_int (i := 0) (z := z2) rfl, ?_⟩
                walk_at "ev"
                refine ⟨b, _, _, 0, rfl, rfl, t6, ixN_zero, ?_⟩
                have sU : Same G4 (upd G9 b (.lst (((z2 :: rest2).map V.int).set 0 (.int (z2 + 1))))) := fun x o e => by
                  rw [upd_ne (ne_of_none e (s5.free t5))]
                  exact s9 _ _ e
                generalize upd G9 b (.lst (((z2 :: rest2).map V.int).set 0 (.int (z2 + 1)))) = G10 at sU ⊢
                have hD10 : Chs (fun _ => True) G10 D [c0, c1, c2] := cT (s4.trans sU)
                walk_at "ev"
                obtain ⟨qs1, hq1, hA1⟩ := col_pre (K := K) hD10
                refine ⟨D, qs1, _, rfl, hq1, hA1, by show 3 ≤ 900; decide, col_sm cok, fun _ p16 G11 n16 s11 hU => ?_, fun no => absurd okS no⟩
                have hU : Chs (fun b => G10 b = none) G11 p16 (cbc uC c0 c1 c2) := hU
                walk_at "ev"
                obtain ⟨qs2, hq2, hA2⟩ := col_pre (K := K) hU
                refine ⟨p16, qs2, _, rfl, hq2, hA2, by show 3 ≤ 900; decide, col_sm uC3, fun _ p17 G12 n17 s12 hC => ?_, fun no => absurd okU no⟩
                have hC : Chs (fun b => G11 b = none) G12 p17 [c0, c1, c2] := by
                  rw [← backU]
                  exact hC
                have sZ := ((s4.trans sU).trans s11).trans s12
                walk_at "ev"
                refine ⟨p17, D, _, rfl, hC.up fun b o _ e => ⟨trivial, e⟩, cT sZ, fun G13 s13 => ?_⟩
                exact fin _ (sZ.trans s13)
/-! ### what a call is refused by -/
theorem boot_ValueError : bootBuiltins "ValueError" = some (.type "ValueError") := by decide +kernel
/-- isinstance of the exception that a suite holds, its class told in the reading -/
theorem call_isE2 {X : Cx} {a : Addr} {oe : Obj} {cls : Value} {d : Option Addr} {pn : List (Addr × Obj)} (hz : Zc cls d oe) (hf : ∃ vs, oe.data = .fields vs) :
    CallR (X.suite a ((a, oe) :: pn)) (.builtin "isinstance") (fun xs H Q => ∃ D : Addr, ExcC X.K D ∧ cls = .ref D ∧ d = none ∧ rIsE X.K D a xs H Q) := by
  intro pins s σ H xs us Q I r h
  obtain ⟨D, C, e1, e2, h⟩ := h
  subst e1 e2
  exact call_isE C hz hf pins s σ H xs us Q I r h
/-- the class D is the i-th of two -/
structure GO (K : PySem.W.Frag) (BG O BF N D : Addr) (i : Nat) : Prop where
  lt : i < 2
  ex : ExcC K D
  xb : PySem.W.exmOne K (.ref D) (.ref BF) = some false
  em : PySem.W.exmOne K (.ref D) (.ref N) = some true
  g : PySem.W.kitOne K (.ref D) (.ref BG) = some (i == 0)
  o : PySem.W.kitOne K (.ref D) (.ref O) = some (i == 1)
  v : PySem.W.kitOne K (.ref D) (.type "ValueError") = some true
def goS (i : Nat) : Str := if i = 0 then "grid" else "outside"
def refTT (K : PySem.W.Frag) (BG O BF N : Addr) : (XK → Hp → VK → Prop) → Hp → VK → Prop := fun tl H Q =>
  tl (fun cls d H' => (d = none ∧ ∃ (D : Addr) (i : Nat), GO K BG O BF N D i ∧ cls = .ref D ∧ ∀ G, Same H' G → Q (.str (goS i)) G) ∨ (cls = .ref BF ∧ ∃ (dd : Addr) (n : Str), d = some dd ∧ H' dd = some (.xd [("name", .str n)]) ∧ n.length ≤ 100 ∧ ∀ G, Same H' G → Q (.str ("field " ++ n)) G)) H (fun _ H1 => Q (.str "") H1)
structure RefD (P : Program) (w : World) (K : PySem.W.Frag) (mg : Str → Option Value) (base : Heap) (g BG O BF N : Addr) : Prop where
  gG : mg "BadGrid" = some (.ref BG)
  gO : mg "Outside" = some (.ref O)
  gN : mg "NarrowError" = some (.ref N)
  zV : mg "ValueError" = none
  xF : XDef P w K mg base "BadField" "name" BF
  k1 : PySem.W.kitOne K (.ref BF) (.ref BG) = some false
  k2 : PySem.W.kitOne K (.ref BF) (.ref O) = some false
  hm : mg "_law_refused" = some (.ref g)
  hk : PySem.W.keepIn K (.ref g) = true
  df : ∃ (oc kV doc pm cdv ct : Value) (an od : Option Addr) (osl : Array (Option Value)), K.lookup g = some ⟨oc, od, .func (PySem.W.fnOf "_law_refused" "_law_refused" (defArgs s_law_refused) (defBody s_law_refused) (defScope s_law_refused) .none kV doc pm an cdv ct), osl⟩ ∧
    PySem.W.codeIn K cdv "_law_refused" = true ∧ L2.Binds K (PySem.W.fnOf "_law_refused" "_law_refused" (defArgs s_law_refused) (defBody s_law_refused) (defScope s_law_refused) .none kV doc pm an cdv ct) ["_law_call"] []
theorem rep0' : (repS " " 0 : Str) = "" := by decide +kernel
theorem app_nil' (x : Str) : x ++ repS " " 0 = x := by
  show (⟨x.cps ++ _⟩ : Str) = x
  have : (repS " " 0).cps = #[] := by decide +kernel
  rw [this, Array.append_empty]
theorem app_len (x y : Str) : (x ++ y).length = x.length + y.length := by
  show (⟨x.cps ++ y.cps⟩ : Str).cps.size = x.cps.size + y.cps.size
  exact Array.size_append
theorem three' {σ : L2.St} (h : σ.length = 3) : ∃ a b c, σ = [a, b, c] := by
  match σ, h with
  | [a, b, c], _ => exact ⟨a, b, c, rfl⟩
theorem ref_gives {X : Cx} {g BG O BF N : Addr} {cdg : Value} {q : Str} (T : Txt X.mg) (e : RefD X.prog X.w X.K X.mg X.base g BG O BF N) (hu : X.A.units + 64 < cLine) : LamX.GivesTo X ["_law_call", "e", "_law_kinds"] "_law_refused" (defScope s_law_refused) g cdg (defBody s_law_refused) "_law_call" q (refTT X.K BG O BF N) := by
  obtain ⟨P, w, K, mg, base, A0, N0, s00, H00, env0, out0, stk0, ex0, fn0, calm0, pn0, xe0⟩ := X
  intro f c' s H Q tl act hc h
  dsimp only at *
  have x1 := e.xF
  refine ⟨_, pss_cons (ps_tryN (X := (cxOf C8.CX0 P w K mg base ["_law_call", "e", "_law_kinds"] "_law_refused" (defScope s_law_refused) g cdg A0 stk0 s H C8.E0).nox) rfl rfl
      (fun W pn xe tk _ => pss_ex (n := 3) fun E hW => pss_one (ps_expr (act _ pn xe E _ _ (takes_len tk) hW)))
      (hnd_nam (i := 1) rfl sc_law_refused.nd rfl rfl ⟨rfl, by decide, .inl x1.gC⟩ (fun a oe cls d pn hz hf => pss_one (ps_ret (pe_op op_add_str (pe_op op_add_str pe_str (pe_xf x1.xf x1.no hz hf (pv 1)))
          (pe_op op_mulS pe_str (pe_callTy call_int1 (by rfl) T.z_int PyProof.Rows.boot_int (pa_cons (pe_or (pe_callB (call_isEd x1.isx hz hf) (by rfl) T.z_isinstance PyProof.Rows.boot_isinstance (pa_cons (pv 1) (pa_cons (pe_glob (v := .ref BG) (by rfl) e.gG rfl) pa_nil)))
            (pe_one (pe_callB (call_isEd x1.isx hz hf) (by rfl) T.z_isinstance PyProof.Rows.boot_isinstance (pa_cons (pv 1) (pa_cons (pe_glob (v := .ref O) (by rfl) e.gO rfl) pa_nil))))) pa_nil))))))
        (hnd_nam (i := 1) rfl sc_law_refused.nd rfl rfl ⟨rfl, by decide, .inl e.gN⟩ (fun a oe cls d pn hz hf => (pss_cons (ps_set (i := 2) sc_law_refused.nd rfl (Or.inl rfl) (pe_lst (pa_cons (pe_callB (call_isE2 hz hf) (by rfl) T.z_isinstance PyProof.Rows.boot_isinstance (pa_cons (pv 1) (pa_cons (pe_glob (v := .ref BG) (by rfl) e.gG rfl) pa_nil))) (pa_cons (pe_callB (call_isE2 hz hf) (by rfl) T.z_isinstance PyProof.Rows.boot_isinstance (pa_cons (pv 1) (pa_cons (pe_glob (v := .ref O) (by rfl) e.gO rfl) pa_nil))) (pa_cons (pe_callB (call_isE2 hz hf) (by rfl) T.z_isinstance PyProof.Rows.boot_isinstance (pa_cons (pv 1) (pa_cons (pe_bltn (v := .ty "ValueError") (by rfl) e.zV boot_ValueError rfl) pa_nil))) pa_nil)))))
    (pss_one (ps_ret (pe_bget (show A0.units + 3 + 1 < cLine by omega) (pps_cons (pe_tup (pa_cons pe_bl (pa_cons pe_bl (pa_cons pe_bl pa_nil)))) pe_str (pps_cons (pe_tup (pa_cons pe_bl (pa_cons pe_bl (pa_cons pe_bl pa_nil)))) pe_str pps_nil)) (pe_tup (pa_cons (pe_ix (ix_list : IxR _ (rIxL K)) (pv 2) pe_int (fun _ _ => rfl)) (pa_cons (pe_ix (ix_list : IxR _ (rIxL K)) (pv 2) pe_int (fun _ _ => rfl)) (pa_cons (pe_ix (ix_list : IxR _ (rIxL K)) (pv 2) pe_int (fun _ _ => rfl)) pa_nil)))) pe_str ⟨rfl, rfl, rfl, rfl⟩))))) (hnd_nil rfl rfl takes0))))
    (pss_one (ps_ret pe_str)), ?_⟩
  refine ⟨fun cls d H' => (d = none ∧ ∃ (D : Addr) (i : Nat), GO K BG O BF N D i ∧ cls = .ref D ∧ ∀ G, Same H' G → Q (.str (goS i)) G) ∨ (cls = .ref BF ∧ ∃ (dd : Addr) (n : Str), d = some dd ∧ H' dd = some (.xd [("name", .str n)]) ∧ n.length ≤ 100 ∧ ∀ G, Same H' G → Q (.str ("field " ++ n)) G), ?_, ?_⟩
  · rintro cls d σ' H' hh hlen
    obtain ⟨v0, v1, v2, rfl⟩ := three' hlen
    rcases hh with ⟨rfl, D, i, I3, rfl, k⟩ | ⟨rfl, dd, n, rfl, ed, ln, k⟩
    · refine ⟨false, I3.xb, (fun z => nomatch z), fun _ => ⟨true, I3.em, fun _ a0 _ => ?_, fun z => nomatch z⟩⟩
      walk_at "ev"
      refine ⟨D, I3.ex, rfl, rfl, _, .ref BG, _, rfl, fun _ z => z, I3.g, ?_⟩
      walk_at "ev"
      refine ⟨D, I3.ex, rfl, rfl, _, .ref O, _, rfl, fun _ z => z, I3.o, ?_⟩
      walk_at "ev"
      refine ⟨D, I3.ex, rfl, rfl, _, .type "ValueError", _, rfl, fun _ z => z, I3.v, ?_⟩
      refine ⟨(by show 3 ≤ sizeLine; decide), fun p np => ?_⟩
      show tBGet _ _ _ [v0, some (.ref a0), some (.ref p)] _ _
      unfold tBGet
      show tTup (tCons (tC (V.bl true)) (tCons (tC (V.bl false)) (tCons (tC (V.bl true)) tNil))) _ _ _
      refine ⟨(by show 3 ≤ sizeLine; decide), fun t1 n1 => ?_⟩
      show tPairs _ [v0, some (.ref a0), some (.ref p)] _ _
      unfold tPairs
      show tTup (tCons (tC (V.bl false)) (tCons (tC (V.bl true)) (tCons (tC (V.bl true)) tNil))) [v0, some (.ref a0), some (.ref p)] _ _
      refine ⟨(by show 3 ≤ sizeLine; decide), fun t2 n2 => ?_⟩
      refine ⟨[([true, false, true], t1, .str "grid"), ([false, true, true], t2, .str "outside")], rfl, (by show 2 ≤ 15; decide), (show [[true, false, true], [false, true, true]].Nodup by decide), ?_, ?_⟩
      · intro e' me
        simp only [List.mem_cons, List.not_mem_nil, or_false] at me
        rcases me with rfl | rfl
        · exact new_at upd_same n2
        · exact upd_same
      · have ep := new_at (o' := .tup [.bl false, .bl true, .bl true]) (new_at (o' := .tup [.bl true, .bl false, .bl true]) (upd_same (H := H') (a := p) (o := .lst [.bl (i == 0), .bl (i == 1), .bl true])) n1) n2
        have sK : Same H' (upd (upd (upd H' p (.lst [.bl (i == 0), .bl (i == 1), .bl true])) t1 (.tup [.bl true, .bl false, .bl true])) t2 (.tup [.bl false, .bl true, .bl true])) := ((same_upd np).trans (same_upd n1)).trans (same_upd n2)
        have e1 := new_at (o' := .tup [.bl false, .bl true, .bl true]) (upd_same (H := upd H' p (.lst [.bl (i == 0), .bl (i == 1), .bl true])) (a := t1) (o := .tup [.bl true, .bl false, .bl true])) n2
        have e2 := upd_same (H := upd (upd H' p (.lst [.bl (i == 0), .bl (i == 1), .bl true])) t1 (.tup [.bl true, .bl false, .bl true])) (a := t2) (o := .tup [.bl false, .bl true, .bl true])
        generalize upd (upd (upd H' p (.lst [.bl (i == 0), .bl (i == 1), .bl true])) t1 (.tup [.bl true, .bl false, .bl true])) t2 (.tup [.bl false, .bl true, .bl true]) = G1 at ep sK e1 e2 ⊢
        walk_at "ev"
        refine ⟨(by show 3 ≤ sizeLine; decide), fun b nb => ?_⟩
        refine ⟨b, [i == 0, i == 1, true], rfl, upd_same, fun e' me => ?_, ?_⟩
        · simp only [List.mem_cons, List.not_mem_nil, or_false] at me
          rcases me with rfl | rfl
          · exact new_at e1 nb
          · exact new_at e2 nb
        · have kk := k _ (sK.trans (same_upd (o := .tup [.bl (i == 0), .bl (i == 1), .bl true]) nb))
          have lt := I3.lt
          match i, lt, kk with
          | 0, _, kk => exact kk
          | 1, _, kk => exact kk
    · refine ⟨true, x1.em, fun _ a0 _ => ?_, fun z => nomatch z⟩
      walk_at "ev"
      refine ⟨dd, _, _, rfl, ed, rfl, ?_⟩
      refine ⟨_, _, rfl, rfl, Nat.le_of_lt (small1000 (by show 6 + n.length ≤ 1000; omega)), ?_⟩
      walk_at "ev"
      refine ⟨⟨dd, _, rfl, ed⟩, _, .ref BG, false, rfl, fun _ z => z, e.k1, ?_⟩
      walk_at "ev"
      refine ⟨⟨dd, _, rfl, ed⟩, _, .ref O, false, rfl, fun _ z => z, e.k2, ?_⟩
      walk_at "ev"
      refine ⟨by decide +kernel, by decide, by decide, ?_⟩
      refine ⟨_, _, rfl, rfl, Nat.le_of_lt (small1000 (by rw [show (repS " " (if false = true then 1 else 0)).length = 0 from by decide +kernel, app_len, show ("field " : Str).length = 6 from by decide +kernel]; omega)), ?_⟩
      rw [show repS " " (if false = true then 1 else 0) = repS " " 0 from rfl, app_nil']
      exact k _ fun _ _ e => e
  · walk_at "ev"
    exact ⟨hc, h⟩
/-! ### what is refused -/
def lamOf (x : Str) : Str := x ++ (".<locals>." : Str) ++ ("<lambda>" : Str)
def tabsG (PG : Addr) : List (Addr × Str) := [(PG, lamOf ("_law_refusals_right" : Str))]
theorem tabsG_fn {PG P : Addr} {x : Str} (m : (P, x) ∈ tabsG PG) : ∀ p ∈ tabsG PG, p.1 = P → p.2 = x := fun p hp _ => by
  have e1 := List.mem_singleton.mp m
  have e2 := List.mem_singleton.mp hp
  rw [e2, ← e1]
theorem Rows.extN {N : Addr → Prop} {H H' : Hp} {p : Addr} {rows : List (List Int)} (h : Rows N H p rows) (s : LamX.ExtN H H') : Rows N H' p rows := by
  obtain ⟨n, as, e3, l, r⟩ := h
  refine ⟨n, as, s _ _ e3 (fun _ z => nomatch z), l, fun i b r' h1 h2 => ?_⟩
  obtain ⟨m, e⟩ := r i b r' h1 h2
  exact ⟨m, s _ _ e (fun _ z => nomatch z)⟩
def refE (K : PySem.W.Frag) (BG O BF N : Addr) (Q : VK) : XK := fun cls d H' => (d = none ∧ ∃ (D : Addr) (i : Nat), GO K BG O BF N D i ∧ cls = .ref D ∧ ∀ G, Same H' G → Q (.str (goS i)) G) ∨ (cls = .ref BF ∧ ∃ (dd : Addr) (n : Str), d = some dd ∧ H' dd = some (.xd [("name", .str n)]) ∧ n.length ≤ 100 ∧ ∀ G, Same H' G → Q (.str ("field " ++ n)) G)
theorem ref_in {BG O BF N : Addr} {tl : XK → Hp → VK → Prop} {H : Hp} {Q : VK} {wd : Str} (h : ∀ Q : VK, (∀ H', Same H H' → Q (.str wd) H') → tl (refE K BG O BF N Q) H (fun _ H1 => Q (.str "") H1)) (q : ∀ H', Same H H' → Q (.str wd) H') : refTT K BG O BF N tl H Q := h Q q
theorem E_grid {BG O BF N : Addr} {H H1 : Hp} {Q : VK} (g : GO K BG O BF N BG 0) (s : Same H H1) (q : ∀ H', Same H H' → Q (.str "grid") H') : refE K BG O BF N Q (.ref BG) none H1 := .inl ⟨rfl, BG, 0, g, rfl, fun G s' => q G (s.trans s')⟩
theorem lay {H : Hp} {t : Addr} {o : HO} (n : H t = none) : ∃ J, upd H t o = J ∧ Same H J ∧ J t = some o := ⟨_, rfl, same_upd n, upd_same⟩
/-- _law_refused(lambda: body) -/
theorem pe_refd {X : Cx} {TT0 : List (Addr × Str)} {g BG O BF N c P : Addr} {k : Nat} {params : Arguments} {body : Expr} {scope : Scope} {t : XK → TE} {p lpos pos : Pos} (T : Txt X.mg) (D : RefD X.prog X.w X.K X.mg X.base g BG O BF N) (hu : X.A.units + 64 < cLine) (hg : Gl X "_law_refused")
    (TB : LamX.TabB X.base X.mg c P) (hcode : X.env.code = .ref c) (hmT : (P, X.env.qual ++ "<lambda>") ∈ TT0) (hf : ∀ p ∈ TT0, p.1 = P → p.2 = X.env.qual ++ "<lambda>") (hr : Room (k + 2) X.A)
    (hbody : ∀ (A : Around) (outer : List Env) (s : Shared) (H : Hp) (E : XK) (f c' : Addr), Room k (A.deeper (LamX.lamEnv X scope s.heap.objs.size f c')) → PE (LamX.lamCx X A outer s H E scope f c') body (t E))
    (L : LamX.LamS X.env.scope scope) (hdef : defaultsOf params X.env = ([], [])) (hbind : ∀ (q : Str) (cl : List (Str × Addr)) (pm cv ctv : Value), bindArgs (PySem.W.kla_fn "<lambda>" q params body scope cl pm cv ctv) ⟨[], []⟩ = pure []) :
    PE X (.Call (.Name "_law_refused" p) [.Lambda params body scope lpos] [] pos) (LamX.tLam TT0 (refTT X.K BG O BF N) t) := by
  obtain ⟨oc, kV, doc, pm, cdv, ct, an, od, osl, lk, hcd, hb⟩ := D.df
  exact LamX.pe_lamcall hg D.hm D.hk lk hcd hb sc_law_refused rfl (Or.inl rfl) (ref_gives T D hu) TB hcode hmT hf hr L hdef hbind hbody
/-! ### copies of channels: every row its own -/
structure Cp (N : Addr → Prop) (H : Hp) (gs : List Addr) (bss : List (List Addr)) (cs : List (List (List Int))) : Prop where
  l1 : gs.length = cs.length
  l2 : bss.length = cs.length
  at_ : ∀ (i : Nat) (g : Addr) (bs : List Addr) (c : List (List Int)), gs[i]? = some g → bss[i]? = some bs → cs[i]? = some c → N g ∧ H g = some (.lst (bs.map V.ref)) ∧ RowsA N H bs c
  n1 : gs.Nodup
  n2 : bss.flatten.Nodup
theorem Cp.nil {N : Addr → Prop} {H : Hp} : Cp N H [] [] [] := ⟨rfl, rfl, (fun i g bs c e => nomatch e), .nil, .nil⟩
theorem Cp.up {N M : Addr → Prop} {H H' : Hp} {gs : List Addr} {bss : List (List Addr)} {cs : List (List (List Int))} (h : Cp N H gs bss cs) (u : ∀ b o, N b → H b = some o → M b ∧ H' b = some o) : Cp M H' gs bss cs :=
  ⟨h.l1, h.l2, fun i g bs c e1 e2 e3 => by
    obtain ⟨n, e, r⟩ := h.at_ i g bs c e1 e2 e3
    exact ⟨(u g _ n e).1, (u g _ n e).2, r.up u⟩, h.n1, h.n2⟩
theorem Cp.there {N : Addr → Prop} {H : Hp} {gs : List Addr} {bss : List (List Addr)} {cs : List (List (List Int))} (h : Cp N H gs bss cs) : (∀ g ∈ gs, H g ≠ none) ∧ ∀ b ∈ bss.flatten, H b ≠ none := by
  refine ⟨fun g m => ?_, fun b m => ?_⟩
  · obtain ⟨i, hi⟩ := List.getElem?_of_mem m
    have il := (List.getElem?_eq_some_iff.mp hi).1
    obtain ⟨bs, hb⟩ := get_of (show i < bss.length by rw [h.l2, ← h.l1]; exact il)
    obtain ⟨c, hc⟩ := get_of (show i < cs.length by rw [← h.l1]; exact il)
    rw [(h.at_ i g bs c hi hb hc).2.1]
    exact nofun
  · obtain ⟨bs, mb, m⟩ := List.mem_flatten.mp m
    obtain ⟨i, hb⟩ := List.getElem?_of_mem mb
    have il := (List.getElem?_eq_some_iff.mp hb).1
    obtain ⟨g, hg⟩ := get_of (show i < gs.length by rw [h.l1, ← h.l2]; exact il)
    obtain ⟨c, hc⟩ := get_of (show i < cs.length by rw [← h.l2]; exact il)
    have r := (h.at_ i g bs c hg hb hc).2.2
    obtain ⟨j, hj⟩ := List.getElem?_of_mem m
    obtain ⟨r', hr⟩ := get_of (show j < c.length by rw [← r.1]; exact (List.getElem?_eq_some_iff.mp hj).1)
    rw [(r.2 j b r' hj hr).2]
    exact nofun
theorem get_app {α : Type} {l : List α} {x y : α} {i : Nat} (e : (l ++ [x])[i]? = some y) : l[i]? = some y ∨ (i = l.length ∧ y = x) := by
  by_cases hi : i < l.length
  · rw [List.getElem?_append_left hi] at e
    exact .inl e
  · rw [List.getElem?_append_right (Nat.le_of_not_lt hi)] at e
    have : i - l.length = 0 := by
      have := (List.getElem?_eq_some_iff.mp e).1
      simp at this
      omega
    rw [this] at e
    cases e
    exact .inr ⟨by omega, rfl⟩
theorem Cp.app {N : Addr → Prop} {H : Hp} {gs : List Addr} {bss : List (List Addr)} {cs : List (List (List Int))} {g : Addr} {bs : List Addr} {c : List (List Int)} (h : Cp N H gs bss cs) (n : N g) (e : H g = some (.lst (bs.map V.ref))) (r : RowsA N H bs c) (ng : g ∉ gs) (nb : bs.Nodup) (nf : ∀ b ∈ bs, b ∉ bss.flatten) : Cp N H (gs ++ [g]) (bss ++ [bs]) (cs ++ [c]) := by
  refine ⟨by rw [List.length_append, List.length_append, h.l1]; rfl, by rw [List.length_append, List.length_append, h.l2]; rfl, fun i g' bs' c' e1 e2 e3 => ?_, ?_, ?_⟩
  · rcases get_app e1 with e1 | ⟨i1, rfl⟩
    · have il := (List.getElem?_eq_some_iff.mp e1).1
      rcases get_app e2 with e2 | ⟨i2, rfl⟩
      · rcases get_app e3 with e3 | ⟨i3, rfl⟩
        · exact h.at_ i g' bs' c' e1 e2 e3
        · rw [i3, h.l1] at il
          exact absurd il (Nat.lt_irrefl _)
      · rw [i2, h.l1, h.l2] at il
        exact absurd il (Nat.lt_irrefl _)
    · rcases get_app e2 with e2 | ⟨i2, rfl⟩
      · have il := (List.getElem?_eq_some_iff.mp e2).1
        rw [i1, h.l1, h.l2] at il
        exact absurd il (Nat.lt_irrefl _)
      · rcases get_app e3 with e3 | ⟨i3, rfl⟩
        · have il := (List.getElem?_eq_some_iff.mp e3).1
          rw [i1, h.l1] at il
          exact absurd il (Nat.lt_irrefl _)
        · exact ⟨n, e, r⟩
  · rw [List.nodup_append]
    exact ⟨h.n1, by simp, fun a ha b hb z => ng (by rw [List.mem_singleton.mp hb] at z; rw [← z]; exact ha)⟩
  · rw [List.flatten_append, List.nodup_append]
    exact ⟨h.n2, by simpa using nb, fun a ha b hb z => nf b (by simpa using hb) (by rw [← z]; exact ha)⟩
/-- one channel's list is exchanged -/
theorem Cp.set1 {N : Addr → Prop} {H : Hp} {gs : List Addr} {bss : List (List Addr)} {cs : List (List (List Int))} {k : Nat} {g : Addr} {bs' : List Addr} {c' : List (List Int)} (h : Cp N H gs bss cs) (hg : gs[k]? = some g) (hr : RowsA N H bs' c') (w1 : ∀ c ∈ cs, ∀ r ∈ c, r ≠ []) (w2 : ∀ r ∈ c', r ≠ []) :
    ChA N (upd H g (.lst (bs'.map V.ref))) gs (cs.set k c') := by
  have kk := (List.getElem?_eq_some_iff.mp hg).1
  obtain ⟨bs0, hb0⟩ := get_of (show k < bss.length by rw [h.l2, ← h.l1]; exact kk)
  obtain ⟨c0, hc0⟩ := get_of (show k < cs.length by rw [← h.l1]; exact kk)
  have eg := (h.at_ k g bs0 c0 hg hb0 hc0).2.1
  have keep : ∀ {bs : List Addr} {c : List (List Int)}, RowsA N H bs c → (∀ r ∈ c, r ≠ []) → RowsA N (upd H g (.lst (bs'.map V.ref))) bs c := fun {bs c} r ne => ⟨r.1, fun j b x e1 e2 => by
    obtain ⟨n, e⟩ := r.2 j b x e1 e2
    refine ⟨n, ?_⟩
    rw [upd_ne fun z => by rw [z, eg] at e; exact lst_ne (ne x (List.mem_of_getElem? e2)) (Option.some.inj e).symm]
    exact e⟩
  refine ⟨by rw [List.length_set, h.l1], fun i q c e1 e2 => ?_⟩
  have il := (List.getElem?_eq_some_iff.mp e1).1
  obtain ⟨bs, hb⟩ := get_of (show i < bss.length by rw [h.l2, ← h.l1]; exact il)
  by_cases z : i = k
  · subst z
    rw [hg] at e1
    cases e1
    rw [List.getElem?_set_self (by rw [← h.l1]; exact il)] at e2
    cases e2
    exact ⟨(h.at_ i g bs0 c0 hg hb0 hc0).1, bs', upd_same, keep hr w2⟩
  · rw [List.getElem?_set_ne (Ne.symm z)] at e2
    obtain ⟨n, e, r⟩ := h.at_ i q bs c e1 hb e2
    refine ⟨n, bs, ?_, keep r (w1 c (List.mem_of_getElem? e2))⟩
    rw [upd_ne fun y => z ((List.getElem?_inj il h.n1).mp (by rw [e1, hg, y]))]
    exact e
/-- one row is exchanged -/
theorem Cp.set2 {N : Addr → Prop} {H : Hp} {gs : List Addr} {bss : List (List Addr)} {cs : List (List (List Int))} {k j : Nat} {g b : Addr} {bs : List Addr} {c : List (List Int)} {r r' : List Int} (h : Cp N H gs bss cs) (hg : gs[k]? = some g) (hb : bss[k]? = some bs) (hc : cs[k]? = some c) (hj : bs[j]? = some b) (hr : c[j]? = some r) (ne : r ≠ []) :
    ChA N (upd H b (.lst (r'.map V.int))) gs (cs.set k (c.set j r')) := by
  obtain ⟨ng, eg, R⟩ := h.at_ k g bs c hg hb hc
  obtain ⟨nb, eb⟩ := R.2 j b r hj hr
  have gnb : ∀ (q : Addr) (as : List Addr), H q = some (.lst (as.map V.ref)) → q ≠ b := fun q as e z => by
    rw [z, eb] at e
    exact lst_ne ne (Option.some.inj e)
  refine ⟨by rw [List.length_set, h.l1], fun i q d e1 e2 => ?_⟩
  have il := (List.getElem?_eq_some_iff.mp e1).1
  obtain ⟨bs1, hb1⟩ := get_of (show i < bss.length by rw [h.l2, ← h.l1]; exact il)
  by_cases z : i = k
  · subst z
    rw [hg] at e1
    cases e1
    rw [List.getElem?_set_self (by rw [← h.l1]; exact il)] at e2
    cases e2
    refine ⟨ng, bs, by rw [upd_ne (gnb _ _ eg)]; exact eg, by rw [List.length_set]; exact R.1, fun t x y e3 e4 => ?_⟩
    have tl := (List.getElem?_eq_some_iff.mp e3).1
    have bn : bs.Nodup := (List.pairwise_flatten.mp h.n2).1 bs (List.mem_of_getElem? hb)
    by_cases z2 : t = j
    · subst z2
      rw [hj] at e3
      cases e3
      rw [List.getElem?_set_self (by rw [← R.1]; exact tl)] at e4
      cases e4
      exact ⟨nb, upd_same⟩
    · rw [List.getElem?_set_ne (Ne.symm z2)] at e4
      obtain ⟨n, e⟩ := R.2 t x y e3 e4
      refine ⟨n, ?_⟩
      rw [upd_ne fun y => z2 ((List.getElem?_inj tl bn).mp (by rw [e3, hj, y]))]
      exact e
  · rw [List.getElem?_set_ne (Ne.symm z)] at e2
    obtain ⟨n, e, R1⟩ := h.at_ i q bs1 d e1 hb1 e2
    refine ⟨n, bs1, by rw [upd_ne (gnb _ _ e)]; exact e, R1.1, fun t x y e3 e4 => ?_⟩
    obtain ⟨n', e'⟩ := R1.2 t x y e3 e4
    refine ⟨n', ?_⟩
    rw [upd_ne fun y => by
      have pw := (List.pairwise_flatten.mp h.n2).2
      have il2 := (List.getElem?_eq_some_iff.mp hb1).1
      have kl2 := (List.getElem?_eq_some_iff.mp hb).1
      have m1 := List.mem_of_getElem? e3
      have m2 := List.mem_of_getElem? hj
      rw [← y] at m2
      rcases Nat.lt_or_gt_of_ne z with lt | gt
      · have := List.pairwise_iff_getElem.mp pw i k il2 kl2 lt
        rw [(List.getElem?_eq_some_iff.mp hb1).2, (List.getElem?_eq_some_iff.mp hb).2] at this
        exact this _ m1 _ m2 rfl
      · have := List.pairwise_iff_getElem.mp pw k i kl2 il2 gt
        rw [(List.getElem?_eq_some_iff.mp hb1).2, (List.getElem?_eq_some_iff.mp hb).2] at this
        exact this _ m2 _ m1 rfl]
    exact e'
theorem RowsA.init {N : Addr → Prop} {H : Hp} {as : List Addr} {rows : List (List Int)} (h : RowsA N H as rows) : RowsA N H as.dropLast rows.dropLast := by
  refine ⟨by rw [List.length_dropLast, List.length_dropLast, h.1], fun i b r e1 e2 => ?_⟩
  rw [List.getElem?_dropLast] at e1 e2
  split at e1
  · split at e2
    · exact h.2 _ b r e1 e2
    · cases e2
  · cases e1
theorem not3 {cs : List (List (List Int))} {k : Nat} {c' : List (List Int)} {L : List Int} (hl : cs.length = 3) (hk : k < 3) (h : ∀ c ∈ cs, lens c = L) (hc : lens c' ≠ L) : ¬ Ok3 (cs.set k c') := by
  match cs, hl with
  | [a, b, c], _ =>
    have ha := h a (by simp)
    have hb := h b (by simp)
    have hd := h c (by simp)
    rintro ⟨x, y, z, e, e1, e2⟩
    match k, hk with
    | 0, _ =>
      injection e with g1 e
      injection e with g2 e
      injection e with g3 _
      exact hc (by rw [g1, e1, ← g2, hb])
    | 1, _ =>
      injection e with g1 e
      injection e with g2 e
      injection e with g3 _
      exact hc (by rw [g2, ← e1, ← g1, ha])
    | 2, _ =>
      injection e with g1 e
      injection e with g2 e
      injection e with g3 _
      exact hc (by rw [g3, ← e2, ← g1, ha])
theorem lens_ne1 {c : List (List Int)} {r : List Int} : lens (c ++ [r]) ≠ lens c := fun e => by
  have := congrArg List.length e
  unfold lens at this
  rw [List.length_map, List.length_map, List.length_append] at this
  simp at this
theorem lens_ne2 {c : List (List Int)} (h : 0 < c.length) : lens c.dropLast ≠ lens c := fun e => by
  have := congrArg List.length e
  unfold lens at this
  rw [List.length_map, List.length_map, List.length_dropLast] at this
  omega
theorem lens_ne3 {c : List (List Int)} {j : Nat} {r : List Int} {z : Int} (h : c[j]? = some r) : lens (c.set j (r ++ [z])) ≠ lens c := fun e => by
  have := congrArg (fun l : List Int => l[j]?) e
  unfold lens at this
  simp only [List.getElem?_map, h, Option.map_some] at this
  rw [List.getElem?_set_self (List.getElem?_eq_some_iff.mp h).1] at this
  simp only [Option.map_some, Option.some.injEq, List.length_append, List.length_cons, List.length_nil] at this
  omega
/-- three channels, or not three, that are not of one form -/
structure BadC (G : Hp) (p : Addr) : Prop where
  ex : ∃ (qs : List Addr) (cs : List (List (List Int))), G p = some (.lst (qs.map V.ref)) ∧ ChA (fun _ => True) G qs cs ∧ cs.length ≤ 900 ∧ (∀ c ∈ cs, c.length ≤ 900 ∧ ∀ r ∈ c, r.length ≤ 900) ∧ ¬ Ok3 cs
theorem ChA.extN {N : Addr → Prop} {H H' : Hp} {qs : List Addr} {cs : List (List (List Int))} (h : ChA N H qs cs) (s : LamX.ExtN H H') : ChA N H' qs cs := ⟨h.1, fun i q c e1 e2 => (h.2 i q c e1 e2).extN s⟩
theorem Chs.extN {N : Addr → Prop} {H H' : Hp} {p : Addr} {cs : List (List (List Int))} (h : Chs N H p cs) (s : LamX.ExtN H H') : Chs N H' p cs := by
  obtain ⟨n, qs, e, r⟩ := h
  exact ⟨n, qs, s _ _ e (fun _ z => nomatch z), r.extN s⟩
theorem BadC.ext {G G' : Hp} {p : Addr} (h : BadC G p) (s : LamX.ExtN G G') : BadC G' p := by
  obtain ⟨qs, cs, e, r, a, b, c⟩ := h.ex
  exact ⟨qs, cs, s _ _ e (fun _ z => nomatch z), r.extN s, a, b, c⟩
/-- what stands while the refusals are looked at -/
structure RK (PG a D : Addr) (cs : List (List (List Int))) (H G : Hp) : Prop where
  sr : Src G a
  up : UpN a H G
  tb : LamX.Tabs (tabsG PG) G
  ch : Chs (· ≠ a) G D cs
section
variable {PG a D : Addr} {cs : List (List (List Int))} {H G G' : Hp}
theorem RK.ext (k : RK PG a D cs H G) (e : LamX.ExtN G G') (t : LamX.Tabs (tabsG PG) G') : RK PG a D cs H G' := ⟨k.sr.ext e, k.up.trans (ext_n e), t, k.ch.extN e⟩
theorem RK.same (k : RK PG a D cs H G) (s : Same G G') : RK PG a D cs H G' := k.ext (ext_same s) (tabs_same k.tb s)
theorem RK.but (k : RK PG a D cs H G) (s : Src G' a) (u : Up a G G') : RK PG a D cs H G' :=
  ⟨s, k.up.trans u.n, tabs_up k.tb u k.sr, k.ch.up fun b o n e => ⟨n, u b o n e⟩⟩
theorem tabs_lst {T : List (Addr × Str)} {g : Addr} {xs : List V} {o : HO} (t : LamX.Tabs T G) (e : G g = some (.lst xs)) : LamX.Tabs T (upd G g o) := fun p hp => by
  obtain ⟨ps, h1, h2, h3⟩ := t p hp
  refine ⟨ps, (upd_ne fun z => ?_).trans h1, h2, fun pos cv hc => ?_⟩
  · rw [z, e] at h1
    cases h1
  · obtain ⟨c, e1, e2⟩ := h3 pos cv hc
    refine ⟨c, e1, (upd_ne fun z => ?_).trans e2⟩
    rw [z, e] at e2
    unfold LamX.CodeO at e2
    cases e2
theorem RK.touch {g : Addr} {xs : List V} {o : HO} (k : RK PG a D cs H G) (e : G g = some (.lst xs)) (ga : g ≠ a) (hf : ∀ o, H g = some o → (∀ ps, o ≠ .tbl ps) → False) (hS : Chs (fun b => b ≠ a ∧ b ≠ g) G D cs) : RK PG a D cs H (upd G g o) :=
  ⟨src_keep ga.symm k.sr, fun b o' n h t => by
    rw [upd_ne fun z => by rw [z] at h; exact hf _ h t]
    exact k.up b o' n h t, tabs_lst k.tb e, hS.up fun b o' n e' => ⟨n.1, (upd_ne n.2).trans e'⟩⟩
end
/-! ### the law: what is refused -/
def spRefus (PG : Addr) : Sp := fun vs H Q _ => ∃ (a : Addr) (wd ht : Int), vs = [.ref a, .int wd, .int ht] ∧ Src H a ∧ 1 ≤ wd ∧ wd ≤ 5 ∧ 1 ≤ ht ∧ ht ≤ 4 ∧ LamX.Tabs (tabsG PG) H ∧
  ∀ H' : Hp, Src H' a → UpN a H H' → LamX.Tabs (tabsG PG) H' → Q (.bl true) H'
theorem ok_refus {f cR PG gR BG O BF N fa fb : Addr} {fd fda fdb : FuncData} {k : Nat} (F0 : FunC K "_law_refusals_right" "_law_refusals_right" s_law_refusals_right f fd cR) (T : Txt mg) (D : RefD P w K mg base gR BG O BF N) (gB : GO K BG O BF N BG 0) (TBR : LamX.TabB base mg cR PG)
    (G_coloured : FnOk P w K mg base (L2.CX P w) 4 fa fda ["channels"] (spCol K BG cC)) (g_coloured : mg "coloured" = some (.ref fa)) (k_coloured : PySem.W.keepIn K (.ref fa) = true) (b_coloured : Binds K fda ["channels"] [])
    (G_uncoloured : FnOk P w K mg base (L2.CX P w) 4 fb fdb ["channels"] (spCol K BG uC)) (g_uncoloured : mg "uncoloured" = some (.ref fb)) (k_uncoloured : PySem.W.keepIn K (.ref fb) = true) (b_uncoloured : Binds K fdb ["channels"] [])
    (c_law_channel : C8.Cal P w K mg base 3 "_law_channel" spChan []) (c_law_take : C8.Cal P w K mg base 1 "_law_take" spTake []) : FnOk P w K mg base CX0 (k + 8) f fd ["_law_source", "_law_wide", "_law_high"] (spRefus PG) := by
  refine F0.ok sc_law_refusals_right (fun vs H Q E h => ?_) (fun A outer s H vs Q E hr h => ?_)
  · obtain ⟨a, wd, ht, rfl, _⟩ := h
    rfl
  · obtain ⟨a, wd, ht, rfl, ha, w0, w1, h0, h1, hT, q⟩ := h
    have hu := hr.units
    have hu1 := hu_of hr
    refine ⟨_, (C8.pss_cut (ps_set (i := 10) sc_law_refusals_right.nd rfl (Or.inr rfl) (pe_lc (own := [("_law_c", 3)]) (g := (gName 3)) (tt := tYes) rfl sc_law_refusals_right.nd (pi_range1 (by rfl) T.z_range (pa_cons pe_int pa_nil)) (blkOk_by (N := ["_law_source", "_law_wide", "_law_high", "_law_c", "_law_rows", "_law_row", "_law_at", "_law_wrong", "_law_way", "_law_one_here", "_law_some"]) (sc := defScope s_law_refusals_right) (by decide +kernel)) (fun _ _ _ _ _ => pg_name (i := 3) sc_law_refusals_right.nd rfl (by first | exact Or.inl rfl | exact Or.inr rfl)) (fun _ _ _ _ _ => pts_nil) (fun _ _ _ _ _ => (C8.pe_c c_law_channel hr (by omega) (by rfl) (pa_cons (pv 0) (pa_cons (pv 1) (pa_cons (pv 2) pa_nil)))))))
    (C8.pss_cut (ps_par (i := 6) (j := 7) rfl sc_law_refusals_right.nd rfl rfl (by decide) rfl rfl (pa_cons (C8.pe_c c_law_take hr (by omega) (by rfl) (pa_cons (pv 0) (pa_cons pe_int pa_nil))) (pa_cons (pe_lc (own := [("_law_rows", 4)]) (g := (gName 4)) (tt := tYes) rfl sc_law_refusals_right.nd (pi_list (pv 10)) (blkOk_by (N := ["_law_source", "_law_wide", "_law_high", "_law_c", "_law_rows", "_law_row", "_law_at", "_law_wrong", "_law_way", "_law_one_here", "_law_some"]) (sc := defScope s_law_refusals_right) (by decide +kernel)) (fun _ _ _ _ _ => pg_name (i := 4) sc_law_refusals_right.nd rfl (by first | exact Or.inl rfl | exact Or.inr rfl)) (fun _ _ _ _ _ => pts_nil) (fun _ _ _ _ _ => (pe_lc (own := [("_law_row", 5)]) (g := (gName 5)) (tt := tYes) rfl sc_law_refusals_right.nd (pi_listC (K := K) rfl (pv 4)) (blk_in (N := ["_law_source", "_law_wide", "_law_high", "_law_c", "_law_rows", "_law_row", "_law_at", "_law_wrong", "_law_way", "_law_one_here", "_law_some"]) (sc0 := defScope s_law_refusals_right) rfl (by decide +kernel)) (fun _ _ _ _ _ => pg_name (i := 5) sc_law_refusals_right.nd rfl (by first | exact Or.inl rfl | exact Or.inr rfl)) (fun _ _ _ _ _ => pts_nil) (fun _ _ _ _ _ => (pe_callTy (call_list_of : CallR _ (.type "list") (fun xs H Q => ∃ p ys, xs = [.ref p] ∧ (SqL K H p ys ∨ SqT K H p ys) ∧ ∀ (l : Addr), H l = none → Q (.ref l) (upd H l (.lst ys)))) (by rfl) T.z_list PyProof.Rows.boot_list (pa_cons (pv 5) pa_nil)))))) pa_nil)) rfl)
    (pss_cons (ps_set (i := 4) sc_law_refusals_right.nd rfl (Or.inl rfl) (pe_ix ix_list (pv 7) (pv 6) (fun _ _ => rfl)))
    (pss_cons (ps_set (i := 8) sc_law_refusals_right.nd rfl (Or.inl rfl) (C8.pe_c c_law_take hr (by omega) (by rfl) (pa_cons (pv 0) (pa_cons pe_int pa_nil))))
    (C8.pss_cut (ps_if (pt_cmpR op_eq (pv 8) pe_int (nomark _)) (pss_one (ps_expr (pe_bm PySem.F.plainAttrs_list PySem.F.slot_list_append PySem.F.type_list_append mt_append (pv 4) (pa_cons (pe_callTy call_list_of (by rfl) T.z_list PyProof.Rows.boot_list (pa_cons (pe_ix ix_list (pv 4) pe_int (fun _ _ => rfl)) pa_nil)) pa_nil)))) (pss_one (ps_if (pt_cmpR op_eq (pv 8) pe_int (nomark _)) (pss_one (ps_expr (pe_bm0 PySem.F.plainAttrs_list PySem.F.slot_list_pop PySem.F.type_list_pop mt_pop (pv 4)))) (pss_cons (ps_set (i := 5) sc_law_refusals_right.nd rfl (Or.inl rfl) (pe_ix ix_list (pv 4) (C8.pe_c c_law_take hr (by omega) (by rfl) (pa_cons (pv 0) (pa_cons (pv 2) pa_nil))) (fun _ _ => rfl)))
    (pss_one (ps_expr (pe_bm PySem.F.plainAttrs_list PySem.F.slot_list_append PySem.F.type_list_append mt_append (pv 5) (pa_cons pe_int pa_nil))))))))
    (C8.pss_cut (ps_for PassesOwn.never rfl (pi_list (pe_lst (pa_cons (pv 7) (pa_cons (pe_slice sl_list (pv 10) po_none (po_some pe_int)) (pa_cons (pe_op op_cat (pv 10) (pe_lst (pa_cons (pe_ix ix_list (pv 10) pe_int (fun _ _ => rfl)) pa_nil))) (pa_cons (pe_lst pa_nil) pa_nil)))))) (pg_name (i := 9) sc_law_refusals_right.nd rfl (Or.inr rfl))
      (C8.pss_cut (ps_if (pt_cmpR op_ne (pe_refd (k := 5) T D hu (by rfl) TBR rfl (.head _) (tabsG_fn (.head _)) (hr.mono (by omega)) (fun A outer s H E f c' hr2 => (pe_call G_coloured (hr2.mono (by omega)) (by rfl) g_coloured k_coloured b_coloured .nil (passes_call (takes_of rfl rfl rfl rfl) (fun _ _ _ _ h => h)) (pa_cons (pv 9) pa_nil))) (LamX.lamS_by (by show LamX.lamSB (defScope s_law_refusals_right) _ = true; decide +kernel)) rfl (fun _ _ _ _ _ => rfl)) pe_str (nomark _)) (pss_one (ps_ret pe_bl)) pss_nil)
    (pss_one (ps_if (pt_cmpR op_ne (pe_refd (k := 5) T D hu (by rfl) TBR rfl (.head _) (tabsG_fn (.head _)) (hr.mono (by omega)) (fun A outer s H E f c' hr2 => (pe_call G_uncoloured (hr2.mono (by omega)) (by rfl) g_uncoloured k_uncoloured b_uncoloured .nil (passes_call (takes_of rfl rfl rfl rfl) (fun _ _ _ _ h => h)) (pa_cons (pv 9) pa_nil))) (LamX.lamS_by (by show LamX.lamSB (defScope s_law_refusals_right) _ = true; decide +kernel)) rfl (fun _ _ _ _ _ => rfl)) pe_str (nomark _)) (pss_one (ps_ret pe_bl)) pss_nil))))
    (C8.pss_cut (ps_if (pt_cmpR op_ne (pe_refd (k := 5) T D hu (by rfl) TBR rfl (.head _) (tabsG_fn (.head _)) (hr.mono (by omega)) (fun A outer s H E f c' hr2 => (pe_call G_coloured (hr2.mono (by omega)) (by rfl) g_coloured k_coloured b_coloured .nil (passes_call (takes_of rfl rfl rfl rfl) (fun _ _ _ _ h => h)) (pa_cons (pv 10) pa_nil))) (LamX.lamS_by (by show LamX.lamSB (defScope s_law_refusals_right) _ = true; decide +kernel)) rfl (fun _ _ _ _ _ => rfl)) pe_str (nomark _)) (pss_one (ps_ret pe_bl)) pss_nil)
    (pss_one (ps_ret (pe_cmpR op_eq (pe_refd (k := 5) T D hu (by rfl) TBR rfl (.head _) (tabsG_fn (.head _)) (hr.mono (by omega)) (fun A outer s H E f c' hr2 => (pe_call G_uncoloured (hr2.mono (by omega)) (by rfl) g_uncoloured k_uncoloured b_uncoloured .nil (passes_call (takes_of rfl rfl rfl rfl) (fun _ _ _ _ h => h)) (pa_cons (pv 10) pa_nil))) (LamX.lamS_by (by show LamX.lamSB (defScope s_law_refusals_right) _ = true; decide +kernel)) rfl (fun _ _ _ _ _ => rfl)) pe_str (nomark _))))))))))), ?_⟩
    refine ⟨fun σ G => ∃ D c0 c1 c2, σ = [some (.ref a), some (.int wd), some (.int ht), none, none, none, none, none, none, none, some (.ref D)] ∧ RK PG a D [c0, c1, c2] H G ∧ (ofSize wd.toNat ht.toNat c0 ∧ ofSize wd.toNat ht.toNat c1 ∧ ofSize wd.toNat ht.toNat c2), ?_, ?_⟩
    · walk_at "ev"
      refine ⟨by decide, by decide, fun D nD => ?_⟩
      have nDa : D ≠ a := (ha.ne nD).symm
      refine lc_it walk_range (fun i H2 => Up a H H2 ∧ Src H2 a ∧ ∃ qs cs, H2 D = some (.lst (qs.map V.ref)) ∧ ChA (fun b => b ≠ D ∧ b ≠ a) H2 qs cs ∧ cs.length = i ∧ ∀ c ∈ cs, ofSize wd.toNat ht.toNat c) ⟨up_same (same_upd nD), src_same (same_upd nD) ha, [], [], upd_same, .nil, rfl, fun _ m => absurd m List.not_mem_nil⟩ (fun _ _ _ _ => trivial) ?_ ?_
      · rintro i x H2 H3 hi ⟨u2, s2, qs, cs, e2, hA, hl, hO⟩ ⟨rfl, rfl⟩
        walk_at "ev"
        refine ⟨a, wd, ht, rfl, s2, by omega, by omega, by omega, by omega, fun p H4 rows np s4 u4 hR oR bR => ?_⟩
        have e4 := u4 _ _ nDa e2
        have hq : qs.length ≤ 3 := by
          rw [hA.1, hl]
          exact Nat.le_of_lt hi
        have nDn : ∀ b, H3 b = none → b ≠ D := fun b e z => by rw [z, e2] at e; cases e
        have nDs : ∀ b, H3 b = none → b ≠ a := fun b e => (s2.ne e).symm
        refine ⟨_, e4, small1000 (by rw [List.length_map]; omega), ?_, src_keep nDa.symm s4, qs ++ [p], cs ++ [rows], by rw [upd_same, List.map_append]; rfl, ?_, by rw [List.length_append, hl]; rfl, fun c m => ?_⟩
        · exact fun b o nb e => by
            rw [upd_ne (ne_of_none e nD)]
            exact u4 _ _ nb (u2 _ _ nb e)
        · refine (hA.up fun b o n e => ⟨n, ?_⟩).app (hR.up fun b o n e => ⟨⟨nDn b n, nDs b n⟩, ?_⟩)
          · rw [upd_ne n.1]
            exact u4 _ _ n.2 e
          · rw [upd_ne (nDn b n)]
            exact e
        · rcases List.mem_append.mp m with m | m
          · exact hO c m
          · rw [List.mem_singleton.mp m]
            exact oR
      · rintro H1 ⟨uG, sG, qs, cs, eD, hA, hl, hO⟩
        obtain ⟨c0, c1, c2, rfl⟩ : ∃ c0 c1 c2, cs = [c0, c1, c2] := by
          match cs, hl with
          | [c0, c1, c2], _ => exact ⟨c0, c1, c2, rfl⟩
        exact ⟨D, c0, c1, c2, rfl, ⟨sG, uG.n, tabs_up hT uG ha, nDa, qs, eD, hA.up fun b o n e => ⟨n.2, e⟩⟩, hO c0 (by simp), hO c1 (by simp), hO c2 (by simp)⟩
    rintro σ H1 ⟨D0, c0, c1, c2, rfl, k1, o0, o1, o2⟩
    have h3 := same3_of o0 o1 o2
    have okS : Ok3 [c0, c1, c2] := ⟨_, _, _, rfl, h3.1, h3.2⟩
    have sm : ∀ c ∈ [c0, c1, c2], ofSize wd.toNat ht.toNat c := fun c m => by
      simp only [List.mem_cons, List.not_mem_nil, or_false] at m
      rcases m with rfl | rfl | rfl
      · exact o0
      · exact o1
      · exact o2
    have sm9 : ∀ c ∈ [c0, c1, c2], c.length ≤ 900 ∧ ∀ r ∈ c, r.length ≤ 900 := fun c m => ⟨by rw [(sm c m).1]; omega, fun r mr => by rw [(sm c m).2 r mr]; omega⟩
    refine ⟨fun σ G => ∃ (r0 : Nat) (D4 : Addr), σ = [some (.ref a), some (.int wd), some (.int ht), none, none, none, some (.int r0), some (.ref D4), none, none, some (.ref D0)] ∧ r0 < 3 ∧ RK PG a D0 [c0, c1, c2] H G ∧ D4 ≠ a ∧ ∃ (M : Addr → Prop) (gs : List Addr) (bss : List (List Addr)), G D4 = some (.lst (gs.map V.ref)) ∧ Cp (fun b => b ≠ a ∧ b ≠ D4 ∧ M b) G gs bss [c0, c1, c2] ∧ Chs (fun b => b ≠ a ∧ ¬ M b) G D0 [c0, c1, c2] ∧ ∀ b o, M b → b ≠ a → H b = some o → (∀ ps, o ≠ .tbl ps) → False, ?_, ?_⟩
    · walk_at "ev"
      refine ⟨k1.sr, by decide, by decide, fun r H2 r0 r1 s2 u2 => ?_⟩
      have k2 := k1.but s2 u2.up
      obtain ⟨_, qs, eD, hA⟩ := k2.ch
      obtain ⟨q0, q1, q2, rfl⟩ : ∃ q0 q1 q2, qs = [q0, q1, q2] := by
        match qs, hA.1 with
        | [q0, q1, q2], _ => exact ⟨q0, q1, q2, rfl⟩
      have eDl : SqL K H2 D0 [V.ref q0, .ref q1, .ref q2] := .inl (.inl eD)
      walk_at "ev"
      refine ⟨⟨_, eDl⟩, fun D4 nD4 => ?_⟩
      have n4a : D4 ≠ a := (s2.ne nD4).symm
      refine lc_it (walk_list (xs := [V.ref q0, .ref q1, .ref q2])) (fun i G => Same H2 G ∧ ∃ gs bss, G D4 = some (.lst (gs.map V.ref)) ∧ Cp (fun b => b ≠ D4 ∧ H2 b = none) G gs bss ([c0, c1, c2].take i)) ⟨same_upd nD4, [], [], upd_same, .nil⟩ (fun _ _ _ h => .inl (.inl (h.1 _ _ eD))) ?_ ?_
      · rintro i x G G5 hi ⟨s5, gs, bss, eg, hg⟩ ⟨rfl, hx⟩
        obtain ⟨c, hc⟩ : ∃ c, [c0, c1, c2][i]? = some c := get_of hi
        obtain ⟨q', hq'⟩ : ∃ q', [q0, q1, q2][i]? = some q' := get_of hi
        have ex : x = V.ref q' := by
          have : ([q0, q1, q2].map V.ref)[i]? = some x := hx
          rw [List.getElem?_map, hq'] at this
          exact (Option.some.inj this).symm
        subst ex
        obtain ⟨_, as, ea, hR⟩ := hA.2 i q' c hq' hc
        have ea5 := s5 _ _ ea
        have gl : gs.length ≤ 3 := by rw [hg.l1, List.length_take]; exact Nat.min_le_right _ _
        have cl := (sm c (List.mem_of_getElem? hc)).1
        walk_at "ev"
        refine ⟨⟨_, .inl (.inl ea5)⟩, fun D5 nD5 => ?_⟩
        have n54 : D5 ≠ D4 := fun z => by rw [z, eg] at nD5; cases nD5
        have n5g : D5 ∉ gs := fun m => hg.there.1 D5 m nD5
        refine lc_it (walk_list (xs := as.map V.ref)) (fun t G6 => Same G5 G6 ∧ ∃ bs : List Addr, G6 D5 = some (.lst (bs.map V.ref)) ∧ RowsA (fun b => b ≠ D5 ∧ b ≠ D4 ∧ H2 b = none) G6 bs (c.take t) ∧ bs.Nodup ∧ ∀ b ∈ bs, b ∉ bss.flatten) ⟨same_upd nD5, [], upd_same, .nil, .nil, fun _ m => absurd m List.not_mem_nil⟩ (fun _ _ _ h => .inl (.inl (h.1 _ _ ea5))) ?_ ?_
        · rintro t y G6 G7 ht' ⟨s6, bs, eb, hb, nb, nf⟩ ⟨rfl, hy⟩
          rw [List.getElem?_map] at hy
          obtain ⟨b', hb', rfl⟩ := Option.map_eq_some_iff.mp hy
          obtain ⟨r', hr'⟩ : ∃ r, c[t]? = some r := get_of (by rw [← hR.1]; exact (List.getElem?_eq_some_iff.mp hb').1)
          have er := s6 _ _ (s5 _ _ (hR.2 t b' r' hb' hr').2)
          have bl : bs.length ≤ 4 := by rw [hb.1, List.length_take, cl]; omega
          walk_at "ev"
          refine fun l nl => ?_
          have nl5 : l ≠ D5 := fun z => by rw [z, eb] at nl; cases nl
          have nl4 : l ≠ D4 := fun z => by rw [z, s6 _ _ eg] at nl; cases nl
          refine ⟨_, new_at eb nl, small1000 (by rw [List.length_map]; omega), fun b o e => ?_, bs ++ [l], by rw [upd_same, List.map_append]; rfl, ?_, ?_, ?_⟩
          · rw [upd_ne (ne_of_none e nD5)]
            exact new_at (s6 _ _ e) nl
          · rw [← take_snoc hr']
            refine (hb.up fun b o n e => ⟨n, ?_⟩).app ⟨nl5, nl4, s5.free (s6.free nl)⟩ ?_
            · rw [upd_ne n.1]
              exact new_at e nl
            · rw [upd_ne nl5, upd_same]
          · rw [List.nodup_append]
            refine ⟨nb, by simp, fun x mx y my z => ?_⟩
            rw [List.mem_singleton.mp my] at z
            obtain ⟨j, hj⟩ := List.getElem?_of_mem mx
            obtain ⟨rr, hrr⟩ := get_of (show j < (c.take t).length by rw [← hb.1]; exact (List.getElem?_eq_some_iff.mp hj).1)
            have := (hb.2 j x rr hj hrr).2
            rw [z, nl] at this
            cases this
          · intro b mb
            rcases List.mem_append.mp mb with mb | mb
            · exact nf b mb
            · rw [List.mem_singleton.mp mb]
              intro m
              obtain ⟨o, ho⟩ := Option.ne_none_iff_exists'.mp (hg.there.2 l m)
              rw [s6 _ _ ho] at nl
              cases nl
        · rintro G6 ⟨s6, bs, eb, hb, nb, nf⟩
          rw [List.length_map, hR.1, List.take_length] at hb
          refine ⟨_, s6 _ _ eg, small1000 (by rw [List.length_map]; omega), fun b o e => ?_, gs ++ [D5], bss ++ [bs], by rw [upd_same, List.map_append]; rfl, ?_⟩
          · rw [upd_ne (ne_of_none e nD4)]
            exact s6 _ _ (s5 _ _ e)
          · rw [← take_snoc hc]
            refine (hg.up fun b o n e => ⟨n, ?_⟩).app ⟨n54, s5.free nD5⟩ ?_ (hb.up fun b o n e => ⟨⟨n.2.1, n.2.2⟩, ?_⟩) n5g nb nf
            · rw [upd_ne n.1]
              exact s6 _ _ e
            · rw [upd_ne n54]
              exact eb
            · rw [upd_ne n.2.1]
              exact e
      · rintro G ⟨s5, gs, bss, eg, hg⟩
        obtain ⟨rn, rfl⟩ := Int.eq_ofNat_of_zero_le r0
        have kG := k2.same s5
        walk_at "ev"
        refine ⟨by omega, kG, n4a, fun b => H2 b = none, gs, bss, eg, hg.up fun b o n e => ⟨⟨(s2.ne n.2).symm, n.1, n.2⟩, e⟩, ?_, fun b o m nb e t => ?_⟩
        · refine Chs.up (N := (· ≠ a)) (H := H2) ⟨k2.ch.1, _, eD, hA⟩ fun b o n e => ⟨⟨n, fun z => ?_⟩, s5 _ _ e⟩
          have z : H2 b = none := z
          rw [z] at e
          cases e
        · have := k2.up b o nb e t
          have m : H2 b = none := m
          rw [m] at this
          cases this
    rintro σ G ⟨rk, D4, rfl, hrk, k2, n4a, M, gs, bss, eg, hC, hS, hM⟩
    obtain ⟨g, hg⟩ := get_of (show rk < gs.length by rw [hC.l1]; exact hrk)
    obtain ⟨bs, hb⟩ := get_of (show rk < bss.length by rw [hC.l2]; exact hrk)
    obtain ⟨c, hc⟩ := get_of (show rk < [c0, c1, c2].length from hrk)
    have oc := sm c (List.mem_of_getElem? hc)
    have eg' : SqL K G D4 (gs.map V.ref) := .inl (.inl eg)
    walk_at "ev"
    refine ⟨_, _, _, _, rfl, rfl, eg', at_ref hg, ?_⟩
    walk_at "ev"
    refine ⟨k2.sr, by decide, by decide, fun wy H2 r0 r1 s2 u2 => ?_⟩
    have k3 := k2.but s2 u2.up
    have hC2 : Cp (fun b => b ≠ a ∧ b ≠ D4 ∧ M b) H2 gs bss [c0, c1, c2] := hC.up fun b o n e => ⟨n, u2.up _ _ n.1 e⟩
    have hS2 : Chs (fun b => b ≠ a ∧ ¬ M b) H2 D0 [c0, c1, c2] := hS.up fun b o n e => ⟨n, u2.up _ _ n.1 e⟩
    have eg2 := u2.up _ _ n4a eg
    obtain ⟨⟨ga, gD, gM⟩, gl, gR⟩ := hC2.at_ rk g bs c hg hb hc
    clear hC hS eg eg' k2
    have wne : ∀ c ∈ [c0, c1, c2], ∀ r ∈ c, r ≠ [] := fun c m r mr z => by
      have := (sm c m).2 r mr
      rw [z] at this
      simp only [List.length_nil] at this
      omega
    have lL : ∀ c ∈ [c0, c1, c2], lens c = List.replicate ht.toNat (wd.toNat : Int) := fun c m => lens_of (sm c m)
    have lc := lL c (List.mem_of_getElem? hc)
    have blen : bs.length = ht.toNat := by rw [gR.1, oc.1]
    obtain ⟨b0, hb0⟩ := get_of (show 0 < bs.length by omega)
    obtain ⟨x0, hx0⟩ := get_of (show 0 < c.length by rw [oc.1]; omega)
    have eb0 := (gR.2 0 b0 x0 hb0 hx0).2
    have gsq : SqL K H2 g (bs.map V.ref) := .inl (.inl gl)
    have hCT : Cp (fun _ => True) H2 gs bss [c0, c1, c2] := hC2.up fun b o _ e => ⟨trivial, e⟩
    have gRT : RowsA (fun _ => True) H2 bs c := gR.up fun b o _ e => ⟨trivial, e⟩
    have cm := List.mem_of_getElem? hc
    have size9 : ∀ c', c'.length ≤ 10 → (∀ r ∈ c', r.length ≤ 10) → ∀ d ∈ [c0, c1, c2].set rk c', d.length ≤ 900 ∧ ∀ r ∈ d, r.length ≤ 900 := fun c' l1 l2 d md => by
      rcases List.mem_or_eq_of_mem_set md with m | rfl
      · exact sm9 d m
      · exact ⟨by omega, fun r mr => by have := l2 r mr; omega⟩
    have c4 : c.length ≤ 4 := by rw [oc.1]; omega
    have c5 : ∀ r ∈ c, r.length ≤ 5 := fun r mr => by rw [oc.2 r mr]; omega
    refine ⟨fun σ G => (∃ v5 v8, σ = [some (.ref a), some (.int wd), some (.int ht), none, some (.ref g), v5, some (.int rk), some (.ref D4), v8, none, some (.ref D0)]) ∧ RK PG a D0 [c0, c1, c2] H G ∧ BadC G D4, ?_, ?_⟩
    · have i0 : atI (bs.map V.ref) 0 = some (.ref b0) := at_ref (i := 0) hb0
      have eb0' : SqL K H2 b0 (x0.map V.int) := .inl (.inl eb0)
      walk_at "ev"
      · refine ⟨.inl ⟨rfl, _, .inl (.inl gl)⟩, ?_⟩
        walk_at "ev"
        refine ⟨_, _, _, _, rfl, rfl, gsq, i0, ?_⟩
        walk_at "ev"
        refine fun l nl => ?_
        have s3 := same_upd (o := .lst (x0.map V.int)) nl
        have gl3 := s3 _ _ gl
        have eg3 := s3 _ _ eg2
        have k4 := k3.same s3
        have r3 : RowsA (fun _ => True) (upd H2 l (.lst (x0.map V.int))) (bs ++ [l]) (c ++ [x0]) := (gRT.up (M := fun _ => True) fun b o n e => ⟨n, s3 _ _ e⟩).app trivial upd_same
        have hC3 := hCT.up (M := fun _ => True) fun b o n e => ⟨n, s3 _ _ e⟩
        have hS3 := hS2.up (M := fun b => b ≠ a ∧ b ≠ g) fun b o n e => ⟨⟨n.1, fun z => n.2 (by rw [z]; exact gM)⟩, s3 _ _ e⟩
        generalize upd H2 l (.lst (x0.map V.int)) = H3 at gl3 eg3 k4 r3 hC3 hS3 ⊢
        refine ⟨g, _, _, rfl, rfl, gl3, small1000 (by rw [List.length_map]; omega), ⟨_, _, rfl⟩, k4.touch gl3 ga (fun o h t => hM g o gM ga h t) hS3, gs, [c0, c1, c2].set rk (c ++ [x0]), ?_, ?_, ?_, ?_, ?_⟩
        · rw [upd_ne (Ne.symm gD)]
          exact eg3
        · have := hC3.set1 hg r3 wne fun r mr => by
            rcases List.mem_append.mp mr with mr | mr
            · exact wne c cm r mr
            · rw [List.mem_singleton.mp mr]
              exact wne c cm x0 (List.mem_of_getElem? hx0)
          rw [List.map_append] at this
          exact this
        · rw [List.length_set]
          show 3 ≤ 900
          decide
        · refine size9 _ (by rw [List.length_append]; show c.length + 1 ≤ 10; omega) fun r mr => ?_
          rcases List.mem_append.mp mr with mr | mr
          · exact Nat.le_trans (c5 r mr) (by decide)
          · rw [List.mem_singleton.mp mr]
            exact Nat.le_trans (c5 x0 (List.mem_of_getElem? hx0)) (by decide)
        · exact not3 rfl hrk lL fun e => lens_ne1 (e.trans lc.symm)
      · refine ⟨.inl ⟨rfl, _, .inl (.inl gl)⟩, ?_⟩
        obtain ⟨bl, hbl⟩ := get_of (show (bs.map V.ref).length - 1 < (bs.map V.ref).length by rw [List.length_map]; omega)
        refine ⟨g, _, bl, rfl, rfl, gl, hbl, ⟨_, _, rfl⟩, k3.touch gl ga (fun o h t => hM g o gM ga h t) (hS2.up fun b o n e => ⟨⟨n.1, fun z => n.2 (by rw [z]; exact gM)⟩, e⟩), gs, [c0, c1, c2].set rk c.dropLast, ?_, ?_, ?_, ?_, ?_⟩
        · rw [upd_ne (Ne.symm gD)]
          exact eg2
        · have := hCT.set1 hg gRT.init wne fun r mr => wne c cm r (List.dropLast_subset _ mr)
          rw [List.map_dropLast] at this
          exact this
        · rw [List.length_set]
          show 3 ≤ 900
          decide
        · exact size9 _ (by rw [List.length_dropLast]; omega) fun r mr => Nat.le_trans (c5 r (List.dropLast_subset _ mr)) (by decide)
        · exact not3 rfl hrk lL fun e => lens_ne2 (by rw [oc.1]; omega) (e.trans lc.symm)
      · refine ⟨k3.sr, by omega, by omega, fun jr H3 j0 j1 s3 u3 => ?_⟩
        obtain ⟨jn, rfl⟩ := Int.eq_ofNat_of_zero_le j0
        obtain ⟨bj, hbj⟩ := get_of (show jn < bs.length by omega)
        obtain ⟨xj, hxj⟩ := get_of (show jn < c.length by rw [oc.1]; omega)
        have k4 := k3.but s3 u3.up
        have hC3 := hC2.up (M := fun b => b ≠ a ∧ b ≠ D4 ∧ M b) fun b o n e => ⟨n, u3.up _ _ n.1 e⟩
        obtain ⟨_, gl3, gR3⟩ := hC3.at_ rk g bs c hg hb hc
        obtain ⟨⟨ba, bD, bM⟩, ebj⟩ := gR3.2 jn bj xj hbj hxj
        have hS3 := hS2.up (M := fun b => b ≠ a ∧ b ≠ bj) fun b o n e => ⟨⟨n.1, fun z => n.2 (by rw [z]; exact bM)⟩, u3.up _ _ n.1 e⟩
        have eg3 := u3.up _ _ n4a eg2
        have gsq3 : SqL K H3 g (bs.map V.ref) := .inl (.inl gl3)
        have hCT3 := hC3.up (M := fun _ => True) fun b o _ e => ⟨trivial, e⟩
        walk_at "ev"
        refine ⟨_, _, _, _, rfl, rfl, gsq3, at_ref hbj, ?_⟩
        walk_at "ev"
        refine ⟨.inl ⟨rfl, _, .inl (.inl ebj)⟩, ?_⟩
        walk_at "ev"
        have xl := c5 xj (List.mem_of_getElem? hxj)
        refine ⟨bj, _, _, rfl, rfl, ebj, small1000 (by rw [List.length_map]; omega), ⟨_, _, rfl⟩, k4.touch ebj ba (fun o h t => hM bj o bM ba h t) hS3, gs, [c0, c1, c2].set rk (c.set jn (xj ++ [1])), ?_, ?_, ?_, ?_, ?_⟩
        · rw [upd_ne (Ne.symm bD)]
          exact eg3
        · have := hCT3.set2 (r' := xj ++ [1]) hg hb hc hbj hxj (wne c cm xj (List.mem_of_getElem? hxj))
          rw [List.map_append] at this
          exact this
        · rw [List.length_set]
          show 3 ≤ 900
          decide
        · refine size9 _ (by rw [List.length_set]; omega) fun r mr => ?_
          rcases List.mem_or_eq_of_mem_set mr with mr | rfl
          · exact Nat.le_trans (c5 r mr) (by decide)
          · rw [List.length_append]
            show xj.length + 1 ≤ 10
            omega
        · exact not3 rfl hrk lL fun e => lens_ne3 hxj (e.trans lc.symm)
    · rintro σ G ⟨⟨v5, v8, rfl⟩, k, bad⟩
      clear hS2 hC2 gl gR eb0 gsq hCT gRT k3 s2 u2 eg2
      obtain ⟨nDa, qs, eD, hA⟩ := _root_.id k.ch
      obtain ⟨q0, q1, q2, rfl⟩ : ∃ q0 q1 q2, qs = [q0, q1, q2] := by
        match qs, hA.1 with
        | [q0, q1, q2], _ => exact ⟨q0, q1, q2, rfl⟩
      have eDl : SqL K G D0 [V.ref q0, .ref q1, .ref q2] := .inl (.inl eD)
      refine ⟨fun σ G => (∃ v9, σ = [some (.ref a), some (.int wd), some (.int ht), none, some (.ref g), v5, some (.int rk), some (.ref D4), v8, v9, some (.ref D0)]) ∧ RK PG a D0 [c0, c1, c2] H G, ?_, ?_⟩
      · walk_at "ev"
        refine ⟨D0, _, rfl, eDl, fun l1 n1 => ?_⟩
        rw [show cutV [V.ref q0, .ref q1, .ref q2] none (some 2) = [V.ref q0, .ref q1] from rfl]
        have m1 := same_upd (o := .lst [V.ref q0, .ref q1]) n1
        have e1 : upd G l1 (.lst [V.ref q0, .ref q1]) l1 = some (.lst [V.ref q0, .ref q1]) := upd_same
        generalize upd G l1 (.lst [V.ref q0, .ref q1]) = J1 at m1 e1 ⊢
        have eD1 : SqL K J1 D0 [V.ref q0, .ref q1, .ref q2] := .inl (.inl (m1 _ _ eD))
        walk_at "ev"
        refine ⟨(by show 1 ≤ sizeLine; decide), fun l2 n2 => ?_⟩
        have m2 := same_upd (o := .lst [V.ref q0]) n2
        have e2 : upd J1 l2 (.lst [V.ref q0]) l2 = some (.lst [V.ref q0]) := upd_same
        generalize upd J1 l2 (.lst [V.ref q0]) = J2 at m2 e2 ⊢
        have eD2 := m2 _ _ (m1 _ _ eD)
        refine ⟨D0, l2, _, _, rfl, rfl, eD2, e2, (by show 4 ≤ sizeLine; decide), fun l3 n3 => ?_⟩
        have m3 := same_upd (o := .lst (List.map V.ref [q0, q1, q2] ++ [V.ref q0])) n3
        have e3 : upd J2 l3 (.lst (List.map V.ref [q0, q1, q2] ++ [V.ref q0])) l3 = some (.lst [V.ref q0, .ref q1, .ref q2, .ref q0]) := upd_same
        generalize upd J2 l3 (.lst (List.map V.ref [q0, q1, q2] ++ [V.ref q0])) = J3 at m3 e3 ⊢
        walk_at "ev"
        refine ⟨(by show 0 ≤ sizeLine; decide), fun l4 n4 => ?_⟩
        have m4 := same_upd (o := .lst []) n4
        have e4 : upd J3 l4 (.lst []) l4 = some (.lst []) := upd_same
        generalize upd J3 l4 (.lst []) = J4 at m4 e4 ⊢
        refine ⟨(by show 4 ≤ sizeLine; decide), fun l5 n5 => ?_⟩
        have m5 := same_upd (o := .lst [V.ref D4, .ref l1, .ref l3, .ref l4]) n5
        have e5 : upd J4 l5 (.lst [V.ref D4, .ref l1, .ref l3, .ref l4]) l5 = some (.lst [V.ref D4, .ref l1, .ref l3, .ref l4]) := upd_same
        generalize upd J4 l5 (.lst [V.ref D4, .ref l1, .ref l3, .ref l4]) = J5 at m5 e5 ⊢
        have mZ : Same G J5 := (((m1.trans m2).trans m3).trans m4).trans m5
        have kZ := k.same mZ
        have hA5 : ChA (fun _ => True) J5 [q0, q1, q2] [c0, c1, c2] := hA.up fun b o _ e => ⟨trivial, mZ _ _ e⟩
        have f1 := ((m2.trans m3).trans m4).trans m5
        have bads : ∀ p ∈ [D4, l1, l3, l4], BadC J5 p := fun p mp => by
          simp only [List.mem_cons, List.not_mem_nil, or_false] at mp
          rcases mp with rfl | rfl | rfl | rfl
          · exact bad.ext (ext_same mZ)
          · exact ⟨[q0, q1], [c0, c1], f1 _ _ e1, .cons (hA5.2 0 q0 c0 rfl rfl) (.cons (hA5.2 1 q1 c1 rfl rfl) .nil), by show 2 ≤ 900; decide, fun c m => sm9 c (by
              simp only [List.mem_cons, List.not_mem_nil, or_false] at m
              rcases m with rfl | rfl
              · simp
              · simp), fun ⟨_, _, _, e, _⟩ => by cases e⟩
          · exact ⟨[q0, q1, q2, q0], [c0, c1, c2, c0], m5 _ _ (m4 _ _ e3), .cons (hA5.2 0 q0 c0 rfl rfl) (.cons (hA5.2 1 q1 c1 rfl rfl) (.cons (hA5.2 2 q2 c2 rfl rfl) (.cons (hA5.2 0 q0 c0 rfl rfl) .nil))), by show 4 ≤ 900; decide, fun c m => sm9 c (by
              simp only [List.mem_cons, List.not_mem_nil, or_false] at m
              rcases m with rfl | rfl | rfl | rfl
              · simp
              · simp
              · simp
              · simp), fun ⟨_, _, _, e, _⟩ => by cases e⟩
          · exact ⟨[], [], m5 _ _ e4, .nil, by show 0 ≤ 900; decide, fun c m => absurd m List.not_mem_nil, fun ⟨_, _, _, e, _⟩ => by cases e⟩
        clear m1 m2 m3 m4 m5 e1 e2 e3 e4 eD1 eD2 n1 n2 n3 n4 n5 f1 hA5 bad
        refine ⟨l5, rfl, ⟨_, .inl (.inl e5)⟩, ?_⟩
        refine for_it (walk_list (xs := [D4, l1, l3, l4].map V.ref)) (fun i σ J => (∃ v9, σ = [some (.ref a), some (.int wd), some (.int ht), none, some (.ref g), v5, some (.int rk), some (.ref D4), v8, v9, some (.ref D0)]) ∧ RK PG a D0 [c0, c1, c2] H J ∧ LamX.ExtN J5 J) ⟨⟨_, rfl⟩, kZ, LamX.ExtN.refl _⟩ (fun _ _ _ _ h => .inl (.inl (h.2.2 _ _ e5 fun _ z => nomatch z))) ?_ ?_
        · rintro i x σ J J' hi ⟨⟨v9, rfl⟩, kJ, xJ⟩ ⟨rfl, hx⟩
          rw [List.getElem?_map] at hx
          obtain ⟨p, hp, rfl⟩ := Option.map_eq_some_iff.mp hx
          have bp := (bads p (List.mem_of_getElem? hp)).ext xJ
          refine ⟨fun σ J2 => σ = [some (.ref a), some (.int wd), some (.int ht), none, some (.ref g), v5, some (.int rk), some (.ref D4), v8, some (.ref p), some (.ref D0)] ∧ RK PG a D0 [c0, c1, c2] H J2 ∧ LamX.ExtN J5 J2, ?_, ?_⟩
          · walk_at "ev"
            refine ⟨kJ.tb, fun G1 x1' t1' => ?_⟩
            have k1 := kJ.ext x1' t1'
            refine ref_in (wd := "grid") (fun Q' hq => ?_) fun G2 s2 => ?_
            · walk_at "ev"
              obtain ⟨qs, cs, b1, b2, b3, b4, b5⟩ := (bp.ext x1').ex
              exact ⟨p, qs, cs, rfl, .inl (.inl (.inl b1)), b2, b3, b4, fun ok => absurd ok b5, fun _ H' s' => E_grid gB s' hq⟩
            walk_at "ev"
            exact ⟨k1.same s2, (xJ.trans x1').trans (ext_same s2)⟩
          rintro σ J2 ⟨rfl, kJ2, xJ2⟩
          have bp2 := (bads p (List.mem_of_getElem? hp)).ext xJ2
          walk_at "ev"
          refine ⟨kJ2.tb, fun G1 x1' t1' => ?_⟩
          have k1 := kJ2.ext x1' t1'
          refine ref_in (wd := "grid") (fun Q' hq => ?_) fun G2 s2 => ?_
          · walk_at "ev"
            obtain ⟨qs, cs, b1, b2, b3, b4, b5⟩ := (bp2.ext x1').ex
            exact ⟨p, qs, cs, rfl, .inl (.inl (.inl b1)), b2, b3, b4, fun ok => absurd ok b5, fun _ H' s' => E_grid gB s' hq⟩
          walk_at "ev"
          exact ⟨⟨_, rfl⟩, k1.same s2, (xJ2.trans x1').trans (ext_same s2)⟩
        · rintro σ J ⟨⟨v9, rfl⟩, kJ, xJ⟩
          exact ⟨⟨_, rfl⟩, kJ⟩
      · rintro σ J ⟨⟨v9, rfl⟩, kJ⟩
        refine ⟨fun σ J2 => σ = [some (.ref a), some (.int wd), some (.int ht), none, some (.ref g), v5, some (.int rk), some (.ref D4), v8, v9, some (.ref D0)] ∧ RK PG a D0 [c0, c1, c2] H J2, ?_, ?_⟩
        · walk_at "ev"
          refine ⟨kJ.tb, fun G1 x1' t1' => ?_⟩
          have k1 := kJ.ext x1' t1'
          refine ref_in (wd := "") (fun Q' hq => ?_) fun G2 s2 => ?_
          · walk_at "ev"
            obtain ⟨qs, hq1, hA1⟩ := col_pre (K := K) k1.ch
            exact ⟨D0, qs, _, rfl, hq1, hA1, by show 3 ≤ 900; decide, sm9, fun _ _ H' _ s' _ => hq H' s', fun no => absurd okS no⟩
          walk_at "ev"
          exact k1.same s2
        rintro σ J2 ⟨rfl, kJ2⟩
        walk_at "ev"
        refine ⟨kJ2.tb, fun G1 x1' t1' => ?_⟩
        have k1 := kJ2.ext x1' t1'
        refine ref_in (wd := "") (fun Q' hq => ?_) fun G2 s2 => ?_
        · walk_at "ev"
          obtain ⟨qs, hq1, hA1⟩ := col_pre (K := K) k1.ch
          exact ⟨D0, qs, _, rfl, hq1, hA1, by show 3 ≤ 900; decide, sm9, fun _ _ H' _ s' _ => hq H' s', fun no => absurd okS no⟩
        walk_at "ev"
        have k2 := k1.same s2
        exact q _ k2.sr k2.up k2.tb
/-! ### the law -/
theorem rows_one {H : Hp} {q b : Addr} {x : Int} (e1 : H q = some (.lst [.ref b])) (e2 : H b = some (.lst [.int x])) : Rows (fun _ => True) H q [[x]] :=
  ⟨trivial, [b], e1, rfl, fun i b' r h1 h2 => match i, h1, h2 with
    | 0, h1, h2 => by cases h1; cases h2; exact ⟨trivial, e2⟩⟩
theorem lit_in {H : Hp} {p a1 a2 b1 b2 c1 c2 : Addr} {x y z : Int} (e : H p = some (.lst [.ref a2, .ref b2, .ref c2])) (ea : H a2 = some (.lst [.ref a1])) (ea' : H a1 = some (.lst [.int x])) (eb : H b2 = some (.lst [.ref b1])) (eb' : H b1 = some (.lst [.int y])) (ec : H c2 = some (.lst [.ref c1])) (ec' : H c1 = some (.lst [.int z])) : Chs (fun _ => True) H p [[[x]], [[y]], [[z]]] :=
  ⟨trivial, [a2, b2, c2], e, .cons (rows_one ea ea') (.cons (rows_one eb eb') (.cons (rows_one ec ec') .nil))⟩
theorem lit_told : cbcL cC [[[255]], [[0]], [[0]]] = [[[63]], [[-127]], [[255]]] := by decide +kernel
def spLaw (K : PySem.W.Frag) (PG : Addr) : Sp := fun vs H Q _ => ∃ (a : Addr) (ns : List Int), vs = [.ref a] ∧ SqL K H a (ns.map V.int) ∧ ns.length ≤ 63 ∧ LamX.Tabs (tabsG PG) H ∧ ∀ H', Q (.bl true) H'
theorem ok_law {f PG fa fr BG : Addr} {fd fda fdr : FuncData} {k : Nat} (F : Fun K "law" "law" s_law f fd) (T : Txt mg) (c_law_pool : C8.Cal P w K mg base 1 "_law_pool" (spPool K) []) (c_law_take : C8.Cal P w K mg base 1 "_law_take" spTake [])
    (G_coloured : FnOk P w K mg base (L2.CX P w) 4 fa fda ["channels"] (spCol K BG cC)) (g_coloured : mg "coloured" = some (.ref fa)) (k_coloured : PySem.W.keepIn K (.ref fa) = true) (b_coloured : Binds K fda ["channels"] [])
    (G_right : GdX.FnG P w K mg base CX0 5 fr fdr ["_law_source", "_law_wide", "_law_high"] (spRightL K)) (g_right : mg "_law_right" = some (.ref fr)) (k_right : PySem.W.keepIn K (.ref fr) = true) (b_right : Binds K fdr ["_law_source", "_law_wide", "_law_high"] [])
    (c_law_refusals_right : C8.Cal P w K mg base 8 "_law_refusals_right" (spRefus PG) []) : GdX.FnG P w K mg base CX0 (k + 9) f fd ["_law_script"] (spLaw K PG) := by
  refine GdX.funG F sc_law (fun vs H Q E h => ?_) (fun cdv A outer s H vs Q E hgd hr h => ?_)
  · obtain ⟨a, ns, rfl, _⟩ := h
    rfl
  · obtain ⟨a, ns, rfl, hS, hl, hT, q⟩ := h
    have hu := hr.units
    refine ⟨_, (C8.pss_cut (ps_if (pt_cmpR (op_neD hu) (pe_call G_coloured (hr.mono (by omega)) (by rfl) g_coloured k_coloured b_coloured .nil passN (pa_cons (pe_lst (pa_cons (pe_lst (pa_cons (pe_lst (pa_cons pe_int pa_nil)) pa_nil)) (pa_cons (pe_lst (pa_cons (pe_lst (pa_cons pe_int pa_nil)) pa_nil)) (pa_cons (pe_lst (pa_cons (pe_lst (pa_cons pe_int pa_nil)) pa_nil)) pa_nil)))) pa_nil)) (pe_lst (pa_cons (pe_lst (pa_cons (pe_lst (pa_cons pe_int pa_nil)) pa_nil)) (pa_cons (pe_lst (pa_cons (pe_lst (pa_cons (pe_un un_neg pe_int) pa_nil)) pa_nil)) (pa_cons (pe_lst (pa_cons (pe_lst (pa_cons pe_int pa_nil)) pa_nil)) pa_nil)))) (nomark _)) (pss_one (ps_ret pe_bl)) pss_nil)
    (pss_cons (ps_for PassesOwn.never rfl (pi_range1 (by rfl) T.z_range (pa_cons (pe_callB (call_max2 rfl) (by rfl) T.z_max PyProof.Rows.boot_max (pa_cons pe_int (pa_cons (pe_callB (call_min2 rfl) (by rfl) T.z_min PyProof.Rows.boot_min (pa_cons (pe_callB call_len_seq (by rfl) T.z_len PySem.boot_len (pa_cons (pv 0) pa_nil)) (pa_cons pe_int pa_nil))) pa_nil))) pa_nil)) (pg_name (i := 1) sc_law.nd rfl (Or.inl rfl))
      (pss_cons (ps_set (i := 2) sc_law.nd rfl (Or.inl rfl) (C8.pe_c c_law_pool hr (by omega) (by rfl) (pa_cons (pv 0) (pa_cons (pv 1) pa_nil))))
    (pss_cons (ps_par (i := 3) (j := 4) rfl sc_law.nd rfl rfl (by decide) rfl rfl (pa_cons (pe_op op_add pe_int (C8.pe_c c_law_take hr (by omega) (by rfl) (pa_cons (pv 2) (pa_cons pe_int pa_nil)))) (pa_cons (pe_op op_add pe_int (C8.pe_c c_law_take hr (by omega) (by rfl) (pa_cons (pv 2) (pa_cons pe_int pa_nil)))) pa_nil)) rfl)
    (pss_one (ps_if (PW.pt (pw_or (pt_not (pt_val (GdX.pe_cG G_right hgd hr (by omega) (by rfl) g_right k_right b_right pass0 (pa_cons (pv 2) (pa_cons (pv 3) (pa_cons (pv 4) pa_nil)))))) (pw_or1 (pt_not (pt_val (C8.pe_c c_law_refusals_right hr (by omega) (by rfl) (pa_cons (pv 2) (pa_cons (pv 3) (pa_cons (pv 4) pa_nil))))))))) (pss_one (ps_ret pe_bl)) pss_nil)))))
    (pss_one (ps_ret pe_bl)))), ?_⟩
    refine ⟨fun σ G => σ = [some (.ref a), none, none, none, none] ∧ Same H G, ?_, ?_⟩
    · walk_at "ev"
      refine ⟨(by show 1 ≤ sizeLine; decide), fun a1 n1 => ?_⟩
      refine ⟨(by show 1 ≤ sizeLine; decide), fun a2 n2 => ?_⟩
      walk_at "ev"
      refine ⟨(by show 1 ≤ sizeLine; decide), fun b1 n3 => ?_⟩
      refine ⟨(by show 1 ≤ sizeLine; decide), fun b2 n4 => ?_⟩
      walk_at "ev"
      refine ⟨(by show 1 ≤ sizeLine; decide), fun c1 n5 => ?_⟩
      refine ⟨(by show 1 ≤ sizeLine; decide), fun c2 n6 => ?_⟩
      walk_at "ev"
      refine ⟨(by show 3 ≤ sizeLine; decide), fun p n7 => ?_⟩
      have t1 := upd_same (H := H) (a := a1) (o := .lst [.int 255])
      have t2 := upd_same (H := upd H a1 (.lst [.int 255])) (a := a2) (o := .lst [.ref a1])
      have sA := (same_upd (o := .lst [.int 255]) n1).trans (same_upd (o := .lst [.ref a1]) n2)
      have t1 := same_upd (o := .lst [.ref a1]) n2 _ _ t1
      generalize upd (upd H a1 (.lst [.int 255])) a2 (.lst [.ref a1]) = J1 at *
      have t3 := upd_same (H := J1) (a := b1) (o := .lst [.int 0])
      have t4 := upd_same (H := upd J1 b1 (.lst [.int 0])) (a := b2) (o := .lst [.ref b1])
      have sB := (same_upd (o := .lst [.int 0]) n3).trans (same_upd (o := .lst [.ref b1]) n4)
      have t3 := same_upd (o := .lst [.ref b1]) n4 _ _ t3
      generalize upd (upd J1 b1 (.lst [.int 0])) b2 (.lst [.ref b1]) = J2 at *
      have t5 := upd_same (H := J2) (a := c1) (o := .lst [.int 0])
      have t6 := upd_same (H := upd J2 c1 (.lst [.int 0])) (a := c2) (o := .lst [.ref c1])
      have sC := (same_upd (o := .lst [.int 0]) n5).trans (same_upd (o := .lst [.ref c1]) n6)
      have t5 := same_upd (o := .lst [.ref c1]) n6 _ _ t5
      generalize upd (upd J2 c1 (.lst [.int 0])) c2 (.lst [.ref c1]) = J3 at *
      have sD := same_upd (o := .lst [.ref a2, .ref b2, .ref c2]) n7
      have t7 := upd_same (H := J3) (a := p) (o := .lst [.ref a2, .ref b2, .ref c2])
      generalize upd J3 p (.lst [.ref a2, .ref b2, .ref c2]) = J4 at *
      have sBD := (sB.trans sC).trans sD
      have sCD := sC.trans sD
      have hL := lit_in t7 (sBD _ _ t2) (sBD _ _ t1) (sCD _ _ t4) (sCD _ _ t3) (sD _ _ t6) (sD _ _ t5)
      have sZ := sA.trans sBD
      clear n1 n2 n3 n4 n5 n6 n7 t1 t2 t3 t4 t5 t6 t7 sA sB sC sD sBD sCD
      obtain ⟨qs, hq1, hA1⟩ := col_pre (K := K) hL
      refine ⟨p, qs, _, rfl, hq1, hA1, by show 3 ≤ 900; decide, by decide, fun _ p2 G2 n8 s8 hC => ?_, fun no => absurd ⟨_, _, _, rfl, rfl, rfl⟩ no⟩
      have hC : Chs (fun b => J4 b = none) G2 p2 [[[63]], [[-127]], [[255]]] := by
        rw [← lit_told]
        exact hC
      walk_at "ev"
      refine ⟨(by show 1 ≤ sizeLine; decide), fun a1 n1 => ?_⟩
      refine ⟨(by show 1 ≤ sizeLine; decide), fun a2 n2 => ?_⟩
      walk_at "ev"
      refine ⟨(by show 1 ≤ sizeLine; decide), fun b1 n3 => ?_⟩
      refine ⟨(by show 1 ≤ sizeLine; decide), fun b2 n4 => ?_⟩
      walk_at "ev"
      refine ⟨(by show 1 ≤ sizeLine; decide), fun c1 n5 => ?_⟩
      refine ⟨(by show 1 ≤ sizeLine; decide), fun c2 n6 => ?_⟩
      walk_at "ev"
      refine ⟨(by show 3 ≤ sizeLine; decide), fun p3 n7 => ?_⟩
      have t1 := upd_same (H := G2) (a := a1) (o := .lst [.int 63])
      have t2 := upd_same (H := upd G2 a1 (.lst [.int 63])) (a := a2) (o := .lst [.ref a1])
      have sA := (same_upd (o := .lst [.int 63]) n1).trans (same_upd (o := .lst [.ref a1]) n2)
      have t1 := same_upd (o := .lst [.ref a1]) n2 _ _ t1
      generalize upd (upd G2 a1 (.lst [.int 63])) a2 (.lst [.ref a1]) = J1 at *
      have t3 := upd_same (H := J1) (a := b1) (o := .lst [.int (-127)])
      have t4 := upd_same (H := upd J1 b1 (.lst [.int (-127)])) (a := b2) (o := .lst [.ref b1])
      have sB := (same_upd (o := .lst [.int (-127)]) n3).trans (same_upd (o := .lst [.ref b1]) n4)
      have t3 := same_upd (o := .lst [.ref b1]) n4 _ _ t3
      generalize upd (upd J1 b1 (.lst [.int (-127)])) b2 (.lst [.ref b1]) = J2 at *
      have t5 := upd_same (H := J2) (a := c1) (o := .lst [.int 255])
      have t6 := upd_same (H := upd J2 c1 (.lst [.int 255])) (a := c2) (o := .lst [.ref c1])
      have sC := (same_upd (o := .lst [.int 255]) n5).trans (same_upd (o := .lst [.ref c1]) n6)
      have t5 := same_upd (o := .lst [.ref c1]) n6 _ _ t5
      generalize upd (upd J2 c1 (.lst [.int 255])) c2 (.lst [.ref c1]) = J3 at *
      have sD := same_upd (o := .lst [.ref a2, .ref b2, .ref c2]) n7
      have t7 := upd_same (H := J3) (a := p3) (o := .lst [.ref a2, .ref b2, .ref c2])
      generalize upd J3 p3 (.lst [.ref a2, .ref b2, .ref c2]) = J5 at *
      have sBD := (sB.trans sC).trans sD
      have sCD := sC.trans sD
      have hL2 := lit_in t7 (sBD _ _ t2) (sBD _ _ t1) (sCD _ _ t4) (sCD _ _ t3) (sD _ _ t6) (sD _ _ t5)
      have sY := sA.trans sBD
      refine q_neS (dp_chs (hC.up (M := fun _ => True) fun b o _ e => ⟨trivial, sY _ _ e⟩)) (dp_chs hL2) ((shd_chs _).sh (by decide)) ?_
      walk_at "ev"
      exact (sZ.trans s8).trans sY
    rintro σ G ⟨rfl, sG⟩
    have hSG : SqL K G a (ns.map V.int) := sG.seq hS
    walk_at "ev"
    refine ⟨(by split <;> split <;> omega), (by split <;> split <;> omega), ?_⟩
    refine for_range (fun i σ H1 => ∃ v1 v2 v3 v4, σ = [some (.ref a), v1, v2, v3, v4] ∧ LamX.ExtN H H1 ∧ LamX.Tabs (tabsG PG) H1) ⟨_, _, _, _, rfl, ext_same sG, tabs_same hT sG⟩ ?_ ?_
    · rintro i σ H1 hi ⟨v1, v2, v3, v4, rfl, x1, t1⟩
      walk_at "ev"
      refine ⟨_, _, _, rfl, ext_seq x1 hS, (by omega), ?_, fun p H2 np sm hs => ?_⟩
      · split at hi <;> split at hi <;> omega
      walk_at "ev"
      refine ⟨hs, by decide, by decide, fun r1 H3 a0 a1 s3 u3 => ?_⟩
      walk_at "ev"
      refine ⟨s3, by decide, by decide, fun r2 H4 b0 b1 s4 u4 => ?_⟩
      have t4 := tabs_up (tabs_same t1 sm) (u3.up.trans u4.up) hs
      walk_at "ev"
      refine ⟨p, _, _, rfl, s4, by omega, by omega, by omega, by omega, fun H5 s5 u5 => ?_⟩
      have t5 := tabs_up t4 u5 s4
      walk_at "ev"
      refine ⟨p, _, _, rfl, s5, by omega, by omega, by omega, by omega, t5, fun H6 s6 u6 t6 => ?_⟩
      walk_at "ev"
      exact ⟨_, _, _, _, rfl, x1.trans (UpN.to (((u3.up.trans u4.up).n.trans u5.n).trans u6) (ext_same sm) np), t6⟩
    · rintro σ H1 ⟨v1, v2, v3, v4, rfl, x1, t1⟩
      walk_at "ev"
      exact q H1
theorem ok_badfield {f C : Addr} {fd : FuncData} {k : Nat} (F : Fun K "__init__" "BadField.__init__" s_BadField_init f fd) (T : OexC K C) (n : PySem.W.findIn K (.ref C) "name" = some none) : FnOk P w K mg base CX0 (k + 1) f fd ["self", "name"] (spIni C "name") := by
  refine F.ok sc_BadField_init (fun vs H Q E h => ?_) (fun cdv A outer s H vs Q E hr h => ?_)
  · obtain ⟨a, v, rfl, _⟩ := h
    rfl
  · obtain ⟨a, v, rfl, ha, q⟩ := h
    refine ⟨_, (pss_one (ps_ost (pv 0) (pv 1))), ?_⟩
    walk_at "ev"
    exact ⟨a, C, rfl, T, n, .inl ⟨ha, q⟩⟩
end
/-! ### what the top has written -/
theorem kit_tyr {K : PySem.W.Frag} {C : Addr} {T : String} {b : Bool} (m : PySem.W.kitMeta T = true) (s : PySem.W.subIn K (.ref C) (.type T) = some b) : PySem.W.kitOne K (.ref C) (.type T) = some b := by
  unfold PySem.W.kitOne
  rw [if_neg (by simp)]
  unfold PySem.W.kitCls
  show (if _ then _ else _) = _
  rw [if_pos m]
  exact s
theorem kbm1 {K : PySem.W.Frag} {x qual s p : Str} {params : Arguments} {body : List Stmt} {scope : Scope} {kV doc pm cd ct : Value} {an : Option Addr} (h : ∀ z u, bindArgs (PySem.W.fnOf x qual params body scope .none kV doc pm an cd ct) ⟨[z], [(p, u)]⟩ = pure [(s, z), (p, u)]) : KBn K (PySem.W.fnOf x qual params body scope .none kV doc pm an cd ct) [s, p] 1 [p] (fun us ws => us ++ ws) (fun vs zs => vs ++ zs) :=
  ⟨fun st us ws _ h1 h2 => match us, ws, h1, h2 with | [z], [u], _, _ => .of_eq (h z u), fun r1 r2 => r1.append r2⟩
theorem all_mk {l : PySem.W.OpenLaw} {w : World} {K : PySem.W.Frag} {h : Heap} {mg : Str → Option Value} {fa : Addr} (X : K.In h) (G : h.Ns mainGlobals mg) (hfa : mg "law" = some (.ref fa))
    {BF NSBF : Addr} {nmBF qnBF : Str} {bsBF bmBF suBF : List Value} {slBF : List Str} {abBF : Bool} {coBF : Option Bool} {ddBF : Option Addr} {kaBF kbBF kcBF kdBF keBF : Option Value} (eBF : PySem.W.nsIn K mainGlobals "BadField" = some (some (.ref BF))) (lcBF : K.lookup BF = some (excClassObj nmBF qnBF BF NSBF bsBF bmBF true slBF suBF abBF coBF ddBF kaBF kbBF kcBF kdBF keBF "ValueError.__new__")) (rvBF : PySem.HandSPX.refsVE bmBF = true) (saBF : PySem.W.findIn K (.ref BF) "__setattr__" = some (some (.builtin "object.__setattr__"))) (exBF : PySem.W.subIn K (.ref BF) (.type "BaseException") = some true) (tyBF : PySem.W.typeIn K (.ref BF) = some (.type "type")) (kpBF : PySem.W.keepIn K (.ref BF) = true) (gaBF : PySem.W.findIn K (.ref BF) "__getattribute__" = some (some (.builtin "BaseException.__getattribute__"))) (ggBF : PySem.W.findIn K (.ref BF) "__getattr__" = some none) (hdBF : PySem.W.hasDictIn K BF = true) (naBF : PySem.W.findIn K (.ref BF) "name" = some none) (caBF : PySem.W.findIn K (.ref BF) "__class__" = some (some (.builtin "object.__class__"))) (moBF : PySem.W.mroIn K BF (.type "object") = some true) (sBFBF : PySem.W.subIn K (.ref BF) (.ref BF) = some true)
    {od0 an0 : Option Addr} {sl0 : Array (Option Value)} {oc0 kV0 dc0 pm0 cd0 ct0 : Value} {f0 : Addr}
    (a0 : PySem.W.findIn K (.ref BF) "__init__" = some (some (.ref f0))) (i0 : PySem.W.isFn K (.ref f0) = true)
    (l0 : K.lookup f0 = some ⟨oc0, od0, .func (PySem.W.fnOf "__init__" "BadField.__init__" (defArgs s_BadField_init) (defBody s_BadField_init) (defScope s_BadField_init) .none kV0 dc0 pm0 an0 cd0 ct0), sl0⟩) (c0 : PySem.W.codeIn K cd0 "BadField.__init__" = true) (k0 : PySem.W.keepIn K (.ref f0) = true)
    {od1 an1 : Option Addr} {sl1 : Array (Option Value)} {oc1 kV1 dc1 pm1 cd1 ct1 : Value} {f1 : Addr}
    (a1 : PySem.W.nsIn K mainGlobals "pair" = some (some (.ref f1))) (l1 : K.lookup f1 = some ⟨oc1, od1, .func (PySem.W.fnOf "pair" "pair" (defArgs s_pair) (defBody s_pair) (defScope s_pair) .none kV1 dc1 pm1 an1 cd1 ct1), sl1⟩) (c1 : PySem.W.codeIn K cd1 "pair" = true) (k1 : PySem.W.keepIn K (.ref f1) = true)
    {od2 an2 : Option Addr} {sl2 : Array (Option Value)} {oc2 kV2 dc2 pm2 cd2 ct2 : Value} {f2 : Addr}
    (a2 : PySem.W.nsIn K mainGlobals "back" = some (some (.ref f2))) (l2 : K.lookup f2 = some ⟨oc2, od2, .func (PySem.W.fnOf "back" "back" (defArgs s_back) (defBody s_back) (defScope s_back) .none kV2 dc2 pm2 an2 cd2 ct2), sl2⟩) (c2 : PySem.W.codeIn K cd2 "back" = true) (k2 : PySem.W.keepIn K (.ref f2) = true)
    {od3 an3 : Option Addr} {sl3 : Array (Option Value)} {oc3 kV3 dc3 pm3 cd3 ct3 : Value} {f3 : Addr}
    (a3 : PySem.W.nsIn K mainGlobals "coloured" = some (some (.ref f3))) (l3 : K.lookup f3 = some ⟨oc3, od3, .func (PySem.W.fnOf "coloured" "coloured" (defArgs s_coloured) (defBody s_coloured) (defScope s_coloured) .none kV3 dc3 pm3 an3 cd3 ct3), sl3⟩) (c3 : PySem.W.codeIn K cd3 "coloured" = true) (k3 : PySem.W.keepIn K (.ref f3) = true)
    {od4 an4 : Option Addr} {sl4 : Array (Option Value)} {oc4 kV4 dc4 pm4 cd4 ct4 : Value} {f4 : Addr}
    (a4 : PySem.W.nsIn K mainGlobals "uncoloured" = some (some (.ref f4))) (l4 : K.lookup f4 = some ⟨oc4, od4, .func (PySem.W.fnOf "uncoloured" "uncoloured" (defArgs s_uncoloured) (defBody s_uncoloured) (defScope s_uncoloured) .none kV4 dc4 pm4 an4 cd4 ct4), sl4⟩) (c4 : PySem.W.codeIn K cd4 "uncoloured" = true) (k4 : PySem.W.keepIn K (.ref f4) = true)
    {od5 an5 : Option Addr} {sl5 : Array (Option Value)} {oc5 kV5 dc5 pm5 cd5 ct5 : Value} {f5 : Addr}
    (a5 : PySem.W.nsIn K mainGlobals "_coloured_cell" = some (some (.ref f5))) (l5 : K.lookup f5 = some ⟨oc5, od5, .func (PySem.W.fnOf "_coloured_cell" "_coloured_cell" (defArgs s_coloured_cell) (defBody s_coloured_cell) (defScope s_coloured_cell) .none kV5 dc5 pm5 an5 cd5 ct5), sl5⟩) (c5 : PySem.W.codeIn K cd5 "_coloured_cell" = true) (k5 : PySem.W.keepIn K (.ref f5) = true)
    {od6 an6 : Option Addr} {sl6 : Array (Option Value)} {oc6 kV6 dc6 pm6 cd6 ct6 : Value} {f6 : Addr}
    (a6 : PySem.W.nsIn K mainGlobals "_uncoloured_cell" = some (some (.ref f6))) (l6 : K.lookup f6 = some ⟨oc6, od6, .func (PySem.W.fnOf "_uncoloured_cell" "_uncoloured_cell" (defArgs s_uncoloured_cell) (defBody s_uncoloured_cell) (defScope s_uncoloured_cell) .none kV6 dc6 pm6 an6 cd6 ct6), sl6⟩) (c6 : PySem.W.codeIn K cd6 "_uncoloured_cell" = true) (k6 : PySem.W.keepIn K (.ref f6) = true)
    {od7 an7 : Option Addr} {sl7 : Array (Option Value)} {oc7 kV7 dc7 pm7 cd7 ct7 : Value} {f7 : Addr}
    (a7 : PySem.W.nsIn K mainGlobals "_check_form" = some (some (.ref f7))) (l7 : K.lookup f7 = some ⟨oc7, od7, .func (PySem.W.fnOf "_check_form" "_check_form" (defArgs s_check_form) (defBody s_check_form) (defScope s_check_form) .none kV7 dc7 pm7 an7 cd7 ct7), sl7⟩) (c7 : PySem.W.codeIn K cd7 "_check_form" = true) (k7 : PySem.W.keepIn K (.ref f7) = true)
    {od8 an8 : Option Addr} {sl8 : Array (Option Value)} {oc8 kV8 dc8 pm8 cd8 ct8 : Value} {f8 : Addr}
    (a8 : PySem.W.nsIn K mainGlobals "_cell_by_cell" = some (some (.ref f8))) (l8 : K.lookup f8 = some ⟨oc8, od8, .func (PySem.W.fnOf "_cell_by_cell" "_cell_by_cell" (defArgs s_cell_by_cell) (defBody s_cell_by_cell) (defScope s_cell_by_cell) .none kV8 dc8 pm8 an8 cd8 ct8), sl8⟩) (c8 : PySem.W.codeIn K cd8 "_cell_by_cell" = true) (k8 : PySem.W.keepIn K (.ref f8) = true)
    {od9 an9 : Option Addr} {sl9 : Array (Option Value)} {oc9 kV9 dc9 pm9 cd9 ct9 : Value} {f9 : Addr}
    (a9 : PySem.W.nsIn K mainGlobals "_law_pool" = some (some (.ref f9))) (l9 : K.lookup f9 = some ⟨oc9, od9, .func (PySem.W.fnOf "_law_pool" "_law_pool" (defArgs s_law_pool) (defBody s_law_pool) (defScope s_law_pool) .none kV9 dc9 pm9 an9 cd9 ct9), sl9⟩) (c9 : PySem.W.codeIn K cd9 "_law_pool" = true) (k9 : PySem.W.keepIn K (.ref f9) = true)
    {od10 an10 : Option Addr} {sl10 : Array (Option Value)} {oc10 kV10 dc10 pm10 cd10 ct10 : Value} {f10 : Addr}
    (a10 : PySem.W.nsIn K mainGlobals "_law_take" = some (some (.ref f10))) (l10 : K.lookup f10 = some ⟨oc10, od10, .func (PySem.W.fnOf "_law_take" "_law_take" (defArgs s_law_take) (defBody s_law_take) (defScope s_law_take) .none kV10 dc10 pm10 an10 cd10 ct10), sl10⟩) (c10 : PySem.W.codeIn K cd10 "_law_take" = true) (k10 : PySem.W.keepIn K (.ref f10) = true)
    {od11 an11 : Option Addr} {sl11 : Array (Option Value)} {oc11 kV11 dc11 pm11 cd11 ct11 : Value} {f11 : Addr}
    (a11 : PySem.W.nsIn K mainGlobals "_law_one" = some (some (.ref f11))) (l11 : K.lookup f11 = some ⟨oc11, od11, .func (PySem.W.fnOf "_law_one" "_law_one" (defArgs s_law_one) (defBody s_law_one) (defScope s_law_one) .none kV11 dc11 pm11 an11 cd11 ct11), sl11⟩) (c11 : PySem.W.codeIn K cd11 "_law_one" = true) (k11 : PySem.W.keepIn K (.ref f11) = true)
    {od12 an12 : Option Addr} {sl12 : Array (Option Value)} {oc12 kV12 dc12 pm12 cd12 ct12 : Value} {f12 : Addr}
    (a12 : PySem.W.nsIn K mainGlobals "_law_is_number" = some (some (.ref f12))) (l12 : K.lookup f12 = some ⟨oc12, od12, .func (PySem.W.fnOf "_law_is_number" "_law_is_number" (defArgs s_law_is_number) (defBody s_law_is_number) (defScope s_law_is_number) .none kV12 dc12 pm12 an12 cd12 ct12), sl12⟩) (c12 : PySem.W.codeIn K cd12 "_law_is_number" = true) (k12 : PySem.W.keepIn K (.ref f12) = true)
    {od13 an13 : Option Addr} {sl13 : Array (Option Value)} {oc13 kV13 dc13 pm13 cd13 ct13 : Value} {f13 : Addr}
    (a13 : PySem.W.nsIn K mainGlobals "_law_number" = some (some (.ref f13))) (l13 : K.lookup f13 = some ⟨oc13, od13, .func (PySem.W.fnOf "_law_number" "_law_number" (defArgs s_law_number) (defBody s_law_number) (defScope s_law_number) .none kV13 dc13 pm13 an13 cd13 ct13), sl13⟩) (c13 : PySem.W.codeIn K cd13 "_law_number" = true) (k13 : PySem.W.keepIn K (.ref f13) = true)
    {od14 an14 : Option Addr} {sl14 : Array (Option Value)} {oc14 kV14 dc14 pm14 cd14 ct14 : Value} {f14 : Addr}
    (a14 : PySem.W.nsIn K mainGlobals "_law_refused" = some (some (.ref f14))) (l14 : K.lookup f14 = some ⟨oc14, od14, .func (PySem.W.fnOf "_law_refused" "_law_refused" (defArgs s_law_refused) (defBody s_law_refused) (defScope s_law_refused) .none kV14 dc14 pm14 an14 cd14 ct14), sl14⟩) (c14 : PySem.W.codeIn K cd14 "_law_refused" = true) (k14 : PySem.W.keepIn K (.ref f14) = true)
    {od15 an15 : Option Addr} {sl15 : Array (Option Value)} {oc15 kV15 dc15 pm15 cd15 ct15 : Value} {f15 : Addr}
    (a15 : PySem.W.nsIn K mainGlobals "_law_channel" = some (some (.ref f15))) (l15 : K.lookup f15 = some ⟨oc15, od15, .func (PySem.W.fnOf "_law_channel" "_law_channel" (defArgs s_law_channel) (defBody s_law_channel) (defScope s_law_channel) .none kV15 dc15 pm15 an15 cd15 ct15), sl15⟩) (c15 : PySem.W.codeIn K cd15 "_law_channel" = true) (k15 : PySem.W.keepIn K (.ref f15) = true)
    {od16 an16 : Option Addr} {sl16 : Array (Option Value)} {oc16 kV16 dc16 pm16 cd16 ct16 : Value} {f16 : Addr}
    (a16 : PySem.W.nsIn K mainGlobals "_law_due" = some (some (.ref f16))) (l16 : K.lookup f16 = some ⟨oc16, od16, .func (PySem.W.fnOf "_law_due" "_law_due" (defArgs s_law_due) (defBody s_law_due) (defScope s_law_due) .none kV16 dc16 pm16 an16 cd16 ct16), sl16⟩) (c16 : PySem.W.codeIn K cd16 "_law_due" = true) (k16 : PySem.W.keepIn K (.ref f16) = true)
    {od17 an17 : Option Addr} {sl17 : Array (Option Value)} {oc17 kV17 dc17 pm17 cd17 ct17 : Value} {f17 : Addr}
    (a17 : PySem.W.nsIn K mainGlobals "_law_are_rows" = some (some (.ref f17))) (l17 : K.lookup f17 = some ⟨oc17, od17, .func (PySem.W.fnOf "_law_are_rows" "_law_are_rows" (defArgs s_law_are_rows) (defBody s_law_are_rows) (defScope s_law_are_rows) .none kV17 dc17 pm17 an17 cd17 ct17), sl17⟩) (c17 : PySem.W.codeIn K cd17 "_law_are_rows" = true) (k17 : PySem.W.keepIn K (.ref f17) = true)
    {od18 an18 : Option Addr} {sl18 : Array (Option Value)} {oc18 kV18 dc18 pm18 cd18 ct18 : Value} {f18 : Addr}
    (a18 : PySem.W.nsIn K mainGlobals "_law_right" = some (some (.ref f18))) (l18 : K.lookup f18 = some ⟨oc18, od18, .func (PySem.W.fnOf "_law_right" "_law_right" (defArgs s_law_right) (defBody s_law_right) (defScope s_law_right) .none kV18 dc18 pm18 an18 cd18 ct18), sl18⟩) (c18 : PySem.W.codeIn K cd18 "_law_right" = true) (k18 : PySem.W.keepIn K (.ref f18) = true)
    {od19 an19 : Option Addr} {sl19 : Array (Option Value)} {oc19 kV19 dc19 pm19 ct19 : Value} {f19 cc19 : Addr}
    (a19 : PySem.W.nsIn K mainGlobals "_law_refusals_right" = some (some (.ref f19))) (l19 : K.lookup f19 = some ⟨oc19, od19, .func (PySem.W.fnOf "_law_refusals_right" "_law_refusals_right" (defArgs s_law_refusals_right) (defBody s_law_refusals_right) (defScope s_law_refusals_right) .none kV19 dc19 pm19 an19 (.ref cc19) ct19), sl19⟩) (c19 : PySem.W.codeIn K (.ref cc19) "_law_refusals_right" = true) (k19 : PySem.W.keepIn K (.ref f19) = true)
    {od20 an20 : Option Addr} {sl20 : Array (Option Value)} {oc20 kV20 dc20 pm20 cd20 ct20 : Value} {f20 : Addr}
    (a20 : PySem.W.nsIn K mainGlobals "law" = some (some (.ref f20))) (l20 : K.lookup f20 = some ⟨oc20, od20, .func (PySem.W.fnOf "law" "law" (defArgs s_law) (defBody s_law) (defScope s_law) .none kV20 dc20 pm20 an20 cd20 ct20), sl20⟩) (c20 : PySem.W.codeIn K cd20 "law" = true) (k20 : PySem.W.keepIn K (.ref f20) = true)
    {BG O N : Addr} {PG : Addr} {tc19 : Value} {td19 : Option Addr} {tv19 : Array Value} {ts19 : Array (Option Value)} 
    (y0 : PySem.W.nsIn K mainGlobals "int" = some none)
    (y1 : PySem.W.nsIn K mainGlobals "bool" = some none)
    (y2 : PySem.W.nsIn K mainGlobals "len" = some none)
    (y3 : PySem.W.nsIn K mainGlobals "max" = some none)
    (y4 : PySem.W.nsIn K mainGlobals "min" = some none)
    (y5 : PySem.W.nsIn K mainGlobals "range" = some none)
    (y6 : PySem.W.nsIn K mainGlobals "isinstance" = some none)
    (y7 : PySem.W.nsIn K mainGlobals "list" = some none)
    (y8 : PySem.W.nsIn K mainGlobals "zip" = some none)
    (y9 : PySem.W.nsIn K mainGlobals "repr" = some none)
    (eBG : PySem.W.nsIn K mainGlobals "BadGrid" = some (some (.ref BG)))
    (eO : PySem.W.nsIn K mainGlobals "Outside" = some (some (.ref O)))
    (eN : PySem.W.nsIn K mainGlobals "NarrowError" = some (some (.ref N)))
    (m4 : PySem.W.specialIn K (.builtin "object.__class__") "__get__" = some (some (.builtin "getset_descriptor.__get__")))
    (m5 : PySem.W.takesIn K (.builtin "object.__class__") = some true)
    (exBG : PySem.W.excIn K BG [.type "ValueError", .type "Exception", .type "BaseException", .type "object"] "ValueError.__new__" = true)
    (kBGc : PySem.W.keepIn K (.ref BG) = true)
    (bBGc : PySem.W.subIn K (.ref BG) (.type "BaseException") = some true)
    (tBGc : PySem.W.typeIn K (.ref BG) = some (.type "type"))
    (m0BG : PySem.W.findIn K (.ref BG) "__getattribute__" = some (some (.builtin "BaseException.__getattribute__")))
    (m1BG : PySem.W.findIn K (.ref BG) "__getattr__" = some none)
    (m2BG : PySem.W.hasDictIn K BG = true)
    (m3BG : PySem.W.findIn K (.ref BG) "__class__" = some (some (.builtin "object.__class__")))
    (m6BG : PySem.W.mroIn K BG (.type "object") = some true)
    (sBGBG : PySem.W.subIn K (.ref BG) (.ref BG) = some true)
    (exO : PySem.W.excIn K O [.type "ValueError", .type "Exception", .type "BaseException", .type "object"] "ValueError.__new__" = true)
    (kOc : PySem.W.keepIn K (.ref O) = true)
    (bOc : PySem.W.subIn K (.ref O) (.type "BaseException") = some true)
    (tOc : PySem.W.typeIn K (.ref O) = some (.type "type"))
    (m0O : PySem.W.findIn K (.ref O) "__getattribute__" = some (some (.builtin "BaseException.__getattribute__")))
    (m1O : PySem.W.findIn K (.ref O) "__getattr__" = some none)
    (m2O : PySem.W.hasDictIn K O = true)
    (m3O : PySem.W.findIn K (.ref O) "__class__" = some (some (.builtin "object.__class__")))
    (m6O : PySem.W.mroIn K O (.type "object") = some true)
    (sOO : PySem.W.subIn K (.ref O) (.ref O) = some true)
    (iBGc : PySem.W.isClsIn K BG = true)
    (iOc : PySem.W.isClsIn K O = true)
    (iBFc : PySem.W.isClsIn K BF = true)
    (tBFc : PySem.W.typeIn K (.ref BF) = some (.type "type"))
    (iNc : PySem.W.isClsIn K N = true)
    (tNc : PySem.W.typeIn K (.ref N) = some (.type "type"))
    (sBFBG : PySem.W.subIn K (.ref BF) (.ref BG) = some false)
    (sBFO : PySem.W.subIn K (.ref BF) (.ref O) = some false)
    (sBGO : PySem.W.subIn K (.ref BG) (.ref O) = some false)
    (sOBG : PySem.W.subIn K (.ref O) (.ref BG) = some false)
    (sBGBF : PySem.W.subIn K (.ref BG) (.ref BF) = some false)
    (sOBF : PySem.W.subIn K (.ref O) (.ref BF) = some false)
    (sBGN : PySem.W.subIn K (.ref BG) (.ref N) = some true)
    (sON : PySem.W.subIn K (.ref O) (.ref N) = some true)
    (bNc : PySem.W.subIn K (.ref N) (.type "BaseException") = some true)
    (m2N : PySem.W.hasDictIn K N = true)
    (kVG : PySem.W.subIn K (.ref BG) (.type "ValueError") = some true)
    (kVO : PySem.W.subIn K (.ref O) (.type "ValueError") = some true)
    (zV : PySem.W.nsIn K mainGlobals "ValueError" = some none)
    (neCU : (f5 == f6) = false)
    (tiBF : PySem.W.typeIn K (.ref f0) = some (.type "function"))
    (tb19 : K.lookup cc19 = some ⟨tc19, td19, .fields tv19, ts19⟩)
    (tp19 : tv19[11]? = some (.ref PG))
    (hd19 : PySem.W.codeHdIn K cc19 PG = true)
    (nk19 : K.lookup PG = none)
    (hT0 : h.get? PG = some { cls := .none, data := .fields #[] }) :
    GdX.LawG l w K CX0 9 63 "_law_script" mg fa h := by
  have e := hfa.symm.trans (PySem.W.mg_of X G a20)
  cases e
  have T : Txt mg := ⟨PySem.W.mg_none_of X G y0, PySem.W.mg_none_of X G y1, PySem.W.mg_none_of X G y2, PySem.W.mg_none_of X G y3, PySem.W.mg_none_of X G y4, PySem.W.mg_none_of X G y5, PySem.W.mg_none_of X G y6, PySem.W.mg_none_of X G y7, PySem.W.mg_none_of X G y8, PySem.W.mg_none_of X G y9⟩
  have EBG : ECls K mg "BadGrid" BG := ⟨PySem.W.mg_of X G eBG, exBG, kBGc, bBGc, tBGc, ⟨m0BG, m1BG, bBGc, m2BG, m3BG, m4, m5, m6BG⟩, PySem.W.exm_ref bBGc m2BG tBGc sBGBG⟩
  have EO : ECls K mg "Outside" O := ⟨PySem.W.mg_of X G eO, exO, kOc, bOc, tOc, ⟨m0O, m1O, bOc, m2O, m3O, m4, m5, m6O⟩, PySem.W.exm_ref bOc m2O tOc sOO⟩
  have rBFBG := kit_ref iBGc tBGc sBFBG fun _ => sBFBF
  have rBFO := kit_ref iOc tOc sBFO fun _ => sBFBF
  have rBGBG := kit_ref iBGc tBGc sBGBG fun _ => sBGBG
  have rBGO := kit_ref iOc tOc sBGO fun _ => sBGBG
  have rOBG := kit_ref iBGc tBGc sOBG fun _ => sOO
  have rOO := kit_ref iOc tOc sOO fun _ => sOO
  have rBGBF := kit_ref iBFc tBFc sBGBF fun _ => sBGBG
  have rOBF := kit_ref iBFc tBFc sOBF fun _ => sOO
  have rBGN := kit_ref iNc tNc sBGN fun _ => sBGBG
  have rON := kit_ref iNc tNc sON fun _ => sOO
  have glBF := PySem.W.mg_of X G eBF
  have oxBF : OexC K BF := ⟨⟨_, _, _, _, _, _, _, _, _, _, _, _, _, _, _, lcBF, rvBF⟩, saBF, exBF, tyBF, kpBF⟩
  have xfBF : XfC K BF := ⟨gaBF, ggBF, exBF, hdBF⟩
  have isBF : ExcC K BF := ⟨gaBF, ggBF, exBF, hdBF, caBF, m4, m5, moBF⟩
  have emBF := PySem.W.exm_ref exBF hdBF tyBF sBFBF
  have F0 := fun_mk (st := s_BadField_init) l0 c0 k0
  have b0 := F0.binds (ps := ["self", "name"]) fun _ _ _ _ _ _ us hl => match us, hl with | [_, _], _ => rfl
  have F1 := fun_mk (st := s_pair) l1 c1 k1
  have b1 := F1.binds (ps := ["a", "b"]) fun _ _ _ _ _ _ us hl => match us, hl with | [_, _], _ => rfl
  have F2 := fun_mk (st := s_back) l2 c2 k2
  have b2 := F2.binds (ps := ["s", "d"]) fun _ _ _ _ _ _ us hl => match us, hl with | [_, _], _ => rfl
  have F3 := fun_mk (st := s_coloured) l3 c3 k3
  have b3 := F3.binds (ps := ["channels"]) fun _ _ _ _ _ _ us hl => match us, hl with | [_], _ => rfl
  have F4 := fun_mk (st := s_uncoloured) l4 c4 k4
  have b4 := F4.binds (ps := ["channels"]) fun _ _ _ _ _ _ us hl => match us, hl with | [_], _ => rfl
  have F5 := fun_mk (st := s_coloured_cell) l5 c5 k5
  have b5 := F5.binds (ps := ["r", "g", "b"]) fun _ _ _ _ _ _ us hl => match us, hl with | [_, _, _], _ => rfl
  have F6 := fun_mk (st := s_uncoloured_cell) l6 c6 k6
  have b6 := F6.binds (ps := ["y", "u", "v"]) fun _ _ _ _ _ _ us hl => match us, hl with | [_, _, _], _ => rfl
  have F7 := fun_mk (st := s_check_form) l7 c7 k7
  have b7 := F7.binds (ps := ["channels"]) fun _ _ _ _ _ _ us hl => match us, hl with | [_], _ => rfl
  have F8 := fun_mk (st := s_cell_by_cell) l8 c8 k8
  have b8 := F8.binds (ps := ["channels", "change"]) fun _ _ _ _ _ _ us hl => match us, hl with | [_, _], _ => rfl
  have F9 := fun_mk (st := s_law_pool) l9 c9 k9
  have b9 := F9.binds (ps := ["_law_script", "_law_k"]) fun _ _ _ _ _ _ us hl => match us, hl with | [_, _], _ => rfl
  have F10 := fun_mk (st := s_law_take) l10 c10 k10
  have b10 := F10.binds (ps := ["_law_source", "_law_top"]) fun _ _ _ _ _ _ us hl => match us, hl with | [_, _], _ => rfl
  have F11 := fun_mk (st := s_law_one) l11 c11 k11
  have b11 := F11.binds (ps := ["_law_source", "_law_things"]) fun _ _ _ _ _ _ us hl => match us, hl with | [_, _], _ => rfl
  have F12 := fun_mk (st := s_law_is_number) l12 c12 k12
  have b12 := F12.binds (ps := ["_law_n"]) fun _ _ _ _ _ _ us hl => match us, hl with | [_], _ => rfl
  have F13 := fun_mk (st := s_law_number) l13 c13 k13
  have b13 := F13.binds (ps := ["_law_source"]) fun _ _ _ _ _ _ us hl => match us, hl with | [_], _ => rfl
  have F14 := fun_mk (st := s_law_refused) l14 c14 k14
  have b14 := F14.binds (ps := ["_law_call"]) fun _ _ _ _ _ _ us hl => match us, hl with | [_], _ => rfl
  have F15 := fun_mk (st := s_law_channel) l15 c15 k15
  have b15 := F15.binds (ps := ["_law_source", "_law_wide", "_law_high"]) fun _ _ _ _ _ _ us hl => match us, hl with | [_, _, _], _ => rfl
  have F16 := fun_mk (st := s_law_due) l16 c16 k16
  have b16 := F16.binds (ps := ["_law_r", "_law_g", "_law_b"]) fun _ _ _ _ _ _ us hl => match us, hl with | [_, _, _], _ => rfl
  have F17 := fun_mk (st := s_law_are_rows) l17 c17 k17
  have b17 := F17.binds (ps := ["_law_told", "_law_due_here"]) fun _ _ _ _ _ _ us hl => match us, hl with | [_, _], _ => rfl
  have F18 := fun_mk (st := s_law_right) l18 c18 k18
  have b18 := F18.binds (ps := ["_law_source", "_law_wide", "_law_high"]) fun _ _ _ _ _ _ us hl => match us, hl with | [_, _, _], _ => rfl
  have F19 := fun_mk (st := s_law_refusals_right) l19 c19 k19
  have FC19 := funC_mk (st := s_law_refusals_right) l19 c19
  have b19 := F19.binds (ps := ["_law_source", "_law_wide", "_law_high"]) fun _ _ _ _ _ _ us hl => match us, hl with | [_, _, _], _ => rfl
  have F20 := fun_mk (st := s_law) l20 c20 k20
  have b20 := F20.binds (ps := ["_law_script"]) fun _ _ _ _ _ _ us hl => match us, hl with | [_], _ => rfl
  refine ⟨PySem.W.fnOf "law" "law" (defArgs s_law) (defBody s_law) (defScope s_law) .none kV20 dc20 pm20 an20 cd20 ct20, [(cc19, PG)], (spLaw K PG), fun p hp => by
    simp only [List.mem_cons, List.not_mem_nil, or_false] at hp
    rcases hp with rfl
    · exact hT0, fun p hp => by
    simp only [List.mem_cons, List.not_mem_nil, or_false] at hp
    rcases hp with rfl
    · exact nk19, fun p hp => by
    simp only [List.mem_cons, List.not_mem_nil, or_false] at hp
    rcases hp with rfl
    · exact PySem.W.codeHd_of_K X hd19, fun s v => .of_eq rfl, fun H a ns hl _ hH hS => ⟨a, ns, rfl, hS, hl, (fun p hp => by
    rw [List.mem_singleton.mp hp]
    exact LamX.TabS.nil (hH (cc19, PG) (by simp))), fun _ => rfl⟩, fun base _ _ TB => ?_⟩
  have TB0 := TB (cc19, PG) (by simp)
  have XF : XDef l.prog w K mg base "BadField" "name" BF := ⟨glBF, oxBF, xfBF, naBF, isBF, emBF, ⟨_, _, a0, tiBF, ok_badfield (k := 0) F0 oxBF naBF, b0⟩⟩
  have Z1 : C8.Cal l.prog w K mg base 1 "pair" spPair [] := ⟨_, _, _, _, ok_pair F1 T, PySem.W.mg_of X G a1, k1, b1, .nil⟩
  have Z2 : C8.Cal l.prog w K mg base 1 "back" spBack [] := ⟨_, _, _, _, ok_back F2 T, PySem.W.mg_of X G a2, k2, b2, .nil⟩
  have HE : Heldd l.prog w K mg base f5 f6 := ⟨⟨_, _, ok_ccell (k := 0) F5 T Z1, k5, b5⟩, ⟨_, _, ok_ucell (k := 0) F6 T Z2, k6, b6⟩, ne_of_beq_false neCU⟩
  have GCF := ok_chkf (P := l.prog) (w := w) (base := base) (k := 0) F7 T EBG
  have Z8 : C8.Cal l.prog w K mg base 3 "_cell_by_cell" (spCbc K f5 f6) [] := ⟨_, _, _, _, ok_cbc F8 T HE, PySem.W.mg_of X G a8, k8, b8, .nil⟩
  have GCO := ok_col (P := l.prog) (w := w) (base := base) (k := 0) F3 T (PySem.W.mg_of X G a5) GCF (PySem.W.mg_of X G a7) k7 b7 Z8
  have GUN := ok_unc (P := l.prog) (w := w) (base := base) (k := 0) F4 T (PySem.W.mg_of X G a6) GCF (PySem.W.mg_of X G a7) k7 b7 Z8
  have Z9 : C8.Cal l.prog w K mg base 1 "_law_pool" (spPool K) [] := ⟨_, _, _, _, ok_pool F9 T, PySem.W.mg_of X G a9, k9, b9, .nil⟩
  have Z10 : C8.Cal l.prog w K mg base 1 "_law_take" spTake [] := ⟨_, _, _, _, ok_take F10 T, PySem.W.mg_of X G a10, k10, b10, .nil⟩
  have Z11 : C8.Cal l.prog w K mg base 2 "_law_one" spOne [] := ⟨_, _, _, _, ok_one F11 T Z10, PySem.W.mg_of X G a11, k11, b11, .nil⟩
  have Z13 : C8.Cal l.prog w K mg base 2 "_law_number" spNum [] := ⟨_, _, _, _, ok_number F13 T Z10, PySem.W.mg_of X G a13, k13, b13, .nil⟩
  have Z12 : C8.Cal l.prog w K mg base 1 "_law_is_number" spIsNum [] := ⟨_, _, _, _, ok_lisnum F12 T, PySem.W.mg_of X G a12, k12, b12, .nil⟩
  have Z15 : C8.Cal l.prog w K mg base 3 "_law_channel" spChan [] := ⟨_, _, _, _, ok_chan F15 T Z11 Z13, PySem.W.mg_of X G a15, k15, b15, .nil⟩
  have Z16 : C8.Cal l.prog w K mg base 1 "_law_due" spDue [] := ⟨_, _, _, _, ok_due F16 T, PySem.W.mg_of X G a16, k16, b16, .nil⟩
  have Z17 : C8.Cal l.prog w K mg base 2 "_law_are_rows" (spAre K) [] := ⟨_, _, _, _, ok_are F17 T Z12, PySem.W.mg_of X G a17, k17, b17, .nil⟩
  have gB : GO K BG O BF N BG 0 := ⟨by decide, EBG.ex, PySem.W.exm_ref exBF hdBF tyBF sBGBF, PySem.W.exm_ref bNc m2N tNc sBGN, rBGBG, rBGO, kit_tyr (by decide +kernel) kVG⟩
  have D : RefD l.prog w K mg base f14 BG O BF N := ⟨EBG.gC, EO.gC, PySem.W.mg_of X G eN, PySem.W.mg_none_of X G zV, XF, rBFBG, rBFO, PySem.W.mg_of X G a14, k14, ⟨_, _, _, _, _, _, _, _, _, l14, c14, b14⟩⟩
  have GRI := ok_rightL (P := l.prog) (w := w) (base := base) (k := 0) F18 T Z15 Z16 Z17 GCO (PySem.W.mg_of X G a3) k3 b3 GUN (PySem.W.mg_of X G a4) k4 b4
  have Z19 : C8.Cal l.prog w K mg base 8 "_law_refusals_right" (spRefus PG) [] := ⟨_, _, _, _, ok_refus FC19 T D gB TB0 GCO (PySem.W.mg_of X G a3) k3 b3 GUN (PySem.W.mg_of X G a4) k4 b4 Z15 Z10, PySem.W.mg_of X G a19, k19, b19, .nil⟩
  exact ok_law F20 T Z9 Z10 GCO (PySem.W.mg_of X G a3) k3 b3 GRI (PySem.W.mg_of X G a18) k18 b18 Z19
end My
open PySem PySem.W PyProof.Rows
set_option maxRecDepth 100000 in
set_option maxHeartbeats 0 in
theorem PySem.Challenge.cw_narrowingbits_k23_colours_and_back_holds : PySem.Challenge.rw_narrowingbits_k23_colours_and_back.Holds := by
  w_on; o_law; k_head; (case hw => w_witness2)
  k_fill
  refine GdX.walk_ofG (l := PySem.Challenge.rw_narrowingbits_k23_colours_and_back) (n := 63) (k := 9) (x := "_law_script") (CX := fun _ => L2.CX0) rfl (by decide) rfl ⟨rfl, by decide, by decide⟩ (fun w h Y => PySem.W.km_in_of Y) ?F (fun _ _ _ _ _ h => h)
  case F =>
    intro w mg fa h Y KX G hmg
    have hT8 := PySem.W.km_tabs_of Y
    refine' My.all_mk KX G hmg ?eBF ?lcBF ?rvBF ?saBF ?exBF ?tyBF ?kpBF ?gaBF ?ggBF ?hdBF ?naBF ?caBF ?moBF ?sBFBF ?a0 ?i0 ?l0 ?c0 ?k0 ?a1 ?l1 ?c1 ?k1 ?a2 ?l2 ?c2 ?k2 ?a3 ?l3 ?c3 ?k3 ?a4 ?l4 ?c4 ?k4 ?a5 ?l5 ?c5 ?k5 ?a6 ?l6 ?c6 ?k6 ?a7 ?l7 ?c7 ?k7 ?a8 ?l8 ?c8 ?k8 ?a9 ?l9 ?c9 ?k9 ?a10 ?l10 ?c10 ?k10 ?a11 ?l11 ?c11 ?k11 ?a12 ?l12 ?c12 ?k12 ?a13 ?l13 ?c13 ?k13 ?a14 ?l14 ?c14 ?k14 ?a15 ?l15 ?c15 ?k15 ?a16 ?l16 ?c16 ?k16 ?a17 ?l17 ?c17 ?k17 ?a18 ?l18 ?c18 ?k18 ?a19 ?l19 ?c19 ?k19 ?a20 ?l20 ?c20 ?k20 ?y0 ?y1 ?y2 ?y3 ?y4 ?y5 ?y6 ?y7 ?y8 ?y9 ?eBG ?eO ?eN ?m4 ?m5 ?exBG ?kBGc ?bBGc ?tBGc ?m0BG ?m1BG ?m2BG ?m3BG ?m6BG ?sBGBG ?exO ?kOc ?bOc ?tOc ?m0O ?m1O ?m2O ?m3O ?m6O ?sOO ?iBGc ?iOc ?iBFc ?tBFc ?iNc ?tNc ?sBFBG ?sBFO ?sBGO ?sOBG ?sBGBF ?sOBF ?sBGN ?sON ?bNc ?m2N ?kVG ?kVO ?zV ?neCU ?tiBF ?tb19 ?tp19 ?hd19 ?nk19 ?hT0
    (case eBF => k_is)
    (case lcBF => k_is)
    (case rvBF => rfl)
    (case saBF => k_is)
    (case exBF => k_is)
    (case tyBF => k_is)
    (case kpBF => k_is)
    (case gaBF => k_is)
    (case ggBF => k_is)
    (case hdBF => k_is)
    (case naBF => k_is)
    (case caBF => k_is)
    (case moBF => k_is)
    (case sBFBF => k_is)
    (case a0 => k_is); (case i0 => k_is); (case l0 => k_is); (case c0 => k_is); (case k0 => k_is)
    (case a1 => k_is); (case l1 => k_is); (case c1 => k_is); (case k1 => k_is)
    (case a2 => k_is); (case l2 => k_is); (case c2 => k_is); (case k2 => k_is)
    (case a3 => k_is); (case l3 => k_is); (case c3 => k_is); (case k3 => k_is)
    (case a4 => k_is); (case l4 => k_is); (case c4 => k_is); (case k4 => k_is)
    (case a5 => k_is); (case l5 => k_is); (case c5 => k_is); (case k5 => k_is)
    (case a6 => k_is); (case l6 => k_is); (case c6 => k_is); (case k6 => k_is)
    (case a7 => k_is); (case l7 => k_is); (case c7 => k_is); (case k7 => k_is)
    (case a8 => k_is); (case l8 => k_is); (case c8 => k_is); (case k8 => k_is)
    (case a9 => k_is); (case l9 => k_is); (case c9 => k_is); (case k9 => k_is)
    (case a10 => k_is); (case l10 => k_is); (case c10 => k_is); (case k10 => k_is)
    (case a11 => k_is); (case l11 => k_is); (case c11 => k_is); (case k11 => k_is)
    (case a12 => k_is); (case l12 => k_is); (case c12 => k_is); (case k12 => k_is)
    (case a13 => k_is); (case l13 => k_is); (case c13 => k_is); (case k13 => k_is)
    (case a14 => k_is); (case l14 => k_is); (case c14 => k_is); (case k14 => k_is)
    (case a15 => k_is); (case l15 => k_is); (case c15 => k_is); (case k15 => k_is)
    (case a16 => k_is); (case l16 => k_is); (case c16 => k_is); (case k16 => k_is)
    (case a17 => k_is); (case l17 => k_is); (case c17 => k_is); (case k17 => k_is)
    (case a18 => k_is); (case l18 => k_is); (case c18 => k_is); (case k18 => k_is)
    (case a19 => k_is); (case l19 => k_is); (case c19 => k_is); (case k19 => k_is)
    (case a20 => k_is); (case l20 => k_is); (case c20 => k_is); (case k20 => k_is)
    (case y0 => k_is)
    (case y1 => k_is)
    (case y2 => k_is)
    (case y3 => k_is)
    (case y4 => k_is)
    (case y5 => k_is)
    (case y6 => k_is)
    (case y7 => k_is)
    (case y8 => k_is)
    (case y9 => k_is)
    (case eBG => k_is)
    (case eO => k_is)
    (case eN => k_is)
    (case m4 => k_is)
    (case m5 => k_is)
    (case kBGc => k_is)
    (case bBGc => k_is)
    (case tBGc => k_is)
    (case m0BG => k_is)
    (case m1BG => k_is)
    (case m2BG => k_is)
    (case m3BG => k_is)
    (case m6BG => k_is)
    (case sBGBG => k_is)
    (case kOc => k_is)
    (case bOc => k_is)
    (case tOc => k_is)
    (case m0O => k_is)
    (case m1O => k_is)
    (case m2O => k_is)
    (case m3O => k_is)
    (case m6O => k_is)
    (case sOO => k_is)
    (case iBGc => k_is)
    (case iOc => k_is)
    (case iBFc => k_is)
    (case tBFc => k_is)
    (case iNc => k_is)
    (case tNc => k_is)
    (case sBFBG => k_is)
    (case sBFO => k_is)
    (case sBGO => k_is)
    (case sOBG => k_is)
    (case sBGBF => k_is)
    (case sOBF => k_is)
    (case sBGN => k_is)
    (case sON => k_is)
    (case bNc => k_is)
    (case m2N => k_is)
    (case kVG => k_is)
    (case kVO => k_is)
    (case zV => k_is)
    (case tiBF => k_is)
    (case tb19 => k_is)
    (case tp19 => rfl)
    (case hd19 => kernel_rfl)
    (case nk19 => kernel_rfl)
    (case neCU => rfl)
    (case exBG => k_exc)
    (case exO => k_exc)
    (case hT0 => exact hT8 _ (by k_mem))
