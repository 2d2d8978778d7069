import PyProof.Rows.All
import Wide.All
import OpenK.AllK
import Wide.FinOn
import HandS.ForMost
import HandS.ForExc
import HandS.Evl
import HandS.Wide
import HandS.Gcd
import HandS.IsInst
import Flt.RightSqrt
import KE.KMathG
import HandS.SetTxt0
import HandS.SetFor
import HandS.Set
import HandS.SetKeys
import Wide.More
import PyProof.Rows.SortShellAny
import KE.KNest
import HandS.AnyAll
import HandS.JoinGen
import HandS.EndTab
import PyProof.SumAny
import HandS.More
import PyProof.StrBlock2
import HandS.DeepEq
import KE.KDictSum
import KE.SortData
import HandS.Conv
import HandS.Strs
import HandS.Style
import HandS.DictComp
import HandS.FStr
import HandS.Lambda
import HandS.ListItems
import HandS.GenList
import HandS.Flt
import HandS.ExcIs
import HandS.Deep
import HandS.DictTup
import HandS.Conv
import HandS.SetBool
import HandS.TupSets
import KE.DatumOrd
import PySem.Challenge.RW_muchalike_k66_sets_within_others
set_option Elab.async false
set_option linter.all false
set_option maxRecDepth 100000
set_option maxHeartbeats 8000000

namespace MuK
open PySem PySem.Spec PyProof.Rows L2 Evl

/-! ### general rules -/
def CPowW (i j : Int) : Prop := 0 ≤ j ∧ (Builtin.Int.intBits i : Int) * j ≤ 2 ^ 27
theorem op_powW {X : Cx} : OpR X (binaryOp .Pow) (rI CPowW fun i j => .int (i ^ j.toNat)) := opI fun _ _ _ _ _ _ _ hc q => pow_int hc.1 hc.2 q

/-- promises: a value, a new tuple, a new list -/
def SpVal (D : Hp → List V → V → Prop) : Sp := fun vs H Q _ => ∃ v, D H vs v ∧ ∀ H', Ex H H' → Q v H'
def SpTup (D : Hp → List V → List V → Prop) : Sp := fun vs H Q _ => ∃ xs, D H vs xs ∧ ∀ p H', H p = none → Ex H H' → H' p = some (.tup xs) → Q (.ref p) H'
def SpLst (D : Hp → List V → List V → Prop) : Sp := fun vs H Q _ => ∃ xs, D H vs xs ∧ ∀ p H', H p = none → Ex H H' → H' p = some (.lst xs) → Q (.ref p) H'

section
variable {K : PySem.W.Frag} {σ : L2.St} {H H' : Hp} {ta tb te : TE} {t u : TT} {x y z v : V} {D : Ends} {tu tw tz : TS}
def SpU (sp : Sp) (vs : List V) (H : Hp) (xs : List V) : Prop := ∀ H1, Ex H H1 → ∀ Q : VK, (∀ p H2, H1 p = none → Ex H1 H2 → H2 p = some (.tup xs) → Q (.ref p) H2) → ∀ E : XK, sp vs H1 Q E
theorem eu_call {sp : Sp} {dvs vs xs : List V} {E : XK} {ta : TA} (h : EvA ta σ H vs) (hs : SpU sp (vs ++ dvs) H xs) : EvU (tCall sp dvs E ta) σ H xs := fun H1 e Q q =>
  h H1 e _ fun H2 e2 => hs H2 (e.trans e2) Q (fun p H3 hp e3 h3 => q p H3 (fresh_back e2 hp) (e2.trans e3) h3) E
theorem spVal {Dd : Hp → List V → V → Prop} {vs : List V} (h : ∀ H1, Ex H H1 → Dd H1 vs v) : SpV (SpVal Dd) vs H v := fun H1 e _ q _ => ⟨v, h H1 e, q⟩
theorem spTup {Dd : Hp → List V → List V → Prop} {vs xs : List V} (h : ∀ H1, Ex H H1 → Dd H1 vs xs) : SpU (SpTup Dd) vs H xs := fun H1 e _ q _ => ⟨xs, h H1 e, q⟩
theorem spLst {Dd : Hp → List V → List V → Prop} {vs xs : List V} (h : ∀ H1, Ex H H1 → Dd H1 vs xs) : SpL (SpLst Dd) vs H xs := fun H1 e _ q _ => ⟨xs, h H1 e, q⟩
theorem ev_callV {Dd : Hp → List V → V → Prop} {vs : List V} {E : XK} {ta : TA} (h : EvA ta σ H vs) (hs : ∀ H1, Ex H H1 → Dd H1 vs v) : Ev (tCall (SpVal Dd) [] E ta) σ H v :=
  ev_call h (by rw [List.append_nil]; exact spVal hs)
theorem eu_callU {Dd : Hp → List V → List V → Prop} {vs xs : List V} {E : XK} {ta : TA} (h : EvA ta σ H vs) (hs : ∀ H1, Ex H H1 → Dd H1 vs xs) : EvU (tCall (SpTup Dd) [] E ta) σ H xs :=
  eu_call h (by rw [List.append_nil]; exact spTup hs)
theorem el_callL {Dd : Hp → List V → List V → Prop} {vs xs : List V} {E : XK} {ta : TA} (h : EvA ta σ H vs) (hs : ∀ H1, Ex H H1 → Dd H1 vs xs) : EvL (tCall (SpLst Dd) [] E ta) σ H xs :=
  el_call h (by rw [List.append_nil]; exact spLst hs)

/-- built-ins by values -/
theorem rc_min2 {i j : Int} : RC (fun xs H Q => ∃ i j, xs = [.int i, .int j] ∧ Q (.int (if j < i then j else i)) H) [.int i, .int j] H (.int (min i j)) := fun H1 _ Q q =>
  ⟨i, j, rfl, by have e : (if j < i then j else i) = min i j := by (split <;> omega)
                 rw [e]; exact q H1 (Ex.refl H1)⟩
theorem rc_max2 {i j : Int} : RC (fun xs H Q => ∃ i j, xs = [.int i, .int j] ∧ Q (.int (if j > i then j else i)) H) [.int i, .int j] H (.int (max i j)) := fun H1 _ Q q =>
  ⟨i, j, rfl, by have e : (if j > i then j else i) = max i j := by (split <;> omega)
                 rw [e]; exact q H1 (Ex.refl H1)⟩
theorem rc_gcd {a b : Int} : RC rGcd [.int a, .int b] H (.int ((Nat.gcd a.natAbs b.natAbs : Nat) : Int)) := fun H1 _ _ q => ⟨a, b, rfl, q H1 (Ex.refl H1)⟩
theorem rc_lenT {p : Addr} {ys : List V} (h : SqT K H p ys) : RC (fun xs H Q => ∃ p ys, xs = [.ref p] ∧ (SqL K H p ys ∨ SqT K H p ys) ∧ Q (.int ys.length) H) [.ref p] H (.int ys.length) := fun H1 e _ q => ⟨p, ys, rfl, .inr (ex_t e h), q H1 (Ex.refl H1)⟩
theorem rc_lenL {p : Addr} {ys : List V} (h : SqL K H p ys) : RC (fun xs H Q => ∃ p ys, xs = [.ref p] ∧ (SqL K H p ys ∨ SqT K H p ys) ∧ Q (.int ys.length) H) [.ref p] H (.int ys.length) := fun H1 e _ q => ⟨p, ys, rfl, .inl (ex_l e h), q H1 (Ex.refl H1)⟩
theorem rc_intB {k : Bool} : RC (fun xs H Q => (∃ i, xs = [.int i] ∧ Q (.int i) H) ∨ ∃ k, xs = [.bl k] ∧ Q (.int (if k then 1 else 0)) H) [.bl k] H (.int (if k then 1 else 0)) := fun H1 _ _ q => .inr ⟨k, rfl, q H1 (Ex.refl H1)⟩
theorem rc_isiInt {i : Int} {n : String} {b : Bool} (h : PySem.W.kitOne K (.type "int") (.type n) = some b) : RC (rIsi K) [.int i, .ty n] H (.bl b) := fun H1 _ _ q => ⟨_, _, _, _, b, rfl, .ty n, .base (.int i), h, q H1 (Ex.refl H1)⟩
theorem rc_isiBool {i : Bool} {n : String} {b : Bool} (h : PySem.W.kitOne K (.type "bool") (.type n) = some b) : RC (rIsi K) [.bl i, .ty n] H (.bl b) := fun H1 _ _ q => ⟨_, _, _, _, b, rfl, .ty n, .base (.bl i), h, q H1 (Ex.refl H1)⟩
theorem rc_isiNone {n : String} {b : Bool} (h : PySem.W.kitOne K (.type "NoneType") (.type n) = some b) : RC (rIsi K) [.non, .ty n] H (.bl b) := fun H1 _ _ q => ⟨_, _, _, _, b, rfl, .ty n, .base .non, h, q H1 (Ex.refl H1)⟩
theorem rc_isiTup {p : Addr} {xs : List V} {n : String} {b : Bool} (hp : H p = some (.tup xs)) (h : PySem.W.kitOne K (.type "tuple") (.type n) = some b) : RC (rIsi K) [.ref p, .ty n] H (.bl b) := fun H1 e _ q => ⟨_, _, _, _, b, rfl, .ty n, .base (.tup (e p _ hp)), h, q H1 (Ex.refl H1)⟩
theorem rc_isiLst {p : Addr} {xs : List V} {n : String} {b : Bool} (hp : H p = some (.lst xs)) (h : PySem.W.kitOne K (.type "list") (.type n) = some b) : RC (rIsi K) [.ref p, .ty n] H (.bl b) := fun H1 e _ q => ⟨_, _, _, _, b, rfl, .ty n, .base (.lst (e p _ hp)), h, q H1 (Ex.refl H1)⟩
/-- lists joined, both new -/
theorem el_cat {xs ys : List V} (ha : EvL ta σ H xs) (hb : EvL tb σ H ys) (hz : xs.length + ys.length ≤ 100000) : EvL (tOp rCat ta tb) σ H (xs ++ ys) := fun H1 e Q q =>
  ha H1 e _ fun p H2 hp e2 h2 => hb H2 (e.trans e2) _ fun r H3 hr e3 h3 => ⟨p, r, xs, ys, rfl, rfl, e3 p _ h2, h3, sz_of hz, fun l hl => q l _ (fresh_back (e2.trans e3) hl) ((e2.trans e3).trans (Ex.new hl)) upd_same⟩
theorem el_catV {xs ys : List V} {a : Addr} (ha : Ev ta σ H (.ref a)) (h0 : H a = some (.lst xs)) (hb : EvL tb σ H ys) (hz : xs.length + ys.length ≤ 100000) : EvL (tOp rCat ta tb) σ H (xs ++ ys) := fun H1 e Q q =>
  ha H1 e _ fun H2 e2 => hb H2 (e.trans e2) _ fun r H3 hr e3 h3 => ⟨a, r, xs, ys, rfl, rfl, ((e.trans e2).trans e3) a _ h0, h3, sz_of hz, fun l hl => q l _ (fresh_back (e2.trans e3) hl) ((e2.trans e3).trans (Ex.new hl)) upd_same⟩
/-- an item of a new list -/
theorem ev_ixNew {xs : List V} {i : Int} (ha : EvL ta σ H xs) (hb : Ev tb σ H (.int i)) (h : atI xs i = some v) : Ev (tOp (rIxL K) ta tb) σ H v :=
  ev_opL1 ha (fun _ e => hb.mono e) fun _ _ hp _ => rv_ixL (sq_of hp) h
theorem rv_fdW {i j : Int} {b : Nat} (h : 0 < j) (hb : j.natAbs < 2 ^ b) (h0 : 0 < b) (h9 : b ≤ 9000) : RV (rI CDivW fun i j => .int (i / j)) (.int i) (.int j) H (.int (i / j)) := rv_I (wide_div h hb h0 h9)
theorem s_par {i j : Nat} {ta : TA} {v w : V} (h : EvA ta σ H [v, w]) (k : ∀ H1, Ex H H1 → D.nx ((σ.set i (some v)).set j (some w)) H1) : tPar i j ta D σ H := h H (Ex.refl H) _ fun H1 e => ⟨v, w, rfl, k H1 e⟩
theorem q_par {i j : Nat} {ta : TA} {v w : V} (h : EvA ta σ H [v, w]) (k : ∀ H1, Ex H H1 → tz D ((σ.set i (some v)).set j (some w)) H1) : tSeq (tPar i j ta) tz D σ H := s_par (D := { D with nx := tz D }) h k
/-- a, b = e, e a new tuple of two; of any tuple -/
theorem q_unp2 {i j : Nat} {x y : V} (h : EvU te σ H [x, y]) (k : ∀ H1, Ex H H1 → tz D ((σ.set i (some x)).set j (some y)) H1) : tSeq (tAsg te (gTup K 2 (gCons (gName i) (gCons (gName j) gNil)))) tz D σ H :=
  h H (Ex.refl H) _ fun p H1 _ e hp => ⟨p, [x, y], rfl, st_of hp, rfl, x, [y], rfl, y, [], rfl, rfl, k H1 e⟩
theorem q_unp2V {i j : Nat} {p : Addr} {x y : V} (h : Ev te σ H (.ref p)) (h2 : SqT K H p [x, y]) (k : ∀ H1, Ex H H1 → tz D ((σ.set i (some x)).set j (some y)) H1) : tSeq (tAsg te (gTup K 2 (gCons (gName i) (gCons (gName j) gNil)))) tz D σ H :=
  h H (Ex.refl H) _ fun H1 e => ⟨p, [x, y], rfl, ex_t e h2, rfl, x, [y], rfl, y, [], rfl, rfl, k H1 e⟩
theorem decs {a b : Str} : decide (V.str a = V.str b) = decide (a = b) := by
  by_cases h : a = b
  · subst h; simp
  · rw [decide_eq_false h]; exact decide_eq_false fun e => h (V.str.inj e)
theorem deci {a b : Int} : decide (V.int a = V.int b) = decide (a = b) := by
  by_cases h : a = b
  · subst h; simp
  · rw [decide_eq_false h]; exact decide_eq_false fun e => h (V.int.inj e)
theorem rv_eqS {a b : Str} : RV rEq (.str a) (.str b) H (.bl (decide (a = b))) := by rw [← decs]; exact rv_eq rfl
theorem rv_eqI {a b : Int} : RV rEq (.int a) (.int b) H (.bl (decide (a = b))) := by rw [← deci]; exact rv_eq rfl
theorem rv_neS {a b : Str} : RV rNe (.str a) (.str b) H (.bl (!decide (a = b))) := by rw [← decs]; exact rv_ne rfl
theorem rv_neI {a b : Int} : RV rNe (.int a) (.int b) H (.bl (!decide (a = b))) := by rw [← deci]; exact rv_ne rfl
theorem vals_map_str : ∀ {xs : List (Str × Tok)}, Vals (xs.map fun p => V.str p.1) (xs.map fun p => Value.str p.1 p.2)
  | [] => .nil
  | _ :: _ => .cons ⟨_, rfl⟩ vals_map_str
theorem dp_ints : ∀ (ns : List Int), DpAll K H (ns.map V.int) (ns.map PyData.int)
  | [] => .nil
  | n :: ns => .cons (.int n) (dp_ints ns)
/-- an argument that is a new tuple, a new list -/
theorem ev_callU1 {Dd : Hp → List V → V → Prop} {E : XK} {tr : TA} {vs xs : List V} (h : EvU te σ H xs) (hr : EvA tr σ H vs) (hs : ∀ p H1, Ex H H1 → H1 p = some (.tup xs) → Dd H1 (.ref p :: vs) v) : Ev (tCall (SpVal Dd) [] E (tCons te tr)) σ H v := fun H1 e Q q =>
  h H1 e _ fun p H2 _ e2 hp => hr H2 (e.trans e2) _ fun H3 e3 => ⟨v, by rw [List.append_nil]; exact hs p H3 ((e.trans e2).trans e3) (e3 p _ hp), fun H4 e4 => q H4 ((e2.trans e3).trans e4)⟩
theorem atI_mod {α : Type} {xs : List α} {n : Int} {m : Nat} (d : α) (hm : xs.length = m) (h0 : 0 < m) : atI xs (n % (m : Int)) = some (xs.getD (n % (m : Int)).toNat d) := by
  have h1 : 0 ≤ n % (m : Int) := Int.emod_nonneg _ (by omega)
  have h2 : n % (m : Int) < m := Int.emod_lt_of_pos _ (by omega)
  have h3 : (((n % (m : Int)).toNat : Nat) : Int) = n % (m : Int) := Int.toNat_of_nonneg h1
  have h4 : (n % (m : Int)).toNat < xs.length := by omega
  have h5 : xs[(n % (m : Int)).toNat]? = some (xs.getD (n % (m : Int)).toNat d) := by
    rw [List.getD_eq_getElem?_getD, List.getElem?_eq_getElem h4]; rfl
  have h6 := atI_nat h5
  rw [h3] at h6
  exact h6
theorem atI_modI {xs : List Int} {n : Int} {m : Nat} (hm : xs.length = m) (h0 : 0 < m) : atI (xs.map V.int) (n % (m : Int)) = some (.int (xs.getD (n % (m : Int)).toNat 0)) := by
  have h := atI_mod (xs := xs.map V.int) (n := n) (m := m) (.int 0) (by rw [List.length_map]; exact hm) h0
  rw [h]
  congr 1
  rw [List.getD_eq_getElem?_getD, List.getD_eq_getElem?_getD, List.getElem?_map]
  cases xs[(n % (m : Int)).toNat]? <;> rfl
theorem cutV_mem {xs : List V} {lo hi : Option Int} {x : V} (h : x ∈ cutV xs lo hi) : x ∈ xs := List.mem_of_mem_drop (List.mem_of_mem_take h)
theorem sqT_written {f : Addr} {od : Option Addr} {vs : List V} {us : List Value} {n : Nat} {sl : Array (Option Value)} (h : K.lookup f = some ⟨.type "tuple", od, .seq us.toArray n, sl⟩) (r : Vals vs us) (hz : us.length ≤ 1000) : SqT K H f vs :=
  .inr ⟨_, us.toArray, n, h, rfl, rfl, by rw [List.size_toArray]; exact sz_of (by omega), by simpa using r⟩
theorem el_is {xs ys : List V} (h : EvL te σ H xs) (e : xs = ys) : EvL te σ H ys := by
  rw [← e]
  exact h
theorem eu_is {xs ys : List V} (h : EvU te σ H xs) (e : xs = ys) : EvU te σ H ys := by
  rw [← e]
  exact h
theorem given_map (ns : List Int) (f : Int → Int) : given ns.length (fun _ => true) (fun i => .int (f (ns.getD i 0))) = (ns.map f).map V.int := by
  unfold given
  rw [List.filter_eq_self.mpr (fun _ _ => rfl)]
  apply List.ext_getElem
  · simp
  · intro i h1 h2
    simp at h1
    simp [List.getD_eq_getElem?_getD, h1]
theorem ev_chain {r r' : R2} {tc : TE} {a b : Bool} (ha : Ev ta σ H x) (hb : Ev tb σ H y) (hr : RV r x y H (.bl a)) (hc : a = true → Ev tc σ H z) (hr' : a = true → RV r' y z H (.bl b)) : Ev (tChain r r' ta tb tc) σ H (.bl (a && b)) := fun H1 e Q q =>
  ha H1 e _ fun H2 e2 => hb H2 (e.trans e2) _ fun H3 e3 => hr H3 ((e.trans e2).trans e3) _ fun H4 e4 => ⟨a, rfl, by
    have ee := ((e.trans e2).trans e3).trans e4
    cases a with
    | true =>
      show tc σ H4 fun w' H5 => r' y w' H5 Q
      exact hc rfl H4 ee _ fun H5 e5 => hr' rfl H5 (ee.trans e5) Q fun H6 e6 => q H6 ((((e2.trans e3).trans e4).trans e5).trans e6)
    | false =>
      show Q (.bl false) H4
      exact q H4 ((e2.trans e3).trans e4)⟩
theorem atI_modD {xs : List Int} {n : Int} {m : Nat} {d : Int} (hm : xs.length = m) (h0 : 0 < m) : atI (xs.map V.int) (n % (m : Int)) = some (.int (xs.getD (n % (m : Int)).toNat d)) := by
  have h := atI_mod (xs := xs.map V.int) (n := n) (m := m) (.int d) (by rw [List.length_map]; exact hm) h0
  rw [h]
  congr 1
  rw [List.getD_eq_getElem?_getD, List.getD_eq_getElem?_getD, List.getElem?_map]
  cases xs[(n % (m : Int)).toNat]? <;> rfl
theorem getDP {α : Type} {xs : List α} {d : α} {P : α → Prop} (h : ∀ x ∈ xs, P x) (h0 : P d) (i : Nat) : P (xs.getD i d) := by
  rw [List.getD_eq_getElem?_getD]
  cases e : xs[i]? with
  | none => exact h0
  | some x => exact h x (List.mem_of_getElem? e)
theorem cells_int {ns : List Int} {lo hi : Option Int} {a b : Int} {i : Nat} {x : V} (hx : (cutV (ns.map V.int) lo hi ++ [.int a, .int b])[i]? = some x) : ∃ c, x = .int c := by
  have hm := List.mem_of_getElem? hx
  rw [List.mem_append] at hm
  rcases hm with hm | hm
  · have := cutV_mem hm
    rw [List.mem_map] at this
    obtain ⟨z, _, rfl⟩ := this
    exact ⟨z, rfl⟩
  · simp only [List.mem_cons, List.not_mem_nil, or_false] at hm
    rcases hm with rfl | rfl
    · exact ⟨_, rfl⟩
    · exact ⟨_, rfl⟩
/-- two tuples of the same two ints are equal -/
theorem rv_eqT2 {p q : Addr} {x y : Int} (hp : H p = some (.tup [.int x, .int y])) (hq : H q = some (.tup [.int x, .int y])) : RV (rEqD K) (.ref p) (.ref q) H (.bl true) := fun H1 e Q k => by
  refine ⟨.tuple [.int x, .int y], .tuple [.int x, .int y], .tup (st_of (e p _ hp)) (.cons (.int x) (.cons (.int y) .nil)), .tup (st_of (e q _ hq)) (.cons (.int x) (.cons (.int y) .nil)), rfl, rfl, ?_⟩
  rw [SeqAt.eqv_refl]
  all_goals first | exact k H1 (Ex.refl H1) | rfl
theorem rv_neT2 {p q : Addr} {x y : Int} (hp : H p = some (.tup [.int x, .int y])) (hq : H q = some (.tup [.int x, .int y])) : RV (rNeD K) (.ref p) (.ref q) H (.bl false) := fun H1 e Q k => by
  refine ⟨.tuple [.int x, .int y], .tuple [.int x, .int y], .tup (st_of (e p _ hp)) (.cons (.int x) (.cons (.int y) .nil)), .tup (st_of (e q _ hq)) (.cons (.int x) (.cons (.int y) .nil)), rfl, rfl, ?_⟩
  rw [SeqAt.eqv_refl]
  all_goals first | exact k H1 (Ex.refl H1) | rfl
theorem atI_inI {xs : List Int} {n : Int} {d : Int} (h0 : 0 ≤ n) (h1 : n < xs.length) : atI (xs.map V.int) n = some (.int (xs.getD n.toNat d)) := by
  have h3 : ((n.toNat : Nat) : Int) = n := Int.toNat_of_nonneg h0
  have h4 : n.toNat < xs.length := by omega
  have h5 : (xs.map V.int)[n.toNat]? = some (.int (xs.getD n.toNat d)) := by
    rw [List.getElem?_map, List.getD_eq_getElem?_getD, List.getElem?_eq_getElem h4]; rfl
  have h6 := atI_nat h5
  rw [h3] at h6
  exact h6
theorem s_forNLn {xs : List V} {tl : TE} {j : Nat} (h : EvL tl σ H xs) (Pv : Addr → Nat → L2.St → Hp → Prop) (h0 : ∀ p H1, H p = none → Ex H H1 → H1 p = some (.lst xs) → Pv p 0 σ H1) (hl : ∀ p i σ' H', i ≤ xs.length → Pv p i σ' H' → SqL K H' p xs)
    (hs : ∀ p i x σ' H', xs[i]? = some x → Pv p i σ' H' → tu { D with nx := Pv p (i + 1), ct := Pv p (i + 1), bk := D.nx } (σ'.set j (some x)) H') (hd : ∀ p σ' H', Pv p xs.length σ' H' → D.nx σ' H') : tFor (iList K tl) (gName j) tu D σ H :=
  s_forNL h Pv h0 hl hs hd
end
end MuK

namespace MuK
open PySem PySem.Spec PyProof.Rows L2 Evl
/-! ### plain mathematics of the helpers -/
def divs (b : Int) : Nat → Int → Int
  | 0, c => c
  | n + 1, c => divs b n c / b
def mix (c : Int) (k : Nat) : Int :=
  if c ≥ 10 ^ 18 then divs (10 ^ 6) k c % 10 ^ 6 else
  ((((c % 1000003 + k * k * 7919 + k) * 48271 % 2147483629) * ((c % 1000003 + k * k * 7919 + k) * 48271 % 2147483629) % 2147483587) *
   ((((c % 1000003 + k * k * 7919 + k) * 48271 % 2147483629) * ((c % 1000003 + k * k * 7919 + k) * 48271 % 2147483629) % 2147483587) + 2)) % 2147483579 / 7
theorem mix_nn (c : Int) (k : Nat) : 0 ≤ mix c k := by
  unfold mix
  split
  · exact Int.emod_nonneg _ (by decide)
  · exact Int.ediv_nonneg (Int.emod_nonneg _ (by decide)) (by decide)
theorem mix_lt (c : Int) (k : Nat) : mix c k < 306783379 := by
  unfold mix
  split
  · have := Int.emod_lt_of_pos (divs (10 ^ 6) k c) (show (0 : Int) < 10 ^ 6 by decide)
    omega
  · generalize ((((c % 1000003 + k * k * 7919 + k) * 48271 % 2147483629) * ((c % 1000003 + k * k * 7919 + k) * 48271 % 2147483629) % 2147483587) * ((((c % 1000003 + k * k * 7919 + k) * 48271 % 2147483629) * ((c % 1000003 + k * k * 7919 + k) * 48271 % 2147483629) % 2147483587) + 2)) = z
    have := Int.emod_lt_of_pos z (show (0 : Int) < 2147483579 by decide)
    have := Int.emod_nonneg z (show (2147483579 : Int) ≠ 0 by decide)
    omega
theorem gcd_step (a b : Int) (ha : 0 ≤ a) (hb : 0 < b) : Nat.gcd b.natAbs (a % b).natAbs = Nat.gcd a.natAbs b.natAbs := by
  obtain ⟨m, rfl⟩ := Int.eq_ofNat_of_zero_le ha
  obtain ⟨n, rfl⟩ := Int.eq_ofNat_of_zero_le (show (0 : Int) ≤ b by omega)
  rw [show ((m : Int) % (n : Int)) = ((m % n : Nat) : Int) from (Int.natCast_emod m n).symm]
  simp only [Int.natAbs_natCast]
  rw [Nat.gcd_comm m n]
  rw [Nat.gcd_comm n (m % n), ← Nat.gcd_rec]
/-- top and bottom of the fraction of a kind -/
def frac (k : Str) (a b c : Int) : Int × Int :=
  if k = "both" then (c, a + b - c) else if k = "mean" then (2 * c, a + b) else if k = "greater" then (c, max a b) else if k = "lesser" then (c, min a b) else (c * c, a * b)
def five : List Str := ["both", "mean", "greater", "lesser", "square"]
def gcdI (a b : Int) : Int := ((Nat.gcd a.natAbs b.natAbs : Nat) : Int)
def shareM (k : Str) (a b c : Int) : Int × Int :=
  if a = 0 ∨ b = 0 then (0, 1) else ((frac k a b c).1 / gcdI (frac k a b c).1 (frac k a b c).2, (frac k a b c).2 / gcdI (frac k a b c).1 (frac k a b c).2)
/-- weights and what they have in common, as they are handed in -/
structure WOk (a b c : Int) : Prop where
  a0 : 0 ≤ a
  a1 : a ≤ 10 ^ 18
  b0 : 0 ≤ b
  b1 : b ≤ 10 ^ 18
  c0 : 0 ≤ c
  ca : c ≤ a
  cb : c ≤ b
theorem WOk.symm {a b c : Int} (h : WOk a b c) : WOk b a c := ⟨h.b0, h.b1, h.a0, h.a1, h.c0, h.cb, h.ca⟩
theorem mul_le_36 {a b : Int} (a0 : 0 ≤ a) (a1 : a ≤ 10 ^ 18) (b0 : 0 ≤ b) (b1 : b ≤ 10 ^ 18) : 0 ≤ a * b ∧ a * b ≤ 10 ^ 36 := by
  refine ⟨Int.mul_nonneg a0 b0, ?_⟩
  have := Int.mul_le_mul a1 b1 b0 (by decide : (0 : Int) ≤ 10 ^ 18)
  omega
theorem frac_bounds (k : Str) {a b c : Int} (h : WOk a b c) (ha : 0 < a) (hb : 0 < b) : 0 ≤ (frac k a b c).1 ∧ (frac k a b c).1 ≤ 10 ^ 36 ∧ 0 < (frac k a b c).2 ∧ (frac k a b c).2 ≤ 10 ^ 36 := by
  obtain ⟨a0, a1, b0, b1, c0, ca, cb⟩ := h
  unfold frac
  split
  · dsimp only
    omega
  · split
    · dsimp only
      omega
    · split
      · dsimp only
        omega
      · split
        · dsimp only
          omega
        · dsimp only
          have h1 := mul_le_36 c0 (by omega) c0 (by omega : c ≤ 10 ^ 18)
          have h2 := mul_le_36 a0 a1 b0 b1
          have h3 := Int.mul_pos ha hb
          exact ⟨h1.1, h1.2, h3, h2.2⟩
theorem gcdI_pos {a b : Int} (hb : 0 < b) : 0 < gcdI a b := by
  unfold gcdI
  have : 0 < Nat.gcd a.natAbs b.natAbs := Nat.gcd_pos_of_pos_right _ (by omega)
  omega
theorem gcdI_le {a b : Int} (hb : 0 < b) : gcdI a b ≤ b := by
  unfold gcdI
  have : Nat.gcd a.natAbs b.natAbs ≤ b.natAbs := Nat.gcd_le_right _ (by omega)
  omega
theorem abs_lt_of {x : Int} {n : Nat} (h0 : 0 ≤ x) (h : x < (2 : Int) ^ n) : x.natAbs < 2 ^ n := by
  have e : ((x.natAbs : Nat) : Int) = x := Int.natAbs_of_nonneg h0
  have e2 : ((2 ^ n : Nat) : Int) = (2 : Int) ^ n := by rw [Int.natCast_pow]; rfl
  omega
theorem frac_symm (k : Str) (a b c : Int) : frac k b a c = frac k a b c := by
  unfold frac
  split
  · rw [Int.add_comm b a]
  · split
    · rw [Int.add_comm b a]
    · split
      · rw [Int.max_comm b a]
      · split
        · rw [Int.min_comm b a]
        · rw [Int.mul_comm b a]
theorem shareM_symm (k : Str) (a b c : Int) : shareM k b a c = shareM k a b c := by
  unfold shareM
  rw [frac_symm k a b c]
  by_cases h : a = 0 ∨ b = 0
  · rw [if_pos h, if_pos (by omega)]
  · rw [if_neg h, if_neg (by omega)]
def bigM : Int := ((10 : Int) ^ 60) ^ 60
def cutI (c : Int) : Int := if c ≥ bigM then bigM + c % bigM else c
theorem bigM_pos : 0 < bigM := by
  unfold bigM
  exact Int.pow_pos (Int.pow_pos (by decide))
theorem getD5 {xs : List Int} {P : Int → Prop} (h : ∀ x ∈ xs, P x) (h0 : P 0) (i : Nat) : P (xs.getD i 0) := by
  rw [List.getD_eq_getElem?_getD]
  cases e : xs[i]? with
  | none => exact h0
  | some x => exact h x (List.mem_of_getElem? e)
theorem rc_gcdI {H : Hp} {a b : Int} : RC rGcd [.int a, .int b] H (.int (gcdI a b)) := rc_gcd
end MuK

namespace MuK
open PySem PySem.Spec PyProof.Rows L2 Evl
/-! ### what two sets need -/
/-- a quotient rounded up -/
def cd (t b : Int) : Int := (t + b - 1) / b
theorem cd_le {t b c : Int} (hb : 0 < b) : cd t b ≤ c ↔ t ≤ c * b := by
  unfold cd
  constructor
  · intro h
    have h1 : (t + b - 1) < (c + 1) * b := Int.lt_mul_of_ediv_lt hb (by omega)
    have h2 : (c + 1) * b = c * b + b := by rw [Int.add_mul, Int.one_mul]
    omega
  · intro h
    have h1 : (t + b - 1) / b < c + 1 := by
      apply Int.ediv_lt_of_lt_mul hb
      have h2 : (c + 1) * b = c * b + b := by rw [Int.add_mul, Int.one_mul]
      omega
    omega
def isq (n : Int) : Int := ((Float64.isqrt n.toNat : Nat) : Int)
theorem isq_nn (n : Int) : 0 ≤ isq n := Int.natCast_nonneg _
theorem isq_lt {n c : Int} (hn : 0 ≤ n) (hc : 0 ≤ c) : isq n < c ↔ n < c * c := by
  obtain ⟨m, rfl⟩ := Int.eq_ofNat_of_zero_le hn
  obtain ⟨k, rfl⟩ := Int.eq_ofNat_of_zero_le hc
  unfold isq
  rw [Int.toNat_natCast]
  obtain ⟨h1, h2⟩ := Float64.isqrt_spec m
  have e : ((k : Int) * (k : Int)) = ((k * k : Nat) : Int) := (Int.natCast_mul k k).symm
  rw [e]
  constructor
  · intro h
    have h3 : Float64.isqrt m + 1 ≤ k := by omega
    have := Nat.mul_le_mul h3 h3
    omega
  · intro h
    have h3 : m < k * k := by omega
    rcases Nat.lt_or_ge (Float64.isqrt m) k with h4 | h4
    · omega
    · have := Nat.mul_le_mul h4 h4
      omega
def needM (k : Str) (T B a b : Int) : Int :=
  if k = "both" then cd (T * (a + b)) (T + B) else if k = "mean" then cd (T * (a + b)) (2 * B) else if k = "greater" then cd (T * max a b) B
  else if k = "lesser" then cd (T * min a b) B else isq (cd (T * a * b) B - 1) + 1
def reach (k : Str) (T B a b c : Int) : Bool := decide (T * (frac k a b c).2 ≤ (frac k a b c).1 * B)
structure LOk (T B : Int) : Prop where
  t0 : 0 < T
  tb : T ≤ B
  g1 : gcdI T B = 1
theorem mul_pos3 {a b c : Int} (ha : 0 < a) (hb : 0 < b) (hc : 0 < c) : 0 < a * b * c := Int.mul_pos (Int.mul_pos ha hb) hc
theorem need_spec {k : Str} {T B a b c : Int} (t0 : 0 < T) (tb : T ≤ B) (ha : 0 < a) (hb : 0 < b) (hc : 0 ≤ c) : reach k T B a b c = true ↔ needM k T B a b ≤ c := by
  unfold reach needM frac
  rw [decide_eq_true_iff]
  by_cases h1 : k = "both"
  · rw [if_pos h1, if_pos h1, cd_le (by omega)]
    dsimp only
    have e1 : T * (a + b - c) = T * (a + b) - T * c := Int.mul_sub _ _ _
    have e2 : c * (T + B) = T * c + c * B := by rw [Int.mul_add, Int.mul_comm c T]
    omega
  rw [if_neg h1, if_neg h1]
  by_cases h2 : k = "mean"
  · rw [if_pos h2, if_pos h2, cd_le (by omega)]
    dsimp only
    have e2 : c * (2 * B) = 2 * c * B := by rw [← Int.mul_assoc, Int.mul_comm c 2]
    omega
  rw [if_neg h2, if_neg h2]
  by_cases h3 : k = "greater"
  · rw [if_pos h3, if_pos h3, cd_le (by omega)]
  rw [if_neg h3, if_neg h3]
  by_cases h4 : k = "lesser"
  · rw [if_pos h4, if_pos h4, cd_le (by omega)]
  rw [if_neg h4, if_neg h4]
  dsimp only
  have B0 : 0 < B := by omega
  have p0 : 0 < T * a * b := mul_pos3 t0 ha hb
  have q1 : 1 ≤ cd (T * a * b) B := by
    rcases Int.lt_or_le (cd (T * a * b) B) 1 with h | h
    · have := (cd_le (t := T * a * b) (b := B) (c := 0) B0).mp (by omega)
      omega
    · exact h
  have s1 := isq_lt (n := cd (T * a * b) B - 1) (c := c) (by omega) hc
  have s2 := cd_le (t := T * a * b) (b := B) (c := c * c) B0
  have e : T * (a * b) = T * a * b := (Int.mul_assoc _ _ _).symm
  rw [e]
  omega
theorem need_nn {k : Str} {T B a b : Int} (t0 : 0 < T) (tb : T ≤ B) (ha : 0 < a) (hb : 0 < b) : 0 ≤ needM k T B a b := by
  have h := isq_nn (cd (T * a * b) B - 1)
  have p1 : 0 ≤ T * (a + b) := Int.mul_nonneg (by omega) (by omega)
  have p2 : 0 ≤ T * max a b := Int.mul_nonneg (by omega) (by omega)
  have p3 : 0 ≤ T * min a b := Int.mul_nonneg (by omega) (by omega)
  unfold needM cd
  split
  · exact Int.ediv_nonneg (by omega) (by omega)
  · split
    · exact Int.ediv_nonneg (by omega) (by omega)
    · split
      · exact Int.ediv_nonneg (by omega) (by omega)
      · split
        · exact Int.ediv_nonneg (by omega) (by omega)
        · unfold cd at h
          omega
theorem need_le {k : Str} {T B a b : Int} (t0 : 0 < T) (tb : T ≤ B) (ha : 0 < a) (hb : 0 < b) : needM k T B a b ≤ a + b := by
  rw [← need_spec t0 tb ha hb (by omega)]
  unfold reach frac
  rw [decide_eq_true_iff]
  have m1 : T * (a + b) ≤ (a + b) * B := by rw [Int.mul_comm (a + b) B]; exact Int.mul_le_mul_of_nonneg_right tb (by omega)
  have m2 : T * max a b ≤ T * (a + b) := Int.mul_le_mul_of_nonneg_left (by omega) (by omega)
  have m3 : T * min a b ≤ T * (a + b) := Int.mul_le_mul_of_nonneg_left (by omega) (by omega)
  have m5 : 0 ≤ (a + b) * B := Int.mul_nonneg (by omega) (by omega)
  split
  · dsimp only
    rw [Int.sub_self, Int.mul_zero]
    exact m5
  · split
    · dsimp only
      rw [Int.mul_assoc]
      omega
    · split
      · exact Int.le_trans m2 m1
      · split
        · exact Int.le_trans m3 m1
        · dsimp only
          have m6 : a * b ≤ (a + b) * (a + b) := by
            have q1 : a * b ≤ (a + b) * b := Int.mul_le_mul_of_nonneg_right (by omega) (by omega)
            have q2 : (a + b) * b ≤ (a + b) * (a + b) := Int.mul_le_mul_of_nonneg_left (by omega) (by omega)
            omega
          have m7 : T * (a * b) ≤ T * ((a + b) * (a + b)) := Int.mul_le_mul_of_nonneg_left m6 (by omega)
          have m8 : T * ((a + b) * (a + b)) ≤ B * ((a + b) * (a + b)) := Int.mul_le_mul_of_nonneg_right tb (Int.mul_nonneg (by omega) (by omega))
          rw [Int.mul_comm ((a + b) * (a + b)) B]
          omega
theorem max_symm (a b : Int) : max b a = max a b := Int.max_comm b a
theorem needM_symm (k : Str) (T B a b : Int) : needM k T B b a = needM k T B a b := by
  unfold needM
  rw [Int.add_comm b a, Int.max_comm b a, Int.min_comm b a, Int.mul_assoc T b a, Int.mul_comm b a, ← Int.mul_assoc T a b]
/-! ### math.isqrt -/
def rIsqrt : List V → Hp → VK → Prop := fun vs H Q => ∃ n : Int, vs = [.int n] ∧ 0 ≤ n ∧ n.toNat.log2 ≤ 9000 ∧ Q (.int (isq n)) H
theorem cr_isqrt {X : Cx} : CallR X (.builtin "math.isqrt") rIsqrt := by
  intro pins s σ H vs us Q I r h
  obtain ⟨n, rfl, h0, h1, q⟩ := h
  cases r with
  | cons r1 r2 =>
    cases r2
    obtain ⟨t, rfl⟩ := r1
    exact PySem.call_function_meets PySem.W.MGF.kind_isqrt PySem.W.MGF.plain_isqrt PySem.W.MGF.entry_isqrt (PySem.W.MGF.args_isqrt _) (PySem.W.mg_run_isqrt n t (by omega) (by omega) (by omega)).meets ⟨.int _, H, I.tok _, ⟨_, rfl⟩, q⟩
theorem rc_isqrt {H : Hp} {n : Int} (h0 : 0 ≤ n) (h1 : n.toNat.log2 ≤ 9000) : RC rIsqrt [.int n] H (.int (isq n)) := fun H1 _ _ q => ⟨n, rfl, h0, h1, q H1 (Ex.refl H1)⟩
theorem log2_le_of {x : Int} {n : Nat} (h0 : 0 ≤ x) (h : x < (2 : Int) ^ (n + 1)) : x.toNat.log2 ≤ n := by
  have h1 := abs_lt_of h0 h
  have e : x.toNat = x.natAbs := by omega
  rw [e]
  exact PySem.W.mg_log h1
/-- wide numbers -/
theorem cmulW_of {i j : Int} (h1 : 0 ≤ i) (h2 : i < (2 : Int) ^ 900) (h3 : 0 ≤ j) (h4 : j < (2 : Int) ^ 900) : CMulW i j := wide_mul (abs_lt_of h1 h2) (abs_lt_of h3 h4) (by decide) (by decide) (by decide)
theorem cdivW_of {i j : Int} (h3 : 0 < j) (h4 : j < (2 : Int) ^ 900) : CDivW i j := wide_div h3 (abs_lt_of (by omega) h4) (by decide) (by decide)
structure FOk (a b c : Int) : Prop where
  a0 : 0 ≤ a
  a1 : a ≤ 2 ^ 200
  b0 : 0 ≤ b
  b1 : b ≤ 2 ^ 200
  c0 : 0 ≤ c
  cab : c ≤ a + b
structure SOk (a b c : Int) : Prop where
  f : FOk a b c
  ca : c ≤ a
  cb : c ≤ b
theorem frac_bd (k : Str) {a b c : Int} (h : FOk a b c) : 0 ≤ (frac k a b c).1 ∧ (frac k a b c).1 ≤ 2 ^ 402 ∧ 0 ≤ (frac k a b c).2 ∧ (frac k a b c).2 ≤ 2 ^ 402 := by
  obtain ⟨a0, a1, b0, b1, c0, ca⟩ := h
  unfold frac
  split
  · dsimp only
    omega
  · split
    · dsimp only
      omega
    · split
      · dsimp only
        omega
      · split
        · dsimp only
          omega
        · dsimp only
          have h1 := Int.mul_nonneg c0 c0
          have h2 := Int.mul_nonneg a0 b0
          have h3 : c * c ≤ 2 ^ 201 * 2 ^ 201 := Int.mul_le_mul (by omega) (by omega) c0 (by decide)
          have h4 : a * b ≤ 2 ^ 200 * 2 ^ 200 := Int.mul_le_mul a1 b1 b0 (by decide)
          have e3 : (2 : Int) ^ 201 * 2 ^ 201 = 2 ^ 402 := by decide +kernel
          have e4 : (2 : Int) ^ 200 * 2 ^ 200 ≤ 2 ^ 402 := by decide +kernel
          omega
theorem frac_pos (k : Str) {a b c : Int} (ha : 0 < a) (hb : 0 < b) (hc : c < a + b) : 0 < (frac k a b c).2 := by
  unfold frac
  split
  · dsimp only
    omega
  · split
    · dsimp only
      omega
    · split
      · dsimp only
        omega
      · split
        · dsimp only
          omega
        · dsimp only
          exact Int.mul_pos ha hb
/-! ### drawn least shares -/
def lbot (m : Int) : Int := ([1 + m / 5 % 12, 1 + m / 5 % 4, 1 + m / 5 % 1000, 999999999 - m / 5 % 999] : List Int).getD (m % 4).toNat 0
def ltop (m : Int) : Int := if m % 4 = 3 then ([1 + m * 7919 % lbot m, lbot m - m / 56 % 999] : List Int).getD (m / 28 % 2).toNat 0 else 1 + m / 7 % lbot m
def leastM (m : Int) : Int × Int := (ltop m / gcdI (ltop m) (lbot m), lbot m / gcdI (ltop m) (lbot m))
theorem lbot_ok (m : Int) : 1 ≤ lbot m ∧ lbot m ≤ 999999999 ∧ (m % 4 = 3 → 999999001 ≤ lbot m) := by
  have h : m % 4 = 0 ∨ m % 4 = 1 ∨ m % 4 = 2 ∨ m % 4 = 3 := by omega
  unfold lbot
  rcases h with h | h | h | h <;> rw [h]
  · show 1 ≤ 1 + m / 5 % 12 ∧ 1 + m / 5 % 12 ≤ 999999999 ∧ ((0 : Int) = 3 → 999999001 ≤ 1 + m / 5 % 12)
    omega
  · show 1 ≤ 1 + m / 5 % 4 ∧ 1 + m / 5 % 4 ≤ 999999999 ∧ ((1 : Int) = 3 → 999999001 ≤ 1 + m / 5 % 4)
    omega
  · show 1 ≤ 1 + m / 5 % 1000 ∧ 1 + m / 5 % 1000 ≤ 999999999 ∧ ((2 : Int) = 3 → 999999001 ≤ 1 + m / 5 % 1000)
    omega
  · show 1 ≤ 999999999 - m / 5 % 999 ∧ 999999999 - m / 5 % 999 ≤ 999999999 ∧ ((3 : Int) = 3 → 999999001 ≤ 999999999 - m / 5 % 999)
    omega
theorem ltop_ok (m : Int) : 1 ≤ ltop m ∧ ltop m ≤ lbot m := by
  obtain ⟨h1, h2, h3⟩ := lbot_ok m
  unfold ltop
  split
  · rename_i h
    have h3 := h3 h
    have h : m / 28 % 2 = 0 ∨ m / 28 % 2 = 1 := by omega
    have e1 := Int.emod_nonneg (m * 7919) (show lbot m ≠ 0 by omega)
    have e2 := Int.emod_lt_of_pos (m * 7919) (show 0 < lbot m by omega)
    rcases h with h | h <;> rw [h]
    · show 1 ≤ 1 + m * 7919 % lbot m ∧ 1 + m * 7919 % lbot m ≤ lbot m
      omega
    · show 1 ≤ lbot m - m / 56 % 999 ∧ lbot m - m / 56 % 999 ≤ lbot m
      omega
  · have e1 := Int.emod_nonneg (m / 7) (show lbot m ≠ 0 by omega)
    have e2 := Int.emod_lt_of_pos (m / 7) (show 0 < lbot m by omega)
    omega
theorem gcdI_div {a b : Int} (ha : 0 < a) (hb : 0 < b) : 0 < a / gcdI a b ∧ 0 < b / gcdI a b ∧ gcdI (a / gcdI a b) (b / gcdI a b) = 1 := by
  obtain ⟨m, rfl⟩ := Int.eq_ofNat_of_zero_le (show 0 ≤ a by omega)
  obtain ⟨n, rfl⟩ := Int.eq_ofNat_of_zero_le (show 0 ≤ b by omega)
  have hm : 0 < m := by omega
  have hn : 0 < n := by omega
  unfold gcdI
  simp only [Int.natAbs_natCast]
  have g0 : 0 < Nat.gcd m n := Nat.gcd_pos_of_pos_left _ hm
  have d1 : 0 < m / Nat.gcd m n := Nat.div_pos (Nat.gcd_le_left _ hm) g0
  have d2 : 0 < n / Nat.gcd m n := Nat.div_pos (Nat.gcd_le_right _ hn) g0
  have e1 : ((m : Int) / ((Nat.gcd m n : Nat) : Int)) = ((m / Nat.gcd m n : Nat) : Int) := (Int.natCast_ediv _ _).symm
  have e2 : ((n : Int) / ((Nat.gcd m n : Nat) : Int)) = ((n / Nat.gcd m n : Nat) : Int) := (Int.natCast_ediv _ _).symm
  rw [e1, e2]
  simp only [Int.natAbs_natCast]
  refine ⟨by omega, by omega, ?_⟩
  rw [Nat.gcd_div (Nat.gcd_dvd_left m n) (Nat.gcd_dvd_right m n), Nat.div_self g0]
  rfl
theorem div_gcd_le {a b : Int} (ha : 0 < a) (h : a ≤ b) : a / gcdI a b ≤ b / gcdI a b := Int.ediv_le_ediv (gcdI_pos (by omega)) h
theorem div_gcd_le_self {a b : Int} (hb : 0 < b) : b / gcdI a b ≤ b := by
  have := gcdI_pos (a := a) hb
  exact Int.ediv_le_self _ (by omega)
theorem least_ok (m : Int) : LOk (leastM m).1 (leastM m).2 ∧ (leastM m).2 ≤ 999999999 := by
  obtain ⟨h1, h2, h3⟩ := lbot_ok m
  obtain ⟨h4, h5⟩ := ltop_ok m
  obtain ⟨g1, g2, g3⟩ := gcdI_div (show 0 < ltop m by omega) (show 0 < lbot m by omega)
  have g4 := div_gcd_le (show 0 < ltop m by omega) h5
  have g5 := div_gcd_le_self (a := ltop m) (show 0 < lbot m by omega)
  unfold leastM
  exact ⟨⟨g1, g4, g3⟩, by dsimp only; omega⟩
end MuK

namespace MuK
open PySem PySem.Spec PyProof.Rows L2 Evl
/-! ### mates -/
def botM (k : Str) (T B : Int) : Int := if k = "mean" then 2 * B - T else B
def lowM (k : Str) (T B a : Int) : Int := if k = "lesser" then 1 else cd (a * T) (botM k T B)
def highM (k : Str) (T B a : Int) : Int := a * botM k T B / T
def hiV (k : Str) (T B a : Int) : V := if k = "lesser" then .non else .int (highM k T B a)
def mateB (k : Str) (T B a b : Int) : Bool := decide (0 < b) && reach k T B a b (min a b)
theorem botM_ok {k : Str} {T B : Int} (t0 : 0 < T) (tb : T ≤ B) : T ≤ botM k T B ∧ B ≤ botM k T B ∧ botM k T B ≤ 2 * B := by
  unfold botM
  split <;> omega
theorem mul_cancel_le {x y z : Int} (hx : 0 < x) : x * y ≤ x * z ↔ y ≤ z := by
  constructor
  · intro h
    exact Int.le_of_mul_le_mul_left h hx
  · intro h
    exact Int.mul_le_mul_of_nonneg_left h (by omega)
theorem reach_min {k : Str} {T B a b : Int} (hk : k ∈ five) (hl : k ≠ "lesser") (t0 : 0 < T) (tb : T ≤ B) (ha : 0 < a) (hb : 0 < b) : reach k T B a b (min a b) = true ↔ T * max a b ≤ min a b * botM k T B := by
  unfold reach frac botM
  rw [decide_eq_true_iff]
  by_cases h1 : k = "both"
  · have : ¬ k = "mean" := by rw [h1]; decide +kernel
    rw [if_pos h1, if_neg this]
    dsimp only
    have e : a + b - min a b = max a b := by omega
    rw [e]
  rw [if_neg h1]
  by_cases h2 : k = "mean"
  · rw [if_pos h2, if_pos h2]
    dsimp only
    have e : a + b = min a b + max a b := by omega
    rw [e, Int.mul_add, Int.mul_sub, Int.mul_assoc 2, ← Int.mul_assoc (min a b) 2 B, Int.mul_comm (min a b) 2, Int.mul_assoc 2, Int.mul_comm (min a b) T]
    omega
  rw [if_neg h2, if_neg h2]
  by_cases h3 : k = "greater"
  · rw [if_pos h3]
  rw [if_neg h3, if_neg hl]
  dsimp only
  have e : a * b = min a b * max a b := by
    rcases Int.le_total a b with h | h
    · rw [Int.min_eq_left h, Int.max_eq_right h]
    · rw [Int.min_eq_right h, Int.max_eq_left h, Int.mul_comm]
  have e1 : T * (a * b) = min a b * (T * max a b) := by
    rw [e, ← Int.mul_assoc, Int.mul_comm T (min a b), Int.mul_assoc]
  rw [e1, Int.mul_assoc (min a b), mul_cancel_le (by omega)]
theorem mate_iff {k : Str} {T B a b : Int} (hk : k ∈ five) (t0 : 0 < T) (tb : T ≤ B) (ha : 0 < a) : mateB k T B a b = true ↔ lowM k T B a ≤ b ∧ (k = "lesser" ∨ b ≤ highM k T B a) := by
  unfold mateB
  obtain ⟨q1, q2, q3⟩ := botM_ok (k := k) t0 tb
  by_cases hb : 0 < b
  · rw [decide_eq_true hb, Bool.true_and]
    by_cases hl : k = "lesser"
    · unfold lowM
      rw [if_pos hl]
      unfold reach frac
      have n1 : ¬ k = "both" := by rw [hl]; decide +kernel
      have n2 : ¬ k = "mean" := by rw [hl]; decide +kernel
      have n3 : ¬ k = "greater" := by rw [hl]; decide +kernel
      rw [if_neg n1, if_neg n2, if_neg n3, if_pos hl, decide_eq_true_iff]
      dsimp only
      have : T * min a b ≤ min a b * B := by rw [Int.mul_comm T]; exact Int.mul_le_mul_of_nonneg_left tb (by omega)
      exact ⟨fun _ => ⟨by omega, .inl hl⟩, fun _ => this⟩
    · rw [reach_min hk hl t0 tb ha hb]
      unfold lowM highM
      rw [if_neg hl, cd_le (by omega), Int.le_ediv_iff_mul_le t0]
      rcases Int.le_total a b with h | h
      · rw [Int.max_eq_right h, Int.min_eq_left h]
        have e1 : a * T ≤ b * botM k T B := by
          have := Int.mul_le_mul_of_nonneg_left q1 (show 0 ≤ a by omega)
          have := Int.mul_le_mul_of_nonneg_right h (show 0 ≤ botM k T B by omega)
          omega
        rw [Int.mul_comm T b]
        exact ⟨fun z => ⟨e1, .inr z⟩, fun z => z.2.resolve_left hl⟩
      · rw [Int.max_eq_left h, Int.min_eq_right h]
        have e1 : b * T ≤ a * botM k T B := by
          have := Int.mul_le_mul_of_nonneg_left q1 (show 0 ≤ b by omega)
          have := Int.mul_le_mul_of_nonneg_right h (show 0 ≤ botM k T B by omega)
          omega
        rw [Int.mul_comm T a]
        exact ⟨fun z => ⟨z, .inr e1⟩, fun z => z.1⟩
  · rw [decide_eq_false hb, Bool.false_and]
    refine ⟨fun z => (by cases z), fun z => absurd z.1 ?_⟩
    unfold lowM
    split
    · omega
    · rw [cd_le (by omega)]
      have := Int.mul_pos ha t0
      have := Int.mul_nonneg (show 0 ≤ -b by omega) (show 0 ≤ botM k T B by omega)
      rw [Int.neg_mul] at this
      omega
theorem low_ok {k : Str} {T B a : Int} (t0 : 0 < T) (tb : T ≤ B) (ha : 0 < a) : 1 ≤ lowM k T B a ∧ lowM k T B a ≤ a := by
  obtain ⟨q1, q2, q3⟩ := botM_ok (k := k) t0 tb
  unfold lowM
  split
  · omega
  · have h1 : cd (a * T) (botM k T B) ≤ a := by
      rw [cd_le (by omega)]
      exact Int.mul_le_mul_of_nonneg_left q1 (by omega)
    refine ⟨?_, h1⟩
    rcases Int.lt_or_le (cd (a * T) (botM k T B)) 1 with h | h
    · have := (cd_le (t := a * T) (b := botM k T B) (c := 0) (by omega)).mp (by omega)
      have := Int.mul_pos ha t0
      omega
    · exact h
theorem high_ok {k : Str} {T B a : Int} (t0 : 0 < T) (tb : T ≤ B) (ha : 0 < a) : a ≤ highM k T B a ∧ highM k T B a ≤ a * (2 * B) := by
  obtain ⟨q1, q2, q3⟩ := botM_ok (k := k) t0 tb
  unfold highM
  constructor
  · rw [Int.le_ediv_iff_mul_le t0]
    exact Int.mul_le_mul_of_nonneg_left q1 (by omega)
  · have h1 := Int.ediv_le_self T (show 0 ≤ a * botM k T B from Int.mul_nonneg (by omega) (by omega))
    have h2 := Int.mul_le_mul_of_nonneg_left q3 (show 0 ≤ a by omega)
    omega
/-- what is needed rises with the other weight -/
theorem need_mono {k : Str} {T B a b d : Int} (t0 : 0 < T) (tb : T ≤ B) (ha : 0 < a) (hb : 0 < b) (h : b ≤ d) : needM k T B a b ≤ needM k T B a d := by
  have n0 := need_nn (k := k) (b := d) t0 tb ha (by omega)
  have n1 := (need_spec (k := k) (b := d) t0 tb ha (by omega) n0).mpr (Int.le_refl _)
  rw [← need_spec t0 tb ha hb n0]
  revert n1
  generalize needM k T B a d = c at n0
  unfold reach frac
  rw [decide_eq_true_iff, decide_eq_true_iff]
  have w1 : T * (a + b - c) ≤ T * (a + d - c) := Int.mul_le_mul_of_nonneg_left (by omega) (by omega)
  have w2 : T * (a + b) ≤ T * (a + d) := Int.mul_le_mul_of_nonneg_left (by omega) (by omega)
  have w3 : T * max a b ≤ T * max a d := Int.mul_le_mul_of_nonneg_left (by omega) (by omega)
  have w4 : T * min a b ≤ T * min a d := Int.mul_le_mul_of_nonneg_left (by omega) (by omega)
  have w5 : T * (a * b) ≤ T * (a * d) := Int.mul_le_mul_of_nonneg_left (Int.mul_le_mul_of_nonneg_left h (by omega)) (by omega)
  split
  · intro z; exact Int.le_trans w1 z
  · split
    · intro z; exact Int.le_trans w2 z
    · split
      · intro z; exact Int.le_trans w3 z
      · split
        · intro z; exact Int.le_trans w4 z
        · intro z; exact Int.le_trans w5 z
/-- a share told in lowest terms is no less just where the fraction is -/
theorem share_no_less {k : Str} {T B a b c : Int} (ha : 0 < a) (hb : 0 < b) (hp : 0 < (frac k a b c).2) (h0 : 0 ≤ (frac k a b c).1) (h : reach k T B a b c = true) :
    T * (shareM k a b c).2 ≤ (shareM k a b c).1 * B := by
  have h := of_decide_eq_true (show decide (T * (frac k a b c).2 ≤ (frac k a b c).1 * B) = true from h)
  unfold shareM
  rw [if_neg (by omega)]
  dsimp only
  generalize (frac k a b c).1 = x at *
  generalize (frac k a b c).2 = y at *
  have g0 := gcdI_pos (a := x) hp
  have d1 : gcdI x y ∣ x := by
    unfold gcdI
    exact Int.natAbs_dvd_natAbs.mp (by rw [Int.natAbs_natCast]; exact Nat.gcd_dvd_left _ _)
  have d2 : gcdI x y ∣ y := by
    unfold gcdI
    exact Int.natAbs_dvd_natAbs.mp (by rw [Int.natAbs_natCast]; exact Nat.gcd_dvd_right _ _)
  generalize gcdI x y = g at *
  obtain ⟨x', rfl⟩ := d1
  obtain ⟨y', rfl⟩ := d2
  rw [Int.mul_ediv_cancel_left _ (by omega), Int.mul_ediv_cancel_left _ (by omega)]
  have e1 : T * (g * y') = g * (T * y') := by rw [← Int.mul_assoc, Int.mul_comm T g, Int.mul_assoc]
  rw [e1, Int.mul_assoc, mul_cancel_le g0] at h
  exact h
structure MOk (T B a : Int) : Prop where
  l : LOk T B
  a0 : 0 < a
  ab : a * (2 * B) ≤ 2 ^ 190
theorem MOk.bd {T B a : Int} (h : MOk T B a) : a ≤ 2 ^ 190 ∧ B ≤ 2 ^ 190 ∧ (∀ k, 1 ≤ lowM k T B a ∧ lowM k T B a ≤ a ∧ a ≤ highM k T B a ∧ highM k T B a ≤ 2 ^ 190 ∧ 0 < botM k T B ∧ botM k T B ≤ 2 ^ 191 ∧ 0 ≤ a * botM k T B ∧ a * botM k T B ≤ 2 ^ 190) := by
  obtain ⟨⟨t0, tb, _⟩, a0, ab⟩ := h
  have h1 : a * 1 ≤ a * (2 * B) := Int.mul_le_mul_of_nonneg_left (by omega) (by omega)
  have h2 : 1 * (2 * B) ≤ a * (2 * B) := Int.mul_le_mul_of_nonneg_right (by omega) (by omega)
  refine ⟨by omega, by omega, fun k => ?_⟩
  have := low_ok (k := k) t0 tb a0
  have := high_ok (k := k) t0 tb a0
  obtain ⟨q1, q2, q3⟩ := botM_ok (k := k) t0 tb
  have q4 := Int.mul_le_mul_of_nonneg_left q3 (show 0 ≤ a by omega)
  have q5 : 0 ≤ a * botM k T B := Int.mul_nonneg (by omega) (by omega)
  exact ⟨by omega, by omega, by omega, by omega, by omega, by omega, q5, by omega⟩
/-- the share of two weights that have something in common is a least share -/
theorem share_is_least {k : Str} {a b c : Int} (h : WOk a b c) (hc : 0 < c) (hk : k ∈ five) : LOk (shareM k a b c).1 (shareM k a b c).2 ∧ (shareM k a b c).2 ≤ 10 ^ 36 := by
  obtain ⟨a0, a1, b0, b1, c0, ca, cb⟩ := id h
  obtain ⟨f1, f2, f3, f4⟩ := frac_bounds k h (by omega) (by omega)
  have fle : (frac k a b c).1 ≤ (frac k a b c).2 := by
    unfold frac
    split
    · dsimp only; omega
    · split
      · dsimp only; omega
      · split
        · dsimp only; omega
        · split
          · dsimp only; omega
          · exact Int.mul_le_mul ca cb c0 a0
  have fpos : 0 < (frac k a b c).1 := by
    unfold frac
    split
    · exact hc
    · split
      · dsimp only; omega
      · split
        · exact hc
        · split
          · exact hc
          · exact Int.mul_pos hc hc
  unfold shareM
  rw [if_neg (by omega)]
  obtain ⟨g1, g2, g3⟩ := gcdI_div fpos f3
  exact ⟨⟨g1, div_gcd_le fpos fle, g3⟩, Int.le_trans (div_gcd_le_self f3) f4⟩
end MuK

namespace MuSet
open PySem PySem.Spec PyProof.Rows L2
/-! ### sets of texts: what stands at an address, in what order does not matter -/
/-- the payload: it holds just the texts of l, each once; its table rises, and may be walked -/
structure Pay (P : Program) (w : World) (D : PySem.Froz.SD) (l : List Str) : Prop where
  tx : PySem.Froz.TxOk P w D l
  nd : l.Nodup
  ris : Ris D.2.2.place.toList
  led : w.params.followText "set-order" = true ∨ D.2.2.led = true
def TxS (P : Program) (w : World) (h : Heap) (a : Addr) (l : List Str) : Prop := ∃ D, h.get? a = some (PySem.Froz.sObj "set" D) ∧ Pay P w D l
section
variable {P : Program} {w : World} {A : Around} {E : Value → Shared → Prop} {s : Shared} {h h' : Heap} {a : Addr} {l l' : List Str}
theorem TxS.at (R : TxS P w h a l) (k : ∀ o, h.get? a = some o → h'.get? a = some o) : TxS P w h' a l := by
  obtain ⟨D, e, p⟩ := R
  exact ⟨D, k _ e, p⟩
theorem Pay.congr {D : PySem.Froz.SD} (p : Pay P w D l) (e : ∀ k, k ∈ l' ↔ k ∈ l) (nd : l'.Nodup) : Pay P w D l' := by
  have pm : l'.Perm l := (List.perm_ext_iff_of_nodup nd p.nd).mpr e
  exact ⟨⟨p.tx.el, fun k => (e k).trans (p.tx.mem k), by rw [p.tx.sz, pm.length_eq], p.tx.fit⟩, nd, p.ris, p.led⟩
theorem tail_ris {ep : Nat} {es : Array (Int × Value)} {t : SetTable} {b : Bool} (r : Ris t.place.toList) : Ris (PySem.Froz.tailTx ep es t b).2.2.place.toList := by
  unfold PySem.Froz.tailTx
  split
  · exact relayAll_ris _ _ _
  · exact r
theorem tail_led {ep : Nat} {es : Array (Int × Value)} {t : SetTable} {b : Bool} : (PySem.Froz.tailTx ep es t b).2.2.led = t.led := by
  unfold PySem.Froz.tailTx
  split
  · exact relayAll_led _ _ _
  · rfl
theorem addTx_ris {h : Int} {v : Value} {D : PySem.Froz.SD} (r : Ris D.2.2.place.toList) : Ris (PySem.Froz.addTx h v D).2.2.place.toList := by
  have r1 := layNew_ris D.2.2 D.1 h v r
  refine tail_ris ?_
  split
  · exact r1
  · exact r1
theorem addTx_led {h : Int} {v : Value} {D : PySem.Froz.SD} : (PySem.Froz.addTx h v D).2.2.led = D.2.2.led := by
  have r1 := layNew_led D.2.2 D.1 h v
  refine tail_led.trans ?_
  split
  · exact r1
  · exact r1
theorem Pay.add {D : PySem.Froz.SD} {k : Str} {u : Tok} (p : Pay P w D l) (hk : k ∉ l) : Pay P w (PySem.Froz.addTx (hashStr w k) (.str k u) D) (k :: l) :=
  ⟨PySem.Froz.add_ok u p.tx, List.nodup_cons.mpr ⟨hk, p.nd⟩, addTx_ris p.ris, p.led.imp_right fun z => addTx_led.trans z⟩
/-- a text is put in: new, or there already -/
theorem tx_add {k : Str} {u : Tok} {Q : Bool → Shared → Prop} (R : TxS P w s.heap a l) (hb : l.length + 1 < scanBound)
    (q : ∀ h' l', Heap.SameBut a s.heap h' → TxS P w h' a l' → (∀ j, j ∈ l' ↔ j ∈ l ∨ j = k) → l'.length ≤ l.length + 1 → ∀ b, Q b { s with heap := h' }) : wpAny (model P w) A (setAddHashed a (.str k u) (hashStr w k)) Q E s := by
  obtain ⟨D, ho, p⟩ := R
  by_cases hk : k ∈ l
  · -- there already: nothing changes
    obtain ⟨es, ep, t⟩ := D
    have hel : ElemsOf (PySem.strKind P w) es.toList := p.tx.el
    have hsz : es.size = l.length := p.tx.sz
    have hkey : (PySem.strKind P w).is k (.str k u) = true := PySem.Froz.is_str k u
    have hq := q s.heap l (Heap.SameBut.refl a s.heap) ⟨_, ho, p⟩ (fun j => ⟨.inl, fun z => z.elim (fun y => y) (fun y => by rw [y]; exact hk)⟩) (Nat.le_succ _)
    obtain ⟨j, hj⟩ : ∃ j, List.findIdx? (fun e => (PySem.strKind P w).is k e.2) es.toList = some j := by
      cases hr : List.findIdx? (fun e => (PySem.strKind P w).is k e.2) es.toList with
      | some j => exact ⟨j, rfl⟩
      | none =>
        obtain ⟨e, he, z⟩ := (p.tx.mem k).mp hk
        rw [List.findIdx?_eq_none_iff] at hr
        rw [hr e he] at z
        cases z
    unfold setAddHashed setAddHashedIn
    refine wpAny_holding (wpAny_bind (wpAny_setState_of ho rfl p.tx.fit ?_))
    dsimp only
    rw [byScan_of rfl (by omega) hel, if_pos rfl]
    unfold setAddByScan
    refine wpAny_bind (wpAny_bind (wpAny_rule (wpAny_bind (wpAny_setScan_of (knd := PySem.strKind P w) (k := k) hkey ho rfl p.tx.fit hel ?_))))
    rw [hj]
    exact wpAny_pure (wpAny_pure (hq false))
  · refine PySem.Froz.add_x ho p.tx hk hb ?_
    refine q _ (k :: l) (Heap.SameBut.update _ _ _) ⟨_, PySem.Froz.get_upd _ ho rfl, p.add hk⟩ (fun j => ?_) (Nat.le_refl _) true
    rw [List.mem_cons]
    exact ⟨fun z => z.symm, fun z => z.symm⟩
/-! ### the elements, walked -/
/-- in some order -/
theorem tx_walk {D : PySem.Froz.SD} {Q : Array (Int × Value) → Shared → Prop} (ho : s.heap.get? a = some (PySem.Froz.sObj "set" D)) (p : Pay P w D l)
    (q : ∀ (es : Array (Int × Value)) d, es.toList.Perm D.1.toList → Q es { s with drawn := d }) : wpAny (model P w) A (setWalk a) Q E s := by
  obtain ⟨es, ep, t⟩ := D
  have e0 : s = { s with drawn := s.drawn } := rfl
  unfold setWalk
  refine wpAny_bind (wpAny_setState_of ho rfl p.tx.fit ?_)
  dsimp only
  refine wpAny_bind (wpAny_byText ?_)
  by_cases hb : w.params.followText "set-order" = true
  · refine wp_if_pos hb ?_
    exact wpAny_bind (wpAny_askSetting (wpAny_pure (q _ s.drawn (pick_perm _ es))))
  · refine wp_if_neg hb ?_
    try refine wpAny_bind (wpAny_pure ?_)
    have hl : t.led = true := p.led.resolve_left hb
    cases hd : (!t.plain && decide (es.size > 1)) with
    | true =>
      refine wp_if_pos hd ?_
      exact wpAny_bind (drawOrder_at _ _ _ _ (Nat.le_of_eq (Array.length_toList)) fun ys d hp => wpAny_pure (q ys.toArray d (by simpa using hp)))
    | false =>
      refine wp_if_neg (by show ¬ ((!t.plain && decide (es.size > 1)) = true); rw [hd]; exact Bool.false_ne_true) ?_
      try refine wpAny_bind (wpAny_pure ?_)
      refine wpAny_bind (wpAny_of_eq (a := ()) ?_ (wpAny_pure (q es s.drawn (List.Perm.refl _))))
      show (if (!t.led && decide (es.size > 1)) = true then unsupported "set:maker-not-led" else pure ()) = pure ()
      rw [hl] <;> rfl
theorem Pay.strs {D : PySem.Froz.SD} (p : Pay P w D l) : ∀ e ∈ D.1.toList, ∃ k tk, e = (hashStr w k, Value.str k tk) := fun e he => by
  obtain ⟨⟨k, hk, hh⟩, _⟩ := p.tx.el e he
  obtain ⟨h0, v⟩ := e
  have hs : Value.isStrOf k v = true := hk
  obtain ⟨tk, rfl⟩ := Value.isStrOf_shape hs
  exact ⟨k, tk, by rw [show h0 = hashStr w k from hh]⟩
theorem quiet_one : ∀ (es : List (Int × Value)) {β : Type} (r0 : β) (f : Int × Value → β → Sem (ForInStep β)) {s : Shared} {Q : β → Shared → Prop},
    (∀ e ∈ es, f e r0 = pure (ForInStep.yield r0)) → Q r0 s → wpAny (model P w) A (forIn es r0 f) Q E s
  | [], _, _, _, _, _, _, q => by
    rw [List.forIn_nil]
    exact wpAny_pure q
  | e :: es, _, r0, f, _, _, h, q => by
    rw [List.forIn_cons, h e List.mem_cons_self, pure_bind]
    exact quiet_one es r0 f (fun x hx => h x (List.mem_cons_of_mem _ hx)) q
theorem quiet_sets : ∀ (sets : List Addr) {s : Shared} {Q : Bool → Shared → Prop}, (∀ b ∈ sets, ∃ l, TxS P w s.heap b l) → Q true s → wpAny (model P w) A (setsQuiet sets) Q E s := by
  intro sets s Q h q
  unfold setsQuiet
  have main : ∀ (bs : List Addr) {β : Type} (r0 : β) (f : Addr → β → Sem (ForInStep β)) {Q : β → Shared → Prop},
      (∀ b ∈ bs, ∀ Q2 : ForInStep β → Shared → Prop, Q2 (ForInStep.yield r0) s → wpAny (model P w) A (f b r0) Q2 E s) → Q r0 s → wpAny (model P w) A (forIn bs r0 f) Q E s := by
    intro bs
    induction bs with
    | nil =>
      intro β r0 f Q _ q
      rw [List.forIn_nil]
      exact wpAny_pure q
    | cons b bs ih =>
      intro β r0 f Q h q
      rw [List.forIn_cons]
      refine wpAny_bind (h b List.mem_cons_self _ ?_)
      exact ih r0 f (fun x hx => h x (List.mem_cons_of_mem _ hx)) q
  refine wpAny_bind (main sets _ _ (fun b hb Q2 q2 => ?_) ?_)
  · obtain ⟨lb, D, ho, p⟩ := h b hb
    refine wpAny_bind (wpAny_setEntries_of ho rfl p.tx.fit ?_)
    rw [← Array.forIn_toList]
    refine wpAny_bind (quiet_one _ _ _ (fun e he => ?_) ?_)
    · obtain ⟨k, tk, rfl⟩ := p.strs e he
      rfl
    · exact wpAny_pure q2
  · exact wpAny_pure q
/-- walked where nobody sees it: f, which is being filled, may lose its marks -/
theorem tx_unseen {D : PySem.Froz.SD} {f : Addr} {lf : List Str} {others : List Addr} {Q : Array (Int × Value) → Shared → Prop} (ho : s.heap.get? a = some (PySem.Froz.sObj "set" D)) (p : Pay P w D l) (hf : TxS P w s.heap f lf)
    (hz : lf.length < scanBound) (hoth : ∀ b ∈ others, ∃ l, TxS P w s.heap b l)
    (q : ∀ (es : Array (Int × Value)) h' d, es.toList.Perm D.1.toList → Heap.SameBut f s.heap h' → TxS P w h' f lf → Q es { s with heap := h', drawn := d }) : wpAny (model P w) A (setWalkUnseen a others (some f)) Q E s := by
  have plainly : wpAny (model P w) A (setWalk a) Q E s := tx_walk ho p fun es d hp => q es s.heap d hp (Heap.SameBut.refl f s.heap) hf
  obtain ⟨es, ep, t⟩ := D
  unfold setWalkUnseen
  refine wpAny_bind (wpAny_setState_of ho rfl p.tx.fit ?_)
  dsimp only
  refine wpAny_bind (wpAny_byText ?_)
  cases hc : (w.params.followText "set-order" || t.led && t.plain || decide (es.size ≤ 1)) with
  | true =>
    refine wp_if_pos rfl ?_
    first | exact plainly | exact wpAny_bind (m := setWalk a) (thn plainly fun v s' z => wpAny_pure z)
  | false =>
    refine wp_if_neg Bool.false_ne_true ?_
    try refine wpAny_bind (wpAny_pure ?_)
    refine wpAny_bind (quiet_sets (a :: others) (fun b hb => ?_) ?_)
    · rcases List.mem_cons.mp hb with rfl | hb
      · exact ⟨l, _, ho, p⟩
      · exact hoth b hb
    refine wp_if_neg (by simp) ?_
    try refine wpAny_bind (wpAny_pure ?_)
    refine wpAny_bind (wpAny_rule ?_)
    obtain ⟨Df, hof, pf⟩ := id hf
    obtain ⟨ef, epf, tf⟩ := Df
    have hled : w.params.followText "set-order" = true ∨ t.led = true := p.led
    refine wpAny_bind (wpAny_setState_of hof rfl pf.tx.fit ?_)
    dsimp only
    split
    · refine wpAny_bind (wpAny_storeSet_of hof rfl ?_ (fits_of_scanBound (by have := pf.tx.sz; dsimp only at this; omega)))
      have hd : (s.heap.update f (Obj.putSet ef { tf with led := tf.led && t.led, plain := tf.plain && t.plain })).get? f = some (PySem.Froz.sObj "set" (ef, epf + 1, { tf with led := tf.led && t.led, plain := tf.plain && t.plain })) :=
        (Heap.get?_update_self _ hof rfl).trans rfl
      have hp2 : Pay P w (ef, epf + 1, { tf with led := tf.led && t.led, plain := tf.plain && t.plain }) lf :=
        ⟨⟨pf.tx.el, pf.tx.mem, pf.tx.sz, pf.tx.fit⟩, pf.nd, pf.ris, by
          rcases hled with z | z
          · exact .inl z
          · rcases pf.led with y | y
            · exact .inl y
            · refine .inr ?_
              show (tf.led && t.led) = true
              rw [show tf.led = true from y, z] <;> rfl⟩
      exact wpAny_pure (q es _ s.drawn (List.Perm.refl _) (Heap.SameBut.update _ _ _) ⟨_, hd, hp2⟩)
    · exact wpAny_pure (q es s.heap s.drawn (List.Perm.refl _) (Heap.SameBut.refl f s.heap) hf)
/-! ### one & other -/
theorem sub_set : isSubtype (.type "set") (.type "set") = pure true := sub_set_self
theorem tx_type (R : TxS P w s.heap a l) : s.TypeIs (.ref a) "set" := by
  obtain ⟨D, ho, _⟩ := R
  exact ⟨_, ho, rfl⟩
theorem same_epoch {y : Addr} {ly : List Str} {Dy : PySem.Froz.SD} {nm : String} {Q : Unit → Shared → Prop} (hoy : s.heap.get? y = some (PySem.Froz.sObj "set" Dy)) (py : Pay P w Dy ly) (q : Q () s) : wpAny (model P w) A (Builtin.Frozenset.unchanged nm y Dy.2.1) Q E s := by
  unfold Builtin.Frozenset.unchanged
  refine wpAny_bind (wpAny_setEpoch_of hoy rfl py.tx.fit ?_)
  refine wp_if_neg (by simp) ?_
  exact wpAny_pure q
/-- those of the walked ones that the asked set has are put into r -/
theorem tx_fill {r o y : Addr} {lo ly : List Str} {Dy : PySem.Froz.SD} {nm : String} (hro : r ≠ o) (hry : r ≠ y) (py : Pay P w Dy ly) (f : Int × Value → PUnit → Sem (ForInStep PUnit)) (hfd : ∀ e, f e PUnit.unit = (do
        holding [e.2] (do
          if (← setFind o e.2 e.1).isSome then
            let _ ← setAddHashed r e.2 e.1
          else pure PUnit.unit)
        Builtin.Frozenset.unchanged nm y Dy.2.1
        pure (ForInStep.yield PUnit.unit))) : ∀ (es : List (Int × Value)) (ks : List Str) {s : Shared} {lr : List Str} {Q : PUnit → Shared → Prop}, Paired (fun (e : Int × Value) (k : Str) => ∃ tk, e = (hashStr w k, Value.str k tk)) es ks →
    s.heap.get? y = some (PySem.Froz.sObj "set" Dy) → TxS P w s.heap o lo → TxS P w s.heap r lr → lo.length < scanBound → lr.length + es.length < scanBound →
    (∀ h' lr' tk, Heap.SameBut r s.heap h' → TxS P w h' r lr' → (∀ j, j ∈ lr' ↔ j ∈ lr ∨ (j ∈ ks ∧ j ∈ lo)) → Q PUnit.unit { s with heap := h', toks := tk }) →
    wpAny (model P w) A (forIn es PUnit.unit f) Q E s
  | _, _, s, lr, Q, .nil, _, _, hr, _, _, q => by
    rw [List.forIn_nil]
    exact wpAny_pure (q s.heap lr s.toks (Heap.SameBut.refl r s.heap) hr (fun j => by simp))
  | _, _, s, lr, Q, .cons (a := e) (b := k) (l₁ := es) (l₂ := ks) he hes, hoy, ho, hr, hz, hz2, q => by
    obtain ⟨tk, rfl⟩ := he
    rw [List.forIn_cons, hfd]
    obtain ⟨Do, hoo, po⟩ := id ho
    obtain ⟨eo, epo, to⟩ := Do
    have hso : eo.size = lo.length := po.tx.sz
    have hs1 : eo.size < scanBound := by omega
    have hl2 : lr.length + (es.length + 1) < scanBound := by simpa using hz2
    refine wpAny_bind (wpAny_bind (wpAny_holding ?_))
    refine wpAny_bind (PySem.W.setFind_any (knd := PySem.strKind P w) (S := fun j => decide (j ∈ lo)) (k := k) (PySem.Froz.is_str k tk) rfl hoo rfl po.tx.el (fun j => by rw [decide_eq_true_eq]; exact po.tx.mem j) hs1 po.tx.fit fun fd hfd2 => ?_)
    by_cases hk : k ∈ lo
    · rw [if_pos (by rw [hfd2]; exact decide_eq_true hk)]
      refine wpAny_bind (tx_add (k := k) (u := tk) hr (by omega) fun h' l' sb R m ll b => ?_)
      refine wpAny_pure ?_
      have hoy' : h'.get? y = some (PySem.Froz.sObj "set" Dy) := by
        rw [sb.2 y (Ne.symm hry)]
        exact hoy
      refine wpAny_bind (same_epoch hoy' py (wpAny_pure ?_))
      refine tx_fill hro hry py f hfd es ks hes hoy' (ho.at fun u z => by rw [sb.2 o (Ne.symm hro)]; exact z) R hz ?_ fun h2 lr2 tk2 sb2 R2 m2 => q h2 lr2 tk2 (sb.trans sb2) R2 fun j => ?_
      · omega
      · rw [m2, m, List.mem_cons]
        constructor
        · rintro ((z | z) | ⟨z, y⟩)
          · exact .inl z
          · exact .inr ⟨.inl z, by rw [z]; exact hk⟩
          · exact .inr ⟨.inr z, y⟩
        · rintro (z | ⟨z | z, y⟩)
          · exact .inl (.inl z)
          · exact .inl (.inr z)
          · exact .inr ⟨z, y⟩
    · rw [if_neg (by rw [hfd2, decide_eq_false hk]; exact Bool.false_ne_true)]
      refine wpAny_pure ?_
      refine wpAny_bind (same_epoch hoy py (wpAny_pure ?_))
      refine tx_fill hro hry py f hfd es ks hes hoy ho hr hz (by omega) fun h2 lr2 tk2 sb2 R2 m2 => q h2 lr2 tk2 sb2 R2 fun j => ?_
      rw [m2, List.mem_cons]
      constructor
      · rintro (z | ⟨z, y⟩)
        · exact .inl z
        · exact .inr ⟨.inr z, y⟩
      · rintro (z | ⟨z | z, y⟩)
        · exact .inl z
        · exact absurd (by rw [← z]; exact y) hk
        · exact .inr ⟨z, y⟩
theorem strs_keys : ∀ (es : List (Int × Value)), (∀ e ∈ es, ∃ k tk, e = (hashStr w k, Value.str k tk)) → ∃ ks : List Str, Paired (fun (e : Int × Value) (k : Str) => ∃ tk, e = (hashStr w k, Value.str k tk)) es ks ∧ (∀ j, j ∈ ks ↔ ∃ e ∈ es, (PySem.strKind P w).is j e.2 = true)
  | [], _ => ⟨[], .nil, fun j => by simp⟩
  | e :: es, h => by
    obtain ⟨ks, h1, h2⟩ := strs_keys es fun x hx => h x (List.mem_cons_of_mem _ hx)
    obtain ⟨k, tk, rfl⟩ := h e List.mem_cons_self
    refine ⟨k :: ks, .cons ⟨tk, rfl⟩ h1, fun j => ?_⟩
    rw [List.mem_cons, h2]
    constructor
    · rintro (rfl | ⟨e, he, z⟩)
      · exact ⟨_, List.mem_cons_self, PySem.Froz.is_str j tk⟩
      · exact ⟨e, List.mem_cons_of_mem _ he, z⟩
    · rintro ⟨e, he, z⟩
      rcases List.mem_cons.mp he with rfl | he
      · exact .inl ((PySem.strKind P w).inj (.str k tk) j k z (PySem.Froz.is_str k tk))
      · exact .inr ⟨e, he, z⟩
theorem tx_len {D : PySem.Froz.SD} (p : Pay P w D l) : D.1.size = l.length := p.tx.sz
theorem fresh_pay {h : Heap} : TxS P w (h.push { cls := .type "set", dict := none, data := .set #[] 0 (.fresh 0 0 (!w.params.followText "set-order")) }) h.objs.size [] :=
  ⟨(#[], 0, .fresh 0 0 (!w.params.followText "set-order")), Heap.get?_push_size _ rfl, ⟨PySem.Froz.TxOk.nil rfl, List.nodup_nil, List.Pairwise.nil, by
    show w.params.followText "set-order" = true ∨ (!w.params.followText "set-order") = true
    cases w.params.followText "set-order"
    · exact .inr rfl
    · exact .inl rfl⟩⟩
theorem any_set {b : Addr} {lb : List Str} {Q : Bool → Shared → Prop} (R : TxS P w s.heap b lb) (q : Q true s) : wpAny (model P w) A (Builtin.Frozenset.isAnySet (.ref b)) Q E s := by
  unfold Builtin.Frozenset.isAnySet
  refine wpAny_bind (wpAny_isInstance (tx_type R) sub_set_self ?_)
  exact wpAny_pure q
theorem tx_and {b : Addr} {la lb : List Str} {nm : String} {Q : Value → Shared → Prop} (Ra : TxS P w s.heap a la) (Rb : TxS P w s.heap b lb) (hab : a ≠ b) (hz : la.length + lb.length < scanBound)
    (q : ∀ h' lr d tk, (∀ c o, s.heap.get? c = some o → h'.get? c = some o) → TxS P w h' s.heap.objs.size lr → (∀ j, j ∈ lr ↔ j ∈ la ∧ j ∈ lb) → Q (.ref s.heap.objs.size) { s with heap := h', drawn := d, toks := tk }) :
    wpAny (model P w) A (Builtin.Frozenset.intersection nm a (.ref b)) Q E s := by
  have hlt : ∀ c lc, TxS P w s.heap c lc → c < s.heap.objs.size := fun c lc R => by
    obtain ⟨D, ho, _⟩ := R
    exact Heap.lt_size ho
  unfold Builtin.Frozenset.intersection
  refine wp_if_neg (by simp [Ne.symm hab]) ?_
  try refine wpAny_bind (wpAny_pure ?_)
  refine wpAny_bind ?_
  unfold Builtin.Frozenset.baseOf
  refine wpAny_bind (wpAny_isInstance (tx_type Ra) sub_set_self ?_)
  refine wpAny_pure ?_
  rw [if_pos rfl]
  refine wpAny_bind ?_
  unfold newSet
  refine wpAny_bind (wpAny_byText ?_)
  refine wpAny_newObj_type ?_
  refine wpAny_bind (wpAny_pure ?_)
  generalize hs1 : ({ s with heap := s.heap.push { cls := .type "set", dict := none, data := .set #[] 0 (.fresh 0 0 (!w.params.followText "set-order")) } } : Shared) = s1
  have k1 : ∀ c o, s.heap.get? c = some o → s1.heap.get? c = some o := fun c o e => by
    rw [← hs1]
    exact Heap.get?_push_of_some _ e
  have Rr : TxS P w s1.heap s.heap.objs.size [] := by
    rw [← hs1]
    exact fresh_pay
  have Ra1 := Ra.at (h' := s1.heap) fun o e => k1 a o e
  have Rb1 := Rb.at (h' := s1.heap) fun o e => k1 b o e
  -- the loop, for either choice of which one is walked
  have run : ∀ (x y : Addr) (lx ly : List Str) (G : PUnit → Shared → Prop), TxS P w s1.heap x lx → TxS P w s1.heap y ly → x < s.heap.objs.size → y < s.heap.objs.size → lx.length + ly.length < scanBound → x ≠ y →
      (∀ h' lr d tk, (∀ c o, s.heap.get? c = some o → h'.get? c = some o) → TxS P w h' s.heap.objs.size lr → (∀ j, j ∈ lr ↔ j ∈ lx ∧ j ∈ ly) → G PUnit.unit { s with heap := h', drawn := d, toks := tk }) →
      wpAny (model P w) A (do
        let was ← setEpoch y
        for (h, z) in ← setWalkUnseen y [x, s.heap.objs.size] (some s.heap.objs.size) do
          holding [z] do
            if (← setFind x z h).isSome then
              let _ ← setAddHashed s.heap.objs.size z h
          Builtin.Frozenset.unchanged nm y was) G E s1 := by
    intro x y lx ly G Rx Ry hx hy hz hxy g
    obtain ⟨Dy, hoy, py⟩ := id Ry
    refine wpAny_bind (wpAny_setEpoch_of hoy rfl py.tx.fit ?_)
    refine wpAny_bind (tx_unseen hoy py Rr (by decide) (fun c hc => ?_) fun es h2 d2 pm sb R2 => ?_)
    · rcases List.mem_cons.mp hc with rfl | hc
      · exact ⟨lx, Rx⟩
      · rw [List.mem_singleton.mp hc]
        exact ⟨[], Rr⟩
    obtain ⟨ks, pk, mk⟩ := strs_keys (P := P) (w := w) es.toList fun e he => py.strs e (pm.mem_iff.mp he)
    rw [← Array.forIn_toList]
    have hne : ∀ c, c < s.heap.objs.size → s.heap.objs.size ≠ c := fun c hc => Ne.symm (Nat.ne_of_lt hc)
    have k2 : ∀ c o, c < s.heap.objs.size → s1.heap.get? c = some o → h2.get? c = some o := fun c o hc e => by
      rw [sb.2 c (Nat.ne_of_lt hc)]
      exact e
    have hkl : es.toList.length ≤ ly.length := by
      rw [pm.length_eq, Array.length_toList, tx_len py]
      exact Nat.le_refl _
    have hoy2 : h2.get? y = some (PySem.Froz.sObj "set" Dy) := k2 y _ hy hoy
    refine wpAny_bind (tx_fill (r := s.heap.objs.size) (o := x) (lo := lx) (nm := nm) (hne x hx) (hne y hy) py _ (fun e => rfl) es.toList ks pk hoy2 (Rx.at fun o e => k2 x o hx e) R2 (by omega) (by simp only [List.length_nil]; omega) fun h3 l3 tk3 sb3 R3 m3 => ?_)
    refine wpAny_pure ?_
    have fin := g h3 l3 d2 tk3 (fun c o e => by
      have hc := Heap.lt_size e
      rw [sb3.2 c (Nat.ne_of_lt hc)]
      exact k2 c o hc (k1 c o e)) R3 (fun j => by
        rw [m3, mk]
        constructor
        · rintro (z | ⟨⟨e, he, z⟩, y⟩)
          · cases z
          · exact ⟨y, (py.tx.mem j).mpr ⟨e, pm.mem_iff.mp he, z⟩⟩
        · rintro ⟨z, y⟩
          obtain ⟨e, he, v⟩ := (py.tx.mem j).mp y
          exact .inr ⟨⟨e, pm.mem_iff.mpr he, v⟩, z⟩)
    rw [← hs1]
    exact fin
  refine wpAny_bind (wpAny_holding ?_)
  refine wpAny_bind (any_set Rb1 ?_)
  refine wp_if_pos rfl ?_
  refine wpAny_bind (wpAny_pure ?_)
  obtain ⟨Da, hoa, pa⟩ := id Ra1
  obtain ⟨Db, hob, pb⟩ := id Rb1
  unfold Builtin.Frozenset.sizeOf
  refine wpAny_bind (wpAny_bind (wpAny_setEntries_of hob rfl pb.tx.fit (wpAny_pure ?_)))
  refine wpAny_bind (wpAny_bind (wpAny_setEntries_of hoa rfl pa.tx.fit (wpAny_pure ?_)))
  have ha := hlt a la Ra
  have hb := hlt b lb Rb
  by_cases hc : Db.1.size > Da.1.size
  · rw [if_pos hc]
    refine run b a lb la (fun _ s' => wpAny (model P w) A (pure (Value.ref s.heap.objs.size)) Q E s') Rb1 Ra1 hb ha (by omega) (Ne.symm hab) fun h' lr d tk k R m => wpAny_pure (q h' lr d tk k R fun j => by rw [m]; exact And.comm)
  · rw [if_neg hc]
    exact run a b la lb (fun _ s' => wpAny (model P w) A (pure (Value.ref s.heap.objs.size)) Q E s') Ra1 Rb1 ha hb hz hab fun h' lr d tk k R m => wpAny_pure (q h' lr d tk k R m)
/-! ### set(words) -/
/-- the walked texts go into the set at S, one after another -/
theorem tx_update {I S : Addr} {fp wr : List Addr} {G : Array GenState → Array GenState → Prop} {n : Nat} {Pv : Nat → Value → Prop} {St : Nat → Shared → Prop} {R : Result → Shared → Prop} (W : WalksS P w A.in1 I fp wr G n Pv St) (hS : S ∉ fp)
    (xs : List Str) (hv : ∀ i v, Pv i v → ∃ x t, xs[i]? = some x ∧ v = .str x t) (hn : n = xs.length) (hz : n < 4000) : ∀ (k i : Nat) (s : Shared), n - i = k → i ≤ n → St i s → (∃ l, TxS P w s.heap S l ∧ (∀ j, j ∈ l ↔ j ∈ xs.take i) ∧ l.length ≤ i) →
    (∀ s', Moved (S :: wr) G s s' → (∃ l, TxS P w s'.heap S l ∧ (∀ j, j ∈ l ↔ j ∈ xs) ∧ l.length ≤ n) → R (.ok (.ret .none)) s') → codeAny (model P w) A (.builtin "set.update.loop" ⟨[.ref S, .ref I], []⟩) R s := by
  have hSw : S ∉ wr := fun z => hS (W.sub _ z)
  have up : ∀ b ∈ wr, b ∈ S :: wr := fun b z => List.mem_cons_of_mem _ z
  intro k
  induction k with
  | zero =>
    intro i s hk hi hst ⟨l, T, m, ll⟩ fin
    obtain rfl : i = n := by omega
    refine codeAny_builtin PyProof.Rows.F.entry_set_update_loop ?_
    rw [Around.under_plainId PyProof.Rows.F.plain_set_update_loop _]
    show wpAny _ A.in1 (pyNext (.ref I) >>= _) _ _ s
    refine wpAny_bind (W.done s _ _ hst fun s2 mv => ?_)
    rw [hn, List.take_length] at m
    exact wpAny_pure (fin s2 (mv.mono up) ⟨l, T.at fun o e => mv.heap S o hSw e, m, ll⟩)
  | succ k ih =>
    intro i s hk hi hst ⟨l, T, m, ll⟩ fin
    have hlt : i < n := by omega
    refine codeAny_builtin PyProof.Rows.F.entry_set_update_loop ?_
    rw [Around.under_plainId PyProof.Rows.F.plain_set_update_loop _]
    show wpAny _ A.in1 (pyNext (.ref I) >>= _) _ _ s
    refine wpAny_bind (W.item i s _ _ hlt hst fun v s2 hp hst2 mv => ?_)
    obtain ⟨x, t, hx, rfl⟩ := hv i v hp
    have T2 : TxS P w s2.heap S l := T.at fun o e => mv.heap S o hSw e
    show wpAny _ A.in1 (holding [Value.str x t] (setAdd S (.str x t)) >>= _) _ _ s2
    refine wpAny_bind (wpAny_holding ?_)
    unfold setAdd
    refine wpAny_holding (wpAny_bind ((PySem.strKind P w).pyHash (k := x) (PySem.Froz.is_str x t) ?_))
    refine tx_add (s := { s2 with toks := s2.toks + 1 }) (k := x) (u := t) T2 (by show l.length + 1 < 4096; omega) fun h3 l3 sb T3 m3 ll3 b => ?_
    have m4 : ∀ j, j ∈ l3 ↔ j ∈ xs.take (i + 1) := fun j => by
      rw [m3, m, List.take_add_one, hx, List.mem_append]
      simp
    refine wpAny_pure ⟨plainId_quiet PyProof.Rows.F.plain_set_update_loop _, ih (i + 1) _ (by omega) hlt (W.frame _ s2 _ _ hst2 (Nat.le_succ _) fun c hc o e => ?_) ⟨l3, T3, m4, by omega⟩ fun s4 mv4 R4 => ?_⟩
    · rw [sb.2 c fun z => hS (z ▸ hc)]
      exact e
    · refine fin s4 (Moved.trans W.gtrans ((mv.mono up).then_heap (Nat.le_succ _) fun c o hc e => ?_) mv4) R4
      rw [sb.2 c fun z => hc (by rw [z]; exact List.mem_cons_self)]
      exact e
abbrev newS (w : World) : Obj := { cls := .type "set", dict := none, data := .set #[] 0 (.fresh 0 0 (!w.params.followText "set-order")) }
set_option maxHeartbeats 8000000 in
theorem tx_of_list {p : Addr} {its : Array Value} {xs : List Str} {Q : Value → Shared → Prop} (hh : A.handled = none) (hp : s.heap.IsList p its) (hx : ∀ (i : Nat) (v : Value), its[i]? = some v → ∃ (x : Str) (t : Tok), xs[i]? = some x ∧ v = Value.str x t) (hn : its.size = xs.length) (hz : its.size < 4000)
    (q : ∀ h' tk l, TxS P w h' s.heap.objs.size l → (∀ j, j ∈ l ↔ j ∈ xs) → l.length ≤ xs.length → (∀ b o, s.heap.get? b = some o → h'.get? b = some o) → Q (.ref s.heap.objs.size) { s with heap := h', toks := tk }) : wpAny (model P w) A (call (.type "set") [.ref p]) Q E s := by
  obtain ⟨c0, tl0, hmro⟩ := F.called_set.mro
  have f1 := F.called_set.made; have f2 := F.called_set.sub; have f3 := F.called_set.notType; have f4 := F.called_set.canCreate; have f5 := F.typeCall_set_1 (.ref p)
  refine wpAny_call (codeAny_of_tree ?_)
  show wpAny _ _ (callAny (.type "set") _) _ _ _
  refine wpAny_pure ⟨Code.quiet_builtin _ (by decide +kernel), codeAny_builtin F.entry_type_call ?_⟩
  rw [Around.under_plain (weight_type_call_type "set" [.ref p] []) rfl]
  repeat any_goals (first | assumption | wp_step)
  refine codeAny_mono (code_set_led1 (.ref p) (E := E) (Q₁ := fun ob s1 => ob = .ref s.heap.objs.size ∧ s1 = { s with heap := s.heap.push (newS w) }) ⟨rfl, rfl⟩) fun r s1 hr => ?_
  cases r with
  | error e => exact hr
  | ok fl => cases fl with
    | next => exact hr.elim
    | brk => exact hr.elim
    | cont => exact hr.elim
    | ret ob =>
      obtain ⟨rfl, rfl⟩ := hr
      have hS : (s.heap.push (newS w)).get? s.heap.objs.size = some (newS w) := Heap.get?_push_size _ rfl
      have hT : Shared.TypeIs { s with heap := s.heap.push (newS w) } (.ref s.heap.objs.size) "set" := ⟨_, hS, rfl⟩
      have g1 := F.called_set.init.lookup; have g2 := F.called_set.init.bind (.ref s.heap.objs.size)
      repeat any_goals (first | assumption | wp_step)
      refine codeAny_mono (codeAny_call_builtin (R := wants (fun r s2 => r = .none ∧ ∃ h' tk l, s2 = { s with heap := h', toks := tk } ∧ TxS P w h' s.heap.objs.size l ∧ (∀ j, j ∈ l ↔ j ∈ xs) ∧ l.length ≤ xs.length ∧ (∀ b o, s.heap.get? b = some o → h'.get? b = some o)) E) F.called_set.init.plain F.entry_set_init (check_set_init_1 hT ?_)) fun r2 s2 hr2 => ?_
      · obtain ⟨⟨oc, od, odt, osl⟩, ho, hc, n0, hd⟩ := hp
        simp only at hc hd
        subst hc; subst hd
        have ho' : (s.heap.push (newS w)).get? p = some { cls := .type "list", dict := od, data := .seq its n0, slots := osl } := Heap.get?_push_of_some _ ho
        have e1 := F.sub_list_set; have e2 := F.sub_list_frozenset
        have e3 : (Value.type "list" == Value.type "dict") = false := by decide
        have hl : (s.heap.push (newS w)).IsList p its := ⟨_, ho', rfl, n0, rfl⟩
        have hps : p < s.heap.objs.size := Heap.lt_size ho
        have hz1 : (s.heap.push (newS w)).objs.size = s.heap.objs.size + 1 := Heap.size_push ..
        unfold Builtin.«set.__init__» noKeywords Builtin.Frozenset.updateFrom
        generalize hPI : pyIter = PI
        wp_walk
        subst hPI
        refine wpAny_pyIter_list hl (wpAny_bind (wpAny_runValue ?_))
        have hh3 : A.in1.in1.in1.handled = none := by simp [hh]
        have n1 : p ≠ (s.heap.push (newS w)).objs.size := by
          rw [hz1]
          exact Nat.ne_of_lt (Nat.lt_succ_of_lt hps)
        have n2 : s.heap.objs.size ∉ [(s.heap.push (newS w)).objs.size, p] := fun z => by
          rcases List.mem_cons.mp z with z | z
          · rw [hz1] at z
            exact Nat.ne_of_lt (Nat.lt_succ_self _) z
          · exact Nat.ne_of_gt hps (List.mem_singleton.mp z)
        refine tx_update ((Walks.list hh3 _ p n1 its).toS) n2 xs hx hn hz (its.size - 0) 0 _ (by omega) (Nat.zero_le _) ⟨⟨_, Heap.get?_push_size _ rfl, rfl, rfl⟩, hl.push _⟩
          ⟨[], (fresh_pay (P := P) (w := w) (h := s.heap)).at fun o e => Heap.get?_push_of_some _ e, fun j => by simp, Nat.le_refl _⟩ fun s3 mv ⟨l, T, m, ll⟩ => ?_
        obtain ⟨h3, gg, dd, tk, oo⟩ := s3
        obtain rfl : gg = s.gens := mv.gens
        obtain rfl : dd = s.drawn := mv.drawn
        obtain rfl : oo = s.os := mv.os
        refine wpAny_pure ?_
        show wpAny _ _ (ret Value.none) _ _ _
        refine wpAny_pure ⟨rfl, h3, tk, l, rfl, T, m, by omega, fun b o e => ?_⟩
        have hb := Heap.lt_size e
        refine mv.heap b o (fun z => ?_) (Heap.get?_push_of_some _ (Heap.get?_push_of_some _ e))
        rcases List.mem_cons.mp z with z | z
        · exact Nat.ne_of_lt hb z
        · rw [List.mem_singleton.mp z, hz1] at hb
          exact absurd hb (Nat.not_lt_of_le (Nat.le_succ _))
      · cases r2 with
        | error e => exact hr2
        | ok fl2 => cases fl2 with
          | next => exact hr2.elim
          | brk => exact hr2.elim
          | cont => exact hr2.elim
          | ret r =>
            obtain ⟨rfl, h', tk, l, rfl, T, m, ll, k⟩ := hr2
            repeat any_goals (first | assumption | wp_step)
            exact q _ _ _ T m ll k
end
end MuSet

namespace MuSet
open PySem PySem.Spec PyProof.Rows L2
section
variable {P : Program} {w : World} {A : Around} {E : Value → Shared → Prop} {s : Shared} {h h' : Heap} {a : Addr} {l l' : List Str}
/-! ### sorted(set), len(set) -/
/-- a list as long as one without repetition that has the same members has none either -/
theorem nodup_of_len : ∀ {α : Type} [DecidableEq α] {l xs : List α}, l.Nodup → (∀ j, j ∈ xs ↔ j ∈ l) → xs.length ≤ l.length → xs.Nodup := by
  intro α _ l
  induction l with
  | nil =>
    intro xs _ m _
    cases xs with
    | nil => exact List.nodup_nil
    | cons x r => exact absurd ((m x).mp List.mem_cons_self) (by simp)
  | cons y l ih =>
    intro xs nd m ll
    obtain ⟨n1, n2⟩ := List.nodup_cons.mp nd
    have hy : y ∈ xs := (m y).mpr List.mem_cons_self
    have pm := List.perm_cons_erase hy
    have hl : (xs.erase y).length + 1 = xs.length := by
      rw [pm.length_eq]
      rfl
    -- what is left without every y
    have sub : ∀ j, j ∈ (xs.filter (fun z => decide (z ≠ y))) ↔ j ∈ l := fun j => by
      rw [List.mem_filter, m, List.mem_cons, decide_eq_true_eq]
      constructor
      · rintro ⟨z | z, h⟩
        · exact absurd z h
        · exact z
      · intro z
        exact ⟨.inr z, fun e => n1 (e ▸ z)⟩
    have fl : (xs.filter (fun z => decide (z ≠ y))).length ≤ (xs.erase y).length := by
      have e1 : (xs.filter (fun z => decide (z ≠ y))).Perm ((y :: xs.erase y).filter (fun z => decide (z ≠ y))) := pm.filter _
      rw [e1.length_eq, List.filter_cons, if_neg (by simp)]
      exact List.length_filter_le _ _
    have hll : xs.length ≤ l.length + 1 := ll
    have nd2 := ih n2 sub (by omega)
    have fe : (xs.filter (fun z => decide (z ≠ y))).length = l.length := ((List.perm_ext_iff_of_nodup nd2 n2).mpr sub).length_eq
    have e2 : (xs.erase y).filter (fun z => decide (z ≠ y)) = xs.erase y := by
      have e1 : (xs.filter (fun z => decide (z ≠ y))).Perm ((y :: xs.erase y).filter (fun z => decide (z ≠ y))) := pm.filter _
      rw [List.filter_cons, if_neg (by simp)] at e1
      have q := e1.length_eq
      exact List.filter_eq_self.mpr (List.length_filter_eq_length_iff.mp (by
        have := List.length_filter_le (fun z => decide (z ≠ y)) (xs.erase y)
        omega))
    have ye : y ∉ xs.erase y := fun z => by
      rw [← e2, List.mem_filter] at z
      simp at z
    refine pm.nodup_iff.mpr (List.nodup_cons.mpr ⟨ye, ?_⟩)
    have e1 : (xs.filter (fun z => decide (z ≠ y))).Perm ((y :: xs.erase y).filter (fun z => decide (z ≠ y))) := pm.filter _
    rw [List.filter_cons, if_neg (by simp), e2] at e1
    exact e1.nodup_iff.mp nd2
theorem tx_sorted {Q : Value → Shared → Prop} (R : TxS P w s.heap a l) (hh : A.handled = none) (h64 : l.length < 64)
    (q : ∀ s2 p (out : Array Value) (c : Nat) (ys : List Str), (∀ b o, s.heap.get? b = some o → s2.heap.get? b = some o) → s2.gens = s.gens → s2.os = s.os → s.heap.objs.size ≤ p → s2.heap.get? p = some (seqObj "list" out c) →
      StrsAre out.toList ys → sortedS ys = true → ys.Nodup → (∀ j, j ∈ ys ↔ j ∈ l) → Q (.ref p) s2) : wpAny (model P w) A (call (.builtin "sorted") [.ref a]) Q E s := by
  obtain ⟨⟨es, ep, t⟩, ho, p⟩ := R
  have hsz : es.size = l.length := p.tx.sz
  refine Calls.call_function_entry kind_sorted plain_sorted entry_sorted (args_sorted1 _) ?_
  unfold Builtin.«sorted»
  refine wpAny_bind (m := checkCount "sorted" 1 1 _) (wpAny_pure ?_)
  refine wpAny_bind (collect_set (A := A.in1) hh ⟨_, ho, rfl, rfl⟩ p.tx.fit (by show es.size < 4096; omega) p.ris p.led fun s1 vs k1 hz g1 o1 pm => ?_)
  have hvl : vs.length = l.length := by
    rw [pm.length_eq, List.length_map, Array.length_toList]
    exact hsz
  have vstr : ∀ v ∈ vs, ∃ x t, v = Value.str x t := fun v hv => by
    obtain ⟨e, he, z⟩ := List.mem_map.mp (pm.mem_iff.mp hv)
    obtain ⟨k, tk, rfl⟩ := p.strs e he
    exact ⟨k, tk, z.symm⟩
  have hI : StrsAre vs (vs.map strOf) := strsAre_map vs vstr
  refine wpAny_bind (wpAny_newList ?_ (by rw [hvl, sizeLine_eq]; omega))
  have hoL : (s1.heap.push (seqObj "list" vs.toArray 0)).get? s1.heap.objs.size = some (seqObj "list" vs.toArray 0) := Heap.get?_push_size _ rfl
  refine wpAny_bind (wpAny_holding (wpAny_call_entry slot_list_sort ⟨_, hoL, rfl⟩ entry_list_sort (list_sort_treeKAny strKind_oneLt hoL hI.keysOf (fun v1 v2 rest e => keyKind_strs (by rw [← e]; exact hI)) (by rw [hvl, sizeLine_eq]; omega) fun st hp hs => ⟨_, rfl, ?_⟩) (args_list_sort _)))
  obtain ⟨ys, h1, h2, h3⟩ := sorted_out_str hI hp hs
  obtain ⟨c, hc⟩ := sortedHeap_at (vs := vs) (out := (arrOf st).map (·.2)) hoL
  have memk : ∀ j, j ∈ vs.map strOf ↔ j ∈ l := fun j => by
    rw [p.tx.mem j, List.mem_map]
    constructor
    · rintro ⟨v, hv, z⟩
      obtain ⟨e, he, y⟩ := List.mem_map.mp (pm.mem_iff.mp hv)
      obtain ⟨k, tk, rfl⟩ := p.strs e he
      refine ⟨_, he, ?_⟩
      rw [← z, ← y]
      exact PySem.Froz.is_str k tk
    · rintro ⟨e, he, z⟩
      obtain ⟨k, tk, rfl⟩ := p.strs e he
      refine ⟨.str k tk, pm.mem_iff.mpr (List.mem_map.mpr ⟨_, he, rfl⟩), ?_⟩
      exact (PySem.strKind P w).inj (.str k tk) k j (PySem.Froz.is_str k tk) z
  have hnd : (vs.map strOf).Nodup := by
    refine nodup_of_len (l := l) p.nd (fun j => memk j) ?_
    rw [List.length_map, hvl]
    exact Nat.le_refl _
  refine wpAny_pure ⟨_, rfl, q _ s1.heap.objs.size _ c ys (fun b u e => ?_) g1 o1 hz hc h1 h3 (h2.nodup_iff.mpr hnd) (fun j => by rw [h2.mem_iff, memk])⟩
  have z := k1 b u e
  have hlt := Heap.lt_size z
  show (sortedHeap (s1.heap.push (seqObj "list" vs.toArray 0)) s1.heap.objs.size vs _).get? b = some u
  rw [sortedHeap_old (Nat.ne_of_lt hlt) (by rw [size_push']; exact Nat.lt_succ_of_lt hlt)]
  exact Heap.get?_push_of_some _ z
end
/-! ### the same for the layer: a set of texts in the abstract heap -/
def SetTx (P : Program) (w : World) (a : Addr) (l : List Str) : HO := .ext fun h => TxS P w h a l
theorem setTx_new {P : Program} {w : World} {H : Hp} {h : Heap} {a : Addr} {l : List Str} (R : TxS P w h a l) : ObjOk P w H h a (SetTx P w a l) := by
  have ⟨D, ho, _⟩ := R
  exact ⟨R, ⟨_, ho⟩, fun h1 h2 p k => TxS.at p k⟩
section
variable {X : Cx} {pins : List (Addr × Obj)} {σ : L2.St} {H : Hp} {s : Shared} {a : Addr} {l : List Str}
theorem setTx_get (I : Inv X pins σ H s) (ha : H a = some (SetTx X.prog X.w a l)) : TxS X.prog X.w s.heap a l := (I.hok a _ ha).1
/-- set(words) -/
def rSetTx (K : PySem.W.Frag) (P : Program) (w : World) : List V → Hp → VK → Prop := fun vs H Q => ∃ (p : Addr) (xs : List Str), vs = [.ref p] ∧ SqL K H p (xs.map V.str) ∧ xs.length < 4000 ∧
  ∀ a l, H a = none → l.Nodup → (∀ j, j ∈ l ↔ j ∈ xs) → l.length ≤ xs.length → Q (.ref a) (upd H a (SetTx P w a l))
theorem cr_setTx (hc : X.calm = true) : CallR X (.type "set") (rSetTx X.K X.prog X.w) := by
  intro pins s σ H vs us Q I r h
  obtain ⟨p, xs, rfl, hs, hz, q⟩ := h
  obtain ⟨its, rv, hl, _⟩ := I.list hs
  rw [Vals.ref1 r]
  have hlen := rv.length
  rw [List.length_map] at hlen
  refine tx_of_list (xs := xs) (I.ok.hd hc) hl.isList (fun i v hv => ?_) (by simpa using hlen.symm) (by simpa using (by omega : its.length < 4000)) fun h' tk l T m ll k => ?_
  · have hi : i < xs.length := by
      have := (Array.getElem?_eq_some_iff.mp hv).1
      simp at this
      omega
    have e1 : (xs.map V.str)[i]? = some (V.str xs[i]) := by
      rw [List.getElem?_map, List.getElem?_eq_getElem hi]
      rfl
    obtain ⟨u, hu, t, rfl⟩ := rv.get e1
    have e2 : its[i]? = some v := by simpa using hv
    rw [hu] at e2
    exact ⟨xs[i], t, List.getElem?_eq_getElem hi, (Option.some.inj e2).symm⟩
  · have ⟨D, _, p⟩ := T
    exact ⟨.ref _, upd H s.heap.objs.size (SetTx X.prog X.w s.heap.objs.size l), I.laid (t' := tk) k (Nat.le_refl _) (setTx_new T), rfl, q _ l (I.hok.fresh (Nat.le_refl _)) p.nd m ll⟩
/-- one & other -/
def rAndTx (P : Program) (w : World) : R2 := fun x y H Q => ∃ (a b : Addr) (la lb : List Str), x = .ref a ∧ y = .ref b ∧ H a = some (SetTx P w a la) ∧ H b = some (SetTx P w b lb) ∧ a ≠ b ∧ la.length + lb.length < 4000 ∧
  ∀ c lc, H c = none → lc.Nodup → (∀ j, j ∈ lc ↔ j ∈ la ∧ j ∈ lb) → Q (.ref c) (upd H c (SetTx P w c lc))
theorem entry_set_and : entryFor table "set.__and__" = some Builtin.«frozenset.__and__» := entryFor_alias (id' := "frozenset.__and__") (by kernel_rfl) rfl (by decide +kernel) (by kernel_rfl)
theorem op_andTx : OpR X (binaryOp .BitAnd) (rAndTx X.prog X.w) := by
  intro pins s σ H x y v u Q I rx ry h
  obtain ⟨a, b, la, lb, rfl, rfl, ha, hb, hab, hz, q⟩ := h
  obtain rfl : v = Value.ref a := rx
  obtain rfl : u = Value.ref b := ry
  have Ra := setTx_get I ha
  have Rb := setTx_get I hb
  refine wpAny_binaryOp_same (tx_type Ra) (tx_type Rb) F.fills_set_and F.slot_set_and ?_
  refine wpAny_call_entry F.slot_set_and (tx_type Ra) entry_set_and ?_ (F.args_set_and_2 _ _)
  unfold Builtin.«frozenset.__and__»
  refine wpAny_bind (m := Builtin.Frozenset.slot1 "__and__" _) (wpAny_of_eq (a := (.ref a, .ref b)) (by rfl) ?_)
  refine wpAny_bind (wpAny_bind (any_set Ra ?_))
  refine any_set Rb ?_
  refine wp_if_neg (by simp) ?_
  refine wpAny_bind (m := Builtin.Frozenset.addrOf _) (wpAny_pure ?_)
  refine wpAny_bind (tx_and Ra Rb hab (by show la.length + lb.length < 4096; omega) fun h' lr d tk k R m => ?_)
  refine wpAny_pure ⟨_, rfl, ?_⟩
  have hn : H s.heap.objs.size = none := I.hok.fresh (Nat.le_refl _)
  have ⟨D, _, p⟩ := R
  refine ⟨fun z => (by cases z), .ref _, upd H s.heap.objs.size (SetTx X.prog X.w s.heap.objs.size lr), ?_, rfl, q _ lr hn p.nd m⟩
  exact I.call (ch := []) (Un.laid k (Nat.le_refl _) hn) (I.hok.laid k (Nat.le_refl _) (setTx_new R)) I.bare (fun _ z => nomatch z)
/-- sorted(set) -/
def rSortedTx (P : Program) (w : World) : List V → Hp → VK → Prop := fun vs H Q => ∃ (a : Addr) (l : List Str), vs = [.ref a] ∧ H a = some (SetTx P w a l) ∧ l.length < 64 ∧
  ∀ p ys, H p = none → sortedS ys = true → ys.Nodup → (∀ j, j ∈ ys ↔ j ∈ l) → Q (.ref p) (upd H p (.lst (ys.map V.str)))
theorem cr_sortedTx (hc : X.calm = true) : CallR X (.builtin "sorted") (rSortedTx X.prog X.w) := by
  intro pins s σ H vs us Q I r h
  obtain ⟨a, l, rfl, ha, h64, q⟩ := h
  have R := setTx_get I ha
  rw [Vals.ref1 r]
  refine tx_sorted R (I.ok.hd hc) h64 fun s2 p out c ys k g o hp hg hi hs hnd hm => ?_
  have hn : H p = none := I.hok.fresh hp
  have rv : Vals (ys.map V.str) out.toList := vals_of_strs hi
  have hlen : (ys.map V.str).length ≤ sizeLine := by
    have e : ys.length = l.length := by
      have ⟨D, _, pp⟩ := R
      exact ((List.perm_ext_iff_of_nodup hnd pp.nd).mpr hm).length_eq
    rw [List.length_map, e, sizeLine_eq]
    omega
  have J : Inv X pins σ (upd H p (.lst (ys.map V.str))) { s with heap := s2.heap, gens := s2.gens, drawn := s2.drawn, toks := s2.toks } :=
    I.call (ch := []) (Un.laid k hp hn) (I.hok.laid k hp ⟨hlen, out.toList, c, rv, hg⟩) (by rw [g]; exact I.bare) (fun _ z => nomatch z)
  have e : s2 = { s with heap := s2.heap, gens := s2.gens, drawn := s2.drawn, toks := s2.toks } := by
    obtain ⟨_, _, _, _, _⟩ := s2
    obtain rfl : _ = s.os := o
    rfl
  rw [e]
  exact ⟨.ref p, _, J, rfl, q p ys hn hs hnd hm⟩
/-- len(set) -/
def rLenTx (P : Program) (w : World) : List V → Hp → VK → Prop := fun vs H Q => ∃ (a : Addr) (l : List Str), vs = [.ref a] ∧ H a = some (SetTx P w a l) ∧ l.length < 4000 ∧ Q (.int l.length) H
theorem cr_lenTx : CallR X (.builtin "len") (rLenTx X.prog X.w) := by
  intro pins s σ H vs us Q I r h
  obtain ⟨a, l, rfl, ha, hz, q⟩ := h
  obtain ⟨D, ho, p⟩ := setTx_get I ha
  rw [Vals.ref1 r]
  have hsz : D.1.size = l.length := p.tx.sz
  exact call_len_set ho ⟨rfl, rfl, rfl⟩ rfl p.tx.fit (by rw [hsz]; omega) ⟨.int l.length, H, I.tok _, ⟨_, by rw [hsz]⟩, q⟩
end
end MuSet

namespace MuGen
open PySem PySem.Spec PyProof.Rows L2
/-- the table of a code object, tracked without what it holds -/
def TabO (P : Addr) : HO := .ext fun h => ∃ ps : Array Value,
  h.get? P = some { cls := .none, data := .fields ps } ∧ TriplesOk ps.toList
section
variable {X : Cx} {pins : List (Addr × Obj)} {σ : L2.St} {H : Hp} {s : Shared}
theorem tab_get {P : Addr} (I : Inv X pins σ H s) (h : H P = some (TabO P)) :
    ∃ ps : Array Value, s.heap.get? P = some { cls := .none, data := .fields ps } ∧ TriplesOk ps.toList :=
  (I.hok P _ h).1
/-- the table is another one, all else that stood stands -/
theorem inv_grown {P : Addr} {ps : Array Value} {hn : Heap} {gn : Array GenState} {dn : Drawn} {tn : Nat}
    (I : Inv X pins σ H s) (hP : H P = some (TabO P))
    (k : ∀ b o, b ≠ P → s.heap.get? b = some o → hn.get? b = some o)
    (hm : hn.get? P = some { cls := .none, data := .fields ps }) (ht : TriplesOk ps.toList)
    (hg : AllBare gn) : Inv X pins σ H { s with heap := hn, gens := gn, drawn := dn, toks := tn } := by
  have off : ∀ b, H b = none → b ≠ P := fun b e z => by
    rw [z, hP] at e
    exact nomatch e
  have off2 : ∀ b u, H b = some u → u ≠ TabO P → b ≠ P := fun b u e n z => by
    rw [z, hP] at e
    exact n (Option.some.inj e).symm
  refine I.step (g' := gn) (d' := dn) (t' := tn) (ch := []) (fun b z => nomatch z)
    (fun b o _ _ _ e n => k b o (off b n) e) (fun b o _ _ _ e n => ⟨o.slots, k b o (off b n) e⟩)
    (fun _ _ _ _ n => n) (fun b o _ e => ?_) (fun _ _ e => e) (fun _ _ _ e => e)
    (fun b qs e => ⟨#[], by rw [Array.append_empty]; exact e⟩) (fun m q => ?_) (fun b u e => ?_) hg
  · rcases Decidable.em (b = P) with z | z
    · exact ⟨_, z ▸ hm⟩
    · exact ⟨o, k b o z e⟩
  · have ⟨ob, es, ep, ho, r⟩ := q
    exact ⟨ob, es, ep, k _ ob (off _ I.free) ho, r⟩
  · rcases Decidable.em (b = P) with z | z
    · subst z
      rw [hP] at e
      obtain rfl := Option.some.inj e
      exact ⟨⟨ps, hm, ht⟩, ⟨_, hm⟩, fun h1 h2 ⟨qs, a1, a2⟩ a3 => ⟨qs, a3 _ a1, a2⟩⟩
    · refine (I.hok b u e).stay (fun d v hd q => k d v ?_ q) (fun _ q => q) fun _ _ q => q
      rcases hd with y | y
      · exact y ▸ z
      · exact off2 d _ y (fun t => nomatch t)
/-- what is known where the element is told -/
structure Here (X : Cx) (P : Addr) (scope : Scope) (s1 s2 : Shared) (e : Env) : Prop where
  sc : e.scope = scope
  cl : e.cells = cloFrom X.env.cells scope.names []
  gl : e.globals = X.env.globals
  bl : e.builtins = builtinsNs
  kept : ∀ b o, b ≠ P → s1.heap.get? b = some o → s2.heap.get? b = some o
/-- the element, of the thing v -/
def Elt (X : Cx) (P : Addr) (scope : Scope) (x : Str) (elt : Expr) (s1 : Shared) (F : Value → Prop) (v : Value) : Prop :=
  ∀ (e : Env) (B : Around) (E : Value → Shared → Prop) (s2 : Shared) (m : Str → Option Value),
    Here X P scope s1 s2 e → B.handled = none → s2.heap.Ns e.locals m → m x = some v →
    wpAny (model X.prog X.w) B (eval elt e) (fun y s3 => F y ∧ Keeps s2 s3) E s2
/-- what is walked: n things, of which Pf speaks -/
def IterTo (X : Cx) (P : Addr) (n : Nat) (Pf : Nat → Value → Prop) (xv : Value) (s1 : Shared) : Prop :=
  ∀ Q : Value → Shared → Prop,
    (∀ (o : Obj) (fp : List Addr) (St : Nat → Heap → Prop),
      (∀ B : Around, B.handled = none → Walks X.prog X.w B s1.heap.objs.size fp [s1.heap.objs.size] n Pf St) →
      St 0 (s1.heap.push o) → (∀ b ∈ fp, b < s1.heap.objs.size + 1 ∧ b ≠ P) →
      Q (.ref s1.heap.objs.size) { s1 with heap := s1.heap.push o }) →
    wpAny (model X.prog X.w) X.A (pyIter xv) Q X.xe s1
/-- the generator stands ready, as it is walked all that was held is held -/
def Ready (X : Cx) (pins : List (Addr × Obj)) (σ : L2.St) (H1 : Hp) (n : Nat) (F : Nat → Value → Prop) (g : Addr) (s5 : Shared) : Prop :=
  ∃ (fp wr : List Addr) (G : Array GenState → Array GenState → Prop) (F' : Nat → Value → Prop) (St : Nat → Shared → Prop),
    WalksS X.prog X.w X.A.in1 g fp wr G n F' St ∧ St 0 s5 ∧ (∀ b ∈ fp, b < s5.heap.objs.size) ∧ (∀ j v, F' j v → j < n ∧ F j v) ∧
    ∀ s6, Moved wr G s5 s6 → Inv X pins σ H1 s6
theorem told {p : Program} {w : World} {B : Around} {i : Addr} {fp wr : List Addr} {n : Nat} {F F' : Nat → Value → Prop} {St : Nat → Heap → Prop}
    (W : Walks p w B i fp wr n F St) (h : ∀ j v, F j v → F' j v) : Walks p w B i fp wr n F' St where
  sub := W.sub
  frame := W.frame
  done := W.done
  self := W.self
  item := fun j s Q E lt st q => W.item j s Q E lt st fun v h' tk y => q v h' tk (h j v y)
theorem one_mem {a b : Addr} (h : a ∈ [b]) : a = b := List.mem_singleton.mp h
/-- the code object of the expression, made here or found -/
theorem code_any {c P : Addr} {ps : Array Value} {scope : Scope} {gpos : Pos} {qn : Str} {Q : Value → Shared → Prop} {E : Value → Shared → Prop} {B : Around}
    {s1 : Shared} (hcode : X.env.code = .ref c) (cd : PySem.W.CodeHd s1.heap c P)
    (e0 : s1.heap.get? P = some { cls := .none, data := .fields ps }) (ht : TriplesOk ps.toList)
    (h : ∀ (code : Value) (h3 : Heap) (tk : Nat) (qs : Array Value), Heap.ExtBut P s1.heap h3 → s1.heap.objs.size ≤ h3.objs.size →
      h3.get? P = some { cls := .none, data := .fields qs } → TriplesOk qs.toList → Q code { s1 with heap := h3, toks := tk }) :
    wpAny (model X.prog X.w) B (genexprCode X.env gpos qn scope) Q E s1 := by
  cases found : codeAmong gpos ps.toList with
  | some cv =>
    refine wpAny_genexprCode_hit hcode (cd.code e0 ht) found ?_
    exact h cv s1.heap s1.toks ps (Heap.ExtBut.refl _ _) (Nat.le_refl _) e0 ht
  | none =>
    refine wpAny_genexprCodeX hcode (cd.code e0 ht) (cd.tab e0) found ?_
    intro c' h' tk hx hge hlt hco _ htab _
    have ⟨o1, vs, f1, tf, fl, tg, inF, tx, tt, op, _, _, _, _, _, _, _, _, _, htr, _⟩ := hco
    exact h _ h' tk _ hx (Nat.le_trans hge (Nat.le_of_lt hlt)) htab.2 htr
theorem gen_any {c P : Addr} {elt iter : Expr} {x : Str} {px gpos : Pos} {scope : Scope} {te : TE} {k : Nat}
    {Q' : Value → Shared → Prop} {R : V → Hp → Prop} (hr : Room k X.A) (TB : GxR.TabB X.base X.mg c P)
    (hcode : X.env.code = .ref c) (S : GxR.GenS X.env scope x) (hi : PE X iter te)
    (hs : ∀ v, genFold iter X.env v = pure v) (I : Inv X pins σ H s)
    (h : te σ H fun v H1 => H1 P = some (TabO P) ∧ R v H1)
    (hit : ∀ v H1 xv s1, Inv X pins σ H1 s1 → RelV v xv → H1 P = some (TabO P) → R v H1 → ∃ n Pf F, IterTo X P n Pf xv s1 ∧
      (∀ i u, Pf i u → Elt X P scope x elt s1 (F i) u) ∧ ∀ g s5, Ready X pins σ H1 n F g s5 → Q' (.ref g) s5) :
    wpAny (model X.prog X.w) X.A (eval (.GeneratorExp elt [⟨.Name x px, iter, [], 0⟩] scope gpos) X.env) Q' X.xe s := by
  have room : X.A.depth < recursionLimit := by
    have := hr.dp
    omega
  refine wpAny_GeneratorExp_walksQ hr.hd S.co (closure_ok S.free) S.cell S.dot S.loc S.kind room ?_ hs
  refine thn (hi.run pins s σ H _ I h) fun xv s1 ⟨v, H1, I1, rv, hP, q1⟩ => ?_
  obtain ⟨n, Pf, F, it, hel, hQ⟩ := hit v H1 xv s1 I1 rv hP q1
  refine it _ fun o fp0 St0 W0 hst0 hfp0 => ?_
  obtain ⟨ps, e0, ht⟩ := tab_get I1 hP
  have up : ∀ b u, s1.heap.get? b = some u → (s1.heap.push o).get? b = some u := fun b u e => Heap.get?_push_of_some _ e
  have zpush : (s1.heap.push o).objs.size = s1.heap.objs.size + 1 := Heap.size_push ..
  have cd : PySem.W.CodeHd (s1.heap.push o) c P := TB.code.keeps fun b u e => up b u (I1.bk b u e)
  have stP : cStatics ≠ P := fun e => by
    have ⟨_, y, _⟩ := I1.nolimit
    obtain ⟨o1, es, ep, y1, y2, _⟩ := y
    rw [e, e0] at y1
    cases y1
    exact nomatch y2
  have stz : cStatics ≠ s1.heap.objs.size := by
    have ⟨_, y, _⟩ := I1.nolimit
    exact Nat.ne_of_lt y.lt
  refine ⟨I1.nolimit.push o, ?_⟩
  refine code_any hcode cd (up P _ e0) ht fun code h3 tk qs hx3 h3z hP3 ht3 => ?_
  have keep3 : ∀ b u, b ≠ P → s1.heap.get? b = some u → h3.get? b = some u := fun b u y e => hx3 b u y (up b u e)
  obtain ⟨bm, ob, e1, e2, e3, e4, e5, e6, e7, e8⟩ := TB.bm
  have ns3 : h3.Ns X.env.globals X.mg := by
    rw [I1.ok.glob]
    exact ((I1.mod.glob.keeps I1.bk).push o).extBut hx3 TB.gP
  refine wpAny_builtinsFor (m := X.mg) ns3 e1 e2 (keep3 _ _ e4 (I1.bk _ _ e5)) e6 e7 e8 ?_
  refine ⟨s1.heap.objs.size, fp0, [s1.heap.objs.size], n, Pf, St0, fun _ => true, F, rfl, W0, ?_, ?_, ?_, ?_, ?_, ?_⟩
  · exact (W0 X.A hr.hd).frame _ _ _ hst0 fun b hb u e => hx3 b u (hfp0 b hb).2 e
  · exact fun b hb => Nat.lt_of_lt_of_le (hfp0 b hb).1 (zpush ▸ h3z)
  · exact (I1.nolimit.push o).extBut hx3 stP
  · exact fun y => stz (one_mem y)
  · intro hx hall
    refine ⟨fun B E i v s2 m _ _ _ _ _ => ?_, fun B E i v s2 m hB hv _ hn hm hk => ?_⟩
    · simp only [List.forIn_nil]
      exact wpAny_pure ⟨rfl, GxR.keeps_refl _⟩
    · refine hel i v hv _ B E s2 m ⟨rfl, rfl, rfl, rfl, fun b u y e => ?_⟩ hB hn hm
      have e3 := keep3 b u y e
      have bz := Heap.lt_size e
      exact hk b (List.mem_range.mpr (Heap.lt_size e3)) (fun w => Nat.ne_of_lt bz (one_mem w)) u (hall b u e3)
  · intro g h5 t5 gs bare glt gsz hk5 W5 at5
    simp only [GxR.passing_true, List.length_range] at W5
    have h13 : s1.heap.objs.size < h3.objs.size := by
      have := zpush ▸ h3z
      omega
    refine hQ g _ ⟨_, _, _, _, _, W5.in4_1, at5, ?_, ?_, fun s6 hm => ?_⟩
    · intro b hb
      show b < h5.objs.size
      rw [gsz]
      rcases List.mem_cons.mp hb with w | w
      · rw [w]
        exact Nat.lt_succ_self g
      · rcases List.mem_cons.mp w with w | w
        · rw [w]
          exact Nat.lt_succ_of_lt glt
        · exact Nat.lt_succ_of_lt (Nat.lt_trans (List.mem_range.mp w) glt)
    · rintro j v ⟨i, hij, hv⟩
      obtain ⟨hj, ej⟩ := List.getElem?_eq_some_iff.mp hij
      rw [List.getElem_range] at ej
      rw [List.length_range] at hj
      exact ⟨hj, ej ▸ hv⟩
    · have away : ∀ b u, s1.heap.get? b = some u → b ∉ h3.objs.size :: [s1.heap.objs.size] := fun b u e w => by
        have bl := Heap.lt_size e
        rcases List.mem_cons.mp w with y | y
        · rw [y] at bl
          exact Nat.lt_asymm h13 bl
        · rw [one_mem y] at bl
          exact Nat.lt_irrefl _ bl
      have J := inv_grown (hn := s6.heap) (gn := s6.gens) (dn := s6.drawn) (tn := s6.toks) I1 hP
        (fun b u y e => hm.heap b u (away b u e) (hk5 b u (keep3 b u y e)))
        (hm.heap P _ (away P _ e0) (hk5 P _ hP3)) ht3 (AllBare.movedS (I1.bare.push bare) hm)
      have same : s6 = { s1 with heap := s6.heap, gens := s6.gens, drawn := s6.drawn, toks := s6.toks } := by
        have y : s6.os = s1.os := hm.os
        obtain ⟨_, _, _, _, _⟩ := s6
        obtain rfl : _ = s1.os := y
        rfl
      rw [same]
      exact J
/-! ### what is walked -/
/-- a list -/
theorem iter_list {P : Addr} {a : Addr} {xs : List V} {xv : Value} {H1 : Hp} {s1 : Shared} (I : Inv X pins σ H1 s1)
    (hP : H1 P = some (TabO P)) (r : RelV (.ref a) xv) (hx : SqL X.K H1 a xs) :
    IterTo X P xs.length (fun i v => ∃ y, xs[i]? = some y ∧ RelV y v) xv s1 := by
  intro Q q
  obtain rfl : xv = Value.ref a := r
  obtain ⟨its, rv, hl, _⟩ := I.list hx
  obtain ⟨ps, e0, _⟩ := tab_get I hP
  have isl := hl.isList
  have alt : a < s1.heap.objs.size := by
    have ⟨_, e, _⟩ := isl
    exact Heap.lt_size e
  have aP : a ≠ P := fun y => by
    have ⟨_, e, _, _, d⟩ := isl
    rw [y, e0] at e
    cases e
    exact nomatch d
  have Plt := Heap.lt_size e0
  have len : its.toArray.size = xs.length := by
    rw [List.size_toArray, rv.length]
  refine wpAny_pyIter_list isl (q _ [s1.heap.objs.size, a] (fun i h => h.IsListIter s1.heap.objs.size a i ∧ h.IsList a its.toArray)
    (fun B hB => ?_) ?_ fun b hb => ?_)
  · have W := Walks.list (prog := X.prog) (w := X.w) hB s1.heap.objs.size a (Nat.ne_of_lt alt) its.toArray
    rw [len] at W
    refine told W fun i v e => ?_
    have e2 : its[i]? = some v := by simpa using e
    have lt := (List.getElem?_eq_some_iff.mp e2).1
    rw [← rv.length] at lt
    obtain ⟨u, eu, ru⟩ := rv.get (List.getElem?_eq_getElem lt)
    rw [e2] at eu
    exact ⟨_, List.getElem?_eq_getElem lt, Option.some.inj eu ▸ ru⟩
  · have ⟨ob, e, d⟩ := isl
    exact ⟨⟨_, Heap.get?_push_size _ rfl, rfl, rfl⟩, ob, Heap.get?_push_of_some _ e, d⟩
  · rcases List.mem_cons.mp hb with y | y
    · rw [y]
      exact ⟨Nat.lt_succ_self _, (Nat.ne_of_lt Plt).symm⟩
    · rw [one_mem y]
      exact ⟨Nat.lt_succ_of_lt alt, aP⟩
/-- the signs of a text -/
theorem iter_str {P : Addr} {a : Str} {xv : Value} {H1 : Hp} {s1 : Shared} (I : Inv X pins σ H1 s1)
    (hP : H1 P = some (TabO P)) (r : RelV (.str a) xv) :
    IterTo X P a.cps.size (fun i v => ∃ c t, a.cps[i]? = some c ∧ v = .str ⟨#[c]⟩ t) xv s1 := by
  intro Q q
  obtain ⟨t, rfl⟩ := (show ∃ t, xv = Value.str a t from r)
  obtain ⟨ps, e0, _⟩ := tab_get I hP
  refine wpAny_pyIter_str fun o St W hst => q o [s1.heap.objs.size] St (fun B hB => ?_) hst fun b hb => ?_
  · exact told (W B hB) fun i v ⟨c, u, e1, e2⟩ => ⟨c, u, e1, e2⟩
  · rw [one_mem hb]
    exact ⟨Nat.lt_succ_self _, (Nat.ne_of_lt (Heap.lt_size e0)).symm⟩
/-! ### elements -/
/-- a dict's get of the thing walked, else 1 -/
theorem elt_get {P d : Addr} {kvs : List (Key × V)} {scope : Scope} {x y : Str} {wi j : Nat} {p1 p2 p3 p4 p5 : Pos} {a : Str} {t : Tok} {z : Int} {s1 : Shared} {H1 : Hp}
    (I : Inv X pins σ H1 s1) (hP : H1 P = some (TabO P)) (sk : scope.kind = .function)
    (hx : scope.names.lookup x = some .local) (hy : scope.names.lookup y = some .free)
    (hc : (cloFrom X.env.cells scope.names []).lookup y = X.env.cells.lookup y)
    (hN : X.N[wi]? = some y) (hσ : σ[wi]? = some (some (.ref d))) (hd : Rd H1 d (.dK kvs)) (hv : Vis X.env.scope y)
    (hk : X.env.kindOf y = some .cell) (val : (valV kvs (.inr a)).getD (.int 1) = .int z)
    (dx : (x == ("__debug__" : Str)) = false) (dy : (y == ("__debug__" : Str)) = false) (dc : (y == ("__classdict__" : Str)) = false)
    (hbase : ∀ e, attributeBase (.Name y p1) "get" e (eval (.Name y p1) e) = eval (.Name y p1) e)
    (hfew : ∀ e, ((backTo p5 (starEach [.Name x p3, .Constant (.int 1) j p4] e)).all (fun x => !x.1) && (backToKw p5 (keywordEach [] e)).all (fun x => x.1.isSome)
      && decide (([.Name x p3, .Constant (.int 1) j p4] : List Expr).length + ([] : List Keyword).length + (if ([] : List Keyword).isEmpty then 0 else 1) < 30)) = true)
    (htrees : ∀ e, backTo p5 (starEach [.Name x p3, .Constant (.int 1) j p4] e) = [(false, eval (.Name x p3) e), (false, eval (.Constant (.int 1) j p4) e)])
    (hline : (p2.endLine == p5.line) = true) :
    Elt X P scope x (.Call (.Attribute (.Name y p1) "get" p2) [.Name x p3, .Constant (.int 1) j p4] [] p5) s1 (fun r => ∃ u, r = .int z u) (.str a t) := by
  intro e B E s2 m hh hB hn hm
  obtain ⟨m1, hn1, hl1⟩ := I.loc
  obtain ⟨dv, rd, lk⟩ := hl1 wi y _ hN hσ hv
  obtain rfl : dv = Value.ref d := rd
  obtain ⟨ps, e0, _⟩ := tab_get I hP
  rcases lk with ⟨q, _⟩ | ⟨_, c, hcl, hcell⟩
  · rw [hk] at q
    exact nomatch q
  obtain ⟨co, ho, hod⟩ := hcell
  have cP : c ≠ P := fun q => by
    rw [q, e0] at ho
    cases ho
    exact nomatch hod
  have cell2 : s2.heap.IsCell c (some (.ref d)) := ⟨co, hh.kept c co cP ho, hod⟩
  obtain ⟨_, hsys, vs, rel, dd⟩ := dk_rd I.hok hd
  have ⟨ob, es, ep, o1, o2, o3⟩ := dd
  have dP : d ≠ P := fun q => by
    rw [q, e0] at o1
    cases o1
    exact nomatch o2.1
  have dd2 : s2.heap.DictOf (mixKind X.prog X.w) d vs := ⟨ob, es, ep, hh.kept d ob dP o1, o2, o3⟩
  refine wpAny_Call_method (hbase e) (hfew e) hline PySem.F.plainAttrs_dict PySem.F.slot_dict_get PySem.F.type_dict_get ?_
  refine wpAny_Name (wpAny_loadName_free (c := c) (by rw [hh.sc]; exact sk) (show e.scope.names.lookup y = some .free by rw [hh.sc]; exact hy) (by rw [hh.cl, hc]; exact hcl) cell2 ?_ dc) dy
  refine ⟨dd2.typeIs, fun b q => ?_, ?_⟩
  · cases q
    exact ⟨ob, hh.kept d ob dP o1, o2.2.1⟩
  rw [htrees e]
  refine Calls.callWith_builtin rfl (Calls.evalArgs_plain (Calls.spliced_cons ?_))
  refine wpAny_Name (wpAny_loadName_local (by rw [hh.sc]; exact sk) (show e.scope.names.lookup x = some .local by rw [hh.sc]; exact hx) hn hm ?_) dx
  refine Calls.spliced_cons (wpAny_Constant_int (Calls.spliced_nil ?_))
  refine call_meetsIn PySem.F.slot_dict_get dd2.typeIs PySem.F.entry_dict_get (PySem.F.args_dict_get_3 _ _ _)
    (meets_dict_get_default (mixKind X.prog X.w) d (kV_is (k := .inr a) ⟨t, rfl⟩) hsys _) ⟨_, dd2.mapOf, ?_⟩
  refine ⟨?_, GxR.keeps_tok _ _⟩
  have rr : RelV ((valV kvs (.inr a)).getD (.int 1)) _ := (rel.val (.inr a)).getD (d := .int 1) (d' := .int 1 s2.toks) ⟨_, rfl⟩
  rw [val] at rr
  exact rr
/-- a sign of a written text? -/
theorem elt_in {P : Addr} {scope : Scope} {x y k : Str} {p1 p2 p3 : Pos} {c : Nat} {t tk : Tok} {s1 : Shared} {H1 : Hp} (I : Inv X pins σ H1 s1) (hP : H1 P = some (TabO P))
    (gP : mainGlobals ≠ P) (sk : scope.kind = .function) (hx : scope.names.lookup x = some .local) (hy : scope.names.lookup y = some .globalImplicit)
    (hm : X.mg y = some (.str k tk)) (dx : (x == ("__debug__" : Str)) = false) (dy : (y == ("__debug__" : Str)) = false) :
    Elt X P scope x (.Compare (.Name x p1) [.In] [.Name y p2] p3) s1 (fun r => r = .bool (decide (c ∈ k.cps.toList))) (.str ⟨#[c]⟩ t) := by
  intro e B E s2 m hh hB hn hmx
  refine wpAny_Compare1 ?_
  refine wpAny_Name (wpAny_loadName_local (by rw [hh.sc]; exact sk) (show e.scope.names.lookup x = some .local by rw [hh.sc]; exact hx) hn hmx ?_) dx
  have g1 : s1.heap.Ns mainGlobals X.mg := I.mod.glob.keeps I.bk
  have g2 : s2.heap.Ns mainGlobals X.mg := by
    obtain ⟨ob, es, ep, ho, r⟩ := g1
    exact ⟨ob, es, ep, hh.kept _ ob gP ho, r⟩
  refine Calls.Name_function_global (by rw [hh.sc]; exact sk) (show e.scope.names.lookup y = some .globalImplicit by rw [hh.sc]; exact hy)
    (Calls.loadGlobal_global (by rw [hh.gl, I.ok.glob]; exact g2) hm ?_) dy
  refine in_str ?_
  rw [PySem.StrLaws.found_one]
  exact ⟨rfl, GxR.keeps_refl _⟩
/-! ### the rules -/
theorem preSum_map (f : Str → Int) (ws : List Str) : ∀ n, n ≤ ws.length → preSum (fun j => f (ws.getD j "")) n = ((ws.take n).map f).sum
  | 0, _ => rfl
  | n + 1, h => by
    have lt : n < ws.length := h
    have e : ws.getD n "" = ws[n] := by simp [List.getD_eq_getElem?_getD, lt]
    rw [show preSum (fun j => f (ws.getD j "")) (n + 1) = preSum (fun j => f (ws.getD j "")) n + f (ws.getD n "") from rfl,
      preSum_map f ws n (Nat.le_of_lt lt), e, List.take_succ_eq_append_getElem lt, List.map_append, List.sum_append]
    simp only [List.map_cons, List.map_nil, List.sum_cons, List.sum_nil, Int.add_zero]
/-- the expression's own scope, but for what it captures -/
structure GenN (scope : Scope) (x : Str) : Prop where
  kind : scope.kind = .function
  co : scope.isCoroutine = false
  cell : ∀ y ∈ scope.names, y.2 ≠ .cell
  dot : scope.names.lookup (".0" : Str) = some NameKind.local
  loc : scope.names.lookup x = some .local
theorem GenN.full {env : Env} {scope : Scope} {x : Str} (n : GenN scope x)
    (h : ∀ y ∈ scope.names, y.2 = .free → ∃ c, env.cells.lookup y.1 = some c) : GxR.GenS env scope x :=
  ⟨n.kind, n.co, n.cell, n.dot, n.loc, h⟩
/-- sum(d.get(x, 1) for x in words), d the def's captured name in slot wi -/
def tSumGet (K : PySem.W.Frag) (P : Addr) (wi : Nat) (te : TE) : TE := fun σ H Q => te σ H fun v H1 => H1 P = some (TabO P) ∧
  ∃ (yl d : Addr) (ws : List Str) (kvs : List (Key × V)) (f : Str → Int), v = .ref yl ∧ SqL K H1 yl (ws.map V.str) ∧ σ[wi]? = some (some (.ref d)) ∧ Rd H1 d (.dK kvs) ∧
    (∀ a ∈ ws, (valV kvs (.inr a)).getD (.int 1) = .int (f a)) ∧ Q (.int (ws.map f).sum) H1
theorem pe_sumGet {c P : Addr} {iter : Expr} {x y : Str} {wi j : Nat} {p px gpos p1 p2 p3 p4 p5 pos : Pos} {scope : Scope} {te : TE} {k : Nat}
    (hr : Room k X.A) (TB : GxR.TabB X.base X.mg c P) (hcode : X.env.code = .ref c) (hm : X.mg "sum" = none) (hg : Gl X "sum")
    (hi : PE X iter te) (hs : ∀ v, genFold iter X.env v = pure v) (N : GenN scope x) (hfr : ∀ z ∈ scope.names, z.2 = .free → z.1 = y) (hy : scope.names.lookup y = some .free)
    (hclo : ∀ cells, cloFrom cells scope.names [] = [(y, (cells.lookup y).getD 0)]) (hN : X.N[wi]? = some y) (hk : X.env.kindOf y = some .cell)
    (dx : (x == ("__debug__" : Str)) = false) (dy : (y == ("__debug__" : Str)) = false) (dc : (y == ("__classdict__" : Str)) = false)
    (hbase : ∀ e, attributeBase (.Name y p1) "get" e (eval (.Name y p1) e) = eval (.Name y p1) e)
    (hfew : ∀ e, ((backTo p5 (starEach [.Name x p3, .Constant (.int 1) j p4] e)).all (fun x => !x.1) && (backToKw p5 (keywordEach [] e)).all (fun x => x.1.isSome)
      && decide (([.Name x p3, .Constant (.int 1) j p4] : List Expr).length + ([] : List Keyword).length + (if ([] : List Keyword).isEmpty then 0 else 1) < 30)) = true)
    (htrees : ∀ e, backTo p5 (starEach [.Name x p3, .Constant (.int 1) j p4] e) = [(false, eval (.Name x p3) e), (false, eval (.Constant (.int 1) j p4) e)])
    (hline : (p2.endLine == p5.line) = true)
    (he : ∀ g : Expr, g = .GeneratorExp (.Call (.Attribute (.Name y p1) "get" p2) [.Name x p3, .Constant (.int 1) j p4] [] p5) [⟨.Name x px, iter, [], 0⟩] scope gpos →
      starEach [g] X.env = (false, eval g X.env) :: starEach [] X.env) :
    PE X (.Call (.Name "sum" p) [.GeneratorExp (.Call (.Attribute (.Name y p1) "get" p2) [.Name x p3, .Constant (.int 1) j p4] [] p5) [⟨.Name x px, iter, [], 0⟩] scope gpos] [] pos) (tSumGet X.K P wi te) := by
  refine ⟨fun pins s σ H Q I h => ?_⟩
  have S : GxR.GenS X.env scope x := N.full fun z hz e => by
    rw [hfr z hz e]
    exact I.ok.has y (.inl hk)
  refine wpAny_Call_Name_kw (ld_blt I hg hm boot_sum ?_)
  have he1 := he _ rfl
  refine PyProof.Rows.callWith_builtin1 ?_ he1 (by rfl)
  rw [he1]
  refine Calls.spliced_cons (gen_any (R := fun v H1 => ∃ (yl d : Addr) (ws : List Str) (kvs : List (Key × V)) (f : Str → Int), v = .ref yl ∧ SqL X.K H1 yl (ws.map V.str) ∧
    σ[wi]? = some (some (.ref d)) ∧ Rd H1 d (.dK kvs) ∧ (∀ a ∈ ws, (valV kvs (.inr a)).getD (.int 1) = .int (f a)) ∧ Q (.int (ws.map f).sum) H1)
    hr TB hcode S hi hs I h ?_)
  · rintro v H1 xv s1 I1 rv hP ⟨yl, d, ws, kvs, f, rfl, hx, hσ, hd, hf, q⟩
    have it := iter_list I1 hP rv hx
    rw [List.length_map] at it
    refine ⟨ws.length, _, fun i r => ∃ u, r = .int (f (ws.getD i "")) u, it, ?_, fun g s5 R => ?_⟩
    · rintro i u ⟨a, ea, ra⟩
      rw [List.getElem?_map] at ea
      cases hw : ws[i]? with
      | none =>
        rw [hw] at ea
        exact nomatch ea
      | some b =>
        rw [hw] at ea
        obtain rfl : V.str b = a := Option.some.inj ea
        obtain ⟨t, rfl⟩ := (show ∃ t, u = Value.str b t from ra)
        have eb : ws.getD i "" = b := by rw [List.getD_eq_getElem?_getD, hw]; rfl
        show Elt X P scope x _ s1 (fun r => ∃ u, r = .int (f (ws.getD i "")) u) _
        rw [eb]
        obtain ⟨cc, hcc⟩ := I1.ok.has y (.inl hk)
        exact elt_get I1 hP S.kind S.loc hy (by rw [hclo, hcc]; simp) hN hσ hd (.inr (.inl hk)) hk (hf b (List.mem_of_getElem? hw)) dx dy dc hbase hfew htrees hline
    · obtain ⟨fp, wr, G, F', St, W, hst, hfp, hF, hI⟩ := R
      refine Calls.spliced_nil ?_
      refine call_sum_walkAnyS (W.self 0 _ _ _ hst ⟨g, fp, wr, G, _, F', St, fun j => f (ws.getD j ""), rfl, W, hst, hfp, fun i v hv => (hF i v hv).2, fun s6 t hmv => ?_⟩)
      have J := hI s6 hmv
      refine ⟨.int (preSum (fun j => f (ws.getD j "")) ws.length), H1, J, ⟨t, rfl⟩, ?_⟩
      rw [preSum_map f ws _ (Nat.le_refl _), List.take_length]
      exact q
/-- all(x in k for x in a text), k a written text of the module -/
def tAllIn (P : Addr) (k : Str) (te : TE) : TE := fun σ H Q => te σ H fun v H1 => H1 P = some (TabO P) ∧ ∃ a : Str, v = .str a ∧ Q (.bl (a.cps.toList.all fun c => decide (c ∈ k.cps.toList))) H1
theorem pe_allIn {c P : Addr} {iter : Expr} {x y k0 : Str} {tk : Tok} {p px gpos p1 p2 p3 pos : Pos} {scope : Scope} {te : TE} {k : Nat}
    (hr : Room k X.A) (TB : GxR.TabB X.base X.mg c P) (hcode : X.env.code = .ref c) (hm : X.mg "all" = none) (hg : Gl X "all")
    (hi : PE X iter te) (hs : ∀ v, genFold iter X.env v = pure v) (N : GenN scope x) (hfr : ∀ z ∈ scope.names, z.2 ≠ .free) (hy : scope.names.lookup y = some .globalImplicit) (hk : X.mg y = some (.str k0 tk))
    (dx : (x == ("__debug__" : Str)) = false) (dy : (y == ("__debug__" : Str)) = false)
    (he : ∀ g : Expr, g = .GeneratorExp (.Compare (.Name x p1) [.In] [.Name y p2] p3) [⟨.Name x px, iter, [], 0⟩] scope gpos →
      starEach [g] X.env = (false, eval g X.env) :: starEach [] X.env) :
    PE X (.Call (.Name "all" p) [.GeneratorExp (.Compare (.Name x p1) [.In] [.Name y p2] p3) [⟨.Name x px, iter, [], 0⟩] scope gpos] [] pos) (tAllIn P k0 te) := by
  refine ⟨fun pins s σ H Q I h => ?_⟩
  have S : GxR.GenS X.env scope x := N.full fun z hz e => absurd e (hfr z hz)
  refine wpAny_Call_Name_kw (ld_blt I hg hm boot_all ?_)
  have he1 := he _ rfl
  refine PyProof.Rows.callWith_builtin1 ?_ he1 (by rfl)
  rw [he1]
  refine Calls.spliced_cons (gen_any (R := fun v H1 => ∃ a : Str, v = .str a ∧ Q (.bl (a.cps.toList.all fun c => decide (c ∈ k0.cps.toList))) H1) hr TB hcode S hi hs I h ?_)
  rintro v H1 xv s1 I1 rv hP ⟨a, rfl, q⟩
  refine ⟨_, _, fun i r => ∃ c, a.cps[i]? = some c ∧ r = .bool (decide (c ∈ k0.cps.toList)), iter_str I1 hP rv, ?_, fun g s5 R => ?_⟩
  · rintro i u ⟨cc, t, ec, rfl⟩
    have z := elt_in (c := cc) (t := t) (p1 := p1) (p2 := p2) (p3 := p3) I1 hP TB.gP S.kind S.loc hy hk dx dy
    exact fun e B E s2 m h1 h2 h3 h4 => wpAny_mono (z e B E s2 m h1 h2 h3 h4) (fun r s3 w => ⟨⟨cc, ec, w.1⟩, w.2⟩) fun _ _ w => w
  · obtain ⟨fp, wr, G, F', St, W, hst, hfp, hF, hI⟩ := R
    refine Calls.spliced_nil ?_
    refine call_all_walkS (W.self 0 _ _ _ hst ⟨g, fp, wr, G, _, F', St, GxR.trF (fun c => decide (c ∈ k0.cps.toList)) a.cps.toList, rfl, W, hst, ?_, fun s6 hmv => ?_⟩)
    · intro j r sj Qj Ej hv hq
      obtain ⟨_, cc, ec, rfl⟩ := hF j r hv
      rw [GxR.trF_some (show a.cps.toList[j]? = some cc by rw [Array.getElem?_toList]; exact ec)] at hq
      exact wpAny_truthy_bool hq
    · refine ⟨.bl ((List.range a.cps.size).all (GxR.trF (fun c => decide (c ∈ k0.cps.toList)) a.cps.toList)), H1, hI s6 hmv, rfl, ?_⟩
      rw [GxR.all_signs a _]
      exact q
end
end MuGen

namespace MuGen
open PySem PySem.Spec PyProof.Rows L2
/-- a law's call, the tables at ts tracked without their content -/
theorem law_go {P : Program} {w : World} {K : PySem.W.Frag} {mg mb : Str → Option Value} {CX : CXT} {k : Nat} {fa a : Addr}
    {cs : List (Addr × Addr)} {fd : FuncData} {x : Str} {sp : Sp} {s1 : Shared} {vs : List Value} {ns : List Int}
    (KX : K.In s1.heap) (hg : s1.heap.Ns mainGlobals mg) (hb : s1.heap.Ns builtinsNs mb)
    (hbb : ∀ x : Str, x ≠ "__name__" → mb x = bootBuiltins x) (hlim : s1.heap.NoLimit) (hgens : s1.gens = #[])
    (hT : ∀ p ∈ cs, s1.heap.get? p.2 = some { cls := .none, data := .fields #[] })
    (nT : ∀ p ∈ cs, K.lookup p.2 = none) (C : ∀ p ∈ cs, PySem.W.CodeHd s1.heap p.1 p.2)
    (hbm : ∃ (bm : Addr) (ob : Obj), mg "__builtins__" = some (.ref bm) ∧ bm ≠ builtinsNs ∧ s1.heap.get? bm = some ob ∧
      ob.cls = .type "module" ∧ ob.dict = some builtinsNs ∧ ob.data = .plain)
    (ha : s1.heap.get? a = some { cls := .type "list", data := .seq vs.toArray }) (hi : IntsAre vs ns)
    (hl : ns.length ≤ sizeLine) (hr : Room k callerA)
    (F : ∀ base : Heap, K.In base → base.Ns mainGlobals mg → (∀ p ∈ cs, GxR.TabB base mg p.1 p.2) → FnOk P w K mg base CX k fa fd [x] sp)
    (hbind : ∀ (s : Shared) (u : Value), BindsTo s fd ⟨[u], []⟩ [(x, u)])
    (hsp : ∀ H : Hp, (∀ p ∈ cs, H p.2 = some (TabO p.2)) → SqL K H a (ns.map V.int) →
      sp [.ref a] H (fun v H' => v = .bl true ∧ ∀ p ∈ cs, H' p.2 = some (TabO p.2)) fun _ _ _ => False)
    (hCX : ∀ H e s', CX [] H s1 (fun _ _ _ => False) e s' → False) :
    codeAny (model P w) callerA (.call (.ref fa) ⟨[.ref a], []⟩)
      (fun r s' => r = .ok (.ret (.bool true)) ∧ OldK s1.heap s'.heap ∧ s'.os = s1.os ∧ AllBare s'.gens) s1 := by
  have rv := vals_ints hi
  have len := hi.length
  let ts := cs.map (·.2)
  have at_ts : ∀ b ∈ ts, s1.heap.get? b = some { cls := .none, data := .fields #[] } := fun b m => by
    obtain ⟨p, hp, rfl⟩ := List.mem_map.mp m
    exact hT p hp
  have in_ts : ∀ p ∈ cs, p.2 ∈ ts := fun p hp => List.mem_map.mpr ⟨p, hp, rfl⟩
  have a_ts : a ∉ ts := fun m => by
    have q := ha.symm.trans (at_ts a m)
    exact nomatch congrArg Obj.data (Option.some.inj q)
  have main : ∀ H : Hp, (∀ p ∈ cs, H p.2 = some (TabO p.2)) → (∀ b, H b = none ∨ b ∈ ts ∨ ∃ o xs, H b = some (.frz o (.lst xs))) →
      SqL K H a (ns.map V.int) → HOk P w H s1.heap → (∀ b, H b ≠ none → b = a ∨ b ∈ ts) → (H a ≠ none → K.lookup a = none) →
      codeAny (model P w) callerA (.call (.ref fa) ⟨[.ref a], []⟩)
        (fun r s' => r = .ok (.ret (.bool true)) ∧ OldK s1.heap s'.heap ∧ s'.os = s1.os ∧ AllBare s'.gens) s1 := by
    intro H hH hO hS hok hA hK
    -- what is neither the list nor a table is not tracked
    have off : ∀ {b : Addr} {o : Obj}, s1.heap.get? b = some o → (∀ us n, o.data ≠ .seq us n) → o.data ≠ .fields #[] → H b = none := by
      intro b o e n1 n2
      cases q : H b with
      | none => rfl
      | some u =>
        exfalso
        rcases hA b (fun z => nomatch q.symm.trans z) with y | y
        · rw [y, ha] at e
          obtain rfl := Option.some.inj e
          exact n1 _ _ rfl
        · rw [at_ts b y] at e
          obtain rfl := Option.some.inj e
          exact n2 rfl
    have offD : ∀ {b : Addr} {o : Obj} {es : Array DictEntry} {ep : Nat}, s1.heap.get? b = some o → o.data = .dict es ep → H b = none := by
      intro b o es ep e d
      refine off e (fun us n z => ?_) fun z => ?_
      · exact nomatch d.symm.trans z
      · exact nomatch d.symm.trans z
    have ns_ : ∀ {b : Addr} {m : Str → Option Value}, s1.heap.Ns b m → (hidT s1.heap H).Ns b m := by
      intro b m ⟨o, es, ep, e, d, r⟩
      exact ⟨o, es, ep, hidT_get e (offD e d), d, r⟩
    have KB : K.In (hidT s1.heap H) := by
      intro b o e
      refine hidT_get (KX b o e) ?_
      cases q : H b with
      | none => rfl
      | some u =>
        exfalso
        have nz : H b ≠ none := fun z => nomatch q.symm.trans z
        rcases hA b nz with y | y
        · rw [y] at e nz
          rw [hK nz] at e
          exact nomatch e
        · obtain ⟨p, hp, rfl⟩ := List.mem_map.mp y
          rw [nT p hp] at e
          exact nomatch e
    have MB : L2.Mod K mg (hidT s1.heap H) := by
      refine ⟨KB, ns_ hg, ⟨mb, ns_ hb, hbb⟩, ?_⟩
      have ⟨mc, y1, y2⟩ := hlim
      exact ⟨mc, ns_ y1, y2⟩
    have TB : ∀ p ∈ cs, GxR.TabB (hidT s1.heap H) mg p.1 p.2 := by
      intro p hp
      have tp := hT p hp
      refine ⟨?_, ?_, fun z => ?_⟩
      · have ⟨o, us, file, tf, flags, tg, inF, text, tt, y, r1, r2, r3, r⟩ := C p hp
        refine ⟨o, us, file, tf, flags, tg, inF, text, tt, hidT_get y (off y (fun vs n z => ?_) fun z => ?_), r1, r2, r3, r⟩
        · exact nomatch r2.symm.trans z
        · rw [r2] at z
          cases z
          simp at r3
      · have ⟨bm, ob, b1, b2, b3, b4, b5, b6⟩ := hbm
        have n1 : bm ≠ mainGlobals := fun q => by
          have ⟨o, es, ep, e, d, _⟩ := hg
          rw [← q, b3] at e
          obtain rfl := Option.some.inj e
          exact nomatch b6.symm.trans d
        have n2 : bm ≠ p.2 := fun q => by
          rw [q, tp] at b3
          obtain rfl := Option.some.inj b3
          exact nomatch b6
        refine ⟨bm, ob, b1, b2, n1, n2, hidT_get b3 (off b3 (fun vs n z => ?_) fun z => ?_), b4, b5, b6⟩
        · exact nomatch b6.symm.trans z
        · exact nomatch b6.symm.trans z
      · have ⟨o, es, ep, e, d, _⟩ := hg
        rw [z, tp] at e
        obtain rfl := Option.some.inj e
        exact nomatch d
    have e0 : Env0 P w K mg (hidT s1.heap H) callerA [] s1 H :=
      ⟨rfl, MB, fun b o e => of_hidT e, Nat.le_of_eq (hidT_size _ _), trivial, (fun b m => nomatch m), hok, AllBare.of_eq hgens⟩
    refine codeAny_mono ((F _ KB (ns_ hg) TB).run callerA [] s1 H ⟨[.ref a], []⟩ [.ref a] [.ref a] _ _ hr e0 (hbind s1 (.ref a)) (.cons rfl .nil) (hsp H hH hS)) fun r s' h => ?_
    match r, h with
    | .error e, h => exact (hCX H e s' h).elim
    | .ok (.ret u), h =>
      obtain ⟨v, H', os, bare, un, hok', r', rfl, q⟩ := h
      obtain rfl : u = Value.bool true := r'
      have same : ∀ b o, b ∉ ts → s1.heap.get? b = some o → s'.heap.get? b = some o := by
        intro b o nb e
        rcases hO b with z | z | ⟨ob, xs, z⟩
        · exact un.keep b o e z (fun m => nomatch m) (fun m => nomatch m)
        · exact absurd z nb
        · have y1 := (hok b _ z).1
          have y2 := (hok' b _ (un.frzs b ob _ z)).1
          rw [e] at y1
          obtain rfl := Option.some.inj y1
          exact y2
      have grown : ∀ p ∈ cs, ∃ qs : Array Value, s'.heap.get? p.2 = some { cls := .none, data := .fields qs } := by
        intro p hp
        have ⟨⟨qs, y, _⟩, _⟩ := hok' p.2 _ (q p hp)
        exact ⟨qs, y⟩
      refine ⟨rfl, ⟨fun b o e => ?_, fun b o e => ?_⟩, os, bare⟩
      · rcases Decidable.em (b ∈ ts) with m | m
        · obtain ⟨p, hp, rfl⟩ := List.mem_map.mp m
          obtain ⟨qs, y⟩ := grown p hp
          rw [hT p hp] at e
          obtain rfl := Option.some.inj e
          exact .inr (.inl ⟨((C p hp).tab (hT p hp)).isCodeTable, rfl, #[], qs, rfl, by rw [Array.empty_append]; exact y⟩)
        · exact .inl (same b o m e)
      · rcases Decidable.em (b ∈ ts) with m | m
        · obtain ⟨p, hp, rfl⟩ := List.mem_map.mp m
          obtain ⟨qs, y⟩ := grown p hp
          exact ⟨_, y⟩
        · exact ⟨o, same b o m e⟩
    | .ok .next, h => exact False.elim h
    | .ok .brk, h => exact False.elim h
    | .ok .cont, h => exact False.elim h
  -- the abstract heap at the entry
  have tabOk : ∀ (H : Hp) (b : Addr), b ∈ ts → ObjOk P w H s1.heap b (TabO b) := fun H b m => by
    have y := at_ts b m
    refine ⟨⟨#[], y, ?_⟩, ⟨_, y⟩, fun h1 h2 ⟨qs, a1, a2⟩ a3 => ⟨qs, a3 _ a1, a2⟩⟩
    obtain ⟨p, hp, rfl⟩ := List.mem_map.mp m
    exact trivial
  cases look : K.lookup a with
  | some o =>
    have e := KX a o look
    rw [ha] at e
    obtain rfl := Option.some.inj e
    refine main (fun b => if b ∈ ts then some (TabO b) else none) (fun p hp => if_pos (in_ts p hp)) (fun b => ?_)
      (.inr ⟨_, vs.toArray, _, look, rfl, rfl, rfl, by rw [List.size_toArray, len]; exact hl, by simpa using rv⟩) (fun b u z => ?_) (fun b z => ?_) fun z => absurd (if_neg a_ts) z
    · rcases Decidable.em (b ∈ ts) with m | m
      · exact .inr (.inl m)
      · exact .inl (if_neg m)
    · rcases Decidable.em (b ∈ ts) with m | m
      · obtain rfl := Option.some.inj ((if_pos m).symm.trans z)
        exact tabOk _ b m
      · exact nomatch (if_neg m).symm.trans z
    · rcases Decidable.em (b ∈ ts) with m | m
      · exact .inr m
      · exact absurd (if_neg m) z
  | none =>
    refine main (fun b => if b = a then some (.frz { cls := .type "list", data := .seq vs.toArray } (.lst (ns.map V.int))) else if b ∈ ts then some (TabO b) else none)
      (fun p hp => (if_neg (fun z : p.2 = a => a_ts (z ▸ in_ts p hp))).trans (if_pos (in_ts p hp))) (fun b => ?_)
      (.inl (.inr ⟨_, if_pos rfl⟩)) (fun b u z => ?_) (fun b z => ?_) fun _ => look
    · rcases Decidable.em (b = a) with m | m
      · exact .inr (.inr ⟨_, _, if_pos m⟩)
      · rcases Decidable.em (b ∈ ts) with m2 | m2
        · exact .inr (.inl m2)
        · exact .inl ((if_neg m).trans (if_neg m2))
    · rcases Decidable.em (b = a) with m | m
      · obtain rfl := Option.some.inj ((if_pos m).symm.trans z)
        subst m
        exact ⟨ha, by rw [List.length_map]; exact hl, vs, _, rv, ha⟩
      · have z1 := (if_neg m).symm.trans z
        rcases Decidable.em (b ∈ ts) with m2 | m2
        · obtain rfl := Option.some.inj ((if_pos m2).symm.trans z1)
          exact tabOk _ b m2
        · exact nomatch (if_neg m2).symm.trans z1
    · rcases Decidable.em (b = a) with m | m
      · exact .inl m
      · rcases Decidable.em (b ∈ ts) with m2 | m2
        · exact .inr m2
        · exact absurd ((if_neg m).trans (if_neg m2)) z
/-- what is told of a law at the head's heap, with tables -/
def LawTab (l : PySem.W.OpenLaw) (w : World) (K : PySem.W.Frag) (CX : CXT) (k n : Nat) (x : Str) (mg : Str → Option Value) (fa : Addr) (h : Heap) : Prop :=
  ∃ (fd : FuncData) (cs : List (Addr × Addr)) (sp : Sp),
    (∀ p ∈ cs, h.get? p.2 = some { cls := .none, data := .fields #[] } ∧ K.lookup p.2 = none ∧ PySem.W.CodeHd h p.1 p.2) ∧
    (∀ (s : Shared) (u : Value), BindsTo s fd ⟨[u], []⟩ [(x, u)]) ∧
    (∀ (H : Hp) (a : Addr) (ns : List Int), ns.length ≤ n → (∀ p ∈ cs, H p.2 = some (TabO p.2)) → SqL K H a (ns.map V.int) →
      sp [.ref a] H (fun v H' => v = .bl true ∧ ∀ p ∈ cs, H' p.2 = some (TabO p.2)) fun _ _ _ => False) ∧
    ∀ base : Heap, K.In base → base.Ns mainGlobals mg → (∀ p ∈ cs, GxR.TabB base mg p.1 p.2) → FnOk l.prog w K mg base CX k fa fd [x] sp
/-- the end of a law row, the tables of the defs tl tracked -/
theorem walk_tabs {l : PySem.W.OpenLaw} {n k : Nat} {q : Program} {loose : List Str} {XP : (Str → Option Value) → Heap → Prop} {YP : World → Heap → Prop}
    {d : DefRec} {K : Params → PySem.W.Frag} {CX : World → CXT} {x : Str} (tl : List Str)
    (hn : l.most = some n) (hn2 : n ≤ sizeLine) (hdf : d.params.defaults = []) (hr : Room k callerA)
    (hrec : (tl.all fun y => (recsOf q).any fun e => e.name == y) = true) (hY : ∀ (w : World) (h : Heap), YP w h → (K w.params).In h)
    (F : ∀ (w : World) (mg : Str → Option Value) (fa : Addr) (h : Heap), (K w.params).In h → h.Ns mainGlobals mg → mg d.name = some (.ref fa) →
      (∀ (y : Str) (c P : Addr), y ∈ tl → PySem.W.tabIn (K w.params) y = some (c, P) →
        PySem.W.CodeHd h c P ∧ h.get? P = some { cls := .none, data := .fields #[] }) →
      LawTab l w (K w.params) (CX w) k n x mg fa h)
    (hCX : ∀ (w : World) (H : Hp) (s : Shared) (e : Value) (s' : Shared), CX w [] H s (fun _ _ _ => False) e s' → False) :
    PySem.W.WalkO q loose XP YP l.row.toRowW d [] (fun f vs => PySem.call f vs) := by
  refine Att.attach_call hn hdf fun w s0 s1 mg mb fa o pm cd doc a vs ns G Y ho hd hcd hmg hobj hints hlen hg => ?_
  have KX := hY w _ Y
  obtain ⟨fd, cs, sp, hp, hb, hsp, hF⟩ := F w mg fa _ KX G.T.g hmg fun y c P hy ht => by
    have an := List.all_eq_true.mp hrec y hy
    cases found : (recsOf q).find? (fun e => e.name == y) with
    | none =>
      obtain ⟨e, he, z⟩ := List.any_eq_true.mp an
      exact absurd z (List.find?_eq_none.mp found e he)
    | some e => exact PySem.W.tab_of G.T KX found ht
  exact law_go KX G.T.g G.T.b G.T.builtins G.T.nolimit hg (fun p m => (hp p m).1) (fun p m => (hp p m).2.1) (fun p m => (hp p m).2.2) G.T.bmain
    hobj hints (Nat.le_trans hlen hn2) hr hF hb (fun H hH hS => hsp H a ns hlen hH hS) fun H e s' => hCX w H s1 e s'
/-- a def whose code object stands at c -/
structure FunT (K : PySem.W.Frag) (x qual : Str) (st : Stmt) (f : Addr) (fd : FuncData) (c : Addr) : Prop where
  ex : ∃ (oc : Value) (od : Option Addr) (kV doc pm : Value) (an : Option Addr) (ct : Value) (sl : Array (Option Value)),
    fd = PySem.W.fnOf x qual (defArgs st) (defBody st) (defScope st) .none kV doc pm an (.ref c) ct ∧
    K.lookup f = some ⟨oc, od, .func fd, sl⟩ ∧ PySem.W.codeIn K (.ref c) qual = true
  kp : PySem.W.keepIn K (.ref f) = true
section
variable {P : Program} {w : World} {K : PySem.W.Frag} {mg : Str → Option Value} {base : Heap}
theorem FunT.ok {x qual : Str} {st : Stmt} {f c : Addr} {fd : FuncData} {N ps : List Str} {k : Nat} {sp : Sp} (F : FunT K x qual st f fd c)
    (S : FnScope N ps (defScope st)) (len : ∀ vs H Q E, sp vs H Q E → vs.length = ps.length)
    (body : ∀ (A : Around) (outer : List Env) (s : Shared) (H : Hp) (vs : List V) (Q : VK) (E : XK),
      Room k (A.deeper (envOfC qual (defScope st) s.heap.objs.size f (.ref c))) → sp vs H Q E →
      ∃ t, PSs (cxOf CX0 P w K mg base N qual (defScope st) f (.ref c) A outer s H E).nox (defBody st) t ∧
        t { nx := fun _ H' => Q .non H', rt := Q } (start N vs) H) : FnOk P w K mg base CX0 (k + 1) f fd ps sp := by
  obtain ⟨oc, od, kV, doc, pm, an, ct, sl, rfl, lk, hcd⟩ := F.ex
  refine fn_of lk hcd S len fun A outer s H vs Q E hr h => ?_
  have ⟨t, y, q⟩ := body A outer s H vs Q E hr h
  exact ⟨t, y.nox, q⟩
theorem FunT.fn {x qual : Str} {st : Stmt} {f c : Addr} {fd : FuncData} (F : FunT K x qual st f fd c) : Fun K x qual st f fd := by
  obtain ⟨oc, od, kV, doc, pm, an, ct, sl, e, lk, hcd⟩ := F.ex
  exact ⟨⟨oc, od, kV, doc, pm, an, .ref c, ct, sl, e, lk, hcd⟩, F.kp⟩
theorem funT_mk {x qual : Str} {st : Stmt} {f c : Addr} {oc : Value} {od an : Option Addr} {sl : Array (Option Value)} {kV doc pm ct : Value}
    (l : K.lookup f = some ⟨oc, od, .func (PySem.W.fnOf x qual (defArgs st) (defBody st) (defScope st) .none kV doc pm an (.ref c) ct), sl⟩)
    (h : PySem.W.codeIn K (.ref c) qual = true) (k : PySem.W.keepIn K (.ref f) = true) :
    FunT K x qual st f (PySem.W.fnOf x qual (defArgs st) (defBody st) (defScope st) .none kV doc pm an (.ref c) ct) c :=
  ⟨⟨oc, od, kV, doc, pm, an, ct, sl, rfl, l, h⟩, k⟩
end
theorem tab_at {K : PySem.W.Frag} {x : Str} {f c P : Addr} {oc e : Value} {od dd : Option Addr} {osl sl : Array (Option Value)} {fd : FuncData} {vs : Array Value}
    (a : PySem.W.nsIn K mainGlobals x = some (some (.ref f))) (l : K.lookup f = some ⟨oc, od, .func fd, osl⟩) (hc : fd.code = .ref c)
    (d : K.lookup c = some ⟨e, dd, .fields vs, sl⟩) (v : vs[11]? = some (.ref P)) : PySem.W.tabIn K x = some (c, P) := by
  unfold PySem.W.tabIn
  rw [a]
  simp only
  rw [l]
  simp only [hc, d, v]
end MuGen

namespace MuK
open PySem PySem.Spec PyProof.Rows L2 Evl
/-! ### values of which only something is known -/
def EvX (te : TE) (σ : L2.St) (H : Hp) (R : V → Hp → Prop) : Prop := ∀ H1, Ex H H1 → ∀ Q : VK, (∀ v H2, Ex H1 H2 → R v H2 → Q v H2) → te σ H1 Q
def SpR (D : Hp → List V → (V → Hp → Prop) → Prop) : Sp := fun vs H Q _ => ∃ R, D H vs R ∧ ∀ v H', Ex H H' → R v H' → Q v H'
section
variable {K : PySem.W.Frag} {σ : L2.St} {H H' : Hp} {ta tb te : TE} {t u : TT} {x y z v : V} {D : Ends} {tu tw tz : TS} {R : V → Hp → Prop}
theorem evx_call {Dd : Hp → List V → (V → Hp → Prop) → Prop} {vs : List V} {E : XK} {ta : TA} (h : EvA ta σ H vs)
    (hs : ∀ H1, Ex H H1 → ∃ R1, Dd H1 vs R1 ∧ ∀ v H2, Ex H1 H2 → R1 v H2 → R v H2) : EvX (tCall (SpR Dd) [] E ta) σ H R := fun H1 e Q q =>
  h H1 e _ fun H2 e2 => by
    obtain ⟨R1, d, k⟩ := hs H2 (e.trans e2)
    exact ⟨R1, by rw [List.append_nil]; exact d, fun v H3 e3 r => q v H3 (e2.trans e3) (k v H3 e3 r)⟩
theorem q_asgX {i : Nat} (h : EvX te σ H R) (k : ∀ v H1, Ex H H1 → R v H1 → tz D (σ.set i (some v)) H1) : tSeq (tAsg te (gName i)) tz D σ H := h H (Ex.refl H) _ k
theorem s_asgX {i : Nat} (h : EvX te σ H R) (k : ∀ v H1, Ex H H1 → R v H1 → D.nx (σ.set i (some v)) H1) : tAsg te (gName i) D σ H := h H (Ex.refl H) _ k
theorem s_retX (h : EvX te σ H R) (k : ∀ v H1, Ex H H1 → R v H1 → D.rt v H1) : tRet te D σ H := h H (Ex.refl H) _ k
theorem evx_of (h : Ev te σ H v) : EvX te σ H (fun z _ => z = v) := fun H1 e Q q => h H1 e Q fun H2 e2 => q v H2 e2 rfl
theorem evx_mono {R' : V → Hp → Prop} (h : EvX te σ H R) (k : ∀ v H1, Ex H H1 → R v H1 → R' v H1) : EvX te σ H R' := fun H1 e Q q => h H1 e Q fun v H2 e2 r => q v H2 e2 (k v H2 (e.trans e2) r)
/-- the texts ws stand in the list p -/
abbrev TxL (H : Hp) (p : Addr) (ws : List Str) : Prop := H p = some (.lst (ws.map V.str))
/-! ### weights -/
def IntD (kvs : List (Key × V)) : Prop := ∀ kv ∈ kvs, ∃ z, kv.2 = V.int z
def wOf (kvs : List (Key × V)) (a : Str) : Int := match valV kvs (.inr a) with
  | some (.int z) => z
  | _ => 1
theorem wOf_is {kvs : List (Key × V)} (h : IntD kvs) (a : Str) : (valV kvs (.inr a)).getD (.int 1) = .int (wOf kvs a) := by
  unfold wOf
  cases e : valV kvs (.inr a) with
  | none => rfl
  | some u =>
    have ⟨kv, m, q⟩ : ∃ kv ∈ kvs, kv.2 = u := by
      unfold valV at e
      cases f : kvs.find? fun kv => decide (kv.1 = Sum.inr a) with
      | none =>
        rw [f] at e
        exact nomatch e
      | some kv =>
        rw [f] at e
        exact ⟨kv, List.mem_of_find?_eq_some f, Option.some.inj e⟩
    obtain ⟨z, y⟩ := h kv m
    rw [← q, y]
    rfl
def heavy (kvs : List (Key × V)) (ws : List Str) : Int := (ws.map (wOf kvs)).sum
theorem str_at {ws : List Str} {i : Nat} {x : V} (h : (ws.map V.str)[i]? = some x) : ∃ a, ws[i]? = some a ∧ x = .str a := by
  rw [List.getElem?_map] at h
  cases e : ws[i]? with
  | none =>
    rw [e] at h
    exact nomatch h
  | some a =>
    rw [e] at h
    exact ⟨a, rfl, (Option.some.inj h).symm⟩
theorem nodup_len {α : Type} [DecidableEq α] : ∀ {l m : List α}, l.Nodup → (∀ j ∈ l, j ∈ m) → l.length ≤ m.length
  | [], m, _, _ => Nat.zero_le _
  | a :: l, m, nd, h => by
    obtain ⟨n1, n2⟩ := List.nodup_cons.mp nd
    have ha := h a List.mem_cons_self
    have k : ∀ j ∈ l, j ∈ m.erase a := fun j hj => by
      have ne : j ≠ a := fun z => n1 (z ▸ hj)
      exact (List.mem_erase_of_ne ne).mpr (h j (List.mem_cons_of_mem _ hj))
    have r := nodup_len n2 k
    have e := (List.perm_cons_erase ha).length_eq
    simp only [List.length_cons] at e ⊢
    omega
/-- d.get(k, y) of a dict of ints and texts -/
theorem ev_dget2 {td ty tx : TE} {d : Addr} {k : Key} {kvs : List (Key × V)} {dv r : V} (ha : Ev td σ H (.ref d)) (hd : Rd H d (.dK kvs)) (hb : Ev ty σ H (kV k)) (hc : Ev tx σ H dv)
    (hr : (valV kvs k).getD dv = r) : Ev (tDGet2 td ty tx) σ H r := fun H1 e Q q =>
  ha H1 e _ fun H2 e2 => ⟨d, rfl, .inl ⟨kvs, ex_rd (e.trans e2) hd⟩, hb H2 (e.trans e2) _ fun H3 e3 => hc H3 ((e.trans e2).trans e3) _ fun H4 e4 =>
    ⟨valV kvs k, .inl ⟨kvs, k, ex_rd (((e.trans e2).trans e3).trans e4) hd, rfl, rfl⟩, by rw [hr]; exact q H4 ((e2.trans e3).trans e4)⟩⟩
end
end MuK

namespace MuK
open PySem PySem.Spec PyProof.Rows L2 Evl
section
variable {X : Cx}
/-- a text, some times -/
def rMulS : R2 := fun x y H Q => ∃ (a : Str) (n : Int), x = .str a ∧ y = .int n ∧ a.length ≤ 1000 ∧ 0 ≤ n ∧ n ≤ 1000 ∧ Q (.str (Txt.mul a n)) H
theorem op_mulS : OpR X (binaryOp .Mult) rMulS := by
  intro pins s σ H x y v u Q I rx ry h
  obtain ⟨a, n, rfl, rfl, ha, h0, h1, q⟩ := h
  obtain ⟨t, rfl⟩ := rx
  obtain ⟨t', rfl⟩ := ry
  exact PySem.SB.mul (mulOk_of 1000 1000 ha (by omega) (by omega) (by omega) (by omega)) fun t'' k => ⟨.str (Txt.mul a n), H, I.tok _, ⟨_, rfl⟩, q⟩
/-- list.remove of a list of texts -/
def eqt (k : Str) (v : Value) : Bool := match v with
  | .str a _ => decide (a = k)
  | _ => false
theorem eqt_gives {k : Str} {t : Tok} : ∀ {us : List Value} {ws : List Str}, StrsAre us ws → ∀ y ∈ us, MeetsSeq.EqGives y (.str k t) (eqt k y)
  | _, _, .nil => fun _ hy => nomatch hy
  | _, _, .cons a u r => fun y hy => by
    rcases List.mem_cons.mp hy with e | e
    · rw [e]
      exact fun prog w A E s Q h => wpAny_eqBool_str h
    · exact eqt_gives r y e
def rRemS : V → List V → Hp → VK → Prop := fun x xs H Q => ∃ (l : Addr) (ws : List Str) (k : Str), x = .ref l ∧ xs = [.str k] ∧ TxL H l ws ∧ k ∈ ws ∧
  Q .non (upd H l (.lst ((ws.erase k).map V.str)))
theorem erase_at (k : Str) : ∀ (ws : List Str), k ∈ ws → ∃ j, ws[j]? = some k ∧ (∀ m, m < j → ws[m]? ≠ some k) ∧ ws.erase k = ws.eraseIdx j
  | [], h => nomatch h
  | a :: r, h => by
    by_cases e : a = k
    · subst e
      exact ⟨0, rfl, fun m hm => absurd hm (Nat.not_lt_zero m), by simp⟩
    · have hr : k ∈ r := by
        rcases List.mem_cons.mp h with z | z
        · exact absurd z.symm e
        · exact z
      obtain ⟨j, h1, h2, h3⟩ := erase_at k r hr
      refine ⟨j + 1, h1, fun m hm => ?_, ?_⟩
      · cases m with
        | zero => exact fun z => e (Option.some.inj z)
        | succ m => exact h2 m (by omega)
      · rw [List.erase_cons_tail (by simpa using e), h3]
        rfl
theorem erase_mapS : ∀ (l : List Str) (j : Nat), (l.map V.str).eraseIdx j = (l.eraseIdx j).map V.str
  | [], j => by simp
  | a :: r, 0 => by simp
  | a :: r, j + 1 => by
    have h := erase_mapS r j
    simp [h]
theorem mtS_remove : MtM X "list.remove" rRemS := by
  intro pins s σ H x xs v us Q I rx rxs h
  obtain ⟨l, ws, k, rfl, rfl, hH, hk, q⟩ := h
  obtain ⟨j, hj, hno, er⟩ := erase_at k ws hk
  cases rx
  obtain ⟨u, rfl, ru⟩ := rxs.one
  obtain ⟨t, rfl⟩ := ru
  obtain ⟨z, its, n, r, hl, e⟩ := I.lstM hH
  have hi := strs_of_vals r
  rw [List.length_map] at hl z
  have jlt : j < ws.length := (List.getElem?_eq_some_iff.mp hj).1
  have jlt2 : j < its.toArray.size := by
    rw [List.size_toArray]
    omega
  have at_ : ∀ (m : Nat) (lt : m < its.toArray.size) (a : Str), ws[m]? = some a → ∃ tm, its.toArray[m] = .str a tm := fun m lt a ea => by
    obtain ⟨tm, hm⟩ := hi.get m a ea
    have := (List.getElem?_eq_some_iff.mp hm).2
    exact ⟨tm, by simpa using this⟩
  refine call_meets PySem.F.slot_list_remove ⟨_, e, rfl⟩ PySem.F.entry_list_remove (PySem.F.args_list_remove_2 _ _)
    (MeetsSeq.list_remove l its.toArray n (.str k t) (eqt k) (fun y hy => eqt_gives hi y (by simpa using hy)) j jlt2 ?_ ?_ ?_) ⟨e, ?_⟩
  · obtain ⟨tm, hm⟩ := at_ j jlt2 k hj
    rw [hm]
    exact decide_eq_true rfl
  · intro m lt mj
    have lt2 : m < ws.length := by omega
    obtain ⟨tm, hm⟩ := at_ m lt _ (List.getElem?_eq_getElem lt2)
    rw [hm]
    exact decide_eq_false fun z => hno m mj (by rw [List.getElem?_eq_getElem lt2, z])
  · rw [List.size_toArray]
    omega
  · have rr := r.eraseIdx j
    have e2 : (ws.map V.str).eraseIdx j = (ws.erase k).map V.str := by
      rw [er]
      exact erase_mapS ws j
    rw [e2] at rr
    refine ⟨.non, _, I.lset (its' := its.eraseIdx j) (t' := s.toks) hH e ?_ rr ?_, rfl, q⟩
    · show its.toArray.eraseIdxIfInBounds j = (its.eraseIdx j).toArray
      rw [List.eraseIdxIfInBounds_toArray]
    · rw [List.length_map]
      have := List.length_erase_le (a := k) (l := ws)
      omega
end
section
variable {K : PySem.W.Frag} {σ : L2.St} {H H' : Hp} {ta tb te : TE} {t u : TT} {x y z v : V} {D : Ends} {tu tw tz : TS} {R : V → Hp → Prop}
/-- for i, x in enumerate(xs) -/
theorem s_forE {ta : TA} {a : Addr} {xs : List V} {i j : Nat} (h : EvA ta σ H [.ref a]) (hx : SqL K H a xs) (Pv : Nat → L2.St → Hp → Prop)
    (h0 : ∀ H1, Ex H H1 → Pv 0 σ H1) (hl : ∀ n σ' H', n ≤ xs.length → Pv n σ' H' → SqL K H' a xs)
    (hs : ∀ n x σ' H' H2, xs[n]? = some x → Pv n σ' H' → Ex H' H2 →
      tu { D with nx := Pv (n + 1), ct := Pv (n + 1), bk := D.nx } ((σ'.set i (some (.int (n : Int)))).set j (some x)) H2)
    (hd : ∀ σ' H', Pv xs.length σ' H' → D.nx σ' H') : tFor (iEnum K ta) (gTup K 2 (gCons (gName i) (gCons (gName j) gNil))) tu D σ H := by
  refine h H (Ex.refl H) _ fun H1 e => ⟨a, xs, rfl, ex_l e hx, ?_⟩
  refine ⟨fun n m σ' H' => m = xs.length - n ∧ n ≤ xs.length ∧ Pv n σ' H', ⟨xs.length, rfl, Nat.zero_le _, h0 H1 e⟩, ?_⟩
  rintro n m σ' H' ⟨rfl, hn, p⟩
  have q := hl n σ' H' hn p
  by_cases lt : n < xs.length
  · refine .inr ⟨⟨xs, xs[n], q, List.getElem?_eq_getElem lt⟩, Pv (n + 1), fun σ2 H2 p2 => ⟨xs.length - (n + 1), by omega, rfl, lt, p2⟩, fun x H2 y => ?_⟩
    obtain ⟨T, x, rfl, hT, rfl, hx2⟩ := y
    exact ⟨T, [.int (n : Int), x], rfl, st_of upd_same, rfl, .int (n : Int), [x], rfl, x, [], rfl, rfl, hs n x σ' H' _ (hx2 xs q) p (Ex.new hT)⟩
  · have e2 : n = xs.length := by omega
    subst e2
    exact .inl ⟨⟨xs, q, Nat.le_refl _⟩, hd σ' H' p⟩
theorem q_forE {ta : TA} {a : Addr} {xs : List V} {i j : Nat} (h : EvA ta σ H [.ref a]) (hx : SqL K H a xs) (Pv : Nat → L2.St → Hp → Prop)
    (h0 : ∀ H1, Ex H H1 → Pv 0 σ H1) (hl : ∀ n σ' H', n ≤ xs.length → Pv n σ' H' → SqL K H' a xs)
    (hs : ∀ n x σ' H' H2, xs[n]? = some x → Pv n σ' H' → Ex H' H2 →
      tu { D with nx := Pv (n + 1), ct := Pv (n + 1), bk := tz D } ((σ'.set i (some (.int (n : Int)))).set j (some x)) H2)
    (hd : ∀ σ' H', Pv xs.length σ' H' → tz D σ' H') : tSeq (tFor (iEnum K ta) (gTup K 2 (gCons (gName i) (gCons (gName j) gNil))) tu) tz D σ H :=
  s_forE (D := { D with nx := tz D }) h hx Pv h0 hl hs hd
/-- for i, x in enumerate(e), e a new list -/
theorem q_forEN {xs : List V} {i j : Nat} (h : EvL te σ H xs) (Pv : Addr → Nat → L2.St → Hp → Prop)
    (h0 : ∀ p H1, H p = none → Ex H H1 → H1 p = some (.lst xs) → Pv p 0 σ H1) (hl : ∀ p n σ' H', n ≤ xs.length → Pv p n σ' H' → SqL K H' p xs)
    (hs : ∀ p n x σ' H' H2, xs[n]? = some x → Pv p n σ' H' → Ex H' H2 →
      tu { D with nx := Pv p (n + 1), ct := Pv p (n + 1), bk := tz D } ((σ'.set i (some (.int (n : Int)))).set j (some x)) H2)
    (hd : ∀ p σ' H', Pv p xs.length σ' H' → tz D σ' H') : tSeq (tFor (iEnum K (tCons te tNil)) (gTup K 2 (gCons (gName i) (gCons (gName j) gNil))) tu) tz D σ H := by
  refine h H (Ex.refl H) _ fun p H1 hp e hx => ?_
  refine ⟨p, xs, rfl, sq_of hx, ?_⟩
  refine ⟨fun n m σ' H' => m = xs.length - n ∧ n ≤ xs.length ∧ Pv p n σ' H', ⟨xs.length, rfl, Nat.zero_le _, h0 p H1 hp e hx⟩, ?_⟩
  rintro n m σ' H' ⟨rfl, hn, pv⟩
  have q := hl p n σ' H' hn pv
  by_cases lt : n < xs.length
  · refine .inr ⟨⟨xs, xs[n], q, List.getElem?_eq_getElem lt⟩, Pv p (n + 1), fun σ2 H2 p2 => ⟨xs.length - (n + 1), by omega, rfl, lt, p2⟩, fun x H2 y => ?_⟩
    obtain ⟨T, x, rfl, hT, rfl, hx2⟩ := y
    exact ⟨T, [.int (n : Int), x], rfl, st_of upd_same, rfl, .int (n : Int), [x], rfl, x, [], rfl, rfl, hs p n x σ' H' _ (hx2 xs q) pv (Ex.new hT)⟩
  · have e2 : n = xs.length := by omega
    subst e2
    exact .inl ⟨⟨xs, q, Nat.le_refl _⟩, hd p σ' H' pv⟩
theorem Cw.later {f : Nat → Bool} {v : Nat → V} {Dl : Addr} {n : Nat} {H2 : Hp} (p : Cw H f v Dl n H') (e : Ex H' H2) : Cw H f v Dl n H2 :=
  ⟨p.1, p.2.1.trans e, e Dl _ p.2.2⟩
/-- [e for i, x in enumerate(xs) if t] -/
theorem el_lcE {ta : TA} {a : Addr} {xs : List V} {i j : Nat} {vs : List Nat} (f : Nat → Bool) (v : Nat → V) (h : EvA ta σ H [.ref a]) (hx : SqL K H a xs) (hz : xs.length ≤ 40000)
    (hw : ∀ x y, wipe (((wipe σ vs).set i (some x)).set j (some y)) vs = wipe σ vs)
    (ht : ∀ (n : Nat) (x : V) H1, Ex H H1 → xs[n]? = some x → EvT t (((wipe σ vs).set i (some (.int (n : Int)))).set j (some x)) H1 (f n))
    (he : ∀ (n : Nat) (x : V) H1, Ex H H1 → xs[n]? = some x → f n = true → Ev te (((wipe σ vs).set i (some (.int (n : Int)))).set j (some x)) H1 (v n)) :
    EvL (tLc (iEnum K ta) (gTup K 2 (gCons (gName i) (gCons (gName j) gNil))) t te vs) σ H (given xs.length f v) := fun H0 e Q q => by
  refine h H0 e _ fun H1 e1 => ⟨a, xs, rfl, ex_l (e.trans e1) hx, fun Dl hD => ?_⟩
  refine ⟨fun n m H' => m = xs.length - n ∧ n ≤ xs.length ∧ Cw H1 f v Dl n H', ⟨xs.length, rfl, Nat.zero_le _, hD, Ex.new hD, upd_same⟩, ?_⟩
  rintro n m H' ⟨rfl, hn, p⟩
  have hq := ex_l ((e.trans e1).trans p.2.1) hx
  by_cases lt : n < xs.length
  · refine .inr ⟨⟨xs, xs[n], hq, List.getElem?_eq_getElem lt⟩, fun H2 => Cw H1 f v Dl (n + 1) H2, fun H2 p2 => ⟨xs.length - (n + 1), by omega, rfl, lt, p2⟩, fun x H2 y => ?_⟩
    obtain ⟨T, x, rfl, hT, rfl, hx2⟩ := y
    have hxn := hx2 xs hq
    refine ⟨T, [.int (n : Int), x], rfl, st_of upd_same, rfl, .int (n : Int), [x], rfl, x, [], rfl, rfl, hw _ _, ?_⟩
    exact cw_turn (MuK.Cw.later p (Ex.new hT)) (by omega) (ht n x H1 (e.trans e1) hxn) fun hf => he n x H1 (e.trans e1) hxn hf
  · have e2 : n = xs.length := by omega
    subst e2
    exact .inl ⟨⟨xs, hq, Nat.le_refl _⟩, q Dl H' (fresh_back e1 p.1) (e1.trans p.2.1) p.2.2⟩
/-- the texts of the lists at ls -/
def LotAt (H : Hp) (ls : List (Addr × List Str)) : Prop := ∀ p ∈ ls, TxL H p.1 p.2
theorem LotAt.later {ls : List (Addr × List Str)} (h : LotAt H ls) (e : Ex H H') : LotAt H' ls := fun p m => e _ _ (h p m)
/-- [list(x) for x in lot] -/
theorem evx_copies {ls : List (Addr × List Str)} {a : Addr} {tl : TE} {j : Nat} {vs : List Nat} (h : Ev tl σ H (.ref a)) (hx : SqL K H a (ls.map fun p => V.ref p.1)) (hz : ls.length ≤ 40000)
    (hl : LotAt H ls) (hj : j < σ.length) (hw : ∀ x, wipe ((wipe σ vs).set j (some x)) vs = wipe σ vs) :
    EvX (tLc (iList K tl) (gName j) tYes (tCB (rListS K) (tCons (tVar j) tNil)) vs) σ H
      (fun v H' => ∃ (p : Addr) (cs : List (Addr × List Str)), v = .ref p ∧ H p = none ∧ H' p = some (.lst (cs.map fun p => V.ref p.1)) ∧ cs.map (·.2) = ls.map (·.2) ∧ LotAt H' cs ∧ ∀ c ∈ cs, H c.1 = none) := fun H0 e Q q => by
  refine h H0 e _ fun H1 e1 => ⟨a, rfl, ⟨_, ex_l (e.trans e1) hx⟩, fun Dl hD => ?_⟩
  have e01 := e.trans e1
  refine lc_list (xs := ls.map fun p => V.ref p.1)
    (fun n H' => Ex H1 H' ∧ ∃ cs : List (Addr × List Str), H' Dl = some (.lst (cs.map fun p => V.ref p.1)) ∧ cs.map (·.2) = (ls.take n).map (·.2) ∧ LotAt H' cs ∧ ∀ c ∈ cs, H1 c.1 = none ∧ c.1 ≠ Dl)
    ⟨Ex.new hD, [], upd_same, rfl, fun _ m => (nomatch m), fun _ m => nomatch m⟩ (fun n H' _ p => ex_l (e01.trans p.1) hx) (fun n x H' hn p => ?_) (fun H' p => ?_)
  · obtain ⟨e2, cs, hDl, hcs, hat, hnew⟩ := p
    obtain ⟨pr, hpr, rfl⟩ : ∃ pr, ls[n]? = some pr ∧ x = .ref pr.1 := by
      rw [List.getElem?_map] at hn
      cases y : ls[n]? with
      | none =>
        rw [y] at hn
        exact nomatch hn
      | some pr =>
        rw [y] at hn
        exact ⟨pr, rfl, (Option.some.inj hn).symm⟩
    have hm := List.mem_of_getElem? hpr
    have lt := (List.getElem?_eq_some_iff.mp hpr).1
    refine ⟨hw _, ?_⟩
    show tCB (rListS K) (tCons (tVar j) tNil) _ H' _
    refine ⟨.ref pr.1, ?_, pr.1, pr.2.map V.str, rfl, .inl (sq_of ((e01.trans e2) _ _ (hl pr hm))), fun c hc => ?_⟩
    · exact List.getElem?_set_self (by rw [wipe_length]; exact hj)
    · have hcD : c ≠ Dl := fun z => by
        rw [z, hDl] at hc
        exact nomatch hc
      have e3 : Ex H' (upd H' c (.lst (pr.2.map V.str))) := Ex.new hc
      have len : cs.length ≤ ls.length := by
        have := congrArg List.length hcs
        simp at this
        omega
      refine ⟨cs.map fun p => V.ref p.1, e3 _ _ hDl, by rw [List.length_map]; exact sz_lt (by omega), Ex.mut (e2.trans e3) hD, cs ++ [(c, pr.2)], ?_, ?_, fun p m => ?_, fun p m => ?_⟩
      · rw [upd_same, List.map_append]
        rfl
      · rw [List.map_append, hcs, List.take_succ_eq_append_getElem lt, List.map_append, (List.getElem?_eq_some_iff.mp hpr).2]
        rfl
      · rcases List.mem_append.mp m with m | m
        · exact (upd_ne (hnew p m).2).trans (e3 _ _ (hat p m))
        · obtain rfl := List.mem_singleton.mp m
          exact (upd_ne hcD).trans upd_same
      · rcases List.mem_append.mp m with m | m
        · exact hnew p m
        · obtain rfl := List.mem_singleton.mp m
          exact ⟨fresh_back e2 hc, hcD⟩
  · obtain ⟨e2, cs, hDl, hcs, hat, hnew⟩ := p
    rw [List.length_map, List.take_length] at hcs
    exact q _ _ (e1.trans e2) ⟨Dl, cs, rfl, fresh_back e01 hD, hDl, hcs, hat, fun c m => fresh_back e01 (hnew c m).1⟩
/-- a list and a new one, joined -/
theorem el_catS {xs ys : List V} {a : Addr} (ha : Ev ta σ H (.ref a)) (h0 : SqL K H a xs) (hb : EvL tb σ H ys) (hz : xs.length + ys.length ≤ 100000)
    (hK : ∀ H1, Ex H H1 → H1 a = some (.lst xs)) : EvL (tOp rCat ta tb) σ H (xs ++ ys) := el_catV ha (hK H (Ex.refl H)) hb hz
/-- the item by a number's rest -/
theorem atI_emod {xs : List V} {n : Int} (h : xs ≠ []) : ∃ x, atI xs (n % (xs.length : Int)) = some x ∧ x ∈ xs := by
  have h0 : 0 < xs.length := List.length_pos_iff.mpr h
  have h1 : 0 ≤ n % (xs.length : Int) := Int.emod_nonneg _ (by omega)
  have h2 : n % (xs.length : Int) < xs.length := Int.emod_lt_of_pos _ (by omega)
  have h3 : (((n % (xs.length : Int)).toNat : Nat) : Int) = n % (xs.length : Int) := Int.toNat_of_nonneg h1
  have h4 : (n % (xs.length : Int)).toNat < xs.length := by omega
  have h6 := atI_nat (List.getElem?_eq_getElem h4)
  rw [h3] at h6
  exact ⟨_, h6, List.getElem_mem h4⟩
theorem s_dputK {td ty tv : TE} {d : Addr} {kvs : List (Key × V)} {k : Key} (hd : H d = some (.dK kvs)) (hz : kvs.length < 100000) (hv : Ev tv σ H v) (ho : Ev td σ H (.ref d)) (hk : Ev ty σ H (kV k))
    (q : ∀ H1, Ex H H1 → D.nx σ (upd H1 d (.dK (putK kvs k v)))) : sDPut td ty tv D σ H := by
  refine hv H (Ex.refl H) _ fun H1 e1 => ho H1 e1 _ fun H2 e2 => hk H2 (e1.trans e2) _ fun H3 e3 => ?_
  have e := (e1.trans e2).trans e3
  exact ⟨d, _, rfl, DPut.k (e d _ hd) (sz_lt hz), q H3 e⟩
theorem inV_str {xs : List Str} {a : Str} : inV (.str a) (xs.map V.str) = decide (a ∈ xs) := by
  unfold inV
  rw [List.any_map, Bool.eq_iff_iff, List.any_eq_true, decide_eq_true_eq]
  constructor
  · rintro ⟨y, hy, e⟩
    have : y = a := by simpa [eqV] using e
    exact this ▸ hy
  · intro h
    exact ⟨a, h, by simp [eqV]⟩
end
end MuK

namespace MuK
open PySem PySem.Spec PyProof.Rows L2 Evl
section
variable {X : Cx}
/-- a list, and a list without items, compared -/
def rNil (K : PySem.W.Frag) (k : Bool) : R2 := fun x y H Q => ∃ (a b : Addr) (xs : List V), x = .ref a ∧ y = .ref b ∧ SqL K H a xs ∧ SqL K H b [] ∧ Q (.bl (k == xs.isEmpty)) H
theorem op_neNil (hu : X.A.units + 64 < cLine) : OpR X (compareOp .NotEq) (rNil X.K false) := by
  intro pins s σ H x y v u Q I rx ry h
  obtain ⟨a, b, xs, rfl, rfl, ha, hb, q⟩ := h
  obtain rfl : v = Value.ref a := rx
  obtain rfl : u = Value.ref b := ry
  obtain ⟨us, r1, p1, _⟩ := I.list ha
  obtain ⟨ws, r2, p2, _⟩ := I.list hb
  cases r2
  have hu2 : X.A.units < cLine := by omega
  cases r1 with
  | nil => exact SeqAt.RcNeAt.lists (e := fun _ => true) p1.isList p2.isList rfl hu2 (fun j h1 _ => absurd h1 (Nat.not_lt_zero j)) _ _ _ _ ⟨.bl false, H, I, rfl, q⟩
  | cons r rr => exact SeqAt.RcNeAt.lists_lengths p1.isList p2.isList (by simp) hu2 _ _ _ _ ⟨.bl true, H, I, rfl, q⟩
end
section
variable {K : PySem.W.Frag} {σ : L2.St} {H H' : Hp} {ta tb te : TE} {t u : TT} {x y z v : V} {D : Ends} {tu tw tz : TS} {R : V → Hp → Prop}
theorem ev_neNil {a : Addr} {xs : List V} (ha : Ev ta σ H (.ref a)) (hx : SqL K H a xs) (hb : EvL tb σ H []) : Ev (tOp (rNil K false) ta tb) σ H (.bl (!xs.isEmpty)) := fun H1 e Q q =>
  ha H1 e _ fun H2 e2 => hb H2 (e.trans e2) _ fun p H3 hp e3 h3 => ⟨a, p, xs, rfl, rfl, ex_l ((e.trans e2).trans e3) hx, sq_of h3, by
    have z : (false == xs.isEmpty) = !xs.isEmpty := by cases xs.isEmpty <;> rfl
    rw [z]
    exact q H3 (e2.trans e3)⟩
theorem el_listN {xs : List V} (ha : EvL ta σ H xs) : EvL (tCB (rListS K) (tCons ta tNil)) σ H xs := fun H1 e Q q =>
  ha H1 e _ fun p H2 hp e2 h2 => ⟨p, xs, rfl, .inl (sq_of h2), fun l hl => q l _ (fresh_back e2 hl) (e2.trans (Ex.new hl)) upd_same⟩
theorem sub_nodup {α : Type} {l m : List α} (h : l.Sublist m) (n : m.Nodup) : l.Nodup := n.sublist h
/-- words[at:] + words[:at] -/
theorem rot_str {us : List Str} {k : Nat} (hk : k ≤ us.length) : ∃ vs : List Str, cutV (us.map V.str) (some (k : Int)) none ++ cutV (us.map V.str) none (some (k : Int)) = vs.map V.str ∧ vs.Perm us := by
  refine ⟨us.drop k ++ us.take k, ?_, ?_⟩
  · unfold cutV
    rw [HT.sIx_nat, HT.sIx_nat, HT.sIx_none, HT.sIx_none, List.length_map, Nat.min_eq_left hk, List.map_append, List.map_drop, List.map_take, Nat.sub_zero, List.drop_zero]
    congr 1
    exact List.take_of_length_le (by simp)
  · exact List.perm_append_comm.trans (by rw [List.take_append_drop])
theorem nodup_bound {us ws : List Str} (nd : us.Nodup) (h : ∀ u ∈ us, u ∈ ws) : us.length ≤ ws.length := nodup_len nd h
theorem s_remS {l : Addr} {ws : List Str} {k : Str} (hl : TxL H l ws) (hk : k ∈ ws) (ha : Ev ta σ H (.ref l)) (h : Ev te σ H (.str k))
    (q : ∀ H1, Ex H H1 → D.nx σ (upd H1 l (.lst ((ws.erase k).map V.str)))) : tDrop (tBM K "list" rRemS ta (tCons te tNil)) D σ H := by
  refine ha H (Ex.refl H) _ fun H1 e1 => ⟨.inl ⟨rfl, _, sq_of (e1 l _ hl)⟩, ?_⟩
  refine h H1 e1 _ fun H2 e2 => ?_
  exact ⟨l, ws, k, rfl, rfl, (e1.trans e2) l _ hl, hk, q H2 (e1.trans e2)⟩
theorem s_appX {l : Addr} {xs : List V} (hl : H l = some (.lst xs)) (ha : Ev ta σ H (.ref l)) (h : EvX te σ H R) (hz : xs.length < 100000)
    (k : ∀ v H1, Ex H H1 → R v H1 → D.nx σ (upd H1 l (.lst (xs ++ [v])))) : tDrop (tBM K "list" rAppend ta (tCons te tNil)) D σ H := by
  refine ha H (Ex.refl H) _ fun H1 e1 => ⟨.inl ⟨rfl, xs, sq_of (e1 l _ hl)⟩, ?_⟩
  refine h H1 e1 _ fun v H2 e2 r => ?_
  exact ⟨l, xs, v, rfl, rfl, (e1.trans e2) l _ hl, sz_lt hz, k v H2 (e1.trans e2) r⟩
end
end MuK

namespace MuEq
open PySem PySem.Spec PyProof.Rows L2 PySem.SeqAt MeetsSeq
section
variable {P : Program} {w : World}
/-- what both tuples are, at the heap -/
def Two (s : Shared) (l b : Addr) (xs ys : Array Value) (n m : Nat) (d e : Option Addr) (sx sy : Array (Option Value)) : Prop :=
  s.heap.get? l = some { cls := .type "tuple", dict := d, data := .seq xs n, slots := sx } ∧
  s.heap.get? b = some { cls := .type "tuple", dict := e, data := .seq ys m, slots := sy }
theorem eq_all (l b : Addr) (xs ys : Array Value) (n m : Nat) (d e : Option Addr) (sx sy : Array (Option Value)) (hz : xs.size = ys.size) :
    MeetsIn P w (Builtin.«tuple.__eq__» ⟨[.ref l, .ref b], []⟩) (fun A R s => Two s l b xs ys n m d e sx sy ∧
      (∀ j (h1 : j < xs.size) (h2 : j < ys.size), EqP P w A.in1 s xs[j] ys[j] true) ∧ R (.ok (.ret (.bool true))) s) := by
  intro A R s h
  obtain ⟨hp, g, dr, tk, os⟩ := s
  obtain ⟨⟨hl, hb⟩, he, h⟩ := h
  have f2 := AutoSeq1.sub_tuple_tuple
  wp_walk using wpAny_loadPart' hl, wpAny_loadPart' hb, wpAny_forIn_list _ (fun rest b s' => b.1 = none ∧ s' = ⟨hp, g, dr, tk, os⟩ ∧ ∃ i, rest = (xs.toList.zip ys.toList).drop i) _
  case turn =>
    rintro ⟨y, x⟩ rest b s' ⟨hb', rfl, i, hr⟩
    have lt : i < (xs.toList.zip ys.toList).length := Nat.lt_of_not_le fun z => by
      rw [List.drop_of_length_le z] at hr
      exact nomatch hr
    have lt1 : i < xs.size := by
      simp at lt
      omega
    have lt2 : i < ys.size := by omega
    rw [List.drop_eq_getElem_cons lt] at hr
    obtain ⟨e1, e2⟩ := List.cons.inj hr
    have ey : y = xs[i] := by simpa using congrArg Prod.fst e1
    have ex : x = ys[i] := by simpa using congrArg Prod.snd e1
    subst ey ex
    refine wpAny_bind (he i lt1 lt2 _ _ ?_)
    wp_walk
    exact ⟨rfl, rfl, i + 1, e2⟩
  case fin =>
    rintro ⟨b1, b2⟩ s' ⟨hb', rfl, i, hr⟩
    obtain rfl : b1 = none := hb'
    wp_walk
    simpa [Builtin.Tuple.tupleCompareSizes, hz, bne] using h
  case h => exact ⟨rfl, rfl, 0, rfl⟩
theorem ne_all (l b : Addr) (xs ys : Array Value) (n m : Nat) (d e : Option Addr) (sx sy : Array (Option Value)) (hz : xs.size = ys.size) :
    MeetsIn P w (Builtin.«tuple.__ne__» ⟨[.ref l, .ref b], []⟩) (fun A R s => Two s l b xs ys n m d e sx sy ∧
      (∀ j (h1 : j < xs.size) (h2 : j < ys.size), EqP P w A.in1 s xs[j] ys[j] true) ∧ R (.ok (.ret (.bool false))) s) := by
  intro A R s h
  obtain ⟨hp, g, dr, tk, os⟩ := s
  obtain ⟨⟨hl, hb⟩, he, h⟩ := h
  have f2 := AutoSeq1.sub_tuple_tuple
  wp_walk using wpAny_loadPart' hl, wpAny_loadPart' hb, wpAny_forIn_list _ (fun rest b s' => b.1 = none ∧ s' = ⟨hp, g, dr, tk, os⟩ ∧ ∃ i, rest = (xs.toList.zip ys.toList).drop i) _
  case turn =>
    rintro ⟨y, x⟩ rest b s' ⟨hb', rfl, i, hr⟩
    have lt : i < (xs.toList.zip ys.toList).length := Nat.lt_of_not_le fun z => by
      rw [List.drop_of_length_le z] at hr
      exact nomatch hr
    have lt1 : i < xs.size := by
      simp at lt
      omega
    have lt2 : i < ys.size := by omega
    rw [List.drop_eq_getElem_cons lt] at hr
    obtain ⟨e1, e2⟩ := List.cons.inj hr
    have ey : y = xs[i] := by simpa using congrArg Prod.fst e1
    have ex : x = ys[i] := by simpa using congrArg Prod.snd e1
    subst ey ex
    refine wpAny_bind (he i lt1 lt2 _ _ ?_)
    wp_walk
    exact ⟨rfl, rfl, i + 1, e2⟩
  case fin =>
    rintro ⟨b1, b2⟩ s' ⟨hb', rfl, i, hr⟩
    obtain rfl : b1 = none := hb'
    wp_walk
    simpa [Builtin.Tuple.tupleCompareSizes, hz, bne] using h
  case h => exact ⟨rfl, rfl, 0, rfl⟩
end
section
variable {X : Cx}
/-- two pairs, their items equal by EqV -/
def rPair (K : PySem.W.Frag) (k : Bool) : R2 := fun x y H Q => ∃ (a b : Addr) (x1 x2 y1 y2 : V) (n : Nat), x = .ref a ∧ y = .ref b ∧ SqT K H a [x1, x2] ∧ SqT K H b [y1, y2] ∧ n ≤ 50 ∧ EqV K H n x1 y1 ∧ EqV K H n x2 y2 ∧ Q (.bl k) H
theorem pair_items {pins : List (Addr × Obj)} {σ : L2.St} {H : Hp} {s : Shared} {x1 x2 y1 y2 : V} {n : Nat} {us ws : List Value} (I : Inv X pins σ H s) {A : Around} (hu : A.units + n < cLine)
    (r1 : Vals [x1, x2] us) (r2 : Vals [y1, y2] ws) (h1 : EqV X.K H n x1 y1) (h2 : EqV X.K H n x2 y2) :
    us.length = ws.length ∧ ∀ j (l1 : j < us.toArray.size) (l2 : j < ws.toArray.size), EqP X.prog X.w A s us.toArray[j] ws.toArray[j] true := by
  cases r1 with
  | cons a1 r1 =>
    cases r1 with
    | cons a2 r1 =>
      cases r1
      cases r2 with
      | cons b1 r2 =>
        cases r2 with
        | cons b2 r2 =>
          cases r2
          refine ⟨rfl, fun j l1 l2 => ?_⟩
          match j, l1, l2 with
          | 0, _, _ => exact eqV_run I n A hu _ _ _ _ h1 a1 b1
          | 1, _, _ => exact eqV_run I n A hu _ _ _ _ h2 a2 b2
          | j + 2, l1, _ => exact absurd l1 (by simp)
theorem op_eqPair (hu : X.A.units + 64 < cLine) : OpR X (compareOp .Eq) (rPair X.K true) := by
  intro pins s σ H x y v u Q I rx ry h
  obtain ⟨a, b, x1, x2, y1, y2, n, rfl, rfl, ha, hb, hn, h1, h2, q⟩ := h
  obtain rfl : v = Value.ref a := rx
  obtain rfl : u = Value.ref b := ry
  obtain ⟨us, r1, ⟨o1, g1, c1, m1, d1⟩, _⟩ := I.tuple ha
  obtain ⟨ws, r2, ⟨o2, g2, c2, m2, d2⟩, _⟩ := I.tuple hb
  obtain ⟨len, items⟩ := pair_items I (A := X.A.in1) (show X.A.units + 1 + n < cLine by omega) r1 r2 h1 h2
  obtain ⟨cls1, dd1, data1, sl1⟩ := o1
  obtain ⟨cls2, dd2, data2, sl2⟩ := o2
  obtain rfl : cls1 = _ := c1
  obtain rfl : cls2 = _ := c2
  obtain rfl : data1 = _ := d1
  obtain rfl : data2 = _ := d2
  have ta : s.TypeIs (.ref a) "tuple" := ⟨_, g1, rfl⟩
  have tb : s.TypeIs (.ref b) "tuple" := ⟨_, g2, rfl⟩
  refine wpAny_richCompare_same_room (op := .Eq) ta tb F.slot_tuple_eq (call_meetsIn F.slot_tuple_eq ta F.entry_tuple_eq (F.args_tuple_eq_2 _ _) (eq_all a b us.toArray ws.toArray _ _ _ _ _ _ (by simpa using len)) ⟨⟨g1, g2⟩, items, ?_⟩) (by omega)
  exact ⟨fun z => (nomatch z), .bl true, H, I, rfl, q⟩
theorem op_nePair (hu : X.A.units + 64 < cLine) : OpR X (compareOp .NotEq) (rPair X.K false) := by
  intro pins s σ H x y v u Q I rx ry h
  obtain ⟨a, b, x1, x2, y1, y2, n, rfl, rfl, ha, hb, hn, h1, h2, q⟩ := h
  obtain rfl : v = Value.ref a := rx
  obtain rfl : u = Value.ref b := ry
  obtain ⟨us, r1, ⟨o1, g1, c1, m1, d1⟩, _⟩ := I.tuple ha
  obtain ⟨ws, r2, ⟨o2, g2, c2, m2, d2⟩, _⟩ := I.tuple hb
  obtain ⟨len, items⟩ := pair_items I (A := X.A.in1) (show X.A.units + 1 + n < cLine by omega) r1 r2 h1 h2
  obtain ⟨cls1, dd1, data1, sl1⟩ := o1
  obtain ⟨cls2, dd2, data2, sl2⟩ := o2
  obtain rfl : cls1 = _ := c1
  obtain rfl : cls2 = _ := c2
  obtain rfl : data1 = _ := d1
  obtain rfl : data2 = _ := d2
  have ta : s.TypeIs (.ref a) "tuple" := ⟨_, g1, rfl⟩
  have tb : s.TypeIs (.ref b) "tuple" := ⟨_, g2, rfl⟩
  refine wpAny_richCompare_same_room (op := .NotEq) ta tb F.slot_tuple_ne (call_meetsIn F.slot_tuple_ne ta F.entry_tuple_ne (F.args_tuple_ne_2 _ _) (ne_all a b us.toArray ws.toArray _ _ _ _ _ _ (by simpa using len)) ⟨⟨g1, g2⟩, items, ?_⟩) (by omega)
  exact ⟨fun z => (nomatch z), .bl false, H, I, rfl, q⟩
end
end MuEq

namespace MuK
open PySem PySem.Spec PyProof.Rows L2 Evl
/-! ### texts in order -/
abbrev leT (a b : Str) : Prop := ltCps b.cps.toList a.cps.toList = false
theorem lt_tri : ∀ a b : List Nat, ltCps a b = false → ltCps b a = false → a = b
  | [], [], _, _ => rfl
  | [], _ :: _, h, _ => by simp [ltCps] at h
  | _ :: _, [], _, h => by simp [ltCps] at h
  | a :: r, b :: t, h, k => by
    simp only [ltCps, Bool.or_eq_false_iff, decide_eq_false_iff_not, Bool.and_eq_false_iff, beq_eq_false_iff_ne] at h k
    have e : a = b := by omega
    subst e
    rw [lt_tri r t (h.2.resolve_left fun z => z rfl) (k.2.resolve_left fun z => z rfl)]
theorem le_tr : ∀ a b c : List Nat, ltCps b a = false → ltCps c b = false → ltCps c a = false
  | [], _, [], _, _ => rfl
  | [], _, _ :: _, _, _ => rfl
  | _ :: _, [], _, h, _ => by simp [ltCps] at h
  | _ :: _, _ :: _, [], _, h => by simp [ltCps] at h
  | a :: r, b :: t, c :: u, h, k => by
    simp only [ltCps, Bool.or_eq_false_iff, decide_eq_false_iff_not, Bool.and_eq_false_iff, beq_eq_false_iff_ne] at h k ⊢
    refine ⟨by omega, ?_⟩
    by_cases e : c = a
    · subst e
      have e2 : b = c := by omega
      subst e2
      exact .inr (le_tr r t u (h.2.resolve_left fun z => z rfl) (k.2.resolve_left fun z => z rfl))
    · exact .inl e
theorem rising_pair : ∀ (l : List Str) (p : Str), risingS p l = true → (p :: l).Pairwise leT
  | [], p, _ => List.pairwise_singleton _ _
  | x :: r, p, h => by
    have h' : (!ltCps x.cps.toList p.cps.toList && risingS x r) = true := h
    rw [Bool.and_eq_true, Bool.not_eq_true'] at h'
    have ih := rising_pair r x h'.2
    refine List.pairwise_cons.mpr ⟨fun y hy => ?_, ih⟩
    rcases List.mem_cons.mp hy with e | e
    · rw [e]
      exact h'.1
    · exact le_tr _ _ _ h'.1 ((List.pairwise_cons.mp ih).1 y e)
theorem sorted_pair {l : List Str} (h : sortedS l = true) : l.Pairwise leT := by
  cases l with
  | nil => exact List.Pairwise.nil
  | cons x r => exact rising_pair r x h
theorem sorted_one : ∀ {l m : List Str}, l.Pairwise leT → m.Pairwise leT → l.Perm m → l = m
  | [], m, _, _, h => h.nil_eq
  | a :: l, [], _, _, h => absurd h.length_eq (by simp)
  | a :: l, b :: m, hl, hm, h => by
    have e : a = b := by
      have ha : a ∈ b :: m := h.mem_iff.mp List.mem_cons_self
      have hb : b ∈ a :: l := h.mem_iff.mpr List.mem_cons_self
      rcases List.mem_cons.mp ha with z | z
      · exact z
      · rcases List.mem_cons.mp hb with y | y
        · exact y.symm
        · have q := lt_tri _ _ ((List.pairwise_cons.mp hm).1 a z) ((List.pairwise_cons.mp hl).1 b y)
          obtain ⟨a⟩ := a
          obtain ⟨b⟩ := b
          exact congrArg Str.mk (Array.ext' q)
    subst e
    rw [sorted_one (List.pairwise_cons.mp hl).2 (List.pairwise_cons.mp hm).2 h.cons_inv]
/-- what is sorted, of the same texts each once, is the same -/
theorem sorted_same {l m : List Str} (hl : sortedS l = true) (hm : sortedS m = true) (n1 : l.Nodup) (n2 : m.Nodup) (h : ∀ j, j ∈ l ↔ j ∈ m) : l = m :=
  sorted_one (sorted_pair hl) (sorted_pair hm) ((List.perm_ext_iff_of_nodup n1 n2).mpr h)
end MuK

namespace MuK
open PySem PySem.Spec PyProof.Rows L2 Evl MuEq
section
variable {X : Cx}
/-- two lists of the same texts -/
def rSame (K : PySem.W.Frag) (k : Bool) : R2 := fun x y H Q => ∃ (a b : Addr) (ws : List Str), x = .ref a ∧ y = .ref b ∧ SqL K H a (ws.map V.str) ∧ SqL K H b (ws.map V.str) ∧ Q (.bl k) H
theorem op_neSame (hu : X.A.units + 64 < cLine) : OpR X (compareOp .NotEq) (rSame X.K false) := by
  intro pins s σ H x y v u Q I rx ry h
  obtain ⟨a, b, ws, rfl, rfl, ha, hb, q⟩ := h
  obtain rfl : v = Value.ref a := rx
  obtain rfl : u = Value.ref b := ry
  obtain ⟨us, r1, p1, _⟩ := I.list ha
  obtain ⟨vs, r2, p2, _⟩ := I.list hb
  have hu2 : X.A.units < cLine := by omega
  have l1 := r1.length
  have l2 := r2.length
  rw [List.length_map] at l1 l2
  refine SeqAt.RcNeAt.lists (e := fun _ => true) p1.isList p2.isList (by simp; omega) hu2 (fun j h1 h2 => ?_) _ _ _ _ ?_
  · have lt : j < ws.length := by
      simp at h1
      omega
    have ej : (ws.map V.str)[j]? = some (V.str ws[j]) := by
      rw [List.getElem?_map, List.getElem?_eq_getElem lt]
      rfl
    obtain ⟨w1, e1, q1⟩ := r1.get ej
    obtain ⟨w2, e2, q2⟩ := r2.get ej
    have g1 : us.toArray[j] = w1 := by simpa using (List.getElem?_eq_some_iff.mp e1).2
    have g2 : vs.toArray[j] = w2 := by simpa using (List.getElem?_eq_some_iff.mp e2).2
    rw [g1, g2]
    exact eqAt_same q1 q2 rfl
  · rw [show ((List.range us.toArray.size).all fun _ => true) = true from List.all_eq_true.mpr fun _ _ => rfl]
    exact ⟨.bl false, H, I, rfl, q⟩
end
section
variable {K : PySem.W.Frag} {σ : L2.St} {H H' : Hp} {ta tb te : TE} {t u : TT} {x y z v : V} {D : Ends} {tu tw tz : TS} {R : V → Hp → Prop}
theorem ev_neSame {a b : Addr} {ws : List Str} (ha : Ev ta σ H (.ref a)) (hb : Ev tb σ H (.ref b)) (h1 : SqL K H a (ws.map V.str)) (h2 : SqL K H b (ws.map V.str)) :
    Ev (tOp (rSame K false) ta tb) σ H (.bl false) := ev_op ha hb fun H1 e Q q => ⟨a, b, ws, rfl, rfl, ex_l e h1, ex_l e h2, q H1 (Ex.refl H1)⟩
theorem ev_pair {k : Bool} {a : Addr} {x1 x2 y1 y2 : V} {n : Nat} (ha : Ev ta σ H (.ref a)) (h1 : SqT K H a [x1, x2]) (hb : EvU tb σ H [y1, y2]) (hn : n ≤ 50)
    (e1 : ∀ H1, Ex H H1 → EqV K H1 n x1 y1) (e2 : ∀ H1, Ex H H1 → EqV K H1 n x2 y2) : Ev (tOp (rPair K k) ta tb) σ H (.bl k) :=
  ev_opU ha hb fun p H1 hp e H2 e3 Q q => ⟨a, p, x1, x2, y1, y2, n, rfl, rfl, ex_t (e.trans e3) h1, st_of (e3 p _ hp), hn, e1 H2 (e.trans e3), e2 H2 (e.trans e3), q H2 (Ex.refl H2)⟩
theorem texts_eq {n : Nat} : ∀ ws : List Str, Paired (EqV K H (n + 1)) (ws.map V.str) (ws.map V.str)
  | [] => .nil
  | a :: r => .cons (.inl ⟨rfl, rfl⟩) (texts_eq r)
theorem refs_eq : ∀ {cs ls : List (Addr × List Str)}, cs.map (·.2) = ls.map (·.2) → LotAt H cs → LotAt H ls →
    Paired (EqV K H 2) (cs.map fun p => V.ref p.1) (ls.map fun p => V.ref p.1)
  | [], [], _, _, _ => .nil
  | [], _ :: _, h, _, _ => nomatch h
  | _ :: _, [], h, _, _ => nomatch h
  | c :: cs, l :: ls, h, hc, hl => by
    obtain ⟨h1, h2⟩ := List.cons.inj h
    refine .cons (.inr (.inr (.inl ⟨c.1, l.1, c.2.map V.str, l.2.map V.str, rfl, rfl, sq_of (hc c List.mem_cons_self), sq_of (hl l List.mem_cons_self), ?_⟩))) (refs_eq h2 (fun p m => hc p (List.mem_cons_of_mem _ m)) fun p m => hl p (List.mem_cons_of_mem _ m))
    rw [show c.2 = l.2 from h1]
    exact texts_eq _
theorem lot_eq {p q : Addr} {cs ls : List (Addr × List Str)} (hp : H p = some (.lst (cs.map fun p => V.ref p.1))) (hq : H q = some (.lst (ls.map fun p => V.ref p.1)))
    (he : cs.map (·.2) = ls.map (·.2)) (hc : LotAt H cs) (hl : LotAt H ls) : EqV K H 3 (.ref p) (.ref q) :=
  .inr (.inr (.inl ⟨p, q, _, _, rfl, rfl, sq_of hp, sq_of hq, refs_eq he hc hl⟩))
theorem dict_eq {p q : Addr} {kvs : List (Key × V)} (hp : H p = some (.dK kvs)) (hq : H q = some (.dK kvs)) (nd : (kvs.map (·.1)).Nodup) (hi : IntD kvs) : EqV K H 3 (.ref p) (.ref q) :=
  .inr (.inr (.inr ⟨p, q, kvs, kvs, rfl, rfl, hp, hq, rfl, fun kv m => ⟨kv.2, val_nodup nd kv m, .inl ⟨rfl, by
    obtain ⟨z, e⟩ := hi kv m
    rw [e]
    rfl⟩⟩⟩))
theorem putK_nd {kvs : List (Key × V)} (h : (kvs.map (·.1)).Nodup) (k : Key) (v : V) : ((putK kvs k v).map (·.1)).Nodup := by
  unfold putK
  split
  · rw [List.map_map]
    have e : kvs.map ((fun x : Key × V => x.1) ∘ fun kv => if kv.1 = k then (kv.1, v) else kv) = kvs.map (·.1) := by
      apply List.map_congr_left
      intro kv _
      show (if kv.1 = k then (kv.1, v) else kv).1 = kv.1
      split <;> rfl
    rw [e]
    exact h
  · rename_i hn
    rw [List.map_append]
    refine List.nodup_append.mpr ⟨h, by simp, fun a ha b hb z => hn ?_⟩
    obtain ⟨kv, m, rfl⟩ := List.mem_map.mp ha
    have hb' : b = k := by simpa using hb
    exact List.any_eq_true.mpr ⟨kv, m, decide_eq_true (z.trans hb')⟩
/-- a pair of two new things -/
theorem evx_tup2 {R1 : V → Hp → Prop} {R2' : V → V → Hp → Prop} (h1 : EvX ta σ H R1) (h2 : ∀ v1 H1, Ex H H1 → R1 v1 H1 → EvX tb σ H1 (R2' v1)) :
    EvX (tTup (tCons ta (tCons tb tNil))) σ H (fun v H' => ∃ (p : Addr) (v1 v2 : V), v = .ref p ∧ H p = none ∧ H' p = some (.tup [v1, v2]) ∧ ∃ H1 H2, Ex H H1 ∧ R1 v1 H1 ∧ Ex H1 H2 ∧ R2' v1 v2 H2 ∧ Ex H2 H') := fun H0 e Q q =>
  h1 H0 e _ fun v1 H1 e1 r1 => h2 v1 H1 (e.trans e1) r1 H1 (Ex.refl H1) _ fun v2 H2 e2 r2 => ⟨sz_of (by simp), fun p hp =>
    q (.ref p) _ ((e1.trans e2).trans (Ex.new hp)) ⟨p, v1, v2, rfl, fresh_back ((e.trans e1).trans e2) hp, upd_same, H1, H2, e.trans e1, r1, e2, r2, Ex.new hp⟩⟩
/-- .. [0].append(None), of something new -/
theorem q_appNew {l : Addr → List V → Prop} (h : EvX ta σ H (fun v H' => ∃ (p : Addr) (xs : List V), v = .ref p ∧ H p = none ∧ H' p = some (.lst xs) ∧ xs.length ≤ 90000)) (hv : ∀ H1, Ex H H1 → Ev te σ H1 v)
    (k : ∀ H1, Ex H H1 → tz D σ H1) : tSeq (tDrop (tBM K "list" rAppend ta (tCons te tNil))) tz D σ H := by
  refine h H (Ex.refl H) _ fun w H1 e1 r => ?_
  obtain ⟨p, xs, rfl, hp, h1, hz⟩ := r
  refine ⟨.inl ⟨rfl, xs, sq_of h1⟩, ?_⟩
  refine hv H1 e1 H1 (Ex.refl H1) _ fun H2 e2 => ?_
  exact ⟨p, xs, _, rfl, rfl, e2 p _ h1, sz_lt (by omega), k _ (Ex.mut (e1.trans e2) hp)⟩
theorem evx_sorted {xs : List Str} (h : EvL te σ H (xs.map V.str)) (hz : xs.length < 64) : EvX (tCB (rSortedS K) (tCons te tNil)) σ H
    (fun v H' => ∃ (p : Addr) (ys : List Str), v = .ref p ∧ H p = none ∧ TxL H' p ys ∧ ys.Perm xs ∧ sortedS ys = true) := fun H0 e Q q =>
  h H0 e _ fun a H1 ha e1 h1 => ⟨a, xs, rfl, sq_of h1, hz, fun ys p pe so hp => q _ _ (e1.trans (Ex.new hp)) ⟨p, ys, rfl, fresh_back (e.trans e1) hp, upd_same, pe, so⟩⟩
theorem ev_callN {Dd : Hp → List V → V → Prop} {E : XK} {tr : TA} {vs xs : List V} (h : EvL te σ H xs) (hr : EvA tr σ H vs) (hs : ∀ p H1, Ex H H1 → H1 p = some (.lst xs) → Dd H1 (.ref p :: vs) v) : Ev (tCall (SpVal Dd) [] E (tCons te tr)) σ H v := fun H1 e Q q =>
  h H1 e _ fun p H2 _ e2 hp => hr H2 (e.trans e2) _ fun H3 e3 => ⟨v, by rw [List.append_nil]; exact hs p H3 ((e.trans e2).trans e3) (e3 p _ hp), fun H4 e4 => q H4 ((e2.trans e3).trans e4)⟩
theorem ev_lenS {a : Str} {r : List V → Hp → VK → Prop} (ha : Ev ta σ H (.str a)) (hz : a.length ≤ 100000) (hr : r = (fun xs H Q => ∃ x, xs = [V.str x] ∧ x.length ≤ sizeLine ∧ Q (.int x.length) H) := by rfl) : Ev (tCB r (tCons ta tNil)) σ H (.int (a.length : Int)) := by
  subst hr
  exact fun H1 e Q q => ha H1 e _ fun H2 e2 => ⟨a, rfl, sz_of hz, q H2 e2⟩
/-- words and their weights -/
def WD (Pw : Str → Prop) (kvs : List (Key × V)) : Prop := ∀ kv ∈ kvs, ∃ u z, kv = (.inr u, .int z) ∧ Pw u ∧ 1 ≤ z ∧ z ≤ 1000000
theorem WD.int {Pw : Str → Prop} {kvs : List (Key × V)} (h : WD Pw kvs) : IntD kvs := fun kv m => by
  obtain ⟨u, z, rfl, _⟩ := h kv m
  exact ⟨z, rfl⟩
theorem lock_back {d : Addr} {o u : HO} (hd : H d = some o) (e : Ex (upd H d u) H') : Ex H (upd H' d o) := fun a x hx => by
  by_cases z : a = d
  · subst z
    rw [hd] at hx
    rw [upd_same]
    exact hx
  · rw [upd_ne z]
    exact e a x ((upd_ne z).trans hx)
/-- for k, v in d.items(), d locked -/
theorem s_forItems {td : TE} {d : Addr} {kvs : List (Key × V)} {i j : Nat} (hd : H d = some (.dK kvs)) (h : ∀ H1, Ev td σ H1 (.ref d)) (Pv : Nat → L2.St → Hp → Prop)
    (h0 : ∀ od H1, Ex (upd H d (.frz od (.dK kvs))) H1 → Pv 0 σ H1) (hl : ∀ od n σ' H', n ≤ kvs.length → Pv n σ' H' → Ex (upd H d (.frz od (.dK kvs))) H' → True)
    (hs : ∀ od n k x σ' H' H2, kvs[n]? = some (k, x) → Pv n σ' H' → Ex (upd H d (.frz od (.dK kvs))) H' → Ex H' H2 →
      tu { D with nx := fun σ3 H3 => Pv (n + 1) σ3 H3 ∧ Ex (upd H d (.frz od (.dK kvs))) H3, ct := fun σ3 H3 => Pv (n + 1) σ3 H3 ∧ Ex (upd H d (.frz od (.dK kvs))) H3, bk := fun σ' H' => H' d = some (.frz od (.dK kvs)) ∧ D.nx σ' (upd H' d (.dK kvs)), rt := fun v H' => H' d = some (.frz od (.dK kvs)) ∧ D.rt v (upd H' d (.dK kvs)) } ((σ'.set i (some (kV k))).set j (some x)) H2)
    (hdn : ∀ σ' H', Pv kvs.length σ' H' → Ex H (upd H' d (.dK kvs)) → D.nx σ' (upd H' d (.dK kvs))) :
    tLock (tFor (iItems td) (gTup K 2 (gCons (gName i) (gCons (gName j) gNil))) tu) D σ H := by
  refine ⟨d, .dK kvs, hd, True.intro, fun od => ?_⟩
  refine h _ _ (Ex.refl _) _ fun H1 e1 => ⟨d, od, kvs, rfl, e1 d _ upd_same, ?_⟩
  refine ⟨fun n m σ' H' => m = kvs.length - n ∧ n ≤ kvs.length ∧ Pv n σ' H' ∧ Ex (upd H d (.frz od (.dK kvs))) H', ⟨kvs.length, rfl, Nat.zero_le _, h0 od H1 e1, e1⟩, ?_⟩
  rintro n m σ' H' ⟨rfl, hn, p, e⟩
  have q := e d _ upd_same
  by_cases lt : n < kvs.length
  · refine .inr ⟨⟨q, lt⟩, fun σ3 H3 => Pv (n + 1) σ3 H3 ∧ Ex (upd H d (.frz od (.dK kvs))) H3, fun σ2 H2 p2 => ⟨kvs.length - (n + 1), by omega, rfl, lt, p2.1, p2.2⟩, fun x H2 y => ?_⟩
    obtain ⟨T, k, v, hk, rfl, hT, rfl⟩ := y
    exact ⟨T, [kV k, v], rfl, st_of upd_same, rfl, kV k, [v], rfl, v, [], rfl, rfl, hs od n k v σ' H' _ hk p e (Ex.new hT)⟩
  · have e2 : n = kvs.length := by omega
    subst e2
    exact .inl ⟨⟨q, Nat.le_refl _⟩, q, hdn σ' H' p (lock_back hd e)⟩
end
end MuK

namespace MuK
open PySem PySem.Spec PyProof.Rows L2 Evl
/-! ### words -/
def signsS : Str := "abcdefghijklmnopqrstuvwxyz0123456789."
def sgn (z : Int) : Nat := signsS.cps.toList.getD (z % 37).toNat 0
theorem signs_len : signsS.cps.toList.length = 37 := by decide +kernel
theorem signs_nd : signsS.cps.toList.Nodup := by decide +kernel
theorem sgn_inj {x y : Int} (h : sgn x = sgn y) : x % 37 = y % 37 := by
  have hx : (x % 37).toNat < 37 := by omega
  have hy : (y % 37).toNat < 37 := by omega
  unfold sgn at h
  rw [List.getD_eq_getElem?_getD, List.getD_eq_getElem?_getD, List.getElem?_eq_getElem (by rw [signs_len]; exact hx), List.getElem?_eq_getElem (by rw [signs_len]; exact hy)] at h
  have := (List.getElem_inj signs_nd).mp (show signsS.cps.toList[(x % 37).toNat]'(by rw [signs_len]; exact hx) = signsS.cps.toList[(y % 37).toNat]'(by rw [signs_len]; exact hy) from h)
  omega
theorem sgn_at (z : Int) : atI signsS.cps.toList (z % 37) = some (sgn z) := atI_mod (m := 37) 0 signs_len (by decide)
theorem sgn_in (z : Int) : sgn z ∈ signsS.cps.toList := by
  have h : (z % 37).toNat < signsS.cps.toList.length := by
    rw [signs_len]
    omega
  unfold sgn
  rw [List.getD_eq_getElem?_getD, List.getElem?_eq_getElem h]
  exact List.getElem_mem h
def WordOk (w : Str) : Prop := 1 ≤ w.length ∧ w.length ≤ 30 ∧ ∀ c ∈ w.cps.toList, c ∈ signsS.cps.toList
def TailOk (w : Str) : Prop := w.length ≤ 29 ∧ ∀ c ∈ w.cps.toList, c ∈ signsS.cps.toList
instance (w : Str) : Decidable (TailOk w) := inferInstanceAs (Decidable (_ ∧ _))
instance (w : Str) : Decidable (WordOk w) := inferInstanceAs (Decidable (_ ∧ _ ∧ _))
theorem tail_of {w : Str} {l : List Nat} (hz : l.length ≤ 29) (h : ∀ c ∈ l, c ∈ signsS.cps.toList) (e : w.cps.toList = l := by rfl) : TailOk w := by
  refine ⟨?_, fun c m => h c (e ▸ m)⟩
  show w.cps.size ≤ 29
  rw [← Array.length_toList, e]
  exact hz
theorem word_ok {c : Nat} {t : Str} (hc : c ∈ signsS.cps.toList) (h : TailOk t) : WordOk ((⟨#[c]⟩ : Str) ++ t) := by
  have e : ((⟨#[c]⟩ : Str) ++ t).cps.toList = c :: t.cps.toList := by
    show ((#[c] : Array Nat) ++ t.cps).toList = _
    simp
  have z : ((⟨#[c]⟩ : Str) ++ t).length = t.length + 1 := by
    show ((⟨#[c]⟩ : Str) ++ t).cps.size = t.cps.size + 1
    rw [← Array.length_toList, e, List.length_cons, Array.length_toList]
  refine ⟨by omega, by have := h.1; omega, fun x m => ?_⟩
  rw [e] at m
  rcases List.mem_cons.mp m with y | y
  · exact y ▸ hc
  · exact h.2 x y
theorem word_all {w : Str} (h : WordOk w) : (w.cps.toList.all fun c => decide (c ∈ signsS.cps.toList)) = true := List.all_eq_true.mpr fun c m => decide_eq_true (h.2.2 c m)
end MuK

namespace MuK
open PySem PySem.Spec PyProof.Rows L2 Evl
/-! ### what sets weigh -/
theorem wOf_bd {Pw : Str → Prop} {kvs : List (Key × V)} (h : WD Pw kvs) (a : Str) : 1 ≤ wOf kvs a ∧ wOf kvs a ≤ 1000000 := by
  unfold wOf
  cases e : valV kvs (.inr a) with
  | none => exact ⟨by decide, by decide⟩
  | some u =>
    unfold valV at e
    cases f : kvs.find? fun kv => decide (kv.1 = Sum.inr a) with
    | none =>
      rw [f] at e
      exact nomatch e
    | some kv =>
      rw [f] at e
      obtain ⟨x, z, rfl, _, z1, z2⟩ := h kv (List.mem_of_find?_eq_some f)
      obtain rfl : V.int z = u := Option.some.inj e
      exact ⟨z1, z2⟩
theorem heavy_bd {Pw : Str → Prop} {kvs : List (Key × V)} (h : WD Pw kvs) : ∀ ws : List Str, 0 ≤ heavy kvs ws ∧ heavy kvs ws ≤ 1000000 * ws.length
  | [] => ⟨Int.le_refl 0, by show (0 : Int) ≤ 1000000 * ((0 : Nat) : Int); decide⟩
  | a :: r => by
    have ih := heavy_bd h r
    have b := wOf_bd h a
    have e : heavy kvs (a :: r) = wOf kvs a + heavy kvs r := rfl
    rw [e, List.length_cons]
    omega
theorem heavy_sub {Pw : Str → Prop} {kvs : List (Key × V)} (h : WD Pw kvs) {us ws : List Str} (s : us.Sublist ws) : heavy kvs us ≤ heavy kvs ws := by
  induction s with
  | slnil => exact Int.le_refl _
  | cons a _ ih =>
    have b := wOf_bd h a
    show _ ≤ wOf kvs a + heavy kvs _
    omega
  | cons_cons a _ ih =>
    show wOf kvs a + heavy kvs _ ≤ wOf kvs a + heavy kvs _
    omega
theorem heavy_perm {kvs : List (Key × V)} {us ws : List Str} (p : us.Perm ws) : heavy kvs us = heavy kvs ws := by
  induction p with
  | nil => rfl
  | cons a _ ih =>
    show wOf kvs a + heavy kvs _ = wOf kvs a + heavy kvs _
    rw [ih]
  | swap a b l =>
    show wOf kvs b + (wOf kvs a + heavy kvs l) = wOf kvs a + (wOf kvs b + heavy kvs l)
    omega
  | trans _ _ i1 i2 => exact i1.trans i2
theorem heavy_le {Pw : Str → Prop} {kvs : List (Key × V)} (h : WD Pw kvs) : ∀ {us ws : List Str}, us.Nodup → (∀ u ∈ us, u ∈ ws) → heavy kvs us ≤ heavy kvs ws
  | [], ws, _, _ => (heavy_bd h ws).1
  | a :: r, ws, nd, s => by
    obtain ⟨n1, n2⟩ := List.nodup_cons.mp nd
    have pm := heavy_perm (kvs := kvs) (List.perm_cons_erase (s a List.mem_cons_self))
    have ih := heavy_le h (us := r) (ws := ws.erase a) n2 fun u hu => by
      have ne : u ≠ a := fun z => n1 (z ▸ hu)
      exact (List.mem_erase_of_ne ne).mpr (s u (List.mem_cons_of_mem _ hu))
    have e1 : heavy kvs (a :: r) = wOf kvs a + heavy kvs r := rfl
    have e2 : heavy kvs (a :: ws.erase a) = wOf kvs a + heavy kvs (ws.erase a) := rfl
    omega
theorem sok_of {Pw : Str → Prop} {kvs : List (Key × V)} (h : WD Pw kvs) {la lb : List Str} (na : la.Nodup) (za : la.length ≤ 60) (zb : lb.length ≤ 60) :
    SOk (heavy kvs la) (heavy kvs lb) (heavy kvs (la.filter fun u => decide (u ∈ lb))) := by
  have b1 := heavy_bd h la
  have b2 := heavy_bd h lb
  have b3 := heavy_bd h (la.filter fun u => decide (u ∈ lb))
  have l1 := heavy_sub h (List.filter_sublist (l := la) (p := fun u => decide (u ∈ lb)))
  have l2 := heavy_le h (us := la.filter fun u => decide (u ∈ lb)) (ws := lb) (na.filter _) fun u hu => of_decide_eq_true (List.mem_filter.mp hu).2
  have p : (60000000 : Int) ≤ 2 ^ 200 := by decide +kernel
  exact ⟨⟨b1.1, by omega, b2.1, by omega, b3.1, by omega⟩, l1, l2⟩
section
variable {K : PySem.W.Frag} {σ : L2.St} {H H' : Hp} {ta tb te : TE} {t u : TT} {x y z v : V} {D : Ends} {tu tw tz : TS} {R : V → Hp → Prop}
theorem q_unpX {i j : Nat} {R2 : V → V → Hp → Prop} (h : EvX te σ H (fun v H' => ∃ (t : Addr) (x y : V), v = .ref t ∧ SqT K H' t [x, y] ∧ R2 x y H'))
    (k : ∀ x y H1, Ex H H1 → R2 x y H1 → tz D ((σ.set i (some x)).set j (some y)) H1) : tSeq (tAsg te (gTup K 2 (gCons (gName i) (gCons (gName j) gNil)))) tz D σ H :=
  h H (Ex.refl H) _ fun v H1 e r => by
    obtain ⟨t, x, y, rfl, hq, r⟩ := r
    exact ⟨t, [x, y], rfl, hq, rfl, x, [y], rfl, y, [], rfl, rfl, k x y H1 e r⟩
end
end MuK

namespace MuK
open PySem PySem.Spec PyProof.Rows L2 Evl
/-! ### pairs of sets so much alike -/
/-- the pairs of the sets us that are so much alike, told from place i on, j on -/
def shareW (kd : Str) (kvs : List (Key × V)) (la lb : List Str) : Int × Int := shareM kd (heavy kvs la) (heavy kvs lb) (heavy kvs (la.filter fun u => decide (u ∈ lb)))
/-- a told pair stands at p -/
def PairAt (H : Hp) (p : Addr) (i j : Nat) (s : Int × Int) : Prop := ∃ q : Addr, H p = some (.tup [.int i, .int j, .ref q]) ∧ H q = some (.tup [.int s.1, .int s.2])
theorem PairAt.later {H H' : Hp} {p : Addr} {i j : Nat} {s : Int × Int} (h : PairAt H p i j s) (e : Ex H H') : PairAt H' p i j s := by
  obtain ⟨q, h1, h2⟩ := h
  exact ⟨q, e _ _ h1, e _ _ h2⟩
def reachB (s l : Int × Int) : Bool := decide (l.1 * s.2 ≤ s.1 * l.2)
/-- of row i, the places below m -/
def rowUp (kd : Str) (l : Int × Int) (kvs : List (Key × V)) (us : List (List Str)) (i m : Nat) : List (Nat × Nat) :=
  ((List.range m).filter fun j => decide (i < j) && reachB (shareW kd kvs (us.getD i []) (us.getD j [])) l).map fun j => (i, j)
/-- rows below n -/
def pairsUp (kd : Str) (l : Int × Int) (kvs : List (Key × V)) (us : List (List Str)) (n : Nat) : List (Nat × Nat) :=
  (List.range n).flatMap fun i => rowUp kd l kvs us i us.length
theorem rowUp_succ (kd : Str) (l : Int × Int) (kvs : List (Key × V)) (us : List (List Str)) (i m : Nat) :
    rowUp kd l kvs us i (m + 1) = rowUp kd l kvs us i m ++ (if (decide (i < m) && reachB (shareW kd kvs (us.getD i []) (us.getD m [])) l) = true then [(i, m)] else []) := by
  unfold rowUp
  rw [List.range_succ, List.filter_append, List.map_append, List.filter_cons]
  split <;> rfl
theorem rowUp_low (kd : Str) (l : Int × Int) (kvs : List (Key × V)) (us : List (List Str)) (i : Nat) : ∀ m, m ≤ i + 1 → rowUp kd l kvs us i m = []
  | 0, _ => rfl
  | m + 1, h => by
    rw [rowUp_succ, rowUp_low kd l kvs us i m (by omega), decide_eq_false (by omega)]
    rfl
theorem pairsUp_succ (kd : Str) (l : Int × Int) (kvs : List (Key × V)) (us : List (List Str)) (n : Nat) : pairsUp kd l kvs us (n + 1) = pairsUp kd l kvs us n ++ rowUp kd l kvs us n us.length := by
  unfold pairsUp
  rw [List.range_succ, List.flatMap_append]
  simp
theorem PairAt.stay {H : Hp} {l p : Addr} {xs : List V} {o : HO} {i j : Nat} {s : Int × Int} (hl : H l = some (.lst xs)) (h : PairAt H p i j s) : PairAt (upd H l o) p i j s := by
  obtain ⟨q, h1, h2⟩ := h
  have n1 : p ≠ l := fun z => by
    rw [z, hl] at h1
    exact nomatch h1
  have n2 : q ≠ l := fun z => by
    rw [z, hl] at h2
    exact nomatch h2
  exact ⟨q, (upd_ne n1).trans h1, (upd_ne n2).trans h2⟩
/-- the told pairs at p -/
def PairsAt (kd : Str) (l : Int × Int) (kvs : List (Key × V)) (us : List (List Str)) (ix : List (Nat × Nat)) (p : Addr) (H : Hp) : Prop :=
  ∃ tr : List (Addr × Nat × Nat), H p = some (.lst (tr.map fun x => V.ref x.1)) ∧ tr.map (·.2) = ix ∧ ∀ x ∈ tr, PairAt H x.1 x.2.1 x.2.2 (shareW kd kvs (us.getD x.2.1 []) (us.getD x.2.2 []))
theorem PairsAt.later {kd : Str} {l : Int × Int} {kvs : List (Key × V)} {us : List (List Str)} {ix : List (Nat × Nat)} {p : Addr} {H H' : Hp} (h : PairsAt kd l kvs us ix p H) (e : Ex H H') : PairsAt kd l kvs us ix p H' := by
  obtain ⟨tr, h1, h2, h3⟩ := h
  exact ⟨tr, e _ _ h1, h2, fun x m => (h3 x m).later e⟩
theorem PairsAt.add {kd : Str} {l : Int × Int} {kvs : List (Key × V)} {us : List (List Str)} {p a : Addr} {H : Hp} {i j : Nat} {tr : List (Addr × Nat × Nat)}
    (h1 : H p = some (.lst (tr.map fun x => V.ref x.1))) (h3 : ∀ x ∈ tr, PairAt H x.1 x.2.1 x.2.2 (shareW kd kvs (us.getD x.2.1 []) (us.getD x.2.2 [])))
    (ha : PairAt H a i j (shareW kd kvs (us.getD i []) (us.getD j []))) : PairsAt kd l kvs us (tr.map (·.2) ++ [(i, j)]) p (upd H p (.lst ((tr.map fun x => V.ref x.1) ++ [.ref a]))) := by
  refine ⟨tr ++ [(a, i, j)], ?_, ?_, fun x m => ?_⟩
  · rw [upd_same, List.map_append]
    rfl
  · rw [List.map_append]
    rfl
  · rcases List.mem_append.mp m with m | m
    · exact (h3 x m).stay h1
    · obtain rfl := List.mem_singleton.mp m
      exact ha.stay h1
theorem rowUp_len (kd : Str) (l : Int × Int) (kvs : List (Key × V)) (us : List (List Str)) (i m : Nat) : (rowUp kd l kvs us i m).length ≤ m := by
  unfold rowUp
  rw [List.length_map]
  have := List.length_filter_le (fun j => decide (i < j) && reachB (shareW kd kvs (us.getD i []) (us.getD j [])) l) (List.range m)
  rwa [List.length_range] at this
theorem pairsUp_len (kd : Str) (l : Int × Int) (kvs : List (Key × V)) (us : List (List Str)) : ∀ n, (pairsUp kd l kvs us n).length ≤ n * us.length
  | 0 => by simp [pairsUp]
  | n + 1 => by
    rw [pairsUp_succ, List.length_append, Nat.succ_mul]
    have := pairsUp_len kd l kvs us n
    have := rowUp_len kd l kvs us n us.length
    omega
theorem share_bd (kd : Str) {a b c : Int} (h : SOk a b c) : 0 ≤ (shareM kd a b c).1 ∧ (shareM kd a b c).1 ≤ 2 ^ 402 ∧ 0 ≤ (shareM kd a b c).2 ∧ (shareM kd a b c).2 ≤ 2 ^ 402 := by
  have fb := frac_bd kd h.f
  have p : (1 : Int) ≤ 2 ^ 402 := by decide +kernel
  unfold shareM
  split
  · exact ⟨Int.le_refl 0, by show (0 : Int) ≤ 2 ^ 402; omega, by decide, p⟩
  · have g0 : 0 ≤ gcdI (frac kd a b c).1 (frac kd a b c).2 := Int.natCast_nonneg _
    refine ⟨Int.ediv_nonneg fb.1 g0, Int.le_trans (Int.ediv_le_self _ fb.1) fb.2.1, Int.ediv_nonneg fb.2.2.1 g0, Int.le_trans (Int.ediv_le_self _ fb.2.2.1) fb.2.2.2⟩
/-- what both have, in the first one's turn -/
theorem both_is {cs os : List Str} : given cs.length (fun i => decide (cs.getD i "" ∈ os)) (fun i => .str (cs.getD i "")) = (cs.filter fun u => decide (u ∈ os)).map V.str := by
  have e : (List.range cs.length).map (fun i => cs.getD i "") = cs := by
    apply List.ext_getElem
    · simp
    · intro i h1 h2
      simp [List.getD_eq_getElem?_getD, h2]
  have f : ((List.range cs.length).filter fun i => decide (cs.getD i "" ∈ os)).map (fun i => cs.getD i "") = cs.filter fun u => decide (u ∈ os) := by
    conv => rhs; rw [← e]
    rw [List.filter_map]
    rfl
  unfold given
  rw [← f, List.map_map]
  rfl
theorem given_mapS (ws : List Str) (f : Str → Int) : given ws.length (fun _ => true) (fun i => .int (f (ws.getD i ""))) = (ws.map f).map V.int := by
  unfold given
  rw [List.filter_eq_self.mpr (fun _ _ => rfl)]
  apply List.ext_getElem
  · simp
  · intro i h1 h2
    simp at h1
    simp [List.getD_eq_getElem?_getD, h1]
section
variable {K : PySem.W.Frag} {σ : L2.St} {H H' : Hp} {ta tb te : TE}
theorem ev_sumL {ns : List Int} (h : EvL te σ H (ns.map V.int)) : Ev (tCB (rSum K) (tCons te tNil)) σ H (.int ns.sum) := fun H1 e Q q =>
  h H1 e _ fun p H2 _ e2 hp => ⟨p, ns, rfl, sq_of hp, q H2 e2⟩
end
/-- the told pairs as data -/
def pairD (kd : Str) (kvs : List (Key × V)) (us : List (List Str)) (x : Nat × Nat) : PyData := .tuple [.int x.1, .int x.2, .tuple [.int (shareW kd kvs (us.getD x.1 []) (us.getD x.2 [])).1, .int (shareW kd kvs (us.getD x.1 []) (us.getD x.2 [])).2]]
theorem pairs_lay (kd : Str) (kvs : List (Key × V)) (us : List (List Str)) : ∀ ix : List (Nat × Nat), PyData.canLayAll0 (ix.map (pairD kd kvs us)) = true ∧ PyData.depthAll (ix.map (pairD kd kvs us)) ≤ 2
  | [] => ⟨rfl, by show 0 ≤ 2; decide⟩
  | x :: r => by
    have ih := pairs_lay kd kvs us r
    have e1 : (pairD kd kvs us x).canLay0 = true := by simp [pairD, PyData.canLay0, PyData.canLayAll0]
    have e2 : (pairD kd kvs us x).depth = 2 := by simp [pairD, PyData.depth, PyData.depthAll]
    refine ⟨?_, ?_⟩
    · show PyData.canLayAll0 (pairD kd kvs us x :: r.map (pairD kd kvs us)) = true
      rw [PyData.canLayAll0, e1, ih.1]
      rfl
    · show PyData.depthAll (pairD kd kvs us x :: r.map (pairD kd kvs us)) ≤ 2
      rw [PyData.depthAll, e2]
      omega
theorem pairs_shaped (kd : Str) (kvs : List (Key × V)) (us : List (List Str)) (ix : List (Nat × Nat)) : SeqAt.shaped (.list (ix.map (pairD kd kvs us))) = true ∧ (PyData.list (ix.map (pairD kd kvs us))).canLay0 = true := by
  have h := pairs_lay kd kvs us ix
  have e : (PyData.list (ix.map (pairD kd kvs us))).canLay0 = true := by
    rw [PyData.canLay0]
    exact h.1
  refine ⟨?_, e⟩
  unfold SeqAt.shaped
  rw [e, PyData.depth]
  simp
  omega
theorem pairs_dp {K : PySem.W.Frag} {kd : Str} {l : Int × Int} {kvs : List (Key × V)} {us : List (List Str)} {ix : List (Nat × Nat)} {p : Addr} {H : Hp} (h : PairsAt kd l kvs us ix p H) : Dp K H (.ref p) (.list (ix.map (pairD kd kvs us))) := by
  obtain ⟨tr, h1, h2, h3⟩ := h
  refine .lst (sq_of h1) ?_
  rw [← h2]
  clear h1 h2
  induction tr with
  | nil => exact .nil
  | cons x r ih =>
    obtain ⟨q, a, b⟩ := h3 x List.mem_cons_self
    refine .cons (.tup (st_of a) (.cons (.int _) (.cons (.int _) (.cons (.tup (st_of b) (.cons (.int _) (.cons (.int _) .nil))) .nil)))) (ih fun y m => h3 y (List.mem_cons_of_mem _ m))
theorem ev_nePairs {K : PySem.W.Frag} {σ : L2.St} {H : Hp} {ta tb : TE} {kd : Str} {l : Int × Int} {kvs : List (Key × V)} {us : List (List Str)} {ix : List (Nat × Nat)} {R : V → Hp → Prop} {q : Addr}
    (ha : EvX ta σ H (fun v H' => ∃ p, v = .ref p ∧ PairsAt kd l kvs us ix p H')) (hb : ∀ H1, Ex H H1 → Ev tb σ H1 (.ref q)) (hq : PairsAt kd l kvs us ix q H) : Ev (tOp (rNeD K) ta tb) σ H (.bl false) := fun H1 e Q k =>
  ha H1 e _ fun v H2 e2 r => by
    obtain ⟨p, rfl, hp⟩ := r
    refine hb H2 (e.trans e2) H2 (Ex.refl H2) _ fun H3 e3 => ⟨_, _, pairs_dp (hp.later e3), pairs_dp (hq.later ((e.trans e2).trans e3)), (pairs_shaped kd kvs us ix).1, (pairs_shaped kd kvs us ix).1, ?_⟩
    rw [SeqAt.eqv_refl _ (pairs_shaped kd kvs us ix).2]
    exact k H3 (e2.trans e3)
theorem ev_neNilN {K : PySem.W.Frag} {σ : L2.St} {H : Hp} {ta tb : TE} {xs : List V} (ha : EvL ta σ H xs) (hb : EvL tb σ H []) : Ev (tOp (rNil K false) ta tb) σ H (.bl (!xs.isEmpty)) := fun H1 e Q q =>
  ha H1 e _ fun a H2 _ e2 h2 => hb H2 (e.trans e2) _ fun p H3 hp e3 h3 => ⟨a, p, xs, rfl, rfl, sq_of (e3 a _ h2), sq_of h3, by
    have z : (false == xs.isEmpty) = !xs.isEmpty := by cases xs.isEmpty <;> rfl
    rw [z]
    exact q H3 (e2.trans e3)⟩
section
variable {K : PySem.W.Frag} {σ : L2.St} {H H' : Hp} {ta tb tc td te : TE} {v v1 v2 v4 : V} {R R' : V → Hp → Prop}
theorem el_rep {xs : List V} {k : Int} (ha : EvL ta σ H xs) (hb : Ev tb σ H (.int k)) (h0 : 0 ≤ k) (h1 : k ≤ 1) (hz : xs.length ≤ 100000) : EvL (tOp rRep ta tb) σ H (List.replicate k.toNat xs).flatten := fun H1 e Q q =>
  ha H1 e _ fun p H2 hp e2 h2 => hb H2 (e.trans e2) _ fun H3 e3 => ⟨p, k, xs, rfl, rfl, e3 p _ h2, by omega, by omega, by
    have : k.toNat ≤ 1 := by omega
    have := Nat.mul_le_mul (Nat.le_refl xs.length) this
    exact sz_of (by omega), fun l hl => q l _ (fresh_back (e2.trans e3) hl) ((e2.trans e3).trans (Ex.new hl)) upd_same⟩
theorem evx_call3 {Dd : Hp → List V → (V → Hp → Prop) → Prop} {E : XK} (ha : Ev ta σ H v1) (hb : Ev tb σ H v2) (hc : EvX tc σ H R) (hd : ∀ H1, Ex H H1 → Ev td σ H1 v4)
    (hs : ∀ v3 H1 H2, Ex H H1 → R v3 H1 → Ex H1 H2 → ∃ R1, Dd H2 [v1, v2, v3, v4] R1 ∧ ∀ v H3, Ex H2 H3 → R1 v H3 → R' v H3) :
    EvX (tCall (SpR Dd) [] E (tCons ta (tCons tb (tCons tc (tCons td tNil))))) σ H R' := fun H0 e Q q =>
  ha H0 e _ fun H1 e1 => hb H1 (e.trans e1) _ fun H2 e2 => hc H2 ((e.trans e1).trans e2) _ fun v3 H3 e3 r => hd H3 (((e.trans e1).trans e2).trans e3) H3 (Ex.refl H3) _ fun H4 e4 => by
    obtain ⟨R1, d, k⟩ := hs v3 H3 H4 (((e.trans e1).trans e2).trans e3) r e4
    exact ⟨R1, by rw [List.append_nil]; exact d, fun v H5 e5 r5 => q v H5 ((((e1.trans e2).trans e3).trans e4).trans e5) (k v H5 e5 r5)⟩
theorem ev_call2X {Dd : Hp → List V → V → Prop} {E : XK} (ha : Ev ta σ H v1) (hb : EvX tb σ H R) (hs : ∀ v2 H1, Ex H H1 → R v2 H1 → Dd H1 [v1, v2] v) : Ev (tCall (SpVal Dd) [] E (tCons ta (tCons tb tNil))) σ H v := fun H0 e Q q =>
  ha H0 e _ fun H1 e1 => hb H1 (e.trans e1) _ fun v2 H2 e2 r => ⟨v, by rw [List.append_nil]; exact hs v2 H2 ((e.trans e1).trans e2) r, fun H3 e3 => q H3 ((e1.trans e2).trans e3)⟩
end
/-- one place of a list, or none -/
theorem cut_one {α : Type} {f : α → V} {xs : List α} {k : Nat} : ∃ ys : List α, cutV (xs.map f) (some (k : Int)) (some ((k : Int) + 1)) = ys.map f ∧ ys.Sublist xs ∧ ys.length ≤ 1 := by
  have e : ((k : Int) + 1) = ((k + 1 : Nat) : Int) := by omega
  rw [e]
  unfold cutV
  refine ⟨(xs.drop (min k xs.length)).take (min (k + 1) xs.length - min k xs.length), ?_, (List.take_sublist _ _).trans (List.drop_sublist _ _), ?_⟩
  · rw [HT.sIx_nat, HT.sIx_nat, List.length_map, ← List.map_drop, ← List.map_take]
  · rw [List.length_take]
    omega
end MuK

namespace MuK
open PySem PySem.Spec PyProof.Rows L2 Evl
/-! ### a hair more than a share -/
def aboveM (x y : Int) : Int × Int := ((x * (10 ^ 19 / y) + 1) / gcdI (x * (10 ^ 19 / y) + 1) (y * (10 ^ 19 / y)), y * (10 ^ 19 / y) / gcdI (x * (10 ^ 19 / y) + 1) (y * (10 ^ 19 / y)))
theorem scale_bd {x y : Int} (x0 : 0 < x) (xy : x < y) (y1 : y ≤ 10 ^ 18) : 0 < (10 : Int) ^ 19 / y ∧ (10 : Int) ^ 19 / y ≤ 10 ^ 19 ∧ (0 < y * (10 ^ 19 / y) ∧ y * (10 ^ 19 / y) ≤ 10 ^ 19) ∧ (0 < x * (10 ^ 19 / y) + 1 ∧ x * (10 ^ 19 / y) + 1 ≤ y * (10 ^ 19 / y)) := by
  have p : (10 : Int) ^ 18 * 10 = 10 ^ 19 := by decide +kernel
  have y0 : 0 < y := by omega
  have h0 : 1 ≤ (10 : Int) ^ 19 / y := (Int.le_ediv_iff_mul_le y0).mpr (by omega)
  have h1 : y * ((10 : Int) ^ 19 / y) ≤ 10 ^ 19 := Int.mul_ediv_self_le (by omega)
  have h2 : (10 : Int) ^ 19 / y ≤ 10 ^ 19 := Int.ediv_le_self _ (by decide)
  generalize (10 : Int) ^ 19 / y = s at h0 h1 h2
  have h3 : 0 < y * s := Int.mul_pos y0 (by omega)
  have h4 : 0 < x * s := Int.mul_pos x0 (by omega)
  have h5 : (x + 1) * s ≤ y * s := Int.mul_le_mul_of_nonneg_right (by omega) (by omega)
  rw [Int.add_mul, Int.one_mul] at h5
  exact ⟨by omega, h2, ⟨h3, h1⟩, by omega, by omega⟩
theorem above_ok {x y : Int} (x0 : 0 < x) (xy : x < y) (y1 : y ≤ 10 ^ 18) : LOk (aboveM x y).1 (aboveM x y).2 ∧ (aboveM x y).2 ≤ 10 ^ 36 := by
  obtain ⟨s0, s1, ⟨sy, sz⟩, sx, sw⟩ := scale_bd x0 xy y1
  unfold aboveM
  generalize x * (10 ^ 19 / y) + 1 = a at sx sw
  generalize y * (10 ^ 19 / y) = b at sy sz sw
  obtain ⟨g1, g2, g3⟩ := gcdI_div sx sy
  have g4 := div_gcd_le sx sw
  have g5 := div_gcd_le_self (a := a) sy
  have p : (10 : Int) ^ 19 ≤ 10 ^ 36 := by decide +kernel
  exact ⟨⟨g1, g4, g3⟩, by dsimp only; omega⟩
theorem share2_le (kd : Str) {a b c : Int} (h : SOk a b c) (ha : a ≤ 30000000) (hb : b ≤ 30000000) : (shareM kd a b c).2 ≤ 10 ^ 18 := by
  obtain ⟨⟨a0, _, b0, _, c0, _⟩, ca, cb⟩ := id h
  have m : a * b ≤ 30000000 * 30000000 := Int.mul_le_mul ha hb b0 (by decide)
  have fb : (frac kd a b c).2 ≤ 10 ^ 18 := by
    unfold frac
    split
    · dsimp only; omega
    · split
      · dsimp only; omega
      · split
        · dsimp only; omega
        · split
          · dsimp only; omega
          · dsimp only; omega
  have f0 := (frac_bd kd h.f).2.2.1
  unfold shareM
  split
  · decide
  · exact Int.le_trans (Int.ediv_le_self _ f0) fb
theorem share_pos {kd : Str} {a b c : Int} (c0 : 0 ≤ c) (h : 0 < (shareM kd a b c).1) : 0 < c := by
  rcases Int.lt_or_le 0 c with z | z
  · exact z
  · exfalso
    have c1 : c = 0 := by omega
    subst c1
    unfold shareM at h
    split at h
    · exact absurd h (by decide)
    · have f : (frac kd a b 0).1 = 0 := by
        unfold frac
        split
        · rfl
        · split
          · rfl
          · split
            · rfl
            · split
              · rfl
              · rfl
      rw [f] at h
      simp at h
end MuK

namespace MuK
open PySem PySem.Spec PyProof.Rows L2 Evl
/-! ### pairs of lots that are alike but for names, turns, more sets, other weights -/
theorem mem_rowUp {kd : Str} {l : Int × Int} {kvs : List (Key × V)} {us : List (List Str)} {i m : Nat} {x : Nat × Nat} :
    x ∈ rowUp kd l kvs us i m ↔ x.1 = i ∧ i < x.2 ∧ x.2 < m ∧ reachB (shareW kd kvs (us.getD i []) (us.getD x.2 [])) l = true := by
  unfold rowUp
  rw [List.mem_map]
  constructor
  · rintro ⟨j, hj, rfl⟩
    obtain ⟨h1, h2⟩ := List.mem_filter.mp hj
    rw [Bool.and_eq_true, decide_eq_true_eq] at h2
    exact ⟨rfl, h2.1, List.mem_range.mp h1, h2.2⟩
  · rintro ⟨rfl, h1, h2, h3⟩
    exact ⟨x.2, List.mem_filter.mpr ⟨List.mem_range.mpr h2, by rw [Bool.and_eq_true, decide_eq_true_eq]; exact ⟨h1, h3⟩⟩, rfl⟩
theorem mem_pairsUp {kd : Str} {l : Int × Int} {kvs : List (Key × V)} {us : List (List Str)} {n : Nat} {x : Nat × Nat} :
    x ∈ pairsUp kd l kvs us n ↔ x.1 < n ∧ x.1 < x.2 ∧ x.2 < us.length ∧ reachB (shareW kd kvs (us.getD x.1 []) (us.getD x.2 [])) l = true := by
  unfold pairsUp
  rw [List.mem_flatMap]
  constructor
  · rintro ⟨i, hi, hx⟩
    obtain ⟨rfl, h⟩ := mem_rowUp.mp hx
    exact ⟨List.mem_range.mp hi, h⟩
  · rintro ⟨h1, h⟩
    exact ⟨x.1, List.mem_range.mpr h1, mem_rowUp.mpr ⟨rfl, h⟩⟩
def ltP (x y : Nat × Nat) : Prop := x.1 < y.1 ∨ x.1 = y.1 ∧ x.2 < y.2
theorem rowUp_up (kd : Str) (l : Int × Int) (kvs : List (Key × V)) (us : List (List Str)) (i m : Nat) : (rowUp kd l kvs us i m).Pairwise ltP := by
  unfold rowUp
  rw [List.pairwise_map]
  exact (List.pairwise_lt_range.filter _).imp fun h => .inr ⟨rfl, h⟩
theorem pairsUp_up (kd : Str) (l : Int × Int) (kvs : List (Key × V)) (us : List (List Str)) : ∀ n, (pairsUp kd l kvs us n).Pairwise ltP
  | 0 => List.Pairwise.nil
  | n + 1 => by
    rw [pairsUp_succ, List.pairwise_append]
    refine ⟨pairsUp_up kd l kvs us n, rowUp_up .., fun x hx y hy => .inl ?_⟩
    have h1 := (mem_pairsUp.mp hx).1
    have h2 := (mem_rowUp.mp hy).1
    omega
theorem ltP_one : ∀ {a b : List (Nat × Nat)}, a.Pairwise ltP → b.Pairwise ltP → (∀ x, x ∈ a ↔ x ∈ b) → a = b
  | [], [], _, _, _ => rfl
  | [], y :: b, _, _, h => nomatch (h y).mpr List.mem_cons_self
  | x :: a, [], _, _, h => nomatch (h x).mp List.mem_cons_self
  | x :: a, y :: b, ha, hb, h => by
    obtain ⟨a1, a2⟩ := List.pairwise_cons.mp ha
    obtain ⟨b1, b2⟩ := List.pairwise_cons.mp hb
    have irr : ∀ {u v : Nat × Nat}, ltP u v → ltP v u → False := fun {u v} h k => by
      unfold ltP at h k
      omega
    have e : x = y := by
      rcases List.mem_cons.mp ((h x).mp List.mem_cons_self) with z | z
      · exact z
      · rcases List.mem_cons.mp ((h y).mpr List.mem_cons_self) with w | w
        · exact w.symm
        · exact (irr (b1 x z) (a1 y w)).elim
    subst e
    have self : ∀ {u : Nat × Nat}, ltP u u → False := fun h => irr h h
    rw [ltP_one a2 b2 fun u => ?_]
    have hu := h u
    rw [List.mem_cons, List.mem_cons] at hu
    constructor
    · intro z
      rcases hu.mp (.inr z) with rfl | w
      · exact (self (a1 _ z)).elim
      · exact w
    · intro z
      rcases hu.mpr (.inr z) with rfl | w
      · exact (self (b1 _ z)).elim
      · exact w
/-- the same shares, the same pairs -/
theorem pairs_same {kd : Str} {l : Int × Int} {kvs kv2 : List (Key × V)} {us us2 : List (List Str)} (hl : us2.length = us.length)
    (h : ∀ i j, i < j → j < us.length → shareW kd kv2 (us2.getD i []) (us2.getD j []) = shareW kd kvs (us.getD i []) (us.getD j [])) :
    pairsUp kd l kv2 us2 us2.length = pairsUp kd l kvs us us.length ∧ (pairsUp kd l kv2 us2 us2.length).map (pairD kd kv2 us2) = (pairsUp kd l kvs us us.length).map (pairD kd kvs us) := by
  have e : pairsUp kd l kv2 us2 us2.length = pairsUp kd l kvs us us.length := ltP_one (pairsUp_up ..) (pairsUp_up ..) fun x => by
    rw [mem_pairsUp, mem_pairsUp, hl]
    refine and_congr Iff.rfl (and_congr_right fun h1 => and_congr_right fun h2 => ?_)
    rw [h x.1 x.2 h1 h2]
  refine ⟨e, ?_⟩
  rw [e]
  refine List.map_congr_left fun x hx => ?_
  obtain ⟨_, h1, h2, _⟩ := mem_pairsUp.mp hx
  unfold pairD
  rw [h x.1 x.2 h1 h2]
/-! other names -/
theorem heavy_map {kvs kv2 : List (Key × V)} {rn : Str → Str} : ∀ {la : List Str}, (∀ a ∈ la, wOf kv2 (rn a) = wOf kvs a) → heavy kv2 (la.map rn) = heavy kvs la
  | [], _ => rfl
  | a :: r, h => by
    show wOf kv2 (rn a) + heavy kv2 (r.map rn) = wOf kvs a + heavy kvs r
    rw [h a List.mem_cons_self, heavy_map fun x hx => h x (List.mem_cons_of_mem _ hx)]
theorem share_named {kd : Str} {kvs kv2 : List (Key × V)} {rn : Str → Str} {pool la lb : List Str} (inj : ∀ a ∈ pool, ∀ b ∈ pool, rn a = rn b → a = b) (hw : ∀ a ∈ pool, wOf kv2 (rn a) = wOf kvs a) (ha : ∀ a ∈ la, a ∈ pool) (hb : ∀ a ∈ lb, a ∈ pool) :
    shareW kd kv2 (la.reverse.map rn) (lb.reverse.map rn) = shareW kd kvs la lb := by
  unfold shareW
  have e1 : heavy kv2 (la.reverse.map rn) = heavy kvs la := (heavy_map fun a m => hw a (ha a (List.mem_reverse.mp m))).trans (heavy_perm (List.reverse_perm la))
  have e2 : heavy kv2 (lb.reverse.map rn) = heavy kvs lb := (heavy_map fun a m => hw a (hb a (List.mem_reverse.mp m))).trans (heavy_perm (List.reverse_perm lb))
  have e3 : (la.reverse.map rn).filter (fun u => decide (u ∈ lb.reverse.map rn)) = (la.reverse.filter fun u => decide (u ∈ lb)).map rn := by
    rw [List.filter_map]
    congr 1
    refine List.filter_congr fun a m => ?_
    rw [Function.comp_apply, Bool.eq_iff_iff, decide_eq_true_eq, decide_eq_true_eq, List.mem_map]
    have pa := ha a (List.mem_reverse.mp m)
    constructor
    · rintro ⟨b, mb, e⟩
      have pb := List.mem_reverse.mp mb
      exact inj b (hb b pb) a pa e ▸ pb
    · intro mb
      exact ⟨a, List.mem_reverse.mpr mb, rfl⟩
  rw [e1, e2, e3, heavy_map fun a m => hw a (ha a (List.mem_reverse.mp (List.mem_filter.mp m).1)), List.filter_reverse, heavy_perm (List.reverse_perm _)]
theorem shareW_symm (kd : Str) (kvs : List (Key × V)) {la lb : List Str} (na : la.Nodup) (nb : lb.Nodup) : shareW kd kvs lb la = shareW kd kvs la lb := by
  unfold shareW
  rw [shareM_symm]
  congr 1
  refine heavy_perm ((List.perm_ext_iff_of_nodup (nb.filter _) (na.filter _)).mpr fun x => ?_)
  rw [List.mem_filter, List.mem_filter, decide_eq_true_eq, decide_eq_true_eq]
  exact And.comm
/-! one set more -/
theorem pairs_more {kd : Str} {l : Int × Int} {kvs : List (Key × V)} {us : List (List Str)} {w : List Str} :
    (pairsUp kd l kvs (us ++ [w]) (us ++ [w]).length).filter (fun x => decide (x.2 < us.length)) = pairsUp kd l kvs us us.length := by
  refine ltP_one ((pairsUp_up ..).filter _) (pairsUp_up ..) fun x => ?_
  rw [List.mem_filter, mem_pairsUp, mem_pairsUp, decide_eq_true_eq, List.length_append, List.length_singleton]
  have g : ∀ i, i < us.length → (us ++ [w]).getD i [] = us.getD i [] := fun i hi => by
    rw [List.getD_eq_getElem?_getD, List.getD_eq_getElem?_getD, List.getElem?_append_left hi]
  constructor
  · rintro ⟨⟨h1, h2, h3, h4⟩, h5⟩
    rw [g _ (by omega), g _ h5] at h4
    exact ⟨by omega, h2, h5, h4⟩
  · rintro ⟨h1, h2, h3, h4⟩
    refine ⟨⟨by omega, h2, by omega, ?_⟩, h3⟩
    rw [g _ h1, g _ h3]
    exact h4
/-! a greater least share -/
theorem pairs_less {kd : Str} {l l2 : Int × Int} {kvs : List (Key × V)} {us : List (List Str)} (h : ∀ i j, i < j → j < us.length → reachB (shareW kd kvs (us.getD i []) (us.getD j [])) l2 = true → reachB (shareW kd kvs (us.getD i []) (us.getD j [])) l = true) :
    (pairsUp kd l kvs us us.length).filter (fun x => reachB (shareW kd kvs (us.getD x.1 []) (us.getD x.2 [])) l2) = pairsUp kd l2 kvs us us.length := by
  refine ltP_one ((pairsUp_up ..).filter _) (pairsUp_up ..) fun x => ?_
  rw [List.mem_filter, mem_pairsUp, mem_pairsUp]
  constructor
  · rintro ⟨⟨h1, h2, h3, _⟩, h5⟩
    exact ⟨h1, h2, h3, h5⟩
  · rintro ⟨h1, h2, h3, h4⟩
    exact ⟨⟨h1, h2, h3, h _ _ h2 h3 h4⟩, h4⟩
theorem reach_mono {s l l2 : Int × Int} (s1 : 0 ≤ s.1) (s2 : 0 ≤ s.2) (b1 : 0 < l.2) (b2 : 0 < l2.2) (h : l.1 * l2.2 ≤ l2.1 * l.2) (k : reachB s l2 = true) : reachB s l = true := by
  unfold reachB at k ⊢
  rw [decide_eq_true_eq] at k ⊢
  -- l2.1 * s.2 ≤ s.1 * l2.2
  have e1 : l.1 * s.2 * l2.2 ≤ s.1 * l.2 * l2.2 := by
    have a1 : l.1 * l2.2 * s.2 ≤ l2.1 * l.2 * s.2 := Int.mul_le_mul_of_nonneg_right h s2
    have a2 : l2.1 * s.2 * l.2 ≤ s.1 * l2.2 * l.2 := Int.mul_le_mul_of_nonneg_right k (by omega)
    have r1 : l.1 * s.2 * l2.2 = l.1 * l2.2 * s.2 := by rw [Int.mul_right_comm]
    have r2 : l2.1 * l.2 * s.2 = l2.1 * s.2 * l.2 := by rw [Int.mul_right_comm]
    have r3 : s.1 * l2.2 * l.2 = s.1 * l.2 * l2.2 := by rw [Int.mul_right_comm]
    omega
  exact Int.le_of_mul_le_mul_right e1 b2
/-! all weights so many times as great -/
theorem gcd_scale (k a b : Nat) : Nat.gcd (k * a) (k * b) = k * Nat.gcd a b := Nat.gcd_mul_left k a b
theorem div_scale {k a b : Int} (hk : 0 < k) (ha : 0 ≤ a) (hb : 0 < b) : (k * a) / gcdI (k * a) (k * b) = a / gcdI a b ∧ (k * b) / gcdI (k * a) (k * b) = b / gcdI a b := by
  have g : gcdI (k * a) (k * b) = k * gcdI a b := by
    unfold gcdI
    rw [Int.natAbs_mul, Int.natAbs_mul, Nat.gcd_mul_left]
    have : (k.natAbs : Int) = k := by omega
    rw [Int.natCast_mul, this]
  rw [g]
  exact ⟨Int.mul_ediv_mul_of_pos _ _ hk, Int.mul_ediv_mul_of_pos _ _ hk⟩
theorem heavy_scale {kvs kv2 : List (Key × V)} {k : Int} : ∀ {la : List Str}, (∀ a ∈ la, wOf kv2 a = k * wOf kvs a) → heavy kv2 la = k * heavy kvs la
  | [], _ => by show (0 : Int) = k * 0; rw [Int.mul_zero]
  | a :: r, h => by
    show wOf kv2 a + heavy kv2 r = k * (wOf kvs a + heavy kvs r)
    rw [h a List.mem_cons_self, heavy_scale fun x hx => h x (List.mem_cons_of_mem _ hx), Int.mul_add]
end MuK

namespace MuTri
open PySem PySem.Spec PyProof.Rows L2 Evl MuK
/-! ### sorted of told pairs, whatever their shares -/
abbrev Tri := Addr × (Nat × Nat) × (Int × Int)
def triD (b : Tri) : PyData := .tuple [.int b.2.1.1, .int b.2.1.2, .tuple [.int b.2.2.1, .int b.2.2.2]]
section
variable {X : Cx} {pins : List (Addr × Obj)} {σ : L2.St} {H : Hp} {s : Shared}
theorem tri_reads (I : Inv X pins σ H s) {b : Tri} (h : PairAt H b.1 b.2.1.1 b.2.1.2 b.2.2) {h' : Heap} (k : ∀ c o, s.heap.get? c = some o → h'.get? c = some o) : Reads h' (.ref b.1) (triD b) [] := by
  obtain ⟨q, h1, h2⟩ := h
  obtain ⟨us, r1, ⟨o1, g1, c1, m1, d1⟩, _⟩ := I.tuple (st_of h1)
  obtain ⟨ws, r2, ⟨o2, g2, c2, m2, d2⟩, _⟩ := I.tuple (st_of h2)
  cases r1 with
  | cons a1 r1 =>
    cases r1 with
    | cons a2 r1 =>
      cases r1 with
      | cons a3 r1 =>
        cases r1
        cases r2 with
        | cons e1 r2 =>
          cases r2 with
          | cons e2 r2 =>
            cases r2
            obtain ⟨t1, rfl⟩ := a1
            obtain ⟨t2, rfl⟩ := a2
            cases a3
            obtain ⟨t3, rfl⟩ := e1
            obtain ⟨t4, rfl⟩ := e2
            have rq : Reads h' (.ref q) (.tuple [.int b.2.2.1, .int b.2.2.2]) [] := reads_tuple_at (k _ _ g2) c2 d2 (ReadsAll.cons (as := []) (bs := []) (.int _ _) (ReadsAll.cons (as := []) (bs := []) (.int _ _) .nil))
            exact reads_tuple_at (k _ _ g1) c1 d1 (ReadsAll.cons (as := []) (bs := []) (.int _ _) (ReadsAll.cons (as := []) (bs := []) (.int _ _) (ReadsAll.cons (as := []) (bs := []) rq .nil)))
theorem tri_alike (b c : Tri) : W.alike (triD b) (triD c) = true := by rfl
theorem tri_lt {b c : Tri} (ne : b.2.1 ≠ c.2.1) (h : W.dataLt (triD c) (triD b) = false) : ltP b.2.1 c.2.1 := by
  unfold triD at h
  rw [W.dataLt_tuple, W.dataLt_cons (by rfl), W.dataLt_cons (by rfl)] at h
  have e : ∀ x y : Int, (PyData.int x).eqv (PyData.int y) = decide (x = y) := fun x y => by
    rw [PyData.eqv]
    first | rfl | exact Bool.eq_iff_iff.mpr (by simp)
  rw [e, e, W.dataLt_int, W.dataLt_int] at h
  unfold ltP
  have ne2 : ¬ (b.2.1.1 = c.2.1.1 ∧ b.2.1.2 = c.2.1.2) := fun z => ne (Prod.ext z.1 z.2)
  by_cases c1 : (c.2.1.1 : Int) = b.2.1.1
  · rw [if_pos (decide_eq_true c1)] at h
    by_cases c2 : (c.2.1.2 : Int) = b.2.1.2
    · exact absurd ⟨by omega, by omega⟩ ne2
    · rw [if_neg (by rw [decide_eq_false c2]; decide)] at h
      have := of_decide_eq_false h
      omega
  · rw [if_neg (by rw [decide_eq_false c1]; decide)] at h
    have := of_decide_eq_false h
    omega
def rSortedTri (K : PySem.W.Frag) : List V → Hp → VK → Prop := fun vs H Q => ∃ (a : Addr) (bs : List Tri), vs = [.ref a] ∧ SqL K H a (bs.map fun b => V.ref b.1) ∧ bs.length ≤ 5000 ∧ (∀ b ∈ bs, PairAt H b.1 b.2.1.1 b.2.1.2 b.2.2) ∧ (bs.map (·.2.1)).Nodup ∧
  ∀ p (cs : List Tri), H p = none → cs.Perm bs → (cs.map (·.2.1)).Pairwise ltP → Q (.ref p) (upd H p (.lst (cs.map fun b => V.ref b.1)))
theorem each_refs : ∀ (bs : List Tri), W.EachIs (fun (v : Value) (b : Tri) => v = .ref b.1) (bs.map fun b => Value.ref b.1) bs
  | [] => .nil
  | _ :: r => .cons rfl (each_refs r)
theorem each_of {vs : List Value} {cs : List Tri} (h : W.EachIs (fun (v : Value) (b : Tri) => v = .ref b.1) vs cs) : vs = cs.map fun b => Value.ref b.1 := by
  induction h with
  | nil => rfl
  | cons h _ ih => rw [h, ih]; rfl
theorem vals_refs : ∀ {bs : List Tri} {us : List Value}, Vals (bs.map fun b => V.ref b.1) us → us = bs.map fun b => Value.ref b.1
  | [], _, .nil => rfl
  | _ :: _, _, .cons h r => by
    cases h
    rw [vals_refs r]
    rfl
theorem refs_vals : ∀ (bs : List Tri), Vals (bs.map fun b => V.ref b.1) (bs.map fun b => Value.ref b.1)
  | [] => .nil
  | _ :: r => .cons rfl (refs_vals r)
theorem cr_sortedTri (hu : X.A.units + 64 < cLine) : CallR X (.builtin "sorted") (rSortedTri X.K) := by
  intro pins s σ H vs us Q I r h
  obtain ⟨a, bs, rfl, hs, hz, hb, nd, q⟩ := h
  obtain ⟨its, rv, hl, _⟩ := I.list hs
  rw [Vals.ref1 r]
  obtain rfl := vals_refs rv
  refine Calls.call_function_entry kind_sorted plain_sorted entry_sorted (args_sorted1 _) ?_
  unfold Builtin.«sorted»
  refine wpAny_bind (m := checkCount "sorted" 1 1 _) (wpAny_pure ?_)
  refine wpAny_bind (collect_list hl.isList ?_ (by rw [List.length_map, sizeLine_eq]; omega))
  generalize hh : ((s.heap.push (seqObj "list" #[] 0)).update s.heap.objs.size (Obj.mapSeq fun x => x ++ (bs.map fun b => Value.ref b.1).toArray)) = h1
  have k1 : ∀ c o, s.heap.get? c = some o → h1.get? c = some o := fun c o e => by
    rw [← hh, (Heap.SameBut.update _ _ _).2 c (Nat.ne_of_lt (Heap.lt_size e))]
    exact Heap.get?_push_of_some _ e
  have z1 : s.heap.objs.size ≤ h1.objs.size := by
    rw [← hh, (Heap.SameBut.update _ _ _).1, size_push']
    exact Nat.le_succ _
  refine wpAny_bind (wpAny_newList ?_ (by rw [List.length_map, sizeLine_eq]; omega))
  have hoL : (h1.push (seqObj "list" (bs.map fun b => Value.ref b.1).toArray 0)).get? h1.objs.size = some (seqObj "list" (bs.map fun b => Value.ref b.1).toArray 0) := Heap.get?_push_size _ rfl
  have k2 : ∀ c o, s.heap.get? c = some o → (h1.push (seqObj "list" (bs.map fun b => Value.ref b.1).toArray 0)).get? c = some o := fun c o e => Heap.get?_push_of_some _ (k1 c o e)
  have each2 : ∀ (l : List Tri), (∀ b ∈ l, b ∈ bs) → W.EachIs (fun (v : Value) (b : Tri) => ∃ as, Reads (h1.push (seqObj "list" (bs.map fun b => Value.ref b.1).toArray 0)) v (triD b) as ∧ ¬ h1.objs.size ∈ as) (l.map fun b => Value.ref b.1) l := by
    intro l hl
    induction l with
    | nil => exact .nil
    | cons b r ih => exact .cons ⟨[], tri_reads I (hb b (hl b List.mem_cons_self)) k2, fun z => nomatch z⟩ (ih fun c hc => hl c (List.mem_cons_of_mem _ hc))
  refine wpAny_bind (wpAny_holding (W.list_sort_data (enc := triD) hoL (each_refs bs) (each2 bs fun _ h => h) (W.AllAlike.of tri_alike) (W.Sortable.tuples fun b => ⟨_, _, rfl⟩) (by rw [sizeLine_eq]; omega) (fun b _ => ?_) fun out hl2 ho => ?_))
  · have : (triD b).depth ≤ 2 := by
      simp [triD, PyData.depth, PyData.depthAll]
    show X.A.units + 1 + 1 + (triD b).depth < cLine
    omega
  · obtain rfl := each_of ho
    generalize hcs : bs.mergeSort (W.dataLe false triD) = cs at *
    have pm : cs.Perm bs := hcs ▸ List.mergeSort_perm _ _
    have TL := W.sortLe_total (listOrd itemOrd) false fun b => W.keyToks (triD b)
    have sr : cs.Pairwise fun b c => W.dataLe false triD b c = true := by
      rw [← hcs]
      exact List.pairwise_mergeSort TL.trans (fun a b => by rw [Bool.or_eq_true]; exact TL.total a b) bs
    obtain ⟨c, hg⟩ := sortedHeap_at (vs := bs.map fun b => Value.ref b.1) (out := (cs.map fun b => Value.ref b.1).toArray) hoL
    have hn : H h1.objs.size = none := I.hok.fresh z1
    have hl3 : (cs.map fun b => V.ref b.1).length ≤ sizeLine := by
      rw [List.length_map, pm.length_eq, sizeLine_eq]
      omega
    have up : (cs.map (·.2.1)).Pairwise ltP := by
      have nd2 : (cs.map (·.2.1)).Nodup := (pm.map _).nodup_iff.mpr nd
      rw [List.pairwise_map]
      unfold List.Nodup at nd2
      rw [List.pairwise_map] at nd2
      refine (List.Pairwise.and sr nd2).imp fun {b c} h => tri_lt h.2 ?_
      have := h.1
      rw [W.dataLe_eq] at this
      simpa using this
    refine wpAny_pure ⟨_, rfl, .ref _, _, ?_, rfl, q _ cs hn pm up⟩
    refine I.laid (t' := s.toks) (fun b u e => ?_) z1 ⟨hl3, (cs.map fun b => Value.ref b.1).toArray.toList, c, by simpa using refs_vals cs, hg⟩
    have z := k1 b u e
    have hlt := Heap.lt_size z
    rw [sortedHeap_old (Nat.ne_of_lt hlt) (by rw [size_push']; exact Nat.lt_succ_of_lt hlt)]
    exact Heap.get?_push_of_some _ z
end
end MuTri

namespace MuTri
open PySem PySem.Spec PyProof.Rows L2 Evl MuK
def rTupOf (K : PySem.W.Frag) : List V → Hp → VK → Prop := fun xs H Q => ∃ (p : Addr) (ys : List V), xs = [.ref p] ∧ ((SqL K H p ys ∧ ∀ l, H l = none → Q (.ref l) (upd H l (.tup ys))) ∨ (SqT K H p ys ∧ Q (.ref p) H))
section
variable {K : PySem.W.Frag} {σ : L2.St} {H H' : Hp} {ta tb te td ty tl tw : TE} {t u : TT} {x y z v : V} {D : Ends} {tu tz : TS} {R : V → Hp → Prop}
/-- [e for x in reversed(xs) if t] -/
theorem el_lcRev {tA : TA} {a : Addr} {xs : List V} {j : Nat} {vs : List Nat} (f : Nat → Bool) (v : Nat → V) (h : EvA tA σ H [.ref a]) (hx : SqL K H a xs) (hz : xs.length ≤ 40000)
    (hw : ∀ x, wipe ((wipe σ vs).set j (some x)) vs = wipe σ vs)
    (ht : ∀ (n : Nat) (x : V) H1, Ex H H1 → n < xs.length → xs[xs.length - 1 - n]? = some x → EvT t ((wipe σ vs).set j (some x)) H1 (f n))
    (he : ∀ (n : Nat) (x : V) H1, Ex H H1 → n < xs.length → xs[xs.length - 1 - n]? = some x → f n = true → Ev te ((wipe σ vs).set j (some x)) H1 (v n)) :
    EvL (tLc (iRev K tA) (gName j) t te vs) σ H (given xs.length f v) := fun H0 e Q q => by
  refine h H0 e _ fun H1 e1 => ⟨a, xs, rfl, ex_l (e.trans e1) hx, fun Dl hD => ?_⟩
  refine ⟨fun n m H' => m = xs.length - n ∧ n ≤ xs.length ∧ Cw H1 f v Dl n H', ⟨xs.length, rfl, Nat.zero_le _, hD, Ex.new hD, upd_same⟩, ?_⟩
  rintro n m H' ⟨rfl, hn, p⟩
  have hq := ex_l ((e.trans e1).trans p.2.1) hx
  by_cases lt : n < xs.length
  · have lt2 : xs.length - 1 - n < xs.length := by omega
    refine .inr ⟨⟨lt, xs, xs[xs.length - 1 - n], hq, List.getElem?_eq_getElem lt2⟩, fun H2 => Cw H1 f v Dl (n + 1) H2, fun H2 p2 => ⟨xs.length - (n + 1), by omega, rfl, lt, p2⟩, fun x H2 y => ?_⟩
    obtain ⟨rfl, hx2⟩ := y
    have hxn := hx2 xs hq
    exact ⟨hw _, cw_turn p (by omega) (ht n x H1 (e.trans e1) lt hxn) fun hf => he n x H1 (e.trans e1) lt hxn hf⟩
  · have e2 : n = xs.length := by omega
    subst e2
    exact .inl ⟨Nat.le_refl _, q Dl H' (fresh_back e1 p.1) (e1.trans p.2.1) p.2.2⟩
/-- for x, y in zip(e, ys), e a new list -/
theorem q_forZip {b : Addr} {i j : Nat} (h : EvX te σ H R) (hb : ∀ H1, Ex H H1 → Ev tw σ H1 (.ref b))
    (hk : ∀ v H1 H2, Ex H H1 → R v H1 → Ex H1 H2 → ∃ (a : Addr) (xs ys : List V) (Pv : Nat → L2.St → Hp → Prop), v = .ref a ∧ SqL K H2 a xs ∧ SqL K H2 b ys ∧ xs.length = ys.length ∧ Pv 0 σ H2 ∧ (∀ n σ' H', Pv n σ' H' → SqL K H' a xs ∧ SqL K H' b ys) ∧
      (∀ n x y σ' H' H2, xs[n]? = some x → ys[n]? = some y → Pv n σ' H' → Ex H' H2 → tu { D with nx := Pv (n + 1), ct := Pv (n + 1), bk := tz D } ((σ'.set i (some x)).set j (some y)) H2) ∧ (∀ σ' H', Pv xs.length σ' H' → tz D σ' H')) :
    tSeq (tFor (iZip K (tCons te (tCons tw tNil))) (gTup K 2 (gCons (gName i) (gCons (gName j) gNil))) tu) tz D σ H := by
  refine h H (Ex.refl H) _ fun v H1 e1 r => hb H1 e1 H1 (Ex.refl H1) _ fun H2 e2 => ?_
  obtain ⟨a, xs, ys, Pv, rfl, ha, hb2, hl, h0, hq, hs, hd⟩ := hk v H1 H2 e1 r e2
  refine ⟨a, b, xs, ys, rfl, ha, hb2, ?_⟩
  refine ⟨fun n m σ' H' => m = xs.length - n ∧ n ≤ xs.length ∧ Pv n σ' H', ⟨xs.length, rfl, Nat.zero_le _, h0⟩, ?_⟩
  rintro n m σ' H' ⟨rfl, hn, p⟩
  obtain ⟨q1, q2⟩ := hq n σ' H' p
  by_cases lt : n < xs.length
  · have lt2 : n < ys.length := by omega
    refine .inr ⟨⟨xs, ys, xs[n], ys[n], q1, q2, List.getElem?_eq_getElem lt, List.getElem?_eq_getElem lt2⟩, Pv (n + 1), fun σ2 H2 p2 => ⟨xs.length - (n + 1), by omega, rfl, lt, p2⟩, fun x H2 y => ?_⟩
    obtain ⟨T, x, y, rfl, hT, rfl, hx2, hy2⟩ := y
    exact ⟨T, [x, y], rfl, st_of upd_same, rfl, x, [y], rfl, y, [], rfl, rfl, hs n x y σ' H' _ (hx2 xs q1) (hy2 ys q2) p (Ex.new hT)⟩
  · have e2 : n = xs.length := by omega
    subst e2
    exact .inl ⟨⟨xs, ys, q1, q2, .inl (Nat.le_refl _)⟩, hd σ' H' p⟩
/-- for k in d.keys(), d locked -/
theorem s_forKeys {d : Addr} {kvs : List (Key × V)} {i : Nat} (hd : H d = some (.dK kvs)) (h : ∀ H1, Ev td σ H1 (.ref d)) (Pv : Nat → L2.St → Hp → Prop)
    (h0 : ∀ od H1, Ex (upd H d (.frz od (.dK kvs))) H1 → Pv 0 σ H1)
    (hs : ∀ od n k x σ' H' H2, kvs[n]? = some (k, x) → Pv n σ' H' → Ex (upd H d (.frz od (.dK kvs))) H' → Ex H' H2 →
      tu { D with nx := fun σ3 H3 => Pv (n + 1) σ3 H3 ∧ Ex (upd H d (.frz od (.dK kvs))) H3, ct := fun σ3 H3 => Pv (n + 1) σ3 H3 ∧ Ex (upd H d (.frz od (.dK kvs))) H3, bk := fun σ' H' => H' d = some (.frz od (.dK kvs)) ∧ D.nx σ' (upd H' d (.dK kvs)), rt := fun v H' => H' d = some (.frz od (.dK kvs)) ∧ D.rt v (upd H' d (.dK kvs)) } (σ'.set i (some (kV k))) H2)
    (hdn : ∀ σ' H', Pv kvs.length σ' H' → Ex H (upd H' d (.dK kvs)) → D.nx σ' (upd H' d (.dK kvs))) :
    tLock (tFor (iKeysM td) (gName i) tu) D σ H := by
  refine ⟨d, .dK kvs, hd, True.intro, fun od => ?_⟩
  refine h _ _ (Ex.refl _) _ fun H1 e1 => ⟨d, od, kvs, rfl, e1 d _ upd_same, ?_⟩
  refine ⟨fun n m σ' H' => m = kvs.length - n ∧ n ≤ kvs.length ∧ Pv n σ' H' ∧ Ex (upd H d (.frz od (.dK kvs))) H', ⟨kvs.length, rfl, Nat.zero_le _, h0 od H1 e1, e1⟩, ?_⟩
  rintro n m σ' H' ⟨rfl, hn, p, e⟩
  have q := e d _ upd_same
  by_cases lt : n < kvs.length
  · refine .inr ⟨⟨q, lt⟩, fun σ3 H3 => Pv (n + 1) σ3 H3 ∧ Ex (upd H d (.frz od (.dK kvs))) H3, fun σ2 H2 p2 => ⟨kvs.length - (n + 1), by omega, rfl, lt, p2.1, p2.2⟩, fun x H2 y => ?_⟩
    obtain ⟨rfl, k, v, hk, rfl⟩ := y
    exact hs od n k v σ' _ _ hk p e (Ex.refl _)
  · have e2 : n = kvs.length := by omega
    subst e2
    exact .inl ⟨⟨q, Nat.le_refl _⟩, q, hdn σ' H' p (lock_back hd e)⟩
theorem q_forKeys {d : Addr} {kvs : List (Key × V)} {i : Nat} (hd : H d = some (.dK kvs)) (h : ∀ H1, Ev td σ H1 (.ref d)) (Pv : Nat → L2.St → Hp → Prop)
    (h0 : ∀ od H1, Ex (upd H d (.frz od (.dK kvs))) H1 → Pv 0 σ H1)
    (hs : ∀ od n k x σ' H' H2, kvs[n]? = some (k, x) → Pv n σ' H' → Ex (upd H d (.frz od (.dK kvs))) H' → Ex H' H2 →
      tu { D with nx := fun σ3 H3 => Pv (n + 1) σ3 H3 ∧ Ex (upd H d (.frz od (.dK kvs))) H3, ct := fun σ3 H3 => Pv (n + 1) σ3 H3 ∧ Ex (upd H d (.frz od (.dK kvs))) H3, bk := fun σ' H' => H' d = some (.frz od (.dK kvs)) ∧ tz D σ' (upd H' d (.dK kvs)), rt := fun v H' => H' d = some (.frz od (.dK kvs)) ∧ D.rt v (upd H' d (.dK kvs)) } (σ'.set i (some (kV k))) H2)
    (hdn : ∀ σ' H', Pv kvs.length σ' H' → Ex H (upd H' d (.dK kvs)) → tz D σ' (upd H' d (.dK kvs))) :
    tSeq (tLock (tFor (iKeysM td) (gName i) tu)) tz D σ H := s_forKeys (D := { D with nx := tz D }) hd h Pv h0 hs hdn
/-- for k in d.keys(), d locked, other dicts changed -/
theorem q_forKeys2 {d : Addr} {kvs : List (Key × V)} {i : Nat} (hd : H d = some (.dK kvs)) (h : ∀ H1, Ev td σ H1 (.ref d)) (Pv : Obj → Nat → L2.St → Hp → Prop)
    (h0 : ∀ od H1, Ex (upd H d (.frz od (.dK kvs))) H1 → Pv od 0 σ H1) (hf : ∀ od n σ' H', Pv od n σ' H' → H' d = some (.frz od (.dK kvs)))
    (hs : ∀ od n k x σ' H', kvs[n]? = some (k, x) → Pv od n σ' H' → tu { D with nx := Pv od (n + 1), ct := Pv od (n + 1), bk := fun σ' H' => H' d = some (.frz od (.dK kvs)) ∧ tz D σ' (upd H' d (.dK kvs)), rt := fun v H' => H' d = some (.frz od (.dK kvs)) ∧ D.rt v (upd H' d (.dK kvs)) } (σ'.set i (some (kV k))) H')
    (hdn : ∀ od σ' H', Pv od kvs.length σ' H' → tz D σ' (upd H' d (.dK kvs))) :
    tSeq (tLock (tFor (iKeysM td) (gName i) tu)) tz D σ H := by
  refine ⟨d, .dK kvs, hd, True.intro, fun od => ?_⟩
  refine h _ _ (Ex.refl _) _ fun H1 e1 => ⟨d, od, kvs, rfl, e1 d _ upd_same, ?_⟩
  refine ⟨fun n m σ' H' => m = kvs.length - n ∧ n ≤ kvs.length ∧ Pv od n σ' H', ⟨kvs.length, rfl, Nat.zero_le _, h0 od H1 e1⟩, ?_⟩
  rintro n m σ' H' ⟨rfl, hn, p⟩
  have q := hf od n σ' H' p
  by_cases lt : n < kvs.length
  · refine .inr ⟨⟨q, lt⟩, Pv od (n + 1), fun σ2 H2 p2 => ⟨kvs.length - (n + 1), by omega, rfl, lt, p2⟩, fun x H2 y => ?_⟩
    obtain ⟨rfl, k, v, hk, rfl⟩ := y
    exact hs od n k v σ' _ hk p
  · have e2 : n = kvs.length := by omega
    subst e2
    exact .inl ⟨⟨q, Nat.le_refl _⟩, q, hdn od σ' H' p⟩
theorem q_unpX {i j : Nat} (h : EvX te σ H R) (k : ∀ v H1, Ex H H1 → R v H1 → ∃ (p : Addr) (x y : V), v = .ref p ∧ SqT K H1 p [x, y] ∧ tz D ((σ.set i (some x)).set j (some y)) H1) : tSeq (tAsg te (gTup K 2 (gCons (gName i) (gCons (gName j) gNil)))) tz D σ H :=
  h H (Ex.refl H) _ fun v H1 e r => by
    obtain ⟨p, x, y, rfl, hp, q⟩ := k v H1 e r
    exact ⟨p, [x, y], rfl, hp, rfl, x, [y], rfl, y, [], rfl, rfl, q⟩
/-- two lists of the same data -/
theorem ev_neX {RA RB : V → Hp → Prop} (ha : EvX ta σ H RA) (hb : ∀ v1 H1, Ex H H1 → RA v1 H1 → EvX tb σ H1 RB) (hd : ∀ v1 H1 v2 H2, Ex H H1 → RA v1 H1 → Ex H1 H2 → RB v2 H2 → ∃ d, Dp K H2 v1 d ∧ Dp K H2 v2 d ∧ SeqAt.shaped d = true ∧ d.canLay0 = true) : Ev (tOp (rNeD K) ta tb) σ H (.bl false) := fun H1 e Q k =>
  ha H1 e _ fun v1 H2 e2 r1 => hb v1 H2 (e.trans e2) r1 H2 (Ex.refl H2) _ fun v2 H3 e3 r2 => by
    obtain ⟨d, d1, d2, sh, cl⟩ := hd v1 H2 v2 H3 (e.trans e2) r1 e3 r2
    refine ⟨_, _, d1, d2, sh, sh, ?_⟩
    rw [SeqAt.eqv_refl _ cl]
    exact k H3 (e2.trans e3)
theorem ev_eqX {RA RB : V → Hp → Prop} (ha : EvX ta σ H RA) (hb : ∀ v1 H1, Ex H H1 → RA v1 H1 → EvX tb σ H1 RB) (hd : ∀ v1 H1 v2 H2, Ex H H1 → RA v1 H1 → Ex H1 H2 → RB v2 H2 → ∃ d, Dp K H2 v1 d ∧ Dp K H2 v2 d ∧ SeqAt.shaped d = true ∧ d.canLay0 = true) : Ev (tOp (rEqD K) ta tb) σ H (.bl true) := fun H1 e Q k =>
  ha H1 e _ fun v1 H2 e2 r1 => hb v1 H2 (e.trans e2) r1 H2 (Ex.refl H2) _ fun v2 H3 e3 r2 => by
    obtain ⟨d, d1, d2, sh, cl⟩ := hd v1 H2 v2 H3 (e.trans e2) r1 e3 r2
    refine ⟨_, _, d1, d2, sh, sh, ?_⟩
    rw [SeqAt.eqv_refl _ cl]
    exact k H3 (e2.trans e3)
/-- [tuple(..) + (s,) for i, j, s in bs], new pairs with the same shares -/
theorem evx_lcTri {a : Addr} {bs : List Tri} {F : Nat × Nat → Nat × Nat} {i j k : Nat} {vs : List Nat} (h : Ev tl σ H (.ref a)) (hx : SqL K H a (bs.map fun b => V.ref b.1)) (hz : bs.length ≤ 40000) (hb : ∀ b ∈ bs, PairAt H b.1 b.2.1.1 b.2.1.2 b.2.2)
    (hw : ∀ x y z, wipe ((((wipe σ vs).set i (some x)).set j (some y)).set k (some z)) vs = wipe σ vs)
    (he : ∀ b ∈ bs, ∀ (q : Addr) H1, Ex H H1 → EvX te ((((wipe σ vs).set i (some (.int b.2.1.1))).set j (some (.int b.2.1.2))).set k (some (.ref q))) H1 (fun v H' => ∃ c : Addr, v = .ref c ∧ H1 c = none ∧ H' c = some (.tup [.int (F b.2.1).1, .int (F b.2.1).2, .ref q]))) :
    EvX (tLc (iList K tl) (gTup K 3 (gCons (gName i) (gCons (gName j) (gCons (gName k) gNil)))) tYes te vs) σ H (fun v H' => ∃ (p : Addr) (cs : List Tri), v = .ref p ∧ H p = none ∧ H' p = some (.lst (cs.map fun c => V.ref c.1)) ∧ cs.map (·.2) = bs.map (fun b => (F b.2.1, b.2.2)) ∧ ∀ c ∈ cs, PairAt H' c.1 c.2.1.1 c.2.1.2 c.2.2) := fun H0 e Q q => by
  refine h H0 e _ fun H1 e1 => ⟨a, rfl, ⟨_, ex_l (e.trans e1) hx⟩, fun Dl hD => ?_⟩
  have e01 := e.trans e1
  refine lc_list (xs := bs.map fun b => V.ref b.1)
    (fun n H' => Ex H1 H' ∧ ∃ cs : List Tri, H' Dl = some (.lst (cs.map fun c => V.ref c.1)) ∧ cs.map (·.2) = (bs.take n).map (fun b => (F b.2.1, b.2.2)) ∧ ∀ c ∈ cs, PairAt H' c.1 c.2.1.1 c.2.1.2 c.2.2)
    ⟨Ex.new hD, [], upd_same, rfl, fun _ y => nomatch y⟩ (fun n H' _ p => ex_l (e01.trans p.1) hx) (fun n x H' hn p => ?_) (fun H' p => ?_)
  · obtain ⟨e2, cs, h2, hcs, hat⟩ := p
    obtain ⟨b, hbn, mb, rfl⟩ : ∃ b, bs[n]? = some b ∧ b ∈ bs ∧ x = .ref b.1 := by
      rw [List.getElem?_map] at hn
      cases y : bs[n]? with
      | none =>
        rw [y] at hn
        exact nomatch hn
      | some c =>
        rw [y] at hn
        exact ⟨c, rfl, List.mem_of_getElem? y, (Option.some.inj hn).symm⟩
    obtain ⟨s, hs1, hs2⟩ := (hb b mb).later (e01.trans e2)
    have zc : cs.length ≤ 40000 := by
      have := congrArg List.length hcs
      rw [List.length_map, List.length_map, List.length_take] at this
      omega
    refine ⟨b.1, _, rfl, st_of hs1, rfl, _, _, rfl, _, _, rfl, _, [], rfl, rfl, hw _ _ _, ?_⟩
    simp only [tYes, ↓reduceIte]
    refine he b mb s H' (e01.trans e2) H' (Ex.refl H') _ fun v H2 e3 r => ?_
    obtain ⟨c, rfl, hc, hct⟩ := r
    have h3 := e3 _ _ h2
    have cD : c ≠ Dl := fun z => by
      rw [z, h2] at hc
      exact nomatch hc
    have sD : s ≠ Dl := fun z => by
      rw [z, h2] at hs2
      exact nomatch hs2
    refine ⟨_, h3, sz_lt (by rw [List.length_map]; omega), Ex.mut (e2.trans e3) hD, cs ++ [(c, F b.2.1, b.2.2)], by rw [upd_same, List.map_append]; rfl, ?_, fun y hy => ?_⟩
    · rw [List.map_append, hcs, List.take_add_one, hbn, List.map_append]
      rfl
    · rcases List.mem_append.mp hy with hy | hy
      · exact ((hat y hy).later e3).stay h3
      · obtain rfl := List.mem_singleton.mp hy
        exact ⟨s, (upd_ne cD).trans hct, (upd_ne sD).trans (e3 _ _ hs2)⟩
  · obtain ⟨e2, cs, h2, hcs, hat⟩ := p
    rw [List.length_map, List.take_length] at hcs
    exact q _ _ (e1.trans e2) ⟨Dl, cs, rfl, fresh_back e01 hD, h2, hcs, hat⟩
/-- sorted(e), e a new list of told pairs -/
theorem evx_sortedTri {bs0 : List ((Nat × Nat) × (Int × Int))} (h : EvX te σ H (fun v H' => ∃ (p : Addr) (cs : List Tri), v = .ref p ∧ H p = none ∧ H' p = some (.lst (cs.map fun c => V.ref c.1)) ∧ cs.map (·.2) = bs0 ∧ ∀ c ∈ cs, PairAt H' c.1 c.2.1.1 c.2.1.2 c.2.2)) (hz : bs0.length ≤ 5000) (nd : (bs0.map (·.1)).Nodup) :
    EvX (tCB (rSortedTri K) (tCons te tNil)) σ H (fun v H' => ∃ (p : Addr) (cs : List Tri), v = .ref p ∧ H p = none ∧ H' p = some (.lst (cs.map fun c => V.ref c.1)) ∧ (cs.map (·.2)).Perm bs0 ∧ (cs.map (·.2.1)).Pairwise ltP ∧ ∀ c ∈ cs, PairAt H' c.1 c.2.1.1 c.2.1.2 c.2.2) := fun H1 e Q q =>
  h H1 e _ fun v H2 e2 r => by
    obtain ⟨p, cs, rfl, hp, hl, hcs, hat⟩ := r
    have zl : cs.length ≤ 5000 := by
      have := congrArg List.length hcs
      rw [List.length_map] at this
      omega
    refine ⟨p, cs, rfl, sq_of hl, zl, hat, ?_, fun r ds hr pm up => q _ _ (e2.trans (Ex.new hr)) ⟨r, ds, rfl, fresh_back (e.trans e2) hr, upd_same, ?_, up, fun c hc => ((hat c (pm.mem_iff.mp hc)).later (Ex.new hr))⟩⟩
    · have ee : cs.map (·.2.1) = (cs.map (·.2)).map (·.1) := by rw [List.map_map]; rfl
      rw [ee, hcs]
      exact nd
    · rw [← hcs]
      exact pm.map _
end
end MuTri

namespace MuBag
open PySem PySem.Spec PyProof.Rows L2 Evl MuK MuEq MeetsSeq MeetsSeq2 MeetsSeq3 PySem.SeqAt
/-! ### a new dict, from here on read only -/
def tFrz (t : TE) : TE := fun σ H Q => t σ H fun x H1 => ∃ (d : Addr) (u : HO), x = .ref d ∧ H1 d = some u ∧ Mut (some u) ∧ ∀ od, Q x (upd H1 d (.frz od u))
theorem pe_frz {X : Cx} {e : Expr} {t : TE} (h : PE X e t) : PE X e (tFrz t) := by
  refine ⟨fun pins s σ H Q I hw => ?_⟩
  refine thn (h.run pins s σ H _ I hw) fun v s1 ⟨x, H1, I1, r, d, u, ex, hd, mu, q⟩ => ?_
  obtain ⟨od, I2⟩ := I1.lock hd mu
  exact ⟨x, _, I2, r, q od⟩
/-! ### lists unequal: not where their items are equal -/
section
variable {P : Program} {w : World}
theorem ne_loop (l b : Addr) (xs ys : Array Value) (n m : Nat) (d e : Option Addr) (sx sy : Array (Option Value)) (hz : xs.size = ys.size) (k : Nat) :
    ∀ i : Nat, xs.size - i = k → MeetsIn P w (Builtin.«list.__eq__.loop» ⟨[.ref l, .ref b, rawInt i, rawInt 3], []⟩)
      (fun A R s => s.heap.get? l = some { cls := .type "list", dict := d, data := .seq xs n, slots := sx } ∧ s.heap.get? b = some { cls := .type "list", dict := e, data := .seq ys m, slots := sy } ∧
        (∀ j (h1 : j < xs.size) (h2 : j < ys.size), EqP P w A.in1 s xs[j] ys[j] true) ∧
        R (.ok (.ret (.bool false))) s) := by
  induction k with
  | zero =>
    intro i hk A R s h
    obtain ⟨hp, g, dr, tk, os⟩ := s; obtain ⟨hl, hb, he, h⟩ := h
    wp_walk using AutoSeq1.wpAny_loadPart' hl, AutoSeq1.wpAny_loadPart' hb
    have hi1 : xs[((i : Nat) : Int).toNat]? = none := by simp; omega
    have hi2 : ys[((i : Nat) : Int).toNat]? = none := by simp; omega
    rw [hi1, hi2]
    wp_walk using AutoSeq1.wpAny_loadPart' hl, AutoSeq1.wpAny_loadPart' hb
    show R (.ok (.ret (.bool (xs.size != ys.size)))) _
    rw [hz]
    simpa using h
  | succ k ih =>
    intro i hk A R s h
    obtain ⟨hp, g, dr, tk, os⟩ := s; obtain ⟨hl, hb, he, h⟩ := h
    wp_walk using AutoSeq1.wpAny_loadPart' hl, AutoSeq1.wpAny_loadPart' hb
    have hlt : i < xs.size := by omega
    have hlt2 : i < ys.size := by omega
    have hi1 : xs[((i : Nat) : Int).toNat]? = some xs[i] := by simp [hlt]
    have hi2 : ys[((i : Nat) : Int).toNat]? = some ys[i] := by simp [hlt2]
    have hc : ((i : Int) + 1) = ((i + 1 : Nat) : Int) := by push_cast; rfl
    rw [hi1, hi2]
    refine wpAny_bind (he i hlt hlt2 _ _ ?_)
    wp_walk
    rw [hc]
    exact ⟨plainId_quiet plain_eq_loop _, codeAny_builtin entry_eq_loop (by
      rw [Around.under_plainId plain_eq_loop _]
      exact ih (i + 1) (by omega) A R _ ⟨hl, hb, he, h⟩)⟩
theorem ne_lists (l b : Addr) (xs ys : Array Value) (n m : Nat) (d e : Option Addr) (sx sy : Array (Option Value)) (hz : xs.size = ys.size) :
    MeetsIn P w (Builtin.«list.__ne__» ⟨[.ref l, .ref b], []⟩)
      (fun A R s => s.heap.get? l = some { cls := .type "list", dict := d, data := .seq xs n, slots := sx } ∧ s.heap.get? b = some { cls := .type "list", dict := e, data := .seq ys m, slots := sy } ∧
        (∀ j (h1 : j < xs.size) (h2 : j < ys.size), EqP P w A.in1 s xs[j] ys[j] true) ∧
        R (.ok (.ret (.bool false))) s) := by
  intro A R s h
  obtain ⟨hp, g, dr, tk, os⟩ := s; obtain ⟨hl, hb, he, h⟩ := h
  have f3 := AutoSeq1.sub_list_list
  have hne : ¬ (xs.size != ys.size) = true := by simp [hz]
  wp_walk using AutoSeq1.wpAny_loadPart' hl, AutoSeq1.wpAny_loadPart' hb
  exact ⟨plainId_quiet plain_eq_loop _, codeAny_builtin entry_eq_loop (by
    rw [Around.under_plainId plain_eq_loop _]
    exact ne_loop l b xs ys n m d e sx sy hz _ 0 rfl A R _ ⟨hl, hb, he, h⟩)⟩
end
section
variable {X : Cx}
/-- two lists whose items are equal, held unequal -/
def rNeV (K : PySem.W.Frag) : R2 := fun x y H Q => ∃ (a b : Addr) (xs ys : List V) (n : Nat), x = .ref a ∧ y = .ref b ∧ SqL K H a xs ∧ SqL K H b ys ∧ n ≤ 50 ∧ Paired (EqV K H n) xs ys ∧ Q (.bl false) H
theorem op_neV (hu : X.A.units + 64 < cLine) : OpR X (compareOp .NotEq) (rNeV X.K) := by
  intro pins s σ H x y v u Q I rx ry h
  obtain ⟨a, b, xs, ys, n, rfl, rfl, ha, hb, hn, hp, q⟩ := h
  obtain rfl : v = Value.ref a := rx
  obtain rfl : u = Value.ref b := ry
  obtain ⟨us, r1, p1, _⟩ := I.list ha
  obtain ⟨ws, r2, p2, _⟩ := I.list hb
  have len : us.length = ws.length := by rw [← r1.length, ← r2.length]; exact Paired.length hp
  obtain ⟨⟨cls1, dd1, data1, sl1⟩, g1, c1, m1, d1⟩ := id p1.isList
  obtain ⟨⟨cls2, dd2, data2, sl2⟩, g2, c2, m2, d2⟩ := id p2.isList
  simp only at c1 d1 c2 d2
  subst c1 d1 c2 d2
  have ta : s.TypeIs (.ref a) "list" := ⟨_, g1, rfl⟩
  have tb : s.TypeIs (.ref b) "list" := ⟨_, g2, rfl⟩
  have items : ∀ j (h1 : j < us.toArray.size) (h2 : j < ws.toArray.size), EqP X.prog X.w X.A.in1 s us.toArray[j] ws.toArray[j] true := fun j h1 h2 => by
    have k := items_run (fun x y v u e rx ry => eqV_run I n X.A.in1 (by show X.A.units + 1 + n < cLine; omega) x y v u e rx ry) hp r1 r2 j (by simpa using h1) (by simpa using h2)
    simpa using k
  refine wpAny_richCompare_same_room (op := .NotEq) ta tb F.slot_list_ne (call_meetsIn F.slot_list_ne ta F.entry_list_ne (F.args_list_ne_2 _ _) (ne_lists a b us.toArray ws.toArray _ _ _ _ _ _ (by simpa using len)) ⟨g1, g2, items, ?_⟩) (by omega)
  exact ⟨fun z => (nomatch z), .bl false, H, I, rfl, q⟩
end
/-! ### readings -/
section
variable {K : PySem.W.Frag} {σ : L2.St} {H H' : Hp} {ta tb tc te td tl : TE} {t u : TT} {x y z v : V} {D : Ends} {tu tw tz : TS} {R : V → Hp → Prop}
theorem el_lcItemsN {kvs : List (Key × V)} {i j : Nat} {vs : List Nat} (v : Nat → V) (h : ∀ H1, Ex H H1 → EvX td σ H1 (fun x H' => ∃ d, x = .ref d ∧ H1 d = none ∧ H' d = some (.dK kvs))) (hz : kvs.length ≤ 40000)
    (hw : ∀ x y, wipe (((wipe σ vs).set i (some x)).set j (some y)) vs = wipe σ vs)
    (he : ∀ (n : Nat) (k : Key) (x : V) H1, Ex H H1 → kvs[n]? = some (k, x) → Ev te (((wipe σ vs).set i (some (kV k))).set j (some x)) H1 (v n)) :
    EvL (tLc (iItems (tFrz td)) (gTup K 2 (gCons (gName i) (gCons (gName j) gNil))) tYes te vs) σ H (given kvs.length (fun _ => true) v) := fun H0 e Q q => by
  refine h H0 e H0 (Ex.refl H0) _ fun x H1 e1 r => ?_
  obtain ⟨d, rfl, hd, h1⟩ := r
  refine ⟨d, .dK kvs, rfl, h1, True.intro, fun od => ?_⟩
  have e1' : Ex H0 (upd H1 d (.frz od (.dK kvs))) := Ex.mut e1 hd
  refine ⟨d, od, kvs, rfl, upd_same, fun Dl hD => ?_⟩
  refine ⟨fun n m H' => m = kvs.length - n ∧ n ≤ kvs.length ∧ Cw (upd H1 d (.frz od (.dK kvs))) (fun _ => true) v Dl n H', ⟨kvs.length, rfl, Nat.zero_le _, hD, Ex.new hD, upd_same⟩, ?_⟩
  rintro n m H' ⟨rfl, hn, p⟩
  have hq : H' d = some (.frz od (.dK kvs)) := p.2.1 d _ upd_same
  by_cases lt : n < kvs.length
  · refine .inr ⟨⟨hq, lt⟩, fun H2 => Cw (upd H1 d (.frz od (.dK kvs))) (fun _ => true) v Dl (n + 1) H2, fun H2 p2 => ⟨kvs.length - (n + 1), by omega, rfl, lt, p2⟩, fun x H2 y => ?_⟩
    obtain ⟨T, k, x, hk, rfl, hT, rfl⟩ := y
    refine ⟨T, [kV k, x], rfl, st_of upd_same, rfl, kV k, [x], rfl, x, [], rfl, rfl, hw _ _, ?_⟩
    exact cw_turn (MuK.Cw.later p (Ex.new hT)) (by omega) (fun H3 e3 Q q => q H3 (Ex.refl H3)) fun _ => he n k x _ (e.trans e1') hk
  · have e2 : n = kvs.length := by omega
    subst e2
    exact .inl ⟨⟨hq, Nat.le_refl _⟩, q Dl H' (fresh_back e1' p.1) (e1'.trans p.2.1) p.2.2⟩
/-- for k in d, d locked -/
theorem s_forKeysD {d : Addr} {kvs : List (Key × V)} {i : Nat} (hd : H d = some (.dK kvs)) (h : ∀ H1, Ev td σ H1 (.ref d)) (Pv : Obj → Nat → L2.St → Hp → Prop)
    (h0 : ∀ od H1, Ex (upd H d (.frz od (.dK kvs))) H1 → Pv od 0 σ H1)
    (hs : ∀ od n k x σ' H' H2, kvs[n]? = some (k, x) → Pv od n σ' H' → Ex (upd H d (.frz od (.dK kvs))) H' → Ex H' H2 →
      tu { D with nx := fun σ3 H3 => Pv od (n + 1) σ3 H3 ∧ Ex (upd H d (.frz od (.dK kvs))) H3, ct := fun σ3 H3 => Pv od (n + 1) σ3 H3 ∧ Ex (upd H d (.frz od (.dK kvs))) H3, bk := fun σ' H' => H' d = some (.frz od (.dK kvs)) ∧ D.nx σ' (upd H' d (.dK kvs)), rt := fun v H' => H' d = some (.frz od (.dK kvs)) ∧ D.rt v (upd H' d (.dK kvs)) } (σ'.set i (some (kV k))) H2)
    (hdn : ∀ od σ' H', Pv od kvs.length σ' H' → Ex H (upd H' d (.dK kvs)) → D.nx σ' (upd H' d (.dK kvs))) :
    tLock (tFor (iKeys td) (gName i) tu) D σ H := by
  refine ⟨d, .dK kvs, hd, True.intro, fun od => ?_⟩
  refine h _ _ (Ex.refl _) _ fun H1 e1 => ⟨d, od, rfl, .inl ⟨kvs, e1 d _ upd_same, ?_⟩⟩
  refine ⟨fun n m σ' H' => m = kvs.length - n ∧ n ≤ kvs.length ∧ Pv od n σ' H' ∧ Ex (upd H d (.frz od (.dK kvs))) H', ⟨kvs.length, rfl, Nat.zero_le _, h0 od H1 e1, e1⟩, ?_⟩
  rintro n m σ' H' ⟨rfl, hn, p, e⟩
  have q := e d _ upd_same
  by_cases lt : n < kvs.length
  · refine .inr ⟨⟨q, lt⟩, fun σ3 H3 => Pv od (n + 1) σ3 H3 ∧ Ex (upd H d (.frz od (.dK kvs))) H3, fun σ2 H2 p2 => ⟨kvs.length - (n + 1), by omega, rfl, lt, p2.1, p2.2⟩, fun x H2 y => ?_⟩
    obtain ⟨rfl, k, v, hk, rfl⟩ := y
    exact hs od n k v σ' _ _ hk p e (Ex.refl _)
  · have e2 : n = kvs.length := by omega
    subst e2
    exact .inl ⟨⟨q, Nat.le_refl _⟩, q, hdn od σ' H' p (lock_back hd e)⟩
theorem q_forKeysD {d : Addr} {kvs : List (Key × V)} {i : Nat} (hd : H d = some (.dK kvs)) (h : ∀ H1, Ev td σ H1 (.ref d)) (Pv : Obj → Nat → L2.St → Hp → Prop)
    (h0 : ∀ od H1, Ex (upd H d (.frz od (.dK kvs))) H1 → Pv od 0 σ H1)
    (hs : ∀ od n k x σ' H' H2, kvs[n]? = some (k, x) → Pv od n σ' H' → Ex (upd H d (.frz od (.dK kvs))) H' → Ex H' H2 →
      tu { D with nx := fun σ3 H3 => Pv od (n + 1) σ3 H3 ∧ Ex (upd H d (.frz od (.dK kvs))) H3, ct := fun σ3 H3 => Pv od (n + 1) σ3 H3 ∧ Ex (upd H d (.frz od (.dK kvs))) H3, bk := fun σ' H' => H' d = some (.frz od (.dK kvs)) ∧ tz D σ' (upd H' d (.dK kvs)), rt := fun v H' => H' d = some (.frz od (.dK kvs)) ∧ D.rt v (upd H' d (.dK kvs)) } (σ'.set i (some (kV k))) H2)
    (hdn : ∀ od σ' H', Pv od kvs.length σ' H' → Ex H (upd H' d (.dK kvs)) → tz D σ' (upd H' d (.dK kvs))) :
    tSeq (tLock (tFor (iKeys td) (gName i) tu)) tz D σ H := s_forKeysD (D := { D with nx := tz D }) hd h Pv h0 hs hdn
theorem evx_lst3 {R1 : V → Hp → Prop} {R2' : V → V → Hp → Prop} {R3 : V → V → V → Hp → Prop} (h1 : EvX ta σ H R1) (h2 : ∀ v1 H1, Ex H H1 → R1 v1 H1 → EvX tb σ H1 (R2' v1))
    (h3 : ∀ v1 v2 H1 H2, Ex H H1 → R1 v1 H1 → Ex H1 H2 → R2' v1 v2 H2 → EvX tc σ H2 (R3 v1 v2)) :
    EvX (tLst (tCons ta (tCons tb (tCons tc tNil)))) σ H (fun v H' => ∃ (p : Addr) (v1 v2 v3 : V), v = .ref p ∧ H p = none ∧ H' p = some (.lst [v1, v2, v3]) ∧ ∃ H1 H2 H3, Ex H H1 ∧ R1 v1 H1 ∧ Ex H1 H2 ∧ R2' v1 v2 H2 ∧ Ex H2 H3 ∧ R3 v1 v2 v3 H3 ∧ Ex H3 H') := fun H0 e Q q =>
  h1 H0 e _ fun v1 H1 e1 r1 => h2 v1 H1 (e.trans e1) r1 H1 (Ex.refl H1) _ fun v2 H2 e2 r2 => h3 v1 v2 H1 H2 (e.trans e1) r1 e2 r2 H2 (Ex.refl H2) _ fun v3 H3 e3 r3 => ⟨sz_of (by simp), fun p hp =>
    q (.ref p) _ (((e1.trans e2).trans e3).trans (Ex.new hp)) ⟨p, v1, v2, v3, rfl, fresh_back (((e.trans e1).trans e2).trans e3) hp, upd_same, H1, H2, H3, e.trans e1, r1, e2, r2, e3, r3, Ex.new hp⟩⟩
theorem el_rev {a : Addr} {xs : List V} (h : Ev te σ H (.ref a)) (hs : SqL K H a xs) : EvL (tRevL K te) σ H xs.reverse := fun H1 e Q q =>
  h H1 e _ fun H2 e2 => ⟨a, xs, rfl, ex_l (e.trans e2) hs, fun p hp => q p _ (fresh_back e2 hp) (e2.trans (Ex.new hp)) upd_same⟩
/-- arguments: two new lists, then others -/
theorem ev_callNN {Dd : Hp → List V → V → Prop} {E : XK} {tr : TA} {vs xs ys : List V} (h : EvL ta σ H xs) (h2 : EvL tb σ H ys) (hr : EvA tr σ H vs) (hs : ∀ p r H1, Ex H H1 → H1 p = some (.lst xs) → H1 r = some (.lst ys) → Dd H1 (.ref p :: .ref r :: vs) v) :
    Ev (tCall (SpVal Dd) [] E (tCons ta (tCons tb tr))) σ H v := fun H1 e Q q =>
  h H1 e _ fun p H2 _ e2 hp => h2 H2 (e.trans e2) _ fun r H3 _ e3 hr2 => hr H3 ((e.trans e2).trans e3) _ fun H4 e4 => ⟨v, by rw [List.append_nil]; exact hs p r H4 (((e.trans e2).trans e3).trans e4) ((e3.trans e4) p _ hp) (e4 r _ hr2), fun H5 e5 => q H5 (((e2.trans e3).trans e4).trans e5)⟩
/-- the second argument a new list -/
theorem eu_callN2 {Dd : Hp → List V → List V → Prop} {E : XK} {tr : TA} {v1 : V} {vs xs ys : List V} (h : Ev ta σ H v1) (h2 : EvL tb σ H xs) (hr : EvA tr σ H vs) (hs : ∀ p H1, Ex H H1 → H1 p = some (.lst xs) → Dd H1 (v1 :: .ref p :: vs) ys) :
    EvU (tCall (SpTup Dd) [] E (tCons ta (tCons tb tr))) σ H ys := fun H1 e Q q =>
  h H1 e _ fun H2 e2 => h2 H2 (e.trans e2) _ fun p H3 _ e3 hp => hr H3 ((e.trans e2).trans e3) _ fun H4 e4 => ⟨ys, by rw [List.append_nil]; exact hs p H4 (((e.trans e2).trans e3).trans e4) (e4 p _ hp), fun t H5 ht e5 h5 => q t H5 (fresh_back ((e2.trans e3).trans e4) ht) (((e2.trans e3).trans e4).trans e5) h5⟩
theorem ev_opU1 {r : R2} {xs : List V} (ha : EvU ta σ H xs) (hb : ∀ H1, Ex H H1 → Ev tb σ H1 y) (hr : ∀ p H1, H1 p = some (.tup xs) → Ex H H1 → RV r (.ref p) y H1 z) : Ev (tOp r ta tb) σ H z := fun H1 e Q q =>
  ha H1 e _ fun p H2 _ e2 hp => hb H2 (e.trans e2) H2 (Ex.refl H2) _ fun H3 e3 => hr p H3 (e3 p _ hp) ((e.trans e2).trans e3) H3 (Ex.refl H3) Q fun H4 e4 => q H4 ((e2.trans e3).trans e4)
theorem s_forX {g : TG} (h : EvX tl σ H R) (k : ∀ v H1, Ex H H1 → R v H1 → tFor (iList K (tC v)) g tu D σ H1) : tFor (iList K tl) g tu D σ H := h H (Ex.refl H) _ k
theorem q_forX {g : TG} (h : EvX tl σ H R) (k : ∀ v H1, Ex H H1 → R v H1 → tSeq (tFor (iList K (tC v)) g tu) tz D σ H1) : tSeq (tFor (iList K tl) g tu) tz D σ H := h H (Ex.refl H) _ k
theorem ev_neV {a : Addr} {xs ys : List V} {n : Nat} (ha : Ev ta σ H (.ref a)) (h1 : SqL K H a xs) (hb : EvL tb σ H ys) (hn : n ≤ 50) (e1 : ∀ H1, Ex H H1 → Paired (EqV K H1 n) xs ys) : Ev (tOp (rNeV K) ta tb) σ H (.bl false) :=
  ev_opL ha hb fun p H1 hp e H2 e3 Q q => ⟨a, p, xs, ys, n, rfl, rfl, ex_l (e.trans e3) h1, sq_of (e3 p _ hp), hn, e1 H2 (e.trans e3), q H2 (Ex.refl H2)⟩
theorem txl_eq {p q : Addr} {ws : List Str} {n : Nat} (hp : SqL K H p (ws.map V.str)) (hq : SqL K H q (ws.map V.str)) : EqV K H (n + 2) (.ref p) (.ref q) :=
  .inr (.inr (.inl ⟨p, q, _, _, rfl, rfl, hp, hq, texts_eq (n := n) ws⟩))
theorem dict_eqR {p q : Addr} {kvs : List (Key × V)} (hp : H p = some (.dK kvs)) (hq : H q = some (.dK kvs)) (nd : (kvs.map (·.1)).Nodup) (hi : IntD kvs) : EqV K H 3 (.ref p) (.ref q) := dict_eq hp hq nd hi
theorem atI_modS {ws : List Str} {n : Int} {m : Nat} {d : Str} (hm : ws.length = m) (h0 : 0 < m) : atI (ws.map V.str) (n % (m : Int)) = some (.str (ws.getD (n % (m : Int)).toNat d)) := by
  have h := atI_mod (xs := ws.map V.str) (n := n) (m := m) (.str d) (by rw [List.length_map]; exact hm) h0
  rw [h]
  congr 1
  rw [List.getD_eq_getElem?_getD, List.getD_eq_getElem?_getD, List.getElem?_map]
  cases ws[(n % (m : Int)).toNat]? <;> rfl
theorem ev_dgetF {ty : TE} {d : Addr} {k : Key} {kvs : List (Key × V)} (hd : Ev td σ H (.ref d)) (h : Rd H d (.dK kvs)) (hk : Ev ty σ H (kV k)) (hv : valV kvs k = some v) : Ev (tDGet td ty) σ H v := fun H1 e Q q =>
  hd H1 e _ fun H2 e2 => hk H2 (e.trans e2) _ fun H3 e3 => ⟨d, v, rfl, .inl ⟨kvs, k, ex_rd ((e.trans e2).trans e3) h, rfl, hv.symm⟩, q H3 (e2.trans e3)⟩
/-- d[k] = a new tuple -/
theorem q_dputU {ty tv : TE} {d : Addr} {kvs : List (Key × V)} {k : Key} {xs : List V} (hd : H d = some (.dK kvs)) (hz : kvs.length < 100000) (hv : EvU tv σ H xs) (ho : Ev td σ H (.ref d)) (hk : Ev ty σ H (kV k))
    (q : ∀ t H1, Ex H H1 → H t = none → H1 t = some (.tup xs) → tz D σ (upd H1 d (.dK (putK kvs k (.ref t))))) : tSeq (sDPut td ty tv) tz D σ H := by
  refine hv H (Ex.refl H) _ fun t H1 ht e1 h1 => ho H1 e1 _ fun H2 e2 => hk H2 (e1.trans e2) _ fun H3 e3 => ?_
  have e := (e1.trans e2).trans e3
  exact ⟨d, _, rfl, DPut.k (e d _ hd) (sz_lt hz), q t H3 e ht ((e2.trans e3) t _ h1)⟩
/-- {k: a new tuple, ..}, four of them -/
theorem evx_disp4 {k1 k2 k3 k4 : Str} {x1 x2 x3 x4 : List V} {t1 t2 t3 t4 : TE} (h1 : EvU t1 σ H x1) (h2 : EvU t2 σ H x2) (h3 : EvU t3 σ H x3) (h4 : EvU t4 σ H x4)
    (hm : ∀ a b c d : V, mergeK [] [((.inr k1 : Key), a), (.inr k2, b), (.inr k3, c), (.inr k4, d)] = [(.inr k1, a), (.inr k2, b), (.inr k3, c), (.inr k4, d)]) :
    EvX (tDisp [(tC (.str k1), t1), (tC (.str k2), t2), (tC (.str k3), t3), (tC (.str k4), t4)]) σ H (fun v H' => ∃ d p1 p2 p3 p4 : Addr, v = .ref d ∧ H d = none ∧ H' d = some (.dK [(.inr k1, .ref p1), (.inr k2, .ref p2), (.inr k3, .ref p3), (.inr k4, .ref p4)]) ∧ H' p1 = some (.tup x1) ∧ H' p2 = some (.tup x2) ∧ H' p3 = some (.tup x3) ∧ H' p4 = some (.tup x4)) := fun H0 e Q q p hp => by
  have n1 : Ex H0 (upd H0 p (.dK [])) := Ex.new hp
  have ne : ∀ {b : Addr} {o : HO} {H2 : Hp}, H2 b = some (.tup x1) ∨ H2 b = some (.tup x2) ∨ H2 b = some (.tup x3) ∨ H2 b = some (.tup x4) → H2 p = some (.dK []) → b ≠ p := fun h g z => by
    rw [z, g] at h
    rcases h with h | h | h | h <;> exact nomatch h
  refine h1 _ (e.trans n1) _ fun p1 H1 _ e1 g1 => h2 H1 ((e.trans n1).trans e1) _ fun p2 H2 _ e2 g2 => h3 H2 (((e.trans n1).trans e1).trans e2) _ fun p3 H3 _ e3 g3 => h4 H3 ((((e.trans n1).trans e1).trans e2).trans e3) _ fun p4 H4 _ e4 g4 => ?_
  have gp : H4 p = some (.dK []) := (((e1.trans e2).trans e3).trans e4) _ _ upd_same
  refine ⟨gp, [(.inr k1, .ref p1), (.inr k2, .ref p2), (.inr k3, .ref p3), (.inr k4, .ref p4)], rfl, (by show 4 ≤ 15; decide), ?_⟩
  rw [hm]
  have f1 := ((e2.trans e3).trans e4) _ _ g1
  have f2 := (e3.trans e4) _ _ g2
  have f3 := e4 _ _ g3
  exact q _ _ (Ex.mut ((((n1.trans e1).trans e2).trans e3).trans e4) hp) ⟨p, p1, p2, p3, p4, rfl, fresh_back e hp, upd_same, (upd_ne (ne (o := .dK []) (.inl f1) gp)).trans f1, (upd_ne (ne (o := .dK []) (.inr (.inl f2)) gp)).trans f2, (upd_ne (ne (o := .dK []) (.inr (.inr (.inl f3))) gp)).trans f3, (upd_ne (ne (o := .dK []) (.inr (.inr (.inr g4))) gp)).trans g4⟩
end
/-! ### words -/
def BagOk (u : Str) : Prop := WordOk u ∧ u.length ≤ 24
instance (w : Str) : Decidable (BagOk w) := inferInstanceAs (Decidable (_ ∧ _))
def w10 : List Str := ["a", "b", "ab", "ba", "a.1", "b.2", "1", "x.", "a.10", "zz9"]
def wordM (n : Int) : Str := if n / 10 % 9 = 4 then cutS (Txt.mul (w10.getD (n % 10).toNat "a") 24) none (some 24) else if n / 10 % 9 = 5 then (⟨#[sgn (n / 90)]⟩ : Str) ++ (⟨#[sgn (n / 3330)]⟩ : Str) else w10.getD (n % 10).toNat "a"
theorem wordM_ok (n : Int) : BagOk (wordM n) := by
  unfold wordM
  split
  · exact getDP (P := fun u : Str => BagOk (cutS (Txt.mul u 24) none (some 24))) (by decide +kernel) (by decide +kernel) _
  · split
    · refine ⟨word_ok (sgn_in _) (tail_of (l := [sgn (n / 3330)]) (by show 1 ≤ 29; decide) fun c m => ?_), ?_⟩
      · obtain rfl := List.mem_singleton.mp m
        exact sgn_in _
      · show ((#[sgn (n / 90)] : Array Nat) ++ #[sgn (n / 3330)]).size ≤ 24
        simp
    · exact getDP (P := fun u : Str => BagOk u) (by decide +kernel) (by decide +kernel) _
/-! ### how often each comes -/
def firsts (ws : List Str) : List Str := ws.foldl (fun ks u => if u ∈ ks then ks else ks ++ [u]) []
theorem firsts_app (ws : List Str) (u : Str) : firsts (ws ++ [u]) = if u ∈ firsts ws then firsts ws else firsts ws ++ [u] := by
  unfold firsts
  rw [List.foldl_append]
  rfl
theorem snoc_ind {α : Type} {C : List α → Prop} (h0 : C []) (h1 : ∀ l a, C l → C (l ++ [a])) : ∀ l, C l := by
  have k : ∀ n (l : List α), l.length = n → C l := by
    intro n
    induction n with
    | zero =>
      intro l hl
      rw [List.length_eq_zero_iff.mp hl]
      exact h0
    | succ n ih =>
      intro l hl
      have ne : l ≠ [] := fun z => by
        rw [z] at hl
        exact nomatch hl
      rw [← List.dropLast_concat_getLast ne]
      exact h1 _ _ (ih _ (by rw [List.length_dropLast]; omega))
  exact fun l => k l.length l rfl
theorem firsts_spec (ws : List Str) : (firsts ws).Nodup ∧ ∀ u, u ∈ firsts ws ↔ u ∈ ws := by
  refine snoc_ind (C := fun ws => (firsts ws).Nodup ∧ ∀ u, u ∈ firsts ws ↔ u ∈ ws) ⟨List.nodup_nil, fun u => Iff.rfl⟩ (fun l a ih => ?_) ws
  obtain ⟨nd, m⟩ := ih
  rw [firsts_app]
  by_cases c : a ∈ firsts l
  · rw [if_pos c]
    refine ⟨nd, fun u => ?_⟩
    rw [m, List.mem_append, List.mem_singleton]
    refine ⟨.inl, fun h => ?_⟩
    rcases h with h | rfl
    · exact h
    · exact (m _).mp c
  · rw [if_neg c]
    refine ⟨List.nodup_append.mpr ⟨nd, by simp, fun x hx y hy z => ?_⟩, fun u => ?_⟩
    · rw [List.mem_singleton] at hy
      exact c (hy ▸ z ▸ hx)
    · rw [List.mem_append, List.mem_append, m]
theorem firsts_len (ws : List Str) : (firsts ws).length ≤ ws.length := nodup_len (firsts_spec ws).1 fun j h => ((firsts_spec ws).2 j).mp h
def cntD (ws : List Str) : List (Key × V) := (firsts ws).map fun u => (Sum.inr u, V.int (ws.count u))
theorem val_ks {g : Str → V} : ∀ {ks : List Str} {a : Str}, valV (ks.map fun u => ((Sum.inr u : Key), g u)) (.inr a) = if a ∈ ks then some (g a) else none
  | [], a => rfl
  | b :: r, a => by
    unfold valV
    rw [List.map_cons, List.find?_cons]
    by_cases c : b = a
    · subst c
      simp
    · have ne : ¬ ((Sum.inr b : Key) = Sum.inr a) := fun z => c (Sum.inr.inj z)
      rw [decide_eq_false ne]
      have := val_ks (g := g) (ks := r) (a := a)
      unfold valV at this
      show Option.map _ _ = _
      rw [this]
      have : (a ∈ b :: r) ↔ a ∈ r := by
        rw [List.mem_cons]
        exact ⟨fun h => h.elim (fun z => absurd z.symm c) id, .inr⟩
      simp only [this]
theorem val_cnt (ws : List Str) (a : Str) : (valV (cntD ws) (.inr a)).getD (.int 0) = .int (ws.count a) := by
  unfold cntD
  rw [val_ks (g := fun u => V.int (ws.count u))]
  split
  · rfl
  · rename_i h
    rw [(firsts_spec ws).2] at h
    rw [List.count_eq_zero.mpr h]
    rfl
theorem cnt_put (ws : List Str) (a : Str) : putK (cntD ws) (.inr a) (.int ((ws.count a : Int) + 1)) = cntD (ws ++ [a]) := by
  unfold cntD
  rw [firsts_app]
  have hc : ∀ u, ((ws ++ [a]).count u : Int) = ws.count u + (if a = u then 1 else 0) := fun u => by
    rw [List.count_append, List.count_singleton]
    by_cases c : a = u
    · subst c
      simp
    · rw [if_neg c, show (a == u) = false from beq_false_of_ne c]
      simp
  unfold putK
  by_cases c : a ∈ firsts ws
  · rw [if_pos c, if_pos (by
      rw [List.any_eq_true]
      exact ⟨_, List.mem_map.mpr ⟨a, c, rfl⟩, decide_eq_true rfl⟩), List.map_map]
    refine List.map_congr_left fun u hu => ?_
    rw [Function.comp_apply]
    by_cases d : a = u
    · subst d
      rw [if_pos rfl, hc, if_pos rfl]
    · rw [if_neg (fun z => d (Sum.inr.inj z).symm), hc, if_neg d, Int.add_zero]
  · have ca : ws.count a = 0 := List.count_eq_zero.mpr fun h => c (((firsts_spec ws).2 a).mpr h)
    rw [if_neg c, if_neg (by
      rw [Bool.not_eq_true, List.any_eq_false]
      intro kv m e
      obtain ⟨u, hu, rfl⟩ := List.mem_map.mp m
      exact c ((Sum.inr.inj (of_decide_eq_true e)) ▸ hu)), List.map_append]
    congr 1
    · refine List.map_congr_left fun u hu => ?_
      rw [hc, if_neg (fun z : a = u => c (by rw [z]; exact hu)), Int.add_zero]
    · show [((Sum.inr a : Key), V.int ((ws.count a : Int) + 1))] = [((Sum.inr a : Key), V.int ((ws ++ [a]).count a))]
      rw [hc, if_pos rfl]
theorem cnt_len (ws : List Str) : (cntD ws).length ≤ ws.length := by
  unfold cntD
  rw [List.length_map]
  exact firsts_len ws
/-! ### what bags have in common -/
def comT (kvs : List (Key × V)) (one other : List Str) (u : Str) : Int := wOf kvs u * min (one.count u : Int) (other.count u : Int)
def comM (kvs : List (Key × V)) (one other : List Str) : Int := ((firsts one).map (comT kvs one other)).sum
theorem sum_perm {f : Str → Int} {us ws : List Str} (p : us.Perm ws) : (us.map f).sum = (ws.map f).sum := by
  induction p with
  | nil => rfl
  | cons x _ ih => simp only [List.map_cons, List.sum_cons, ih]
  | swap x y l => simp only [List.map_cons, List.sum_cons]; omega
  | trans _ _ h1 h2 => exact h1.trans h2
theorem sum_filter {f : Str → Int} {p : Str → Bool} : ∀ {us : List Str}, (∀ u ∈ us, p u = false → f u = 0) → ((us.filter p).map f).sum = (us.map f).sum
  | [], _ => rfl
  | a :: r, h => by
    have ih := sum_filter (f := f) (p := p) (us := r) fun u hu => h u (List.mem_cons_of_mem _ hu)
    by_cases c : p a = true
    · rw [List.filter_cons_of_pos c, List.map_cons, List.map_cons, List.sum_cons, List.sum_cons, ih]
    · rw [List.filter_cons_of_neg c, ih, List.map_cons, List.sum_cons, h a List.mem_cons_self (Bool.not_eq_true _ ▸ c), Int.zero_add]
theorem sum_same {f : Str → Int} {us ws : List Str} (n1 : us.Nodup) (n2 : ws.Nodup) (h1 : ∀ u ∈ us, u ∉ ws → f u = 0) (h2 : ∀ u ∈ ws, u ∉ us → f u = 0) : (us.map f).sum = (ws.map f).sum := by
  rw [← sum_filter (us := us) (p := fun u => decide (u ∈ ws)) fun u hu e => h1 u hu (of_decide_eq_false e), ← sum_filter (us := ws) (p := fun u => decide (u ∈ us)) fun u hu e => h2 u hu (of_decide_eq_false e)]
  refine sum_perm ((List.perm_ext_iff_of_nodup (n1.filter _) (n2.filter _)).mpr fun u => ?_)
  rw [List.mem_filter, List.mem_filter, decide_eq_true_eq, decide_eq_true_eq]
  exact And.comm
theorem comT_symm (kvs : List (Key × V)) (one other : List Str) : comT kvs other one = comT kvs one other := funext fun u => by
  unfold comT
  rw [Int.min_comm]
theorem comT_zero {kvs : List (Key × V)} {one other : List Str} {u : Str} (h : u ∉ one ∨ u ∉ other) : comT kvs one other u = 0 := by
  unfold comT
  rcases h with h | h
  · rw [List.count_eq_zero.mpr h]
    rw [show min ((0 : Nat) : Int) (other.count u : Int) = 0 by omega, Int.mul_zero]
  · rw [List.count_eq_zero.mpr h]
    rw [show min (one.count u : Int) ((0 : Nat) : Int) = 0 by omega, Int.mul_zero]
theorem comM_symm (kvs : List (Key × V)) (one other : List Str) : comM kvs other one = comM kvs one other := by
  unfold comM
  rw [comT_symm]
  refine sum_same (firsts_spec _).1 (firsts_spec _).1 (fun u _ h => comT_zero (.inl fun z => h (((firsts_spec _).2 u).mpr z))) fun u _ h => comT_zero (.inr fun z => h (((firsts_spec _).2 u).mpr z))
theorem comM_perm {kvs : List (Key × V)} {one one2 other other2 : List Str} (p : one2.Perm one) (r : other2.Perm other) : comM kvs one2 other2 = comM kvs one other := by
  unfold comM
  have e : comT kvs one2 other2 = comT kvs one other := funext fun u => by
    unfold comT
    rw [p.count_eq, r.count_eq]
  rw [e]
  refine sum_perm ((List.perm_ext_iff_of_nodup (firsts_spec _).1 (firsts_spec _).1).mpr fun u => ?_)
  rw [(firsts_spec _).2, (firsts_spec _).2, p.mem_iff]
theorem sum_le {f g : Str → Int} : ∀ {us : List Str}, (∀ u ∈ us, f u ≤ g u) → (us.map f).sum ≤ (us.map g).sum
  | [], _ => Int.le_refl _
  | a :: r, h => by
    have ih := sum_le (f := f) (g := g) (us := r) fun u hu => h u (List.mem_cons_of_mem _ hu)
    have := h a List.mem_cons_self
    simp only [List.map_cons, List.sum_cons]
    omega
theorem sum_bd {f : Str → Int} {B : Int} : ∀ {us : List Str}, (∀ u ∈ us, 0 ≤ f u ∧ f u ≤ B) → 0 ≤ (us.map f).sum ∧ (us.map f).sum ≤ B * us.length
  | [], _ => by simp
  | a :: r, h => by
    obtain ⟨i1, i2⟩ := sum_bd (f := f) (B := B) (us := r) fun u hu => h u (List.mem_cons_of_mem _ hu)
    obtain ⟨j1, j2⟩ := h a List.mem_cons_self
    simp only [List.map_cons, List.sum_cons, List.length_cons]
    refine ⟨by omega, ?_⟩
    have : B * ((r.length + 1 : Nat) : Int) = B * (r.length : Int) + B := by
      rw [show ((r.length + 1 : Nat) : Int) = (r.length : Int) + 1 by omega, Int.mul_add, Int.mul_one]
    omega
theorem comT_bd {Pw : Str → Prop} {kvs : List (Key × V)} (h : WD Pw kvs) {one other : List Str} (z : one.length ≤ 60) (u : Str) : 0 ≤ comT kvs one other u ∧ comT kvs one other u ≤ 60000000 := by
  unfold comT
  obtain ⟨w1, w2⟩ := wOf_bd h u
  have c1 : one.count u ≤ one.length := List.count_le_length
  have m0 : 0 ≤ min (one.count u : Int) (other.count u : Int) := by omega
  have m1 : min (one.count u : Int) (other.count u : Int) ≤ 60 := by omega
  generalize min (one.count u : Int) (other.count u : Int) = m at m0 m1
  refine ⟨Int.mul_nonneg (by omega) m0, Int.le_trans (Int.mul_le_mul w2 m1 m0 (by omega)) (by decide)⟩
theorem comM_bd {Pw : Str → Prop} {kvs : List (Key × V)} (h : WD Pw kvs) {one other : List Str} (z : one.length ≤ 60) : 0 ≤ comM kvs one other ∧ comM kvs one other ≤ 3600000000 := by
  obtain ⟨a, b⟩ := sum_bd (f := comT kvs one other) (B := 60000000) (us := firsts one) fun u _ => comT_bd h z u
  have := firsts_len one
  refine ⟨a, Int.le_trans b ?_⟩
  omega
theorem comM_le {Pw : Str → Prop} {kvs : List (Key × V)} (h : WD Pw kvs) (one other : List Str) : comM kvs one other ≤ comM kvs one one := by
  unfold comM
  refine sum_le fun u _ => ?_
  unfold comT
  obtain ⟨w1, w2⟩ := wOf_bd h u
  exact Int.mul_le_mul_of_nonneg_left (by omega) (by omega)
theorem comM_sok {Pw : Str → Prop} {kvs : List (Key × V)} (h : WD Pw kvs) {one other : List Str} (z1 : one.length ≤ 60) (z2 : other.length ≤ 60) : SOk (comM kvs one one) (comM kvs other other) (comM kvs one other) := by
  obtain ⟨a0, a1⟩ := comM_bd h (other := one) z1
  obtain ⟨b0, b1⟩ := comM_bd h (other := other) z2
  obtain ⟨c0, c1⟩ := comM_bd h (other := other) z1
  have l1 := comM_le h one other
  have l2 := comM_le h other one
  rw [comM_symm] at l2
  refine ⟨⟨a0, Int.le_trans a1 (by decide), b0, Int.le_trans b1 (by decide), c0, by omega⟩, l1, l2⟩
theorem putK_wd {Pw : Str → Prop} {kvs : List (Key × V)} (h : WD Pw kvs) {b : Str} {z : Int} (hb : Pw b) (h1 : 1 ≤ z) (h2 : z ≤ 1000000) : WD Pw (putK kvs (.inr b) (.int z)) := by
  unfold putK
  split
  · intro kv m
    obtain ⟨x, hx, e⟩ := List.mem_map.mp m
    obtain ⟨u, y, rfl, r⟩ := h x hx
    by_cases c : (Sum.inr u : Key) = .inr b
    · rw [if_pos c] at e
      exact ⟨u, z, e.symm, r.1, h1, h2⟩
    · rw [if_neg c] at e
      exact ⟨u, y, e.symm, r⟩
  · intro kv m
    rcases List.mem_append.mp m with m | m
    · exact h kv m
    · obtain rfl := List.mem_singleton.mp m
      exact ⟨b, z, rfl, hb, h1, h2⟩
theorem putK_len (kvs : List (Key × V)) (k : Key) (v : V) : (putK kvs k v).length ≤ kvs.length + 1 := by
  unfold putK
  split
  · rw [List.length_map]; omega
  · rw [List.length_append]; exact Nat.le_refl _
/-- what a list of copies holds -/
def HandedAt (K : PySem.W.Frag) (H : Hp) (ph : Addr) (la lb : List Str) (kvs : List (Key × V)) : Prop := ∃ p1 p2 d3 : Addr, H ph = some (.lst [.ref p1, .ref p2, .ref d3]) ∧ H p1 = some (.lst (la.map V.str)) ∧ H p2 = some (.lst (lb.map V.str)) ∧ H d3 = some (.dK kvs)
theorem HandedAt.later {K : PySem.W.Frag} {H H' : Hp} {ph : Addr} {la lb : List Str} {kvs : List (Key × V)} (h : HandedAt K H ph la lb kvs) (e : Ex H H') : HandedAt K H' ph la lb kvs := by
  obtain ⟨p1, p2, d3, a, b, c, d⟩ := h
  exact ⟨p1, p2, d3, e _ _ a, e _ _ b, e _ _ c, e _ _ d⟩
theorem handed_evx {K : PySem.W.Frag} {σ : L2.St} {H : Hp} {a b d : Addr} {la lb : List Str} {kvs : List (Key × V)} {ta tb tc : TE} (ha : Ev ta σ H (.ref a)) (hb : Ev tb σ H (.ref b)) (hc : Ev tc σ H (.ref d)) (h1 : SqL K H a (la.map V.str)) (h2 : SqL K H b (lb.map V.str)) (h3 : H d = some (.dK kvs)) :
    EvX (tLst (tCons (tCB (rListS K) (tCons ta tNil)) (tCons (tCB (rListS K) (tCons tb tNil)) (tCons (tCB (fun xs H Q => ∃ (a : Addr) (kvs : List (Key × V)), xs = [.ref a] ∧ Rd H a (.dK kvs) ∧ ∀ p, H p = none → Q (.ref p) (upd H p (.dK kvs))) (tCons tc tNil)) tNil)))) σ H (fun v H' => ∃ ph, v = .ref ph ∧ HandedAt K H' ph la lb kvs) := by
  refine evx_mono (evx_lst3 (R1 := fun v H' => ∃ p1, v = .ref p1 ∧ H' p1 = some (.lst (la.map V.str))) (R2' := fun _ v H' => ∃ p2, v = .ref p2 ∧ H' p2 = some (.lst (lb.map V.str))) (R3 := fun _ _ v H' => ∃ d3, v = .ref d3 ∧ H' d3 = some (.dK kvs)) (fun H1 e1 Q q => el_list ha h1 H1 e1 _ fun p H2 _ e2 hp => q _ _ e2 ⟨p, rfl, hp⟩) (fun v1 H1 e1 _ H2 e2 Q q => el_list (hb.mono (e1.trans e2)) (ex_l (e1.trans e2) h2) H2 (Ex.refl H2) _ fun p H3 _ e3 hp => q _ _ e3 ⟨p, rfl, hp⟩)
    (fun v1 v2 H1 H2 e1 _ e2 _ H3 e3 Q q => (hc.mono ((e1.trans e2).trans e3)) H3 (Ex.refl H3) _ fun H4 e4 => ⟨d, kvs, rfl, .inl ((((e1.trans e2).trans e3).trans e4) _ _ h3), fun p hp => q _ _ (e4.trans (Ex.new hp)) ⟨p, rfl, upd_same⟩⟩)) fun v H1 e1 r => ?_
  obtain ⟨ph, v1, v2, v3, rfl, _, hph, H2, H3, H4, _, ⟨p1, rfl, g1⟩, e3, ⟨p2, rfl, g2⟩, e4, ⟨d3, rfl, g3⟩, e5⟩ := r
  exact ⟨ph, rfl, p1, p2, d3, hph, ((e3.trans e4).trans e5) _ _ g1, (e4.trans e5) _ _ g2, e5 _ _ g3⟩
theorem handed_ne {K : PySem.W.Frag} {σ : L2.St} {H : Hp} {ph a b d : Addr} {la lb : List Str} {kvs : List (Key × V)} {th ta tb tc : TE} (hh : Ev th σ H (.ref ph)) (ha : Ev ta σ H (.ref a)) (hb : Ev tb σ H (.ref b)) (hc : Ev tc σ H (.ref d)) (h0 : HandedAt K H ph la lb kvs) (h1 : SqL K H a (la.map V.str)) (h2 : SqL K H b (lb.map V.str)) (h3 : H d = some (.dK kvs)) (nd : (kvs.map (·.1)).Nodup) (hi : IntD kvs) :
    Ev (tOp (rNeV K) th (tLst (tCons ta (tCons tb (tCons tc tNil))))) σ H (.bl false) := by
  obtain ⟨p1, p2, d3, g0, g1, g2, g3⟩ := h0
  exact ev_neV (xs := [.ref p1, .ref p2, .ref d3]) (ys := [.ref a, .ref b, .ref d]) (n := 3) hh (sq_of g0) (el_lst (ea_cons ha (ea_cons hb (ea_cons hc ea_nil))) (by simp)) (by decide) fun H1 e => .cons (txl_eq (n := 1) (sq_of (e _ _ g1)) (ex_l e h1)) (.cons (txl_eq (n := 1) (sq_of (e _ _ g2)) (ex_l e h2)) (.cons (dict_eq (e _ _ g3) (e _ _ h3) nd hi) .nil))
end MuBag

namespace MuNG
open PySem PySem.Spec PyProof.Rows L2 MuGen GenW
/-! ### all(e for x in xs), e any expression of the hand layer: read in a context of its own for the expression's frame -/
def gcx (P : Program) (w : World) (K : PySem.W.Frag) (mg : Str → Option Value) (base : Heap) (A : Around) (x : Str) (s0 : Shared) (H0 : Hp) (env : Env) (outer : List Env) : Cx :=
  { prog := P, w := w, K := K, mg := mg, base := base, A := A, N := [x], s_0 := s0, H_0 := H0, env := env, outer := outer, stack := env :: outer, ex := [], fn := fun _ => false, calm := true, pn := [], xe := fun _ _ => False }
section
variable {X : Cx} {pins : List (Addr × Obj)} {σ : L2.St} {H1 : Hp} {s1 : Shared} {P C : Addr} {scope : Scope} {x : Str} {A : Around} {code : Value}
theorem start_inv (I : Inv X pins σ H1 s1) (hP : H1 P = some (TabO P)) (hk : scope.kind = .function) (hno : ∀ y, scope.names.lookup y ≠ some .free ∧ scope.names.lookup y ≠ some .cell) (hA : A.handled = none)
    (hf : A.frames = some (genEnv scope [] C code builtinsNs X.env :: X.stack)) (hC : s1.heap.objs.size ≤ C) {s5 : Shared} {m : Str → Option Value} (os : s5.os = s1.os) (bare : AllBare s5.gens) (keep : ∀ b o, b ≠ P → s1.heap.get? b = some o → s5.heap.get? b = some o)
    (tP : ∃ o, s5.heap.get? P = some o) (hok : HOk X.prog X.w H1 s5.heap) (ns : s5.heap.Ns C m) :
    Inv (gcx X.prog X.w X.K X.mg X.base A x s1 H1 (genEnv scope [] C code builtinsNs X.env) X.stack) [] [none] H1 s5 := by
  have off : ∀ b, H1 b = none → b ≠ P := fun b e z => by
    rw [z, hP] at e
    exact nomatch e
  have none_ : ∀ {y : Str} {c : Addr}, ([] : List (Str × Addr)).lookup y = some c → False := fun e => nomatch (show (none : Option Addr) = some _ from e)
  refine ⟨⟨I.ok.mod, hk, I.ok.glob, rfl, hC, fun _ _ _ e => (none_ e).elim, fun y h => ?_, fun _ _ _ e => (none_ e).elim, fun _ => hA, hf, .inr ⟨rfl, rfl⟩, fun _ z => (nomatch z), I.bs, Nat.le_trans I.ok.bsz I.sz, fun _ _ _ z => (nomatch z), fun _ z => (nomatch z), I.stack, I.stkFree⟩, os, bare,
    ⟨fun b o e n _ _ => keep b o (off b n) e, fun b o e n _ _ => ⟨o.slots, keep b o (off b n) e⟩, fun _ _ _ n _ => n, fun b o e _ => ?_, fun _ _ q => q, fun _ _ _ q => q, fun _ ps q => ⟨#[], by rw [Array.append_empty]; exact q⟩⟩,
    ⟨m, ns, fun i y v _ h2 => ?_⟩, fun _ _ e => (none_ e).elim, I.hok.fresh hC, fun _ _ e => (none_ e).elim, fun p hp => (nomatch hp), hok, rfl⟩
  · rcases h with h | h
    · exact absurd h (hno y).2
    · exact absurd h (hno y).1
  · by_cases z : b = P
    · exact z ▸ tP
    · exact ⟨o, keep b o z e⟩
  · match i, h2 with
    | 0, h2 => exact nomatch (Option.some.inj h2)
    | n + 1, h2 => exact nomatch h2
end
section
variable {Y : Cx} {Ig a ga g : Addr} {og : Obj} {xs : List V} {H1 : Hp} {b : Nat → Bool}
/-- n things are still to come -/
structure Good (Y : Cx) (Ig a ga : Addr) (og : Obj) (N : Nat) (H1 : Hp) (n : Nat) (s : Shared) : Prop where
  inv : ∃ (H' : Hp) (ov : Option V), Evl.Ex H1 H' ∧ Inv Y [(ga, og)] [ov] H' s ∧ H' Ig = none
  it : s.heap.IsListIter Ig a (N - n)
def Over (Y : Cx) (ga : Addr) (og : Obj) (H1 : Hp) (s : Shared) : Prop := ∃ (H' : Hp) (ov : Option V), Evl.Ex H1 H' ∧ Inv Y [(ga, og)] [ov] H' s
theorem inv_gens {pins : List (Addr × Obj)} {σ : L2.St} {H : Hp} {s : Shared} {gn : Array GenState} (I : Inv Y pins σ H s) (h : AllBare gn) : Inv Y pins σ H { s with gens := gn } :=
  ⟨I.ok, I.os, h, I.base, I.loc, I.cell, I.free, I.freeC, I.pin, I.hok, I.len⟩
theorem inv_pins {pins pins2 : List (Addr × Obj)} {σ : L2.St} {H : Hp} {s : Shared} (I : Inv Y pins σ H s) (h : ∀ p ∈ Y.pn ++ pins2, s.heap.get? p.1 = some p.2 ∧ H p.1 = none ∧ p.1 ≠ Y.env.locals ∧ p.1 ∉ Y.fs ∧ ∀ v, p.2.data ≠ .cell v) : Inv Y pins2 σ H s :=
  ⟨I.ok, I.os, I.bare, I.base, I.loc, I.cell, I.free, I.freeC, h, I.hok, I.len⟩
theorem Good.gens {N n : Nat} {s : Shared} {gn : Array GenState} (h : Good Y Ig a ga og N H1 n s) (hb : AllBare gn) : Good Y Ig a ga og N H1 n { s with gens := gn } := by
  obtain ⟨⟨H', ov, e, I, hn⟩, it⟩ := h
  exact ⟨⟨H', ov, e, inv_gens I hb, hn⟩, it⟩
def Yd (Y : Cx) (Ig a ga : Addr) (og : Obj) (N : Nat) (H1 : Hp) (b : Nat → Bool) : Protocol := fun n _ v s kap => Good Y Ig a ga og N H1 n s ∧ v = .bool (b (N - 1 - n)) ∧ ∀ s2, Good Y Ig a ga og N H1 n s2 → kap (.send .none) s2
def Ed (Y : Cx) (ga : Addr) (og : Obj) (H1 : Hp) : GenEnd := fun n _ r s => ((r = .ok (.ret .none) ∨ r = .ok .next) ∧ (n = 0 ∧ Over Y ga og H1 s)) ∨ ∃ e, r = .error e ∧ False
/-- what stays from turn to turn -/
structure Fixed (Y : Cx) (Ig a ga : Addr) (og : Obj) (xs : List V) (H1 : Hp) : Prop where
  seq : SqL Y.K H1 a xs
  pn : Y.pn = []
  ne : a ≠ Ig
  ga : ga ≠ Ig
  lc : Ig ≠ Y.env.locals
  fs : Ig ∉ Y.fs
  new : Y.s_0.heap.objs.size ≤ Ig
  cells : Y.env.cells = []
section
variable {prog : Program} {w : World} {K : PySem.W.Frag} {mg : Str → Option Value} {base : Heap} {x : Str} {s0 : Shared} {H0 : Hp} {env : Env} {outer : List Env} {elt iter : Expr} {px : Pos} {scope : Scope} {pos : Pos} {te : TE} {B : Around}
abbrev cdG (elt iter : Expr) (x : Str) (px : Pos) (scope : Scope) (pos : Pos) (Ig : Addr) (env : Env) : Code := .compLoop (.GeneratorExp elt [⟨.Name x px, iter, [], 0⟩] scope pos) 0 (.ref Ig) .none env
abbrev ycx (prog : Program) (w : World) (K : PySem.W.Frag) (mg : Str → Option Value) (base : Heap) (B : Around) (x : Str) (s0 : Shared) (H0 : Hp) (env : Env) (outer : List Env) (elt iter : Expr) (px : Pos) (scope : Scope) (pos : Pos) (Ig : Addr) : Cx :=
  gcx prog w K mg base (B.over (cdG elt iter x px scope pos Ig env) []) x s0 H0 env outer
theorem seg_turns (hB : B.handled = none) (Fx : Fixed (ycx prog w K mg base B x s0 H0 env outer elt iter px scope pos Ig) Ig a ga og xs H1) (hco : env.scope.isCoroutine = false) (hloc : env.scope.names.lookup x = some .local)
    (hpe : PE (ycx prog w K mg base B x s0 H0 env outer elt iter px scope pos Ig) elt te)
    (hel : ∀ (i : Nat) (y : V) (H' : Hp), xs[i]? = some y → Evl.Ex H1 H' → ∀ Q : VK, (∀ H2, Evl.Ex H' H2 → Q (.bl (b i)) H2) → te [some y] H' Q) :
    ∀ (n : Nat) (s₀ s : Shared), n ≤ xs.length → Good (ycx prog w K mg base B x s0 H0 env outer elt iter px scope pos Ig) Ig a ga og xs.length H1 n s →
      Seg (model prog w) B (Ed (ycx prog w K mg base B x s0 H0 env outer elt iter px scope pos Ig) ga og H1) (Yd (ycx prog w K mg base B x s0 H0 env outer elt iter px scope pos Ig) Ig a ga og xs.length H1 b) n s₀
        (cdG elt iter x px scope pos Ig env) ((model prog w).den (cdG elt iter x px scope pos Ig env)) [] s := by
  have hh : (B.over (cdG elt iter x px scope pos Ig env) []).handled = none := hB
  intro n
  induction n with
  | zero =>
    intro s₀ s hn hG
    obtain ⟨⟨H', ov, e, I, hI⟩, it⟩ := hG
    obtain ⟨its, rv, hl, _⟩ := I.list (Evl.ex_l e Fx.seq)
    have len : its.toArray.size = xs.length := by rw [List.size_toArray, rv.length]
    show Seg _ B _ _ _ s₀ _ ((compTurn (.GeneratorExp elt [⟨.Name x px, iter, [], 0⟩] scope pos) 0 (.ref Ig) .none env).onRaise (leaving env)) [] s
    rw [compTurn_gen, Sem.onRaise_eq_wrap]
    refine seg_bind_wrap (wpAny_standAt (seg_bind_wrap ((Walks.list (prog := prog) (w := w) hh Ig a Fx.ne its.toArray).done s _ _ ⟨by rw [len]; exact it, hl.isList⟩ fun h' tk hk => ?_)))
    refine seg_end (.ok .next) (.inl ⟨.inr rfl, rfl, H', ov, e, I.turned (it := Ig) (fun c o z => hk c o fun m => z (List.mem_singleton.mp m)) hI Fx.lc (.inr Fx.new) (fun y c z => ?_) fun p hp => ?_⟩)
    · rw [Fx.cells] at z
      exact nomatch (show (none : Option Addr) = some _ from z)
    · rw [Fx.pn] at hp
      obtain rfl := List.mem_singleton.mp hp
      exact Fx.ga
  | succ n ih =>
    intro s₀ s hn hG
    obtain ⟨⟨H', ov, e, I, hI⟩, it⟩ := hG
    obtain ⟨its, rv, hl, _⟩ := I.list (Evl.ex_l e Fx.seq)
    have len : its.toArray.size = xs.length := by rw [List.size_toArray, rv.length]
    have lt : xs.length - (n + 1) < xs.length := by omega
    show Seg _ B _ _ _ s₀ _ ((compTurn (.GeneratorExp elt [⟨.Name x px, iter, [], 0⟩] scope pos) 0 (.ref Ig) .none env).onRaise (leaving env)) [] s
    rw [compTurn_gen, Sem.onRaise_eq_wrap]
    refine seg_bind_wrap (wpAny_standAt (seg_bind_wrap ((Walks.list (prog := prog) (w := w) hh Ig a Fx.ne its.toArray).item (xs.length - (n + 1)) s _ _ (by rw [len]; exact lt) ⟨it, hl.isList⟩ fun v h' tk hv st hk => ?_)))
    have I2 := I.turned (t' := tk) (it := Ig) (fun c o z => hk c o fun m => z (List.mem_singleton.mp m)) hI Fx.lc (.inr Fx.new) (fun y c z => by
      rw [Fx.cells] at z
      exact nomatch (show (none : Option Addr) = some _ from z)) fun p hp => by
      rw [Fx.pn] at hp
      obtain rfl := List.mem_singleton.mp hp
      exact Fx.ga
    obtain ⟨y, hy, ry⟩ : ∃ y, xs[xs.length - (n + 1)]? = some y ∧ RelV y v := by
      obtain ⟨u, eu, ru⟩ := rv.get (List.getElem?_eq_getElem lt)
      have e2 : its[xs.length - (n + 1)]? = some v := by simpa using hv
      rw [e2] at eu
      exact ⟨_, List.getElem?_eq_getElem lt, Option.some.inj eu ▸ ru⟩
    obtain ⟨oi, ho, hcl, hda⟩ := st.1
    have I3 : Inv (ycx prog w K mg base B x s0 H0 env outer elt iter px scope pos Ig) [(Ig, oi), (ga, og)] [ov] H' { s with heap := h', toks := tk } := inv_pins I2 fun p hp => by
      rw [Fx.pn] at hp
      rcases List.mem_cons.mp hp with rfl | hp
      · exact ⟨ho, hI, Fx.lc, Fx.fs, fun z q => by rw [hda] at q; exact nomatch q⟩
      · exact I2.pin p (by rw [Fx.pn]; exact hp)
    refine seg_bind_wrap (wpAny_of_eq (rfl : letOwnedTupleGo (.Name x px) (.ref Ig) v = pure ()) (seg_bind_wrap (wpAny_assign_Name (store_ok2 (i := 0) I3 (by simp [gcx]) rfl (.inl hloc) ry (fun s2 I4 _ => ?_) (.inr hloc)))))
    refine seg_bind_wrap (m := pure true) (wpAny_pure ?_)
    simp only [if_true]
    have hy2 : ∀ u, yieldOut env u = yieldValue u := fun u => by simp only [yieldOut, hco, Bool.false_eq_true, if_false]
    simp only [hy2]
    rw [Sem.bind_eq_wrap', Sem.bind_eq_wrap', Sem.wrap_wrap, Sem.wrap_wrap]
    refine seg_wrap (wpAny_mono (hpe.run _ s2 [some y] H' (fun z H2 => z = .bl (b (xs.length - (n + 1))) ∧ Evl.Ex H1 H2) I4 (hel _ y H' hy e _ fun H2 e2 => ⟨rfl, e.trans e2⟩)) (fun u s3 r => ?_) fun _ _ z => z.elim)
    obtain ⟨z, H2, I5, rz, rfl, e2⟩ := r
    obtain rfl : u = .bool (b (xs.length - (n + 1))) := rz
    have pI := I5.pin (Ig, oi) (by rw [Fx.pn]; exact List.mem_cons_self)
    refine seg_at (seg_yield rfl rfl rfl ⟨⟨⟨H2, some y, e2, inv_pins I5 fun p hp => I5.pin p (by rw [Fx.pn] at hp ⊢; exact List.mem_cons_of_mem _ hp), pI.2.1⟩, oi, pI.1, hcl, ?_⟩, ?_, fun s4 hG4 => seg_again rfl (ih s4 s4 (by omega) hG4)⟩)
    · rw [hda, show xs.length - (n + 1) + 1 = xs.length - n by omega]
    · rw [show xs.length - 1 - n = xs.length - (n + 1) by omega]
theorem seg_begin (hB : B.handled = none) (Fx : Fixed (ycx prog w K mg base B x s0 H0 env outer elt iter px scope pos Ig) Ig a ga og xs H1) (hco : env.scope.isCoroutine = false) (hloc : env.scope.names.lookup x = some .local)
    (hpe : PE (ycx prog w K mg base B x s0 H0 env outer elt iter px scope pos Ig) elt te)
    (hel : ∀ (i : Nat) (y : V) (H' : Hp), xs[i]? = some y → Evl.Ex H1 H' → ∀ Q : VK, (∀ H2, Evl.Ex H' H2 → Q (.bl (b i)) H2) → te [some y] H' Q) (s₀ s : Shared)
    (hG : Good (ycx prog w K mg base B x s0 H0 env outer elt iter px scope pos Ig) Ig a ga og xs.length H1 xs.length s) :
    Seg (model prog w) B (Ed (ycx prog w K mg base B x s0 H0 env outer elt iter px scope pos Ig) ga og H1) (Yd (ycx prog w K mg base B x s0 H0 env outer elt iter px scope pos Ig) Ig a ga og xs.length H1 b) xs.length s₀
      (.compStart (.GeneratorExp elt [⟨.Name x px, iter, [], 0⟩] scope pos) 0 (.ref Ig) .none env) ((model prog w).den (.compStart (.GeneratorExp elt [⟨.Name x px, iter, [], 0⟩] scope pos) 0 (.ref Ig) .none env)) [] s := by
  have loop := seg_turns hB Fx hco hloc hpe hel xs.length s₀ s (Nat.le_refl _) hG
  have hh : (B.over (.compStart (.GeneratorExp elt [⟨.Name x px, iter, [], 0⟩] scope pos) 0 (.ref Ig) .none env) []).handled = none := hB
  obtain ⟨⟨H', ov, e, I, hI⟩, it⟩ := hG
  obtain ⟨its, rv, hl, _⟩ := I.list (Evl.ex_l e Fx.seq)
  rw [Nat.sub_self] at it
  show Seg _ B _ _ _ s₀ _ ((compStart (.GeneratorExp elt [⟨.Name x px, iter, [], 0⟩] scope pos) 0 (.ref Ig) .none env).onRaise (leaving env)) [] s
  unfold compStart
  rw [Sem.onRaise_eq_wrap]
  show Seg _ B _ _ _ s₀ _ ((ask >>= _).wrap _ _ _ _) [] s
  refine seg_bind_wrap (wpAny_askSetting ?_)
  split
  · exact seg_again rfl loop
  · first
      | exact seg_bind_wrap (wpAny_rule (seg_bind_wrap (wpAny_standAt (seg_bind_wrap ((Walks.list (prog := prog) (w := w) hh Ig a Fx.ne its.toArray).self 0 s _ _ ⟨it, hl.isList⟩ (seg_again rfl loop))))))
      | (refine seg_bind_wrap (wpAny_rule ?_)
         show Seg _ B _ _ _ s₀ _ ((standAt iter.pos >>= _).wrap _ _ _ _) [] s
         exact seg_bind_wrap (wpAny_standAt (seg_bind_wrap ((Walks.list (prog := prog) (w := w) hh Ig a Fx.ne its.toArray).self 0 s _ _ ⟨it, hl.isList⟩ (seg_again rfl loop)))))
end
/-- the walk of all(..) -/
theorem all_turns {A : Around} {R : Result → Shared → Prop} {N : Nat} (hh : A.handled = none) (hd : A.depth < recursionLimit) (hgen : ∀ s : Shared, s.heap.get? ga = some og → s.heap.IsGen ga g) (hpn : Y.pn = [])
    (fin : ∀ (bb : Bool) (s : Shared), Over Y ga og H1 s → bb = (List.range N).all b → R (.ok (.ret (.bool bb))) s) :
    ∀ (n : Nat) (s : Shared), n ≤ N → (∀ j, j < N - n → b j = true) → Good Y Ig a ga og N H1 n s → (∃ gs, s.gens[g]? = some gs ∧ gs.Goes (model Y.prog Y.w) A.in1.in1 (Ed Y ga og H1) (Yd Y Ig a ga og N H1 b) n (.send .none) (s.setGen g .running)) →
      codeAny (model Y.prog Y.w) A (.builtin "all.loop" ⟨[.ref ga], []⟩) R s := by
  have at_ : ∀ {s : Shared} {H' : Hp} {ov : Option V}, Inv Y [(ga, og)] [ov] H' s → s.heap.get? ga = some og := fun I => (I.pin (ga, og) (by rw [hpn]; exact List.mem_cons_self)).1
  intro n
  induction n with
  | zero =>
    intro s _ hall hG ⟨gs, hgs, hgo⟩
    obtain ⟨⟨H', ov, e, I, hI⟩, it⟩ := id hG
    refine codeAny_builtin PySem.F.entry_all_loop ?_
    rw [Around.under_plainId PySem.F.plain_all_loop _]
    show wpAny _ A.in1 (pyNext (.ref ga) >>= _) _ _ s
    refine wpAny_bind (next_genG (A := A.in1) (F := fun n _ s => n = 0 ∧ Over Y ga og H1 s) (Er := fun _ _ => False) hh I.nolimit hd (hgen s (at_ I)) hgs hgo (fun v s2 gs2 _ hv => (hv.2.2 s2 hv.1).elim) (fun s2 hp h3 hk => ?_) fun _ _ z => z.elim)
    obtain ⟨_, H2, ov2, e2, I2⟩ := hp
    refine wpAny_bind (wpAny_rule (wpAny_pure (fin true _ ⟨H2, ov2, e2, ?_⟩ ?_)))
    · exact inv_gens (I2.kept (t' := s2.toks) hk) (allBare_setGen I2.bare rfl)
    · exact (List.all_eq_true.mpr fun j hj => hall j (by have := List.mem_range.mp hj; omega)).symm
  | succ n ih =>
    intro s hn hall hG ⟨gs, hgs, hgo⟩
    have hgl : g < s.gens.size := (Array.getElem?_eq_some_iff.mp hgs).1
    obtain ⟨⟨H', ov, e, I, hI⟩, it⟩ := id hG
    refine codeAny_builtin PySem.F.entry_all_loop ?_
    rw [Around.under_plainId PySem.F.plain_all_loop _]
    show wpAny _ A.in1 (pyNext (.ref ga) >>= _) _ _ s
    refine wpAny_bind (wpAny_gsz (n := g + 1) hgl (next_genG (A := A.in1) (F := fun n _ s => n = 0 ∧ Over Y ga og H1 s) (Er := fun _ _ => False) hh I.nolimit hd (hgen s (at_ I)) hgs hgo (fun v s2 gs2 hb2 hv hsz => ?_) (fun s2 hp h3 hk _ => absurd hp.1 (Nat.succ_ne_zero n)) fun _ _ z => z.elim))
    obtain ⟨hG2, rfl, hk⟩ := hv
    have hsz2 : g < s2.gens.size := by
      have z : g + 1 ≤ s2.gens.size := by
        rw [← setGen_size s2 g gs2]
        exact hsz
      exact z
    have bare2 : AllBare s2.gens := by
      obtain ⟨⟨_, _, _, J, _⟩, _⟩ := hG2
      exact J.bare
    have bare3 : AllBare (s2.setGen g gs2).gens := allBare_setGen bare2 hb2
    refine wpAny_bind (wpAny_holding (wpAny_truthy_bool (wpAny_bind (wpAny_letGo ?_))))
    rw [show N - 1 - (n + 1 - 1) = N - (n + 1) by omega]
    cases hb : b (N - (n + 1)) with
    | true =>
      simp only [if_true]
      refine wpAny_pure ⟨plainId_quiet PySem.F.plain_all_loop _, ih (s2.setGen g gs2) (by omega) (fun j hj => ?_) (hG2.gens bare3) ⟨gs2, setGen_at hsz2, hk _ ?_⟩⟩
      · by_cases c : j < N - (n + 1)
        · exact hall j c
        · rw [show j = N - (n + 1) by omega]
          exact hb
      · exact hG2.gens (allBare_setGen (s := s2.setGen g gs2) bare3 rfl)
    | false =>
      simp only [Bool.false_eq_true, if_false]
      refine wpAny_bind (wpAny_rule (wpAny_pure (fin false _ ?_ ?_)))
      · obtain ⟨⟨H2, ov2, e2, I2, _⟩, _⟩ := hG2
        exact ⟨H2, ov2, e2, inv_gens I2 bare3⟩
      · refine (List.all_eq_false.mpr ⟨N - (n + 1), List.mem_range.mpr (by omega), ?_⟩).symm
        rw [hb]
        exact Bool.false_ne_true
end
/-- all(e for x in a list); te reads e with x alone -/
def tAllG (K : PySem.W.Frag) (P : Addr) (te tl : TE) : TE := fun σ H Q => tl σ H fun v H1 => H1 P = some (TabO P) ∧ ∃ (a : Addr) (xs : List V) (b : Nat → Bool), v = .ref a ∧ SqL K H1 a xs ∧
  (∀ (i : Nat) (y : V) (H' : Hp), xs[i]? = some y → Evl.Ex H1 H' → ∀ Q2 : VK, (∀ H2, Evl.Ex H' H2 → Q2 (.bl (b i)) H2) → te [some y] H' Q2) ∧ ∀ H2, Evl.Ex H1 H2 → Q (.bl ((List.range xs.length).all b)) H2
section
variable {X : Cx}
theorem pe_allG {c P : Addr} {elt iter : Expr} {x : Str} {p px gpos pos : Pos} {scope : Scope} {te tl : TE} {k : Nat}
    (hr : Room (k + 1) X.A) (TB : GxR.TabB X.base X.mg c P) (hcode : X.env.code = .ref c) (hm : X.mg "all" = none) (hg : Gl X "all")
    (hi : PE X iter tl) (hs : ∀ v, genFold iter X.env v = pure v) (N : GenN scope x) (hfr : ∀ z ∈ scope.names, z.2 ≠ .free) (hclo : ∀ cells, cloFrom cells scope.names [] = [])
    (hel : ∀ (A : Around) (s0 : Shared) (H0 : Hp) (C : Addr) (code : Value), Room k A → PE (gcx X.prog X.w X.K X.mg X.base A x s0 H0 (genEnv scope [] C code builtinsNs X.env) X.stack) elt te)
    (he : ∀ g : Expr, g = .GeneratorExp elt [⟨.Name x px, iter, [], 0⟩] scope gpos → starEach [g] X.env = (false, eval g X.env) :: starEach [] X.env) :
    PE X (.Call (.Name "all" p) [.GeneratorExp elt [⟨.Name x px, iter, [], 0⟩] scope gpos] [] pos) (tAllG X.K P te tl) := by
  have hno : ∀ y, scope.names.lookup y ≠ some .free ∧ scope.names.lookup y ≠ some .cell := fun y => ⟨fun e => hfr _ (PySem.mem_of_lookup e) rfl, fun e => N.cell _ (PySem.mem_of_lookup e) rfl⟩
  refine ⟨fun pins s σ H Q I h => ?_⟩
  have hclos : closureFor scope X.env = pure [] := by
    rw [closure_ok fun y hy e => absurd e (hfr y hy), hclo]
  have room : X.A.depth < recursionLimit := by
    have := hr.dp
    omega
  refine wpAny_Call_Name_kw (ld_blt I hg hm boot_all ?_)
  have he1 := he _ rfl
  refine PyProof.Rows.callWith_builtin1 ?_ he1 (by rfl)
  rw [he1]
  refine Calls.spliced_cons (wpAny_GeneratorExp_make N.co hclos N.cell N.dot N.kind room ?_ hs)
  refine thn (hi.run pins s σ H _ I h) fun xv s1 ⟨v, H1, I1, rv, hP, a, xs, b, ev, hx, hel2, q⟩ => ?_
  subst ev
  obtain rfl : xv = Value.ref a := rv
  obtain ⟨its, rvs, hl, _⟩ := I1.list hx
  have isl := hl.isList
  obtain ⟨ps, e0, ht⟩ := tab_get I1 hP
  refine wpAny_pyIter_list isl ⟨I1.nolimit.push _, ?_⟩
  generalize ho : ({ cls := .type "list_iterator", data := .fields #[.ref a, .int 0 0] } : Obj) = o
  have up : ∀ b u, s1.heap.get? b = some u → (s1.heap.push o).get? b = some u := fun b u e => Heap.get?_push_of_some _ e
  have zpush : (s1.heap.push o).objs.size = s1.heap.objs.size + 1 := Heap.size_push ..
  have cd : PySem.W.CodeHd (s1.heap.push o) c P := TB.code.keeps fun b u e => up b u (I1.bk b u e)
  have alt : a < s1.heap.objs.size := by
    have ⟨_, e, _⟩ := isl
    exact Heap.lt_size e
  have Plt := Heap.lt_size e0
  refine code_any hcode cd (up P _ e0) ht fun code h3 tk qs hx3 h3z hP3 ht3 => ?_
  have keep3 : ∀ b u, b ≠ P → s1.heap.get? b = some u → h3.get? b = some u := fun b u y e => hx3 b u y (up b u e)
  obtain ⟨bm, ob, e1, e2, e3, e4, e5, e6, e7, e8⟩ := TB.bm
  have ns3 : h3.Ns X.env.globals X.mg := by
    rw [I1.ok.glob]
    exact ((I1.mod.glob.keeps I1.bk).push o).extBut hx3 TB.gP
  refine wpAny_builtinsFor (m := X.mg) ns3 e1 e2 (keep3 _ _ e4 (I1.bk _ _ e5)) e6 e7 e8 ?_
  intro h' hn' hs'
  have hz1 : s1.heap.objs.size + 1 ≤ h3.objs.size := by
    have z : (s1.heap.push o).objs.size ≤ h3.objs.size := h3z
    omega
  have keep' : ∀ b o, h3.get? b = some o → h'.get? b = some o := fun b o e => hs'.extBut b o (Nat.ne_of_lt (Heap.lt_size e)) (Heap.get?_push_of_some _ e)
  have hsz : h'.objs.size = h3.objs.size + 1 := by rw [hs'.1, Heap.size_push]
  have itP : s1.heap.objs.size ≠ P := Nat.ne_of_gt Plt
  have it3 : h3.get? s1.heap.objs.size = some o := hx3 _ _ itP (by rw [← ho]; exact Heap.get?_push_size _ rfl)
  refine Calls.spliced_nil ?_
  generalize hog : ({ cls := .type "generator", data := .fields #[.int s1.gens.size 0, .str "<genexpr>" (tk + 1), .str (X.env.qual ++ "<genexpr>") (tk + 1 + 1)] } : Obj) = og
  have keep5 : ∀ b u, h3.get? b = some u → (h'.push og).get? b = some u := fun b u e => Heap.get?_push_of_some _ (keep' b u e)
  have bare5 : AllBare (s1.gens.push (.fresh (.compStart (.GeneratorExp elt [⟨.Name x px, iter, [], 0⟩] scope gpos) 0 (.ref s1.heap.objs.size) .none (genEnv scope [] h3.objs.size code builtinsNs X.env)))) := I1.bare.push rfl
  have hok5 : HOk X.prog X.w H1 (h'.push og) := (inv_grown (hn := h'.push og) (gn := s1.gens) (dn := s1.drawn) (tn := s1.toks) I1 hP (fun b u y e => keep5 b u (keep3 b u y e)) (keep5 _ _ hP3) ht3 I1.bare).hok
  refine call_function_tree PySem.F.kind_all PySem.F.plain_all PySem.F.entry_all (PySem.F.args_all1 _) ?_
  unfold Builtin.«all»
  refine wpAny_bind (m := oneArg "all" _) (wpAny_pure ?_)
  have gen5 : ∀ s : Shared, s.heap.get? h'.objs.size = some og → s.heap.IsGen h'.objs.size s1.gens.size := fun s e => ⟨og, _, _, e, by rw [← hog], by rw [← hog], by rw [← hog]⟩
  have ogAt : (h'.push og).get? h'.objs.size = some og := by
    rw [← hog]
    exact Heap.get?_push_size _ rfl
  refine wpAny_bind (wpAny_pyIter_gen (gen5 _ ogAt) ?_)
  have hAf : (X.A.in1.in1.over (cdG elt iter x px scope gpos s1.heap.objs.size (genEnv scope [] h3.objs.size code builtinsNs X.env)) []).frames = some (genEnv scope [] h3.objs.size code builtinsNs X.env :: X.stack) := by
    show pushEnvs [genEnv scope [] h3.objs.size code builtinsNs X.env] (pushEnvs (envsOf []) X.A.frames) = _
    rw [I1.ok.frames]
    rfl
  have hrG : Room k (X.A.in1.in1.over (cdG elt iter x px scope gpos s1.heap.objs.size (genEnv scope [] h3.objs.size code builtinsNs X.env)) []) := by
    obtain ⟨a1, a2, a3⟩ := hr
    refine ⟨a1, ?_, ?_⟩
    · show X.A.depth + 0 + 1 + 3 * k + 5 < _
      omega
    · show X.A.units + 1 + 1 + 0 + 3 + 16 * k + 200 < _
      omega
  have J : Inv (ycx X.prog X.w X.K X.mg X.base X.A.in1.in1 x s1 H1 (genEnv scope [] h3.objs.size code builtinsNs X.env) X.stack elt iter px scope gpos s1.heap.objs.size) [] [none] H1
      { s1 with heap := h'.push og, gens := s1.gens.push (.fresh (.compStart (.GeneratorExp elt [⟨.Name x px, iter, [], 0⟩] scope gpos) 0 (.ref s1.heap.objs.size) .none (genEnv scope [] h3.objs.size code builtinsNs X.env))), toks := tk + 1 + 1 + 1 } :=
    start_inv (A := X.A.in1.in1.over (cdG elt iter x px scope gpos s1.heap.objs.size (genEnv scope [] h3.objs.size code builtinsNs X.env)) []) (C := h3.objs.size) (code := code) (s5 := { s1 with heap := h'.push og, gens := s1.gens.push (.fresh (.compStart (.GeneratorExp elt [⟨.Name x px, iter, [], 0⟩] scope gpos) 0 (.ref s1.heap.objs.size) .none (genEnv scope [] h3.objs.size code builtinsNs X.env))), toks := tk + 1 + 1 + 1 }) I1 hP N.kind hno hr.hd hAf (by omega) rfl bare5 (fun b u y e => keep5 b u (keep3 b u y e)) ⟨_, keep5 _ _ hP3⟩ hok5 (hn'.push _)
  have stkLt : ∀ b ∈ frs X.stack, b < s1.heap.objs.size := fun b hb => by
    obtain ⟨_, o, ho, _⟩ := I1.stack.mem hb
    exact Heap.lt_size ho
  have J2 := inv_pins (pins2 := [(h'.objs.size, og)]) J fun p hp => by
    obtain rfl := List.mem_singleton.mp (show p ∈ [(h'.objs.size, og)] from hp)
    refine ⟨ogAt, I1.hok.fresh (by show s1.heap.objs.size ≤ h'.objs.size; omega), ?_, fun m => ?_, fun z y => ?_⟩
    · show h'.objs.size ≠ h3.objs.size
      omega
    · exact absurd (stkLt _ m) (by show ¬ h'.objs.size < s1.heap.objs.size; omega)
    · rw [← hog] at y
      exact nomatch y
  have Fx : Fixed (ycx X.prog X.w X.K X.mg X.base X.A.in1.in1 x s1 H1 (genEnv scope [] h3.objs.size code builtinsNs X.env) X.stack elt iter px scope gpos s1.heap.objs.size) s1.heap.objs.size a h'.objs.size og xs H1 :=
    ⟨hx, rfl, Nat.ne_of_lt alt, (by show h'.objs.size ≠ s1.heap.objs.size; omega), by show s1.heap.objs.size ≠ h3.objs.size; omega, fun m => Nat.lt_irrefl _ (stkLt _ m), Nat.le_refl _, rfl⟩
  have hGood : Good (ycx X.prog X.w X.K X.mg X.base X.A.in1.in1 x s1 H1 (genEnv scope [] h3.objs.size code builtinsNs X.env) X.stack elt iter px scope gpos s1.heap.objs.size) s1.heap.objs.size a h'.objs.size og xs.length H1 xs.length
      { s1 with heap := h'.push og, gens := s1.gens.push (.fresh (.compStart (.GeneratorExp elt [⟨.Name x px, iter, [], 0⟩] scope gpos) 0 (.ref s1.heap.objs.size) .none (genEnv scope [] h3.objs.size code builtinsNs X.env))), toks := tk + 1 + 1 + 1 } := by
    refine ⟨⟨H1, none, Evl.Ex.refl _, J2, I1.hok.fresh (Nat.le_refl _)⟩, o, keep5 _ _ it3, by rw [← ho], ?_⟩
    rw [← ho, Nat.sub_self]
    rfl
  refine wpAny_pure ⟨plainId_quiet PySem.F.plain_all_loop _, all_turns (Y := ycx X.prog X.w X.K X.mg X.base X.A.in1.in1 x s1 H1 (genEnv scope [] h3.objs.size code builtinsNs X.env) X.stack elt iter px scope gpos s1.heap.objs.size) (Ig := s1.heap.objs.size) (a := a) (ga := h'.objs.size) (og := og) (H1 := H1) (g := s1.gens.size) (N := xs.length) (b := b) hr.hd room gen5 rfl (fun bb s6 hO hbb => ?_) xs.length _ (Nat.le_refl _) (fun j hj => absurd hj (by omega)) hGood ⟨_, Array.getElem?_push_size .., rfl, ?_⟩⟩
  · obtain ⟨H2, ov, e2, I2⟩ := hO
    refine ⟨.bl bb, H2, ?_, rfl, hbb ▸ q H2 e2⟩
    have F := I1.call' (s' := s6) (ch := []) I2.os I2.base I2.hok I2.bare fun b z => nomatch z
    exact F
  · exact seg_begin (b := b) (B := X.A.in1.in1) (px := px) (iter := iter) (pos := gpos) hr.hd Fx N.co N.loc (hel (X.A.in1.in1.over (cdG elt iter x px scope gpos s1.heap.objs.size (genEnv scope [] h3.objs.size code builtinsNs X.env)) []) s1 H1 h3.objs.size code hrG) hel2 _ _ (hGood.gens (allBare_setGen (x := .running) bare5 rfl))
end
section
open Evl
variable {K : PySem.W.Frag} {σ : L2.St} {H : Hp}
theorem ev_allG {P a : Addr} {te tl : TE} {xs : List V} {b : Nat → Bool} {r : Bool} (h : Ev tl σ H (.ref a)) (hx : SqL K H a xs) (hP : H P = some (TabO P)) (he : ∀ (i : Nat) (y : V) (H' : Hp), Ex H H' → xs[i]? = some y → Ev te [some y] H' (.bl (b i))) (hr : (List.range xs.length).all b = r) :
    Ev (tAllG K P te tl) σ H (.bl r) := fun H1 e Q q => h H1 e _ fun H2 e2 => ⟨(e.trans e2) _ _ hP, a, xs, b, rfl, ex_l (e.trans e2) hx, fun i y H' hy e3 Q2 q2 => he i y H' ((e.trans e2).trans e3) hy H' (Ex.refl H') Q2 q2, fun H3 e3 => hr ▸ q H3 (e2.trans e3)⟩
end
end MuNG

namespace MuLc
open PySem PySem.Spec PyProof.Rows L2 Evl MuK
/-! ### list comprehensions whose elements are new things -/
theorem paired_mono {α β : Type} {F G : α → β → Prop} (h : ∀ a b, F a b → G a b) : ∀ {xs : List α} {ys : List β}, Paired F xs ys → Paired G xs ys
  | _, _, .nil => .nil
  | _, _, .cons a r => .cons (h _ _ a) (paired_mono h r)
theorem paired_app {α β : Type} {F : α → β → Prop} : ∀ {xs : List α} {ys : List β} {xs2 : List α} {ys2 : List β}, Paired F xs ys → Paired F xs2 ys2 → Paired F (xs ++ xs2) (ys ++ ys2)
  | _, _, _, _, .nil, h => h
  | _, _, _, _, .cons a r, h => .cons a (paired_app r h)
theorem paired_left {α β γ : Type} {F : γ → β → Prop} {g : α → γ} : ∀ {xs : List α} {ys : List β}, Paired (fun a b => F (g a) b) xs ys → Paired F (xs.map g) ys
  | _, _, .nil => .nil
  | _, _, .cons a r => .cons a (paired_left r)
theorem keep_at {α : Type} (ps : List α) (d : α) (g : α → Bool) : ((List.range ps.length).filter fun n => g (ps.getD n d)).map (fun n => ps.getD n d) = ps.filter g := by
  have e : (List.range ps.length).map (fun i => ps.getD i d) = ps := by
    apply List.ext_getElem
    · simp
    · intro i h1 h2
      simp [List.getD_eq_getElem?_getD, h2]
  conv => rhs; rw [← e]
  rw [List.filter_map]
  rfl
section
variable {K : PySem.W.Frag} {σ : L2.St} {H H' : Hp} {ta tb te tl : TE} {t : TT} {x y z v : V} {R : V → Hp → Prop}
theorem evx_lcX {a : Addr} {xs : List V} {g : TG} {vs : List Nat} (f : Nat → Bool) (R : Nat → V → Hp → Prop) (h : Ev tl σ H (.ref a)) (hx : SqL K H a xs) (hz : xs.length ≤ 40000)
    (hstep : ∀ (n : Nat) (x : V) (H' : Hp), xs[n]? = some x → Ex H H' → ∃ σn : L2.St, wipe σn vs = wipe σ vs ∧ (∀ k : L2.St → Hp → Prop, k σn H' → g x (wipe σ vs) H' k) ∧ EvT t σn H' (f n) ∧ (f n = true → EvX te σn H' (R n)))
    (hR : ∀ n y H1 H2, R n y H1 → Ex H1 H2 → R n y H2) (hS : ∀ n y (H1 : Hp) D zs o, R n y H1 → H1 D = some (.lst zs) → R n y (upd H1 D o)) :
    EvX (tLc (iList K tl) g t te vs) σ H (fun v H' => ∃ (D : Addr) (ys : List V), v = .ref D ∧ H D = none ∧ H' D = some (.lst ys) ∧ Paired (fun n y => R n y H') ((List.range xs.length).filter f) ys) := fun H0 e Q q => by
  refine h H0 e _ fun H1 e1 => ⟨a, rfl, ⟨xs, ex_l (e.trans e1) hx⟩, fun D hD => ?_⟩
  let Nx : Nat → Hp → Prop := fun n H' => n ≤ xs.length ∧ Ex H1 H' ∧ ∃ ys : List V, H' D = some (.lst ys) ∧ ys.length ≤ n ∧ Paired (fun n y => R n y H') ((List.range n).filter f) ys
  refine ⟨fun n m H' => m = xs.length - n ∧ Nx n H', ⟨xs.length, rfl, Nat.zero_le _, Ex.new hD, [], upd_same, Nat.le_refl _, .nil⟩, ?_⟩
  rintro n m H' ⟨rfl, hn, e2, ys, hys, zy, pr⟩
  have e02 := (e.trans e1).trans e2
  have hq := ex_l e02 hx
  by_cases lt : n < xs.length
  · refine .inr ⟨⟨xs, xs[n], hq, List.getElem?_eq_getElem lt⟩, Nx (n + 1), fun H2 p2 => ⟨xs.length - (n + 1), by omega, rfl, p2⟩, fun x H2 y => ?_⟩
    obtain ⟨rfl, hx2⟩ := y
    obtain ⟨σn, hw, hg, ht, he⟩ := hstep n x _ (hx2 xs hq) e02
    refine hg _ ⟨hw, ht _ (Ex.refl _) _ fun H3 e3 => ?_⟩
    cases hf : f n with
    | false =>
      show Nx (n + 1) H3
      refine ⟨lt, e2.trans e3, ys, e3 _ _ hys, by omega, ?_⟩
      rw [List.range_succ, List.filter_append, List.filter_cons_of_neg (by rw [hf]; exact Bool.false_ne_true), List.filter_nil, List.append_nil]
      exact paired_mono (fun a b r => hR a b _ _ r e3) pr
    | true =>
      show te σn H3 fun y H4 => ∃ acc, H4 D = some (.lst acc) ∧ acc.length < sizeLine ∧ Nx (n + 1) (upd H4 D (.lst (acc ++ [y])))
      refine (he hf) H3 e3 _ fun y H4 e4 r => ⟨ys, (e3.trans e4) _ _ hys, sz_lt (by omega), lt, Ex.mut (e2.trans (e3.trans e4)) hD, ys ++ [y], upd_same, by rw [List.length_append]; show ys.length + 1 ≤ n + 1; omega, ?_⟩
      have h4 := (e3.trans e4) _ _ hys
      rw [List.range_succ, List.filter_append, List.filter_cons_of_pos hf, List.filter_nil]
      exact paired_app (paired_mono (fun a b r => hS a b _ _ _ _ (hR a b _ _ r (e3.trans e4)) h4) pr) (.cons (hS _ _ _ _ _ _ r h4) .nil)
  · obtain rfl : n = xs.length := by omega
    exact .inl ⟨⟨xs, hq, Nat.le_refl _⟩, q _ _ (e1.trans e2) ⟨D, ys, rfl, fresh_back (e.trans e1) hD, hys, pr⟩⟩
/-- over a list of the pairs ps -/
theorem evx_lcP {α : Type} {a : Addr} {ys0 : List V} {ps : List α} (d : α) {g : TG} {vs : List Nat} (F : α → V → Hp → Prop) (f : α → Bool) (R : α → V → Hp → Prop) (h : Ev tl σ H (.ref a)) (hx : SqL K H a ys0) (hp : Paired (fun p y => F p y H) ps ys0) (hz : ps.length ≤ 40000)
    (hstep : ∀ (p : α) (x : V) (H' : Hp), p ∈ ps → F p x H → Ex H H' → ∃ σn : L2.St, wipe σn vs = wipe σ vs ∧ (∀ k : L2.St → Hp → Prop, k σn H' → g x (wipe σ vs) H' k) ∧ EvT t σn H' (f p) ∧ (f p = true → EvX te σn H' (R p)))
    (hR : ∀ p y H1 H2, R p y H1 → Ex H1 H2 → R p y H2) (hS : ∀ p y (H1 : Hp) D zs o, R p y H1 → H1 D = some (.lst zs) → R p y (upd H1 D o)) :
    EvX (tLc (iList K tl) g t te vs) σ H (fun v H' => ∃ (D : Addr) (ys : List V), v = .ref D ∧ H D = none ∧ H' D = some (.lst ys) ∧ Paired (fun p y => R p y H') (ps.filter f) ys) := by
  have zl : ys0.length = ps.length := (Paired.length hp).symm
  refine evx_mono (evx_lcX (f := fun n => f (ps.getD n d)) (R := fun n => R (ps.getD n d)) h hx (by omega) (fun n x H' hxn e => ?_) (fun n y H1 H2 r e => hR _ y H1 H2 r e) (fun n y H1 D zs o r e => hS _ y H1 D zs o r e)) fun v H1 e r => ?_
  · have lt : n < ps.length := by
      have := (List.getElem?_eq_some_iff.mp hxn).1
      omega
    have eg : ps.getD n d = ps[n] := by simp [List.getD_eq_getElem?_getD, lt]
    obtain ⟨y, hy, fy⟩ := paired_get hp (List.getElem?_eq_getElem lt)
    rw [hxn] at hy
    obtain rfl := Option.some.inj hy
    rw [eg]
    exact hstep _ x H' (List.getElem_mem lt) fy e
  · obtain ⟨D, ys, rfl, hD, hys, pr⟩ := r
    refine ⟨D, ys, rfl, hD, hys, ?_⟩
    rw [zl] at pr
    have := paired_left (F := fun p y => R p y H1) (g := fun n => ps.getD n d) pr
    rwa [keep_at ps d f] at this
/-! ### pairs of numbers below N -/
def rowP (N i : Nat) : List (Nat × Nat) := (List.range (N - (i + 1))).map fun l => (i, i + 1 + l)
def belowP (N n : Nat) : List (Nat × Nat) := (List.range n).flatMap (rowP N)
abbrev allP (N : Nat) : List (Nat × Nat) := belowP N N
theorem belowP_succ (N n : Nat) : belowP N (n + 1) = belowP N n ++ rowP N n := by
  unfold belowP
  rw [List.range_succ, List.flatMap_append]
  simp
theorem belowP_len (N : Nat) : ∀ n, (belowP N n).length ≤ n * N
  | 0 => by simp [belowP]
  | n + 1 => by
    rw [belowP_succ, List.length_append, Nat.succ_mul]
    have := belowP_len N n
    have : (rowP N n).length = N - (n + 1) := by simp [rowP]
    omega
theorem mem_belowP {N n : Nat} {p : Nat × Nat} (h : p ∈ belowP N n) : p.1 < n ∧ p.1 < p.2 ∧ p.2 < N := by
  unfold belowP rowP at h
  rw [List.mem_flatMap] at h
  obtain ⟨i, hi, h⟩ := h
  obtain ⟨l, hl, rfl⟩ := List.mem_map.mp h
  rw [List.mem_range] at hi hl
  refine ⟨hi, ?_, ?_⟩
  · show i < i + 1 + l
    omega
  · show i + 1 + l < N
    omega
def PrAt (p : Nat × Nat) (y : V) (H : Hp) : Prop := ∃ t : Addr, y = .ref t ∧ H t = some (.tup [.int p.1, .int p.2])
theorem PrAt.later {p : Nat × Nat} {y : V} {H H' : Hp} (h : PrAt p y H) (e : Ex H H') : PrAt p y H' := by
  obtain ⟨t, rfl, h⟩ := h
  exact ⟨t, rfl, e _ _ h⟩
theorem PrAt.stay {p : Nat × Nat} {y : V} {H : Hp} {D : Addr} {zs : List V} {o : HO} (h : PrAt p y H) (hD : H D = some (.lst zs)) : PrAt p y (upd H D o) := by
  obtain ⟨t, rfl, h⟩ := h
  refine ⟨t, rfl, (upd_ne fun z => ?_).trans h⟩
  rw [z, hD] at h
  exact nomatch h
theorem yes_go {σ : L2.St} {H : Hp} {A B : Hp → Prop} (h : A H) : tYes σ H (fun b H3 => if b = true then A H3 else B H3) := by
  have e : (if true = true then A H else B H) := by
    rw [if_pos rfl]
    exact h
  exact e
/-- [(i, j) for i in range(N) for j in range(i + 1, N)] -/
theorem evx_lcPairs {ta ta2 : TA} {i j : Nat} {vs vs1 : List Nat} {N : Nat} (h : EvA ta σ H [.int (N : Int)]) (hN : N ≤ 200) (hw : ∀ x, wipe ((wipe σ vs).set i (some x)) vs = wipe σ vs)
    (hw1 : ∀ x y, wipe ((wipe ((wipe σ vs).set i (some x)) vs1).set j (some y)) vs1 = wipe ((wipe σ vs).set i (some x)) vs1)
    (h2 : ∀ (n : Nat) H', n < N → Ex H H' → EvA ta2 ((wipe σ vs).set i (some (.int (n : Int)))) H' [.int ((n : Int) + 1), .int (N : Int)])
    (he : ∀ (n l : Nat) H', Ex H H' → EvU te ((wipe ((wipe σ vs).set i (some (.int (n : Int)))) vs1).set j (some (.int ((n : Int) + 1 + l)))) H' [.int (n : Int), .int ((n : Int) + 1 + l)]) :
    EvX (tLc2 (iRng1 ta) (gName i) tYes (iRng2 ta2) (gName j) tYes te vs vs1) σ H (fun v H' => ∃ (D : Addr) (ys : List V), v = .ref D ∧ H D = none ∧ H' D = some (.lst ys) ∧ Paired (fun p y => PrAt p y H') (allP N) ys) := fun H0 e Q q => by
  refine h H0 e _ fun H1 e1 => ⟨(N : Int), rfl, by omega, by omega, fun D hD => ?_⟩
  let Acc : List (Nat × Nat) → Hp → Prop := fun ps H' => Ex H1 H' ∧ ∃ ys : List V, H' D = some (.lst ys) ∧ Paired (fun p y => PrAt p y H') ps ys
  refine ⟨fun n m H' => m = N - n ∧ n ≤ N ∧ Acc (belowP N n) H', ⟨N, rfl, Nat.zero_le _, Ex.new hD, [], upd_same, .nil⟩, ?_⟩
  rintro n m H' ⟨rfl, hn, e2, ys, hys, pr⟩
  by_cases lt : n < N
  · refine .inr ⟨by show n < (N : Int).toNat; omega, fun H2 => n + 1 ≤ N ∧ Acc (belowP N (n + 1)) H2, fun H2 p2 => ⟨N - (n + 1), by omega, rfl, p2⟩, fun x H2 y => ?_⟩
    obtain ⟨rfl, rfl⟩ := y
    have e02 := (e.trans e1).trans e2
    show wipe _ vs = _ ∧ _
    rw [show (0 : Int) + (n : Int) = (n : Int) by omega]
    refine ⟨hw _, ?_⟩
    refine yes_go ?_
    refine h2 n _ lt e02 _ (Ex.refl _) _ fun H3 e3 => ⟨(n : Int) + 1, (N : Int), rfl, ⟨by omega, by omega, by omega, by omega⟩, ?_⟩
    refine ⟨fun l k H4 => k = (N - (n + 1)) - l ∧ l ≤ N - (n + 1) ∧ Acc (belowP N n ++ (List.range l).map fun l => (n, n + 1 + l)) H4, ⟨_, rfl, Nat.zero_le _, e2.trans e3, ys, e3 _ _ hys, ?_⟩, ?_⟩
    · rw [List.range_zero, List.map_nil, List.append_nil]
      exact paired_mono (fun a b r => r.later e3) pr
    rintro l k H4 ⟨rfl, hl, e4, zs, hzs, pz⟩
    by_cases lt2 : l < N - (n + 1)
    · refine .inr ⟨by show l < ((N : Int) - ((n : Int) + 1)).toNat; omega, fun H5 => l + 1 ≤ N - (n + 1) ∧ Acc (belowP N n ++ (List.range (l + 1)).map fun l => (n, n + 1 + l)) H5, fun H5 p5 => ⟨(N - (n + 1)) - (l + 1), by omega, rfl, p5⟩, fun x H5 y => ?_⟩
      obtain ⟨rfl, rfl⟩ := y
      refine ⟨hw1 _ _, ?_⟩
      refine yes_go ?_
      refine he n l _ ((e.trans e1).trans e4) _ (Ex.refl _) _ fun t H6 _ e6 h6 => ?_
      have hz6 := e6 _ _ hzs
      have zl : zs.length ≤ 40400 := by
        have a1 := Paired.length pz
        have a2 := belowP_len N n
        rw [List.length_append, List.length_map, List.length_range] at a1
        have a3 : n * N ≤ 200 * 200 := Nat.mul_le_mul (by omega) hN
        omega
      refine ⟨zs, hz6, sz_lt (by omega), lt2, Ex.mut (e4.trans e6) hD, zs ++ [.ref t], upd_same, ?_⟩
      rw [List.range_succ, List.map_append, ← List.append_assoc]
      refine paired_app (paired_mono (fun a b r => (r.later e6).stay hz6) pz) (.cons ?_ .nil)
      refine PrAt.stay ⟨t, rfl, ?_⟩ hz6
      rw [h6]
      show some (HO.tup [.int (n : Int), .int ((n : Int) + 1 + (l : Int))]) = some (HO.tup [.int (n : Int), .int ((n + 1 + l : Nat) : Int)])
      rw [show ((n + 1 + l : Nat) : Int) = (n : Int) + 1 + (l : Int) by omega]
    · obtain rfl : l = N - (n + 1) := by omega
      refine .inl ⟨by show ((N : Int) - ((n : Int) + 1)).toNat ≤ N - (n + 1); omega, lt, e4, zs, hzs, ?_⟩
      rw [belowP_succ]
      exact pz
  · obtain rfl : n = N := by omega
    exact .inl ⟨by show (n : Int).toNat ≤ n; omega, q _ _ (e1.trans e2) ⟨D, ys, rfl, fresh_back (e.trans e1) hD, hys, pr⟩⟩
def allG (M N : Nat) : List (Nat × Nat) := (List.range M).flatMap fun i => (List.range N).map fun j => (i, j)
theorem allG_succ (M N : Nat) : allG (M + 1) N = allG M N ++ (List.range N).map fun j => (M, j) := by
  unfold allG
  rw [List.range_succ, List.flatMap_append]
  simp
theorem allG_len : ∀ M N, (allG M N).length ≤ M * N
  | 0, N => by simp [allG]
  | M + 1, N => by
    rw [allG_succ, List.length_append, Nat.succ_mul, List.length_map, List.length_range]
    have := allG_len M N
    omega
theorem mem_allG {M N : Nat} {p : Nat × Nat} (h : p ∈ allG M N) : p.1 < M ∧ p.2 < N := by
  unfold allG at h
  rw [List.mem_flatMap] at h
  obtain ⟨i, hi, h⟩ := h
  obtain ⟨j, hj, rfl⟩ := List.mem_map.mp h
  exact ⟨List.mem_range.mp hi, List.mem_range.mp hj⟩
/-- [(i, j) for i in range(M) for j in range(N)] -/
theorem evx_lcGrid {ta ta2 : TA} {i j : Nat} {vs vs1 : List Nat} {M N : Nat} (h : EvA ta σ H [.int (M : Int)]) (hM : M ≤ 200) (hN : N ≤ 200) (hw : ∀ x, wipe ((wipe σ vs).set i (some x)) vs = wipe σ vs)
    (hw1 : ∀ x y, wipe ((wipe ((wipe σ vs).set i (some x)) vs1).set j (some y)) vs1 = wipe ((wipe σ vs).set i (some x)) vs1)
    (h2 : ∀ (n : Nat) H', n < M → Ex H H' → EvA ta2 ((wipe σ vs).set i (some (.int (n : Int)))) H' [.int (N : Int)])
    (he : ∀ (n l : Nat) H', Ex H H' → EvU te ((wipe ((wipe σ vs).set i (some (.int (n : Int)))) vs1).set j (some (.int (l : Int)))) H' [.int (n : Int), .int (l : Int)]) :
    EvX (tLc2 (iRng1 ta) (gName i) tYes (iRng1 ta2) (gName j) tYes te vs vs1) σ H (fun v H' => ∃ (D : Addr) (ys : List V), v = .ref D ∧ H D = none ∧ H' D = some (.lst ys) ∧ Paired (fun p y => PrAt p y H') (allG M N) ys) := fun H0 e Q q => by
  refine h H0 e _ fun H1 e1 => ⟨(M : Int), rfl, by omega, by omega, fun D hD => ?_⟩
  let Acc : List (Nat × Nat) → Hp → Prop := fun ps H' => Ex H1 H' ∧ ∃ ys : List V, H' D = some (.lst ys) ∧ Paired (fun p y => PrAt p y H') ps ys
  refine ⟨fun n m H' => m = M - n ∧ n ≤ M ∧ Acc (allG n N) H', ⟨M, rfl, Nat.zero_le _, Ex.new hD, [], upd_same, .nil⟩, ?_⟩
  rintro n m H' ⟨rfl, hn, e2, ys, hys, pr⟩
  by_cases lt : n < M
  · refine .inr ⟨by show n < (M : Int).toNat; omega, fun H2 => n + 1 ≤ M ∧ Acc (allG (n + 1) N) H2, fun H2 p2 => ⟨M - (n + 1), by omega, rfl, p2⟩, fun x H2 y => ?_⟩
    obtain ⟨rfl, rfl⟩ := y
    have e02 := (e.trans e1).trans e2
    show wipe _ vs = _ ∧ _
    rw [show (0 : Int) + (n : Int) = (n : Int) by omega]
    refine ⟨hw _, ?_⟩
    refine yes_go ?_
    refine h2 n _ lt e02 _ (Ex.refl _) _ fun H3 e3 => ⟨(N : Int), rfl, by omega, by omega, ?_⟩
    refine ⟨fun l k H4 => k = N - l ∧ l ≤ N ∧ Acc (allG n N ++ (List.range l).map fun l => (n, l)) H4, ⟨_, rfl, Nat.zero_le _, e2.trans e3, ys, e3 _ _ hys, ?_⟩, ?_⟩
    · rw [List.range_zero, List.map_nil, List.append_nil]
      exact paired_mono (fun a b r => r.later e3) pr
    rintro l k H4 ⟨rfl, hl, e4, zs, hzs, pz⟩
    by_cases lt2 : l < N
    · refine .inr ⟨by show l < (N : Int).toNat; omega, fun H5 => l + 1 ≤ N ∧ Acc (allG n N ++ (List.range (l + 1)).map fun l => (n, l)) H5, fun H5 p5 => ⟨N - (l + 1), by omega, rfl, p5⟩, fun x H5 y => ?_⟩
      obtain ⟨rfl, rfl⟩ := y
      rw [show (0 : Int) + (l : Int) = (l : Int) by omega]
      refine ⟨hw1 _ _, ?_⟩
      refine yes_go ?_
      refine he n l _ ((e.trans e1).trans e4) _ (Ex.refl _) _ fun t H6 _ e6 h6 => ?_
      have hz6 := e6 _ _ hzs
      have zl : zs.length ≤ 40400 := by
        have a1 := Paired.length pz
        have a2 := allG_len n N
        rw [List.length_append, List.length_map, List.length_range] at a1
        have a3 : n * N ≤ 200 * 200 := Nat.mul_le_mul (by omega) hN
        omega
      refine ⟨zs, hz6, sz_lt (by omega), lt2, Ex.mut (e4.trans e6) hD, zs ++ [.ref t], upd_same, ?_⟩
      rw [List.range_succ, List.map_append, ← List.append_assoc]
      refine paired_app (paired_mono (fun a b r => (r.later e6).stay hz6) pz) (.cons ?_ .nil)
      exact PrAt.stay ⟨t, rfl, h6⟩ hz6
    · obtain rfl : l = N := by omega
      refine .inl ⟨by show (l : Int).toNat ≤ l; omega, lt, e4, zs, hzs, ?_⟩
      rw [allG_succ]
      exact pz
  · obtain rfl : n = M := by omega
    exact .inl ⟨by show (n : Int).toNat ≤ n; omega, q _ _ (e1.trans e2) ⟨D, ys, rfl, fresh_back (e.trans e1) hD, hys, pr⟩⟩
/-- (e, f, something new) -/
theorem evx_tup3 {tc : TE} {v1 v2 : V} {R3 : V → Hp → Prop} (h1 : Ev ta σ H v1) (h2 : Ev tb σ H v2) (h3 : EvX tc σ H R3) : EvX (tTup (tCons ta (tCons tb (tCons tc tNil)))) σ H (fun v H' => ∃ (t : Addr) (v3 : V) (H3 : Hp), v = .ref t ∧ H' t = some (.tup [v1, v2, v3]) ∧ R3 v3 H3 ∧ Ex H3 H') := fun H0 e Q q =>
  h1 H0 e _ fun H1 e1 => h2 H1 (e.trans e1) _ fun H2 e2 => h3 H2 ((e.trans e1).trans e2) _ fun v3 H3 e3 r => ⟨sz_of (by simp), fun t ht => q _ _ (((e1.trans e2).trans e3).trans (Ex.new ht)) ⟨t, v3, H3, rfl, upd_same, r, Ex.new ht⟩⟩
/-- a call, its third argument something new -/
theorem evx_callM {Dd : Hp → List V → (V → Hp → Prop) → Prop} {E : XK} {t1 t2 t3 : TE} {tr : TA} {v1 v2 : V} {vs : List V} {R3 : Hp → V → Hp → Prop} (h1 : Ev t1 σ H v1) (h2 : Ev t2 σ H v2) (h3 : ∀ H1, Ex H H1 → EvX t3 σ H1 (R3 H1)) (h4 : EvA tr σ H vs)
    (hs : ∀ v3 H1 H2 H3, Ex H H1 → Ex H1 H2 → R3 H1 v3 H2 → Ex H2 H3 → ∃ R1, Dd H3 (v1 :: v2 :: v3 :: vs) R1 ∧ ∀ v H4, Ex H3 H4 → R1 v H4 → R v H4) : EvX (tCall (SpR Dd) [] E (tCons t1 (tCons t2 (tCons t3 tr)))) σ H R := fun H0 e Q q =>
  h1 H0 e _ fun H1 e1 => h2 H1 (e.trans e1) _ fun H2 e2 => h3 H2 ((e.trans e1).trans e2) H2 (Ex.refl H2) _ fun v3 H3 e3 r3 => h4 H3 (((e.trans e1).trans e2).trans e3) _ fun H4 e4 => by
    obtain ⟨R1, d, k⟩ := hs v3 H2 H3 H4 ((e.trans e1).trans e2) e3 r3 e4
    exact ⟨R1, by rw [List.append_nil]; exact d, fun v H5 e5 r => q v H5 ((((e1.trans e2).trans e3).trans e4).trans e5) (k v H5 e5 r)⟩
end
/-! ### told pairs -/
abbrev shW (kd : Str) (kvs : List (Key × V)) (us us2 : List (List Str)) (p : Nat × Nat) : Int × Int := shareW kd kvs (us.getD p.1 []) (us2.getD p.2 [])
def TriR (kd : Str) (kvs : List (Key × V)) (us us2 : List (List Str)) (p : Nat × Nat) (y : V) (H : Hp) : Prop := ∃ t : Addr, y = .ref t ∧ PairAt H t p.1 p.2 (shW kd kvs us us2 p)
theorem TriR.later {kd : Str} {kvs : List (Key × V)} {us us2 : List (List Str)} {p : Nat × Nat} {y : V} {H H' : Hp} (h : TriR kd kvs us us2 p y H) (e : Ex H H') : TriR kd kvs us us2 p y H' := by
  obtain ⟨t, rfl, h⟩ := h
  exact ⟨t, rfl, h.later e⟩
theorem TriR.stay {kd : Str} {kvs : List (Key × V)} {us us2 : List (List Str)} {p : Nat × Nat} {y : V} {H : Hp} {D : Addr} {zs : List V} {o : HO} (h : TriR kd kvs us us2 p y H) (hD : H D = some (.lst zs)) : TriR kd kvs us us2 p y (upd H D o) := by
  obtain ⟨t, rfl, h⟩ := h
  exact ⟨t, rfl, h.stay hD⟩
theorem pairs_of {kd : Str} {l : Int × Int} {kvs : List (Key × V)} {us : List (List Str)} {D : Addr} {H : Hp} : ∀ {ps : List (Nat × Nat)} {ys : List V}, Paired (fun p y => TriR kd kvs us us p y H) ps ys →
    ∃ tr : List (Addr × Nat × Nat), ys = tr.map (fun x => V.ref x.1) ∧ tr.map (·.2) = ps ∧ ∀ x ∈ tr, PairAt H x.1 x.2.1 x.2.2 (shareW kd kvs (us.getD x.2.1 []) (us.getD x.2.2 []))
  | _, _, .nil => ⟨[], rfl, rfl, fun _ m => nomatch m⟩
  | p :: ps, _, .cons h r => by
    obtain ⟨t, rfl, ht⟩ := h
    obtain ⟨tr, rfl, rfl, h3⟩ := pairs_of (l := l) (D := D) r
    refine ⟨(t, p) :: tr, rfl, rfl, fun x m => ?_⟩
    rcases List.mem_cons.mp m with rfl | m
    · exact ht
    · exact h3 x m
theorem rowUp_row {kd : Str} {l : Int × Int} {kvs : List (Key × V)} {us : List (List Str)} {N i : Nat} (h : i < N) : (rowP N i).filter (fun p => reachB (shW kd kvs us us p) l) = rowUp kd l kvs us i N := by
  have e : List.range N = List.range (i + 1) ++ (List.range (N - (i + 1))).map (i + 1 + ·) := by
    rw [← List.range_add]
    congr 1
    omega
  have z : (List.range (i + 1)).filter (fun j => decide (i < j) && reachB (shareW kd kvs (us.getD i []) (us.getD j [])) l) = [] := List.filter_eq_nil_iff.mpr fun j hj z => by
    have := List.mem_range.mp hj
    rw [decide_eq_false (show ¬ i < j by omega)] at z
    exact nomatch z
  unfold rowUp rowP
  rw [e, List.filter_append, List.map_append, z, List.map_nil, List.nil_append, List.filter_map, List.filter_map, List.map_map]
  congr 1
  refine List.filter_congr fun k _ => ?_
  simp only [Function.comp_apply]
  rw [decide_eq_true (show i < i + 1 + k by omega), Bool.true_and]
theorem pairsUp_all {kd : Str} {l : Int × Int} {kvs : List (Key × V)} {us : List (List Str)} : (allP us.length).filter (fun p => reachB (shW kd kvs us us p) l) = pairsUp kd l kvs us us.length := by
  have k : ∀ n, n ≤ us.length → (belowP us.length n).filter (fun p => reachB (shW kd kvs us us p) l) = pairsUp kd l kvs us n := by
    intro n
    induction n with
    | zero => intro _; rfl
    | succ n ih =>
      intro hn
      rw [belowP_succ, List.filter_append, ih (by omega), rowUp_row (by omega), pairsUp_succ]
  exact k _ (Nat.le_refl _)
end MuLc

namespace MuTri
open PySem PySem.Spec PyProof.Rows L2 Evl MuK
/-! ### what is told, as data -/
abbrev Told := List ((Nat × Nat) × (Int × Int))
def toldL (kd : Str) (l : Int × Int) (kvs : List (Key × V)) (us : List (List Str)) : Told := (pairsUp kd l kvs us us.length).map fun x => (x, shareW kd kvs (us.getD x.1 []) (us.getD x.2 []))
def TrisAt (bs : Told) (p : Addr) (H : Hp) : Prop := ∃ cs : List Tri, H p = some (.lst (cs.map fun c => V.ref c.1)) ∧ cs.map (·.2) = bs ∧ ∀ c ∈ cs, PairAt H c.1 c.2.1.1 c.2.1.2 c.2.2
theorem TrisAt.later {bs : Told} {p : Addr} {H H' : Hp} (h : TrisAt bs p H) (e : Ex H H') : TrisAt bs p H' := by
  obtain ⟨cs, h1, h2, h3⟩ := h
  exact ⟨cs, e _ _ h1, h2, fun c m => (h3 c m).later e⟩
theorem pairs_tri {kd : Str} {l : Int × Int} {kvs : List (Key × V)} {us : List (List Str)} {ix : List (Nat × Nat)} {p : Addr} {H : Hp} (h : PairsAt kd l kvs us ix p H) : TrisAt (ix.map fun x => (x, shareW kd kvs (us.getD x.1 []) (us.getD x.2 []))) p H := by
  obtain ⟨tr, h1, h2, h3⟩ := h
  refine ⟨tr.map fun x => (x.1, x.2, shareW kd kvs (us.getD x.2.1 []) (us.getD x.2.2 [])), ?_, ?_, fun c hc => ?_⟩
  · rw [List.map_map]
    exact h1
  · rw [List.map_map, ← h2, List.map_map]
    rfl
  · obtain ⟨x, hx, rfl⟩ := List.mem_map.mp hc
    exact h3 x hx
def tD (b : (Nat × Nat) × (Int × Int)) : PyData := .tuple [.int b.1.1, .int b.1.2, .tuple [.int b.2.1, .int b.2.2]]
theorem tris_lay : ∀ bs : Told, PyData.canLayAll0 (bs.map tD) = true ∧ PyData.depthAll (bs.map tD) ≤ 2
  | [] => ⟨rfl, by show 0 ≤ 2; decide⟩
  | x :: r => by
    have ih := tris_lay r
    have e1 : (tD x).canLay0 = true := by simp [tD, PyData.canLay0, PyData.canLayAll0]
    have e2 : (tD x).depth = 2 := by simp [tD, PyData.depth, PyData.depthAll]
    refine ⟨?_, ?_⟩
    · show PyData.canLayAll0 (tD x :: r.map tD) = true
      rw [PyData.canLayAll0, e1, ih.1]
      rfl
    · show PyData.depthAll (tD x :: r.map tD) ≤ 2
      rw [PyData.depthAll, e2]
      omega
theorem tris_shaped (bs : Told) : SeqAt.shaped (.list (bs.map tD)) = true ∧ (PyData.list (bs.map tD)).canLay0 = true := by
  have h := tris_lay bs
  have e : (PyData.list (bs.map tD)).canLay0 = true := by
    rw [PyData.canLay0]
    exact h.1
  refine ⟨?_, e⟩
  unfold SeqAt.shaped
  rw [e, PyData.depth]
  simp
  omega
theorem tris_dp {K : PySem.W.Frag} {bs : Told} {p : Addr} {H : Hp} (h : TrisAt bs p H) : Dp K H (.ref p) (.list (bs.map tD)) := by
  obtain ⟨cs, h1, h2, h3⟩ := h
  refine .lst (sq_of h1) ?_
  rw [← h2]
  clear h1 h2
  induction cs with
  | nil => exact .nil
  | cons x r ih =>
    obtain ⟨q, a, b⟩ := h3 x List.mem_cons_self
    exact .cons (.tup (st_of a) (.cons (.int _) (.cons (.int _) (.cons (.tup (st_of b) (.cons (.int _) (.cons (.int _) .nil))) .nil)))) (ih fun y m => h3 y (List.mem_cons_of_mem _ m))
section
variable {K : PySem.W.Frag} {σ : L2.St} {H H' : Hp} {ta tb te td ty tl : TE} {t : TT} {x y z v : V}
abbrev RTold (bs : Told) : V → Hp → Prop := fun v H' => ∃ p : Addr, v = .ref p ∧ TrisAt bs p H'
theorem evx_told {i : Nat} {p : Addr} {bs : Told} (h : σ[i]? = some (some (.ref p))) (hp : TrisAt bs p H) : EvX (tVar i) σ H (RTold bs) := evx_mono (evx_of (ev_var h)) fun v H1 e r => ⟨p, r, hp.later e⟩
theorem ev_neTri {bs : Told} (ha : EvX ta σ H (RTold bs)) (hb : ∀ H1, Ex H H1 → EvX tb σ H1 (RTold bs)) : Ev (tOp (rNeD K) ta tb) σ H (.bl false) :=
  ev_neX ha (fun _ H1 e _ => hb H1 e) fun v1 H1 v2 H2 _ r1 e2 r2 => by
    obtain ⟨p, rfl, hp⟩ := r1
    obtain ⟨q, rfl, hq⟩ := r2
    exact ⟨_, tris_dp (hp.later e2), tris_dp hq, (tris_shaped bs).1, (tris_shaped bs).2⟩
theorem ev_eqTri {bs : Told} (ha : EvX ta σ H (RTold bs)) (hb : ∀ H1, Ex H H1 → EvX tb σ H1 (RTold bs)) : Ev (tOp (rEqD K) ta tb) σ H (.bl true) :=
  ev_eqX ha (fun _ H1 e _ => hb H1 e) fun v1 H1 v2 H2 _ r1 e2 r2 => by
    obtain ⟨p, rfl, hp⟩ := r1
    obtain ⟨q, rfl, hq⟩ := r2
    exact ⟨_, tris_dp (hp.later e2), tris_dp hq, (tris_shaped bs).1, (tris_shaped bs).2⟩
theorem evx_L {xs : List V} (h : EvL te σ H xs) : EvX te σ H (fun v H' => ∃ p : Addr, v = .ref p ∧ H p = none ∧ H' p = some (.lst xs)) := fun H1 e Q q => h H1 e _ fun p H2 hp e2 h2 => q _ _ e2 ⟨p, rfl, fresh_back e hp, h2⟩
theorem given_keep {cs : List Tri} {g : (Nat × Nat) × (Int × Int) → Bool} : ∀ n, n ≤ cs.length → given n (fun i => g (cs.getD i (0, (0, 0), (0, 0))).2) (fun i => .ref (cs.getD i (0, (0, 0), (0, 0))).1) = ((cs.take n).filter fun c => g c.2).map fun c => V.ref c.1
  | 0, _ => rfl
  | n + 1, h => by
    have ih := given_keep (cs := cs) (g := g) n (by omega)
    have lt : n < cs.length := by omega
    have e : cs.getD n (0, (0, 0), (0, 0)) = cs[n] := by simp [List.getD_eq_getElem?_getD, lt]
    unfold given at ih ⊢
    rw [List.range_succ, List.filter_append, List.map_append, ih, List.take_add_one, List.getElem?_eq_getElem lt, List.filter_append, List.map_append]
    congr 1
    cases c : g cs[n].2 <;> simp [List.filter_cons, lt, c]
/-- [x for x in bs if ..] -/
theorem evx_lcKeep {a : Addr} {bs : Told} {g : (Nat × Nat) × (Int × Int) → Bool} {j : Nat} {vs : List Nat} (h : Ev tl σ H (.ref a)) (hx : TrisAt bs a H) (hz : bs.length ≤ 40000) (hw : ∀ x, wipe ((wipe σ vs).set j (some x)) vs = wipe σ vs) (hj : ∀ x, ((wipe σ vs).set j (some x))[j]? = some (some x))
    (ht : ∀ c : Tri, c.2 ∈ bs → PairAt H c.1 c.2.1.1 c.2.1.2 c.2.2 → ∀ H1, Ex H H1 → EvT t ((wipe σ vs).set j (some (.ref c.1))) H1 (g c.2)) : EvX (tLc (iList K tl) (gName j) t (tVar j) vs) σ H (RTold (bs.filter g)) := by
  obtain ⟨cs, h1, h2, h3⟩ := hx
  have zc : cs.length = bs.length := by rw [← h2, List.length_map]
  have at_ : ∀ {i : Nat} {x : V}, (cs.map fun c => V.ref c.1)[i]? = some x → ∃ c, c ∈ cs ∧ x = .ref c.1 ∧ cs.getD i (0, (0, 0), (0, 0)) = c := fun {i x} hi => by
    rw [List.getElem?_map] at hi
    cases y : cs[i]? with
    | none =>
      rw [y] at hi
      exact nomatch hi
    | some c =>
      rw [y] at hi
      exact ⟨c, List.mem_of_getElem? y, (Option.some.inj hi).symm, by rw [List.getD_eq_getElem?_getD, y]; rfl⟩
  refine evx_mono (evx_L (el_lcL (K := K) (xs := cs.map fun c => V.ref c.1) (a := a) (fun i => g (cs.getD i (0, (0, 0), (0, 0))).2) (fun i => .ref (cs.getD i (0, (0, 0), (0, 0))).1) h (sq_of h1) (by rw [List.length_map]; omega) hw (fun i x H1 e hi => ?_) (fun i x H1 e hi _ => ?_))) fun v H1 e r => ?_
  · obtain ⟨c, mc, rfl, ec⟩ := at_ hi
    rw [ec]
    exact ht c (h2 ▸ List.mem_map.mpr ⟨c, mc, rfl⟩) (h3 c mc) H1 e
  · obtain ⟨c, mc, rfl, ec⟩ := at_ hi
    rw [ec]
    exact ev_var (hj _)
  · obtain ⟨p, rfl, _, hp⟩ := r
    rw [List.length_map, given_keep cs.length (Nat.le_refl _), List.take_length] at hp
    refine ⟨p, rfl, cs.filter fun c => g c.2, hp, ?_, fun c hc => (h3 c (List.mem_filter.mp hc).1).later e⟩
    rw [← h2, List.filter_map]
    rfl
end
/-! ### what is told of two lots -/
theorem told_len (kd : Str) (l : Int × Int) (kvs : List (Key × V)) (us : List (List Str)) : (toldL kd l kvs us).length ≤ us.length * us.length := by
  unfold toldL
  rw [List.length_map]
  exact pairsUp_len kd l kvs us us.length
theorem told_same {kd : Str} {l : Int × Int} {kvs kv2 : List (Key × V)} {us us2 : List (List Str)} (hl : us2.length = us.length)
    (h : ∀ i j, i < j → j < us.length → shareW kd kv2 (us2.getD i []) (us2.getD j []) = shareW kd kvs (us.getD i []) (us.getD j [])) : toldL kd l kv2 us2 = toldL kd l kvs us := by
  unfold toldL
  rw [(pairs_same hl h).1]
  refine List.map_congr_left fun x hx => ?_
  obtain ⟨_, h1, h2, _⟩ := mem_pairsUp.mp hx
  rw [h x.1 x.2 h1 h2]
theorem told_more {kd : Str} {l : Int × Int} {kvs : List (Key × V)} {us : List (List Str)} {w : List Str} : (toldL kd l kvs (us ++ [w])).filter (fun x => decide (x.1.2 < us.length)) = toldL kd l kvs us := by
  unfold toldL
  rw [List.filter_map]
  have e : (pairsUp kd l kvs (us ++ [w]) (us ++ [w]).length).filter ((fun x : (Nat × Nat) × (Int × Int) => decide (x.1.2 < us.length)) ∘ fun x => (x, shareW kd kvs ((us ++ [w]).getD x.1 []) ((us ++ [w]).getD x.2 []))) = pairsUp kd l kvs us us.length := pairs_more
  rw [e]
  refine List.map_congr_left fun x hx => ?_
  obtain ⟨h0, _, h2, _⟩ := mem_pairsUp.mp hx
  have g : ∀ i, i < us.length → (us ++ [w]).getD i [] = us.getD i [] := fun i hi => by
    rw [List.getD_eq_getElem?_getD, List.getD_eq_getElem?_getD, List.getElem?_append_left hi]
  rw [g _ h0, g _ h2]
theorem told_less {kd : Str} {l l2 : Int × Int} {kvs : List (Key × V)} {us : List (List Str)} (h : ∀ i j, i < j → j < us.length → reachB (shareW kd kvs (us.getD i []) (us.getD j [])) l2 = true → reachB (shareW kd kvs (us.getD i []) (us.getD j [])) l = true) :
    (toldL kd l kvs us).filter (fun x => reachB x.2 l2) = toldL kd l2 kvs us := by
  unfold toldL
  rw [List.filter_map]
  have e := pairs_less h
  rw [← e]
  rfl
theorem told_mem {kd : Str} {l : Int × Int} {kvs : List (Key × V)} {us : List (List Str)} {x : (Nat × Nat) × (Int × Int)} (h : x ∈ toldL kd l kvs us) : x.1.1 < us.length ∧ x.1.1 < x.1.2 ∧ x.1.2 < us.length ∧ x.2 = shareW kd kvs (us.getD x.1.1 []) (us.getD x.1.2 []) := by
  obtain ⟨y, hy, rfl⟩ := List.mem_map.mp h
  obtain ⟨h0, h1, h2, _⟩ := mem_pairsUp.mp hy
  exact ⟨h0, h1, h2, rfl⟩
end MuTri

namespace MuX
open PySem PySem.Spec PyProof.Rows L2 Evl MuK
/-! ### defs that may raise: what is promised where they do -/
/-- an exception of the class at C leaves the def, all that was tracked stays -/
def SpB (B : Hp → List V → Addr → Prop) : Sp := fun vs H _ E => ∃ C, B H vs C ∧ ∀ H', Ex H H' → E (.ref C) none H'
def SpM (s0 sB : Sp) : Sp := fun vs H Q E => s0 vs H Q E ∨ sB vs H Q E
theorem both {P : Program} {w : World} {K : PySem.W.Frag} {mg : Str → Option Value} {base : Heap} {k : Nat} {f : Addr} {fd : FuncData} {ps : List Str} {s0 sB : Sp} (F0 : FnOk P w K mg base CX0 k f fd ps s0) (FB : FnOk P w K mg base (L2.CX P w) k f fd ps sB) :
    FnOk P w K mg base (L2.CX P w) k f fd ps (SpM s0 sB) :=
  ⟨fun vs H Q E h => h.elim (F0.len _ _ _ _) (FB.len _ _ _ _), fun A outer s H args us vs Q E hr e0 hb hv h => h.elim (fun h => codeAny_mono (F0.run A outer s H args us vs Q E hr e0 hb hv h) fun r s' hq => by
    cases r with
    | ok fl => cases fl <;> exact hq
    | error e => exact False.elim hq) fun h => FB.run A outer s H args us vs Q E hr e0 hb hv h⟩
section
variable {K : PySem.W.Frag} {σ : L2.St} {H H' : Hp} {ta tb te : TE} {v : V} {vs xs : List V} {sB : Sp} {E : XK}
theorem bad_call {s0 : Sp} {B : Hp → List V → Addr → Prop} {C : Addr} {ta : TA} (h : EvA ta σ H vs) (hs : ∀ H1, Ex H H1 → B H1 vs C) (k : ∀ H', Ex H H' → E (.ref C) none H') (Q : VK) : tCall (SpM s0 (SpB B)) [] E ta σ H Q :=
  h H (Ex.refl H) _ fun H1 e1 => .inr ⟨C, by rw [List.append_nil]; exact hs H1 e1, fun H2 e2 => k H2 (e1.trans e2)⟩
theorem q_bad {s0 : Sp} {B : Hp → List V → Addr → Prop} {C : Addr} {ta : TA} {tz : TS} {D : Ends} (h : EvA ta σ H vs) (hs : ∀ H1, Ex H H1 → B H1 vs C) (k : ∀ H', Ex H H' → E (.ref C) none H') : tSeq (tDrop (tCall (SpM s0 (SpB B)) [] E ta)) tz D σ H := bad_call h hs k _
theorem s_bad {s0 : Sp} {B : Hp → List V → Addr → Prop} {C : Addr} {ta : TA} {D : Ends} (h : EvA ta σ H vs) (hs : ∀ H1, Ex H H1 → B H1 vs C) (k : ∀ H', Ex H H' → E (.ref C) none H') : tDrop (tCall (SpM s0 (SpB B)) [] E ta) D σ H := bad_call h hs k _
theorem q_badA {s0 : Sp} {B : Hp → List V → Addr → Prop} {C : Addr} {ta : TA} {tz : TS} {g : TG} {D : Ends} (h : EvA ta σ H vs) (hs : ∀ H1, Ex H H1 → B H1 vs C) (k : ∀ H', Ex H H' → E (.ref C) none H') : tSeq (tAsg (tCall (SpM s0 (SpB B)) [] E ta) g) tz D σ H := bad_call h hs k _
theorem ev_callM {Dd : Hp → List V → V → Prop} {ta : TA} (h : EvA ta σ H vs) (hs : ∀ H1, Ex H H1 → Dd H1 vs v) : Ev (tCall (SpM (SpVal Dd) sB) [] E ta) σ H v := fun H1 e Q q =>
  h H1 e _ fun H2 e2 => .inl ⟨v, by rw [List.append_nil]; exact hs H2 (e.trans e2), fun H3 e3 => q H3 (e2.trans e3)⟩
theorem eu_callM {Dd : Hp → List V → List V → Prop} {ta : TA} (h : EvA ta σ H vs) (hs : ∀ H1, Ex H H1 → Dd H1 vs xs) : EvU (tCall (SpM (SpTup Dd) sB) [] E ta) σ H xs := fun H1 e Q q =>
  h H1 e _ fun H2 e2 => .inl ⟨xs, by rw [List.append_nil]; exact hs H2 (e.trans e2), fun p H3 hp e3 h3 => q p H3 (fresh_back e2 hp) (e2.trans e3) h3⟩
theorem evx_callM {Dd : Hp → List V → (V → Hp → Prop) → Prop} {R : V → Hp → Prop} {ta : TA} (h : EvA ta σ H vs) (hs : ∀ H1, Ex H H1 → ∃ R1, Dd H1 vs R1 ∧ ∀ v H2, Ex H1 H2 → R1 v H2 → R v H2) : EvX (tCall (SpM (SpR Dd) sB) [] E ta) σ H R := fun H1 e Q q =>
  h H1 e _ fun H2 e2 => .inl (by
    obtain ⟨R1, d, k⟩ := hs H2 (e.trans e2)
    exact ⟨R1, by rw [List.append_nil]; exact d, fun v H3 e3 r => q v H3 (e2.trans e3) (k v H3 e3 r)⟩)
end
/-- while a thing is locked: the exception leaves with the thing as it was -/
theorem takes_unlock {X : Cx} {W : WX} (tk : Takes X W) : Takes X (fun cls dd σ H => ∃ d od u, H d = some (.frz od u) ∧ (∀ o' u', X.H_0 d ≠ some (.frz o' u')) ∧ W cls dd σ (upd H d u)) := fun u s' x => by
  obtain ⟨a, B, sI, pins, σ, H, cls, dd, e, I, nb, up, sky, na, os, ag, d, od, w, hd, hn, k⟩ := x
  exact tk u s' ⟨a, B, sI, pins, σ, upd H d w, cls, dd, e, I.unlock hd hn, nb, up, sky, by rw [upd_ne (fun z => by rw [z, hd] at na; exact nomatch na)]; exact na, os, ag, k⟩
section
variable {K : PySem.W.Frag} {C D : Addr}
theorem kit_of {b : Bool} (hi : PySem.W.isClsIn K C = true) (hy : PySem.W.typeIn K (.ref C) = some (.type "type")) (hs : PySem.W.subIn K (.ref D) (.ref C) = some b) : PySem.W.kitCls K (.ref D) (.ref C) = some b := by
  have h1 : ((PySem.W.clsIn K C).isSome && PySem.W.typeIn K (.ref C) == some (.type "type")) = true := by
    rw [hy, show (PySem.W.clsIn K C).isSome = true from hi] <;> rfl
  unfold PySem.W.kitCls
  dsimp only
  rw [if_pos h1]
  exact hs
theorem kit_yes (hi : PySem.W.isClsIn K C = true) (hy : PySem.W.typeIn K (.ref C) = some (.type "type")) (hs : PySem.W.subIn K (.ref D) (.ref C) = some true) : PySem.W.kitOne K (.ref D) (.ref C) = some true := by
  unfold PySem.W.kitOne
  rw [kit_of hi hy hs]
  split <;> rfl
theorem kit_no (hi : PySem.W.isClsIn K C = true) (hy : PySem.W.typeIn K (.ref C) = some (.type "type")) (hs : PySem.W.subIn K (.ref D) (.ref C) = some false) (hj : PySem.W.isIn K (.ref D) C = false) : PySem.W.kitOne K (.ref D) (.ref C) = some false := by
  unfold PySem.W.isIn at hj
  rw [Bool.or_eq_false_iff] at hj
  unfold PySem.W.kitOne
  rw [hj.1, kit_of hi hy hs]
  rfl
theorem kit_val (hs : PySem.W.subIn K (.ref D) (.type "ValueError") = some true) : PySem.W.kitOne K (.ref D) (.type "ValueError") = some true := by
  have h1 : PySem.W.kitMeta "ValueError" = true := by decide +kernel
  have h2 : PySem.W.kitCls K (.ref D) (.type "ValueError") = some true := by
    unfold PySem.W.kitCls
    dsimp only
    rw [if_pos h1]
    exact hs
  unfold PySem.W.kitOne
  rw [h2]
  split <;> rfl
theorem exm_yes (hi : PySem.W.isClsIn K C = true) (hy : PySem.W.typeIn K (.ref C) = some (.type "type")) (he : PySem.W.subIn K (.ref C) (.type "BaseException") = some true) (hs : PySem.W.subIn K (.ref D) (.ref C) = some true) : PySem.W.exmOne K (.ref D) (.ref C) = some true := by
  have h1 : (PySem.W.subIn K (.ref C) (.type "BaseException") == some true) = true := by rw [he] <;> rfl
  unfold PySem.W.exmOne
  rw [if_pos h1]
  exact kit_of hi hy hs
end
/-! ### an exception that is kept -/
/-- at a stands an exception of the class at C -/
def ExO (a C : Addr) : HO := .ext fun h => ∃ oe vs, h.get? a = some oe ∧ Zc (.ref C) none oe ∧ oe.data = .fields vs
/-- what the written part says of a class that is raised; L: the class that is caught -/
structure ExR (K : PySem.W.Frag) (C L : Addr) : Prop where
  ex : PySem.W.excIn K C [.type "ValueError", .type "Exception", .type "BaseException", .type "object"] "ValueError.__new__" = true
  kp : PySem.W.keepIn K (.ref C) = true
  ty : PySem.W.typeIn K (.ref C) = some (.type "type")
  like : PySem.W.exmOne K (.ref C) (.ref L) = some true
  isi : ExcC K C
/-- what 'except x as n' wishes, whose suite keeps the exception -/
def wKeep (K : PySem.W.Frag) (c : Value) (i : Nat) (ts : Addr → Value → Option Addr → TS) (Wout : WX) (D : Ends) : WX := fun cls d σ H =>
  ∃ b, PySem.W.exmOne K cls c = some b ∧ (b = true → ∃ C, cls = .ref C ∧ d = none ∧ ∀ a, H a = none → ts a cls d { nx := fun σ' H' => H' a = none → D.nx (σ'.set i none) (upd H' a (ExO a C)), rt := fun _ _ => False, bk := fun _ _ => False, ct := fun _ _ => False } (σ.set i (some (.ref a))) H) ∧
    (b = false → Wout cls d σ H)
section
variable {X : Cx} {pins : List (Addr × Obj)} {σ : L2.St} {H : Hp} {s : Shared}
theorem exo_track {a C : Addr} {oe : Obj} {vs : Array Value} (I : Inv X pins σ H s) (he : s.heap.get? a = some oe) (hz : Zc (.ref C) none oe) (hd : oe.data = .fields vs) (na : H a = none) (nL : a ≠ X.env.locals)
    (h0 : X.s_0.heap.get? a = none) (hp : ∀ p ∈ X.pn ++ pins, p.1 ≠ a) : Inv X pins σ (upd H a (ExO a C)) s := by
  have ne : ∀ {b : Addr} {o : HO}, H b = some o → b ≠ a := fun e z => by
    rw [z, na] at e
    exact nomatch e
  refine ⟨I.ok, I.os, I.bare, ⟨I.base.keep, I.base.slot, fun b o e n hx => ?_, I.base.there, fun b xs e => ?_, fun b o u e => ?_, fun b ps e => ?_⟩, I.loc, I.cell, ?_, fun x c e => ?_, fun p hpp => ?_, fun b o e => ?_, I.len⟩
  · rw [upd_ne (fun z => by rw [z, h0] at e; exact nomatch e)]
    exact I.base.free b o e n hx
  · have := I.base.tups b xs e
    rw [upd_ne (ne this)]
    exact this
  · have := I.base.frzs b o u e
    rw [upd_ne (ne this)]
    exact this
  · obtain ⟨m, h⟩ := I.base.tbls b ps e
    exact ⟨m, by rw [upd_ne (ne h)]; exact h⟩
  · rw [upd_ne (Ne.symm nL)]
    exact I.free
  · rw [upd_ne]
    · exact I.freeC x c e
    · intro z
      obtain ⟨v, o, ho, hdd⟩ := I.cell x c e
      rw [z, he] at ho
      cases ho
      rw [hd] at hdd
      exact nomatch hdd
  · obtain ⟨q1, q2, q3⟩ := I.pin p hpp
    exact ⟨q1, by rw [upd_ne (hp p hpp)]; exact q2, q3⟩
  · by_cases z : b = a
    · subst z
      rw [upd_same] at e
      obtain rfl := Option.some.inj e
      exact ⟨⟨oe, vs, he, hz, hd⟩, ⟨_, he⟩, fun h1 h2 ⟨o2, v2, a1, a2, a3⟩ k => ⟨o2, v2, k _ a1, a2, a3⟩⟩
    · rw [upd_ne z] at e
      refine (I.hok b o e).stay (fun c v _ q => q) (fun c q => ?_) fun c xs q => ?_
      · rw [upd_ne (ne q)]
        exact q
      · rw [upd_ne (ne q)]
        exact q
/-- try: body, except x as n: suite, where each exception of the body is caught and the suite runs to its end: behind it the exception is known -/
theorem ps_try_keep {x n : Str} {c : Value} {i : Nat} {bd su : List Stmt} {s0 : Stmt} {q1 q2 q3 : Pos} {tb : WX → TS} {ts : Addr → Value → Option Addr → TS} (stk : X.stack = X.env :: X.outer) (fr : X.env.frame = some X.env.locals) (hex : X.ex = []) (nd : X.N.Nodup) (at_i : X.N[i]? = some n)
    (loc : X.env.kindOf n = some .local) (nm : Names X x c)
    (hbd : ∀ (W : WX) (pn : List (Addr × Obj)) (xe : Value → Shared → Prop), Takes (X.tr pn xe) W → PassesOwn (model X.prog X.w) X.A X.env xe → PSs (X.tr pn xe) bd (tb W))
    (hsu : ∀ (e : Addr) (oe : Obj) (cls : Value) (d : Option Addr) (pn : List (Addr × Obj)), Zc cls d oe → (∃ vs, oe.data = .fields vs) → PSs (X.suite e ((e, oe) :: pn)) (s0 :: su) (ts e cls d)) :
    PS X (.Try bd [.ExceptHandler (some (.Name x q1)) (some n) (s0 :: su) q2] [] [] q3) (fun D σ H => tb (wKeep X.K c i ts (fun _ _ _ _ => False) D) D σ H) := by
  constructor
  intro pins s σ H D I hyp
  have ok := I.ok
  have frames2 : X.A.frames = some (X.env :: X.outer) := ok.frames.trans (congrArg some stk)
  apply wpAny_Try_except
  have caught : ∀ (u : Value) (t : Shared), XE (X.tr (X.pn ++ pins) (fun y t1 => wpAny (model X.prog X.w) X.A (noteFrame y X.env) (fun _ t2 => wpAny (model X.prog X.w) X.A (setFlight y none) (fun _ t3 =>
      wpAny (model X.prog X.w) X.A (handleBy y X.env [.ExceptHandler (some (.Name x q1)) (some n) (s0 :: su) q2]) (SP X pins D) X.xe t3) X.xe t2) X.xe t1)) (wKeep X.K c i ts (fun _ _ _ _ => False) D) u t →
      wpAny (model X.prog X.w) X.A (noteFrame u X.env) (fun _ t2 => wpAny (model X.prog X.w) X.A (setFlight u none) (fun _ t3 => wpAny (model X.prog X.w) X.A (handleBy u X.env [.ExceptHandler (some (.Name x q1)) (some n) (s0 :: su) q2]) (SP X pins D) X.xe t3) X.xe t2) X.xe t := by
    rintro u t ⟨e, G, r, pp, τ, M, cls, d, rfl, I1, ground, ups, sky, ne, os1, bare1, b, hexm, yes, no⟩
    have I2 : Inv X pins τ M r := I1.ofTry ok
    have sky2 : Sky G (X.env :: X.outer) e (Zc cls d) X.env.locals t.heap := stk ▸ sky
    cases b with
    | false => exact (no rfl).elim
    | true =>
    obtain ⟨C, rfl, rfl, go⟩ := yes rfl
    refine Sky.land Zc.steady frames2 fr sky2 fun h1 fly1 up1 => ?_
    have I3 : Inv X pins τ M { t with heap := h1 } := I2.landed ground fly1.1 (ups.trans up1) os1 bare1
    obtain ⟨o1, f1, g1, z1, d1⟩ := fly1.there
    have off : e ∉ frs (X.env :: X.outer) := fun m => by
      obtain ⟨_, o2, g2, w2⟩ := fly1.2.2.1.mem m
      obtain rfl := Option.some.inj (g1.symm.trans g2)
      exact w2 _ d1
    have offL : e ≠ X.env.locals := fun z => off (List.mem_filterMap.mpr ⟨X.env, List.mem_cons_self, fr.trans (congrArg some z.symm)⟩)
    have offF : e ∉ X.fs := fun m => by
      obtain ⟨y, my, ey⟩ := List.mem_filterMap.mp m
      exact off (List.mem_filterMap.mpr ⟨y, List.mem_cons_of_mem _ my, ey⟩)
    have newR : r.heap.get? e = none := by
      cases z : r.heap.get? e with
      | none => rfl
      | some o2 =>
        have a1 := ground e o2 z (stk ▸ off)
        rw [fly1.2.1] at a1
        exact nomatch a1
    have new0 : X.s_0.heap.get? e = none := by
      cases z : X.s_0.heap.get? e with
      | none => rfl
      | some o2 =>
        obtain ⟨o3, z3⟩ := I2.base.there e o2 z (by rw [hex]; exact fun m => nomatch m)
        rw [newR] at z3
        exact nomatch z3
    have pinE : ∀ p ∈ X.pn ++ pins, p.1 ≠ e := fun p mp z => by
      have z1 := (I2.pin p mp).1
      rw [z, newR] at z1
      exact nomatch z1
    have J1 := I3.suite g1 d1 ne offL offF
    refine wpAny_handleBy_cons (codeAny_handlers_test ?_) (fun z => nomatch z)
    have ty1 : PySem.W.Looks (model X.prog X.w) h1 (typeOf (.ref e)) (.ref C) := fun A Q E s k q => wpAny_typeOf_ref (k _ _ g1) (by rw [z1.1]; exact q)
    have mt := PySem.W.exm_one (M := model X.prog X.w) I3.kIn ty1 hexm
    have look : ∀ {Q E : Value → Shared → Prop}, Q c { t with heap := h1 } → wpAny (model X.prog X.w) (X.A.mark (some (.ref e))) (eval (.Name x q1) X.env) Q E { t with heap := h1 } := by
      intro Q E q
      rcases nm with ⟨n1, n2, n3 | ⟨n3, n4, n5⟩⟩
      · exact ld_glob (X := X.suite e ((e, o1) :: (X.pn ++ pins))) J1 n1 n3 q n2
      · exact ld_blt (X := X.suite e ((e, o1) :: (X.pn ++ pins))) J1 n1 n3 n4 q n5 n2
    refine look (mt.here ?_)
    refine codeAny_handlers_suite_as (HandSPX.lands_againZ fly1 fun h2 fly2 up2 => ?_)
    have I4 : Inv X pins τ M { t with heap := h2 } := I2.landed ground fly2.1 ((ups.trans up1).trans up2) os1 bare1
    obtain ⟨o4, f4, g4, z4, d4⟩ := fly2.there
    have J2 := I4.suite g4 d4 ne offL offF
    refine store_ok (X := X.suite e ((e, o4) :: (X.pn ++ pins))) (v := .ref e) J2 nd at_i (.inl loc) rfl (fun t5 J5 => ?_) (.inr loc)
    refine wpAny_mono ((hsu e o4 (.ref C) none (X.pn ++ pins) z4 ⟨_, d4⟩).run [] t5 _ M _ J5 (go e ne)) (fun fl t6 w6 => ?_) (fun _ _ z => z.elim)
    cases fl with
    | ret y =>
      obtain ⟨_, _, _, _, _, w⟩ := w6
      exact w.elim
    | brk =>
      obtain ⟨_, _, _, w⟩ := w6
      exact w.elim
    | cont =>
      obtain ⟨_, _, _, w⟩ := w6
      exact w.elim
    | next =>
      obtain ⟨τ6, M6, J6, w⟩ := w6
      have pe := J6.pin (e, o4) (List.mem_append_left _ List.mem_cons_self)
      have K6 : Inv X pins τ6 M6 t6 := J6.unsuite ok
      have K7 : Inv X ((e, o4) :: pins) τ6 M6 t6 := K6.pins_of fun p mp => by
        rcases List.mem_cons.mp mp with rfl | mp
        · exact pe
        · exact K6.pin p (List.mem_append_right _ mp)
      refine gone_ok K7 nd at_i loc fun t8 K8 => ?_
      have p8 := K8.pin (e, o4) (List.mem_append_right _ List.mem_cons_self)
      have K9 : Inv X pins (τ6.set i none) M6 t8 := K8.pins_of fun p mp => K8.pin p (List.mem_append_right _ (List.mem_cons_of_mem _ mp))
      exact ⟨_, _, exo_track K9 p8.1 z4 d4 p8.2.1 offL new0 pinE, w p8.2.1⟩
  refine wpAny_mono ((hbd (wKeep X.K c i ts (fun _ _ _ _ => False) D) (X.pn ++ pins) _ caught PassesOwn.looking).run [] s σ H D (I.toTry _) hyp) (fun fl t w => ?_) (fun _ _ z => z)
  cases fl with
  | next =>
    obtain ⟨τ, M, J, k⟩ := w
    exact wpAny_execs_nil ⟨τ, M, J.ofTry ok, k⟩
  | brk =>
    obtain ⟨τ, M, J, k⟩ := w
    exact ⟨τ, M, J.ofTry ok, k⟩
  | cont =>
    obtain ⟨τ, M, J, k⟩ := w
    exact ⟨τ, M, J.ofTry ok, k⟩
  | ret y =>
    obtain ⟨v, τ, M, J, rr, k⟩ := w
    exact ⟨v, τ, M, J.ofTry ok, rr, k⟩
end
/-! ### isinstance of a kept exception -/
section
variable {X : Cx}
def rIsX (K : PySem.W.Frag) : List V → Hp → VK → Prop := fun xs H Q => ∃ (a D : Addr) (c : V) (cv : Value) (b : Bool), xs = [.ref a, c] ∧ H a = some (ExO a D) ∧ ExcC K D ∧ (∀ u, RelV c u → u = cv) ∧ PySem.W.kitOne K (.ref D) cv = some b ∧ Q (.bl b) H
def rIsXT (K : PySem.W.Frag) : List V → Hp → VK → Prop := fun xs H Q => ∃ (a D tp : Addr) (cs : List V) (us : List Value) (b : Bool), xs = [.ref a, .ref tp] ∧ H a = some (ExO a D) ∧ ExcC K D ∧ H tp = some (.tup cs) ∧ (∀ ws, Vals cs ws → ws = us) ∧ PySem.W.kitAny K (.ref D) us = some b ∧ Q (.bl b) H
theorem inst_of {pins : List (Addr × Obj)} {σ : L2.St} {H : Hp} {s : Shared} {a D : Addr} (I : Inv X pins σ H s) (h : H a = some (ExO a D)) : ∃ oe, PySem.W.InstAt s.heap a oe D none := by
  obtain ⟨⟨oc, od, oda, osl⟩, vs, g, ⟨z1, z2⟩, dd⟩ := (I.hok a _ h).1
  dsimp only at z1 z2 dd
  subst z1 z2 dd
  exact ⟨_, g, rfl, rfl, trivial⟩
theorem call_isX : CallR X (.builtin "isinstance") (rIsX X.K) := by
  rintro pins s σ H xs us Q I r ⟨a, D, c, cv, b, rfl, ha, C, hc, hk, q⟩
  cases r with
  | cons r1 r =>
    cases r with
    | cons r2 r =>
      cases r
      obtain rfl := hc _ r2
      cases r1
      obtain ⟨oe, J⟩ := inst_of I ha
      exact PySem.W.kia_one (PySem.W.handS_kitx_exc C.hg C.hk C.hs C.hd C.ha C.hn C.ht C.hm) I.kIn J hk (fun z => nomatch z) fun tk => ⟨.bl b, H, I.tok tk, rfl, q⟩
theorem call_isXT : CallR X (.builtin "isinstance") (rIsXT X.K) := by
  rintro pins s σ H xs us Q I r ⟨a, D, tp, cs, ws, b, rfl, ha, C, ht, hc, hk, q⟩
  cases r with
  | cons r1 r =>
    cases r with
    | cons r2 r =>
      cases r
      cases r1
      cases r2
      obtain ⟨oe, J⟩ := inst_of I ha
      obtain ⟨_, its, rv, ⟨oc, od, dt, sl⟩, h1, h2, m, h3⟩ := I.hok tp _ ht
      dsimp only at h2 h3
      subst h2 h3
      obtain rfl := hc _ rv
      exact PySem.W.kia_tup (PySem.W.handS_kitx_exc C.hg C.hk C.hs C.hd C.ha C.hn C.ht C.hm) I.kIn J h1 hk (fun z => nomatch z) fun tk => ⟨.bl b, H, I.tok tk, rfl, q⟩
end
section
variable {K : PySem.W.Frag} {σ : L2.St} {H H' : Hp} {ta tb te : TE} {v : V}
theorem rc_isX {a D C : Addr} {b : Bool} (h : H a = some (ExO a D)) (hC : ExcC K D) (hk : PySem.W.kitOne K (.ref D) (.ref C) = some b) : RC (rIsX K) [.ref a, .ref C] H (.bl b) := fun H1 e Q q => ⟨a, D, .ref C, .ref C, b, rfl, e _ _ h, hC, fun u r => r, hk, q H1 (Ex.refl _)⟩
theorem rc_isXV {a D : Addr} {n : String} {b : Bool} (h : H a = some (ExO a D)) (hC : ExcC K D) (hk : PySem.W.kitOne K (.ref D) (.type n) = some b) : RC (rIsX K) [.ref a, .ty n] H (.bl b) := fun H1 e Q q => ⟨a, D, .ty n, .type n, b, rfl, e _ _ h, hC, fun u r => r, hk, q H1 (Ex.refl _)⟩
theorem refs_one : ∀ {cs : List Addr} {ws : List Value}, Vals (cs.map V.ref) ws → ws = cs.map Value.ref
  | [], _, .nil => rfl
  | _ :: _, _, .cons r t => by
    cases r
    rw [refs_one t]
    rfl
theorem ev_isXT {a D : Addr} {cs : List Addr} {b : Bool} (ha : Ev ta σ H (.ref a)) (ht : EvU tb σ H (cs.map V.ref)) (h : H a = some (ExO a D)) (hC : ExcC K D) (hk : PySem.W.kitAny K (.ref D) (cs.map Value.ref) = some b) : Ev (tCB (rIsXT K) (tCons ta (tCons tb tNil))) σ H (.bl b) := fun H1 e Q q =>
  ha H1 e _ fun H2 e2 => ht H2 (e.trans e2) _ fun p H3 _ e3 hp => ⟨a, D, p, _, _, b, rfl, ((e.trans e2).trans e3) _ _ h, hC, hp, fun ws r => refs_one r, hk, q H3 (e2.trans e3)⟩
end
section
variable {K : PySem.W.Frag} {σ : L2.St} {H : Hp} {D : Ends} {ta te : TE} {t : TT} {tz : TS} {v : V}
/-- try: call, except L as e: keep = e -/
def tTry (K : PySem.W.Frag) (L : Value) (i j : Nat) (Wout : WX) (sp : Sp) (ta : TA) : TS := fun D σ H => tDrop (tCallS sp (WE (wKeep K L i (fun _ _ _ => tAsg (tVar i) (gName j)) Wout D)) ta) D σ H
theorem q_tryGood {L : Value} {i j : Nat} {Wout : WX} {s0 sB : Sp} {ta : TA} {vs : List V} (h : EvA ta σ H vs) (hs : ∀ H1, Ex H H1 → ∀ (Q : VK) (E : XK), (∀ v H2, Ex H1 H2 → Q v H2) → s0 vs H1 Q E) (k : ∀ H', Ex H H' → tz D σ H') : tSeq (tTry K L i j Wout (SpM s0 sB) ta) tz D σ H :=
  h H (Ex.refl H) _ fun H1 e1 => .inl (hs H1 e1 _ _ fun v H2 e2 => k H2 (e1.trans e2))
theorem q_tryBad {L : Value} {i j : Nat} {Wout : WX} {s0 : Sp} {B : Hp → List V → Addr → Prop} {ta : TA} {vs : List V} {C : Addr} (hi : i < σ.length) (exm : PySem.W.exmOne K (.ref C) L = some true) (h : EvA ta σ H vs) (hs : ∀ H1, Ex H H1 → B H1 vs C)
    (k : ∀ H' a, Ex H H' → H' a = some (ExO a C) → tz D (((σ.set i (some (.ref a))).set j (some (.ref a))).set i none) H') : tSeq (tTry K L i j Wout (SpM s0 (SpB B)) ta) tz D σ H :=
  h H (Ex.refl H) _ fun H1 e1 => .inr ⟨C, hs H1 e1, fun H2 e2 => ⟨true, exm, fun _ => ⟨C, rfl, rfl, fun a _ => s_asg (v := .ref a) (ev_var (by rw [List.getElem?_set_self hi])) fun H3 e3 na => k _ a (((e1.trans e2).trans e3).trans (Ex.new na)) upd_same⟩, fun z => nomatch z⟩⟩
theorem any_v {Dd : Hp → List V → V → Prop} {vs : List V} (h : ∃ v, Dd H vs v) (Q : VK) (E : XK) (q : ∀ v H2, Ex H H2 → Q v H2) : SpVal Dd vs H Q E := by
  obtain ⟨v, d⟩ := h
  exact ⟨v, d, fun H2 e2 => q v H2 e2⟩
/-- something is told, no matter what -/
def EvY (te : TE) (σ : L2.St) (H : Hp) : Prop := EvX te σ H fun _ _ => True
theorem evy_v (h : Ev te σ H v) : EvY te σ H := fun H1 e Q q => h H1 e Q fun H2 e2 => q v H2 e2 trivial
theorem evy_u {xs : List V} (h : EvU te σ H xs) : EvY te σ H := fun H1 e Q q => h H1 e Q fun p H2 _ e2 _ => q _ H2 e2 trivial
theorem evy_x {R : V → Hp → Prop} (h : EvX te σ H R) : EvY te σ H := fun H1 e Q q => h H1 e Q fun v H2 e2 _ => q v H2 e2 trivial
/-- if t: call, where the call tells something -/
theorem q_ifDrop {b : Bool} (h : EvT t σ H b) (h1 : b = true → ∀ H1, Ex H H1 → EvY te σ H1) (k : ∀ H1, Ex H H1 → tz D σ H1) : tSeq (tIfS t (tDrop te) tNext) tz D σ H :=
  q_when h (fun hb H1 e1 => h1 hb H1 e1 H1 (Ex.refl _) _ fun v H2 e2 _ => k H2 (e1.trans e2)) (fun hb H1 e1 => k H1 e1)
theorem s_ifDrop {b : Bool} (h : EvT t σ H b) (h1 : b = true → ∀ H1, Ex H H1 → EvY te σ H1) (k : ∀ H1, Ex H H1 → D.nx σ H1) : tIfS t (tDrop te) tNext D σ H :=
  s_when h (fun hb H1 e1 => h1 hb H1 e1 H1 (Ex.refl _) _ fun v H2 e2 _ => k H2 (e1.trans e2)) (fun hb H1 e1 => k H1 e1)
/-- if t: call, where the call is refused -/
theorem q_ifBad {s0 : Sp} {B : Hp → List V → Addr → Prop} {C : Addr} {ta : TA} {E : XK} {vs : List V} (h : EvT t σ H true) (ha : ∀ H1, Ex H H1 → EvA ta σ H1 vs) (hs : ∀ H1, Ex H H1 → B H1 vs C) (k : ∀ H', Ex H H' → E (.ref C) none H') : tSeq (tIfS t (tDrop (tCall (SpM s0 (SpB B)) [] E ta)) tNext) tz D σ H :=
  q_when h (fun _ H1 e1 => s_bad (D := { D with nx := tz D }) (ha H1 e1) (fun H2 e2 => hs H2 (e1.trans e2)) fun H2 e2 => k H2 (e1.trans e2)) (fun hb => nomatch hb)
theorem s_ifBad {s0 : Sp} {B : Hp → List V → Addr → Prop} {C : Addr} {ta : TA} {E : XK} {vs : List V} (h : EvT t σ H true) (ha : ∀ H1, Ex H H1 → EvA ta σ H1 vs) (hs : ∀ H1, Ex H H1 → B H1 vs C) (k : ∀ H', Ex H H' → E (.ref C) none H') : tIfS t (tDrop (tCall (SpM s0 (SpB B)) [] E ta)) tNext D σ H :=
  s_when h (fun _ H1 e1 => s_bad (ha H1 e1) (fun H2 e2 => hs H2 (e1.trans e2)) fun H2 e2 => k H2 (e1.trans e2)) (fun hb => nomatch hb)
/-- if t: list.append(v) -/
theorem q_ifApp {b : Bool} {l : Addr} {xs : List V} (hl : H l = some (.lst xs)) (h : EvT t σ H b) (ha : Ev ta σ H (.ref l)) (hv : Ev te σ H v) (hz : xs.length < 100000)
    (k : ∀ H1, Ex H H1 → tz D σ (upd H1 l (.lst (xs ++ if b then [v] else [])))) : tSeq (tIfS t (tDrop (tBM K "list" rAppend ta (tCons te tNil))) tNext) tz D σ H := by
  refine q_when h (fun hb H1 e1 => ?_) (fun hb H1 e1 => ?_)
  · refine s_appX (D := { D with nx := tz D }) (R := fun x _ => x = v) (e1 _ _ hl) (fun H2 e2 => ha H2 (e1.trans e2)) (evx_of fun H2 e2 => hv H2 (e1.trans e2)) hz fun x H2 e2 ex => ?_
    subst ex
    have := k H2 (e1.trans e2)
    rw [hb] at this
    exact this
  · have := k H1 e1
    rw [hb] at this
    rw [show upd H1 l (.lst (xs ++ if false = true then [v] else [])) = H1 from funext fun a => by
      by_cases z : a = l
      · subst z
        rw [upd_same, e1 _ _ hl]
        simp
      · rw [upd_ne z]] at this
    exact this
end
end MuX
namespace MuK
open PySem PySem.Spec PyProof.Rows L2 Evl
theorem all_at (ws : List Str) (f : Str → Bool) : (List.range (ws.map V.str).length).all (fun i => f (ws.getD i "")) = ws.all f := by
  rw [List.length_map, Bool.eq_iff_iff, List.all_eq_true, List.all_eq_true]
  constructor
  · intro h u mu
    obtain ⟨i, hi⟩ := List.getElem?_of_mem mu
    have := h i (List.mem_range.mpr (List.getElem?_eq_some_iff.mp hi).1)
    rw [List.getD_eq_getElem?_getD, hi] at this
    exact this
  · intro h i mi
    have lt := List.mem_range.mp mi
    rw [List.getD_eq_getElem?_getD, List.getElem?_eq_getElem lt]
    exact h _ (List.getElem_mem lt)
theorem dup_less : ∀ {ws : List Str}, ¬ ws.Nodup → ∃ m : List Str, (∀ x ∈ ws, x ∈ m) ∧ m.length < ws.length
  | [], h => absurd List.nodup_nil h
  | x :: t, h => by
    by_cases hx : x ∈ t
    · exact ⟨t, fun y m => by
        rcases List.mem_cons.mp m with rfl | m
        · exact hx
        · exact m, by simp⟩
    · obtain ⟨m, h1, h2⟩ := dup_less (ws := t) fun nd => h (List.nodup_cons.mpr ⟨hx, nd⟩)
      exact ⟨x :: m, fun y my => by
        rcases List.mem_cons.mp my with rfl | my
        · exact List.mem_cons_self
        · exact List.mem_cons_of_mem _ (h1 y my), by simp; omega⟩
theorem nd_of_len {sl ws : List Str} (nd : sl.Nodup) (h : ∀ x, x ∈ sl ↔ x ∈ ws) (hl : sl.length = ws.length) : ws.Nodup :=
  Classical.byContradiction fun c => by
    obtain ⟨m, h1, h2⟩ := dup_less c
    have := nodup_len nd fun x mx => h1 x ((h x).mp mx)
    omega
end MuK

namespace MuX
open PySem PySem.Spec PyProof.Rows L2 Evl MuK
/-- what a kept exception of the class C is called; b: isinstance of the seven tests -/
structure Kin (K : PySem.W.Frag) (C : Addr) (cs : List (Addr × Bool)) (os : List Addr) (b7 : Bool) : Prop where
  isi : ExcC K C
  val : PySem.W.kitOne K (.ref C) (.type "ValueError") = some true
  one : ∀ p ∈ cs, PySem.W.kitOne K (.ref C) (.ref p.1) = some p.2
  any : PySem.W.kitAny K (.ref C) (os.map Value.ref) = some b7
theorem any_no {K : PySem.W.Frag} {C : Addr} : ∀ {os : List Addr}, (∀ o ∈ os, PySem.W.kitOne K (.ref C) (.ref o) = some false) → PySem.W.kitAny K (.ref C) (os.map Value.ref) = some false
  | [], _ => rfl
  | o :: os, h => L2.kitAny_cons (h o List.mem_cons_self) (fun _ => any_no fun x m => h x (List.mem_cons_of_mem _ m)) (fun z => nomatch z)
abbrev rJoinX (K : PySem.W.Frag) : V → List V → Hp → VK → Prop := fun x xs H Q => ∃ a p, ∃ ys : List Str, x = .str a ∧ xs = [.ref p] ∧ (SqL K H p (ys.map V.str) ∨ SqT K H p (ys.map V.str)) ∧ (ys.map (·.length)).sum + ys.length * a.length ≤ 16777216 ∧ Q (.str (Txt.join a ys)) H
section
variable {K : PySem.W.Frag} {σ : L2.St} {H : Hp} {ta tb te : TE} {v : V} {D : Ends} {t : TT} {tz : TS}
theorem q_isApp {b : Bool} {l : Addr} {xs : List V} {Hb : Hp} (J : Ex Hb H ∧ H l = some (.lst xs)) (hb : Hb l = none) (h : EvT t σ H b) (ha : Ev ta σ H (.ref l)) (hv : Ev te σ H v) (hz : xs.length < 100000)
    (k : ∀ H', Ex Hb H' ∧ H' l = some (.lst (xs ++ if b then [v] else [])) → tz D σ H') : tSeq (tIfS t (tDrop (tBM K "list" rAppend ta (tCons te tNil))) tNext) tz D σ H :=
  q_ifApp J.2 h ha hv hz fun H1 e1 => k _ ⟨(J.1.trans e1).mut hb, upd_same⟩
theorem ev_joinS {p : Addr} {ws : List Str} (s : Str) (h : Ev te σ H (.ref p)) (hp : SqL K H p (ws.map V.str)) (hn : ((ws.map (·.length)).sum + ws.length * s.length) ≤ 16777216) : Ev (tM1 (rJoinX K) (tC (.str s)) te) σ H (.str (Txt.join s ws)) := fun H1 e1 Q q =>
  ⟨⟨s, rfl⟩, h H1 e1 _ fun H2 e2 => ⟨s, p, ws, rfl, rfl, .inl (ex_l (e1.trans e2) hp), hn, q H2 e2⟩⟩
end
end MuX
namespace MuX
open PySem PySem.Spec PyProof.Rows L2 Evl MuK
section
variable {K : PySem.W.Frag} {σ : L2.St} {H : Hp} {ta tb te : TE} {v : V} {tA : TA} {R : V → Hp → Prop}
/-! ### lists of new things of one kind -/
def Stay (R : V → Hp → Prop) : Prop := ∀ v H H', Ex H H' → R v H → R v H'
def EaR (R : V → Hp → Prop) (n : Nat) (tA : TA) (σ : L2.St) (H : Hp) : Prop := ∀ H1, Ex H H1 → ∀ Q : List V → Hp → Prop, (∀ vs H2, Ex H1 H2 → vs.length = n → (∀ y ∈ vs, R y H2) → Q vs H2) → tA σ H1 Q
theorem ear_nil : EaR R 0 tNil σ H := fun H1 e Q q => q [] H1 (Ex.refl H1) rfl fun _ m => nomatch m
theorem ear_cons {n : Nat} (st : Stay R) (h : EvX te σ H R) (t : EaR R n tA σ H) : EaR R (n + 1) (tCons te tA) σ H := fun H1 e Q q =>
  h H1 e _ fun v H2 e2 r => t H2 (e.trans e2) _ fun vs H3 e3 z a => q (v :: vs) H3 (e2.trans e3) (by rw [List.length_cons, z]) fun y m => by
    rcases List.mem_cons.mp m with rfl | m
    · exact st _ _ _ e3 r
    · exact a y m
/-- a list of n things of the kind -/
def RLn (R : V → Hp → Prop) (n : Nat) : V → Hp → Prop := fun v H => ∃ p ys, v = .ref p ∧ H p = some (.lst ys) ∧ ys.length = n ∧ ∀ y ∈ ys, R y H
theorem rln_stay {n : Nat} (st : Stay R) : Stay (RLn R n) := fun v H H' e r => by
  obtain ⟨p, ys, rfl, hp, z, a⟩ := r
  exact ⟨p, ys, rfl, e _ _ hp, z, fun y m => st _ _ _ e (a y m)⟩
theorem evx_lstR {n : Nat} (st : Stay R) (h : EaR R n tA σ H) (hz : n ≤ 100000) : EvX (tLst tA) σ H (RLn R n) := fun H1 e Q q =>
  h H1 e _ fun vs H2 e2 z a => ⟨sz_of (by omega), fun p hp => q _ _ (e2.trans (Ex.new hp)) ⟨p, vs, rfl, upd_same, z, fun y m => st _ _ _ (Ex.new hp) (a y m)⟩⟩
theorem evx_catR {n m : Nat} (st : Stay R) (h : EvX ta σ H (RLn R n)) (k : EvX tb σ H (RLn R m)) (hz : n + m ≤ 100000) : EvX (tOp rCat ta tb) σ H (RLn R (n + m)) := fun H1 e Q q =>
  h H1 e _ fun v H2 e2 r => k H2 (e.trans e2) _ fun v2 H3 e3 r2 => by
    obtain ⟨p, ys, rfl, hp, z, a⟩ := r
    obtain ⟨p2, ys2, rfl, hp2, z2, a2⟩ := r2
    refine ⟨p, p2, ys, ys2, rfl, rfl, e3 _ _ hp, hp2, sz_of (by omega), fun l hl => q _ _ ((e2.trans e3).trans (Ex.new hl)) ⟨l, ys ++ ys2, rfl, upd_same, by rw [List.length_append, z, z2], fun y m => ?_⟩⟩
    rcases List.mem_append.mp m with m | m
    · exact st _ _ _ (e3.trans (Ex.new hl)) (a y m)
    · exact st _ _ _ (Ex.new hl) (a2 y m)
theorem evx_varR {i n : Nat} (st : Stay R) (h : σ[i]? = some (some v)) (r : R v H) : EvX (tVar i) σ H R := fun H1 e Q q => (evx_of (ev_var h)) H1 e Q fun z H2 e2 (ez : z = v) => q z H2 e2 (by rw [ez]; exact st _ _ _ (e.trans e2) r)
/-- a thing at a place of the list -/
theorem evx_atR {n : Nat} {i : Int} (st : Stay R) (h : EvX ta σ H (RLn R n)) (hi : Ev tb σ H (.int i)) (h0 : 0 ≤ i) (h1 : i < n) : EvX (tOp (rIxL K) ta tb) σ H R := fun H1 e Q q =>
  h H1 e _ fun v H2 e2 r => hi H2 (e.trans e2) _ fun H3 e3 => by
    obtain ⟨p, ys, rfl, hp, z, a⟩ := r
    obtain ⟨j, rfl⟩ : ∃ j : Nat, i = (j : Int) := ⟨i.toNat, by omega⟩
    have lt : j < ys.length := by omega
    exact rv_ixL (sq_of (e3 _ _ hp)) (atI_nat (List.getElem?_eq_getElem lt)) H3 (Ex.refl _) Q fun H4 e4 => q _ H4 ((e2.trans e3).trans e4) (st _ _ _ (e3.trans e4) (a _ (List.getElem_mem lt)))
def RStr : V → Hp → Prop := fun v _ => ∃ u : Str, v = .str u
theorem rstr_stay : Stay RStr := fun _ _ _ _ r => r
theorem evx_str {u : Str} (h : Ev te σ H (.str u)) : EvX te σ H RStr := evx_mono (evx_of h) fun v H1 e r => ⟨u, r⟩
def RPt (b : Int) : V → Hp → Prop := fun v H => ∃ (p : Addr) (s t : Int), v = .ref p ∧ H p = some (.tup [.int s, .int t]) ∧ -b ≤ s ∧ s ≤ b ∧ -b ≤ t ∧ t ≤ b
theorem rpt_stay (b : Int) : Stay (RPt b) := fun v H H' e r => by
  obtain ⟨p, s, t, rfl, hp, k⟩ := r
  exact ⟨p, s, t, rfl, e _ _ hp, k⟩
theorem evx_pt {b s t : Int} (h1 : Ev ta σ H (.int s)) (h2 : Ev tb σ H (.int t)) (k : -b ≤ s ∧ s ≤ b ∧ -b ≤ t ∧ t ≤ b) : EvX (tTup (tCons ta (tCons tb tNil))) σ H (RPt b) := fun H1 e Q q =>
  (eu_tup (vs := [.int s, .int t]) (ea_cons h1 (ea_cons h2 ea_nil)) (by simp)) H1 e _ fun p H2 hp e2 g => q _ H2 e2 ⟨p, s, t, rfl, g, k⟩
abbrev rSlT : V → Option Int → Option Int → Hp → VK → Prop := fun x lo hi H Q => ∃ a, x = .str a ∧ a.length ≤ sizeLine ∧ Q (.str (cutS a lo hi)) H
theorem ev_cutT {u : Str} {k : Int} (hz : u.length ≤ 100000) (h : Ev ta σ H (.str u)) (hk : Ev tb σ H (.int k)) : Ev (tSl rSlT ta tNoPart (tPart tb)) σ H (.str (cutS u none (some k))) := fun H1 e Q q =>
  h H1 e _ fun H2 e2 => eo_none H2 (e.trans e2) _ fun H3 e3 => (eo_some hk) H3 ((e.trans e2).trans e3) _ fun H4 e4 => ⟨_, rfl, sz_of hz, q H4 ((e2.trans e3).trans e4)⟩
theorem ev_cutF {u : Str} {k : Int} (hz : u.length ≤ 100000) (h : Ev ta σ H (.str u)) (hk : Ev tb σ H (.int k)) : Ev (tSl rSlT ta (tPart tb) tNoPart) σ H (.str (cutS u (some k) none)) := fun H1 e Q q =>
  h H1 e _ fun H2 e2 => (eo_some hk) H2 (e.trans e2) _ fun H3 e3 => eo_none H3 ((e.trans e2).trans e3) _ fun H4 e4 => ⟨_, rfl, sz_of hz, q H4 ((e2.trans e3).trans e4)⟩
abbrev rAddS : V → V → Hp → VK → Prop := fun x y H Q => ∃ i j, x = .str i ∧ y = .str j ∧ i.length + j.length ≤ sizeLine ∧ Q (.str (i ++ j)) H
theorem ev_addS {u w : Str} (h : Ev ta σ H (.str u)) (k : Ev tb σ H (.str w)) (hz : u.length + w.length ≤ 100000) : Ev (tOp rAddS ta tb) σ H (.str (u ++ w)) := ev_op h k fun H1 _ _ q => ⟨_, _, rfl, rfl, sz_of hz, q H1 (Ex.refl H1)⟩
abbrev rUp : V → List V → Hp → VK → Prop := fun x xs H Q => ∃ a, x = .str a ∧ xs = [] ∧ a.length ≤ 5592405 ∧ Q (.str (Txt.upper a)) H
theorem ev_up {u : Str} (h : Ev te σ H (.str u)) (hz : u.length ≤ 100000) : Ev (tM0 rUp te) σ H (.str (Txt.upper u)) := fun H1 e Q q =>
  h H1 e _ fun H2 e2 => ⟨⟨u, rfl⟩, u, rfl, rfl, by omega, q H2 e2⟩
theorem given_nil {n : Nat} {f : Nat → Bool} {v : Nat → V} : (given n f v).isEmpty = true ↔ ∀ i, i < n → f i = false := by
  unfold given
  rw [List.isEmpty_iff, List.map_eq_nil_iff, List.filter_eq_nil_iff]
  constructor
  · intro h i hi
    have := h i (List.mem_range.mpr hi)
    cases e : f i with
    | false => rfl
    | true => exact absurd e this
  · intro h i hi
    rw [h i (List.mem_range.mp hi)]
    exact Bool.false_ne_true
abbrev rLenX (K : PySem.W.Frag) : List V → Hp → VK → Prop := fun xs H Q => ∃ (p : Addr) (ys : List V), xs = [V.ref p] ∧ (SqL K H p ys ∨ SqT K H p ys) ∧ Q (.int ys.length) H
/-- len(set(texts)) < len(texts) -/
theorem ev_dup {P : Program} {w : World} {a : Addr} {ws : List Str} (h : Ev ta σ H (.ref a)) (k : Ev tb σ H (.ref a)) (hs : SqL K H a (ws.map V.str)) (hz : ws.length ≤ 60) :
    Ev (tOp (rI0 fun i j => .bl (decide (i < j))) (tCB (MuSet.rLenTx P w) (tCons (tCB (MuSet.rSetTx K P w) (tCons ta tNil)) tNil)) (tCB (rLenX K) (tCons tb tNil))) σ H (.bl (!decide ws.Nodup)) := fun H1 e Q q =>
  h H1 e _ fun H2 e2 => ⟨a, ws, rfl, ex_l (e.trans e2) hs, by omega, fun sa sl n1 nd1 m1 l1 => by
    have e3 : Ex H2 _ := Ex.new (o := MuSet.SetTx P w sa sl) n1
    have lz : sl.length ≤ ws.length := nodup_len nd1 fun x m => (m1 x).mp m
    refine ⟨sa, sl, rfl, upd_same, by omega, k _ ((e.trans e2).trans e3) _ fun H4 e4 => ⟨a, ws.map V.str, rfl, .inl (ex_l (((e.trans e2).trans e3).trans e4) hs), ?_⟩⟩
    have z : (!decide ws.Nodup) = decide ((sl.length : Int) < ((ws.map V.str).length : Int)) := by
      rw [List.length_map, Bool.eq_iff_iff, Bool.not_eq_true', decide_eq_false_iff_not, decide_eq_true_eq]
      constructor
      · intro h
        rcases Nat.lt_or_ge sl.length ws.length with l | l
        · omega
        · exact absurd (nd_of_len nd1 (fun x => m1 x) (by omega)) h
      · intro h nd
        have hl : sl.length = ws.length := ((List.perm_ext_iff_of_nodup nd1 nd).mpr m1).length_eq
        omega
    rw [z] at q
    exact ⟨_, _, rfl, rfl, q _ ((e2.trans e3).trans e4)⟩⟩
/-! ### arguments, the last of them new -/
def EaP (tA : TA) (σ : L2.St) (H : Hp) (R : List V → Hp → Prop) : Prop := ∀ H1, Ex H H1 → ∀ Q : List V → Hp → Prop, (∀ vs H2, Ex H1 H2 → R vs H2 → Q vs H2) → tA σ H1 Q
theorem eap_last (h : EvX te σ H R) : EaP (tCons te tNil) σ H (fun vs H' => ∃ x, vs = [x] ∧ R x H') := fun H1 e Q q => h H1 e _ fun v H2 e2 r => q [v] H2 e2 ⟨v, rfl, r⟩
theorem eap_cons {S : List V → Hp → Prop} (h : Ev te σ H v) (t : EaP tA σ H S) : EaP (tCons te tA) σ H (fun vs H' => ∃ r, vs = v :: r ∧ S r H') := fun H1 e Q q =>
  h H1 e _ fun H2 e2 => t H2 (e.trans e2) _ fun vs H3 e3 s => q (v :: vs) H3 (e2.trans e3) ⟨vs, rfl, s⟩
theorem ev_callP {Dd : Hp → List V → V → Prop} {E : XK} {S : List V → Hp → Prop} (h : EaP tA σ H S) (hs : ∀ vs H1, Ex H H1 → S vs H1 → Dd H1 vs v) : Ev (tCall (SpVal Dd) [] E tA) σ H v := fun H1 e Q q =>
  h H1 e _ fun vs H2 e2 s => ⟨v, by rw [List.append_nil]; exact hs vs H2 (e.trans e2) s, fun H3 e3 => q H3 (e2.trans e3)⟩
theorem evx_disp1 {k : Key} (hk : Ev ta σ H (kV k)) (hv : Ev tb σ H v) : EvX (tDisp [(ta, tb)]) σ H (fun u H' => ∃ d : Addr, u = .ref d ∧ H' d = some (.dK [(k, v)])) := fun H1 e Q q => by
  intro d hd
  have e1 : Ex H1 (upd H1 d (.dK [])) := Ex.new hd
  refine hk _ (e.trans e1) _ fun H2 e2 => hv _ ((e.trans e1).trans e2) _ fun H3 e3 => ?_
  have h3 := (e2.trans e3) d _ upd_same
  refine ⟨h3, [(k, v)], rfl, by simp, q _ _ (Ex.mut ((e1.trans e2).trans e3) hd) ⟨d, rfl, ?_⟩⟩
  rw [upd_same]
  rfl
theorem evx_newK : EvX tDNewK σ H (fun u H' => ∃ d : Addr, u = .ref d ∧ H' d = some (.dK [])) := fun H1 e Q q d hd => q _ _ (Ex.new hd) ⟨d, rfl, upd_same⟩
/-! ### lists of words, lots -/
def RWords : V → Hp → Prop := fun v H => ∃ (p : Addr) (ws : List Str), v = .ref p ∧ H p = some (.lst (ws.map V.str)) ∧ ws.length ≤ 30 ∧ ∀ u ∈ ws, WordOk u
theorem rwords_stay : Stay RWords := fun v H H' e r => by
  obtain ⟨p, ws, rfl, hp, k⟩ := r
  exact ⟨p, ws, rfl, e _ _ hp, k⟩
theorem evx_words {ws : List Str} (h : EvL te σ H (ws.map V.str)) (k : ws.length ≤ 30 ∧ ∀ u ∈ ws, WordOk u) : EvX te σ H RWords := fun H1 e Q q => h H1 e _ fun p H2 _ e2 g => q _ H2 e2 ⟨p, ws, rfl, g, k⟩
def RLot : V → Hp → Prop := fun v H => ∃ (b : Addr) (ls : List (Addr × List Str)), v = .ref b ∧ H b = some (.lst (ls.map fun p => V.ref p.1)) ∧ ls.length ≤ 60 ∧ LotAt H ls ∧ ∀ c ∈ ls, c.2.length ≤ 30 ∧ ∀ u ∈ c.2, WordOk u
theorem lot_of : ∀ {ys : List V} {H : Hp}, (∀ y ∈ ys, RWords y H) → ∃ ls : List (Addr × List Str), ys = ls.map (fun p => V.ref p.1) ∧ LotAt H ls ∧ ∀ c ∈ ls, c.2.length ≤ 30 ∧ ∀ u ∈ c.2, WordOk u
  | [], _, _ => ⟨[], rfl, (fun _ m => nomatch m), fun _ m => nomatch m⟩
  | y :: ys, H, h => by
    obtain ⟨ls, rfl, hl, ok⟩ := lot_of fun z m => h z (List.mem_cons_of_mem _ m)
    obtain ⟨p, ws, rfl, hp, k⟩ := h y List.mem_cons_self
    refine ⟨(p, ws) :: ls, rfl, fun c m => ?_, fun c m => ?_⟩
    · rcases List.mem_cons.mp m with rfl | m
      · exact hp
      · exact hl c m
    · rcases List.mem_cons.mp m with rfl | m
      · exact k
      · exact ok c m
theorem rlot_of {n : Nat} {v : V} {H : Hp} (hn : n ≤ 60) (r : RLn RWords n v H) : RLot v H := by
  obtain ⟨p, ys, rfl, hp, z, a⟩ := r
  obtain ⟨ls, rfl, hl, ok⟩ := lot_of a
  rw [List.length_map] at z
  exact ⟨p, ls, rfl, hp, by omega, hl, ok⟩
theorem rlot_stay : Stay RLot := fun v H H' e r => by
  obtain ⟨b, ls, rfl, hb, z, hl, ok⟩ := r
  exact ⟨b, ls, rfl, e _ _ hb, z, hl.later e, ok⟩
end
end MuX
namespace MuK
open PySem PySem.Spec PyProof.Rows L2 Evl
/-- a list of texts is a set -/
def setB (ws : List Str) : Bool := ws.all (fun u => decide (WordOk u)) && decide ws.Nodup
theorem setB_ok {ws : List Str} (h : setB ws = true) : ws.Nodup ∧ ∀ u ∈ ws, WordOk u := by
  unfold setB at h
  rw [Bool.and_eq_true, List.all_eq_true] at h
  exact ⟨of_decide_eq_true h.2, fun u m => of_decide_eq_true (h.1 u m)⟩
/-- a number told for a word -/
def wOkB (e : Key × V) : Bool := match e with
  | (.inr u, .int z) => decide (WordOk u) && decide (1 ≤ z)
  | _ => false
def WAny (kvs : List (Key × V)) : Prop := ∀ e ∈ kvs, ∃ u z, e = (.inr u, .int z) ∧ u.length ≤ 1000
end MuK

namespace MuX
open PySem PySem.Spec PyProof.Rows L2 Evl MuK
/-! ### list.count of a list of flat things (numbers, truths, texts), and list.index as a word -/
def rCntV (K : PySem.W.Frag) : V → List V → Hp → VK → Prop := fun x xs H Q => ∃ (p : Addr) (ys : List V) (y : V), x = .ref p ∧ xs = [y] ∧ SqL K H p ys ∧ flatV y = true ∧ ys.all flatV = true ∧ Q (.int (ys.countP (fun z => eqV z y) : Nat)) H
theorem eqU_count {y : V} : ∀ {ys : List V} {us : List Value}, Vals ys us → ys.all flatV = true → us.countP (eqU y) = ys.countP (fun z => eqV z y)
  | _, _, .nil, _ => rfl
  | _, _, .cons r rs, f => by
    rw [List.all_cons, Bool.and_eq_true] at f
    rw [List.countP_cons, List.countP_cons, eqU_count rs f.2, eqU_of r f.1]
theorem mtV_count {X : Cx} : MtR X "list.count" (rCntV X.K) := by
  intro pins s σ H x xs v us Q I rx rxs h
  obtain ⟨p, ys, y, rfl, rfl, hs, fy, fys, q⟩ := h
  cases rx
  obtain ⟨u, rfl, ru⟩ := rxs.one
  obtain ⟨its, rv, ⟨⟨oc, od, dt, osl⟩, n, ho, h1, h2, h3⟩, hlen⟩ := I.list hs
  dsimp only at h1 h3
  subst h1 h3
  refine call_meets PySem.F.slot_list_count ⟨_, ho, rfl⟩ PySem.F.entry_list_count (PySem.F.args_list_count_2 _ _)
    (SeqAt.list_countAt p its.toArray n od osl u (eqU y)) ⟨ho, fun w hw => mem_eqAt ru fy rv fys w (by simpa using hw), ?_⟩
  refine ⟨.int (ys.countP (fun z => eqV z y) : Nat), H, I.tok _, ⟨s.toks, ?_⟩, q⟩
  have ec : its.toArray.toList.countP (eqU y) = ys.countP (fun z => eqV z y) := eqU_count rv fys
  show Value.int ((its.toArray.toList.countP (eqU y) : Nat) : Int) s.toks = Value.int ((ys.countP (fun z => eqV z y) : Nat) : Int) s.toks
  rw [ec]
section
variable {K : PySem.W.Frag} {σ : L2.St} {H : Hp} {ta tb : TE}
theorem ev_countV {p : Addr} {ys : List V} {y : V} (h : Ev ta σ H (.ref p)) (hs : SqL K H p ys) (hy : Ev tb σ H y) (fy : flatV y = true) (fys : ys.all flatV = true) : Ev (tBM K "list" (rCntV K) ta (tCons tb tNil)) σ H (.int (ys.countP (fun z => eqV z y) : Nat)) := fun H1 e Q q =>
  h H1 e _ fun H2 e2 => ⟨.inl ⟨rfl, _, ex_l (e.trans e2) hs⟩, hy H2 (e.trans e2) _ fun H3 e3 => ⟨p, ys, y, rfl, rfl, ex_l ((e.trans e2).trans e3) hs, fy, fys, q H3 (e2.trans e3)⟩⟩
theorem ev_indexV {p : Addr} {ys : List V} {y z : V} {j : Nat} (h : Ev ta σ H (.ref p)) (hs : SqL K H p ys) (hy : Ev tb σ H y) (fy : flatV y = true) (fys : ys.all flatV = true) (hz : ys[j]? = some z) (hj : eqV z y = true) (hno : ∀ (m : Nat) (z' : V), m < j → ys[m]? = some z' → eqV z' y = false) :
    Ev (tBM K "list" (rIndex K) ta (tCons tb tNil)) σ H (.int (j : Nat)) := fun H1 e Q q =>
  h H1 e _ fun H2 e2 => ⟨.inl ⟨rfl, _, ex_l (e.trans e2) hs⟩, hy H2 (e.trans e2) _ fun H3 e3 => ⟨p, ys, y, j, z, rfl, rfl, ex_l ((e.trans e2).trans e3) hs, fy, fys, hz, hj, hno, q H3 (e2.trans e3)⟩⟩
/-- of truths -/
theorem count_bools (bs : List Bool) : (bs.map V.bl).countP (fun z => eqV z (.bl true)) = bs.count true := by
  rw [List.countP_map, List.count]
  congr 1
theorem flat_bools (bs : List Bool) : (bs.map V.bl).all flatV = true := by
  rw [List.all_map]
  exact List.all_eq_true.mpr fun _ _ => rfl
/-- the one truth among them stands at its place -/
theorem index_bools {bs : List Bool} {j : Nat} (h : bs[j]? = some true) (h1 : bs.count true = 1) : ∀ (m : Nat) (z' : V), m < j → (bs.map V.bl)[m]? = some z' → eqV z' (.bl true) = false := fun m z' hm hz => by
  rw [List.getElem?_map] at hz
  cases e : bs[m]? with
  | none => rw [e] at hz; exact nomatch hz
  | some b =>
    rw [e] at hz
    obtain rfl : V.bl b = z' := Option.some.inj hz
    cases b with
    | false => rfl
    | true =>
      exfalso
      obtain ⟨l1, e1⟩ := List.getElem?_eq_some_iff.mp e
      obtain ⟨l2, e2⟩ := List.getElem?_eq_some_iff.mp h
      have a1 : true ∈ bs.take j := List.mem_take_iff_getElem.mpr ⟨m, by omega, e1⟩
      have a2 : true ∈ bs.drop j := by
        rw [List.drop_eq_getElem_cons l2, e2]
        exact List.mem_cons_self
      have c1 := List.count_pos_iff.mpr a1
      have c2 := List.count_pos_iff.mpr a2
      have := List.count_append (a := true) (l₁ := bs.take j) (l₂ := bs.drop j)
      rw [List.take_append_drop] at this
      omega
end
end MuX

namespace MuEd
open PySem PySem.Spec PyProof.Rows L2 Evl MuK
/-! ### how far two texts are apart, by their signs -/
abbrev sg (u : Str) (i : Nat) : Nat := u.cps.toList.getD i 0
theorem sg_eq {u : Str} {i : Nat} (z : i < u.cps.toList.length) : sg u i = u.cps.toList[i] := by
  show u.cps.toList.getD i 0 = _
  rw [List.getD_eq_getElem?_getD, List.getElem?_eq_getElem z]
  rfl
def cost (a b : Str) (i j : Nat) : Int := if sg a i = sg b j then 0 else 1
def dst (a b : Str) : Nat → Nat → Int
  | 0, j => (j : Int)
  | i + 1, 0 => (i : Int) + 1
  | i + 1, j + 1 => min (min (dst a b i (j + 1) + 1) (dst a b (i + 1) j + 1)) (dst a b i j + cost a b i j)
termination_by i j => (i, j)
theorem dst_0 (a b : Str) (j : Nat) : dst a b 0 j = j := by rw [dst]
theorem dst_s0 (a b : Str) (i : Nat) : dst a b (i + 1) 0 = (i : Int) + 1 := by rw [dst]
theorem dst_ss (a b : Str) (i j : Nat) : dst a b (i + 1) (j + 1) = min (min (dst a b i (j + 1) + 1) (dst a b (i + 1) j + 1)) (dst a b i j + cost a b i j) := by rw [dst]
theorem dst_i0 (a b : Str) : ∀ i : Nat, dst a b i 0 = i
  | 0 => by rw [dst_0]
  | i + 1 => by rw [dst_s0]; omega
theorem cost_01 (a b : Str) (i j : Nat) : 0 ≤ cost a b i j ∧ cost a b i j ≤ 1 := by
  unfold cost
  split <;> omega
theorem dst_nn (a b : Str) : ∀ n i j : Nat, i + j ≤ n → 0 ≤ dst a b i j ∧ dst a b i j ≤ (i : Int) + j := by
  intro n
  induction n with
  | zero =>
    intro i j h
    obtain rfl : i = 0 := by omega
    obtain rfl : j = 0 := by omega
    rw [dst_0]
    omega
  | succ n ih =>
    intro i j h
    cases i with
    | zero => rw [dst_0]; omega
    | succ i =>
      cases j with
      | zero => rw [dst_i0]; omega
      | succ j =>
        rw [dst_ss]
        have h1 := ih i (j + 1) (by omega)
        have h2 := ih (i + 1) j (by omega)
        have h3 := ih i j (by omega)
        have h4 := cost_01 a b i j
        omega
theorem cost_symm (a b : Str) (i j : Nat) : cost b a j i = cost a b i j := by
  unfold cost
  by_cases h : sg a i = sg b j
  · rw [if_pos h, if_pos h.symm]
  · rw [if_neg h, if_neg fun z => h z.symm]
theorem dst_symm (a b : Str) : ∀ n i j : Nat, i + j ≤ n → dst b a j i = dst a b i j := by
  intro n
  induction n with
  | zero =>
    intro i j h
    obtain rfl : i = 0 := by omega
    obtain rfl : j = 0 := by omega
    rw [dst_0, dst_0]
  | succ n ih =>
    intro i j h
    cases i with
    | zero => rw [dst_0, dst_i0]
    | succ i =>
      cases j with
      | zero => rw [dst_0, dst_i0]
      | succ j =>
        rw [dst_ss, dst_ss, cost_symm, ih (i + 1) j (by omega), ih i (j + 1) (by omega), ih i j (by omega)]
        omega
theorem dst_self (a : Str) : ∀ i : Nat, dst a a i i = 0
  | 0 => by rw [dst_0]; rfl
  | i + 1 => by
    have h := dst_self a i
    have h1 := (dst_nn a a (i + (i + 1)) i (i + 1) (by omega)).1
    have h2 := (dst_nn a a (i + 1 + i) (i + 1) i (by omega)).1
    rw [dst_ss, h]
    unfold cost
    rw [if_pos rfl]
    omega
/-- rows and tables -/
def rowD (a b : Str) (i k : Nat) : List Int := (List.range k).map (dst a b i)
theorem rowD_len (a b : Str) (i k : Nat) : (rowD a b i k).length = k := by simp [rowD]
theorem rowD_at {a b : Str} {i k j : Nat} (h : j < k) : (rowD a b i k)[j]? = some (dst a b i j) := by
  unfold rowD
  rw [List.getElem?_map, List.getElem?_range h]
  rfl
theorem rowD_succ (a b : Str) (i k : Nat) : rowD a b i (k + 1) = rowD a b i k ++ [dst a b i k] := by
  unfold rowD
  rw [List.range_succ, List.map_append]
  rfl
theorem rowAt {a b : Str} {i k j : Nat} (h : j < k) : atI ((rowD a b i k).map V.int) (j : Int) = some (.int (dst a b i j)) := atI_nat (by rw [List.getElem?_map, rowD_at h]; rfl)
/-! ### changes -/
inductive Ch where
  | out (k : Nat)
  | ins (k c : Nat)
  | rep (k c : Nat)
def one1 (c : Nat) : Str := ⟨#[c]⟩
def Ch.at_ (H : Hp) (t : Addr) : Ch → Prop
  | .out k => H t = some (.tup [.str "out", .int k])
  | .ins k c => H t = some (.tup [.str "in", .int k, .str (one1 c)])
  | .rep k c => H t = some (.tup [.str "for", .int k, .str (one1 c)])
theorem Ch.at_later {H H' : Hp} {t : Addr} {c : Ch} (h : c.at_ H t) (e : Ex H H') : c.at_ H' t := by
  cases c <;> exact e _ _ h
theorem Ch.at_stay {H : Hp} {t D : Addr} {c : Ch} {zs : List V} {o : HO} (h : c.at_ H t) (hD : H D = some (.lst zs)) : c.at_ (upd H D o) t := by
  have n : t ≠ D := fun z => by
    cases c <;> (have h2 : H t = some (.tup _) := h; rw [z, hD] at h2; exact nomatch h2)
  cases c <;> exact (upd_ne n).trans h
def ap (l : List Nat) : Ch → List Nat
  | .out k => l.take k ++ l.drop (k + 1)
  | .ins k c => l.take k ++ c :: l.drop k
  | .rep k c => l.take k ++ c :: l.drop (k + 1)
def Sgn (c : Nat) : Prop := 32 ≤ c ∧ c ≤ 126
def okC (l : List Nat) : Ch → Prop
  | .out k => k < l.length
  | .ins k c => k ≤ l.length ∧ Sgn c
  | .rep k c => k < l.length ∧ Sgn c
def Run : List Nat → List Ch → List Nat → Prop
  | l, [], m => l = m
  | l, c :: cs, m => okC l c ∧ Run (ap l c) cs m
theorem Run.snoc {c : Ch} : ∀ {cs : List Ch} {l m : List Nat}, Run l cs m → okC m c → Run l (cs ++ [c]) (ap m c)
  | [], l, m, h, k => by
    have h2 : l = m := h
    subst h2
    exact ⟨k, rfl⟩
  | d :: cs, l, m, h, k => ⟨h.1, Run.snoc h.2 k⟩
/-- a's first i signs, then b's from j on -/
def mid (a b : Str) (i j : Nat) : List Nat := a.cps.toList.take i ++ b.cps.toList.drop j
theorem mid_len {a b : Str} {i j : Nat} (h : i ≤ a.length) : (mid a b i j).length = i + (b.length - j) := by
  have z1 : a.cps.toList.length = a.length := Array.length_toList
  have z2 : b.cps.toList.length = b.length := Array.length_toList
  unfold mid
  rw [List.length_append, List.length_take, List.length_drop, z1, z2]
  omega
theorem mid_take {a b : Str} {i j k : Nat} (h : i ≤ a.length) (hk : k ≤ i) : (mid a b i j).take k = a.cps.toList.take k := by
  have z1 : a.cps.toList.length = a.length := Array.length_toList
  unfold mid
  rw [List.take_append_of_le_length (by rw [List.length_take]; omega), List.take_take, Nat.min_eq_left hk]
theorem mid_drop {a b : Str} {i j : Nat} (h : i ≤ a.length) : (mid a b i j).drop i = b.cps.toList.drop j := by
  have z1 : a.cps.toList.length = a.length := Array.length_toList
  unfold mid
  rw [List.drop_append_of_le_length (by rw [List.length_take]; omega), List.drop_of_length_le (by rw [List.length_take]; omega), List.nil_append]
theorem drop_at {b : Str} {j : Nat} (h : j < b.length) : b.cps.toList.drop j = sg b j :: b.cps.toList.drop (j + 1) := by
  have z : j < b.cps.toList.length := by rw [Array.length_toList]; exact h
  rw [List.drop_eq_getElem_cons z]
  rw [sg_eq z]
theorem take_at {a : Str} {i : Nat} (h : i < a.length) : a.cps.toList.take (i + 1) = a.cps.toList.take i ++ [sg a i] := by
  have z : i < a.cps.toList.length := by rw [Array.length_toList]; exact h
  rw [List.take_succ_eq_append_getElem z]
  rw [sg_eq z]
theorem ap_out {a b : Str} {i j : Nat} (h : i < a.length) : ap (mid a b (i + 1) j) (.out i) = mid a b i j := by
  show (mid a b (i + 1) j).take i ++ (mid a b (i + 1) j).drop (i + 1) = _
  rw [mid_take (by omega) (by omega), mid_drop (by omega)]
  rfl
theorem ap_ins {a b : Str} {i j : Nat} (h : i ≤ a.length) (hj : j < b.length) : ap (mid a b i (j + 1)) (.ins i (sg b j)) = mid a b i j := by
  show (mid a b i (j + 1)).take i ++ sg b j :: (mid a b i (j + 1)).drop i = _
  rw [mid_take h (Nat.le_refl _), mid_drop h, ← drop_at hj]
  rfl
theorem ap_rep {a b : Str} {i j : Nat} (h : i < a.length) (hj : j < b.length) : ap (mid a b (i + 1) (j + 1)) (.rep i (sg b j)) = mid a b i j := by
  show (mid a b (i + 1) (j + 1)).take i ++ sg b j :: (mid a b (i + 1) (j + 1)).drop (i + 1) = _
  rw [mid_take (by omega) (by omega), mid_drop (by omega), ← drop_at hj]
  rfl
theorem mid_same {a b : Str} {i j : Nat} (h : i < a.length) (hj : j < b.length) (e : sg a i = sg b j) : mid a b (i + 1) (j + 1) = mid a b i j := by
  unfold mid
  rw [take_at h, drop_at hj, e, List.append_assoc]
  rfl
theorem mid_0 (a b : Str) : mid a b 0 0 = b.cps.toList := by
  unfold mid
  rw [List.take_zero, List.drop_zero, List.nil_append]
theorem mid_all (a b : Str) : mid a b a.length b.length = a.cps.toList := by
  have z1 : a.cps.toList.length = a.length := Array.length_toList
  have z2 : b.cps.toList.length = b.length := Array.length_toList
  unfold mid
  rw [← z1, ← z2, List.take_length, List.drop_length, List.append_nil]
/-! ### texts -/
def TxOk (u : Str) : Prop := u.length ≤ 160 ∧ ∀ c ∈ u.cps.toList, Sgn c
theorem str_ext {u v : Str} (h : u.cps.toList = v.cps.toList) : u = v := by
  cases u; cases v
  congr 1
  exact Array.toList_inj.mp h
theorem sg_ok {u : Str} (h : TxOk u) {i : Nat} (hi : i < u.length) : Sgn (sg u i) := by
  refine h.2 _ ?_
  have z : i < u.cps.toList.length := by rw [Array.length_toList]; exact hi
  rw [sg_eq z]
  exact List.getElem_mem z
theorem sg_at {u : Str} {i : Nat} (hi : i < u.length) : atI u.cps.toList (i : Int) = some (sg u i) := by
  have z : i < u.cps.toList.length := by rw [Array.length_toList]; exact hi
  refine atI_nat ?_
  rw [List.getElem?_eq_getElem z, sg_eq z]
theorem cut_to {u : Str} {k : Nat} (h : k ≤ u.length) : (cutS u none (some (k : Int))).cps.toList = u.cps.toList.take k := by
  show (((u.cps.toList.drop (HT.sIx u.length 0 none)).take (HT.sIx u.length u.length (some (k : Int)) - HT.sIx u.length 0 none)).toArray).toList = _
  rw [HT.sIx_none, HT.sIx_nat, List.drop_zero, Nat.min_eq_left h, Nat.sub_zero]
theorem cut_from {u : Str} {k : Nat} (h : k ≤ u.length) : (cutS u (some (k : Int)) none).cps.toList = u.cps.toList.drop k := by
  have z : u.cps.toList.length = u.length := Array.length_toList
  show (((u.cps.toList.drop (HT.sIx u.length 0 (some (k : Int)))).take (HT.sIx u.length u.length none - HT.sIx u.length 0 (some (k : Int)))).toArray).toList = _
  rw [HT.sIx_none, HT.sIx_nat, Nat.min_eq_left h]
  show (u.cps.toList.drop k).take (u.length - k) = _
  rw [List.take_of_length_le]
  rw [List.length_drop, z]
  exact Nat.le_refl _
theorem app_cps (u v : Str) : (u ++ v).cps.toList = u.cps.toList ++ v.cps.toList := by
  show (u.cps ++ v.cps).toList = _
  simp
/-- a table at p -/
def TabAt (H : Hp) (p : Addr) (rs : List (Addr × List Int)) : Prop := H p = some (.lst (rs.map fun r => V.ref r.1)) ∧ ∀ r ∈ rs, H r.1 = some (.lst (r.2.map V.int))
theorem TabAt.later {H H' : Hp} {p : Addr} {rs : List (Addr × List Int)} (h : TabAt H p rs) (e : Ex H H') : TabAt H' p rs := ⟨e _ _ h.1, fun r m => e _ _ (h.2 r m)⟩
/-- the number at a crossing stands there -/
def Ent (a b : Str) (rs : List (Addr × List Int)) (i j : Nat) : Prop := ∃ r, rs[i]? = some r ∧ r.2[j]? = some (dst a b i j)
theorem ev_ent {K : PySem.W.Frag} {σ : L2.St} {H : Hp} {tt ti tj : TE} {a b : Str} {p : Addr} {rs : List (Addr × List Int)} {i j : Nat} (h : TabAt H p rs) (he : Ent a b rs i j) (ht : Ev tt σ H (.ref p)) (hi : Ev ti σ H (.int (i : Int))) (hj : Ev tj σ H (.int (j : Int))) :
    Ev (tOp (rIxL K) (tOp (rIxL K) tt ti) tj) σ H (.int (dst a b i j)) := by
  obtain ⟨r, hr, hv⟩ := he
  have rowr : (rs.map fun r => V.ref r.1)[i]? = some (V.ref r.1) := by rw [List.getElem?_map, hr]; rfl
  exact ev_op (ev_op ht hi (rv_ixL (sq_of h.1) (atI_nat rowr))) hj (rv_ixL (sq_of (h.2 r (List.mem_of_getElem? hr))) (atI_nat (by rw [List.getElem?_map, hv]; rfl)))
/-- the least of these -/
theorem ev_minL {K : PySem.W.Frag} {σ : L2.St} {H : Hp} {te : TE} {p : Addr} {ns : List Int} {m : Int} (h : Ev te σ H (.ref p)) (hs : SqL K H p (ns.map V.int)) (hm : m ∈ ns) (hle : ∀ y ∈ ns, m ≤ y) : Ev (tCB (rMin K) (tCons te tNil)) σ H (.int m) := fun H1 e Q q =>
  h H1 e _ fun H2 e2 => ⟨p, ns, rfl, ex_l (e.trans e2) hs, List.length_pos_of_mem hm, fun m2 hm2 hle2 => by
    obtain rfl : m2 = m := Int.le_antisymm (hle2 m hm) (hle m2 hm2)
    exact q H2 e2⟩
theorem rc_isiStr {K : PySem.W.Frag} {H : Hp} {i : Str} {n : String} {b : Bool} (h : PySem.W.kitOne K (.type "str") (.type n) = some b) : RC (rIsi K) [.str i, .ty n] H (.bl b) := fun H1 _ _ q => ⟨_, _, _, _, b, rfl, .ty n, .base (.str i), h, q H1 (Ex.refl H1)⟩
end MuEd

namespace MuEd
open PySem PySem.Spec PyProof.Rows L2 Evl MuK
/-! ### tables as they grow -/
def tabD (a b : Str) (m : Nat) : List (List Int) := (List.range m).map fun i => rowD a b i (b.length + 1)
theorem tabD_len (a b : Str) (m : Nat) : (tabD a b m).length = m := by simp [tabD]
theorem tabD_at {a b : Str} {m i : Nat} (h : i < m) : (tabD a b m)[i]? = some (rowD a b i (b.length + 1)) := by
  unfold tabD
  rw [List.getElem?_map, List.getElem?_range h]
  rfl
theorem tabD_succ (a b : Str) (m : Nat) : tabD a b (m + 1) = tabD a b m ++ [rowD a b m (b.length + 1)] := by
  unfold tabD
  rw [List.range_succ, List.map_append]
  rfl
theorem tab_len {a b : Str} {rs : List (Addr × List Int)} {m : Nat} (hr : rs.map (·.2) = tabD a b m) : rs.length = m := by
  have := congrArg List.length hr
  rwa [List.length_map, tabD_len] at this
theorem tab_row {a b : Str} {rs : List (Addr × List Int)} {m i : Nat} (hr : rs.map (·.2) = tabD a b m) (hi : i < m) : ∃ r, rs[i]? = some r ∧ r.2 = rowD a b i (b.length + 1) := by
  have h : (rs.map (·.2))[i]? = some (rowD a b i (b.length + 1)) := by rw [hr, tabD_at hi]
  rw [List.getElem?_map] at h
  cases hh : rs[i]? with
  | none => rw [hh] at h; exact nomatch h
  | some r =>
    rw [hh] at h
    exact ⟨r, rfl, Option.some.inj h⟩
theorem tab_mem {a b : Str} {rs : List (Addr × List Int)} {m : Nat} (hr : rs.map (·.2) = tabD a b m) {r : Addr × List Int} (h : r ∈ rs) : ∃ i, i < m ∧ r.2 = rowD a b i (b.length + 1) := by
  obtain ⟨i, hi⟩ := List.mem_iff_getElem?.mp h
  have lt : i < m := by
    have := (List.getElem?_eq_some_iff.mp hi).1
    rwa [tab_len hr] at this
  obtain ⟨r2, h2, e⟩ := tab_row hr lt
  rw [hi] at h2
  obtain rfl := Option.some.inj h2
  exact ⟨i, lt, e⟩
theorem ent_of {a b : Str} {rs : List (Addr × List Int)} {m i j : Nat} (hr : rs.map (·.2) = tabD a b m) (hi : i < m) (hj : j ≤ b.length) : Ent a b rs i j := by
  obtain ⟨r, hh, e⟩ := tab_row hr hi
  refine ⟨r, hh, ?_⟩
  rw [e]
  exact rowD_at (by omega)
theorem ent_app {a b : Str} {rs : List (Addr × List Int)} {i j : Nat} (he : Ent a b rs i j) (z : Addr × List Int) : Ent a b (rs ++ [z]) i j := by
  obtain ⟨r, hr, hv⟩ := he
  exact ⟨r, by rw [List.getElem?_append_left (List.getElem?_eq_some_iff.mp hr).1]; exact hr, hv⟩
theorem ent_last {a b : Str} {rs : List (Addr × List Int)} {r : Addr} {l : List Int} {i j : Nat} (hi : rs.length = i) (h : l[j]? = some (dst a b i j)) : Ent a b (rs ++ [(r, l)]) i j := by
  subst hi
  exact ⟨(r, l), by rw [List.getElem?_append_right (Nat.le_refl _), Nat.sub_self]; rfl, h⟩
def RowsOk (H : Hp) (p : Addr) (rs : List (Addr × List Int)) : Prop := (∀ s ∈ rs, H s.1 = none ∧ s.1 ≠ p) ∧ (rs.map (·.1)).Nodup ∧ H p = none
theorem RowsOk.snoc {H : Hp} {p r : Addr} {l : List Int} {rs : List (Addr × List Int)} (h : RowsOk H p rs) (hr : H r = none) (hp : r ≠ p) (hn : ∀ s ∈ rs, s.1 ≠ r) : RowsOk H p (rs ++ [(r, l)]) := by
  refine ⟨fun s m => ?_, ?_, h.2.2⟩
  · rcases List.mem_append.mp m with m | m
    · exact h.1 s m
    · obtain rfl := List.mem_singleton.mp m
      exact ⟨hr, hp⟩
  · rw [List.map_append]
    refine List.nodup_append.mpr ⟨h.2.1, (by simp), fun x hx y hy z => ?_⟩
    obtain ⟨s, ms, rfl⟩ := List.mem_map.mp hx
    rw [List.mem_singleton.mp hy] at z
    exact hn s ms z
theorem TabAt.put {H : Hp} {p r : Addr} {rs : List (Addr × List Int)} {l : List Int} {x : Int} (h : TabAt H p (rs ++ [(r, l)])) (hp : r ≠ p) (hn : ∀ s ∈ rs, s.1 ≠ r) : TabAt (upd H r (.lst (l.map V.int ++ [V.int x]))) p (rs ++ [(r, l ++ [x])]) := by
  refine ⟨?_, fun s hs => ?_⟩
  · rw [upd_ne (Ne.symm hp), h.1, List.map_append, List.map_append]
    rfl
  · rcases List.mem_append.mp hs with hs | hs
    · exact (upd_ne (hn s hs)).trans (h.2 s (List.mem_append_left _ hs))
    · obtain rfl := List.mem_singleton.mp hs
      show upd H r _ r = _
      rw [upd_same, List.map_append]
      rfl
theorem TabAt.grow {H : Hp} {p r : Addr} {rs : List (Addr × List Int)} (h : TabAt H p rs) (hr : H r = some (.lst [])) (hp : r ≠ p) (hn : ∀ s ∈ rs, s.1 ≠ p) : TabAt (upd H p (.lst (rs.map (fun r => V.ref r.1) ++ [.ref r]))) p (rs ++ [(r, [])]) := by
  refine ⟨?_, fun s hs => ?_⟩
  · rw [upd_same, List.map_append]
    rfl
  · rcases List.mem_append.mp hs with hs | hs
    · exact (upd_ne (hn s hs)).trans (h.2 s hs)
    · obtain rfl := List.mem_singleton.mp hs
      show upd H p _ r = _
      rw [upd_ne hp]
      exact hr
/-- a filled table at p, new since H -/
def TabF (a b : Str) (H H' : Hp) (p : Addr) : Prop := ∃ rs, TabAt H' p rs ∧ rs.map (·.2) = tabD a b (a.length + 1) ∧ RowsOk H p rs
/-- changes at D, new since H -/
def ChAt (H' : Hp) (D : Addr) (cs : List (Addr × Ch)) : Prop := H' D = some (.lst (cs.map fun c => V.ref c.1)) ∧ ∀ c ∈ cs, c.2.at_ H' c.1
theorem ChAt.later {H H' : Hp} {D : Addr} {cs : List (Addr × Ch)} (h : ChAt H D cs) (e : Ex H H') : ChAt H' D cs := ⟨e _ _ h.1, fun c m => Ch.at_later (h.2 c m) e⟩
theorem ChAt.snoc {H : Hp} {D t : Addr} {c : Ch} {cs : List (Addr × Ch)} (h : ChAt H D cs) (ht : c.at_ H t) : ChAt (upd H D (.lst (cs.map (fun c => V.ref c.1) ++ [.ref t]))) D (cs ++ [(t, c)]) := by
  refine ⟨?_, fun d m => ?_⟩
  · rw [upd_same, List.map_append]
    rfl
  · rcases List.mem_append.mp m with m | m
    · exact Ch.at_stay (h.2 d m) h.1
    · obtain rfl := List.mem_singleton.mp m
      exact Ch.at_stay ht h.1
def Led (a b : Str) (cs : List (Addr × Ch)) : Prop := (cs.length : Int) = dst a b a.length b.length ∧ Run a.cps.toList (cs.map (·.2)) b.cps.toList
def apS (u : Str) (c : Ch) : Str := ⟨(ap u.cps.toList c).toArray⟩
theorem apS_cps (u : Str) (c : Ch) : (apS u c).cps.toList = ap u.cps.toList c := by
  show ((ap u.cps.toList c).toArray).toList = _
  simp
section
variable {K : PySem.W.Frag} {σ : L2.St} {H : Hp} {ta tb tc te : TE} {v1 v3 : V} {R2 : V → Hp → Prop}
theorem evx_tupM (h1 : Ev ta σ H v1) (h2 : EvX tb σ H R2) (h3 : Ev tc σ H v3) : EvX (tTup (tCons ta (tCons tb (tCons tc tNil)))) σ H (fun v H' => ∃ (t : Addr) (v2 : V) (H2 : Hp), v = .ref t ∧ H t = none ∧ H' t = some (.tup [v1, v2, v3]) ∧ R2 v2 H2 ∧ Ex H2 H') := fun H0 e Q q =>
  h1 H0 e _ fun H1 e1 => h2 H1 (e.trans e1) _ fun v2 H2 e2 r => h3 H2 ((e.trans e1).trans e2) _ fun H3 e3 => ⟨sz_of (by simp), fun t ht => q _ _ (((e1.trans e2).trans e3).trans (Ex.new ht)) ⟨t, v2, H2, rfl, fresh_back (((e.trans e1).trans e2).trans e3) ht, upd_same, r, e3.trans (Ex.new ht)⟩⟩
/-- all of a new list of truths -/
theorem ev_allX {b : Bool} (h : EvX te σ H (fun v H' => ∃ (p : Addr) (bs : List Bool), v = .ref p ∧ H' p = some (.lst (bs.map V.bl)) ∧ bs.all id = b)) : Ev (tCB (rAll K) (tCons te tNil)) σ H (.bl b) := fun H1 e Q q =>
  h H1 e _ fun v H2 e2 r => by
    obtain ⟨p, bs, rfl, hp, rfl⟩ := r
    exact ⟨p, bs, rfl, sq_of hp, q H2 e2⟩
theorem given_true (n : Nat) : given n (fun _ => true) (fun _ => V.bl true) = (List.replicate n true).map V.bl := by
  unfold given
  rw [List.filter_eq_self.mpr fun _ _ => rfl]
  rw [List.map_replicate]
  apply List.ext_getElem
  · simp
  · intro i h1 h2
    simp
theorem all_rep (n : Nat) : (List.replicate n true).all id = true := by simp
theorem all_paired {α : Type} {ps : List α} {ys : List V} {F : α → V → Prop} (h : Paired F ps ys) (k : ∀ p y, F p y → y = .bl true) : ys = (List.replicate ys.length true).map V.bl := by
  rw [List.map_replicate]
  refine List.eq_replicate_iff.mpr ⟨rfl, fun y hy => ?_⟩
  obtain ⟨i, hi⟩ := List.mem_iff_getElem?.mp hy
  have zl := Paired.length h
  have lt : i < ps.length := by
    have := (List.getElem?_eq_some_iff.mp hi).1
    omega
  obtain ⟨y2, h2, f⟩ := paired_get h (List.getElem?_eq_getElem lt)
  rw [hi] at h2
  obtain rfl := Option.some.inj h2
  exact k _ _ f
/-- the least of three numbers -/
theorem rc_min3N {i j k : Int} : RC (rNuC3 nuMin3) [.int i, .int j, .int k] H (.int (min (min i j) k)) := fun H1 _ Q q => by
  refine ⟨.int i, .int j, .int k, .int (min (min i j) k), rfl, ?_, q H1 (Ex.refl H1)⟩
  have two : ∀ x y : Int, nuMin2 (.int x) (.int y) = some (.int (min x y)) := fun x y => by
    show some (if decide (y < x) = true then V.int y else V.int x) = _
    by_cases h : y < x
    · rw [if_pos (decide_eq_true h), Int.min_eq_right (Int.le_of_lt h)]
    · rw [if_neg (by simpa using h), Int.min_eq_left (by omega)]
  show (nuMin2 (.int i) (.int j)).bind _ = _
  rw [two]
  exact two _ _
/-- parts of a text -/
theorem ev_cutT {u : Str} {k : Int} (h : Ev ta σ H (.str u)) (hk : Ev tb σ H (.int k)) (hz : u.length ≤ 100000) : Ev (tSl rSlS ta tNoPart (tPart tb)) σ H (.str (cutS u none (some k))) := fun H1 e Q q =>
  h H1 e _ fun H2 e2 => eo_none H2 (e.trans e2) _ fun H3 e3 => (eo_some hk) H3 ((e.trans e2).trans e3) _ fun H4 e4 => ⟨_, rfl, sz_of hz, q H4 ((e2.trans e3).trans e4)⟩
theorem ev_cutF {u : Str} {k : Int} (h : Ev ta σ H (.str u)) (hk : Ev tb σ H (.int k)) (hz : u.length ≤ 100000) : Ev (tSl rSlS ta (tPart tb) tNoPart) σ H (.str (cutS u (some k) none)) := fun H1 e Q q =>
  h H1 e _ fun H2 e2 => (eo_some hk) H2 (e.trans e2) _ fun H3 e3 => eo_none H3 ((e.trans e2).trans e3) _ fun H4 e4 => ⟨_, rfl, sz_of hz, q H4 ((e2.trans e3).trans e4)⟩
theorem rv_catS {u v : Str} (h : u.length + v.length ≤ 100000) : RV (fun x y H Q => ∃ i j, x = .str i ∧ y = .str j ∧ i.length + j.length ≤ sizeLine ∧ Q (.str (i ++ j)) H) (.str u) (.str v) H (.str (u ++ v)) := fun H1 _ _ q => ⟨_, _, rfl, rfl, sz_of h, q H1 (Ex.refl H1)⟩
end
theorem cutS_len (u : Str) (lo hi : Option Int) : (cutS u lo hi).length ≤ u.length := by
  show ((u.cps.toList.drop _).take _).toArray.size ≤ u.cps.size
  simp
  omega
theorem len_cps (u : Str) : u.cps.toList.length = u.length := Array.length_toList
theorem ap_len {l : List Nat} {c : Ch} (h : okC l c) : (ap l c).length ≤ l.length + 1 := by
  cases c with
  | out k => simp [ap]; have : k < l.length := h; omega
  | ins k c => have : k ≤ l.length := h.1; simp [ap]; omega
  | rep k c => have : k < l.length := h.1; simp [ap]; omega
end MuEd
namespace MuEd
open PySem PySem.Spec PyProof.Rows L2 Evl MuK
theorem third {a b : Str} {i j : Nat} (hb : (decide (0 < (i : Int)) || decide (0 < (j : Int))) = true) (h1 : (decide (0 < (i : Int)) && decide (dst a b i j = dst a b (i - 1) j + 1)) = false) (h2 : (decide (0 < (j : Int)) && decide (dst a b i j = dst a b i (j - 1) + 1)) = false) :
    ∃ k l, i = k + 1 ∧ j = l + 1 ∧ dst a b (k + 1) (l + 1) = dst a b k l + cost a b k l := by
  cases i with
  | zero =>
    cases j with
    | zero => simp at hb
    | succ l =>
      exfalso
      rw [dst_0, dst_0] at h2
      simp at h2
  | succ k =>
    cases j with
    | zero =>
      exfalso
      rw [dst_i0, dst_i0] at h1
      simp at h1
    | succ l =>
      refine ⟨k, l, rfl, rfl, ?_⟩
      have n1 : ¬ dst a b (k + 1) (l + 1) = dst a b k (l + 1) + 1 := fun z => by
        rw [Nat.add_sub_cancel, decide_eq_true z, decide_eq_true (by omega)] at h1
        exact nomatch h1
      have n2 : ¬ dst a b (k + 1) (l + 1) = dst a b (k + 1) l + 1 := fun z => by
        rw [Nat.add_sub_cancel, decide_eq_true z, decide_eq_true (by omega)] at h2
        exact nomatch h2
      have e := dst_ss a b k l
      generalize dst a b k (l + 1) + 1 = x at n1 e
      generalize dst a b (k + 1) l + 1 = y at n2 e
      generalize dst a b k l + cost a b k l = z at e ⊢
      omega
theorem min3_mem (x y z : Int) : min (min x y) z ∈ [x, y, z] := by
  by_cases h : x ≤ y
  · rw [Int.min_eq_left h]
    by_cases h2 : x ≤ z
    · rw [Int.min_eq_left h2]; exact List.mem_cons_self
    · rw [Int.min_eq_right (by omega)]; exact List.mem_cons_of_mem _ (List.mem_cons_of_mem _ List.mem_cons_self)
  · rw [Int.min_eq_right (show y ≤ x by omega)]
    by_cases h2 : y ≤ z
    · rw [Int.min_eq_left h2]; exact List.mem_cons_of_mem _ List.mem_cons_self
    · rw [Int.min_eq_right (by omega)]; exact List.mem_cons_of_mem _ (List.mem_cons_of_mem _ List.mem_cons_self)
theorem min3_le {x y z w : Int} (h : w ∈ [x, y, z]) : min (min x y) z ≤ w := by
  rcases List.mem_cons.mp h with rfl | h
  · exact Int.le_trans (Int.min_le_left _ _) (Int.min_le_left _ _)
  rcases List.mem_cons.mp h with rfl | h
  · exact Int.le_trans (Int.min_le_left _ _) (Int.min_le_right _ _)
  · obtain rfl := List.mem_singleton.mp h
    exact Int.min_le_right _ _
end MuEd

namespace MuEd
open PySem PySem.Spec PyProof.Rows L2 Evl MuK
theorem RowsOk.back {H H1 : Hp} {p : Addr} {rs : List (Addr × List Int)} (e : Ex H H1) (h : RowsOk H1 p rs) : RowsOk H p rs := ⟨fun s m => ⟨fresh_back e (h.1 s m).1, (h.1 s m).2⟩, h.2.1, fresh_back e h.2.2⟩
def ApAt (a b : Str) (H H' : Hp) (t : Addr) : Prop := ∃ D p cs rs, H' t = some (.tup [.int (dst a b a.length b.length), .ref D, .ref p]) ∧ (H D = none ∧ D ≠ p ∧ ∀ r ∈ rs, r.1 ≠ D) ∧ ChAt H' D cs ∧ Led a b cs ∧ TabAt H' p rs ∧ rs.map (·.2) = tabD a b (a.length + 1) ∧ RowsOk H p rs
theorem last_of {α : Type} {xs : List α} {v : α} (h : xs[xs.length - 1]? = some v) : atI xs (-1) = some v := by
  have ne : xs ≠ [] := fun z => by rw [z] at h; exact nomatch h
  have e : xs = xs.dropLast ++ [v] := by
    have h2 := List.dropLast_concat_getLast ne
    have h3 : xs.getLast ne = v := by
      rw [← List.getLast?_eq_getElem?, List.getLast?_eq_some_getLast ne] at h
      exact Option.some.inj h
    rw [h3] at h2
    exact h2.symm
  rw [e]
  exact atI_last _ v
theorem ev_last2 {K : PySem.W.Frag} {σ : L2.St} {H : Hp} {tt ti tj : TE} {a b : Str} {p : Addr} {rs : List (Addr × List Int)} (h : TabAt H p rs) (hm : rs.map (·.2) = tabD a b (a.length + 1)) (ht : Ev tt σ H (.ref p)) (hi : Ev ti σ H (.int (-1))) (hj : Ev tj σ H (.int (-1))) :
    Ev (tOp (rIxL K) (tOp (rIxL K) tt ti) tj) σ H (.int (dst a b a.length b.length)) := by
  obtain ⟨r, hr, e⟩ := tab_row hm (show a.length < a.length + 1 by omega)
  have zl := tab_len hm
  have c1 : (rs.map fun r => V.ref r.1)[(rs.map fun r => V.ref r.1).length - 1]? = some (V.ref r.1) := by
    rw [List.length_map, zl, Nat.add_sub_cancel, List.getElem?_map, hr]
    rfl
  have c2 : (r.2.map V.int)[(r.2.map V.int).length - 1]? = some (V.int (dst a b a.length b.length)) := by
    rw [List.length_map, e, rowD_len, Nat.add_sub_cancel, List.getElem?_map, rowD_at (by omega)]
    rfl
  exact ev_op (ev_op ht hi (rv_ixL (sq_of h.1) (last_of c1))) hj (rv_ixL (sq_of (h.2 r (List.mem_of_getElem? hr))) (last_of c2))
section
variable {K : PySem.W.Frag} {σ : L2.St} {H : Hp} {D : Ends} {tz : TS} {ta te : TE}
theorem q_unp3V {i j k : Nat} {p : Addr} {x y z : V} (h : Ev te σ H (.ref p)) (h2 : SqT K H p [x, y, z]) (q : ∀ H1, Ex H H1 → tz D (((σ.set i (some x)).set j (some y)).set k (some z)) H1) : tSeq (tAsg te (gTup K 3 (gCons (gName i) (gCons (gName j) (gCons (gName k) gNil))))) tz D σ H :=
  h H (Ex.refl H) _ fun H1 e => ⟨p, [x, y, z], rfl, ex_t e h2, rfl, x, [y, z], rfl, y, [z], rfl, z, [], rfl, rfl, q H1 e⟩
theorem el_listRg {n : Int} (ha : Ev ta σ H (.int n)) (h0 : 0 ≤ n) (h1 : n ≤ 1000) : EvL (tLstRg (tRg1 ta)) σ H (((List.range n.toNat).map Int.ofNat).map V.int) := fun H1 e Q q =>
  ha H1 e _ fun H2 e2 => ⟨n, rfl, ⟨by omega, by omega, by omega, by omega, by omega⟩, fun p hp => q p _ (fresh_back e2 hp) (e2.trans (Ex.new hp)) (by
    rw [upd_same]
    unfold rgV
    rw [show (n - 0).toNat = n.toNat by omega, List.map_map]
    congr 2
    refine List.map_congr_left fun i _ => ?_
    show V.int (0 + (i : Int)) = V.int (Int.ofNat i)
    rw [Int.zero_add]
    rfl)⟩
theorem q_pop {l : Addr} {xs : List V} (hl : H l = some (.lst xs)) (hx : xs ≠ []) (ha : Ev ta σ H (.ref l)) (q : ∀ H1, Ex H H1 → tz D σ (upd H1 l (.lst xs.dropLast))) : tSeq (tDrop (tBM0 K "list" rPop ta)) tz D σ H := by
  refine ha H (Ex.refl H) _ fun H1 e1 => ⟨.inl ⟨rfl, xs, sq_of (e1 l _ hl)⟩, ?_⟩
  exact ⟨l, xs, xs.getLast hx, rfl, rfl, e1 l _ hl, by rw [← List.getLast?_eq_getElem?]; exact List.getLast?_eq_some_getLast hx, q H1 e1⟩
end
section
variable {K : PySem.W.Frag} {σ : L2.St} {H : Hp} {ta tb te : TE}
theorem evx_LL {xs : List V} (h : EvL te σ H xs) : EvX te σ H (fun v H' => ∃ p : Addr, v = .ref p ∧ H' p = some (.lst xs)) := fun H1 e Q q => h H1 e _ fun p H2 _ e2 h2 => q _ _ e2 ⟨p, rfl, h2⟩
theorem ev_cutF_any {u : Str} {k : Int} (hz : u.length ≤ 100000) (h : Ev ta σ H (.str u)) (hk : Ev tb σ H (.int k)) : Ev (tSl rSlS ta (tPart tb) tNoPart) σ H (.str (cutS u (some k) none)) := ev_cutF h hk hz
theorem rv_mulS {u : Str} {n : Int} (hz : u.length ≤ 1000) (h0 : 0 ≤ n) (h1 : n ≤ 1000) : RV rMulS (.str u) (.int n) H (.str (Txt.mul u n)) := fun H1 _ _ q => ⟨_, _, rfl, rfl, hz, h0, h1, q H1 (Ex.refl H1)⟩
end
/-! ### texts made -/
def every : Str := ⟨(((List.range 95).map (· + 32)).filter (· != 37)).toArray⟩
def signs5 : List Str := ["ab", "abc", "aab ", every, "a"]
theorem signs5_ok : ∀ u ∈ signs5, 0 < u.length ∧ u.length ≤ 1000 ∧ ∀ c ∈ u.cps.toList, 32 ≤ c ∧ c ≤ 126 := by decide +kernel
theorem app_len (u v : Str) : (u ++ v).length = u.length + v.length := by
  show (u.cps ++ v.cps).size = _
  simp
  rfl
theorem all_app {u v : Str} (hu : ∀ c ∈ u.cps.toList, Sgn c) (hv : ∀ c ∈ v.cps.toList, Sgn c) : ∀ c ∈ (u ++ v).cps.toList, Sgn c := fun c m => by
  rw [app_cps] at m
  exact (List.mem_append.mp m).elim (hu c) (hv c)
theorem all_cut {u : Str} (hu : ∀ c ∈ u.cps.toList, Sgn c) (lo hi : Option Int) : ∀ c ∈ (cutS u lo hi).cps.toList, Sgn c := fun c m => by
  have m2 : c ∈ ((u.cps.toList.drop (HT.sIx u.length 0 lo)).take (HT.sIx u.length u.length hi - HT.sIx u.length 0 lo)) := m
  exact hu c (List.mem_of_mem_drop (List.mem_of_mem_take m2))
theorem cut30 (u : Str) : (cutS u none (some 30)).length ≤ 30 := by
  have z : (cutS u none (some 30)).length = ((u.cps.toList.drop (HT.sIx u.length 0 none)).take (HT.sIx u.length u.length (some ((30 : Nat) : Int)) - HT.sIx u.length 0 none)).length := by
    show ((List.take _ _).toArray).size = _
    rw [List.size_toArray]
    rfl
  rw [z, HT.sIx_none, HT.sIx_nat, List.length_take]
  omega
theorem cutAt_len {u : Str} {k : Nat} (h : k ≤ u.length) : (cutS u none (some (k : Int))).length = k := by
  have := cut_to h
  have z : (cutS u none (some (k : Int))).length = (cutS u none (some (k : Int))).cps.toList.length := (len_cps _).symm
  rw [z, this, List.length_take, len_cps]
  omega
theorem cutFrom_len {u : Str} {k : Nat} (h : k ≤ u.length) : (cutS u (some (k : Int)) none).length = u.length - k := by
  have := cut_from h
  have z : (cutS u (some (k : Int)) none).length = (cutS u (some (k : Int)) none).cps.toList.length := (len_cps _).symm
  rw [z, this, List.length_drop, len_cps]
def near4 : Str := "ab x"
theorem mul_ok : ∀ c ∈ near4.cps.toList, ∀ n ∈ [(0 : Int), 1], (Txt.mul ⟨#[c]⟩ n).length ≤ 1 ∧ ∀ d ∈ (Txt.mul ⟨#[c]⟩ n).cps.toList, 32 ≤ d ∧ d ≤ 126 := by decide +kernel
theorem getD_mem {l : List Nat} {i d : Nat} (h : i < l.length) : l.getD i d ∈ l := by
  rw [List.getD_eq_getElem?_getD, List.getElem?_eq_getElem h]
  exact List.getElem_mem h
theorem at_mod_mem {l : List Nat} {n : Int} {m : Nat} (hm : l.length = m) (h0 : 0 < m) : ∃ c, atI l (n % (m : Int)) = some c ∧ c ∈ l := by
  refine ⟨_, atI_mod 0 hm h0, getD_mem ?_⟩
  have h1 := Int.emod_nonneg n (show (m : Int) ≠ 0 by omega)
  have h2 := Int.emod_lt_of_pos n (show (0 : Int) < m by omega)
  omega
theorem row0 (a b : Str) (n : Nat) : ((List.range n).map Int.ofNat).map V.int = (rowD a b 0 n).map V.int := by
  unfold rowD
  rw [List.map_map, List.map_map]
  refine List.map_congr_left fun j _ => ?_
  show V.int (j : Int) = V.int (dst a b 0 j)
  rw [dst_0]
theorem le_sign {c : Nat} (h : Sgn c) : (!decide ((⟨#[c]⟩ : Str).cps.toList < (" " : Str).cps.toList)) = true ∧ (!decide (("~" : Str).cps.toList < (⟨#[c]⟩ : Str).cps.toList)) = true := by
  have e1 : (" " : Str).cps.toList = [32] := by decide +kernel
  have e2 : ("~" : Str).cps.toList = [126] := by decide +kernel
  rw [e1, e2]
  have h1 := h.1
  have h2 := h.2
  constructor
  · rw [Bool.not_eq_true', decide_eq_false_iff_not]
    intro z
    rcases List.cons_lt_cons_iff.mp z with z | z
    · exact absurd z (by show ¬ c < 32; omega)
    · exact absurd z.2 (by simp)
  · rw [Bool.not_eq_true', decide_eq_false_iff_not]
    intro z
    rcases List.cons_lt_cons_iff.mp z with z | z
    · exact absurd z (by show ¬ 126 < c; omega)
    · exact absurd z.2 (by simp)
end MuEd
namespace MuEd
open PySem PySem.Spec PyProof.Rows L2 Evl MuK
theorem cost_int (a b : Str) (i j : Nat) : V.int (if (!decide ((⟨#[sg a i]⟩ : Str) = (⟨#[sg b j]⟩ : Str))) = true then 1 else 0) = V.int (cost a b i j) := by
  unfold cost
  by_cases h : sg a i = sg b j
  · rw [if_pos h, h, decide_eq_true rfl]
    rfl
  · rw [if_neg h, decide_eq_false]
    · rfl
    intro z
    have h2 : [sg a i] = [sg b j] := congrArg (fun s : Str => s.cps.toList) z
    exact h (List.cons.inj h2).1
end MuEd
namespace MuEd
open PySem PySem.Spec PyProof.Rows L2 Evl MuK
theorem cut2_len (u : Str) (x y : Option Int) {x2 y2 : Option Int} (h : u.length ≤ 1000) : (cutS u x x2).length + (cutS u y y2).length ≤ 100000 := by
  have h1 := cutS_len u x x2
  have h2 := cutS_len u y y2
  omega
theorem str_of {u : Str} {l : List Nat} (h : u.cps.toList = l) : u = ⟨l.toArray⟩ := str_ext (by rw [h])
theorem ap_out_S {u : Str} {k : Nat} (h : k < u.cps.toList.length) : V.str (cutS u none (some (k : Int)) ++ cutS u (some ((k : Int) + 1)) none) = V.str (apS u (.out k)) := by
  have z := len_cps u
  refine congrArg V.str (str_of ?_)
  rw [app_cps, cut_to (by omega), show ((k : Int) + 1) = ((k + 1 : Nat) : Int) by omega, cut_from (by omega)]
  rfl
theorem ap_ins_S {u : Str} {k c : Nat} (h : k ≤ u.cps.toList.length) : V.str (cutS u none (some (k : Int)) ++ one1 c ++ cutS u (some (k : Int)) none) = V.str (apS u (.ins k c)) := by
  have z := len_cps u
  refine congrArg V.str (str_of ?_)
  rw [app_cps, app_cps, cut_to (by omega), cut_from (by omega)]
  show (List.take k u.cps.toList ++ [c]) ++ _ = List.take k u.cps.toList ++ c :: _
  rw [List.append_assoc]
  rfl
theorem ap_rep_S {u : Str} {k c : Nat} (h : k < u.cps.toList.length) : V.str (cutS u none (some (k : Int)) ++ one1 c ++ cutS u (some ((k : Int) + 1)) none) = V.str (apS u (.rep k c)) := by
  have z := len_cps u
  refine congrArg V.str (str_of ?_)
  rw [app_cps, app_cps, cut_to (by omega), show ((k : Int) + 1) = ((k + 1 : Nat) : Int) by omega, cut_from (by omega)]
  show (List.take k u.cps.toList ++ [c]) ++ _ = List.take k u.cps.toList ++ c :: _
  rw [List.append_assoc]
  rfl
theorem cut1_len (u : Str) (x x2 : Option Int) (h : u.length ≤ 1000) {c : Nat} : (cutS u x x2).length + (one1 c).length ≤ 100000 := by
  have h1 := cutS_len u x x2
  show _ + 1 ≤ 100000
  omega
theorem cut3_len (u : Str) (y y2 : Option Int) (h : u.length ≤ 1000) {x x2 : Option Int} {c : Nat} : (cutS u x x2 ++ one1 c).length + (cutS u y y2).length ≤ 100000 := by
  have h1 := cutS_len u x x2
  have h2 := cutS_len u y y2
  rw [app_len]
  show (_ + 1) + _ ≤ 100000
  omega
theorem rv_leS {H : Hp} {u v : Str} {b : Bool} (h : (!decide (v.cps.toList < u.cps.toList)) = b) : RV (fun x y H Q => ∃ i j, x = .str i ∧ y = .str j ∧ Q (.bl (!decide (j.cps.toList < i.cps.toList))) H) (.str u) (.str v) H (.bl b) := fun H1 _ _ q => ⟨_, _, rfl, rfl, by rw [h]; exact q H1 (Ex.refl H1)⟩
/-- changes in a row -/
theorem run_at {u : Str} {cs : List Ch} {b : Str} : Run u.cps.toList cs b.cps.toList → ∀ k, k ≤ cs.length → ∃ w : Str, Run w.cps.toList (cs.drop k) b.cps.toList ∧ w.length ≤ u.length + k ∧ (k = 0 → w = u) := fun h k => by
  induction k with
  | zero => exact fun _ => ⟨u, h, Nat.le_refl _, fun _ => rfl⟩
  | succ k ih =>
    intro hk
    obtain ⟨w, hw, zw, _⟩ := ih (by omega)
    rw [List.drop_eq_getElem_cons (show k < cs.length by omega)] at hw
    refine ⟨apS w cs[k], ?_, ?_, fun z => by omega⟩
    · rw [apS_cps]
      exact hw.2
    · have := ap_len hw.1
      rw [← len_cps, apS_cps]
      rw [len_cps] at this
      omega
theorem ApAt.back {a b : Str} {H H1 H2 : Hp} {t : Addr} (e : Ex H H1) (h : ApAt a b H1 H2 t) : ApAt a b H H2 t := by
  obtain ⟨D, p, cs, rs, h1, ⟨hD, n1, n2⟩, h2, h3, h4, h5, ok⟩ := h
  exact ⟨D, p, cs, rs, h1, ⟨fresh_back e hD, n1, n2⟩, h2, h3, h4, h5, ok.back e⟩
theorem dst_up {a b : Str} {i j : Nat} (h : 0 < i) : dst a b i j ≤ dst a b (i - 1) j + 1 := by
  cases i with
  | zero => omega
  | succ i =>
    rw [Nat.add_sub_cancel]
    cases j with
    | zero => rw [dst_i0, dst_i0]; omega
    | succ j => rw [dst_ss]; exact Int.le_trans (Int.min_le_left _ _) (Int.min_le_left _ _)
theorem dst_lf {a b : Str} {i j : Nat} (h : 0 < j) : dst a b i j ≤ dst a b i (j - 1) + 1 := by
  cases j with
  | zero => omega
  | succ j =>
    rw [Nat.add_sub_cancel]
    cases i with
    | zero => rw [dst_0, dst_0]; omega
    | succ i => rw [dst_ss]; exact Int.le_trans (Int.min_le_left _ _) (Int.min_le_right _ _)
theorem dst_dg {a b : Str} {i j : Nat} (hi : 0 < i) (hj : 0 < j) : dst a b i j ≤ dst a b (i - 1) (j - 1) + cost a b (i - 1) (j - 1) := by
  cases i with
  | zero => omega
  | succ i =>
    cases j with
    | zero => omega
    | succ j =>
      rw [Nat.add_sub_cancel, Nat.add_sub_cancel, dst_ss]
      exact Int.min_le_right _ _
theorem given_none (n : Nat) (v : Nat → V) : given n (fun _ => false) v = [] := by
  unfold given
  simp
/-- rows behind which a 7 was put, the first i of them -/
def TabN (H : Hp) (p : Addr) (rs : List (Addr × List Int)) (i : Nat) : Prop := H p = some (.lst (rs.map fun r => V.ref r.1)) ∧ ∀ k r, rs[k]? = some r → H r.1 = some (.lst ((if k < i then r.2 ++ [7] else r.2).map V.int))
theorem TabN.zero {H : Hp} {p : Addr} {rs : List (Addr × List Int)} (h : TabAt H p rs) : TabN H p rs 0 := ⟨h.1, fun k r hk => by rw [if_neg (by omega)]; exact h.2 r (List.mem_of_getElem? hk)⟩
theorem TabN.later {H H' : Hp} {p : Addr} {rs : List (Addr × List Int)} {i : Nat} (h : TabN H p rs i) (e : Ex H H') : TabN H' p rs i := ⟨e _ _ h.1, fun k r hk => e _ _ (h.2 k r hk)⟩
theorem TabN.step {H : Hp} {p : Addr} {rs : List (Addr × List Int)} {i : Nat} {r : Addr × List Int} (h : TabN H p rs i) (hr : rs[i]? = some r) (nd : (rs.map (·.1)).Nodup) (hp : r.1 ≠ p) : TabN (upd H r.1 (.lst (r.2.map V.int ++ [V.int 7]))) p rs (i + 1) := by
  refine ⟨(upd_ne (Ne.symm hp)).trans h.1, fun k s hk => ?_⟩
  by_cases e : k = i
  · subst e
    rw [hr] at hk
    obtain rfl := Option.some.inj hk
    rw [upd_same, if_pos (by omega), List.map_append]
    rfl
  · have ne : s.1 ≠ r.1 := fun z => by
      obtain ⟨l1, g1⟩ := List.getElem?_eq_some_iff.mp hk
      obtain ⟨l2, g2⟩ := List.getElem?_eq_some_iff.mp hr
      refine e ((List.getElem_inj (h₀ := by rw [List.length_map]; exact l1) (h₁ := by rw [List.length_map]; exact l2) nd).mp ?_)
      rw [List.getElem_map, List.getElem_map, g1, g2]
      exact z
    rw [upd_ne ne, h.2 k s hk]
    by_cases lt : k < i
    · rw [if_pos lt, if_pos (by omega)]
    · rw [if_neg lt, if_neg (by omega)]
section
variable {K : PySem.W.Frag} {σ : L2.St} {H : Hp} {D : Ends} {tz : TS} {ta te : TE} {t : TT}
theorem q_ifAsgX {b : Bool} {i : Nat} {R : V → Hp → Prop} (h : EvT t σ H b) (h1 : b = true → ∀ H1, Ex H H1 → EvX te σ H1 R) (h2 : b = false → ∀ H1, Ex H H1 → ∃ v, σ.set i (some v) = σ ∧ R v H1) (k : ∀ v H1, Ex H H1 → R v H1 → tz D (σ.set i (some v)) H1) : tSeq (tIfS t (tAsg te (gName i)) tNext) tz D σ H :=
  q_when h (fun hb H1 e1 => s_asgX (D := { D with nx := tz D }) (h1 hb H1 e1) fun v H2 e2 r => k v H2 (e1.trans e2) r) (fun hb H1 e1 => by
    obtain ⟨v, hv, r⟩ := h2 hb H1 e1
    rw [← hv]
    exact k v H1 e1 r)
def RNone : V → Hp → Prop := fun v H' => ∃ p D : Addr, v = .ref p ∧ H' p = some (.tup [.int 0, .ref D]) ∧ H' D = some (.lst [])
theorem evx_none : EvX (tTup (tCons (tC (.int 0)) (tCons (tLst tNil) tNil))) σ H RNone :=
  evx_mono (evx_tup2 (R1 := fun z _ => z = .int 0) (R2' := fun _ v H' => ∃ p : Addr, v = .ref p ∧ H' p = some (.lst [])) (evx_of ev_c) fun _ _ _ _ => evx_LL (el_lst (vs := []) ea_nil (by decide))) fun v H1 e r => by
    obtain ⟨p, v1, v2, rfl, _, hp, H2, H3, _, rfl, _, ⟨D, rfl, hD⟩, e4⟩ := r
    exact ⟨p, D, rfl, hp, e4 _ _ hD⟩
theorem evx_first2 {a : Str} (h : EvX te σ H (fun v H' => ∃ t, v = .ref t ∧ ApAt a a H H' t)) : EvX (tSl (rSlT K) te tNoPart (tPart (tC (.int 2)))) σ H RNone := fun H1 e Q q =>
  h H1 e _ fun v H2 e2 r => by
    obtain ⟨t, rfl, D, p, cs, rs, h1, _, hc, hl, _⟩ := r
    refine eo_none H2 (e.trans e2) _ fun H3 e3 => (eo_some ev_c) H3 ((e.trans e2).trans e3) _ fun H4 e4 => ⟨t, _, rfl, st_of ((e3.trans e4) _ _ h1), (by show ¬ (HT.sIx 3 0 none = 0 ∧ HT.sIx 3 3 (some 2) = 3); decide), fun p2 hp2 => ?_⟩
    have z : cs = [] := List.length_eq_zero_iff.mp (by have := hl.1; rw [dst_self] at this; omega)
    have c0 := hc.1
    rw [z] at c0
    refine q _ _ (((e2.trans e3).trans e4).trans (Ex.new hp2)) ⟨p2, D, rfl, ?_, ((e3.trans e4).trans (Ex.new hp2)) _ _ c0⟩
    rw [upd_same, dst_self]
    rfl
theorem ev_neNone {tb : TE} (ha : EvX ta σ H RNone) (hb : ∀ H1, Ex H H1 → EvX tb σ H1 RNone) : Ev (tOp (rNeD K) ta tb) σ H (.bl false) :=
  MuTri.ev_neX ha (fun _ H1 e _ => hb H1 e) fun v1 H1 v2 H2 _ r1 e2 r2 => by
    obtain ⟨p, D, rfl, hp, hD⟩ := r1
    obtain ⟨p2, D2, rfl, hp2, hD2⟩ := r2
    exact ⟨.tuple [.int 0, .list []], .tup (st_of (e2 _ _ hp)) (.cons (.int _) (.cons (.lst (sq_of (e2 _ _ hD)) .nil) .nil)), .tup (st_of hp2) (.cons (.int _) (.cons (.lst (sq_of hD2) .nil) .nil)), rfl, rfl⟩
end
end MuEd

namespace MuEd
open PySem PySem.Spec PyProof.Rows L2 Evl MuK
/-! ### how many changes lead from signs to signs -/
inductive Al : List Nat → List Nat → Nat → Prop
  | nil (n : Nat) : Al [] [] n
  | del {l m : List Nat} {n : Nat} (c : Nat) : Al l m n → Al (c :: l) m (n + 1)
  | ins {l m : List Nat} {n : Nat} (c : Nat) : Al l m n → Al l (c :: m) (n + 1)
  | same {l m : List Nat} {n : Nat} (c : Nat) : Al l m n → Al (c :: l) (c :: m) n
  | sub {l m : List Nat} {n : Nat} (c d : Nat) : Al l m n → Al (c :: l) (d :: m) (n + 1)
theorem Al.mono {l m : List Nat} {n k : Nat} (h : Al l m n) (z : n ≤ k) : Al l m k := by
  induction h generalizing k with
  | nil n => exact .nil k
  | del c h ih =>
    obtain ⟨j, rfl⟩ : ∃ j, k = j + 1 := ⟨k - 1, by omega⟩
    exact .del c (ih (by omega))
  | ins c h ih =>
    obtain ⟨j, rfl⟩ : ∃ j, k = j + 1 := ⟨k - 1, by omega⟩
    exact .ins c (ih (by omega))
  | same c h ih => exact .same c (ih z)
  | sub c d h ih =>
    obtain ⟨j, rfl⟩ : ∃ j, k = j + 1 := ⟨k - 1, by omega⟩
    exact .sub c d (ih (by omega))
theorem Al.refl : ∀ l : List Nat, Al l l 0
  | [] => .nil 0
  | c :: l => .same c (Al.refl l)
theorem Al.symm {l m : List Nat} {n : Nat} (h : Al l m n) : Al m l n := by
  induction h with
  | nil n => exact .nil n
  | del c h ih => exact .ins c ih
  | ins c h ih => exact .del c ih
  | same c h ih => exact .same c ih
  | sub c d h ih => exact .sub d c ih
theorem Al.app {l m l2 m2 : List Nat} {n k : Nat} (h : Al l m n) (g : Al l2 m2 k) : Al (l ++ l2) (m ++ m2) (n + k) := by
  induction h with
  | nil n => exact g.mono (by omega)
  | del c h ih => exact (Al.del c ih).mono (by omega)
  | ins c h ih => exact (Al.ins c ih).mono (by omega)
  | same c h ih => exact .same c ih
  | sub c d h ih => exact (Al.sub c d ih).mono (by omega)
theorem Al.rev {l m : List Nat} {n : Nat} (h : Al l m n) : Al l.reverse m.reverse n := by
  induction h with
  | nil n => exact .nil n
  | del c h ih =>
    rw [List.reverse_cons]
    have := ih.app (Al.del c (.nil 0))
    rwa [List.append_nil] at this
  | ins c h ih =>
    rw [List.reverse_cons]
    have := ih.app (Al.ins c (.nil 0))
    rwa [List.append_nil] at this
  | same c h ih =>
    rw [List.reverse_cons, List.reverse_cons]
    exact ih.app (Al.same c (.nil 0))
  | sub c d h ih =>
    rw [List.reverse_cons, List.reverse_cons]
    exact ih.app (Al.sub c d (.nil 0))
theorem Al.tri : ∀ (N : Nat) {l m o : List Nat} {n k : Nat}, l.length + m.length + o.length ≤ N → Al l m n → Al m o k → Al l o (n + k) := by
  intro N
  induction N with
  | zero =>
    intro l m o n k z h g
    obtain rfl : l = [] := List.length_eq_zero_iff.mp (by omega)
    obtain rfl : o = [] := List.length_eq_zero_iff.mp (by omega)
    exact .nil _
  | succ N ih =>
    intro l m o n k z h g
    cases g with
    | ins c g => exact (Al.ins c (ih (by simp at z; omega) h g)).mono (by omega)
    | nil k => exact h.mono (by omega)
    | del c g =>
      cases h with
      | del d h => exact (Al.del d (ih (by simp at z ⊢; omega) h (Al.del c g))).mono (by omega)
      | ins _ h => exact (ih (by simp at z; omega) h g).mono (by omega)
      | same _ h => exact (Al.del c (ih (by simp at z; omega) h g)).mono (by omega)
      | sub d _ h => exact (Al.del d (ih (by simp at z; omega) h g)).mono (by omega)
    | same c g =>
      cases h with
      | del d h => exact (Al.del d (ih (by simp at z ⊢; omega) h (Al.same c g))).mono (by omega)
      | ins _ h => exact (Al.ins c (ih (by simp at z; omega) h g)).mono (by omega)
      | same _ h => exact Al.same c (ih (by simp at z; omega) h g)
      | sub d _ h => exact (Al.sub d c (ih (by simp at z; omega) h g)).mono (by omega)
    | sub c e g =>
      cases h with
      | del d h => exact (Al.del d (ih (by simp at z ⊢; omega) h (Al.sub c e g))).mono (by omega)
      | ins _ h => exact (Al.ins e (ih (by simp at z; omega) h g)).mono (by omega)
      | same _ h => exact (Al.sub c e (ih (by simp at z; omega) h g)).mono (by omega)
      | sub d _ h => exact (Al.sub d e (ih (by simp at z; omega) h g)).mono (by omega)
theorem Al.trans {l m o : List Nat} {n k : Nat} (h : Al l m n) (g : Al m o k) : Al l o (n + k) := Al.tri _ (Nat.le_refl _) h g
theorem Al.len {l m : List Nat} {n : Nat} (h : Al l m n) : l.length ≤ m.length + n ∧ m.length ≤ l.length + n := by
  induction h with
  | nil n => exact ⟨by simp, by simp⟩
  | _ => simp only [List.length_cons]; omega
theorem Al.zero {l m : List Nat} {n : Nat} (h : Al l m n) (z : n = 0) : l = m := by
  induction h with
  | nil n => rfl
  | del c h ih => omega
  | ins c h ih => omega
  | same c h ih => rw [ih z]
  | sub c d h ih => omega
theorem Al.most : ∀ l m : List Nat, Al l m (max l.length m.length)
  | [], [] => .nil _
  | c :: l, [] => (Al.del c (Al.most l [])).mono (by simp)
  | [], d :: m => (Al.ins d (Al.most [] m)).mono (by simp)
  | c :: l, d :: m => (Al.sub c d (Al.most l m)).mono (by simp only [List.length_cons]; omega)
theorem Al.cut {c : Nat} {l m : List Nat} {n : Nat} (h : Al (c :: l) (c :: m) n) : Al l m n := by
  cases h with
  | del _ h => exact (h.trans (Al.del c (Al.refl m))).mono (by omega)
  | ins _ h => exact ((Al.ins c (Al.refl l)).trans h).mono (by omega)
  | same _ h => exact h
  | sub _ _ h => exact h.mono (by omega)
theorem Al.cuts {l m : List Nat} {n : Nat} : ∀ {s : List Nat}, Al (s ++ l) (s ++ m) n → Al l m n
  | [], h => h
  | _ :: _, h => Al.cuts (Al.cut h)
theorem Al.cutsR {s l m : List Nat} {n : Nat} (h : Al (l ++ s) (m ++ s) n) : Al l m n := by
  have := h.rev
  rw [List.reverse_append, List.reverse_append] at this
  have h2 := (Al.cuts this).rev
  rwa [List.reverse_reverse, List.reverse_reverse] at h2
/-- a change; changes in a row -/
theorem Al.change {l : List Nat} {c : Ch} (h : okC l c) : Al l (ap l c) 1 := by
  cases c with
  | out k =>
    have lt : k < l.length := h
    have e : l = l.take k ++ l[k] :: l.drop (k + 1) := by rw [← List.drop_eq_getElem_cons lt, List.take_append_drop]
    have := (Al.refl (l.take k)).app (Al.del l[k] (Al.refl (l.drop (k + 1))))
    rw [← e] at this
    exact this
  | ins k d =>
    have e : l = l.take k ++ l.drop k := (List.take_append_drop _ _).symm
    have := (Al.refl (l.take k)).app (Al.ins d (Al.refl (l.drop k)))
    rw [← e] at this
    exact this
  | rep k d =>
    have lt : k < l.length := h.1
    have e : l = l.take k ++ l[k] :: l.drop (k + 1) := by rw [← List.drop_eq_getElem_cons lt, List.take_append_drop]
    have := (Al.refl (l.take k)).app (Al.sub l[k] d (Al.refl (l.drop (k + 1))))
    rw [← e] at this
    exact this
theorem Run.al : ∀ {cs : List Ch} {l m : List Nat}, Run l cs m → Al l m cs.length
  | [], l, m, h => by
    have e : l = m := h
    subst e
    exact Al.refl l
  | c :: cs, l, m, h => by
    rw [List.length_cons, Nat.add_comm]
    exact (Al.change h.1).trans (Run.al h.2)
theorem Run.split {m : List Nat} : ∀ {cs : List Ch} {l : List Nat} (k : Nat), Run l cs m → ∃ w, Run l (cs.take k) w ∧ Run w (cs.drop k) m
  | cs, l, 0, h => ⟨l, by rw [List.take_zero]; exact rfl, by rw [List.drop_zero]; exact h⟩
  | [], l, k + 1, h => ⟨m, h, rfl⟩
  | c :: cs, l, k + 1, h => by
    obtain ⟨w, h1, h2⟩ := Run.split k h.2
    exact ⟨w, ⟨h.1, h1⟩, h2⟩
/-- the numbers of the table are these -/
def rv (u : Str) (i : Nat) : List Nat := (u.cps.toList.take i).reverse
theorem rv_succ {u : Str} {i : Nat} (h : i < u.length) : rv u (i + 1) = sg u i :: rv u i := by
  unfold rv
  rw [take_at h, List.reverse_append]
  rfl
theorem rv_0 (u : Str) : rv u 0 = [] := rfl
theorem rv_len {u : Str} {i : Nat} (h : i ≤ u.length) : (rv u i).length = i := by
  unfold rv
  rw [List.length_reverse, List.length_take, len_cps]
  omega
theorem dst_le {a b : Str} : ∀ (N i j n : Nat), i + j ≤ N → i ≤ a.length → j ≤ b.length → Al (rv a i) (rv b j) n → dst a b i j ≤ n := by
  intro N
  induction N with
  | zero =>
    intro i j n z hi hj h
    obtain rfl : i = 0 := by omega
    obtain rfl : j = 0 := by omega
    rw [dst_0]
    omega
  | succ N ih =>
    intro i j n z hi hj h
    cases i with
    | zero =>
      have := h.len.2
      rw [rv_len hj, rv_len hi] at this
      rw [dst_0]
      omega
    | succ i =>
      cases j with
      | zero =>
        have := h.len.1
        rw [rv_len hj, rv_len hi] at this
        rw [dst_i0]
        omega
      | succ j =>
        have h2 := h
        rw [rv_succ (by omega), rv_succ (by omega)] at h
        rw [dst_ss]
        generalize e1 : sg a i = x at h
        generalize e2 : sg b j = y at h
        cases h with
        | del _ g =>
          have := ih i (j + 1) _ (by omega) (by omega) (by omega) (by rw [rv_succ (u := b) (by omega), e2]; exact g)
          exact Int.le_trans (Int.min_le_left _ _) (Int.le_trans (Int.min_le_left _ _) (by omega))
        | ins _ g =>
          have := ih (i + 1) j _ (by omega) (by omega) (by omega) (by rw [rv_succ (u := a) (by omega), e1]; exact g)
          exact Int.le_trans (Int.min_le_left _ _) (Int.le_trans (Int.min_le_right _ _) (by omega))
        | same _ g =>
          have := ih i j _ (by omega) (by omega) (by omega) g
          have c0 : cost a b i j = 0 := if_pos (e1.trans e2.symm)
          exact Int.le_trans (Int.min_le_right _ _) (by omega)
        | sub _ _ g =>
          have := ih i j _ (by omega) (by omega) (by omega) g
          have c0 := (cost_01 a b i j).2
          exact Int.le_trans (Int.min_le_right _ _) (by omega)
theorem dst_al {a b : Str} : ∀ (N i j : Nat), i + j ≤ N → i ≤ a.length → j ≤ b.length → ∃ n : Nat, dst a b i j = (n : Int) ∧ Al (rv a i) (rv b j) n := by
  intro N
  induction N with
  | zero =>
    intro i j z hi hj
    obtain rfl : i = 0 := by omega
    obtain rfl : j = 0 := by omega
    exact ⟨0, dst_0 a b 0, .nil 0⟩
  | succ N ih =>
    intro i j z hi hj
    cases i with
    | zero =>
      refine ⟨j, dst_0 a b j, ?_⟩
      have := Al.most (rv a 0) (rv b j)
      rw [rv_len hi, rv_len hj] at this
      exact this.mono (by omega)
    | succ i =>
      cases j with
      | zero =>
        refine ⟨i + 1, dst_i0 a b (i + 1), ?_⟩
        have := Al.most (rv a (i + 1)) (rv b 0)
        rw [rv_len hi, rv_len hj] at this
        exact this.mono (by omega)
      | succ j =>
        obtain ⟨x, hx, gx⟩ := ih i (j + 1) (by omega) (by omega) (by omega)
        obtain ⟨y, hy, gy⟩ := ih (i + 1) j (by omega) (by omega) (by omega)
        obtain ⟨w, hw, gw⟩ := ih i j (by omega) (by omega) (by omega)
        have m := min3_mem (dst a b i (j + 1) + 1) (dst a b (i + 1) j + 1) (dst a b i j + cost a b i j)
        rw [← dst_ss] at m
        rcases List.mem_cons.mp m with e | m
        · refine ⟨x + 1, by omega, ?_⟩
          rw [rv_succ (u := a) (by omega)]
          exact .del _ gx
        rcases List.mem_cons.mp m with e | m
        · refine ⟨y + 1, by omega, ?_⟩
          rw [rv_succ (u := b) (by omega)]
          exact .ins _ gy
        · have e := List.mem_singleton.mp m
          by_cases q : sg a i = sg b j
          · have c0 : cost a b i j = 0 := if_pos q
            refine ⟨w, by omega, ?_⟩
            rw [rv_succ (by omega), rv_succ (by omega), q]
            exact .same _ gw
          · have c0 : cost a b i j = 1 := if_neg q
            refine ⟨w + 1, by omega, ?_⟩
            rw [rv_succ (by omega), rv_succ (by omega)]
            exact .sub _ _ gw
/-- how far -/
def far (a b : Str) : Int := dst a b a.length b.length
theorem rv_all (u : Str) : (rv u u.length).reverse = u.cps.toList := by
  unfold rv
  rw [List.reverse_reverse, ← len_cps, List.take_length]
theorem far_le {a b : Str} {n : Nat} (h : Al a.cps.toList b.cps.toList n) : far a b ≤ n := by
  refine dst_le _ _ _ n (Nat.le_refl _) (Nat.le_refl _) (Nat.le_refl _) ?_
  have := h.rev
  rw [← rv_all a, ← rv_all b, List.reverse_reverse, List.reverse_reverse] at this
  exact this
theorem far_al (a b : Str) : ∃ n : Nat, far a b = (n : Int) ∧ Al a.cps.toList b.cps.toList n := by
  obtain ⟨n, h, g⟩ := dst_al (a := a) (b := b) _ a.length b.length (Nat.le_refl _) (Nat.le_refl _) (Nat.le_refl _)
  have := g.rev
  rw [rv_all, rv_all] at this
  exact ⟨n, h, this⟩
theorem far_tri (a b c : Str) : far a c ≤ far a b + far b c := by
  obtain ⟨n, h1, g1⟩ := far_al a b
  obtain ⟨k, h2, g2⟩ := far_al b c
  have := far_le (g1.trans g2)
  omega
theorem far_zero {a b : Str} : far a b = 0 ↔ a = b := by
  constructor
  · intro z
    obtain ⟨n, h, g⟩ := far_al a b
    exact str_ext (g.zero (by omega))
  · intro e
    subst e
    have := far_le (Al.refl a.cps.toList)
    obtain ⟨n, h, _⟩ := far_al a a
    omega
theorem far_len (a b : Str) : (a.length : Int) - b.length ≤ far a b ∧ (b.length : Int) - a.length ≤ far a b ∧ far a b ≤ max (a.length : Int) b.length := by
  obtain ⟨n, h, g⟩ := far_al a b
  have z := g.len
  have m := far_le (Al.most a.cps.toList b.cps.toList)
  rw [len_cps, len_cps] at z m
  refine ⟨by omega, by omega, ?_⟩
  rw [h] at m ⊢
  omega
theorem far_pre (s a b : Str) : far (s ++ a) (s ++ b) = far a b := by
  obtain ⟨n, h, g⟩ := far_al a b
  obtain ⟨k, h2, g2⟩ := far_al (s ++ a) (s ++ b)
  rw [app_cps, app_cps] at g2
  have u1 := far_le (Al.cuts g2)
  have u2 : far (s ++ a) (s ++ b) ≤ ((0 + n : Nat) : Int) := far_le (by rw [app_cps, app_cps]; exact (Al.refl _).app g)
  omega
theorem far_suf (s a b : Str) : far (a ++ s) (b ++ s) = far a b := by
  obtain ⟨n, h, g⟩ := far_al a b
  obtain ⟨k, h2, g2⟩ := far_al (a ++ s) (b ++ s)
  rw [app_cps, app_cps] at g2
  have u1 := far_le (Al.cutsR g2)
  have u2 : far (a ++ s) (b ++ s) ≤ ((n + 0 : Nat) : Int) := far_le (by rw [app_cps, app_cps]; exact g.app (Al.refl _))
  omega
theorem far_run {a b : Str} {cs : List Ch} (h : Run a.cps.toList cs b.cps.toList) : far a b ≤ cs.length := far_le h.al
/-- half of the way -/
theorem far_half {a b w : Str} {cs : List Ch} {k : Nat} (hl : (cs.length : Int) = far a b) (hk : k ≤ cs.length) (h1 : Run a.cps.toList (cs.take k) w.cps.toList) (h2 : Run w.cps.toList (cs.drop k) b.cps.toList) : far a w = k ∧ far w b = far a b - k := by
  have u1 := far_run h1
  have u2 := far_run h2
  have u3 := far_tri a w b
  rw [List.length_take] at u1
  rw [List.length_drop] at u2
  omega
end MuEd

namespace MuEd
open PySem PySem.Spec PyProof.Rows L2 Evl MuK
section
variable {K : PySem.W.Frag} {σ : L2.St} {H : Hp} {D : Ends} {tz : TS} {ta tb te : TE} {R : V → Hp → Prop}
theorem q_unp3X {i j k : Nat} (h : EvX te σ H R) (q : ∀ v H1, Ex H H1 → R v H1 → ∃ (p : Addr) (x y z : V), v = .ref p ∧ SqT K H1 p [x, y, z] ∧ tz D (((σ.set i (some x)).set j (some y)).set k (some z)) H1) : tSeq (tAsg te (gTup K 3 (gCons (gName i) (gCons (gName j) (gCons (gName k) gNil))))) tz D σ H :=
  h H (Ex.refl H) _ fun v H1 e r => by
    obtain ⟨p, x, y, z, rfl, hp, q⟩ := q v H1 e r
    exact ⟨p, [x, y, z], rfl, hp, rfl, x, [y, z], rfl, y, [z], rfl, z, [], rfl, rfl, q⟩
theorem rv_neBB {a b : Bool} (h : a = b) : RV rNe (.bl a) (.bl b) H (.bl false) := fun H1 e Q q => by
  subst h
  have := rv_ne (x := .bl a) (y := .bl a) (H := H) rfl H1 e Q
  rw [decide_eq_true rfl] at this
  exact this q
theorem rc_absN {i : Int} : RC (fun xs H Q => ∃ i, xs = [.int i] ∧ Q (.int (if i < 0 then -i else i)) H) [.int i] H (.int (if i < 0 then -i else i)) := fun H1 _ Q q => ⟨i, rfl, q H1 (Ex.refl H1)⟩
end
theorem cut_take {xs : List V} {k : Nat} (h : k ≤ xs.length) : cutV xs none (some (k : Int)) = xs.take k := by
  show (xs.drop (HT.sIx xs.length 0 none)).take (HT.sIx xs.length xs.length (some (k : Int)) - HT.sIx xs.length 0 none) = _
  rw [HT.sIx_none, HT.sIx_nat, List.drop_zero, Nat.min_eq_left h, Nat.sub_zero]
theorem ChAt.cut {H : Hp} {D p : Addr} {cs : List (Addr × Ch)} {k : Nat} (h : ChAt H D cs) (hk : k ≤ cs.length) (hp : H p = some (.lst (cutV (cs.map fun c => V.ref c.1) none (some (k : Int))))) : ChAt H p (cs.take k) := by
  rw [cut_take (by rw [List.length_map]; exact hk), ← List.map_take] at hp
  exact ⟨hp, fun c m => h.2 c (List.mem_of_mem_take m)⟩
theorem str_mk (l : List Nat) : (⟨l.toArray⟩ : Str).cps.toList = l := rfl
theorem run_str {a b : Str} {cs : List Ch} {k : Nat} (h : Run a.cps.toList cs b.cps.toList) : ∃ w : Str, Run a.cps.toList (cs.take k) w.cps.toList ∧ Run w.cps.toList (cs.drop k) b.cps.toList := by
  obtain ⟨w, h1, h2⟩ := Run.split k h
  exact ⟨⟨w.toArray⟩, h1, h2⟩
theorem ap_ok {l : List Nat} {c : Ch} (h : okC l c) (hl : ∀ x ∈ l, Sgn x) : ∀ x ∈ ap l c, Sgn x := by
  cases c with
  | out k =>
    intro x m
    rcases List.mem_append.mp m with m | m
    · exact hl x (List.mem_of_mem_take m)
    · exact hl x (List.mem_of_mem_drop m)
  | ins k d =>
    intro x m
    rcases List.mem_append.mp m with m | m
    · exact hl x (List.mem_of_mem_take m)
    · rcases List.mem_cons.mp m with rfl | m
      · exact h.2
      · exact hl x (List.mem_of_mem_drop m)
  | rep k d =>
    intro x m
    rcases List.mem_append.mp m with m | m
    · exact hl x (List.mem_of_mem_take m)
    · rcases List.mem_cons.mp m with rfl | m
      · exact h.2
      · exact hl x (List.mem_of_mem_drop m)
theorem Run.ok : ∀ {cs : List Ch} {l m : List Nat}, Run l cs m → (∀ x ∈ l, Sgn x) → (∀ x ∈ m, Sgn x) ∧ m.length ≤ l.length + cs.length
  | [], l, m, h, hl => by
    have e : l = m := h
    subst e
    exact ⟨hl, by simp⟩
  | c :: cs, l, m, h, hl => by
    obtain ⟨a, b⟩ := Run.ok h.2 (ap_ok h.1 hl)
    have := ap_len h.1
    exact ⟨a, by rw [List.length_cons]; omega⟩
section
variable {K : PySem.W.Frag} {σ : L2.St} {H : Hp} {D : Ends} {tz : TS} {ta tb te ti t1 t2 t3 : TE} {R : V → Hp → Prop}
theorem q_appX {l : Addr} {xs : List V} (hl : H l = some (.lst xs)) (ha : Ev ta σ H (.ref l)) (h : EvX te σ H R) (hz : xs.length < 100000) (k : ∀ v H1, Ex H H1 → R v H1 → tz D σ (upd H1 l (.lst (xs ++ [v])))) : tSeq (tDrop (tBM K "list" rAppend ta (tCons te tNil))) tz D σ H :=
  s_appX (D := { D with nx := tz D }) hl ha h hz k
theorem evx_pick3 {x1 x2 x3 : List V} {w : Int} (h1 : EvU t1 σ H x1) (h2 : EvU t2 σ H x2) (h3 : EvU t3 σ H x3) (hi : Ev ti σ H (.int w)) (h0 : 0 ≤ w) (h9 : w ≤ 2) : EvX (tOp (rIxL K) (tLst (tCons t1 (tCons t2 (tCons t3 tNil)))) ti) σ H (fun v H' => ∃ t : Addr, v = .ref t ∧ H' t = some (.tup (if w = 0 then x1 else if w = 1 then x2 else x3))) := fun H0 e Q q =>
  h1 H0 e _ fun p1 H1 _ e1 g1 => h2 H1 (e.trans e1) _ fun p2 H2 _ e2 g2 => h3 H2 ((e.trans e1).trans e2) _ fun p3 H3 _ e3 g3 => ⟨sz_of (by simp), fun l hl => hi _ ((((e.trans e1).trans e2).trans e3).trans (Ex.new hl)) _ fun H4 e4 => by
    have e34 := (Ex.new (o := .lst [.ref p1, .ref p2, .ref p3]) hl).trans e4
    have hl4 : H4 l = some (.lst [.ref p1, .ref p2, .ref p3]) := e4 _ _ upd_same
    have go : ∀ (p : Addr) (xs : List V) (j : Nat), w = (j : Int) → [V.ref p1, .ref p2, .ref p3][j]? = some (.ref p) → H4 p = some (.tup xs) → xs = (if w = 0 then x1 else if w = 1 then x2 else x3) → rIxL K (.ref l) (.int w) H4 Q := fun p xs j hj hat hp hx => by
      subst hj
      exact rv_ixL (sq_of hl4) (atI_nat hat) H4 (Ex.refl _) Q fun H5 e5 => q _ _ ((((e1.trans e2).trans e3).trans e34).trans e5) ⟨p, rfl, by rw [← hx]; exact e5 _ _ hp⟩
    by_cases c0 : w = 0
    · exact go p1 x1 0 (by omega) rfl (((e2.trans e3).trans e34) _ _ g1) (by rw [if_pos c0])
    · by_cases c1 : w = 1
      · exact go p2 x2 1 (by omega) rfl ((e3.trans e34) _ _ g2) (by rw [if_neg c0, if_pos c1])
      · exact go p3 x3 2 (by omega) rfl (e34 _ _ g3) (by rw [if_neg c0, if_neg c1])⟩
theorem evx_lcCh {ta : TA} {j : Nat} {vs : List Nat} {N : Nat} (f : Nat → Nat) (h : EvA ta σ H [.int (N : Int)]) (hN : N ≤ 200) (hw : ∀ x, wipe ((wipe σ vs).set j (some x)) vs = wipe σ vs)
    (he : ∀ (i : Nat) H1, Ex H H1 → i < N → EvU te ((wipe σ vs).set j (some (.int (i : Int)))) H1 [.str "in", .int (i : Int), .str (one1 (f i))]) :
    EvX (tLc (iRng1 ta) (gName j) tYes te vs) σ H (fun v H' => ∃ (D : Addr) (cs : List (Addr × Ch)), v = .ref D ∧ ChAt H' D cs ∧ cs.map (·.2) = (List.range N).map fun k => Ch.ins k (f k)) := fun H0 e Q q => h H0 e _ fun H1 e1 => ⟨(N : Int), rfl, by omega, by omega, fun Dl hD =>
  lc_range (lo := 0) (n := (N : Int).toNat) (fun i H' => H1 Dl = none ∧ Ex H1 H' ∧ ∃ cs : List (Addr × Ch), ChAt H' Dl cs ∧ cs.map (·.2) = (List.range i).map fun k => Ch.ins k (f k)) ⟨hD, Ex.new hD, [], ⟨upd_same, fun _ m => nomatch m⟩, rfl⟩ (fun i H' hi p => by
    have e0 : (0 : Int) + (i : Int) = (i : Int) := Int.zero_add _
    show wipe ((wipe σ vs).set j (some (.int ((0 : Int) + (i : Int))))) vs = wipe σ vs ∧ _
    rw [e0]
    refine ⟨hw _, MuLc.yes_go ?_⟩
    obtain ⟨p1, p2, cs, hc, hm⟩ := p
    have zc : cs.length = i := by
      have := congrArg List.length hm
      simpa using this
    refine he i H' ((e.trans e1).trans p2) (by omega) H' (Ex.refl _) _ fun t H4 _ e4 h4 => ⟨_, (hc.later e4).1, sz_lt (by rw [List.length_map]; omega), p1, Ex.mut (p2.trans e4) p1, cs ++ [(t, .ins i (f i))], ChAt.snoc (c := .ins i (f i)) (hc.later e4) h4, ?_⟩
    rw [List.map_append, hm, List.range_succ, List.map_append]
    rfl)
    (fun H' p => by
      obtain ⟨p1, p2, cs, hc, hm⟩ := p
      exact q _ _ (e1.trans p2) ⟨Dl, cs, rfl, hc, hm⟩)⟩
end
theorem run_ins {l : List Nat} (f : Nat → Nat) (hf : ∀ k, Sgn (f k)) : ∀ N, ∃ w : Str, Run l ((List.range N).map fun k => Ch.ins k (f k)) w.cps.toList ∧ w.length = l.length + N
  | 0 => ⟨⟨l.toArray⟩, rfl, by show l.toArray.size = _; simp⟩
  | N + 1 => by
    obtain ⟨w, h, z⟩ := run_ins f hf N
    have ok : okC w.cps.toList (.ins N (f N)) := ⟨by rw [len_cps]; omega, hf N⟩
    refine ⟨apS w (.ins N (f N)), ?_, ?_⟩
    · rw [apS_cps, List.range_succ, List.map_append]
      exact h.snoc ok
    · have e : (apS w (.ins N (f N))).length = (ap w.cps.toList (.ins N (f N))).length := by rw [← apS_cps, len_cps]
      rw [e]
      show (List.take N w.cps.toList ++ f N :: List.drop N w.cps.toList).length = _
      rw [List.length_append, List.length_cons, List.length_take, List.length_drop, len_cps]
      omega
theorem ap_out_len {l : List Nat} {k : Nat} (h : k < l.length) : ((ap l (.out k)).length : Int) = (l.length : Int) + -1 := by
  show ((List.take k l ++ List.drop (k + 1) l).length : Int) = _
  rw [List.length_append, List.length_take, List.length_drop]
  omega
theorem ap_ins_len {l : List Nat} {k c : Nat} (h : k ≤ l.length) : ((ap l (.ins k c)).length : Int) = (l.length : Int) + 1 := by
  show ((List.take k l ++ c :: List.drop k l).length : Int) = _
  rw [List.length_append, List.length_cons, List.length_take, List.length_drop]
  omega
theorem ap_rep_len {l : List Nat} {k c : Nat} (h : k < l.length) : ((ap l (.rep k c)).length : Int) = (l.length : Int) + 0 := by
  show ((List.take k l ++ c :: List.drop (k + 1) l).length : Int) = _
  rw [List.length_append, List.length_cons, List.length_take, List.length_drop]
  omega
theorem near4_sgn : ∀ c ∈ near4.cps.toList, 32 ≤ c ∧ c ≤ 126 := by decide +kernel
/-- which change a turn makes -/
theorem pick_ch {l : List Nat} {wy : Int} {k c : Nat} (h0 : 0 ≤ wy) (h9 : wy ≤ 2) (hc : Sgn c) (hk : (k : Int) < (l.length : Int) + (if wy = 0 then 1 else 0)) :
    ∃ ch : Ch, okC l ch ∧ (∀ (H : Hp) (t : Addr), H t = some (.tup (if wy = 0 then [.str "in", .int (k : Int), .str (one1 c)] else if wy = 1 then [.str "out", .int (k : Int)] else [.str "for", .int (k : Int), .str (one1 c)])) → ch.at_ H t) ∧
      ∃ d : Int, atI [V.int 1, .int (-1), .int 0] wy = some (.int d) ∧ ((ap l ch).length : Int) = (l.length : Int) + d := by
  by_cases c0 : wy = 0
  · subst c0
    rw [if_pos rfl] at hk
    exact ⟨.ins k c, ⟨by omega, hc⟩, fun H t h => by rw [if_pos rfl] at h; exact h, 1, rfl, ap_ins_len (by omega)⟩
  · rw [if_neg c0] at hk
    by_cases c1 : wy = 1
    · subst c1
      exact ⟨.out k, show k < l.length by omega, fun H t h => by rw [if_neg (by decide), if_pos rfl] at h; exact h, -1, rfl, ap_out_len (by omega)⟩
    · obtain rfl : wy = 2 := by omega
      exact ⟨.rep k c, ⟨by omega, hc⟩, fun H t h => by rw [if_neg (by decide), if_neg (by decide)] at h; exact h, 0, rfl, ap_rep_len (by omega)⟩
theorem cut_any (u : Str) (n : Nat) : (cutS u none (some (n : Int))).cps.toList = u.cps.toList.take n := by
  show (((u.cps.toList.drop (HT.sIx u.length 0 none)).take (HT.sIx u.length u.length (some (n : Int)) - HT.sIx u.length 0 none)).toArray).toList = _
  rw [HT.sIx_none, HT.sIx_nat, List.drop_zero, Nat.sub_zero]
  by_cases h : n ≤ u.length
  · rw [Nat.min_eq_left h]
  · rw [Nat.min_eq_right (by omega), List.take_of_length_le (by rw [len_cps]; omega), List.take_of_length_le (by rw [len_cps]; omega)]
theorem cut_any_len (u : Str) (n : Nat) : (cutS u none (some (n : Int))).length ≤ n := by
  have := cut_any u n
  rw [← len_cps, this, List.length_take]
  omega
theorem far_cut (w : Str) (n : Nat) : far w (cutS w none (some (n : Int))) ≤ max 0 ((w.length : Int) - n) := by
  have e : w.cps.toList = w.cps.toList.take n ++ w.cps.toList.drop n := (List.take_append_drop _ _).symm
  have g := (Al.refl (w.cps.toList.take n)).app (Al.most (w.cps.toList.drop n) [])
  rw [← e, List.append_nil] at g
  have := far_le (a := w) (b := cutS w none (some (n : Int))) (by rw [cut_any]; exact g)
  rw [List.length_drop, len_cps] at this
  simp at this
  omega
abbrev RTx28 : V → Hp → Prop := fun v _ => ∃ u, v = .str u ∧ TxOk u ∧ u.length ≤ 28
section
variable {K : PySem.W.Frag} {σ : L2.St} {H : Hp} {ta tb te ti t1 t2 t3 : TE} {R : V → Hp → Prop}
theorem evx_cut28 (h : EvX te σ H (fun v _ => ∃ u, v = .str u ∧ TxOk u)) : EvX (tSl rSlS te tNoPart (tPart (tC (.int 28)))) σ H RTx28 := fun H1 e Q q =>
  h H1 e _ fun v H2 e2 r => by
    obtain ⟨u, rfl, ok⟩ := r
    have z := ok.1
    exact eo_none H2 (e.trans e2) _ fun H3 e3 => (eo_some (ev_c (v := .int 28))) H3 ((e.trans e2).trans e3) _ fun H4 e4 => ⟨u, rfl, sz_of (by omega), q _ H4 ((e2.trans e3).trans e4) ⟨_, rfl, ⟨by have := cut_any_len u 28; show (cutS u none (some ((28 : Nat) : Int))).length ≤ 160; omega, all_cut ok.2 _ _⟩, cut_any_len u 28⟩⟩
theorem evx_lst1 (h : EvX te σ H R) : EvX (tLst (tCons te tNil)) σ H (fun v H' => ∃ (p : Addr) (x : V) (H2 : Hp), v = .ref p ∧ H p = none ∧ H' p = some (.lst [x]) ∧ R x H2) := fun H1 e Q q =>
  h H1 e _ fun v H2 e2 r => ⟨sz_of (by simp), fun p hp => q _ _ (e2.trans (Ex.new hp)) ⟨p, v, H2, rfl, fresh_back (e.trans e2) hp, upd_same, r⟩⟩
theorem evx_lst3U {x1 x2 x3 : List V} (h1 : EvU t1 σ H x1) (h2 : EvU t2 σ H x2) (h3 : EvU t3 σ H x3) : EvX (tLst (tCons t1 (tCons t2 (tCons t3 tNil)))) σ H (fun v H' => ∃ l p1 p2 p3 : Addr, v = .ref l ∧ H' l = some (.lst [.ref p1, .ref p2, .ref p3]) ∧ H' p1 = some (.tup x1) ∧ H' p2 = some (.tup x2) ∧ H' p3 = some (.tup x3)) := fun H0 e Q q =>
  h1 H0 e _ fun p1 H1 _ e1 g1 => h2 H1 (e.trans e1) _ fun p2 H2 _ e2 g2 => h3 H2 ((e.trans e1).trans e2) _ fun p3 H3 _ e3 g3 => ⟨sz_of (by simp), fun l hl => q _ _ (((e1.trans e2).trans e3).trans (Ex.new hl)) ⟨l, p1, p2, p3, rfl, upd_same, ((e2.trans e3).trans (Ex.new hl)) _ _ g1, (e3.trans (Ex.new hl)) _ _ g2, (Ex.new hl) _ _ g3⟩⟩
end
end MuEd

namespace MuEd
open PySem PySem.Spec PyProof.Rows L2 Evl MuK
/-! ### pieces in common -/
def gr (q : Nat) (l : List Nat) : List (List Nat) := (List.range (l.length + 1 - q)).map fun i => (l.drop i).take q
theorem gr_len (q : Nat) (l : List Nat) : (gr q l).length = l.length + 1 - q := by simp [gr]
theorem range_two (m : Nat) : ∀ n, List.range (m + n) = List.range m ++ (List.range n).map (m + ·)
  | 0 => by simp
  | n + 1 => by rw [← Nat.add_assoc, List.range_succ, range_two m n, List.range_succ, List.map_append, List.append_assoc]; rfl
theorem gr_two {q : Nat} (hq : 1 ≤ q) (x z : List Nat) : ∃ mid, gr q (x ++ z) = gr q x ++ mid ++ gr q z := by
  have front : ∀ i, i < x.length + 1 - q → ((x ++ z).drop i).take q = (x.drop i).take q := fun i h => by
    rw [List.drop_append_of_le_length (by omega), List.take_append_of_le_length (by rw [List.length_drop]; omega)]
  have back : ∀ i, ((x ++ z).drop (x.length + i)).take q = (z.drop i).take q := fun i => by
    rw [← List.drop_drop, List.drop_left]
  have e1 : ∀ f : Nat → List Nat, (∀ i, i < x.length + 1 - q → f i = (x.drop i).take q) → (List.range (x.length + 1 - q)).map f = gr q x := fun f h => List.map_congr_left fun i m => h i (List.mem_range.mp m)
  by_cases h : q ≤ z.length
  · refine ⟨((List.range (x.length - (x.length + 1 - q))).map ((x.length + 1 - q) + ·)).map fun i => ((x ++ z).drop i).take q, ?_⟩
    have n1 : (x ++ z).length + 1 - q = x.length + (z.length + 1 - q) := by rw [List.length_append]; omega
    have n2 : x.length = (x.length + 1 - q) + (x.length - (x.length + 1 - q)) := by omega
    unfold gr
    rw [n1, range_two, List.map_append, n2, range_two, List.map_append, ← n2, e1 _ front, List.map_map (l := List.range (z.length + 1 - q))]
    congr 1
    exact List.map_congr_left fun i _ => back i
  · refine ⟨((List.range ((x ++ z).length + 1 - q - (x.length + 1 - q))).map ((x.length + 1 - q) + ·)).map fun i => ((x ++ z).drop i).take q, ?_⟩
    have n1 : (x ++ z).length + 1 - q = (x.length + 1 - q) + ((x ++ z).length + 1 - q - (x.length + 1 - q)) := by rw [List.length_append]; omega
    have z0 : gr q z = [] := by
      unfold gr
      rw [show z.length + 1 - q = 0 by omega]
      rfl
    rw [z0, List.append_nil]
    conv => lhs; unfold gr
    rw [n1, range_two, List.map_append, ← n1, e1 _ front]
/-- what a bag lacks of another, by the keys ks -/
def lackB (ks : List (List Nat)) (xs ys : List (List Nat)) : Nat := (ks.map fun u => xs.count u - ys.count u).sum
theorem sum_mono {ks : List (List Nat)} {f g : List Nat → Nat} (h : ∀ u ∈ ks, f u ≤ g u) : (ks.map f).sum ≤ (ks.map g).sum := by
  induction ks with
  | nil => exact Nat.le_refl _
  | cons a r ih =>
    rw [List.map_cons, List.map_cons, List.sum_cons, List.sum_cons]
    exact Nat.add_le_add (h a List.mem_cons_self) (ih fun u m => h u (List.mem_cons_of_mem _ m))
theorem sum_plus {ks : List (List Nat)} (f g : List Nat → Nat) : (ks.map fun u => f u + g u).sum = (ks.map f).sum + (ks.map g).sum := by
  induction ks with
  | nil => rfl
  | cons a r ih =>
    rw [List.map_cons, List.map_cons, List.map_cons, List.sum_cons, List.sum_cons, List.sum_cons, ih]
    omega
theorem lack_tri (ks xs ys zs : List (List Nat)) : lackB ks xs zs ≤ lackB ks xs ys + lackB ks ys zs := by
  unfold lackB
  rw [← sum_plus]
  exact sum_mono fun u _ => by omega
theorem sum_0 : ∀ ks : List (List Nat), (ks.map fun _ => (0 : Nat)).sum = 0
  | [] => rfl
  | a :: r => by rw [List.map_cons, List.sum_cons, sum_0 r]
theorem count_sum {ks : List (List Nat)} (nd : ks.Nodup) : ∀ xs : List (List Nat), (ks.map fun u => xs.count u).sum ≤ xs.length
  | [] => by
    have : (ks.map fun u => ([] : List (List Nat)).count u).sum ≤ (ks.map fun _ => 0).sum := sum_mono fun u _ => by simp
    have z := sum_0 ks
    rw [z] at this
    exact this
  | x :: xs => by
    have e : (ks.map fun u => (x :: xs).count u) = ks.map fun u => xs.count u + (if x == u then 1 else 0) := List.map_congr_left fun u _ => List.count_cons
    rw [e, sum_plus, List.length_cons]
    have h1 := count_sum nd xs
    have h2 : ∀ {ks : List (List Nat)}, ks.Nodup → (ks.map fun u => if x == u then 1 else 0).sum ≤ 1 := by
      intro ks nd
      induction ks with
      | nil => exact Nat.zero_le _
      | cons a r ih =>
        rw [List.map_cons, List.sum_cons]
        obtain ⟨na, nr⟩ := List.nodup_cons.mp nd
        by_cases c : (x == a) = true
        · have xa : x = a := by simpa using c
          have z : (r.map fun u => if x == u then 1 else 0).sum ≤ (r.map fun _ => 0).sum := sum_mono fun u m => by
            by_cases d : (x == u) = true
            · have : x = u := by simpa using d
              exact absurd (show a ∈ r by rw [← xa, this]; exact m) na
            · rw [if_neg d]
              exact Nat.le_refl _
          have z0 := sum_0 r
          rw [if_pos c]
          omega
        · rw [if_neg c]
          have := ih nr
          omega
    have := h2 nd
    omega
/-- a change makes at most q pieces go -/
theorem lack_parts {q : Nat} (hq : 1 ≤ q) {ks : List (List Nat)} (nd : ks.Nodup) (x m y m2 : List Nat) (hm : m.length ≤ 1) : lackB ks (gr q (x ++ (m ++ y))) (gr q (x ++ (m2 ++ y))) ≤ q := by
  obtain ⟨a1, h1⟩ := gr_two hq x (m ++ y)
  obtain ⟨a2, h2⟩ := gr_two hq m y
  obtain ⟨b1, k1⟩ := gr_two hq x (m2 ++ y)
  obtain ⟨b2, k2⟩ := gr_two hq m2 y
  have e1 : gr q (x ++ (m ++ y)) = gr q x ++ a1 ++ (gr q m ++ a2 ++ gr q y) := by rw [h1, h2]
  have e2 : gr q (x ++ (m2 ++ y)) = gr q x ++ b1 ++ (gr q m2 ++ b2 ++ gr q y) := by rw [k1, k2]
  have zl := congrArg List.length e1
  rw [gr_len] at zl
  simp only [List.length_append, gr_len] at zl
  have le : lackB ks (gr q (x ++ (m ++ y))) (gr q (x ++ (m2 ++ y))) ≤ (ks.map fun u => (a1 ++ gr q m ++ a2).count u).sum := by
    unfold lackB
    refine sum_mono fun u _ => ?_
    rw [e1, e2]
    simp only [List.count_append]
    omega
  have c := count_sum nd (a1 ++ gr q m ++ a2)
  simp only [List.length_append, gr_len] at c
  omega
end MuEd

namespace MuNr
open PySem PySem.Spec PyProof.Rows L2 Evl MuK MuEd
/-! ### pieces in common of texts few changes apart -/
theorem lack_self (ks xs : List (List Nat)) : lackB ks xs xs = 0 := by
  unfold lackB
  have e : (ks.map fun u => xs.count u - xs.count u) = ks.map fun _ => (0 : Nat) := List.map_congr_left fun u _ => Nat.sub_self _
  rw [e, sum_0]
theorem lack_al {q : Nat} (hq : 1 ≤ q) {ks : List (List Nat)} (nd : ks.Nodup) {l m : List Nat} {n : Nat} (h : Al l m n) : ∀ p, lackB ks (gr q (p ++ l)) (gr q (p ++ m)) ≤ q * n := by
  induction h with
  | nil n => intro p; rw [lack_self]; exact Nat.zero_le _
  | @del l m n c h ih =>
    intro p
    have h1 : lackB ks (gr q (p ++ c :: l)) (gr q (p ++ l)) ≤ q := lack_parts hq nd p [c] l [] (Nat.le_refl _)
    have h2 := lack_tri ks (gr q (p ++ c :: l)) (gr q (p ++ l)) (gr q (p ++ m))
    have h3 := ih p
    rw [Nat.mul_add]
    omega
  | @ins l m n c h ih =>
    intro p
    have h1 : lackB ks (gr q (p ++ m)) (gr q (p ++ c :: m)) ≤ q := lack_parts hq nd p [] m [c] (Nat.zero_le _)
    have h2 := lack_tri ks (gr q (p ++ l)) (gr q (p ++ m)) (gr q (p ++ c :: m))
    have h3 := ih p
    rw [Nat.mul_add]
    omega
  | @same l m n c h ih =>
    intro p
    have h3 := ih (p ++ [c])
    rw [List.append_assoc, List.append_assoc] at h3
    exact h3
  | @sub l m n c d h ih =>
    intro p
    have h1 : lackB ks (gr q (p ++ c :: l)) (gr q (p ++ d :: l)) ≤ q := lack_parts hq nd p [c] l [d] (Nat.le_refl _)
    have h2 := lack_tri ks (gr q (p ++ c :: l)) (gr q (p ++ d :: l)) (gr q (p ++ d :: m))
    have h3 := ih (p ++ [d])
    rw [List.append_assoc, List.append_assoc] at h3
    have h4 : lackB ks (gr q (p ++ d :: l)) (gr q (p ++ d :: m)) ≤ q * n := h3
    rw [Nat.mul_add]
    omega
/-! ### sums over the unlike texts -/
theorem sumS_le {α : Type} {ks : List α} {f g : α → Nat} (h : ∀ u ∈ ks, f u ≤ g u) : (ks.map f).sum ≤ (ks.map g).sum := by
  induction ks with
  | nil => exact Nat.le_refl _
  | cons a r ih =>
    rw [List.map_cons, List.map_cons, List.sum_cons, List.sum_cons]
    exact Nat.add_le_add (h a List.mem_cons_self) (ih fun u m => h u (List.mem_cons_of_mem _ m))
theorem sumS_add {α : Type} {ks : List α} (f g : α → Nat) : (ks.map fun u => f u + g u).sum = (ks.map f).sum + (ks.map g).sum := by
  induction ks with
  | nil => rfl
  | cons a r ih =>
    rw [List.map_cons, List.map_cons, List.map_cons, List.sum_cons, List.sum_cons, List.sum_cons, ih]
    omega
theorem sumS_sub {f : Str → Nat} : ∀ {k1 k2 : List Str}, k1.Nodup → (∀ u ∈ k1, f u ≠ 0 → u ∈ k2) → (k1.map f).sum ≤ (k2.map f).sum
  | [], _, _, _ => Nat.zero_le _
  | a :: r, k2, nd, h => by
    obtain ⟨na, nr⟩ := List.nodup_cons.mp nd
    rw [List.map_cons, List.sum_cons]
    by_cases z : f a = 0
    · have := sumS_sub nr (k2 := k2) fun u m => h u (List.mem_cons_of_mem _ m)
      omega
    · have ma := h a List.mem_cons_self z
      have pm := ((List.perm_cons_erase ma).map f).sum_nat
      rw [List.map_cons, List.sum_cons] at pm
      have := sumS_sub nr (k2 := k2.erase a) fun u m g => (List.mem_erase_of_ne (fun e => na (by rw [← e]; exact m))).mpr (h u (List.mem_cons_of_mem _ m) g)
      omega
theorem count_all {ks : List Str} (nd : ks.Nodup) : ∀ xs : List Str, (∀ u ∈ xs, u ∈ ks) → (ks.map fun u => xs.count u).sum = xs.length
  | [], h => by
    have e : (ks.map fun u => ([] : List Str).count u) = ks.map fun _ => 0 := List.map_congr_left fun u _ => rfl
    rw [e]
    clear e nd h
    induction ks with
    | nil => rfl
    | cons a r ih => rw [List.map_cons, List.sum_cons, ih]; rfl
  | x :: xs, h => by
    have e : (ks.map fun u => (x :: xs).count u) = ks.map fun u => xs.count u + (if x = u then 1 else 0) := List.map_congr_left fun u _ => by
      rw [List.count_cons]
      by_cases c : x = u
      · rw [if_pos (by simpa using c), if_pos c]
      · rw [if_neg (by simpa using c), if_neg c]
    rw [e, sumS_add, count_all nd xs fun u m => h u (List.mem_cons_of_mem _ m), List.length_cons]
    have one : ∀ {ks : List Str}, ks.Nodup → x ∈ ks → (ks.map fun u => if x = u then 1 else 0).sum = 1 := by
      intro ks nd m
      have none : ∀ {r : List Str}, ¬ x ∈ r → (r.map fun u => if x = u then 1 else 0).sum = 0 := by
        intro r
        induction r with
        | nil => intro _; rfl
        | cons b r ih =>
          intro n
          rw [List.map_cons, List.sum_cons, if_neg (fun e => n (by rw [e]; exact List.mem_cons_self)), ih fun m => n (List.mem_cons_of_mem _ m)]
      induction ks with
      | nil => exact nomatch m
      | cons a r ih =>
        obtain ⟨na, nr⟩ := List.nodup_cons.mp nd
        rw [List.map_cons, List.sum_cons]
        by_cases c : x = a
        · rw [if_pos c, none (by rw [c]; exact na)]
        · rw [if_neg c, ih nr (by rcases List.mem_cons.mp m with z | z; exact absurd z c; exact z)]
    rw [one nd (h x List.mem_cons_self)]
/-- how much two lists have in common -/
def minK (ks la lb : List Str) : Nat := (ks.map fun u => min (la.count u) (lb.count u)).sum
def lackK (ks la lb : List Str) : Nat := (ks.map fun u => la.count u - lb.count u).sum
theorem min_lack {ks : List Str} (nd : ks.Nodup) {la : List Str} (lb : List Str) (h : ∀ u ∈ la, u ∈ ks) : minK ks la lb + lackK ks la lb = la.length := by
  rw [← count_all nd la h]
  unfold minK lackK
  rw [← sumS_add]
  congr 1
  exact List.map_congr_left fun u _ => by omega
theorem minK_comm (ks la lb : List Str) : minK ks la lb = minK ks lb la := by
  unfold minK
  congr 1
  exact List.map_congr_left fun u _ => Nat.min_comm _ _
def commN (la lb : List Str) : Nat := minK (MuBag.firsts la) la lb
theorem comm_any {ks la lb : List Str} (nd : ks.Nodup) (h : ∀ u ∈ la, u ∈ ks) : commN la lb = minK ks la lb := by
  obtain ⟨n1, m1⟩ := MuBag.firsts_spec la
  refine Nat.le_antisymm (sumS_sub n1 fun u m _ => h u ((m1 u).mp m)) (sumS_sub nd fun u m g => (m1 u).mpr ?_)
  have : 0 < la.count u := by omega
  exact List.count_pos_iff.mp this
theorem comm_comm (la lb : List Str) : commN la lb = commN lb la := by
  obtain ⟨n1, m1⟩ := MuBag.firsts_spec (la ++ lb)
  rw [comm_any n1 fun u m => (m1 u).mpr (List.mem_append.mpr (.inl m)), comm_any n1 fun u m => (m1 u).mpr (List.mem_append.mpr (.inr m)), minK_comm]
theorem com_is (la lb : List Str) : MuBag.comM [] la lb = (commN la lb : Int) := by
  unfold MuBag.comM commN minK
  generalize MuBag.firsts la = ks
  induction ks with
  | nil => rfl
  | cons a r ih =>
    have e : MuBag.comT [] la lb a = ((min (la.count a) (lb.count a) : Nat) : Int) := by
      show wOf [] a * _ = _
      have : wOf [] a = 1 := rfl
      rw [this]
      omega
    rw [List.map_cons, List.map_cons, List.sum_cons, List.sum_cons, ih, e]
    omega
/-- the pieces of a text -/
def pcs (u : Str) (q : Nat) : List Str := (List.range (u.length + 1 - q)).map fun (i : Nat) => cutS u (some (i : Int)) (some ((i + q : Nat) : Int))
theorem pcs_len (u : Str) (q : Nat) : (pcs u q).length = u.length + 1 - q := by simp [pcs]
theorem pcs_gr {u : Str} {q : Nat} : (pcs u q).map (fun x => x.cps.toList) = gr q u.cps.toList := by
  unfold pcs gr
  rw [List.map_map, len_cps]
  refine List.map_congr_left fun i m => ?_
  have hi := List.mem_range.mp m
  show (((u.cps.toList.drop (HT.sIx u.length 0 (some (i : Int)))).take (HT.sIx u.length u.length (some ((i + q : Nat) : Int)) - HT.sIx u.length 0 (some (i : Int)))).toArray).toList = _
  rw [HT.sIx_nat, HT.sIx_nat, show min i u.length = i by omega, show min (i + q) u.length = i + q by omega, Nat.add_sub_cancel_left]
theorem count_cps (xs : List Str) (u : Str) : (xs.map fun x => x.cps.toList).count u.cps.toList = xs.count u := by
  induction xs with
  | nil => rfl
  | cons a r ih =>
    rw [List.map_cons, List.count_cons, List.count_cons, ih]
    by_cases c : a = u
    · rw [if_pos (by simp [c]), if_pos (by simp [c])]
    · rw [if_neg (fun z => c (str_ext (by simpa using z))), if_neg (by simpa using c)]
theorem lack_cps (ks la lb : List Str) : lackK ks la lb = lackB (ks.map fun x => x.cps.toList) (la.map fun x => x.cps.toList) (lb.map fun x => x.cps.toList) := by
  unfold lackK lackB
  rw [List.map_map]
  congr 1
  exact List.map_congr_left fun u _ => by show _ = List.count u.cps.toList _ - List.count u.cps.toList _; rw [count_cps, count_cps]
theorem nodup_cps {ks : List Str} (nd : ks.Nodup) : (ks.map fun x => x.cps.toList).Nodup := by
  unfold List.Nodup at nd ⊢
  rw [List.pairwise_map]
  exact nd.imp fun n e => n (str_ext e)
theorem lack_far {a b : Str} {q : Nat} (hq : 1 ≤ q) {ks : List Str} (nd : ks.Nodup) : (lackK ks (pcs a q) (pcs b q) : Int) ≤ q * far a b := by
  obtain ⟨n, h, g⟩ := far_al a b
  have := lack_al hq (nodup_cps nd) g []
  rw [h, lack_cps, pcs_gr, pcs_gr]
  have e : ((q : Int) * (n : Int)) = ((q * n : Nat) : Int) := by rw [Int.natCast_mul]
  rw [e]
  exact Int.ofNat_le.mpr this
theorem far_symm (a b : Str) : far a b = far b a := by
  obtain ⟨n, h, g⟩ := far_al a b
  obtain ⟨k, h2, g2⟩ := far_al b a
  have := far_le g.symm
  have := far_le g2.symm
  omega
theorem far_nn (a b : Str) : 0 ≤ far a b := by
  obtain ⟨n, h, _⟩ := far_al a b
  omega
/-- so many pieces texts have in common -/
theorem comm_far (a b : Str) {q : Nat} (hq : 1 ≤ q) : max ((pcs a q).length : Int) ((pcs b q).length : Int) - q * far a b ≤ commN (pcs a q) (pcs b q) := by
  obtain ⟨n1, m1⟩ := MuBag.firsts_spec (pcs a q ++ pcs b q)
  have ha : ∀ u ∈ pcs a q, u ∈ MuBag.firsts (pcs a q ++ pcs b q) := fun u m => (m1 u).mpr (List.mem_append.mpr (.inl m))
  have hb : ∀ u ∈ pcs b q, u ∈ MuBag.firsts (pcs a q ++ pcs b q) := fun u m => (m1 u).mpr (List.mem_append.mpr (.inr m))
  rw [comm_any n1 ha]
  have e1 := min_lack n1 (pcs b q) ha
  have e2 := min_lack n1 (pcs a q) hb
  rw [minK_comm] at e2
  have l1 := lack_far (a := a) (b := b) hq n1
  have l2 := lack_far (a := b) (b := a) hq n1
  rw [far_symm b a] at l2
  omega
/-! ### what may be near -/
def mayB (m q : Int) (a b : Str) : Bool := !decide (m < ((a.length : Int) - b.length).natAbs) && decide (max (a.length : Int) b.length + 1 - q - q * m ≤ (commN (pcs a q.toNat) (pcs b q.toNat) : Int))
theorem may_comm (m q : Int) (a b : Str) : mayB m q a b = mayB m q b a := by
  unfold mayB
  rw [comm_comm, Int.max_comm]
  congr 3
  exact propext ⟨fun h => by omega, fun h => by omega⟩
theorem may_more {m q : Int} {a b : Str} (hq : 0 ≤ q) (h : mayB m q a b = true) : mayB (m + 1) q a b = true := by
  unfold mayB at h ⊢
  rw [Bool.and_eq_true, Bool.not_eq_true', decide_eq_false_iff_not, decide_eq_true_eq] at h ⊢
  rw [Int.mul_add]
  exact ⟨by omega, by omega⟩
theorem may_near {m q : Int} {a b : Str} (hq : 1 ≤ q) (h : far a b ≤ m) : mayB m q a b = true := by
  unfold mayB
  rw [Bool.and_eq_true, Bool.not_eq_true', decide_eq_false_iff_not, decide_eq_true_eq]
  obtain ⟨l1, l2, _⟩ := far_len a b
  refine ⟨by omega, ?_⟩
  have c := comm_far a b (q := q.toNat) (by omega)
  rw [pcs_len, pcs_len, show ((q.toNat : Nat) : Int) = q by omega] at c
  have := Int.mul_le_mul_of_nonneg_left h (show 0 ≤ q by omega)
  omega
/-! ### pieces taken away one by one -/
def takeN : List Str → List Str → List Str × Nat
  | [], l => (l, 0)
  | u :: r, l => if u ∈ l then ((takeN r (l.erase u)).1, (takeN r (l.erase u)).2 + 1) else takeN r l
theorem take_many : ∀ (xs l : List Str) (ks : List Str), ks.Nodup → (∀ u ∈ l, u ∈ ks) → (takeN xs l).2 = minK ks xs l
  | [], l, ks, nd, h => by
    have e : (ks.map fun u => min (([] : List Str).count u) (l.count u)) = ks.map fun u => ([] : List Str).count u := List.map_congr_left fun u _ => by rw [List.count_nil]; omega
    unfold minK
    rw [e, count_all nd [] fun u m => nomatch m]
    rfl
  | u :: r, l, ks, nd, h => by
    unfold takeN
    by_cases c : u ∈ l
    · rw [if_pos c]
      show (takeN r (l.erase u)).2 + 1 = _
      rw [take_many r (l.erase u) ks nd fun v m => h v (List.mem_of_mem_erase m)]
      have e : minK ks (u :: r) l = (ks.map fun v => min (r.count v) ((l.erase u).count v) + [u].count v).sum := by
        unfold minK
        congr 1
        refine List.map_congr_left fun v _ => ?_
        rw [List.count_cons, List.count_erase, List.count_singleton]
        by_cases g : u = v
        · subst g
          have := List.count_pos_iff.mpr c
          simp
          omega
        · have g1 : (u == v) = false := by simpa using g
          have g2 : (v == u) = false := by simpa using fun z => g z.symm
          simp [g1, g2]
      rw [e, sumS_add, count_all nd [u] fun v m => by rw [List.mem_singleton.mp m]; exact h u c]
      rfl
    · rw [if_neg c, take_many r l ks nd h]
      unfold minK
      congr 1
      refine List.map_congr_left fun v _ => ?_
      rw [List.count_cons]
      by_cases g : u = v
      · subst g
        rw [List.count_eq_zero.mpr c]
        omega
      · have g1 : (u == v) = false := by simpa using g
        simp [g1]
theorem take_is (xs l : List Str) : (takeN xs l).2 = commN xs l := by
  obtain ⟨n1, m1⟩ := MuBag.firsts_spec (xs ++ l)
  rw [take_many xs l _ n1 fun u m => (m1 u).mpr (List.mem_append.mpr (.inr m)), comm_any n1 fun u m => (m1 u).mpr (List.mem_append.mpr (.inl m))]
end MuNr

namespace MuNr
open PySem PySem.Spec PyProof.Rows L2 Evl MuK MuEd
theorem u65 {A : Around} {k : Nat} (h : Room k A) : A.units + 65 < cLine := by
  have := h.un
  omega
/-! ### rows of two or three numbers, told -/
abbrev Row := (Nat × Nat) × Int
def rowI (w : Bool) (b : Row) : List V := if w then [.int b.1.1, .int b.1.2, .int b.2] else [.int b.1.1, .int b.1.2]
def rowD (w : Bool) (b : Row) : PyData := .tuple (if w then [.int b.1.1, .int b.1.2, .int b.2] else [.int b.1.1, .int b.1.2])
abbrev RowAt (w : Bool) (b : Row) (y : V) (H : Hp) : Prop := ∃ t : Addr, y = .ref t ∧ H t = some (.tup (rowI w b))
def PsAt (w : Bool) (bs : List Row) (p : Addr) (H : Hp) : Prop := ∃ cs : List (Addr × Row), H p = some (.lst (cs.map fun c => V.ref c.1)) ∧ cs.map (·.2) = bs ∧ ∀ c ∈ cs, H c.1 = some (.tup (rowI w c.2))
theorem PsAt.later {w : Bool} {bs : List Row} {p : Addr} {H H' : Hp} (h : PsAt w bs p H) (e : Ex H H') : PsAt w bs p H' := by
  obtain ⟨cs, h1, h2, h3⟩ := h
  exact ⟨cs, e _ _ h1, h2, fun c m => e _ _ (h3 c m)⟩
theorem RowAt.later {w : Bool} {b : Row} {y : V} {H H' : Hp} (h : RowAt w b y H) (e : Ex H H') : RowAt w b y H' := by
  obtain ⟨t, rfl, h⟩ := h
  exact ⟨t, rfl, e _ _ h⟩
theorem RowAt.stay {w : Bool} {b : Row} {y : V} {H : Hp} {D : Addr} {zs : List V} {o : HO} (h : RowAt w b y H) (hD : H D = some (.lst zs)) : RowAt w b y (upd H D o) := by
  obtain ⟨t, rfl, h⟩ := h
  refine ⟨t, rfl, (upd_ne fun z => ?_).trans h⟩
  rw [z, hD] at h
  exact nomatch h
theorem rows_of {w : Bool} {α : Type} {g : α → Row} {H : Hp} : ∀ {ps : List α} {ys : List V}, Paired (fun p y => RowAt w (g p) y H) ps ys → ∃ cs : List (Addr × Row), ys = cs.map (fun c => V.ref c.1) ∧ cs.map (·.2) = ps.map g ∧ ∀ c ∈ cs, H c.1 = some (.tup (rowI w c.2))
  | _, _, .nil => ⟨[], rfl, rfl, fun _ m => nomatch m⟩
  | p :: _, _, .cons h r => by
    obtain ⟨cs, h1, h2, h3⟩ := rows_of r
    obtain ⟨t, rfl, ht⟩ := h
    refine ⟨(t, g p) :: cs, by rw [h1]; rfl, by rw [List.map_cons, h2]; rfl, fun c m => ?_⟩
    rcases List.mem_cons.mp m with rfl | m
    · exact ht
    · exact h3 c m
theorem ps_of {w : Bool} {α : Type} {g : α → Row} {H : Hp} {D : Addr} {ps : List α} {ys : List V} (hD : H D = some (.lst ys)) (h : Paired (fun p y => RowAt w (g p) y H) ps ys) : PsAt w (ps.map g) D H := by
  obtain ⟨cs, rfl, h2, h3⟩ := rows_of h
  exact ⟨cs, hD, h2, h3⟩
theorem of_ps {w : Bool} {bs : List Row} {p : Addr} {H : Hp} (h : PsAt w bs p H) : ∃ ys, H p = some (.lst ys) ∧ Paired (fun b y => RowAt w b y H) bs ys := by
  obtain ⟨cs, h1, rfl, h3⟩ := h
  refine ⟨_, h1, ?_⟩
  clear h1
  induction cs with
  | nil => exact .nil
  | cons c r ih => exact .cons ⟨c.1, rfl, h3 c List.mem_cons_self⟩ (ih fun d m => h3 d (List.mem_cons_of_mem _ m))
/-! as data -/
theorem row_lay (w : Bool) (b : Row) : (rowD w b).canLay0 = true ∧ (rowD w b).depth = 1 := by
  cases w <;> exact ⟨by simp [rowD, PyData.canLay0, PyData.canLayAll0], by simp [rowD, PyData.depth, PyData.depthAll]⟩
theorem rows_lay (w : Bool) : ∀ bs : List Row, PyData.canLayAll0 (bs.map (rowD w)) = true ∧ PyData.depthAll (bs.map (rowD w)) ≤ 1
  | [] => ⟨rfl, by show 0 ≤ 1; decide⟩
  | x :: r => by
    have ih := rows_lay w r
    obtain ⟨e1, e2⟩ := row_lay w x
    refine ⟨?_, ?_⟩
    · show PyData.canLayAll0 (rowD w x :: r.map (rowD w)) = true
      rw [PyData.canLayAll0, e1, ih.1]
      rfl
    · show PyData.depthAll (rowD w x :: r.map (rowD w)) ≤ 1
      rw [PyData.depthAll, e2]
      omega
theorem rows_shaped (w : Bool) (bs : List Row) : SeqAt.shaped (.list (bs.map (rowD w))) = true ∧ (PyData.list (bs.map (rowD w))).canLay0 = true := by
  have h := rows_lay w bs
  have e : (PyData.list (bs.map (rowD w))).canLay0 = true := by
    rw [PyData.canLay0]
    exact h.1
  refine ⟨?_, e⟩
  unfold SeqAt.shaped
  rw [e, PyData.depth]
  simp
  omega
theorem row_shaped (w : Bool) (b : Row) : SeqAt.shaped (rowD w b) = true := by
  obtain ⟨e1, e2⟩ := row_lay w b
  unfold SeqAt.shaped
  rw [e1, e2]
  rfl
theorem row_dp {K : PySem.W.Frag} {w : Bool} {b : Row} {t : Addr} {H : Hp} (h : H t = some (.tup (rowI w b))) : Dp K H (.ref t) (rowD w b) := by
  cases w
  · exact .tup (st_of h) (.cons (.int _) (.cons (.int _) .nil))
  · exact .tup (st_of h) (.cons (.int _) (.cons (.int _) (.cons (.int _) .nil)))
theorem ps_dp {K : PySem.W.Frag} {w : Bool} {bs : List Row} {p : Addr} {H : Hp} (h : PsAt w bs p H) : Dp K H (.ref p) (.list (bs.map (rowD w))) := by
  obtain ⟨cs, h1, h2, h3⟩ := h
  refine .lst (sq_of h1) ?_
  rw [← h2]
  clear h1 h2
  induction cs with
  | nil => exact .nil
  | cons x r ih => exact .cons (row_dp (h3 x List.mem_cons_self)) (ih fun y m => h3 y (List.mem_cons_of_mem _ m))
abbrev RPs (w : Bool) (bs : List Row) : V → Hp → Prop := fun v H' => ∃ p : Addr, v = .ref p ∧ PsAt w bs p H'
section
variable {K : PySem.W.Frag} {σ : L2.St} {H : Hp} {ta tb te tl : TE} {R : V → Hp → Prop}
theorem ev_neP {w : Bool} {bs : List Row} (ha : EvX ta σ H (RPs w bs)) (hb : ∀ H1, Ex H H1 → EvX tb σ H1 (RPs w bs)) : Ev (tOp (rNeD K) ta tb) σ H (.bl false) :=
  MuTri.ev_neX ha (fun _ H1 e _ => hb H1 e) fun v1 H1 v2 H2 _ r1 e2 r2 => by
    obtain ⟨p, rfl, hp⟩ := r1
    obtain ⟨q, rfl, hq⟩ := r2
    exact ⟨_, ps_dp (hp.later e2), ps_dp hq, (rows_shaped w bs).1, (rows_shaped w bs).2⟩
theorem evx_ps {i : Nat} {p : Addr} {w : Bool} {bs : List Row} (h : σ[i]? = some (some (.ref p))) (hp : PsAt w bs p H) : EvX (tVar i) σ H (RPs w bs) := evx_mono (evx_of (ev_var h)) fun v H1 e r => ⟨p, r, hp.later e⟩
theorem row_any {w : Bool} {b : Row} {bs : List Row} (h : b ∈ bs) : (bs.map (rowD w)).any (fun z => z.eqv (rowD w b)) = true := List.any_eq_true.mpr ⟨rowD w b, List.mem_map.mpr ⟨b, h, rfl⟩, SeqAt.eqv_refl _ (row_lay w b).1⟩
/-- a row among rows -/
theorem ev_niRow {c : Addr} {w : Bool} {b : Row} {bs : List Row} (ha : Ev ta σ H (.ref c)) (hc : H c = some (.tup (rowI w b))) (hb : ∀ H1, Ex H H1 → EvX tb σ H1 (RPs w bs)) (m : b ∈ bs) : Ev (tOp (rNotInD K) ta tb) σ H (.bl false) := fun H1 e Q q =>
  ha H1 e _ fun H2 e2 => hb H2 (e.trans e2) H2 (Ex.refl H2) _ fun v H3 e3 r => by
    obtain ⟨D, rfl, hD⟩ := r
    refine ⟨rowD w b, bs.map (rowD w), row_dp (((e.trans e2).trans e3) _ _ hc), ps_dp hD, row_shaped w b, (rows_shaped w bs).1, ?_⟩
    rw [row_any m]
    exact q H3 (e2.trans e3)
theorem ev_niCut2 {c : Addr} {b : Row} {bs : List Row} (ha : Ev ta σ H (.ref c)) (hc : H c = some (.tup (rowI true b))) (hb : ∀ H1, Ex H H1 → EvX tb σ H1 (RPs false bs)) (m : (b.1, (0 : Int)) ∈ bs) : Ev (tOp (rNotInD K) (tSl (rSlT K) ta tNoPart (tPart (tC (.int 2)))) tb) σ H (.bl false) := fun H1 e Q q =>
  ha H1 e _ fun H2 e2 => eo_none H2 (e.trans e2) _ fun H3 e3 => (eo_some ev_c) H3 ((e.trans e2).trans e3) _ fun H4 e4 => ⟨c, _, rfl, st_of ((((e.trans e2).trans e3).trans e4) _ _ hc), (by show ¬ (HT.sIx 3 0 none = 0 ∧ HT.sIx 3 3 (some 2) = 3); decide), fun p2 hp2 => by
    have e14 := ((e.trans e2).trans e3).trans e4
    have e5 : Ex H4 (upd H4 p2 (.tup (cutV (rowI true b) none (some 2)))) := Ex.new hp2
    have h5 : (upd H4 p2 (.tup (cutV (rowI true b) none (some 2)))) p2 = some (.tup (rowI false (b.1, 0))) := upd_same
    show tb _ (upd H4 p2 (.tup (cutV (rowI true b) none (some 2)))) _
    generalize upd H4 p2 (.tup (cutV (rowI true b) none (some 2))) = H5 at e5 h5
    refine hb H5 (e14.trans e5) H5 (Ex.refl _) _ fun v H6 e6 r => ?_
    obtain ⟨D, rfl, hD⟩ := r
    refine ⟨rowD false (b.1, 0), bs.map (rowD false), row_dp (e6 _ _ h5), ps_dp hD, row_shaped _ _, (rows_shaped _ bs).1, ?_⟩
    rw [row_any m]
    exact q H6 ((((e2.trans e3).trans e4).trans e5).trans e6)⟩
/-- [f(k) for k in range(n)] -/
theorem el_lcR {ta : TA} {te : TE} {j : Nat} {vs : List Nat} {n : Int} (f : Nat → V) (h : EvA ta σ H [.int n]) (hN : n ≤ 40000) (hlo : -40000 ≤ n) (hw : ∀ x, wipe ((wipe σ vs).set j (some x)) vs = wipe σ vs)
    (he : ∀ (i : Nat) H1, Ex H H1 → i < n.toNat → Ev te ((wipe σ vs).set j (some (.int (i : Int)))) H1 (f i)) :
    EvL (tLc (iRng1 ta) (gName j) tYes te vs) σ H ((List.range n.toNat).map f) := fun H0 e Q q => h H0 e _ fun H1 e1 => ⟨n, rfl, by omega, by omega, fun Dl hD =>
  lc_range (lo := 0) (n := n.toNat) (fun i H' => H1 Dl = none ∧ Ex H1 H' ∧ H' Dl = some (.lst ((List.range i).map f))) ⟨hD, Ex.new hD, upd_same⟩ (fun i H' hi p => by
    have e0 : (0 : Int) + (i : Int) = (i : Int) := Int.zero_add _
    show wipe ((wipe σ vs).set j (some (.int ((0 : Int) + (i : Int))))) vs = wipe σ vs ∧ _
    rw [e0]
    refine ⟨hw _, MuLc.yes_go ?_⟩
    obtain ⟨p1, p2, p3⟩ := p
    refine he i H' ((e.trans e1).trans p2) hi H' (Ex.refl _) _ fun H4 e4 => ⟨_, e4 _ _ p3, sz_lt (by rw [List.length_map, List.length_range]; omega), p1, Ex.mut (p2.trans e4) p1, ?_⟩
    rw [upd_same, List.range_succ, List.map_append]
    rfl)
    (fun H' p => q Dl H' (fresh_back e1 p.1) (e1.trans p.2.1) p.2.2)⟩
theorem ev_cutB {tc : TE} {u : Str} {k l : Int} (h : Ev ta σ H (.str u)) (hk : Ev tb σ H (.int k)) (hl : Ev tc σ H (.int l)) (hz : u.length ≤ 100000) : Ev (tSl rSlS ta (tPart tb) (tPart tc)) σ H (.str (cutS u (some k) (some l))) := fun H1 e Q q =>
  h H1 e _ fun H2 e2 => (eo_some hk) H2 (e.trans e2) _ fun H3 e3 => (eo_some hl) H3 ((e.trans e2).trans e3) _ fun H4 e4 => ⟨u, rfl, sz_of hz, q H4 ((e2.trans e3).trans e4)⟩
/-- f(new list, new list, {}) -/
theorem ev_call3L {Dd : Hp → List V → V → Prop} {E : XK} {xs ys : List V} {v : V} (ha : EvL ta σ H xs) (hb : ∀ H1, Ex H H1 → EvL tb σ H1 ys) (hs : ∀ a b d H1, H1 a = some (.lst xs) → H1 b = some (.lst ys) → H1 d = some (.dK []) → Dd H1 [.ref a, .ref b, .ref d] v) : Ev (tCall (SpVal Dd) [] E (tCons ta (tCons tb (tCons tDNewK tNil)))) σ H v := fun H0 e Q q =>
  ha H0 e _ fun a H1 _ e1 h1 => hb H1 (e.trans e1) H1 (Ex.refl _) _ fun b H2 _ e2 h2 d hd => ⟨v, by rw [List.append_nil]; exact hs a b d _ ((e2.trans (Ex.new hd)) _ _ h1) ((Ex.new hd) _ _ h2) upd_same, fun H3 e3 => q H3 (((e1.trans e2).trans (Ex.new hd)).trans e3)⟩
theorem evx_lcThen {t : TT} {g : TG} {vs : List Nat} {R R' : V → Hp → Prop} (h : EvX tl σ H R) (k : ∀ v H1, Ex H H1 → R v H1 → EvX (tLc (iList K (tC v)) g t te vs) σ H1 R') : EvX (tLc (iList K tl) g t te vs) σ H R' := fun H0 e Q q =>
  h H0 e _ fun v H1 e1 r => k v H1 (e.trans e1) r H1 (Ex.refl H1) Q fun w H2 e2 r2 => q w H2 (e1.trans e2) r2
theorem evx_row {w : Bool} {b : Row} (h : EvU te σ H (rowI w b)) : EvX te σ H (RowAt w b) := fun H1 e Q q => h H1 e Q fun p H2 _ e2 h2 => q _ H2 e2 ⟨p, rfl, h2⟩
theorem s_retX2 {D : Ends} {bs : List Row} {Dh : Addr} (h : EvX ta σ H (RPs true bs)) (hb : ∀ H1, Ex H H1 → Ev tb σ H1 (.ref Dh)) (k : ∀ t Dn H1, Ex H H1 → H1 t = some (.tup [.ref Dn, .ref Dh]) → PsAt true bs Dn H1 → D.rt (.ref t) H1) : tRet (tTup (tCons ta (tCons tb tNil))) D σ H :=
  h H (Ex.refl H) _ fun v H1 e1 r => by
    obtain ⟨Dn, rfl, hn⟩ := r
    exact hb H1 e1 H1 (Ex.refl _) _ fun H2 e2 => ⟨sz_of (by simp), fun t ht => k t Dn _ ((e1.trans e2).trans (Ex.new ht)) upd_same (hn.later (e2.trans (Ex.new ht)))⟩
/-! ### texts' pairs -/
def farP (us : List Str) (p : Nat × Nat) : Int := far (us.getD p.1 "") (us.getD p.2 "")
def mayP (us : List Str) (m q : Int) (p : Nat × Nat) : Bool := mayB m q (us.getD p.1 "") (us.getD p.2 "")
def nearR (us : List Str) (m : Int) : List Row := ((MuLc.allP us.length).filter fun p => decide (farP us p ≤ m)).map fun p => (p, farP us p)
def holdR (us : List Str) (m q : Int) : List Row := ((MuLc.allP us.length).filter (mayP us m q)).map fun p => (p, 0)
def RNear (us : List Str) (m q : Int) : V → Hp → Prop := fun v H' => ∃ (t Dn Dh : Addr), v = .ref t ∧ H' t = some (.tup [.ref Dn, .ref Dh]) ∧ PsAt true (nearR us m) Dn H' ∧ PsAt false (holdR us m q) Dh H'
end
end MuNr

namespace MuNr
open PySem PySem.Spec PyProof.Rows L2 Evl MuK MuEd
/-! ### sorted of rows -/
section
variable {X : Cx} {pins : List (Addr × Obj)} {σ : L2.St} {H : Hp} {s : Shared}
theorem row_reads (I : Inv X pins σ H s) {w : Bool} {c : Addr × Row} (h : H c.1 = some (.tup (rowI w c.2))) {h' : Heap} (k : ∀ c o, s.heap.get? c = some o → h'.get? c = some o) : Reads h' (.ref c.1) (rowD w c.2) [] := by
  obtain ⟨us, r1, ⟨o1, g1, c1, m1, d1⟩, _⟩ := I.tuple (st_of h)
  cases w
  · cases r1 with
    | cons a1 r1 =>
      cases r1 with
      | cons a2 r1 =>
        cases r1
        obtain ⟨t1, rfl⟩ := a1
        obtain ⟨t2, rfl⟩ := a2
        exact reads_tuple_at (k _ _ g1) c1 d1 (ReadsAll.cons (as := []) (bs := []) (.int _ _) (ReadsAll.cons (as := []) (bs := []) (.int _ _) .nil))
  · cases r1 with
    | cons a1 r1 =>
      cases r1 with
      | cons a2 r1 =>
        cases r1 with
        | cons a3 r1 =>
          cases r1
          obtain ⟨t1, rfl⟩ := a1
          obtain ⟨t2, rfl⟩ := a2
          obtain ⟨t3, rfl⟩ := a3
          exact reads_tuple_at (k _ _ g1) c1 d1 (ReadsAll.cons (as := []) (bs := []) (.int _ _) (ReadsAll.cons (as := []) (bs := []) (.int _ _) (ReadsAll.cons (as := []) (bs := []) (.int _ _) .nil)))
theorem row_alike (w : Bool) (b c : Addr × Row) : W.alike (rowD w b.2) (rowD w c.2) = true := by cases w <;> rfl
theorem row_tup (w : Bool) (b : Addr × Row) : ∃ x r, rowD w b.2 = PyData.tuple (x :: r) := by cases w <;> exact ⟨_, _, rfl⟩
theorem row_lt {w : Bool} {b c : Addr × Row} (ne : b.2.1 ≠ c.2.1) (h : W.dataLt (rowD w c.2) (rowD w b.2) = false) : ltP b.2.1 c.2.1 := by
  have e : ∀ x y : Int, (PyData.int x).eqv (PyData.int y) = decide (x = y) := fun x y => by
    rw [PyData.eqv]
    first | rfl | exact Bool.eq_iff_iff.mpr (by simp)
  have ne2 : ¬ (b.2.1.1 = c.2.1.1 ∧ b.2.1.2 = c.2.1.2) := fun z => ne (Prod.ext z.1 z.2)
  have g : ∃ r1 r2 : List PyData, rowD w c.2 = .tuple (.int c.2.1.1 :: .int c.2.1.2 :: r1) ∧ rowD w b.2 = .tuple (.int b.2.1.1 :: .int b.2.1.2 :: r2) ∧ W.dataLt (.tuple (.int c.2.1.1 :: .int c.2.1.2 :: r1)) (.tuple (.int b.2.1.1 :: .int b.2.1.2 :: r2)) = (if (PyData.int c.2.1.1).eqv (PyData.int b.2.1.1) = true then (if (PyData.int c.2.1.2).eqv (PyData.int b.2.1.2) = true then W.dataLt (.tuple r1) (.tuple r2) else W.dataLt (.int c.2.1.2) (.int b.2.1.2)) else W.dataLt (.int c.2.1.1) (.int b.2.1.1)) := by
    cases w
    · exact ⟨[], [], rfl, rfl, by rw [W.dataLt_tuple, W.dataLt_cons (by rfl), W.dataLt_cons (by rfl), W.dataLt_tuple]⟩
    · exact ⟨[.int c.2.2], [.int b.2.2], rfl, rfl, by rw [W.dataLt_tuple, W.dataLt_cons (by rfl), W.dataLt_cons (by rfl), W.dataLt_tuple]⟩
  obtain ⟨r1, r2, g1, g2, g3⟩ := g
  rw [g1, g2, g3, e, e, W.dataLt_int, W.dataLt_int] at h
  unfold ltP
  by_cases c1 : (c.2.1.1 : Int) = b.2.1.1
  · rw [if_pos (decide_eq_true c1)] at h
    by_cases c2 : (c.2.1.2 : Int) = b.2.1.2
    · exact absurd ⟨by omega, by omega⟩ ne2
    · rw [if_neg (by rw [decide_eq_false c2]; decide)] at h
      have := of_decide_eq_false h
      omega
  · rw [if_neg (by rw [decide_eq_false c1]; decide)] at h
    have := of_decide_eq_false h
    omega
theorem rows_each : ∀ (cs : List (Addr × Row)), W.EachIs (fun (v : Value) (b : Addr × Row) => v = .ref b.1) (cs.map fun b => Value.ref b.1) cs
  | [] => .nil
  | b :: r => .cons rfl (rows_each r)
theorem rows_each_of {vs : List Value} {cs : List (Addr × Row)} (h : W.EachIs (fun (v : Value) (b : Addr × Row) => v = .ref b.1) vs cs) : vs = cs.map fun b => Value.ref b.1 := by
  induction h with
  | nil => rfl
  | cons e _ ih => rw [e, ih]; rfl
theorem rows_vals : ∀ (cs : List (Addr × Row)), Vals (cs.map fun b => V.ref b.1) (cs.map fun b => Value.ref b.1)
  | [] => .nil
  | b :: r => .cons rfl (rows_vals r)
theorem vals_rows : ∀ {cs : List (Addr × Row)} {us : List Value}, Vals (cs.map fun b => V.ref b.1) us → us = cs.map fun b => Value.ref b.1
  | [], _, h => by cases h; rfl
  | b :: r, _, h => by
    cases h with
    | cons a t => rw [vals_rows t]; cases a; rfl
/-- a list of rows made and sorted -/
theorem sort_tail {A : Around} {w : Bool} {cs : List (Addr × Row)} {Q : VK} (hu : A.units + 10 < cLine) (I : Inv X pins σ H s) (hz : cs.length ≤ 5000) (hb : ∀ c ∈ cs, H c.1 = some (.tup (rowI w c.2))) (nd : (cs.map (·.2.1)).Nodup)
    (q : ∀ p (ds : List (Addr × Row)), H p = none → ds.Perm cs → (ds.map (·.2.1)).Pairwise ltP → Q (.ref p) (upd H p (.lst (ds.map fun b => V.ref b.1)))) :
    wpAny (model X.prog X.w) A (newList (cs.map fun b => Value.ref b.1) >>= fun l => holding [l] (call (Value.builtin "list.sort") [l]) >>= fun _ => ret l) (fun fin s' => ∃ v, fin = PySem.Fin.done (Flow.ret v) ∧ EP X pins σ Q v s') X.xe s := by
  refine wpAny_bind (wpAny_newList ?_ (by rw [List.length_map, sizeLine_eq]; omega))
  have hoL : (s.heap.push (seqObj "list" (cs.map fun b => Value.ref b.1).toArray 0)).get? s.heap.objs.size = some (seqObj "list" (cs.map fun b => Value.ref b.1).toArray 0) := Heap.get?_push_size _ rfl
  have k2 : ∀ c o, s.heap.get? c = some o → (s.heap.push (seqObj "list" (cs.map fun b => Value.ref b.1).toArray 0)).get? c = some o := fun c o e => Heap.get?_push_of_some _ e
  have each2 : ∀ (l : List (Addr × Row)), (∀ b ∈ l, b ∈ cs) → W.EachIs (fun (v : Value) (b : Addr × Row) => ∃ as, Reads (s.heap.push (seqObj "list" (cs.map fun b => Value.ref b.1).toArray 0)) v (rowD w b.2) as ∧ ¬ s.heap.objs.size ∈ as) (l.map fun b => Value.ref b.1) l := by
    intro l hl
    induction l with
    | nil => exact .nil
    | cons b r ih => exact .cons ⟨[], row_reads I (hb b (hl b List.mem_cons_self)) k2, fun z => nomatch z⟩ (ih fun c hc => hl c (List.mem_cons_of_mem _ hc))
  refine wpAny_bind (wpAny_holding (W.list_sort_data (enc := fun b : Addr × Row => rowD w b.2) hoL (rows_each cs) (each2 cs fun _ h => h) (W.AllAlike.of (row_alike w)) (W.Sortable.tuples (row_tup w)) (by rw [sizeLine_eq]; omega) (fun b _ => ?_) fun out hl2 ho => ?_))
  · rw [(row_lay w b.2).2]
    omega
  · obtain rfl := rows_each_of ho
    generalize hds : cs.mergeSort (W.dataLe false fun b : Addr × Row => rowD w b.2) = ds at *
    have pm : ds.Perm cs := hds ▸ List.mergeSort_perm _ _
    have TL := W.sortLe_total (listOrd itemOrd) false fun b : Addr × Row => W.keyToks (rowD w b.2)
    have sr : ds.Pairwise fun b c => W.dataLe false (fun b : Addr × Row => rowD w b.2) b c = true := by
      rw [← hds]
      exact List.pairwise_mergeSort TL.trans (fun a b => by rw [Bool.or_eq_true]; exact TL.total a b) cs
    obtain ⟨c, hg⟩ := sortedHeap_at (vs := cs.map fun b => Value.ref b.1) (out := (ds.map fun b => Value.ref b.1).toArray) hoL
    have hn : H s.heap.objs.size = none := I.hok.fresh (Nat.le_refl _)
    have hl3 : (ds.map fun b => V.ref b.1).length ≤ sizeLine := by
      rw [List.length_map, pm.length_eq, sizeLine_eq]
      omega
    have up : (ds.map (·.2.1)).Pairwise ltP := by
      have nd2 : (ds.map (·.2.1)).Nodup := (pm.map _).nodup_iff.mpr nd
      rw [List.pairwise_map]
      unfold List.Nodup at nd2
      rw [List.pairwise_map] at nd2
      refine (List.Pairwise.and sr nd2).imp fun {b c} h => row_lt (w := w) h.2 ?_
      have := h.1
      rw [W.dataLe_eq] at this
      simpa using this
    refine wpAny_pure ⟨_, rfl, .ref _, _, ?_, rfl, q _ ds hn pm up⟩
    refine I.laid (t' := s.toks) (fun b u e => ?_) (Nat.le_refl _) ⟨hl3, (ds.map fun b => Value.ref b.1).toArray.toList, c, by simpa using rows_vals ds, hg⟩
    have hlt := Heap.lt_size e
    rw [sortedHeap_old (Nat.ne_of_lt hlt) (by rw [size_push']; exact Nat.lt_succ_of_lt hlt)]
    exact Heap.get?_push_of_some _ e
def rSortedRow (w : Bool) (K : PySem.W.Frag) : List V → Hp → VK → Prop := fun vs H Q => ∃ (a : Addr) (cs : List (Addr × Row)), vs = [.ref a] ∧ SqL K H a (cs.map fun b => V.ref b.1) ∧ cs.length ≤ 5000 ∧ (∀ c ∈ cs, H c.1 = some (.tup (rowI w c.2))) ∧ (cs.map (·.2.1)).Nodup ∧
  ∀ p (ds : List (Addr × Row)), H p = none → ds.Perm cs → (ds.map (·.2.1)).Pairwise ltP → Q (.ref p) (upd H p (.lst (ds.map fun b => V.ref b.1)))
theorem cr_sortedRow {w : Bool} (hu : X.A.units + 64 < cLine) : CallR X (.builtin "sorted") (rSortedRow w X.K) := by
  intro pins s σ H vs us Q I r h
  obtain ⟨a, cs, rfl, hs, hz, hb, nd, q⟩ := h
  obtain ⟨its, rv, hl, _⟩ := I.list hs
  rw [Vals.ref1 r]
  obtain rfl := vals_rows rv
  refine Calls.call_function_entry kind_sorted plain_sorted entry_sorted (args_sorted1 _) ?_
  unfold Builtin.«sorted»
  refine wpAny_bind (m := checkCount "sorted" 1 1 _) (wpAny_pure ?_)
  refine wpAny_bind (collect_list hl.isList ?_ (by rw [List.length_map, sizeLine_eq]; omega))
  refine sort_tail (w := w) (cs := cs) (Q := Q) (by show X.A.units + 1 + 10 < cLine; omega) (I.kept (t' := s.toks) fun c o e => ?_) hz hb nd q
  rw [(Heap.SameBut.update _ _ _).2 c (Nat.ne_of_lt (Heap.lt_size e))]
  exact Heap.get?_push_of_some _ e
/-- sorted(d), the keys pairs of numbers -/
def keyT (p : Nat × Nat) : List Key := [.inl (p.1 : Int), .inl (p.2 : Int)]
def rSortedDT : List V → Hp → VK → Prop := fun vs H Q => ∃ (d : Addr) (kvs : List (List Key × V)) (ps : List (Nat × Nat)), vs = [.ref d] ∧ H d = some (.dT kvs) ∧ kvs.map (·.1) = ps.map keyT ∧ ps.length ≤ 5000 ∧ ps.Nodup ∧
  ∀ p (cs ds : List (Addr × Row)), H p = none → cs.map (·.2) = ps.map (fun p => (p, 0)) → ds.Perm cs → (∀ c ∈ cs, H c.1 = some (.tup (rowI false c.2))) → (ds.map (·.2.1)).Pairwise ltP → Q (.ref p) (upd H p (.lst (ds.map fun b => V.ref b.1)))
theorem keys_of {H : Hp} : ∀ {kvs : List (List Key × V)} {xs : List (List Key × Addr × Value)} {ps : List (Nat × Nat)}, KT H kvs xs → kvs.map (·.1) = ps.map keyT → ∃ cs : List (Addr × Row), cs.map (·.2) = ps.map (fun p => (p, (0 : Int))) ∧ (∀ c ∈ cs, H c.1 = some (.tup (rowI false c.2))) ∧ xs.map (fun x => Value.ref x.2.1) = cs.map fun c => Value.ref c.1
  | _, _, [], .nil, _ => ⟨[], rfl, (fun _ m => nomatch m), rfl⟩
  | _, _, _ :: _, .nil, h => nomatch h
  | _, _, [], .cons _ _, h => nomatch h
  | k :: _, x :: _, p :: ps, .cons hk r, h => by
    obtain ⟨e1, e2⟩ := List.cons.inj (show k.1 :: _ = keyT p :: _ from h)
    obtain ⟨cs, c1, c2, c3⟩ := keys_of r e2
    refine ⟨(x.2.1, (p, 0)) :: cs, by rw [List.map_cons, c1]; rfl, fun c m => ?_, by rw [List.map_cons, c3]; rfl⟩
    rcases List.mem_cons.mp m with rfl | m
    · have := hk.2.1
      rw [e1] at this
      exact this
    · exact c2 c m
theorem cr_sortedDT (hc : X.calm = true) (hu : X.A.units + 64 < cLine) : CallR X (.builtin "sorted") rSortedDT := by
  intro pins s σ H vs us Q I r h
  obtain ⟨d, kvs, ps, rfl, hd, hk, hz, nd, q⟩ := h
  rw [Vals.ref1 r]
  obtain ⟨_, lo, xs, kt, dd⟩ := dt_rd I.hok (.inl hd)
  obtain ⟨o, es, ep, ho, hx, hdt, hes, _⟩ := dd
  have hsz : es.size = xs.length := by
    have := congrArg List.length hes
    simpa using this
  obtain ⟨cs, c1, c2, c3⟩ := keys_of kt hk
  have zc : cs.length = ps.length := by simpa using congrArg List.length c1
  have zx : xs.length = cs.length := by simpa using congrArg List.length c3
  refine Calls.call_function_entry kind_sorted plain_sorted entry_sorted (args_sorted1 _) ?_
  unfold Builtin.«sorted»
  refine wpAny_bind (m := checkCount "sorted" 1 1 _) (wpAny_pure ?_)
  refine wpAny_bind (PySem.W.kdu_collect (A := X.A.in1) (kdl_raw (prog := X.prog) (w := X.w) lo hx hdt) (I.ok.hd hc) ho (by rw [hsz, zx, zc, sizeLine_eq]; omega) fun h1 tk acc hkp hacc => ?_)
  have eacc : acc.toList = cs.map fun b => Value.ref b.1 := by
    rw [← c3]
    refine List.ext_getElem? fun j => ?_
    rw [Array.getElem?_toList]
    by_cases lt : j < es.size
    · have la : j < acc.size := by rw [hacc.1]; exact lt
      obtain ⟨en, g1, g2⟩ := hacc.2 j acc[j] (Array.getElem?_eq_getElem la)
      rw [Array.getElem?_eq_getElem la, g2, List.getElem?_map]
      have g3 : es.toList[j]? = some en := by rw [Array.getElem?_toList]; exact g1
      rw [hes, List.getElem?_map] at g3
      cases y : xs[j]? with
      | none =>
        rw [y] at g3
        exact nomatch g3
      | some x =>
        rw [y] at g3
        rw [← Option.some.inj g3]
        rfl
    · rw [List.getElem?_eq_none (by rw [List.length_map]; omega), Array.getElem?_eq_none (by rw [hacc.1]; omega)]
  rw [eacc]
  refine sort_tail (w := false) (cs := cs) (Q := Q) (by show X.A.units + 1 + 10 < cLine; omega) (I.kept (t' := tk) hkp) (by omega) c2 ?_ fun p ds hp pm up => q p cs ds hp c1 pm c2 up
  have : cs.map (·.2.1) = ps := by
    have := congrArg (List.map Prod.fst) c1
    rw [List.map_map, List.map_map] at this
    exact this.trans (List.map_id ps)
  rw [this]
  exact nd
end
theorem rows_one : ∀ {a b : List Row}, (a.map (·.1)).Pairwise ltP → (b.map (·.1)).Pairwise ltP → a.Perm b → a = b := by
  intro a b ha hb pm
  have irr : ∀ {u v : Nat × Nat}, ltP u v → ltP v u → False := fun {u v} h k => by
    unfold ltP at h k
    omega
  rw [List.pairwise_map] at ha hb
  exact List.Perm.eq_of_pairwise (le := fun x y : Row => ltP x.1 y.1 ) (fun x y _ _ h1 h2 => (irr h1 h2).elim) ha hb pm
section
variable {K : PySem.W.Frag} {σ : L2.St} {H : Hp} {te : TE}
/-- sorted of told rows, which ones is known -/
theorem evx_sortedRow {w : Bool} {bs es : List Row} (h : EvX te σ H (RPs w bs)) (hz : bs.length ≤ 5000) (pm : es.Perm bs) (up : (es.map (·.1)).Pairwise ltP) : EvX (tCB (rSortedRow w K) (tCons te tNil)) σ H (RPs w es) := fun H1 e Q q => h H1 e _ fun v H2 e2 r => by
  obtain ⟨a, rfl, cs, h1, h2, h3⟩ := r
  have nd : (es.map (·.1)).Nodup := up.imp fun h e => by unfold ltP at h; rw [e] at h; omega
  refine ⟨a, cs, rfl, sq_of h1, by rw [← h2, List.length_map] at hz; exact hz, h3, ?_, fun p ds hp pd ud => q _ _ (e2.trans (Ex.new hp)) ⟨p, rfl, ds, upd_same, ?_, fun c m => (Ex.new hp) _ _ (h3 c (pd.mem_iff.mp m))⟩⟩
  · have := (pm.map (·.1)).nodup_iff.mp nd
    rw [← h2, List.map_map] at this
    exact this
  · refine rows_one (by rw [List.map_map]; exact ud) up ?_
    have := pd.map (·.2)
    rw [h2] at this
    exact this.trans pm.symm
theorem evx_sortedDT {d : Addr} {kvs : List (List Key × V)} {ps : List (Nat × Nat)} (h : Ev te σ H (.ref d)) (hd : H d = some (.dT kvs)) (hk : kvs.map (·.1) = ps.map keyT) (hz : ps.length ≤ 5000) (up : ps.Pairwise ltP) : EvX (tCB rSortedDT (tCons te tNil)) σ H (RPs false (ps.map fun p => (p, 0))) := fun H1 e Q q => h H1 e _ fun H2 e2 => by
  have nd : ps.Nodup := up.imp fun h e => by unfold ltP at h; rw [e] at h; omega
  refine ⟨d, kvs, ps, rfl, (e.trans e2) _ _ hd, hk, hz, nd, fun p cs ds hp c1 pm c2 ud => q _ _ (e2.trans (Ex.new hp)) ⟨p, rfl, ds, upd_same, ?_, fun c m => (Ex.new hp) _ _ (c2 c (pm.mem_iff.mp m))⟩⟩
  refine rows_one (by rw [List.map_map]; exact ud) (by rw [List.map_map]; show (ps.map fun p => p).Pairwise ltP; rw [List.map_id']; exact up) ?_
  rw [← c1]
  exact pm.map _
end
end MuNr

namespace MuNr
open PySem PySem.Spec PyProof.Rows L2 Evl MuK MuEd
/-! ### rows that a lot's pairs make -/
theorem below_up (N : Nat) : ∀ n, (MuLc.belowP N n).Pairwise ltP
  | 0 => List.Pairwise.nil
  | n + 1 => by
    rw [MuLc.belowP_succ, List.pairwise_append]
    refine ⟨below_up N n, ?_, fun x hx y hy => .inl ?_⟩
    · unfold MuLc.rowP
      rw [List.pairwise_map]
      exact List.pairwise_lt_range.imp fun h => .inr ⟨rfl, by show n + 1 + _ < n + 1 + _; omega⟩
    · have h1 := (MuLc.mem_belowP hx).1
      obtain ⟨l, _, rfl⟩ := List.mem_map.mp hy
      exact h1
theorem mem_allP {n : Nat} {p : Nat × Nat} : p ∈ MuLc.allP n ↔ p.1 < p.2 ∧ p.2 < n := by
  refine ⟨fun h => (MuLc.mem_belowP h).2, fun h => ?_⟩
  show p ∈ MuLc.belowP n n
  unfold MuLc.belowP
  refine List.mem_flatMap.mpr ⟨p.1, List.mem_range.mpr (by omega), List.mem_map.mpr ⟨p.2 - (p.1 + 1), List.mem_range.mpr (by omega), ?_⟩⟩
  exact Prod.ext rfl (by show p.1 + 1 + (p.2 - (p.1 + 1)) = p.2; omega)
def selR (n : Nat) (f : Nat × Nat → Bool) (g : Nat × Nat → Int) : List Row := ((MuLc.allP n).filter f).map fun p => (p, g p)
theorem sel_up (n : Nat) (f : Nat × Nat → Bool) (g : Nat × Nat → Int) : ((selR n f g).map (·.1)).Pairwise ltP := by
  unfold selR
  rw [List.map_map]
  show (((MuLc.allP n).filter f).map fun p => p).Pairwise ltP
  rw [List.map_id']
  exact (below_up n n).filter _
theorem mem_sel {n : Nat} {f : Nat × Nat → Bool} {g : Nat × Nat → Int} {b : Row} : b ∈ selR n f g ↔ b.1.1 < b.1.2 ∧ b.1.2 < n ∧ f b.1 = true ∧ b.2 = g b.1 := by
  unfold selR
  rw [List.mem_map]
  constructor
  · rintro ⟨p, hp, rfl⟩
    obtain ⟨h1, h2⟩ := List.mem_filter.mp hp
    have := mem_allP.mp h1
    exact ⟨this.1, this.2, h2, rfl⟩
  · rintro ⟨h1, h2, h3, h4⟩
    exact ⟨b.1, List.mem_filter.mpr ⟨mem_allP.mpr ⟨h1, h2⟩, h3⟩, Prod.ext rfl h4.symm⟩
theorem sel_len (n : Nat) (f : Nat × Nat → Bool) (g : Nat × Nat → Int) : (selR n f g).length ≤ n * n := by
  unfold selR
  rw [List.length_map]
  exact Nat.le_trans (List.length_filter_le _ _) (MuLc.belowP_len n n)
theorem near_sel (us : List Str) (m : Int) : nearR us m = selR us.length (fun p => decide (farP us p ≤ m)) (farP us) := rfl
theorem hold_sel (us : List Str) (m q : Int) : holdR us m q = selR us.length (mayP us m q) (fun _ => 0) := rfl
/-- turned round -/
def turnP (n : Nat) (p : Nat × Nat) : Nat × Nat := (n - 1 - p.2, n - 1 - p.1)
def turnR (n : Nat) (b : Row) : Row := (turnP n b.1, b.2)
theorem sel_turn {n : Nat} {f f2 : Nat × Nat → Bool} {g g2 : Nat × Nat → Int} (h : ∀ p, p.1 < p.2 → p.2 < n → f2 (turnP n p) = f p ∧ g2 (turnP n p) = g p) : (selR n f2 g2).Perm ((selR n f g).map (turnR n)) := by
  have nod : ∀ (f : Nat × Nat → Bool) (g : Nat × Nat → Int), (selR n f g).Nodup := fun f g => by
    have := sel_up n f g
    rw [List.pairwise_map] at this
    exact this.imp fun h e => by rw [e] at h; unfold ltP at h; omega
  refine (List.perm_ext_iff_of_nodup (nod f2 g2) ?_).mpr fun b => ?_
  · unfold List.Nodup
    rw [List.pairwise_map]
    refine List.Pairwise.imp_of_mem (fun {x y} mx my ne e => ne ?_) (nod f g)
    have hx := mem_sel.mp mx
    have hy := mem_sel.mp my
    unfold turnR turnP at e
    have e1 := congrArg (fun z : Row => z.1.1) e
    have e2 := congrArg (fun z : Row => z.1.2) e
    have e3 := congrArg (fun z : Row => z.2) e
    simp only at e1 e2 e3
    exact Prod.ext (Prod.ext (by omega) (by omega)) e3
  · rw [List.mem_map]
    constructor
    · intro m
      obtain ⟨h1, h2, h3, h4⟩ := mem_sel.mp m
      have back : turnP n (turnP n b.1) = b.1 := Prod.ext (by show n - 1 - (n - 1 - b.1.1) = b.1.1; omega) (by show n - 1 - (n - 1 - b.1.2) = b.1.2; omega)
      have hh := h (turnP n b.1) (by show n - 1 - b.1.2 < n - 1 - b.1.1; omega) (by show n - 1 - b.1.1 < n; omega)
      rw [back] at hh
      refine ⟨(turnP n b.1, b.2), mem_sel.mpr ⟨by show n - 1 - b.1.2 < n - 1 - b.1.1; omega, by show n - 1 - b.1.1 < n; omega, hh.1 ▸ h3, h4.trans hh.2⟩, ?_⟩
      unfold turnR
      exact Prod.ext back rfl
    · rintro ⟨c, m, rfl⟩
      obtain ⟨h1, h2, h3, h4⟩ := mem_sel.mp m
      have hh := h c.1 h1 h2
      exact mem_sel.mpr ⟨by show n - 1 - c.1.2 < n - 1 - c.1.1; omega, by show n - 1 - c.1.1 < n; omega, hh.1.trans h3, h4.trans hh.2.symm⟩
theorem rev_at {us : List Str} {i : Nat} (h : i < us.length) : us.reverse.getD (us.length - 1 - i) "" = us.getD i "" := by
  rw [List.getD_eq_getElem?_getD, List.getD_eq_getElem?_getD, List.getElem?_reverse (by omega)]
  rw [show us.length - 1 - (us.length - 1 - i) = i by omega]
theorem near_turn (us : List Str) (m : Int) : (nearR us.reverse m).Perm ((nearR us m).map (turnR us.length)) := by
  rw [near_sel, near_sel, List.length_reverse]
  have e : ∀ p : Nat × Nat, p.1 < p.2 → p.2 < us.length → farP us.reverse (turnP us.length p) = farP us p := fun p h1 h2 => by
    show far (us.reverse.getD (us.length - 1 - p.2) "") (us.reverse.getD (us.length - 1 - p.1) "") = _
    rw [rev_at h2, rev_at (by omega), far_symm]
    rfl
  exact sel_turn fun p h1 h2 => ⟨by rw [e p h1 h2], e p h1 h2⟩
theorem hold_turn (us : List Str) (m q : Int) : (holdR us.reverse m q).Perm ((holdR us m q).map (turnR us.length)) := by
  rw [hold_sel, hold_sel, List.length_reverse]
  refine sel_turn fun p h1 h2 => ⟨?_, rfl⟩
  show mayB m q (us.reverse.getD (us.length - 1 - p.2) "") (us.reverse.getD (us.length - 1 - p.1) "") = _
  rw [rev_at h2, rev_at (by omega), may_comm]
  rfl
theorem near_more {us : List Str} {m : Int} {b : Row} (h : b ∈ nearR us m) : b ∈ nearR us (m + 1) := by
  rw [near_sel] at h ⊢
  obtain ⟨h1, h2, h3, h4⟩ := mem_sel.mp h
  have := of_decide_eq_true h3
  exact mem_sel.mpr ⟨h1, h2, decide_eq_true (by omega), h4⟩
theorem hold_more {us : List Str} {m q : Int} (hq : 0 ≤ q) {b : Row} (h : b ∈ holdR us m q) : b ∈ holdR us (m + 1) q := by
  rw [hold_sel] at h ⊢
  obtain ⟨h1, h2, h3, h4⟩ := mem_sel.mp h
  exact mem_sel.mpr ⟨h1, h2, may_more hq h3, h4⟩
theorem near_hold {us : List Str} {m q : Int} (hq : 1 ≤ q) {b : Row} (h : b ∈ nearR us m) : (b.1, (0 : Int)) ∈ holdR us m q := by
  rw [near_sel] at h
  obtain ⟨h1, h2, h3, h4⟩ := mem_sel.mp h
  rw [hold_sel]
  exact mem_sel.mpr ⟨h1, h2, may_near hq (of_decide_eq_true h3), rfl⟩
theorem near_two (a b : Str) (m : Int) : nearR [a, b] m = if far a b ≤ m then [((0, 1), far a b)] else [] := by
  show (([(0, 1)] : List (Nat × Nat)).filter fun p => decide (farP [a, b] p ≤ m)).map (fun p => (p, farP [a, b] p)) = _
  have e : farP [a, b] (0, 1) = far a b := rfl
  rw [List.filter_cons, e]
  by_cases c : far a b ≤ m
  · rw [if_pos (decide_eq_true c), if_pos c, List.filter_nil, List.map_cons, e]
    rfl
  · rw [if_neg (by simpa using c), if_neg c]
    rfl
/-! ### pieces taken away, one after another -/
def takeS (s : List Str × Nat) (u : Str) : List Str × Nat := if u ∈ s.1 then (s.1.erase u, s.2 + 1) else s
theorem take_fold : ∀ (xs l : List Str) (c : Nat), xs.foldl takeS (l, c) = ((takeN xs l).1, c + (takeN xs l).2)
  | [], l, c => rfl
  | u :: r, l, c => by
    rw [List.foldl_cons]
    unfold takeN
    by_cases h : u ∈ l
    · have e : takeS (l, c) u = (l.erase u, c + 1) := if_pos h
      rw [if_pos h, e, take_fold r]
      exact Prod.ext rfl (by show c + 1 + _ = c + (_ + 1); omega)
    · have e : takeS (l, c) u = (l, c) := if_neg h
      rw [if_neg h, e, take_fold r]
theorem take_end (xs l : List Str) : (xs.foldl takeS (l, 0)).2 = commN xs l := by
  rw [take_fold, ← take_is]
  omega
theorem take_sub (xs : List Str) : ∀ s : List Str × Nat, (xs.foldl takeS s).1.length ≤ s.1.length := by
  induction xs with
  | nil => exact fun s => Nat.le_refl _
  | cons u r ih =>
    intro s
    rw [List.foldl_cons]
    refine Nat.le_trans (ih _) ?_
    unfold takeS
    split
    · exact List.length_erase_le
    · exact Nat.le_refl _
/-! ### dicts whose keys are pairs -/
def entT (g : Nat × Nat → Int) (p : Nat × Nat) : List Key × V := (keyT p, .int (g p))
theorem keyT_inj {p q : Nat × Nat} (h : keyT p = keyT q) : p = q := by
  unfold keyT at h
  injection h with h1 h2
  injection h2 with h2 _
  injection h1 with h1
  injection h2 with h2
  exact Prod.ext (by omega) (by omega)
theorem put_ent {g : Nat × Nat → Int} {ps : List (Nat × Nat)} {p : Nat × Nat} (h : p ∉ ps) : putK (ps.map (entT g)) (keyT p) (.int (g p)) = (ps ++ [p]).map (entT g) := by
  unfold putK
  rw [if_neg, List.map_append]
  · rfl
  · intro z
    obtain ⟨x, mx, hx⟩ := List.any_eq_true.mp z
    obtain ⟨q, mq, rfl⟩ := List.mem_map.mp mx
    exact h ((keyT_inj (of_decide_eq_true hx)) ▸ mq)
theorem val_ent {g : Nat × Nat → Int} {p : Nat × Nat} : ∀ {ps : List (Nat × Nat)}, p ∈ ps → valV (ps.map (entT g)) (keyT p) = some (.int (g p))
  | q :: r, h => by
    unfold valV
    rw [List.map_cons, List.find?_cons]
    by_cases c : q = p
    · subst c
      have : decide ((entT g q).1 = keyT q) = true := decide_eq_true rfl
      rw [this]
      rfl
    · have : decide ((entT g q).1 = keyT p) = false := decide_eq_false fun z => c (keyT_inj z)
      rw [this]
      have m : p ∈ r := by
        rcases List.mem_cons.mp h with z | z
        · exact absurd z.symm c
        · exact z
      exact val_ent m
section
variable {K : PySem.W.Frag} {σ : L2.St} {H : Hp} {ta tb te tl td ti tj tv : TE} {D : Ends} {tu tz : TS} {R : V → Hp → Prop} {v : V}
theorem s_dputT {d : Addr} {kt : List (List Key × V)} {i j : Int} (hd : H d = some (.dT kt)) (hz : kt.length < 100000) (hv : Ev tv σ H v) (ho : Ev td σ H (.ref d)) (hi : Ev ti σ H (.int i)) (hj : Ev tj σ H (.int j))
    (q : ∀ H1, Ex H H1 → D.nx σ (upd H1 d (.dT (putK kt [.inl i, .inl j] v)))) : sDPut td (tTup (tCons ti (tCons tj tNil))) tv D σ H :=
  hv H (Ex.refl H) _ fun H1 e1 => ho H1 e1 _ fun H2 e2 => (eu_tup (vs := [.int i, .int j]) (ea_cons hi (ea_cons hj ea_nil)) (by simp)) H2 (e1.trans e2) _ fun p H3 _ e3 hp =>
    ⟨d, _, rfl, .inr ⟨kt, [.inl i, .inl j], p, ((e1.trans e2).trans e3) _ _ hd, rfl, hp, sz_lt hz, rfl⟩, q H3 ((e1.trans e2).trans e3)⟩
theorem ev_getT {d : Addr} {kt : List (List Key × V)} {i j : Int} (hd : H d = some (.dT kt)) (ho : Ev td σ H (.ref d)) (hi : Ev ti σ H (.int i)) (hj : Ev tj σ H (.int j)) (hv : valV kt [.inl i, .inl j] = some v) : Ev (tDGet td (tTup (tCons ti (tCons tj tNil)))) σ H v := fun H1 e Q q =>
  ho H1 e _ fun H2 e2 => (eu_tup (vs := [.int i, .int j]) (ea_cons hi (ea_cons hj ea_nil)) (by simp)) H2 (e.trans e2) _ fun p H3 _ e3 hp =>
    ⟨d, v, rfl, .inr ⟨kt, [.inl i, .inl j], p, .inl (((e.trans e2).trans e3) _ _ hd), rfl, hp, hv.symm⟩, q H3 (e2.trans e3)⟩
theorem q_forLG {a : Addr} {xs : List V} {g : TG} (h : Ev tl σ H (.ref a)) (hx : SqL K H a xs) (Pv : Nat → L2.St → Hp → Prop) (h0 : ∀ H1, Ex H H1 → Pv 0 σ H1) (hl : ∀ i σ' H', i ≤ xs.length → Pv i σ' H' → SqL K H' a xs)
    (hs : ∀ i x σ' H', xs[i]? = some x → Pv i σ' H' → g x σ' H' fun σ2 H2 => tu { D with nx := Pv (i + 1), ct := Pv (i + 1), bk := tz D } σ2 H2) (hd : ∀ σ' H', Pv xs.length σ' H' → tz D σ' H') : tSeq (tFor (iList K tl) g tu) tz D σ H := by
  refine h H (Ex.refl H) _ fun H1 e1 => ⟨a, rfl, ⟨_, ex_l e1 hx⟩, fun n m σ' H' => m = xs.length - n ∧ n ≤ xs.length ∧ Pv n σ' H', ⟨xs.length, rfl, Nat.zero_le _, h0 H1 e1⟩, ?_⟩
  rintro n m σ' H' ⟨rfl, hn, p⟩
  have hq := hl n σ' H' hn p
  by_cases lt : n < xs.length
  · refine .inr ⟨⟨xs, xs[n], hq, List.getElem?_eq_getElem lt⟩, Pv (n + 1), fun σ2 H2 p2 => ⟨xs.length - (n + 1), by omega, rfl, lt, p2⟩, fun x H2 y => ?_⟩
    obtain ⟨rfl, hy⟩ := y
    exact hs n x σ' _ (hy xs hq) p
  · have e : n = xs.length := by omega
    subst e
    exact .inl ⟨⟨xs, hq, Nat.le_refl _⟩, hd σ' H' p⟩
/-- for i, j, k in told rows -/
theorem q_forRows {p : Addr} {bs : List Row} {i j k : Nat} (h : Ev tl σ H (.ref p)) (hp : PsAt true bs p H) (Pv : L2.St → Hp → Prop) (h0 : ∀ H1, Ex H H1 → Pv σ H1) (hl : ∀ σ' H', Pv σ' H' → Ex H H')
    (hs : ∀ (b : Row) σ' H', b ∈ bs → Pv σ' H' → tu { D with nx := Pv, ct := Pv, bk := tz D } (((σ'.set i (some (.int b.1.1))).set j (some (.int b.1.2))).set k (some (.int b.2))) H') (hd : ∀ σ' H', Pv σ' H' → tz D σ' H') : tSeq (tFor (iList K tl) (gTup K 3 (gCons (gName i) (gCons (gName j) (gCons (gName k) gNil)))) tu) tz D σ H := by
  obtain ⟨cs, h1, rfl, h3⟩ := hp
  refine q_forLG (K := K) h (sq_of h1) (fun _ => Pv) h0 (fun n σ' H' _ hq => sq_of (hl σ' H' hq _ _ h1)) (fun n x σ' H' hx hq => ?_) fun σ' H' hq => hd σ' H' hq
  obtain ⟨c, mc, rfl⟩ := List.mem_map.mp (List.mem_of_getElem? hx)
  have hc := hl σ' H' hq _ _ (h3 c mc)
  exact ⟨c.1, _, rfl, st_of hc, rfl, .int c.2.1.1, [.int c.2.1.2, .int c.2.2], rfl, .int c.2.1.2, [.int c.2.2], rfl, .int c.2.2, [], rfl, rfl, hs c.2 σ' H' (List.mem_map.mpr ⟨c, mc, rfl⟩) hq⟩
theorem q_remS {l : Addr} {ws : List Str} {k : Str} (hl : TxL H l ws) (hk : k ∈ ws) (ha : Ev ta σ H (.ref l)) (h : Ev te σ H (.str k))
    (q : ∀ H1, Ex H H1 → tz D σ (upd H1 l (.lst ((ws.erase k).map V.str)))) : tSeq (tDrop (tBM K "list" rRemS ta (tCons te tNil))) tz D σ H := s_remS (D := { D with nx := tz D }) hl hk ha h q
theorem rv_inTx {l : Addr} {ws : List Str} {u : Str} (h : H l = some (.lst (ws.map V.str))) : RV (rIn K false) (.str u) (.ref l) H (.bl (decide (u ∈ ws))) := by
  have flat : ((ws.map V.str).all flatV) = true := by
    rw [List.all_map]
    exact List.all_eq_true.mpr fun _ _ => rfl
  have := rv_isL (K := K) (x := .str u) (sq_of (K := K) h) rfl flat
  rw [inV_str] at this
  exact this
theorem ev_lenX {xs : List V} (h : EvX te σ H (fun v H' => ∃ p : Addr, v = .ref p ∧ H' p = some (.lst xs))) : Ev (tCB (rLenS K) (tCons te tNil)) σ H (.int xs.length) := fun H1 e Q q =>
  h H1 e _ fun v H2 e2 r => by
    obtain ⟨p, rfl, hp⟩ := r
    exact (ev_len (K := K) (σ := σ) (ta := tC (.ref p)) ev_c (sq_of hp)) H2 (Ex.refl H2) Q fun H3 e3 => q H3 (e2.trans e3)
theorem evx_LL {xs : List V} (h : EvL te σ H xs) : EvX te σ H (fun v H' => ∃ p : Addr, v = .ref p ∧ H' p = some (.lst xs)) := fun H1 e Q q => h H1 e _ fun p H2 _ e2 h2 => q _ _ e2 ⟨p, rfl, h2⟩
/-- [x for x in rows if ..], none of them -/
theorem evx_lcNo {a : Addr} {w : Bool} {bs : List Row} {t : TT} {j : Nat} {vs : List Nat} (h : Ev tl σ H (.ref a)) (hx : PsAt w bs a H) (hz : bs.length ≤ 40000) (hw : ∀ x, wipe ((wipe σ vs).set j (some x)) vs = wipe σ vs)
    (ht : ∀ (c : Addr) (b : Row) H1, b ∈ bs → H1 c = some (.tup (rowI w b)) → Ex H H1 → EvT t ((wipe σ vs).set j (some (.ref c))) H1 false) : EvX (tLc (iList K tl) (gName j) t te vs) σ H (fun v H' => ∃ p : Addr, v = .ref p ∧ H' p = some (.lst [])) := by
  obtain ⟨cs, h1, rfl, h3⟩ := hx
  rw [List.length_map] at hz
  have at_ : ∀ {i : Nat} {x : V}, (cs.map fun c => V.ref c.1)[i]? = some x → ∃ c, c ∈ cs ∧ x = .ref c.1 := fun {i x} hi => by
    obtain ⟨c, mc, hc⟩ := List.mem_map.mp (List.mem_of_getElem? hi)
    exact ⟨c, mc, hc.symm⟩
  refine evx_mono (evx_LL (el_lcL (K := K) (xs := cs.map fun c => V.ref c.1) (a := a) (fun _ => false) (fun _ => .non) h (sq_of h1) (by rw [List.length_map]; omega) hw (fun i x H1 e hi => ?_) (fun i x H1 e hi hf => nomatch hf))) fun v H1 e r => ?_
  · obtain ⟨c, mc, rfl⟩ := at_ hi
    exact ht c.1 c.2 H1 (List.mem_map.mpr ⟨c, mc, rfl⟩) (e _ _ (h3 c mc)) e
  · obtain ⟨p, rfl, hp⟩ := r
    refine ⟨p, rfl, ?_⟩
    have g : ∀ n, given n (fun _ => false) (fun _ => V.non) = [] := fun n => by
      unfold given
      have e : (List.range n).filter (fun _ => false) = [] := List.filter_eq_nil_iff.mpr fun _ _ h => absurd h (by decide)
      rw [e]
      rfl
    rw [g] at hp
    exact hp
/-- [row] * (0 or 1) -/
theorem evx_rep {b : Row} {n : Int} {c : Bool} (h : EvU te σ H (rowI true b)) (hi : Ev ti σ H (.int n)) (hn : n = if c then 1 else 0) : EvX (tOp rRep (tLst (tCons te tNil)) ti) σ H (RPs true (if c then [b] else [])) := fun H0 e Q q =>
  h H0 e _ fun p1 H1 _ e1 g1 => ⟨sz_of (by simp), fun l hl => hi _ ((e.trans e1).trans (Ex.new hl)) _ fun H2 e2 => by
    have e12 := (Ex.new (o := .lst [.ref p1]) hl).trans e2
    have hl2 : H2 l = some (.lst [.ref p1]) := e2 _ _ upd_same
    refine ⟨l, n, _, rfl, rfl, hl2, by split at hn <;> omega, by split at hn <;> omega, sz_of (by cases c <;> (rw [hn]; simp)), fun p hp => ?_⟩
    refine q _ _ ((e1.trans e12).trans (Ex.new hp)) ⟨p, rfl, ?_⟩
    cases c
    · subst hn
      exact ⟨[], upd_same, rfl, fun _ m => nomatch m⟩
    · subst hn
      refine ⟨[(p1, b)], upd_same, rfl, fun x m => ?_⟩
      rw [List.mem_singleton.mp m]
      exact (Ex.new hp) _ _ (e12 _ _ g1)⟩
/-- the first, the second of what is told -/
theorem evx_nix {us : List Str} {m q : Int} (h : EvX te σ H (RNear us m q)) : EvX (tOp (rIxT K) te (tC (.int 0))) σ H (RPs true (nearR us m)) := fun H1 e Q k =>
  h H1 e _ fun v H2 e2 r => by
    obtain ⟨t, Dn, Dh, rfl, ht, hn, hh⟩ := r
    exact (ev_c (v := .int 0) (σ := σ) (H := H2)) H2 (Ex.refl _) _ fun H3 e3 => rv_ixT (st_of (e3 _ _ ht)) (atI_nat (j := 0) rfl) H3 (Ex.refl _) Q fun H4 e4 => k _ H4 ((e2.trans e3).trans e4) ⟨Dn, rfl, hn.later (e3.trans e4)⟩
theorem evx_hix {us : List Str} {m q : Int} (h : EvX te σ H (RNear us m q)) : EvX (tOp (rIxT K) te (tC (.int 1))) σ H (RPs false (holdR us m q)) := fun H1 e Q k =>
  h H1 e _ fun v H2 e2 r => by
    obtain ⟨t, Dn, Dh, rfl, ht, hn, hh⟩ := r
    exact (ev_c (v := .int 1) (σ := σ) (H := H2)) H2 (Ex.refl _) _ fun H3 e3 => rv_ixT (st_of (e3 _ _ ht)) (atI_nat (j := 1) rfl) H3 (Ex.refl _) Q fun H4 e4 => k _ H4 ((e2.trans e3).trans e4) ⟨Dh, rfl, hh.later (e3.trans e4)⟩
theorem evx_callL1 {Dd : Hp → List V → (V → Hp → Prop) → Prop} {E : XK} {tr : TA} {xs vs : List V} (h1 : EvL te σ H xs) (hr : ∀ H1, Ex H H1 → EvA tr σ H1 vs)
    (hs : ∀ p H1, Ex H H1 → H1 p = some (.lst xs) → ∃ R1, Dd H1 (.ref p :: vs) R1 ∧ ∀ v H2, Ex H1 H2 → R1 v H2 → R v H2) : EvX (tCall (SpR Dd) [] E (tCons te tr)) σ H R := fun H0 e Q q =>
  h1 H0 e _ fun p H1 _ e1 hp => hr H1 (e.trans e1) H1 (Ex.refl _) _ fun H2 e2 => by
    obtain ⟨R1, d, k⟩ := hs p H2 ((e.trans e1).trans e2) (e2 _ _ hp)
    exact ⟨R1, by rw [List.append_nil]; exact d, fun v H4 e4 r => q v H4 ((e1.trans e2).trans e4) (k v H4 e4 r)⟩
theorem cut_1st (xs : List V) : cutV xs none (some 1) = xs.take 1 := by
  have e : (1 : Int) = ((1 : Nat) : Int) := rfl
  unfold cutV
  rw [e, HT.sIx_nat, HT.sIx_none, Nat.sub_zero, List.drop_zero, ← List.take_eq_take_min]
theorem turn_row (w : Bool) {n : Nat} {b : Row} (h1 : b.1.1 < b.1.2) (h2 : b.1.2 < n) : rowI w (turnR n b) = if w then [.int ((n : Int) - 1 - b.1.2), .int ((n : Int) - 1 - b.1.1), .int b.2] else [.int ((n : Int) - 1 - b.1.2), .int ((n : Int) - 1 - b.1.1)] := by
  have e1 : ((n - 1 - b.1.2 : Nat) : Int) = (n : Int) - 1 - b.1.2 := by omega
  have e2 : ((n - 1 - b.1.1 : Nat) : Int) = (n : Int) - 1 - b.1.1 := by omega
  cases w
  · show [V.int ((n - 1 - b.1.2 : Nat) : Int), .int ((n - 1 - b.1.1 : Nat) : Int)] = _
    rw [e1, e2]
    rfl
  · show [V.int ((n - 1 - b.1.2 : Nat) : Int), .int ((n - 1 - b.1.1 : Nat) : Int), .int b.2] = _
    rw [e1, e2]
    rfl
/-- [.. for .. in rows], each row made another -/
theorem evx_lcRow {a : Addr} {w w2 : Bool} {bs : List Row} {F : Row → Row} {g : TG} {vs : List Nat} (h : Ev tl σ H (.ref a)) (hx : PsAt w bs a H) (hz : bs.length ≤ 40000)
    (hs : ∀ (b : Row) (x : V) (H' : Hp), b ∈ bs → RowAt w b x H' → Ex H H' → ∃ σn : L2.St, wipe σn vs = wipe σ vs ∧ (∀ k : L2.St → Hp → Prop, k σn H' → g x (wipe σ vs) H' k) ∧ EvU te σn H' (rowI w2 (F b))) : EvX (tLc (iList K tl) g tYes te vs) σ H (RPs w2 (bs.map F)) := by
  obtain ⟨ys, hys, pr⟩ := of_ps hx
  refine evx_mono (MuLc.evx_lcP (K := K) (α := Row) (d := ((0, 0), 0)) (ps := bs) (fun b y H => RowAt w b y H) (fun _ => true) (fun b y H => RowAt w2 (F b) y H) h (sq_of hys) pr hz (fun b x H' mb hx e => ?_) (fun p y H1 H2 r e => r.later e) (fun p y H1 D zs o r hD => r.stay hD)) fun v H1 e r => ?_
  · obtain ⟨σn, s1, s2, s3⟩ := hs b x H' mb (hx.later e) e
    exact ⟨σn, s1, s2, fun H5 e5 Q q => q H5 (Ex.refl H5), fun _ => evx_row s3⟩
  · obtain ⟨D2, zs, rfl, _, h5, r⟩ := r
    rw [List.filter_eq_self.mpr fun _ _ => rfl] at r
    exact ⟨D2, rfl, ps_of h5 r⟩
theorem turned_up {n : Nat} {f f2 : Nat × Nat → Bool} {g g2 : Nat × Nat → Int} : ((selR n f2 g2).map (·.1)).Pairwise ltP := sel_up _ _ _
end
end MuNr

namespace MuRn
open PySem PySem.Spec PyProof.Rows L2 Evl MuK
/-! ### range(n), n below every machine number: no turn -/
theorem turn_long {P : Program} {w : World} {K : PySem.W.Frag} {tg : Expr} (it : Addr) : Turn P w K tg (Itr 0 0) [it] it fun i h => i = 0 ∧ IsLongIter h it 0 0 1 where
  mem := List.mem_singleton.mpr rfl
  obj := fun i h st b hb => by
    rw [List.mem_singleton.mp hb]
    exact ⟨_, st.2, fun v z => by cases z⟩
  keep := fun i h h' st k => ⟨st.1, k it (List.mem_singleton.mpr rfl) _ st.2⟩
  item := fun X hP hw hK hc i pins s σ H E I hf st hg => absurd hg (Nat.not_lt_zero _)
  done := fun X hP hw hK hc i pins s σ H E I hf st hg => by
    subst hP
    subst hw
    obtain ⟨f0, f1, f2, f3, f4, f5⟩ := hf it (List.mem_singleton.mpr rfl)
    refine (Walks.longrange (I.ok.hd hc) it 0 1 0).done s _ E (by simpa using st.2) fun h' tk kk => ⟨rfl, Inv.turned I (fun b o hb e => kk b o (by simpa using hb) e) f0 f1 f3 f4 f5⟩
  self := fun A i s Q E st h => by
    have hT : s.TypeIs (.ref it) "longrange_iterator" := ⟨_, st.2, rfl⟩
    exact wpAny_pyIter_slot hT F.slot_longrange_iterator_iter (wpAny_call_entry F.slot_longrange_iterator_iter hT F.entry_longrange_iterator_iter (wpAny_pure ⟨.ref it, rfl, "longrange_iterator", .builtin "longrange_iterator.__next__", hT, F.slot_longrange_iterator_next.lookup, h⟩) (F.args_longrange_iterator_iter_1 (.ref it)))
theorem small_not {j : Int} (h : j < -2 ^ 63) : Builtin.Range.small 0 j 1 = false := by
  have e : Builtin.Range.rangeFitsLong j = false := by
    unfold Builtin.Range.rangeFitsLong
    rw [decide_eq_false (by omega)]
    rfl
  unfold Builtin.Range.small
  rw [e, Bool.and_false]
  rfl
theorem long_it {X : Cx} {tg : Expr} {pins : List (Addr × Obj)} {σ : L2.St} {H : Hp} {s : Shared} {R : It → Hp → Prop} {E : Value → Shared → Prop} {j : Int} {t u v : Tok} {tk : Nat}
    (I : Inv X pins σ H s) (h : j < -2 ^ 63) (q : R (Itr 0 0) H) : wpAny (model X.prog X.w) X.A (pyIter (.ref s.heap.objs.size)) (PIE X pins σ tg R) E { heap := s.heap.push { cls := .type "range", data := .fields #[.int 0 t, .int j u, .int 1 v] }, gens := s.gens, drawn := s.drawn, toks := tk, os := s.os } := by
  have I1 := I.kept (t' := tk) fun b o e => Heap.get?_push_of_some (h := s.heap) { cls := .type "range", data := .fields #[.int 0 t, .int j u, .int 1 v] } e
  refine wpAny_pyIter_longrange (IsRange.new s.heap 0 j 1 t u v) (small_not h) ?_
  have z : Builtin.Range.rangeSize 0 j 1 = 0 := by
    unfold Builtin.Range.rangeSize
    rw [if_pos (by decide), if_neg (by omega)]
  rw [z]
  refine ⟨_, [_], _, Itr 0 0, H, rfl, I1.kept fun b o e => Heap.get?_push_of_some _ e, turn_long _, ⟨rfl, Heap.get?_push_size _ rfl⟩, fun b hb => ?_, q⟩
  rw [List.mem_singleton.mp hb]
  exact Inv.fpOk I1 (Nat.le_refl _) (I1.hok.fresh (Nat.le_refl _))
def iRng1N : TA → TI := fun ta σ H R => ta σ H fun vs H1 => ∃ j : Int, vs = [.int j] ∧ ((-2 ^ 62 ≤ j ∧ j < 2 ^ 62) ∨ j < -2 ^ 63) ∧ R (Itr 0 j.toNat) H1
theorem pi_range1N {X : Cx} {tg a : Expr} {ta : TA} {p pos : Pos} (hg : Gl X "range") (hm : X.mg "range" = none) (ha : PA X [a] ta) (hs : starEach [a] X.env = [(false, eval a X.env)] := by rfl) : PI X tg (.Call (.Name "range" p) [a] [] pos) (iRng1N ta) where
  run := fun pins s σ H R I h => by
    refine Call_ (ld_blt I hg hm boot_range (PyProof.Rows.callWith_type1 (he := hs) (thn (ha.run pos pins s σ H (fun vs H1 => ∃ j : Int, vs = [.int j] ∧ ((-2 ^ 62 ≤ j ∧ j < 2 ^ 62) ∨ j < -2 ^ 63) ∧ R (Itr 0 j.toNat) H1) I h) fun us s1 x => ?_)))
    obtain ⟨vs, H1, I1, r1, j, rfl, hj, q⟩ := x
    obtain ⟨u, rfl, t, rfl⟩ := r1.one
    refine call_range_1 ?_
    rcases hj with ⟨h1, h2⟩ | h1
    · exact range_it I1 (by decide) (by decide) h1 h2 (by rw [Int.sub_zero]; exact q)
    · refine long_it I1 h1 ?_
      rw [show j.toNat = 0 by omega] at q
      exact q
/-- [f(k) for k in range(n)], n of any size below -/
theorem el_lcRN {σ : L2.St} {H : Hp} {ta : TA} {te : TE} {j : Nat} {vs : List Nat} {n : Int} (f : Nat → V) (h : EvA ta σ H [.int n]) (hN : n ≤ 40000) (hlo : -40000 ≤ n ∨ n < -2 ^ 63) (hw : ∀ x, wipe ((wipe σ vs).set j (some x)) vs = wipe σ vs)
    (he : ∀ (i : Nat) H1, Ex H H1 → i < n.toNat → Ev te ((wipe σ vs).set j (some (.int (i : Int)))) H1 (f i)) :
    EvL (tLc (iRng1N ta) (gName j) tYes te vs) σ H ((List.range n.toNat).map f) := fun H0 e Q q => h H0 e _ fun H1 e1 => ⟨n, rfl, hlo.imp (fun h => ⟨by omega, by omega⟩) (fun h => h), fun Dl hD =>
  lc_range (lo := 0) (n := n.toNat) (fun i H' => H1 Dl = none ∧ Ex H1 H' ∧ H' Dl = some (.lst ((List.range i).map f))) ⟨hD, Ex.new hD, upd_same⟩ (fun i H' hi p => by
    have e0 : (0 : Int) + (i : Int) = (i : Int) := Int.zero_add _
    show wipe ((wipe σ vs).set j (some (.int ((0 : Int) + (i : Int))))) vs = wipe σ vs ∧ _
    rw [e0]
    refine ⟨hw _, MuLc.yes_go ?_⟩
    obtain ⟨p1, p2, p3⟩ := p
    refine he i H' ((e.trans e1).trans p2) hi H' (Ex.refl _) _ fun H4 e4 => ⟨_, e4 _ _ p3, sz_lt (by rw [List.length_map, List.length_range]; omega), p1, Ex.mut (p2.trans e4) p1, ?_⟩
    rw [upd_same, List.range_succ, List.map_append]
    rfl)
    (fun H' p => q Dl H' (fresh_back e1 p.1) (e1.trans p.2.1) p.2.2)⟩
/-- [f(k) for k in range(n) if ..] -/
theorem el_lcRF {σ : L2.St} {H : Hp} {ta : TA} {te : TE} {t : TT} {j : Nat} {vs : List Nat} {n : Int} (g : Nat → Bool) (f : Nat → V) (h : EvA ta σ H [.int n]) (hN : n ≤ 40000) (hlo : -40000 ≤ n) (hw : ∀ x, wipe ((wipe σ vs).set j (some x)) vs = wipe σ vs)
    (ht : ∀ (i : Nat) H1, Ex H H1 → i < n.toNat → EvT t ((wipe σ vs).set j (some (.int (i : Int)))) H1 (g i))
    (he : ∀ (i : Nat) H1, Ex H H1 → i < n.toNat → Ev te ((wipe σ vs).set j (some (.int (i : Int)))) H1 (f i)) :
    EvL (tLc (iRng1 ta) (gName j) t te vs) σ H (((List.range n.toNat).filter g).map f) := fun H0 e Q q => h H0 e _ fun H1 e1 => ⟨n, rfl, by omega, by omega, fun Dl hD =>
  lc_range (lo := 0) (n := n.toNat) (fun i H' => H1 Dl = none ∧ Ex H1 H' ∧ H' Dl = some (.lst (((List.range i).filter g).map f))) ⟨hD, Ex.new hD, upd_same⟩ (fun i H' hi p => by
    have e0 : (0 : Int) + (i : Int) = (i : Int) := Int.zero_add _
    show wipe ((wipe σ vs).set j (some (.int ((0 : Int) + (i : Int))))) vs = wipe σ vs ∧ _
    rw [e0]
    refine ⟨hw _, ?_⟩
    obtain ⟨p1, p2, p3⟩ := p
    refine ht i H' ((e.trans e1).trans p2) hi H' (Ex.refl _) _ fun H3 e3 => ?_
    have zl : (((List.range i).filter g).map f).length ≤ i := by
      rw [List.length_map]
      have := List.length_filter_le g (List.range i)
      rwa [List.length_range] at this
    cases c : g i with
    | true =>
      refine (if_pos rfl).mpr ?_
      refine he i H3 (((e.trans e1).trans p2).trans e3) hi H3 (Ex.refl _) _ fun H4 e4 => ⟨_, (e3.trans e4) _ _ p3, sz_lt (by omega), p1, Ex.mut ((p2.trans e3).trans e4) p1, ?_⟩
      rw [upd_same, List.range_succ, List.filter_append, List.map_append, List.filter_cons, c]
      rfl
    | false =>
      refine ⟨p1, p2.trans e3, ?_⟩
      rw [List.range_succ, List.filter_append, List.filter_cons, c]
      show H3 Dl = some (.lst ((((List.range i).filter g) ++ []).map f))
      rw [List.append_nil]
      exact e3 _ _ p3)
    (fun H' p => q Dl H' (fresh_back e1 p.1) (e1.trans p.2.1) p.2.2)⟩
end MuRn
namespace MuNr
open PySem PySem.Spec PyProof.Rows L2 Evl MuK MuEd
/-- what near_pairs tells: new lists -/
def RNearN (H : Hp) (us : List Str) (m q : Int) : V → Hp → Prop := fun v H' => ∃ (t Dn Dh : Addr), v = .ref t ∧ H' t = some (.tup [.ref Dn, .ref Dh]) ∧ H Dn = none ∧ H Dh = none ∧ Dn ≠ Dh ∧ PsAt true (nearR us m) Dn H' ∧ PsAt false (holdR us m q) Dh H'
section
variable {σ : L2.St} {H : Hp} {ta tb : TE}
theorem s_retX2N {D : Ends} {bs : List Row} {Dh : Addr} (h : EvX ta σ H (fun v H' => ∃ p : Addr, v = .ref p ∧ H p = none ∧ PsAt true bs p H')) (hb : ∀ H1, Ex H H1 → Ev tb σ H1 (.ref Dh)) (k : ∀ t Dn H1, Ex H H1 → H1 t = some (.tup [.ref Dn, .ref Dh]) → H Dn = none → PsAt true bs Dn H1 → D.rt (.ref t) H1) : tRet (tTup (tCons ta (tCons tb tNil))) D σ H :=
  h H (Ex.refl H) _ fun v H1 e1 r => by
    obtain ⟨Dn, rfl, hd, hn⟩ := r
    exact hb H1 e1 H1 (Ex.refl _) _ fun H2 e2 => ⟨sz_of (by simp), fun t ht => k t Dn _ ((e1.trans e2).trans (Ex.new ht)) upd_same hd (hn.later (e2.trans (Ex.new ht)))⟩
theorem PsAt.off {w : Bool} {bs : List Row} {p q : Addr} {H : Hp} {xs : List V} {o : HO} (h : PsAt w bs p H) (hq : H q = some (.lst xs)) (ne : p ≠ q) : PsAt w bs p (upd H q o) := by
  obtain ⟨cs, h1, h2, h3⟩ := h
  refine ⟨cs, (upd_ne ne).trans h1, h2, fun c m => (upd_ne fun z => ?_).trans (h3 c m)⟩
  have := h3 c m
  rw [z, hq] at this
  exact nomatch this
/-- rows appended -/
theorem s_appRow {D : Ends} {K : PySem.W.Frag} {w : Bool} {bs : List Row} {b : Row} {p : Addr} (hp : PsAt w bs p H) (ha : Ev ta σ H (.ref p)) (he : EvU tb σ H (rowI w b)) (hz : bs.length < 100000)
    (k : ∀ (H1 : Hp) (xs ys : List V), Ex H H1 → H1 p = some (.lst xs) → PsAt w (bs ++ [b]) p (upd H1 p (.lst ys)) → D.nx σ (upd H1 p (.lst ys))) : tDrop (tBM K "list" rAppend ta (tCons tb tNil)) D σ H := by
  obtain ⟨cs, h1, h2, h3⟩ := hp
  refine s_appX (R := RowAt w b) h1 ha (evx_row he) (by rw [List.length_map, ← List.length_map (f := (·.2)) (as := cs), h2]; exact hz) fun v H1 e1 r => ?_
  obtain ⟨t, rfl, ht⟩ := r
  have hp1 := e1 _ _ h1
  refine k H1 _ _ e1 hp1 ⟨cs ++ [(t, b)], ?_, ?_, fun c m => ?_⟩
  · rw [upd_same, List.map_append]
    rfl
  · rw [List.map_append, h2]
    rfl
  · have hc : H1 c.1 = some (.tup (rowI w c.2)) := by
      rcases List.mem_append.mp m with m | m
      · exact e1 _ _ (h3 c m)
      · rw [List.mem_singleton.mp m]
        exact ht
    refine (upd_ne fun z => ?_).trans hc
    rw [z, hp1] at hc
    exact nomatch hc
theorem q_appRow {D : Ends} {tz : TS} {K : PySem.W.Frag} {w : Bool} {bs : List Row} {b : Row} {p : Addr} (hp : PsAt w bs p H) (ha : Ev ta σ H (.ref p)) (he : EvU tb σ H (rowI w b)) (hz : bs.length < 100000)
    (k : ∀ (H1 : Hp) (xs ys : List V), Ex H H1 → H1 p = some (.lst xs) → PsAt w (bs ++ [b]) p (upd H1 p (.lst ys)) → tz D σ (upd H1 p (.lst ys))) : tSeq (tDrop (tBM K "list" rAppend ta (tCons tb tNil))) tz D σ H := s_appRow (D := { D with nx := tz D }) hp ha he hz k
theorem q_popAt {D : Ends} {tz : TS} {K : PySem.W.Frag} {l : Addr} {xs : List V} {n : Int} {k : Nat} (hl : H l = some (.lst xs)) (ha : Ev ta σ H (.ref l)) (hn : Ev tb σ H (.int n)) (hk : n = k) (lt : k < xs.length) (hz : xs.length ≤ 1000)
    (q : ∀ H1, Ex H H1 → tz D σ (upd H1 l (.lst (xs.eraseIdx k)))) : tSeq (tDrop (tBM K "list" rPopAt ta (tCons tb tNil))) tz D σ H := by
  refine ha H (Ex.refl H) _ fun H1 e1 => ⟨.inl ⟨rfl, xs, sq_of (e1 l _ hl)⟩, ?_⟩
  refine hn H1 e1 _ fun H2 e2 => ?_
  refine ⟨l, xs, n, k, xs[k], rfl, rfl, (e1.trans e2) l _ hl, by omega, by omega, ?_, List.getElem?_eq_getElem lt, q H2 (e1.trans e2)⟩
  rw [hk]
  unfold seqIndex?
  have c : ¬ ((k : Int) < 0) := by omega
  simp only [if_neg c]
  rw [if_pos (by simp; omega)]
  simp
theorem rv_neTx {K : PySem.W.Frag} {a b : Addr} {ws : List Str} (ha : SqL K H a (ws.map V.str)) (hb : SqL K H b (ws.map V.str)) : RV (MuBag.rNeV K) (.ref a) (.ref b) H (.bl false) := fun H1 e Q q => ⟨a, b, _, _, 1, rfl, rfl, ex_l e ha, ex_l e hb, by decide, texts_eq (n := 0) ws, q H1 (Ex.refl H1)⟩
theorem RNearN.of {H0 : Hp} {us : List Str} {m q : Int} {v : V} {H1 : Hp} (h : RNearN H0 us m q v H1) : RNear us m q v H1 := by
  obtain ⟨t, Dn, Dh, rfl, ht, _, _, _, hn, hh⟩ := h
  exact ⟨t, Dn, Dh, rfl, ht, hn, hh⟩
/-- what is told, as data -/
def nearD (us : List Str) (m q : Int) : PyData := .tuple [.list ((nearR us m).map (rowD true)), .list ((holdR us m q).map (rowD false))]
theorem near_dp {K : PySem.W.Frag} {us : List Str} {m q : Int} {v : V} (h : RNear us m q v H) : Dp K H v (nearD us m q) := by
  obtain ⟨t, Dn, Dh, rfl, ht, hn, hh⟩ := h
  exact .tup (st_of ht) (.cons (ps_dp hn) (.cons (ps_dp hh) .nil))
theorem near_lay (us : List Str) (m q : Int) : (nearD us m q).canLay0 = true ∧ SeqAt.shaped (nearD us m q) = true := by
  obtain ⟨a1, a2⟩ := rows_lay true (nearR us m)
  obtain ⟨b1, b2⟩ := rows_lay false (holdR us m q)
  have e : (nearD us m q).canLay0 = true := by
    unfold nearD
    simp only [PyData.canLay0, PyData.canLayAll0, a1, b1, Bool.and_self]
  refine ⟨e, ?_⟩
  unfold SeqAt.shaped
  rw [e]
  unfold nearD
  simp only [PyData.depth, PyData.depthAll, Bool.true_and]
  refine decide_eq_true ?_
  omega
theorem ev_neN {K : PySem.W.Frag} {us : List Str} {m q : Int} (ha : EvX ta σ H (RNear us m q)) (hb : ∀ H1, Ex H H1 → EvX tb σ H1 (RNear us m q)) (lat : ∀ v H1 H2, RNear us m q v H1 → Ex H1 H2 → RNear us m q v H2) : Ev (tOp (rNeD K) ta tb) σ H (.bl false) :=
  MuTri.ev_neX ha (fun _ H1 e _ => hb H1 e) fun v1 H1 v2 H2 _ r1 e2 r2 => ⟨_, near_dp (lat _ _ _ r1 e2), near_dp r2, (near_lay us m q).2, (near_lay us m q).1⟩
theorem ev_eqN {K : PySem.W.Frag} {us : List Str} {m q : Int} (ha : EvX ta σ H (RNear us m q)) (hb : ∀ H1, Ex H H1 → EvX tb σ H1 (RNear us m q)) (lat : ∀ v H1 H2, RNear us m q v H1 → Ex H1 H2 → RNear us m q v H2) : Ev (tOp (rEqD K) ta tb) σ H (.bl true) :=
  MuTri.ev_eqX ha (fun _ H1 e _ => hb H1 e) fun v1 H1 v2 H2 _ r1 e2 r2 => ⟨_, near_dp (lat _ _ _ r1 e2), near_dp r2, (near_lay us m q).2, (near_lay us m q).1⟩
theorem RNear.later {us : List Str} {m q : Int} {v : V} {H1 H2 : Hp} (h : RNear us m q v H1) (e : Ex H1 H2) : RNear us m q v H2 := by
  obtain ⟨t, Dn, Dh, rfl, ht, hn, hh⟩ := h
  exact ⟨t, Dn, Dh, rfl, e _ _ ht, hn.later e, hh.later e⟩
/-- f(new list, new list) -/
theorem ev_call2L {Dd : Hp → List V → V → Prop} {E : XK} {xs ys : List V} {v : V} (ha : EvL ta σ H xs) (hb : ∀ H1, Ex H H1 → EvL tb σ H1 ys) (hs : ∀ a b H1, H1 a = some (.lst xs) → H1 b = some (.lst ys) → Dd H1 [.ref a, .ref b] v) : Ev (tCall (SpVal Dd) [] E (tCons ta (tCons tb tNil))) σ H v := fun H0 e Q q =>
  ha H0 e _ fun a H1 _ e1 h1 => hb H1 (e.trans e1) H1 (Ex.refl _) _ fun b H2 _ e2 h2 => ⟨v, by rw [List.append_nil]; exact hs a b H2 (e2 _ _ h1) h2, fun H3 e3 => q H3 ((e1.trans e2).trans e3)⟩
/-- a list of new tuples -/
def EaU (ta : TA) (σ : L2.St) (H : Hp) (rows : List (List V)) : Prop := ∀ H1, Ex H H1 → ∀ Q : List V → Hp → Prop, (∀ (ps : List Addr) (H2 : Hp), Ex H1 H2 → Paired (fun p r => H2 p = some (.tup r)) ps rows → Q (ps.map V.ref) H2) → ta σ H1 Q
theorem eaU_nil : EaU tNil σ H [] := fun H1 e Q q => q [] H1 (Ex.refl _) .nil
theorem eaU_cons {tr : TA} {r : List V} {rows : List (List V)} (h : EvU ta σ H r) (hr : ∀ H1, Ex H H1 → EaU tr σ H1 rows) : EaU (tCons ta tr) σ H (r :: rows) := fun H0 e Q q =>
  h H0 e _ fun p H1 _ e1 h1 => hr H1 (e.trans e1) H1 (Ex.refl _) _ fun ps H2 e2 pr => q (p :: ps) H2 (e1.trans e2) (.cons (e2 _ _ h1) pr)
theorem q_forPairs {tr : TA} {rows : List (Int × Int)} {i j : Nat} {D : Ends} {tu tz : TS} {K : PySem.W.Frag} (h : EaU tr σ H (rows.map fun r => [.int r.1, .int r.2])) (hz : rows.length ≤ 1000) (Pv : L2.St → Hp → Prop) (h0 : ∀ H1, Ex H H1 → Pv σ H1)
    (hs : ∀ (r : Int × Int) σ' H', r ∈ rows → Pv σ' H' → ∀ (Pv2 : L2.St → Hp → Prop), (∀ σ2 H2, Ex H' H2 → Pv σ2 H2 → Pv2 σ2 H2) → tu { D with nx := Pv2, ct := Pv2, bk := tz D } ((σ'.set i (some (.int r.1))).set j (some (.int r.2))) H') (hd : ∀ σ' H', Pv σ' H' → tz D σ' H') : tSeq (tFor (iList K (tLst tr)) (gTup K 2 (gCons (gName i) (gCons (gName j) gNil))) tu) tz D σ H := by
  refine h H (Ex.refl H) _ fun ps H1 e1 pr => ⟨sz_of (by have := Paired.length pr; simp at this ⊢; omega), fun l hl => ?_⟩
  have eL := Ex.new (o := .lst (ps.map V.ref)) hl
  have hl2 : upd H1 l (.lst (ps.map V.ref)) l = some (.lst (ps.map V.ref)) := upd_same
  have pr2 : Paired (fun p r => upd H1 l (.lst (ps.map V.ref)) p = some (.tup r)) ps (rows.map fun r => [.int r.1, .int r.2]) := by
    clear hl2 h hz
    generalize rows.map (fun r => [V.int r.1, .int r.2]) = rr at pr
    clear h0 hs hd
    revert eL
    generalize upd H1 l (.lst (ps.map V.ref)) = H3
    intro eL
    induction pr with
    | nil => exact .nil
    | cons a _ ih => exact .cons (eL _ _ a) ih
  generalize upd H1 l (.lst (ps.map V.ref)) = H3 at eL hl2 pr2 ⊢
  have e3 := e1.trans eL
  refine (q_forLG (K := K) (tl := tC (.ref l)) (a := l) (xs := ps.map V.ref) (D := D) (tz := tz) ev_c (sq_of hl2) (fun _ σ' H' => Ex H3 H' ∧ Pv σ' H') (fun H4 e4 => ⟨e4, h0 H4 (e3.trans e4)⟩) (fun n σ' H' _ hq => sq_of (hq.1 _ _ hl2)) (fun n x σ' H' hxn hq => ?_) fun σ' H' hq => hd σ' H' hq.2)
  obtain ⟨p, r, hp, hr, rfl⟩ : ∃ (p : Addr) (r : Int × Int), H3 p = some (.tup [.int r.1, .int r.2]) ∧ r ∈ rows ∧ x = .ref p := by
    rw [List.getElem?_map] at hxn
    obtain ⟨p, hp, rfl⟩ := Option.map_eq_some_iff.mp hxn
    obtain ⟨y, hy, fy⟩ := paired_get pr2 hp
    obtain ⟨r, hr, rfl⟩ := List.mem_map.mp (List.mem_of_getElem? hy)
    exact ⟨p, r, fy, hr, rfl⟩
  exact ⟨p, [.int r.1, .int r.2], rfl, st_of (hq.1 _ _ hp), rfl, .int r.1, [.int r.2], rfl, .int r.2, [], rfl, rfl, hs r σ' H' hr hq.2 _ fun σ2 H2 e2 h2 => ⟨hq.1.trans e2, h2⟩⟩
theorem el_slN {K : PySem.W.Frag} {tl th : TO} {xs : List V} {lo hi : Option Int} (h : EvL ta σ H xs) (h1 : EvO tl σ H lo) (h2 : EvO th σ H hi) : EvL (tSl (rSlL K) ta tl th) σ H (cutV xs lo hi) := fun H1 e _ q =>
  h H1 e _ fun a H2 ha e2 hs => h1 H2 (e.trans e2) _ fun H3 e3 => h2 H3 ((e.trans e2).trans e3) _ fun H4 e4 =>
    ⟨a, xs, rfl, ex_l (e3.trans e4) (sq_of hs), fun p hp => q p _ (fresh_back ((e2.trans e3).trans e4) hp) (((e2.trans e3).trans e4).trans (Ex.new hp)) upd_same⟩
theorem s_clear {D : Ends} {K : PySem.W.Frag} {l : Addr} {xs : List V} (hl : H l = some (.lst xs)) (ha : Ev ta σ H (.ref l)) (q : ∀ H1, Ex H H1 → D.nx σ (upd H1 l (.lst []))) : tDrop (tBM0 K "list" rClear ta) D σ H := by
  refine ha H (Ex.refl H) _ fun H1 e1 => ⟨.inl ⟨rfl, xs, sq_of (e1 l _ hl)⟩, ?_⟩
  exact ⟨l, xs, rfl, rfl, e1 l _ hl, q H1 e1⟩
/-- [.. for a, b, c in rows if ..], none of them -/
theorem evx_lcNo3 {K : PySem.W.Frag} {tl te : TE} {a : Addr} {bs : List Row} {t : TT} {g : TG} {vs : List Nat} (h : Ev tl σ H (.ref a)) (hx : PsAt true bs a H) (hz : bs.length ≤ 40000)
    (hs : ∀ (b : Row) (x : V) (H' : Hp), b ∈ bs → RowAt true b x H' → Ex H H' → ∃ σn : L2.St, wipe σn vs = wipe σ vs ∧ (∀ k : L2.St → Hp → Prop, k σn H' → g x (wipe σ vs) H' k) ∧ EvT t σn H' false) : EvX (tLc (iList K tl) g t te vs) σ H (fun v H' => ∃ p : Addr, v = .ref p ∧ H' p = some (.lst [])) := by
  obtain ⟨ys, hys, pr⟩ := of_ps hx
  refine evx_mono (MuLc.evx_lcP (K := K) (α := Row) (d := ((0, 0), 0)) (ps := bs) (fun b y H => RowAt true b y H) (fun _ => false) (fun b y H => RowAt true b y H) h (sq_of hys) pr hz (fun b x H' mb hx e => ?_) (fun p y H1 H2 r e => r.later e) (fun p y H1 D zs o r hD => r.stay hD)) fun v H1 e r => ?_
  · obtain ⟨σn, s1, s2, s3⟩ := hs b x H' mb (hx.later e) e
    exact ⟨σn, s1, s2, s3, fun hf => nomatch hf⟩
  · obtain ⟨D2, zs, rfl, _, h5, r⟩ := r
    have e : bs.filter (fun _ => false) = [] := List.filter_eq_nil_iff.mpr fun _ _ h => absurd h (by decide)
    rw [e] at r
    cases r
    exact ⟨D2, rfl, h5⟩
theorem ev_eqNilV {K : PySem.W.Frag} {a : Addr} (ha : Ev ta σ H (.ref a)) (hx : H a = some (.lst [])) (hb : EvL tb σ H []) : Ev (tOp (rNil K true) ta tb) σ H (.bl true) := fun H1 e Q q =>
  ha H1 e _ fun H2 e2 => hb H2 (e.trans e2) _ fun p H3 hp e3 h3 => ⟨a, p, [], rfl, rfl, sq_of (((e.trans e2).trans e3) _ _ hx), sq_of h3, q H3 (e2.trans e3)⟩
/-- ([], []) -/
theorem evx_none (m q : Int) : EvX (tTup (tCons (tLst tNil) (tCons (tLst tNil) tNil))) σ H (RNear [] m q) := fun H1 e Q k => ⟨sz_of (by simp), fun a ha => ⟨sz_of (by simp), fun b hb => ⟨sz_of (by simp), fun t ht => k _ _ (((Ex.new ha).trans (Ex.new hb)).trans (Ex.new ht)) ⟨t, a, b, rfl, upd_same, ⟨[], ((Ex.new hb).trans (Ex.new ht)) _ _ upd_same, rfl, fun _ m => nomatch m⟩, ⟨[], (Ex.new ht) _ _ upd_same, rfl, fun _ m => nomatch m⟩⟩⟩⟩⟩
theorem RNearN.back {H0 H1 : Hp} {us : List Str} {m q : Int} {v : V} {H2 : Hp} (e : Ex H0 H1) (h : RNearN H1 us m q v H2) : RNearN H0 us m q v H2 := by
  obtain ⟨t, Dn, Dh, rfl, ht, h1, h2, ne, hn, hh⟩ := h
  exact ⟨t, Dn, Dh, rfl, ht, fresh_back e h1, fresh_back e h2, ne, hn, hh⟩
/-- anything appended -/
theorem q_appAny {D : Ends} {tz : TS} {K : PySem.W.Frag} {l : Addr} {zs xs : List V} (hl : H l = some (.lst zs)) (ha : Ev ta σ H (.ref l)) (h : EvU tb σ H xs) (hz : zs.length < 100000) (k : ∀ H1 ys, Ex H H1 → tz D σ (upd H1 l (.lst ys))) : tSeq (tDrop (tBM K "list" rAppend ta (tCons tb tNil))) tz D σ H :=
  s_appX (D := { D with nx := tz D }) (R := fun _ _ => True) hl ha (fun H1 e Q q => h H1 e Q fun p H2 _ e2 _ => q _ _ e2 trivial) hz fun v H1 e _ => k H1 _ e
end
section
variable {X : Cx}
theorem op_eqNil (hu : X.A.units + 64 < cLine) : OpR X (compareOp .Eq) (rNil X.K true) := by
  intro pins s σ H x y v u Q I rx ry h
  obtain ⟨a, b, xs, rfl, rfl, ha, hb, q⟩ := h
  obtain rfl : v = Value.ref a := rx
  obtain rfl : u = Value.ref b := ry
  obtain ⟨us, r1, p1, _⟩ := I.list ha
  obtain ⟨ws, r2, p2, _⟩ := I.list hb
  cases r2
  have hu2 : X.A.units < cLine := by omega
  cases r1 with
  | nil => exact SeqAt.RcAt.lists (e := fun _ => true) p1.isList p2.isList rfl hu2 (fun j h1 _ => absurd h1 (Nat.not_lt_zero j)) _ _ _ _ ⟨.bl true, H, I, rfl, q⟩
  | cons r rr => exact SeqAt.RcAt.lists_lengths p1.isList p2.isList (by simp) hu2 _ _ _ _ ⟨.bl false, H, I, rfl, q⟩
end
end MuNr

namespace MuSc
open PySem PySem.Spec PyProof.Rows L2 MuSet
/-! ### {e for a in xs for b in ys}, e a text -/
abbrev cs (e ta ia tb ib : Expr) (sc : Scope) (ps : Pos) : Expr := .SetComp e [⟨ta, ia, [], 0⟩, ⟨tb, ib, [], 0⟩] sc ps
abbrev lp (e ta ia tb ib : Expr) (sc : Scope) (ps : Pos) (k : Nat) (it acc : Value) (env : Env) : Code := .compLoop (cs e ta ia tb ib sc ps) k it acc env
abbrev st1 (e ta ia tb ib : Expr) (sc : Scope) (ps : Pos) (k : Nat) (it acc : Value) (env : Env) : Code := .compStart (cs e ta ia tb ib sc ps) k it acc env
section
variable {prog : Program} {w : World} {A : Around} {R : Result → Shared → Prop} {s : Shared} {e ta ia tb ib : Expr} {sc : Scope} {ps : Pos} {it acc : Value} {env : Env}
abbrev er (prog : Program) (w : World) (A : Around) (env : Env) (R : Result → Shared → Prop) : Value → Shared → Prop := notedBy (model prog w) A env fun x s' => R (.error x) s'
theorem turn_b : compTurn (cs e ta ia tb ib sc ps) 1 it acc env = (do
      standAt ib.pos
      match ← pyNext it with
      | none => pure (.done .next)
      | some y =>
        letOwnedTupleGo tb it y
        assign tb env y
        let mut go := true
        for c in ([] : List Expr) do
          if go then go ← isTrue c env (eval c env)
        if go then
          (do let y ← eval e env; standAt e.pos; let _ ← call (.builtin "set.add") [acc, y])
        again (lp e ta ia tb ib sc ps 1 it acc env)) := by rfl
theorem turn_a : compTurn (cs e ta ia tb ib sc ps) 0 it acc env = (do
      standAt ia.pos
      match ← pyNext it with
      | none => pure (.done .next)
      | some y =>
        letOwnedTupleGo ta it y
        assign ta env y
        let mut go := true
        for c in ([] : List Expr) do
          if go then go ← isTrue c env (eval c env)
        if go then
          let y ← eval ib env
          standAt ib.pos
          let y ← foldedSetIterable ib env y
          let _ ← runOwn (st1 e ta ia tb ib sc ps 1 (← holding [y] (pyIter y)) acc env) env
        again (lp e ta ia tb ib sc ps 0 it acc env)) := by rfl
theorem loop_b (J : Nat → Shared → Prop)
    (step : ∀ n s, J n s → wpAny (model prog w) A (pyNext it) (fun r s1 => match r with
      | none => R (.ok .next) s1
      | some y => wpAny (model prog w) A (letOwnedTupleGo tb it y) (fun _ s2 => wpAny (model prog w) A (assign tb env y) (fun _ s3 => wpAny (model prog w) A (eval e env) (fun x s4 =>
          wpAny (model prog w) A (call (.builtin "set.add") [acc, x]) (fun _ s5 => ∃ m, m < n ∧ J m s5) (er prog w A env R) s4) (er prog w A env R) s3) (er prog w A env R) s2) (er prog w A env R) s1) (er prog w A env R) s)
    (n : Nat) (h : J n s) : codeAny (model prog w) A (lp e ta ia tb ib sc ps 1 it acc env) R s := by
  refine codeAny_loop rfl J (fun n s j => ?_) n h
  show wpAny _ A ((compTurn (cs e ta ia tb ib sc ps) 1 it acc env).onRaise (fun x => do noteFrame x env; theTreesLotGoes x)) _ _ s
  refine wpAny_noted ?_
  rw [turn_b]
  refine wpAny_bind (wpAny_standAt (wpAny_bind (wpAny_mono (step n s j) (fun r s1 h1 => ?_) fun _ _ z => z)))
  cases r with
  | none => exact wpAny_pure h1
  | some y =>
    refine wpAny_bind (wpAny_mono h1 (fun _ s2 h2 => wpAny_bind (wpAny_mono h2 (fun _ s3 h3 => ?_) fun _ _ z => z)) fun _ _ z => z)
    refine wpAny_bind (wpAny_tests_nil ?_)
    exact wpAny_bind (wpAny_bind (wpAny_mono h3 (fun x s4 h4 => wpAny_bind (wpAny_standAt (wpAny_bind (wpAny_mono h4 (fun _ s5 h5 => wpAny_pure (wpAny_pure ⟨rfl, h5⟩)) fun _ _ z => z)))) fun _ _ z => z))
theorem loop_a (fold : ∀ x, foldedSetIterable ib env x = pure x) (J : Nat → Shared → Prop)
    (step : ∀ n s, J n s → wpAny (model prog w) A (pyNext it) (fun r s1 => match r with
      | none => R (.ok .next) s1
      | some y => wpAny (model prog w) A (letOwnedTupleGo ta it y) (fun _ s2 => wpAny (model prog w) A (assign ta env y) (fun _ s3 => wpAny (model prog w) A (eval ib env) (fun x s4 => wpAny (model prog w) A (pyIter x) (fun jt s5 =>
          codeAny (model prog w) A (st1 e ta ia tb ib sc ps 1 jt acc env) (fun r s6 => match r with
            | .ok _ => ∃ m, m < n ∧ J m s6
            | .error _ => False) s5) (er prog w A env R) s4) (er prog w A env R) s3) (er prog w A env R) s2) (er prog w A env R) s1) (er prog w A env R) s)
    (n : Nat) (h : J n s) : codeAny (model prog w) A (lp e ta ia tb ib sc ps 0 it acc env) R s := by
  refine codeAny_loop rfl J (fun n s j => ?_) n h
  show wpAny _ A ((compTurn (cs e ta ia tb ib sc ps) 0 it acc env).onRaise (fun x => do noteFrame x env; theTreesLotGoes x)) _ _ s
  refine wpAny_noted ?_
  rw [turn_a]
  refine wpAny_bind (wpAny_standAt (wpAny_bind (wpAny_mono (step n s j) (fun r s1 h1 => ?_) fun _ _ z => z)))
  cases r with
  | none => exact wpAny_pure h1
  | some y =>
    refine wpAny_bind (wpAny_mono h1 (fun _ s2 h2 => wpAny_bind (wpAny_mono h2 (fun _ s3 h3 => ?_) fun _ _ z => z)) fun _ _ z => z)
    refine wpAny_bind (wpAny_tests_nil ?_)
    refine wpAny_bind (wpAny_mono h3 (fun x s4 h4 => ?_) fun _ _ z => z)
    refine wpAny_bind (wpAny_standAt (wpAny_bind (wpAny_of_eq (fold x) (wpAny_bind (wpAny_holding (wpAny_mono h4 (fun jt s5 h5 => ?_) fun _ _ z => z))))))
    refine wpAny_bind (wpAny_runOwn ?_)
    rw [Around.mark_none]
    refine codeAny_mono h5 fun r s6 hr => ?_
    cases r with
    | ok f => first | exact wpAny_pure ⟨rfl, hr⟩ | exact wpAny_bind (wpAny_pure (wpAny_pure ⟨rfl, hr⟩))
    | error x => exact hr.elim
theorem start_b (h0 : codeAny (model prog w) A (lp e ta ia tb ib sc ps 1 it acc env) R s)
    (h : wpAny (model prog w) A (pyIter it) (fun jt s1 => codeAny (model prog w) A (lp e ta ia tb ib sc ps 1 jt acc env) R s1) (er prog w A env R) s) :
    codeAny (model prog w) A (st1 e ta ia tb ib sc ps 1 it acc env) R s := by
  refine codeAny_of_tree ?_
  show wpAny _ _ ((compStart (cs e ta ia tb ib sc ps) 1 it acc env).onRaise (fun x => do noteFrame x env; standAt theWindowsPlace)) _ _ s
  refine wpAny_notedAt ?_
  unfold compStart
  show wpAny _ _ (ask >>= _) _ _ s
  refine wpAny_bind (wpAny_askSetting (wpAny_ite ?_))
  split
  · first | exact wpAny_bind (wpAny_pure (wpAny_pure ⟨rfl, h0⟩)) | exact wpAny_pure ⟨rfl, h0⟩
  · first
      | exact wpAny_bind (wpAny_rule (wpAny_bind (wpAny_standAt (wpAny_bind (wpAny_mono h (fun _ _ z => wpAny_pure ⟨rfl, z⟩) fun _ _ z => z)))))
      | (refine wpAny_bind (wpAny_rule ?_); show wpAny _ _ (standAt ib.pos >>= _) _ _ s; exact wpAny_bind (wpAny_standAt (wpAny_bind (wpAny_mono h (fun _ _ z => wpAny_pure ⟨rfl, z⟩) fun _ _ z => z))))
theorem start_a (h0 : codeAny (model prog w) A (lp e ta ia tb ib sc ps 0 it acc env) R s)
    (h : wpAny (model prog w) A (pyIter it) (fun jt s1 => codeAny (model prog w) A (lp e ta ia tb ib sc ps 0 jt acc env) R s1) (er prog w A env R) s) :
    codeAny (model prog w) A (st1 e ta ia tb ib sc ps 0 it acc env) R s := PpSet.codeAny_compStart_set h0 h
/-- set.add of a text -/
theorem tx_addC {a : Addr} {l : List Str} {k : Str} {u : Tok} {E : Value → Shared → Prop} {Q : Value → Shared → Prop} (T : TxS prog w s.heap a l) (hb : l.length + 1 < scanBound)
    (q : ∀ h' l' tk, Heap.SameBut a s.heap h' → TxS prog w h' a l' → (∀ j, j ∈ l' ↔ j ∈ l ∨ j = k) → l'.length ≤ l.length + 1 → Q .none { s with heap := h', toks := tk }) : wpAny (model prog w) A (call (.builtin "set.add") [.ref a, .str k u]) Q E s := by
  refine wpAny_call_entry PySem.F.slot_set_add (tx_type T) PySem.F.entry_set_add ?_ (PySem.F.args_set_add_2 _ _)
  unfold Builtin.«set.add» Builtin.Frozenset.oneOther
  simp only [List.isEmpty_nil, bind_assoc]
  unfold Builtin.Frozenset.addrOf setAdd
  refine wpAny_bind (wpAny_pure ?_)
  try dsimp only
  refine wpAny_bind (wpAny_pure ?_)
  try dsimp only
  refine wpAny_bind (wpAny_holding (wpAny_bind ((PySem.strKind prog w).pyHash (k := k) (PySem.Froz.is_str k u) ?_)))
  refine tx_add (s := { s with toks := s.toks + 1 }) T hb fun h' l' sb T' m ll b => ?_
  show wpAny _ _ (ret Value.none) _ _ _
  exact wpAny_pure ⟨_, rfl, q h' l' _ sb T' m ll⟩
end
section
variable {X : Cx}
theorem add_ok {pins : List (Addr × Obj)} {σ : L2.St} {H : Hp} {s : Shared} {E : Value → Shared → Prop} {D : Addr} {l : List Str} {k : Str} {u : Tok} {Q : Value → Shared → Prop} (I : Inv X pins σ H s) (hD : H D = some (SetTx X.prog X.w D l)) (room : l.length + 1 < scanBound)
    (h : ∀ l' s', (∀ j, j ∈ l' ↔ j ∈ l ∨ j = k) → l'.Nodup → l'.length ≤ l.length + 1 → Inv X pins σ (upd H D (SetTx X.prog X.w D l')) s' → Q .none s') : wpAny (model X.prog X.w) X.A (call (.builtin "set.add") [.ref D, .str k u]) Q E s := by
  refine tx_addC (setTx_get I hD) room fun h' l' tk sb new m ll => ?_
  obtain ⟨y, hy, py⟩ := id new
  exact h l' _ m py.nd ll (I.write (e := D) (t' := tk) (by rw [hD]; trivial) (.inl rfl) (fun b u hb hu => (sb.2 b hb).trans hu) ⟨_, hy⟩ (setTx_new new))
/-- D the new set -/
def tSc2 (P : Program) (w : World) (wa : TI) (ga : TG) (wb : TI) (gb : TG) (te : TE) (vs vb : List Nat) : TE := fun σ H Q => wa σ H fun J H1 => ∀ D, H1 D = none → ∃ W : Nat → Nat → Hp → Prop, (∃ m, W 0 m (upd H1 D (SetTx P w D []))) ∧ ∀ i m H, W i m H →
  (J.stop i H ∧ Q (.ref D) H) ∨ (J.go i H ∧ ∃ Nx : Hp → Prop, (∀ H', Nx H' → ∃ m', m' < m ∧ W (i + 1) m' H') ∧ ∀ x H', J.yld i H x H' → ga x (wipe σ vs) H' fun σ2 H2 => wipe σ2 vs = wipe σ vs ∧
    wb σ2 H2 fun J1 H4 => ∃ W1 : Nat → Nat → Hp → Prop, (∃ m, W1 0 m H4) ∧ ∀ j k H, W1 j k H →
      (J1.stop j H ∧ Nx H) ∨ (J1.go j H ∧ ∃ N1 : Hp → Prop, (∀ H', N1 H' → ∃ k', k' < k ∧ W1 (j + 1) k' H') ∧ ∀ x H', J1.yld j H x H' → gb x (wipe σ2 vb) H' fun σ3 H5 => wipe σ3 vb = wipe σ2 vb ∧
        te σ3 H5 fun y H7 => ∃ (t : Str) (l : List Str), y = .str t ∧ H7 D = some (SetTx P w D l) ∧ l.length + 1 < scanBound ∧ ∀ l', (∀ j, j ∈ l' ↔ j ∈ l ∨ j = t) → l'.Nodup → l'.length ≤ l.length + 1 → N1 (upd H7 D (SetTx P w D l'))))
theorem inner {Y : Cx} {pins : List (Addr × Obj)} {e ta ia tb ib : Expr} {sc : Scope} {ps : Pos} {D it1 : Addr} {fp1 : List Addr} {tn1 : Nat → Heap → Prop} {J1 : It} {H0 : Hp} {s0 : Shared} {σ2 : L2.St} {vb : List Nat} {gb : TG} {te : TE} {Nx : Hp → Prop} {Fin : Shared → Prop} {W1 : Nat → Nat → Hp → Prop} {m1 : Nat}
    (hc : Y.calm = true) (hxe : Y.xe = fun _ _ => False) (pg : PG Y tb gb) (pe : PE Y e te) (I : Inv Y pins σ2 H0 s0) (T : Turn Y.prog Y.w Y.K tb J1 fp1 it1 tn1) (st : tn1 0 s0.heap) (f : ∀ b ∈ fp1, FpOk Y pins H0 b) (w1 : W1 0 m1 H0)
    (turn : ∀ j k H, W1 j k H → (J1.stop j H ∧ Nx H) ∨ (J1.go j H ∧ ∃ N1 : Hp → Prop, (∀ H', N1 H' → ∃ k', k' < k ∧ W1 (j + 1) k' H') ∧ ∀ x H', J1.yld j H x H' → gb x (wipe σ2 vb) H' fun σ3 H5 => wipe σ3 vb = wipe σ2 vb ∧
        te σ3 H5 fun y H7 => ∃ (t : Str) (l : List Str), y = .str t ∧ H7 D = some (SetTx Y.prog Y.w D l) ∧ l.length + 1 < scanBound ∧ ∀ l', (∀ j, j ∈ l' ↔ j ∈ l ∨ j = t) → l'.Nodup → l'.length ≤ l.length + 1 → N1 (upd H7 D (SetTx Y.prog Y.w D l'))))
    (fin : ∀ s' H', Inv Y pins (wipe σ2 vb) H' s' → Nx H' → Fin s') :
    codeAny (model Y.prog Y.w) Y.A (st1 e ta ia tb ib sc ps 1 (.ref it1) (.ref D) Y.env) (fun r s' => match r with
      | .ok _ => Fin s'
      | .error _ => False) s0 := by
  have same : ∀ {H' : Hp}, (∀ b ∈ fp1, H' b = none) → ∀ b ∈ fp1, FpOk Y pins H' b := fun z b hb => ⟨z b hb, (f b hb).2⟩
  have go : codeAny (model Y.prog Y.w) Y.A (lp e ta ia tb ib sc ps 1 (.ref it1) (.ref D) Y.env) (fun r s' => match r with
      | .ok _ => Fin s'
      | .error _ => False) s0 := by
    refine loop_b (fun k s' => ∃ j H', Inv Y pins (wipe σ2 vb) H' s' ∧ tn1 j s'.heap ∧ (∀ b ∈ fp1, H' b = none) ∧ W1 j k H') ?_ m1 ⟨0, H0, I.weak (wipe_length _ _) (fun j v z => (wipe_some z).1), st, fun b hb => (f b hb).1, w1⟩
    rintro k s1 ⟨j, Ha, Ia, sta, na, wa⟩
    rcases turn j k Ha wa with ⟨stop, nx⟩ | ⟨goes, N1, less, step⟩
    · refine thnF (T.done Y rfl rfl rfl hc j _ s1 (wipe σ2 vb) Ha (fun _ _ => False) Ia (same na) sta stop) fun r s2 ⟨hr, I2⟩ => ?_
      subst hr
      exact fin _ _ I2 nx
    · refine thnF (T.item Y rfl rfl rfl hc j _ s1 (wipe σ2 vb) Ha (fun _ _ => False) Ia (same na) sta goes) fun r s2 ⟨u, hr, h2⟩ => ?_
      subst hr
      refine thnF h2 fun _ s3 ⟨x, Hc, Ic, rc, yc, stc, nc⟩ => ?_
      have Ip := Ic.pinned (same nc) (T.obj _ _ stc)
      have pgr := pg.run _ s3 (wipe σ2 vb) Hc x u _ Ip rc (step x Hc yc)
      rw [hxe] at pgr
      refine thnF pgr fun _ s4 ⟨σ4, Hd, Id, wd, qd⟩ => ?_
      have per := pe.run _ s4 σ4 Hd _ Id qd
      rw [hxe] at per
      refine thnF per fun z s5 ⟨yv, He, Ie, re, t, l, ey, hD, hz, nx⟩ => ?_
      subst ey
      obtain ⟨tk, rfl⟩ := (show ∃ tk, z = Value.str t tk from re)
      refine add_ok Ie hD hz fun l' s6 m nd ll I6 => ?_
      obtain ⟨k', hk, w'⟩ := less _ (nx l' m nd ll)
      have pin' : ∀ b ∈ fp1, ∀ o, s3.heap.get? b = some o → s6.heap.get? b = some o ∧ (upd He D (SetTx Y.prog Y.w D l')) b = none := fun b hb o q =>
        let r := I6.pin (b, o) (List.mem_append_right _ (List.mem_append_right _ (mem_pinsAt hb q)))
        ⟨r.1, r.2.1⟩
      refine ⟨k', hk, j + 1, _, I6.unpinned.weak (by rw [← wd, wipe_length]) (fun i v q => by rw [← wd] at q; exact (wipe_some q).1), T.keep _ _ _ stc fun b hb o q => (pin' b hb o q).1, fun b hb => ?_, w'⟩
      obtain ⟨o, q, _⟩ := T.obj _ _ stc b hb
      exact (pin' b hb o q).2
  exact start_b go (T.self Y.A 0 _ _ _ st go)
theorem core {pins : List (Addr × Obj)} {s : Shared} {σ : L2.St} {H : Hp} {Q : VK} {e ta ia tb ib : Expr} {sc : Scope} {own : List (Str × Nat)} {vb : List Nat} {ps : Pos} {wa wb : TI} {ga gb : TG} {te : TE}
    (hc : X.calm = true) (hN : X.N.Nodup) (I : Inv X pins σ H s) (hi : PI X ta ia wa) (ok : BlkOk X.N X.env.scope sc own) (hv : ∀ i ∈ vb, i ∈ own.map (·.2))
    (hga : ∀ (s : Shared) (H : Hp) (C : Addr) (cl : List (Str × Addr)) (fp : List Addr), PG (X.blk s H sc (compEnvC sc cl C X.env) fp) ta ga)
    (hib : ∀ (s : Shared) (H : Hp) (C : Addr) (cl : List (Str × Addr)) (fp : List Addr), PI (X.blk s H sc (compEnvC sc cl C X.env) fp) tb ib wb)
    (hgb : ∀ (s : Shared) (H : Hp) (C : Addr) (cl : List (Str × Addr)) (fp : List Addr), PG (X.blk s H sc (compEnvC sc cl C X.env) fp) tb gb)
    (he : ∀ (s : Shared) (H : Hp) (C : Addr) (cl : List (Str × Addr)) (fp : List Addr), PE (X.blk s H sc (compEnvC sc cl C X.env) fp) e te)
    (hs : ∀ x, foldedSetIterable ia X.env x = pure x) (hs1 : ∀ env x, foldedSetIterable ib env x = pure x)
    (h : tSc2 X.prog X.w wa ga wb gb te (own.map (·.2)) vb σ H Q) :
    wpAny (model X.prog X.w) X.A (eval (cs e ta ia tb ib sc ps) X.env) (EP X pins σ Q) X.xe s := by
  have free : ∀ y ∈ sc.names, y.2 = .free → ∃ c, X.env.cells.lookup y.1 = some c := fun y hy z => (ok.free y hy z).elim (fun k => I.ok.has _ (.inl k)) (fun k => I.ok.has _ (.inr k))
  rw [PpSet.eval_SetComp]
  refine wpAny_comprehension_free (use := none) rfl hs (closure_ok free) ok.kind (fun y hy z => by rw [ok.uniq y hy, z])
    (thn (hi.run pins s σ H _ I h) fun xv s1 hx => thn hx fun itv s2 h2 => ?_)
  obtain ⟨it, fp, tn, J, H2, e0, I2, T, sta, f2, q⟩ := h2
  subst e0
  refine PpSet.newSet_ok (newEnv_comp ?_)
  generalize hD : s2.heap.objs.size = D
  have nD : H2 D = none := I2.hok.fresh (Nat.le_of_eq hD)
  obtain ⟨W, ⟨m0, w0⟩, turn⟩ := q D nD
  generalize hs3 : ({ s2 with heap := s2.heap.push { cls := .type "set", dict := none, data := .set #[] 0 (.fresh 0 0 (!X.w.params.followText "set-order")) } } : Shared) = s3
  have heap3 : s3.heap = s2.heap.push { cls := .type "set", dict := none, data := .set #[] 0 (.fresh 0 0 (!X.w.params.followText "set-order")) } := by rw [← hs3]
  have I3 : Inv X pins σ (upd H2 D (SetTx X.prog X.w D [])) s3 := by
    rw [← hs3]
    refine I2.laid (t' := s2.toks) (fun b o z => Heap.get?_push_of_some _ z) (Nat.le_of_eq hD) ?_
    rw [← hD]
    exact setTx_new fresh_pay
  have f3 : ∀ b ∈ fp, FpOk X pins (upd H2 D (SetTx X.prog X.w D [])) b ∧ b < s3.heap.objs.size := fun b hb => by
    obtain ⟨o, z, _⟩ := T.obj _ _ sta b hb
    have lt := Heap.lt_size z
    refine ⟨⟨?_, (f2 b hb).2⟩, by rw [heap3, Heap.size_push]; exact Nat.lt_succ_of_lt lt⟩
    rw [upd_ne (by rw [← hD]; exact Nat.ne_of_lt lt)]
    exact (f2 b hb).1
  have sta3 : tn 0 s3.heap := T.keep _ _ _ sta fun b _ o z => by rw [heap3]; exact Heap.get?_push_of_some _ z
  have I4 := block_start I3 ok hN f3
  have pa := hga s3 (upd H2 D (SetTx X.prog X.w D [])) s3.heap.objs.size (cellsFrom (s3.heap.objs.size + 1) sc.names (cloFrom X.env.cells sc.names [])) fp
  have pib := hib s3 (upd H2 D (SetTx X.prog X.w D [])) s3.heap.objs.size (cellsFrom (s3.heap.objs.size + 1) sc.names (cloFrom X.env.cells sc.names [])) fp
  have pb := hgb s3 (upd H2 D (SetTx X.prog X.w D [])) s3.heap.objs.size (cellsFrom (s3.heap.objs.size + 1) sc.names (cloFrom X.env.cells sc.names [])) fp
  have pe := he s3 (upd H2 D (SetTx X.prog X.w D [])) s3.heap.objs.size (cellsFrom (s3.heap.objs.size + 1) sc.names (cloFrom X.env.cells sc.names [])) fp
  show codeAny _ _ (st1 e ta ia tb ib sc ps 0 (.ref it) (.ref D) (compEnvC sc (cellsFrom (s3.heap.objs.size + 1) sc.names (cloFrom X.env.cells sc.names [])) s3.heap.objs.size X.env)) (compPost (model X.prog X.w) X.A X.xe none (EP X pins σ Q) (.ref D) s3.heap.objs.size) { s3 with heap := pushCells (s3.heap.push { cls := .type "dict", data := .dict #[] }) sc.names }
  have nfp : ∀ b ∈ fp, (upd H2 D (SetTx X.prog X.w D [])) b = none := fun b hb => (f3 b hb).1.1
  generalize hce : compEnvC sc (cellsFrom (s3.heap.objs.size + 1) sc.names (cloFrom X.env.cells sc.names [])) s3.heap.objs.size X.env = ce at I4 pa pib pb pe ⊢
  have cL : ce.locals = s3.heap.objs.size := by subst hce; rfl
  generalize hH3 : upd H2 D (SetTx X.prog X.w D []) = H3 at I3 I4 pa pib pb pe w0 nfp f3
  generalize hs4 : ({ s3 with heap := pushCells (s3.heap.push { cls := .type "dict", data := .dict #[] }) sc.names } : Shared) = s4 at I4 ⊢
  have sta4 : tn 0 s4.heap := T.keep _ _ _ sta3 fun b _ o z => by rw [← hs4]; exact pushCells_keeps _ _ _ _ (Heap.get?_push_of_some _ z)
  have okf : ∀ {σ' : L2.St} {H' : Hp} {s' : Shared}, Inv (X.blk s3 H3 sc ce fp) [] σ' H' s' → (∀ b ∈ fp, H' b = none) → ∀ b ∈ fp, FpOk (X.blk s3 H3 sc ce fp) [] H' b := fun {σ' H' s'} I' hn b hb =>
    ⟨hn b hb, (I'.ok.exf b hb).1, I'.ok.exfs b hb, .inl hb, fun x c z => (I'.ok.exf b hb).2 x c z, fun p hp => absurd (show p ∈ ([] : List (Addr × Obj)) ++ [] from hp) (by simp)⟩
  have go : codeAny (model X.prog X.w) X.A (lp e ta ia tb ib sc ps 0 (.ref it) (.ref D) ce) (compPost (model X.prog X.w) X.A X.xe none (EP X pins σ Q) (.ref D) s3.heap.objs.size) s4 := by
    refine loop_a (hs1 ce) (fun n s' => ∃ i H', Inv (X.blk s3 H3 sc ce fp) [] (wipe σ (own.map (·.2))) H' s' ∧ tn i s'.heap ∧ (∀ b ∈ fp, H' b = none) ∧ W i n H') ?_ m0 ⟨0, H3, I4, sta4, nfp, w0⟩
    rintro n s5 ⟨i, H5, I5, st5, n5, w5⟩
    rcases turn i n H5 w5 with ⟨stop, qq⟩ | ⟨goes, Nx, less, step⟩
    · refine thnF (T.done (X.blk s3 H3 sc ce fp) rfl rfl rfl hc i [] s5 _ H5 (fun _ _ => False) I5 (okf I5 n5) st5 stop) fun r s6 ⟨hr, I6⟩ => ?_
      subst hr
      have I7 : Inv X pins σ H5 s6 := I3.call' (ch := fp) I6.os I6.base I6.hok I6.bare fun b hb => ⟨(f3 b hb).1.2.2.2.1, (f3 b hb).1.2.1, (f3 b hb).1.2.2.2.2.1, (f3 b hb).1.2.2.2.2.2⟩
      have nC : H5 s3.heap.objs.size = none := by
        have z : H5 ce.locals = none := I6.free
        rw [cL] at z
        exact z
      obtain ⟨m, hn, _⟩ := I6.loc
      have hn : s6.heap.Ns ce.locals m := hn
      rw [cL] at hn
      obtain ⟨g0, g1, g2, g3, g4, g5⟩ := I3.fpOk (Nat.le_refl _) nC
      exact ⟨m, hn, fun h'' sb => ⟨.ref D, H5, I7.turned (t' := s6.toks) (fun b o hb z => (sb.2 b hb).trans z) nC g1 g3 g4 g5, rfl, qq⟩⟩
    · refine thnF (T.item (X.blk s3 H3 sc ce fp) rfl rfl rfl hc i [] s5 _ H5 (fun _ _ => False) I5 (okf I5 n5) st5 goes) fun r s6 ⟨u, hr, h6⟩ => ?_
      subst hr
      refine thnF h6 fun _ s7 ⟨x, H7, I7, r7, y7, st7, n7⟩ => ?_
      refine thnF (pa.run _ s7 _ H7 x u _ (I7.pinned (okf I7 n7) (T.obj _ _ st7)) r7 (step x H7 y7)) fun _ s8 ⟨σ8, H8, I8, hw8, q8⟩ => ?_
      have hk9 : ∀ (j : Nat) v, (wipe σ (own.map (·.2)))[j]? = some (some v) → (wipe σ8 vb)[j]? = some (some v) := fun j v z => by
        rw [← hw8] at z
        obtain ⟨z1, z2⟩ := wipe_some z
        rw [wipe_out fun y => z2 (hv j y)]
        exact z1
      refine thnF (pib.run _ s8 σ8 H8 _ I8 q8) fun xv s9 hx => thnF hx fun itv s10 h10 => ?_
      obtain ⟨it1, fp1, tn1, J1, H10, e1, I10, T1, st10, f10, W1, ⟨m1, w1⟩, turn1⟩ := h10
      subst e1
      refine inner (Y := X.blk s3 H3 sc ce fp) (σ2 := σ8) (Nx := Nx) hc rfl pb pe I10 T1 st10 f10 w1 turn1 fun s' H' I' nx => ?_
      obtain ⟨m', hm, w'⟩ := less H' nx
      have pin' : ∀ b ∈ fp, ∀ o, s7.heap.get? b = some o → s'.heap.get? b = some o ∧ H' b = none := fun b hb o z =>
        let r := I'.pin (b, o) (List.mem_append_right _ (List.mem_append_right _ (mem_pinsAt hb z)))
        ⟨r.1, r.2.1⟩
      refine ⟨m', hm, i + 1, H', (I'.unpinned (pins := [])).weak (by rw [wipe_length, wipe_length, ← wipe_length σ8 (own.map (·.2)), hw8, wipe_length]) hk9, T.keep _ _ _ st7 fun b hb o z => (pin' b hb o z).1, fun b hb => ?_, w'⟩
      obtain ⟨o, z, _⟩ := T.obj _ _ st7 b hb
      exact (pin' b hb o z).2
  exact start_a go (T.self X.A 0 _ _ _ sta4 go)
theorem pe_sc2 {e ta ia tb ib : Expr} {sc : Scope} {own : List (Str × Nat)} {vb : List Nat} {ps : Pos} {wa wb : TI} {ga gb : TG} {te : TE}
    (hc : X.calm = true) (hN : X.N.Nodup) (hi : PI X ta ia wa) (ok : BlkOk X.N X.env.scope sc own) (hv : ∀ i ∈ vb, i ∈ own.map (·.2))
    (hga : ∀ (s : Shared) (H : Hp) (C : Addr) (cl : List (Str × Addr)) (fp : List Addr), PG (X.blk s H sc (compEnvC sc cl C X.env) fp) ta ga)
    (hib : ∀ (s : Shared) (H : Hp) (C : Addr) (cl : List (Str × Addr)) (fp : List Addr), PI (X.blk s H sc (compEnvC sc cl C X.env) fp) tb ib wb)
    (hgb : ∀ (s : Shared) (H : Hp) (C : Addr) (cl : List (Str × Addr)) (fp : List Addr), PG (X.blk s H sc (compEnvC sc cl C X.env) fp) tb gb)
    (he : ∀ (s : Shared) (H : Hp) (C : Addr) (cl : List (Str × Addr)) (fp : List Addr), PE (X.blk s H sc (compEnvC sc cl C X.env) fp) e te)
    (hs : ∀ x, foldedSetIterable ia X.env x = pure x := by intro _; rfl) (hs1 : ∀ env x, foldedSetIterable ib env x = pure x := by intro _ _; rfl) :
    PE X (.SetComp e [⟨ta, ia, [], 0⟩, ⟨tb, ib, [], 0⟩] sc ps) (tSc2 X.prog X.w wa ga wb gb te (own.map (·.2)) vb) :=
  ⟨fun _ _ _ _ _ I h => core hc hN I hi ok hv hga hib hgb he hs hs1 h⟩
end
end MuSc

namespace MuWo
open PySem PySem.Spec PyProof.Rows L2 Evl MuK MuSet MuSc
section
variable {P : Program} {w : World} {K : PySem.W.Frag} {σ : L2.St} {H : Hp} {te tl : TE} {R : V → Hp → Prop}
/-- {u for us in ls for u in us} -/
theorem evx_sc2 {a : Addr} {ls : List (Addr × List Str)} {i j : Nat} {vs vb : List Nat} (h : Ev tl σ H (.ref a)) (hx : SqL K H a (ls.map fun c => V.ref c.1)) (hat : ∀ c ∈ ls, SqL K H c.1 (c.2.map V.str)) (hz : (ls.map (·.2)).flatten.length ≤ 4000)
    (hw : ∀ x, wipe ((wipe σ vs).set i (some x)) vs = wipe σ vs) (hi : ∀ x, ((wipe σ vs).set i (some x))[i]? = some (some x))
    (hw2 : ∀ x y, wipe ((wipe ((wipe σ vs).set i (some x)) vb).set j (some y)) vb = wipe ((wipe σ vs).set i (some x)) vb) (hj : ∀ x y, ((wipe ((wipe σ vs).set i (some x)) vb).set j (some y))[j]? = some (some y)) :
    EvX (tSc2 P w (iList K tl) (gName i) (iList K (tVar i)) (gName j) (tVar j) vs vb) σ H (fun v H' => ∃ (D : Addr) (l : List Str), v = .ref D ∧ H D = none ∧ H' D = some (SetTx P w D l) ∧ l.Nodup ∧ ∀ u, u ∈ l ↔ ∃ c ∈ ls, u ∈ c.2) := fun H0 e Q q => by
  refine h H0 e _ fun H1 e1 => ⟨a, rfl, ⟨_, ex_l (e.trans e1) hx⟩, fun D hD => ?_⟩
  have e01 := e.trans e1
  let S : Nat → Nat → Hp → Prop := fun n m H' => Ex H1 H' ∧ ∃ l : List Str, H' D = some (SetTx P w D l) ∧ l.Nodup ∧ ∀ u, u ∈ l ↔ (∃ c ∈ ls.take n, u ∈ c.2) ∨ ∃ c, ls[n]? = some c ∧ u ∈ c.2.take m
  have small : ∀ {l : List Str}, l.Nodup → (∀ u ∈ l, ∃ c ∈ ls, u ∈ c.2) → l.length ≤ 4000 := fun nd s => by
    have := nodup_len (m := (ls.map (·.2)).flatten) nd fun u mu => by
      obtain ⟨c, mc, uc⟩ := s u mu
      exact List.mem_flatten.mpr ⟨c.2, List.mem_map.mpr ⟨c, mc, rfl⟩, uc⟩
    omega
  refine ⟨fun n m H' => m = ls.length - n ∧ n ≤ ls.length ∧ S n 0 H', ⟨ls.length, rfl, Nat.zero_le _, Ex.new hD, [], upd_same, List.nodup_nil, fun u => ⟨(fun m => nomatch m), fun z => ?_⟩⟩, ?_⟩
  · rcases z with ⟨c, mc, _⟩ | ⟨c, _, mu⟩
    · exact nomatch mc
    · rw [List.take_zero] at mu
      exact nomatch mu
  rintro n m H' ⟨rfl, hn, e2, l, hl, nd, mem⟩
  have hq := ex_l (e01.trans e2) hx
  by_cases lt : n < ls.length
  · have hc : ls[n]? = some ls[n] := List.getElem?_eq_getElem lt
    generalize ls[n] = c at hc
    have mc := List.mem_of_getElem? hc
    have hcr : (ls.map fun c => V.ref c.1)[n]? = some (.ref c.1) := by rw [List.getElem?_map, hc]; rfl
    refine .inr ⟨⟨_, _, hq, hcr⟩, S (n + 1) 0, fun H2 p2 => ⟨ls.length - (n + 1), by omega, rfl, lt, p2⟩, fun x H2 y => ?_⟩
    obtain ⟨rfl, hx2⟩ := y
    obtain rfl : V.ref c.1 = x := Option.some.inj (hcr.symm.trans (hx2 _ hq))
    refine ⟨hw _, ?_⟩
    refine (ev_var (hi _)) H2 (Ex.refl _) _ fun H4 e4 => ⟨c.1, rfl, ⟨_, ex_l ((e01.trans e2).trans e4) (hat c mc)⟩, ?_⟩
    refine ⟨fun m k H' => k = c.2.length - m ∧ m ≤ c.2.length ∧ S n m H', ⟨c.2.length, rfl, Nat.zero_le _, e2.trans e4, l, e4 _ _ hl, nd, mem⟩, ?_⟩
    rintro m k H5 ⟨rfl, hm, e5, l5, hl5, nd5, mem5⟩
    have hq5 := ex_l (e01.trans e5) (hat c mc)
    have in5 : ∀ u ∈ l5, ∃ c ∈ ls, u ∈ c.2 := fun u mu => by
      rcases (mem5 u).mp mu with ⟨c2, m2, h2⟩ | ⟨c2, m2, h2⟩
      · exact ⟨c2, List.mem_of_mem_take m2, h2⟩
      · exact ⟨c2, List.mem_of_getElem? m2, List.mem_of_mem_take h2⟩
    by_cases lt2 : m < c.2.length
    · have hu : c.2[m]? = some c.2[m] := List.getElem?_eq_getElem lt2
      generalize c.2[m] = u at hu
      have hur : (c.2.map V.str)[m]? = some (.str u) := by rw [List.getElem?_map, hu]; rfl
      refine .inr ⟨⟨_, _, hq5, hur⟩, S n (m + 1), fun H6 p6 => ⟨c.2.length - (m + 1), by omega, rfl, lt2, p6⟩, fun x H6 y => ?_⟩
      obtain ⟨rfl, hx3⟩ := y
      obtain rfl : V.str u = x := Option.some.inj (hur.symm.trans (hx3 _ hq5))
      refine ⟨hw2 _ _, ?_⟩
      refine (ev_var (hj _ _)) H6 (Ex.refl _) _ fun H7 e7 => ⟨u, l5, rfl, e7 _ _ hl5, ?_, fun l' m' nd' len' => ⟨Ex.mut (e5.trans e7) hD, l', upd_same, nd', fun t => ?_⟩⟩
      · have := small nd5 in5
        show l5.length + 1 < 4096
        omega
      · rw [m' t, mem5 t]
        have tk : ∀ z : Str, z ∈ c.2.take (m + 1) ↔ z ∈ c.2.take m ∨ z = u := fun z => by
          rw [List.take_succ, hu, List.mem_append]
          show _ ∨ z ∈ [u] ↔ _
          rw [List.mem_singleton]
        constructor
        · rintro ((z | ⟨c2, g2, z⟩) | rfl)
          · exact .inl z
          · rw [hc] at g2
            obtain rfl := Option.some.inj g2
            exact .inr ⟨_, hc, (tk t).mpr (.inl z)⟩
          · exact .inr ⟨_, hc, (tk t).mpr (.inr rfl)⟩
        · rintro (z | ⟨c2, g2, z⟩)
          · exact .inl (.inl z)
          · rw [hc] at g2
            obtain rfl := Option.some.inj g2
            rcases (tk t).mp z with z | z
            · exact .inl (.inr ⟨_, hc, z⟩)
            · exact .inr z
    · obtain rfl : m = c.2.length := by omega
      refine .inl ⟨⟨_, hq5, by rw [List.length_map]; exact Nat.le_refl _⟩, e5, l5, hl5, nd5, fun t => ?_⟩
      rw [mem5 t]
      have tk : ∀ c2, c2 ∈ ls.take (n + 1) ↔ c2 ∈ ls.take n ∨ c2 = c := fun c2 => by
        rw [List.take_succ, hc, List.mem_append]
        show _ ∨ c2 ∈ [c] ↔ _
        rw [List.mem_singleton]
      constructor
      · rintro (⟨c2, g2, z⟩ | ⟨c2, g2, z⟩)
        · exact .inl ⟨c2, (tk c2).mpr (.inl g2), z⟩
        · rw [hc] at g2
          obtain rfl := Option.some.inj g2
          exact .inl ⟨c, (tk c).mpr (.inr rfl), List.mem_of_mem_take z⟩
      · rintro (⟨c2, g2, z⟩ | ⟨c2, _, z⟩)
        · rcases (tk c2).mp g2 with g2 | rfl
          · exact .inl ⟨c2, g2, z⟩
          · exact .inr ⟨_, hc, by rw [List.take_length]; exact z⟩
        · rw [List.take_zero] at z
          exact nomatch z
  · obtain rfl : n = ls.length := by omega
    refine .inl ⟨⟨_, hq, by rw [List.length_map]; exact Nat.le_refl _⟩, q _ _ (e1.trans e2) ⟨D, l, rfl, fresh_back e01 hD, hl, nd, fun u => ?_⟩⟩
    rw [mem u, List.take_length]
    constructor
    · rintro (z | ⟨c, _, z⟩)
      · exact z
      · rw [List.take_zero] at z
        exact nomatch z
    · exact .inl
/-- sorted(a new set of texts) -/
theorem evx_sortedSt {F : List Str → Prop} (h : EvX te σ H (fun v H' => ∃ (D : Addr) (l : List Str), v = .ref D ∧ H' D = some (SetTx P w D l) ∧ l.length < 64 ∧ F l)) :
    EvX (tCB (rSortedTx P w) (tCons te tNil)) σ H (fun v H' => ∃ (p : Addr) (ys l : List Str), v = .ref p ∧ H p = none ∧ H' p = some (.lst (ys.map V.str)) ∧ sortedS ys = true ∧ ys.Nodup ∧ (∀ u, u ∈ ys ↔ u ∈ l) ∧ F l) := fun H0 e Q q =>
  h H0 e _ fun v H2 e2 r => by
    obtain ⟨D, l, rfl, h2, h64, hF⟩ := r
    exact ⟨D, l, rfl, h2, h64, fun p ys hp so nd mem => q _ _ (e2.trans (Ex.new hp)) ⟨p, ys, l, rfl, fresh_back (e.trans e2) hp, upd_same, so, nd, mem, hF⟩⟩
end
end MuWo

namespace MuSub
open PySem PySem.Spec PyProof.Rows L2 MuSet
/-! ### set - set, of texts, where the first isn't much the larger -/
section
variable {P : Program} {w : World} {A : Around} {E : Value → Shared → Prop} {s : Shared} {h h' : Heap} {a : Addr} {l l' : List Str}
/-- those of the walked ones that the asked set lacks are put into r -/
theorem tx_fillN {r o y : Addr} {lo ly : List Str} {Dy : PySem.Froz.SD} {nm : String} (hro : r ≠ o) (hry : r ≠ y) (py : Pay P w Dy ly) (f : Int × Value → PUnit → Sem (ForInStep PUnit)) (hfd : ∀ e, f e PUnit.unit = (do
        holding [e.2] (do
          let fd ← setFind o e.2 e.1
          let there ← pure fd.isSome
          if (!there) = true then
            let _ ← setAddHashed r e.2 e.1
          else pure PUnit.unit)
        Builtin.Frozenset.unchanged nm y Dy.2.1
        pure (ForInStep.yield PUnit.unit))) : ∀ (es : List (Int × Value)) (ks : List Str) {s : Shared} {lr : List Str} {Q : PUnit → Shared → Prop}, Paired (fun (e : Int × Value) (k : Str) => ∃ tk, e = (hashStr w k, Value.str k tk)) es ks →
    s.heap.get? y = some (PySem.Froz.sObj "set" Dy) → TxS P w s.heap o lo → TxS P w s.heap r lr → lo.length < scanBound → lr.length + es.length < scanBound →
    (∀ h' lr' tk, Heap.SameBut r s.heap h' → TxS P w h' r lr' → (∀ j, j ∈ lr' ↔ j ∈ lr ∨ (j ∈ ks ∧ j ∉ lo)) → Q PUnit.unit { s with heap := h', toks := tk }) →
    wpAny (model P w) A (forIn es PUnit.unit f) Q E s
  | _, _, s, lr, Q, .nil, _, _, hr, _, _, q => by
    rw [List.forIn_nil]
    exact wpAny_pure (q s.heap lr s.toks (Heap.SameBut.refl r s.heap) hr (fun j => by simp))
  | _, _, s, lr, Q, .cons (a := e) (b := k) (l₁ := es) (l₂ := ks) he hes, hoy, ho, hr, hz, hz2, q => by
    obtain ⟨tk, rfl⟩ := he
    rw [List.forIn_cons, hfd]
    obtain ⟨Do, hoo, po⟩ := id ho
    obtain ⟨eo, epo, to⟩ := Do
    have hso : eo.size = lo.length := po.tx.sz
    have hs1 : eo.size < scanBound := by omega
    have hl2 : lr.length + (es.length + 1) < scanBound := by simpa using hz2
    refine wpAny_bind (wpAny_bind (wpAny_holding ?_))
    refine wpAny_bind (PySem.W.setFind_any (knd := PySem.strKind P w) (S := fun j => decide (j ∈ lo)) (k := k) (PySem.Froz.is_str k tk) rfl hoo rfl po.tx.el (fun j => by rw [decide_eq_true_eq]; exact po.tx.mem j) hs1 po.tx.fit fun fd hfd2 => wpAny_bind (wpAny_pure ?_))
    by_cases hk : k ∈ lo
    · rw [if_neg (by rw [hfd2, decide_eq_true hk]; exact Bool.noConfusion)]
      refine wpAny_pure ?_
      refine wpAny_bind (same_epoch hoy py (wpAny_pure ?_))
      refine tx_fillN hro hry py f hfd es ks hes hoy ho hr hz (by omega) fun h2 lr2 tk2 sb2 R2 m2 => q h2 lr2 tk2 sb2 R2 fun j => ?_
      rw [m2, List.mem_cons]
      constructor
      · rintro (z | ⟨z, y⟩)
        · exact .inl z
        · exact .inr ⟨.inr z, y⟩
      · rintro (z | ⟨z | z, y⟩)
        · exact .inl z
        · exact absurd (by rw [z]; exact hk) y
        · exact .inr ⟨z, y⟩
    · rw [if_pos (by rw [hfd2, decide_eq_false hk]; rfl)]
      refine wpAny_bind (tx_add (k := k) (u := tk) hr (by omega) fun h' l' sb R m ll b => ?_)
      refine wpAny_pure ?_
      have hoy' : h'.get? y = some (PySem.Froz.sObj "set" Dy) := by
        rw [sb.2 y (Ne.symm hry)]
        exact hoy
      refine wpAny_bind (same_epoch hoy' py (wpAny_pure ?_))
      refine tx_fillN hro hry py f hfd es ks hes hoy' (ho.at fun u z => by rw [sb.2 o (Ne.symm hro)]; exact z) R hz ?_ fun h2 lr2 tk2 sb2 R2 m2 => q h2 lr2 tk2 (sb.trans sb2) R2 fun j => ?_
      · omega
      · rw [m2, m, List.mem_cons]
        constructor
        · rintro ((z | z) | ⟨z, y⟩)
          · exact .inl z
          · exact .inr ⟨.inl z, by rw [z]; exact hk⟩
          · exact .inr ⟨.inr z, y⟩
        · rintro (z | ⟨z | z, y⟩)
          · exact .inl (.inl z)
          · exact .inl (.inr z)
          · exact .inr ⟨z, y⟩
theorem tx_sub {b : Addr} {la lb : List Str} {nm : String} {Q : Value → Shared → Prop} (Ra : TxS P w s.heap a la) (Rb : TxS P w s.heap b lb) (hq : la.length / 4 ≤ lb.length) (hz : la.length + lb.length < scanBound)
    (q : ∀ h' lr d tk, (∀ c o, s.heap.get? c = some o → h'.get? c = some o) → TxS P w h' s.heap.objs.size lr → (∀ j, j ∈ lr ↔ j ∈ la ∧ j ∉ lb) → Q (.ref s.heap.objs.size) { s with heap := h', drawn := d, toks := tk }) :
    wpAny (model P w) A (Builtin.Frozenset.difference nm a (.ref b)) Q E s := by
  have hlt : ∀ c lc, TxS P w s.heap c lc → c < s.heap.objs.size := fun c lc R => by
    obtain ⟨D, ho, _⟩ := R
    exact Heap.lt_size ho
  have ha := hlt a la Ra
  have hb := hlt b lb Rb
  obtain ⟨Da0, hoa0, pa0⟩ := id Ra
  obtain ⟨Db0, hob0, pb0⟩ := id Rb
  unfold Builtin.Frozenset.difference
  refine wpAny_bind (any_set Rb ?_)
  refine wp_if_neg (by simp) ?_
  try refine wpAny_bind (wpAny_pure ?_)
  unfold Builtin.Frozenset.addrOf
  try refine wpAny_bind (wpAny_pure ?_)
  try dsimp only
  try refine wp_if_neg (by simp) ?_
  try refine wpAny_bind (wpAny_pure ?_)
  unfold Builtin.Frozenset.sizeOf
  try simp only [if_true]
  refine wpAny_bind (wpAny_bind (wpAny_setEntries_of hob0 rfl pb0.tx.fit (wpAny_pure ?_)))
  refine wpAny_bind (wpAny_bind (wpAny_setEntries_of hoa0 rfl pa0.tx.fit (wpAny_pure ?_)))
  refine wp_if_neg (by rw [tx_len pa0, tx_len pb0]; omega) ?_
  try refine wpAny_bind (wpAny_pure ?_)
  refine wpAny_bind ?_
  unfold Builtin.Frozenset.baseOf
  refine wpAny_bind (wpAny_isInstance (tx_type Ra) sub_set_self ?_)
  refine wpAny_pure ?_
  rw [if_pos rfl]
  refine wpAny_bind ?_
  unfold newSet
  refine wpAny_bind (wpAny_byText ?_)
  refine wpAny_newObj_type ?_
  refine wpAny_bind (wpAny_pure ?_)
  generalize hs1 : ({ s with heap := s.heap.push { cls := .type "set", dict := none, data := .set #[] 0 (.fresh 0 0 (!w.params.followText "set-order")) } } : Shared) = s1
  have k1 : ∀ c o, s.heap.get? c = some o → s1.heap.get? c = some o := fun c o e => by
    rw [← hs1]
    exact Heap.get?_push_of_some _ e
  have Rr : TxS P w s1.heap s.heap.objs.size [] := by
    rw [← hs1]
    exact fresh_pay
  have Ra1 := Ra.at (h' := s1.heap) fun o e => k1 a o e
  have Rb1 := Rb.at (h' := s1.heap) fun o e => k1 b o e
  obtain ⟨Dy, hoy, py⟩ := id Ra1
  refine wpAny_bind (wpAny_setEpoch_of hoy rfl py.tx.fit ?_)
  refine wpAny_bind (wpAny_holding ?_)
  refine wpAny_bind (tx_unseen hoy py Rr (by decide) (fun c hc => ?_) fun es h2 d2 pm sb R2 => ?_)
  · rcases List.mem_cons.mp hc with rfl | hc
    · exact ⟨lb, Rb1⟩
    · rw [List.mem_singleton.mp hc]
      exact ⟨[], Rr⟩
  obtain ⟨ks, pk, mk⟩ := strs_keys (P := P) (w := w) es.toList fun e he => py.strs e (pm.mem_iff.mp he)
  rw [← Array.forIn_toList]
  have hne : ∀ c, c < s.heap.objs.size → s.heap.objs.size ≠ c := fun c hc => Ne.symm (Nat.ne_of_lt hc)
  have k2 : ∀ c o, c < s.heap.objs.size → s1.heap.get? c = some o → h2.get? c = some o := fun c o hc e => by
    rw [sb.2 c (Nat.ne_of_lt hc)]
    exact e
  have hkl : es.toList.length ≤ la.length := by
    rw [pm.length_eq, Array.length_toList, tx_len py]
    exact Nat.le_refl _
  have hoy2 : h2.get? a = some (PySem.Froz.sObj "set" Dy) := k2 a _ ha hoy
  refine wpAny_bind (tx_fillN (r := s.heap.objs.size) (o := b) (lo := lb) (nm := nm) (hne b hb) (hne a ha) py _ (fun e => rfl) es.toList ks pk hoy2 (Rb1.at fun o e => k2 b o hb e) R2 (by omega) (by simp only [List.length_nil]; omega) fun h3 l3 tk3 sb3 R3 m3 => ?_)
  refine wpAny_pure ?_
  have fin := q h3 l3 d2 tk3 (fun c o e => by
    have hc := Heap.lt_size e
    rw [sb3.2 c (Nat.ne_of_lt hc)]
    exact k2 c o hc (k1 c o e)) R3 (fun j => by
      rw [m3, mk]
      constructor
      · rintro (z | ⟨⟨e, he, z⟩, y⟩)
        · cases z
        · exact ⟨(py.tx.mem j).mpr ⟨e, pm.mem_iff.mp he, z⟩, y⟩
      · rintro ⟨y, z⟩
        obtain ⟨e, he, v⟩ := (py.tx.mem j).mp y
        exact .inr ⟨⟨e, pm.mem_iff.mpr he, v⟩, z⟩)
  rw [← hs1]
  exact wpAny_pure fin
end
section
variable {X : Cx}
def rSubTx (P : Program) (w : World) : R2 := fun x y H Q => ∃ (a b : Addr) (la lb : List Str), x = .ref a ∧ y = .ref b ∧ H a = some (SetTx P w a la) ∧ H b = some (SetTx P w b lb) ∧ la.length / 4 ≤ lb.length ∧ la.length + lb.length < 4000 ∧
  ∀ c lc, H c = none → lc.Nodup → (∀ j, j ∈ lc ↔ j ∈ la ∧ j ∉ lb) → Q (.ref c) (upd H c (SetTx P w c lc))
theorem entry_set_sub : entryFor table "set.__sub__" = some Builtin.«frozenset.__sub__» := entryFor_alias (id' := "frozenset.__sub__") (by kernel_rfl) rfl (by decide +kernel) (by kernel_rfl)
theorem op_subTx : OpR X (binaryOp .Sub) (rSubTx X.prog X.w) := by
  intro pins s σ H x y v u Q I rx ry h
  obtain ⟨a, b, la, lb, rfl, rfl, ha, hb, hq, hz, q⟩ := h
  obtain rfl : v = Value.ref a := rx
  obtain rfl : u = Value.ref b := ry
  have Ra := setTx_get I ha
  have Rb := setTx_get I hb
  refine wpAny_binaryOp_same (tx_type Ra) (tx_type Rb) F.fills_set_sub F.slot_set_sub ?_
  refine wpAny_call_entry F.slot_set_sub (tx_type Ra) entry_set_sub ?_ (F.args_set_sub_2 _ _)
  unfold Builtin.«frozenset.__sub__»
  refine wpAny_bind (m := Builtin.Frozenset.slot1 "__sub__" _) (wpAny_of_eq (a := (.ref a, .ref b)) (by rfl) ?_)
  refine wpAny_bind (wpAny_bind (any_set Ra ?_))
  refine any_set Rb ?_
  refine wp_if_neg (by simp) ?_
  refine wpAny_bind (m := Builtin.Frozenset.addrOf _) (wpAny_pure ?_)
  refine wpAny_bind (tx_sub Ra Rb hq (by show la.length + lb.length < 4096; omega) fun h' lr d tk k R m => ?_)
  refine wpAny_pure ⟨_, rfl, ?_⟩
  have hn : H s.heap.objs.size = none := I.hok.fresh (Nat.le_refl _)
  have ⟨D, _, p⟩ := R
  refine ⟨fun z => (by cases z), .ref _, upd H s.heap.objs.size (SetTx X.prog X.w s.heap.objs.size lr), ?_, rfl, q _ lr hn p.nd m⟩
  exact I.call (ch := []) (Un.laid k (Nat.le_refl _) hn) (I.hok.laid k (Nat.le_refl _) (setTx_new R)) I.bare (fun _ z => nomatch z)
end
end MuSub

namespace MuLay
open PySem PySem.Spec PyProof.Rows L2
/-! ### a set's table laid anew: masks 7, 15, 31, 63, 127 -/
def Mk (m : Nat) : Prop := m = 7 ∨ m = 15 ∨ m = 31 ∨ m = 63 ∨ m = 127
def pathL (m : Nat) : Nat → Nat → List Nat
  | 0, _ => []
  | n + 1, i => i :: pathL m n ((i * 5 + 1) % (m + 1))
def pathB (m : Nat) : Nat → Nat → Nat
  | 0, _ => 0
  | n + 1, i => 2 ^ i ||| pathB m n ((i * 5 + 1) % (m + 1))
theorem pathB_bit (m j : Nat) : ∀ n i : Nat, (pathB m n i).testBit j = true → j ∈ pathL m n i
  | 0, _, h => by
    unfold pathB at h
    rw [Nat.zero_testBit] at h
    exact nomatch h
  | n + 1, i, h => by
    unfold pathB at h
    rw [Nat.testBit_or, Bool.or_eq_true, Nat.testBit_two_pow, decide_eq_true_eq] at h
    rcases h with h | h
    · exact List.mem_cons.mpr (.inl h.symm)
    · exact List.mem_cons.mpr (.inr (pathB_bit m j n _ h))
def covers (m : Nat) : Bool := (List.range (m + 1)).all fun i => pathB m (m + 2) i == 2 ^ (m + 1) - 1
theorem covers_of {m : Nat} (ok : Mk m) : covers m = true := by
  rcases ok with rfl | rfl | rfl | rfl | rfl
  · decide +kernel
  · decide +kernel
  · decide +kernel
  · decide +kernel
  · decide +kernel
theorem path_all {m i j : Nat} (ok : Mk m) (hi : i ≤ m) (hj : j ≤ m) : j ∈ pathL m (m + 2) i := by
  have h := eq_of_beq (List.all_eq_true.mp (covers_of ok) i (List.mem_range.mpr (by omega)))
  refine pathB_bit m j _ _ ?_
  rw [h, Nat.testBit_two_pow_sub_one, decide_eq_true_eq]
  omega
section
variable {m : Nat} {owner : Array (Option Nat)}
theorem run_le {i : Nat} (hi : i ≤ m) : i ≤ SetTable.runEnd m i ∧ SetTable.runEnd m i ≤ m := by
  unfold SetTable.runEnd
  split <;> omega
theorem free_good : ∀ (f i b : Nat) {k : Nat}, i ≤ m → SetTable.layClean.free m owner f i b = some k → k ≤ m ∧ oAt owner k = none
  | 0, _, _, _, _, h => by cases h
  | f + 1, i, b, k, hi, h => by
    rw [free_succ] at h
    cases hf : List.find? (fun k => (oAt owner (i + k)).isNone) (List.range (SetTable.runEnd m i + 1 - i)) with
    | some k0 =>
      rw [hf] at h
      obtain rfl : i + k0 = k := Option.some.inj h
      have h1 := List.find?_some hf
      have h2 := List.mem_range.mp (List.mem_of_find?_eq_some hf)
      have h3 := run_le hi
      exact ⟨by omega, Option.isNone_iff_eq_none.mp h1⟩
    | none =>
      rw [hf] at h
      exact free_good f _ _ (Nat.le_of_lt_succ (Nat.mod_lt _ (Nat.succ_pos m))) h
theorem free_none {f i b : Nat} (hi : i ≤ m) (h : SetTable.layClean.free m owner (f + 1) i b = none) : oAt owner i ≠ none ∧ SetTable.layClean.free m owner f (SetTable.leap m i b).1 (SetTable.leap m i b).2 = none := by
  rw [free_succ] at h
  cases hf : List.find? (fun k => (oAt owner (i + k)).isNone) (List.range (SetTable.runEnd m i + 1 - i)) with
  | some k0 => rw [hf] at h; cases h
  | none =>
    rw [hf] at h
    refine ⟨fun e => ?_, h⟩
    have h1 := List.find?_eq_none.mp hf 0 (List.mem_range.mpr (by have := run_le hi; omega))
    rw [Nat.add_zero, e] at h1
    exact h1 rfl
theorem free_path : ∀ (f i : Nat), i ≤ m → SetTable.layClean.free m owner f i 0 = none → ∀ x ∈ pathL m f i, oAt owner x ≠ none
  | 0, _, _, _, _, hx => nomatch hx
  | f + 1, i, hi, h, x, hx => by
    obtain ⟨h1, h2⟩ := free_none hi h
    rcases List.mem_cons.mp hx with rfl | hx
    · exact h1
    · exact free_path f _ (Nat.le_of_lt_succ (Nat.mod_lt _ (Nat.succ_pos m))) h2 x hx
theorem free_leaps : ∀ (n f i b : Nat), i ≤ m → b < 32 ^ n → SetTable.layClean.free m owner (f + n) i b = none → ∃ i', i' ≤ m ∧ SetTable.layClean.free m owner f i' 0 = none
  | 0, f, i, b, hi, hb, h => by
    obtain rfl : b = 0 := by simpa using hb
    exact ⟨i, hi, h⟩
  | n + 1, f, i, b, hi, hb, h => by
    obtain ⟨_, h2⟩ := free_none (f := f + n) hi h
    exact free_leaps n f _ _ (Nat.le_of_lt_succ (Nat.mod_lt _ (Nat.succ_pos m))) (by
      show b / 32 < 32 ^ n
      rw [Nat.pow_succ] at hb
      omega) h2
theorem free_some (ok : Mk m) {j : Nat} (hj : j ≤ m) (he : oAt owner j = none) (h : Int) :
    ∃ k, SetTable.layClean.free m owner (SetTable.turns m) (SetTable.bits h % (m + 1)) (SetTable.bits h) = some k ∧ k ≤ m ∧ oAt owner k = none := by
  have hi : SetTable.bits h % (m + 1) ≤ m := Nat.le_of_lt_succ (Nat.mod_lt _ (Nat.succ_pos m))
  cases hf : SetTable.layClean.free m owner (SetTable.turns m) (SetTable.bits h % (m + 1)) (SetTable.bits h) with
  | some k => exact ⟨k, rfl, free_good _ _ _ hi hf⟩
  | none =>
    have hb : SetTable.bits h < 32 ^ 13 := by
      unfold SetTable.bits
      omega
    obtain ⟨i', hi', h'⟩ := free_leaps 13 (m + 2) _ _ hi hb (by rw [show m + 2 + 13 = SetTable.turns m from rfl]; exact hf)
    exact absurd he (free_path _ _ hi' h' j (path_all ok hi' hj))
theorem filterMap_put : ∀ (l : List (Option Nat)) (j x : Nat), l[j]? = some none → ((l.set j (some x)).filterMap id).Perm (x :: l.filterMap id)
  | [], _, _, h => by cases h
  | a :: l, 0, x, h => by
    obtain rfl : a = none := Option.some.inj h
    exact List.Perm.refl _
  | a :: l, j + 1, x, h => by
    have ih := filterMap_put l j x h
    show (((a :: l.set j (some x))).filterMap id).Perm _
    cases a with
    | none => exact ih
    | some y => exact (List.Perm.cons y ih).trans (List.Perm.swap x y _)
theorem oAt_get (hs : owner.size = m + 1) {j : Nat} (hj : j ≤ m) : owner.toList[j]? = some (oAt owner j) := by
  have hlt : j < owner.size := by omega
  show owner.toList[j]? = some (owner.getD j (some 0))
  rw [Array.getElem?_toList, Array.getElem?_eq_getElem hlt, Array.getD_eq_getD_getElem?, Array.getElem?_eq_getElem hlt]
  rfl
theorem some_empty (hs : owner.size = m + 1) {n : Nat} (pm : (owner.toList.filterMap id).Perm (List.range n)) (hn : n < m + 1) : ∃ j, j ≤ m ∧ oAt owner j = none := by
  refine Classical.byContradiction fun no => ?_
  have all : ∀ x ∈ owner.toList, x ≠ none := fun x hx e => by
    obtain ⟨j, hj⟩ := List.mem_iff_getElem?.mp hx
    have hlt : j < owner.size := by
      have := (List.getElem?_eq_some_iff.mp hj).1
      simpa using this
    have h1 := oAt_get (m := m) hs (j := j) (by omega)
    rw [h1] at hj
    exact no ⟨j, by omega, (Option.some.inj hj).trans e⟩
  have len : ∀ (l : List (Option Nat)), (∀ x ∈ l, x ≠ none) → (l.filterMap id).length = l.length := fun l => by
    induction l with
    | nil => intro _; rfl
    | cons a l ih =>
      intro h
      cases a with
      | none => exact absurd rfl (h none List.mem_cons_self)
      | some y =>
        show (l.filterMap id).length + 1 = l.length + 1
        rw [ih fun x hx => h x (List.mem_cons_of_mem _ hx)]
  have h1 := len _ all
  rw [pm.length_eq, List.length_range, Array.length_toList] at h1
  omega
theorem fold_lay (ok : Mk m) : ∀ (hs : List Int) (n : Nat) (owner : Array (Option Nat)), owner.size = m + 1 → (owner.toList.filterMap id).Perm (List.range n) → n + hs.length ≤ m + 1 →
    ∃ o2, List.foldl (stepF m) (some (owner, n)) hs = some (o2, n + hs.length) ∧ o2.size = m + 1 ∧ (o2.toList.filterMap id).Perm (List.range (n + hs.length))
  | [], n, owner, hz, pm, _ => ⟨owner, rfl, hz, pm⟩
  | h :: hs, n, owner, hz, pm, hn => by
    have hn2 : n + (hs.length + 1) ≤ m + 1 := hn
    obtain ⟨j, hj, he⟩ := some_empty hz pm (by omega)
    obtain ⟨k, hf, hk, hke⟩ := free_some ok hj he h
    rw [List.foldl_cons, stepF_some hf]
    have pm2 : ((owner.setIfInBounds k (some n)).toList.filterMap id).Perm (List.range (n + 1)) := by
      rw [Array.toList_setIfInBounds]
      have h1 := filterMap_put owner.toList k n (by rw [oAt_get hz hk, hke])
      refine h1.trans ((List.Perm.cons n pm).trans ?_)
      rw [List.range_succ]
      exact (List.perm_append_singleton n (List.range n)).symm
    obtain ⟨o2, e1, e2, e3⟩ := fold_lay ok hs (n + 1) _ (by rw [Array.size_setIfInBounds]; exact hz) pm2 (by omega)
    refine ⟨o2, ?_, e2, ?_⟩
    · rw [e1]
      show some (o2, n + 1 + hs.length) = some (o2, n + (hs.length + 1))
      rw [show n + 1 + hs.length = n + (hs.length + 1) by omega]
    · show (o2.toList.filterMap id).Perm (List.range (n + (hs.length + 1)))
      rw [show n + (hs.length + 1) = n + 1 + hs.length by omega]
      exact e3
theorem clean_ok (ok : Mk m) (hs : Array Int) (hn : hs.size ≤ m + 1) : ∃ o2, SetTable.layClean m hs = some o2 ∧ o2.size = m + 1 ∧ (o2.toList.filterMap id).Perm (List.range hs.size) := by
  have p0 : ((Array.replicate (m + 1) (none : Option Nat)).toList.filterMap id).Perm (List.range 0) := by
    rw [Array.toList_replicate, List.filterMap_replicate_of_none rfl]
    exact List.Perm.refl _
  obtain ⟨o2, e1, e2, e3⟩ := fold_lay ok hs.toList 0 (Array.replicate (m + 1) none) (Array.size_replicate ..) p0 (by rw [Array.length_toList]; omega)
  refine ⟨o2, ?_, e2, ?_⟩
  · rw [layClean_eq, e1]
    rfl
  · rw [Nat.zero_add, Array.length_toList] at e3
    exact e3
theorem live_snd : ∀ (l : List (Option Nat)) (s : Nat) (g : Nat → Option Nat), (∀ j, j < l.length → l[j]? = some (g (s + j))) →
    ((List.range' s l.length).filterMap (fun j => Option.map (fun x => (j, x)) (g j))).map (·.2) = l.filterMap id ∧ (((List.range' s l.length).filterMap (fun j => Option.map (fun x => (j, x)) (g j))).map (·.1)).Sublist (List.range' s l.length)
  | [], s, g, _ => ⟨rfl, List.Sublist.refl _⟩
  | a :: l, s, g, h => by
    have h0 : a = g s := Option.some.inj (h 0 (Nat.succ_pos _))
    obtain ⟨i1, i2⟩ := live_snd l (s + 1) g fun j hj => by
      have := h (j + 1) (Nat.succ_lt_succ hj)
      rw [show s + (j + 1) = s + 1 + j by omega] at this
      exact this
    show ((List.range' s (l.length + 1)).filterMap _).map _ = _ ∧ (((List.range' s (l.length + 1)).filterMap _).map _).Sublist (List.range' s (l.length + 1))
    rw [List.range'_succ]
    cases a with
    | none =>
      rw [List.filterMap_cons_none (by rw [← h0]; rfl)]
      exact ⟨i1, i2.cons s⟩
    | some x =>
      rw [List.filterMap_cons_some (b := (s, x)) (by rw [← h0]; rfl)]
      exact ⟨congrArg (x :: ·) i1, i2.cons_cons s⟩
theorem all_back (es : List (Int × Value)) : (List.range es.length).filterMap (fun x => es[x]?) = es := by
  have h : ∀ (es : List (Int × Value)) (s : Nat) (g : Nat → Option (Int × Value)), (∀ j, j < es.length → g (s + j) = es[j]?) → (List.range' s es.length).filterMap g = es := fun es => by
    induction es with
    | nil => intro s g _; rfl
    | cons e es ih =>
      intro s g hg
      show (List.range' s (es.length + 1)).filterMap g = _
      rw [List.range'_succ, List.filterMap_cons_some (b := e) (by have := hg 0 (Nat.succ_pos _); exact this), ih (s + 1) g fun j hj => by
        have := hg (j + 1) (Nat.succ_lt_succ hj)
        rw [show s + (j + 1) = s + 1 + j by omega] at this
        exact this]
  rw [List.range_eq_range']
  exact h es 0 _ fun j _ => by rw [Nat.zero_add]
theorem laid_ok (ok : Mk m) (finger moves : Nat) (led plain : Bool) (es : Array (Int × Value)) (hn : es.size ≤ m + 1) :
    ∃ t order, SetTable.laid m finger moves led plain (es.map fun x => x.1) = some (t, order) ∧ (order.filterMap fun x => es[x]?).toList.Perm es.toList ∧ t.mask = m ∧ t.dummies = #[] ∧ t.place.size = es.size ∧ Ris t.place.toList ∧ t.led = led := by
  obtain ⟨o2, e1, e2, e3⟩ := clean_ok ok (es.map fun x => x.1) (by rw [Array.size_map]; exact hn)
  rw [Array.size_map] at e3
  have lv := live_snd o2.toList 0 (fun j => o2.getD j none) fun j hj => by
    have hlt : j < o2.size := by simpa using hj
    rw [Nat.zero_add, Array.getElem?_toList, Array.getD_eq_getD_getElem?, Array.getElem?_eq_getElem hlt]
    rfl
  rw [Array.length_toList, e2, ← List.range_eq_range'] at lv
  obtain ⟨l1, l2⟩ := lv
  generalize hL : (List.range (m + 1)).filterMap (fun j => Option.map (fun x => (j, x)) (o2.getD j none)) = L at l1 l2
  refine ⟨⟨m, (L.map (·.1)).toArray, #[], finger, led, moves, plain⟩, (L.map (·.2)).toArray, ?_, ?_, rfl, rfl, ?_, ?_, rfl⟩
  · unfold SetTable.laid
    rw [e1]
    show some _ = some _
    rw [hL]
  · rw [Array.toList_filterMap]
    have h1 : ((L.map (·.2)).filterMap fun x => es[x]?).Perm ((List.range es.size).filterMap fun x => es[x]?) := (l1 ▸ e3).filterMap _
    refine h1.trans (List.Perm.of_eq ?_)
    have h2 := all_back es.toList
    rw [Array.length_toList] at h2
    simpa using h2
  · show (L.map (·.1)).toArray.size = es.size
    rw [List.size_toArray, List.length_map, ← List.length_map (f := (·.2)) (as := L), l1, e3.length_eq, List.length_range]
  · show ((L.map (·.1)).toArray.toList).Pairwise (· < ·)
    exact List.pairwise_lt_range.sublist l2
end
end MuLay

namespace MuXor
open PySem PySem.Spec PyProof.Rows L2 MuSet MuLay
/-! ### set ^ set, of texts -/
section
variable {P : Program} {w : World} {A : Around} {E : Value → Shared → Prop} {s : Shared} {h h' : Heap} {a : Addr} {l l' : List Str}
theorem tx_find {k : Str} {u : Tok} {Q : Option Nat → Shared → Prop} {D : PySem.Froz.SD} (ho : s.heap.get? a = some (PySem.Froz.sObj "set" D)) (p : Pay P w D l) (hb : l.length < scanBound)
    (q : Q (List.findIdx? (fun e => (PySem.strKind P w).is k e.2) D.1.toList) s) : wpAny (model P w) A (setFind a (.str k u) (hashStr w k)) Q E s := by
  obtain ⟨es, ep, t⟩ := D
  have hel : ElemsOf (PySem.strKind P w) es.toList := p.tx.el
  have hsz : es.size = l.length := p.tx.sz
  have hkey : (PySem.strKind P w).is k (.str k u) = true := PySem.Froz.is_str k u
  unfold setFind setFindIn
  refine (wpAny_bind (wpAny_setState_of ho rfl p.tx.fit ?_))
  dsimp only
  rw [byScan_of rfl (by omega) hel, if_pos rfl]
  refine wpAny_bind (wpAny_rule ?_)
  refine wpAny_bind (wpAny_setScan_of (knd := PySem.strKind P w) (k := k) hkey ho rfl p.tx.fit hel ?_)
  dsimp only at q
  cases hr : List.findIdx? (fun e => (PySem.strKind P w).is k e.2) es.toList with
  | none =>
    rw [hr] at q
    exact wpAny_pure q
  | some j =>
    rw [hr] at q
    dsimp only
    rw [Nat.zero_add]
    exact wpAny_pure q
theorem erase_mem : ∀ (ks : List Str) (i : Nat) (k : Str), ks.Nodup → ks[i]? = some k → ∀ j, j ∈ ks.eraseIdx i ↔ j ∈ ks ∧ j ≠ k
  | [], _, _, _, h, _ => by cases h
  | x :: ks, 0, k, nd, h, j => by
    obtain rfl : x = k := Option.some.inj h
    obtain ⟨n1, n2⟩ := List.nodup_cons.mp nd
    show j ∈ ks ↔ _
    rw [List.mem_cons]
    constructor
    · intro m
      exact ⟨.inr m, fun e => n1 (e ▸ m)⟩
    · rintro ⟨z | z, n⟩
      · exact absurd z n
      · exact z
  | x :: ks, i + 1, k, nd, h, j => by
    obtain ⟨n1, n2⟩ := List.nodup_cons.mp nd
    show j ∈ x :: ks.eraseIdx i ↔ _
    rw [List.mem_cons, erase_mem ks i k n2 h j, List.mem_cons]
    have hk : k ∈ ks := List.mem_of_getElem? h
    constructor
    · rintro (rfl | ⟨m, n⟩)
      · exact ⟨.inl rfl, fun e => n1 (e ▸ hk)⟩
      · exact ⟨.inr m, n⟩
    · rintro ⟨z | z, n⟩
      · exact .inl z
      · exact .inr ⟨z, n⟩
theorem paired_mem : ∀ {es : List (Int × Value)} {ks : List Str}, Paired (fun (e : Int × Value) (k : Str) => ∃ tk, e = (hashStr w k, Value.str k tk)) es ks → ∀ j, j ∈ ks ↔ ∃ e ∈ es, (PySem.strKind P w).is j e.2 = true
  | _, _, .nil, j => by simp
  | _, _, .cons (a := e) (b := k) (l₁ := es) (l₂ := ks) he hes, j => by
    obtain ⟨tk, rfl⟩ := he
    rw [List.mem_cons, paired_mem hes j]
    constructor
    · rintro (rfl | ⟨e, m, z⟩)
      · exact ⟨_, List.mem_cons_self, PySem.Froz.is_str j tk⟩
      · exact ⟨e, List.mem_cons_of_mem _ m, z⟩
    · rintro ⟨e, m, z⟩
      rcases List.mem_cons.mp m with rfl | m
      · exact .inl ((PySem.strKind P w).inj (.str k tk) j k z (PySem.Froz.is_str k tk))
      · exact .inr ⟨e, m, z⟩
theorem paired_len {R : Int × Value → Str → Prop} : ∀ {es : List (Int × Value)} {ks : List Str}, Paired R es ks → es.length = ks.length
  | _, _, .nil => rfl
  | _, _, .cons _ hes => congrArg (· + 1) (paired_len hes)
theorem paired_erase {R : Int × Value → Str → Prop} : ∀ {es : List (Int × Value)} {ks : List Str} (i : Nat), Paired R es ks → Paired R (es.eraseIdx i) (ks.eraseIdx i)
  | _, _, _, .nil => .nil
  | _, _, 0, .cons _ hes => hes
  | _, _, i + 1, .cons he hes => .cons he (paired_erase i hes)
theorem paired_get {R : Int × Value → Str → Prop} : ∀ {es : List (Int × Value)} {ks : List Str} {i : Nat} {e : Int × Value}, Paired R es ks → es[i]? = some e → ∃ k, ks[i]? = some k ∧ R e k
  | _, _, _, _, .nil, h => by cases h
  | _, _, 0, _, .cons he hes, h => by
    obtain rfl := Option.some.inj h
    exact ⟨_, rfl, he⟩
  | _, _, i + 1, _, .cons he hes, h => paired_get (i := i) hes h
theorem erase_list {α : Type} (xs : Array α) (i : Nat) : (SetTable.eraseAt xs i).toList = xs.toList.eraseIdx i := by
  unfold SetTable.eraseAt
  rw [List.eraseIdx_eq_take_drop_succ]
  simp
  exact List.take_of_length_le (by simp)
theorem upd_get {es es' : Array (Int × Value)} {ep : Nat} {t t' : SetTable} (ho : h.get? a = some (PySem.Froz.sObj "set" (es, ep, t))) : (h.update a (Obj.putSet es' t')).get? a = some (PySem.Froz.sObj "set" (es', ep + 1, t')) :=
  (Heap.get?_update_self _ ho rfl).trans rfl
/-- a set of texts with at most n slots given up, its mask m -/
def TxT (P : Program) (w : World) (h : Heap) (a : Addr) (l : List Str) (n m : Nat) : Prop := ∃ D : PySem.Froz.SD, h.get? a = some (PySem.Froz.sObj "set" D) ∧ Pay P w D l ∧ D.2.2.dummies.size ≤ n ∧ D.2.2.mask = m
theorem TxT.at {n m : Nat} (R : TxT P w h a l n m) (k : ∀ o, h.get? a = some o → h'.get? a = some o) : TxT P w h' a l n m := by
  obtain ⟨D, ho, p⟩ := R
  exact ⟨D, k _ ho, p⟩
theorem TxT.toS {n m : Nat} (R : TxT P w h a l n m) : TxS P w h a l := by
  obtain ⟨D, ho, p, _⟩ := R
  exact ⟨D, ho, p⟩
/-- a text is taken out, if it is there -/
theorem tx_discardT {k : Str} {u : Tok} {Q : Bool → Shared → Prop} {n m : Nat} (R : TxT P w s.heap a l n m) (hb : l.length < scanBound) (q0 : k ∉ l → Q false s)
    (q1 : k ∈ l → ∀ h' l', Heap.SameBut a s.heap h' → TxT P w h' a l' (n + 1) m → (∀ j, j ∈ l' ↔ j ∈ l ∧ j ≠ k) → l'.length ≤ l.length → Q true { s with heap := h' }) : wpAny (model P w) A (setDiscardHashed a (.str k u) (hashStr w k)) Q E s := by
  obtain ⟨D, ho, p, hd, hm⟩ := R
  unfold setDiscardHashed
  refine wpAny_bind (tx_find ho p hb ?_)
  obtain ⟨es, ep, t⟩ := D
  have hsz : es.size = l.length := p.tx.sz
  dsimp only at hd hm
  dsimp only
  cases hr : List.findIdx? (fun e => (PySem.strKind P w).is k e.2) es.toList with
  | none =>
    refine wpAny_pure (q0 fun hk => ?_)
    obtain ⟨e, he, z⟩ := (p.tx.mem k).mp hk
    rw [List.findIdx?_eq_none_iff] at hr
    rw [hr e he] at z
    cases z
  | some i =>
    obtain ⟨hi, hk1, _⟩ := List.findIdx?_eq_some_iff_getElem.mp hr
    have hge : es.toList[i]? = some es.toList[i] := List.getElem?_eq_getElem hi
    generalize es.toList[i] = e0 at hge hk1
    have hkl : k ∈ l := (p.tx.mem k).mpr ⟨e0, List.mem_of_getElem? hge, hk1⟩
    obtain ⟨ks, pk, mk⟩ := strs_keys (P := P) (w := w) es.toList p.strs
    have hkl2 := paired_len pk
    rw [Array.length_toList] at hkl2
    have ndk : ks.Nodup := nodup_of_len p.nd (fun j => (mk j).trans (p.tx.mem j).symm) (by omega)
    obtain ⟨k2, hk2, tk, rfl⟩ := paired_get pk hge
    obtain rfl : k = k2 := (PySem.strKind P w).inj (.str k2 tk) k k2 hk1 (PySem.Froz.is_str k2 tk)
    have pk2 := paired_erase i pk
    have em := erase_mem ks i k ndk hk2
    have hi2 : i < es.size := by simpa using hi
    have hlen : (SetTable.eraseAt es i).size = (ks.eraseIdx i).length := by
      rw [← Array.length_toList, erase_list, paired_len pk2]
    have hks : (ks.eraseIdx i).length + 1 = ks.length := by
      rw [List.length_eraseIdx, if_pos (by omega)]
      omega
    have hfit := p.tx.fit
    unfold SetTable.fits SetTable.fill at hfit
    rw [Bool.and_eq_true, beq_iff_eq, decide_eq_true_eq] at hfit
    obtain ⟨f1, f2⟩ := hfit
    dsimp only at f1 f2
    have hpl : i < t.place.size := by omega
    have hdrop : t.drop i = { t with place := SetTable.eraseAt t.place i, dummies := SetTable.insertAt t.dummies (SetTable.below t.dummies t.place[i]) t.place[i] } := by
      unfold SetTable.drop
      rw [Array.getElem?_eq_getElem hpl]
    have z1 : (SetTable.eraseAt t.place i).size + 1 = t.place.size := by
      rw [← Array.length_toList, erase_list, List.length_eraseIdx, Array.length_toList, if_pos hpl]
      omega
    have z2 : ∀ b j, (SetTable.insertAt t.dummies b j).size ≤ t.dummies.size + 1 := fun b j => by
      unfold SetTable.insertAt
      simp
      omega
    refine wpAny_bind (wpAny_setState_of ho rfl p.tx.fit ?_)
    dsimp only
    refine wpAny_bind (wpAny_storeSet_of ho rfl ?_ (fits_of_scanBound (by rw [hlen]; omega)))
    refine wpAny_bind (wpAny_point (wpAny_pure (q1 hkl _ (ks.eraseIdx i) (Heap.SameBut.update _ _ _) ⟨_, upd_get ho, ?_, ?_⟩ (fun j => ?_) (by omega))))
    · rw [hdrop]
      refine ⟨⟨fun e he => ?_, fun j => ?_, hlen, ?_⟩, ndk.sublist (List.eraseIdx_sublist _ _), ?_, p.led⟩
      · dsimp only at he
        rw [erase_list] at he
        exact p.tx.el e ((List.eraseIdx_sublist _ _).subset he)
      · dsimp only
        rw [erase_list]
        exact paired_mem pk2 j
      · unfold SetTable.fits SetTable.fill
        rw [Bool.and_eq_true, beq_iff_eq, decide_eq_true_eq]
        have := z2 (SetTable.below t.dummies t.place[i]) t.place[i]
        dsimp only
        exact ⟨by omega, by omega⟩
      · dsimp only
        rw [erase_list]
        exact p.ris.sublist (List.eraseIdx_sublist _ _)
    · rw [hdrop]
      dsimp only
      have := z2 (SetTable.below t.dummies t.place[i]) t.place[i]
      exact ⟨by omega, hm⟩
    · rw [em j, mk j]
      exact and_congr_left fun _ => (p.tx.mem j).symm
theorem tx_discard {k : Str} {u : Tok} {Q : Bool → Shared → Prop} (R : TxS P w s.heap a l) (hb : l.length < scanBound) (q0 : k ∉ l → Q false s)
    (q1 : k ∈ l → ∀ h' l', Heap.SameBut a s.heap h' → TxS P w h' a l' → (∀ j, j ∈ l' ↔ j ∈ l ∧ j ≠ k) → l'.length ≤ l.length → Q true { s with heap := h' }) : wpAny (model P w) A (setDiscardHashed a (.str k u) (hashStr w k)) Q E s := by
  obtain ⟨D, ho, p⟩ := R
  exact tx_discardT (n := D.2.2.dummies.size) (m := D.2.2.mask) ⟨D, ho, p, Nat.le_refl _, rfl⟩ hb q0 fun h h' l' sb R' => q1 h h' l' sb R'.toS
/-- the sizes that making room comes to -/
theorem room_mask : ∀ n, 5 ≤ n → n ≤ 63 → Mk (SetTable.sizeAbove ((0 + n) * 2) - 1) ∧ n ≤ SetTable.sizeAbove ((0 + n) * 2) - 1 ∧ ¬ SetTable.sizeAbove ((0 + n) * 2) > sizeLine := by
  have h : ∀ n, n < 64 → 5 ≤ n → (SetTable.sizeAbove ((0 + n) * 2) - 1 = 15 ∨ SetTable.sizeAbove ((0 + n) * 2) - 1 = 31 ∨ SetTable.sizeAbove ((0 + n) * 2) - 1 = 63 ∨ SetTable.sizeAbove ((0 + n) * 2) - 1 = 127) ∧ n ≤ SetTable.sizeAbove ((0 + n) * 2) - 1 ∧ SetTable.sizeAbove ((0 + n) * 2) ≤ 128 := by decide +kernel
  intro n h5 h31
  obtain ⟨h1, h2, h3⟩ := h n (by omega) h5
  refine ⟨.inr h1, h2, ?_⟩
  have : (128 : Nat) ≤ sizeLine := by decide
  omega
/-- an empty set takes over another's elements -/
theorem tx_mergeT {o : Addr} {lo : List Str} {each : Sem Unit} {ep f m : Nat} {ld : Bool} {Q : Unit → Shared → Prop} (hS : s.heap.get? a = some (PySem.Froz.sObj "set" (#[], ep, .fresh f m ld))) (hld : w.params.followText "set-order" = true ∨ ld = true)
    (Ro : TxS P w s.heap o lo) (hne : a ≠ o) (hz : lo.length ≤ 63)
    (q : ∀ h' l' m, Heap.SameBut a s.heap h' → TxT P w h' a l' 0 m → lo.length ≤ m → (∀ j, j ∈ l' ↔ j ∈ lo) → l'.length = lo.length → Q () { s with heap := h' }) : wpAny (model P w) A (setMerge a o each) Q E s := by
  obtain ⟨Do, hoo, po⟩ := Ro
  obtain ⟨eo, epo, to⟩ := Do
  have hszo : eo.size = lo.length := po.tx.sz
  have hfit := po.tx.fit
  unfold SetTable.fits SetTable.fill at hfit
  rw [Bool.and_eq_true, beq_iff_eq, decide_eq_true_eq] at hfit
  obtain ⟨f1, f2⟩ := hfit
  dsimp only at f1 f2
  have line : eo.size ≤ sizeLine := fits_of_scanBound (by show eo.size < 4096; omega)
  unfold setMerge
  refine wp_if_neg (by simp [hne]) ?_
  try refine wpAny_bind (wpAny_pure ?_)
  refine wpAny_bind (wpAny_setState_of hoo rfl po.tx.fit ?_)
  dsimp only
  cases he : eo.isEmpty with
  | true =>
    have h0 : eo.size = 0 := by simpa using he
    refine wp_if_pos rfl ?_
    refine wpAny_pure (q s.heap [] 7 (Heap.SameBut.refl _ _) ⟨_, hS, ⟨PySem.Froz.TxOk.nil rfl, List.nodup_nil, List.Pairwise.nil, hld⟩, Nat.le_refl _, rfl⟩ (by omega) (fun j => ?_) (by rw [← hszo, h0]; rfl))
    have : lo = [] := List.eq_nil_of_length_eq_zero (by omega)
    rw [this]
  | false =>
    refine wp_if_neg Bool.false_ne_true ?_
    try refine wpAny_bind (wpAny_pure ?_)
    -- once there is room
    have cont : ∀ (h1 : Heap) (ep1 : Nat) (t1 : SetTable), Heap.SameBut a s.heap h1 → h1.get? a = some (PySem.Froz.sObj "set" (#[], ep1, t1)) → Mk t1.mask → eo.size ≤ t1.mask → t1.dummies = #[] → t1.place = #[] → (w.params.followText "set-order" = true ∨ t1.led = true) →
        wpAny (model P w) A (do
          let (_, _, ts) ← setState a
          match ts.road to with
          | .slotForSlot => storeSet a eo { mask := to.mask, place := to.place, dummies := to.dummies, finger := ts.finger, led := ts.led && to.led, moves := ts.moves, plain := ts.plain && to.plain }
          | .clean => do
            let (es, t) ← (match SetTable.laid ts.mask ts.finger ts.moves (ts.led && to.led) (ts.plain && to.plain) (eo.map fun x => x.1) with
              | some (t, order) => do
                let es' := order.filterMap fun x => eo[x]?
                if (es'.size != eo.size) = true then unsupported "internal:set-table-lost-an-element"
                pure (es', t)
              | _ => unsupported "internal:set-table-without-room")
            storeSet a es t
          | .oneByOne => do
            for (h, x) in ← setWalkUnseen o [a] (some a) do
              let _ ← holding [x] (setAddHashed a x h)
              each
              if ((← setState o).2.1 != epo) = true then unsupported "set.changed-during-merge") Q E { s with heap := h1 } := by
      intro h1 ep1 t1 sb g1 mk1 hn hd hp hl1
      have fill0 : t1.fill = 0 := by
        unfold SetTable.fill
        rw [hp, hd]
        rfl
      refine wpAny_bind (wpAny_setState_of g1 rfl (by
        show t1.fits 0 = true
        unfold SetTable.fits
        rw [fill0, hp, Bool.and_eq_true, beq_iff_eq, decide_eq_true_eq]
        exact ⟨rfl, Nat.zero_le _⟩) ?_)
      dsimp only
      have done : ∀ (es : Array (Int × Value)) (t : SetTable), es.toList.Perm eo.toList → t.fits es.size = true → Ris t.place.toList → (w.params.followText "set-order" = true ∨ t.led = true) → t.dummies = #[] → wpAny (model P w) A (storeSet a es t) Q E { s with heap := h1 } := by
        intro es t pm ft rs ld dm
        have hz2 : es.size = eo.size := by
          have := pm.length_eq
          simpa using this
        refine wpAny_storeSet_of g1 rfl ?_ (by rw [hz2]; exact line)
        have ft2 := ft
        unfold SetTable.fits SetTable.fill at ft2
        rw [Bool.and_eq_true, beq_iff_eq, decide_eq_true_eq] at ft2
        refine q _ lo t.mask (sb.trans (Heap.SameBut.update _ _ _)) ⟨_, upd_get g1, ⟨⟨fun e he => po.tx.el e (pm.mem_iff.mp he), fun j => (po.tx.mem j).trans ?_, hz2.trans hszo, ft⟩, po.nd, rs, ld⟩, by dsimp only; rw [dm]; exact Nat.le_refl _, rfl⟩ (by omega) (fun _ => Iff.rfl) rfl
        exact ⟨fun ⟨e, he, z⟩ => ⟨e, pm.mem_iff.mpr he, z⟩, fun ⟨e, he, z⟩ => ⟨e, pm.mem_iff.mp he, z⟩⟩
      have ledb : w.params.followText "set-order" = true ∨ (t1.led && to.led) = true := by
        rcases hl1 with z | z
        · exact .inl z
        · rcases po.led with y | y
          · exact .inl y
          · refine .inr ?_
            rw [z, show to.led = true from y]
            rfl
      unfold SetTable.road
      rw [if_neg (by rw [fill0]; simp)]
      by_cases hc : (t1.mask == to.mask && to.dummies.isEmpty) = true
      · rw [if_pos hc]
        dsimp only
        refine done eo _ (List.Perm.refl _) ?_ po.ris ledb (by
          rw [Bool.and_eq_true] at hc
          exact Array.isEmpty_iff.mp hc.2)
        exact po.tx.fit
      · rw [if_neg hc]
        dsimp only
        obtain ⟨t, order, e1, e2, e3, e4, e5, e6, e7⟩ := laid_ok mk1 t1.finger t1.moves (t1.led && to.led) (t1.plain && to.plain) eo (by omega)
        rw [e1]
        dsimp only
        have hz3 : (order.filterMap fun x => eo[x]?).size = eo.size := by
          have := e2.length_eq
          rw [Array.length_toList, Array.length_toList] at this
          exact this
        refine wpAny_bind ?_
        refine wp_if_neg (by rw [hz3]; simp) ?_
        try refine wpAny_bind (wpAny_pure ?_)
        refine wpAny_pure ?_
        dsimp only
        refine done _ t e2 ?_ e6 (by rw [e7]; exact ledb) e4
        unfold SetTable.fits SetTable.fill
        rw [hz3, e4, e5, e3, Bool.and_eq_true, beq_iff_eq, decide_eq_true_eq]
        refine ⟨rfl, ?_⟩
        show eo.size + 0 ≤ t1.mask
        omega
    refine wpAny_bind ?_
    unfold setRoomFor
    refine wpAny_bind (wpAny_setState_of hS rfl rfl ?_)
    dsimp only
    by_cases h5 : 5 ≤ eo.size
    · have hr : (SetTable.fresh f m ld).roomFor eo.size = some ((0 + eo.size) * 2) := by
        show (if (0 + eo.size) * 5 ≥ 7 * 3 then some ((0 + eo.size) * 2) else none) = _
        rw [if_pos (by omega)]
      rw [hr]
      dsimp only
      obtain ⟨m1, m2, m3⟩ := room_mask eo.size h5 (by omega)
      rw [setRelay_eq]
      refine wpAny_bind (wpAny_setState_of hS rfl rfl ?_)
      dsimp only
      refine wp_if_neg m3 ?_
      try refine wpAny_bind (wpAny_pure ?_)
      obtain ⟨t, order, e1, e2, e3, e4, e5, e6, e7⟩ := laid_ok m1 f ((SetTable.fresh f m ld).movedTo (SetTable.sizeAbove ((0 + eo.size) * 2) - 1)) ld true #[] (Nat.zero_le _)
      have e1' : (SetTable.fresh f m ld).relaid (#[].map fun x : Int × Value => x.1) ((0 + eo.size) * 2) = some (t, order) := e1
      rw [e1']
      dsimp only
      have hz3 : (order.filterMap fun x => (#[] : Array (Int × Value))[x]?) = #[] := by
        have := e2.length_eq
        exact Array.eq_empty_of_size_eq_zero (by simpa using this)
      rw [hz3]
      refine wpAny_bind ?_
      refine wp_if_neg (by simp) ?_
      try refine wpAny_bind (wpAny_pure ?_)
      refine wpAny_pure ?_
      dsimp only
      refine wpAny_storeSet_of hS rfl ?_ (Nat.zero_le _)
      refine cont _ (ep + 1) t (Heap.SameBut.update _ _ _) (upd_get hS) (by rw [e3]; exact m1) (by rw [e3]; exact m2) e4 (Array.eq_empty_of_size_eq_zero e5) (by rw [e7]; exact hld)
    · have hr : (SetTable.fresh f m ld).roomFor eo.size = none := by
        show (if (0 + eo.size) * 5 ≥ 7 * 3 then some ((0 + eo.size) * 2) else none) = _
        rw [if_neg (by omega)]
      rw [hr]
      dsimp only
      exact wpAny_pure (cont s.heap ep _ (Heap.SameBut.refl _ _) hS (.inl rfl) (by show eo.size ≤ 7; omega) rfl rfl hld)
theorem tx_merge {o : Addr} {lo : List Str} {each : Sem Unit} {ep f m : Nat} {ld : Bool} {Q : Unit → Shared → Prop} (hS : s.heap.get? a = some (PySem.Froz.sObj "set" (#[], ep, .fresh f m ld))) (hld : w.params.followText "set-order" = true ∨ ld = true)
    (Ro : TxS P w s.heap o lo) (hne : a ≠ o) (hz : lo.length ≤ 31)
    (q : ∀ h' l', Heap.SameBut a s.heap h' → TxS P w h' a l' → (∀ j, j ∈ l' ↔ j ∈ lo) → l'.length = lo.length → Q () { s with heap := h' }) : wpAny (model P w) A (setMerge a o each) Q E s :=
  tx_mergeT hS hld Ro hne (by omega) fun h' l' _ sb R _ => q h' l' sb R.toS
/-- the walked ones are flipped in r -/
theorem tx_flip {r y : Addr} {ly : List Str} {Dy : PySem.Froz.SD} {nm : String} (hry : r ≠ y) (py : Pay P w Dy ly) (f : Int × Value → PUnit → Sem (ForInStep PUnit)) (hfd : ∀ e, f e PUnit.unit = (do
        holding [e.2] (do
          let b ← setDiscardHashed r e.2 e.1
          if (!b) = true then
            let _ ← setAddHashed r e.2 e.1
            pure PUnit.unit
          else pure PUnit.unit)
        Builtin.Frozenset.unchanged nm y Dy.2.1
        pure (ForInStep.yield PUnit.unit))) : ∀ (es : List (Int × Value)) (ks : List Str) {s : Shared} {lr : List Str} {Q : PUnit → Shared → Prop}, Paired (fun (e : Int × Value) (k : Str) => ∃ tk, e = (hashStr w k, Value.str k tk)) es ks → ks.Nodup →
    s.heap.get? y = some (PySem.Froz.sObj "set" Dy) → TxS P w s.heap r lr → lr.length + es.length < scanBound →
    (∀ h' lr' tk, Heap.SameBut r s.heap h' → TxS P w h' r lr' → (∀ j, j ∈ lr' ↔ (j ∈ lr ∧ j ∉ ks) ∨ (j ∈ ks ∧ j ∉ lr)) → lr'.length ≤ lr.length + es.length → Q PUnit.unit { s with heap := h', toks := tk }) →
    wpAny (model P w) A (forIn es PUnit.unit f) Q E s
  | _, _, s, lr, Q, .nil, _, _, hr, _, q => by
    rw [List.forIn_nil]
    exact wpAny_pure (q s.heap lr s.toks (Heap.SameBut.refl r s.heap) hr (fun j => by simp) (Nat.le_refl _))
  | _, _, s, lr, Q, .cons (a := e) (b := k) (l₁ := es) (l₂ := ks) he hes, nd, hoy, hr, hz2, q => by
    obtain ⟨tk, rfl⟩ := he
    obtain ⟨n1, n2⟩ := List.nodup_cons.mp nd
    rw [List.forIn_cons, hfd]
    have hl2 : lr.length + (es.length + 1) < scanBound := by simpa using hz2
    refine wpAny_bind (wpAny_bind (wpAny_holding ?_))
    refine wpAny_bind (tx_discard hr (by omega) (fun hk => ?_) fun hk h' l' sb R m ll => ?_)
    · refine wp_if_pos rfl ?_
      refine wpAny_bind (tx_add (k := k) (u := tk) hr (by omega) fun h' l' sb R m ll b => ?_)
      refine wpAny_pure ?_
      have hoy' : h'.get? y = some (PySem.Froz.sObj "set" Dy) := by
        rw [sb.2 y (Ne.symm hry)]
        exact hoy
      refine wpAny_bind (same_epoch hoy' py (wpAny_pure ?_))
      refine tx_flip hry py f hfd es ks hes n2 hoy' R (by omega) fun h2 lr2 tk2 sb2 R2 m2 ll2 => q h2 lr2 tk2 (sb.trans sb2) R2 (fun j => ?_) (by rw [List.length_cons]; omega)
      rw [m2, m, List.mem_cons]
      by_cases e : j = k
      · rw [e]
        exact ⟨fun _ => .inr ⟨.inl rfl, hk⟩, fun _ => .inl ⟨.inr rfl, n1⟩⟩
      · constructor
        · rintro (⟨z | z, y⟩ | ⟨z, y⟩)
          · exact .inl ⟨z, fun x => x.elim e y⟩
          · exact absurd z e
          · exact .inr ⟨.inr z, fun x => y (.inl x)⟩
        · rintro (⟨z, y⟩ | ⟨z | z, y⟩)
          · exact .inl ⟨.inl z, fun x => y (.inr x)⟩
          · exact absurd z e
          · exact .inr ⟨z, fun x => x.elim y e⟩
    · refine wp_if_neg (by decide) ?_
      refine wpAny_pure ?_
      have hoy' : h'.get? y = some (PySem.Froz.sObj "set" Dy) := by
        rw [sb.2 y (Ne.symm hry)]
        exact hoy
      refine wpAny_bind (same_epoch hoy' py (wpAny_pure ?_))
      refine tx_flip hry py f hfd es ks hes n2 hoy' R (by omega) fun h2 lr2 tk2 sb2 R2 m2 ll2 => q h2 lr2 tk2 (sb.trans sb2) R2 (fun j => ?_) (by rw [List.length_cons]; omega)
      rw [m2, m, List.mem_cons]
      by_cases e : j = k
      · rw [e]
        constructor
        · rintro (⟨⟨_, z⟩, _⟩ | ⟨z, _⟩)
          · exact absurd rfl z
          · exact absurd z n1
        · rintro (⟨_, z⟩ | ⟨_, z⟩)
          · exact absurd (.inl rfl) z
          · exact absurd hk z
      · constructor
        · rintro (⟨⟨z, _⟩, y⟩ | ⟨z, y⟩)
          · exact .inl ⟨z, fun x => x.elim e y⟩
          · exact .inr ⟨.inr z, fun x => y ⟨x, e⟩⟩
        · rintro (⟨z, y⟩ | ⟨z | z, y⟩)
          · exact .inl ⟨⟨z, e⟩, fun x => y (.inr x)⟩
          · exact absurd z e
          · exact .inr ⟨z, fun x => y x.1⟩
end
section
variable {X : Cx}
def rXorTx (P : Program) (w : World) : R2 := fun x y H Q => ∃ (a b : Addr) (la lb : List Str), x = .ref a ∧ y = .ref b ∧ H a = some (SetTx P w a la) ∧ H b = some (SetTx P w b lb) ∧ lb.length ≤ 31 ∧ la.length < 3900 ∧
  ∀ c lc, H c = none → lc.Nodup → (∀ j, j ∈ lc ↔ (j ∈ la ∧ j ∉ lb) ∨ (j ∈ lb ∧ j ∉ la)) → lc.length ≤ la.length + lb.length → Q (.ref c) (upd H c (SetTx P w c lc))
theorem entry_set_xor : entryFor table "set.__xor__" = some Builtin.«frozenset.__xor__» := entryFor_alias (id' := "frozenset.__xor__") (by kernel_rfl) rfl (by decide +kernel) (by kernel_rfl)
theorem op_xorTx : OpR X (binaryOp .BitXor) (rXorTx X.prog X.w) := by
  intro pins s σ H x y v u Q I rx ry h
  obtain ⟨a, b, la, lb, rfl, rfl, ha, hb, hz, hza, q⟩ := h
  obtain rfl : v = Value.ref a := rx
  obtain rfl : u = Value.ref b := ry
  have Ra := setTx_get I ha
  have Rb := setTx_get I hb
  have hlt : ∀ c lc, TxS X.prog X.w s.heap c lc → c < s.heap.objs.size := fun c lc R => by
    obtain ⟨D, ho, _⟩ := R
    exact Heap.lt_size ho
  have hla := hlt a la Ra
  have hlb := hlt b lb Rb
  refine wpAny_binaryOp_same (tx_type Ra) (tx_type Rb) F.fills_set_xor F.slot_set_xor ?_
  refine wpAny_call_entry F.slot_set_xor (tx_type Ra) entry_set_xor ?_ (F.args_set_xor_2 _ _)
  unfold Builtin.«frozenset.__xor__»
  refine wpAny_bind (m := Builtin.Frozenset.slot1 "__xor__" _) (wpAny_of_eq (a := (.ref a, .ref b)) (by rfl) ?_)
  refine wpAny_bind (wpAny_bind (any_set Ra ?_))
  refine any_set Rb ?_
  refine wp_if_neg (by simp) ?_
  refine wpAny_bind (m := Builtin.Frozenset.addrOf _) (wpAny_pure ?_)
  refine wpAny_bind (m := do
    let c ← Builtin.Frozenset.baseOf a
    let result ← Builtin.Frozenset.newFrom "frozenset.__xor__" c (.ref b)
    let r ← Builtin.Frozenset.addrOf result
    holding [result] (Builtin.Frozenset.symmetricDifferenceUpdate "frozenset.__xor__" r (.ref a))
    pure result) ?_
  refine wpAny_bind ?_
  unfold Builtin.Frozenset.baseOf
  refine wpAny_bind (wpAny_isInstance (tx_type Ra) sub_set_self ?_)
  refine wpAny_pure ?_
  rw [if_pos rfl]
  refine wpAny_bind ?_
  unfold Builtin.Frozenset.newFrom
  refine wpAny_bind ?_
  unfold newSet
  refine wpAny_bind (wpAny_byText ?_)
  refine wpAny_newObj_type ?_
  generalize hs1 : ({ s with heap := s.heap.push { cls := .type "set", dict := none, data := .set #[] 0 (.fresh 0 0 (!X.w.params.followText "set-order")) } } : Shared) = s1
  have k1 : ∀ c o, s.heap.get? c = some o → s1.heap.get? c = some o := fun c o e => by
    rw [← hs1]
    exact Heap.get?_push_of_some _ e
  have hr0 : s1.heap.get? s.heap.objs.size = some (PySem.Froz.sObj "set" (#[], 0, .fresh 0 0 (!X.w.params.followText "set-order"))) := by
    rw [← hs1]
    exact Heap.get?_push_size _ rfl
  have hld : X.w.params.followText "set-order" = true ∨ (!X.w.params.followText "set-order") = true := by
    cases X.w.params.followText "set-order"
    · exact .inr rfl
    · exact .inl rfl
  have Ra1 := Ra.at (h' := s1.heap) fun o e => k1 a o e
  have Rb1 := Rb.at (h' := s1.heap) fun o e => k1 b o e
  unfold Builtin.Frozenset.addrOf
  refine wpAny_bind (wpAny_pure ?_)
  refine wpAny_bind (wpAny_holding ?_)
  unfold Builtin.Frozenset.updateFrom
  refine wpAny_bind (any_set Rb1 ?_)
  refine wp_if_pos rfl ?_
  refine wpAny_bind (wpAny_pure ?_)
  unfold Builtin.Frozenset.merge
  obtain ⟨Db, hob, pb⟩ := id Rb1
  refine wpAny_bind (wpAny_setEpoch_of hob rfl pb.tx.fit ?_)
  have hne : ∀ c, c < s.heap.objs.size → s.heap.objs.size ≠ c := fun c hc => Ne.symm (Nat.ne_of_lt hc)
  refine tx_merge hr0 hld Rb1 (hne b hlb) hz fun h2 l2 sb2 R2 m2 ll2 => ?_
  refine wpAny_pure ?_
  refine wpAny_bind (wpAny_pure ?_)
  refine wpAny_bind (wpAny_holding ?_)
  have k2 : ∀ c o, c < s.heap.objs.size → s1.heap.get? c = some o → h2.get? c = some o := fun c o hc e => by
    rw [sb2.2 c (Nat.ne_of_lt hc)]
    exact e
  have Ra2 := Ra1.at (h' := h2) fun o e => k2 a o hla e
  unfold Builtin.Frozenset.symmetricDifferenceUpdate
  refine wp_if_neg (by simp [Nat.ne_of_lt hla]) ?_
  try refine wpAny_bind (wpAny_pure ?_)
  obtain ⟨Da, hoa, pa⟩ := id Ra2
  dsimp only
  refine wpAny_bind (wpAny_typeOf_ref hoa ?_)
  refine wp_if_neg (by
    show ¬ (Value.type "set" == Value.type "dict") = true
    decide) ?_
  try refine wpAny_bind (wpAny_pure ?_)
  refine wpAny_bind (any_set (s := { s1 with heap := h2 }) Ra2 ?_)
  refine wp_if_pos rfl ?_
  refine wpAny_bind (wpAny_pure ?_)
  unfold Builtin.Frozenset.addrOf
  refine wpAny_bind (wpAny_pure ?_)
  refine wpAny_bind (wpAny_setEpoch_of hoa rfl pa.tx.fit ?_)
  refine wpAny_holding ?_
  refine wpAny_bind (tx_unseen hoa pa R2 (by show l2.length < 4096; omega) (fun c hc => ?_) fun es h3 d3 pm sb3 R3 => ?_)
  · rw [List.mem_singleton.mp hc]
    exact ⟨l2, R2⟩
  obtain ⟨ks, pk, mk⟩ := strs_keys (P := X.prog) (w := X.w) es.toList fun e he => pa.strs e (pm.mem_iff.mp he)
  rw [← Array.forIn_toList]
  have hza2 : es.toList.length = la.length := by
    rw [pm.length_eq, Array.length_toList, tx_len pa]
  have mka : ∀ j, j ∈ ks ↔ j ∈ la := fun j => (mk j).trans (Iff.trans ⟨fun ⟨e, he, z⟩ => ⟨e, pm.mem_iff.mp he, z⟩, fun ⟨e, he, z⟩ => ⟨e, pm.mem_iff.mpr he, z⟩⟩ (pa.tx.mem j).symm)
  have ndk : ks.Nodup := nodup_of_len pa.nd mka (by rw [← paired_len pk, hza2]; exact Nat.le_refl _)
  have hoa3 : h3.get? a = some (PySem.Froz.sObj "set" Da) := by
    rw [sb3.2 a (Nat.ne_of_lt hla)]
    exact hoa
  refine wpAny_bind (tx_flip (r := s.heap.objs.size) (nm := "frozenset.__xor__") (hne a hla) pa _ (fun e => rfl) es.toList ks pk ndk hoa3 R3 (by show l2.length + es.toList.length < 4096; omega) fun h4 l4 tk4 sb4 R4 m4 ll4 => ?_)
  refine wpAny_pure ?_
  refine wpAny_pure ?_
  have hn : H s.heap.objs.size = none := I.hok.fresh (Nat.le_refl _)
  have ⟨D, _, p⟩ := R4
  have k : ∀ c o, s.heap.get? c = some o → h4.get? c = some o := fun c o e => by
    have hc := Heap.lt_size e
    rw [sb4.2 c (Nat.ne_of_lt hc), sb3.2 c (Nat.ne_of_lt hc)]
    exact k2 c o hc (k1 c o e)
  rw [← hs1]
  refine wpAny_pure ⟨_, rfl, ?_⟩
  refine ⟨fun z => (by cases z), .ref _, upd H s.heap.objs.size (SetTx X.prog X.w s.heap.objs.size l4), ?_, rfl, q _ l4 hn p.nd (fun j => ?_) (by omega)⟩
  · have J : Inv X pins σ (upd H s.heap.objs.size (SetTx X.prog X.w s.heap.objs.size l4)) { s with heap := h4, gens := s.gens, drawn := d3, toks := tk4 } := I.call (ch := []) (Un.laid k (Nat.le_refl _) hn) (I.hok.laid k (Nat.le_refl _) (setTx_new R4)) I.bare (fun _ z => nomatch z)
    exact J
  · rw [m4, mka, m2]
    exact Or.comm
end
end MuXor

namespace MuSbx
open PySem PySem.Spec PyProof.Rows L2 MuSet MuXor
/-! ### set - set, of texts, by copy and discard where the first is much the larger -/
section
variable {P : Program} {w : World} {A : Around} {E : Value → Shared → Prop} {s : Shared} {h h' : Heap} {a : Addr} {l l' : List Str}
/-- the walked ones are taken out of r -/
theorem tx_drops {r y : Addr} {ly : List Str} {Dy : PySem.Froz.SD} {nm : String} {m : Nat} (hry : r ≠ y) (py : Pay P w Dy ly) (f : Int × Value → PUnit → Sem (ForInStep PUnit)) (hfd : ∀ e, f e PUnit.unit = (do
        let _ ← holding [e.2] (setDiscardHashed r e.2 e.1)
        Builtin.Frozenset.unchanged nm y Dy.2.1
        pure (ForInStep.yield PUnit.unit))) : ∀ (es : List (Int × Value)) (ks : List Str) {s : Shared} {lr : List Str} {n : Nat} {Q : PUnit → Shared → Prop}, Paired (fun (e : Int × Value) (k : Str) => ∃ tk, e = (hashStr w k, Value.str k tk)) es ks →
    s.heap.get? y = some (PySem.Froz.sObj "set" Dy) → TxT P w s.heap r lr n m → lr.length < scanBound →
    (∀ h' lr', Heap.SameBut r s.heap h' → TxT P w h' r lr' (n + es.length) m → (∀ j, j ∈ lr' ↔ j ∈ lr ∧ j ∉ ks) → lr'.length ≤ lr.length → Q PUnit.unit { s with heap := h' }) →
    wpAny (model P w) A (forIn es PUnit.unit f) Q E s
  | _, _, s, lr, n, Q, .nil, _, hr, _, q => by
    rw [List.forIn_nil]
    exact wpAny_pure (q s.heap lr (Heap.SameBut.refl r s.heap) hr (fun j => by simp) (Nat.le_refl _))
  | _, _, s, lr, n, Q, .cons (a := e) (b := k) (l₁ := es) (l₂ := ks) he hes, hoy, hr, hz, q => by
    obtain ⟨tk, rfl⟩ := he
    rw [List.forIn_cons, hfd]
    refine wpAny_bind (wpAny_bind (wpAny_holding ?_))
    refine tx_discardT hr hz (fun hk => ?_) fun hk h' l' sb R m1 ll => ?_
    · refine wpAny_bind (same_epoch hoy py (wpAny_pure ?_))
      refine tx_drops hry py f hfd es ks hes hoy hr hz fun h2 lr2 sb2 R2 m2 ll2 => q h2 lr2 sb2 ?_ (fun j => ?_) ll2
      · obtain ⟨D, g, p, d1, d2⟩ := R2
        exact ⟨D, g, p, by rw [List.length_cons]; omega, d2⟩
      · rw [m2, List.mem_cons]
        constructor
        · rintro ⟨x, y⟩
          exact ⟨x, fun z => z.elim (fun z => hk (z ▸ x)) y⟩
        · rintro ⟨x, y⟩
          exact ⟨x, fun z => y (.inr z)⟩
    · have hoy' : h'.get? y = some (PySem.Froz.sObj "set" Dy) := by
        rw [sb.2 y (Ne.symm hry)]
        exact hoy
      refine wpAny_bind (same_epoch hoy' py (wpAny_pure ?_))
      refine tx_drops hry py f hfd es ks hes hoy' R (by omega) fun h2 lr2 sb2 R2 m2 ll2 => q h2 lr2 (sb.trans sb2) ?_ (fun j => ?_) (by omega)
      · obtain ⟨D, g, p, d1, d2⟩ := R2
        exact ⟨D, g, p, by rw [List.length_cons]; omega, d2⟩
      · rw [m2, m1, List.mem_cons]
        constructor
        · rintro ⟨⟨x, z⟩, y⟩
          exact ⟨x, fun v => v.elim z y⟩
        · rintro ⟨x, y⟩
          exact ⟨⟨x, fun z => y (.inl z)⟩, fun z => y (.inr z)⟩
/-- a walk that fills nothing -/
theorem tx_unseenN {D : PySem.Froz.SD} {others : List Addr} {Q : Array (Int × Value) → Shared → Prop} (ho : s.heap.get? a = some (PySem.Froz.sObj "set" D)) (p : Pay P w D l) (hoth : ∀ b ∈ others, ∃ l, TxS P w s.heap b l)
    (q : ∀ (es : Array (Int × Value)) d, es.toList.Perm D.1.toList → Q es { s with drawn := d }) : wpAny (model P w) A (setWalkUnseen a others none) Q E s := by
  have plainly : wpAny (model P w) A (setWalk a) Q E s := tx_walk ho p fun es d hp => q es d hp
  obtain ⟨es, ep, t⟩ := D
  unfold setWalkUnseen
  refine wpAny_bind (wpAny_setState_of ho rfl p.tx.fit ?_)
  dsimp only
  refine wpAny_bind (wpAny_byText ?_)
  cases hc : (w.params.followText "set-order" || t.led && t.plain || decide (es.size ≤ 1)) with
  | true =>
    refine wp_if_pos rfl ?_
    first | exact plainly | exact wpAny_bind (m := setWalk a) (thn plainly fun v s' z => wpAny_pure z)
  | false =>
    refine wp_if_neg Bool.false_ne_true ?_
    try refine wpAny_bind (wpAny_pure ?_)
    refine wpAny_bind (quiet_sets (a :: others) (fun b hb => ?_) ?_)
    · rcases List.mem_cons.mp hb with rfl | hb
      · exact ⟨l, _, ho, p⟩
      · exact hoth b hb
    refine wp_if_neg (by simp) ?_
    try refine wpAny_bind (wpAny_pure ?_)
    refine wpAny_bind (wpAny_rule ?_)
    try refine wpAny_bind (wpAny_pure ?_)
    exact wpAny_pure (q es s.drawn (List.Perm.refl _))
/-- set - set where the first is much the larger -/
theorem tx_subC {b : Addr} {la lb : List Str} {nm : String} {Q : Value → Shared → Prop} (Ra : TxS P w s.heap a la) (Rb : TxS P w s.heap b lb) (hq : ¬ la.length / 4 ≤ lb.length) (hz : la.length ≤ 63)
    (q : ∀ h' lr d tk, (∀ c o, s.heap.get? c = some o → h'.get? c = some o) → TxS P w h' s.heap.objs.size lr → (∀ j, j ∈ lr ↔ j ∈ la ∧ j ∉ lb) → Q (.ref s.heap.objs.size) { s with heap := h', drawn := d, toks := tk }) :
    wpAny (model P w) A (Builtin.Frozenset.difference nm a (.ref b)) Q E s := by
  have hlt : ∀ c lc, TxS P w s.heap c lc → c < s.heap.objs.size := fun c lc R => by
    obtain ⟨D, ho, _⟩ := R
    exact Heap.lt_size ho
  have hla := hlt a la Ra
  have hlb := hlt b lb Rb
  obtain ⟨Da0, hoa0, pa0⟩ := id Ra
  obtain ⟨Db0, hob0, pb0⟩ := id Rb
  unfold Builtin.Frozenset.difference
  refine wpAny_bind (any_set Rb ?_)
  refine wp_if_neg (by simp) ?_
  try refine wpAny_bind (wpAny_pure ?_)
  unfold Builtin.Frozenset.addrOf
  try refine wpAny_bind (wpAny_pure ?_)
  try dsimp only
  try refine wp_if_neg (by simp) ?_
  try refine wpAny_bind (wpAny_pure ?_)
  unfold Builtin.Frozenset.sizeOf
  try simp only [if_true]
  refine wpAny_bind (wpAny_bind (wpAny_setEntries_of hob0 rfl pb0.tx.fit (wpAny_pure ?_)))
  refine wpAny_bind (wpAny_bind (wpAny_setEntries_of hoa0 rfl pa0.tx.fit (wpAny_pure ?_)))
  refine wp_if_pos (by rw [tx_len pa0, tx_len pb0]; omega) ?_
  refine wpAny_bind (wpAny_rule ?_)
  refine wpAny_bind ?_
  unfold Builtin.Frozenset.copyOf
  refine wpAny_bind ?_
  unfold Builtin.Frozenset.baseOf
  refine wpAny_bind (wpAny_isInstance (tx_type Ra) sub_set_self ?_)
  refine wpAny_pure ?_
  rw [if_pos rfl]
  refine wpAny_bind ?_
  unfold newSet
  refine wpAny_bind (wpAny_byText ?_)
  refine wpAny_newObj_type ?_
  generalize hs1 : ({ s with heap := s.heap.push { cls := .type "set", dict := none, data := .set #[] 0 (.fresh 0 0 (!w.params.followText "set-order")) } } : Shared) = s1
  have k1 : ∀ c o, s.heap.get? c = some o → s1.heap.get? c = some o := fun c o e => by
    rw [← hs1]
    exact Heap.get?_push_of_some _ e
  have hr0 : s1.heap.get? s.heap.objs.size = some (PySem.Froz.sObj "set" (#[], 0, .fresh 0 0 (!w.params.followText "set-order"))) := by
    rw [← hs1]
    exact Heap.get?_push_size _ rfl
  have hld : w.params.followText "set-order" = true ∨ (!w.params.followText "set-order") = true := by
    cases w.params.followText "set-order"
    · exact .inr rfl
    · exact .inl rfl
  have Ra1 := Ra.at (h' := s1.heap) fun o e => k1 a o e
  have Rb1 := Rb.at (h' := s1.heap) fun o e => k1 b o e
  have hne : ∀ c, c < s.heap.objs.size → s.heap.objs.size ≠ c := fun c hc => Ne.symm (Nat.ne_of_lt hc)
  unfold Builtin.Frozenset.addrOf
  refine wpAny_bind (wpAny_pure ?_)
  refine wpAny_bind (tx_mergeT hr0 hld Ra1 (hne a hla) hz fun h2 l2 mk sb2 R2 fz m2 ll2 => ?_)
  refine wpAny_pure ?_
  refine wpAny_bind (wpAny_pure ?_)
  refine wpAny_bind (wpAny_holding ?_)
  have k2 : ∀ c o, c < s.heap.objs.size → s1.heap.get? c = some o → h2.get? c = some o := fun c o hc e => by
    rw [sb2.2 c (Nat.ne_of_lt hc)]
    exact e
  have Rb2 := Rb1.at (h' := h2) fun o e => k2 b o hlb e
  unfold Builtin.Frozenset.differenceUpdate
  refine wp_if_neg (by simp [Nat.ne_of_lt hlb]) ?_
  try refine wpAny_bind (wpAny_pure ?_)
  refine wpAny_bind (any_set (s := { s1 with heap := h2 }) Rb2 ?_)
  refine wp_if_pos rfl ?_
  unfold Builtin.Frozenset.addrOf
  refine wpAny_bind (wpAny_pure ?_)
  obtain ⟨Db, hob, pb⟩ := id Rb2
  obtain ⟨Dr, hor, pr, dr1, dr2⟩ := id R2
  unfold Builtin.Frozenset.sizeOf
  refine wpAny_bind (wpAny_bind (wpAny_setEntries_of hob rfl pb.tx.fit (wpAny_pure ?_)))
  refine wpAny_bind (wpAny_bind (wpAny_setEntries_of hor rfl pr.tx.fit (wpAny_pure ?_)))
  refine wp_if_neg (by rw [tx_len pb, tx_len pr]; omega) ?_
  dsimp only
  refine wpAny_bind (wpAny_setEpoch_of hob rfl pb.tx.fit ?_)
  refine wpAny_bind (wpAny_holding ?_)
  refine wpAny_bind (tx_unseenN hob pb (fun c hc => ?_) fun es d3 pm => ?_)
  · rw [List.mem_singleton.mp hc]
    exact ⟨l2, R2.toS⟩
  obtain ⟨ks, pk, mk2⟩ := strs_keys (P := P) (w := w) es.toList fun e he => pb.strs e (pm.mem_iff.mp he)
  rw [← Array.forIn_toList]
  have hzb : es.toList.length = lb.length := by
    rw [pm.length_eq, Array.length_toList, tx_len pb]
  have mkb : ∀ j, j ∈ ks ↔ j ∈ lb := fun j => (mk2 j).trans (Iff.trans ⟨fun ⟨e, he, z⟩ => ⟨e, pm.mem_iff.mp he, z⟩, fun ⟨e, he, z⟩ => ⟨e, pm.mem_iff.mpr he, z⟩⟩ (pb.tx.mem j).symm)
  refine wpAny_bind (tx_drops (r := s.heap.objs.size) (nm := nm) (hne b hlb) pb _ (fun e => rfl) es.toList ks pk hob R2 (by show l2.length < 4096; omega) fun h4 l4 sb4 R4 m4 ll4 => ?_)
  refine wpAny_pure ?_
  obtain ⟨D4, ho4, p4, q4, q5⟩ := id R4
  unfold setTidy
  refine wpAny_bind (wpAny_setState_of ho4 rfl p4.tx.fit ?_)
  dsimp only
  refine wp_if_neg (by
    unfold SetTable.tooManyDummies
    rw [decide_eq_true_eq, q5]
    omega) ?_
  have k : ∀ c o, s.heap.get? c = some o → h4.get? c = some o := fun c o e => by
    have hc := Heap.lt_size e
    rw [sb4.2 c (Nat.ne_of_lt hc)]
    exact k2 c o hc (k1 c o e)
  refine wpAny_pure ?_
  have fin := q h4 l4 d3 s1.toks k R4.toS fun j => by
    rw [m4, mkb, m2]
  rw [← hs1]
  rw [← hs1] at fin
  exact wpAny_pure fin
end
section
variable {X : Cx}
/-- set - set, whichever road -/
def rSubX (P : Program) (w : World) : R2 := fun x y H Q => ∃ (a b : Addr) (la lb : List Str), x = .ref a ∧ y = .ref b ∧ H a = some (SetTx P w a la) ∧ H b = some (SetTx P w b lb) ∧ la.length ≤ 63 ∧ lb.length < 3900 ∧
  ∀ c lc, H c = none → lc.Nodup → (∀ j, j ∈ lc ↔ j ∈ la ∧ j ∉ lb) → Q (.ref c) (upd H c (SetTx P w c lc))
theorem op_subX : OpR X (binaryOp .Sub) (rSubX X.prog X.w) := by
  intro pins s σ H x y v u Q I rx ry h
  obtain ⟨a, b, la, lb, rfl, rfl, ha, hb, hz, hzb, q⟩ := h
  by_cases hq : la.length / 4 ≤ lb.length
  · exact MuSub.op_subTx pins s σ H _ _ v u Q I rx ry ⟨a, b, la, lb, rfl, rfl, ha, hb, hq, by omega, q⟩
  obtain rfl : v = Value.ref a := rx
  obtain rfl : u = Value.ref b := ry
  have Ra := setTx_get I ha
  have Rb := setTx_get I hb
  refine wpAny_binaryOp_same (tx_type Ra) (tx_type Rb) F.fills_set_sub F.slot_set_sub ?_
  refine wpAny_call_entry F.slot_set_sub (tx_type Ra) MuSub.entry_set_sub ?_ (F.args_set_sub_2 _ _)
  unfold Builtin.«frozenset.__sub__»
  refine wpAny_bind (m := Builtin.Frozenset.slot1 "__sub__" _) (wpAny_of_eq (a := (.ref a, .ref b)) (by rfl) ?_)
  refine wpAny_bind (wpAny_bind (any_set Ra ?_))
  refine any_set Rb ?_
  refine wp_if_neg (by simp) ?_
  refine wpAny_bind (m := Builtin.Frozenset.addrOf _) (wpAny_pure ?_)
  refine wpAny_bind (tx_subC Ra Rb hq hz fun h' lr d tk k R m => ?_)
  refine wpAny_pure ⟨_, rfl, ?_⟩
  have hn : H s.heap.objs.size = none := I.hok.fresh (Nat.le_refl _)
  have ⟨D, _, p⟩ := R
  refine ⟨fun z => (by cases z), .ref _, upd H s.heap.objs.size (SetTx X.prog X.w s.heap.objs.size lr), ?_, rfl, q _ lr hn p.nd m⟩
  exact I.call (ch := []) (Un.laid k (Nat.le_refl _) hn) (I.hok.laid k (Nat.le_refl _) (setTx_new R)) I.bare (fun _ z => nomatch z)
end
end MuSbx

namespace MuWi
open PySem PySem.Spec PyProof.Rows L2
/-! ### range(n) as a value, walked more than once -/
section
variable {X : Cx}
def rRng1 : List V → Hp → VK → Prop := fun vs H Q => ∃ n : Int, vs = [V.int n] ∧ ∀ p, H p = none → Q (.ref p) (upd H p (.rng 0 n))
theorem cr_range1 : CallR X (.type "range") rRng1 := by
  intro pins s σ H vs us Q I r h
  obtain ⟨n, rfl, q⟩ := h
  obtain ⟨u, rfl, t, rfl⟩ := r.one
  exact call_range_1 ⟨.ref s.heap.objs.size, upd H s.heap.objs.size (.rng 0 n), I.laid (t' := s.toks + 1 + 1) (fun b o e => Heap.get?_push_of_some _ e) (Nat.le_refl _) ⟨s.toks, t, s.toks + 1, Heap.get?_push_size _ rfl⟩, rfl, q _ (I.hok.fresh (Nat.le_refl _))⟩
def iRngV (te : TE) : TI := fun σ H R => te σ H fun x H1 => ∃ (a : Addr) (n : Int), x = .ref a ∧ H1 a = some (.rng 0 n) ∧ (-(2 ^ 62) ≤ n ∧ n < 2 ^ 62) ∧ R (Itr 0 n.toNat) H1
theorem pi_rngV {tg e : Expr} {te : TE} (h : PE X e te) : PI X tg e (iRngV te) where
  run := fun pins s σ H R I q => by
    refine thn (h.run pins s σ H _ I q) fun xv s1 x => ?_
    obtain ⟨y, H1, I1, r1, a, n, rfl, ha, ⟨b1, b2⟩, q1⟩ := x
    cases r1
    obtain ⟨t, u, v, g⟩ := I1.hok a _ ha
    refine wpAny_pyIter_range (show IsRange s1.heap a 0 n 1 t u v from g) (small_one (by decide) (by decide) b1 b2) ?_
    refine ⟨s1.heap.objs.size, [s1.heap.objs.size], _, Itr 0 n.toNat, H1, rfl, I1.kept (t' := s1.toks) fun b o z => Heap.get?_push_of_some _ z, turn_range _ 0 n.toNat, ?_, fun b hb => ?_, q1⟩
    · have e2 : ((n.toNat : Nat) : Int) - ((0 : Nat) : Int) = Builtin.Range.rangeSize 0 n 1 := by
        rw [rangeSize_one]
        split <;> omega
      show IsRangeIter _ _ ((0 : Int) + ((0 : Nat) : Int) * 1) (((n.toNat : Nat) : Int) - ((0 : Nat) : Int)) 1
      rw [e2]
      exact Heap.get?_push_size _ rfl
    · rw [List.mem_singleton.mp hb]
      exact I1.fpOk (Nat.le_refl _) (I1.hok.fresh (Nat.le_refl _))
/-! ### {t: v for t in xs}, t tuples of numbers and texts -/
theorem t_put {pins : List (Addr × Obj)} {σ : L2.St} {H : Hp} {s : Shared} {E : Value → Shared → Prop} {D b : Addr} {kvs : List (List Key × V)} {k : List Key} {v : V} {r : Value} {Q : Unit → Shared → Prop} (hu : X.A.units + 1 < cLine) (I : Inv X pins σ H s) (hD : H D = some (.dT kvs)) (hz : kvs.length < sizeLine)
    (hb : H b = some (.tup (k.map kV))) (rv : RelV v r) (h : ∀ s', Inv X pins σ (upd H D (.dT (putK kvs k v))) s' → Q () s') : wpAny (model X.prog X.w) X.A (dictSet D (.ref b) r) Q E s := by
  obtain ⟨z0, nS, xs, kt, dd⟩ := dt_of I.hok hD
  have zx : xs.length ≤ sizeLine := Paired.length kt ▸ z0
  have zp : (putK kvs k v).length ≤ sizeLine := Nat.le_trans (length_putK kvs k v) hz
  refine wpAny_dictSet_heap (hsz := zx) (show X.A.units < cLine from Nat.lt_of_succ_lt hu) (key_of I.hok hb) dd fun h1 d1 sb => h _ ?_
  obtain ⟨ob, es, ep, g0, g1, g2, g3, _, g5⟩ := d1
  have off : ∀ c (ys : List V), H c = some (.tup ys) → c ≠ D := fun c ys hc => ne_of hc hD fun z => nomatch z
  exact d_write I (by rw [hD]; exact True.intro) sb ⟨ob, g0⟩ ⟨zp, nS, _, (kt.put k hb rv).keeps fun c ys hc => (upd_ne (off c ys hc)).trans hc, ob, es, ep, g0, g1, g2, g3, g5⟩
abbrev cdT (ke ve ta ia : Expr) (sc : Scope) (ps : Pos) : Expr := .DictComp ke ve [⟨ta, ia, [], 0⟩] sc ps
abbrev lpT (ke ve ta ia : Expr) (sc : Scope) (ps : Pos) (it acc : Value) (env : Env) : Code := .compLoop (cdT ke ve ta ia sc ps) 0 it acc env
abbrev stT (ke ve ta ia : Expr) (sc : Scope) (ps : Pos) (it acc : Value) (env : Env) : Code := .compStart (cdT ke ve ta ia sc ps) 0 it acc env
section
variable {prog : Program} {w : World} {A : Around} {R : Result → Shared → Prop} {s : Shared} {ke ve ta ia : Expr} {sc : Scope} {ps : Pos} {it : Value} {D : Addr} {env : Env}
abbrev erT (prog : Program) (w : World) (A : Around) (env : Env) (R : Result → Shared → Prop) : Value → Shared → Prop := notedBy (model prog w) A env fun x s' => R (.error x) s'
theorem turnT : compTurn (cdT ke ve ta ia sc ps) 0 it (.ref D) env = (do
      standAt ia.pos
      match ← pyNext it with
      | none => pure (.done .next)
      | some y =>
        letOwnedTupleGo ta it y
        assign ta env y
        let mut go := true
        for c in ([] : List Expr) do
          if go then go ← isTrue c env (eval c env)
        if go then
          (do
            let y ← eval ke env
            let z ← holding [y] (eval ve env)
            standAt { ke.pos with endLine := ve.pos.endLine, endCol := ve.pos.endCol }
            holding [y, z] (dictSet D y z))
        again (lpT ke ve ta ia sc ps it (.ref D) env)) := by rfl
theorem loopT (J : Nat → Shared → Prop)
    (step : ∀ n s, J n s → wpAny (model prog w) A (pyNext it) (fun r s1 => match r with
      | none => R (.ok .next) s1
      | some y => wpAny (model prog w) A (letOwnedTupleGo ta it y) (fun _ s2 => wpAny (model prog w) A (assign ta env y) (fun _ s3 => wpAny (model prog w) A (eval ke env) (fun x s4 => wpAny (model prog w) A (eval ve env) (fun z s5 =>
          wpAny (model prog w) A (dictSet D x z) (fun _ s6 => ∃ m, m < n ∧ J m s6) (erT prog w A env R) s5) (erT prog w A env R) s4) (erT prog w A env R) s3) (erT prog w A env R) s2) (erT prog w A env R) s1) (erT prog w A env R) s)
    (n : Nat) (h : J n s) : codeAny (model prog w) A (lpT ke ve ta ia sc ps it (.ref D) env) R s := by
  refine codeAny_loop rfl J (fun n s j => ?_) n h
  show wpAny _ A ((compTurn (cdT ke ve ta ia sc ps) 0 it (.ref D) env).onRaise (fun x => do noteFrame x env; theTreesLotGoes x)) _ _ s
  refine wpAny_noted ?_
  rw [turnT]
  refine wpAny_bind (wpAny_standAt (wpAny_bind (wpAny_mono (step n s j) (fun r s1 h1 => ?_) fun _ _ z => z)))
  cases r with
  | none => exact wpAny_pure h1
  | some y =>
    refine wpAny_bind (wpAny_mono h1 (fun _ s2 h2 => wpAny_bind (wpAny_mono h2 (fun _ s3 h3 => ?_) fun _ _ z => z)) fun _ _ z => z)
    refine wpAny_bind (wpAny_tests_nil ?_)
    exact wpAny_bind (wpAny_bind (wpAny_mono h3 (fun x s4 h4 => wpAny_bind (wpAny_holding (wpAny_mono h4 (fun y s5 h5 => wpAny_bind (wpAny_standAt (wpAny_holding (wpAny_mono h5 (fun _ s6 h6 => wpAny_pure ⟨rfl, h6⟩) fun _ _ z => z)))) fun _ _ z => z))) fun _ _ z => z))
end
/-- D the new dict -/
def tDcT (wa : TI) (ga : TG) (tk tv : TE) (vs : List Nat) : TE := fun σ H Q => wa σ H fun J H1 => ∀ D, H1 D = none → ∃ W : Nat → Nat → Hp → Prop, (∃ m, W 0 m (upd H1 D (.dT []))) ∧ ∀ i m H, W i m H →
  (J.stop i H ∧ Q (.ref D) H) ∨ (J.go i H ∧ ∃ Nx : Hp → Prop, (∀ H', Nx H' → ∃ m', m' < m ∧ W (i + 1) m' H') ∧ ∀ x H', J.yld i H x H' → ga x (wipe σ vs) H' fun σ2 H2 => wipe σ2 vs = wipe σ vs ∧
    tk σ2 H2 fun y H3 => tv σ2 H3 fun z H4 => ∃ (t : Addr) (kvs : List (List Key × V)) (c : List Key), y = .ref t ∧ H4 t = some (.tup (c.map kV)) ∧ H4 D = some (.dT kvs) ∧ kvs.length < sizeLine ∧ Nx (upd H4 D (.dT (putK kvs c z))))
theorem coreT {pins : List (Addr × Obj)} {s : Shared} {σ : L2.St} {H : Hp} {Q : VK} {ke ve ta ia : Expr} {sc : Scope} {own : List (Str × Nat)} {ps : Pos} {wa : TI} {ga : TG} {tk tv : TE}
    (hc : X.calm = true) (hu : X.A.units + 64 < cLine) (hN : X.N.Nodup) (I : Inv X pins σ H s) (hi : PI X ta ia wa) (ok : BlkOk X.N X.env.scope sc own)
    (hga : ∀ (s : Shared) (H : Hp) (C : Addr) (cl : List (Str × Addr)) (fp : List Addr), PG (X.blk s H sc (compEnvC sc cl C X.env) fp) ta ga)
    (hk : ∀ (s : Shared) (H : Hp) (C : Addr) (cl : List (Str × Addr)) (fp : List Addr), PE (X.blk s H sc (compEnvC sc cl C X.env) fp) ke tk)
    (he : ∀ (s : Shared) (H : Hp) (C : Addr) (cl : List (Str × Addr)) (fp : List Addr), PE (X.blk s H sc (compEnvC sc cl C X.env) fp) ve tv)
    (hs : ∀ x, foldedSetIterable ia X.env x = pure x)
    (h : tDcT wa ga tk tv (own.map (·.2)) σ H Q) :
    wpAny (model X.prog X.w) X.A (eval (cdT ke ve ta ia sc ps) X.env) (EP X pins σ Q) X.xe s := by
  have free : ∀ y ∈ sc.names, y.2 = .free → ∃ c, X.env.cells.lookup y.1 = some c := fun y hy z => (ok.free y hy z).elim (fun k => I.ok.has _ (.inl k)) (fun k => I.ok.has _ (.inr k))
  rw [arm_eval_DictComp]
  refine wpAny_comprehension_free (use := none) rfl hs (closure_ok free) ok.kind (fun y hy z => by rw [ok.uniq y hy, z])
    (thn (hi.run pins s σ H _ I h) fun xv s1 hx => thn hx fun itv s2 h2 => ?_)
  obtain ⟨it, fp, tn, J, H2, e0, I2, T, sta, f2, q⟩ := h2
  subst e0
  refine wpAny_newObj_type (newEnv_comp ?_)
  generalize hD : s2.heap.objs.size = D
  have nD : H2 D = none := I2.hok.fresh (Nat.le_of_eq hD)
  obtain ⟨W, ⟨m0, w0⟩, turn⟩ := q D nD
  generalize hs3 : ({ s2 with heap := s2.heap.push { cls := .type "dict", data := .dict #[] } } : Shared) = s3
  have heap3 : s3.heap = s2.heap.push { cls := .type "dict", data := .dict #[] } := by rw [← hs3]
  have I3 : Inv X pins σ (upd H2 D (.dT [])) s3 := by
    rw [← hs3]
    refine I2.laid (t' := s2.toks) (fun b o z => Heap.get?_push_of_some _ z) (Nat.le_of_eq hD) ?_
    rw [← hD]
    exact dt_empty s2.heap I2.big
  have f3 : ∀ b ∈ fp, FpOk X pins (upd H2 D (.dT [])) b ∧ b < s3.heap.objs.size := fun b hb => by
    obtain ⟨o, z, _⟩ := T.obj _ _ sta b hb
    have lt := Heap.lt_size z
    refine ⟨⟨?_, (f2 b hb).2⟩, by rw [heap3, Heap.size_push]; exact Nat.lt_succ_of_lt lt⟩
    rw [upd_ne (by rw [← hD]; exact Nat.ne_of_lt lt)]
    exact (f2 b hb).1
  have sta3 : tn 0 s3.heap := T.keep _ _ _ sta fun b _ o z => by rw [heap3]; exact Heap.get?_push_of_some _ z
  have I4 := block_start I3 ok hN f3
  have pa := hga s3 (upd H2 D (.dT [])) s3.heap.objs.size (cellsFrom (s3.heap.objs.size + 1) sc.names (cloFrom X.env.cells sc.names [])) fp
  have pk := hk s3 (upd H2 D (.dT [])) s3.heap.objs.size (cellsFrom (s3.heap.objs.size + 1) sc.names (cloFrom X.env.cells sc.names [])) fp
  have pe := he s3 (upd H2 D (.dT [])) s3.heap.objs.size (cellsFrom (s3.heap.objs.size + 1) sc.names (cloFrom X.env.cells sc.names [])) fp
  show codeAny _ _ (stT ke ve ta ia sc ps (.ref it) (.ref D) (compEnvC sc (cellsFrom (s3.heap.objs.size + 1) sc.names (cloFrom X.env.cells sc.names [])) s3.heap.objs.size X.env)) (compPost (model X.prog X.w) X.A X.xe none (EP X pins σ Q) (.ref D) s3.heap.objs.size) { s3 with heap := pushCells (s3.heap.push { cls := .type "dict", data := .dict #[] }) sc.names }
  have nfp : ∀ b ∈ fp, (upd H2 D (.dT [])) b = none := fun b hb => (f3 b hb).1.1
  generalize hce : compEnvC sc (cellsFrom (s3.heap.objs.size + 1) sc.names (cloFrom X.env.cells sc.names [])) s3.heap.objs.size X.env = ce at I4 pa pk pe ⊢
  have cL : ce.locals = s3.heap.objs.size := by subst hce; rfl
  generalize hH3 : upd H2 D (.dT []) = H3 at I3 I4 pa pk pe w0 nfp f3
  generalize hs4 : ({ s3 with heap := pushCells (s3.heap.push { cls := .type "dict", data := .dict #[] }) sc.names } : Shared) = s4 at I4 ⊢
  have sta4 : tn 0 s4.heap := T.keep _ _ _ sta3 fun b _ o z => by rw [← hs4]; exact pushCells_keeps _ _ _ _ (Heap.get?_push_of_some _ z)
  have okf : ∀ {σ' : L2.St} {H' : Hp} {s' : Shared}, Inv (X.blk s3 H3 sc ce fp) [] σ' H' s' → (∀ b ∈ fp, H' b = none) → ∀ b ∈ fp, FpOk (X.blk s3 H3 sc ce fp) [] H' b := fun {σ' H' s'} I' hn b hb =>
    ⟨hn b hb, (I'.ok.exf b hb).1, I'.ok.exfs b hb, .inl hb, fun x c z => (I'.ok.exf b hb).2 x c z, fun p hp => absurd (show p ∈ ([] : List (Addr × Obj)) ++ [] from hp) (by simp)⟩
  have go : codeAny (model X.prog X.w) X.A (lpT ke ve ta ia sc ps (.ref it) (.ref D) ce) (compPost (model X.prog X.w) X.A X.xe none (EP X pins σ Q) (.ref D) s3.heap.objs.size) s4 := by
    refine loopT (fun n s' => ∃ i H', Inv (X.blk s3 H3 sc ce fp) [] (wipe σ (own.map (·.2))) H' s' ∧ tn i s'.heap ∧ (∀ b ∈ fp, H' b = none) ∧ W i n H') ?_ m0 ⟨0, H3, I4, sta4, nfp, w0⟩
    rintro n s5 ⟨i, H5, I5, st5, n5, w5⟩
    rcases turn i n H5 w5 with ⟨stop, qq⟩ | ⟨goes, Nx, less, step⟩
    · refine thnF (T.done (X.blk s3 H3 sc ce fp) rfl rfl rfl hc i [] s5 _ H5 (fun _ _ => False) I5 (okf I5 n5) st5 stop) fun r s6 ⟨hr, I6⟩ => ?_
      subst hr
      have I7 : Inv X pins σ H5 s6 := I3.call' (ch := fp) I6.os I6.base I6.hok I6.bare fun b hb => ⟨(f3 b hb).1.2.2.2.1, (f3 b hb).1.2.1, (f3 b hb).1.2.2.2.2.1, (f3 b hb).1.2.2.2.2.2⟩
      have nC : H5 s3.heap.objs.size = none := by
        have z : H5 ce.locals = none := I6.free
        rw [cL] at z
        exact z
      obtain ⟨m, hn, _⟩ := I6.loc
      have hn : s6.heap.Ns ce.locals m := hn
      rw [cL] at hn
      obtain ⟨g0, g1, g2, g3, g4, g5⟩ := I3.fpOk (Nat.le_refl _) nC
      exact ⟨m, hn, fun h'' sb => ⟨.ref D, H5, I7.turned (t' := s6.toks) (fun b o hb z => (sb.2 b hb).trans z) nC g1 g3 g4 g5, rfl, qq⟩⟩
    · refine thnF (T.item (X.blk s3 H3 sc ce fp) rfl rfl rfl hc i [] s5 _ H5 (fun _ _ => False) I5 (okf I5 n5) st5 goes) fun r s6 ⟨u, hr, h6⟩ => ?_
      subst hr
      refine thnF h6 fun _ s7 ⟨x, H7, I7, r7, y7, st7, n7⟩ => ?_
      refine thnF (pa.run _ s7 _ H7 x u _ (I7.pinned (okf I7 n7) (T.obj _ _ st7)) r7 (step x H7 y7)) fun _ s8 ⟨σ8, H8, I8, hw8, q8⟩ => ?_
      refine thnF (pk.run _ s8 σ8 H8 _ I8 q8) fun z s9 ⟨yk, H9, I9, r9, q9⟩ => ?_
      refine thnF (pe.run _ s9 σ8 H9 _ I9 q9) fun z2 s10 ⟨yv, Ha, Ia, ra, t, kvs, c, ey, ht, hDa, hz, nx⟩ => ?_
      subst ey
      obtain rfl : z = Value.ref t := r9
      refine t_put (X := X.blk s3 H3 sc ce fp) (by show X.A.units + 1 < cLine; omega) Ia hDa hz ht ra fun sb Ib => ?_
      obtain ⟨m', hm, w'⟩ := less _ nx
      have pin' : ∀ b ∈ fp, ∀ o, s7.heap.get? b = some o → sb.heap.get? b = some o ∧ (upd Ha D (.dT (putK kvs c yv))) b = none := fun b hb o z =>
        let r := Ib.pin (b, o) (List.mem_append_right _ (List.mem_append_right _ (mem_pinsAt hb z)))
        ⟨r.1, r.2.1⟩
      refine ⟨m', hm, i + 1, _, (Ib.unpinned (pins := [])).weak (by rw [← hw8, wipe_length]) (fun i v q => by rw [← hw8] at q; exact (wipe_some q).1), T.keep _ _ _ st7 fun b hb o z => (pin' b hb o z).1, fun b hb => ?_, w'⟩
      obtain ⟨o, z, _⟩ := T.obj _ _ st7 b hb
      exact (pin' b hb o z).2
  exact codeAny_compStart_dict go (T.self X.A 0 _ _ _ sta4 go)
theorem pe_dcT {ke ve ta ia : Expr} {sc : Scope} {own : List (Str × Nat)} {ps : Pos} {wa : TI} {ga : TG} {tk tv : TE}
    (hc : X.calm = true) (hu : X.A.units + 64 < cLine) (hN : X.N.Nodup) (hi : PI X ta ia wa) (ok : BlkOk X.N X.env.scope sc own)
    (hga : ∀ (s : Shared) (H : Hp) (C : Addr) (cl : List (Str × Addr)) (fp : List Addr), PG (X.blk s H sc (compEnvC sc cl C X.env) fp) ta ga)
    (hk : ∀ (s : Shared) (H : Hp) (C : Addr) (cl : List (Str × Addr)) (fp : List Addr), PE (X.blk s H sc (compEnvC sc cl C X.env) fp) ke tk)
    (he : ∀ (s : Shared) (H : Hp) (C : Addr) (cl : List (Str × Addr)) (fp : List Addr), PE (X.blk s H sc (compEnvC sc cl C X.env) fp) ve tv)
    (hs : ∀ x, foldedSetIterable ia X.env x = pure x := by intro _; rfl) :
    PE X (.DictComp ke ve [⟨ta, ia, [], 0⟩] sc ps) (tDcT wa ga tk tv (own.map (·.2))) :=
  ⟨fun _ _ _ _ _ I h => coreT hc hu hN I hi ok hga hk he hs h⟩
end
/-- the scope of the comprehension that the k-th statement of a def assigns, as its block has it -/
def outSc0 (s : Stmt) (k : Nat) : Scope := match s with
  | .FunctionDef _ _ body _ _ _ _ _ _ _ => match body[k]? with
    | some (.Assign _ (.ListComp _ _ sc _) _) => sc
    | _ => { kind := .function, names := [], isGenerator := false, isCoroutine := false }
  | _ => { kind := .function, names := [], isGenerator := false, isCoroutine := false }
def outSc (s : Stmt) (k : Nat) : Scope := { outSc0 s k with names := (outSc0 s k).names.map fun (n, x) => if (x == NameKind.free && (defScope s).kind == .function && (defScope s).names.lookup n == some .cell) then (n, NameKind.cell) else (n, x) }
/-! ### sorted of lists of texts -/
def wl (us : List Str) : PyData := .list (us.map .str)
theorem listLt_total : ∀ xs ys : List Str, W.listLt xs ys = false → W.listLt ys xs = false → xs = ys
  | [], [], _, _ => rfl
  | [], _ :: _, h, _ => nomatch h
  | _ :: _, [], _, h => nomatch h
  | x :: xs, y :: ys, h1, h2 => by
    unfold W.listLt at h1 h2
    by_cases e : x = y
    · subst e
      rw [if_pos rfl] at h1 h2
      rw [listLt_total xs ys h1 h2]
    · rw [if_neg e] at h1
      rw [if_neg (Ne.symm e)] at h2
      have a1 : ¬ x.cps.toList < y.cps.toList := of_decide_eq_false h1
      have a2 : ¬ y.cps.toList < x.cps.toList := of_decide_eq_false h2
      refine absurd ?_ e
      have e3 : x.cps.toList = y.cps.toList := List.le_antisymm (List.not_lt.mp a2) (List.not_lt.mp a1)
      cases x
      cases y
      exact congrArg Str.mk (Array.toList_inj.mp e3)
theorem wl_lt (xs ys : List Str) : W.dataLt (wl xs) (wl ys) = W.listLt xs ys := W.DatumOrd.lt_eq (α := List Str) xs ys
theorem wl_alike (xs ys : List Str) : W.alike (wl xs) (wl ys) = true := W.DatumOrd.alike (α := List Str) xs ys
/-- in order, none the same -/
def LeW (xs ys : List Str) : Prop := W.listLt ys xs = false
theorem words_one {a b : List (List Str)} (ha : a.Pairwise LeW) (hb : b.Pairwise LeW) (pm : a.Perm b) : a = b :=
  List.Perm.eq_of_pairwise (le := LeW) (fun x y _ _ h1 h2 => listLt_total x y h2 h1) ha hb pm
end MuWi

namespace MuWi
open PySem PySem.Spec PyProof.Rows L2 Evl MuK MuNr MuEd
/-! ### sets within others -/
def subB (u v : List Str) : Bool := u.all fun x => decide (x ∈ v)
theorem subB_iff {u v : List Str} : subB u v = true ↔ ∀ x ∈ u, x ∈ v := by
  unfold subB
  rw [List.all_eq_true]
  exact ⟨fun h x m => of_decide_eq_true (h x m), fun h x m => decide_eq_true (h x m)⟩
def witB (us : List (List Str)) (p : Nat × Nat) : Bool := decide (p.1 ≠ p.2) && subB (us.getD p.1 []) (us.getD p.2 [])
def witN (us : List (List Str)) : List (Nat × Nat) := (MuLc.allG us.length us.length).filter (witB us)
theorem in_allG {M N : Nat} {p : Nat × Nat} : p ∈ MuLc.allG M N ↔ p.1 < M ∧ p.2 < N := by
  refine ⟨MuLc.mem_allG, fun h => ?_⟩
  unfold MuLc.allG
  exact List.mem_flatMap.mpr ⟨p.1, List.mem_range.mpr h.1, List.mem_map.mpr ⟨p.2, List.mem_range.mpr h.2, rfl⟩⟩
theorem mem_wit {us : List (List Str)} {p : Nat × Nat} : p ∈ witN us ↔ p.1 < us.length ∧ p.2 < us.length ∧ p.1 ≠ p.2 ∧ ∀ x ∈ us.getD p.1 [], x ∈ us.getD p.2 [] := by
  unfold witN witB
  rw [List.mem_filter, in_allG, Bool.and_eq_true, decide_eq_true_eq, subB_iff, and_assoc]
theorem allG_up (N : Nat) : ∀ M, (MuLc.allG M N).Pairwise ltP
  | 0 => List.Pairwise.nil
  | M + 1 => by
    rw [MuLc.allG_succ, List.pairwise_append]
    refine ⟨allG_up N M, ?_, fun x hx y hy => .inl ?_⟩
    · rw [List.pairwise_map]
      exact List.pairwise_lt_range.imp fun h => .inr ⟨rfl, h⟩
    · have h1 := (MuLc.mem_allG hx).1
      obtain ⟨l, _, rfl⟩ := List.mem_map.mp hy
      exact h1
theorem wit_up (us : List (List Str)) : (witN us).Pairwise ltP := (allG_up _ _).filter _
theorem lt_ne {p q : Nat × Nat} (h : ltP p q) : p ≠ q := fun e => by
  rw [e] at h
  unfold ltP at h
  omega
theorem wit_nd (us : List (List Str)) : (witN us).Nodup := (wit_up us).imp lt_ne
theorem wit_len (us : List (List Str)) : (witN us).length ≤ us.length * us.length := Nat.le_trans (List.length_filter_le _ _) (MuLc.allG_len _ _)
theorem wit_trans {us : List (List Str)} {i j k : Nat} (h1 : (i, j) ∈ witN us) (h2 : (j, k) ∈ witN us) (h : i ≠ k) : (i, k) ∈ witN us := by
  obtain ⟨a1, _, _, a4⟩ := mem_wit.mp h1
  obtain ⟨_, b2, _, b4⟩ := mem_wit.mp h2
  exact mem_wit.mpr ⟨a1, b2, h, fun x m => b4 x (a4 x m)⟩
/-- what is against i as a top -/
def lowF (us : List (List Str)) (p : Nat × Nat) : Bool := decide (p.2 < p.1) || !decide ((p.2, p.1) ∈ witN us)
def lowB (us : List (List Str)) (i : Nat) : Bool := (witN us).any fun p => decide (p.1 = i) && lowF us p
def topN (us : List (List Str)) : List Nat := (List.range us.length).filter fun i => !lowB us i
def ovB (us : List (List Str)) (i j : Nat) : Bool := decide ((i, j) ∈ witN us) && lowF us (i, j)
theorem ov_iff {us : List (List Str)} {i j : Nat} : ovB us i j = true ↔ (i, j) ∈ witN us ∧ (j < i ∨ (j, i) ∉ witN us) := by
  unfold ovB lowF
  rw [Bool.and_eq_true, decide_eq_true_eq, Bool.or_eq_true, decide_eq_true_eq, Bool.not_eq_true', decide_eq_false_iff_not]
theorem low_iff {us : List (List Str)} {i : Nat} : lowB us i = true ↔ ∃ j, ovB us i j = true := by
  unfold lowB
  rw [List.any_eq_true]
  constructor
  · rintro ⟨p, m, h⟩
    obtain ⟨h1, h2⟩ := Bool.and_eq_true_iff.mp h
    obtain ⟨p1, p2⟩ := p
    obtain rfl : p1 = i := of_decide_eq_true h1
    refine ⟨p2, ?_⟩
    unfold ovB
    rw [decide_eq_true m, h2]
    rfl
  · rintro ⟨j, h⟩
    unfold ovB at h
    obtain ⟨h1, h2⟩ := Bool.and_eq_true_iff.mp h
    exact ⟨(i, j), of_decide_eq_true h1, by rw [h2, decide_eq_true rfl]; rfl⟩
theorem ov_trans {us : List (List Str)} {i j k : Nat} (h1 : ovB us i j = true) (h2 : ovB us j k = true) : ovB us i k = true := by
  rw [ov_iff] at *
  obtain ⟨a, a2⟩ := h1
  obtain ⟨b, b2⟩ := h2
  have ij := (mem_wit.mp a).2.2.1
  have jk := (mem_wit.mp b).2.2.1
  have ik : i ≠ k := fun e => by
    subst e
    rcases a2 with a2 | a2
    · rcases b2 with b2 | b2
      · omega
      · exact b2 a
    · exact a2 b
  refine ⟨wit_trans a b ik, ?_⟩
  by_cases c : (k, i) ∈ witN us
  · have kj := wit_trans c a (Ne.symm jk)
    have ji := wit_trans b c (Ne.symm ij)
    rcases a2 with a2 | a2
    · rcases b2 with b2 | b2
      · exact .inl (Nat.lt_trans b2 a2)
      · exact absurd kj b2
    · exact absurd ji a2
  · exact .inr c
theorem ov_irr {us : List (List Str)} {i : Nat} : ovB us i i ≠ true := fun h => (mem_wit.mp (ov_iff.mp h).1).2.2.1 rfl
theorem mem_top {us : List (List Str)} {i : Nat} : i ∈ topN us ↔ i < us.length ∧ ∀ j, ovB us i j ≠ true := by
  unfold topN
  rw [List.mem_filter, List.mem_range, Bool.not_eq_true']
  refine and_congr_right fun _ => ⟨fun h j hj => ?_, fun h => ?_⟩
  · rw [low_iff.mpr ⟨j, hj⟩] at h
    exact nomatch h
  · cases c : lowB us i with
    | false => rfl
    | true =>
      obtain ⟨j, hj⟩ := low_iff.mp c
      exact absurd hj (h j)
theorem filter_lt {p q : Nat → Bool} {x : Nat} : ∀ l : List Nat, (∀ k, p k = true → q k = true) → x ∈ l → p x = false → q x = true → (l.filter p).length < (l.filter q).length
  | y :: l, h, m, hp, hq => by
    have le : ∀ l : List Nat, (l.filter p).length ≤ (l.filter q).length := fun l => by
      induction l with
      | nil => exact Nat.le_refl _
      | cons z l ih =>
        rw [List.filter_cons, List.filter_cons]
        cases c : p z with
        | true =>
          rw [h z c]
          exact Nat.succ_le_succ ih
        | false =>
          cases q z
          · exact ih
          · exact Nat.le_succ_of_le ih
    rw [List.filter_cons, List.filter_cons]
    rcases List.mem_cons.mp m with rfl | m
    · rw [hp, hq]
      exact Nat.lt_succ_of_le (le l)
    · have ih := filter_lt l h m hp hq
      cases c : p y with
      | true =>
        rw [h y c]
        exact Nat.succ_lt_succ ih
      | false =>
        cases q y
        · exact ih
        · exact Nat.lt_succ_of_lt ih
theorem top_over (us : List (List Str)) : ∀ (n i : Nat), ((List.range us.length).filter fun k => ovB us i k).length < n → i < us.length → i ∉ topN us → ∃ t ∈ topN us, ovB us i t = true
  | 0, _, h, _, _ => absurd h (Nat.not_lt_zero _)
  | n + 1, i, h, hi, ht => by
    have : ∃ j, ovB us i j = true := by
      refine Classical.byContradiction fun c => ht (mem_top.mpr ⟨hi, fun j hj => c ⟨j, hj⟩⟩)
    obtain ⟨j, hj⟩ := this
    by_cases tj : j ∈ topN us
    · exact ⟨j, tj, hj⟩
    · have jn := (mem_wit.mp (ov_iff.mp hj).1).2.1
      have less := filter_lt (p := fun k => ovB us j k) (q := fun k => ovB us i k) (x := j) (List.range us.length) (fun k hk => ov_trans hj hk) (List.mem_range.mpr jn) (by
        cases c : ovB us j j with
        | false => rfl
        | true => exact absurd c ov_irr) hj
      obtain ⟨t, mt, ot⟩ := top_over us n j (by omega) jn tj
      exact ⟨t, mt, ov_trans hj ot⟩
theorem top_apart {us : List (List Str)} {i j : Nat} (hi : i ∈ topN us) (hj : j ∈ topN us) : (i, j) ∉ witN us := fun h => by
  have ne := (mem_wit.mp h).2.2.1
  have h1 : ¬ (j < i ∨ (j, i) ∉ witN us) := fun z => (mem_top.mp hi).2 j (ov_iff.mpr ⟨h, z⟩)
  have ji : (j, i) ∈ witN us := Classical.byContradiction fun z => h1 (.inr z)
  have h2 : ¬ (i < j ∨ (i, j) ∉ witN us) := fun z => (mem_top.mp hj).2 i (ov_iff.mpr ⟨ji, z⟩)
  have a1 : ¬ j < i := fun z => h1 (.inl z)
  have a2 : ¬ i < j := fun z => h2 (.inl z)
  omega
theorem top_up (us : List (List Str)) : (topN us).Pairwise (· < ·) := List.pairwise_lt_range.filter _
theorem top_lt {us : List (List Str)} {i : Nat} (h : i ∈ topN us) : i < us.length := (mem_top.mp h).1
theorem top_len (us : List (List Str)) : (topN us).length ≤ us.length := by
  have := List.length_filter_le (fun i => !lowB us i) (List.range us.length)
  rwa [List.length_range] at this
/-! ### a lot in another order -/
def movedL (us : List (List Str)) (o : List Nat) : List (List Str) := o.map fun k => us.getD k []
section
variable {us : List (List Str)} {o : List Nat}
theorem moved_len (pm : o.Perm (List.range us.length)) : (movedL us o).length = us.length := by
  unfold movedL
  rw [List.length_map, pm.length_eq, List.length_range]
theorem in_order (pm : o.Perm (List.range us.length)) {k : Nat} : k ∈ o ↔ k < us.length := by
  rw [pm.mem_iff, List.mem_range]
theorem moved_at (pm : o.Perm (List.range us.length)) {k : Nat} (h : k < us.length) : o.idxOf k < us.length ∧ (movedL us o).getD (o.idxOf k) [] = us.getD k [] := by
  have m := (in_order pm).mpr h
  have lt : o.idxOf k < o.length := List.idxOf_lt_length_of_mem m
  have zl : o.length = us.length := by rw [pm.length_eq, List.length_range]
  refine ⟨by omega, ?_⟩
  unfold movedL
  rw [List.getD_eq_getElem?_getD, List.getElem?_map, List.getElem?_eq_getElem lt, List.getElem_idxOf lt]
  rfl
theorem back_at (pm : o.Perm (List.range us.length)) {m : Nat} (h : m < us.length) : ∃ k, k < us.length ∧ o.idxOf k = m := by
  have zl : o.length = us.length := by rw [pm.length_eq, List.length_range]
  have nd : o.Nodup := pm.nodup_iff.mpr List.nodup_range
  exact ⟨o[m], (in_order pm).mp (List.getElem_mem _), nd.idxOf_getElem m (by omega)⟩
theorem idx_inj (pm : o.Perm (List.range us.length)) {i j : Nat} (hi : i < us.length) (hj : j < us.length) (e : o.idxOf i = o.idxOf j) : i = j := by
  have l1 := List.idxOf_lt_length_of_mem ((in_order pm).mpr hi)
  have l2 := List.idxOf_lt_length_of_mem ((in_order pm).mpr hj)
  have e1 := List.getElem_idxOf l1
  have e2 := List.getElem_idxOf l2
  rw [← e1, ← e2]
  simp only [e]
def idxP (o : List Nat) (p : Nat × Nat) : Nat × Nat := (o.idxOf p.1, o.idxOf p.2)
theorem wit_moved (pm : o.Perm (List.range us.length)) {i j : Nat} (hi : i < us.length) (hj : j < us.length) : (o.idxOf i, o.idxOf j) ∈ witN (movedL us o) ↔ (i, j) ∈ witN us := by
  rw [mem_wit, mem_wit, moved_len pm]
  obtain ⟨a1, a2⟩ := moved_at pm hi
  obtain ⟨b1, b2⟩ := moved_at pm hj
  dsimp only
  rw [a2, b2]
  constructor
  · rintro ⟨_, _, h3, h4⟩
    exact ⟨hi, hj, fun e => h3 (by rw [e]), h4⟩
  · rintro ⟨_, _, h3, h4⟩
    exact ⟨a1, b1, fun e => h3 (idx_inj pm hi hj e), h4⟩
theorem moved_wit (pm : o.Perm (List.range us.length)) : (witN (movedL us o)).Perm ((witN us).map (idxP o)) := by
  refine (List.perm_ext_iff_of_nodup (wit_nd _) ?_).mpr fun p => ?_
  · unfold List.Nodup
    rw [List.pairwise_map]
    refine List.Pairwise.imp_of_mem (fun {x y} mx my ne e => ne ?_) (wit_nd us)
    obtain ⟨x1, x2, _⟩ := mem_wit.mp mx
    obtain ⟨y1, y2, _⟩ := mem_wit.mp my
    exact Prod.ext (idx_inj pm x1 y1 (congrArg Prod.fst e)) (idx_inj pm x2 y2 (congrArg Prod.snd e))
  · rw [List.mem_map]
    constructor
    · intro m
      obtain ⟨h1, h2, _⟩ := mem_wit.mp m
      rw [moved_len pm] at h1 h2
      obtain ⟨i, hi, ei⟩ := back_at pm h1
      obtain ⟨j, hj, ej⟩ := back_at pm h2
      refine ⟨(i, j), (wit_moved pm hi hj).mp ?_, Prod.ext ei ej⟩
      rw [ei, ej]
      exact m
    · rintro ⟨q, m, rfl⟩
      obtain ⟨h1, h2, _⟩ := mem_wit.mp m
      exact (wit_moved pm h1 h2).mpr m
/-- the tops of both have the same words -/
theorem top_back (pm : o.Perm (List.range us.length)) {m : Nat} (h : m ∈ topN (movedL us o)) : ∃ t ∈ topN us, ∀ x, x ∈ (movedL us o).getD m [] ↔ x ∈ us.getD t [] := by
  have hm := top_lt h
  rw [moved_len pm] at hm
  obtain ⟨k, hk, rfl⟩ := back_at pm hm
  have ek := (moved_at pm hk).2
  rw [ek]
  by_cases tk : k ∈ topN us
  · exact ⟨k, tk, fun x => Iff.rfl⟩
  · obtain ⟨t, mt, ot⟩ := top_over us _ k (Nat.lt_succ_self _) hk tk
    have w1 := (ov_iff.mp ot).1
    have ht := top_lt mt
    have w2 := (wit_moved pm hk ht).mpr w1
    have w3 : (o.idxOf t, o.idxOf k) ∈ witN (movedL us o) := Classical.byContradiction fun z => (mem_top.mp h).2 _ (ov_iff.mpr ⟨w2, .inr z⟩)
    have w4 := (wit_moved pm ht hk).mp w3
    exact ⟨t, mt, fun x => ⟨(mem_wit.mp w1).2.2.2 x, (mem_wit.mp w4).2.2.2 x⟩⟩
theorem top_forth (pm : o.Perm (List.range us.length)) {t : Nat} (h : t ∈ topN us) : ∃ m ∈ topN (movedL us o), ∀ x, x ∈ (movedL us o).getD m [] ↔ x ∈ us.getD t [] := by
  have ht := top_lt h
  obtain ⟨i1, e1⟩ := moved_at pm ht
  by_cases tk : o.idxOf t ∈ topN (movedL us o)
  · exact ⟨_, tk, fun x => by rw [e1]⟩
  · obtain ⟨m, mm, om⟩ := top_over (movedL us o) _ (o.idxOf t) (Nat.lt_succ_self _) (by rw [moved_len pm]; exact i1) tk
    have hm := top_lt mm
    rw [moved_len pm] at hm
    obtain ⟨k, hk, rfl⟩ := back_at pm hm
    have w1 := (ov_iff.mp om).1
    have w2 := (wit_moved pm ht hk).mp w1
    have w3 : (k, t) ∈ witN us := Classical.byContradiction fun z => (mem_top.mp h).2 _ (ov_iff.mpr ⟨w2, .inr z⟩)
    refine ⟨_, mm, fun x => ?_⟩
    rw [(moved_at pm hk).2]
    exact ⟨(mem_wit.mp w3).2.2.2 x, (mem_wit.mp w2).2.2.2 x⟩
end
/-! ### the words of the tops, each sorted -/
def WdsOf (us : List (List Str)) (k : Nat) (a : List Str) : Prop := k ∈ topN us ∧ a.Perm (us.getD k []) ∧ sortedS a = true
theorem paired_l {α β : Type} {R : α → β → Prop} : ∀ {xs : List α} {ys : List β}, Paired R xs ys → ∀ y ∈ ys, ∃ x ∈ xs, R x y
  | _, _, .nil, y, m => nomatch m
  | _, _, .cons h r, y, m => by
    rcases List.mem_cons.mp m with rfl | m
    · exact ⟨_, List.mem_cons_self, h⟩
    · obtain ⟨x, mx, hx⟩ := paired_l r y m
      exact ⟨x, List.mem_cons_of_mem _ mx, hx⟩
theorem paired_r {α β : Type} {R : α → β → Prop} : ∀ {xs : List α} {ys : List β}, Paired R xs ys → ∀ x ∈ xs, ∃ y ∈ ys, R x y
  | _, _, .nil, y, m => nomatch m
  | _, _, .cons h r, y, m => by
    rcases List.mem_cons.mp m with rfl | m
    · exact ⟨_, List.mem_cons_self, h⟩
    · obtain ⟨x, mx, hx⟩ := paired_r r y m
      exact ⟨x, List.mem_cons_of_mem _ mx, hx⟩
theorem paired_nd {α β : Type} {R : α → β → Prop} (inj : ∀ x1 x2 y, R x1 y → R x2 y → x1 = x2) : ∀ {xs : List α} {ys : List β}, Paired R xs ys → xs.Nodup → ys.Nodup
  | _, _, .nil, _ => List.nodup_nil
  | _, _, .cons h r, nd => by
    obtain ⟨n1, n2⟩ := List.nodup_cons.mp nd
    refine List.nodup_cons.mpr ⟨fun m => n1 ?_, paired_nd inj r n2⟩
    obtain ⟨x, mx, hx⟩ := paired_l r _ m
    exact inj _ _ _ h hx ▸ mx
theorem wds_inj {us : List (List Str)} {k l : Nat} {a : List Str} (h1 : WdsOf us k a) (h2 : WdsOf us l a) : k = l := by
  refine Classical.byContradiction fun ne => top_apart h1.1 h2.1 (mem_wit.mpr ⟨top_lt h1.1, top_lt h2.1, ne, fun x m => ?_⟩)
  exact h2.2.1.mem_iff.mp (h1.2.1.mem_iff.mpr m)
theorem wds_perm {us vs : List (List Str)} {as bs : List (List Str)} (ha : Paired (WdsOf us) (topN us) as) (hb : Paired (WdsOf vs) (topN vs) bs) (nu : ∀ u ∈ us, u.Nodup) (nv : ∀ u ∈ vs, u.Nodup)
    (f1 : ∀ m ∈ topN us, ∃ t ∈ topN vs, ∀ x, x ∈ us.getD m [] ↔ x ∈ vs.getD t []) (f2 : ∀ t ∈ topN vs, ∃ m ∈ topN us, ∀ x, x ∈ us.getD m [] ↔ x ∈ vs.getD t []) : as.Perm bs := by
  have tn : ∀ us : List (List Str), (topN us).Nodup := fun us => (top_up us).imp fun h => Nat.ne_of_lt h
  have ndu : ∀ (us : List (List Str)) {k : Nat}, (∀ u ∈ us, u.Nodup) → k ∈ topN us → (us.getD k []).Nodup := fun us k h m => by
    have lt := top_lt m
    rw [List.getD_eq_getElem?_getD, List.getElem?_eq_getElem lt]
    exact h _ (List.getElem_mem lt)
  have same : ∀ {k l : Nat} {a b : List Str}, WdsOf us k a → WdsOf vs l b → (∀ x, x ∈ us.getD k [] ↔ x ∈ vs.getD l []) → a = b := fun {k l a b} h1 h2 h3 =>
    sorted_same h1.2.2 h2.2.2 (h1.2.1.nodup_iff.mpr (ndu us nu h1.1)) (h2.2.1.nodup_iff.mpr (ndu vs nv h2.1)) fun j => (h1.2.1.mem_iff.trans (h3 j)).trans h2.2.1.mem_iff.symm
  refine (List.perm_ext_iff_of_nodup (paired_nd (R := WdsOf us) (fun _ _ _ => wds_inj) ha (tn us)) (paired_nd (R := WdsOf vs) (fun _ _ _ => wds_inj) hb (tn vs))).mpr fun a => ⟨fun m => ?_, fun m => ?_⟩
  · obtain ⟨k, mk, hk⟩ := paired_l ha a m
    obtain ⟨t, mt, ht⟩ := f1 k mk
    obtain ⟨b, mb, hb2⟩ := paired_r hb t mt
    rw [same hk hb2 ht]
    exact mb
  · obtain ⟨t, mt, ht⟩ := paired_l hb a m
    obtain ⟨k, mk, hk⟩ := f2 t mt
    obtain ⟨b, mb, hb2⟩ := paired_r ha k mk
    rw [← same hb2 ht hk]
    exact mb
end MuWi

namespace MuWi
open PySem PySem.Spec PyProof.Rows L2 Evl MuK MuNr MuEd
theorem rows0 (ps : List (Nat × Nat)) : (ps.map fun p => (p, (0 : Int))).map (·.1) = ps := by
  rw [List.map_map]
  exact List.map_id ps
/-- pairs told, as a list -/
abbrev PLs (ps : List (Nat × Nat)) (D : Addr) (H : Hp) : Prop := PsAt false (ps.map fun p => (p, (0 : Int))) D H
section
variable {K : PySem.W.Frag} {σ : L2.St} {H : Hp} {ta tb te tl tl2 td tk tv : TE} {t : TT}
theorem evx_rng1 {tA : TA} {n : Int} (h : EvA tA σ H [.int n]) : EvX (tCB rRng1 tA) σ H (fun v H' => ∃ r : Addr, v = .ref r ∧ H' r = some (.rng 0 n)) := fun H1 e Q q => h H1 e _ fun H2 e2 => ⟨n, rfl, fun p hp => q _ _ (e2.trans (Ex.new hp)) ⟨p, rfl, upd_same⟩⟩
/-- [(i, j) for i in numbers for j in numbers if ..], numbers a range that stands -/
theorem evx_gridV {r : Addr} {i j N : Nat} {vs vs1 : List Nat} (f : Nat × Nat → Bool) (h : Ev tl σ H (.ref r)) (hr : H r = some (.rng 0 (N : Int))) (hN : N ≤ 200) (hw : ∀ x, wipe ((wipe σ vs).set i (some x)) vs = wipe σ vs)
    (hw1 : ∀ x y, wipe ((wipe ((wipe σ vs).set i (some x)) vs1).set j (some y)) vs1 = wipe ((wipe σ vs).set i (some x)) vs1)
    (h2 : ∀ (n : Nat) H', n < N → Ex H H' → Ev tl2 ((wipe σ vs).set i (some (.int (n : Int)))) H' (.ref r))
    (ht : ∀ (n l : Nat) H', n < N → l < N → Ex H H' → EvT t ((wipe ((wipe σ vs).set i (some (.int (n : Int)))) vs1).set j (some (.int (l : Int)))) H' (f (n, l)))
    (he : ∀ (n l : Nat) H', Ex H H' → EvU te ((wipe ((wipe σ vs).set i (some (.int (n : Int)))) vs1).set j (some (.int (l : Int)))) H' [.int (n : Int), .int (l : Int)]) :
    EvX (tLc2 (iRngV tl) (gName i) tYes (iRngV tl2) (gName j) t te vs vs1) σ H (fun v H' => ∃ D : Addr, v = .ref D ∧ H D = none ∧ PLs ((MuLc.allG N N).filter f) D H') := fun H0 e Q q => by
  refine h H0 e _ fun H1 e1 => ⟨r, (N : Int), rfl, (e.trans e1) _ _ hr, by omega, fun D hD => ?_⟩
  let Acc : List (Nat × Nat) → Hp → Prop := fun ps H' => Ex H1 H' ∧ ∃ ys : List V, H' D = some (.lst ys) ∧ Paired (fun p y => RowAt false (p, (0 : Int)) y H') (ps.filter f) ys
  refine ⟨fun n m H' => m = N - n ∧ n ≤ N ∧ Acc (MuLc.allG n N) H', ⟨N, rfl, Nat.zero_le _, Ex.new hD, [], upd_same, .nil⟩, ?_⟩
  rintro n m H' ⟨rfl, hn, e2, ys, hys, pr⟩
  by_cases lt : n < N
  · refine .inr ⟨by show n < (N : Int).toNat; omega, fun H2 => n + 1 ≤ N ∧ Acc (MuLc.allG (n + 1) N) H2, fun H2 p2 => ⟨N - (n + 1), by omega, rfl, p2⟩, fun x H2 y => ?_⟩
    obtain ⟨rfl, rfl⟩ := y
    have e02 := (e.trans e1).trans e2
    show wipe _ vs = _ ∧ _
    rw [show (0 : Int) + (n : Int) = (n : Int) by omega]
    refine ⟨hw _, ?_⟩
    refine MuLc.yes_go ?_
    refine h2 n _ lt e02 _ (Ex.refl _) _ fun H3 e3 => ⟨r, (N : Int), rfl, (e02.trans e3) _ _ hr, by omega, ?_⟩
    refine ⟨fun l k H4 => k = N - l ∧ l ≤ N ∧ Acc (MuLc.allG n N ++ (List.range l).map fun l => (n, l)) H4, ⟨_, rfl, Nat.zero_le _, e2.trans e3, ys, e3 _ _ hys, ?_⟩, ?_⟩
    · rw [List.range_zero, List.map_nil, List.append_nil]
      exact MuLc.paired_mono (fun a b r => r.later e3) pr
    rintro l k H4 ⟨rfl, hl, e4, zs, hzs, pz⟩
    by_cases lt2 : l < N
    · refine .inr ⟨by show l < (N : Int).toNat; omega, fun H5 => l + 1 ≤ N ∧ Acc (MuLc.allG n N ++ (List.range (l + 1)).map fun l => (n, l)) H5, fun H5 p5 => ⟨N - (l + 1), by omega, rfl, p5⟩, fun x H5 y => ?_⟩
      obtain ⟨rfl, rfl⟩ := y
      rw [show (0 : Int) + (l : Int) = (l : Int) by omega]
      refine ⟨hw1 _ _, ?_⟩
      refine ht n l _ lt lt2 ((e.trans e1).trans e4) _ (Ex.refl _) _ fun H5 e5 => ?_
      have snoc : (MuLc.allG n N ++ (List.range (l + 1)).map fun l => (n, l)).filter f = (MuLc.allG n N ++ (List.range l).map fun l => (n, l)).filter f ++ if f (n, l) then [(n, l)] else [] := by
        rw [List.range_succ, List.map_append, ← List.append_assoc]
        generalize (MuLc.allG n N ++ (List.range l).map fun l => (n, l)) = L
        show (L ++ [(n, l)]).filter f = _
        rw [List.filter_append, List.filter_cons]
        cases f (n, l) <;> rfl
      cases c : f (n, l) with
      | true =>
        refine (if_pos rfl).mpr ?_
        refine he n l _ (((e.trans e1).trans e4).trans e5) _ (Ex.refl _) _ fun tt H6 _ e6 h6 => ?_
        have hz6 := (e5.trans e6) _ _ hzs
        have zl : zs.length ≤ 40400 := by
          have a1 := Paired.length pz
          have a0 := List.length_filter_le f (MuLc.allG n N ++ (List.range l).map fun l => (n, l))
          have a2 := MuLc.allG_len n N
          rw [List.length_append, List.length_map, List.length_range] at a0
          have a3 : n * N ≤ 200 * 200 := Nat.mul_le_mul (by omega) hN
          omega
        refine ⟨zs, hz6, sz_lt (by omega), lt2, Ex.mut ((e4.trans e5).trans e6) hD, zs ++ [.ref tt], upd_same, ?_⟩
        rw [snoc, c]
        refine MuLc.paired_app (MuLc.paired_mono (fun a b r => (r.later (e5.trans e6)).stay hz6) pz) (.cons ?_ .nil)
        exact RowAt.stay ⟨tt, rfl, h6⟩ hz6
      | false =>
        refine ⟨lt2, e4.trans e5, zs, e5 _ _ hzs, ?_⟩
        rw [snoc, c]
        show Paired _ (_ ++ []) _
        rw [List.append_nil]
        exact MuLc.paired_mono (fun a b r => r.later e5) pz
    · obtain rfl : l = N := by omega
      refine .inl ⟨by show (l : Int).toNat ≤ l; omega, lt, e4, zs, hzs, ?_⟩
      rw [MuLc.allG_succ]
      exact pz
  · obtain rfl : n = N := by omega
    exact .inl ⟨by show (n : Int).toNat ≤ n; omega, q _ _ (e1.trans e2) ⟨D, rfl, fresh_back (e.trans e1) hD, ps_of hys pr⟩⟩
/-! ### dicts of pairs -/
def markT (ps : List (Nat × Nat)) : List (List Key × V) := ps.map fun p => (keyT p, .bl true)
theorem markT_keys (ps : List (Nat × Nat)) : (markT ps).map (·.1) = ps.map keyT := by
  unfold markT
  rw [List.map_map]
  rfl
theorem markT_some (p : Nat × Nat) : ∀ ps : List (Nat × Nat), (valV (markT ps) (keyT p)).isSome = decide (p ∈ ps)
  | [] => rfl
  | x :: ps => by
    unfold valV markT
    rw [List.map_cons, List.find?_cons]
    by_cases c : x = p
    · subst c
      have : decide ((keyT x, V.bl true).1 = keyT x) = true := decide_eq_true rfl
      rw [this, decide_eq_true List.mem_cons_self]
      rfl
    · have : decide ((keyT x, V.bl true).1 = keyT p) = false := decide_eq_false fun z => c (keyT_inj z)
      rw [this]
      have ih := markT_some p ps
      unfold valV markT at ih
      rw [ih]
      exact decide_eq_decide.mpr ⟨fun m => List.mem_cons_of_mem _ m, fun m => (List.mem_cons.mp m).resolve_left fun z => c z.symm⟩
theorem markT_put {ps : List (Nat × Nat)} {p : Nat × Nat} (h : p ∉ ps) : putK (markT ps) (keyT p) (.bl true) = markT (ps ++ [p]) := by
  unfold putK markT
  rw [if_neg, List.map_append]
  · rfl
  · intro z
    obtain ⟨x, mx, hx⟩ := List.any_eq_true.mp z
    obtain ⟨q, mq, rfl⟩ := List.mem_map.mp mx
    exact h ((keyT_inj (of_decide_eq_true hx)) ▸ mq)
/-- {p: True for p in told pairs} -/
theorem evx_marksT {ps : List (Nat × Nat)} {j : Nat} {vs : List Nat} (h : EvX tl σ H (fun v H' => ∃ D : Addr, v = .ref D ∧ PLs ps D H')) (nd : ps.Nodup) (hz : ps.length ≤ 40000) (hw : ∀ x, wipe ((wipe σ vs).set j (some x)) vs = wipe σ vs) (hj : ∀ x, ((wipe σ vs).set j (some x))[j]? = some (some x)) :
    EvX (tDcT (iList K tl) (gName j) (tVar j) (tC (.bl true)) vs) σ H (fun v H' => ∃ D : Addr, v = .ref D ∧ H D = none ∧ H' D = some (.dT (markT ps))) := fun H0 e Q q => by
  refine h H0 e _ fun v H1 e1 r => ?_
  obtain ⟨a, rfl, cs, h1, hcs, hc⟩ := r
  have zc : cs.length = ps.length := by simpa using congrArg List.length hcs
  refine ⟨a, rfl, ⟨_, sq_of h1⟩, fun D hD => ?_⟩
  refine ⟨fun n m H' => m = ps.length - n ∧ n ≤ ps.length ∧ Ex H1 H' ∧ H' D = some (.dT (markT (ps.take n))), ⟨_, rfl, Nat.zero_le _, Ex.new hD, upd_same⟩, ?_⟩
  rintro n m H' ⟨rfl, hn, e2, g⟩
  have hq := sq_of (K := K) (e2 _ _ h1)
  by_cases lt : n < ps.length
  · have lc : n < cs.length := by omega
    have gp : ps[n]? = some ps[n] := List.getElem?_eq_getElem lt
    have gc : cs[n]? = some cs[n] := List.getElem?_eq_getElem lc
    generalize ps[n] = p at gp
    generalize cs[n] = c at gc
    have ec : c.2 = (p, 0) := by
      have := congrArg (fun l => l[n]?) hcs
      simp only [List.getElem?_map, gc, gp] at this
      exact Option.some.inj this
    have gx : (cs.map fun c => V.ref c.1)[n]? = some (.ref c.1) := by rw [List.getElem?_map, gc]; rfl
    refine .inr ⟨⟨_, _, hq, gx⟩, fun H3 => Ex H1 H3 ∧ H3 D = some (.dT (markT (ps.take (n + 1)))), fun H3 p3 => ⟨ps.length - (n + 1), by omega, rfl, lt, p3⟩, fun x H3 y => ?_⟩
    obtain ⟨rfl, hy⟩ := y
    obtain rfl : V.ref c.1 = x := Option.some.inj (gx.symm.trans (hy _ hq))
    refine ⟨hw _, ?_⟩
    have hcn := e2 _ _ (hc c (List.mem_of_getElem? gc))
    rw [ec] at hcn
    refine (ev_var (hj _)) H3 (Ex.refl _) _ fun H4 e4 => ev_c H4 (Ex.refl H4) _ fun H5 e5 => ?_
    have e45 := e4.trans e5
    refine ⟨c.1, markT (ps.take n), keyT p, rfl, e45 _ _ hcn, e45 _ _ g, sz_lt (by unfold markT; rw [List.length_map, List.length_take]; omega), Ex.mut (e2.trans e45) hD, ?_⟩
    rw [upd_same]
    have nin : p ∉ ps.take n := fun m => by
      have nd2 : (ps.take n ++ [p]).Nodup := by
        have := (List.take_sublist (n + 1) ps).nodup nd
        rw [List.take_succ, gp] at this
        exact this
      exact (List.nodup_append.mp nd2).2.2 p m p (List.mem_singleton.mpr rfl) rfl
    rw [markT_put nin, List.take_succ, gp]
    rfl
  · obtain rfl : n = ps.length := by omega
    refine .inl ⟨⟨_, hq, by rw [List.length_map]; omega⟩, q _ _ (e1.trans e2) ⟨D, rfl, fresh_back (e.trans e1) hD, ?_⟩⟩
    rw [List.take_length] at g
    exact g
/-- {i: True for i, j in a dict of pairs if ..} -/
theorem evx_below {d : Addr} {ps : List (Nat × Nat)} {i j : Nat} {vs : List Nat} (f : Nat × Nat → Bool) (hd : H d = some (.dT (markT ps))) (hv : ∀ H1, Ev td σ H1 (.ref d)) (hz : ps.length ≤ 40000)
    (hw : ∀ x y, wipe (((wipe σ vs).set i (some x)).set j (some y)) vs = wipe σ vs) (hi : ∀ x y, (((wipe σ vs).set i (some x)).set j (some y))[i]? = some (some x))
    (ht : ∀ (p : Nat × Nat) H1, p ∈ ps → (∃ od, H1 d = some (.frz od (.dT (markT ps)))) → EvT t (((wipe σ vs).set i (some (.int (p.1 : Int)))).set j (some (.int (p.2 : Int)))) H1 (f p)) :
    EvX (tLockE (tDc (iKeys td) (gTup K 2 (gCons (gName i) (gCons (gName j) gNil))) t (tVar i) (tC (.bl true)) vs)) σ H (fun v H' => ∃ (D : Addr) (kvs : List (Key × V)), v = .ref D ∧ H D = none ∧ H' D = some (.dK kvs) ∧ ∀ k : Nat, (valV kvs (.inl (k : Int))).isSome = ps.any fun p => decide (p.1 = k) && f p) := fun H0 e Q q => by
  have hd0 := e d _ hd
  refine ⟨d, .dT (markT ps), hd0, True.intro, fun od => ?_⟩
  refine hv _ _ (Ex.refl _) _ fun H1 e1 => ⟨d, od, rfl, .inr ⟨markT ps, e1 d _ upd_same, fun D hD => ?_⟩⟩
  have hd1 := e1 d _ upd_same
  have Dd : D ≠ d := fun z => by
    rw [z, hd1] at hD
    exact nomatch hD
  have zm : (markT ps).length = ps.length := List.length_map ..
  refine ⟨fun n m H' => m = ps.length - n ∧ n ≤ ps.length ∧ Ex H1 H' ∧ ∃ kvs : List (Key × V), H' D = some (.dK kvs) ∧ kvs.length ≤ n ∧ ∀ k : Nat, (valV kvs (.inl (k : Int))).isSome = (ps.take n).any fun p => decide (p.1 = k) && f p, ⟨_, rfl, Nat.zero_le _, Ex.new hD, [], upd_same, Nat.le_refl _, fun k => rfl⟩, ?_⟩
  rintro n m H' ⟨rfl, hn, e2, kvs, g, zk, hk⟩
  have hd2 := e2 d _ hd1
  by_cases lt : n < ps.length
  · have gp : ps[n]? = some ps[n] := List.getElem?_eq_getElem lt
    have mp : ps[n] ∈ ps := List.getElem_mem lt
    generalize ps[n] = p at gp mp
    refine .inr ⟨⟨hd2, by omega⟩, fun H3 => Ex H1 H3 ∧ ∃ kvs : List (Key × V), H3 D = some (.dK kvs) ∧ kvs.length ≤ n + 1 ∧ ∀ k : Nat, (valV kvs (.inl (k : Int))).isSome = (ps.take (n + 1)).any fun p => decide (p.1 = k) && f p, fun H3 p3 => ⟨ps.length - (n + 1), by omega, rfl, lt, p3⟩, fun x H3 y => ?_⟩
    obtain ⟨rfl, k0, v0, q0, gk, rfl, ht0⟩ := y
    have ek : k0 = keyT p := by
      unfold markT at gk
      rw [List.getElem?_map, gp] at gk
      exact (congrArg Prod.fst (Option.some.inj gk)).symm
    subst ek
    have tk : ∀ k : Nat, ((ps.take (n + 1)).any fun p => decide (p.1 = k) && f p) = (((ps.take n).any fun p => decide (p.1 = k) && f p) || (decide (p.1 = k) && f p)) := fun k => by
      rw [List.take_succ, gp, List.any_append]
      show (_ || (_ || false)) = _
      rw [Bool.or_false]
    refine ⟨q0, _, rfl, st_of ht0, rfl, .int p.1, [.int p.2], rfl, .int p.2, [], rfl, rfl, hw _ _, ?_⟩
    refine ht p H3 mp ⟨od, hd2⟩ _ (Ex.refl _) _ fun H4 e4 => ?_
    cases c : f p with
    | true =>
      refine (if_pos rfl).mpr ?_
      refine (ev_var (hi _ _)) H4 (Ex.refl _) _ fun H5 e5 => ev_c H5 (Ex.refl H5) _ fun H6 e6 => ?_
      have e46 := (e4.trans e5).trans e6
      refine ⟨kvs, .inl (p.1 : Int), rfl, e46 _ _ g, sz_lt (by omega), Ex.mut (e2.trans e46) hD, _, upd_same, by have := length_putK kvs (.inl (p.1 : Int)) (.bl true); omega, fun k => ?_⟩
      rw [valV_put, tk, c, Bool.and_true, ← hk]
      by_cases ek : p.1 = k
      · subst ek
        rw [if_pos rfl, decide_eq_true rfl, Bool.or_true]
        rfl
      · rw [if_neg (fun z => ek (by injection z; omega)), decide_eq_false ek, Bool.or_false]
    | false =>
      refine ⟨e2.trans e4, kvs, e4 _ _ g, by omega, fun k => ?_⟩
      rw [tk, c, Bool.and_false, Bool.or_false]
      exact hk k
  · obtain rfl : n = ps.length := by omega
    refine .inl ⟨⟨hd2, by omega⟩, hd2, ?_⟩
    rw [List.take_length] at hk
    refine q _ _ ?_ ⟨D, kvs, rfl, ?_, (upd_ne Dd).trans g, hk⟩
    · exact lock_back hd0 (e1.trans e2)
    · have h1 := fresh_back e1 hD
      rw [upd_ne Dd] at h1
      exact fresh_back e h1
theorem ev_niT {d : Addr} {kt : List (List Key × V)} {i j : Int} (hi : Ev ta σ H (.int i)) (hj : Ev tb σ H (.int j)) (ho : Ev td σ H (.ref d)) (hd : Rd H d (.dT kt)) : Ev (tDNotIn (tTup (tCons ta (tCons tb tNil))) td) σ H (.bl (!(valV kt [.inl i, .inl j]).isSome)) := fun H1 e Q q =>
  (eu_tup (vs := [.int i, .int j]) (ea_cons hi (ea_cons hj ea_nil)) (by simp)) H1 e _ fun p H2 _ e2 hp => ho H2 (e.trans e2) _ fun H3 e3 =>
    ⟨d, _, rfl, .inr ⟨kt, [.inl i, .inl j], p, ex_rd ((e.trans e2).trans e3) hd, rfl, e3 _ _ hp, rfl⟩, q H3 (e2.trans e3)⟩
theorem ev_niK {d : Addr} {kvs : List (Key × V)} {i : Int} (hi : Ev ta σ H (.int i)) (ho : Ev td σ H (.ref d)) (hd : Rd H d (.dK kvs)) : Ev (tDNotIn ta td) σ H (.bl (!(valV kvs (.inl i)).isSome)) := fun H1 e Q q =>
  hi H1 e _ fun H2 e2 => ho H2 (e.trans e2) _ fun H3 e3 => ⟨d, _, rfl, .inl ⟨kvs, .inl i, ex_rd ((e.trans e2).trans e3) hd, rfl, rfl⟩, q H3 (e2.trans e3)⟩
/-- the other kind of loop: told pairs -/
theorem q_forPs {D : Ends} {tu tz : TS} {p : Addr} {ps : List (Nat × Nat)} {i j : Nat} (h : Ev tl σ H (.ref p)) (hp : PLs ps p H) (Pv : L2.St → Hp → Prop) (h0 : ∀ H1, Ex H H1 → Pv σ H1) (hl : ∀ σ' H', Pv σ' H' → Ex H H')
    (hs : ∀ (b : Nat × Nat) σ' H', b ∈ ps → Pv σ' H' → tu { D with nx := Pv, ct := Pv, bk := tz D } ((σ'.set i (some (.int b.1))).set j (some (.int b.2))) H') (hd : ∀ σ' H', Pv σ' H' → tz D σ' H') : tSeq (tFor (iList K tl) (gTup K 2 (gCons (gName i) (gCons (gName j) gNil))) tu) tz D σ H := by
  obtain ⟨cs, h1, h2, h3⟩ := hp
  refine MuNr.q_forLG (K := K) h (sq_of h1) (fun _ => Pv) h0 (fun n σ' H' _ hq => sq_of (hl σ' H' hq _ _ h1)) (fun n x σ' H' hx hq => ?_) fun σ' H' hq => hd σ' H' hq
  obtain ⟨c, mc, rfl⟩ := List.mem_map.mp (List.mem_of_getElem? hx)
  have hc := hl σ' H' hq _ _ (h3 c mc)
  have mb : c.2 ∈ ps.map fun p => (p, (0 : Int)) := h2 ▸ List.mem_map.mpr ⟨c, mc, rfl⟩
  obtain ⟨b, mb, eb⟩ := List.mem_map.mp mb
  have : c.2.1 = b := by rw [← eb]
  rw [← this] at mb
  exact ⟨c.1, _, rfl, st_of hc, rfl, .int c.2.1.1, [.int c.2.1.2], rfl, .int c.2.1.2, [], rfl, rfl, hs c.2.1 σ' H' mb hq⟩
/-- (i, j) in told pairs -/
theorem row_eqv (b c : Nat × Nat) : (rowD false (b, 0)).eqv (rowD false (c, 0)) = decide (b = c) := by
  have e : ∀ x y : Int, (PyData.int x).eqv (PyData.int y) = decide (x = y) := fun x y => by
    rw [PyData.eqv]
    first | rfl | exact Bool.eq_iff_iff.mpr (by simp)
  show (PyData.tuple [.int b.1, .int b.2]).eqv (PyData.tuple [.int c.1, .int c.2]) = _
  rw [PyData.eqv, PyData.eqvAll, PyData.eqvAll, PyData.eqvAll, e, e, Bool.and_true, ← Bool.decide_and]
  refine decide_eq_decide.mpr ⟨fun ⟨h1, h2⟩ => Prod.ext (by omega) (by omega), fun h => by rw [h]; exact ⟨rfl, rfl⟩⟩
theorem pairs_any (b : Nat × Nat) : ∀ ps : List (Nat × Nat), ((ps.map fun p => (p, (0 : Int))).map (rowD false)).any (fun z => z.eqv (rowD false (b, 0))) = decide (b ∈ ps)
  | [] => rfl
  | p :: ps => by
    rw [List.map_cons, List.map_cons, List.any_cons, pairs_any b ps, row_eqv, ← Bool.decide_or]
    exact decide_eq_decide.mpr ⟨fun h => List.mem_cons.mpr (h.imp Eq.symm fun h => h), fun h => (List.mem_cons.mp h).imp Eq.symm fun h => h⟩
theorem ev_inPs {D : Addr} {ps : List (Nat × Nat)} {a b : Nat} (ha : Ev ta σ H (.int a)) (hb : Ev tb σ H (.int b)) (hl : Ev tl σ H (.ref D)) (hD : PLs ps D H) : Ev (tOp (rInD K) (tTup (tCons ta (tCons tb tNil))) tl) σ H (.bl (decide ((a, b) ∈ ps))) := fun H1 e Q q =>
  (eu_tup (vs := [.int a, .int b]) (ea_cons ha (ea_cons hb ea_nil)) (by simp)) H1 e _ fun p H2 _ e2 hp => hl H2 (e.trans e2) _ fun H3 e3 => by
    refine ⟨rowD false ((a, b), 0), (ps.map fun p => (p, (0 : Int))).map (rowD false), row_dp (b := ((a, b), 0)) (e3 _ _ hp), ps_dp (hD.later ((e.trans e2).trans e3)), row_shaped _ _, (rows_shaped _ _).1, ?_⟩
    rw [pairs_any]
    exact q H3 (e2.trans e3)
/-- [a new list for i in range(N)] -/
theorem evx_rngV {tA : TA} {N i : Nat} {vs : List Nat} (f : Nat → List V) (h : EvA tA σ H [.int (N : Int)]) (hN : N ≤ 4000) (hw : ∀ x, wipe ((wipe σ vs).set i (some x)) vs = wipe σ vs)
    (he : ∀ (n : Nat) H1, Ex H H1 → n < N → EvL te ((wipe σ vs).set i (some (.int (n : Int)))) H1 (f n)) :
    EvX (tLc (iRng1 tA) (gName i) tYes te vs) σ H (fun v H' => ∃ (D : Addr) (cs : List Addr), v = .ref D ∧ H D = none ∧ H' D = some (.lst (cs.map V.ref)) ∧ cs.length = N ∧ ∀ n c, cs[n]? = some c → H' c = some (.lst (f n))) := fun H0 e Q q => by
  refine h H0 e _ fun H1 e1 => ⟨(N : Int), rfl, by omega, by omega, fun D hD => ?_⟩
  have e01 := e.trans e1
  refine ⟨fun n m H' => m = N - n ∧ n ≤ N ∧ Ex H1 H' ∧ ∃ cs : List Addr, H' D = some (.lst (cs.map V.ref)) ∧ cs.length = n ∧ ∀ k c, cs[k]? = some c → c ≠ D ∧ H' c = some (.lst (f k)), ⟨N, rfl, Nat.zero_le _, Ex.new hD, [], upd_same, rfl, fun k c m => nomatch m⟩, ?_⟩
  rintro n m H' ⟨rfl, hn, e2, cs, hDl, zc, hat⟩
  by_cases lt : n < N
  · refine .inr ⟨by show n < (N : Int).toNat; omega, fun H' => Ex H1 H' ∧ ∃ cs : List Addr, H' D = some (.lst (cs.map V.ref)) ∧ cs.length = n + 1 ∧ ∀ k c, cs[k]? = some c → c ≠ D ∧ H' c = some (.lst (f k)), fun H2 p2 => ⟨N - (n + 1), by omega, rfl, lt, p2⟩, fun x H2 y => ?_⟩
    obtain ⟨rfl, rfl⟩ := y
    show wipe _ vs = _ ∧ _
    rw [show (0 : Int) + (n : Int) = (n : Int) by omega]
    refine ⟨hw _, ?_⟩
    refine MuLc.yes_go ?_
    refine he n _ (e01.trans e2) lt _ (Ex.refl _) _ fun c H3 hc e3 h3 => ?_
    have cD : c ≠ D := fun z => by
      rw [z, hDl] at hc
      exact nomatch hc
    refine ⟨cs.map V.ref, e3 _ _ hDl, sz_lt (by rw [List.length_map]; omega), Ex.mut (e2.trans e3) hD, cs ++ [c], ?_, by rw [List.length_append, zc]; rfl, fun k c' hk => ?_⟩
    · rw [upd_same, List.map_append]
      rfl
    · rcases Nat.lt_or_ge k cs.length with lk | gk
      · rw [List.getElem?_append_left lk] at hk
        obtain ⟨g1, g2⟩ := hat k c' hk
        exact ⟨g1, (upd_ne g1).trans (e3 _ _ g2)⟩
      · rw [List.getElem?_append_right gk] at hk
        have k0 : k - cs.length = 0 := by
          rcases Nat.eq_zero_or_pos (k - cs.length) with z | z
          · exact z
          · rw [List.getElem?_eq_none (by rw [List.length_singleton]; omega)] at hk
            exact nomatch hk
        rw [k0] at hk
        obtain rfl : c = c' := Option.some.inj hk
        have : k = n := by omega
        subst this
        exact ⟨cD, (upd_ne cD).trans h3⟩
  · obtain rfl : n = N := by omega
    exact .inl ⟨by show (n : Int).toNat ≤ n; omega, q _ _ (e1.trans e2) ⟨D, cs, rfl, fresh_back e01 hD, hDl, zc, fun k c hk => (hat k c hk).2⟩⟩
end
/-! ### sorted of lists of texts -/
section
variable {X : Cx} {pins : List (Addr × Obj)} {σ : L2.St} {H : Hp} {s : Shared}
theorem str_vals : ∀ {us : List Str} {vs : List Value} {h : Heap}, Vals (us.map V.str) vs → ReadsAll h vs (us.map PyData.str) []
  | [], _, _, .nil => .nil
  | u :: us, _, _, .cons a r => by
    obtain ⟨t, rfl⟩ := a
    exact ReadsAll.cons (as := []) (bs := []) (.str _ _) (str_vals r)
theorem wl_reads (I : Inv X pins σ H s) {c : Addr × List Str} (h : H c.1 = some (.lst (c.2.map V.str))) {h' : Heap} (k : ∀ c o, s.heap.get? c = some o → h'.get? c = some o) : Reads h' (.ref c.1) (wl c.2) [c.1] ∧ c.1 < s.heap.objs.size := by
  obtain ⟨z, vs, n, rv, g⟩ := I.hok c.1 _ h
  exact ⟨reads_list_at (k _ _ g) rfl rfl (str_vals rv), Heap.lt_size g⟩
theorem strs_depth : ∀ us : List Str, PyData.depthAll (us.map PyData.str) = 0
  | [] => by simp [PyData.depthAll]
  | u :: us => by
    have ih := strs_depth us
    simp only [List.map_cons, PyData.depthAll, PyData.depth, ih]
    rfl
theorem wl_depth (us : List Str) : (wl us).depth ≤ 1 := by
  unfold wl
  simp only [PyData.depth, strs_depth]
  omega
theorem lots_each : ∀ (cs : List (Addr × List Str)), W.EachIs (fun (v : Value) (b : Addr × List Str) => v = .ref b.1) (cs.map fun b => Value.ref b.1) cs
  | [] => .nil
  | b :: r => .cons rfl (lots_each r)
theorem lots_each_of {vs : List Value} {cs : List (Addr × List Str)} (h : W.EachIs (fun (v : Value) (b : Addr × List Str) => v = .ref b.1) vs cs) : vs = cs.map fun b => Value.ref b.1 := by
  induction h with
  | nil => rfl
  | cons e _ ih => rw [e, ih]; rfl
theorem lots_vals : ∀ (cs : List (Addr × List Str)), Vals (cs.map fun b => V.ref b.1) (cs.map fun b => Value.ref b.1)
  | [] => .nil
  | b :: r => .cons rfl (lots_vals r)
theorem vals_lots : ∀ {cs : List (Addr × List Str)} {us : List Value}, Vals (cs.map fun b => V.ref b.1) us → us = cs.map fun b => Value.ref b.1
  | [], _, h => by cases h; rfl
  | b :: r, _, h => by
    cases h with
    | cons a t => rw [vals_lots t]; cases a; rfl
theorem sort_tailL {A : Around} {cs : List (Addr × List Str)} {Q : VK} (hu : A.units + 10 < cLine) (I : Inv X pins σ H s) (hz : cs.length ≤ 5000) (hb : ∀ c ∈ cs, H c.1 = some (.lst (c.2.map V.str)))
    (q : ∀ p (ds : List (Addr × List Str)), H p = none → ds.Perm cs → (ds.map (·.2)).Pairwise LeW → Q (.ref p) (upd H p (.lst (ds.map fun b => V.ref b.1)))) :
    wpAny (model X.prog X.w) A (newList (cs.map fun b => Value.ref b.1) >>= fun l => holding [l] (call (Value.builtin "list.sort") [l]) >>= fun _ => ret l) (fun fin s' => ∃ v, fin = PySem.Fin.done (Flow.ret v) ∧ EP X pins σ Q v s') X.xe s := by
  refine wpAny_bind (wpAny_newList ?_ (by rw [List.length_map, sizeLine_eq]; omega))
  have oL : (s.heap.push (seqObj "list" (cs.map fun b => Value.ref b.1).toArray 0)).get? s.heap.objs.size = some (seqObj "list" (cs.map fun b => Value.ref b.1).toArray 0) := Heap.get?_push_size _ rfl
  have kp : ∀ c o, s.heap.get? c = some o → (s.heap.push (seqObj "list" (cs.map fun b => Value.ref b.1).toArray 0)).get? c = some o := fun c o e => Heap.get?_push_of_some _ e
  have each : ∀ (l : List (Addr × List Str)), (∀ b ∈ l, b ∈ cs) → W.EachIs (fun (v : Value) (b : Addr × List Str) => ∃ as, Reads (s.heap.push (seqObj "list" (cs.map fun b => Value.ref b.1).toArray 0)) v (wl b.2) as ∧ ¬ s.heap.objs.size ∈ as) (l.map fun b => Value.ref b.1) l := by
    intro l hl
    induction l with
    | nil => exact .nil
    | cons b r ih =>
      obtain ⟨r1, r2⟩ := wl_reads I (hb b (hl b List.mem_cons_self)) kp
      exact .cons ⟨_, r1, fun z => absurd (List.mem_singleton.mp z) (Nat.ne_of_gt r2)⟩ (ih fun c hc => hl c (List.mem_cons_of_mem _ hc))
  refine wpAny_bind (wpAny_holding (W.list_sort_data (enc := fun b : Addr × List Str => wl b.2) oL (lots_each cs) (each cs fun _ h => h) (W.AllAlike.of fun b c => wl_alike b.2 c.2) (W.Sortable.others fun b => ⟨(fun z => nomatch z), (fun xs z => nomatch z)⟩) (by rw [sizeLine_eq]; omega) (fun b _ => ?_) fun out hl2 ho => ?_))
  · have := wl_depth b.2
    omega
  · obtain rfl := lots_each_of ho
    generalize hds : cs.mergeSort (W.dataLe false fun b : Addr × List Str => wl b.2) = ds at *
    have pm : ds.Perm cs := hds ▸ List.mergeSort_perm _ _
    have TL := W.sortLe_total (listOrd itemOrd) false fun b : Addr × List Str => W.keyToks (wl b.2)
    have sr : ds.Pairwise fun b c => W.dataLe false (fun b : Addr × List Str => wl b.2) b c = true := by
      rw [← hds]
      exact List.pairwise_mergeSort TL.trans (fun a b => by rw [Bool.or_eq_true]; exact TL.total a b) cs
    obtain ⟨c, hg⟩ := sortedHeap_at (vs := cs.map fun b => Value.ref b.1) (out := (ds.map fun b => Value.ref b.1).toArray) oL
    have hn : H s.heap.objs.size = none := I.hok.fresh (Nat.le_refl _)
    have hl3 : (ds.map fun b => V.ref b.1).length ≤ sizeLine := by
      rw [List.length_map, pm.length_eq, sizeLine_eq]
      omega
    have up : (ds.map (·.2)).Pairwise LeW := by
      rw [List.pairwise_map]
      refine sr.imp fun {b c} h => ?_
      rw [W.dataLe_eq] at h
      have h2 : W.dataLt (wl c.2) (wl b.2) = false := by simpa using h
      rw [wl_lt] at h2
      exact h2
    refine wpAny_pure ⟨_, rfl, .ref _, _, ?_, rfl, q _ ds hn pm up⟩
    refine I.laid (t' := s.toks) (fun b u e => ?_) (Nat.le_refl _) ⟨hl3, (ds.map fun b => Value.ref b.1).toArray.toList, c, by simpa using lots_vals ds, hg⟩
    have hlt := Heap.lt_size e
    rw [sortedHeap_old (Nat.ne_of_lt hlt) (by rw [size_push']; exact Nat.lt_succ_of_lt hlt)]
    exact Heap.get?_push_of_some _ e
def rSortedLL (K : PySem.W.Frag) : List V → Hp → VK → Prop := fun vs H Q => ∃ (a : Addr) (cs : List (Addr × List Str)), vs = [.ref a] ∧ SqL K H a (cs.map fun b => V.ref b.1) ∧ cs.length ≤ 5000 ∧ (∀ c ∈ cs, H c.1 = some (.lst (c.2.map V.str))) ∧
  ∀ p (ds : List (Addr × List Str)), H p = none → ds.Perm cs → (ds.map (·.2)).Pairwise LeW → Q (.ref p) (upd H p (.lst (ds.map fun b => V.ref b.1)))
theorem cr_sortedLL (hu : X.A.units + 64 < cLine) : CallR X (.builtin "sorted") (rSortedLL X.K) := by
  intro pins s σ H vs us Q I r h
  obtain ⟨a, cs, rfl, hs, hz, hb, q⟩ := h
  obtain ⟨its, rv, hl, _⟩ := I.list hs
  rw [Vals.ref1 r]
  obtain rfl := vals_lots rv
  refine Calls.call_function_entry kind_sorted plain_sorted entry_sorted (args_sorted1 _) ?_
  unfold Builtin.«sorted»
  refine wpAny_bind (m := checkCount "sorted" 1 1 _) (wpAny_pure ?_)
  refine wpAny_bind (collect_list hl.isList ?_ (by rw [List.length_map, sizeLine_eq]; omega))
  refine sort_tailL (cs := cs) (Q := Q) (by show X.A.units + 1 + 10 < cLine; omega) (I.kept (t' := s.toks) fun c o e => ?_) hz hb q
  rw [(Heap.SameBut.update _ _ _).2 c (Nat.ne_of_lt (Heap.lt_size e))]
  exact Heap.get?_push_of_some _ e
end
section
variable {K : PySem.W.Frag} {σ : L2.St} {H : Hp} {ta tb te tl : TE}
/-- lists of texts told, as a list -/
def LotsAt (us : List (List Str)) (p : Addr) (H : Hp) : Prop := ∃ cs : List (Addr × List Str), H p = some (.lst (cs.map fun c => V.ref c.1)) ∧ cs.map (·.2) = us ∧ ∀ c ∈ cs, H c.1 = some (.lst (c.2.map V.str))
theorem evx_sortedLL {F : List (List Str) → Prop} (h : EvX te σ H (fun v H' => ∃ (p : Addr) (us : List (List Str)), v = .ref p ∧ LotsAt us p H' ∧ us.length ≤ 5000 ∧ F us)) :
    EvX (tCB (rSortedLL K) (tCons te tNil)) σ H (fun v H' => ∃ (p : Addr) (us ws : List (List Str)), v = .ref p ∧ LotsAt ws p H' ∧ ws.Perm us ∧ ws.Pairwise LeW ∧ F us) := fun H1 e Q q => h H1 e _ fun v H2 e2 r => by
  obtain ⟨a, us, rfl, ⟨cs, h1, rfl, h3⟩, hz, hF⟩ := r
  refine ⟨a, cs, rfl, sq_of h1, by rw [List.length_map] at hz; exact hz, h3, fun p ds hp pm up => q _ _ (e2.trans (Ex.new hp)) ⟨p, _, _, rfl, ⟨ds, upd_same, rfl, fun c m => (Ex.new hp) _ _ (h3 c (pm.mem_iff.mp m))⟩, pm.map _, up, hF⟩⟩
end
section
variable {K : PySem.W.Frag} {σ : L2.St} {H : Hp} {ta tb te tl : TE} {t : TT}
/-- [.. for i, j in told pairs if ..], plain values -/
theorem el_lcPs {D : Addr} {ps : List (Nat × Nat)} {i j : Nat} {vs : List Nat} (f : Nat × Nat → Bool) (v : Nat × Nat → V) (h : Ev tl σ H (.ref D)) (hD : PLs ps D H) (hz : ps.length ≤ 40000) (hw : ∀ x y, wipe (((wipe σ vs).set i (some x)).set j (some y)) vs = wipe σ vs)
    (ht : ∀ (p : Nat × Nat) H1, p ∈ ps → Ex H H1 → EvT t (((wipe σ vs).set i (some (.int (p.1 : Int)))).set j (some (.int (p.2 : Int)))) H1 (f p))
    (he : ∀ (p : Nat × Nat) H1, p ∈ ps → Ex H H1 → Ev te (((wipe σ vs).set i (some (.int (p.1 : Int)))).set j (some (.int (p.2 : Int)))) H1 (v p)) :
    EvL (tLc (iList K tl) (gTup K 2 (gCons (gName i) (gCons (gName j) gNil))) t te vs) σ H ((ps.filter f).map v) := fun H0 e Q q => by
  obtain ⟨cs, h1, h2, h3⟩ := hD
  have zc : cs.length = ps.length := by simpa using congrArg List.length h2
  have eq : given cs.length (fun n => f (ps.getD n (0, 0))) (fun n => v (ps.getD n (0, 0))) = (ps.filter f).map v := by
    unfold given
    rw [zc, ← MuLc.keep_at ps (0, 0) f, List.map_map]
    rfl
  refine h H0 e _ fun H1 e1 => ⟨D, rfl, ⟨_, sq_of ((e.trans e1) _ _ h1)⟩, fun Dl hDl =>
    lc_list (xs := cs.map fun c => V.ref c.1) (Cw H1 (fun n => f (ps.getD n (0, 0))) (fun n => v (ps.getD n (0, 0))) Dl) ⟨hDl, Ex.new hDl, upd_same⟩ (fun n H' _ p => sq_of (((e.trans e1).trans p.2.1) _ _ h1)) (fun n x H' hx p => ?_) (fun H' p => q Dl H' (fresh_back e1 p.1) (e1.trans p.2.1) ?_)⟩
  · have ln : n < cs.length := by
      have := (List.getElem?_eq_some_iff.mp hx).1
      rwa [List.length_map] at this
    have gc : cs[n]? = some cs[n] := List.getElem?_eq_getElem ln
    have gp : ps[n]? = some ps[n] := List.getElem?_eq_getElem (by omega)
    have mp : ps[n] ∈ ps := List.getElem_mem _
    have eg : ps.getD n (0, 0) = ps[n] := by rw [List.getD_eq_getElem?_getD, gp]; rfl
    generalize ps[n] = b at gp mp eg
    have ec : (cs[n]).2 = (b, 0) := by
      have := congrArg (fun l => l[n]?) h2
      simp only [List.getElem?_map, gc, gp] at this
      exact Option.some.inj this
    have hc := h3 cs[n] (List.getElem_mem ln)
    rw [ec] at hc
    rw [List.getElem?_map, gc] at hx
    obtain rfl := Option.some.inj hx
    refine ⟨(cs[n]).1, _, rfl, st_of (((e.trans e1).trans p.2.1) _ _ hc), rfl, .int b.1, [.int b.2], rfl, .int b.2, [], rfl, rfl, hw _ _, ?_⟩
    refine cw_turn p (by omega) ?_ fun hf => ?_
    · show EvT _ _ _ (f (ps.getD n (0, 0)))
      rw [eg]
      exact ht b H1 mp (e.trans e1)
    · show Ev _ _ _ (v (ps.getD n (0, 0)))
      rw [eg]
      exact he b H1 mp (e.trans e1)
  · obtain ⟨_, _, p3⟩ := p
    rw [List.length_map, eq] at p3
    exact p3
/-- how many, where what is told is of a known length -/
theorem ev_lenC {n : Int} (h : EvX te σ H (fun v H' => ∃ (p : Addr) (ys : List V), v = .ref p ∧ H' p = some (.lst ys) ∧ (ys.length : Int) = n)) : Ev (tCB (rLenS K) (tCons te tNil)) σ H (.int n) := fun H1 e Q q =>
  h H1 e _ fun v H2 e2 r => by
    obtain ⟨p, ys, rfl, hp, rfl⟩ := r
    exact (ev_len (K := K) (σ := σ) (ta := tC (.ref p)) ev_c (sq_of hp)) H2 (Ex.refl H2) Q fun H3 e3 => q H3 (e2.trans e3)
theorem evx_ixT0 {R : V → Hp → Prop} (h : EvX te σ H (fun v H' => ∃ (t : Addr) (v0 w : V), v = .ref t ∧ H' t = some (.tup [v0, w]) ∧ R v0 H')) : EvX (tOp (rIxT K) te (tC (.int 0))) σ H R := fun H1 e Q q =>
  h H1 e _ fun v H2 e2 r => by
    obtain ⟨t, v0, w, rfl, ht, r⟩ := r
    exact ⟨t, [v0, w], 0, v0, rfl, rfl, st_of ht, rfl, q _ _ e2 r⟩
theorem evx_dnew : EvX tDNewK σ H (fun v H' => ∃ p : Addr, v = .ref p ∧ H' p = some (.dK [])) := fun H1 e Q q p hp => q _ _ (Ex.new hp) ⟨p, rfl, upd_same⟩
end
/-! ### which sets are over a set -/
def ovL (us : List (List Str)) (i : Nat) : List Nat := ((witN us).filter fun p => decide (p.1 = i)).map (·.2)
theorem mem_ov {us : List (List Str)} {i j : Nat} : j ∈ ovL us i ↔ (i, j) ∈ witN us := by
  unfold ovL
  rw [List.mem_map]
  constructor
  · rintro ⟨p, m, rfl⟩
    obtain ⟨m, e⟩ := List.mem_filter.mp m
    rw [← of_decide_eq_true e]
    exact m
  · exact fun m => ⟨(i, j), List.mem_filter.mpr ⟨m, decide_eq_true rfl⟩, rfl⟩
theorem ov_len (us : List (List Str)) (i : Nat) : (ovL us i).length ≤ us.length * us.length := by
  unfold ovL
  rw [List.length_map]
  exact Nat.le_trans (List.length_filter_le _ _) (wit_len us)
def natV (ns : List Nat) : List V := ns.map fun n : Nat => V.int (n : Int)
theorem natV_flat (ns : List Nat) : (natV ns).all flatV = true := by
  unfold natV
  rw [List.all_map]
  exact List.all_eq_true.mpr fun _ _ => rfl
theorem natV_in (j : Nat) : ∀ ns : List Nat, inV (.int (j : Int)) (natV ns) = decide (j ∈ ns)
  | [] => rfl
  | n :: ns => by
    have ih := natV_in j ns
    unfold natV inV at ih ⊢
    rw [List.map_cons, List.any_cons, ih]
    have e : eqV (.int (n : Int)) (.int (j : Int)) = decide (n = j) := by
      show decide ((n : Int) = (j : Int)) = _
      exact decide_eq_decide.mpr (by omega)
    rw [e, ← Bool.decide_or]
    exact decide_eq_decide.mpr ⟨fun h => List.mem_cons.mpr (h.imp Eq.symm fun h => h), fun h => (List.mem_cons.mp h).imp Eq.symm fun h => h⟩
def cntB (u v : List Str) : Nat := (u.filter fun x => decide (x ∈ v)).length
theorem cnt_sub {u v : List Str} : cntB u v = u.length ↔ ∀ x ∈ u, x ∈ v := by
  unfold cntB
  rw [List.length_filter_eq_length_iff]
  exact ⟨fun h x m => of_decide_eq_true (h x m), fun h x m => decide_eq_true (h x m)⟩
theorem cnt_is {u v ys : List Str} (nu : u.Nodup) (ny : ys.Nodup) (h : ∀ x, x ∈ ys ↔ x ∈ u ∧ x ∈ v) : ys.length = cntB u v := by
  unfold cntB
  refine ((List.perm_ext_iff_of_nodup ny (nu.filter _)).mpr fun x => ?_).length_eq
  rw [h, List.mem_filter, decide_eq_true_eq]
theorem ints_lay : ∀ ns : List Int, PyData.canLayAll0 (ns.map PyData.int) = true ∧ PyData.depthAll (ns.map PyData.int) = 0
  | [] => ⟨rfl, rfl⟩
  | n :: ns => by
    obtain ⟨h1, h2⟩ := ints_lay ns
    refine ⟨?_, ?_⟩
    · rw [List.map_cons, PyData.canLayAll0, h1]
      rfl
    · rw [List.map_cons, PyData.depthAll, h2]
      rfl
theorem ints_shaped (ns : List Int) : SeqAt.shaped (.list (ns.map PyData.int)) = true ∧ (PyData.list (ns.map PyData.int)).canLay0 = true := by
  obtain ⟨h1, h2⟩ := ints_lay ns
  have e : (PyData.list (ns.map PyData.int)).canLay0 = true := by
    rw [PyData.canLay0]
    exact h1
  refine ⟨?_, e⟩
  unfold SeqAt.shaped
  rw [e, PyData.depth, h2]
  rfl
theorem natV_int (ns : List Nat) : natV ns = (ns.map Int.ofNat).map V.int := by
  unfold natV
  rw [List.map_map]
  rfl
section
variable {K : PySem.W.Frag} {σ : L2.St} {H : Hp} {ta tb te : TE}
theorem ev_eqInts {a : Addr} {ns : List Int} (ha : Ev ta σ H (.ref a)) (hs : SqL K H a (ns.map V.int)) (hb : ∀ H1, Ex H H1 → EvL tb σ H1 (ns.map V.int)) : Ev (tOp (rEqD K) ta tb) σ H (.bl true) := fun H1 e Q q =>
  ha H1 e _ fun H2 e2 => hb H2 (e.trans e2) H2 (Ex.refl H2) _ fun p H3 _ e3 h3 => by
    refine ⟨.list (ns.map PyData.int), .list (ns.map PyData.int), .lst (ex_l ((e.trans e2).trans e3) hs) (dp_ints ns), .lst (sq_of h3) (dp_ints ns), (ints_shaped ns).1, (ints_shaped ns).1, ?_⟩
    rw [SeqAt.eqv_refl _ (ints_shaped ns).2]
    exact q H3 (e2.trans e3)
theorem el_sortUp {a : Addr} {ns : List Int} (ha : Ev ta σ H (.ref a)) (hs : SqL K H a (ns.map V.int)) (hz : ns.length < 64) (up : ns.Pairwise (· ≤ ·)) : EvL (tCB (rSorted K) (tCons ta tNil)) σ H (ns.map V.int) := fun H1 e Q q =>
  ha H1 e _ fun H2 e2 => ⟨a, ns, rfl, ex_l (e.trans e2) hs, hz, fun ns' p pm so hp => by
    obtain rfl : ns' = ns := List.Perm.eq_of_pairwise (le := fun x y : Int => x ≤ y) (fun x y _ _ h1 h2 => Int.le_antisymm h1 h2) so up pm
    exact q p _ (fresh_back e2 hp) (e2.trans (Ex.new hp)) upd_same⟩
end
theorem top_le (us : List (List Str)) : ((topN us).map Int.ofNat).Pairwise (· ≤ ·) := by
  rw [List.pairwise_map]
  exact (top_up us).imp fun h => by show ((_ : Nat) : Int) ≤ ((_ : Nat) : Int); omega
section
variable {K : PySem.W.Frag} {σ : L2.St} {H : Hp} {ta tb tc te tl : TE}
theorem paired_mapR {α β γ : Type} {P : α → γ → Prop} {g : β → γ} : ∀ {xs : List α} {ys : List β}, Paired (fun k c => P k (g c)) xs ys → Paired P xs (ys.map g)
  | _, _, .nil => .nil
  | _, _, .cons h r => .cons h (paired_mapR r)
/-- [a new list of texts for k in numbers] -/
theorem evx_lcLotsN {a : Addr} {ns : List Nat} {j : Nat} {vs : List Nat} {P : Nat → List Str → Prop} (h : Ev tl σ H (.ref a)) (hx : SqL K H a (natV ns)) (hz : ns.length ≤ 4000) (hw : ∀ x, wipe ((wipe σ vs).set j (some x)) vs = wipe σ vs)
    (he : ∀ k H', k ∈ ns → Ex H H' → EvX te ((wipe σ vs).set j (some (.int (k : Int)))) H' (fun v H2 => ∃ (p : Addr) (ws : List Str), v = .ref p ∧ H' p = none ∧ TxL H2 p ws ∧ P k ws)) :
    EvX (tLc (iList K tl) (gName j) tYes te vs) σ H (fun v H' => ∃ (D : Addr) (us : List (List Str)), v = .ref D ∧ LotsAt us D H' ∧ us.length ≤ 5000 ∧ Paired P ns us) := fun H0 e Q q => by
  refine h H0 e _ fun H1 e1 => ⟨a, rfl, ⟨_, ex_l (e.trans e1) hx⟩, fun Dl hD => ?_⟩
  have e01 := e.trans e1
  have zn : (natV ns).length = ns.length := List.length_map ..
  refine lc_list (xs := natV ns) (fun n H' => Ex H1 H' ∧ ∃ ls : List (Addr × List Str), H' Dl = some (.lst (ls.map fun c => V.ref c.1)) ∧ LotAt H' ls ∧ (∀ c ∈ ls, c.1 ≠ Dl) ∧ Paired (fun k c => P k c.2) (ns.take n) ls)
    ⟨Ex.new hD, [], upd_same, (fun _ m => nomatch m), (fun _ m => nomatch m), .nil⟩ (fun n H' _ p => ex_l (e01.trans p.1) hx) (fun n x H' hn p => ?_) (fun H' p => ?_)
  · obtain ⟨e2, ls, hDl, hat, hne, pr⟩ := p
    have lt : n < ns.length := by
      have := (List.getElem?_eq_some_iff.mp hn).1
      omega
    have gn : ns[n]? = some ns[n] := List.getElem?_eq_getElem lt
    have mn : ns[n] ∈ ns := List.getElem_mem lt
    generalize ns[n] = k at gn mn
    obtain rfl : V.int (k : Int) = x := by
      unfold natV at hn
      rw [List.getElem?_map, gn] at hn
      exact Option.some.inj hn
    refine ⟨hw _, MuLc.yes_go ?_⟩
    refine he k H' mn (e01.trans e2) H' (Ex.refl H') _ fun v H3 e3 r => ?_
    obtain ⟨p, ws, rfl, hp, h3, hP⟩ := r
    have len := pr.length
    rw [List.length_take] at len
    have pD : p ≠ Dl := fun z => by
      rw [z, hDl] at hp
      exact nomatch hp
    refine ⟨ls.map fun c => V.ref c.1, e3 _ _ hDl, by rw [List.length_map]; exact sz_lt (by omega), Ex.mut (e2.trans e3) hD, ls ++ [(p, ws)], ?_, fun c m => ?_, fun c m => ?_, ?_⟩
    · rw [upd_same, List.map_append]
      rfl
    · rcases List.mem_append.mp m with m | m
      · exact (upd_ne (hne c m)).trans (e3 _ _ (hat c m))
      · obtain rfl := List.mem_singleton.mp m
        exact (upd_ne pD).trans h3
    · rcases List.mem_append.mp m with m | m
      · exact hne c m
      · obtain rfl := List.mem_singleton.mp m
        exact pD
    · rw [List.take_succ, gn]
      exact MuLc.paired_app pr (.cons hP .nil)
  · obtain ⟨e2, ls, hDl, hat, _, pr⟩ := p
    rw [zn, List.take_length] at pr
    have len := pr.length
    refine q _ _ (e1.trans e2) ⟨Dl, ls.map (·.2), rfl, ⟨ls, hDl, rfl, hat⟩, by rw [List.length_map]; omega, ?_⟩
    exact paired_mapR pr
/-- sorted(texts that stand) -/
theorem evx_sortedV {a : Addr} {xs : List Str} (h : Ev te σ H (.ref a)) (hs : SqL K H a (xs.map V.str)) (hz : xs.length < 64) : EvX (tCB (rSortedS K) (tCons te tNil)) σ H (fun v H' => ∃ (p : Addr) (ys : List Str), v = .ref p ∧ H p = none ∧ TxL H' p ys ∧ ys.Perm xs ∧ sortedS ys = true) := fun H1 e Q q => h H1 e _ fun H2 e2 =>
  ⟨a, xs, rfl, ex_l (e.trans e2) hs, hz, fun ys p pe so hp => q _ _ (e2.trans (Ex.new hp)) ⟨p, ys, rfl, fresh_back (e.trans e2) hp, upd_same, pe, so⟩⟩
/-- numbers.index(k) -/
theorem ev_indexN {p : Addr} {ns : List Nat} {k : Nat} (h : Ev ta σ H (.ref p)) (hs : SqL K H p (natV ns)) (hb : Ev tb σ H (.int (k : Int))) (nd : ns.Nodup) (m : k ∈ ns) : Ev (tBM K "list" (rIndex K) ta (tCons tb tNil)) σ H (.int ((ns.idxOf k : Nat) : Int)) := by
  have lt := List.idxOf_lt_length_of_mem m
  refine fun H1 e Q q => h H1 e _ fun H2 e2 => ⟨.inl ⟨rfl, _, ex_l (e.trans e2) hs⟩, ?_⟩
  refine hb H2 (e.trans e2) _ fun H3 e3 => ?_
  refine ⟨p, natV ns, .int (k : Int), ns.idxOf k, .int (k : Int), rfl, rfl, ex_l ((e.trans e2).trans e3) hs, rfl, natV_flat _, ?_, ?_, fun i z hi hz => ?_, q H3 (e2.trans e3)⟩
  · unfold natV
    rw [List.getElem?_map, List.getElem?_eq_getElem lt, List.getElem_idxOf lt]
    rfl
  · show decide ((k : Int) = (k : Int)) = true
    exact decide_eq_true rfl
  · have li : i < ns.length := by omega
    unfold natV at hz
    rw [List.getElem?_map, List.getElem?_eq_getElem li] at hz
    obtain rfl := Option.some.inj hz
    show decide (((ns[i] : Nat) : Int) = (k : Int)) = false
    refine decide_eq_false fun z => ?_
    have e1 : ns[i] = k := by omega
    have := nd.idxOf_getElem i li
    rw [e1] at this
    omega
theorem ev_callVVL {Dd : Hp → List V → V → Prop} {E : XK} {v1 v2 v : V} {xs : List V} (h1 : Ev ta σ H v1) (h2 : Ev tb σ H v2) (h3 : EvL tc σ H xs) (hs : ∀ p H1, Ex H H1 → H1 p = some (.lst xs) → Dd H1 [v1, v2, .ref p] v) : Ev (tCall (SpVal Dd) [] E (tCons ta (tCons tb (tCons tc tNil)))) σ H v := fun H1 e Q q =>
  h1 H1 e _ fun H2 e2 => h2 H2 (e.trans e2) _ fun H3 e3 => h3 H3 ((e.trans e2).trans e3) _ fun p H4 _ e4 h4 => ⟨v, hs p H4 (((e.trans e2).trans e3).trans e4) h4, fun H5 e5 => q H5 (((e2.trans e3).trans e4).trans e5)⟩
/-- == of lists of texts that are the same -/
theorem strs_eqV : ∀ us : List Str, Paired (EqV K H 1) (us.map V.str) (us.map V.str)
  | [] => .nil
  | u :: us => .cons (.inl ⟨rfl, rfl⟩) (strs_eqV us)
theorem lots_eqV : ∀ {cs ds : List (Addr × List Str)}, cs.map (·.2) = ds.map (·.2) → (∀ c ∈ cs, H c.1 = some (.lst (c.2.map V.str))) → (∀ c ∈ ds, H c.1 = some (.lst (c.2.map V.str))) → Paired (EqV K H 2) (cs.map fun c => V.ref c.1) (ds.map fun c => V.ref c.1)
  | [], [], _, _, _ => .nil
  | [], _ :: _, h, _, _ => nomatch h
  | _ :: _, [], h, _, _ => nomatch h
  | c :: cs, d :: ds, h, h1, h2 => by
    obtain ⟨e1, e2⟩ := List.cons.inj (show c.2 :: _ = d.2 :: _ from h)
    refine .cons (.inr (.inr (.inl ⟨c.1, d.1, _, _, rfl, rfl, sq_of (h1 c List.mem_cons_self), sq_of (h2 d List.mem_cons_self), ?_⟩))) (lots_eqV e2 (fun x m => h1 x (List.mem_cons_of_mem _ m)) fun x m => h2 x (List.mem_cons_of_mem _ m))
    rw [e1]
    exact strs_eqV _
theorem LotsAt.later {us : List (List Str)} {p : Addr} {H' : Hp} (h : LotsAt us p H) (e : Ex H H') : LotsAt us p H' := by
  obtain ⟨cs, h1, h2, h3⟩ := h
  exact ⟨cs, e _ _ h1, h2, fun c m => e _ _ (h3 c m)⟩
theorem ev_eqLots {A B : List (List Str) → Prop} (ha : EvX ta σ H (fun v H' => ∃ (p : Addr) (ws : List (List Str)), v = .ref p ∧ LotsAt ws p H' ∧ A ws)) (hb : ∀ H1, Ex H H1 → EvX tb σ H1 (fun v H' => ∃ (p : Addr) (ws : List (List Str)), v = .ref p ∧ LotsAt ws p H' ∧ B ws)) (ab : ∀ a b, A a → B b → a = b) :
    Ev (tOp (rEqV K) ta tb) σ H (.bl true) := fun H1 e Q q => ha H1 e _ fun v H2 e2 r => hb H2 (e.trans e2) H2 (Ex.refl H2) _ fun v3 H3 e3 r3 => by
  obtain ⟨p, ws, rfl, hp, a⟩ := r
  obtain ⟨p3, ws3, rfl, hp3, b⟩ := r3
  obtain rfl := ab ws ws3 a b
  obtain ⟨cs, c1, c2, c3⟩ := hp.later e3
  obtain ⟨ds, d1, d2, d3⟩ := hp3
  exact ⟨2, by decide, .inl ⟨p, p3, _, _, rfl, rfl, sq_of c1, sq_of d1, lots_eqV (c2.trans d2.symm) c3 d3⟩, q H3 (e2.trans e3)⟩
end
end MuWi

namespace MuAt
open PySem PySem.Spec PyProof.Rows L2 Evl MuK MuEd
/-! ### changes of any things -/
inductive Atom
  | tx (u : Str)
  | nu (n : Int)
  | tr (c : Bool)
  | no
def Atom.v : Atom → V
  | .tx u => .str u
  | .nu n => .int n
  | .tr c => .bl c
  | .no => .non
def Atom.whole : Atom → Bool
  | .nu _ => true
  | _ => false
def Atom.int : Atom → Int
  | .nu n => n
  | _ => 0
def Atom.txt : Atom → Str
  | .tx u => u
  | _ => ""
def Atom.isT (a : Atom) (w : Str) : Bool := decide (a.v = .str w)
def Atom.place (a : Atom) (m : Int) : Bool := a.whole && (decide (0 ≤ a.int) && decide (a.int < m))
def Atom.str : Atom → Bool
  | .tx _ => true
  | _ => false
def signB (c : Str) : Bool := decide ((c.length : Int) = 1) && ((!decide (c.cps.toList < (" " : Str).cps.toList)) && !decide (("~" : Str).cps.toList < c.cps.toList))
def Atom.sign (a : Atom) : Bool := a.str && signB a.txt
def outS (u : Str) (n : Int) : Str := cutS u none (some n) ++ cutS u (some (n + 1)) none
def insS (u : Str) (n : Int) (c : Str) : Str := cutS u none (some n) ++ c ++ cutS u (some n) none
def repS (u : Str) (n : Int) (c : Str) : Str := cutS u none (some n) ++ c ++ cutS u (some (n + 1)) none
def onceM (u : Str) : List Atom → Option Str
  | [a, p] => if a.isT "out" && p.place u.length then some (outS u p.int) else none
  | [a, p, c] => if c.sign then (if a.isT "in" && p.place ((u.length : Int) + 1) then some (insS u p.int c.txt) else if a.isT "for" && p.place u.length then some (repS u p.int c.txt) else none) else none
  | _ => none
def optV : Option Str → V
  | some u => .str u
  | none => .non
def runM (u : Str) : List (List Atom) → Option Str
  | [] => some u
  | c :: r => match onceM u c with
    | some w => runM w r
    | none => none
theorem place_i {a : Atom} {m : Int} (h : a.place m = true) : ∃ k : Nat, a = .nu (k : Int) ∧ (k : Int) < m := by
  cases a with
  | nu n =>
    have h : (decide (0 ≤ n) && decide (n < m)) = true := h
    rw [Bool.and_eq_true, decide_eq_true_eq, decide_eq_true_eq] at h
    exact ⟨n.toNat, by congr 1; omega, by omega⟩
  | _ => exact nomatch h
theorem sign_s {a : Atom} (h : a.sign = true) : ∃ c, a = .tx c ∧ c.length = 1 := by
  cases a with
  | tx u =>
    have h : (decide ((u.length : Int) = 1) && _) = true := h
    rw [Bool.and_eq_true, decide_eq_true_eq] at h
    exact ⟨u, rfl, by omega⟩
  | _ => exact nomatch h
theorem out_len {u : Str} {k : Nat} (h : k < u.length) : (outS u k).length ≤ u.length := by
  unfold outS
  have e : ((k : Int) + 1) = ((k + 1 : Nat) : Int) := by omega
  rw [e, app_len, cutAt_len (by omega), cutFrom_len (by omega)]
  omega
theorem ins_len {u c : Str} {k : Nat} (h : k ≤ u.length) (hc : c.length = 1) : (insS u k c).length ≤ u.length + 1 := by
  unfold insS
  rw [app_len, app_len, cutAt_len h, cutFrom_len h]
  omega
theorem rep_len {u c : Str} {k : Nat} (h : k < u.length) (hc : c.length = 1) : (repS u k c).length ≤ u.length + 1 := by
  unfold repS
  have e : ((k : Int) + 1) = ((k + 1 : Nat) : Int) := by omega
  rw [e, app_len, app_len, cutAt_len (by omega), cutFrom_len (by omega)]
  omega
theorem once_len {u w : Str} : ∀ {as : List Atom}, onceM u as = some w → w.length ≤ u.length + 1
  | [], h => nomatch h
  | [_], h => nomatch h
  | [a, p], h => by
    simp only [onceM] at h
    by_cases c : (a.isT "out" && p.place u.length) = true
    · rw [if_pos c] at h
      rw [Bool.and_eq_true] at c
      obtain ⟨k, rfl, hk⟩ := place_i c.2
      rw [← Option.some.inj h]
      exact Nat.le_succ_of_le (out_len (u := u) (k := k) (by omega))
    · rw [if_neg c] at h
      exact nomatch h
  | [a, p, c], h => by
    simp only [onceM] at h
    by_cases cs : c.sign = true
    · rw [if_pos cs] at h
      obtain ⟨d, rfl, hd⟩ := sign_s cs
      by_cases c1 : (a.isT "in" && p.place ((u.length : Int) + 1)) = true
      · rw [if_pos c1] at h
        rw [Bool.and_eq_true] at c1
        obtain ⟨k, rfl, hk⟩ := place_i c1.2
        rw [← Option.some.inj h]
        exact ins_len (by omega) hd
      · rw [if_neg c1] at h
        by_cases c2 : (a.isT "for" && p.place u.length) = true
        · rw [if_pos c2] at h
          rw [Bool.and_eq_true] at c2
          obtain ⟨k, rfl, hk⟩ := place_i c2.2
          rw [← Option.some.inj h]
          exact rep_len (by omega) hd
        · rw [if_neg c2] at h
          exact nomatch h
    · rw [if_neg cs] at h
      exact nomatch h
  | _ :: _ :: _ :: _ :: _, h => nomatch h
def AtOk (as : List Atom) : Prop := as.length ≤ 10 ∧ ∀ a ∈ as, a.txt.length ≤ 1000
def ChgAt (H : Hp) (t : Addr) (as : List Atom) : Prop := H t = some (.tup (as.map Atom.v)) ∧ AtOk as
theorem ChgAt.later {H H' : Hp} {t : Addr} {as : List Atom} (h : ChgAt H t as) (e : Ex H H') : ChgAt H' t as := ⟨e _ _ h.1, h.2⟩
theorem scal_s (a : Atom) (w : Str) : scal a.v (.str w) = true := by cases a <;> rfl
section
variable {K : PySem.W.Frag} {σ : L2.St} {H : Hp} {ta tb tc : TE}
theorem rv_isT (a : Atom) (w : Str) : RV rEq a.v (.str w) H (.bl (a.isT w)) := fun H1 _ Q q => ⟨scal_s a w, q H1 (Ex.refl H1)⟩
theorem rv_leC (u w : Str) : RV (fun x y H Q => ∃ i j, x = .str i ∧ y = .str j ∧ Q (.bl (!decide (j.cps.toList < i.cps.toList))) H) (.str u) (.str w) H (.bl (!decide (w.cps.toList < u.cps.toList))) := fun H1 _ Q q => ⟨_, _, rfl, rfl, q H1 (Ex.refl H1)⟩
theorem rc_isiA {a : Atom} {n : String} {bs bi bb bn : Bool} (h1 : PySem.W.kitOne K (.type "str") (.type n) = some bs) (h2 : PySem.W.kitOne K (.type "int") (.type n) = some bi) (h3 : PySem.W.kitOne K (.type "bool") (.type n) = some bb) (h4 : PySem.W.kitOne K (.type "NoneType") (.type n) = some bn) : RC (rIsi K) [a.v, .ty n] H (.bl (match a with | .tx _ => bs | .nu _ => bi | .tr _ => bb | .no => bn)) := by
  cases a with
  | tx u => exact rc_isiStr h1
  | nu m => exact rc_isiInt h2
  | tr c => exact rc_isiBool h3
  | no => exact rc_isiNone h4
end
/-- a row of changes of any things -/
def RowsAt (H : Hp) (D : Addr) (cs : List (Addr × List Atom)) : Prop := H D = some (.lst (cs.map fun c => V.ref c.1)) ∧ ∀ c ∈ cs, ChgAt H c.1 c.2
theorem RowsAt.later {H H' : Hp} {D : Addr} {cs : List (Addr × List Atom)} (h : RowsAt H D cs) (e : Ex H H') : RowsAt H' D cs := ⟨e _ _ h.1, fun c m => (h.2 c m).later e⟩
theorem run_snoc (u : Str) : ∀ (l : List (List Atom)) (c : List Atom) (w : Str), runM u l = some w → runM u (l ++ [c]) = onceM w c := by
  intro l
  induction l generalizing u with
  | nil =>
    intro c w h
    obtain rfl : u = w := Option.some.inj h
    show (match onceM u c with | some w => some w | none => none) = _
    cases onceM u c <;> rfl
  | cons a r ih =>
    intro c w h
    have h : (match onceM u a with | some w => runM w r | none => none) = some w := h
    show (match onceM u a with | some w => runM w (r ++ [c]) | none => none) = _
    cases y : onceM u a with
    | none =>
      rw [y] at h
      exact nomatch h
    | some z =>
      rw [y] at h
      exact ih z c w h
theorem run_none (u : Str) : ∀ (l r : List (List Atom)), runM u l = none → runM u (l ++ r) = none := by
  intro l
  induction l generalizing u with
  | nil =>
    intro r h
    exact nomatch h
  | cons a l ih =>
    intro r h
    have h : (match onceM u a with | some w => runM w l | none => none) = none := h
    show (match onceM u a with | some w => runM w (l ++ r) | none => none) = none
    cases y : onceM u a with
    | none => rfl
    | some z =>
      rw [y] at h
      exact ih z r h
theorem take_run {u : Str} {cs : List (Addr × List Atom)} {i : Nat} {c : Addr × List Atom} {w : Str} (hc : cs[i]? = some c) (h : runM u ((cs.take i).map (·.2)) = some w) : runM u ((cs.take (i + 1)).map (·.2)) = onceM w c.2 := by
  rw [List.take_add_one, hc, List.map_append]
  exact run_snoc u _ c.2 w h
theorem cut_run {u : Str} {cs : List (Addr × List Atom)} {i : Nat} (h : runM u ((cs.take i).map (·.2)) = none) : runM u (cs.map (·.2)) = none := by
  have e : cs.map (·.2) = (cs.take i).map (·.2) ++ (cs.drop i).map (·.2) := by rw [← List.map_append, List.take_append_drop]
  rw [e]
  exact run_none u _ _ h
theorem paired_ex {H H' : Hp} (e : Ex H H') : ∀ {ps : List Addr} {rows : List (List V)}, Paired (fun p r => H p = some (.tup r)) ps rows → Paired (fun p r => H' p = some (.tup r)) ps rows
  | _, _, .nil => .nil
  | _, _, .cons a r => .cons (e _ _ a) (paired_ex e r)
theorem paired_app {F : Addr → List V → Prop} : ∀ {ps qs : List Addr} {rs ss : List (List V)}, Paired F ps rs → Paired F qs ss → Paired F (ps ++ qs) (rs ++ ss)
  | _, _, _, _, .nil, h => h
  | _, _, _, _, .cons a r, h => .cons a (paired_app r h)
abbrev RRow (rows : List (List V)) : V → Hp → Prop := fun v H' => ∃ (D : Addr) (ps : List Addr), v = .ref D ∧ H' D = some (.lst (ps.map V.ref)) ∧ Paired (fun p r => H' p = some (.tup r)) ps rows
theorem evx_lstR {σ : L2.St} {H : Hp} {tr : TA} {rows : List (List V)} (h : MuNr.EaU tr σ H rows) (hz : rows.length ≤ 1000) : EvX (tLst tr) σ H (RRow rows) := fun H0 e Q q =>
  h H0 e _ fun ps H1 e1 pr => ⟨sz_of (by have := Paired.length pr; simp at this ⊢; omega), fun l hl => q _ _ (e1.trans (Ex.new hl)) ⟨l, ps, rfl, upd_same, paired_ex (Ex.new hl) pr⟩⟩
/-- xs + [rows] -/
theorem evx_catR {K : PySem.W.Frag} {σ : L2.St} {H : Hp} {ta : TE} {tr : TA} {D : Addr} {ps : List Addr} {rows more : List (List V)} (ha : Ev ta σ H (.ref D)) (hD : H D = some (.lst (ps.map V.ref))) (pr : Paired (fun p r => H p = some (.tup r)) ps rows) (h : MuNr.EaU tr σ H more) (hz : rows.length + more.length ≤ 1000) : EvX (tOp rCat ta (tLst tr)) σ H (RRow (rows ++ more)) := fun H0 e Q q =>
  ha H0 e _ fun H1 e1 => h H1 (e.trans e1) _ fun qs H2 e2 qr => ⟨sz_of (by have := Paired.length qr; simp at this ⊢; omega), fun l hl => by
    have eL := Ex.new (o := .lst (qs.map V.ref)) hl
    have e03 := ((e.trans e1).trans e2).trans eL
    refine ⟨D, l, ps.map V.ref, qs.map V.ref, rfl, rfl, e03 _ _ hD, upd_same, sz_of (by have := Paired.length qr; have h2 := Paired.length pr; simp at this h2 ⊢; omega), fun t ht => ?_⟩
    have eT := eL.trans (Ex.new (o := .lst (ps.map V.ref ++ qs.map V.ref)) ht)
    exact q _ _ ((e1.trans e2).trans eT) ⟨t, ps ++ qs, rfl, by rw [upd_same, List.map_append], paired_app (paired_ex (((e.trans e1).trans e2).trans eT) pr) (paired_ex eT qr)⟩⟩
/-- the same state, told anew -/
theorem st_go {tz : TS} {D : Ends} {σ : L2.St} {H : Hp} (σ2 : L2.St) (e : σ = σ2) (h : tz D σ2 H) : tz D σ H := e ▸ h
theorem eaU_consW {σ : L2.St} {H : Hp} {ta : TE} {tr : TA} {r : List V} {rows : List (List V)} (h : EvX ta σ H (fun v H' => ∃ p : Addr, v = .ref p ∧ H' p = some (.tup r))) (hr : ∀ H1, Ex H H1 → MuNr.EaU tr σ H1 rows) : MuNr.EaU (tCons ta tr) σ H (r :: rows) := fun H0 e Q q =>
  h H0 e _ fun v H1 e1 x => by
    obtain ⟨p, rfl, h1⟩ := x
    exact hr H1 (e.trans e1) H1 (Ex.refl _) _ fun ps H2 e2 pr => q (p :: ps) H2 (e1.trans e2) (.cons (e2 _ _ h1) pr)
theorem evx_U {σ : L2.St} {H : Hp} {ta : TE} {r : List V} (h : EvU ta σ H r) : EvX ta σ H (fun v H' => ∃ p : Addr, v = .ref p ∧ H' p = some (.tup r)) := fun H1 e Q q => h H1 e _ fun p H2 _ e2 h2 => q _ _ e2 ⟨p, rfl, h2⟩
theorem eu_catT {K : PySem.W.Frag} {σ : L2.St} {H : Hp} {ta tb : TE} {xs ys : List V} {b : Addr} (h : EvU ta σ H xs) (hb : ∀ H1, Ex H H1 → Ev tb σ H1 (.ref b)) (hs : H b = some (.tup ys)) (hx : xs ≠ []) (hy : ys ≠ []) (hz : xs.length + ys.length ≤ 1000) : EvU (tOp (rCatT K) ta tb) σ H (xs ++ ys) := fun H1 e Q q =>
  h H1 e _ fun p H2 hp e2 h2 => hb H2 (e.trans e2) H2 (Ex.refl _) _ fun H3 e3 => ⟨p, b, xs, ys, rfl, rfl, st_of (e3 _ _ h2), st_of (((e.trans e2).trans e3) _ _ hs), hx, sz_of (by omega), fun z => absurd z hy, fun _ t ht => q t _ (fresh_back (e2.trans e3) ht) ((e2.trans e3).trans (Ex.new ht)) upd_same⟩
theorem pickA {as : List Atom} {z M : Int} (hM : (as.length : Int) = M) (hp : 0 < M) : ∃ a ∈ as, atI (as.map Atom.v) (z % M) = some a.v := by
  obtain ⟨m, rfl⟩ : ∃ m : Nat, M = (m : Int) := ⟨as.length, hM.symm⟩
  have hm : as.length = m := by omega
  have h0 : 0 < m := by omega
  have h := atI_mod (xs := as.map Atom.v) (n := z) (m := m) .non (by rw [List.length_map]; exact hm) h0
  have e0 := Int.emod_nonneg z (show (m : Int) ≠ 0 by omega)
  have e1 := Int.emod_lt_of_pos z (show (0 : Int) < m by omega)
  have lt : (z % (m : Int)).toNat < as.length := by omega
  refine ⟨as[(z % (m : Int)).toNat], List.getElem_mem lt, ?_⟩
  rw [h, List.getD_eq_getElem?_getD, List.getElem?_map, List.getElem?_eq_getElem lt]
  rfl
theorem pickR {H : Hp} {ps : List Addr} {rows : List (List V)} {z M : Int} (hM : (rows.length : Int) = M) (hp : 0 < M) (pr : Paired (fun p r => H p = some (.tup r)) ps rows) : ∃ p r, r ∈ rows ∧ H p = some (.tup r) ∧ atI (ps.map V.ref) (z % M) = some (.ref p) := by
  obtain ⟨m, rfl⟩ : ∃ m : Nat, M = (m : Int) := ⟨rows.length, hM.symm⟩
  have hm : rows.length = m := by omega
  have h0 : 0 < m := by omega
  have zl := Paired.length pr
  have h := atI_mod (xs := ps.map V.ref) (n := z) (m := m) .non (by rw [List.length_map]; omega) h0
  have e0 := Int.emod_nonneg z (show (m : Int) ≠ 0 by omega)
  have e1 := Int.emod_lt_of_pos z (show (0 : Int) < m by omega)
  have lt : (z % (m : Int)).toNat < ps.length := by omega
  obtain ⟨r, hr, fr⟩ := paired_get pr (List.getElem?_eq_getElem lt)
  refine ⟨ps[(z % (m : Int)).toNat], r, List.mem_of_getElem? hr, fr, ?_⟩
  rw [h, List.getD_eq_getElem?_getD, List.getElem?_map, List.getElem?_eq_getElem lt]
  rfl
theorem evx_pickR {K : PySem.W.Frag} {σ : L2.St} {H : Hp} {ta ti : TE} {rows : List (List V)} {z M : Int} (h : EvX ta σ H (RRow rows)) (hi : ∀ H1, Ex H H1 → Ev ti σ H1 (.int (z % M))) (hm : (rows.length : Int) = M) (h0 : 0 < M) : EvX (tOp (rIxL K) ta ti) σ H (fun v H' => ∃ (p : Addr) (r : List V), v = .ref p ∧ r ∈ rows ∧ H' p = some (.tup r)) := fun H1 e Q q =>
  h H1 e _ fun v H2 e2 x => by
    obtain ⟨D, ps, rfl, hD, pr⟩ := x
    obtain ⟨p, r, hr, hp, ha⟩ := pickR (z := z) hm h0 pr
    exact hi H2 (e.trans e2) H2 (Ex.refl _) _ fun H3 e3 => rv_ixL (sq_of (e3 _ _ hD)) ha H3 (Ex.refl _) Q fun H4 e4 => q _ H4 ((e2.trans e3).trans e4) ⟨p, r, rfl, hr, (e3.trans e4) _ _ hp⟩
section
open MuX
variable {K : PySem.W.Frag} {σ : L2.St} {H : Hp} {ta tb te tl : TE} {v : V} {D : Ends} {t t2 : TT} {tz tu tw : TS}
theorem q_go {t : TS} (h : t { D with nx := tz D } σ H) : tSeq t tz D σ H := h
theorem bad_callS {s0 : Sp} {B : Hp → List V → Addr → Prop} {C : Addr} {ta : TA} {vs : List V} {E : L2.St → XK} (h : EvA ta σ H vs) (hs : ∀ H1, Ex H H1 → B H1 vs C) (k : ∀ H', Ex H H' → E σ (.ref C) none H') (Q : VK) : tCallS (SpM s0 (SpB B)) E ta σ H Q :=
  h H (Ex.refl H) _ fun H1 e1 => .inr ⟨C, hs H1 e1, fun H2 e2 => k H2 (e1.trans e2)⟩
theorem keep_nx {L : Value} {i j : Nat} {Wout : WX} {C : Addr} (hi : i < σ.length) (exm : PySem.W.exmOne K (.ref C) L = some true)
    (k : ∀ H' a, Ex H H' → H' a = some (ExO a C) → D.nx (((σ.set i (some (.ref a))).set j (some (.ref a))).set i none) H') : wKeep K L i (fun _ _ _ => tAsg (tVar i) (gName j)) Wout D (.ref C) none σ H :=
  ⟨true, exm, fun _ => ⟨C, rfl, rfl, fun a _ => s_asg (v := .ref a) (ev_var (by rw [List.getElem?_set_self hi])) fun H3 e3 na => k _ a (e3.trans (Ex.new na)) upd_same⟩, fun z => nomatch z⟩
end
end MuAt

namespace MuWi
open PySem PySem.Spec PyProof.Rows L2 Evl MuK MuNr MuEd
theorem given_filS (f : Str → Bool) (ys : List Str) : given ys.length (fun i => f (ys.getD i "")) (fun i => .str (ys.getD i "")) = (ys.filter f).map V.str := by
  have h := MuLc.keep_at ys "" f
  unfold given
  rw [← h, List.map_map]
  rfl
theorem not_in_nil {u v : List Str} : (u.filter fun x => !decide (x ∈ v)).isEmpty = subB u v := by
  rw [Bool.eq_iff_iff, List.isEmpty_iff, List.filter_eq_nil_iff, subB_iff]
  exact ⟨fun h x m => by simpa using h x m, fun h x m => by simpa using h x m⟩
/-- within both ways just where no more words -/
theorem low_len {us : List (List Str)} {i j : Nat} (h : (i, j) ∈ witN us) (ni : (us.getD i []).Nodup) (nj : (us.getD j []).Nodup) : (j, i) ∉ witN us ↔ (us.getD i []).length < (us.getD j []).length := by
  obtain ⟨h1, h2, h3, h4⟩ := mem_wit.mp h
  dsimp only at h4
  constructor
  · intro no
    refine Nat.lt_of_not_le fun le => no (mem_wit.mpr ⟨h2, h1, Ne.symm h3, fun x m => Classical.byContradiction fun nx => ?_⟩)
    have := nodup_len (l := x :: us.getD i []) (m := us.getD j []) (List.nodup_cons.mpr ⟨nx, ni⟩) fun y my => by
      rcases List.mem_cons.mp my with rfl | my
      · exact m
      · exact h4 y my
    rw [List.length_cons] at this
    omega
  · intro lt yes
    have := nodup_len nj (mem_wit.mp yes).2.2.2
    dsimp only at this
    omega
/-- the longer ones, or those ahead, over a set -/
def upF (us : List (List Str)) (i j : Nat) : Bool := decide ((us.getD i []).length < (us.getD j []).length) || decide (j < i)
theorem up_low {us : List (List Str)} (nd : ∀ u ∈ us, u.Nodup) {i : Nat} : ((ovL us i).filter (upF us i)).isEmpty = !lowB us i := by
  have ndg : ∀ {k : Nat}, k < us.length → (us.getD k []).Nodup := fun {k} lt => by
    rw [List.getD_eq_getElem?_getD, List.getElem?_eq_getElem lt]
    exact nd _ (List.getElem_mem lt)
  rw [Bool.eq_iff_iff, List.isEmpty_iff, List.filter_eq_nil_iff, Bool.not_eq_true']
  constructor
  · intro h
    cases c : lowB us i with
    | false => rfl
    | true =>
      obtain ⟨j, hj⟩ := low_iff.mp c
      obtain ⟨w, o⟩ := ov_iff.mp hj
      obtain ⟨h1, h2, _⟩ := mem_wit.mp w
      refine absurd ?_ (h j (mem_ov.mpr w))
      unfold upF
      rw [Bool.or_eq_true, decide_eq_true_eq, decide_eq_true_eq]
      rcases o with o | o
      · exact .inr o
      · exact .inl ((low_len w (ndg h1) (ndg h2)).mp o)
  · intro h j mj up
    have w := mem_ov.mp mj
    obtain ⟨h1, h2, _⟩ := mem_wit.mp w
    have : lowB us i = true := low_iff.mpr ⟨j, ov_iff.mpr ⟨w, ?_⟩⟩
    · rw [h] at this
      exact nomatch this
    · unfold upF at up
      rw [Bool.or_eq_true, decide_eq_true_eq, decide_eq_true_eq] at up
      rcases up with up | up
      · exact .inr ((low_len w (ndg h1) (ndg h2)).mpr up)
      · exact .inl up
section
variable {K : PySem.W.Frag} {σ : L2.St} {H : Hp} {ta tb te tl : TE}
theorem ev_eqNilG {a : Addr} {xs : List V} (ha : Ev ta σ H (.ref a)) (hx : SqL K H a xs) (hb : EvL tb σ H []) : Ev (tOp (rNil K true) ta tb) σ H (.bl xs.isEmpty) := fun H1 e Q q =>
  ha H1 e _ fun H2 e2 => hb H2 (e.trans e2) _ fun p H3 hp e3 h3 => ⟨a, p, xs, rfl, rfl, ex_l ((e.trans e2).trans e3) hx, sq_of h3, by
    have z : (true == xs.isEmpty) = xs.isEmpty := by cases xs.isEmpty <;> rfl
    rw [z]
    exact q H3 (e2.trans e3)⟩
theorem pls_app {ps : List (Nat × Nat)} {p : Nat × Nat} {D : Addr} {H : Hp} (h : PsAt false (ps.map (fun p => (p, (0 : Int))) ++ [(p, 0)]) D H) : PLs (ps ++ [p]) D H := by
  show PsAt false ((ps ++ [p]).map _) D H
  rw [List.map_append]
  exact h
end
section
variable {K : PySem.W.Frag} {σ : L2.St} {H : Hp} {ta : TA}
theorem evx_callSR {Dd : Hp → List V → (V → Hp → Prop) → Prop} {R : V → Hp → Prop} {sB : Sp} {vs : List V} {E : L2.St → XK} (h : EvA ta σ H vs) (hs : ∀ H1, Ex H H1 → ∃ R1, Dd H1 vs R1 ∧ ∀ v H2, Ex H1 H2 → R1 v H2 → R v H2) : EvX (tCallS (MuX.SpM (SpR Dd) sB) E ta) σ H R := fun H1 e Q q =>
  h H1 e _ fun H2 e2 => .inl (by
    obtain ⟨R1, d, k⟩ := hs H2 (e.trans e2)
    exact ⟨R1, d, fun v H3 e3 r => q v H3 (e2.trans e3) (k v H3 e3 r)⟩)
theorem el_callSL {Dd : Hp → List V → List V → Prop} {xs : List V} {sB : Sp} {vs : List V} {E : L2.St → XK} (h : EvA ta σ H vs) (hs : ∀ H1, Ex H H1 → Dd H1 vs xs) : EvL (tCallS (MuX.SpM (SpLst Dd) sB) E ta) σ H xs := fun H1 e Q q =>
  h H1 e _ fun H2 e2 => .inl ⟨xs, hs H2 (e.trans e2), fun p H3 hp e3 h3 => q p H3 (fresh_back e2 hp) (e2.trans e3) h3⟩
end
/-! ### list.extend(a tuple) -/
theorem ext_meets (l b : Addr) (items items2 : Array Value) (n n2 : Nat) (o2 : Obj) (c2 : o2.cls = .type "tuple") (d2 : o2.data = .seq items2 n2) (hz : items.size + items2.size ≤ sizeLine) :
    Meets (Builtin.«list.extend» ⟨[.ref l, .ref b], []⟩) (fun _ R s => s.heap.get? l = some { cls := .type "list", dict := none, data := .seq items n, slots := #[] } ∧ s.heap.get? b = some o2 ∧ R (.ok (.ret Value.none)) { s with heap := s.heap.update l (Obj.mapSeq fun x => x ++ items2) }) :=
  .of_wp fun prog w A R s h => by
    obtain ⟨hl, hb, h⟩ := h
    unfold Builtin.«list.extend»
    refine wpAny_bind (m := selfAndOne "list.extend" _) (wpAny_of_eq (a := (.ref l, .ref b)) (by rfl) ?_)
    show wpAny _ _ (Builtin.List.listExtendWith (.ref l) (.ref b) .none) _ _ s
    unfold Builtin.List.listExtendWith
    refine wpAny_bind (wpAny_typeOf_ref hb ?_)
    rw [c2]
    refine wp_if_pos (by
      rw [Bool.or_eq_true]
      exact .inr (by decide)) ?_
    refine wpAny_bind (wpAny_listItems hb d2 ?_)
    refine wpAny_bind (wpAny_listItems hl rfl ?_)
    refine wp_if_neg (by
      rw [notLongL hz, Bool.and_false]
      exact Bool.false_ne_true) ?_
    try refine wpAny_bind (wpAny_pure ?_)
    refine wpAny_bind (m := Builtin.List.listUpdate (.ref l) _) ?_
    show wpAny _ _ (updateSeq l _) _ _ s
    refine wpAny_updateSeq hl rfl ?_ (by omega) (by rw [Array.size_append]; omega)
    exact wpAny_bind (wpAny_pure (wpAny_pure ⟨_, rfl, h⟩))
def rExtT : V → List V → Hp → VK → Prop := fun x vs H Q => ∃ (l b : Addr) (xs zs : List V), x = .ref l ∧ vs = [.ref b] ∧ H l = some (.lst xs) ∧ H b = some (.tup zs) ∧ xs.length + zs.length ≤ 100000 ∧ Q .non (upd H l (.lst (xs ++ zs)))
theorem mt_extT {X : Cx} : MtR X "list.extend" rExtT := by
  intro pins s σ H x vs v us Q I rx rv h
  obtain ⟨l, b, xs, zs, rfl, rfl, hl, hb, hz, q⟩ := h
  cases rx
  obtain ⟨u, rfl, ru⟩ := rv.one
  cases ru
  obtain ⟨_, its, n, r, hlen, e⟩ := I.lstM hl
  obtain ⟨its2, r2, ⟨o2, g2, c2, n2, d2⟩, _⟩ := I.tuple (st_of hb)
  have h2 := r2.length
  have hz2 : its.toArray.size + its2.toArray.size ≤ sizeLine := by
    rw [List.size_toArray, List.size_toArray, sizeLine_eq]
    omega
  refine call_meets F.slot_list_extend ⟨_, e, rfl⟩ F.entry_list_extend (F.args_list_extend_2 _ _) (ext_meets l b its.toArray its2.toArray n n2 o2 c2 d2 hz2) ⟨e, g2, ?_⟩
  refine ⟨.non, _, I.lset (its' := its ++ its2) (t' := s.toks) hl e (by simp) (r.append r2) ?_, rfl, q⟩
  rw [List.length_append, sizeLine_eq]
  omega
section
variable {σ : L2.St} {H : Hp} {ta tb : TE} {tz : TS} {D : Ends} {K : PySem.W.Frag}
theorem s_extT {l b : Addr} {xs zs : List V} (hl : H l = some (.lst xs)) (hb : H b = some (.tup zs)) (ha : Ev ta σ H (.ref l)) (h : Ev tb σ H (.ref b)) (hz : xs.length + zs.length ≤ 100000) (q : ∀ H1, Ex H H1 → D.nx σ (upd H1 l (.lst (xs ++ zs)))) : tDrop (tBM K "list" rExtT ta (tCons tb tNil)) D σ H :=
  ha H (Ex.refl H) _ fun H1 e1 => ⟨.inl ⟨rfl, xs, sq_of (e1 l _ hl)⟩, h H1 e1 _ fun H2 e2 => ⟨l, b, xs, zs, rfl, rfl, (e1.trans e2) _ _ hl, (e1.trans e2) _ _ hb, hz, q H2 (e1.trans e2)⟩⟩
end
section
variable {K : PySem.W.Frag} {σ : L2.St} {H : Hp} {ta tb te tl ti : TE}
/-- [list(words) for words in a lot] -/
theorem evx_copies {a : Addr} {ls : List (Addr × List Str)} {j : Nat} {vs : List Nat} (h : Ev tl σ H (.ref a)) (hx : H a = some (.lst (ls.map fun c => V.ref c.1))) (hat : LotAt H ls) (hz : ls.length ≤ 4000) (hw : ∀ x, wipe ((wipe σ vs).set j (some x)) vs = wipe σ vs) (hj : ∀ x, ((wipe σ vs).set j (some x))[j]? = some (some x)) :
    EvX (tLc (iList K tl) (gName j) tYes (tCB (rListS K) (tCons (tVar j) tNil)) vs) σ H (fun v H' => ∃ (D : Addr) (hs : List (Addr × List Str)), v = .ref D ∧ H D = none ∧ H' D = some (.lst (hs.map fun c => V.ref c.1)) ∧ LotAt H' hs ∧ hs.map (·.2) = ls.map (·.2)) := fun H0 e Q q => by
  refine h H0 e _ fun H1 e1 => ⟨a, rfl, ⟨_, sq_of ((e.trans e1) _ _ hx)⟩, fun Dl hD => ?_⟩
  have e01 := e.trans e1
  refine lc_list (xs := ls.map fun c => V.ref c.1) (fun n H' => Ex H1 H' ∧ ∃ hs : List (Addr × List Str), H' Dl = some (.lst (hs.map fun c => V.ref c.1)) ∧ LotAt H' hs ∧ (∀ c ∈ hs, c.1 ≠ Dl) ∧ hs.map (·.2) = (ls.take n).map (·.2))
    ⟨Ex.new hD, [], upd_same, (fun _ m => nomatch m), (fun _ m => nomatch m), rfl⟩ (fun n H' _ p => sq_of ((e01.trans p.1) _ _ hx)) (fun n x H' hn p => ?_) (fun H' p => ?_)
  · obtain ⟨e2, hs, hDl, hat2, hne, eq⟩ := p
    have lt : n < ls.length := by
      have := (List.getElem?_eq_some_iff.mp hn).1
      rwa [List.length_map] at this
    have gn : ls[n]? = some ls[n] := List.getElem?_eq_getElem lt
    have mn : ls[n] ∈ ls := List.getElem_mem lt
    generalize ls[n] = c at gn mn
    rw [List.getElem?_map, gn] at hn
    obtain rfl := Option.some.inj hn
    refine ⟨hw _, MuLc.yes_go ?_⟩
    refine (el_list (K := K) (xs := c.2.map V.str) (ev_var (hj _)) (sq_of ((e01.trans e2) _ _ (hat c mn)))) H' (Ex.refl _) _ fun p H3 hp e3 h3 => ?_
    have len := congrArg List.length eq
    rw [List.length_map, List.length_map, List.length_take] at len
    have pD : p ≠ Dl := fun z => by
      rw [z, hDl] at hp
      exact nomatch hp
    refine ⟨hs.map fun c => V.ref c.1, e3 _ _ hDl, by rw [List.length_map]; exact sz_lt (by omega), Ex.mut (e2.trans e3) hD, hs ++ [(p, c.2)], ?_, fun d m => ?_, fun d m => ?_, ?_⟩
    · rw [upd_same, List.map_append]
      rfl
    · rcases List.mem_append.mp m with m | m
      · exact (upd_ne (hne d m)).trans (e3 _ _ (hat2 d m))
      · obtain rfl := List.mem_singleton.mp m
        exact (upd_ne pD).trans h3
    · rcases List.mem_append.mp m with m | m
      · exact hne d m
      · obtain rfl := List.mem_singleton.mp m
        exact pD
    · rw [List.map_append, eq, List.take_succ, gn, List.map_append]
      rfl
  · obtain ⟨e2, hs, hDl, hat2, _, eq⟩ := p
    rw [List.length_map, List.take_length] at eq
    exact q _ _ (e1.trans e2) ⟨Dl, hs, rfl, fresh_back e01 hD, hDl, hat2, eq⟩
/-- [..] * int(a truth) -/
theorem el_rep01 {xs : List V} {n : Int} {c : Bool} (h : EvL ta σ H xs) (hz : xs.length ≤ 1000) (hi : Ev ti σ H (.int n)) (hn : n = if c then 1 else 0) : EvL (tOp rRep ta ti) σ H (if c then xs else []) := fun H0 e Q q =>
  h H0 e _ fun l H1 hl0 e1 hl => hi H1 (e.trans e1) _ fun H2 e2 => by
    refine ⟨l, n, _, rfl, rfl, e2 _ _ hl, by split at hn <;> omega, by split at hn <;> omega, ?_, fun p hp => ?_⟩
    · refine sz_of ?_
      cases c
      · rw [hn]
        show xs.length * 0 ≤ 100000
        omega
      · rw [hn]
        show xs.length * 1 ≤ 100000
        omega
    · refine q p _ (fresh_back (e1.trans e2) hp) ((e1.trans e2).trans (Ex.new hp)) ?_
      rw [upd_same]
      cases c
      · subst hn
        rfl
      · subst hn
        show some (HO.lst ([xs].flatten)) = some (.lst xs)
        rw [List.flatten_cons, List.flatten_nil, List.append_nil]
/-- != of lists that are of the same data -/
theorem ev_neLL {xs ys : List V} {ds : List PyData} (ha : EvL ta σ H xs) (hb : ∀ H1, Ex H H1 → EvL tb σ H1 ys) (dx : ∀ H1, Ex H H1 → DpAll K H1 xs ds) (dy : ∀ H1, Ex H H1 → DpAll K H1 ys ds) (s1 : SeqAt.shaped (.list ds) = true) (s2 : (PyData.list ds).canLay0 = true) : Ev (tOp (rNeD K) ta tb) σ H (.bl false) := fun H1 e Q q =>
  ha H1 e _ fun p H2 _ e2 h2 => hb H2 (e.trans e2) H2 (Ex.refl H2) _ fun r H3 _ e3 h3 => by
    have e13 := (e.trans e2).trans e3
    refine ⟨.list ds, .list ds, .lst (sq_of (e3 _ _ h2)) (dx _ e13), .lst (sq_of h3) (dy _ e13), s1, s1, ?_⟩
    rw [SeqAt.eqv_refl _ s2]
    exact q H3 (e2.trans e3)
theorem ev_neLV {xs ys : List V} {b : Addr} {ds : List PyData} (ha : EvL ta σ H xs) (hb : ∀ H1, Ex H H1 → Ev tb σ H1 (.ref b)) (hy : SqL K H b ys) (dx : ∀ H1, Ex H H1 → DpAll K H1 xs ds) (dy : ∀ H1, Ex H H1 → DpAll K H1 ys ds) (s1 : SeqAt.shaped (.list ds) = true) (s2 : (PyData.list ds).canLay0 = true) : Ev (tOp (rNeD K) ta tb) σ H (.bl false) := fun H1 e Q q =>
  ha H1 e _ fun p H2 _ e2 h2 => hb H2 (e.trans e2) H2 (Ex.refl H2) _ fun H3 e3 => by
    have e13 := (e.trans e2).trans e3
    refine ⟨.list ds, .list ds, .lst (sq_of (e3 _ _ h2)) (dx _ e13), .lst (ex_l e13 hy) (dy _ e13), s1, s1, ?_⟩
    rw [SeqAt.eqv_refl _ s2]
    exact q H3 (e2.trans e3)
theorem ev_neVV {a b : Addr} {xs ys : List V} {n : Nat} (ha : Ev ta σ H (.ref a)) (hb : Ev tb σ H (.ref b)) (h1 : SqL K H a xs) (h2 : SqL K H b ys) (hn : n ≤ 50) (e1 : ∀ H1, Ex H H1 → Paired (EqV K H1 n) xs ys) : Ev (tOp (MuBag.rNeV K) ta tb) σ H (.bl false) := fun H1 e Q q =>
  ha H1 e _ fun H2 e2 => hb H2 (e.trans e2) _ fun H3 e3 => ⟨a, b, xs, ys, n, rfl, rfl, ex_l ((e.trans e2).trans e3) h1, ex_l ((e.trans e2).trans e3) h2, hn, e1 _ ((e.trans e2).trans e3), q H3 (e2.trans e3)⟩
/-- [pairs, numbers], new -/
theorem evx_due {ps : List (Nat × Nat)} {xs : List V} (h1 : EvX ta σ H (fun v H' => ∃ D : Addr, v = .ref D ∧ PLs ps D H')) (h2 : ∀ H1, Ex H H1 → EvL tb σ H1 xs) : EvX (tLst (tCons ta (tCons tb tNil))) σ H (fun v H' => ∃ pd D pt : Addr, v = .ref pd ∧ H' pd = some (.lst [.ref D, .ref pt]) ∧ PLs ps D H' ∧ H' pt = some (.lst xs)) := fun H1 e Q q =>
  h1 H1 e _ fun v H2 e2 r => by
    obtain ⟨D, rfl, hD⟩ := r
    exact h2 H2 (e.trans e2) H2 (Ex.refl _) _ fun pt H3 _ e3 h3 => ⟨sz_of (by simp), fun pd hp => q _ _ ((e2.trans e3).trans (Ex.new hp)) ⟨pd, D, pt, rfl, upd_same, hD.later (e3.trans (Ex.new hp)), (Ex.new hp) _ _ h3⟩⟩
end
def dueDs (ps : List (Nat × Nat)) (ns : List Int) : List PyData := [.list ((ps.map fun p => (p, (0 : Int))).map (rowD false)), .list (ns.map .int)]
theorem due_shaped (ps : List (Nat × Nat)) (ns : List Int) : SeqAt.shaped (.list (dueDs ps ns)) = true ∧ (PyData.list (dueDs ps ns)).canLay0 = true := by
  have h1 := rows_lay false (ps.map fun p => (p, (0 : Int)))
  have h2 := ints_lay ns
  have e : (PyData.list (dueDs ps ns)).canLay0 = true := by
    unfold dueDs
    rw [PyData.canLay0, PyData.canLayAll0, PyData.canLayAll0, PyData.canLayAll0, PyData.canLay0, PyData.canLay0, h1.1, h2.1]
    rfl
  refine ⟨?_, e⟩
  unfold SeqAt.shaped
  rw [e]
  unfold dueDs
  rw [PyData.depth, PyData.depthAll, PyData.depthAll, PyData.depthAll, PyData.depth, PyData.depth, h2.2]
  have h3 := h1.2
  generalize PyData.depthAll ((ps.map fun p => (p, (0 : Int))).map (rowD false)) = d at h3 ⊢
  simp
  omega
theorem due_dp {K : PySem.W.Frag} {H : Hp} {ps : List (Nat × Nat)} {ns : List Int} {D pt : Addr} (hD : PLs ps D H) (ht : H pt = some (.lst (ns.map V.int))) : DpAll K H [.ref D, .ref pt] (dueDs ps ns) :=
  .cons (ps_dp hD) (.cons (.lst (sq_of ht) (dp_ints ns)) .nil)
theorem good2_shaped : SeqAt.shaped (.list [.str "good", .str "good"]) = true ∧ (PyData.list [.str "good", .str "good"]).canLay0 = true := ⟨by decide +kernel, by decide +kernel⟩
end MuWi

/- g: what a reading's expression evaluates to, from the outside in; s: a side condition -/
local macro_rules | `(tactic| walk_at "mu s") => `(tactic| first | assumption | rfl | omega | decide | decide +kernel | skip)
local macro_rules | `(tactic| walk_at "mu g") => `(tactic| first
  | (with_reducible exact Evl.ev_c)
  | exact Evl.ev_var rfl
  | ((with_reducible apply Evl.ev_op) <;> walk_at "mu g")
  | ((with_reducible apply Evl.ev_un) <;> walk_at "mu g")
  | (with_reducible exact Evl.rv_I0)
  | (with_reducible exact MuK.rv_eqI)
  | (with_reducible exact MuK.rv_eqS)
  | (with_reducible exact MuK.rv_neI)
  | (with_reducible exact MuK.rv_neS)
  | ((with_reducible apply Evl.rv_I) <;> walk_at "mu side")
  | (with_reducible exact Evl.ru_neg)
  | (with_reducible exact Evl.ea_nil)
  | ((with_reducible apply Evl.ea_cons) <;> walk_at "mu g")
  | (with_reducible exact MuK.rc_min2)
  | (with_reducible exact MuK.rc_max2)
  | (with_reducible exact MuK.rc_gcdI)
  | (with_reducible exact MuK.rc_intB)
  | ((with_reducible apply Evl.ev_cb) <;> walk_at "mu g")
  | ((with_reducible apply MuK.ev_callV) <;> walk_at "mu g")
  | ((with_reducible apply Evl.et_test) <;> walk_at "mu g")
  | ((with_reducible apply Evl.et_B) <;> walk_at "mu g")
  | ((with_reducible apply Evl.et_not) <;> walk_at "mu g")
  | ((with_reducible refine' Evl.et_and ?_ (fun _ => ?_)) <;> walk_at "mu g")
  | ((with_reducible refine' Evl.et_or ?_ (fun _ => ?_)) <;> walk_at "mu g")
  | ((with_reducible apply Evl.eu_tup) <;> walk_at "mu g")
  | ((with_reducible apply Evl.el_lst) <;> walk_at "mu g")
  | ((with_reducible apply MuK.ev_ixNew) <;> walk_at "mu g")
  | (show List.length _ ≤ (100000 : Nat); simp; done)
  | skip)
local macro_rules | `(tactic| walk_at "mu side") => `(tactic| first
  | (show L2.CDiv _ _; exact ⟨by decide, by decide⟩)
  | (show (0 : Int) < _; decide)
  | (show L2.CPow _ _; exact ⟨by decide, by decide, by decide⟩)
  | skip)

namespace MuK
open PySem PySem.Spec PyProof.Rows L2 Evl
def topS (i : Nat) : Stmt := PySem.Challenge.pw_muchalike_k66_sets_within_others.main.body.getD i (.Pass ⟨0, 0, 0, 0⟩)
abbrev s_p_is_word : Stmt := topS 17
theorem sc_p_is_word : FnScope ["text"] ["text"] (defScope s_p_is_word) := ⟨rfl, rfl, rfl, by decide +kernel, rfl, by decide +kernel, by decide +kernel⟩
abbrev s_p_are_unlike_words : Stmt := topS 18
theorem sc_p_are_unlike_words : FnScope ["texts"] ["texts"] (defScope s_p_are_unlike_words) := ⟨rfl, rfl, rfl, by decide +kernel, rfl, by decide +kernel, by decide +kernel⟩
abbrev s_p_check_set : Stmt := topS 19
theorem sc_p_check_set : FnScope ["words"] ["words"] (defScope s_p_check_set) := ⟨rfl, rfl, rfl, by decide +kernel, rfl, by decide +kernel, by decide +kernel⟩
abbrev s_p_check_sets : Stmt := topS 20
theorem sc_p_check_sets : FnScope ["lot", "words"] ["lot"] (defScope s_p_check_sets) := ⟨rfl, rfl, rfl, by decide +kernel, rfl, by decide +kernel, by decide +kernel⟩
abbrev s_p_words_of : Stmt := topS 21
theorem sc_p_words_of : FnScope ["lot", "words", "word"] ["lot"] (defScope s_p_words_of) := ⟨rfl, rfl, rfl, by decide +kernel, rfl, by decide +kernel, by decide +kernel⟩
abbrev s_p_has_words_of : Stmt := topS 22
theorem sc_p_has_words_of : FnScope ["lot", "texts"] ["lot", "texts"] (defScope s_p_has_words_of) := ⟨rfl, rfl, rfl, by decide +kernel, rfl, by decide +kernel, by decide +kernel⟩
abbrev s_p_within_pairs : Stmt := topS 24
theorem sc_p_within_pairs : FnScope ["lot", "numbers", "i", "j"] ["lot"] (defScope s_p_within_pairs) := ⟨rfl, rfl, rfl, by decide +kernel, rfl, by decide +kernel, by decide +kernel⟩
abbrev s_p_tops : Stmt := topS 25
theorem sc_p_tops : FnScope ["lot", "within", "pair", "below", "i", "j"] ["lot"] (defScope s_p_tops) := ⟨rfl, rfl, rfl, by decide +kernel, rfl, by decide +kernel, by decide +kernel⟩
abbrev s_l_cell_at : Stmt := topS 27
theorem sc_l_cell_at : FnScope ["_law_script", "_law_k"] ["_law_script", "_law_k"] (defScope s_l_cell_at) := ⟨rfl, rfl, rfl, by decide +kernel, rfl, by decide +kernel, by decide +kernel⟩
abbrev s_l_mix : Stmt := topS 28
theorem sc_l_mix : FnScope ["_law_cell", "_law_k", "_law_time", "_law_number"] ["_law_cell", "_law_k"] (defScope s_l_mix) := ⟨rfl, rfl, rfl, by decide +kernel, rfl, by decide +kernel, by decide +kernel⟩
abbrev s_l_whole : Stmt := topS 29
theorem sc_l_whole : FnScope ["_law_got"] ["_law_got"] (defScope s_l_whole) := ⟨rfl, rfl, rfl, by decide +kernel, rfl, by decide +kernel, by decide +kernel⟩
abbrev s_l_set : Stmt := topS 30
theorem sc_l_set : FnScope ["_law_number", "_law_before", "_law_words", "_law_k", "_law_way", "_law_sign", "_law_got", "_law_word"] ["_law_number", "_law_before"] (defScope s_l_set) := ⟨rfl, rfl, rfl, by decide +kernel, rfl, by decide +kernel, by decide +kernel⟩
abbrev s_l_lot : Stmt := topS 31
theorem sc_l_lot : FnScope ["_law_script", "_law_start", "_law_most", "_law_lot_here", "_law_head", "_law_k"] ["_law_script", "_law_start", "_law_most"] (defScope s_l_lot) := ⟨rfl, rfl, rfl, by decide +kernel, rfl, by decide +kernel, by decide +kernel⟩
abbrev s_l_within : Stmt := topS 32
theorem sc_l_within : FnScope ["_law_lot_here", "_law_got", "_law_i", "_law_j", "_law_lacking", "_law_word"] ["_law_lot_here"] (defScope s_l_within) := ⟨rfl, rfl, rfl, by decide +kernel, rfl, by decide +kernel, by decide +kernel⟩
abbrev s_l_tops : Stmt := topS 33
theorem sc_l_tops : FnScope ["_law_lot_here", "_law_got", "_law_pairs", "_law_i", "_law_over", "_law_one", "_law_j"] ["_law_lot_here"] (defScope s_l_tops) := ⟨rfl, rfl, rfl, by decide +kernel, rfl, by decide +kernel, by decide +kernel⟩
abbrev s_l_kind : Stmt := topS 34
theorem sc_l_kind : FnScope ["_law_kept", "_law_some"] ["_law_kept"] (defScope s_l_kind) := ⟨rfl, rfl, rfl, by decide +kernel, rfl, by decide +kernel, by decide +kernel⟩
abbrev s_l_told : Stmt := topS 35
theorem sc_l_told : FnScope ["_law_way", "_law_lot_here", "_law_got", "_law_kept", "e"] ["_law_way", "_law_lot_here"] (defScope s_l_told) := ⟨rfl, rfl, rfl, by decide +kernel, rfl, by decide +kernel, by decide +kernel⟩
abbrev s_l_good : Stmt := topS 36
theorem sc_l_good : FnScope ["_law_lot_here", "_law_handed", "_law_words", "_law_due", "_law_time", "_law_got", "_law_kept", "_law_told_here", "_law_more", "_law_numbers", "_law_pair", "_law_number", "_law_twice"] ["_law_lot_here"] (defScope s_l_good) := ⟨rfl, rfl, rfl, by decide +kernel, rfl, by decide +kernel, by decide +kernel⟩
abbrev s_l_spoilt : Stmt := topS 37
theorem sc_l_spoilt : FnScope ["_law_lot_here", "_law_number", "_law_every", "_law_odd", "_law_place", "_law_at", "_law_spot", "_law_word", "_law_words"] ["_law_lot_here", "_law_number"] (defScope s_l_spoilt) := ⟨rfl, rfl, rfl, by decide +kernel, rfl, by decide +kernel, by decide +kernel⟩
abbrev s_l_cut : Stmt := topS 38
theorem sc_l_cut : FnScope ["_law_script", "_law_most", "_law_cell"] ["_law_script"] (defScope s_l_cut) := ⟨rfl, rfl, rfl, by decide +kernel, rfl, by decide +kernel, by decide +kernel⟩
abbrev s_p_law : Stmt := topS 39
theorem sc_p_law : FnScope ["_law_script", "_law_number", "_law_lot_here", "_law_other", "_law_bad", "_law_handed", "_law_words"] ["_law_script"] (defScope s_p_law) := ⟨rfl, rfl, rfl, by decide +kernel, rfl, by decide +kernel, by decide +kernel⟩
structure Txt (K : PySem.W.Frag) (mg : Str → Option Value) (base : Heap) where
  a_p_is_word : Addr
  d_p_is_word : FuncData
  c_p_is_word : Addr
  P_p_is_word : Addr
  F_p_is_word : MuGen.FunT K "is_word" "is_word" s_p_is_word a_p_is_word d_p_is_word c_p_is_word
  B_p_is_word : GxR.TabB base mg c_p_is_word P_p_is_word
  b_p_is_word : Binds K d_p_is_word ["text"] []
  g_p_is_word : mg "is_word" = some (.ref a_p_is_word)
  a_p_are_unlike_words : Addr
  d_p_are_unlike_words : FuncData
  c_p_are_unlike_words : Addr
  P_p_are_unlike_words : Addr
  F_p_are_unlike_words : MuGen.FunT K "are_unlike_words" "are_unlike_words" s_p_are_unlike_words a_p_are_unlike_words d_p_are_unlike_words c_p_are_unlike_words
  B_p_are_unlike_words : GxR.TabB base mg c_p_are_unlike_words P_p_are_unlike_words
  b_p_are_unlike_words : Binds K d_p_are_unlike_words ["texts"] []
  g_p_are_unlike_words : mg "are_unlike_words" = some (.ref a_p_are_unlike_words)
  a_p_check_set : Addr
  d_p_check_set : FuncData
  F_p_check_set : Fun K "check_set" "check_set" s_p_check_set a_p_check_set d_p_check_set
  b_p_check_set : Binds K d_p_check_set ["words"] []
  g_p_check_set : mg "check_set" = some (.ref a_p_check_set)
  a_p_check_sets : Addr
  d_p_check_sets : FuncData
  F_p_check_sets : Fun K "check_sets" "check_sets" s_p_check_sets a_p_check_sets d_p_check_sets
  b_p_check_sets : Binds K d_p_check_sets ["lot"] []
  g_p_check_sets : mg "check_sets" = some (.ref a_p_check_sets)
  a_p_words_of : Addr
  d_p_words_of : FuncData
  F_p_words_of : Fun K "words_of" "words_of" s_p_words_of a_p_words_of d_p_words_of
  b_p_words_of : Binds K d_p_words_of ["lot"] []
  g_p_words_of : mg "words_of" = some (.ref a_p_words_of)
  a_p_has_words_of : Addr
  d_p_has_words_of : FuncData
  F_p_has_words_of : Fun K "has_words_of" "has_words_of" s_p_has_words_of a_p_has_words_of d_p_has_words_of
  b_p_has_words_of : Binds K d_p_has_words_of ["lot", "texts"] []
  g_p_has_words_of : mg "has_words_of" = some (.ref a_p_has_words_of)
  a_p_within_pairs : Addr
  d_p_within_pairs : FuncData
  F_p_within_pairs : Fun K "within_pairs" "within_pairs" s_p_within_pairs a_p_within_pairs d_p_within_pairs
  b_p_within_pairs : Binds K d_p_within_pairs ["lot"] []
  g_p_within_pairs : mg "within_pairs" = some (.ref a_p_within_pairs)
  a_p_tops : Addr
  d_p_tops : FuncData
  F_p_tops : Fun K "tops" "tops" s_p_tops a_p_tops d_p_tops
  b_p_tops : Binds K d_p_tops ["lot"] []
  g_p_tops : mg "tops" = some (.ref a_p_tops)
  a_l_cell_at : Addr
  d_l_cell_at : FuncData
  F_l_cell_at : Fun K "_law_cell_at" "_law_cell_at" s_l_cell_at a_l_cell_at d_l_cell_at
  b_l_cell_at : Binds K d_l_cell_at ["_law_script", "_law_k"] []
  g_l_cell_at : mg "_law_cell_at" = some (.ref a_l_cell_at)
  a_l_mix : Addr
  d_l_mix : FuncData
  F_l_mix : Fun K "_law_mix" "_law_mix" s_l_mix a_l_mix d_l_mix
  b_l_mix : Binds K d_l_mix ["_law_cell", "_law_k"] []
  g_l_mix : mg "_law_mix" = some (.ref a_l_mix)
  a_l_whole : Addr
  d_l_whole : FuncData
  F_l_whole : Fun K "_law_whole" "_law_whole" s_l_whole a_l_whole d_l_whole
  b_l_whole : Binds K d_l_whole ["_law_got"] []
  g_l_whole : mg "_law_whole" = some (.ref a_l_whole)
  a_l_set : Addr
  d_l_set : FuncData
  F_l_set : Fun K "_law_set" "_law_set" s_l_set a_l_set d_l_set
  b_l_set : Binds K d_l_set ["_law_number", "_law_before"] []
  g_l_set : mg "_law_set" = some (.ref a_l_set)
  a_l_lot : Addr
  d_l_lot : FuncData
  F_l_lot : Fun K "_law_lot" "_law_lot" s_l_lot a_l_lot d_l_lot
  b_l_lot : Binds K d_l_lot ["_law_script", "_law_start", "_law_most"] []
  g_l_lot : mg "_law_lot" = some (.ref a_l_lot)
  a_l_within : Addr
  d_l_within : FuncData
  F_l_within : Fun K "_law_within" "_law_within" s_l_within a_l_within d_l_within
  b_l_within : Binds K d_l_within ["_law_lot_here"] []
  g_l_within : mg "_law_within" = some (.ref a_l_within)
  a_l_tops : Addr
  d_l_tops : FuncData
  F_l_tops : Fun K "_law_tops" "_law_tops" s_l_tops a_l_tops d_l_tops
  b_l_tops : Binds K d_l_tops ["_law_lot_here"] []
  g_l_tops : mg "_law_tops" = some (.ref a_l_tops)
  a_l_kind : Addr
  d_l_kind : FuncData
  F_l_kind : Fun K "_law_kind" "_law_kind" s_l_kind a_l_kind d_l_kind
  b_l_kind : Binds K d_l_kind ["_law_kept"] []
  g_l_kind : mg "_law_kind" = some (.ref a_l_kind)
  a_l_told : Addr
  d_l_told : FuncData
  F_l_told : Fun K "_law_told" "_law_told" s_l_told a_l_told d_l_told
  b_l_told : Binds K d_l_told ["_law_way", "_law_lot_here"] []
  g_l_told : mg "_law_told" = some (.ref a_l_told)
  a_l_good : Addr
  d_l_good : FuncData
  F_l_good : Fun K "_law_good" "_law_good" s_l_good a_l_good d_l_good
  b_l_good : Binds K d_l_good ["_law_lot_here"] []
  g_l_good : mg "_law_good" = some (.ref a_l_good)
  a_l_spoilt : Addr
  d_l_spoilt : FuncData
  F_l_spoilt : Fun K "_law_spoilt" "_law_spoilt" s_l_spoilt a_l_spoilt d_l_spoilt
  b_l_spoilt : Binds K d_l_spoilt ["_law_lot_here", "_law_number"] []
  g_l_spoilt : mg "_law_spoilt" = some (.ref a_l_spoilt)
  a_l_cut : Addr
  d_l_cut : FuncData
  F_l_cut : Fun K "_law_cut" "_law_cut" s_l_cut a_l_cut d_l_cut
  b_l_cut : Binds K d_l_cut ["_law_script"] []
  g_l_cut : mg "_law_cut" = some (.ref a_l_cut)
  t_SIGNS : Tok
  g_SIGNS : mg "SIGNS" = some (.str (PySem.Str.ofString "abcdefghijklmnopqrstuvwxyz0123456789.") t_SIGNS)
  t_MOST_SIGNS : Tok
  g_MOST_SIGNS : mg "MOST_SIGNS" = some (.int 30 t_MOST_SIGNS)
  a_LikeError : Addr
  g_LikeError : mg "LikeError" = some (.ref a_LikeError)
  a_NoKind : Addr
  g_NoKind : mg "NoKind" = some (.ref a_NoKind)
  a_NoShare : Addr
  g_NoShare : mg "NoShare" = some (.ref a_NoShare)
  a_NoSet : Addr
  g_NoSet : mg "NoSet" = some (.ref a_NoSet)
  a_NoWeight : Addr
  g_NoWeight : mg "NoWeight" = some (.ref a_NoWeight)
  a_NoOrder : Addr
  g_NoOrder : mg "NoOrder" = some (.ref a_NoOrder)
  a_NoParts : Addr
  g_NoParts : mg "NoParts" = some (.ref a_NoParts)
  a_NoWay : Addr
  g_NoWay : mg "NoWay" = some (.ref a_NoWay)
  a_NoName : Addr
  g_NoName : mg "NoName" = some (.ref a_NoName)
  a_NoSize : Addr
  g_NoSize : mg "NoSize" = some (.ref a_NoSize)
  a_NoText : Addr
  g_NoText : mg "NoText" = some (.ref a_NoText)
  a_NoRow : Addr
  g_NoRow : mg "NoRow" = some (.ref a_NoRow)
  a_NoNumber : Addr
  g_NoNumber : mg "NoNumber" = some (.ref a_NoNumber)
  x_NoSet : MuX.ExR K a_NoSet a_LikeError
  v_NoSet : PySem.W.kitOne K (.ref a_NoSet) (.type "ValueError") = some true
  i_NoSet_NoKind : PySem.W.kitOne K (.ref a_NoSet) (.ref a_NoKind) = some false
  i_NoSet_NoShare : PySem.W.kitOne K (.ref a_NoSet) (.ref a_NoShare) = some false
  i_NoSet_NoSet : PySem.W.kitOne K (.ref a_NoSet) (.ref a_NoSet) = some true
  i_NoSet_NoWeight : PySem.W.kitOne K (.ref a_NoSet) (.ref a_NoWeight) = some false
  i_NoSet_NoOrder : PySem.W.kitOne K (.ref a_NoSet) (.ref a_NoOrder) = some false
  i_NoSet_NoParts : PySem.W.kitOne K (.ref a_NoSet) (.ref a_NoParts) = some false
  i_NoSet_NoWay : PySem.W.kitOne K (.ref a_NoSet) (.ref a_NoWay) = some false
  i_NoSet_NoName : PySem.W.kitOne K (.ref a_NoSet) (.ref a_NoName) = some false
  i_NoSet_NoSize : PySem.W.kitOne K (.ref a_NoSet) (.ref a_NoSize) = some false
  i_NoSet_NoText : PySem.W.kitOne K (.ref a_NoSet) (.ref a_NoText) = some false
  i_NoSet_NoRow : PySem.W.kitOne K (.ref a_NoSet) (.ref a_NoRow) = some false
  i_NoSet_NoNumber : PySem.W.kitOne K (.ref a_NoSet) (.ref a_NoNumber) = some false
  z_ValueError : mg "ValueError" = none
  z_all : mg "all" = none
  z_bool : mg "bool" = none
  z_int : mg "int" = none
  z_isinstance : mg "isinstance" = none
  z_len : mg "len" = none
  z_list : mg "list" = none
  z_range : mg "range" = none
  z_set : mg "set" = none
  z_sorted : mg "sorted" = none
section
variable {P : Program} {w : World} {K : PySem.W.Frag} {mg : Str → Option Value} {base : Heap}

def D_p_is_word (P : Addr) : Hp → List V → V → Prop := fun H vs v => ∃ (w : Str), vs = [.str w] ∧ WordOk w ∧ H P = some (MuGen.TabO P) ∧ v = .bl true
theorem ok_p_is_word (T : Txt K mg base) : FnOk P w K mg base CX0 1 T.a_p_is_word T.d_p_is_word ["text"] (SpVal (D_p_is_word T.P_p_is_word)) := by
  refine T.F_p_is_word.ok sc_p_is_word (fun vs H Q E h => ?_) (fun A outer s H vs Q E hr h => ?_)
  · obtain ⟨v, ⟨w, rfl, _⟩, _⟩ := h
    rfl
  · obtain ⟨v, ⟨w, rfl, hw, hP, rfl⟩, q⟩ := h
    refine ⟨_, (pss_one (ps_ret (pe_and (pe_chain op_le op_le pe_int (pe_callB call_len_str (by rfl) T.z_len (by decide +kernel) (pa_cons (pv 0) pa_nil)) (pe_glob (v := .int 30) rfl T.g_MOST_SIGNS ⟨_, rfl⟩)) (pe_one (MuGen.pe_allIn hr T.B_p_is_word rfl T.z_all (by rfl) (pv 0) (by intro _; rfl) ⟨rfl, rfl, by decide +kernel, by rfl, by rfl⟩ (by decide +kernel) (by rfl) T.g_SIGNS (by rfl) (by rfl) (by intro g h; subst h; rfl)))))), ?_⟩
    have hl : (1 : Int) ≤ (w.length : Int) ∧ (w.length : Int) ≤ 30 := ⟨by have := hw.1; omega, by have := hw.2.1; omega⟩
    refine s_ret (v := .bl ((true && true) && true)) (ev_andV (ev_is (ev_chain ev_c (ev_lenS (ev_var rfl) (by have := hw.2.1; omega)) rv_I0 (fun _ => ev_c) (fun _ => rv_I0)) (by rw [decide_eq_true hl.1, decide_eq_true hl.2])) fun _ H1 e1 Q q => ?_) fun H2 e2 => q H2 e2
    exact ⟨.str w, rfl, e1 _ _ hP, w, rfl, by
      show Q (.bl (w.cps.toList.all fun c => decide (c ∈ signsS.cps.toList))) H1
      rw [word_all hw]
      exact q H1 (Ex.refl H1)⟩
/-- is_word of any text -/
def D_p_is_wordN (P : Addr) : Hp → List V → V → Prop := fun H vs v => ∃ (w : Str), vs = [.str w] ∧ w.length ≤ 1000 ∧ H P = some (MuGen.TabO P) ∧ v = .bl (decide (WordOk w))
theorem ok_p_is_wordN (T : Txt K mg base) : FnOk P w K mg base CX0 1 T.a_p_is_word T.d_p_is_word ["text"] (SpVal (D_p_is_wordN T.P_p_is_word)) := by
  refine T.F_p_is_word.ok sc_p_is_word (fun vs H Q E h => ?_) (fun A outer s H vs Q E hr h => ?_)
  · obtain ⟨v, ⟨w, rfl, _⟩, _⟩ := h
    rfl
  · obtain ⟨v, ⟨w, rfl, hz, hP, rfl⟩, q⟩ := h
    refine ⟨_, (pss_one (ps_ret (pe_and (pe_chain op_le op_le pe_int (pe_callB call_len_str (by rfl) T.z_len (by decide +kernel) (pa_cons (pv 0) pa_nil)) (pe_glob (v := .int 30) rfl T.g_MOST_SIGNS ⟨_, rfl⟩)) (pe_one (MuGen.pe_allIn hr T.B_p_is_word rfl T.z_all (by rfl) (pv 0) (by intro _; rfl) ⟨rfl, rfl, by decide +kernel, by rfl, by rfl⟩ (by decide +kernel) (by rfl) T.g_SIGNS (by rfl) (by rfl) (by intro g h; subst h; rfl)))))), ?_⟩
    have hv : decide (WordOk w) = ((decide ((1 : Int) ≤ (w.length : Int)) && decide ((w.length : Int) ≤ 30)) && w.cps.toList.all fun c => decide (c ∈ signsS.cps.toList)) := by
      rw [Bool.eq_iff_iff]
      simp only [decide_eq_true_eq, Bool.and_eq_true, List.all_eq_true]
      unfold WordOk
      constructor
      · rintro ⟨h1, h2, h3⟩
        exact ⟨⟨by omega, by omega⟩, h3⟩
      · rintro ⟨⟨h1, h2⟩, h3⟩
        exact ⟨by omega, by omega, h3⟩
    rw [hv] at q
    refine s_ret (v := .bl ((decide ((1 : Int) ≤ (w.length : Int)) && decide ((w.length : Int) ≤ 30)) && w.cps.toList.all fun c => decide (c ∈ signsS.cps.toList))) (ev_andV (ev_chain ev_c (ev_lenS (ev_var rfl) (by omega)) rv_I0 (fun _ => ev_c) (fun _ => rv_I0)) fun _ H1 e1 Q q => ?_) fun H2 e2 => q H2 e2
    exact ⟨.str w, rfl, e1 _ _ hP, w, rfl, q H1 (Ex.refl H1)⟩

def D_p_are_unlike_words (K : PySem.W.Frag) (P Pu : Addr) : Hp → List V → V → Prop := fun H vs v => ∃ (a : Addr) (ws : List Str), vs = [.ref a] ∧ SqL K H a (ws.map V.str) ∧ ws.length ≤ 60 ∧ ws.Nodup ∧ (∀ u ∈ ws, WordOk u) ∧ H P = some (MuGen.TabO P) ∧ H Pu = some (MuGen.TabO Pu) ∧ v = .bl true
theorem ok_p_are_unlike_words (T : Txt K mg base) : FnOk P w K mg base CX0 3 T.a_p_are_unlike_words T.d_p_are_unlike_words ["texts"] (SpVal (D_p_are_unlike_words K T.P_p_is_word T.P_p_are_unlike_words)) := by
  refine T.F_p_are_unlike_words.ok sc_p_are_unlike_words (fun vs H Q E h => ?_) (fun A outer s H vs Q E hr h => ?_)
  · obtain ⟨v, ⟨a, ws, rfl, _⟩, _⟩ := h
    rfl
  · obtain ⟨v, ⟨a, ws, rfl, hs, hz, nd, hw, hP, hPu, rfl⟩, q⟩ := h
    refine ⟨_, (pss_one (ps_ret (pe_and (MuNG.pe_allG (k := 1) (hr.mono (by decide)) T.B_p_are_unlike_words rfl T.z_all (by rfl) (pv 0) (by intro _; rfl) ⟨rfl, rfl, by decide +kernel, by rfl, by rfl⟩ (by decide +kernel) (by intro _; rfl) (fun _ _ _ _ _ hrg => by exact pe_call (ok_p_is_word T) hrg (by rfl) T.g_p_is_word T.F_p_is_word.kp T.b_p_is_word .nil pass0 (pa_cons (pe_var (i := 0) rfl (.inl rfl)) pa_nil)) (by intro g h; subst h; rfl)) (pe_one (pe_cmpR op_eq (pe_callB MuSet.cr_lenTx (by rfl) T.z_len (by decide +kernel) (pa_cons (pe_callTy (MuSet.cr_setTx rfl) (by rfl) T.z_set (by decide +kernel) (pa_cons (pv 0) pa_nil)) pa_nil)) (pe_callB call_len_seq (by rfl) T.z_len (by decide +kernel) (pa_cons (pv 0) pa_nil)) (nomark _)))))), ?_⟩
    refine s_ret (v := .bl (true && true)) (ev_andV (MuNG.ev_allG (xs := ws.map V.str) (b := fun _ => true) (ev_var rfl) hs hPu (fun i y H' e hy => ?_) (List.all_eq_true.mpr fun _ _ => rfl)) fun _ H2 e2 Q q2 => ?_) fun H2 e2 => q _ e2
    · obtain ⟨u, hu, rfl⟩ := str_at hy
      exact ev_callV (vs := [.str u]) (by walk_at "mu g") fun _ e2 => ⟨u, rfl, hw u (List.mem_of_getElem? hu), (e.trans e2) _ _ hP, rfl⟩
    · refine ⟨.ref a, rfl, a, ws, rfl, ex_l e2 hs, by omega, fun sa sl n1 nd1 m1 l1 => ?_⟩
      have e3 : Ex H2 _ := Ex.new (o := MuSet.SetTx P w sa sl) n1
      have hl : sl.length = ws.length := ((List.perm_ext_iff_of_nodup nd1 nd).mpr m1).length_eq
      refine ⟨sa, sl, rfl, upd_same, by omega, .ref a, rfl, a, ws.map V.str, rfl, .inl (ex_l (e2.trans e3) hs), rfl, ?_⟩
      have z : decide (V.int (sl.length : Int) = V.int ((ws.map V.str).length : Int)) = true := by
        rw [List.length_map, hl]
        simp
      rw [z]
      exact q2 _ e3
/-- are_unlike_words of any texts -/
def D_p_are_unlike_wordsN (K : PySem.W.Frag) (P Pu : Addr) : Hp → List V → V → Prop := fun H vs v => ∃ (a : Addr) (ws : List Str), vs = [.ref a] ∧ SqL K H a (ws.map V.str) ∧ ws.length ≤ 60 ∧ (∀ u ∈ ws, u.length ≤ 1000) ∧ H P = some (MuGen.TabO P) ∧ H Pu = some (MuGen.TabO Pu) ∧ v = .bl (setB ws)
theorem ok_p_are_unlike_wordsN (T : Txt K mg base) : FnOk P w K mg base CX0 3 T.a_p_are_unlike_words T.d_p_are_unlike_words ["texts"] (SpVal (D_p_are_unlike_wordsN K T.P_p_is_word T.P_p_are_unlike_words)) := by
  refine T.F_p_are_unlike_words.ok sc_p_are_unlike_words (fun vs H Q E h => ?_) (fun A outer s H vs Q E hr h => ?_)
  · obtain ⟨v, ⟨a, ws, rfl, _⟩, _⟩ := h
    rfl
  · obtain ⟨v, ⟨a, ws, rfl, hs, hz, hw, hP, hPu, rfl⟩, q⟩ := h
    refine ⟨_, (pss_one (ps_ret (pe_and (MuNG.pe_allG (k := 1) (hr.mono (by decide)) T.B_p_are_unlike_words rfl T.z_all (by rfl) (pv 0) (by intro _; rfl) ⟨rfl, rfl, by decide +kernel, by rfl, by rfl⟩ (by decide +kernel) (by intro _; rfl) (fun _ _ _ _ _ hrg => by exact pe_call (ok_p_is_wordN T) hrg (by rfl) T.g_p_is_word T.F_p_is_word.kp T.b_p_is_word .nil pass0 (pa_cons (pe_var (i := 0) rfl (.inl rfl)) pa_nil)) (by intro g h; subst h; rfl)) (pe_one (pe_cmpR op_eq (pe_callB MuSet.cr_lenTx (by rfl) T.z_len (by decide +kernel) (pa_cons (pe_callTy (MuSet.cr_setTx rfl) (by rfl) T.z_set (by decide +kernel) (pa_cons (pv 0) pa_nil)) pa_nil)) (pe_callB call_len_seq (by rfl) T.z_len (by decide +kernel) (pa_cons (pv 0) pa_nil)) (nomark _)))))), ?_⟩
    refine s_ret (v := .bl (setB ws)) (ev_andV (MuNG.ev_allG (xs := ws.map V.str) (b := fun i => decide (WordOk (ws.getD i ""))) (ev_var rfl) hs hPu (fun i y H' e hy => ?_) (all_at ws fun u => decide (WordOk u))) fun _ H2 e2 Q q2 => ?_) fun H2 e2 => q _ e2
    · obtain ⟨u, hu, rfl⟩ := str_at hy
      have eu : ws.getD i "" = u := by rw [List.getD_eq_getElem?_getD, hu]; rfl
      rw [eu]
      exact ev_callV (vs := [.str u]) (by walk_at "mu g") fun _ e2 => ⟨u, rfl, hw u (List.mem_of_getElem? hu), (e.trans e2) _ _ hP, rfl⟩
    · refine ⟨.ref a, rfl, a, ws, rfl, ex_l e2 hs, by omega, fun sa sl n1 nd1 m1 l1 => ?_⟩
      have e3 : Ex H2 _ := Ex.new (o := MuSet.SetTx P w sa sl) n1
      have lz : sl.length ≤ ws.length := nodup_len nd1 fun x m => (m1 x).mp m
      refine ⟨sa, sl, rfl, upd_same, by omega, .ref a, rfl, a, ws.map V.str, rfl, .inl (ex_l (e2.trans e3) hs), rfl, ?_⟩
      have z : decide (V.int (sl.length : Int) = V.int ((ws.map V.str).length : Int)) = decide ws.Nodup := by
        rw [List.length_map]
        apply decide_eq_decide.mpr
        constructor
        · intro h
          have h := V.int.inj h
          exact nd_of_len nd1 (fun x => m1 x) (by omega)
        · intro h
          have hl : sl.length = ws.length := ((List.perm_ext_iff_of_nodup nd1 h).mpr m1).length_eq
          rw [hl]
      rw [z]
      exact q2 _ e3

def D_p_check_set (K : PySem.W.Frag) (P Pu : Addr) : Hp → List V → V → Prop := fun H vs v => ∃ (a : Addr) (ws : List Str), vs = [.ref a] ∧ SqL K H a (ws.map V.str) ∧ ws.length ≤ 60 ∧ ws.Nodup ∧ (∀ u ∈ ws, WordOk u) ∧ H P = some (MuGen.TabO P) ∧ H Pu = some (MuGen.TabO Pu) ∧ v = .non
theorem ok_p_check_set (T : Txt K mg base) : FnOk P w K mg base CX0 4 T.a_p_check_set T.d_p_check_set ["words"] (SpVal (D_p_check_set K T.P_p_is_word T.P_p_are_unlike_words)) := by
  refine T.F_p_check_set.ok sc_p_check_set (fun vs H Q E h => ?_) (fun cdv A outer s H vs Q E hr h => ?_)
  · obtain ⟨v, ⟨a, ws, rfl, _⟩, _⟩ := h
    rfl
  · obtain ⟨v, ⟨a, ws, rfl, hs, hz, nd, hw, hP, hPu, rfl⟩, q⟩ := h
    refine ⟨_, (pss_one (ps_if (pt_not (pt_val (pe_call (ok_p_are_unlike_words T) (hr.mono (by decide)) rfl T.g_p_are_unlike_words T.F_p_are_unlike_words.kp T.b_p_are_unlike_words .nil pass0 (pa_cons (pv 0) pa_nil))))
      (pss_one ps_never)
      pss_nil)), ?_⟩
    exact s_when (b := !true) (et_not (et_B (ev_callV (vs := [.ref a]) (by walk_at "mu g") fun _ e => ⟨a, ws, rfl, ex_l e hs, hz, nd, hw, e _ _ hP, e _ _ hPu, rfl⟩))) (fun hb => by cases hb) (fun hb H2 e2 => q _ e2)

def B_p_check_set (K : PySem.W.Frag) (CS P Pu : Addr) : Hp → List V → Addr → Prop := fun H vs c => ∃ (a : Addr) (ws : List Str), vs = [.ref a] ∧ SqL K H a (ws.map V.str) ∧ ws.length ≤ 60 ∧ (∀ u ∈ ws, u.length ≤ 1000) ∧ setB ws = false ∧ H P = some (MuGen.TabO P) ∧ H Pu = some (MuGen.TabO Pu) ∧ c = CS
theorem okB_p_check_set (T : Txt K mg base) : FnOk P w K mg base (L2.CX P w) 4 T.a_p_check_set T.d_p_check_set ["words"] (MuX.SpB (B_p_check_set K T.a_NoSet T.P_p_is_word T.P_p_are_unlike_words)) := by
  refine T.F_p_check_set.okX sc_p_check_set (fun vs H Q E h => ?_) (fun cdv A outer s H vs Q E hr h => ?_)
  · obtain ⟨v, ⟨a, ws, rfl, _⟩, _⟩ := h
    rfl
  · obtain ⟨v, ⟨a, ws, rfl, hs, hz, hw, hb, hP, hPu, rfl⟩, q⟩ := h
    refine ⟨_, (pss_one (ps_if (pt_not (pt_val (pe_call (ok_p_are_unlike_wordsN T) (hr.mono (by decide)) rfl T.g_p_are_unlike_words T.F_p_are_unlike_words.kp T.b_p_are_unlike_words .nil pass0 (pa_cons (pv 0) pa_nil))))
      (pss_one (ps_raise rfl (takes_of rfl rfl rfl rfl) (pmk_own PySem.F.excBase_ValueError T.x_NoSet.ex T.g_NoSet T.x_NoSet.kp (raises_own T.x_NoSet.isi.hs T.x_NoSet.ty) rfl)))
      pss_nil)), ?_⟩
    exact s_when (b := !false) (et_not (et_B (ev_callV (vs := [.ref a]) (by walk_at "mu g") fun _ e => ⟨a, ws, rfl, ex_l e hs, hz, hw, e _ _ hP, e _ _ hPu, by rw [hb]⟩))) (fun _ H2 e2 => q _ e2) (fun hb => by cases hb)
def okM_p_check_set (T : Txt K mg base) := MuX.both (P := P) (w := w) (ok_p_check_set T) (okB_p_check_set T)

def D_p_check_sets (K : PySem.W.Frag) (P Pu : Addr) : Hp → List V → V → Prop := fun H vs v => ∃ (b : Addr) (ls : List (Addr × List Str)), vs = [.ref b] ∧ H b = some (.lst (ls.map fun p => V.ref p.1)) ∧ LotAt H ls ∧ (∀ c ∈ ls, c.2.length ≤ 60 ∧ c.2.Nodup ∧ ∀ u ∈ c.2, WordOk u) ∧ H P = some (MuGen.TabO P) ∧ H Pu = some (MuGen.TabO Pu) ∧ v = .non
theorem ok_p_check_sets (T : Txt K mg base) : FnOk P w K mg base CX0 5 T.a_p_check_sets T.d_p_check_sets ["lot"] (SpVal (D_p_check_sets K T.P_p_is_word T.P_p_are_unlike_words)) := by
  refine T.F_p_check_sets.ok sc_p_check_sets (fun vs H Q E h => ?_) (fun cdv A outer s H vs Q E hr h => ?_)
  · obtain ⟨v, ⟨b, ls, rfl, _⟩, _⟩ := h
    rfl
  · obtain ⟨v, ⟨b, ls, rfl, hb, hat, hls, hP, hPu, rfl⟩, q⟩ := h
    refine ⟨_, (pss_one (ps_for PassesOwn.never rfl (pi_list (pv 0)) (pg_name (i := 1) sc_p_check_sets.nd rfl (.inl rfl))
      (pss_one (ps_expr (pe_call (ok_p_check_set T) (hr.mono (by decide)) rfl T.g_p_check_set T.F_p_check_set.kp T.b_p_check_set .nil pass0 (pa_cons (pv 1) pa_nil)))))), ?_⟩
    refine s_forLn (xs := ls.map fun p => V.ref p.1) (ev_var rfl) (sq_of hb) (fun i σ' H' => Ex H H' ∧ ∃ x1, σ' = [some (.ref b), x1]) (fun H1 e1 => ⟨e1, _, rfl⟩) (fun i σ' H' _ hp => sq_of (hp.1 b _ hb)) (fun i x σ' H' hx hp => ?_) (fun σ' H' hp => q _ hp.1)
    obtain ⟨e1, x1, rfl⟩ := hp
    obtain ⟨c, mc, rfl⟩ : ∃ c ∈ ls, x = .ref c.1 := by
      obtain ⟨c, m, e⟩ := List.mem_map.mp (List.mem_of_getElem? hx)
      exact ⟨c, m, e.symm⟩
    obtain ⟨hz, nd, hw⟩ := hls c mc
    exact s_drop (v := .non) (ev_callV (vs := [.ref c.1]) (by walk_at "mu g") fun _ e => ⟨c.1, c.2, rfl, sq_of ((e1.trans e) _ _ (hat c mc)), hz, nd, hw, (e1.trans e) _ _ hP, (e1.trans e) _ _ hPu, rfl⟩) fun H2 e2 => ⟨e1.trans e2, _, rfl⟩

def B_p_check_sets (K : PySem.W.Frag) (CS P Pu : Addr) : Hp → List V → Addr → Prop := fun H vs c => ∃ (b : Addr) (ls : List (Addr × List Str)), vs = [.ref b] ∧ H b = some (.lst (ls.map fun p => V.ref p.1)) ∧ LotAt H ls ∧ (∀ c ∈ ls, c.2.length ≤ 60 ∧ ∀ u ∈ c.2, u.length ≤ 1000) ∧ (ls.all fun c => setB c.2) = false ∧ H P = some (MuGen.TabO P) ∧ H Pu = some (MuGen.TabO Pu) ∧ c = CS
theorem okB_p_check_sets (T : Txt K mg base) : FnOk P w K mg base (L2.CX P w) 5 T.a_p_check_sets T.d_p_check_sets ["lot"] (MuX.SpB (B_p_check_sets K T.a_NoSet T.P_p_is_word T.P_p_are_unlike_words)) := by
  refine T.F_p_check_sets.okX sc_p_check_sets (fun vs H Q E h => ?_) (fun cdv A outer s H vs Q E hr h => ?_)
  · obtain ⟨v, ⟨b, ls, rfl, _⟩, _⟩ := h
    rfl
  · obtain ⟨v, ⟨b, ls, rfl, hb, hat, hls, bad, hP, hPu, rfl⟩, q⟩ := h
    refine ⟨_, (pss_one (ps_for (passes_of rfl) rfl (pi_list (pv 0)) (pg_name (i := 1) sc_p_check_sets.nd rfl (.inl rfl))
      (pss_one (ps_expr (pe_call (okM_p_check_set T) (hr.mono (by decide)) rfl T.g_p_check_set T.F_p_check_set.kp T.b_p_check_set .nil (passes_call (takes_of rfl rfl rfl rfl) (fun _ _ _ _ h => h)) (pa_cons (pv 1) pa_nil)))))), ?_⟩
    refine s_forLn (xs := ls.map fun p => V.ref p.1) (ev_var rfl) (sq_of hb) (fun i σ' H' => Ex H H' ∧ (∀ j c, j < i → ls[j]? = some c → setB c.2 = true) ∧ ∃ x1, σ' = [some (.ref b), x1]) (fun H1 e1 => ⟨e1, fun _ _ z => absurd z (Nat.not_lt_zero _), _, rfl⟩) (fun i σ' H' _ hp => sq_of (hp.1 b _ hb)) (fun i x σ' H' hx hp => ?_) (fun σ' H' hp => ?_)
    · obtain ⟨e1, hbef, x1, rfl⟩ := hp
      obtain ⟨c, hc, rfl⟩ : ∃ c, ls[i]? = some c ∧ x = .ref c.1 := by
        rw [List.getElem?_map] at hx
        cases y : ls[i]? with
        | none =>
          rw [y] at hx
          exact nomatch hx
        | some c =>
          rw [y] at hx
          exact ⟨c, rfl, (Option.some.inj hx).symm⟩
      have mc := List.mem_of_getElem? hc
      obtain ⟨hz, hw⟩ := hls c mc
      cases hsb : setB c.2 with
      | true =>
        obtain ⟨nd, ok⟩ := setB_ok hsb
        refine s_drop (v := .non) (MuX.ev_callM (vs := [.ref c.1]) (by walk_at "mu g") fun _ e => ⟨c.1, c.2, rfl, sq_of ((e1.trans e) _ _ (hat c mc)), hz, nd, ok, (e1.trans e) _ _ hP, (e1.trans e) _ _ hPu, rfl⟩) fun H2 e2 => ⟨e1.trans e2, fun j c' hj hc' => ?_, _, rfl⟩
        rcases Nat.lt_or_ge j i with z | z
        · exact hbef j c' z hc'
        · obtain rfl : j = i := by omega
          rw [hc] at hc'
          obtain rfl := Option.some.inj hc'
          exact hsb
      | false =>
        exact MuX.s_bad (vs := [.ref c.1]) (by walk_at "mu g") (fun _ e => ⟨c.1, c.2, rfl, sq_of ((e1.trans e) _ _ (hat c mc)), hz, hw, hsb, (e1.trans e) _ _ hP, (e1.trans e) _ _ hPu, rfl⟩) fun H2 e2 => q _ (e1.trans e2)
    · obtain ⟨e1, hbef, x1, rfl⟩ := hp
      exfalso
      rw [List.length_map] at hbef
      rw [List.all_eq_true.mpr fun c mc => ?_] at bad
      · exact nomatch bad
      · obtain ⟨j, hj⟩ := List.getElem?_of_mem mc
        exact hbef j c (List.getElem?_eq_some_iff.mp hj).1 hj
def okM_p_check_sets (T : Txt K mg base) := MuX.both (P := P) (w := w) (ok_p_check_sets T) (okB_p_check_sets T)

def R_p_words_of (H : Hp) (us : List (List Str)) : V → Hp → Prop := fun v H' => ∃ (p : Addr) (ys : List Str), v = .ref p ∧ H p = none ∧ TxL H' p ys ∧ sortedS ys = true ∧ ys.Nodup ∧ ∀ u, u ∈ ys ↔ ∃ ws ∈ us, u ∈ ws
def D_p_words_of (K : PySem.W.Frag) : Hp → List V → (V → Hp → Prop) → Prop := fun H vs R => ∃ (b : Addr) (ls : List (Addr × List Str)), vs = [.ref b] ∧ SqL K H b (ls.map fun c => V.ref c.1) ∧ (∀ c ∈ ls, SqL K H c.1 (c.2.map V.str)) ∧ (ls.map (·.2)).flatten.length ≤ 4000 ∧ (∀ l : List Str, l.Nodup → (∀ u ∈ l, ∃ c ∈ ls, u ∈ c.2) → l.length < 64) ∧ R = R_p_words_of H (ls.map (·.2))
theorem ok_p_words_of (T : Txt K mg base) : FnOk P w K mg base CX0 1 T.a_p_words_of T.d_p_words_of ["lot"] (SpR (D_p_words_of K)) := by
  refine T.F_p_words_of.ok sc_p_words_of (fun vs H Q E h => ?_) (fun cdv A outer s H vs Q E hr h => ?_)
  · obtain ⟨v, ⟨b, ls, rfl, _⟩, _⟩ := h
    rfl
  · obtain ⟨v, ⟨b, ls, rfl, hb, hat, hz, few, rfl⟩, q⟩ := h
    refine ⟨_, (pss_one (ps_ret (pe_callB (MuSet.cr_sortedTx rfl) (by rfl) T.z_sorted (by decide +kernel) (pa_cons (MuSc.pe_sc2 (own := [("words", 1), ("word", 2)]) (vb := [2]) (ga := (gName 1)) (gb := gName 2) rfl sc_p_words_of.nd (pi_list (pv 0)) (blkOk_by (N := ["lot", "words", "word"]) (sc := defScope s_p_words_of) (by decide +kernel)) (by decide) (fun _ _ _ _ _ => by exact (pg_name (i := 1) sc_p_words_of.nd rfl (Or.inl rfl))) (fun _ _ _ _ _ => by exact (show PI _ _ _ (iList K _) from (pi_list (pv 1)))) (fun _ _ _ _ _ => by exact (pg_name (i := 2) sc_p_words_of.nd rfl (Or.inl rfl))) (fun _ _ _ _ _ => by exact (pv 2))) pa_nil)))), ?_⟩
    refine s_retX (MuWo.evx_sortedSt (P := P) (w := w) (F := fun l => ∀ u, u ∈ l ↔ ∃ c ∈ ls, u ∈ c.2) (evx_mono (MuWo.evx_sc2 (K := K) (ls := ls) (ev_var rfl) hb hat hz (fun _ => rfl) (fun _ => rfl) (fun _ _ => rfl) (fun _ _ => rfl)) fun v H1 e1 r => ?_)) fun v H1 e1 r => ?_
    · obtain ⟨D, l, rfl, _, h1, nd, mem⟩ := r
      exact ⟨D, l, rfl, h1, few l nd fun u mu => (mem u).mp mu, mem⟩
    · obtain ⟨p, ys, l, rfl, hp, h1, so, nd, mem, ml⟩ := r
      refine q _ _ e1 ⟨p, ys, rfl, hp, h1, so, nd, fun u => ?_⟩
      rw [mem, ml]
      constructor
      · rintro ⟨c, mc, uc⟩
        exact ⟨c.2, List.mem_map.mpr ⟨c, mc, rfl⟩, uc⟩
      · rintro ⟨ws, mws, uc⟩
        obtain ⟨c, mc, rfl⟩ := List.mem_map.mp mws
        exact ⟨c, mc, uc⟩

def D_p_has_words_of (K : PySem.W.Frag) : Hp → List V → V → Prop := fun H vs v => ∃ (b o : Addr) (ls : List (Addr × List Str)) (os : List Str), vs = [.ref b, .ref o] ∧ SqL K H b (ls.map fun c => V.ref c.1) ∧ (∀ c ∈ ls, SqL K H c.1 (c.2.map V.str)) ∧ (ls.map (·.2)).flatten.length ≤ 60 ∧ SqL K H o (os.map V.str) ∧ os.length ≤ 1000 ∧ v = .bl (decide (∀ c ∈ ls, ∀ u ∈ c.2, u ∈ os))
theorem ok_p_has_words_of (T : Txt K mg base) : FnOk P w K mg base CX0 2 T.a_p_has_words_of T.d_p_has_words_of ["lot", "texts"] (SpVal (D_p_has_words_of K)) := by
  refine T.F_p_has_words_of.ok sc_p_has_words_of (fun vs H Q E h => ?_) (fun cdv A outer s H vs Q E hr h => ?_)
  · obtain ⟨v, ⟨b, o, ls, os, rfl, _⟩, _⟩ := h
    rfl
  · obtain ⟨v, ⟨b, o, ls, os, rfl, hb, hat, hz, ho, zo, rfl⟩, q⟩ := h
    refine ⟨_, (pss_one (ps_ret (pe_cmpR op_eq (pe_callB MuSet.cr_lenTx (by rfl) T.z_len (by decide +kernel) (pa_cons (pe_op MuSbx.op_subX (pe_callTy (MuSet.cr_setTx rfl) (by rfl) T.z_set (by decide +kernel) (pa_cons (pe_call (ok_p_words_of T) (hr.mono (by decide)) rfl T.g_p_words_of T.F_p_words_of.kp T.b_p_words_of .nil pass0 (pa_cons (pv 0) pa_nil)) pa_nil)) (pe_callTy (MuSet.cr_setTx rfl) (by rfl) T.z_set (by decide +kernel) (pa_cons (pv 1) pa_nil))) pa_nil)) pe_int (nomark _)))), ?_⟩
    refine s_ret (v := .bl (decide (∀ c ∈ ls, ∀ u ∈ c.2, u ∈ os))) (fun H1 e1 Q q => ?_) fun H1 e1 => q H1 e1
    have few : ∀ l : List Str, l.Nodup → (∀ u ∈ l, ∃ c ∈ ls, u ∈ c.2) → l.length < 64 := fun l nd h => by
      have := nodup_len (m := (ls.map (·.2)).flatten) nd fun u m => by
        obtain ⟨c, mc, hu⟩ := h u m
        exact List.mem_flatten.mpr ⟨c.2, List.mem_map.mpr ⟨c, mc, rfl⟩, hu⟩
      omega
    have cal : EvX (tCall (SpR (D_p_words_of K)) [] E0 (tCons (tVar 0) tNil)) [some (.ref b), some (.ref o)] H1 (R_p_words_of H1 (ls.map (·.2))) := evx_call (vs := [.ref b]) (ea_cons (ev_var rfl) ea_nil) fun H2 e2 => ⟨_, ⟨b, ls, rfl, ex_l (e1.trans e2) hb, fun c m => ex_l (e1.trans e2) (hat c m), by omega, few, rfl⟩, fun v H3 e3 ⟨p, ys, e, hp, r⟩ => ⟨p, ys, e, fresh_back e2 hp, r⟩⟩
    refine cal H1 (Ex.refl _) _ fun v H2 e2 r => ?_
    obtain ⟨p, ys, rfl, hp, h2, so, nd, mem⟩ := r
    have memL : ∀ u, u ∈ ys ↔ ∃ c ∈ ls, u ∈ c.2 := fun u => by
      rw [mem u]
      constructor
      · rintro ⟨x, mx, hu⟩
        obtain ⟨c, mc, rfl⟩ := List.mem_map.mp mx
        exact ⟨c, mc, hu⟩
      · rintro ⟨c, mc, hu⟩
        exact ⟨c.2, List.mem_map.mpr ⟨c, mc, rfl⟩, hu⟩
    have yz := few ys nd fun u m => (memL u).mp m
    refine ⟨p, ys, rfl, sq_of h2, by omega, fun sa sla n1 nd1 m1 l1 => ?_⟩
    have e3 : Ex H2 _ := Ex.new (o := MuSet.SetTx P w sa sla) n1
    refine ⟨.ref o, rfl, o, os, rfl, ex_l ((e1.trans e2).trans e3) ho, by omega, fun sb slb n2 nd2 m2 l2 => ?_⟩
    have e4 : Ex _ _ := Ex.new (o := MuSet.SetTx P w sb slb) n2
    have za : sla.length ≤ ys.length := nodup_len nd1 fun u m => (m1 u).mp m
    have zb : slb.length ≤ os.length := nodup_len nd2 fun u m => (m2 u).mp m
    refine ⟨sa, sb, sla, slb, rfl, rfl, e4 sa _ upd_same, upd_same, by omega, by omega, fun sc slc n3 nd3 m3 => ?_⟩
    have e5 : Ex _ _ := Ex.new (o := MuSet.SetTx P w sc slc) n3
    have zc : slc.length ≤ sla.length := nodup_len nd3 fun u m => ((m3 u).mp m).1
    refine ⟨sc, slc, rfl, upd_same, by omega, ?_⟩
    refine ev_c (v := .int 0) _ (Ex.refl _) _ fun H5 e6 => ⟨rfl, ?_⟩
    have z : decide (V.int (slc.length : Int) = V.int 0) = decide (∀ c ∈ ls, ∀ u ∈ c.2, u ∈ os) := decide_eq_decide.mpr ⟨fun h c mc u mu => by
      injection h with h
      have c0 : slc = [] := List.eq_nil_of_length_eq_zero (by omega)
      refine Classical.byContradiction fun no => ?_
      have := (m3 u).mpr ⟨(m1 u).mpr ((memL u).mpr ⟨c, mc, mu⟩), fun z => no ((m2 u).mp z)⟩
      rw [c0] at this
      exact (nomatch this), fun h => by
      have c0 : slc = [] := List.eq_nil_iff_forall_not_mem.mpr fun u m => by
        obtain ⟨x1, x2⟩ := (m3 u).mp m
        obtain ⟨c, mc, mu⟩ := (memL u).mp ((m1 u).mp x1)
        exact x2 ((m2 u).mpr (h c mc u mu))
      rw [c0]
      rfl⟩
    rw [z]
    exact q H5 ((((e2.trans e3).trans e4).trans e5).trans e6)

def R_within (H : Hp) (us : List (List Str)) : V → Hp → Prop := fun v H' => ∃ D : Addr, v = .ref D ∧ H D = none ∧ MuWi.PLs (MuWi.witN us) D H'
def D_p_within_pairs (K : PySem.W.Frag) (P Pu : Addr) : Hp → List V → (V → Hp → Prop) → Prop := fun H vs R => ∃ (b : Addr) (ls : List (Addr × List Str)), vs = [.ref b] ∧ H b = some (.lst (ls.map fun p => V.ref p.1)) ∧ LotAt H ls ∧ ls.length ≤ 100 ∧ (∀ c ∈ ls, c.2.length ≤ 60 ∧ c.2.Nodup ∧ ∀ u ∈ c.2, WordOk u) ∧ H P = some (MuGen.TabO P) ∧ H Pu = some (MuGen.TabO Pu) ∧ R = R_within H (ls.map (·.2))
theorem ok_p_within_pairs (T : Txt K mg base) : FnOk P w K mg base CX0 6 T.a_p_within_pairs T.d_p_within_pairs ["lot"] (SpR (D_p_within_pairs K T.P_p_is_word T.P_p_are_unlike_words)) := by
  refine T.F_p_within_pairs.ok sc_p_within_pairs (fun vs H Q E h => ?_) (fun cdv A outer s H vs Q E hr h => ?_)
  · obtain ⟨v, ⟨b, ls, rfl, _⟩, _⟩ := h
    rfl
  · obtain ⟨v, ⟨b, ls, rfl, hb, hat, hz, hls, hP, hPu, rfl⟩, q⟩ := h
    refine ⟨_, (pss_cons (ps_expr (pe_call (ok_p_check_sets T) (hr.mono (by decide)) rfl T.g_p_check_sets T.F_p_check_sets.kp T.b_p_check_sets .nil pass0 (pa_cons (pv 0) pa_nil)))
      (pss_cons (ps_set (i := 1) sc_p_within_pairs.nd rfl (.inr rfl) (pe_callTy MuWi.cr_range1 (by rfl) T.z_range (by decide +kernel) (pa_cons (pe_callB call_len_seq (by rfl) T.z_len (by decide +kernel) (pa_cons (pv 0) pa_nil)) pa_nil)))
      (pss_one (ps_ret (pe_lc2 (own := [("i", 2), ("j", 3)]) (vs1 := [3]) (g := gName 2) (tt := tYes) (g1 := gName 3) (tt1 := tAnd (tTest (tOp rNe (tVar 2) (tVar 3))) (tB (tCall (SpVal (D_p_has_words_of K)) [] E0 (tCons (tLst (tCons (tOp (rIxL K) (tVar 0) (tVar 2)) tNil)) (tCons (tOp (rIxL K) (tVar 0) (tVar 3)) tNil))))) rfl sc_p_within_pairs.nd (MuWi.pi_rngV (pv 1)) (blkOk_by (N := ["lot", "numbers", "i", "j"]) (sc := defScope s_p_within_pairs) (by decide +kernel)) (by decide) (fun _ _ _ _ _ => by exact (pg_name (i := 2) sc_p_within_pairs.nd rfl (Or.inl rfl))) (fun _ _ _ _ _ => by exact pts_nil) (fun _ _ _ _ _ => by exact (show PI _ _ _ (MuWi.iRngV (tVar 1)) from MuWi.pi_rngV (pv 1))) (fun _ _ _ _ _ => by exact (pg_name (i := 3) sc_p_within_pairs.nd rfl (Or.inl rfl))) (fun _ _ _ _ _ => by exact (pts_one (PW.pt (pw_and (pt_cmpR op_ne (pv 2) (pv 3) (nomark _)) (pw_and1 (pt_val (pe_call (ok_p_has_words_of T) (hr.mono (by decide)) rfl T.g_p_has_words_of T.F_p_has_words_of.kp T.b_p_has_words_of .nil pass0 (pa_cons (pe_lst (pa_cons (pe_ix (show IxR _ (rIxL K) from ix_list) (pv 0) (pv 2) (fun _ _ => rfl)) pa_nil)) (pa_cons (pe_ix (show IxR _ (rIxL K) from ix_list) (pv 0) (pv 3) (fun _ _ => rfl)) pa_nil))))))))) (fun _ _ _ _ _ => by exact (pe_tup (pa_cons (pv 2) (pa_cons (pv 3) pa_nil))))))))), ?_⟩
    refine q_drop (v := .non) ?_ fun H1 e1 => ?_
    · exact ev_callV (vs := [.ref b]) (ea_cons (ev_var rfl) ea_nil) fun _ e => ⟨b, ls, rfl, e _ _ hb, fun c m => e _ _ (hat c m), hls, e _ _ hP, e _ _ hPu, rfl⟩
    refine q_asgX (R := fun v H' => ∃ r : Addr, v = .ref r ∧ H' r = some (.rng 0 (ls.length : Int))) (MuWi.evx_rng1 (ea_cons (ev_is (ev_len (K := K) (ev_var rfl) (sq_of (e1 _ _ hb))) (by rw [List.length_map])) ea_nil)) fun v H2 e2 r => ?_
    · obtain ⟨r, rfl, hr2⟩ := r
      have e12 := e1.trans e2
      have at_ : ∀ {n : Nat}, n < ls.length → ∃ c ∈ ls, (ls.map fun p => V.ref p.1)[n]? = some (.ref c.1) ∧ (ls.map (·.2)).getD n [] = c.2 := fun {n} lt => by
        refine ⟨ls[n], List.getElem_mem lt, by rw [List.getElem?_map, List.getElem?_eq_getElem lt]; rfl, ?_⟩
        rw [List.getD_eq_getElem?_getD, List.getElem?_map, List.getElem?_eq_getElem lt]
        rfl
      refine s_retX (MuWi.evx_gridV (r := r) (N := ls.length) (MuWi.witB (ls.map (·.2))) (ev_var rfl) hr2 (by omega) (fun _ => rfl) (fun _ _ => rfl) (fun _ _ _ _ => ev_var rfl) (fun n l H' hn hl e => ?_) (fun n l H' e => eu_tup (ea_cons (ev_var rfl) (ea_cons (ev_var rfl) ea_nil)) (by simp))) fun v H3 e3 r3 => ?_
      · obtain ⟨c, mc, gc, uc⟩ := at_ hn
        obtain ⟨d, md, gd, ud⟩ := at_ hl
        have e0 := e12.trans e
        refine et_is (et_and (a := !decide ((n : Int) = (l : Int))) (b := MuWi.subB c.2 d.2) (et_test (ev_op (ev_var rfl) (ev_var rfl) rv_neI)) fun _ => et_B (ev_callN (xs := [.ref c.1]) (vs := [.ref d.1]) (el_lst (ea_cons (ev_op (ev_var rfl) (ev_var rfl) (rv_ixL (sq_of (e0 _ _ hb)) (atI_nat gc))) ea_nil) (by simp)) (ea_cons (ev_op (ev_var rfl) (ev_var rfl) (rv_ixL (sq_of (e0 _ _ hb)) (atI_nat gd))) ea_nil) fun p H4 e4 hp => ⟨p, d.1, [c], d.2, rfl, sq_of hp, fun x mx => ?_, ?_, sq_of ((e0.trans e4) _ _ (hat d md)), by have := (hls d md).1; omega, ?_⟩)) ?_
        · rw [List.mem_singleton.mp mx]
          exact sq_of ((e0.trans e4) _ _ (hat c mc))
        · show (([c.2] : List (List Str)).flatten).length ≤ 60
          rw [List.flatten_cons, List.flatten_nil, List.append_nil]
          exact (hls c mc).1
        · congr 1
          refine Bool.eq_iff_iff.mpr ?_
          rw [MuWi.subB_iff, decide_eq_true_eq]
          exact ⟨fun h x mx u mu => by rw [List.mem_singleton.mp mx] at mu; exact h u mu, fun h u mu => h c (List.mem_singleton.mpr rfl) u mu⟩
        · unfold MuWi.witB
          dsimp only
          rw [uc, ud]
          congr 1
          rw [← decide_not]
          exact decide_eq_decide.mpr ⟨fun h z => h (by omega), fun h z => h (by omega)⟩
      · obtain ⟨D, rfl, hD, hp⟩ := r3
        refine q _ _ (e12.trans e3) ⟨D, rfl, fresh_back e12 hD, ?_⟩
        unfold MuWi.witN
        rw [List.length_map]
        exact hp

def B_p_within_pairs (K : PySem.W.Frag) (CS P Pu : Addr) : Hp → List V → Addr → Prop := B_p_check_sets K CS P Pu
theorem okB_p_within_pairs (T : Txt K mg base) : FnOk P w K mg base (L2.CX P w) 6 T.a_p_within_pairs T.d_p_within_pairs ["lot"] (MuX.SpB (B_p_within_pairs K T.a_NoSet T.P_p_is_word T.P_p_are_unlike_words)) := by
  refine T.F_p_within_pairs.okX sc_p_within_pairs (fun vs H Q E h => ?_) (fun cdv A outer s H vs Q E hr h => ?_)
  · obtain ⟨v, ⟨b, ls, rfl, _⟩, _⟩ := h
    rfl
  · obtain ⟨v, ⟨b, ls, rfl, hb, hat, hls, bad, hP, hPu, rfl⟩, q⟩ := h
    refine ⟨_, (pss_cons (ps_expr (pe_call (okM_p_check_sets T) (hr.mono (by decide)) rfl T.g_p_check_sets T.F_p_check_sets.kp T.b_p_check_sets .nil (passes_call (takes_of rfl rfl rfl rfl) (fun _ _ _ _ h => h)) (pa_cons (pv 0) pa_nil)))
      (pss_cons (ps_set (i := 1) sc_p_within_pairs.nd rfl (.inr rfl) (pe_callTy MuWi.cr_range1 (by rfl) T.z_range (by decide +kernel) (pa_cons (pe_callB call_len_seq (by rfl) T.z_len (by decide +kernel) (pa_cons (pv 0) pa_nil)) pa_nil)))
      (pss_one (ps_ret (pe_lc2 (own := [("i", 2), ("j", 3)]) (vs1 := [3]) (g := gName 2) (tt := tYes) (g1 := gName 3) (tt1 := tAnd (tTest (tOp rNe (tVar 2) (tVar 3))) (tB (tCall (SpVal (D_p_has_words_of K)) [] E0 (tCons (tLst (tCons (tOp (rIxL K) (tVar 0) (tVar 2)) tNil)) (tCons (tOp (rIxL K) (tVar 0) (tVar 3)) tNil))))) rfl sc_p_within_pairs.nd (MuWi.pi_rngV (pv 1)) (blkOk_by (N := ["lot", "numbers", "i", "j"]) (sc := defScope s_p_within_pairs) (by decide +kernel)) (by decide) (fun _ _ _ _ _ => by exact (pg_name (i := 2) sc_p_within_pairs.nd rfl (Or.inl rfl))) (fun _ _ _ _ _ => by exact pts_nil) (fun _ _ _ _ _ => by exact (show PI _ _ _ (MuWi.iRngV (tVar 1)) from MuWi.pi_rngV (pv 1))) (fun _ _ _ _ _ => by exact (pg_name (i := 3) sc_p_within_pairs.nd rfl (Or.inl rfl))) (fun _ _ _ _ _ => by exact (pts_one (PW.pt (pw_and (pt_cmpR op_ne (pv 2) (pv 3) (nomark _)) (pw_and1 (pt_val (pe_call (ok_p_has_words_of T) (hr.mono (by decide)) rfl T.g_p_has_words_of T.F_p_has_words_of.kp T.b_p_has_words_of .nil pass0 (pa_cons (pe_lst (pa_cons (pe_ix (show IxR _ (rIxL K) from ix_list) (pv 0) (pv 2) (fun _ _ => rfl)) pa_nil)) (pa_cons (pe_ix (show IxR _ (rIxL K) from ix_list) (pv 0) (pv 3) (fun _ _ => rfl)) pa_nil))))))))) (fun _ _ _ _ _ => by exact (pe_tup (pa_cons (pv 2) (pa_cons (pv 3) pa_nil))))))))), ?_⟩
    exact MuX.q_bad (vs := [.ref b]) (ea_cons (ev_var rfl) ea_nil) (fun _ e => ⟨b, ls, rfl, e _ _ hb, fun c m => e _ _ (hat c m), hls, bad, e _ _ hP, e _ _ hPu, rfl⟩) fun H1 e1 => q _ e1
def okM_p_within_pairs (T : Txt K mg base) := MuX.both (P := P) (w := w) (ok_p_within_pairs T) (okB_p_within_pairs T)

def D_p_tops (K : PySem.W.Frag) (P Pu : Addr) : Hp → List V → List V → Prop := fun H vs xs => ∃ (b : Addr) (ls : List (Addr × List Str)), vs = [.ref b] ∧ H b = some (.lst (ls.map fun p => V.ref p.1)) ∧ LotAt H ls ∧ ls.length ≤ 100 ∧ (∀ c ∈ ls, c.2.length ≤ 60 ∧ c.2.Nodup ∧ ∀ u ∈ c.2, WordOk u) ∧ H P = some (MuGen.TabO P) ∧ H Pu = some (MuGen.TabO Pu) ∧ xs = (MuWi.topN (ls.map (·.2))).map fun n : Nat => V.int (n : Int)
theorem ok_p_tops (T : Txt K mg base) : FnOk P w K mg base CX0 7 T.a_p_tops T.d_p_tops ["lot"] (SpLst (D_p_tops K T.P_p_is_word T.P_p_are_unlike_words)) := by
  refine T.F_p_tops.ok sc_p_tops (fun vs H Q E h => ?_) (fun cdv A outer s H vs Q E hr h => ?_)
  · obtain ⟨v, ⟨b, ls, rfl, _⟩, _⟩ := h
    rfl
  · obtain ⟨xs, ⟨b, ls, rfl, hb, hat, hz, hls, hP, hPu, rfl⟩, q⟩ := h
    refine ⟨_, (pss_cons (ps_set (i := 1) sc_p_tops.nd rfl (.inr rfl) (MuWi.pe_dcT (own := [("pair", 2)]) (ga := gName 2) rfl hr.units sc_p_tops.nd (pi_list (pe_call (ok_p_within_pairs T) (hr.mono (by decide)) rfl T.g_p_within_pairs T.F_p_within_pairs.kp T.b_p_within_pairs .nil pass0 (pa_cons (pv 0) pa_nil))) (blkOk_by (N := ["lot", "within", "pair", "below", "i", "j"]) (sc := defScope s_p_tops) (by decide +kernel)) (fun _ _ _ _ _ => (pg_name (i := 2) sc_p_tops.nd rfl (Or.inl rfl))) (fun _ _ _ _ _ => (pv 2)) (fun _ _ _ _ _ => pe_bl)))
      (pss_cons (ps_set (i := 3) sc_p_tops.nd rfl (.inr rfl) (pe_lock (pe_dc (own := [("i", 4), ("j", 5)]) (g := gTup K 2 (gCons (gName 4) (gCons (gName 5) gNil))) rfl sc_p_tops.nd (pi_keys (pv 1)) (blkOk_by (N := ["lot", "within", "pair", "below", "i", "j"]) (sc := defScope s_p_tops) (by decide +kernel)) (fun _ _ _ _ _ => by exact (pg_tup (by rfl) (pgs_cons (pg_name (i := 4) sc_p_tops.nd rfl (Or.inl rfl)) (pgs_cons (pg_name (i := 5) sc_p_tops.nd rfl (Or.inl rfl)) pgs_nil)))) (fun _ _ _ _ _ => (pts_one (PW.pt (pw_or (pt_cmpR op_lt (pv 5) (pv 4) (nomark _)) (pw_or1 (pt_cmp (pc_dnotin (hu_of hr) (pe_tup (pa_cons (pv 5) (pa_cons (pv 4) pa_nil))) (pv 1)))))))) (fun _ _ _ _ _ => (pv 4)) (fun _ _ _ _ _ => pe_bl))))
      (pss_one (ps_ret (pe_lc (own := [("i", 4)]) (g := gName 4) rfl sc_p_tops.nd (pi_range1 (by rfl) T.z_range (pa_cons (pe_callB call_len_seq (by rfl) T.z_len (by decide +kernel) (pa_cons (pv 0) pa_nil)) pa_nil)) (blkOk_by (N := ["lot", "within", "pair", "below", "i", "j"]) (sc := defScope s_p_tops) (by decide +kernel)) (fun _ _ _ _ _ => (pg_name (i := 4) sc_p_tops.nd rfl (Or.inl rfl))) (fun _ _ _ _ _ => (pts_one (pt_cmp (pc_dnotin (hu_of hr) (pv 4) (pv 3))))) (fun _ _ _ _ _ => (pv 4))))))), ?_⟩
    have zw := MuWi.wit_len (ls.map (·.2))
    rw [List.length_map] at zw
    have zz : ls.length * ls.length ≤ 100 * 100 := Nat.mul_le_mul hz hz
    refine q_asgX (R := fun v H' => ∃ D : Addr, v = .ref D ∧ H D = none ∧ H' D = some (.dT (MuWi.markT (MuWi.witN (ls.map (·.2)))))) (MuWi.evx_marksT (ps := MuWi.witN (ls.map (·.2))) (evx_call (R := fun v H' => ∃ D : Addr, v = .ref D ∧ MuWi.PLs (MuWi.witN (ls.map (·.2))) D H') (vs := [.ref b]) (ea_cons (ev_var rfl) ea_nil) fun H1 e1 => ⟨_, ⟨b, ls, rfl, e1 _ _ hb, fun c m => e1 _ _ (hat c m), hz, hls, e1 _ _ hP, e1 _ _ hPu, rfl⟩, fun v H2 e2 ⟨D, e, _, h⟩ => ⟨D, e, h⟩⟩) (MuWi.wit_nd _) (by omega) (fun _ => rfl) fun _ => rfl) fun v H1 e1 r => ?_
    obtain ⟨D, rfl, hD, h1⟩ := r
    refine q_asgX (MuWi.evx_below (d := D) (ps := MuWi.witN (ls.map (·.2))) (MuWi.lowF (ls.map (·.2))) h1 (fun _ => ev_var rfl) (by omega) (fun _ _ => rfl) (fun _ _ => rfl) fun p H2 mp ⟨od, h2⟩ => ?_) fun v H2 e2 r => ?_
    · unfold MuWi.lowF
      refine et_is (et_or (a := decide ((p.2 : Int) < (p.1 : Int))) (b := !decide ((p.2, p.1) ∈ MuWi.witN (ls.map (·.2)))) (et_test (ev_op (ev_var rfl) (ev_var rfl) rv_I0)) fun _ => et_test (ev_is (MuWi.ev_niT (ev_var rfl) (ev_var rfl) (ev_var rfl) (.inr ⟨od, h2⟩)) (congrArg (fun z => V.bl (!z)) (MuWi.markT_some (p.2, p.1) _)))) ?_
      congr 1
      exact decide_eq_decide.mpr (by omega)
    · obtain ⟨B, kvs, rfl, hB, h2, hk⟩ := r
      have e12 := e1.trans e2
      refine s_retL (el_is (MuRn.el_lcRF (n := (ls.length : Int)) (fun i => !MuWi.lowB (ls.map fun c : Addr × List Str => c.2) i) (fun i => .int (i : Int)) (ea_cons (ev_is (ev_len (K := K) (ev_var rfl) (sq_of (e12 _ _ hb))) (by rw [List.length_map])) ea_nil) (by omega) (by omega) (fun _ => rfl) (fun i H3 e3 hi => et_test (ev_is (MuWi.ev_niK (ev_var rfl) (ev_var rfl) (.inl (e3 _ _ h2))) (congrArg (fun z => V.bl (!z)) (show (valV kvs (.inl (i : Int))).isSome = MuWi.lowB (ls.map fun c : Addr × List Str => c.2) i from hk i)))) fun i H3 e3 hi => ev_var rfl) ?_) fun p H3 hp e3 h3 => q p H3 (fresh_back e12 hp) (e12.trans e3) h3
      unfold MuWi.topN
      rw [List.length_map]
      rfl

def B_p_tops (K : PySem.W.Frag) (CS P Pu : Addr) : Hp → List V → Addr → Prop := B_p_check_sets K CS P Pu
theorem okB_p_tops (T : Txt K mg base) : FnOk P w K mg base (L2.CX P w) 7 T.a_p_tops T.d_p_tops ["lot"] (MuX.SpB (B_p_tops K T.a_NoSet T.P_p_is_word T.P_p_are_unlike_words)) := by
  refine T.F_p_tops.okX sc_p_tops (fun vs H Q E h => ?_) (fun cdv A outer s H vs Q E hr h => ?_)
  · obtain ⟨v, ⟨b, ls, rfl, _⟩, _⟩ := h
    rfl
  · obtain ⟨v, ⟨b, ls, rfl, hb, hat, hls, bad, hP, hPu, rfl⟩, q⟩ := h
    refine ⟨_, (pss_cons (ps_set (i := 1) sc_p_tops.nd rfl (.inr rfl) (MuWi.pe_dcT (own := [("pair", 2)]) (ga := gName 2) rfl hr.units sc_p_tops.nd (pi_list (pe_call (okM_p_within_pairs T) (hr.mono (by decide)) rfl T.g_p_within_pairs T.F_p_within_pairs.kp T.b_p_within_pairs .nil (passes_call (takes_of rfl rfl rfl rfl) (fun _ _ _ _ h => h)) (pa_cons (pv 0) pa_nil))) (blkOk_by (N := ["lot", "within", "pair", "below", "i", "j"]) (sc := defScope s_p_tops) (by decide +kernel)) (fun _ _ _ _ _ => (pg_name (i := 2) sc_p_tops.nd rfl (Or.inl rfl))) (fun _ _ _ _ _ => (pv 2)) (fun _ _ _ _ _ => pe_bl)))
      (pss_cons (ps_set (i := 3) sc_p_tops.nd rfl (.inr rfl) (pe_lock (pe_dc (own := [("i", 4), ("j", 5)]) (g := gTup K 2 (gCons (gName 4) (gCons (gName 5) gNil))) rfl sc_p_tops.nd (pi_keys (pv 1)) (blkOk_by (N := ["lot", "within", "pair", "below", "i", "j"]) (sc := defScope s_p_tops) (by decide +kernel)) (fun _ _ _ _ _ => by exact (pg_tup (by rfl) (pgs_cons (pg_name (i := 4) sc_p_tops.nd rfl (Or.inl rfl)) (pgs_cons (pg_name (i := 5) sc_p_tops.nd rfl (Or.inl rfl)) pgs_nil)))) (fun _ _ _ _ _ => (pts_one (PW.pt (pw_or (pt_cmpR op_lt (pv 5) (pv 4) (nomark _)) (pw_or1 (pt_cmp (pc_dnotin (hu_of hr) (pe_tup (pa_cons (pv 5) (pa_cons (pv 4) pa_nil))) (pv 1)))))))) (fun _ _ _ _ _ => (pv 4)) (fun _ _ _ _ _ => pe_bl))))
      (pss_one (ps_ret (pe_lc (own := [("i", 4)]) (g := gName 4) rfl sc_p_tops.nd (pi_range1 (by rfl) T.z_range (pa_cons (pe_callB call_len_seq (by rfl) T.z_len (by decide +kernel) (pa_cons (pv 0) pa_nil)) pa_nil)) (blkOk_by (N := ["lot", "within", "pair", "below", "i", "j"]) (sc := defScope s_p_tops) (by decide +kernel)) (fun _ _ _ _ _ => (pg_name (i := 4) sc_p_tops.nd rfl (Or.inl rfl))) (fun _ _ _ _ _ => (pts_one (pt_cmp (pc_dnotin (hu_of hr) (pv 4) (pv 3))))) (fun _ _ _ _ _ => (pv 4))))))), ?_⟩
    exact MuX.bad_call (vs := [.ref b]) (ea_cons (ev_var rfl) ea_nil) (fun _ e => ⟨b, ls, rfl, e _ _ hb, fun c m => e _ _ (hat c m), hls, bad, e _ _ hP, e _ _ hPu, rfl⟩) (fun H1 e1 => q _ e1) _
def okM_p_tops (T : Txt K mg base) := MuX.both (P := P) (w := w) (ok_p_tops T) (okB_p_tops T)

def D_l_cell_at (K : PySem.W.Frag) : Hp → List V → V → Prop := fun H vs v => ∃ (a : Addr) (ns : List Int) (k : Nat), vs = [.ref a, .int k] ∧ SqL K H a (ns.map V.int) ∧ v = .int (ns.getD k 0)
theorem ok_l_cell_at (T : Txt K mg base) : FnOk P w K mg base CX0 1 T.a_l_cell_at T.d_l_cell_at ["_law_script", "_law_k"] (SpVal (D_l_cell_at K)) := by
  refine T.F_l_cell_at.ok sc_l_cell_at (fun vs H Q E h => ?_) (fun cdv A outer s H vs Q E hr h => ?_)
  · obtain ⟨v, ⟨a, ns, k, rfl, _⟩, _⟩ := h
    rfl
  · obtain ⟨v, ⟨a, ns, k, rfl, hs, rfl⟩, q⟩ := h
    refine ⟨_, (pss_cons (ps_if (pt_cmpR op_lt (pv 1) (pe_callB call_len_seq (by rfl) T.z_len (by decide +kernel) (pa_cons (pv 0) pa_nil)) (nomark _))
      (pss_one (ps_ret (pe_ix ix_list (pv 0) (pv 1) (fun _ _ => rfl))))
      pss_nil)
      (pss_one (ps_ret pe_int))), ?_⟩
    refine q_when (b := decide ((k : Int) < ((ns.map V.int).length : Int))) (et_test (ev_op (ev_var rfl) (ev_len (ev_var rfl) hs) rv_I0)) (fun hb H1 e1 => ?_) (fun hb H1 e1 => ?_)
    · have hk : k < ns.length := by
        have := of_decide_eq_true hb
        rw [List.length_map] at this
        omega
      refine s_ret (v := .int (ns.getD k 0)) (ev_op (ev_var rfl) (ev_var rfl) (rv_ixL (ex_l e1 hs) (atI_nat (j := k) ?_))) fun H2 e2 => q H2 (e1.trans e2)
      rw [List.getElem?_map, List.getD_eq_getElem?_getD, List.getElem?_eq_getElem hk]
      rfl
    · have hk : ¬ k < ns.length := by
        have := of_decide_eq_false hb
        rw [List.length_map] at this
        omega
      have e0 : ns.getD k 0 = 0 := by
        rw [List.getD_eq_getElem?_getD, List.getElem?_eq_none (by omega)]
        rfl
      rw [e0] at q
      exact s_ret (v := .int 0) (by walk_at "mu g") fun H2 e2 => q H2 (e1.trans e2)

def D_l_mix : Hp → List V → V → Prop := fun _ vs v => ∃ (c : Int) (k : Nat), vs = [.int c, .int k] ∧ k ≤ 1000 ∧ v = .int (mix c k)
theorem ok_l_mix (T : Txt K mg base) : FnOk P w K mg base CX0 1 T.a_l_mix T.d_l_mix ["_law_cell", "_law_k"] (SpVal D_l_mix) := by
  refine T.F_l_mix.ok sc_l_mix (fun vs H Q E h => ?_) (fun cdv A outer s H vs Q E hr h => ?_)
  · obtain ⟨v, ⟨c, k, rfl, _⟩, _⟩ := h
    rfl
  · obtain ⟨v, ⟨c, k, rfl, hk, rfl⟩, q⟩ := h
    refine ⟨_, (pss_cons (ps_if (pt_cmpR op_ge (pv 0) (pe_op op_pow pe_int pe_int) (nomark _))
      (pss_cons (ps_for PassesOwn.never rfl (pi_range1 (by rfl) T.z_range (pa_cons (pv 1) pa_nil)) (pg_name (i := 2) sc_l_mix.nd rfl (.inl rfl))
      (pss_one (ps_set (i := 0) sc_l_mix.nd rfl (.inl rfl) (pe_op op_fdiv (pv 0) (pe_op op_pow pe_int pe_int)))))
      (pss_one (ps_ret (pe_op op_mod (pv 0) (pe_op op_pow pe_int pe_int)))))
      pss_nil)
      (pss_cons (ps_set (i := 3) sc_l_mix.nd rfl (.inl rfl) (pe_op op_mod (pe_op op_mul (pe_op op_add (pe_op op_add (pe_op op_mod (pv 0) pe_int) (pe_op op_mul (pe_op op_mul (pv 1) (pv 1)) pe_int)) (pv 1)) pe_int) pe_int))
      (pss_cons (ps_set (i := 3) sc_l_mix.nd rfl (.inl rfl) (pe_op op_mod (pe_op op_mul (pv 3) (pv 3)) pe_int))
      (pss_one (ps_ret (pe_op op_fdiv (pe_op op_mod (pe_op op_mul (pv 3) (pe_op op_add (pv 3) pe_int)) pe_int) pe_int)))))), ?_⟩
    refine q_when (b := decide ((10 : Int) ^ (18 : Int).toNat ≤ c)) (by walk_at "mu g") (fun hb H1 e1 => ?_) (fun hb H1 e1 => ?_)
    · refine q_forR1 (n := (k : Int)) (by walk_at "mu g") (by omega) (fun i σ' H' => Ex H H' ∧ ∃ x3 x4, σ' = [some (.int (divs (10 ^ 6) i c)), some (.int k), x3, x4]) (fun H2 e2 => ⟨e1.trans e2, none, none, rfl⟩) (fun i σ' H' hi hp => ?_) (fun σ' H' hp => ?_)
      · obtain ⟨e2, x3, x4, rfl⟩ := hp
        refine s_asg (by walk_at "mu g") fun H3 e3 => ?_
        exact ⟨e2.trans e3, _, _, rfl⟩
      · obtain ⟨e2, x3, x4, rfl⟩ := hp
        refine s_ret (v := .int (mix c k)) ?_ fun H3 e3 => q H3 (e2.trans e3)
        have hb' : c ≥ 10 ^ 18 := of_decide_eq_true hb
        have e : mix c k = divs (10 ^ 6) k c % 10 ^ 6 := by
          unfold mix
          rw [if_pos hb']
        rw [e]
        exact ev_is (by walk_at "mu g") (by first | rfl | simp)
    · have hb' : ¬ c ≥ 10 ^ 18 := of_decide_eq_false hb
      have r1 : ∀ z : Int, 0 ≤ z % 2147483629 ∧ z % 2147483629 < 2147483629 := fun z => ⟨Int.emod_nonneg z (by decide), Int.emod_lt_of_pos z (by decide)⟩
      have r2 : ∀ z : Int, 0 ≤ z % 2147483587 ∧ z % 2147483587 < 2147483587 := fun z => ⟨Int.emod_nonneg z (by decide), Int.emod_lt_of_pos z (by decide)⟩
      have r3 : 0 ≤ c % 1000003 ∧ c % 1000003 < 1000003 := ⟨Int.emod_nonneg c (by decide), Int.emod_lt_of_pos c (by decide)⟩
      refine q_asg (by walk_at "mu g"; all_goals (show CMul _ _; first | exact .inr ⟨by decide, by decide⟩ | exact .inr ⟨by omega, by omega⟩)) fun H2 e2 => ?_
      refine q_asg (by walk_at "mu g"; all_goals (show CMul _ _; have := r1 ((c % 1000003 + k * k * 7919 + k) * 48271); exact .inr ⟨by omega, by omega⟩)) fun H3 e3 => ?_
      refine s_ret (v := .int (mix c k)) ?_ fun H4 e4 => q H4 (((e1.trans e2).trans e3).trans e4)
      unfold mix
      rw [if_neg hb']
      refine ev_is (by walk_at "mu g"; all_goals (show CMul _ _; exact .inr ⟨by have := r2 ((((c % 1000003 + k * k * 7919 + k) * 48271 % 2147483629) * ((c % 1000003 + k * k * 7919 + k) * 48271 % 2147483629))); omega, by have := r2 ((((c % 1000003 + k * k * 7919 + k) * 48271 % 2147483629) * ((c % 1000003 + k * k * 7919 + k) * 48271 % 2147483629))); omega⟩)) rfl

def D_l_whole : Hp → List V → V → Prop := fun _ vs v => ∃ (i : Int), vs = [.int i] ∧ v = .bl true
theorem ok_l_whole (T : Txt K mg base) : FnOk P w K mg base CX0 1 T.a_l_whole T.d_l_whole ["_law_got"] (SpVal D_l_whole) := by
  refine T.F_l_whole.ok sc_l_whole (fun vs H Q E h => ?_) (fun cdv A outer s H vs Q E hr h => ?_)
  · obtain ⟨v, ⟨i, rfl, _⟩, _⟩ := h
    rfl
  · obtain ⟨v, ⟨i, rfl, rfl⟩, q⟩ := h
    refine ⟨_, (pss_one (ps_ret (pe_and (pe_callB call_isi (by rfl) T.z_isinstance (by decide +kernel) (pa_cons (pv 0) (pa_cons (pe_bltn (v := .ty "int") (by rfl) T.z_int (by decide +kernel) rfl) pa_nil))) (pe_one (pe_not (pe_callB call_isi (by rfl) T.z_isinstance (by decide +kernel) (pa_cons (pv 0) (pa_cons (pe_bltn (v := .ty "bool") (by rfl) T.z_bool (by decide +kernel) rfl) pa_nil)))))))), ?_⟩
    exact s_ret (v := .bl (true && !false)) (ev_andV (ev_cb (ea_cons (ev_var rfl) (ea_cons ev_c ea_nil)) (rc_isiInt (kit_ty (by decide +kernel)))) fun _ => ev_notV (ev_cb (ea_cons (ev_var rfl) (ea_cons ev_c ea_nil)) (rc_isiInt (kit_ty (by decide +kernel))))) fun H1 e1 => q H1 e1

def RSetW (H : Hp) (m : Nat) : V → Hp → Prop := fun v H' => ∃ (p : Addr) (us : List Str), v = .ref p ∧ H p = none ∧ TxL H' p us ∧ us.Nodup ∧ (∀ u ∈ us, WordOk u) ∧ us.length ≤ m + 1
def D_l_set (K : PySem.W.Frag) : Hp → List V → (V → Hp → Prop) → Prop := fun H vs R => ∃ (b : Addr) (c : Int) (ls : List (Addr × List Str)) (m : Nat), vs = [.int c, .ref b] ∧ H b = some (.lst (ls.map fun p => V.ref p.1)) ∧ ls.length ≤ 60 ∧ LotAt H ls ∧ (∀ p ∈ ls, (∀ u ∈ p.2, WordOk u) ∧ p.2.length ≤ m) ∧ 6 ≤ m ∧ m ≤ 1000 ∧ R = RSetW H m
theorem cutV_mapS (us : List Str) (lo hi : Option Int) : ∃ ys : List Str, cutV (us.map V.str) lo hi = ys.map V.str ∧ ys.Sublist us := by
  unfold cutV
  rw [List.length_map, ← List.map_drop, ← List.map_take]
  exact ⟨_, rfl, (List.take_sublist _ _).trans (List.drop_sublist _ _)⟩
def names7 : List Str := ["a", "b", "c", "d1", "e.", "a.1", "zz9"]
theorem names7_ok : ∀ u ∈ names7, WordOk u := by decide +kernel
theorem muls_ok : ∀ c ∈ signsS.cps.toList, ∀ k ∈ List.range 30, WordOk (Txt.mul ⟨#[c]⟩ (1 + (k : Int))) := by decide +kernel
theorem ins_mapS (us : List Str) (k : Nat) (u : Str) : ∃ ws : List Str, (us.map V.str).take k ++ [V.str u] ++ (us.map V.str).drop k = ws.map V.str ∧ ws.Perm (us ++ [u]) := by
  refine ⟨us.take k ++ [u] ++ us.drop k, by simp, ?_⟩
  have h1 : (us.take k ++ [u] ++ us.drop k).Perm (us.take k ++ us.drop k ++ [u]) := by
    rw [List.append_assoc, List.append_assoc]
    exact List.perm_append_comm.append_left _
  rwa [List.take_append_drop] at h1
theorem s_insS {K : PySem.W.Frag} {σ : L2.St} {H : Hp} {ta tb tc : TE} {D : Ends} {l : Addr} {xs : List V} {i : Int} {y : V} (hl : H l = some (.lst xs)) (ha : Ev ta σ H (.ref l)) (hb : Ev tb σ H (.int i)) (hc : Ev tc σ H y) (h0 : 0 ≤ i) (h1 : i < 2 ^ 40) (hz : xs.length < 100000)
    {r : V → List V → Hp → VK → Prop} (hr : r = fun x vs H Q => ∃ (l : Addr) (xs : List V) (i : Int) (y : V), x = .ref l ∧ vs = [.int i, y] ∧ H l = some (.lst xs) ∧ xs.length < sizeLine ∧ 0 ≤ i ∧ i < 2 ^ 63 ∧ Q .non (upd H l (.lst (xs.take i.toNat ++ [y] ++ xs.drop i.toNat))))
    (q : ∀ H1, Ex H H1 → D.nx σ (upd H1 l (.lst (xs.take i.toNat ++ [y] ++ xs.drop i.toNat)))) : tDrop (tBM K "list" r ta (tCons tb (tCons tc tNil))) D σ H := by
  subst hr
  refine ha H (Ex.refl H) _ fun H1 e1 => ⟨.inl ⟨rfl, xs, sq_of (e1 l _ hl)⟩, ?_⟩
  refine hb H1 e1 _ fun H2 e2 => hc H2 (e1.trans e2) _ fun H3 e3 => ?_
  exact ⟨l, xs, i, y, rfl, rfl, ((e1.trans e2).trans e3) l _ hl, sz_lt hz, h0, by omega, q H3 ((e1.trans e2).trans e3)⟩
theorem ok_l_set (T : Txt K mg base) : FnOk P w K mg base CX0 1 T.a_l_set T.d_l_set ["_law_number", "_law_before"] (SpR (D_l_set K)) := by
  refine T.F_l_set.ok sc_l_set (fun vs H Q E h => ?_) (fun cdv A outer s H vs Q E hr h => ?_)
  · obtain ⟨v, ⟨b, c, ls, m, rfl, _⟩, _⟩ := h
    rfl
  · obtain ⟨v, ⟨b, c, ls, m, rfl, hb, lz, hat, hls, m6, m1, rfl⟩, q⟩ := h
    refine ⟨_, (pss_cons (ps_setLc (i := 2) (own := [("_law_k", 3)]) (g := gName 3) rfl sc_l_set.nd rfl rfl (sw_true rfl rfl rfl (by decide +kernel)) (pi_range1 (by rfl) T.z_range (pa_cons pe_int pa_nil)) (blkOk_by (N := ["_law_number", "_law_before", "_law_words", "_law_k", "_law_way", "_law_sign", "_law_got", "_law_word"]) (sc := defScope s_l_set) (by decide +kernel)) (fun _ _ _ _ _ => (pg_name (i := 3) sc_l_set.nd rfl (Or.inl rfl))) (fun _ _ _ _ _ => (pts_one (pt_cmpR op_eq (pe_op op_mod (pe_op op_fdiv (pv 0) (pe_op op_shl pe_int (pv 3))) pe_int) pe_int (nomark _)))) (fun _ _ _ _ _ => (pe_ix (show IxR _ (rIxL K) from ix_list) (pe_lst (pa_cons pe_str (pa_cons pe_str (pa_cons pe_str (pa_cons pe_str (pa_cons pe_str (pa_cons pe_str (pa_cons pe_str pa_nil)))))))) (pv 3) (fun _ _ => rfl))))
      (pss_cons (ps_set (i := 4) sc_l_set.nd rfl (.inl rfl) (pe_op op_mod (pe_op op_fdiv (pv 0) pe_int) pe_int))
      (pss_cut (ps_if (PW.pt (pw_and (pt_cmpR op_lt (pv 4) pe_int (nomark _)) (pw_and1 (pt_cmpR (op_neNil hr.units) (pv 1) (pe_lst pa_nil) (nomark _)))))
      (pss_cons (ps_set (i := 2) sc_l_set.nd rfl (.inl rfl) (pe_callTy call_list_of (by rfl) T.z_list (by decide +kernel) (pa_cons (pe_ix ix_list (pv 1) (pe_op op_mod (pe_op op_fdiv (pv 0) pe_int) (pe_callB call_len_seq (by rfl) T.z_len (by decide +kernel) (pa_cons (pv 1) pa_nil))) (fun _ _ => rfl)) pa_nil)))
      (pss_cut (ps_if (pt_cmpR op_eq (pv 4) pe_int (nomark _))
      (pss_one (ps_set (i := 2) sc_l_set.nd rfl (.inl rfl) (pe_slice sl_list (pv 2) po_none (po_some (pe_op op_sub (pe_callB call_len_seq (by rfl) T.z_len (by decide +kernel) (pa_cons (pv 2) pa_nil)) pe_int)))))
      pss_nil)
      (pss_one (ps_if (pt_cmpR op_eq (pv 4) pe_int (nomark _))
      (pss_cons (ps_set (i := 5) sc_l_set.nd rfl (.inl rfl) (pe_ix ix_str pe_str (pe_op op_mod (pe_op op_fdiv (pv 0) pe_int) pe_int) (fun _ _ => rfl)))
      (pss_one (ps_expr (pe_bm PySem.F.plainAttrs_list PySem.F.slot_list_append PySem.F.type_list_append mt_append (pv 2) (pa_cons (pe_op op_mulS (pv 5) (pe_op op_add pe_int (pe_op op_mod (pe_op op_fdiv (pv 0) pe_int) pe_int))) pa_nil)))))
      pss_nil))))
      pss_nil)
      (pss_cons (ps_set (i := 6) sc_l_set.nd rfl (.inl rfl) (pe_lst pa_nil))
      (pss_cons (ps_for PassesOwn.never rfl (pi_list (pv 2)) (pg_name (i := 7) sc_l_set.nd rfl (.inl rfl))
      (pss_one (ps_if (pt_cmpR op_notIn_seq (pv 7) (pv 6) (by rfl))
      (pss_one (ps_expr (pe_bm PySem.F.plainAttrs_list PySem.F.slot_list_insert PySem.F.type_list_insert mt_insert (pv 6) (pa_cons (pe_op op_mod (pe_op op_fdiv (pv 0) (pe_op op_add (pe_callB call_len_seq (by rfl) T.z_len (by decide +kernel) (pa_cons (pv 6) pa_nil)) pe_int)) (pe_op op_add (pe_callB call_len_seq (by rfl) T.z_len (by decide +kernel) (pa_cons (pv 6) pa_nil)) pe_int)) (pa_cons (pv 7) pa_nil)))))
      pss_nil)))
      (pss_one (ps_ret (pv 6)))))))), ?_⟩
    have pow : ∀ i : Nat, i < 7 → (0 : Int) < 1 * 2 ^ (i : Int).toNat ∧ (1 : Int) * 2 ^ (i : Int).toNat < 1073741824 := by decide
    refine q_asgL (xs := (((List.range 7).filter fun i : Nat => decide (c / (1 * 2 ^ (i : Int).toNat) % 2 = 1)).map fun i => names7.getD i "").map V.str) (el_is (MuRn.el_lcRF (n := 7) (fun i : Nat => decide (c / (1 * 2 ^ (i : Int).toNat) % 2 = 1)) (fun i => .str (names7.getD i "")) (ea_cons ev_c ea_nil) (by decide) (by decide) (fun _ => rfl)
      (fun i H1 e1 hi => et_test (ev_op (ev_op (ev_op (ev_var rfl) (ev_op ev_c (ev_var rfl) (rv_I ⟨by omega, by omega, by decide⟩)) (rv_I (pow i hi))) ev_c (rv_I (by decide))) ev_c rv_eqI))
      fun i H1 e1 hi => ev_ixNew (K := K) (xs := names7.map V.str) (el_lst (ea_cons ev_c (ea_cons ev_c (ea_cons ev_c (ea_cons ev_c (ea_cons ev_c (ea_cons ev_c (ea_cons ev_c ea_nil))))))) (by decide)) (ev_var rfl) (atI_nat (by
        have lt : i < names7.length := hi
        rw [List.getElem?_map, List.getElem?_eq_getElem lt, List.getD_eq_getElem?_getD, List.getElem?_eq_getElem lt]
        rfl))) (by rw [List.map_map]; rfl)) fun p1 H1 hp1 e1 h1 => ?_
    have ok1 : ∀ u ∈ ((List.range 7).filter fun i : Nat => decide (c / (1 * 2 ^ (i : Int).toNat) % 2 = 1)).map fun i => names7.getD i "", WordOk u := fun u mu => by
      obtain ⟨i, mi, rfl⟩ := List.mem_map.mp mu
      have lt : i < names7.length := List.mem_range.mp (List.mem_filter.mp mi).1
      rw [List.getD_eq_getElem?_getD, List.getElem?_eq_getElem lt]
      exact names7_ok _ (List.getElem_mem lt)
    have z1 : (((List.range 7).filter fun i : Nat => decide (c / (1 * 2 ^ (i : Int).toNat) % 2 = 1)).map fun i => names7.getD i "").length ≤ m + 1 := by
      rw [List.length_map]
      have := List.length_filter_le (fun i : Nat => decide (c / (1 * 2 ^ (i : Int).toNat) % 2 = 1)) (List.range 7)
      rw [List.length_range] at this
      omega
    generalize (((List.range 7).filter fun i : Nat => decide (c / (1 * 2 ^ (i : Int).toNat) % 2 = 1)).map fun i => names7.getD i "") = us1 at h1 ok1 z1
    refine q_asg (v := .int (c / 128 % 6)) (ev_op (ev_op (ev_var rfl) ev_c (rv_I ⟨by decide, by decide⟩)) ev_c (rv_I (by decide))) fun H2 e2 => ?_
    have e12 := e1.trans e2
    refine q_cut (M := fun σ' H' => Ex H H' ∧ ∃ (p : Addr) (us : List Str), TxL H' p us ∧ (∀ u ∈ us, WordOk u) ∧ us.length ≤ m + 1 ∧ ∃ x3 x4 x5 x6 x7, σ' = [some (.int c), some (.ref b), some (.ref p), x3, x4, x5, x6, x7]) ?_ fun σ' H' hm => ?_
    · refine s_when (b := decide (c / 128 % 6 < 3) && !(ls.map fun p => V.ref p.1).isEmpty) (et_and (et_test (ev_op (ev_var rfl) ev_c rv_I0)) fun _ => et_test (ev_neNil (ev_var rfl) (sq_of (e12 b _ hb)) (el_lst ea_nil (by decide)))) (fun hb1 H3 e3 => ?_) (fun hb1 H3 e3 => ⟨e12.trans e3, p1, us1, (e2.trans e3) _ _ h1, ok1, z1, _, _, _, _, _, rfl⟩)
      have hne : (ls.map fun p => V.ref p.1) ≠ [] := fun z => by
        rw [z] at hb1
        simp at hb1
      obtain ⟨x, hx, mx⟩ := atI_emod (n := c / 1024) hne
      obtain ⟨pr, mpr, rfl⟩ := List.mem_map.mp mx
      have e13 := e12.trans e3
      have npos : (0 : Int) < ((ls.map fun p => V.ref p.1).length : Int) := by
        have := List.length_pos_iff.mpr hne
        omega
      obtain ⟨okp, zp⟩ := hls pr mpr
      refine q_asgL (xs := pr.2.map V.str) (el_list (K := K) (ev_op (ev_var rfl) (ev_op (ev_op (ev_var rfl) ev_c (rv_I ⟨by decide, by decide⟩)) (ev_len (ev_var rfl) (sq_of (e13 b _ hb))) (rv_I npos)) (rv_ixL (sq_of (e13 b _ hb)) hx)) (sq_of (e13 _ _ (hat pr mpr)))) fun p3 H4 hp3 e4 h4 => ?_
      have e14 := e13.trans e4
      have hp30 : H p3 = none := fresh_back e13 hp3
      obtain ⟨cs, ecs, sub⟩ := cutV_mapS pr.2 none (some (((pr.2.map V.str).length : Int) - 1))
      refine q_cut (M := fun σ' H' => Ex H H' ∧ ∃ (p : Addr) (us : List Str), H p = none ∧ TxL H' p us ∧ (∀ u ∈ us, WordOk u) ∧ us.length ≤ m ∧ ∃ x3 x5 x6 x7, σ' = [some (.int c), some (.ref b), some (.ref p), x3, some (.int (c / 128 % 6)), x5, x6, x7]) ?_ fun σ' H' hm => ?_
      · refine s_when (b := decide (c / 128 % 6 = 1)) (et_test (ev_op (ev_var rfl) ev_c rv_eqI)) (fun _ H5 e5 => ?_) (fun _ H5 e5 => ⟨e14.trans e5, p3, pr.2, hp30, e5 _ _ h4, okp, zp, _, _, _, _, rfl⟩)
        refine s_asgL (xs := cs.map V.str) (el_is (el_sl (K := K) (ev_var rfl) eo_none (eo_some (ev_op (ev_len (ev_var rfl) (sq_of (e5 _ _ h4))) ev_c rv_I0)) (sq_of (e5 _ _ h4))) ecs) fun p6 H6 hp6 e6 h6 => ⟨(e14.trans e5).trans e6, p6, cs, fresh_back (e14.trans e5) hp6, h6, fun u mu => okp u (sub.subset mu), Nat.le_trans sub.length_le zp, _, _, _, _, rfl⟩
      · obtain ⟨e5, p, us, hp, hu, oku, zu, x3, x5, x6, x7, rfl⟩ := hm
        refine s_when (b := decide (c / 128 % 6 = 2)) (et_test (ev_op (ev_var rfl) ev_c rv_eqI)) (fun _ H6 e6 => ?_) (fun _ H6 e6 => ⟨e5.trans e6, p, us, e6 _ _ hu, oku, by omega, _, _, _, _, _, rfl⟩)
        refine q_asg (v := .str ⟨#[sgn (c / 300000)]⟩) (ev_op ev_c (ev_op (ev_op (ev_var rfl) ev_c (rv_I ⟨by decide, by decide⟩)) ev_c (rv_I (by decide))) (rv_ixS (by decide +kernel) (sgn_at _))) fun H7 e7 => ?_
        have r0 : 0 ≤ c / 8192 % 30 := Int.emod_nonneg _ (by decide)
        have r1 : c / 8192 % 30 < 30 := Int.emod_lt_of_pos _ (by decide)
        refine s_app (xs := us.map V.str) (v := .str (Txt.mul ⟨#[sgn (c / 300000)]⟩ (1 + c / 8192 % 30))) ((e6.trans e7) _ _ hu) (ev_var rfl) (ev_op (ev_var rfl) (ev_op ev_c (ev_op (ev_op (ev_var rfl) ev_c (rv_I ⟨by decide, by decide⟩)) ev_c (rv_I (by decide))) rv_I0) (MuEd.rv_mulS (by show 1 ≤ 1000; decide) (by omega) (by omega))) (by rw [List.length_map]; omega) fun H8 e8 => ?_
        refine ⟨Ex.mut ((e5.trans e6).trans (e7.trans e8)) hp, p, us ++ [Txt.mul ⟨#[sgn (c / 300000)]⟩ (1 + c / 8192 % 30)], by rw [TxL, upd_same, List.map_append]; rfl, fun u mu => ?_, by rw [List.length_append]; show us.length + 1 ≤ m + 1; omega, _, _, _, _, _, rfl⟩
        rcases List.mem_append.mp mu with mu | mu
        · exact oku u mu
        · rw [List.mem_singleton.mp mu]
          have := muls_ok _ (sgn_in (c / 300000)) (c / 8192 % 30).toNat (List.mem_range.mpr (by omega))
          rw [show (((c / 8192 % 30).toNat : Nat) : Int) = c / 8192 % 30 by omega] at this
          exact this
    · obtain ⟨e3, p, us, hu, oku, zu, x3, x4, x5, x6, x7, rfl⟩ := hm
      refine q_asgL (xs := []) (el_lst ea_nil (by decide)) fun g H4 hg e4 h4 => ?_
      have hg0 := fresh_back e3 hg
      have flat : ∀ l : List Str, ((l.map V.str).all flatV) = true := fun l => by
        rw [List.all_map]
        exact List.all_eq_true.mpr fun _ _ => rfl
      have pg : p ≠ g := fun z => by
        have hh : H' p = some _ := hu
        rw [z, hg] at hh
        exact nomatch hh
      refine q_forLn (K := K) (a := p) (xs := us.map V.str) (ev_var rfl) (sq_of (e4 _ _ hu)) (fun n σ' H' => Ex H H' ∧ TxL H' p us ∧ ∃ ws : List Str, TxL H' g ws ∧ ws.Nodup ∧ (∀ u ∈ ws, WordOk u) ∧ ws.length ≤ n ∧ ∃ x7, σ' = [some (.int c), some (.ref b), some (.ref p), x3, x4, x5, some (.ref g), x7])
        (fun H5 e5 => ⟨(e3.trans e4).trans e5, (e4.trans e5) _ _ hu, [], e5 _ _ h4, List.nodup_nil, (fun _ y => nomatch y), Nat.le_refl _, _, rfl⟩) (fun n σ' H' _ hq => sq_of hq.2.1) (fun n x σ' H' hx hq => ?_) (fun σ' H' hq => ?_)
      · obtain ⟨e5, hu5, ws, hw, nd, okw, zw, x7, rfl⟩ := hq
        obtain ⟨u, gu, rfl⟩ := str_at hx
        have mu := List.mem_of_getElem? gu
        have ln := (List.getElem?_eq_some_iff.mp gu).1
        refine s_when (b := !decide (u ∈ ws)) (et_test (ev_is (ev_op (ev_var rfl) (ev_var rfl) (rv_niL (sq_of hw) rfl (flat ws))) (by rw [inV_str]))) (fun hb2 H6 e6 => ?_) (fun hb2 H6 e6 => ⟨e5.trans e6, e6 _ _ hu5, ws, e6 _ _ hw, nd, okw, by omega, _, rfl⟩)
        have nin : u ∉ ws := by simpa using hb2
        have ze : ((ws.map V.str).length : Int) = (ws.length : Int) := by rw [List.length_map]
        have r0 : 0 ≤ c / ((ws.length : Int) + 3) % ((ws.length : Int) + 1) := Int.emod_nonneg _ (by omega)
        have r1 : c / ((ws.length : Int) + 3) % ((ws.length : Int) + 1) < (ws.length : Int) + 1 := Int.emod_lt_of_pos _ (by omega)
        refine s_insS (e6 _ _ hw) (ev_var rfl) (i := c / ((ws.length : Int) + 3) % ((ws.length : Int) + 1)) (ev_op (ev_op (ev_var rfl) (ev_op (ev_is (ev_len (ev_var rfl) (sq_of (e6 _ _ hw))) (congrArg V.int ze)) ev_c rv_I0) (rv_I ⟨by omega, by omega⟩)) (ev_op (ev_is (ev_len (ev_var rfl) (sq_of (e6 _ _ hw))) (congrArg V.int ze)) ev_c rv_I0) (rv_I (by omega))) (ev_var rfl) r0 (by omega) (by rw [List.length_map]; omega) rfl fun H7 e7 => ?_
        obtain ⟨ys, ey, pm⟩ := ins_mapS ws (c / ((ws.length : Int) + 3) % ((ws.length : Int) + 1)).toNat u
        rw [ey]
        have mem : ∀ v ∈ ys, v ∈ ws ∨ v = u := fun v mv => (List.mem_append.mp (pm.mem_iff.mp mv)).imp (fun h => h) fun h => List.mem_singleton.mp h
        refine ⟨Ex.mut ((e5.trans e6).trans e7) hg0, (upd_ne pg).trans ((e6.trans e7) _ _ hu5), ys, upd_same, pm.nodup_iff.mpr (List.nodup_append.mpr ⟨nd, by simp, fun x hx2 y hy2 z => ?_⟩), fun v mv => ?_, by rw [pm.length_eq, List.length_append]; show ws.length + 1 ≤ n + 1; omega, _, rfl⟩
        · rw [List.mem_singleton] at hy2
          rw [z, hy2] at hx2
          exact nin hx2
        · rcases mem v mv with h | rfl
          · exact okw v h
          · exact oku _ mu
      · obtain ⟨e5, hu5, ws, hw, nd, okw, zw, x7, rfl⟩ := hq
        rw [List.length_map] at zw
        exact s_ret (v := .ref g) (ev_var rfl) fun H6 e6 => q _ _ (e5.trans e6) ⟨g, ws, rfl, hg0, e6 _ _ hw, nd, okw, by omega⟩

def D_l_lot (K : PySem.W.Frag) : Hp → List V → (V → Hp → Prop) → Prop := fun H vs R => ∃ (s : Addr) (ns : List Int) (st mo : Nat), vs = [.ref s, .int (st : Int), .int (mo : Int)] ∧ SqL K H s (ns.map V.int) ∧ st ≤ 100 ∧ mo ≤ 45 ∧ R = fun v H' => ∃ (p : Addr) (ls : List (Addr × List Str)), v = .ref p ∧ H p = none ∧ H' p = some (.lst (ls.map fun p => V.ref p.1)) ∧ LotAt H' ls ∧ ls.length ≤ mo ∧ ∀ c ∈ ls, H c.1 = none ∧ c.1 ≠ p ∧ c.2.Nodup ∧ (∀ u ∈ c.2, WordOk u) ∧ c.2.length ≤ 6 + mo
theorem ok_l_lot (T : Txt K mg base) : FnOk P w K mg base CX0 2 T.a_l_lot T.d_l_lot ["_law_script", "_law_start", "_law_most"] (SpR (D_l_lot K)) := by
  refine T.F_l_lot.ok sc_l_lot (fun vs H Q E h => ?_) (fun cdv A outer s H vs Q E hr h => ?_)
  · obtain ⟨v, ⟨s, ns, st, mo, rfl, _⟩, _⟩ := h
    rfl
  · obtain ⟨v, ⟨s, ns, st, mo, rfl, hs, zs, zm, rfl⟩, q⟩ := h
    refine ⟨_, (pss_cons (ps_set (i := 3) sc_l_lot.nd rfl (.inl rfl) (pe_lst pa_nil))
      (pss_cons (ps_set (i := 4) sc_l_lot.nd rfl (.inl rfl) (pe_call (ok_l_mix T) (hr.mono (by decide)) rfl T.g_l_mix T.F_l_mix.kp T.b_l_mix .nil pass0 (pa_cons (pe_call (ok_l_cell_at T) (hr.mono (by decide)) rfl T.g_l_cell_at T.F_l_cell_at.kp T.b_l_cell_at .nil pass0 (pa_cons (pv 0) (pa_cons (pv 1) pa_nil))) (pa_cons pe_int pa_nil))))
      (pss_cons (ps_for PassesOwn.never rfl (pi_range1 (by rfl) T.z_range (pa_cons (pe_op op_mod (pv 4) (pe_op op_add (pv 2) pe_int)) pa_nil)) (pg_name (i := 5) sc_l_lot.nd rfl (.inl rfl))
      (pss_one (ps_expr (pe_bm PySem.F.plainAttrs_list PySem.F.slot_list_append PySem.F.type_list_append mt_append (pv 3) (pa_cons (pe_call (ok_l_set T) (hr.mono (by decide)) rfl T.g_l_set T.F_l_set.kp T.b_l_set .nil pass0 (pa_cons (pe_call (ok_l_mix T) (hr.mono (by decide)) rfl T.g_l_mix T.F_l_mix.kp T.b_l_mix .nil pass0 (pa_cons (pe_call (ok_l_cell_at T) (hr.mono (by decide)) rfl T.g_l_cell_at T.F_l_cell_at.kp T.b_l_cell_at .nil pass0 (pa_cons (pv 0) (pa_cons (pe_op op_add (pe_op op_add (pv 1) pe_int) (pe_op op_fdiv (pv 5) pe_int)) pa_nil))) (pa_cons (pe_op op_mod (pv 5) pe_int) pa_nil))) (pa_cons (pv 3) pa_nil))) pa_nil)))))
      (pss_one (ps_ret (pv 3)))))), ?_⟩
    refine q_asgL (xs := []) (el_lst ea_nil (by decide)) fun p H1 hp0 e1 h1 => ?_
    generalize hc : mix (ns.getD st 0) 0 = c
    refine q_asg (v := .int c) (ev_is (ev_callV (vs := [.int (ns.getD st 0), .int ((0 : Nat) : Int)]) (ea_cons (ev_callV (vs := [.ref s, .int (st : Int)]) (ea_cons (ev_var rfl) (ea_cons (ev_var rfl) ea_nil)) fun _ e => ⟨s, ns, st, rfl, ex_l (e1.trans e) hs, rfl⟩) (ea_cons ev_c ea_nil)) fun _ _ => ⟨_, 0, rfl, by decide, rfl⟩) (congrArg V.int hc)) fun H2 e2 => ?_
    have e12 := e1.trans e2
    have r0 : 0 ≤ c % ((mo : Int) + 1) := Int.emod_nonneg _ (by omega)
    have r1 : c % ((mo : Int) + 1) < (mo : Int) + 1 := Int.emod_lt_of_pos _ (by omega)
    obtain ⟨n, hn⟩ : ∃ n : Nat, c % ((mo : Int) + 1) = (n : Int) := ⟨_, (Int.toNat_of_nonneg r0).symm⟩
    refine q_forR1 (n := (n : Int)) (ea_cons (ev_is (ev_op (ev_var rfl) (ev_op (ev_var rfl) ev_c rv_I0) (rv_I (by omega))) (congrArg V.int hn)) ea_nil) (by omega)
      (fun i σ' H' => Ex H H' ∧ ∃ ls : List (Addr × List Str), H' p = some (.lst (ls.map fun p => V.ref p.1)) ∧ LotAt H' ls ∧ ls.length = i ∧ (∀ c ∈ ls, H c.1 = none ∧ c.1 ≠ p ∧ c.2.Nodup ∧ (∀ u ∈ c.2, WordOk u) ∧ c.2.length ≤ 6 + i) ∧ ∃ x5, σ' = [some (.ref s), some (.int (st : Int)), some (.int (mo : Int)), some (.ref p), some (.int c), x5])
      (fun H5 e5 => ⟨e12.trans e5, [], (e2.trans e5) p _ h1, (fun _ y => nomatch y), rfl, (fun _ y => nomatch y), _, rfl⟩) (fun i σ' H' hi hq => ?_) (fun σ' H' hq => ?_)
    · obtain ⟨e3, ls, hl, hat, len, hnew, x5, rfl⟩ := hq
      generalize hd : mix (ns.getD (st + 1 + i / 8) 0) (i % 8) = d
      refine s_appX (R := RSetW H' (6 + i)) hl (ev_var rfl) (evx_call (vs := [.int d, .ref p]) (ea_cons (ev_is (ev_callV (vs := [.int (ns.getD (st + 1 + i / 8) 0), .int ((i % 8 : Nat) : Int)]) (ea_cons (ev_callV (vs := [.ref s, .int ((st + 1 + i / 8 : Nat) : Int)]) (ea_cons (ev_var rfl) (ea_cons (ev_is (ev_op (ev_op (ev_var rfl) ev_c rv_I0) (ev_op (ev_var rfl) ev_c (rv_I ⟨by decide, by decide⟩)) rv_I0) (by congr 1)) ea_nil)) fun _ e => ⟨s, ns, st + 1 + i / 8, rfl, ex_l (e3.trans e) hs, rfl⟩) (ea_cons (ev_is (ev_op (ev_var rfl) ev_c (rv_I (by decide))) (by congr 1)) ea_nil)) fun _ _ => ⟨_, i % 8, rfl, by omega, rfl⟩) (congrArg V.int hd)) (ea_cons (ev_var rfl) ea_nil))
        fun H2 e4 => ⟨_, ⟨p, d, ls, 6 + i, rfl, e4 _ _ hl, by omega, hat.later e4, fun c mc => (hnew c mc).2.2.2, by omega, by omega, rfl⟩, fun v H3 e5 r => ?_⟩) (by rw [List.length_map]; omega) fun v H2 e4 r => ?_
      · obtain ⟨g, us, rfl, hg, r⟩ := r
        exact ⟨g, us, rfl, fresh_back e4 hg, r⟩
      · obtain ⟨g, us, rfl, hg, h3, nd, ok, zu⟩ := r
        have gp : g ≠ p := fun z => by
          rw [z, hl] at hg
          exact nomatch hg
        refine ⟨Ex.mut (e3.trans e4) hp0, ls ++ [(g, us)], by rw [upd_same, List.map_append]; rfl, fun y hy => ?_, by simp [len], fun y hy => ?_, _, rfl⟩
        · rcases List.mem_append.mp hy with hy | hy
          · exact (upd_ne (hnew y hy).2.1).trans (e4 _ _ (hat y hy))
          · obtain rfl := List.mem_singleton.mp hy
            exact (upd_ne gp).trans h3
        · rcases List.mem_append.mp hy with hy | hy
          · obtain ⟨a1, a2, a3, a4, a5⟩ := hnew y hy
            exact ⟨a1, a2, a3, a4, by omega⟩
          · obtain rfl := List.mem_singleton.mp hy
            exact ⟨fresh_back e3 hg, gp, nd, ok, by show us.length ≤ _; omega⟩
    · obtain ⟨e3, ls, hl, hat, len, hnew, x5, rfl⟩ := hq
      refine s_ret (v := .ref p) (ev_var rfl) fun H2 e4 => q _ _ (e3.trans e4) ⟨p, ls, rfl, hp0, e4 p _ hl, hat.later e4, by omega, fun y hy => ?_⟩
      obtain ⟨a1, a2, a3, a4, a5⟩ := hnew y hy
      exact ⟨a1, a2, a3, a4, by omega⟩

def D_l_within (K : PySem.W.Frag) : Hp → List V → (V → Hp → Prop) → Prop := fun H vs R => ∃ (b : Addr) (ls : List (Addr × List Str)), vs = [.ref b] ∧ H b = some (.lst (ls.map fun p => V.ref p.1)) ∧ LotAt H ls ∧ ls.length ≤ 100 ∧ (∀ c ∈ ls, c.2.length ≤ 1000) ∧ R = fun v H' => ∃ D : Addr, v = .ref D ∧ H D = none ∧ MuWi.PLs (MuWi.witN (ls.map (·.2))) D H'
theorem ok_l_within (T : Txt K mg base) : FnOk P w K mg base CX0 1 T.a_l_within T.d_l_within ["_law_lot_here"] (SpR (D_l_within K)) := by
  refine T.F_l_within.ok sc_l_within (fun vs H Q E h => ?_) (fun cdv A outer s H vs Q E hr h => ?_)
  · obtain ⟨v, ⟨b, ls, rfl, _⟩, _⟩ := h
    rfl
  · obtain ⟨v, ⟨b, ls, rfl, hb, hat, hz, hls, rfl⟩, q⟩ := h
    refine ⟨_, (pss_cons (ps_set (i := 1) sc_l_within.nd rfl (.inl rfl) (pe_lst pa_nil))
      (pss_cons (ps_for PassesOwn.never rfl (pi_range1 (by rfl) T.z_range (pa_cons (pe_callB call_len_seq (by rfl) T.z_len (by decide +kernel) (pa_cons (pv 0) pa_nil)) pa_nil)) (pg_name (i := 2) sc_l_within.nd rfl (.inl rfl))
      (pss_one (ps_for PassesOwn.never rfl (pi_range1 (by rfl) T.z_range (pa_cons (pe_callB call_len_seq (by rfl) T.z_len (by decide +kernel) (pa_cons (pv 0) pa_nil)) pa_nil)) (pg_name (i := 3) sc_l_within.nd rfl (.inr rfl))
      (pss_cons (ps_setLc (i := 4) (own := [("_law_word", 5)]) (g := gName 5) rfl sc_l_within.nd rfl rfl (sw_true rfl rfl rfl (by decide +kernel)) (pi_list (pe_ix ix_list (pv 0) (pv 2) (fun _ _ => rfl))) (blkOk_by (N := ["_law_lot_here", "_law_got", "_law_i", "_law_j", "_law_lacking", "_law_word"]) (sc := defScope s_l_within) (by decide +kernel)) (fun _ _ _ _ _ => (pg_name (i := 5) sc_l_within.nd rfl (Or.inl rfl))) (fun _ _ _ _ _ => (pts_one (pt_cmpR (show OpR _ (compareOp .NotIn) (rIn K true) from op_notIn_seq) (pv 5) (pe_ix (show IxR _ (rIxL K) from ix_list) (pv 0) (pv 3) (fun _ _ => rfl)) (by rfl)))) (fun _ _ _ _ _ => (pv 5)))
      (pss_one (ps_if (PW.pt (pw_and (pt_cmpR op_ne (pv 2) (pv 3) (nomark _)) (pw_and1 (pt_cmpR (MuNr.op_eqNil hr.units) (pv 4) (pe_lst pa_nil) (nomark _)))))
      (pss_one (ps_expr (pe_bm PySem.F.plainAttrs_list PySem.F.slot_list_append PySem.F.type_list_append mt_append (pv 1) (pa_cons (pe_tup (pa_cons (pv 2) (pa_cons (pv 3) pa_nil))) pa_nil))))
      pss_nil))))))
      (pss_one (ps_ret (pv 1))))), ?_⟩
    generalize hus : ls.map (·.2) = us at q
    have zus : us.length = ls.length := by rw [← hus, List.length_map]
    have len : ∀ {H' : Hp} {σ' : L2.St}, Ex H H' → σ'[0]? = some (some (.ref b)) → Ev (tCB (rLenS K) (tCons (tVar 0) tNil)) σ' H' (.int (us.length : Int)) := fun {H' σ'} e h1 => ev_is (ev_len (ev_var h1) (sq_of (e _ _ hb))) (by rw [List.length_map, zus])
    have at_ : ∀ {n : Nat}, n < us.length → ∃ c ∈ ls, (ls.map fun p => V.ref p.1)[n]? = some (.ref c.1) ∧ us.getD n [] = c.2 := fun {n} lt => by
      have l2 : n < ls.length := by omega
      refine ⟨ls[n], List.getElem_mem _, by rw [List.getElem?_map, List.getElem?_eq_getElem l2]; rfl, ?_⟩
      have : us[n]? = some ls[n].2 := by
        rw [← hus, List.getElem?_map, List.getElem?_eq_getElem l2]
        rfl
      rw [List.getD_eq_getElem?_getD, this]
      rfl
    refine q_asgL (xs := []) (el_lst ea_nil (by simp)) fun p H1 hp e1 h1 => ?_
    have zall : ∀ n l, n ≤ us.length → l ≤ us.length → ((MuLc.allG n us.length ++ (List.range l).map fun l => (n, l)).filter (MuWi.witB us)).length ≤ 20000 := fun n l hn hl => by
      refine Nat.le_trans (List.length_filter_le _ _) ?_
      have a2 := MuLc.allG_len n us.length
      have a3 : n * us.length ≤ 100 * 100 := Nat.mul_le_mul (by omega) (by omega)
      rw [List.length_append, List.length_map, List.length_range]
      omega
    refine q_forR1 (n := (us.length : Int)) (ea_cons (len e1 rfl) ea_nil) (by omega)
      (fun n σ' H' => Ex H H' ∧ MuWi.PLs ((MuLc.allG n us.length).filter (MuWi.witB us)) p H' ∧ ∃ x2 x3 x4 x5, σ' = [some (.ref b), some (.ref p), x2, x3, x4, x5])
      (fun H2 e2 => ⟨e1.trans e2, ⟨[], e2 _ _ h1, rfl, fun _ m => nomatch m⟩, _, _, _, _, rfl⟩) (fun n σ' H' hn hq => ?_) (fun σ' H' hq => ?_)
    · obtain ⟨e2, hp2, x2, x3, x4, x5, rfl⟩ := hq
      have ln : n < us.length := by omega
      refine s_forR1 (n := (us.length : Int)) (ea_cons (len e2 rfl) ea_nil) (by omega)
        (fun l σ' H' => Ex H H' ∧ MuWi.PLs ((MuLc.allG n us.length ++ (List.range l).map fun l => (n, l)).filter (MuWi.witB us)) p H' ∧ ∃ x3 x4 x5, σ' = [some (.ref b), some (.ref p), some (.int (n : Int)), x3, x4, x5])
        (fun H3 e3 => ⟨e2.trans e3, by rw [List.range_zero, List.map_nil, List.append_nil]; exact hp2.later e3, _, _, _, rfl⟩) (fun l σ' H' hl hq => ?_) (fun σ' H' hq => ?_)
      · obtain ⟨e3, hp3, x3, x4, x5, rfl⟩ := hq
        have ll : l < us.length := by omega
        obtain ⟨c, mc, gc, uc⟩ := at_ ln
        obtain ⟨c2, mc2, gc2, uc2⟩ := at_ ll
        have flat : ∀ l : List Str, ((l.map V.str).all flatV) = true := fun l => by
          rw [List.all_map]
          exact List.all_eq_true.mpr fun _ _ => rfl
        have at2 : ∀ {k : Nat} {x : V}, (c.2.map V.str)[k]? = some x → x = .str (c.2.getD k "") := fun {k x} hk => by
          obtain ⟨u, hu, rfl⟩ := str_at hk
          rw [List.getD_eq_getElem?_getD, hu]
          rfl
        refine q_asgL (xs := (c.2.filter fun x => !decide (x ∈ c2.2)).map V.str) (el_is (el_lcL (a := c.1) (xs := c.2.map V.str) (fun k => !decide (c.2.getD k "" ∈ c2.2)) (fun k => .str (c.2.getD k "")) (ev_op (ev_var rfl) (ev_var rfl) (rv_ixL (sq_of (e3 _ _ hb)) (atI_nat gc))) (sq_of (e3 _ _ (hat c mc))) (by rw [List.length_map]; have := hls c mc; omega) (fun _ => rfl) (fun k x H4 e4 hk => ?_) fun k x H4 e4 hk _ => ?_) (by rw [List.length_map]; exact MuWi.given_filS (fun x => !decide (x ∈ c2.2)) c.2)) fun pl H4 hpl e4 h4 => ?_
        · rw [at2 hk]
          exact et_test (ev_is (ev_op (ev_var rfl) (ev_op (ev_var rfl) (ev_var rfl) (rv_ixL (sq_of ((e3.trans e4) _ _ hb)) (atI_nat gc2))) (rv_niL (sq_of ((e3.trans e4) _ _ (hat c2 mc2))) rfl (flat _))) (by rw [inV_str]))
        · rw [at2 hk]
          exact ev_var rfl
        · have w0 : (!decide ((n : Int) = (l : Int)) && ((c.2.filter fun x => !decide (x ∈ c2.2)).map V.str).isEmpty) = MuWi.witB us (n, l) := by
            unfold MuWi.witB
            dsimp only
            rw [uc, uc2, ← MuWi.not_in_nil, List.isEmpty_map]
            congr 1
            rw [← decide_not]
            exact decide_eq_decide.mpr ⟨fun h z => h (by omega), fun h z => h (by omega)⟩
          have snoc : (MuLc.allG n us.length ++ (List.range (l + 1)).map fun l => (n, l)).filter (MuWi.witB us) = (MuLc.allG n us.length ++ (List.range l).map fun l => (n, l)).filter (MuWi.witB us) ++ if MuWi.witB us (n, l) then [(n, l)] else [] := by
            rw [List.range_succ, List.map_append, ← List.append_assoc]
            generalize (MuLc.allG n us.length ++ (List.range l).map fun l => (n, l)) = L
            show (L ++ [(n, l)]).filter _ = _
            rw [List.filter_append, List.filter_cons]
            cases MuWi.witB us (n, l) <;> rfl
          have zl := zall n l (by omega) (by omega)
          refine s_when (b := MuWi.witB us (n, l)) (et_is (et_and (et_test (ev_op (ev_var rfl) (ev_var rfl) rv_neI)) fun _ => et_test (MuWi.ev_eqNilG (ev_var rfl) (sq_of h4) (el_lst ea_nil (by simp)))) w0) (fun hb2 H5 e5 => ?_) (fun hb2 H5 e5 => ⟨(e3.trans e4).trans e5, ?_, _, _, _, rfl⟩)
          · refine MuNr.s_appRow (w := false) (b := ((n, l), 0)) (hp3.later (e4.trans e5)) (ev_var rfl) (eu_tup (vs := [.int (n : Int), .int (l : Int)]) (ea_cons (ev_var rfl) (ea_cons (ev_var rfl) ea_nil)) (by simp)) (by rw [List.length_map]; omega) fun H6 xs ys e6 hx hp6 => ?_
            refine ⟨Ex.mut (((e3.trans e4).trans e5).trans e6) hp, ?_, _, _, _, rfl⟩
            rw [snoc, hb2]
            exact MuWi.pls_app hp6
          · rw [snoc, hb2]
            show MuWi.PLs (_ ++ []) _ _
            rw [List.append_nil]
            exact hp3.later (e4.trans e5)
      · obtain ⟨e3, hp3, x3, x4, x5, rfl⟩ := hq
        refine ⟨e3, ?_, _, _, _, _, rfl⟩
        rw [MuLc.allG_succ]
        exact hp3
    · obtain ⟨e2, hp2, x2, x3, x4, x5, rfl⟩ := hq
      exact s_ret (v := .ref p) (ev_var rfl) fun H3 e3 => q _ _ (e2.trans e3) ⟨p, rfl, hp, hp2.later e3⟩

def D_l_tops (K : PySem.W.Frag) : Hp → List V → List V → Prop := fun H vs xs => ∃ (b : Addr) (ls : List (Addr × List Str)), vs = [.ref b] ∧ H b = some (.lst (ls.map fun p => V.ref p.1)) ∧ LotAt H ls ∧ ls.length ≤ 100 ∧ (∀ c ∈ ls, c.2.length ≤ 1000 ∧ c.2.Nodup) ∧ xs = MuWi.natV (MuWi.topN (ls.map (·.2)))
theorem ok_l_tops (T : Txt K mg base) : FnOk P w K mg base CX0 2 T.a_l_tops T.d_l_tops ["_law_lot_here"] (SpLst (D_l_tops K)) := by
  refine T.F_l_tops.ok sc_l_tops (fun vs H Q E h => ?_) (fun cdv A outer s H vs Q E hr h => ?_)
  · obtain ⟨v, ⟨b, ls, rfl, _⟩, _⟩ := h
    rfl
  · obtain ⟨v, ⟨b, ls, rfl, hb, hat, hz, hls, rfl⟩, q⟩ := h
    refine ⟨_, (pss_cons (ps_set (i := 1) sc_l_tops.nd rfl (.inl rfl) (pe_lst pa_nil))
      (pss_cons (ps_set (i := 2) sc_l_tops.nd rfl (.inl rfl) (pe_call (ok_l_within T) (hr.mono (by decide)) rfl T.g_l_within T.F_l_within.kp T.b_l_within .nil pass0 (pa_cons (pv 0) pa_nil)))
      (pss_cons (ps_for PassesOwn.never rfl (pi_range1 (by rfl) T.z_range (pa_cons (pe_callB call_len_seq (by rfl) T.z_len (by decide +kernel) (pa_cons (pv 0) pa_nil)) pa_nil)) (pg_name (i := 3) sc_l_tops.nd rfl (.inr rfl))
      (pss_cons (ps_setLc (i := 4) (own := [("_law_one", 5), ("_law_j", 6)]) (g := gTup K 2 (gCons (gName 5) (gCons (gName 6) gNil))) rfl sc_l_tops.nd rfl rfl (sw_true rfl rfl rfl (by decide +kernel)) (pi_list (pv 2)) (blkOk_by (N := ["_law_lot_here", "_law_got", "_law_pairs", "_law_i", "_law_over", "_law_one", "_law_j"]) (sc := defScope s_l_tops) (by decide +kernel)) (fun _ _ _ _ _ => by exact (pg_tup (by rfl) (pgs_cons (pg_name (i := 5) sc_l_tops.nd rfl (Or.inl rfl)) (pgs_cons (pg_name (i := 6) sc_l_tops.nd rfl (Or.inl rfl)) pgs_nil)))) (fun _ _ _ _ _ => (pts_one (pt_cmpR op_eq (pv 5) (pv 3) (nomark _)))) (fun _ _ _ _ _ => (pv 6)))
      (pss_one (ps_if (pt_cmpR op_eq (pe_callB call_len_seq (by rfl) T.z_len (by decide +kernel) (pa_cons (pe_lc (own := [("_law_j", 6)]) (g := gName 6) rfl sc_l_tops.nd (pi_list (pv 4)) (blkOk_by (N := ["_law_lot_here", "_law_got", "_law_pairs", "_law_i", "_law_over", "_law_one", "_law_j"]) (sc := defScope s_l_tops) (by decide +kernel)) (fun _ _ _ _ _ => (pg_name (i := 6) sc_l_tops.nd rfl (Or.inl rfl))) (fun _ _ _ _ _ => (pts_one (PW.pt (pw_or (pt_cmpR op_gt (pe_callB (show CallR _ (.builtin "len") (fun xs H Q => ∃ (p : Addr) (ys : List V), xs = [V.ref p] ∧ (SqL K H p ys ∨ SqT K H p ys) ∧ Q (.int ys.length) H) from call_len_seq) (by rfl) T.z_len (by decide +kernel) (pa_cons (pe_ix (show IxR _ (rIxL K) from ix_list) (pv 0) (pv 6) (fun _ _ => rfl)) pa_nil)) (pe_callB (show CallR _ (.builtin "len") (fun xs H Q => ∃ (p : Addr) (ys : List V), xs = [V.ref p] ∧ (SqL K H p ys ∨ SqT K H p ys) ∧ Q (.int ys.length) H) from call_len_seq) (by rfl) T.z_len (by decide +kernel) (pa_cons (pe_ix (show IxR _ (rIxL K) from ix_list) (pv 0) (pv 3) (fun _ _ => rfl)) pa_nil)) (nomark _)) (pw_or1 (pt_cmpR op_lt (pv 6) (pv 3) (nomark _))))))) (fun _ _ _ _ _ => (pv 6))) pa_nil)) pe_int (nomark _))
      (pss_one (ps_expr (pe_bm PySem.F.plainAttrs_list PySem.F.slot_list_append PySem.F.type_list_append mt_append (pv 1) (pa_cons (pv 3) pa_nil))))
      pss_nil))))
      (pss_one (ps_ret (pv 1)))))), ?_⟩
    refine q_asgL (xs := []) (el_lst ea_nil (by simp)) fun p H1 hp e1 h1 => ?_
    refine q_asgX (R := fun v H' => ∃ D : Addr, v = .ref D ∧ H1 D = none ∧ MuWi.PLs (MuWi.witN (ls.map (·.2))) D H') (evx_call (vs := [.ref b]) (ea_cons (ev_var rfl) ea_nil) fun H2 e2 => ⟨_, ⟨b, ls, rfl, (e1.trans e2) _ _ hb, fun c m => (e1.trans e2) _ _ (hat c m), hz, fun c m => (hls c m).1, rfl⟩, fun v H3 e3 ⟨D, e, hf, h⟩ => ⟨D, e, fresh_back e2 hf, h⟩⟩) fun v H2 e2 r => ?_
    obtain ⟨D, rfl, hDn, hD⟩ := r
    have e12 := e1.trans e2
    generalize hus : ls.map (·.2) = us at q hD
    have zus : us.length = ls.length := by rw [← hus, List.length_map]
    have ndu : ∀ u ∈ us, u.Nodup := fun u m => by
      rw [← hus] at m
      obtain ⟨c, mc, rfl⟩ := List.mem_map.mp m
      exact (hls c mc).2
    have zw := MuWi.wit_len us
    have zz : us.length * us.length ≤ 100 * 100 := Nat.mul_le_mul (by omega) (by omega)
    have at_ : ∀ {n : Nat}, n < us.length → ∃ c ∈ ls, (ls.map fun p => V.ref p.1)[n]? = some (.ref c.1) ∧ us.getD n [] = c.2 := fun {n} lt => by
      have l2 : n < ls.length := by omega
      refine ⟨ls[n], List.getElem_mem _, by rw [List.getElem?_map, List.getElem?_eq_getElem l2]; rfl, ?_⟩
      have : us[n]? = some ls[n].2 := by
        rw [← hus, List.getElem?_map, List.getElem?_eq_getElem l2]
        rfl
      rw [List.getD_eq_getElem?_getD, this]
      rfl
    refine q_forR1 (n := (us.length : Int)) (ea_cons (ev_is (ev_len (K := K) (ev_var rfl) (sq_of (e12 _ _ hb))) (by rw [List.length_map, zus])) ea_nil) (by omega)
      (fun n σ' H' => Ex H H' ∧ MuWi.PLs (MuWi.witN us) D H' ∧ H' p = some (.lst (MuWi.natV ((List.range n).filter fun i => !MuWi.lowB us i))) ∧ ∃ x3 x4 x5 x6, σ' = [some (.ref b), some (.ref p), some (.ref D), x3, x4, x5, x6])
      (fun H3 e3 => ⟨e12.trans e3, hD.later e3, (e2.trans e3) _ _ h1, _, _, _, _, rfl⟩) (fun n σ' H' hn hq => ?_) (fun σ' H' hq => ?_)
    · obtain ⟨e3, hD3, h3, x3, x4, x5, x6, rfl⟩ := hq
      have ln : n < us.length := by omega
      refine q_asgL (xs := MuWi.natV (MuWi.ovL us n)) (el_is (MuWi.el_lcPs (fun p => decide (p.1 = n)) (fun p => .int (p.2 : Int)) (ev_var rfl) hD3 (by omega) (fun _ _ => rfl) (fun p H2 mp e2 => et_test (ev_is (ev_op (ev_var rfl) (ev_var rfl) rv_eqI) (congrArg V.bl (decide_eq_decide.mpr (by omega))))) fun p H2 mp e2 => ev_var rfl) (by unfold MuWi.natV MuWi.ovL; rw [List.map_map]; rfl)) fun po H4 hpo e4 h4 => ?_
      have zo := MuWi.ov_len us n
      have zno : (MuWi.natV (MuWi.ovL us n)).length = (MuWi.ovL us n).length := List.length_map ..
      have elem : ∀ {k : Nat} {x : V}, (MuWi.natV (MuWi.ovL us n))[k]? = some x → (MuWi.ovL us n).getD k 0 ∈ MuWi.ovL us n ∧ x = .int (((MuWi.ovL us n).getD k 0 : Nat) : Int) := fun {k x} hk => by
        have lt : k < (MuWi.ovL us n).length := by
          have := (List.getElem?_eq_some_iff.mp hk).1
          omega
        have e : (MuWi.ovL us n).getD k 0 = (MuWi.ovL us n)[k] := by rw [List.getD_eq_getElem?_getD, List.getElem?_eq_getElem lt]; rfl
        unfold MuWi.natV at hk
        rw [List.getElem?_map, List.getElem?_eq_getElem lt] at hk
        exact ⟨by rw [e]; exact List.getElem_mem lt, by rw [e]; exact (Option.some.inj hk).symm⟩
      obtain ⟨c, mc, gc, uc⟩ := at_ ln
      have e34 := e3.trans e4
      have cnt : (decide (((given (MuWi.natV (MuWi.ovL us n)).length (fun k => MuWi.upF us n ((MuWi.ovL us n).getD k 0)) fun k => V.int (((MuWi.ovL us n).getD k 0 : Nat) : Int)).length : Int) = 0)) = !MuWi.lowB us n := by
        rw [← MuWi.up_low ndu]
        have e5 : given (MuWi.natV (MuWi.ovL us n)).length (fun k => MuWi.upF us n ((MuWi.ovL us n).getD k 0)) (fun k => V.int (((MuWi.ovL us n).getD k 0 : Nat) : Int)) = MuWi.natV ((MuWi.ovL us n).filter (MuWi.upF us n)) := by
          have h := MuLc.keep_at (MuWi.ovL us n) 0 (MuWi.upF us n)
          unfold given MuWi.natV
          rw [List.length_map, ← h, List.map_map]
          rfl
        rw [e5]
        unfold MuWi.natV
        rw [List.length_map, Bool.eq_iff_iff, decide_eq_true_eq, List.isEmpty_iff]
        exact ⟨fun z => List.eq_nil_of_length_eq_zero (by omega), fun z => by rw [z]; rfl⟩
      refine s_when (b := !MuWi.lowB us n) (et_is (et_test (ev_op (ev_lenN (el_lcL (a := po) (xs := MuWi.natV (MuWi.ovL us n)) (fun k => MuWi.upF us n ((MuWi.ovL us n).getD k 0)) (fun k => .int (((MuWi.ovL us n).getD k 0 : Nat) : Int)) (ev_var rfl) (sq_of h4) (by omega) (fun _ => rfl) (fun k x H5 e5 hk => ?_) fun k x H5 e5 hk _ => ?_)) ev_c rv_eqI)) cnt) (fun hb2 H5 e5 => ?_) (fun hb2 H5 e5 => ⟨e34.trans e5, hD3.later (e4.trans e5), ?_, _, _, _, _, rfl⟩)
      · obtain ⟨mk, rfl⟩ := elem hk
        generalize (MuWi.ovL us n).getD k 0 = j at mk
        obtain ⟨_, lj, _⟩ := MuWi.mem_wit.mp (MuWi.mem_ov.mp mk)
        obtain ⟨c2, mc2, gc2, uc2⟩ := at_ lj
        have e05 := e34.trans e5
        refine et_is (et_or (a := decide ((c.2.length : Int) < (c2.2.length : Int))) (b := decide ((j : Int) < (n : Int))) (et_test (ev_op (ev_is (ev_len (K := K) (ev_op (ev_var rfl) (ev_var rfl) (rv_ixL (sq_of (e05 _ _ hb)) (atI_nat gc2))) (sq_of (e05 _ _ (hat c2 mc2)))) (by rw [List.length_map])) (ev_is (ev_len (K := K) (ev_op (ev_var rfl) (ev_var rfl) (rv_ixL (sq_of (e05 _ _ hb)) (atI_nat gc))) (sq_of (e05 _ _ (hat c mc)))) (by rw [List.length_map])) rv_I0)) fun _ => et_test (ev_op (ev_var rfl) (ev_var rfl) rv_I0)) ?_
        unfold MuWi.upF
        rw [uc, uc2]
        congr 1
        · exact decide_eq_decide.mpr (by omega)
        · exact decide_eq_decide.mpr (by omega)
      · obtain ⟨_, rfl⟩ := elem hk
        exact ev_var rfl
      · have h5 := (e4.trans e5) _ _ h3
        refine s_app h5 (ev_var rfl) (ev_var rfl) (by unfold MuWi.natV; rw [List.length_map]; have := List.length_filter_le (fun i => !MuWi.lowB us i) (List.range n); rw [List.length_range] at this; omega) fun H6 e6 => ?_
        have pD : D ≠ p := fun z => by
          rw [z, h1] at hDn
          exact nomatch hDn
        refine ⟨Ex.mut ((e34.trans e5).trans e6) hp, (hD3.later ((e4.trans e5).trans e6)).off (e6 _ _ h5) pD, ?_, _, _, _, _, rfl⟩
        rw [upd_same, List.range_succ, List.filter_append, List.filter_cons, hb2]
        unfold MuWi.natV
        rw [List.map_append]
        rfl
      · rw [List.range_succ, List.filter_append, List.filter_cons, hb2]
        show H5 p = some (.lst (MuWi.natV (_ ++ [])))
        rw [List.append_nil]
        exact (e4.trans e5) _ _ h3
    · obtain ⟨e3, hD3, h3, x3, x4, x5, x6, rfl⟩ := hq
      exact s_ret (v := .ref p) (ev_var rfl) fun H4 e4 => q p _ hp (e3.trans e4) (e4 _ _ h3)

def nineW : List Str := ["kind", "name", "order", "parts", "set", "share", "size", "way", "weight"]
/-- C is the class of the nine's j-th, and of no other of the twelve -/
def KindOf (T : Txt K mg base) (C : Addr) (j : Nat) : Prop := ∃ b1 b2 b3 b4 b5 b6 b7 b8 b9 : Bool, ExcC K C ∧ PySem.W.kitOne K (.ref C) (.type "ValueError") = some true ∧ PySem.W.kitOne K (.ref C) (.ref T.a_NoKind) = some b1 ∧ PySem.W.kitOne K (.ref C) (.ref T.a_NoName) = some b2 ∧ PySem.W.kitOne K (.ref C) (.ref T.a_NoOrder) = some b3 ∧ PySem.W.kitOne K (.ref C) (.ref T.a_NoParts) = some b4 ∧ PySem.W.kitOne K (.ref C) (.ref T.a_NoSet) = some b5 ∧ PySem.W.kitOne K (.ref C) (.ref T.a_NoShare) = some b6 ∧ PySem.W.kitOne K (.ref C) (.ref T.a_NoSize) = some b7 ∧ PySem.W.kitOne K (.ref C) (.ref T.a_NoWay) = some b8 ∧ PySem.W.kitOne K (.ref C) (.ref T.a_NoWeight) = some b9 ∧ PySem.W.kitAny K (.ref C) ([T.a_NoNumber, T.a_NoRow, T.a_NoText].map Value.ref) = some false ∧ [b1, b2, b3, b4, b5, b6, b7, b8, b9].count true = 1 ∧ [b1, b2, b3, b4, b5, b6, b7, b8, b9][j]? = some true
theorem kind_NoSet (T : Txt K mg base) : KindOf T T.a_NoSet 4 := ⟨false, false, false, false, true, false, false, false, false, T.x_NoSet.isi, T.v_NoSet, T.i_NoSet_NoKind, T.i_NoSet_NoName, T.i_NoSet_NoOrder, T.i_NoSet_NoParts, T.i_NoSet_NoSet, T.i_NoSet_NoShare, T.i_NoSet_NoSize, T.i_NoSet_NoWay, T.i_NoSet_NoWeight, MuX.any_no fun o m => by
  simp only [List.mem_cons, List.not_mem_nil, or_false] at m
  rcases m with rfl | rfl | rfl
  · exact T.i_NoSet_NoNumber
  · exact T.i_NoSet_NoRow
  · exact T.i_NoSet_NoText, rfl, rfl⟩
def D_l_kind (T : Txt K mg base) : Hp → List V → V → Prop := fun H vs v => (vs = [.non] ∧ v = .str "good") ∨ ∃ (a C : Addr) (j : Nat), vs = [.ref a] ∧ H a = some (MuX.ExO a C) ∧ KindOf T C j ∧ v = .str (nineW.getD j "")
theorem ok_l_kind (T : Txt K mg base) : FnOk P w K mg base CX0 1 T.a_l_kind T.d_l_kind ["_law_kept"] (SpVal (D_l_kind T)) := by
  refine T.F_l_kind.ok sc_l_kind (fun vs H Q E h => ?_) (fun cdv A outer s H vs Q E hr h => ?_)
  · obtain ⟨v, ⟨rfl, _⟩ | ⟨a, C, j, rfl, _⟩, _⟩ := h <;> rfl
  · obtain ⟨v, ⟨rfl, rfl⟩ | ⟨a, C, j, rfl, ha, hn, rfl⟩, q⟩ := h
    · refine ⟨_, (pss_cons (ps_if (pt_cmpR op_isN (pv 0) pe_non (nomark _))
      (pss_one (ps_ret pe_str))
      pss_nil)
      (pss_cons (ps_set (i := 1) sc_l_kind.nd rfl (.inl rfl) (pe_lst (pa_cons (pe_callB (show CallR _ (.builtin "isinstance") (MuX.rIsX K) from MuX.call_isX) (by rfl) T.z_isinstance (by decide +kernel) (pa_cons (pv 0) (pa_cons (pe_glob (v := .ref T.a_NoKind) rfl T.g_NoKind rfl) pa_nil))) (pa_cons (pe_callB (show CallR _ (.builtin "isinstance") (MuX.rIsX K) from MuX.call_isX) (by rfl) T.z_isinstance (by decide +kernel) (pa_cons (pv 0) (pa_cons (pe_glob (v := .ref T.a_NoName) rfl T.g_NoName rfl) pa_nil))) (pa_cons (pe_callB (show CallR _ (.builtin "isinstance") (MuX.rIsX K) from MuX.call_isX) (by rfl) T.z_isinstance (by decide +kernel) (pa_cons (pv 0) (pa_cons (pe_glob (v := .ref T.a_NoOrder) rfl T.g_NoOrder rfl) pa_nil))) (pa_cons (pe_callB (show CallR _ (.builtin "isinstance") (MuX.rIsX K) from MuX.call_isX) (by rfl) T.z_isinstance (by decide +kernel) (pa_cons (pv 0) (pa_cons (pe_glob (v := .ref T.a_NoParts) rfl T.g_NoParts rfl) pa_nil))) pa_nil))))))
      (pss_cons (ps_set (i := 1) sc_l_kind.nd rfl (.inl rfl) (pe_op op_cat (pv 1) (pe_lst (pa_cons (pe_callB (show CallR _ (.builtin "isinstance") (MuX.rIsX K) from MuX.call_isX) (by rfl) T.z_isinstance (by decide +kernel) (pa_cons (pv 0) (pa_cons (pe_glob (v := .ref T.a_NoSet) rfl T.g_NoSet rfl) pa_nil))) (pa_cons (pe_callB (show CallR _ (.builtin "isinstance") (MuX.rIsX K) from MuX.call_isX) (by rfl) T.z_isinstance (by decide +kernel) (pa_cons (pv 0) (pa_cons (pe_glob (v := .ref T.a_NoShare) rfl T.g_NoShare rfl) pa_nil))) (pa_cons (pe_callB (show CallR _ (.builtin "isinstance") (MuX.rIsX K) from MuX.call_isX) (by rfl) T.z_isinstance (by decide +kernel) (pa_cons (pv 0) (pa_cons (pe_glob (v := .ref T.a_NoSize) rfl T.g_NoSize rfl) pa_nil))) pa_nil))))))
      (pss_cons (ps_set (i := 1) sc_l_kind.nd rfl (.inl rfl) (pe_op op_cat (pv 1) (pe_lst (pa_cons (pe_callB (show CallR _ (.builtin "isinstance") (MuX.rIsX K) from MuX.call_isX) (by rfl) T.z_isinstance (by decide +kernel) (pa_cons (pv 0) (pa_cons (pe_glob (v := .ref T.a_NoWay) rfl T.g_NoWay rfl) pa_nil))) (pa_cons (pe_callB (show CallR _ (.builtin "isinstance") (MuX.rIsX K) from MuX.call_isX) (by rfl) T.z_isinstance (by decide +kernel) (pa_cons (pv 0) (pa_cons (pe_glob (v := .ref T.a_NoWeight) rfl T.g_NoWeight rfl) pa_nil))) pa_nil)))))
      (pss_cons (ps_if (PW.pt (pw_or (pt_cmpR op_ne (pe_bm PySem.F.plainAttrs_list PySem.F.slot_list_count PySem.F.type_list_count (show MtR _ "list.count" (MuX.rCntV K) from MuX.mtV_count) (pv 1) (pa_cons pe_bl pa_nil)) pe_int (nomark _)) (pw_or (pt_val (pe_callB (show CallR _ (.builtin "isinstance") (MuX.rIsXT K) from MuX.call_isXT) (by rfl) T.z_isinstance (by decide +kernel) (pa_cons (pv 0) (pa_cons (pe_tup (pa_cons (pe_glob (v := .ref T.a_NoNumber) rfl T.g_NoNumber rfl) (pa_cons (pe_glob (v := .ref T.a_NoRow) rfl T.g_NoRow rfl) (pa_cons (pe_glob (v := .ref T.a_NoText) rfl T.g_NoText rfl) pa_nil)))) pa_nil)))) (pw_or1 (pt_not (pt_val (pe_callB (show CallR _ (.builtin "isinstance") (MuX.rIsX K) from MuX.call_isX) (by rfl) T.z_isinstance (by decide +kernel) (pa_cons (pv 0) (pa_cons (pe_bltn (v := .ty "ValueError") (by rfl) T.z_ValueError (by decide +kernel) rfl) pa_nil)))))))))
      (pss_one (ps_ret pe_str))
      pss_nil)
      (pss_one (ps_ret (pe_ix ix_list (pe_lst (pa_cons pe_str (pa_cons pe_str (pa_cons pe_str (pa_cons pe_str (pa_cons pe_str (pa_cons pe_str (pa_cons pe_str (pa_cons pe_str (pa_cons pe_str pa_nil)))))))))) (pe_bm PySem.F.plainAttrs_list PySem.F.slot_list_index PySem.F.type_list_index mt_index (pv 1) (pa_cons pe_bl pa_nil)) (fun _ _ => rfl))))))))), ?_⟩
      exact q_when (b := true) (et_test (ev_op (ev_var rfl) ev_c fun H3 e3 Q q => ⟨rfl, q H3 (Ex.refl _)⟩)) (fun _ H3 e3 => s_ret ev_c fun H4 e4 => q _ (e3.trans e4)) (fun hb => nomatch hb)
    obtain ⟨b1, b2, b3, b4, b5, b6, b7, b8, b9, isi, kv, k1, k2, k3, k4, k5, k6, k7, k8, k9, no, hc, hj⟩ := hn
    refine ⟨_, (pss_cons (ps_if (pt_cmpR op_isN (pv 0) pe_non (nomark _))
      (pss_one (ps_ret pe_str))
      pss_nil)
      (pss_cons (ps_set (i := 1) sc_l_kind.nd rfl (.inl rfl) (pe_lst (pa_cons (pe_callB (show CallR _ (.builtin "isinstance") (MuX.rIsX K) from MuX.call_isX) (by rfl) T.z_isinstance (by decide +kernel) (pa_cons (pv 0) (pa_cons (pe_glob (v := .ref T.a_NoKind) rfl T.g_NoKind rfl) pa_nil))) (pa_cons (pe_callB (show CallR _ (.builtin "isinstance") (MuX.rIsX K) from MuX.call_isX) (by rfl) T.z_isinstance (by decide +kernel) (pa_cons (pv 0) (pa_cons (pe_glob (v := .ref T.a_NoName) rfl T.g_NoName rfl) pa_nil))) (pa_cons (pe_callB (show CallR _ (.builtin "isinstance") (MuX.rIsX K) from MuX.call_isX) (by rfl) T.z_isinstance (by decide +kernel) (pa_cons (pv 0) (pa_cons (pe_glob (v := .ref T.a_NoOrder) rfl T.g_NoOrder rfl) pa_nil))) (pa_cons (pe_callB (show CallR _ (.builtin "isinstance") (MuX.rIsX K) from MuX.call_isX) (by rfl) T.z_isinstance (by decide +kernel) (pa_cons (pv 0) (pa_cons (pe_glob (v := .ref T.a_NoParts) rfl T.g_NoParts rfl) pa_nil))) pa_nil))))))
      (pss_cons (ps_set (i := 1) sc_l_kind.nd rfl (.inl rfl) (pe_op op_cat (pv 1) (pe_lst (pa_cons (pe_callB (show CallR _ (.builtin "isinstance") (MuX.rIsX K) from MuX.call_isX) (by rfl) T.z_isinstance (by decide +kernel) (pa_cons (pv 0) (pa_cons (pe_glob (v := .ref T.a_NoSet) rfl T.g_NoSet rfl) pa_nil))) (pa_cons (pe_callB (show CallR _ (.builtin "isinstance") (MuX.rIsX K) from MuX.call_isX) (by rfl) T.z_isinstance (by decide +kernel) (pa_cons (pv 0) (pa_cons (pe_glob (v := .ref T.a_NoShare) rfl T.g_NoShare rfl) pa_nil))) (pa_cons (pe_callB (show CallR _ (.builtin "isinstance") (MuX.rIsX K) from MuX.call_isX) (by rfl) T.z_isinstance (by decide +kernel) (pa_cons (pv 0) (pa_cons (pe_glob (v := .ref T.a_NoSize) rfl T.g_NoSize rfl) pa_nil))) pa_nil))))))
      (pss_cons (ps_set (i := 1) sc_l_kind.nd rfl (.inl rfl) (pe_op op_cat (pv 1) (pe_lst (pa_cons (pe_callB (show CallR _ (.builtin "isinstance") (MuX.rIsX K) from MuX.call_isX) (by rfl) T.z_isinstance (by decide +kernel) (pa_cons (pv 0) (pa_cons (pe_glob (v := .ref T.a_NoWay) rfl T.g_NoWay rfl) pa_nil))) (pa_cons (pe_callB (show CallR _ (.builtin "isinstance") (MuX.rIsX K) from MuX.call_isX) (by rfl) T.z_isinstance (by decide +kernel) (pa_cons (pv 0) (pa_cons (pe_glob (v := .ref T.a_NoWeight) rfl T.g_NoWeight rfl) pa_nil))) pa_nil)))))
      (pss_cons (ps_if (PW.pt (pw_or (pt_cmpR op_ne (pe_bm PySem.F.plainAttrs_list PySem.F.slot_list_count PySem.F.type_list_count (show MtR _ "list.count" (MuX.rCntV K) from MuX.mtV_count) (pv 1) (pa_cons pe_bl pa_nil)) pe_int (nomark _)) (pw_or (pt_val (pe_callB (show CallR _ (.builtin "isinstance") (MuX.rIsXT K) from MuX.call_isXT) (by rfl) T.z_isinstance (by decide +kernel) (pa_cons (pv 0) (pa_cons (pe_tup (pa_cons (pe_glob (v := .ref T.a_NoNumber) rfl T.g_NoNumber rfl) (pa_cons (pe_glob (v := .ref T.a_NoRow) rfl T.g_NoRow rfl) (pa_cons (pe_glob (v := .ref T.a_NoText) rfl T.g_NoText rfl) pa_nil)))) pa_nil)))) (pw_or1 (pt_not (pt_val (pe_callB (show CallR _ (.builtin "isinstance") (MuX.rIsX K) from MuX.call_isX) (by rfl) T.z_isinstance (by decide +kernel) (pa_cons (pv 0) (pa_cons (pe_bltn (v := .ty "ValueError") (by rfl) T.z_ValueError (by decide +kernel) rfl) pa_nil)))))))))
      (pss_one (ps_ret pe_str))
      pss_nil)
      (pss_one (ps_ret (pe_ix ix_list (pe_lst (pa_cons pe_str (pa_cons pe_str (pa_cons pe_str (pa_cons pe_str (pa_cons pe_str (pa_cons pe_str (pa_cons pe_str (pa_cons pe_str (pa_cons pe_str pa_nil)))))))))) (pe_bm PySem.F.plainAttrs_list PySem.F.slot_list_index PySem.F.type_list_index mt_index (pv 1) (pa_cons pe_bl pa_nil)) (fun _ _ => rfl))))))))), ?_⟩
    have look : ∀ {H' : Hp} {σ' : L2.St} {c : Addr} {b : Bool}, Ex H H' → σ'[0]? = some (some (.ref a)) → PySem.W.kitOne K (.ref C) (.ref c) = some b → Ev (tCB (MuX.rIsX K) (tCons (tVar 0) (tCons (tC (.ref c)) tNil))) σ' H' (.bl b) := fun e hσ hk => ev_cb (ea_cons (ev_var hσ) (ea_cons ev_c ea_nil)) (MuX.rc_isX (e _ _ ha) isi hk)
    refine q_when (b := false) (et_test (ev_op (ev_var rfl) ev_c fun H3 e3 Q q => ⟨rfl, q H3 (Ex.refl _)⟩)) (fun hb => nomatch hb) fun _ H1 e1 => ?_
    refine q_asgL (xs := [.bl b1, .bl b2, .bl b3, .bl b4]) (el_lst (ea_cons (look e1 rfl k1) (ea_cons (look e1 rfl k2) (ea_cons (look e1 rfl k3) (ea_cons (look e1 rfl k4) ea_nil)))) (by simp)) fun p1 H2 hp1 e2 h2 => ?_
    have e12 := e1.trans e2
    refine q_asgL (xs := [.bl b1, .bl b2, .bl b3, .bl b4, .bl b5, .bl b6, .bl b7]) (el_is (el_catV (ev_var rfl) h2 (ys := [.bl b5, .bl b6, .bl b7]) (el_lst (ea_cons (look e12 rfl k5) (ea_cons (look e12 rfl k6) (ea_cons (look e12 rfl k7) ea_nil))) (by simp)) (by simp)) rfl) fun p2 H3 hp2 e3 h3 => ?_
    have e13 := e12.trans e3
    refine q_asgL (xs := ([b1, b2, b3, b4, b5, b6, b7, b8, b9].map V.bl)) (el_is (el_catV (ev_var rfl) h3 (ys := [.bl b8, .bl b9]) (el_lst (ea_cons (look e13 rfl k8) (ea_cons (look e13 rfl k9) ea_nil)) (by simp)) (by simp)) rfl) fun p3 H4 hp3 e4 h4 => ?_
    have e14 := e13.trans e4
    have lbs : [b1, b2, b3, b4, b5, b6, b7, b8, b9].length = 9 := rfl
    generalize [b1, b2, b3, b4, b5, b6, b7, b8, b9] = bs at hc hj h4 lbs ⊢
    refine q_when (b := false || (false || !true)) (et_or (et_is (et_test (ev_op (MuX.ev_countV (ev_var rfl) (sq_of h4) ev_c rfl (MuX.flat_bools bs)) ev_c rv_neI)) (by rw [MuX.count_bools, hc]; rfl)) fun _ => et_or (et_B (MuX.ev_isXT (cs := [T.a_NoNumber, T.a_NoRow, T.a_NoText]) (b := false) (ev_var rfl) (eu_tup (ea_cons ev_c (ea_cons ev_c (ea_cons ev_c ea_nil))) (by show 3 ≤ 100000; decide)) (e14 _ _ ha) isi no)) fun _ => et_not (et_B (ev_cb (ea_cons (ev_var rfl) (ea_cons ev_c ea_nil)) (MuX.rc_isXV (e14 _ _ ha) isi kv)))) (fun hb => nomatch hb) fun _ H5 e5 => ?_
    have hj9 : nineW[j]? = some (nineW.getD j "") := by
      have lt : j < 9 := by
        have := (List.getElem?_eq_some_iff.mp hj).1
        rwa [lbs] at this
      rw [List.getD_eq_getElem?_getD, List.getElem?_eq_getElem (show j < nineW.length from lt)]
      rfl
    exact s_ret (ev_ixNew (K := K) (xs := nineW.map V.str) (i := (j : Int)) (el_is (el_lst (by walk_at "mu g") (by decide)) (by rfl)) (MuX.ev_indexV (z := .bl true) (ev_var rfl) (sq_of (e5 _ _ h4)) ev_c rfl (MuX.flat_bools bs) (by rw [List.getElem?_map, hj]; rfl) rfl (MuX.index_bools hj hc)) (atI_nat (by rw [List.getElem?_map, hj9]; rfl))) fun H6 e6 => q _ ((e14.trans e5).trans e6)

def OkW (ls : List (Addr × List Str)) : Prop := ls.length ≤ 100 ∧ ∀ c ∈ ls, c.2.length ≤ 60 ∧ c.2.Nodup ∧ ∀ u ∈ c.2, WordOk u
def BadW (ls : List (Addr × List Str)) : Prop := (∀ c ∈ ls, c.2.length ≤ 60 ∧ ∀ u ∈ c.2, u.length ≤ 1000) ∧ (ls.all fun c => setB c.2) = false
def TellW (way : Int) (us : List (List Str)) (D : Addr) (H' : Hp) : Prop := (way = 0 ∧ MuWi.PLs (MuWi.witN us) D H') ∨ (way = 1 ∧ H' D = some (.lst (MuWi.natV (MuWi.topN us))))
def RTellW (H : Hp) (way : Int) (us : List (List Str)) : V → Hp → Prop := fun v H' => ∃ (t D : Addr), v = .ref t ∧ H D = none ∧ H' t = some (.tup [.ref D, .str "good"]) ∧ TellW way us D H'
def RSetW2 : V → Hp → Prop := fun v H' => ∃ t : Addr, v = .ref t ∧ H' t = some (.tup [.non, .str "set"])
def D_l_told (K : PySem.W.Frag) (P Pu : Addr) : Hp → List V → (V → Hp → Prop) → Prop := fun H vs R => ∃ (way : Int) (b : Addr) (ls : List (Addr × List Str)), vs = [.int way, .ref b] ∧ (way = 0 ∨ way = 1) ∧ H b = some (.lst (ls.map fun p => V.ref p.1)) ∧ LotAt H ls ∧ H P = some (MuGen.TabO P) ∧ H Pu = some (MuGen.TabO Pu) ∧ ((OkW ls ∧ R = RTellW H way (ls.map (·.2))) ∨ (BadW ls ∧ R = RSetW2))
theorem ok_l_told (T : Txt K mg base) : FnOk P w K mg base CX0 8 T.a_l_told T.d_l_told ["_law_way", "_law_lot_here"] (SpR (D_l_told K T.P_p_is_word T.P_p_are_unlike_words)) := by
  refine T.F_l_told.ok sc_l_told (fun vs H Q E h => ?_) (fun cdv A outer s H vs Q E hr h => ?_)
  · obtain ⟨R, ⟨way, b, ls, rfl, _⟩, _⟩ := h
    rfl
  · obtain ⟨R, ⟨way, b, ls, rfl, hw, hb, hat, hP, hPu, hR⟩, q⟩ := h
    refine ⟨_, (pss_cons (ps_set (i := 2) sc_l_told.nd rfl (.inl rfl) pe_non)
      (pss_cons (ps_set (i := 3) sc_l_told.nd rfl (.inl rfl) pe_non)
      (pss_cons (MuX.ps_try_keep (i := 4) rfl rfl rfl sc_l_told.nd rfl rfl ⟨rfl, by decide, Or.inl T.g_LikeError⟩ (fun W pn xe tk po => by exact (pss_one (ps_if (pt_cmpR op_eq (pv 0) pe_int (nomark _))
      (pss_one (ps_set (i := 2) sc_l_told.nd rfl (.inl rfl) (pe_callS (okM_p_within_pairs T) (hr.mono (by decide)) rfl T.g_p_within_pairs T.F_p_within_pairs.kp T.b_p_within_pairs (fun σ => passAt tk σ) (pa_cons (pv 1) pa_nil))))
      (pss_one (ps_set (i := 2) sc_l_told.nd rfl (.inl rfl) (pe_callS (okM_p_tops T) (hr.mono (by decide)) rfl T.g_p_tops T.F_p_tops.kp T.b_p_tops (fun σ => passAt tk σ) (pa_cons (pv 1) pa_nil))))))) (fun a oe cls d pn hz hf => by exact (pss_one (ps_set (i := 3) sc_l_told.nd rfl (.inl rfl) (pv 4)))))
      (pss_one (ps_ret (pe_tup (pa_cons (pv 2) (pa_cons (pe_call (ok_l_kind T) (hr.mono (by decide)) rfl T.g_l_kind T.F_l_kind.kp T.b_l_kind .nil pass0 (pa_cons (pv 3) pa_nil)) pa_nil)))))))), ?_⟩
    refine q_asg (v := .non) ev_c fun H1 e1 => ?_
    refine q_asg (v := .non) ev_c fun H2 e2 => ?_
    have e12 := e1.trans e2
    refine MuAt.q_go ?_
    have exm : PySem.W.exmOne K (.ref T.a_NoSet) (.ref T.a_LikeError) = some true := T.x_NoSet.like
    rcases hR with ⟨⟨hz, hls⟩, rfl⟩ | ⟨⟨hls, bad⟩, rfl⟩
    · rcases hw with rfl | rfl
      · refine s_if (b := true) (et_is (et_test (ev_op (ev_var rfl) ev_c rv_eqI)) (by decide)) (fun _ H3 e3 => ?_) (fun hb => nomatch hb)
        refine s_asgX (R := fun v H' => ∃ D : Addr, v = .ref D ∧ H D = none ∧ MuWi.PLs (MuWi.witN (ls.map (·.2))) D H') (MuWi.evx_callSR (vs := [.ref b]) (ea_cons (ev_var rfl) ea_nil) fun H4 e4 => ⟨_, ⟨b, ls, rfl, ((e12.trans e3).trans e4) _ _ hb, fun c m => ((e12.trans e3).trans e4) _ _ (hat c m), hz, hls, ((e12.trans e3).trans e4) _ _ hP, ((e12.trans e3).trans e4) _ _ hPu, rfl⟩, fun v H5 e5 ⟨D, e, hf, h⟩ => ⟨D, e, fresh_back ((e12.trans e3).trans e4) hf, h⟩⟩) fun v H4 e4 r => ?_
        obtain ⟨D, rfl, hD, hp⟩ := r
        dsimp only
        refine s_retU (xs := [.ref D, .str "good"]) (eu_tup (ea_cons (ev_var rfl) (ea_cons (ev_callV (vs := [.non]) (ea_cons (ev_var rfl) ea_nil) fun _ _ => .inl ⟨rfl, rfl⟩) ea_nil)) (by simp)) fun t H5 ht e5 h5 => ?_
        exact q _ _ (((e12.trans e3).trans e4).trans e5) ⟨t, D, rfl, hD, h5, .inl ⟨rfl, hp.later e5⟩⟩
      · refine s_if (b := false) (et_is (et_test (ev_op (ev_var rfl) ev_c rv_eqI)) (by decide)) (fun hb => nomatch hb) (fun _ H3 e3 => ?_)
        refine s_asgL (MuWi.el_callSL (vs := [.ref b]) (ea_cons (ev_var rfl) ea_nil) fun H4 e4 => ⟨b, ls, rfl, ((e12.trans e3).trans e4) _ _ hb, fun c m => ((e12.trans e3).trans e4) _ _ (hat c m), hz, hls, ((e12.trans e3).trans e4) _ _ hP, ((e12.trans e3).trans e4) _ _ hPu, rfl⟩) fun D H4 hD e4 h4 => ?_
        dsimp only
        refine s_retU (xs := [.ref D, .str "good"]) (eu_tup (ea_cons (ev_var rfl) (ea_cons (ev_callV (vs := [.non]) (ea_cons (ev_var rfl) ea_nil) fun _ _ => .inl ⟨rfl, rfl⟩) ea_nil)) (by simp)) fun t H5 ht e5 h5 => ?_
        exact q _ _ (((e12.trans e3).trans e4).trans e5) ⟨t, D, rfl, fresh_back (e12.trans e3) hD, h5, .inr ⟨rfl, e5 _ _ h4⟩⟩
    · have fin : ∀ (x : V) (e : Addr) (H4 : Hp), Ex H H4 → H4 e = some (MuX.ExO e T.a_NoSet) → tRet (tTup (tCons (tVar 2) (tCons (tCall (SpVal (D_l_kind T)) [] E0 (tCons (tVar 3) tNil)) tNil))) { nx := fun _ H' => Q .non H', rt := Q } [some (.int way), some (.ref b), some .non, some (.ref e), none] H4 := fun x e H4 e4 he => by
        refine s_retU (xs := [.non, .str (nineW.getD 4 "")]) (eu_tup (ea_cons (ev_var rfl) (ea_cons (ev_callV (vs := [.ref e]) (ea_cons (ev_var rfl) ea_nil) fun _ e5 => .inr ⟨e, _, 4, rfl, e5 _ _ he, kind_NoSet T, rfl⟩) ea_nil)) (by simp)) fun t H5 ht e5 h5 => ?_
        exact q _ _ (e4.trans e5) ⟨t, rfl, h5⟩
      refine s_if (b := decide (way = 0)) (et_test (ev_op (ev_var rfl) ev_c rv_eqI)) (fun _ H3 e3 => ?_) (fun _ H3 e3 => ?_)
      · refine MuAt.bad_callS (C := T.a_NoSet) (vs := [.ref b]) (ea_cons (ev_var rfl) ea_nil) (fun H4 e4 => ⟨b, ls, rfl, ((e12.trans e3).trans e4) _ _ hb, fun c m => ((e12.trans e3).trans e4) _ _ (hat c m), hls, bad, ((e12.trans e3).trans e4) _ _ hP, ((e12.trans e3).trans e4) _ _ hPu, rfl⟩) (fun H4 e4 => ?_) _
        refine MuAt.keep_nx (by show 4 < 5; decide) exm fun H5 e e5 he => ?_
        exact fin .non e H5 (((e12.trans e3).trans e4).trans e5) he
      · refine MuAt.bad_callS (C := T.a_NoSet) (vs := [.ref b]) (ea_cons (ev_var rfl) ea_nil) (fun H4 e4 => ⟨b, ls, rfl, ((e12.trans e3).trans e4) _ _ hb, fun c m => ((e12.trans e3).trans e4) _ _ (hat c m), hls, bad, ((e12.trans e3).trans e4) _ _ hP, ((e12.trans e3).trans e4) _ _ hPu, rfl⟩) (fun H4 e4 => ?_) _
        refine MuAt.keep_nx (by show 4 < 5; decide) exm fun H5 e e5 he => ?_
        exact fin .non e H5 (((e12.trans e3).trans e4).trans e5) he

def D_l_good (K : PySem.W.Frag) (P Pu : Addr) : Hp → List V → V → Prop := fun H vs v => ∃ (b : Addr) (ls : List (Addr × List Str)), vs = [.ref b] ∧ H b = some (.lst (ls.map fun p => V.ref p.1)) ∧ LotAt H ls ∧ ls.length ≤ 45 ∧ (∀ c ∈ ls, c.2.length ≤ 60 ∧ c.2.Nodup ∧ ∀ u ∈ c.2, WordOk u) ∧ H P = some (MuGen.TabO P) ∧ H Pu = some (MuGen.TabO Pu) ∧ v = .bl true
theorem ok_l_good (T : Txt K mg base) : FnOk P w K mg base CX0 9 T.a_l_good T.d_l_good ["_law_lot_here"] (SpVal (D_l_good K T.P_p_is_word T.P_p_are_unlike_words)) := by
  refine T.F_l_good.ok sc_l_good (fun vs H Q E h => ?_) (fun cdv A outer s H vs Q E hr h => ?_)
  · obtain ⟨v, ⟨b, ls, rfl, _⟩, _⟩ := h
    rfl
  · obtain ⟨v, ⟨b, ls, rfl, hb, hat, hz, hls, hP, hPu, rfl⟩, q⟩ := h
    refine ⟨_, (pss_cons (ps_setLc (i := 1) (own := [("_law_words", 2)]) (g := gName 2) (tt := tYes) rfl sc_l_good.nd rfl rfl (sw_true rfl rfl rfl (by decide +kernel)) (pi_list (pv 0)) (blkOk_by (N := ["_law_lot_here", "_law_handed", "_law_words", "_law_due", "_law_time", "_law_got", "_law_kept", "_law_told_here", "_law_more", "_law_numbers", "_law_pair", "_law_number", "_law_twice"]) (sc := defScope s_l_good) (by decide +kernel)) (fun _ _ _ _ _ => (pg_name (i := 2) sc_l_good.nd rfl (Or.inl rfl))) (fun _ _ _ _ _ => pts_nil) (fun _ _ _ _ _ => (pe_callTy (show CallR _ (.type "list") (Evl.rListS K) from call_list_of) (by rfl) T.z_list (by decide +kernel) (pa_cons (pv 2) pa_nil))))
      (pss_cons (ps_set (i := 3) sc_l_good.nd rfl (.inl rfl) (pe_lst (pa_cons (pe_call (ok_l_within T) (hr.mono (by decide)) rfl T.g_l_within T.F_l_within.kp T.b_l_within .nil pass0 (pa_cons (pv 0) pa_nil)) (pa_cons (pe_call (ok_l_tops T) (hr.mono (by decide)) rfl T.g_l_tops T.F_l_tops.kp T.b_l_tops .nil pass0 (pa_cons (pv 0) pa_nil)) pa_nil))))
      (pss_cons (ps_for PassesOwn.never rfl (pi_range1 (by rfl) T.z_range (pa_cons pe_int pa_nil)) (pg_name (i := 4) sc_l_good.nd rfl (.inl rfl))
      (pss_cons (ps_asg (pe_call (ok_l_told T) (hr.mono (by decide)) rfl T.g_l_told T.F_l_told.kp T.b_l_told .nil pass0 (pa_cons pe_int (pa_cons (pv 1) pa_nil))) (pg_tup (by rfl) (pgs_cons (pg_name (i := 5) sc_l_good.nd rfl (.inl rfl)) (pgs_cons (pg_name (i := 6) sc_l_good.nd rfl (.inl rfl)) pgs_nil))))
      (pss_cons (ps_asg (pe_call (ok_l_told T) (hr.mono (by decide)) rfl T.g_l_told T.F_l_told.kp T.b_l_told .nil pass0 (pa_cons pe_int (pa_cons (pv 1) pa_nil))) (pg_tup (by rfl) (pgs_cons (pg_name (i := 7) sc_l_good.nd rfl (.inl rfl)) (pgs_cons (pg_name (i := 8) sc_l_good.nd rfl (.inl rfl)) pgs_nil))))
      (pss_cons (ps_if (PW.pt (pw_or (pt_cmpR (op_neD hr.units) (pe_lst (pa_cons (pv 6) (pa_cons (pv 8) pa_nil))) (pe_lst (pa_cons pe_str (pa_cons pe_str pa_nil))) (nomark _)) (pw_or (pt_cmpR (op_neD hr.units) (pe_lst (pa_cons (pv 5) (pa_cons (pv 7) pa_nil))) (pv 3) (nomark _)) (pw_or1 (pt_cmpR (MuBag.op_neV hr.units) (pv 1) (pv 0) (nomark _))))))
      (pss_one (ps_ret pe_bl))
      pss_nil)
      (pss_cons (ps_if (PW.pt (pw_or (pt_not (pt_val (pe_callB call_isi (by rfl) T.z_isinstance (by decide +kernel) (pa_cons (pv 5) (pa_cons (pe_bltn (v := .ty "list") (by rfl) T.z_list (by decide +kernel) rfl) pa_nil))))) (pw_or1 (pt_not (pt_val (pe_callB call_isi (by rfl) T.z_isinstance (by decide +kernel) (pa_cons (pv 7) (pa_cons (pe_bltn (v := .ty "list") (by rfl) T.z_list (by decide +kernel) rfl) pa_nil))))))))
      (pss_one (ps_ret pe_bl))
      pss_nil)
      (pss_cons (ps_set (i := 9) sc_l_good.nd rfl (.inl rfl) (pe_callTy call_list_of (by rfl) T.z_list (by decide +kernel) (pa_cons (pv 7) pa_nil)))
      (pss_cons (ps_for PassesOwn.never rfl (pi_list (pv 5)) (pg_name (i := 10) sc_l_good.nd rfl (.inl rfl))
      (pss_one (ps_expr (pe_bm PySem.F.plainAttrs_list PySem.F.slot_list_extend PySem.F.type_list_extend MuWi.mt_extT (pv 9) (pa_cons (pv 10) pa_nil)))))
      (pss_cons (ps_if (pt_cmpR op_gt (pe_callB call_len_seq (by rfl) T.z_len (by decide +kernel) (pa_cons (pe_lc (own := [("_law_number", 11)]) (g := gName 11) (tt := tNot (tB (tCall (SpVal D_l_whole) [] E0 (tCons (tVar 11) tNil)))) rfl sc_l_good.nd (pi_list (pv 9)) (blkOk_by (N := ["_law_lot_here", "_law_handed", "_law_words", "_law_due", "_law_time", "_law_got", "_law_kept", "_law_told_here", "_law_more", "_law_numbers", "_law_pair", "_law_number", "_law_twice"]) (sc := defScope s_l_good) (by decide +kernel)) (fun _ _ _ _ _ => (pg_name (i := 11) sc_l_good.nd rfl (Or.inl rfl))) (fun _ _ _ _ _ => by exact (pts_one (pt_not (pt_val (pe_call (ok_l_whole T) (hr.mono (by decide)) rfl T.g_l_whole T.F_l_whole.kp T.b_l_whole .nil pass0 (pa_cons (pv 11) pa_nil)))))) (fun _ _ _ _ _ => by exact (pv 11))) pa_nil)) pe_int (nomark _))
      (pss_one (ps_ret pe_bl))
      pss_nil)
      (pss_cons (ps_expr (pe_bm PySem.F.plainAttrs_list PySem.F.slot_list_append PySem.F.type_list_append mt_append (pv 5) (pa_cons (pe_tup (pa_cons pe_int (pa_cons pe_int pa_nil))) pa_nil)))
      (pss_cons (ps_expr (pe_bm0 PySem.F.plainAttrs_list PySem.F.slot_list_clear PySem.F.type_list_clear mt_clear (pv 7)))
      (pss_cons (ps_set (i := 8) sc_l_good.nd rfl (.inl rfl) (pe_op op_cat (pv 1) (pe_op op_rep (pe_slice sl_list (pv 1) po_none (po_some pe_int)) (pe_callTy call_int1 (by rfl) T.z_int (by decide +kernel) (pa_cons (pe_cmpR op_lt (pe_callB call_len_seq (by rfl) T.z_len (by decide +kernel) (pa_cons (pv 0) pa_nil)) pe_int (nomark _)) pa_nil)))))
      (pss_cons (ps_setLc (i := 12) (own := [("_law_words", 2)]) (g := gName 2) (tt := tYes) rfl sc_l_good.nd rfl rfl (sw_true rfl rfl rfl (by decide +kernel)) (pi_list (pv 8)) (blkOk_by (N := ["_law_lot_here", "_law_handed", "_law_words", "_law_due", "_law_time", "_law_got", "_law_kept", "_law_told_here", "_law_more", "_law_numbers", "_law_pair", "_law_number", "_law_twice"]) (sc := defScope s_l_good) (by decide +kernel)) (fun _ _ _ _ _ => (pg_name (i := 2) sc_l_good.nd rfl (Or.inl rfl))) (fun _ _ _ _ _ => pts_nil) (fun _ _ _ _ _ => (pe_callTy (show CallR _ (.type "list") (Evl.rListS K) from call_list_of) (by rfl) T.z_list (by decide +kernel) (pa_cons (pv 2) pa_nil))))
      (pss_one (ps_if (PW.pt (pw_or (pt_cmpR (op_neD hr.units) (pe_call (ok_p_within_pairs T) (hr.mono (by decide)) rfl T.g_p_within_pairs T.F_p_within_pairs.kp T.b_p_within_pairs .nil pass0 (pa_cons (pv 8) pa_nil)) (pe_call (ok_l_within T) (hr.mono (by decide)) rfl T.g_l_within T.F_l_within.kp T.b_l_within .nil pass0 (pa_cons (pv 12) pa_nil)) (nomark _)) (pw_or (pt_cmpR (op_neD hr.units) (pe_call (ok_p_tops T) (hr.mono (by decide)) rfl T.g_p_tops T.F_p_tops.kp T.b_p_tops .nil pass0 (pa_cons (pv 8) pa_nil)) (pe_call (ok_l_tops T) (hr.mono (by decide)) rfl T.g_l_tops T.F_l_tops.kp T.b_l_tops .nil pass0 (pa_cons (pv 12) pa_nil)) (nomark _)) (pw_or1 (pt_cmpR (MuBag.op_neV hr.units) (pv 8) (pv 12) (nomark _))))))
      (pss_one (ps_ret pe_bl))
      pss_nil))))))))))))))
      (pss_one (ps_ret pe_bl))))), ?_⟩
    refine q_asgX (MuWi.evx_copies (ls := ls) (ev_var rfl) hb hat (by omega) (fun _ => rfl) fun _ => rfl) fun v H1 e1 r => ?_
    obtain ⟨ph, hs, rfl, hph, h1, hath, eh⟩ := r
    generalize hus : ls.map (·.2) = us at eh
    have zus : us.length = ls.length := by rw [← hus, List.length_map]
    have zhs : hs.length = us.length := by rw [← eh, List.length_map]
    have okh : ∀ c ∈ hs, c.2.length ≤ 60 ∧ c.2.Nodup ∧ ∀ u ∈ c.2, WordOk u := fun c mc => by
      have m : c.2 ∈ us := eh ▸ List.mem_map.mpr ⟨c, mc, rfl⟩
      rw [← hus] at m
      obtain ⟨d, md, ed⟩ := List.mem_map.mp m
      rw [← ed]
      exact hls d md
    refine q_asgX (MuWi.evx_due (ps := MuWi.witN us) (xs := MuWi.natV (MuWi.topN us)) (evx_call (vs := [.ref b]) (ea_cons (ev_var rfl) ea_nil) fun H2 e2 => ⟨_, ⟨b, ls, rfl, (e1.trans e2) _ _ hb, fun c m => (e1.trans e2) _ _ (hat c m), by omega, fun c m => by have := (hls c m).1; omega, rfl⟩, fun v H3 e3 ⟨D, e, _, h⟩ => ⟨D, e, by rw [hus] at h; exact h⟩⟩) fun H2 e2 => el_callL (vs := [.ref b]) (ea_cons (ev_var rfl) ea_nil) fun H3 e3 => ⟨b, ls, rfl, ((e1.trans e2).trans e3) _ _ hb, fun c m => ((e1.trans e2).trans e3) _ _ (hat c m), by omega, fun c m => ⟨by have := (hls c m).1; omega, (hls c m).2.1⟩, by rw [hus]⟩) fun v H2 e2 r => ?_
    obtain ⟨pd, Dw, pt, rfl, hpd, hDw, hpt⟩ := r
    have e02 := e1.trans e2
    have h2 := e2 _ _ h1
    have hath2 : LotAt H2 hs := fun c m => e2 _ _ (hath c m)
    have told : ∀ {H' : Hp} {σ' : L2.St} (way : Int), (way = 0 ∨ way = 1) → Ex H2 H' → σ'[1]? = some (some (.ref ph)) → EvX (tCall (SpR (D_l_told K T.P_p_is_word T.P_p_are_unlike_words)) [] E0 (tCons (tC (.int way)) (tCons (tVar 1) tNil))) σ' H' (RTellW H' way us) := fun {H' σ'} way hw e hi => evx_call (vs := [.int way, .ref ph]) (ea_cons ev_c (ea_cons (ev_var hi) ea_nil)) fun H4 e4 => ⟨_, ⟨way, ph, hs, rfl, hw, (e.trans e4) _ _ h2, fun c m => (e.trans e4) _ _ (hath2 c m), ((e02.trans e).trans e4) _ _ hP, ((e02.trans e).trans e4) _ _ hPu, .inl ⟨⟨by omega, okh⟩, rfl⟩⟩, fun v H5 e5 ⟨t, D, e, hf, h, tl⟩ => ⟨t, D, e, fresh_back e4 hf, h, by rw [eh] at tl; exact tl⟩⟩
    have zw := MuWi.wit_len us
    have zww : us.length * us.length ≤ 45 * 45 := Nat.mul_le_mul (by omega) (by omega)
    have zt := MuWi.top_len us
    refine q_forR1 (n := 2) (ea_cons ev_c ea_nil) (by decide) (fun n σ' H' => Ex H2 H' ∧ ∃ x2 x4 x5 x6 x7 x8 x9 x10 x11 x12, σ' = [some (.ref b), some (.ref ph), x2, some (.ref pd), x4, x5, x6, x7, x8, x9, x10, x11, x12]) (fun H3 e3 => ⟨e3, _, _, _, _, _, _, _, _, _, _, rfl⟩) (fun n σ' H' hn hq => ?_) (fun σ' H' hq => ?_)
    · obtain ⟨e3, x2, x4, x5, x6, x7, x8, x9, x10, x11, x12, rfl⟩ := hq
      refine MuTri.q_unpX (told 0 (.inl rfl) e3 rfl) fun v H4 e4 r => ?_
      obtain ⟨t1, D, rfl, hDn, ht1, tl⟩ := r
      have hD : MuWi.PLs (MuWi.witN us) D H4 := by
        rcases tl with ⟨_, h⟩ | ⟨h, _⟩
        · exact h
        · exact absurd h (by decide)
      refine ⟨t1, .ref D, .str "good", rfl, st_of ht1, ?_⟩
      have e34 := e3.trans e4
      refine MuTri.q_unpX (told 1 (.inr rfl) e34 rfl) fun v H5 e5 r => ?_
      obtain ⟨t2, Dt, rfl, hDtn, ht2, tl⟩ := r
      have hDt : H5 Dt = some (.lst (MuWi.natV (MuWi.topN us))) := by
        rcases tl with ⟨h, _⟩ | ⟨_, h⟩
        · exact absurd h (by decide)
        · exact h
      refine ⟨t2, .ref Dt, .str "good", rfl, st_of ht2, ?_⟩
      have e35 := e34.trans e5
      have hD5 := hD.later e5
      have ne : Dt ≠ D := fun z => by
        obtain ⟨cs, g, _⟩ := hD
        rw [z, g] at hDtn
        exact nomatch hDtn
      refine q_when (b := false || (false || false)) (et_or (et_test (MuWi.ev_neLL (xs := [.str "good", .str "good"]) (ys := [.str "good", .str "good"]) (ds := [.str "good", .str "good"]) (el_lst (ea_cons (ev_var rfl) (ea_cons (ev_var rfl) ea_nil)) (by simp)) (fun H6 e6 => el_lst (ea_cons ev_c (ea_cons ev_c ea_nil)) (by simp)) (fun _ _ => .cons (.str _) (.cons (.str _) .nil)) (fun _ _ => .cons (.str _) (.cons (.str _) .nil)) MuWi.good2_shaped.1 MuWi.good2_shaped.2)) fun _ => et_or (et_test (MuWi.ev_neLV (xs := [.ref D, .ref Dt]) (ys := [.ref Dw, .ref pt]) (b := pd) (ds := MuWi.dueDs (MuWi.witN us) ((MuWi.topN us).map Int.ofNat)) (el_lst (ea_cons (ev_var rfl) (ea_cons (ev_var rfl) ea_nil)) (by simp)) (fun H6 e6 => ev_var rfl) (sq_of (e35 _ _ hpd)) (fun H6 e6 => MuWi.due_dp (hD5.later e6) (by rw [← MuWi.natV_int]; exact e6 _ _ hDt)) (fun H6 e6 => MuWi.due_dp (hDw.later (e35.trans e6)) (by rw [← MuWi.natV_int]; exact (e35.trans e6) _ _ hpt)) (MuWi.due_shaped _ _).1 (MuWi.due_shaped _ _).2)) fun _ => et_test (MuWi.ev_neVV (n := 2) (ev_var rfl) (ev_var rfl) (sq_of (e35 _ _ h2)) (sq_of ((e02.trans e35) _ _ hb)) (by decide) fun H6 e6 => MuWi.lots_eqV (eh.trans hus.symm) (fun c m => (e35.trans e6) _ _ (hath2 c m)) fun c m => ((e02.trans e35).trans e6) _ _ (hat c m))) (fun hb => nomatch hb) (fun _ H6 e6 => ?_)
      have e36 := e35.trans e6
      have hD6 := hD5.later e6
      have hDt6 := e6 _ _ hDt
      obtain ⟨cs, hcs, ecs, hcc⟩ := id hD6
      refine q_when (b := !true || !true) (et_or (et_not (et_B (ev_cb (ea_cons (ev_var rfl) (ea_cons ev_c ea_nil)) (rc_isiLst hcs (kit_ty (by decide +kernel)))))) fun _ => et_not (et_B (ev_cb (ea_cons (ev_var rfl) (ea_cons ev_c ea_nil)) (rc_isiLst hDt6 (kit_ty (by decide +kernel)))))) (fun hb => nomatch hb) (fun _ H7 e7 => ?_)
      refine q_asgL (xs := ((MuWi.topN us).map Int.ofNat).map V.int) (el_list (ev_var rfl) (by rw [← MuWi.natV_int]; exact sq_of (e7 _ _ hDt6))) fun pn H8 hpn e8 h8 => ?_
      have e68 := e7.trans e8
      have zcs : cs.length ≤ 2025 := by
        have := congrArg List.length ecs
        rw [List.length_map, List.length_map] at this
        omega
      have h8D := e68 _ _ hcs
      refine q_forLn (K := K) (a := D) (xs := cs.map fun c => V.ref c.1) (ev_var rfl) (sq_of h8D) (fun m σ' H9 => Ex H7 H9 ∧ ∃ is : List Int, H9 pn = some (.lst (is.map V.int)) ∧ is.length ≤ 100 + 2 * m ∧ ∃ x10, σ' = [some (.ref b), some (.ref ph), x2, some (.ref pd), some (.int (n : Int)), some (.ref D), some (.str "good"), some (.ref Dt), some (.str "good"), some (.ref pn), x10, x11, x12]) (fun H9 e9 => ⟨e8.trans e9, _, e9 _ _ h8, by rw [List.length_map]; omega, _, rfl⟩) (fun m σ' H9 _ hq => sq_of ((e7.trans hq.1) _ _ hcs)) (fun m x σ' H9 hx hq => ?_) (fun σ' H9 hq => ?_)
      · obtain ⟨e9, is, his, zis, x10, rfl⟩ := hq
        have lm := (List.getElem?_eq_some_iff.mp hx).1
        rw [List.length_map] at lm
        obtain ⟨c, mc, rfl⟩ := List.mem_map.mp (List.mem_of_getElem? hx)
        have hc := (e7.trans e9) _ _ (hcc c mc)
        refine MuWi.s_extT (zs := [.int c.2.1.1, .int c.2.1.2]) his hc (ev_var rfl) (ev_var rfl) (by rw [List.length_map]; show is.length + 2 ≤ 100000; omega) fun H10 e10 => ⟨Ex.mut (e9.trans e10) hpn, is ++ [(c.2.1.1 : Int), (c.2.1.2 : Int)], by rw [upd_same, List.map_append]; rfl, by rw [List.length_append]; show is.length + 2 ≤ _; omega, _, rfl⟩
      · obtain ⟨e9, is, his, zis, x10, rfl⟩ := hq
        rw [List.length_map] at zis
        have nog : ∀ (m : Nat) (v : Nat → V), given m (fun _ => false) v = [] := fun m v => by
          unfold given
          rw [List.filter_eq_nil_iff.mpr (fun _ _ => by decide)]
          rfl
        refine q_when (b := false) (et_test (ev_op (ev_lenN (xs := []) (el_is (el_lcL (a := pn) (fun _ => false) (fun _ => .non) (ev_var rfl) (sq_of his) (by rw [List.length_map]; omega) (fun _ => rfl) (fun k x H10 e10 hk => ?_) fun k x H10 e10 hk hf => nomatch hf) (nog _ _))) ev_c rv_I0)) (fun hb => nomatch hb) (fun _ H10 e10 => ?_)
        · obtain ⟨i, _, rfl⟩ : ∃ i ∈ is, x = .int i := by
            obtain ⟨i, mi, e⟩ := List.mem_map.mp (List.mem_of_getElem? hk)
            exact ⟨i, mi, e.symm⟩
          exact et_is (et_not (et_B (ev_callV (v := .bl true) (vs := [.int i]) (ea_cons (ev_var rfl) ea_nil) fun _ _ => ⟨i, rfl, rfl⟩))) rfl
        have e610 := (e7.trans e9).trans e10
        refine MuNr.q_appAny (e610 _ _ hcs) (ev_var rfl) (eu_tup (vs := [.int 0, .int 0]) (ea_cons ev_c (ea_cons ev_c ea_nil)) (by simp)) (by rw [List.length_map]; omega) fun H11 ys e11 => ?_
        have eA : Ex H' (upd H11 D (.lst ys)) := Ex.mut ((((e4.trans e5).trans e6).trans e610).trans e11) hDn
        have hDtA : (upd H11 D (.lst ys)) Dt = some (.lst (MuWi.natV (MuWi.topN us))) := (upd_ne ne).trans ((e610.trans e11) _ _ hDt6)
        generalize upd H11 D (.lst ys) = HA at eA hDtA
        refine MuAt.q_go (MuNr.s_clear hDtA (ev_var rfl) fun H12 e12 => ?_)
        have eB : Ex H' (upd H12 Dt (.lst [])) := Ex.mut (eA.trans e12) (fresh_back e4 hDtn)
        generalize upd H12 Dt (.lst []) = HB at eB
        show _
        have e3B := e3.trans eB
        have hB := e3B _ _ h2
        have hathB : LotAt HB hs := fun c m => e3B _ _ (hath2 c m)
        obtain ⟨ms, hms, zms, subm⟩ : ∃ ms : List (Addr × List Str), ((hs.map fun c => V.ref c.1) ++ if decide ((us.length : Int) < 40) = true then cutV (hs.map fun c => V.ref c.1) none (some 1) else []) = ms.map (fun c => V.ref c.1) ∧ ms.length ≤ 46 ∧ ∀ c ∈ ms, c ∈ hs := by
          cases decide ((us.length : Int) < 40) with
          | true =>
            refine ⟨hs ++ hs.take 1, by rw [if_pos rfl, MuNr.cut_1st, List.map_append, List.map_take], by rw [List.length_append, List.length_take]; omega, fun c m => ?_⟩
            rcases List.mem_append.mp m with m | m
            · exact m
            · exact List.mem_of_mem_take m
          | false => exact ⟨hs, by rw [if_neg (by decide), List.append_nil], by omega, fun c m => m⟩
        refine q_asgL (xs := ms.map fun c => V.ref c.1) (el_is (el_catV (ev_var rfl) hB (ys := if decide ((us.length : Int) < 40) = true then cutV (hs.map fun c => V.ref c.1) none (some 1) else []) (MuWi.el_rep01 (c := decide ((us.length : Int) < 40)) (el_sl (K := K) (ev_var rfl) eo_none (eo_some ev_c) (sq_of hB)) (by rw [MuNr.cut_1st, List.length_take, List.length_map]; omega) (ev_cb (ea_cons (ev_op (ev_is (ev_len (K := K) (ev_var rfl) (sq_of ((e02.trans e3B) _ _ hb))) (by rw [List.length_map, zus])) ev_c rv_I0) ea_nil) rc_intB) rfl) (by rw [← List.length_append, hms, List.length_map]; omega)) hms) fun pm H13 hpm e13 h13 => ?_
        have okm : ∀ c ∈ ms, c.2.length ≤ 60 ∧ c.2.Nodup ∧ ∀ u ∈ c.2, WordOk u := fun c m => okh c (subm c m)
        have hatm : LotAt H13 ms := fun c m => e13 _ _ (hathB c (subm c m))
        refine q_asgX (MuWi.evx_copies (ls := ms) (ev_var rfl) h13 hatm (by omega) (fun _ => rfl) fun _ => rfl) fun v H14 e14 r => ?_
        obtain ⟨pw, ws, rfl, hpw, h14, hatw, ew⟩ := r
        have h14m := e14 _ _ h13
        have hatm14 : LotAt H14 ms := fun c m => e14 _ _ (hatm c m)
        have zws : ws.length = ms.length := by
          have := congrArg List.length ew
          rwa [List.length_map, List.length_map] at this
        have okw : ∀ c ∈ ws, c.2.length ≤ 60 ∧ c.2.Nodup := fun c mc => by
          have m : c.2 ∈ ms.map (·.2) := ew ▸ List.mem_map.mpr ⟨c, mc, rfl⟩
          obtain ⟨d, md, ed⟩ := List.mem_map.mp m
          rw [← ed]
          exact ⟨(okm d md).1, (okm d md).2.1⟩
        have e0E : Ex H H14 := (((e02.trans e3B).trans e13).trans e14)
        refine s_when (b := false || (false || false)) (et_or (et_test (MuNr.ev_neP (w := false) (bs := (MuWi.witN (ms.map (·.2))).map fun p => (p, (0 : Int))) (evx_call (vs := [.ref pm]) (ea_cons (ev_var rfl) ea_nil) fun H15 e15 => ⟨_, ⟨pm, ms, rfl, e15 _ _ h14m, fun c m => e15 _ _ (hatm14 c m), by omega, okm, (e0E.trans e15) _ _ hP, (e0E.trans e15) _ _ hPu, rfl⟩, fun v H16 e16 ⟨D, e, _, h⟩ => ⟨D, e, h⟩⟩) fun H15 e15 => evx_call (vs := [.ref pw]) (ea_cons (ev_var rfl) ea_nil) fun H16 e16 => ⟨_, ⟨pw, ws, rfl, (e15.trans e16) _ _ h14, fun c m => (e15.trans e16) _ _ (hatw c m), by omega, fun c m => by have := (okw c m).1; omega, rfl⟩, fun v H17 e17 ⟨D, e, _, h⟩ => ⟨D, e, by rw [ew] at h; exact h⟩⟩)) fun _ => et_or (et_test (MuWi.ev_neLL (xs := MuWi.natV (MuWi.topN (ms.map (·.2)))) (ys := MuWi.natV (MuWi.topN (ms.map (·.2)))) (ds := ((MuWi.topN (ms.map (·.2))).map Int.ofNat).map PyData.int) (el_callL (vs := [.ref pm]) (ea_cons (ev_var rfl) ea_nil) fun H15 e15 => ⟨pm, ms, rfl, e15 _ _ h14m, fun c m => e15 _ _ (hatm14 c m), by omega, okm, (e0E.trans e15) _ _ hP, (e0E.trans e15) _ _ hPu, rfl⟩) (fun H15 e15 => el_callL (vs := [.ref pw]) (ea_cons (ev_var rfl) ea_nil) fun H16 e16 => ⟨pw, ws, rfl, (e15.trans e16) _ _ h14, fun c m => (e15.trans e16) _ _ (hatw c m), by omega, fun c m => ⟨by have := (okw c m).1; omega, (okw c m).2⟩, by rw [ew]⟩) (fun _ _ => by rw [MuWi.natV_int]; exact dp_ints _) (fun _ _ => by rw [MuWi.natV_int]; exact dp_ints _) (MuWi.ints_shaped _).1 (MuWi.ints_shaped _).2)) fun _ => et_test (MuWi.ev_neVV (n := 2) (ev_var rfl) (ev_var rfl) (sq_of h14m) (sq_of h14) (by decide) fun H15 e15 => MuWi.lots_eqV ew.symm (fun c m => e15 _ _ (hatm14 c m)) fun c m => e15 _ _ (hatw c m))) (fun hb => nomatch hb) (fun _ H15 e15 => ⟨((e3B.trans e13).trans e14).trans e15, _, _, _, _, _, _, _, _, _, _, rfl⟩)
    · obtain ⟨e3, x2, x4, x5, x6, x7, x8, x9, x10, x11, x12, rfl⟩ := hq
      exact s_ret (v := .bl true) ev_c fun H4 e4 => q _ ((e02.trans e3).trans e4)

def everyS : Str := "\n !\"#$&'()*+,-/:;<=>?@ABCDEFGHIJKLMNOPQRSTUVWXYZ[\\]^_`{|}~"
theorem every_len : everyS.length = 58 := by decide +kernel
def bentW (c k : Nat) : Str := cutS "a1b." none (some (k : Int)) ++ (⟨#[c]⟩ : Str) ++ cutS "a1b." (some (k : Int)) none
theorem bent_bad : ∀ c ∈ everyS.cps.toList, ∀ k ∈ List.range 5, ¬ WordOk (bentW c k) ∧ (bentW c k).length ≤ 1000 ∧ (cutS "a1b." none (some (k : Int))).length ≤ 4 ∧ (cutS "a1b." (some (k : Int)) none).length ≤ 4 := by decide +kernel
def odd7 : List Str := ["", "A", "a b", Txt.mul "a" 31, "a-b", "-", "a~"]
theorem odd7_bad : ∀ u ∈ odd7, ¬ WordOk u ∧ u.length ≤ 1000 := by decide +kernel
theorem cutV_at (us : List Str) (k : Nat) : cutV (us.map V.str) none (some (k : Int)) = (us.take k).map V.str ∧ cutV (us.map V.str) (some (k : Int)) none = (us.drop k).map V.str := by
  unfold cutV
  rw [HT.sIx_nat, HT.sIx_none, HT.sIx_nat, HT.sIx_none, List.length_map, ← List.map_drop, ← List.map_take, ← List.map_drop, ← List.map_take]
  refine ⟨?_, ?_⟩
  · congr 1
    rw [List.drop_zero, Nat.sub_zero]
    rcases Nat.le_total k us.length with h | h
    · rw [Nat.min_eq_left h]
    · rw [Nat.min_eq_right h, List.take_length, List.take_of_length_le h]
  · congr 1
    rcases Nat.le_total k us.length with h | h
    · rw [Nat.min_eq_left h, List.take_of_length_le (by rw [List.length_drop]; exact Nat.le_refl _)]
    · rw [Nat.min_eq_right h, List.drop_length, List.drop_of_length_le h]
      exact List.take_nil
theorem cutV_atR (ls : List (Addr × List Str)) (k : Nat) : cutV (ls.map fun c => V.ref c.1) none (some (k : Int)) = (ls.take k).map (fun c => V.ref c.1) ∧ cutV (ls.map fun c => V.ref c.1) (some (k : Int)) none = (ls.drop k).map (fun c => V.ref c.1) := by
  unfold cutV
  rw [HT.sIx_nat, HT.sIx_none, HT.sIx_nat, HT.sIx_none, List.length_map, ← List.map_drop, ← List.map_take, ← List.map_drop, ← List.map_take]
  refine ⟨?_, ?_⟩
  · congr 1
    rw [List.drop_zero, Nat.sub_zero]
    rcases Nat.le_total k ls.length with h | h
    · rw [Nat.min_eq_left h]
    · rw [Nat.min_eq_right h, List.take_length, List.take_of_length_le h]
  · congr 1
    rcases Nat.le_total k ls.length with h | h
    · rw [Nat.min_eq_left h, List.take_of_length_le (by rw [List.length_drop]; exact Nat.le_refl _)]
    · rw [Nat.min_eq_right h, List.drop_length, List.drop_of_length_le h]
      exact List.take_nil
/-- a set with a bad word, or one of its own once more -/
theorem spoilt_bad {us : List Str} {u : Str} {k : Nat} (h : ¬ WordOk u ∨ u ∈ us) : setB (us.take k ++ [u] ++ us.drop k) = false := by
  have mu : u ∈ us.take k ++ [u] ++ us.drop k := List.mem_append_left _ (List.mem_append_right _ (List.mem_singleton.mpr rfl))
  cases c : setB (us.take k ++ [u] ++ us.drop k) with
  | false => rfl
  | true =>
    obtain ⟨nd, ok⟩ := setB_ok c
    rcases h with h | h
    · exact absurd (ok u mu) h
    · have p : (us.take k ++ [u] ++ us.drop k).Perm (u :: us) := by
        have h1 : (us.take k ++ [u] ++ us.drop k).Perm (u :: (us.take k ++ us.drop k)) := by
          rw [List.append_assoc]
          exact List.perm_middle
        rwa [List.take_append_drop] at h1
      exact absurd h (List.nodup_cons.mp (p.nodup_iff.mp nd)).1
def D_l_spoilt (K : PySem.W.Frag) : Hp → List V → (V → Hp → Prop) → Prop := fun H vs R => ∃ (b : Addr) (n : Int) (ls : List (Addr × List Str)), vs = [.ref b, .int n] ∧ H b = some (.lst (ls.map fun p => V.ref p.1)) ∧ LotAt H ls ∧ ls ≠ [] ∧ ls.length ≤ 50 ∧ (∀ c ∈ ls, c.2.length ≤ 59 ∧ ∀ u ∈ c.2, WordOk u) ∧ R = fun v H' => ∃ (p : Addr) (bs : List (Addr × List Str)), v = .ref p ∧ H' p = some (.lst (bs.map fun p => V.ref p.1)) ∧ LotAt H' bs ∧ bs.length ≤ 60 ∧ (∀ c ∈ bs, c.2.length ≤ 60 ∧ ∀ u ∈ c.2, u.length ≤ 1000) ∧ (bs.all fun c => setB c.2) = false
theorem ok_l_spoilt (T : Txt K mg base) : FnOk P w K mg base CX0 1 T.a_l_spoilt T.d_l_spoilt ["_law_lot_here", "_law_number"] (SpR (D_l_spoilt K)) := by
  refine T.F_l_spoilt.ok sc_l_spoilt (fun vs H Q E h => ?_) (fun cdv A outer s H vs Q E hr h => ?_)
  · obtain ⟨v, ⟨b, n, ls, rfl, _⟩, _⟩ := h
    rfl
  · obtain ⟨v, ⟨b, n, ls, rfl, hb, hat, hne, hz, hls, rfl⟩, q⟩ := h
    refine ⟨_, (pss_cons (ps_set (i := 2) sc_l_spoilt.nd rfl (.inl rfl) pe_str)
      (pss_cons (ps_set (i := 3) sc_l_spoilt.nd rfl (.inl rfl) (pe_lst (pa_cons pe_str (pa_cons pe_str (pa_cons pe_str (pa_cons (pe_op op_mulS pe_str pe_int) (pa_cons pe_str (pa_cons pe_str (pa_cons pe_str pa_nil)))))))))
      (pss_cons (ps_set (i := 4) sc_l_spoilt.nd rfl (.inl rfl) (pe_op op_mod (pe_op op_fdiv (pv 1) pe_int) pe_int))
      (pss_cons (ps_expr (pe_bm PySem.F.plainAttrs_list PySem.F.slot_list_append PySem.F.type_list_append mt_append (pv 3) (pa_cons (pe_op op_add_str (pe_op op_add_str (pe_slice sl_str pe_str po_none (po_some (pv 4))) (pe_ix ix_str (pv 2) (pe_op op_mod (pe_op op_fdiv (pv 1) pe_int) (pe_callB call_len_str (by rfl) T.z_len (by decide +kernel) (pa_cons (pv 2) pa_nil))) (fun _ _ => rfl))) (pe_slice sl_str pe_str (po_some (pv 4)) po_none)) pa_nil)))
      (pss_cons (ps_set (i := 5) sc_l_spoilt.nd rfl (.inl rfl) (pe_op op_mod (pe_op op_fdiv (pv 1) pe_int) (pe_callB call_len_seq (by rfl) T.z_len (by decide +kernel) (pa_cons (pv 0) pa_nil))))
      (pss_cons (ps_set (i := 6) sc_l_spoilt.nd rfl (.inl rfl) (pe_op op_mod (pe_op op_fdiv (pv 1) pe_int) (pe_op op_add (pe_callB call_len_seq (by rfl) T.z_len (by decide +kernel) (pa_cons (pe_ix ix_list (pv 0) (pv 5) (fun _ _ => rfl)) pa_nil)) pe_int)))
      (pss_cons (ps_set (i := 7) sc_l_spoilt.nd rfl (.inl rfl) (pe_ix ix_list (pv 3) (pe_op op_mod (pv 1) pe_int) (fun _ _ => rfl)))
      (pss_cut (ps_if (PW.pt (pw_and (pt_cmpR op_eq (pe_op op_mod (pe_op op_fdiv (pv 1) pe_int) pe_int) pe_int (nomark _)) (pw_and1 (pt_cmpR (op_neNil hr.units) (pe_ix ix_list (pv 0) (pv 5) (fun _ _ => rfl)) (pe_lst pa_nil) (nomark _)))))
      (pss_one (ps_set (i := 7) sc_l_spoilt.nd rfl (.inl rfl) (pe_ix ix_list (pe_ix ix_list (pv 0) (pv 5) (fun _ _ => rfl)) (pe_op op_mod (pe_op op_fdiv (pv 1) pe_int) (pe_callB call_len_seq (by rfl) T.z_len (by decide +kernel) (pa_cons (pe_ix ix_list (pv 0) (pv 5) (fun _ _ => rfl)) pa_nil))) (fun _ _ => rfl))))
      pss_nil)
      (pss_cons (ps_set (i := 8) sc_l_spoilt.nd rfl (.inl rfl) (pe_op op_cat (pe_op op_cat (pe_slice sl_list (pe_ix ix_list (pv 0) (pv 5) (fun _ _ => rfl)) po_none (po_some (pv 6))) (pe_lst (pa_cons (pv 7) pa_nil))) (pe_slice sl_list (pe_ix ix_list (pv 0) (pv 5) (fun _ _ => rfl)) (po_some (pv 6)) po_none)))
      (pss_one (ps_ret (pe_op op_cat (pe_op op_cat (pe_slice sl_list (pv 0) po_none (po_some (pv 5))) (pe_lst (pa_cons (pv 8) pa_nil))) (pe_slice sl_list (pv 0) (po_some (pe_op op_add (pv 5) pe_int)) po_none))))))))))))), ?_⟩
    refine q_asg (v := .str everyS) ev_c fun H1 e1 => ?_
    refine q_asgL (xs := odd7.map V.str) (el_is (el_lst (vs := [.str "", .str "A", .str "a b", .str (Txt.mul "a" 31), .str "a-b", .str "-", .str "a~"]) (ea_cons ev_c (ea_cons ev_c (ea_cons ev_c (ea_cons (ev_op ev_c ev_c (MuEd.rv_mulS (by decide) (by decide) (by decide))) (ea_cons ev_c (ea_cons ev_c (ea_cons ev_c ea_nil))))))) (by simp)) rfl) fun po H2 hpo e2 h2 => ?_
    obtain ⟨k, hk, zk⟩ : ∃ k : Nat, n / 64 % 5 = (k : Int) ∧ k < 5 := ⟨(n / 64 % 5).toNat, by omega, by omega⟩
    refine q_asg (v := .int (k : Int)) (ev_is (ev_op (ev_op (ev_var rfl) ev_c (rv_I ⟨by decide, by decide⟩)) ev_c (rv_I (by decide))) (congrArg V.int hk)) fun H3 e3 => ?_
    have zcps : everyS.cps.toList.length = 58 := by decide +kernel
    have hc := atI_mod (xs := everyS.cps.toList) (n := n / 320) (m := 58) 0 zcps (by decide)
    have mc : everyS.cps.toList.getD (n / 320 % ((58 : Nat) : Int)).toNat 0 ∈ everyS.cps.toList := by
      have lt : (n / 320 % ((58 : Nat) : Int)).toNat < everyS.cps.toList.length := by
        rw [zcps]
        omega
      rw [List.getD_eq_getElem?_getD, List.getElem?_eq_getElem lt]
      exact List.getElem_mem lt
    generalize everyS.cps.toList.getD (n / 320 % ((58 : Nat) : Int)).toNat 0 = c at hc mc
    obtain ⟨bb, bz, z1, z2⟩ := bent_bad c mc k (List.mem_range.mpr zk)
    have e13 := (e1.trans e2).trans e3
    refine q_app (xs := odd7.map V.str) (v := .str (bentW c k)) (e3 _ _ h2) (ev_var rfl) (MuX.ev_addS (MuX.ev_addS (MuEd.ev_cutT ev_c (ev_var rfl) (by decide)) (ev_op (ev_var rfl) (ev_op (ev_op (ev_var rfl) ev_c (rv_I ⟨by decide, by decide⟩)) (ev_is (ev_lenS (ev_var rfl) (by rw [every_len]; decide)) (congrArg (fun z : Nat => V.int (z : Int)) every_len)) (rv_I (by decide))) (rv_ixS (by rw [every_len]; decide) hc)) (by show _ + 1 ≤ 100000; omega)) (MuEd.ev_cutF ev_c (ev_var rfl) (by decide)) (by rw [MuEd.app_len]; show _ + 1 + _ ≤ 100000; omega)) (by simp [odd7]) fun H4 e4 => ?_
    have eA : Ex H (upd H4 po (.lst (odd7.map V.str ++ [.str (bentW c k)]))) := Ex.mut (e13.trans e4) (fresh_back e1 hpo)
    have hA : (upd H4 po (.lst (odd7.map V.str ++ [.str (bentW c k)]))) po = some (.lst ((odd7 ++ [bentW c k]).map V.str)) := by
      rw [upd_same, List.map_append]
      rfl
    generalize upd H4 po (.lst (odd7.map V.str ++ [.str (bentW c k)])) = HA at eA hA
    have oddB : ∀ u ∈ odd7 ++ [bentW c k], ¬ WordOk u ∧ u.length ≤ 1000 := fun u m => by
      rcases List.mem_append.mp m with m | m
      · exact odd7_bad u m
      · rw [List.mem_singleton.mp m]
        exact ⟨bb, bz⟩
    have zodd : ((odd7 ++ [bentW c k]).map V.str).length = 8 := by simp [odd7]
    generalize odd7 ++ [bentW c k] = odds at hA oddB zodd
    have hbA := eA _ _ hb
    have npos : 0 < ls.length := List.length_pos_iff.mpr hne
    obtain ⟨a, ha, za⟩ : ∃ a : Nat, n / 16 % (ls.length : Int) = (a : Int) ∧ a < ls.length := by
      have r0 := Int.emod_nonneg (n / 16) (show (ls.length : Int) ≠ 0 by omega)
      have r1 := Int.emod_lt_of_pos (n / 16) (show (0 : Int) < ls.length by omega)
      exact ⟨(n / 16 % (ls.length : Int)).toNat, by omega, by omega⟩
    have gc : ls[a]? = some ls[a] := List.getElem?_eq_getElem za
    have mc2 : ls[a] ∈ ls := List.getElem_mem za
    generalize ls[a] = d at gc mc2
    obtain ⟨zd, okd⟩ := hls d mc2
    have gr : (ls.map fun p => V.ref p.1)[a]? = some (.ref d.1) := by rw [List.getElem?_map, gc]; rfl
    refine q_asg (v := .int (a : Int)) (ev_is (ev_op (ev_op (ev_var rfl) ev_c (rv_I ⟨by decide, by decide⟩)) (ev_is (ev_len (K := K) (ev_var rfl) (sq_of hbA)) (by rw [List.length_map])) (rv_I (by omega))) (congrArg V.int ha)) fun H5 e5 => ?_
    have e05 := eA.trans e5
    have set : ∀ {H' : Hp} {σ' : L2.St}, Ex H H' → σ'[0]? = some (some (.ref b)) → σ'[5]? = some (some (.int (a : Int))) → Ev (tOp (rIxL K) (tVar 0) (tVar 5)) σ' H' (.ref d.1) := fun {H' σ'} e g0 g5 => ev_op (ev_var g0) (ev_var g5) (rv_ixL (sq_of (e _ _ hb)) (atI_nat gr))
    have hd : ∀ {H' : Hp}, Ex H H' → SqL K H' d.1 (d.2.map V.str) := fun {H'} e => sq_of (e _ _ (hat d mc2))
    obtain ⟨s, hs, zs⟩ : ∃ s : Nat, n / 1024 % ((d.2.length : Int) + 1) = (s : Int) ∧ s ≤ d.2.length := by
      have r0 := Int.emod_nonneg (n / 1024) (show (d.2.length : Int) + 1 ≠ 0 by omega)
      have r1 := Int.emod_lt_of_pos (n / 1024) (show (0 : Int) < (d.2.length : Int) + 1 by omega)
      exact ⟨(n / 1024 % ((d.2.length : Int) + 1)).toNat, by omega, by omega⟩
    refine q_asg (v := .int (s : Int)) (ev_is (ev_op (ev_op (ev_var rfl) ev_c (rv_I ⟨by decide, by decide⟩)) (ev_op (ev_is (ev_len (K := K) (set e05 rfl rfl) (hd e05)) (by rw [List.length_map])) ev_c rv_I0) (rv_I (by omega))) (congrArg V.int hs)) fun H6 e6 => ?_
    have e06 := e05.trans e6
    obtain ⟨u0, h0, m0⟩ : ∃ u0, atI (odds.map V.str) (n % ((8 : Nat) : Int)) = some (.str u0) ∧ u0 ∈ odds := by
      have h := atI_mod (xs := odds.map V.str) (n := n) (m := 8) .non zodd (by decide)
      have lt : (n % ((8 : Nat) : Int)).toNat < (odds.map V.str).length := by
        rw [zodd]
        omega
      rw [List.length_map] at lt
      refine ⟨odds[(n % ((8 : Nat) : Int)).toNat], ?_, List.getElem_mem lt⟩
      rw [h, List.getD_eq_getElem?_getD, List.getElem?_map, List.getElem?_eq_getElem lt]
      rfl
    refine q_asg (v := .str u0) (ev_op (ev_var rfl) (ev_op (ev_var rfl) ev_c (rv_I (by decide))) (rv_ixL (sq_of ((e5.trans e6) _ _ hA)) h0)) fun H7 e7 => ?_
    have e07 := e06.trans e7
    refine q_cut (M := fun σ' H' => Ex H H' ∧ ∃ u : Str, (¬ WordOk u ∨ u ∈ d.2) ∧ u.length ≤ 1000 ∧ ∃ x2 x3 x4, σ' = [some (.ref b), some (.int n), x2, x3, x4, some (.int (a : Int)), some (.int (s : Int)), some (.str u), none]) ?_ fun σ' H8 hm => ?_
    · refine s_when (b := decide (n / 8 % 2 = 1) && !(d.2.map V.str).isEmpty) (et_and (et_test (ev_op (ev_op (ev_op (ev_var rfl) ev_c (rv_I ⟨by decide, by decide⟩)) ev_c (rv_I (by decide))) ev_c rv_eqI)) fun _ => et_test (ev_neNil (set e07 rfl rfl) (hd e07) (el_lst ea_nil (by decide)))) (fun hb1 H8 e8 => ?_) (fun hb1 H8 e8 => ⟨e07.trans e8, u0, .inl (oddB u0 m0).1, (oddB u0 m0).2, _, _, _, rfl⟩)
      have hne2 : d.2.map V.str ≠ [] := fun z => by
        rw [z] at hb1
        simp at hb1
      obtain ⟨x, hx, mx⟩ := atI_emod (n := n / 3) hne2
      obtain ⟨u, mu, rfl⟩ := List.mem_map.mp mx
      have npos2 : (0 : Int) < ((d.2.map V.str).length : Int) := by
        have := List.length_pos_iff.mpr hne2
        omega
      have e08 := e07.trans e8
      refine s_asg (v := .str u) (ev_op (set e08 rfl rfl) (ev_op (ev_op (ev_var rfl) ev_c (rv_I ⟨by decide, by decide⟩)) (ev_len (set e08 rfl rfl) (hd e08)) (rv_I npos2)) (rv_ixL (hd e08) hx)) fun H9 e9 => ⟨e08.trans e9, u, .inr mu, by have := (okd u mu).2.1; omega, _, _, _, rfl⟩
    · obtain ⟨e08, u, hu, zu, x2, x3, x4, rfl⟩ := hm
      obtain ⟨c1, c2⟩ := cutV_at d.2 s
      refine q_asgL (xs := (d.2.take s ++ [u] ++ d.2.drop s).map V.str) (el_is (el_cat (el_cat (el_is (el_sl (K := K) (set e08 rfl rfl) eo_none (eo_some (ev_var rfl)) (hd e08)) c1) (el_lst (ea_cons (ev_var rfl) ea_nil) (by simp)) (by rw [List.length_map, List.length_take]; show _ + 1 ≤ 100000; omega)) (el_is (el_sl (K := K) (set e08 rfl rfl) (eo_some (ev_var rfl)) eo_none (hd e08)) c2) (by rw [List.length_append, List.length_map, List.length_map, List.length_take, List.length_drop]; show _ + 1 + _ ≤ 100000; omega)) (by rw [List.map_append, List.map_append]; rfl)) fun pw H9 hpw e9 h9 => ?_
      have e09 := e08.trans e9
      obtain ⟨c3, _⟩ := cutV_atR ls a
      obtain ⟨_, c4⟩ := cutV_atR ls (a + 1)
      have h9b := e09 _ _ hb
      refine s_retL (xs := (ls.take a ++ [(pw, d.2.take s ++ [u] ++ d.2.drop s)] ++ ls.drop (a + 1)).map fun c => V.ref c.1) (el_is (el_cat (el_cat (el_is (el_sl (K := K) (ev_var rfl) eo_none (eo_some (ev_var rfl)) (sq_of h9b)) c3) (el_lst (vs := [.ref pw]) (ea_cons (ev_var rfl) ea_nil) (by simp)) (by rw [List.length_map, List.length_take]; show _ + 1 ≤ 100000; omega)) (el_is (el_sl (K := K) (ev_var rfl) (eo_some (ev_op (ev_var rfl) ev_c rv_I0)) eo_none (sq_of h9b)) c4) (by rw [List.length_append, List.length_map, List.length_map, List.length_take, List.length_drop]; show _ + 1 + _ ≤ 100000; omega)) (by rw [List.map_append, List.map_append]; rfl)) fun p H10 hp e10 h10 => ?_
      refine q _ _ (e09.trans e10) ⟨p, _, rfl, h10, fun c m => ?_, ?_, fun c m => ?_, ?_⟩
      · rcases List.mem_append.mp m with m | m
        · rcases List.mem_append.mp m with m | m
          · exact (e09.trans e10) _ _ (hat c (List.mem_of_mem_take m))
          · obtain rfl := List.mem_singleton.mp m
            exact e10 _ _ h9
        · exact (e09.trans e10) _ _ (hat c (List.mem_of_mem_drop m))
      · rw [List.length_append, List.length_append, List.length_take, List.length_drop]
        show _ + 1 + _ ≤ 60
        omega
      · have okc : ∀ c ∈ ls, c.2.length ≤ 60 ∧ ∀ u ∈ c.2, u.length ≤ 1000 := fun c mc => ⟨by have := (hls c mc).1; omega, fun v mv => by have := ((hls c mc).2 v mv).2.1; omega⟩
        rcases List.mem_append.mp m with m | m
        · rcases List.mem_append.mp m with m | m
          · exact okc c (List.mem_of_mem_take m)
          · obtain rfl := List.mem_singleton.mp m
            refine ⟨?_, fun v mv => ?_⟩
            · show (d.2.take s ++ [u] ++ d.2.drop s).length ≤ 60
              rw [List.length_append, List.length_append, List.length_take, List.length_drop]
              show _ + 1 + _ ≤ 60
              omega
            · rcases List.mem_append.mp mv with mv | mv
              · rcases List.mem_append.mp mv with mv | mv
                · exact (okc d mc2).2 v (List.mem_of_mem_take mv)
                · rw [List.mem_singleton.mp mv]
                  exact zu
              · exact (okc d mc2).2 v (List.mem_of_mem_drop mv)
        · exact okc c (List.mem_of_mem_drop m)
      · refine Bool.eq_false_iff.mpr fun z => ?_
        have := List.all_eq_true.mp z (pw, d.2.take s ++ [u] ++ d.2.drop s) (List.mem_append_left _ (List.mem_append_right _ (List.mem_singleton.mpr rfl)))
        rw [spoilt_bad hu] at this
        exact nomatch this

def D_l_cut (K : PySem.W.Frag) : Hp → List V → List V → Prop := fun H vs xs => ∃ (a : Addr) (ns : List Int), vs = [.ref a] ∧ SqL K H a (ns.map V.int) ∧ ns.length ≤ 63 ∧ xs = (ns.map cutI).map V.int
theorem bigM_ev {σ : L2.St} {H : Hp} : Ev (tOp (rI CPowW fun i j => V.int (i ^ j.toNat)) (tOp (rI CPow fun i j => V.int (i ^ j.toNat)) (tC (.int 10)) (tC (.int 60))) (tC (.int 60))) σ H (.int bigM) :=
  ev_is (ev_op (ev_op ev_c ev_c (rv_I ⟨by decide, by decide, by decide⟩)) ev_c (rv_I ⟨by decide, by decide +kernel⟩)) rfl
theorem ok_l_cut (T : Txt K mg base) : FnOk P w K mg base CX0 1 T.a_l_cut T.d_l_cut ["_law_script"] (SpLst (D_l_cut K)) := by
  refine T.F_l_cut.ok sc_l_cut (fun vs H Q E h => ?_) (fun cdv A outer s H vs Q E hr h => ?_)
  · obtain ⟨v, ⟨a, ns, rfl, _⟩, _⟩ := h
    rfl
  · obtain ⟨v, ⟨a, ns, rfl, hs, hn, rfl⟩, q⟩ := h
    refine ⟨_, (pss_cons (ps_set (i := 1) sc_l_cut.nd rfl (.inr rfl) (pe_op op_powW (pe_op op_pow pe_int pe_int) pe_int))
      (pss_one (ps_ret (pe_lc (own := [("_law_cell", 2)]) (g := gName 2) (tt := tYes) rfl sc_l_cut.nd (pi_list (pv 0)) (blkOk_by (N := ["_law_script", "_law_most", "_law_cell"]) (sc := defScope s_l_cut) (by decide +kernel)) (fun _ _ _ _ _ => (pg_name (i := 2) sc_l_cut.nd rfl (Or.inl rfl))) (fun _ _ _ _ _ => pts_nil) (fun _ _ _ _ _ => (pe_ix (show IxR _ (rIxL K) from ix_list) (pe_lst (pa_cons (pv 2) (pa_cons (pe_op op_add (pv 1) (pe_op op_mod (pv 2) (pv 1))) pa_nil))) (pe_callTy call_int1 (by rfl) T.z_int (by decide +kernel) (pa_cons (pe_cmpR op_ge (pv 2) (pv 1) (nomark _)) pa_nil)) (fun _ _ => rfl))))))), ?_⟩
    refine q_asg (v := .int bigM) bigM_ev fun H1 e1 => ?_
    refine s_retL (el_is (el_lcL (xs := ns.map V.int) (fun _ => true) (fun i => .int (cutI (ns.getD i 0))) (ev_var rfl) (ex_l e1 hs) (by rw [List.length_map]; omega) (fun x => rfl) (fun i x H2 e2 hi H3 e3 Q q => q H3 (Ex.refl H3)) (fun i x H2 e2 hi _ => ?_)) ?_) fun p H2 hp e2 h2 => q p H2 (fresh_back e1 hp) (e1.trans e2) h2
    · obtain ⟨c, hc, rfl⟩ : ∃ c, ns[i]? = some c ∧ x = .int c := by
        rw [List.getElem?_map] at hi
        cases e : ns[i]? with
        | none => rw [e] at hi; cases hi
        | some z => rw [e] at hi; exact ⟨z, rfl, (Option.some.inj hi).symm⟩
      have hg : ns.getD i 0 = c := by rw [List.getD_eq_getElem?_getD, hc]; rfl
      rw [hg]
      refine ev_ixNew (K := K) (xs := [.int c, .int (bigM + c % bigM)]) (i := if decide (bigM ≤ c) then 1 else 0) (el_lst (by walk_at "mu g") (by simp)) (by walk_at "mu g") ?_
      unfold cutI
      by_cases hc2 : bigM ≤ c
      · rw [if_pos (decide_eq_true hc2), if_pos hc2]
        exact atI_nat (j := 1) rfl
      · rw [if_neg (by rw [decide_eq_false hc2]; decide), if_neg hc2]
        exact atI_nat (j := 0) rfl
    · rw [List.length_map]
      exact given_map ns cutI

def setTw : PyData := .list [.tuple [.none, .str "set"], .tuple [.none, .str "set"]]
theorem setTw_ok : SeqAt.shaped setTw = true ∧ setTw.canLay0 = true := ⟨by decide +kernel, by decide +kernel⟩
def RTwoS : V → Hp → Prop := fun v H => ∃ p t1 t2 : Addr, v = .ref p ∧ H p = some (.lst [.ref t1, .ref t2]) ∧ H t1 = some (.tup [.non, .str "set"]) ∧ H t2 = some (.tup [.non, .str "set"])
theorem two_dp {K : PySem.W.Frag} {v : V} {H : Hp} (h : RTwoS v H) : Dp K H v setTw := by
  obtain ⟨p, t1, t2, rfl, hp, h1, h2⟩ := h
  exact .lst (sq_of hp) (.cons (.tup (st_of h1) (.cons .non (.cons (.str _) .nil))) (.cons (.tup (st_of h2) (.cons .non (.cons (.str _) .nil))) .nil))
theorem two_later {v : V} {H H' : Hp} (h : RTwoS v H) (e : Ex H H') : RTwoS v H' := by
  obtain ⟨p, t1, t2, rfl, hp, h1, h2⟩ := h
  exact ⟨p, t1, t2, rfl, e _ _ hp, e _ _ h1, e _ _ h2⟩
theorem evx_two {σ : L2.St} {H : Hp} {ta tb : TE} (h1 : EvX ta σ H RSetW2) (h2 : ∀ H1, Ex H H1 → EvX tb σ H1 RSetW2) : EvX (tLst (tCons ta (tCons tb tNil))) σ H RTwoS := fun H1 e Q q =>
  h1 H1 e _ fun v H2 e2 ⟨t1, e5, g1⟩ => h2 H2 (e.trans e2) H2 (Ex.refl _) _ fun w H3 e3 ⟨t2, e6, g2⟩ => ⟨sz_of (by simp), fun p hp => by
    subst e5 e6
    exact q _ _ ((e2.trans e3).trans (Ex.new hp)) ⟨p, t1, t2, rfl, upd_same, (e3.trans (Ex.new hp)) _ _ g1, (Ex.new hp) _ _ g2⟩⟩
theorem evx_twice {σ : L2.St} {H : Hp} {ta : TE} {ti : TE} (h : EvU ta σ H [.non, .str "set"]) (hi : ∀ H1, Ex H H1 → Ev ti σ H1 (.int 2)) : EvX (tOp rRep (tLst (tCons ta tNil)) ti) σ H RTwoS := fun H0 e Q q =>
  h H0 e _ fun t H1 _ e1 g1 => ⟨sz_of (by simp), fun l hl => hi _ ((e.trans e1).trans (Ex.new hl)) _ (Ex.refl _) _ fun H2 e2 => by
    have e12 := (Ex.new (o := .lst [.ref t]) hl).trans e2
    refine ⟨l, 2, _, rfl, rfl, e2 _ _ upd_same, by decide, by decide, sz_of (by show 1 * 2 ≤ 100000; decide), fun p hp => ?_⟩
    exact q _ _ ((e1.trans e12).trans (Ex.new hp)) ⟨p, t, t, rfl, upd_same, (e12.trans (Ex.new hp)) _ _ g1, (e12.trans (Ex.new hp)) _ _ g1⟩⟩
def spLaw (K : PySem.W.Frag) (tabs : List Addr) : Sp := fun vs H Q _ => ∃ (a : Addr) (ns : List Int), vs = [.ref a] ∧ SqL K H a (ns.map V.int) ∧ ns.length ≤ 63 ∧ (∀ P ∈ tabs, H P = some (MuGen.TabO P)) ∧ ∀ H', Ex H H' → Q (.bl true) H'
theorem ok_p_law (T : Txt K mg base) {f : Addr} {fd : FuncData} (F : Fun K "law" "law" s_p_law f fd) : FnOk P w K mg base CX0 10 f fd ["_law_script"] (spLaw K [T.P_p_is_word, T.P_p_are_unlike_words]) := by
  refine F.ok sc_p_law (fun vs H Q E h => ?_) (fun cdv A outer s H vs Q E hr h => ?_)
  · obtain ⟨a, ns, rfl, _⟩ := h
    rfl
  · obtain ⟨a, ns, rfl, hs, hn, htab, q⟩ := h
    have hP : H T.P_p_is_word = some (MuGen.TabO T.P_p_is_word) := htab _ (by simp)
    have hPu : H T.P_p_are_unlike_words = some (MuGen.TabO T.P_p_are_unlike_words) := htab _ (by simp)
    refine ⟨_, (pss_cons (ps_set (i := 0) sc_p_law.nd rfl (.inl rfl) (pe_call (ok_l_cut T) (hr.mono (by decide)) rfl T.g_l_cut T.F_l_cut.kp T.b_l_cut .nil pass0 (pa_cons (pv 0) pa_nil)))
      (pss_cons (ps_set (i := 1) sc_p_law.nd rfl (.inl rfl) (pe_call (ok_l_mix T) (hr.mono (by decide)) rfl T.g_l_mix T.F_l_mix.kp T.b_l_mix .nil pass0 (pa_cons (pe_call (ok_l_cell_at T) (hr.mono (by decide)) rfl T.g_l_cell_at T.F_l_cell_at.kp T.b_l_cell_at .nil pass0 (pa_cons (pv 0) (pa_cons pe_int pa_nil))) (pa_cons pe_int pa_nil))))
      (pss_cons (ps_set (i := 2) sc_p_law.nd rfl (.inl rfl) (pe_call (ok_l_lot T) (hr.mono (by decide)) rfl T.g_l_lot T.F_l_lot.kp T.b_l_lot .nil pass0 (pa_cons (pv 0) (pa_cons pe_int (pa_cons (pe_ix ix_list (pe_lst (pa_cons pe_int (pa_cons pe_int pa_nil))) (pe_callTy call_int1 (by rfl) T.z_int (by decide +kernel) (pa_cons (pe_cmpR op_eq (pe_op op_mod (pv 1) pe_int) pe_int (nomark _)) pa_nil)) (fun _ _ => rfl)) pa_nil)))))
      (pss_cons (ps_set (i := 3) sc_p_law.nd rfl (.inl rfl) (pe_call (ok_l_lot T) (hr.mono (by decide)) rfl T.g_l_lot T.F_l_lot.kp T.b_l_lot .nil pass0 (pa_cons (pv 0) (pa_cons pe_int (pa_cons pe_int pa_nil)))))
      (pss_cut (ps_if (PW.pt (pw_and (pt_cmpR op_eq (pe_op op_mod (pe_op op_fdiv (pv 1) pe_int) pe_int) pe_int (nomark _)) (pw_and1 (pt_cmpR (op_neNil hr.units) (pv 2) (pe_lst pa_nil) (nomark _)))))
      (pss_cons (ps_set (i := 4) sc_p_law.nd rfl (.inl rfl) (pe_call (ok_l_spoilt T) (hr.mono (by decide)) rfl T.g_l_spoilt T.F_l_spoilt.kp T.b_l_spoilt .nil pass0 (pa_cons (pv 2) (pa_cons (pe_op op_fdiv (pv 1) pe_int) pa_nil))))
      (pss_cons (ps_setLc (i := 5) (own := [("_law_words", 6)]) (g := gName 6) (tt := tYes) rfl sc_p_law.nd rfl rfl (sw_true rfl rfl rfl (by decide +kernel)) (pi_list (pv 4)) (blkOk_by (N := ["_law_script", "_law_number", "_law_lot_here", "_law_other", "_law_bad", "_law_handed", "_law_words"]) (sc := defScope s_p_law) (by decide +kernel)) (fun _ _ _ _ _ => (pg_name (i := 6) sc_p_law.nd rfl (Or.inl rfl))) (fun _ _ _ _ _ => pts_nil) (fun _ _ _ _ _ => (pe_callTy (show CallR _ (.type "list") (Evl.rListS K) from call_list_of) (by rfl) T.z_list (by decide +kernel) (pa_cons (pv 6) pa_nil))))
      (pss_one (ps_if (PW.pt (pw_or (pt_cmpR (op_neD hr.units) (pe_lst (pa_cons (pe_call (ok_l_told T) (hr.mono (by decide)) rfl T.g_l_told T.F_l_told.kp T.b_l_told .nil pass0 (pa_cons pe_int (pa_cons (pv 5) pa_nil))) (pa_cons (pe_call (ok_l_told T) (hr.mono (by decide)) rfl T.g_l_told T.F_l_told.kp T.b_l_told .nil pass0 (pa_cons pe_int (pa_cons (pv 5) pa_nil))) pa_nil))) (pe_op op_rep (pe_lst (pa_cons (pe_tup (pa_cons pe_non (pa_cons pe_str pa_nil))) pa_nil)) pe_int) (nomark _)) (pw_or1 (pt_cmpR (MuBag.op_neV hr.units) (pv 5) (pv 4) (nomark _)))))
      (pss_one (ps_ret pe_bl))
      pss_nil))))
      pss_nil)
      (pss_one (ps_ret (pe_and (pe_call (ok_l_good T) (hr.mono (by decide)) rfl T.g_l_good T.F_l_good.kp T.b_l_good .nil pass0 (pa_cons (pv 2) pa_nil)) (pe_and (pe_call (ok_l_good T) (hr.mono (by decide)) rfl T.g_l_good T.F_l_good.kp T.b_l_good .nil pass0 (pa_cons (pv 3) pa_nil)) (pe_one (pe_call (ok_l_good T) (hr.mono (by decide)) rfl T.g_l_good T.F_l_good.kp T.b_l_good .nil pass0 (pa_cons (pv 2) pa_nil)))))))))))), ?_⟩
    refine q_asgL (el_callL (vs := [.ref a]) (ea_cons (ev_var rfl) ea_nil) fun H1 e1 => ⟨a, ns, rfl, ex_l e1 hs, hn, rfl⟩) fun p0 H1 hp0 e1 h1 => ?_
    generalize ns.map cutI = cs at h1
    generalize hnum : mix (cs.getD 20 0) 0 = num
    refine q_asg (v := .int num) (ev_is (ev_callV (v := .int (mix (cs.getD 20 0) 0)) (vs := [.int (cs.getD 20 0), .int ((0 : Nat) : Int)]) (ea_cons (ev_callV (vs := [.ref p0, .int ((20 : Nat) : Int)]) (ea_cons (ev_var rfl) (ea_cons ev_c ea_nil)) fun _ e => ⟨p0, cs, 20, rfl, sq_of (e _ _ h1), rfl⟩) (ea_cons ev_c ea_nil)) fun _ _ => ⟨_, 0, rfl, by omega, rfl⟩) (congrArg V.int hnum)) fun H2 e2 => ?_
    obtain ⟨mo, hmo, zmo⟩ : ∃ mo : Nat, atI ([V.int 24, V.int 40]) (if decide (num % 8 = 5) = true then 1 else 0) = some (.int (mo : Int)) ∧ mo ≤ 45 := by
      by_cases c : num % 8 = 5
      · exact ⟨40, by rw [decide_eq_true c]; rfl, by decide⟩
      · exact ⟨24, by rw [decide_eq_false c]; rfl, by decide⟩
    let RLot : V → Hp → Prop := fun v H' => ∃ (p : Addr) (ls : List (Addr × List Str)), v = .ref p ∧ H' p = some (.lst (ls.map fun p => V.ref p.1)) ∧ LotAt H' ls ∧ ls.length ≤ 45 ∧ ∀ c ∈ ls, c.2.length ≤ 59 ∧ c.2.Nodup ∧ ∀ u ∈ c.2, WordOk u
    refine q_asgX (R := RLot) (evx_call (vs := [.ref p0, .int ((0 : Nat) : Int), .int (mo : Int)]) (ea_cons (ev_var rfl) (ea_cons ev_c (ea_cons (ev_ixNew (K := K) (xs := [.int 24, .int 40]) (i := if decide (num % 8 = 5) = true then 1 else 0) (el_lst (ea_cons ev_c (ea_cons ev_c ea_nil)) (by simp)) (ev_cb (ea_cons (ev_op (ev_op (ev_var rfl) ev_c (rv_I (by decide))) ev_c rv_eqI) ea_nil) rc_intB) hmo) ea_nil))) fun H3 e3 => ⟨_, ⟨p0, cs, 0, mo, rfl, sq_of ((e2.trans e3) _ _ h1), by omega, zmo, rfl⟩, fun v H4 e4 r => ?_⟩) fun v H3 e3 r => ?_
    · obtain ⟨p, ls, rfl, _, h, hat, zl, ok⟩ := r
      exact ⟨p, ls, rfl, h, hat, by omega, fun c mc => by
        obtain ⟨_, _, nd, wo, z⟩ := ok c mc
        exact ⟨by omega, nd, wo⟩⟩
    obtain ⟨pb, ls, rfl, h3, hat, zl, ok⟩ := r
    have e23 := e2.trans e3
    refine q_asgX (R := RLot) (evx_call (vs := [.ref p0, .int ((10 : Nat) : Int), .int ((9 : Nat) : Int)]) (ea_cons (ev_var rfl) (ea_cons ev_c (ea_cons ev_c ea_nil))) fun H4 e4 => ⟨_, ⟨p0, cs, 10, 9, rfl, sq_of ((e23.trans e4) _ _ h1), by omega, by omega, rfl⟩, fun v H5 e5 r => ?_⟩) fun v H4 e4 r => ?_
    · obtain ⟨p, ls, rfl, _, h, hat, zl, ok⟩ := r
      exact ⟨p, ls, rfl, h, hat, by omega, fun c mc => by
        obtain ⟨_, _, nd, wo, z⟩ := ok c mc
        exact ⟨by omega, nd, wo⟩⟩
    obtain ⟨px, lx, rfl, h4, hatx, zx, okx⟩ := r
    have e14 := (e1.trans e23).trans e4
    have h4b := e4 _ _ h3
    have hatb : LotAt H4 ls := fun c m => e4 _ _ (hat c m)
    refine q_cut (M := fun σ' H' => Ex H4 H' ∧ ∃ x4 x5 x6, σ' = [some (.ref p0), some (.int num), some (.ref pb), some (.ref px), x4, x5, x6]) ?_ fun σ' H5 hm => ?_
    · refine s_when (b := decide (num / 8 % 3 = 1) && !(ls.map fun p => V.ref p.1).isEmpty) (et_and (et_test (ev_op (ev_op (ev_op (ev_var rfl) ev_c (rv_I ⟨by decide, by decide⟩)) ev_c (rv_I (by decide))) ev_c rv_eqI)) fun _ => et_test (ev_neNil (ev_var rfl) (sq_of h4b) (el_lst ea_nil (by decide)))) (fun hb1 H5 e5 => ?_) (fun hb1 H5 e5 => ⟨e5, _, _, _, rfl⟩)
      have hne : ls ≠ [] := fun z => by
        rw [z] at hb1
        simp at hb1
      refine q_asgX (R := fun v H' => ∃ (p : Addr) (bs : List (Addr × List Str)), v = .ref p ∧ H' p = some (.lst (bs.map fun p => V.ref p.1)) ∧ LotAt H' bs ∧ bs.length ≤ 60 ∧ BadW bs) (evx_call (vs := [.ref pb, .int (num / 24)]) (ea_cons (ev_var rfl) (ea_cons (ev_op (ev_var rfl) ev_c (rv_I ⟨by decide, by decide⟩)) ea_nil)) fun H6 e6 => ⟨_, ⟨pb, num / 24, ls, rfl, (e5.trans e6) _ _ h4b, fun c m => (e5.trans e6) _ _ (hatb c m), hne, by omega, fun c m => ⟨(ok c m).1, (ok c m).2.2⟩, rfl⟩, fun v H7 e7 ⟨p, bs, e, h, ha, z, b1, b2⟩ => ⟨p, bs, e, h, ha, z, b1, b2⟩⟩) fun v H6 e6 r => ?_
      obtain ⟨pz, bs, rfl, h6, hatz, zz, bad⟩ := r
      refine q_asgX (MuWi.evx_copies (ls := bs) (ev_var rfl) h6 hatz (by omega) (fun _ => rfl) fun _ => rfl) fun v H7 e7 r => ?_
      obtain ⟨ph, hs2, rfl, _, h7, hath, eh⟩ := r
      have badh : BadW hs2 := by
        have tr : ∀ c ∈ hs2, ∃ d ∈ bs, d.2 = c.2 := fun c mc => by
          have m : c.2 ∈ bs.map (·.2) := eh ▸ List.mem_map.mpr ⟨c, mc, rfl⟩
          exact List.mem_map.mp m
        refine ⟨fun c mc => ?_, ?_⟩
        · obtain ⟨d, md, ed⟩ := tr c mc
          rw [← ed]
          exact bad.1 d md
        · have e1 : (hs2.all fun c => setB c.2) = (hs2.map (·.2)).all setB := by rw [List.all_map]; rfl
          have e2 : (bs.all fun c => setB c.2) = (bs.map (·.2)).all setB := by rw [List.all_map]; rfl
          rw [e1, eh, ← e2]
          exact bad.2
      have e17 := ((e14.trans e5).trans e6).trans e7
      have told : ∀ {H' : Hp} {σ' : L2.St} (way : Int), (way = 0 ∨ way = 1) → Ex H7 H' → σ'[5]? = some (some (.ref ph)) → EvX (tCall (SpR (D_l_told K T.P_p_is_word T.P_p_are_unlike_words)) [] E0 (tCons (tC (.int way)) (tCons (tVar 5) tNil))) σ' H' RSetW2 := fun {H' σ'} way hw e hi => evx_call (vs := [.int way, .ref ph]) (ea_cons ev_c (ea_cons (ev_var hi) ea_nil)) fun H8 e8 => ⟨_, ⟨way, ph, hs2, rfl, hw, (e.trans e8) _ _ h7, fun c m => (e.trans e8) _ _ (hath c m), ((e17.trans e).trans e8) _ _ hP, ((e17.trans e).trans e8) _ _ hPu, .inr ⟨badh, rfl⟩⟩, fun v H9 e9 r => r⟩
      refine s_when (b := false || false) (et_or (et_test (MuTri.ev_neX (RA := RTwoS) (RB := RTwoS) (evx_two (told 0 (.inl rfl) (Ex.refl _) rfl) fun H8 e8 => told 1 (.inr rfl) e8 rfl) (fun v1 H8 e8 _ => evx_twice (eu_tup (vs := [.non, .str "set"]) (ea_cons ev_c (ea_cons ev_c ea_nil)) (by simp)) fun _ _ => ev_c) fun v1 H8 v2 H9 _ r1 e9 r2 => ⟨setTw, two_dp (two_later r1 e9), two_dp r2, setTw_ok.1, setTw_ok.2⟩)) fun _ => et_test (MuWi.ev_neVV (n := 2) (ev_var rfl) (ev_var rfl) (sq_of h7) (sq_of (e7 _ _ h6)) (by decide) fun H8 e8 => MuWi.lots_eqV eh (fun c m => e8 _ _ (hath c m)) fun c m => (e7.trans e8) _ _ (hatz c m))) (fun hb => nomatch hb) (fun _ H8 e8 => ⟨((e5.trans e6).trans e7).trans e8, _, _, _, rfl⟩)
    · obtain ⟨e5, x4, x5, x6, rfl⟩ := hm
      have e15 := e14.trans e5
      have good1 : ∀ {H' : Hp} {σ' : L2.St}, Ex H5 H' → σ'[2]? = some (some (.ref pb)) → Ev (tCall (SpVal (D_l_good K T.P_p_is_word T.P_p_are_unlike_words)) [] E0 (tCons (tVar 2) tNil)) σ' H' (.bl true) := fun {H' σ'} e hi => ev_callV (vs := [.ref pb]) (ea_cons (ev_var hi) ea_nil) fun H6 e6 => ⟨pb, ls, rfl, ((e5.trans e).trans e6) _ _ h4b, fun c m => ((e5.trans e).trans e6) _ _ (hatb c m), zl, fun c m => ⟨by have := (ok c m).1; omega, (ok c m).2⟩, ((e15.trans e).trans e6) _ _ hP, ((e15.trans e).trans e6) _ _ hPu, rfl⟩
      refine s_ret (v := .bl (true && (true && true))) (ev_andV (good1 (Ex.refl _) rfl) fun _ => ev_andV (ev_callV (vs := [.ref px]) (ea_cons (ev_var rfl) ea_nil) fun H6 e6 => ⟨px, lx, rfl, (e5.trans e6) _ _ h4, fun c m => (e5.trans e6) _ _ (hatx c m), zx, fun c m => ⟨by have := (okx c m).1; omega, (okx c m).2⟩, (e15.trans e6) _ _ hP, (e15.trans e6) _ _ hPu, rfl⟩) fun _ => good1 (Ex.refl _) rfl) fun H6 e6 => q _ (e15.trans e6)

end
set_option maxHeartbeats 4000000 in
theorem all_mk {l : PySem.W.OpenLaw} {w : World} {K : PySem.W.Frag} {h : Heap} {mg : Str → Option Value} {fa : Addr} (X : K.In h) (G : h.Ns mainGlobals mg) (hfa : mg "law" = some (.ref fa)) (tabs : ∀ (y : Str) (c P : Addr), y ∈ (["is_word", "are_unlike_words"] : List Str) → PySem.W.tabIn K y = some (c, P) → PySem.W.CodeHd h c P ∧ h.get? P = some { cls := .none, data := .fields #[] })
    {oc_p_is_word kV_p_is_word dc_p_is_word pm_p_is_word ct_p_is_word : Value} {od_p_is_word an_p_is_word : Option Addr} {sl_p_is_word : Array (Option Value)} {f_p_is_word : Addr}
    {oc_p_are_unlike_words kV_p_are_unlike_words dc_p_are_unlike_words pm_p_are_unlike_words ct_p_are_unlike_words : Value} {od_p_are_unlike_words an_p_are_unlike_words : Option Addr} {sl_p_are_unlike_words : Array (Option Value)} {f_p_are_unlike_words : Addr}
    {oc_p_check_set kV_p_check_set dc_p_check_set pm_p_check_set cd_p_check_set ct_p_check_set : Value} {od_p_check_set an_p_check_set : Option Addr} {sl_p_check_set : Array (Option Value)} {f_p_check_set : Addr}
    {oc_p_check_sets kV_p_check_sets dc_p_check_sets pm_p_check_sets cd_p_check_sets ct_p_check_sets : Value} {od_p_check_sets an_p_check_sets : Option Addr} {sl_p_check_sets : Array (Option Value)} {f_p_check_sets : Addr}
    {oc_p_words_of kV_p_words_of dc_p_words_of pm_p_words_of cd_p_words_of ct_p_words_of : Value} {od_p_words_of an_p_words_of : Option Addr} {sl_p_words_of : Array (Option Value)} {f_p_words_of : Addr}
    {oc_p_has_words_of kV_p_has_words_of dc_p_has_words_of pm_p_has_words_of cd_p_has_words_of ct_p_has_words_of : Value} {od_p_has_words_of an_p_has_words_of : Option Addr} {sl_p_has_words_of : Array (Option Value)} {f_p_has_words_of : Addr}
    {oc_p_within_pairs kV_p_within_pairs dc_p_within_pairs pm_p_within_pairs cd_p_within_pairs ct_p_within_pairs : Value} {od_p_within_pairs an_p_within_pairs : Option Addr} {sl_p_within_pairs : Array (Option Value)} {f_p_within_pairs : Addr}
    {oc_p_tops kV_p_tops dc_p_tops pm_p_tops cd_p_tops ct_p_tops : Value} {od_p_tops an_p_tops : Option Addr} {sl_p_tops : Array (Option Value)} {f_p_tops : Addr}
    {oc_l_cell_at kV_l_cell_at dc_l_cell_at pm_l_cell_at cd_l_cell_at ct_l_cell_at : Value} {od_l_cell_at an_l_cell_at : Option Addr} {sl_l_cell_at : Array (Option Value)} {f_l_cell_at : Addr}
    {oc_l_mix kV_l_mix dc_l_mix pm_l_mix cd_l_mix ct_l_mix : Value} {od_l_mix an_l_mix : Option Addr} {sl_l_mix : Array (Option Value)} {f_l_mix : Addr}
    {oc_l_whole kV_l_whole dc_l_whole pm_l_whole cd_l_whole ct_l_whole : Value} {od_l_whole an_l_whole : Option Addr} {sl_l_whole : Array (Option Value)} {f_l_whole : Addr}
    {oc_l_set kV_l_set dc_l_set pm_l_set cd_l_set ct_l_set : Value} {od_l_set an_l_set : Option Addr} {sl_l_set : Array (Option Value)} {f_l_set : Addr}
    {oc_l_lot kV_l_lot dc_l_lot pm_l_lot cd_l_lot ct_l_lot : Value} {od_l_lot an_l_lot : Option Addr} {sl_l_lot : Array (Option Value)} {f_l_lot : Addr}
    {oc_l_within kV_l_within dc_l_within pm_l_within cd_l_within ct_l_within : Value} {od_l_within an_l_within : Option Addr} {sl_l_within : Array (Option Value)} {f_l_within : Addr}
    {oc_l_tops kV_l_tops dc_l_tops pm_l_tops cd_l_tops ct_l_tops : Value} {od_l_tops an_l_tops : Option Addr} {sl_l_tops : Array (Option Value)} {f_l_tops : Addr}
    {oc_l_kind kV_l_kind dc_l_kind pm_l_kind cd_l_kind ct_l_kind : Value} {od_l_kind an_l_kind : Option Addr} {sl_l_kind : Array (Option Value)} {f_l_kind : Addr}
    {oc_l_told kV_l_told dc_l_told pm_l_told cd_l_told ct_l_told : Value} {od_l_told an_l_told : Option Addr} {sl_l_told : Array (Option Value)} {f_l_told : Addr}
    {oc_l_good kV_l_good dc_l_good pm_l_good cd_l_good ct_l_good : Value} {od_l_good an_l_good : Option Addr} {sl_l_good : Array (Option Value)} {f_l_good : Addr}
    {oc_l_spoilt kV_l_spoilt dc_l_spoilt pm_l_spoilt cd_l_spoilt ct_l_spoilt : Value} {od_l_spoilt an_l_spoilt : Option Addr} {sl_l_spoilt : Array (Option Value)} {f_l_spoilt : Addr}
    {oc_l_cut kV_l_cut dc_l_cut pm_l_cut cd_l_cut ct_l_cut : Value} {od_l_cut an_l_cut : Option Addr} {sl_l_cut : Array (Option Value)} {f_l_cut : Addr}
    {oc_p_law kV_p_law dc_p_law pm_p_law cd_p_law ct_p_law : Value} {od_p_law an_p_law : Option Addr} {sl_p_law : Array (Option Value)} {f_p_law : Addr}
    {c_p_is_word P_p_is_word : Addr}
    (A_p_is_word : PySem.W.nsIn K mainGlobals "is_word" = some (some (.ref f_p_is_word))) (L_p_is_word : K.lookup f_p_is_word = some ⟨oc_p_is_word, od_p_is_word, .func (PySem.W.fnOf "is_word" "is_word" (defArgs s_p_is_word) (defBody s_p_is_word) (defScope s_p_is_word) .none kV_p_is_word dc_p_is_word pm_p_is_word an_p_is_word (.ref c_p_is_word) ct_p_is_word), sl_p_is_word⟩) (C_p_is_word : PySem.W.codeIn K (.ref c_p_is_word) "is_word" = true) (K_p_is_word : PySem.W.keepIn K (.ref f_p_is_word) = true)
    {oe_p_is_word : Value} {oo_p_is_word : Option Addr} {ov_p_is_word : Array Value} {os_p_is_word : Array (Option Value)} (D_p_is_word : K.lookup c_p_is_word = some ⟨oe_p_is_word, oo_p_is_word, .fields ov_p_is_word, os_p_is_word⟩) (V_p_is_word : ov_p_is_word[11]? = some (.ref P_p_is_word)) (N_p_is_word : K.lookup P_p_is_word = none)
    {c_p_are_unlike_words P_p_are_unlike_words : Addr}
    (A_p_are_unlike_words : PySem.W.nsIn K mainGlobals "are_unlike_words" = some (some (.ref f_p_are_unlike_words))) (L_p_are_unlike_words : K.lookup f_p_are_unlike_words = some ⟨oc_p_are_unlike_words, od_p_are_unlike_words, .func (PySem.W.fnOf "are_unlike_words" "are_unlike_words" (defArgs s_p_are_unlike_words) (defBody s_p_are_unlike_words) (defScope s_p_are_unlike_words) .none kV_p_are_unlike_words dc_p_are_unlike_words pm_p_are_unlike_words an_p_are_unlike_words (.ref c_p_are_unlike_words) ct_p_are_unlike_words), sl_p_are_unlike_words⟩) (C_p_are_unlike_words : PySem.W.codeIn K (.ref c_p_are_unlike_words) "are_unlike_words" = true) (K_p_are_unlike_words : PySem.W.keepIn K (.ref f_p_are_unlike_words) = true)
    {oe_p_are_unlike_words : Value} {oo_p_are_unlike_words : Option Addr} {ov_p_are_unlike_words : Array Value} {os_p_are_unlike_words : Array (Option Value)} (D_p_are_unlike_words : K.lookup c_p_are_unlike_words = some ⟨oe_p_are_unlike_words, oo_p_are_unlike_words, .fields ov_p_are_unlike_words, os_p_are_unlike_words⟩) (V_p_are_unlike_words : ov_p_are_unlike_words[11]? = some (.ref P_p_are_unlike_words)) (N_p_are_unlike_words : K.lookup P_p_are_unlike_words = none)
    (A_p_check_set : PySem.W.nsIn K mainGlobals "check_set" = some (some (.ref f_p_check_set))) (L_p_check_set : K.lookup f_p_check_set = some ⟨oc_p_check_set, od_p_check_set, .func (PySem.W.fnOf "check_set" "check_set" (defArgs s_p_check_set) (defBody s_p_check_set) (defScope s_p_check_set) .none kV_p_check_set dc_p_check_set pm_p_check_set an_p_check_set cd_p_check_set ct_p_check_set), sl_p_check_set⟩) (C_p_check_set : PySem.W.codeIn K cd_p_check_set "check_set" = true) (K_p_check_set : PySem.W.keepIn K (.ref f_p_check_set) = true)
    (A_p_check_sets : PySem.W.nsIn K mainGlobals "check_sets" = some (some (.ref f_p_check_sets))) (L_p_check_sets : K.lookup f_p_check_sets = some ⟨oc_p_check_sets, od_p_check_sets, .func (PySem.W.fnOf "check_sets" "check_sets" (defArgs s_p_check_sets) (defBody s_p_check_sets) (defScope s_p_check_sets) .none kV_p_check_sets dc_p_check_sets pm_p_check_sets an_p_check_sets cd_p_check_sets ct_p_check_sets), sl_p_check_sets⟩) (C_p_check_sets : PySem.W.codeIn K cd_p_check_sets "check_sets" = true) (K_p_check_sets : PySem.W.keepIn K (.ref f_p_check_sets) = true)
    (A_p_words_of : PySem.W.nsIn K mainGlobals "words_of" = some (some (.ref f_p_words_of))) (L_p_words_of : K.lookup f_p_words_of = some ⟨oc_p_words_of, od_p_words_of, .func (PySem.W.fnOf "words_of" "words_of" (defArgs s_p_words_of) (defBody s_p_words_of) (defScope s_p_words_of) .none kV_p_words_of dc_p_words_of pm_p_words_of an_p_words_of cd_p_words_of ct_p_words_of), sl_p_words_of⟩) (C_p_words_of : PySem.W.codeIn K cd_p_words_of "words_of" = true) (K_p_words_of : PySem.W.keepIn K (.ref f_p_words_of) = true)
    (A_p_has_words_of : PySem.W.nsIn K mainGlobals "has_words_of" = some (some (.ref f_p_has_words_of))) (L_p_has_words_of : K.lookup f_p_has_words_of = some ⟨oc_p_has_words_of, od_p_has_words_of, .func (PySem.W.fnOf "has_words_of" "has_words_of" (defArgs s_p_has_words_of) (defBody s_p_has_words_of) (defScope s_p_has_words_of) .none kV_p_has_words_of dc_p_has_words_of pm_p_has_words_of an_p_has_words_of cd_p_has_words_of ct_p_has_words_of), sl_p_has_words_of⟩) (C_p_has_words_of : PySem.W.codeIn K cd_p_has_words_of "has_words_of" = true) (K_p_has_words_of : PySem.W.keepIn K (.ref f_p_has_words_of) = true)
    (A_p_within_pairs : PySem.W.nsIn K mainGlobals "within_pairs" = some (some (.ref f_p_within_pairs))) (L_p_within_pairs : K.lookup f_p_within_pairs = some ⟨oc_p_within_pairs, od_p_within_pairs, .func (PySem.W.fnOf "within_pairs" "within_pairs" (defArgs s_p_within_pairs) (defBody s_p_within_pairs) (defScope s_p_within_pairs) .none kV_p_within_pairs dc_p_within_pairs pm_p_within_pairs an_p_within_pairs cd_p_within_pairs ct_p_within_pairs), sl_p_within_pairs⟩) (C_p_within_pairs : PySem.W.codeIn K cd_p_within_pairs "within_pairs" = true) (K_p_within_pairs : PySem.W.keepIn K (.ref f_p_within_pairs) = true)
    (A_p_tops : PySem.W.nsIn K mainGlobals "tops" = some (some (.ref f_p_tops))) (L_p_tops : K.lookup f_p_tops = some ⟨oc_p_tops, od_p_tops, .func (PySem.W.fnOf "tops" "tops" (defArgs s_p_tops) (defBody s_p_tops) (defScope s_p_tops) .none kV_p_tops dc_p_tops pm_p_tops an_p_tops cd_p_tops ct_p_tops), sl_p_tops⟩) (C_p_tops : PySem.W.codeIn K cd_p_tops "tops" = true) (K_p_tops : PySem.W.keepIn K (.ref f_p_tops) = true)
    (A_l_cell_at : PySem.W.nsIn K mainGlobals "_law_cell_at" = some (some (.ref f_l_cell_at))) (L_l_cell_at : K.lookup f_l_cell_at = some ⟨oc_l_cell_at, od_l_cell_at, .func (PySem.W.fnOf "_law_cell_at" "_law_cell_at" (defArgs s_l_cell_at) (defBody s_l_cell_at) (defScope s_l_cell_at) .none kV_l_cell_at dc_l_cell_at pm_l_cell_at an_l_cell_at cd_l_cell_at ct_l_cell_at), sl_l_cell_at⟩) (C_l_cell_at : PySem.W.codeIn K cd_l_cell_at "_law_cell_at" = true) (K_l_cell_at : PySem.W.keepIn K (.ref f_l_cell_at) = true)
    (A_l_mix : PySem.W.nsIn K mainGlobals "_law_mix" = some (some (.ref f_l_mix))) (L_l_mix : K.lookup f_l_mix = some ⟨oc_l_mix, od_l_mix, .func (PySem.W.fnOf "_law_mix" "_law_mix" (defArgs s_l_mix) (defBody s_l_mix) (defScope s_l_mix) .none kV_l_mix dc_l_mix pm_l_mix an_l_mix cd_l_mix ct_l_mix), sl_l_mix⟩) (C_l_mix : PySem.W.codeIn K cd_l_mix "_law_mix" = true) (K_l_mix : PySem.W.keepIn K (.ref f_l_mix) = true)
    (A_l_whole : PySem.W.nsIn K mainGlobals "_law_whole" = some (some (.ref f_l_whole))) (L_l_whole : K.lookup f_l_whole = some ⟨oc_l_whole, od_l_whole, .func (PySem.W.fnOf "_law_whole" "_law_whole" (defArgs s_l_whole) (defBody s_l_whole) (defScope s_l_whole) .none kV_l_whole dc_l_whole pm_l_whole an_l_whole cd_l_whole ct_l_whole), sl_l_whole⟩) (C_l_whole : PySem.W.codeIn K cd_l_whole "_law_whole" = true) (K_l_whole : PySem.W.keepIn K (.ref f_l_whole) = true)
    (A_l_set : PySem.W.nsIn K mainGlobals "_law_set" = some (some (.ref f_l_set))) (L_l_set : K.lookup f_l_set = some ⟨oc_l_set, od_l_set, .func (PySem.W.fnOf "_law_set" "_law_set" (defArgs s_l_set) (defBody s_l_set) (defScope s_l_set) .none kV_l_set dc_l_set pm_l_set an_l_set cd_l_set ct_l_set), sl_l_set⟩) (C_l_set : PySem.W.codeIn K cd_l_set "_law_set" = true) (K_l_set : PySem.W.keepIn K (.ref f_l_set) = true)
    (A_l_lot : PySem.W.nsIn K mainGlobals "_law_lot" = some (some (.ref f_l_lot))) (L_l_lot : K.lookup f_l_lot = some ⟨oc_l_lot, od_l_lot, .func (PySem.W.fnOf "_law_lot" "_law_lot" (defArgs s_l_lot) (defBody s_l_lot) (defScope s_l_lot) .none kV_l_lot dc_l_lot pm_l_lot an_l_lot cd_l_lot ct_l_lot), sl_l_lot⟩) (C_l_lot : PySem.W.codeIn K cd_l_lot "_law_lot" = true) (K_l_lot : PySem.W.keepIn K (.ref f_l_lot) = true)
    (A_l_within : PySem.W.nsIn K mainGlobals "_law_within" = some (some (.ref f_l_within))) (L_l_within : K.lookup f_l_within = some ⟨oc_l_within, od_l_within, .func (PySem.W.fnOf "_law_within" "_law_within" (defArgs s_l_within) (defBody s_l_within) (defScope s_l_within) .none kV_l_within dc_l_within pm_l_within an_l_within cd_l_within ct_l_within), sl_l_within⟩) (C_l_within : PySem.W.codeIn K cd_l_within "_law_within" = true) (K_l_within : PySem.W.keepIn K (.ref f_l_within) = true)
    (A_l_tops : PySem.W.nsIn K mainGlobals "_law_tops" = some (some (.ref f_l_tops))) (L_l_tops : K.lookup f_l_tops = some ⟨oc_l_tops, od_l_tops, .func (PySem.W.fnOf "_law_tops" "_law_tops" (defArgs s_l_tops) (defBody s_l_tops) (defScope s_l_tops) .none kV_l_tops dc_l_tops pm_l_tops an_l_tops cd_l_tops ct_l_tops), sl_l_tops⟩) (C_l_tops : PySem.W.codeIn K cd_l_tops "_law_tops" = true) (K_l_tops : PySem.W.keepIn K (.ref f_l_tops) = true)
    (A_l_kind : PySem.W.nsIn K mainGlobals "_law_kind" = some (some (.ref f_l_kind))) (L_l_kind : K.lookup f_l_kind = some ⟨oc_l_kind, od_l_kind, .func (PySem.W.fnOf "_law_kind" "_law_kind" (defArgs s_l_kind) (defBody s_l_kind) (defScope s_l_kind) .none kV_l_kind dc_l_kind pm_l_kind an_l_kind cd_l_kind ct_l_kind), sl_l_kind⟩) (C_l_kind : PySem.W.codeIn K cd_l_kind "_law_kind" = true) (K_l_kind : PySem.W.keepIn K (.ref f_l_kind) = true)
    (A_l_told : PySem.W.nsIn K mainGlobals "_law_told" = some (some (.ref f_l_told))) (L_l_told : K.lookup f_l_told = some ⟨oc_l_told, od_l_told, .func (PySem.W.fnOf "_law_told" "_law_told" (defArgs s_l_told) (defBody s_l_told) (defScope s_l_told) .none kV_l_told dc_l_told pm_l_told an_l_told cd_l_told ct_l_told), sl_l_told⟩) (C_l_told : PySem.W.codeIn K cd_l_told "_law_told" = true) (K_l_told : PySem.W.keepIn K (.ref f_l_told) = true)
    (A_l_good : PySem.W.nsIn K mainGlobals "_law_good" = some (some (.ref f_l_good))) (L_l_good : K.lookup f_l_good = some ⟨oc_l_good, od_l_good, .func (PySem.W.fnOf "_law_good" "_law_good" (defArgs s_l_good) (defBody s_l_good) (defScope s_l_good) .none kV_l_good dc_l_good pm_l_good an_l_good cd_l_good ct_l_good), sl_l_good⟩) (C_l_good : PySem.W.codeIn K cd_l_good "_law_good" = true) (K_l_good : PySem.W.keepIn K (.ref f_l_good) = true)
    (A_l_spoilt : PySem.W.nsIn K mainGlobals "_law_spoilt" = some (some (.ref f_l_spoilt))) (L_l_spoilt : K.lookup f_l_spoilt = some ⟨oc_l_spoilt, od_l_spoilt, .func (PySem.W.fnOf "_law_spoilt" "_law_spoilt" (defArgs s_l_spoilt) (defBody s_l_spoilt) (defScope s_l_spoilt) .none kV_l_spoilt dc_l_spoilt pm_l_spoilt an_l_spoilt cd_l_spoilt ct_l_spoilt), sl_l_spoilt⟩) (C_l_spoilt : PySem.W.codeIn K cd_l_spoilt "_law_spoilt" = true) (K_l_spoilt : PySem.W.keepIn K (.ref f_l_spoilt) = true)
    (A_l_cut : PySem.W.nsIn K mainGlobals "_law_cut" = some (some (.ref f_l_cut))) (L_l_cut : K.lookup f_l_cut = some ⟨oc_l_cut, od_l_cut, .func (PySem.W.fnOf "_law_cut" "_law_cut" (defArgs s_l_cut) (defBody s_l_cut) (defScope s_l_cut) .none kV_l_cut dc_l_cut pm_l_cut an_l_cut cd_l_cut ct_l_cut), sl_l_cut⟩) (C_l_cut : PySem.W.codeIn K cd_l_cut "_law_cut" = true) (K_l_cut : PySem.W.keepIn K (.ref f_l_cut) = true)
    (A_p_law : PySem.W.nsIn K mainGlobals "law" = some (some (.ref f_p_law))) (L_p_law : K.lookup f_p_law = some ⟨oc_p_law, od_p_law, .func (PySem.W.fnOf "law" "law" (defArgs s_p_law) (defBody s_p_law) (defScope s_p_law) .none kV_p_law dc_p_law pm_p_law an_p_law cd_p_law ct_p_law), sl_p_law⟩) (C_p_law : PySem.W.codeIn K cd_p_law "law" = true) (K_p_law : PySem.W.keepIn K (.ref f_p_law) = true)
    {t_SIGNS : Tok} (A_SIGNS : PySem.W.nsIn K mainGlobals "SIGNS" = some (some (.str (PySem.Str.ofString "abcdefghijklmnopqrstuvwxyz0123456789.") t_SIGNS)))
    {t_MOST_SIGNS : Tok} (A_MOST_SIGNS : PySem.W.nsIn K mainGlobals "MOST_SIGNS" = some (some (.int 30 t_MOST_SIGNS)))
    (hn_x : PySem.W.specialIn K (.builtin "object.__class__") "__get__" = some (some (.builtin "getset_descriptor.__get__"))) (ht_x : PySem.W.takesIn K (.builtin "object.__class__") = some true)
    {f_LikeError : Addr} (A_LikeError : PySem.W.nsIn K mainGlobals "LikeError" = some (some (.ref f_LikeError))) (I_LikeError : PySem.W.isClsIn K f_LikeError = true) (Y_LikeError : PySem.W.typeIn K (.ref f_LikeError) = some (.type "type")) (E_LikeError : PySem.W.subIn K (.ref f_LikeError) (.type "BaseException") = some true)
    {f_NoKind : Addr} (A_NoKind : PySem.W.nsIn K mainGlobals "NoKind" = some (some (.ref f_NoKind))) (I_NoKind : PySem.W.isClsIn K f_NoKind = true) (Y_NoKind : PySem.W.typeIn K (.ref f_NoKind) = some (.type "type")) (E_NoKind : PySem.W.subIn K (.ref f_NoKind) (.type "BaseException") = some true)
    {f_NoShare : Addr} (A_NoShare : PySem.W.nsIn K mainGlobals "NoShare" = some (some (.ref f_NoShare))) (I_NoShare : PySem.W.isClsIn K f_NoShare = true) (Y_NoShare : PySem.W.typeIn K (.ref f_NoShare) = some (.type "type")) (E_NoShare : PySem.W.subIn K (.ref f_NoShare) (.type "BaseException") = some true)
    {f_NoSet : Addr} (A_NoSet : PySem.W.nsIn K mainGlobals "NoSet" = some (some (.ref f_NoSet))) (I_NoSet : PySem.W.isClsIn K f_NoSet = true) (Y_NoSet : PySem.W.typeIn K (.ref f_NoSet) = some (.type "type")) (E_NoSet : PySem.W.subIn K (.ref f_NoSet) (.type "BaseException") = some true)
    {f_NoWeight : Addr} (A_NoWeight : PySem.W.nsIn K mainGlobals "NoWeight" = some (some (.ref f_NoWeight))) (I_NoWeight : PySem.W.isClsIn K f_NoWeight = true) (Y_NoWeight : PySem.W.typeIn K (.ref f_NoWeight) = some (.type "type")) (E_NoWeight : PySem.W.subIn K (.ref f_NoWeight) (.type "BaseException") = some true)
    {f_NoOrder : Addr} (A_NoOrder : PySem.W.nsIn K mainGlobals "NoOrder" = some (some (.ref f_NoOrder))) (I_NoOrder : PySem.W.isClsIn K f_NoOrder = true) (Y_NoOrder : PySem.W.typeIn K (.ref f_NoOrder) = some (.type "type")) (E_NoOrder : PySem.W.subIn K (.ref f_NoOrder) (.type "BaseException") = some true)
    {f_NoParts : Addr} (A_NoParts : PySem.W.nsIn K mainGlobals "NoParts" = some (some (.ref f_NoParts))) (I_NoParts : PySem.W.isClsIn K f_NoParts = true) (Y_NoParts : PySem.W.typeIn K (.ref f_NoParts) = some (.type "type")) (E_NoParts : PySem.W.subIn K (.ref f_NoParts) (.type "BaseException") = some true)
    {f_NoWay : Addr} (A_NoWay : PySem.W.nsIn K mainGlobals "NoWay" = some (some (.ref f_NoWay))) (I_NoWay : PySem.W.isClsIn K f_NoWay = true) (Y_NoWay : PySem.W.typeIn K (.ref f_NoWay) = some (.type "type")) (E_NoWay : PySem.W.subIn K (.ref f_NoWay) (.type "BaseException") = some true)
    {f_NoName : Addr} (A_NoName : PySem.W.nsIn K mainGlobals "NoName" = some (some (.ref f_NoName))) (I_NoName : PySem.W.isClsIn K f_NoName = true) (Y_NoName : PySem.W.typeIn K (.ref f_NoName) = some (.type "type")) (E_NoName : PySem.W.subIn K (.ref f_NoName) (.type "BaseException") = some true)
    {f_NoSize : Addr} (A_NoSize : PySem.W.nsIn K mainGlobals "NoSize" = some (some (.ref f_NoSize))) (I_NoSize : PySem.W.isClsIn K f_NoSize = true) (Y_NoSize : PySem.W.typeIn K (.ref f_NoSize) = some (.type "type")) (E_NoSize : PySem.W.subIn K (.ref f_NoSize) (.type "BaseException") = some true)
    {f_NoText : Addr} (A_NoText : PySem.W.nsIn K mainGlobals "NoText" = some (some (.ref f_NoText))) (I_NoText : PySem.W.isClsIn K f_NoText = true) (Y_NoText : PySem.W.typeIn K (.ref f_NoText) = some (.type "type")) (E_NoText : PySem.W.subIn K (.ref f_NoText) (.type "BaseException") = some true)
    {f_NoRow : Addr} (A_NoRow : PySem.W.nsIn K mainGlobals "NoRow" = some (some (.ref f_NoRow))) (I_NoRow : PySem.W.isClsIn K f_NoRow = true) (Y_NoRow : PySem.W.typeIn K (.ref f_NoRow) = some (.type "type")) (E_NoRow : PySem.W.subIn K (.ref f_NoRow) (.type "BaseException") = some true)
    {f_NoNumber : Addr} (A_NoNumber : PySem.W.nsIn K mainGlobals "NoNumber" = some (some (.ref f_NoNumber))) (I_NoNumber : PySem.W.isClsIn K f_NoNumber = true) (Y_NoNumber : PySem.W.typeIn K (.ref f_NoNumber) = some (.type "type")) (E_NoNumber : PySem.W.subIn K (.ref f_NoNumber) (.type "BaseException") = some true)
    (X_NoSet : PySem.W.excIn K f_NoSet [.type "ValueError", .type "Exception", .type "BaseException", .type "object"] "ValueError.__new__" = true) (K_NoSet : PySem.W.keepIn K (.ref f_NoSet) = true) (hg_NoSet : PySem.W.findIn K (.ref f_NoSet) "__getattribute__" = some (some (.builtin "BaseException.__getattribute__"))) (hk_NoSet : PySem.W.findIn K (.ref f_NoSet) "__getattr__" = some none)
    (hd_NoSet : PySem.W.hasDictIn K f_NoSet = true) (ha_NoSet : PySem.W.findIn K (.ref f_NoSet) "__class__" = some (some (.builtin "object.__class__"))) (hm_NoSet : PySem.W.mroIn K f_NoSet (.type "object") = some true) (sv_NoSet : PySem.W.subIn K (.ref f_NoSet) (.type "ValueError") = some true)
    (s_NoSet_NoKind : PySem.W.subIn K (.ref f_NoSet) (.ref f_NoKind) = some false)
    (j_NoSet_NoKind : PySem.W.isIn K (.ref f_NoSet) f_NoKind = false)
    (s_NoSet_NoShare : PySem.W.subIn K (.ref f_NoSet) (.ref f_NoShare) = some false)
    (j_NoSet_NoShare : PySem.W.isIn K (.ref f_NoSet) f_NoShare = false)
    (s_NoSet_NoSet : PySem.W.subIn K (.ref f_NoSet) (.ref f_NoSet) = some true)
    (s_NoSet_NoWeight : PySem.W.subIn K (.ref f_NoSet) (.ref f_NoWeight) = some false)
    (j_NoSet_NoWeight : PySem.W.isIn K (.ref f_NoSet) f_NoWeight = false)
    (s_NoSet_NoOrder : PySem.W.subIn K (.ref f_NoSet) (.ref f_NoOrder) = some false)
    (j_NoSet_NoOrder : PySem.W.isIn K (.ref f_NoSet) f_NoOrder = false)
    (s_NoSet_NoParts : PySem.W.subIn K (.ref f_NoSet) (.ref f_NoParts) = some false)
    (j_NoSet_NoParts : PySem.W.isIn K (.ref f_NoSet) f_NoParts = false)
    (s_NoSet_NoWay : PySem.W.subIn K (.ref f_NoSet) (.ref f_NoWay) = some false)
    (j_NoSet_NoWay : PySem.W.isIn K (.ref f_NoSet) f_NoWay = false)
    (s_NoSet_NoName : PySem.W.subIn K (.ref f_NoSet) (.ref f_NoName) = some false)
    (j_NoSet_NoName : PySem.W.isIn K (.ref f_NoSet) f_NoName = false)
    (s_NoSet_NoSize : PySem.W.subIn K (.ref f_NoSet) (.ref f_NoSize) = some false)
    (j_NoSet_NoSize : PySem.W.isIn K (.ref f_NoSet) f_NoSize = false)
    (s_NoSet_NoText : PySem.W.subIn K (.ref f_NoSet) (.ref f_NoText) = some false)
    (j_NoSet_NoText : PySem.W.isIn K (.ref f_NoSet) f_NoText = false)
    (s_NoSet_NoRow : PySem.W.subIn K (.ref f_NoSet) (.ref f_NoRow) = some false)
    (j_NoSet_NoRow : PySem.W.isIn K (.ref f_NoSet) f_NoRow = false)
    (s_NoSet_NoNumber : PySem.W.subIn K (.ref f_NoSet) (.ref f_NoNumber) = some false)
    (j_NoSet_NoNumber : PySem.W.isIn K (.ref f_NoSet) f_NoNumber = false)
    (s_NoSet_LikeError : PySem.W.subIn K (.ref f_NoSet) (.ref f_LikeError) = some true)
    (Z_ValueError : PySem.W.nsIn K mainGlobals "ValueError" = some none)
    (Z_all : PySem.W.nsIn K mainGlobals "all" = some none)
    (Z_bool : PySem.W.nsIn K mainGlobals "bool" = some none)
    (Z_int : PySem.W.nsIn K mainGlobals "int" = some none)
    (Z_isinstance : PySem.W.nsIn K mainGlobals "isinstance" = some none)
    (Z_len : PySem.W.nsIn K mainGlobals "len" = some none)
    (Z_list : PySem.W.nsIn K mainGlobals "list" = some none)
    (Z_range : PySem.W.nsIn K mainGlobals "range" = some none)
    (Z_set : PySem.W.nsIn K mainGlobals "set" = some none)
    (Z_sorted : PySem.W.nsIn K mainGlobals "sorted" = some none)
    : MuGen.LawTab l w K CX0 10 63 "_law_script" mg fa h := by
  have e := hfa.symm.trans (PySem.W.mg_of X G A_p_law)
  cases e
  refine ⟨(PySem.W.fnOf "law" "law" (defArgs s_p_law) (defBody s_p_law) (defScope s_p_law) .none kV_p_law dc_p_law pm_p_law an_p_law cd_p_law ct_p_law), [(c_p_is_word, P_p_is_word), (c_p_are_unlike_words, P_p_are_unlike_words)], spLaw K [P_p_is_word, P_p_are_unlike_words], ?_, fun s v => .of_eq rfl, fun H a ns hl hT hS => ⟨a, ns, rfl, hS, hl, fun P hP => ?_, fun H' e => ⟨rfl, fun p hp => e _ _ (hT p hp)⟩⟩, fun base _ _ TT => ?_⟩
  · intro p hp
    simp only [List.mem_cons, List.not_mem_nil, or_false] at hp
    rcases hp with rfl | rfl
    · exact ⟨(tabs "is_word" c_p_is_word P_p_is_word (by simp) (MuGen.tab_at A_p_is_word L_p_is_word rfl D_p_is_word V_p_is_word)).2, N_p_is_word, (tabs "is_word" c_p_is_word P_p_is_word (by simp) (MuGen.tab_at A_p_is_word L_p_is_word rfl D_p_is_word V_p_is_word)).1⟩
    · exact ⟨(tabs "are_unlike_words" c_p_are_unlike_words P_p_are_unlike_words (by simp) (MuGen.tab_at A_p_are_unlike_words L_p_are_unlike_words rfl D_p_are_unlike_words V_p_are_unlike_words)).2, N_p_are_unlike_words, (tabs "are_unlike_words" c_p_are_unlike_words P_p_are_unlike_words (by simp) (MuGen.tab_at A_p_are_unlike_words L_p_are_unlike_words rfl D_p_are_unlike_words V_p_are_unlike_words)).1⟩
  · obtain ⟨p, hp, rfl⟩ := List.mem_map.mp (show P ∈ ([(c_p_is_word, P_p_is_word), (c_p_are_unlike_words, P_p_are_unlike_words)] : List (Addr × Addr)).map (·.2) from hP)
    exact hT p hp
  let T : Txt K mg base := { t_SIGNS := t_SIGNS, g_SIGNS := PySem.W.mg_of X G A_SIGNS, t_MOST_SIGNS := t_MOST_SIGNS, g_MOST_SIGNS := PySem.W.mg_of X G A_MOST_SIGNS, a_LikeError := f_LikeError, g_LikeError := PySem.W.mg_of X G A_LikeError, a_NoKind := f_NoKind, g_NoKind := PySem.W.mg_of X G A_NoKind, a_NoShare := f_NoShare, g_NoShare := PySem.W.mg_of X G A_NoShare, a_NoSet := f_NoSet, g_NoSet := PySem.W.mg_of X G A_NoSet, a_NoWeight := f_NoWeight, g_NoWeight := PySem.W.mg_of X G A_NoWeight, a_NoOrder := f_NoOrder, g_NoOrder := PySem.W.mg_of X G A_NoOrder, a_NoParts := f_NoParts, g_NoParts := PySem.W.mg_of X G A_NoParts, a_NoWay := f_NoWay, g_NoWay := PySem.W.mg_of X G A_NoWay, a_NoName := f_NoName, g_NoName := PySem.W.mg_of X G A_NoName, a_NoSize := f_NoSize, g_NoSize := PySem.W.mg_of X G A_NoSize, a_NoText := f_NoText, g_NoText := PySem.W.mg_of X G A_NoText, a_NoRow := f_NoRow, g_NoRow := PySem.W.mg_of X G A_NoRow, a_NoNumber := f_NoNumber, g_NoNumber := PySem.W.mg_of X G A_NoNumber, i_NoSet_NoKind := MuX.kit_no I_NoKind Y_NoKind s_NoSet_NoKind j_NoSet_NoKind, i_NoSet_NoShare := MuX.kit_no I_NoShare Y_NoShare s_NoSet_NoShare j_NoSet_NoShare, i_NoSet_NoSet := MuX.kit_yes I_NoSet Y_NoSet s_NoSet_NoSet, i_NoSet_NoWeight := MuX.kit_no I_NoWeight Y_NoWeight s_NoSet_NoWeight j_NoSet_NoWeight, i_NoSet_NoOrder := MuX.kit_no I_NoOrder Y_NoOrder s_NoSet_NoOrder j_NoSet_NoOrder, i_NoSet_NoParts := MuX.kit_no I_NoParts Y_NoParts s_NoSet_NoParts j_NoSet_NoParts, i_NoSet_NoWay := MuX.kit_no I_NoWay Y_NoWay s_NoSet_NoWay j_NoSet_NoWay, i_NoSet_NoName := MuX.kit_no I_NoName Y_NoName s_NoSet_NoName j_NoSet_NoName, i_NoSet_NoSize := MuX.kit_no I_NoSize Y_NoSize s_NoSet_NoSize j_NoSet_NoSize, i_NoSet_NoText := MuX.kit_no I_NoText Y_NoText s_NoSet_NoText j_NoSet_NoText, i_NoSet_NoRow := MuX.kit_no I_NoRow Y_NoRow s_NoSet_NoRow j_NoSet_NoRow, i_NoSet_NoNumber := MuX.kit_no I_NoNumber Y_NoNumber s_NoSet_NoNumber j_NoSet_NoNumber, x_NoSet := ⟨X_NoSet, K_NoSet, Y_NoSet, MuX.exm_yes I_LikeError Y_LikeError E_LikeError s_NoSet_LikeError, ⟨hg_NoSet, hk_NoSet, E_NoSet, hd_NoSet, ha_NoSet, hn_x, ht_x, hm_NoSet⟩⟩, v_NoSet := MuX.kit_val sv_NoSet, z_ValueError := PySem.W.mg_none_of X G Z_ValueError, z_all := PySem.W.mg_none_of X G Z_all, z_bool := PySem.W.mg_none_of X G Z_bool, z_int := PySem.W.mg_none_of X G Z_int, z_isinstance := PySem.W.mg_none_of X G Z_isinstance, z_len := PySem.W.mg_none_of X G Z_len, z_list := PySem.W.mg_none_of X G Z_list, z_range := PySem.W.mg_none_of X G Z_range, z_set := PySem.W.mg_none_of X G Z_set, z_sorted := PySem.W.mg_none_of X G Z_sorted, a_p_is_word := f_p_is_word, d_p_is_word := _, c_p_is_word := c_p_is_word, P_p_is_word := P_p_is_word, F_p_is_word := MuGen.funT_mk (st := s_p_is_word) L_p_is_word C_p_is_word K_p_is_word, B_p_is_word := TT (c_p_is_word, P_p_is_word) (by simp), b_p_is_word := (fun_mk (st := s_p_is_word) L_p_is_word C_p_is_word K_p_is_word).binds (ps := ["text"]) (fun _ _ _ _ _ _ us hl => match us, hl with | [_], _ => rfl), g_p_is_word := PySem.W.mg_of X G A_p_is_word, a_p_are_unlike_words := f_p_are_unlike_words, d_p_are_unlike_words := _, c_p_are_unlike_words := c_p_are_unlike_words, P_p_are_unlike_words := P_p_are_unlike_words, F_p_are_unlike_words := MuGen.funT_mk (st := s_p_are_unlike_words) L_p_are_unlike_words C_p_are_unlike_words K_p_are_unlike_words, B_p_are_unlike_words := TT (c_p_are_unlike_words, P_p_are_unlike_words) (by simp), b_p_are_unlike_words := (fun_mk (st := s_p_are_unlike_words) L_p_are_unlike_words C_p_are_unlike_words K_p_are_unlike_words).binds (ps := ["texts"]) (fun _ _ _ _ _ _ us hl => match us, hl with | [_], _ => rfl), g_p_are_unlike_words := PySem.W.mg_of X G A_p_are_unlike_words, a_p_check_set := f_p_check_set, d_p_check_set := _, F_p_check_set := fun_mk (st := s_p_check_set) L_p_check_set C_p_check_set K_p_check_set, b_p_check_set := (fun_mk (st := s_p_check_set) L_p_check_set C_p_check_set K_p_check_set).binds (ps := ["words"]) (fun _ _ _ _ _ _ us hl => match us, hl with | [_], _ => rfl), g_p_check_set := PySem.W.mg_of X G A_p_check_set, a_p_check_sets := f_p_check_sets, d_p_check_sets := _, F_p_check_sets := fun_mk (st := s_p_check_sets) L_p_check_sets C_p_check_sets K_p_check_sets, b_p_check_sets := (fun_mk (st := s_p_check_sets) L_p_check_sets C_p_check_sets K_p_check_sets).binds (ps := ["lot"]) (fun _ _ _ _ _ _ us hl => match us, hl with | [_], _ => rfl), g_p_check_sets := PySem.W.mg_of X G A_p_check_sets, a_p_words_of := f_p_words_of, d_p_words_of := _, F_p_words_of := fun_mk (st := s_p_words_of) L_p_words_of C_p_words_of K_p_words_of, b_p_words_of := (fun_mk (st := s_p_words_of) L_p_words_of C_p_words_of K_p_words_of).binds (ps := ["lot"]) (fun _ _ _ _ _ _ us hl => match us, hl with | [_], _ => rfl), g_p_words_of := PySem.W.mg_of X G A_p_words_of, a_p_has_words_of := f_p_has_words_of, d_p_has_words_of := _, F_p_has_words_of := fun_mk (st := s_p_has_words_of) L_p_has_words_of C_p_has_words_of K_p_has_words_of, b_p_has_words_of := (fun_mk (st := s_p_has_words_of) L_p_has_words_of C_p_has_words_of K_p_has_words_of).binds (ps := ["lot", "texts"]) (fun _ _ _ _ _ _ us hl => match us, hl with | [_, _], _ => rfl), g_p_has_words_of := PySem.W.mg_of X G A_p_has_words_of, a_p_within_pairs := f_p_within_pairs, d_p_within_pairs := _, F_p_within_pairs := fun_mk (st := s_p_within_pairs) L_p_within_pairs C_p_within_pairs K_p_within_pairs, b_p_within_pairs := (fun_mk (st := s_p_within_pairs) L_p_within_pairs C_p_within_pairs K_p_within_pairs).binds (ps := ["lot"]) (fun _ _ _ _ _ _ us hl => match us, hl with | [_], _ => rfl), g_p_within_pairs := PySem.W.mg_of X G A_p_within_pairs, a_p_tops := f_p_tops, d_p_tops := _, F_p_tops := fun_mk (st := s_p_tops) L_p_tops C_p_tops K_p_tops, b_p_tops := (fun_mk (st := s_p_tops) L_p_tops C_p_tops K_p_tops).binds (ps := ["lot"]) (fun _ _ _ _ _ _ us hl => match us, hl with | [_], _ => rfl), g_p_tops := PySem.W.mg_of X G A_p_tops, a_l_cell_at := f_l_cell_at, d_l_cell_at := _, F_l_cell_at := fun_mk (st := s_l_cell_at) L_l_cell_at C_l_cell_at K_l_cell_at, b_l_cell_at := (fun_mk (st := s_l_cell_at) L_l_cell_at C_l_cell_at K_l_cell_at).binds (ps := ["_law_script", "_law_k"]) (fun _ _ _ _ _ _ us hl => match us, hl with | [_, _], _ => rfl), g_l_cell_at := PySem.W.mg_of X G A_l_cell_at, a_l_mix := f_l_mix, d_l_mix := _, F_l_mix := fun_mk (st := s_l_mix) L_l_mix C_l_mix K_l_mix, b_l_mix := (fun_mk (st := s_l_mix) L_l_mix C_l_mix K_l_mix).binds (ps := ["_law_cell", "_law_k"]) (fun _ _ _ _ _ _ us hl => match us, hl with | [_, _], _ => rfl), g_l_mix := PySem.W.mg_of X G A_l_mix, a_l_whole := f_l_whole, d_l_whole := _, F_l_whole := fun_mk (st := s_l_whole) L_l_whole C_l_whole K_l_whole, b_l_whole := (fun_mk (st := s_l_whole) L_l_whole C_l_whole K_l_whole).binds (ps := ["_law_got"]) (fun _ _ _ _ _ _ us hl => match us, hl with | [_], _ => rfl), g_l_whole := PySem.W.mg_of X G A_l_whole, a_l_set := f_l_set, d_l_set := _, F_l_set := fun_mk (st := s_l_set) L_l_set C_l_set K_l_set, b_l_set := (fun_mk (st := s_l_set) L_l_set C_l_set K_l_set).binds (ps := ["_law_number", "_law_before"]) (fun _ _ _ _ _ _ us hl => match us, hl with | [_, _], _ => rfl), g_l_set := PySem.W.mg_of X G A_l_set, a_l_lot := f_l_lot, d_l_lot := _, F_l_lot := fun_mk (st := s_l_lot) L_l_lot C_l_lot K_l_lot, b_l_lot := (fun_mk (st := s_l_lot) L_l_lot C_l_lot K_l_lot).binds (ps := ["_law_script", "_law_start", "_law_most"]) (fun _ _ _ _ _ _ us hl => match us, hl with | [_, _, _], _ => rfl), g_l_lot := PySem.W.mg_of X G A_l_lot, a_l_within := f_l_within, d_l_within := _, F_l_within := fun_mk (st := s_l_within) L_l_within C_l_within K_l_within, b_l_within := (fun_mk (st := s_l_within) L_l_within C_l_within K_l_within).binds (ps := ["_law_lot_here"]) (fun _ _ _ _ _ _ us hl => match us, hl with | [_], _ => rfl), g_l_within := PySem.W.mg_of X G A_l_within, a_l_tops := f_l_tops, d_l_tops := _, F_l_tops := fun_mk (st := s_l_tops) L_l_tops C_l_tops K_l_tops, b_l_tops := (fun_mk (st := s_l_tops) L_l_tops C_l_tops K_l_tops).binds (ps := ["_law_lot_here"]) (fun _ _ _ _ _ _ us hl => match us, hl with | [_], _ => rfl), g_l_tops := PySem.W.mg_of X G A_l_tops, a_l_kind := f_l_kind, d_l_kind := _, F_l_kind := fun_mk (st := s_l_kind) L_l_kind C_l_kind K_l_kind, b_l_kind := (fun_mk (st := s_l_kind) L_l_kind C_l_kind K_l_kind).binds (ps := ["_law_kept"]) (fun _ _ _ _ _ _ us hl => match us, hl with | [_], _ => rfl), g_l_kind := PySem.W.mg_of X G A_l_kind, a_l_told := f_l_told, d_l_told := _, F_l_told := fun_mk (st := s_l_told) L_l_told C_l_told K_l_told, b_l_told := (fun_mk (st := s_l_told) L_l_told C_l_told K_l_told).binds (ps := ["_law_way", "_law_lot_here"]) (fun _ _ _ _ _ _ us hl => match us, hl with | [_, _], _ => rfl), g_l_told := PySem.W.mg_of X G A_l_told, a_l_good := f_l_good, d_l_good := _, F_l_good := fun_mk (st := s_l_good) L_l_good C_l_good K_l_good, b_l_good := (fun_mk (st := s_l_good) L_l_good C_l_good K_l_good).binds (ps := ["_law_lot_here"]) (fun _ _ _ _ _ _ us hl => match us, hl with | [_], _ => rfl), g_l_good := PySem.W.mg_of X G A_l_good, a_l_spoilt := f_l_spoilt, d_l_spoilt := _, F_l_spoilt := fun_mk (st := s_l_spoilt) L_l_spoilt C_l_spoilt K_l_spoilt, b_l_spoilt := (fun_mk (st := s_l_spoilt) L_l_spoilt C_l_spoilt K_l_spoilt).binds (ps := ["_law_lot_here", "_law_number"]) (fun _ _ _ _ _ _ us hl => match us, hl with | [_, _], _ => rfl), g_l_spoilt := PySem.W.mg_of X G A_l_spoilt, a_l_cut := f_l_cut, d_l_cut := _, F_l_cut := fun_mk (st := s_l_cut) L_l_cut C_l_cut K_l_cut, b_l_cut := (fun_mk (st := s_l_cut) L_l_cut C_l_cut K_l_cut).binds (ps := ["_law_script"]) (fun _ _ _ _ _ _ us hl => match us, hl with | [_], _ => rfl), g_l_cut := PySem.W.mg_of X G A_l_cut }
  exact ok_p_law T (fun_mk (st := s_p_law) L_p_law C_p_law K_p_law)
end MuK
open PySem PySem.W PyProof.Rows
set_option maxHeartbeats 0 in
theorem PySem.Challenge.cw_muchalike_k66_sets_within_others_holds : PySem.Challenge.rw_muchalike_k66_sets_within_others.Holds := by
  w_on; o_law; k_head; (case hw => w_witness2)
  k_fill
  refine MuGen.walk_tabs (l := PySem.Challenge.rw_muchalike_k66_sets_within_others) (n := 63) (k := 10) (x := "_law_script") (CX := fun _ => L2.CX0) ["is_word", "are_unlike_words"] rfl (by decide) rfl ⟨rfl, by decide, by decide⟩ (by decide +kernel) (fun w h Y => PySem.W.kIn_of Y) ?F (fun _ _ _ _ _ h => h)
  case F =>
    intro w mg fa h KX G hmg tabs
    refine' MuK.all_mk KX G hmg tabs ?A_p_is_word ?L_p_is_word ?C_p_is_word ?K_p_is_word ?D_p_is_word ?V_p_is_word ?N_p_is_word ?A_p_are_unlike_words ?L_p_are_unlike_words ?C_p_are_unlike_words ?K_p_are_unlike_words ?D_p_are_unlike_words ?V_p_are_unlike_words ?N_p_are_unlike_words ?A_p_check_set ?L_p_check_set ?C_p_check_set ?K_p_check_set ?A_p_check_sets ?L_p_check_sets ?C_p_check_sets ?K_p_check_sets ?A_p_words_of ?L_p_words_of ?C_p_words_of ?K_p_words_of ?A_p_has_words_of ?L_p_has_words_of ?C_p_has_words_of ?K_p_has_words_of ?A_p_within_pairs ?L_p_within_pairs ?C_p_within_pairs ?K_p_within_pairs ?A_p_tops ?L_p_tops ?C_p_tops ?K_p_tops ?A_l_cell_at ?L_l_cell_at ?C_l_cell_at ?K_l_cell_at ?A_l_mix ?L_l_mix ?C_l_mix ?K_l_mix ?A_l_whole ?L_l_whole ?C_l_whole ?K_l_whole ?A_l_set ?L_l_set ?C_l_set ?K_l_set ?A_l_lot ?L_l_lot ?C_l_lot ?K_l_lot ?A_l_within ?L_l_within ?C_l_within ?K_l_within ?A_l_tops ?L_l_tops ?C_l_tops ?K_l_tops ?A_l_kind ?L_l_kind ?C_l_kind ?K_l_kind ?A_l_told ?L_l_told ?C_l_told ?K_l_told ?A_l_good ?L_l_good ?C_l_good ?K_l_good ?A_l_spoilt ?L_l_spoilt ?C_l_spoilt ?K_l_spoilt ?A_l_cut ?L_l_cut ?C_l_cut ?K_l_cut ?A_p_law ?L_p_law ?C_p_law ?K_p_law ?A_SIGNS ?A_MOST_SIGNS ?hn_x ?ht_x ?A_LikeError ?I_LikeError ?Y_LikeError ?E_LikeError ?A_NoKind ?I_NoKind ?Y_NoKind ?E_NoKind ?A_NoShare ?I_NoShare ?Y_NoShare ?E_NoShare ?A_NoSet ?I_NoSet ?Y_NoSet ?E_NoSet ?A_NoWeight ?I_NoWeight ?Y_NoWeight ?E_NoWeight ?A_NoOrder ?I_NoOrder ?Y_NoOrder ?E_NoOrder ?A_NoParts ?I_NoParts ?Y_NoParts ?E_NoParts ?A_NoWay ?I_NoWay ?Y_NoWay ?E_NoWay ?A_NoName ?I_NoName ?Y_NoName ?E_NoName ?A_NoSize ?I_NoSize ?Y_NoSize ?E_NoSize ?A_NoText ?I_NoText ?Y_NoText ?E_NoText ?A_NoRow ?I_NoRow ?Y_NoRow ?E_NoRow ?A_NoNumber ?I_NoNumber ?Y_NoNumber ?E_NoNumber ?X_NoSet ?K_NoSet ?hg_NoSet ?hk_NoSet ?hd_NoSet ?ha_NoSet ?hm_NoSet ?sv_NoSet ?s_NoSet_NoKind ?j_NoSet_NoKind ?s_NoSet_NoShare ?j_NoSet_NoShare ?s_NoSet_NoSet ?s_NoSet_NoWeight ?j_NoSet_NoWeight ?s_NoSet_NoOrder ?j_NoSet_NoOrder ?s_NoSet_NoParts ?j_NoSet_NoParts ?s_NoSet_NoWay ?j_NoSet_NoWay ?s_NoSet_NoName ?j_NoSet_NoName ?s_NoSet_NoSize ?j_NoSet_NoSize ?s_NoSet_NoText ?j_NoSet_NoText ?s_NoSet_NoRow ?j_NoSet_NoRow ?s_NoSet_NoNumber ?j_NoSet_NoNumber ?s_NoSet_LikeError ?Z_ValueError ?Z_all ?Z_bool ?Z_int ?Z_isinstance ?Z_len ?Z_list ?Z_range ?Z_set ?Z_sorted
    (case A_p_is_word => k_is)
    (case L_p_is_word => k_is)
    (case C_p_is_word => k_is)
    (case K_p_is_word => k_is)
    (case D_p_is_word => k_is)
    (case V_p_is_word => exact rfl)
    (case N_p_is_word => exact rfl)
    (case A_p_are_unlike_words => k_is)
    (case L_p_are_unlike_words => k_is)
    (case C_p_are_unlike_words => k_is)
    (case K_p_are_unlike_words => k_is)
    (case D_p_are_unlike_words => k_is)
    (case V_p_are_unlike_words => exact rfl)
    (case N_p_are_unlike_words => exact rfl)
    (case A_p_check_set => k_is)
    (case L_p_check_set => k_is)
    (case C_p_check_set => k_is)
    (case K_p_check_set => k_is)
    (case A_p_check_sets => k_is)
    (case L_p_check_sets => k_is)
    (case C_p_check_sets => k_is)
    (case K_p_check_sets => k_is)
    (case A_p_words_of => k_is)
    (case L_p_words_of => k_is)
    (case C_p_words_of => k_is)
    (case K_p_words_of => k_is)
    (case A_p_has_words_of => k_is)
    (case L_p_has_words_of => k_is)
    (case C_p_has_words_of => k_is)
    (case K_p_has_words_of => k_is)
    (case A_p_within_pairs => k_is)
    (case L_p_within_pairs => k_is)
    (case C_p_within_pairs => k_is)
    (case K_p_within_pairs => k_is)
    (case A_p_tops => k_is)
    (case L_p_tops => k_is)
    (case C_p_tops => k_is)
    (case K_p_tops => k_is)
    (case A_l_cell_at => k_is)
    (case L_l_cell_at => k_is)
    (case C_l_cell_at => k_is)
    (case K_l_cell_at => k_is)
    (case A_l_mix => k_is)
    (case L_l_mix => k_is)
    (case C_l_mix => k_is)
    (case K_l_mix => k_is)
    (case A_l_whole => k_is)
    (case L_l_whole => k_is)
    (case C_l_whole => k_is)
    (case K_l_whole => k_is)
    (case A_l_set => k_is)
    (case L_l_set => k_is)
    (case C_l_set => k_is)
    (case K_l_set => k_is)
    (case A_l_lot => k_is)
    (case L_l_lot => k_is)
    (case C_l_lot => k_is)
    (case K_l_lot => k_is)
    (case A_l_within => k_is)
    (case L_l_within => k_is)
    (case C_l_within => k_is)
    (case K_l_within => k_is)
    (case A_l_tops => k_is)
    (case L_l_tops => k_is)
    (case C_l_tops => k_is)
    (case K_l_tops => k_is)
    (case A_l_kind => k_is)
    (case L_l_kind => k_is)
    (case C_l_kind => k_is)
    (case K_l_kind => k_is)
    (case A_l_told => k_is)
    (case L_l_told => k_is)
    (case C_l_told => k_is)
    (case K_l_told => k_is)
    (case A_l_good => k_is)
    (case L_l_good => k_is)
    (case C_l_good => k_is)
    (case K_l_good => k_is)
    (case A_l_spoilt => k_is)
    (case L_l_spoilt => k_is)
    (case C_l_spoilt => k_is)
    (case K_l_spoilt => k_is)
    (case A_l_cut => k_is)
    (case L_l_cut => k_is)
    (case C_l_cut => k_is)
    (case K_l_cut => k_is)
    (case A_p_law => k_is)
    (case L_p_law => k_is)
    (case C_p_law => k_is)
    (case K_p_law => k_is)
    (case A_SIGNS => k_is)
    (case A_MOST_SIGNS => k_is)
    (case hn_x => k_is)
    (case ht_x => k_is)
    (case A_LikeError => k_is)
    (case I_LikeError => k_is)
    (case Y_LikeError => k_is)
    (case E_LikeError => k_is)
    (case A_NoKind => k_is)
    (case I_NoKind => k_is)
    (case Y_NoKind => k_is)
    (case E_NoKind => k_is)
    (case A_NoShare => k_is)
    (case I_NoShare => k_is)
    (case Y_NoShare => k_is)
    (case E_NoShare => k_is)
    (case A_NoSet => k_is)
    (case I_NoSet => k_is)
    (case Y_NoSet => k_is)
    (case E_NoSet => k_is)
    (case A_NoWeight => k_is)
    (case I_NoWeight => k_is)
    (case Y_NoWeight => k_is)
    (case E_NoWeight => k_is)
    (case A_NoOrder => k_is)
    (case I_NoOrder => k_is)
    (case Y_NoOrder => k_is)
    (case E_NoOrder => k_is)
    (case A_NoParts => k_is)
    (case I_NoParts => k_is)
    (case Y_NoParts => k_is)
    (case E_NoParts => k_is)
    (case A_NoWay => k_is)
    (case I_NoWay => k_is)
    (case Y_NoWay => k_is)
    (case E_NoWay => k_is)
    (case A_NoName => k_is)
    (case I_NoName => k_is)
    (case Y_NoName => k_is)
    (case E_NoName => k_is)
    (case A_NoSize => k_is)
    (case I_NoSize => k_is)
    (case Y_NoSize => k_is)
    (case E_NoSize => k_is)
    (case A_NoText => k_is)
    (case I_NoText => k_is)
    (case Y_NoText => k_is)
    (case E_NoText => k_is)
    (case A_NoRow => k_is)
    (case I_NoRow => k_is)
    (case Y_NoRow => k_is)
    (case E_NoRow => k_is)
    (case A_NoNumber => k_is)
    (case I_NoNumber => k_is)
    (case Y_NoNumber => k_is)
    (case E_NoNumber => k_is)
    (case X_NoSet => k_exc)
    (case K_NoSet => k_is)
    (case hg_NoSet => k_is)
    (case hk_NoSet => k_is)
    (case hd_NoSet => k_is)
    (case ha_NoSet => k_is)
    (case hm_NoSet => k_is)
    (case sv_NoSet => k_is)
    (case s_NoSet_NoKind => k_is)
    (case j_NoSet_NoKind => k_is)
    (case s_NoSet_NoShare => k_is)
    (case j_NoSet_NoShare => k_is)
    (case s_NoSet_NoSet => k_is)
    (case s_NoSet_NoWeight => k_is)
    (case j_NoSet_NoWeight => k_is)
    (case s_NoSet_NoOrder => k_is)
    (case j_NoSet_NoOrder => k_is)
    (case s_NoSet_NoParts => k_is)
    (case j_NoSet_NoParts => k_is)
    (case s_NoSet_NoWay => k_is)
    (case j_NoSet_NoWay => k_is)
    (case s_NoSet_NoName => k_is)
    (case j_NoSet_NoName => k_is)
    (case s_NoSet_NoSize => k_is)
    (case j_NoSet_NoSize => k_is)
    (case s_NoSet_NoText => k_is)
    (case j_NoSet_NoText => k_is)
    (case s_NoSet_NoRow => k_is)
    (case j_NoSet_NoRow => k_is)
    (case s_NoSet_NoNumber => k_is)
    (case j_NoSet_NoNumber => k_is)
    (case s_NoSet_LikeError => k_is)
    (case Z_ValueError => k_is)
    (case Z_all => k_is)
    (case Z_bool => k_is)
    (case Z_int => k_is)
    (case Z_isinstance => k_is)
    (case Z_len => k_is)
    (case Z_list => k_is)
    (case Z_range => k_is)
    (case Z_set => k_is)
    (case Z_sorted => k_is)
