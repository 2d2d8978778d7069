import PyProof.Rows.All
import Wide.All
import OpenK.AllK
import Wide.FinOn
import HandS.ForMost
import HandS.ForExc
import HandS.Evl
import HandS.Wide
import HandS.Gcd
import HandS.IsInst
import Flt.RightSqrt
import KE.KMathG
import HandS.SetTxt0
import HandS.SetFor
import HandS.Set
import HandS.SetKeys
import Wide.More
import PyProof.Rows.SortShellAny
import KE.KNest
import HandS.AnyAll
import HandS.JoinGen
import HandS.EndTab
import PyProof.SumAny
import HandS.More
import PyProof.StrBlock2
import HandS.DeepEq
import KE.KDictSum
import KE.SortData
import HandS.Conv
import HandS.Strs
import HandS.Style
import HandS.DictComp
import HandS.FStr
import HandS.Lambda
import HandS.ListItems
import HandS.GenList
import HandS.Flt
import HandS.ExcIs
import HandS.Walk
import KE.SortKeyHeap
import KE.KLam
import PySem.Challenge.RW_muchalike_k31_rare_orders
set_option Elab.async false
set_option linter.all false
set_option maxRecDepth 100000
set_option maxHeartbeats 8000000

namespace MuK
open PySem PySem.Spec PyProof.Rows L2 Evl

/-! ### general rules -/
def CPowW (i j : Int) : Prop := 0 ≤ j ∧ (Builtin.Int.intBits i : Int) * j ≤ 2 ^ 27
theorem op_powW {X : Cx} : OpR X (binaryOp .Pow) (rI CPowW fun i j => .int (i ^ j.toNat)) := opI fun _ _ _ _ _ _ _ hc q => pow_int hc.1 hc.2 q

/-- promises: a value, a new tuple, a new list -/
def SpVal (D : Hp → List V → V → Prop) : Sp := fun vs H Q _ => ∃ v, D H vs v ∧ ∀ H', Ex H H' → Q v H'
def SpTup (D : Hp → List V → List V → Prop) : Sp := fun vs H Q _ => ∃ xs, D H vs xs ∧ ∀ p H', H p = none → Ex H H' → H' p = some (.tup xs) → Q (.ref p) H'
def SpLst (D : Hp → List V → List V → Prop) : Sp := fun vs H Q _ => ∃ xs, D H vs xs ∧ ∀ p H', H p = none → Ex H H' → H' p = some (.lst xs) → Q (.ref p) H'

section
variable {K : PySem.W.Frag} {σ : L2.St} {H H' : Hp} {ta tb te : TE} {t u : TT} {x y z v : V} {D : Ends} {tu tw tz : TS}
def SpU (sp : Sp) (vs : List V) (H : Hp) (xs : List V) : Prop := ∀ H1, Ex H H1 → ∀ Q : VK, (∀ p H2, H1 p = none → Ex H1 H2 → H2 p = some (.tup xs) → Q (.ref p) H2) → ∀ E : XK, sp vs H1 Q E
theorem eu_call {sp : Sp} {dvs vs xs : List V} {E : XK} {ta : TA} (h : EvA ta σ H vs) (hs : SpU sp (vs ++ dvs) H xs) : EvU (tCall sp dvs E ta) σ H xs := fun H1 e Q q =>
  h H1 e _ fun H2 e2 => hs H2 (e.trans e2) Q (fun p H3 hp e3 h3 => q p H3 (fresh_back e2 hp) (e2.trans e3) h3) E
theorem spVal {Dd : Hp → List V → V → Prop} {vs : List V} (h : ∀ H1, Ex H H1 → Dd H1 vs v) : SpV (SpVal Dd) vs H v := fun H1 e _ q _ => ⟨v, h H1 e, q⟩
theorem spTup {Dd : Hp → List V → List V → Prop} {vs xs : List V} (h : ∀ H1, Ex H H1 → Dd H1 vs xs) : SpU (SpTup Dd) vs H xs := fun H1 e _ q _ => ⟨xs, h H1 e, q⟩
theorem spLst {Dd : Hp → List V → List V → Prop} {vs xs : List V} (h : ∀ H1, Ex H H1 → Dd H1 vs xs) : SpL (SpLst Dd) vs H xs := fun H1 e _ q _ => ⟨xs, h H1 e, q⟩
theorem ev_callV {Dd : Hp → List V → V → Prop} {vs : List V} {E : XK} {ta : TA} (h : EvA ta σ H vs) (hs : ∀ H1, Ex H H1 → Dd H1 vs v) : Ev (tCall (SpVal Dd) [] E ta) σ H v :=
  ev_call h (by rw [List.append_nil]; exact spVal hs)
theorem eu_callU {Dd : Hp → List V → List V → Prop} {vs xs : List V} {E : XK} {ta : TA} (h : EvA ta σ H vs) (hs : ∀ H1, Ex H H1 → Dd H1 vs xs) : EvU (tCall (SpTup Dd) [] E ta) σ H xs :=
  eu_call h (by rw [List.append_nil]; exact spTup hs)
theorem el_callL {Dd : Hp → List V → List V → Prop} {vs xs : List V} {E : XK} {ta : TA} (h : EvA ta σ H vs) (hs : ∀ H1, Ex H H1 → Dd H1 vs xs) : EvL (tCall (SpLst Dd) [] E ta) σ H xs :=
  el_call h (by rw [List.append_nil]; exact spLst hs)

/-- built-ins by values -/
theorem rc_min2 {i j : Int} : RC (fun xs H Q => ∃ i j, xs = [.int i, .int j] ∧ Q (.int (if j < i then j else i)) H) [.int i, .int j] H (.int (min i j)) := fun H1 _ Q q =>
  ⟨i, j, rfl, by have e : (if j < i then j else i) = min i j := by (split <;> omega)
                 rw [e]; exact q H1 (Ex.refl H1)⟩
theorem rc_max2 {i j : Int} : RC (fun xs H Q => ∃ i j, xs = [.int i, .int j] ∧ Q (.int (if j > i then j else i)) H) [.int i, .int j] H (.int (max i j)) := fun H1 _ Q q =>
  ⟨i, j, rfl, by have e : (if j > i then j else i) = max i j := by (split <;> omega)
                 rw [e]; exact q H1 (Ex.refl H1)⟩
theorem rc_gcd {a b : Int} : RC rGcd [.int a, .int b] H (.int ((Nat.gcd a.natAbs b.natAbs : Nat) : Int)) := fun H1 _ _ q => ⟨a, b, rfl, q H1 (Ex.refl H1)⟩
theorem rc_lenT {p : Addr} {ys : List V} (h : SqT K H p ys) : RC (fun xs H Q => ∃ p ys, xs = [.ref p] ∧ (SqL K H p ys ∨ SqT K H p ys) ∧ Q (.int ys.length) H) [.ref p] H (.int ys.length) := fun H1 e _ q => ⟨p, ys, rfl, .inr (ex_t e h), q H1 (Ex.refl H1)⟩
theorem rc_lenL {p : Addr} {ys : List V} (h : SqL K H p ys) : RC (fun xs H Q => ∃ p ys, xs = [.ref p] ∧ (SqL K H p ys ∨ SqT K H p ys) ∧ Q (.int ys.length) H) [.ref p] H (.int ys.length) := fun H1 e _ q => ⟨p, ys, rfl, .inl (ex_l e h), q H1 (Ex.refl H1)⟩
theorem rc_intB {k : Bool} : RC (fun xs H Q => (∃ i, xs = [.int i] ∧ Q (.int i) H) ∨ ∃ k, xs = [.bl k] ∧ Q (.int (if k then 1 else 0)) H) [.bl k] H (.int (if k then 1 else 0)) := fun H1 _ _ q => .inr ⟨k, rfl, q H1 (Ex.refl H1)⟩
theorem rc_isiInt {i : Int} {n : String} {b : Bool} (h : PySem.W.kitOne K (.type "int") (.type n) = some b) : RC (rIsi K) [.int i, .ty n] H (.bl b) := fun H1 _ _ q => ⟨_, _, _, _, b, rfl, .ty n, .base (.int i), h, q H1 (Ex.refl H1)⟩
theorem rc_isiBool {i : Bool} {n : String} {b : Bool} (h : PySem.W.kitOne K (.type "bool") (.type n) = some b) : RC (rIsi K) [.bl i, .ty n] H (.bl b) := fun H1 _ _ q => ⟨_, _, _, _, b, rfl, .ty n, .base (.bl i), h, q H1 (Ex.refl H1)⟩
theorem rc_isiNone {n : String} {b : Bool} (h : PySem.W.kitOne K (.type "NoneType") (.type n) = some b) : RC (rIsi K) [.non, .ty n] H (.bl b) := fun H1 _ _ q => ⟨_, _, _, _, b, rfl, .ty n, .base .non, h, q H1 (Ex.refl H1)⟩
theorem rc_isiTup {p : Addr} {xs : List V} {n : String} {b : Bool} (hp : H p = some (.tup xs)) (h : PySem.W.kitOne K (.type "tuple") (.type n) = some b) : RC (rIsi K) [.ref p, .ty n] H (.bl b) := fun H1 e _ q => ⟨_, _, _, _, b, rfl, .ty n, .base (.tup (e p _ hp)), h, q H1 (Ex.refl H1)⟩
theorem rc_isiLst {p : Addr} {xs : List V} {n : String} {b : Bool} (hp : H p = some (.lst xs)) (h : PySem.W.kitOne K (.type "list") (.type n) = some b) : RC (rIsi K) [.ref p, .ty n] H (.bl b) := fun H1 e _ q => ⟨_, _, _, _, b, rfl, .ty n, .base (.lst (e p _ hp)), h, q H1 (Ex.refl H1)⟩
/-- lists joined, both new -/
theorem el_cat {xs ys : List V} (ha : EvL ta σ H xs) (hb : EvL tb σ H ys) (hz : xs.length + ys.length ≤ 100000) : EvL (tOp rCat ta tb) σ H (xs ++ ys) := fun H1 e Q q =>
  ha H1 e _ fun p H2 hp e2 h2 => hb H2 (e.trans e2) _ fun r H3 hr e3 h3 => ⟨p, r, xs, ys, rfl, rfl, e3 p _ h2, h3, sz_of hz, fun l hl => q l _ (fresh_back (e2.trans e3) hl) ((e2.trans e3).trans (Ex.new hl)) upd_same⟩
theorem el_catV {xs ys : List V} {a : Addr} (ha : Ev ta σ H (.ref a)) (h0 : H a = some (.lst xs)) (hb : EvL tb σ H ys) (hz : xs.length + ys.length ≤ 100000) : EvL (tOp rCat ta tb) σ H (xs ++ ys) := fun H1 e Q q =>
  ha H1 e _ fun H2 e2 => hb H2 (e.trans e2) _ fun r H3 hr e3 h3 => ⟨a, r, xs, ys, rfl, rfl, ((e.trans e2).trans e3) a _ h0, h3, sz_of hz, fun l hl => q l _ (fresh_back (e2.trans e3) hl) ((e2.trans e3).trans (Ex.new hl)) upd_same⟩
/-- an item of a new list -/
theorem ev_ixNew {xs : List V} {i : Int} (ha : EvL ta σ H xs) (hb : Ev tb σ H (.int i)) (h : atI xs i = some v) : Ev (tOp (rIxL K) ta tb) σ H v :=
  ev_opL1 ha (fun _ e => hb.mono e) fun _ _ hp _ => rv_ixL (sq_of hp) h
theorem rv_fdW {i j : Int} {b : Nat} (h : 0 < j) (hb : j.natAbs < 2 ^ b) (h0 : 0 < b) (h9 : b ≤ 9000) : RV (rI CDivW fun i j => .int (i / j)) (.int i) (.int j) H (.int (i / j)) := rv_I (wide_div h hb h0 h9)
theorem s_par {i j : Nat} {ta : TA} {v w : V} (h : EvA ta σ H [v, w]) (k : ∀ H1, Ex H H1 → D.nx ((σ.set i (some v)).set j (some w)) H1) : tPar i j ta D σ H := h H (Ex.refl H) _ fun H1 e => ⟨v, w, rfl, k H1 e⟩
theorem q_par {i j : Nat} {ta : TA} {v w : V} (h : EvA ta σ H [v, w]) (k : ∀ H1, Ex H H1 → tz D ((σ.set i (some v)).set j (some w)) H1) : tSeq (tPar i j ta) tz D σ H := s_par (D := { D with nx := tz D }) h k
/-- a, b = e, e a new tuple of two; of any tuple -/
theorem q_unp2 {i j : Nat} {x y : V} (h : EvU te σ H [x, y]) (k : ∀ H1, Ex H H1 → tz D ((σ.set i (some x)).set j (some y)) H1) : tSeq (tAsg te (gTup K 2 (gCons (gName i) (gCons (gName j) gNil)))) tz D σ H :=
  h H (Ex.refl H) _ fun p H1 _ e hp => ⟨p, [x, y], rfl, st_of hp, rfl, x, [y], rfl, y, [], rfl, rfl, k H1 e⟩
theorem q_unp2V {i j : Nat} {p : Addr} {x y : V} (h : Ev te σ H (.ref p)) (h2 : SqT K H p [x, y]) (k : ∀ H1, Ex H H1 → tz D ((σ.set i (some x)).set j (some y)) H1) : tSeq (tAsg te (gTup K 2 (gCons (gName i) (gCons (gName j) gNil)))) tz D σ H :=
  h H (Ex.refl H) _ fun H1 e => ⟨p, [x, y], rfl, ex_t e h2, rfl, x, [y], rfl, y, [], rfl, rfl, k H1 e⟩
theorem decs {a b : Str} : decide (V.str a = V.str b) = decide (a = b) := by
  by_cases h : a = b
  · subst h; simp
  · rw [decide_eq_false h]; exact decide_eq_false fun e => h (V.str.inj e)
theorem deci {a b : Int} : decide (V.int a = V.int b) = decide (a = b) := by
  by_cases h : a = b
  · subst h; simp
  · rw [decide_eq_false h]; exact decide_eq_false fun e => h (V.int.inj e)
theorem rv_eqS {a b : Str} : RV rEq (.str a) (.str b) H (.bl (decide (a = b))) := by rw [← decs]; exact rv_eq rfl
theorem rv_eqI {a b : Int} : RV rEq (.int a) (.int b) H (.bl (decide (a = b))) := by rw [← deci]; exact rv_eq rfl
theorem rv_neS {a b : Str} : RV rNe (.str a) (.str b) H (.bl (!decide (a = b))) := by rw [← decs]; exact rv_ne rfl
theorem rv_neI {a b : Int} : RV rNe (.int a) (.int b) H (.bl (!decide (a = b))) := by rw [← deci]; exact rv_ne rfl
theorem vals_map_str : ∀ {xs : List (Str × Tok)}, Vals (xs.map fun p => V.str p.1) (xs.map fun p => Value.str p.1 p.2)
  | [] => .nil
  | _ :: _ => .cons ⟨_, rfl⟩ vals_map_str
theorem dp_ints : ∀ (ns : List Int), DpAll K H (ns.map V.int) (ns.map PyData.int)
  | [] => .nil
  | n :: ns => .cons (.int n) (dp_ints ns)
/-- an argument that is a new tuple, a new list -/
theorem ev_callU1 {Dd : Hp → List V → V → Prop} {E : XK} {tr : TA} {vs xs : List V} (h : EvU te σ H xs) (hr : EvA tr σ H vs) (hs : ∀ p H1, Ex H H1 → H1 p = some (.tup xs) → Dd H1 (.ref p :: vs) v) : Ev (tCall (SpVal Dd) [] E (tCons te tr)) σ H v := fun H1 e Q q =>
  h H1 e _ fun p H2 _ e2 hp => hr H2 (e.trans e2) _ fun H3 e3 => ⟨v, by rw [List.append_nil]; exact hs p H3 ((e.trans e2).trans e3) (e3 p _ hp), fun H4 e4 => q H4 ((e2.trans e3).trans e4)⟩
theorem atI_mod {α : Type} {xs : List α} {n : Int} {m : Nat} (d : α) (hm : xs.length = m) (h0 : 0 < m) : atI xs (n % (m : Int)) = some (xs.getD (n % (m : Int)).toNat d) := by
  have h1 : 0 ≤ n % (m : Int) := Int.emod_nonneg _ (by omega)
  have h2 : n % (m : Int) < m := Int.emod_lt_of_pos _ (by omega)
  have h3 : (((n % (m : Int)).toNat : Nat) : Int) = n % (m : Int) := Int.toNat_of_nonneg h1
  have h4 : (n % (m : Int)).toNat < xs.length := by omega
  have h5 : xs[(n % (m : Int)).toNat]? = some (xs.getD (n % (m : Int)).toNat d) := by
    rw [List.getD_eq_getElem?_getD, List.getElem?_eq_getElem h4]; rfl
  have h6 := atI_nat h5
  rw [h3] at h6
  exact h6
theorem atI_modI {xs : List Int} {n : Int} {m : Nat} (hm : xs.length = m) (h0 : 0 < m) : atI (xs.map V.int) (n % (m : Int)) = some (.int (xs.getD (n % (m : Int)).toNat 0)) := by
  have h := atI_mod (xs := xs.map V.int) (n := n) (m := m) (.int 0) (by rw [List.length_map]; exact hm) h0
  rw [h]
  congr 1
  rw [List.getD_eq_getElem?_getD, List.getD_eq_getElem?_getD, List.getElem?_map]
  cases xs[(n % (m : Int)).toNat]? <;> rfl
theorem cutV_mem {xs : List V} {lo hi : Option Int} {x : V} (h : x ∈ cutV xs lo hi) : x ∈ xs := List.mem_of_mem_drop (List.mem_of_mem_take h)
theorem sqT_written {f : Addr} {od : Option Addr} {vs : List V} {us : List Value} {n : Nat} {sl : Array (Option Value)} (h : K.lookup f = some ⟨.type "tuple", od, .seq us.toArray n, sl⟩) (r : Vals vs us) (hz : us.length ≤ 1000) : SqT K H f vs :=
  .inr ⟨_, us.toArray, n, h, rfl, rfl, by rw [List.size_toArray]; exact sz_of (by omega), by simpa using r⟩
theorem el_is {xs ys : List V} (h : EvL te σ H xs) (e : xs = ys) : EvL te σ H ys := by
  rw [← e]
  exact h
theorem eu_is {xs ys : List V} (h : EvU te σ H xs) (e : xs = ys) : EvU te σ H ys := by
  rw [← e]
  exact h
theorem given_map (ns : List Int) (f : Int → Int) : given ns.length (fun _ => true) (fun i => .int (f (ns.getD i 0))) = (ns.map f).map V.int := by
  unfold given
  rw [List.filter_eq_self.mpr (fun _ _ => rfl)]
  apply List.ext_getElem
  · simp
  · intro i h1 h2
    simp at h1
    simp [List.getD_eq_getElem?_getD, h1]
theorem ev_chain {r r' : R2} {tc : TE} {a b : Bool} (ha : Ev ta σ H x) (hb : Ev tb σ H y) (hr : RV r x y H (.bl a)) (hc : a = true → Ev tc σ H z) (hr' : a = true → RV r' y z H (.bl b)) : Ev (tChain r r' ta tb tc) σ H (.bl (a && b)) := fun H1 e Q q =>
  ha H1 e _ fun H2 e2 => hb H2 (e.trans e2) _ fun H3 e3 => hr H3 ((e.trans e2).trans e3) _ fun H4 e4 => ⟨a, rfl, by
    have ee := ((e.trans e2).trans e3).trans e4
    cases a with
    | true =>
      show tc σ H4 fun w' H5 => r' y w' H5 Q
      exact hc rfl H4 ee _ fun H5 e5 => hr' rfl H5 (ee.trans e5) Q fun H6 e6 => q H6 ((((e2.trans e3).trans e4).trans e5).trans e6)
    | false =>
      show Q (.bl false) H4
      exact q H4 ((e2.trans e3).trans e4)⟩
theorem atI_modD {xs : List Int} {n : Int} {m : Nat} {d : Int} (hm : xs.length = m) (h0 : 0 < m) : atI (xs.map V.int) (n % (m : Int)) = some (.int (xs.getD (n % (m : Int)).toNat d)) := by
  have h := atI_mod (xs := xs.map V.int) (n := n) (m := m) (.int d) (by rw [List.length_map]; exact hm) h0
  rw [h]
  congr 1
  rw [List.getD_eq_getElem?_getD, List.getD_eq_getElem?_getD, List.getElem?_map]
  cases xs[(n % (m : Int)).toNat]? <;> rfl
theorem getDP {α : Type} {xs : List α} {d : α} {P : α → Prop} (h : ∀ x ∈ xs, P x) (h0 : P d) (i : Nat) : P (xs.getD i d) := by
  rw [List.getD_eq_getElem?_getD]
  cases e : xs[i]? with
  | none => exact h0
  | some x => exact h x (List.mem_of_getElem? e)
theorem cells_int {ns : List Int} {lo hi : Option Int} {a b : Int} {i : Nat} {x : V} (hx : (cutV (ns.map V.int) lo hi ++ [.int a, .int b])[i]? = some x) : ∃ c, x = .int c := by
  have hm := List.mem_of_getElem? hx
  rw [List.mem_append] at hm
  rcases hm with hm | hm
  · have := cutV_mem hm
    rw [List.mem_map] at this
    obtain ⟨z, _, rfl⟩ := this
    exact ⟨z, rfl⟩
  · simp only [List.mem_cons, List.not_mem_nil, or_false] at hm
    rcases hm with rfl | rfl
    · exact ⟨_, rfl⟩
    · exact ⟨_, rfl⟩
/-- two tuples of the same two ints are equal -/
theorem rv_eqT2 {p q : Addr} {x y : Int} (hp : H p = some (.tup [.int x, .int y])) (hq : H q = some (.tup [.int x, .int y])) : RV (rEqD K) (.ref p) (.ref q) H (.bl true) := fun H1 e Q k => by
  refine ⟨.tuple [.int x, .int y], .tuple [.int x, .int y], .tup (st_of (e p _ hp)) (.cons (.int x) (.cons (.int y) .nil)), .tup (st_of (e q _ hq)) (.cons (.int x) (.cons (.int y) .nil)), rfl, rfl, ?_⟩
  rw [SeqAt.eqv_refl]
  all_goals first | exact k H1 (Ex.refl H1) | rfl
theorem rv_neT2 {p q : Addr} {x y : Int} (hp : H p = some (.tup [.int x, .int y])) (hq : H q = some (.tup [.int x, .int y])) : RV (rNeD K) (.ref p) (.ref q) H (.bl false) := fun H1 e Q k => by
  refine ⟨.tuple [.int x, .int y], .tuple [.int x, .int y], .tup (st_of (e p _ hp)) (.cons (.int x) (.cons (.int y) .nil)), .tup (st_of (e q _ hq)) (.cons (.int x) (.cons (.int y) .nil)), rfl, rfl, ?_⟩
  rw [SeqAt.eqv_refl]
  all_goals first | exact k H1 (Ex.refl H1) | rfl
theorem atI_inI {xs : List Int} {n : Int} {d : Int} (h0 : 0 ≤ n) (h1 : n < xs.length) : atI (xs.map V.int) n = some (.int (xs.getD n.toNat d)) := by
  have h3 : ((n.toNat : Nat) : Int) = n := Int.toNat_of_nonneg h0
  have h4 : n.toNat < xs.length := by omega
  have h5 : (xs.map V.int)[n.toNat]? = some (.int (xs.getD n.toNat d)) := by
    rw [List.getElem?_map, List.getD_eq_getElem?_getD, List.getElem?_eq_getElem h4]; rfl
  have h6 := atI_nat h5
  rw [h3] at h6
  exact h6
theorem s_forNLn {xs : List V} {tl : TE} {j : Nat} (h : EvL tl σ H xs) (Pv : Addr → Nat → L2.St → Hp → Prop) (h0 : ∀ p H1, H p = none → Ex H H1 → H1 p = some (.lst xs) → Pv p 0 σ H1) (hl : ∀ p i σ' H', i ≤ xs.length → Pv p i σ' H' → SqL K H' p xs)
    (hs : ∀ p i x σ' H', xs[i]? = some x → Pv p i σ' H' → tu { D with nx := Pv p (i + 1), ct := Pv p (i + 1), bk := D.nx } (σ'.set j (some x)) H') (hd : ∀ p σ' H', Pv p xs.length σ' H' → D.nx σ' H') : tFor (iList K tl) (gName j) tu D σ H :=
  s_forNL h Pv h0 hl hs hd
end
end MuK

namespace MuK
open PySem PySem.Spec PyProof.Rows L2 Evl
/-! ### plain mathematics of the helpers -/
def divs (b : Int) : Nat → Int → Int
  | 0, c => c
  | n + 1, c => divs b n c / b
def mix (c : Int) (k : Nat) : Int :=
  if c ≥ 10 ^ 18 then divs (10 ^ 6) k c % 10 ^ 6 else
  ((((c % 1000003 + k * k * 7919 + k) * 48271 % 2147483629) * ((c % 1000003 + k * k * 7919 + k) * 48271 % 2147483629) % 2147483587) *
   ((((c % 1000003 + k * k * 7919 + k) * 48271 % 2147483629) * ((c % 1000003 + k * k * 7919 + k) * 48271 % 2147483629) % 2147483587) + 2)) % 2147483579 / 7
theorem mix_nn (c : Int) (k : Nat) : 0 ≤ mix c k := by
  unfold mix
  split
  · exact Int.emod_nonneg _ (by decide)
  · exact Int.ediv_nonneg (Int.emod_nonneg _ (by decide)) (by decide)
theorem mix_lt (c : Int) (k : Nat) : mix c k < 306783379 := by
  unfold mix
  split
  · have := Int.emod_lt_of_pos (divs (10 ^ 6) k c) (show (0 : Int) < 10 ^ 6 by decide)
    omega
  · generalize ((((c % 1000003 + k * k * 7919 + k) * 48271 % 2147483629) * ((c % 1000003 + k * k * 7919 + k) * 48271 % 2147483629) % 2147483587) * ((((c % 1000003 + k * k * 7919 + k) * 48271 % 2147483629) * ((c % 1000003 + k * k * 7919 + k) * 48271 % 2147483629) % 2147483587) + 2)) = z
    have := Int.emod_lt_of_pos z (show (0 : Int) < 2147483579 by decide)
    have := Int.emod_nonneg z (show (2147483579 : Int) ≠ 0 by decide)
    omega
theorem gcd_step (a b : Int) (ha : 0 ≤ a) (hb : 0 < b) : Nat.gcd b.natAbs (a % b).natAbs = Nat.gcd a.natAbs b.natAbs := by
  obtain ⟨m, rfl⟩ := Int.eq_ofNat_of_zero_le ha
  obtain ⟨n, rfl⟩ := Int.eq_ofNat_of_zero_le (show (0 : Int) ≤ b by omega)
  rw [show ((m : Int) % (n : Int)) = ((m % n : Nat) : Int) from (Int.natCast_emod m n).symm]
  simp only [Int.natAbs_natCast]
  rw [Nat.gcd_comm m n]
  rw [Nat.gcd_comm n (m % n), ← Nat.gcd_rec]
/-- top and bottom of the fraction of a kind -/
def frac (k : Str) (a b c : Int) : Int × Int :=
  if k = "both" then (c, a + b - c) else if k = "mean" then (2 * c, a + b) else if k = "greater" then (c, max a b) else if k = "lesser" then (c, min a b) else (c * c, a * b)
def five : List Str := ["both", "mean", "greater", "lesser", "square"]
def gcdI (a b : Int) : Int := ((Nat.gcd a.natAbs b.natAbs : Nat) : Int)
def shareM (k : Str) (a b c : Int) : Int × Int :=
  if a = 0 ∨ b = 0 then (0, 1) else ((frac k a b c).1 / gcdI (frac k a b c).1 (frac k a b c).2, (frac k a b c).2 / gcdI (frac k a b c).1 (frac k a b c).2)
/-- weights and what they have in common, as they are handed in -/
structure WOk (a b c : Int) : Prop where
  a0 : 0 ≤ a
  a1 : a ≤ 10 ^ 18
  b0 : 0 ≤ b
  b1 : b ≤ 10 ^ 18
  c0 : 0 ≤ c
  ca : c ≤ a
  cb : c ≤ b
theorem WOk.symm {a b c : Int} (h : WOk a b c) : WOk b a c := ⟨h.b0, h.b1, h.a0, h.a1, h.c0, h.cb, h.ca⟩
theorem mul_le_36 {a b : Int} (a0 : 0 ≤ a) (a1 : a ≤ 10 ^ 18) (b0 : 0 ≤ b) (b1 : b ≤ 10 ^ 18) : 0 ≤ a * b ∧ a * b ≤ 10 ^ 36 := by
  refine ⟨Int.mul_nonneg a0 b0, ?_⟩
  have := Int.mul_le_mul a1 b1 b0 (by decide : (0 : Int) ≤ 10 ^ 18)
  omega
theorem frac_bounds (k : Str) {a b c : Int} (h : WOk a b c) (ha : 0 < a) (hb : 0 < b) : 0 ≤ (frac k a b c).1 ∧ (frac k a b c).1 ≤ 10 ^ 36 ∧ 0 < (frac k a b c).2 ∧ (frac k a b c).2 ≤ 10 ^ 36 := by
  obtain ⟨a0, a1, b0, b1, c0, ca, cb⟩ := h
  unfold frac
  split
  · dsimp only
    omega
  · split
    · dsimp only
      omega
    · split
      · dsimp only
        omega
      · split
        · dsimp only
          omega
        · dsimp only
          have h1 := mul_le_36 c0 (by omega) c0 (by omega : c ≤ 10 ^ 18)
          have h2 := mul_le_36 a0 a1 b0 b1
          have h3 := Int.mul_pos ha hb
          exact ⟨h1.1, h1.2, h3, h2.2⟩
theorem gcdI_pos {a b : Int} (hb : 0 < b) : 0 < gcdI a b := by
  unfold gcdI
  have : 0 < Nat.gcd a.natAbs b.natAbs := Nat.gcd_pos_of_pos_right _ (by omega)
  omega
theorem gcdI_le {a b : Int} (hb : 0 < b) : gcdI a b ≤ b := by
  unfold gcdI
  have : Nat.gcd a.natAbs b.natAbs ≤ b.natAbs := Nat.gcd_le_right _ (by omega)
  omega
theorem abs_lt_of {x : Int} {n : Nat} (h0 : 0 ≤ x) (h : x < (2 : Int) ^ n) : x.natAbs < 2 ^ n := by
  have e : ((x.natAbs : Nat) : Int) = x := Int.natAbs_of_nonneg h0
  have e2 : ((2 ^ n : Nat) : Int) = (2 : Int) ^ n := by rw [Int.natCast_pow]; rfl
  omega
theorem frac_symm (k : Str) (a b c : Int) : frac k b a c = frac k a b c := by
  unfold frac
  split
  · rw [Int.add_comm b a]
  · split
    · rw [Int.add_comm b a]
    · split
      · rw [Int.max_comm b a]
      · split
        · rw [Int.min_comm b a]
        · rw [Int.mul_comm b a]
theorem shareM_symm (k : Str) (a b c : Int) : shareM k b a c = shareM k a b c := by
  unfold shareM
  rw [frac_symm k a b c]
  by_cases h : a = 0 ∨ b = 0
  · rw [if_pos h, if_pos (by omega)]
  · rw [if_neg h, if_neg (by omega)]
def bigM : Int := ((10 : Int) ^ 60) ^ 60
def cutI (c : Int) : Int := if c ≥ bigM then bigM + c % bigM else c
theorem bigM_pos : 0 < bigM := by
  unfold bigM
  exact Int.pow_pos (Int.pow_pos (by decide))
theorem getD5 {xs : List Int} {P : Int → Prop} (h : ∀ x ∈ xs, P x) (h0 : P 0) (i : Nat) : P (xs.getD i 0) := by
  rw [List.getD_eq_getElem?_getD]
  cases e : xs[i]? with
  | none => exact h0
  | some x => exact h x (List.mem_of_getElem? e)
theorem rc_gcdI {H : Hp} {a b : Int} : RC rGcd [.int a, .int b] H (.int (gcdI a b)) := rc_gcd
end MuK

namespace MuK
open PySem PySem.Spec PyProof.Rows L2 Evl
/-! ### what two sets need -/
/-- a quotient rounded up -/
def cd (t b : Int) : Int := (t + b - 1) / b
theorem cd_le {t b c : Int} (hb : 0 < b) : cd t b ≤ c ↔ t ≤ c * b := by
  unfold cd
  constructor
  · intro h
    have h1 : (t + b - 1) < (c + 1) * b := Int.lt_mul_of_ediv_lt hb (by omega)
    have h2 : (c + 1) * b = c * b + b := by rw [Int.add_mul, Int.one_mul]
    omega
  · intro h
    have h1 : (t + b - 1) / b < c + 1 := by
      apply Int.ediv_lt_of_lt_mul hb
      have h2 : (c + 1) * b = c * b + b := by rw [Int.add_mul, Int.one_mul]
      omega
    omega
def isq (n : Int) : Int := ((Float64.isqrt n.toNat : Nat) : Int)
theorem isq_nn (n : Int) : 0 ≤ isq n := Int.natCast_nonneg _
theorem isq_lt {n c : Int} (hn : 0 ≤ n) (hc : 0 ≤ c) : isq n < c ↔ n < c * c := by
  obtain ⟨m, rfl⟩ := Int.eq_ofNat_of_zero_le hn
  obtain ⟨k, rfl⟩ := Int.eq_ofNat_of_zero_le hc
  unfold isq
  rw [Int.toNat_natCast]
  obtain ⟨h1, h2⟩ := Float64.isqrt_spec m
  have e : ((k : Int) * (k : Int)) = ((k * k : Nat) : Int) := (Int.natCast_mul k k).symm
  rw [e]
  constructor
  · intro h
    have h3 : Float64.isqrt m + 1 ≤ k := by omega
    have := Nat.mul_le_mul h3 h3
    omega
  · intro h
    have h3 : m < k * k := by omega
    rcases Nat.lt_or_ge (Float64.isqrt m) k with h4 | h4
    · omega
    · have := Nat.mul_le_mul h4 h4
      omega
def needM (k : Str) (T B a b : Int) : Int :=
  if k = "both" then cd (T * (a + b)) (T + B) else if k = "mean" then cd (T * (a + b)) (2 * B) else if k = "greater" then cd (T * max a b) B
  else if k = "lesser" then cd (T * min a b) B else isq (cd (T * a * b) B - 1) + 1
def reach (k : Str) (T B a b c : Int) : Bool := decide (T * (frac k a b c).2 ≤ (frac k a b c).1 * B)
structure LOk (T B : Int) : Prop where
  t0 : 0 < T
  tb : T ≤ B
  g1 : gcdI T B = 1
theorem mul_pos3 {a b c : Int} (ha : 0 < a) (hb : 0 < b) (hc : 0 < c) : 0 < a * b * c := Int.mul_pos (Int.mul_pos ha hb) hc
theorem need_spec {k : Str} {T B a b c : Int} (t0 : 0 < T) (tb : T ≤ B) (ha : 0 < a) (hb : 0 < b) (hc : 0 ≤ c) : reach k T B a b c = true ↔ needM k T B a b ≤ c := by
  unfold reach needM frac
  rw [decide_eq_true_iff]
  by_cases h1 : k = "both"
  · rw [if_pos h1, if_pos h1, cd_le (by omega)]
    dsimp only
    have e1 : T * (a + b - c) = T * (a + b) - T * c := Int.mul_sub _ _ _
    have e2 : c * (T + B) = T * c + c * B := by rw [Int.mul_add, Int.mul_comm c T]
    omega
  rw [if_neg h1, if_neg h1]
  by_cases h2 : k = "mean"
  · rw [if_pos h2, if_pos h2, cd_le (by omega)]
    dsimp only
    have e2 : c * (2 * B) = 2 * c * B := by rw [← Int.mul_assoc, Int.mul_comm c 2]
    omega
  rw [if_neg h2, if_neg h2]
  by_cases h3 : k = "greater"
  · rw [if_pos h3, if_pos h3, cd_le (by omega)]
  rw [if_neg h3, if_neg h3]
  by_cases h4 : k = "lesser"
  · rw [if_pos h4, if_pos h4, cd_le (by omega)]
  rw [if_neg h4, if_neg h4]
  dsimp only
  have B0 : 0 < B := by omega
  have p0 : 0 < T * a * b := mul_pos3 t0 ha hb
  have q1 : 1 ≤ cd (T * a * b) B := by
    rcases Int.lt_or_le (cd (T * a * b) B) 1 with h | h
    · have := (cd_le (t := T * a * b) (b := B) (c := 0) B0).mp (by omega)
      omega
    · exact h
  have s1 := isq_lt (n := cd (T * a * b) B - 1) (c := c) (by omega) hc
  have s2 := cd_le (t := T * a * b) (b := B) (c := c * c) B0
  have e : T * (a * b) = T * a * b := (Int.mul_assoc _ _ _).symm
  rw [e]
  omega
theorem need_nn {k : Str} {T B a b : Int} (t0 : 0 < T) (tb : T ≤ B) (ha : 0 < a) (hb : 0 < b) : 0 ≤ needM k T B a b := by
  have h := isq_nn (cd (T * a * b) B - 1)
  have p1 : 0 ≤ T * (a + b) := Int.mul_nonneg (by omega) (by omega)
  have p2 : 0 ≤ T * max a b := Int.mul_nonneg (by omega) (by omega)
  have p3 : 0 ≤ T * min a b := Int.mul_nonneg (by omega) (by omega)
  unfold needM cd
  split
  · exact Int.ediv_nonneg (by omega) (by omega)
  · split
    · exact Int.ediv_nonneg (by omega) (by omega)
    · split
      · exact Int.ediv_nonneg (by omega) (by omega)
      · split
        · exact Int.ediv_nonneg (by omega) (by omega)
        · unfold cd at h
          omega
theorem need_le {k : Str} {T B a b : Int} (t0 : 0 < T) (tb : T ≤ B) (ha : 0 < a) (hb : 0 < b) : needM k T B a b ≤ a + b := by
  rw [← need_spec t0 tb ha hb (by omega)]
  unfold reach frac
  rw [decide_eq_true_iff]
  have m1 : T * (a + b) ≤ (a + b) * B := by rw [Int.mul_comm (a + b) B]; exact Int.mul_le_mul_of_nonneg_right tb (by omega)
  have m2 : T * max a b ≤ T * (a + b) := Int.mul_le_mul_of_nonneg_left (by omega) (by omega)
  have m3 : T * min a b ≤ T * (a + b) := Int.mul_le_mul_of_nonneg_left (by omega) (by omega)
  have m5 : 0 ≤ (a + b) * B := Int.mul_nonneg (by omega) (by omega)
  split
  · dsimp only
    rw [Int.sub_self, Int.mul_zero]
    exact m5
  · split
    · dsimp only
      rw [Int.mul_assoc]
      omega
    · split
      · exact Int.le_trans m2 m1
      · split
        · exact Int.le_trans m3 m1
        · dsimp only
          have m6 : a * b ≤ (a + b) * (a + b) := by
            have q1 : a * b ≤ (a + b) * b := Int.mul_le_mul_of_nonneg_right (by omega) (by omega)
            have q2 : (a + b) * b ≤ (a + b) * (a + b) := Int.mul_le_mul_of_nonneg_left (by omega) (by omega)
            omega
          have m7 : T * (a * b) ≤ T * ((a + b) * (a + b)) := Int.mul_le_mul_of_nonneg_left m6 (by omega)
          have m8 : T * ((a + b) * (a + b)) ≤ B * ((a + b) * (a + b)) := Int.mul_le_mul_of_nonneg_right tb (Int.mul_nonneg (by omega) (by omega))
          rw [Int.mul_comm ((a + b) * (a + b)) B]
          omega
theorem max_symm (a b : Int) : max b a = max a b := Int.max_comm b a
theorem needM_symm (k : Str) (T B a b : Int) : needM k T B b a = needM k T B a b := by
  unfold needM
  rw [Int.add_comm b a, Int.max_comm b a, Int.min_comm b a, Int.mul_assoc T b a, Int.mul_comm b a, ← Int.mul_assoc T a b]
/-! ### math.isqrt -/
def rIsqrt : List V → Hp → VK → Prop := fun vs H Q => ∃ n : Int, vs = [.int n] ∧ 0 ≤ n ∧ n.toNat.log2 ≤ 9000 ∧ Q (.int (isq n)) H
theorem cr_isqrt {X : Cx} : CallR X (.builtin "math.isqrt") rIsqrt := by
  intro pins s σ H vs us Q I r h
  obtain ⟨n, rfl, h0, h1, q⟩ := h
  cases r with
  | cons r1 r2 =>
    cases r2
    obtain ⟨t, rfl⟩ := r1
    exact PySem.call_function_meets PySem.W.MGF.kind_isqrt PySem.W.MGF.plain_isqrt PySem.W.MGF.entry_isqrt (PySem.W.MGF.args_isqrt _) (PySem.W.mg_run_isqrt n t (by omega) (by omega) (by omega)).meets ⟨.int _, H, I.tok _, ⟨_, rfl⟩, q⟩
theorem rc_isqrt {H : Hp} {n : Int} (h0 : 0 ≤ n) (h1 : n.toNat.log2 ≤ 9000) : RC rIsqrt [.int n] H (.int (isq n)) := fun H1 _ _ q => ⟨n, rfl, h0, h1, q H1 (Ex.refl H1)⟩
theorem log2_le_of {x : Int} {n : Nat} (h0 : 0 ≤ x) (h : x < (2 : Int) ^ (n + 1)) : x.toNat.log2 ≤ n := by
  have h1 := abs_lt_of h0 h
  have e : x.toNat = x.natAbs := by omega
  rw [e]
  exact PySem.W.mg_log h1
/-- wide numbers -/
theorem cmulW_of {i j : Int} (h1 : 0 ≤ i) (h2 : i < (2 : Int) ^ 900) (h3 : 0 ≤ j) (h4 : j < (2 : Int) ^ 900) : CMulW i j := wide_mul (abs_lt_of h1 h2) (abs_lt_of h3 h4) (by decide) (by decide) (by decide)
theorem cdivW_of {i j : Int} (h3 : 0 < j) (h4 : j < (2 : Int) ^ 900) : CDivW i j := wide_div h3 (abs_lt_of (by omega) h4) (by decide) (by decide)
structure FOk (a b c : Int) : Prop where
  a0 : 0 ≤ a
  a1 : a ≤ 2 ^ 200
  b0 : 0 ≤ b
  b1 : b ≤ 2 ^ 200
  c0 : 0 ≤ c
  cab : c ≤ a + b
structure SOk (a b c : Int) : Prop where
  f : FOk a b c
  ca : c ≤ a
  cb : c ≤ b
theorem frac_bd (k : Str) {a b c : Int} (h : FOk a b c) : 0 ≤ (frac k a b c).1 ∧ (frac k a b c).1 ≤ 2 ^ 402 ∧ 0 ≤ (frac k a b c).2 ∧ (frac k a b c).2 ≤ 2 ^ 402 := by
  obtain ⟨a0, a1, b0, b1, c0, ca⟩ := h
  unfold frac
  split
  · dsimp only
    omega
  · split
    · dsimp only
      omega
    · split
      · dsimp only
        omega
      · split
        · dsimp only
          omega
        · dsimp only
          have h1 := Int.mul_nonneg c0 c0
          have h2 := Int.mul_nonneg a0 b0
          have h3 : c * c ≤ 2 ^ 201 * 2 ^ 201 := Int.mul_le_mul (by omega) (by omega) c0 (by decide)
          have h4 : a * b ≤ 2 ^ 200 * 2 ^ 200 := Int.mul_le_mul a1 b1 b0 (by decide)
          have e3 : (2 : Int) ^ 201 * 2 ^ 201 = 2 ^ 402 := by decide +kernel
          have e4 : (2 : Int) ^ 200 * 2 ^ 200 ≤ 2 ^ 402 := by decide +kernel
          omega
theorem frac_pos (k : Str) {a b c : Int} (ha : 0 < a) (hb : 0 < b) (hc : c < a + b) : 0 < (frac k a b c).2 := by
  unfold frac
  split
  · dsimp only
    omega
  · split
    · dsimp only
      omega
    · split
      · dsimp only
        omega
      · split
        · dsimp only
          omega
        · dsimp only
          exact Int.mul_pos ha hb
/-! ### drawn least shares -/
def lbot (m : Int) : Int := ([1 + m / 5 % 12, 1 + m / 5 % 4, 1 + m / 5 % 1000, 999999999 - m / 5 % 999] : List Int).getD (m % 4).toNat 0
def ltop (m : Int) : Int := if m % 4 = 3 then ([1 + m * 7919 % lbot m, lbot m - m / 56 % 999] : List Int).getD (m / 28 % 2).toNat 0 else 1 + m / 7 % lbot m
def leastM (m : Int) : Int × Int := (ltop m / gcdI (ltop m) (lbot m), lbot m / gcdI (ltop m) (lbot m))
theorem lbot_ok (m : Int) : 1 ≤ lbot m ∧ lbot m ≤ 999999999 ∧ (m % 4 = 3 → 999999001 ≤ lbot m) := by
  have h : m % 4 = 0 ∨ m % 4 = 1 ∨ m % 4 = 2 ∨ m % 4 = 3 := by omega
  unfold lbot
  rcases h with h | h | h | h <;> rw [h]
  · show 1 ≤ 1 + m / 5 % 12 ∧ 1 + m / 5 % 12 ≤ 999999999 ∧ ((0 : Int) = 3 → 999999001 ≤ 1 + m / 5 % 12)
    omega
  · show 1 ≤ 1 + m / 5 % 4 ∧ 1 + m / 5 % 4 ≤ 999999999 ∧ ((1 : Int) = 3 → 999999001 ≤ 1 + m / 5 % 4)
    omega
  · show 1 ≤ 1 + m / 5 % 1000 ∧ 1 + m / 5 % 1000 ≤ 999999999 ∧ ((2 : Int) = 3 → 999999001 ≤ 1 + m / 5 % 1000)
    omega
  · show 1 ≤ 999999999 - m / 5 % 999 ∧ 999999999 - m / 5 % 999 ≤ 999999999 ∧ ((3 : Int) = 3 → 999999001 ≤ 999999999 - m / 5 % 999)
    omega
theorem ltop_ok (m : Int) : 1 ≤ ltop m ∧ ltop m ≤ lbot m := by
  obtain ⟨h1, h2, h3⟩ := lbot_ok m
  unfold ltop
  split
  · rename_i h
    have h3 := h3 h
    have h : m / 28 % 2 = 0 ∨ m / 28 % 2 = 1 := by omega
    have e1 := Int.emod_nonneg (m * 7919) (show lbot m ≠ 0 by omega)
    have e2 := Int.emod_lt_of_pos (m * 7919) (show 0 < lbot m by omega)
    rcases h with h | h <;> rw [h]
    · show 1 ≤ 1 + m * 7919 % lbot m ∧ 1 + m * 7919 % lbot m ≤ lbot m
      omega
    · show 1 ≤ lbot m - m / 56 % 999 ∧ lbot m - m / 56 % 999 ≤ lbot m
      omega
  · have e1 := Int.emod_nonneg (m / 7) (show lbot m ≠ 0 by omega)
    have e2 := Int.emod_lt_of_pos (m / 7) (show 0 < lbot m by omega)
    omega
theorem gcdI_div {a b : Int} (ha : 0 < a) (hb : 0 < b) : 0 < a / gcdI a b ∧ 0 < b / gcdI a b ∧ gcdI (a / gcdI a b) (b / gcdI a b) = 1 := by
  obtain ⟨m, rfl⟩ := Int.eq_ofNat_of_zero_le (show 0 ≤ a by omega)
  obtain ⟨n, rfl⟩ := Int.eq_ofNat_of_zero_le (show 0 ≤ b by omega)
  have hm : 0 < m := by omega
  have hn : 0 < n := by omega
  unfold gcdI
  simp only [Int.natAbs_natCast]
  have g0 : 0 < Nat.gcd m n := Nat.gcd_pos_of_pos_left _ hm
  have d1 : 0 < m / Nat.gcd m n := Nat.div_pos (Nat.gcd_le_left _ hm) g0
  have d2 : 0 < n / Nat.gcd m n := Nat.div_pos (Nat.gcd_le_right _ hn) g0
  have e1 : ((m : Int) / ((Nat.gcd m n : Nat) : Int)) = ((m / Nat.gcd m n : Nat) : Int) := (Int.natCast_ediv _ _).symm
  have e2 : ((n : Int) / ((Nat.gcd m n : Nat) : Int)) = ((n / Nat.gcd m n : Nat) : Int) := (Int.natCast_ediv _ _).symm
  rw [e1, e2]
  simp only [Int.natAbs_natCast]
  refine ⟨by omega, by omega, ?_⟩
  rw [Nat.gcd_div (Nat.gcd_dvd_left m n) (Nat.gcd_dvd_right m n), Nat.div_self g0]
  rfl
theorem div_gcd_le {a b : Int} (ha : 0 < a) (h : a ≤ b) : a / gcdI a b ≤ b / gcdI a b := Int.ediv_le_ediv (gcdI_pos (by omega)) h
theorem div_gcd_le_self {a b : Int} (hb : 0 < b) : b / gcdI a b ≤ b := by
  have := gcdI_pos (a := a) hb
  exact Int.ediv_le_self _ (by omega)
theorem least_ok (m : Int) : LOk (leastM m).1 (leastM m).2 ∧ (leastM m).2 ≤ 999999999 := by
  obtain ⟨h1, h2, h3⟩ := lbot_ok m
  obtain ⟨h4, h5⟩ := ltop_ok m
  obtain ⟨g1, g2, g3⟩ := gcdI_div (show 0 < ltop m by omega) (show 0 < lbot m by omega)
  have g4 := div_gcd_le (show 0 < ltop m by omega) h5
  have g5 := div_gcd_le_self (a := ltop m) (show 0 < lbot m by omega)
  unfold leastM
  exact ⟨⟨g1, g4, g3⟩, by dsimp only; omega⟩
end MuK

namespace MuK
open PySem PySem.Spec PyProof.Rows L2 Evl
/-! ### mates -/
def botM (k : Str) (T B : Int) : Int := if k = "mean" then 2 * B - T else B
def lowM (k : Str) (T B a : Int) : Int := if k = "lesser" then 1 else cd (a * T) (botM k T B)
def highM (k : Str) (T B a : Int) : Int := a * botM k T B / T
def hiV (k : Str) (T B a : Int) : V := if k = "lesser" then .non else .int (highM k T B a)
def mateB (k : Str) (T B a b : Int) : Bool := decide (0 < b) && reach k T B a b (min a b)
theorem botM_ok {k : Str} {T B : Int} (t0 : 0 < T) (tb : T ≤ B) : T ≤ botM k T B ∧ B ≤ botM k T B ∧ botM k T B ≤ 2 * B := by
  unfold botM
  split <;> omega
theorem mul_cancel_le {x y z : Int} (hx : 0 < x) : x * y ≤ x * z ↔ y ≤ z := by
  constructor
  · intro h
    exact Int.le_of_mul_le_mul_left h hx
  · intro h
    exact Int.mul_le_mul_of_nonneg_left h (by omega)
theorem reach_min {k : Str} {T B a b : Int} (hk : k ∈ five) (hl : k ≠ "lesser") (t0 : 0 < T) (tb : T ≤ B) (ha : 0 < a) (hb : 0 < b) : reach k T B a b (min a b) = true ↔ T * max a b ≤ min a b * botM k T B := by
  unfold reach frac botM
  rw [decide_eq_true_iff]
  by_cases h1 : k = "both"
  · have : ¬ k = "mean" := by rw [h1]; decide +kernel
    rw [if_pos h1, if_neg this]
    dsimp only
    have e : a + b - min a b = max a b := by omega
    rw [e]
  rw [if_neg h1]
  by_cases h2 : k = "mean"
  · rw [if_pos h2, if_pos h2]
    dsimp only
    have e : a + b = min a b + max a b := by omega
    rw [e, Int.mul_add, Int.mul_sub, Int.mul_assoc 2, ← Int.mul_assoc (min a b) 2 B, Int.mul_comm (min a b) 2, Int.mul_assoc 2, Int.mul_comm (min a b) T]
    omega
  rw [if_neg h2, if_neg h2]
  by_cases h3 : k = "greater"
  · rw [if_pos h3]
  rw [if_neg h3, if_neg hl]
  dsimp only
  have e : a * b = min a b * max a b := by
    rcases Int.le_total a b with h | h
    · rw [Int.min_eq_left h, Int.max_eq_right h]
    · rw [Int.min_eq_right h, Int.max_eq_left h, Int.mul_comm]
  have e1 : T * (a * b) = min a b * (T * max a b) := by
    rw [e, ← Int.mul_assoc, Int.mul_comm T (min a b), Int.mul_assoc]
  rw [e1, Int.mul_assoc (min a b), mul_cancel_le (by omega)]
theorem mate_iff {k : Str} {T B a b : Int} (hk : k ∈ five) (t0 : 0 < T) (tb : T ≤ B) (ha : 0 < a) : mateB k T B a b = true ↔ lowM k T B a ≤ b ∧ (k = "lesser" ∨ b ≤ highM k T B a) := by
  unfold mateB
  obtain ⟨q1, q2, q3⟩ := botM_ok (k := k) t0 tb
  by_cases hb : 0 < b
  · rw [decide_eq_true hb, Bool.true_and]
    by_cases hl : k = "lesser"
    · unfold lowM
      rw [if_pos hl]
      unfold reach frac
      have n1 : ¬ k = "both" := by rw [hl]; decide +kernel
      have n2 : ¬ k = "mean" := by rw [hl]; decide +kernel
      have n3 : ¬ k = "greater" := by rw [hl]; decide +kernel
      rw [if_neg n1, if_neg n2, if_neg n3, if_pos hl, decide_eq_true_iff]
      dsimp only
      have : T * min a b ≤ min a b * B := by rw [Int.mul_comm T]; exact Int.mul_le_mul_of_nonneg_left tb (by omega)
      exact ⟨fun _ => ⟨by omega, .inl hl⟩, fun _ => this⟩
    · rw [reach_min hk hl t0 tb ha hb]
      unfold lowM highM
      rw [if_neg hl, cd_le (by omega), Int.le_ediv_iff_mul_le t0]
      rcases Int.le_total a b with h | h
      · rw [Int.max_eq_right h, Int.min_eq_left h]
        have e1 : a * T ≤ b * botM k T B := by
          have := Int.mul_le_mul_of_nonneg_left q1 (show 0 ≤ a by omega)
          have := Int.mul_le_mul_of_nonneg_right h (show 0 ≤ botM k T B by omega)
          omega
        rw [Int.mul_comm T b]
        exact ⟨fun z => ⟨e1, .inr z⟩, fun z => z.2.resolve_left hl⟩
      · rw [Int.max_eq_left h, Int.min_eq_right h]
        have e1 : b * T ≤ a * botM k T B := by
          have := Int.mul_le_mul_of_nonneg_left q1 (show 0 ≤ b by omega)
          have := Int.mul_le_mul_of_nonneg_right h (show 0 ≤ botM k T B by omega)
          omega
        rw [Int.mul_comm T a]
        exact ⟨fun z => ⟨z, .inr e1⟩, fun z => z.1⟩
  · rw [decide_eq_false hb, Bool.false_and]
    refine ⟨fun z => (by cases z), fun z => absurd z.1 ?_⟩
    unfold lowM
    split
    · omega
    · rw [cd_le (by omega)]
      have := Int.mul_pos ha t0
      have := Int.mul_nonneg (show 0 ≤ -b by omega) (show 0 ≤ botM k T B by omega)
      rw [Int.neg_mul] at this
      omega
theorem low_ok {k : Str} {T B a : Int} (t0 : 0 < T) (tb : T ≤ B) (ha : 0 < a) : 1 ≤ lowM k T B a ∧ lowM k T B a ≤ a := by
  obtain ⟨q1, q2, q3⟩ := botM_ok (k := k) t0 tb
  unfold lowM
  split
  · omega
  · have h1 : cd (a * T) (botM k T B) ≤ a := by
      rw [cd_le (by omega)]
      exact Int.mul_le_mul_of_nonneg_left q1 (by omega)
    refine ⟨?_, h1⟩
    rcases Int.lt_or_le (cd (a * T) (botM k T B)) 1 with h | h
    · have := (cd_le (t := a * T) (b := botM k T B) (c := 0) (by omega)).mp (by omega)
      have := Int.mul_pos ha t0
      omega
    · exact h
theorem high_ok {k : Str} {T B a : Int} (t0 : 0 < T) (tb : T ≤ B) (ha : 0 < a) : a ≤ highM k T B a ∧ highM k T B a ≤ a * (2 * B) := by
  obtain ⟨q1, q2, q3⟩ := botM_ok (k := k) t0 tb
  unfold highM
  constructor
  · rw [Int.le_ediv_iff_mul_le t0]
    exact Int.mul_le_mul_of_nonneg_left q1 (by omega)
  · have h1 := Int.ediv_le_self T (show 0 ≤ a * botM k T B from Int.mul_nonneg (by omega) (by omega))
    have h2 := Int.mul_le_mul_of_nonneg_left q3 (show 0 ≤ a by omega)
    omega
/-- what is needed rises with the other weight -/
theorem need_mono {k : Str} {T B a b d : Int} (t0 : 0 < T) (tb : T ≤ B) (ha : 0 < a) (hb : 0 < b) (h : b ≤ d) : needM k T B a b ≤ needM k T B a d := by
  have n0 := need_nn (k := k) (b := d) t0 tb ha (by omega)
  have n1 := (need_spec (k := k) (b := d) t0 tb ha (by omega) n0).mpr (Int.le_refl _)
  rw [← need_spec t0 tb ha hb n0]
  revert n1
  generalize needM k T B a d = c at n0
  unfold reach frac
  rw [decide_eq_true_iff, decide_eq_true_iff]
  have w1 : T * (a + b - c) ≤ T * (a + d - c) := Int.mul_le_mul_of_nonneg_left (by omega) (by omega)
  have w2 : T * (a + b) ≤ T * (a + d) := Int.mul_le_mul_of_nonneg_left (by omega) (by omega)
  have w3 : T * max a b ≤ T * max a d := Int.mul_le_mul_of_nonneg_left (by omega) (by omega)
  have w4 : T * min a b ≤ T * min a d := Int.mul_le_mul_of_nonneg_left (by omega) (by omega)
  have w5 : T * (a * b) ≤ T * (a * d) := Int.mul_le_mul_of_nonneg_left (Int.mul_le_mul_of_nonneg_left h (by omega)) (by omega)
  split
  · intro z; exact Int.le_trans w1 z
  · split
    · intro z; exact Int.le_trans w2 z
    · split
      · intro z; exact Int.le_trans w3 z
      · split
        · intro z; exact Int.le_trans w4 z
        · intro z; exact Int.le_trans w5 z
/-- a share told in lowest terms is no less just where the fraction is -/
theorem share_no_less {k : Str} {T B a b c : Int} (ha : 0 < a) (hb : 0 < b) (hp : 0 < (frac k a b c).2) (h0 : 0 ≤ (frac k a b c).1) (h : reach k T B a b c = true) :
    T * (shareM k a b c).2 ≤ (shareM k a b c).1 * B := by
  have h := of_decide_eq_true (show decide (T * (frac k a b c).2 ≤ (frac k a b c).1 * B) = true from h)
  unfold shareM
  rw [if_neg (by omega)]
  dsimp only
  generalize (frac k a b c).1 = x at *
  generalize (frac k a b c).2 = y at *
  have g0 := gcdI_pos (a := x) hp
  have d1 : gcdI x y ∣ x := by
    unfold gcdI
    exact Int.natAbs_dvd_natAbs.mp (by rw [Int.natAbs_natCast]; exact Nat.gcd_dvd_left _ _)
  have d2 : gcdI x y ∣ y := by
    unfold gcdI
    exact Int.natAbs_dvd_natAbs.mp (by rw [Int.natAbs_natCast]; exact Nat.gcd_dvd_right _ _)
  generalize gcdI x y = g at *
  obtain ⟨x', rfl⟩ := d1
  obtain ⟨y', rfl⟩ := d2
  rw [Int.mul_ediv_cancel_left _ (by omega), Int.mul_ediv_cancel_left _ (by omega)]
  have e1 : T * (g * y') = g * (T * y') := by rw [← Int.mul_assoc, Int.mul_comm T g, Int.mul_assoc]
  rw [e1, Int.mul_assoc, mul_cancel_le g0] at h
  exact h
structure MOk (T B a : Int) : Prop where
  l : LOk T B
  a0 : 0 < a
  ab : a * (2 * B) ≤ 2 ^ 190
theorem MOk.bd {T B a : Int} (h : MOk T B a) : a ≤ 2 ^ 190 ∧ B ≤ 2 ^ 190 ∧ (∀ k, 1 ≤ lowM k T B a ∧ lowM k T B a ≤ a ∧ a ≤ highM k T B a ∧ highM k T B a ≤ 2 ^ 190 ∧ 0 < botM k T B ∧ botM k T B ≤ 2 ^ 191 ∧ 0 ≤ a * botM k T B ∧ a * botM k T B ≤ 2 ^ 190) := by
  obtain ⟨⟨t0, tb, _⟩, a0, ab⟩ := h
  have h1 : a * 1 ≤ a * (2 * B) := Int.mul_le_mul_of_nonneg_left (by omega) (by omega)
  have h2 : 1 * (2 * B) ≤ a * (2 * B) := Int.mul_le_mul_of_nonneg_right (by omega) (by omega)
  refine ⟨by omega, by omega, fun k => ?_⟩
  have := low_ok (k := k) t0 tb a0
  have := high_ok (k := k) t0 tb a0
  obtain ⟨q1, q2, q3⟩ := botM_ok (k := k) t0 tb
  have q4 := Int.mul_le_mul_of_nonneg_left q3 (show 0 ≤ a by omega)
  have q5 : 0 ≤ a * botM k T B := Int.mul_nonneg (by omega) (by omega)
  exact ⟨by omega, by omega, by omega, by omega, by omega, by omega, q5, by omega⟩
/-- the share of two weights that have something in common is a least share -/
theorem share_is_least {k : Str} {a b c : Int} (h : WOk a b c) (hc : 0 < c) (hk : k ∈ five) : LOk (shareM k a b c).1 (shareM k a b c).2 ∧ (shareM k a b c).2 ≤ 10 ^ 36 := by
  obtain ⟨a0, a1, b0, b1, c0, ca, cb⟩ := id h
  obtain ⟨f1, f2, f3, f4⟩ := frac_bounds k h (by omega) (by omega)
  have fle : (frac k a b c).1 ≤ (frac k a b c).2 := by
    unfold frac
    split
    · dsimp only; omega
    · split
      · dsimp only; omega
      · split
        · dsimp only; omega
        · split
          · dsimp only; omega
          · exact Int.mul_le_mul ca cb c0 a0
  have fpos : 0 < (frac k a b c).1 := by
    unfold frac
    split
    · exact hc
    · split
      · dsimp only; omega
      · split
        · exact hc
        · split
          · exact hc
          · exact Int.mul_pos hc hc
  unfold shareM
  rw [if_neg (by omega)]
  obtain ⟨g1, g2, g3⟩ := gcdI_div fpos f3
  exact ⟨⟨g1, div_gcd_le fpos fle, g3⟩, Int.le_trans (div_gcd_le_self f3) f4⟩
end MuK

namespace MuSet
open PySem PySem.Spec PyProof.Rows L2
/-! ### sets of texts: what stands at an address, in what order does not matter -/
/-- the payload: it holds just the texts of l, each once; its table rises, and may be walked -/
structure Pay (P : Program) (w : World) (D : PySem.Froz.SD) (l : List Str) : Prop where
  tx : PySem.Froz.TxOk P w D l
  nd : l.Nodup
  ris : Ris D.2.2.place.toList
  led : w.params.followText "set-order" = true ∨ D.2.2.led = true
def TxS (P : Program) (w : World) (h : Heap) (a : Addr) (l : List Str) : Prop := ∃ D, h.get? a = some (PySem.Froz.sObj "set" D) ∧ Pay P w D l
section
variable {P : Program} {w : World} {A : Around} {E : Value → Shared → Prop} {s : Shared} {h h' : Heap} {a : Addr} {l l' : List Str}
theorem TxS.at (R : TxS P w h a l) (k : ∀ o, h.get? a = some o → h'.get? a = some o) : TxS P w h' a l := by
  obtain ⟨D, e, p⟩ := R
  exact ⟨D, k _ e, p⟩
theorem Pay.congr {D : PySem.Froz.SD} (p : Pay P w D l) (e : ∀ k, k ∈ l' ↔ k ∈ l) (nd : l'.Nodup) : Pay P w D l' := by
  have pm : l'.Perm l := (List.perm_ext_iff_of_nodup nd p.nd).mpr e
  exact ⟨⟨p.tx.el, fun k => (e k).trans (p.tx.mem k), by rw [p.tx.sz, pm.length_eq], p.tx.fit⟩, nd, p.ris, p.led⟩
theorem tail_ris {ep : Nat} {es : Array (Int × Value)} {t : SetTable} {b : Bool} (r : Ris t.place.toList) : Ris (PySem.Froz.tailTx ep es t b).2.2.place.toList := by
  unfold PySem.Froz.tailTx
  split
  · exact relayAll_ris _ _ _
  · exact r
theorem tail_led {ep : Nat} {es : Array (Int × Value)} {t : SetTable} {b : Bool} : (PySem.Froz.tailTx ep es t b).2.2.led = t.led := by
  unfold PySem.Froz.tailTx
  split
  · exact relayAll_led _ _ _
  · rfl
theorem addTx_ris {h : Int} {v : Value} {D : PySem.Froz.SD} (r : Ris D.2.2.place.toList) : Ris (PySem.Froz.addTx h v D).2.2.place.toList := by
  have r1 := layNew_ris D.2.2 D.1 h v r
  refine tail_ris ?_
  split
  · exact r1
  · exact r1
theorem addTx_led {h : Int} {v : Value} {D : PySem.Froz.SD} : (PySem.Froz.addTx h v D).2.2.led = D.2.2.led := by
  have r1 := layNew_led D.2.2 D.1 h v
  refine tail_led.trans ?_
  split
  · exact r1
  · exact r1
theorem Pay.add {D : PySem.Froz.SD} {k : Str} {u : Tok} (p : Pay P w D l) (hk : k ∉ l) : Pay P w (PySem.Froz.addTx (hashStr w k) (.str k u) D) (k :: l) :=
  ⟨PySem.Froz.add_ok u p.tx, List.nodup_cons.mpr ⟨hk, p.nd⟩, addTx_ris p.ris, p.led.imp_right fun z => addTx_led.trans z⟩
/-- a text is put in: new, or there already -/
theorem tx_add {k : Str} {u : Tok} {Q : Bool → Shared → Prop} (R : TxS P w s.heap a l) (hb : l.length + 1 < scanBound)
    (q : ∀ h' l', Heap.SameBut a s.heap h' → TxS P w h' a l' → (∀ j, j ∈ l' ↔ j ∈ l ∨ j = k) → l'.length ≤ l.length + 1 → ∀ b, Q b { s with heap := h' }) : wpAny (model P w) A (setAddHashed a (.str k u) (hashStr w k)) Q E s := by
  obtain ⟨D, ho, p⟩ := R
  by_cases hk : k ∈ l
  · -- there already: nothing changes
    obtain ⟨es, ep, t⟩ := D
    have hel : ElemsOf (PySem.strKind P w) es.toList := p.tx.el
    have hsz : es.size = l.length := p.tx.sz
    have hkey : (PySem.strKind P w).is k (.str k u) = true := PySem.Froz.is_str k u
    have hq := q s.heap l (Heap.SameBut.refl a s.heap) ⟨_, ho, p⟩ (fun j => ⟨.inl, fun z => z.elim (fun y => y) (fun y => by rw [y]; exact hk)⟩) (Nat.le_succ _)
    obtain ⟨j, hj⟩ : ∃ j, List.findIdx? (fun e => (PySem.strKind P w).is k e.2) es.toList = some j := by
      cases hr : List.findIdx? (fun e => (PySem.strKind P w).is k e.2) es.toList with
      | some j => exact ⟨j, rfl⟩
      | none =>
        obtain ⟨e, he, z⟩ := (p.tx.mem k).mp hk
        rw [List.findIdx?_eq_none_iff] at hr
        rw [hr e he] at z
        cases z
    unfold setAddHashed setAddHashedIn
    refine wpAny_holding (wpAny_bind (wpAny_setState_of ho rfl p.tx.fit ?_))
    dsimp only
    rw [byScan_of rfl (by omega) hel, if_pos rfl]
    unfold setAddByScan
    refine wpAny_bind (wpAny_bind (wpAny_rule (wpAny_bind (wpAny_setScan_of (knd := PySem.strKind P w) (k := k) hkey ho rfl p.tx.fit hel ?_))))
    rw [hj]
    exact wpAny_pure (wpAny_pure (hq false))
  · refine PySem.Froz.add_x ho p.tx hk hb ?_
    refine q _ (k :: l) (Heap.SameBut.update _ _ _) ⟨_, PySem.Froz.get_upd _ ho rfl, p.add hk⟩ (fun j => ?_) (Nat.le_refl _) true
    rw [List.mem_cons]
    exact ⟨fun z => z.symm, fun z => z.symm⟩
/-! ### the elements, walked -/
/-- in some order -/
theorem tx_walk {D : PySem.Froz.SD} {Q : Array (Int × Value) → Shared → Prop} (ho : s.heap.get? a = some (PySem.Froz.sObj "set" D)) (p : Pay P w D l)
    (q : ∀ (es : Array (Int × Value)) d, es.toList.Perm D.1.toList → Q es { s with drawn := d }) : wpAny (model P w) A (setWalk a) Q E s := by
  obtain ⟨es, ep, t⟩ := D
  have e0 : s = { s with drawn := s.drawn } := rfl
  unfold setWalk
  refine wpAny_bind (wpAny_setState_of ho rfl p.tx.fit ?_)
  dsimp only
  refine wpAny_bind (wpAny_byText ?_)
  by_cases hb : w.params.followText "set-order" = true
  · refine wp_if_pos hb ?_
    exact wpAny_bind (wpAny_askSetting (wpAny_pure (q _ s.drawn (pick_perm _ es))))
  · refine wp_if_neg hb ?_
    try refine wpAny_bind (wpAny_pure ?_)
    have hl : t.led = true := p.led.resolve_left hb
    cases hd : (!t.plain && decide (es.size > 1)) with
    | true =>
      refine wp_if_pos hd ?_
      exact wpAny_bind (drawOrder_at _ _ _ _ (Nat.le_of_eq (Array.length_toList)) fun ys d hp => wpAny_pure (q ys.toArray d (by simpa using hp)))
    | false =>
      refine wp_if_neg (by show ¬ ((!t.plain && decide (es.size > 1)) = true); rw [hd]; exact Bool.false_ne_true) ?_
      try refine wpAny_bind (wpAny_pure ?_)
      refine wpAny_bind (wpAny_of_eq (a := ()) ?_ (wpAny_pure (q es s.drawn (List.Perm.refl _))))
      show (if (!t.led && decide (es.size > 1)) = true then unsupported "set:maker-not-led" else pure ()) = pure ()
      rw [hl] <;> rfl
theorem Pay.strs {D : PySem.Froz.SD} (p : Pay P w D l) : ∀ e ∈ D.1.toList, ∃ k tk, e = (hashStr w k, Value.str k tk) := fun e he => by
  obtain ⟨⟨k, hk, hh⟩, _⟩ := p.tx.el e he
  obtain ⟨h0, v⟩ := e
  have hs : Value.isStrOf k v = true := hk
  obtain ⟨tk, rfl⟩ := Value.isStrOf_shape hs
  exact ⟨k, tk, by rw [show h0 = hashStr w k from hh]⟩
theorem quiet_one : ∀ (es : List (Int × Value)) {β : Type} (r0 : β) (f : Int × Value → β → Sem (ForInStep β)) {s : Shared} {Q : β → Shared → Prop},
    (∀ e ∈ es, f e r0 = pure (ForInStep.yield r0)) → Q r0 s → wpAny (model P w) A (forIn es r0 f) Q E s
  | [], _, _, _, _, _, _, q => by
    rw [List.forIn_nil]
    exact wpAny_pure q
  | e :: es, _, r0, f, _, _, h, q => by
    rw [List.forIn_cons, h e List.mem_cons_self, pure_bind]
    exact quiet_one es r0 f (fun x hx => h x (List.mem_cons_of_mem _ hx)) q
theorem quiet_sets : ∀ (sets : List Addr) {s : Shared} {Q : Bool → Shared → Prop}, (∀ b ∈ sets, ∃ l, TxS P w s.heap b l) → Q true s → wpAny (model P w) A (setsQuiet sets) Q E s := by
  intro sets s Q h q
  unfold setsQuiet
  have main : ∀ (bs : List Addr) {β : Type} (r0 : β) (f : Addr → β → Sem (ForInStep β)) {Q : β → Shared → Prop},
      (∀ b ∈ bs, ∀ Q2 : ForInStep β → Shared → Prop, Q2 (ForInStep.yield r0) s → wpAny (model P w) A (f b r0) Q2 E s) → Q r0 s → wpAny (model P w) A (forIn bs r0 f) Q E s := by
    intro bs
    induction bs with
    | nil =>
      intro β r0 f Q _ q
      rw [List.forIn_nil]
      exact wpAny_pure q
    | cons b bs ih =>
      intro β r0 f Q h q
      rw [List.forIn_cons]
      refine wpAny_bind (h b List.mem_cons_self _ ?_)
      exact ih r0 f (fun x hx => h x (List.mem_cons_of_mem _ hx)) q
  refine wpAny_bind (main sets _ _ (fun b hb Q2 q2 => ?_) ?_)
  · obtain ⟨lb, D, ho, p⟩ := h b hb
    refine wpAny_bind (wpAny_setEntries_of ho rfl p.tx.fit ?_)
    rw [← Array.forIn_toList]
    refine wpAny_bind (quiet_one _ _ _ (fun e he => ?_) ?_)
    · obtain ⟨k, tk, rfl⟩ := p.strs e he
      rfl
    · exact wpAny_pure q2
  · exact wpAny_pure q
/-- walked where nobody sees it: f, which is being filled, may lose its marks -/
theorem tx_unseen {D : PySem.Froz.SD} {f : Addr} {lf : List Str} {others : List Addr} {Q : Array (Int × Value) → Shared → Prop} (ho : s.heap.get? a = some (PySem.Froz.sObj "set" D)) (p : Pay P w D l) (hf : TxS P w s.heap f lf)
    (hz : lf.length < scanBound) (hoth : ∀ b ∈ others, ∃ l, TxS P w s.heap b l)
    (q : ∀ (es : Array (Int × Value)) h' d, es.toList.Perm D.1.toList → Heap.SameBut f s.heap h' → TxS P w h' f lf → Q es { s with heap := h', drawn := d }) : wpAny (model P w) A (setWalkUnseen a others (some f)) Q E s := by
  have plainly : wpAny (model P w) A (setWalk a) Q E s := tx_walk ho p fun es d hp => q es s.heap d hp (Heap.SameBut.refl f s.heap) hf
  obtain ⟨es, ep, t⟩ := D
  unfold setWalkUnseen
  refine wpAny_bind (wpAny_setState_of ho rfl p.tx.fit ?_)
  dsimp only
  refine wpAny_bind (wpAny_byText ?_)
  cases hc : (w.params.followText "set-order" || t.led && t.plain || decide (es.size ≤ 1)) with
  | true =>
    refine wp_if_pos rfl ?_
    first | exact plainly | exact wpAny_bind (m := setWalk a) (thn plainly fun v s' z => wpAny_pure z)
  | false =>
    refine wp_if_neg Bool.false_ne_true ?_
    try refine wpAny_bind (wpAny_pure ?_)
    refine wpAny_bind (quiet_sets (a :: others) (fun b hb => ?_) ?_)
    · rcases List.mem_cons.mp hb with rfl | hb
      · exact ⟨l, _, ho, p⟩
      · exact hoth b hb
    refine wp_if_neg (by simp) ?_
    try refine wpAny_bind (wpAny_pure ?_)
    refine wpAny_bind (wpAny_rule ?_)
    obtain ⟨Df, hof, pf⟩ := id hf
    obtain ⟨ef, epf, tf⟩ := Df
    have hled : w.params.followText "set-order" = true ∨ t.led = true := p.led
    refine wpAny_bind (wpAny_setState_of hof rfl pf.tx.fit ?_)
    dsimp only
    split
    · refine wpAny_bind (wpAny_storeSet_of hof rfl ?_ (fits_of_scanBound (by have := pf.tx.sz; dsimp only at this; omega)))
      have hd : (s.heap.update f (Obj.putSet ef { tf with led := tf.led && t.led, plain := tf.plain && t.plain })).get? f = some (PySem.Froz.sObj "set" (ef, epf + 1, { tf with led := tf.led && t.led, plain := tf.plain && t.plain })) :=
        (Heap.get?_update_self _ hof rfl).trans rfl
      have hp2 : Pay P w (ef, epf + 1, { tf with led := tf.led && t.led, plain := tf.plain && t.plain }) lf :=
        ⟨⟨pf.tx.el, pf.tx.mem, pf.tx.sz, pf.tx.fit⟩, pf.nd, pf.ris, by
          rcases hled with z | z
          · exact .inl z
          · rcases pf.led with y | y
            · exact .inl y
            · refine .inr ?_
              show (tf.led && t.led) = true
              rw [show tf.led = true from y, z] <;> rfl⟩
      exact wpAny_pure (q es _ s.drawn (List.Perm.refl _) (Heap.SameBut.update _ _ _) ⟨_, hd, hp2⟩)
    · exact wpAny_pure (q es s.heap s.drawn (List.Perm.refl _) (Heap.SameBut.refl f s.heap) hf)
/-! ### one & other -/
theorem sub_set : isSubtype (.type "set") (.type "set") = pure true := sub_set_self
theorem tx_type (R : TxS P w s.heap a l) : s.TypeIs (.ref a) "set" := by
  obtain ⟨D, ho, _⟩ := R
  exact ⟨_, ho, rfl⟩
theorem same_epoch {y : Addr} {ly : List Str} {Dy : PySem.Froz.SD} {nm : String} {Q : Unit → Shared → Prop} (hoy : s.heap.get? y = some (PySem.Froz.sObj "set" Dy)) (py : Pay P w Dy ly) (q : Q () s) : wpAny (model P w) A (Builtin.Frozenset.unchanged nm y Dy.2.1) Q E s := by
  unfold Builtin.Frozenset.unchanged
  refine wpAny_bind (wpAny_setEpoch_of hoy rfl py.tx.fit ?_)
  refine wp_if_neg (by simp) ?_
  exact wpAny_pure q
/-- those of the walked ones that the asked set has are put into r -/
theorem tx_fill {r o y : Addr} {lo ly : List Str} {Dy : PySem.Froz.SD} {nm : String} (hro : r ≠ o) (hry : r ≠ y) (py : Pay P w Dy ly) (f : Int × Value → PUnit → Sem (ForInStep PUnit)) (hfd : ∀ e, f e PUnit.unit = (do
        holding [e.2] (do
          if (← setFind o e.2 e.1).isSome then
            let _ ← setAddHashed r e.2 e.1
          else pure PUnit.unit)
        Builtin.Frozenset.unchanged nm y Dy.2.1
        pure (ForInStep.yield PUnit.unit))) : ∀ (es : List (Int × Value)) (ks : List Str) {s : Shared} {lr : List Str} {Q : PUnit → Shared → Prop}, Paired (fun (e : Int × Value) (k : Str) => ∃ tk, e = (hashStr w k, Value.str k tk)) es ks →
    s.heap.get? y = some (PySem.Froz.sObj "set" Dy) → TxS P w s.heap o lo → TxS P w s.heap r lr → lo.length < scanBound → lr.length + es.length < scanBound →
    (∀ h' lr' tk, Heap.SameBut r s.heap h' → TxS P w h' r lr' → (∀ j, j ∈ lr' ↔ j ∈ lr ∨ (j ∈ ks ∧ j ∈ lo)) → Q PUnit.unit { s with heap := h', toks := tk }) →
    wpAny (model P w) A (forIn es PUnit.unit f) Q E s
  | _, _, s, lr, Q, .nil, _, _, hr, _, _, q => by
    rw [List.forIn_nil]
    exact wpAny_pure (q s.heap lr s.toks (Heap.SameBut.refl r s.heap) hr (fun j => by simp))
  | _, _, s, lr, Q, .cons (a := e) (b := k) (l₁ := es) (l₂ := ks) he hes, hoy, ho, hr, hz, hz2, q => by
    obtain ⟨tk, rfl⟩ := he
    rw [List.forIn_cons, hfd]
    obtain ⟨Do, hoo, po⟩ := id ho
    obtain ⟨eo, epo, to⟩ := Do
    have hso : eo.size = lo.length := po.tx.sz
    have hs1 : eo.size < scanBound := by omega
    have hl2 : lr.length + (es.length + 1) < scanBound := by simpa using hz2
    refine wpAny_bind (wpAny_bind (wpAny_holding ?_))
    refine wpAny_bind (PySem.W.setFind_any (knd := PySem.strKind P w) (S := fun j => decide (j ∈ lo)) (k := k) (PySem.Froz.is_str k tk) rfl hoo rfl po.tx.el (fun j => by rw [decide_eq_true_eq]; exact po.tx.mem j) hs1 po.tx.fit fun fd hfd2 => ?_)
    by_cases hk : k ∈ lo
    · rw [if_pos (by rw [hfd2]; exact decide_eq_true hk)]
      refine wpAny_bind (tx_add (k := k) (u := tk) hr (by omega) fun h' l' sb R m ll b => ?_)
      refine wpAny_pure ?_
      have hoy' : h'.get? y = some (PySem.Froz.sObj "set" Dy) := by
        rw [sb.2 y (Ne.symm hry)]
        exact hoy
      refine wpAny_bind (same_epoch hoy' py (wpAny_pure ?_))
      refine tx_fill hro hry py f hfd es ks hes hoy' (ho.at fun u z => by rw [sb.2 o (Ne.symm hro)]; exact z) R hz ?_ fun h2 lr2 tk2 sb2 R2 m2 => q h2 lr2 tk2 (sb.trans sb2) R2 fun j => ?_
      · omega
      · rw [m2, m, List.mem_cons]
        constructor
        · rintro ((z | z) | ⟨z, y⟩)
          · exact .inl z
          · exact .inr ⟨.inl z, by rw [z]; exact hk⟩
          · exact .inr ⟨.inr z, y⟩
        · rintro (z | ⟨z | z, y⟩)
          · exact .inl (.inl z)
          · exact .inl (.inr z)
          · exact .inr ⟨z, y⟩
    · rw [if_neg (by rw [hfd2, decide_eq_false hk]; exact Bool.false_ne_true)]
      refine wpAny_pure ?_
      refine wpAny_bind (same_epoch hoy py (wpAny_pure ?_))
      refine tx_fill hro hry py f hfd es ks hes hoy ho hr hz (by omega) fun h2 lr2 tk2 sb2 R2 m2 => q h2 lr2 tk2 sb2 R2 fun j => ?_
      rw [m2, List.mem_cons]
      constructor
      · rintro (z | ⟨z, y⟩)
        · exact .inl z
        · exact .inr ⟨.inr z, y⟩
      · rintro (z | ⟨z | z, y⟩)
        · exact .inl z
        · exact absurd (by rw [← z]; exact y) hk
        · exact .inr ⟨z, y⟩
theorem strs_keys : ∀ (es : List (Int × Value)), (∀ e ∈ es, ∃ k tk, e = (hashStr w k, Value.str k tk)) → ∃ ks : List Str, Paired (fun (e : Int × Value) (k : Str) => ∃ tk, e = (hashStr w k, Value.str k tk)) es ks ∧ (∀ j, j ∈ ks ↔ ∃ e ∈ es, (PySem.strKind P w).is j e.2 = true)
  | [], _ => ⟨[], .nil, fun j => by simp⟩
  | e :: es, h => by
    obtain ⟨ks, h1, h2⟩ := strs_keys es fun x hx => h x (List.mem_cons_of_mem _ hx)
    obtain ⟨k, tk, rfl⟩ := h e List.mem_cons_self
    refine ⟨k :: ks, .cons ⟨tk, rfl⟩ h1, fun j => ?_⟩
    rw [List.mem_cons, h2]
    constructor
    · rintro (rfl | ⟨e, he, z⟩)
      · exact ⟨_, List.mem_cons_self, PySem.Froz.is_str j tk⟩
      · exact ⟨e, List.mem_cons_of_mem _ he, z⟩
    · rintro ⟨e, he, z⟩
      rcases List.mem_cons.mp he with rfl | he
      · exact .inl ((PySem.strKind P w).inj (.str k tk) j k z (PySem.Froz.is_str k tk))
      · exact .inr ⟨e, he, z⟩
theorem tx_len {D : PySem.Froz.SD} (p : Pay P w D l) : D.1.size = l.length := p.tx.sz
theorem fresh_pay {h : Heap} : TxS P w (h.push { cls := .type "set", dict := none, data := .set #[] 0 (.fresh 0 0 (!w.params.followText "set-order")) }) h.objs.size [] :=
  ⟨(#[], 0, .fresh 0 0 (!w.params.followText "set-order")), Heap.get?_push_size _ rfl, ⟨PySem.Froz.TxOk.nil rfl, List.nodup_nil, List.Pairwise.nil, by
    show w.params.followText "set-order" = true ∨ (!w.params.followText "set-order") = true
    cases w.params.followText "set-order"
    · exact .inr rfl
    · exact .inl rfl⟩⟩
theorem any_set {b : Addr} {lb : List Str} {Q : Bool → Shared → Prop} (R : TxS P w s.heap b lb) (q : Q true s) : wpAny (model P w) A (Builtin.Frozenset.isAnySet (.ref b)) Q E s := by
  unfold Builtin.Frozenset.isAnySet
  refine wpAny_bind (wpAny_isInstance (tx_type R) sub_set_self ?_)
  exact wpAny_pure q
theorem tx_and {b : Addr} {la lb : List Str} {nm : String} {Q : Value → Shared → Prop} (Ra : TxS P w s.heap a la) (Rb : TxS P w s.heap b lb) (hab : a ≠ b) (hz : la.length + lb.length < scanBound)
    (q : ∀ h' lr d tk, (∀ c o, s.heap.get? c = some o → h'.get? c = some o) → TxS P w h' s.heap.objs.size lr → (∀ j, j ∈ lr ↔ j ∈ la ∧ j ∈ lb) → Q (.ref s.heap.objs.size) { s with heap := h', drawn := d, toks := tk }) :
    wpAny (model P w) A (Builtin.Frozenset.intersection nm a (.ref b)) Q E s := by
  have hlt : ∀ c lc, TxS P w s.heap c lc → c < s.heap.objs.size := fun c lc R => by
    obtain ⟨D, ho, _⟩ := R
    exact Heap.lt_size ho
  unfold Builtin.Frozenset.intersection
  refine wp_if_neg (by simp [Ne.symm hab]) ?_
  try refine wpAny_bind (wpAny_pure ?_)
  refine wpAny_bind ?_
  unfold Builtin.Frozenset.baseOf
  refine wpAny_bind (wpAny_isInstance (tx_type Ra) sub_set_self ?_)
  refine wpAny_pure ?_
  rw [if_pos rfl]
  refine wpAny_bind ?_
  unfold newSet
  refine wpAny_bind (wpAny_byText ?_)
  refine wpAny_newObj_type ?_
  refine wpAny_bind (wpAny_pure ?_)
  generalize hs1 : ({ s with heap := s.heap.push { cls := .type "set", dict := none, data := .set #[] 0 (.fresh 0 0 (!w.params.followText "set-order")) } } : Shared) = s1
  have k1 : ∀ c o, s.heap.get? c = some o → s1.heap.get? c = some o := fun c o e => by
    rw [← hs1]
    exact Heap.get?_push_of_some _ e
  have Rr : TxS P w s1.heap s.heap.objs.size [] := by
    rw [← hs1]
    exact fresh_pay
  have Ra1 := Ra.at (h' := s1.heap) fun o e => k1 a o e
  have Rb1 := Rb.at (h' := s1.heap) fun o e => k1 b o e
  -- the loop, for either choice of which one is walked
  have run : ∀ (x y : Addr) (lx ly : List Str) (G : PUnit → Shared → Prop), TxS P w s1.heap x lx → TxS P w s1.heap y ly → x < s.heap.objs.size → y < s.heap.objs.size → lx.length + ly.length < scanBound → x ≠ y →
      (∀ h' lr d tk, (∀ c o, s.heap.get? c = some o → h'.get? c = some o) → TxS P w h' s.heap.objs.size lr → (∀ j, j ∈ lr ↔ j ∈ lx ∧ j ∈ ly) → G PUnit.unit { s with heap := h', drawn := d, toks := tk }) →
      wpAny (model P w) A (do
        let was ← setEpoch y
        for (h, z) in ← setWalkUnseen y [x, s.heap.objs.size] (some s.heap.objs.size) do
          holding [z] do
            if (← setFind x z h).isSome then
              let _ ← setAddHashed s.heap.objs.size z h
          Builtin.Frozenset.unchanged nm y was) G E s1 := by
    intro x y lx ly G Rx Ry hx hy hz hxy g
    obtain ⟨Dy, hoy, py⟩ := id Ry
    refine wpAny_bind (wpAny_setEpoch_of hoy rfl py.tx.fit ?_)
    refine wpAny_bind (tx_unseen hoy py Rr (by decide) (fun c hc => ?_) fun es h2 d2 pm sb R2 => ?_)
    · rcases List.mem_cons.mp hc with rfl | hc
      · exact ⟨lx, Rx⟩
      · rw [List.mem_singleton.mp hc]
        exact ⟨[], Rr⟩
    obtain ⟨ks, pk, mk⟩ := strs_keys (P := P) (w := w) es.toList fun e he => py.strs e (pm.mem_iff.mp he)
    rw [← Array.forIn_toList]
    have hne : ∀ c, c < s.heap.objs.size → s.heap.objs.size ≠ c := fun c hc => Ne.symm (Nat.ne_of_lt hc)
    have k2 : ∀ c o, c < s.heap.objs.size → s1.heap.get? c = some o → h2.get? c = some o := fun c o hc e => by
      rw [sb.2 c (Nat.ne_of_lt hc)]
      exact e
    have hkl : es.toList.length ≤ ly.length := by
      rw [pm.length_eq, Array.length_toList, tx_len py]
      exact Nat.le_refl _
    have hoy2 : h2.get? y = some (PySem.Froz.sObj "set" Dy) := k2 y _ hy hoy
    refine wpAny_bind (tx_fill (r := s.heap.objs.size) (o := x) (lo := lx) (nm := nm) (hne x hx) (hne y hy) py _ (fun e => rfl) es.toList ks pk hoy2 (Rx.at fun o e => k2 x o hx e) R2 (by omega) (by simp only [List.length_nil]; omega) fun h3 l3 tk3 sb3 R3 m3 => ?_)
    refine wpAny_pure ?_
    have fin := g h3 l3 d2 tk3 (fun c o e => by
      have hc := Heap.lt_size e
      rw [sb3.2 c (Nat.ne_of_lt hc)]
      exact k2 c o hc (k1 c o e)) R3 (fun j => by
        rw [m3, mk]
        constructor
        · rintro (z | ⟨⟨e, he, z⟩, y⟩)
          · cases z
          · exact ⟨y, (py.tx.mem j).mpr ⟨e, pm.mem_iff.mp he, z⟩⟩
        · rintro ⟨z, y⟩
          obtain ⟨e, he, v⟩ := (py.tx.mem j).mp y
          exact .inr ⟨⟨e, pm.mem_iff.mpr he, v⟩, z⟩)
    rw [← hs1]
    exact fin
  refine wpAny_bind (wpAny_holding ?_)
  refine wpAny_bind (any_set Rb1 ?_)
  refine wp_if_pos rfl ?_
  refine wpAny_bind (wpAny_pure ?_)
  obtain ⟨Da, hoa, pa⟩ := id Ra1
  obtain ⟨Db, hob, pb⟩ := id Rb1
  unfold Builtin.Frozenset.sizeOf
  refine wpAny_bind (wpAny_bind (wpAny_setEntries_of hob rfl pb.tx.fit (wpAny_pure ?_)))
  refine wpAny_bind (wpAny_bind (wpAny_setEntries_of hoa rfl pa.tx.fit (wpAny_pure ?_)))
  have ha := hlt a la Ra
  have hb := hlt b lb Rb
  by_cases hc : Db.1.size > Da.1.size
  · rw [if_pos hc]
    refine run b a lb la (fun _ s' => wpAny (model P w) A (pure (Value.ref s.heap.objs.size)) Q E s') Rb1 Ra1 hb ha (by omega) (Ne.symm hab) fun h' lr d tk k R m => wpAny_pure (q h' lr d tk k R fun j => by rw [m]; exact And.comm)
  · rw [if_neg hc]
    exact run a b la lb (fun _ s' => wpAny (model P w) A (pure (Value.ref s.heap.objs.size)) Q E s') Ra1 Rb1 ha hb hz hab fun h' lr d tk k R m => wpAny_pure (q h' lr d tk k R m)
/-! ### set(words) -/
/-- the walked texts go into the set at S, one after another -/
theorem tx_update {I S : Addr} {fp wr : List Addr} {G : Array GenState → Array GenState → Prop} {n : Nat} {Pv : Nat → Value → Prop} {St : Nat → Shared → Prop} {R : Result → Shared → Prop} (W : WalksS P w A.in1 I fp wr G n Pv St) (hS : S ∉ fp)
    (xs : List Str) (hv : ∀ i v, Pv i v → ∃ x t, xs[i]? = some x ∧ v = .str x t) (hn : n = xs.length) (hz : n < 4000) : ∀ (k i : Nat) (s : Shared), n - i = k → i ≤ n → St i s → (∃ l, TxS P w s.heap S l ∧ (∀ j, j ∈ l ↔ j ∈ xs.take i) ∧ l.length ≤ i) →
    (∀ s', Moved (S :: wr) G s s' → (∃ l, TxS P w s'.heap S l ∧ (∀ j, j ∈ l ↔ j ∈ xs) ∧ l.length ≤ n) → R (.ok (.ret .none)) s') → codeAny (model P w) A (.builtin "set.update.loop" ⟨[.ref S, .ref I], []⟩) R s := by
  have hSw : S ∉ wr := fun z => hS (W.sub _ z)
  have up : ∀ b ∈ wr, b ∈ S :: wr := fun b z => List.mem_cons_of_mem _ z
  intro k
  induction k with
  | zero =>
    intro i s hk hi hst ⟨l, T, m, ll⟩ fin
    obtain rfl : i = n := by omega
    refine codeAny_builtin PyProof.Rows.F.entry_set_update_loop ?_
    rw [Around.under_plainId PyProof.Rows.F.plain_set_update_loop _]
    show wpAny _ A.in1 (pyNext (.ref I) >>= _) _ _ s
    refine wpAny_bind (W.done s _ _ hst fun s2 mv => ?_)
    rw [hn, List.take_length] at m
    exact wpAny_pure (fin s2 (mv.mono up) ⟨l, T.at fun o e => mv.heap S o hSw e, m, ll⟩)
  | succ k ih =>
    intro i s hk hi hst ⟨l, T, m, ll⟩ fin
    have hlt : i < n := by omega
    refine codeAny_builtin PyProof.Rows.F.entry_set_update_loop ?_
    rw [Around.under_plainId PyProof.Rows.F.plain_set_update_loop _]
    show wpAny _ A.in1 (pyNext (.ref I) >>= _) _ _ s
    refine wpAny_bind (W.item i s _ _ hlt hst fun v s2 hp hst2 mv => ?_)
    obtain ⟨x, t, hx, rfl⟩ := hv i v hp
    have T2 : TxS P w s2.heap S l := T.at fun o e => mv.heap S o hSw e
    show wpAny _ A.in1 (holding [Value.str x t] (setAdd S (.str x t)) >>= _) _ _ s2
    refine wpAny_bind (wpAny_holding ?_)
    unfold setAdd
    refine wpAny_holding (wpAny_bind ((PySem.strKind P w).pyHash (k := x) (PySem.Froz.is_str x t) ?_))
    refine tx_add (s := { s2 with toks := s2.toks + 1 }) (k := x) (u := t) T2 (by show l.length + 1 < 4096; omega) fun h3 l3 sb T3 m3 ll3 b => ?_
    have m4 : ∀ j, j ∈ l3 ↔ j ∈ xs.take (i + 1) := fun j => by
      rw [m3, m, List.take_add_one, hx, List.mem_append]
      simp
    refine wpAny_pure ⟨plainId_quiet PyProof.Rows.F.plain_set_update_loop _, ih (i + 1) _ (by omega) hlt (W.frame _ s2 _ _ hst2 (Nat.le_succ _) fun c hc o e => ?_) ⟨l3, T3, m4, by omega⟩ fun s4 mv4 R4 => ?_⟩
    · rw [sb.2 c fun z => hS (z ▸ hc)]
      exact e
    · refine fin s4 (Moved.trans W.gtrans ((mv.mono up).then_heap (Nat.le_succ _) fun c o hc e => ?_) mv4) R4
      rw [sb.2 c fun z => hc (by rw [z]; exact List.mem_cons_self)]
      exact e
abbrev newS (w : World) : Obj := { cls := .type "set", dict := none, data := .set #[] 0 (.fresh 0 0 (!w.params.followText "set-order")) }
set_option maxHeartbeats 8000000 in
theorem tx_of_list {p : Addr} {its : Array Value} {xs : List Str} {Q : Value → Shared → Prop} (hh : A.handled = none) (hp : s.heap.IsList p its) (hx : ∀ (i : Nat) (v : Value), its[i]? = some v → ∃ (x : Str) (t : Tok), xs[i]? = some x ∧ v = Value.str x t) (hn : its.size = xs.length) (hz : its.size < 4000)
    (q : ∀ h' tk l, TxS P w h' s.heap.objs.size l → (∀ j, j ∈ l ↔ j ∈ xs) → l.length ≤ xs.length → (∀ b o, s.heap.get? b = some o → h'.get? b = some o) → Q (.ref s.heap.objs.size) { s with heap := h', toks := tk }) : wpAny (model P w) A (call (.type "set") [.ref p]) Q E s := by
  obtain ⟨c0, tl0, hmro⟩ := F.called_set.mro
  have f1 := F.called_set.made; have f2 := F.called_set.sub; have f3 := F.called_set.notType; have f4 := F.called_set.canCreate; have f5 := F.typeCall_set_1 (.ref p)
  refine wpAny_call (codeAny_of_tree ?_)
  show wpAny _ _ (callAny (.type "set") _) _ _ _
  refine wpAny_pure ⟨Code.quiet_builtin _ (by decide +kernel), codeAny_builtin F.entry_type_call ?_⟩
  rw [Around.under_plain (weight_type_call_type "set" [.ref p] []) rfl]
  repeat any_goals (first | assumption | wp_step)
  refine codeAny_mono (code_set_led1 (.ref p) (E := E) (Q₁ := fun ob s1 => ob = .ref s.heap.objs.size ∧ s1 = { s with heap := s.heap.push (newS w) }) ⟨rfl, rfl⟩) fun r s1 hr => ?_
  cases r with
  | error e => exact hr
  | ok fl => cases fl with
    | next => exact hr.elim
    | brk => exact hr.elim
    | cont => exact hr.elim
    | ret ob =>
      obtain ⟨rfl, rfl⟩ := hr
      have hS : (s.heap.push (newS w)).get? s.heap.objs.size = some (newS w) := Heap.get?_push_size _ rfl
      have hT : Shared.TypeIs { s with heap := s.heap.push (newS w) } (.ref s.heap.objs.size) "set" := ⟨_, hS, rfl⟩
      have g1 := F.called_set.init.lookup; have g2 := F.called_set.init.bind (.ref s.heap.objs.size)
      repeat any_goals (first | assumption | wp_step)
      refine codeAny_mono (codeAny_call_builtin (R := wants (fun r s2 => r = .none ∧ ∃ h' tk l, s2 = { s with heap := h', toks := tk } ∧ TxS P w h' s.heap.objs.size l ∧ (∀ j, j ∈ l ↔ j ∈ xs) ∧ l.length ≤ xs.length ∧ (∀ b o, s.heap.get? b = some o → h'.get? b = some o)) E) F.called_set.init.plain F.entry_set_init (check_set_init_1 hT ?_)) fun r2 s2 hr2 => ?_
      · obtain ⟨⟨oc, od, odt, osl⟩, ho, hc, n0, hd⟩ := hp
        simp only at hc hd
        subst hc; subst hd
        have ho' : (s.heap.push (newS w)).get? p = some { cls := .type "list", dict := od, data := .seq its n0, slots := osl } := Heap.get?_push_of_some _ ho
        have e1 := F.sub_list_set; have e2 := F.sub_list_frozenset
        have e3 : (Value.type "list" == Value.type "dict") = false := by decide
        have hl : (s.heap.push (newS w)).IsList p its := ⟨_, ho', rfl, n0, rfl⟩
        have hps : p < s.heap.objs.size := Heap.lt_size ho
        have hz1 : (s.heap.push (newS w)).objs.size = s.heap.objs.size + 1 := Heap.size_push ..
        unfold Builtin.«set.__init__» noKeywords Builtin.Frozenset.updateFrom
        generalize hPI : pyIter = PI
        wp_walk
        subst hPI
        refine wpAny_pyIter_list hl (wpAny_bind (wpAny_runValue ?_))
        have hh3 : A.in1.in1.in1.handled = none := by simp [hh]
        have n1 : p ≠ (s.heap.push (newS w)).objs.size := by
          rw [hz1]
          exact Nat.ne_of_lt (Nat.lt_succ_of_lt hps)
        have n2 : s.heap.objs.size ∉ [(s.heap.push (newS w)).objs.size, p] := fun z => by
          rcases List.mem_cons.mp z with z | z
          · rw [hz1] at z
            exact Nat.ne_of_lt (Nat.lt_succ_self _) z
          · exact Nat.ne_of_gt hps (List.mem_singleton.mp z)
        refine tx_update ((Walks.list hh3 _ p n1 its).toS) n2 xs hx hn hz (its.size - 0) 0 _ (by omega) (Nat.zero_le _) ⟨⟨_, Heap.get?_push_size _ rfl, rfl, rfl⟩, hl.push _⟩
          ⟨[], (fresh_pay (P := P) (w := w) (h := s.heap)).at fun o e => Heap.get?_push_of_some _ e, fun j => by simp, Nat.le_refl _⟩ fun s3 mv ⟨l, T, m, ll⟩ => ?_
        obtain ⟨h3, gg, dd, tk, oo⟩ := s3
        obtain rfl : gg = s.gens := mv.gens
        obtain rfl : dd = s.drawn := mv.drawn
        obtain rfl : oo = s.os := mv.os
        refine wpAny_pure ?_
        show wpAny _ _ (ret Value.none) _ _ _
        refine wpAny_pure ⟨rfl, h3, tk, l, rfl, T, m, by omega, fun b o e => ?_⟩
        have hb := Heap.lt_size e
        refine mv.heap b o (fun z => ?_) (Heap.get?_push_of_some _ (Heap.get?_push_of_some _ e))
        rcases List.mem_cons.mp z with z | z
        · exact Nat.ne_of_lt hb z
        · rw [List.mem_singleton.mp z, hz1] at hb
          exact absurd hb (Nat.not_lt_of_le (Nat.le_succ _))
      · cases r2 with
        | error e => exact hr2
        | ok fl2 => cases fl2 with
          | next => exact hr2.elim
          | brk => exact hr2.elim
          | cont => exact hr2.elim
          | ret r =>
            obtain ⟨rfl, h', tk, l, rfl, T, m, ll, k⟩ := hr2
            repeat any_goals (first | assumption | wp_step)
            exact q _ _ _ T m ll k
end
end MuSet

namespace MuSet
open PySem PySem.Spec PyProof.Rows L2
section
variable {P : Program} {w : World} {A : Around} {E : Value → Shared → Prop} {s : Shared} {h h' : Heap} {a : Addr} {l l' : List Str}
/-! ### sorted(set), len(set) -/
/-- a list as long as one without repetition that has the same members has none either -/
theorem nodup_of_len : ∀ {α : Type} [DecidableEq α] {l xs : List α}, l.Nodup → (∀ j, j ∈ xs ↔ j ∈ l) → xs.length ≤ l.length → xs.Nodup := by
  intro α _ l
  induction l with
  | nil =>
    intro xs _ m _
    cases xs with
    | nil => exact List.nodup_nil
    | cons x r => exact absurd ((m x).mp List.mem_cons_self) (by simp)
  | cons y l ih =>
    intro xs nd m ll
    obtain ⟨n1, n2⟩ := List.nodup_cons.mp nd
    have hy : y ∈ xs := (m y).mpr List.mem_cons_self
    have pm := List.perm_cons_erase hy
    have hl : (xs.erase y).length + 1 = xs.length := by
      rw [pm.length_eq]
      rfl
    -- what is left without every y
    have sub : ∀ j, j ∈ (xs.filter (fun z => decide (z ≠ y))) ↔ j ∈ l := fun j => by
      rw [List.mem_filter, m, List.mem_cons, decide_eq_true_eq]
      constructor
      · rintro ⟨z | z, h⟩
        · exact absurd z h
        · exact z
      · intro z
        exact ⟨.inr z, fun e => n1 (e ▸ z)⟩
    have fl : (xs.filter (fun z => decide (z ≠ y))).length ≤ (xs.erase y).length := by
      have e1 : (xs.filter (fun z => decide (z ≠ y))).Perm ((y :: xs.erase y).filter (fun z => decide (z ≠ y))) := pm.filter _
      rw [e1.length_eq, List.filter_cons, if_neg (by simp)]
      exact List.length_filter_le _ _
    have hll : xs.length ≤ l.length + 1 := ll
    have nd2 := ih n2 sub (by omega)
    have fe : (xs.filter (fun z => decide (z ≠ y))).length = l.length := ((List.perm_ext_iff_of_nodup nd2 n2).mpr sub).length_eq
    have e2 : (xs.erase y).filter (fun z => decide (z ≠ y)) = xs.erase y := by
      have e1 : (xs.filter (fun z => decide (z ≠ y))).Perm ((y :: xs.erase y).filter (fun z => decide (z ≠ y))) := pm.filter _
      rw [List.filter_cons, if_neg (by simp)] at e1
      have q := e1.length_eq
      exact List.filter_eq_self.mpr (List.length_filter_eq_length_iff.mp (by
        have := List.length_filter_le (fun z => decide (z ≠ y)) (xs.erase y)
        omega))
    have ye : y ∉ xs.erase y := fun z => by
      rw [← e2, List.mem_filter] at z
      simp at z
    refine pm.nodup_iff.mpr (List.nodup_cons.mpr ⟨ye, ?_⟩)
    have e1 : (xs.filter (fun z => decide (z ≠ y))).Perm ((y :: xs.erase y).filter (fun z => decide (z ≠ y))) := pm.filter _
    rw [List.filter_cons, if_neg (by simp), e2] at e1
    exact e1.nodup_iff.mp nd2
theorem tx_sorted {Q : Value → Shared → Prop} (R : TxS P w s.heap a l) (hh : A.handled = none) (h64 : l.length < 64)
    (q : ∀ s2 p (out : Array Value) (c : Nat) (ys : List Str), (∀ b o, s.heap.get? b = some o → s2.heap.get? b = some o) → s2.gens = s.gens → s2.os = s.os → s.heap.objs.size ≤ p → s2.heap.get? p = some (seqObj "list" out c) →
      StrsAre out.toList ys → sortedS ys = true → ys.Nodup → (∀ j, j ∈ ys ↔ j ∈ l) → Q (.ref p) s2) : wpAny (model P w) A (call (.builtin "sorted") [.ref a]) Q E s := by
  obtain ⟨⟨es, ep, t⟩, ho, p⟩ := R
  have hsz : es.size = l.length := p.tx.sz
  refine Calls.call_function_entry kind_sorted plain_sorted entry_sorted (args_sorted1 _) ?_
  unfold Builtin.«sorted»
  refine wpAny_bind (m := checkCount "sorted" 1 1 _) (wpAny_pure ?_)
  refine wpAny_bind (collect_set (A := A.in1) hh ⟨_, ho, rfl, rfl⟩ p.tx.fit (by show es.size < 4096; omega) p.ris p.led fun s1 vs k1 hz g1 o1 pm => ?_)
  have hvl : vs.length = l.length := by
    rw [pm.length_eq, List.length_map, Array.length_toList]
    exact hsz
  have vstr : ∀ v ∈ vs, ∃ x t, v = Value.str x t := fun v hv => by
    obtain ⟨e, he, z⟩ := List.mem_map.mp (pm.mem_iff.mp hv)
    obtain ⟨k, tk, rfl⟩ := p.strs e he
    exact ⟨k, tk, z.symm⟩
  have hI : StrsAre vs (vs.map strOf) := strsAre_map vs vstr
  refine wpAny_bind (wpAny_newList ?_ (by rw [hvl, sizeLine_eq]; omega))
  have hoL : (s1.heap.push (seqObj "list" vs.toArray 0)).get? s1.heap.objs.size = some (seqObj "list" vs.toArray 0) := Heap.get?_push_size _ rfl
  refine wpAny_bind (wpAny_holding (wpAny_call_entry slot_list_sort ⟨_, hoL, rfl⟩ entry_list_sort (list_sort_treeKAny strKind_oneLt hoL hI.keysOf (fun v1 v2 rest e => keyKind_strs (by rw [← e]; exact hI)) (by rw [hvl, sizeLine_eq]; omega) fun st hp hs => ⟨_, rfl, ?_⟩) (args_list_sort _)))
  obtain ⟨ys, h1, h2, h3⟩ := sorted_out_str hI hp hs
  obtain ⟨c, hc⟩ := sortedHeap_at (vs := vs) (out := (arrOf st).map (·.2)) hoL
  have memk : ∀ j, j ∈ vs.map strOf ↔ j ∈ l := fun j => by
    rw [p.tx.mem j, List.mem_map]
    constructor
    · rintro ⟨v, hv, z⟩
      obtain ⟨e, he, y⟩ := List.mem_map.mp (pm.mem_iff.mp hv)
      obtain ⟨k, tk, rfl⟩ := p.strs e he
      refine ⟨_, he, ?_⟩
      rw [← z, ← y]
      exact PySem.Froz.is_str k tk
    · rintro ⟨e, he, z⟩
      obtain ⟨k, tk, rfl⟩ := p.strs e he
      refine ⟨.str k tk, pm.mem_iff.mpr (List.mem_map.mpr ⟨_, he, rfl⟩), ?_⟩
      exact (PySem.strKind P w).inj (.str k tk) k j (PySem.Froz.is_str k tk) z
  have hnd : (vs.map strOf).Nodup := by
    refine nodup_of_len (l := l) p.nd (fun j => memk j) ?_
    rw [List.length_map, hvl]
    exact Nat.le_refl _
  refine wpAny_pure ⟨_, rfl, q _ s1.heap.objs.size _ c ys (fun b u e => ?_) g1 o1 hz hc h1 h3 (h2.nodup_iff.mpr hnd) (fun j => by rw [h2.mem_iff, memk])⟩
  have z := k1 b u e
  have hlt := Heap.lt_size z
  show (sortedHeap (s1.heap.push (seqObj "list" vs.toArray 0)) s1.heap.objs.size vs _).get? b = some u
  rw [sortedHeap_old (Nat.ne_of_lt hlt) (by rw [size_push']; exact Nat.lt_succ_of_lt hlt)]
  exact Heap.get?_push_of_some _ z
end
/-! ### the same for the layer: a set of texts in the abstract heap -/
def SetTx (P : Program) (w : World) (a : Addr) (l : List Str) : HO := .ext fun h => TxS P w h a l
theorem setTx_new {P : Program} {w : World} {H : Hp} {h : Heap} {a : Addr} {l : List Str} (R : TxS P w h a l) : ObjOk P w H h a (SetTx P w a l) := by
  have ⟨D, ho, _⟩ := R
  exact ⟨R, ⟨_, ho⟩, fun h1 h2 p k => TxS.at p k⟩
section
variable {X : Cx} {pins : List (Addr × Obj)} {σ : L2.St} {H : Hp} {s : Shared} {a : Addr} {l : List Str}
theorem setTx_get (I : Inv X pins σ H s) (ha : H a = some (SetTx X.prog X.w a l)) : TxS X.prog X.w s.heap a l := (I.hok a _ ha).1
/-- set(words) -/
def rSetTx (K : PySem.W.Frag) (P : Program) (w : World) : List V → Hp → VK → Prop := fun vs H Q => ∃ (p : Addr) (xs : List Str), vs = [.ref p] ∧ SqL K H p (xs.map V.str) ∧ xs.length < 4000 ∧
  ∀ a l, H a = none → l.Nodup → (∀ j, j ∈ l ↔ j ∈ xs) → l.length ≤ xs.length → Q (.ref a) (upd H a (SetTx P w a l))
theorem cr_setTx (hc : X.calm = true) : CallR X (.type "set") (rSetTx X.K X.prog X.w) := by
  intro pins s σ H vs us Q I r h
  obtain ⟨p, xs, rfl, hs, hz, q⟩ := h
  obtain ⟨its, rv, hl, _⟩ := I.list hs
  rw [Vals.ref1 r]
  have hlen := rv.length
  rw [List.length_map] at hlen
  refine tx_of_list (xs := xs) (I.ok.hd hc) hl.isList (fun i v hv => ?_) (by simpa using hlen.symm) (by simpa using (by omega : its.length < 4000)) fun h' tk l T m ll k => ?_
  · have hi : i < xs.length := by
      have := (Array.getElem?_eq_some_iff.mp hv).1
      simp at this
      omega
    have e1 : (xs.map V.str)[i]? = some (V.str xs[i]) := by
      rw [List.getElem?_map, List.getElem?_eq_getElem hi]
      rfl
    obtain ⟨u, hu, t, rfl⟩ := rv.get e1
    have e2 : its[i]? = some v := by simpa using hv
    rw [hu] at e2
    exact ⟨xs[i], t, List.getElem?_eq_getElem hi, (Option.some.inj e2).symm⟩
  · have ⟨D, _, p⟩ := T
    exact ⟨.ref _, upd H s.heap.objs.size (SetTx X.prog X.w s.heap.objs.size l), I.laid (t' := tk) k (Nat.le_refl _) (setTx_new T), rfl, q _ l (I.hok.fresh (Nat.le_refl _)) p.nd m ll⟩
/-- one & other -/
def rAndTx (P : Program) (w : World) : R2 := fun x y H Q => ∃ (a b : Addr) (la lb : List Str), x = .ref a ∧ y = .ref b ∧ H a = some (SetTx P w a la) ∧ H b = some (SetTx P w b lb) ∧ a ≠ b ∧ la.length + lb.length < 4000 ∧
  ∀ c lc, H c = none → lc.Nodup → (∀ j, j ∈ lc ↔ j ∈ la ∧ j ∈ lb) → Q (.ref c) (upd H c (SetTx P w c lc))
theorem entry_set_and : entryFor table "set.__and__" = some Builtin.«frozenset.__and__» := entryFor_alias (id' := "frozenset.__and__") (by kernel_rfl) rfl (by decide +kernel) (by kernel_rfl)
theorem op_andTx : OpR X (binaryOp .BitAnd) (rAndTx X.prog X.w) := by
  intro pins s σ H x y v u Q I rx ry h
  obtain ⟨a, b, la, lb, rfl, rfl, ha, hb, hab, hz, q⟩ := h
  obtain rfl : v = Value.ref a := rx
  obtain rfl : u = Value.ref b := ry
  have Ra := setTx_get I ha
  have Rb := setTx_get I hb
  refine wpAny_binaryOp_same (tx_type Ra) (tx_type Rb) F.fills_set_and F.slot_set_and ?_
  refine wpAny_call_entry F.slot_set_and (tx_type Ra) entry_set_and ?_ (F.args_set_and_2 _ _)
  unfold Builtin.«frozenset.__and__»
  refine wpAny_bind (m := Builtin.Frozenset.slot1 "__and__" _) (wpAny_of_eq (a := (.ref a, .ref b)) (by rfl) ?_)
  refine wpAny_bind (wpAny_bind (any_set Ra ?_))
  refine any_set Rb ?_
  refine wp_if_neg (by simp) ?_
  refine wpAny_bind (m := Builtin.Frozenset.addrOf _) (wpAny_pure ?_)
  refine wpAny_bind (tx_and Ra Rb hab (by show la.length + lb.length < 4096; omega) fun h' lr d tk k R m => ?_)
  refine wpAny_pure ⟨_, rfl, ?_⟩
  have hn : H s.heap.objs.size = none := I.hok.fresh (Nat.le_refl _)
  have ⟨D, _, p⟩ := R
  refine ⟨fun z => (by cases z), .ref _, upd H s.heap.objs.size (SetTx X.prog X.w s.heap.objs.size lr), ?_, rfl, q _ lr hn p.nd m⟩
  exact I.call (ch := []) (Un.laid k (Nat.le_refl _) hn) (I.hok.laid k (Nat.le_refl _) (setTx_new R)) I.bare (fun _ z => nomatch z)
/-- sorted(set) -/
def rSortedTx (P : Program) (w : World) : List V → Hp → VK → Prop := fun vs H Q => ∃ (a : Addr) (l : List Str), vs = [.ref a] ∧ H a = some (SetTx P w a l) ∧ l.length < 64 ∧
  ∀ p ys, H p = none → sortedS ys = true → ys.Nodup → (∀ j, j ∈ ys ↔ j ∈ l) → Q (.ref p) (upd H p (.lst (ys.map V.str)))
theorem cr_sortedTx (hc : X.calm = true) : CallR X (.builtin "sorted") (rSortedTx X.prog X.w) := by
  intro pins s σ H vs us Q I r h
  obtain ⟨a, l, rfl, ha, h64, q⟩ := h
  have R := setTx_get I ha
  rw [Vals.ref1 r]
  refine tx_sorted R (I.ok.hd hc) h64 fun s2 p out c ys k g o hp hg hi hs hnd hm => ?_
  have hn : H p = none := I.hok.fresh hp
  have rv : Vals (ys.map V.str) out.toList := vals_of_strs hi
  have hlen : (ys.map V.str).length ≤ sizeLine := by
    have e : ys.length = l.length := by
      have ⟨D, _, pp⟩ := R
      exact ((List.perm_ext_iff_of_nodup hnd pp.nd).mpr hm).length_eq
    rw [List.length_map, e, sizeLine_eq]
    omega
  have J : Inv X pins σ (upd H p (.lst (ys.map V.str))) { s with heap := s2.heap, gens := s2.gens, drawn := s2.drawn, toks := s2.toks } :=
    I.call (ch := []) (Un.laid k hp hn) (I.hok.laid k hp ⟨hlen, out.toList, c, rv, hg⟩) (by rw [g]; exact I.bare) (fun _ z => nomatch z)
  have e : s2 = { s with heap := s2.heap, gens := s2.gens, drawn := s2.drawn, toks := s2.toks } := by
    obtain ⟨_, _, _, _, _⟩ := s2
    obtain rfl : _ = s.os := o
    rfl
  rw [e]
  exact ⟨.ref p, _, J, rfl, q p ys hn hs hnd hm⟩
/-- len(set) -/
def rLenTx (P : Program) (w : World) : List V → Hp → VK → Prop := fun vs H Q => ∃ (a : Addr) (l : List Str), vs = [.ref a] ∧ H a = some (SetTx P w a l) ∧ l.length < 4000 ∧ Q (.int l.length) H
theorem cr_lenTx : CallR X (.builtin "len") (rLenTx X.prog X.w) := by
  intro pins s σ H vs us Q I r h
  obtain ⟨a, l, rfl, ha, hz, q⟩ := h
  obtain ⟨D, ho, p⟩ := setTx_get I ha
  rw [Vals.ref1 r]
  have hsz : D.1.size = l.length := p.tx.sz
  exact call_len_set ho ⟨rfl, rfl, rfl⟩ rfl p.tx.fit (by rw [hsz]; omega) ⟨.int l.length, H, I.tok _, ⟨_, by rw [hsz]⟩, q⟩
end
end MuSet

namespace MuGen
open PySem PySem.Spec PyProof.Rows L2
/-- the table of a code object, tracked without what it holds -/
def TabO (P : Addr) : HO := .ext fun h => ∃ ps : Array Value,
  h.get? P = some { cls := .none, data := .fields ps } ∧ TriplesOk ps.toList
section
variable {X : Cx} {pins : List (Addr × Obj)} {σ : L2.St} {H : Hp} {s : Shared}
theorem tab_get {P : Addr} (I : Inv X pins σ H s) (h : H P = some (TabO P)) :
    ∃ ps : Array Value, s.heap.get? P = some { cls := .none, data := .fields ps } ∧ TriplesOk ps.toList :=
  (I.hok P _ h).1
/-- the table is another one, all else that stood stands -/
theorem inv_grown {P : Addr} {ps : Array Value} {hn : Heap} {gn : Array GenState} {dn : Drawn} {tn : Nat}
    (I : Inv X pins σ H s) (hP : H P = some (TabO P))
    (k : ∀ b o, b ≠ P → s.heap.get? b = some o → hn.get? b = some o)
    (hm : hn.get? P = some { cls := .none, data := .fields ps }) (ht : TriplesOk ps.toList)
    (hg : AllBare gn) : Inv X pins σ H { s with heap := hn, gens := gn, drawn := dn, toks := tn } := by
  have off : ∀ b, H b = none → b ≠ P := fun b e z => by
    rw [z, hP] at e
    exact nomatch e
  have off2 : ∀ b u, H b = some u → u ≠ TabO P → b ≠ P := fun b u e n z => by
    rw [z, hP] at e
    exact n (Option.some.inj e).symm
  refine I.step (g' := gn) (d' := dn) (t' := tn) (ch := []) (fun b z => nomatch z)
    (fun b o _ _ _ e n => k b o (off b n) e) (fun b o _ _ _ e n => ⟨o.slots, k b o (off b n) e⟩)
    (fun _ _ _ _ n => n) (fun b o _ e => ?_) (fun _ _ e => e) (fun _ _ _ e => e)
    (fun b qs e => ⟨#[], by rw [Array.append_empty]; exact e⟩) (fun m q => ?_) (fun b u e => ?_) hg
  · rcases Decidable.em (b = P) with z | z
    · exact ⟨_, z ▸ hm⟩
    · exact ⟨o, k b o z e⟩
  · have ⟨ob, es, ep, ho, r⟩ := q
    exact ⟨ob, es, ep, k _ ob (off _ I.free) ho, r⟩
  · rcases Decidable.em (b = P) with z | z
    · subst z
      rw [hP] at e
      obtain rfl := Option.some.inj e
      exact ⟨⟨ps, hm, ht⟩, ⟨_, hm⟩, fun h1 h2 ⟨qs, a1, a2⟩ a3 => ⟨qs, a3 _ a1, a2⟩⟩
    · refine (I.hok b u e).stay (fun d v hd q => k d v ?_ q) (fun _ q => q) fun _ _ q => q
      rcases hd with y | y
      · exact y ▸ z
      · exact off2 d _ y (fun t => nomatch t)
/-- what is known where the element is told -/
structure Here (X : Cx) (P : Addr) (scope : Scope) (s1 s2 : Shared) (e : Env) : Prop where
  sc : e.scope = scope
  cl : e.cells = cloFrom X.env.cells scope.names []
  gl : e.globals = X.env.globals
  bl : e.builtins = builtinsNs
  kept : ∀ b o, b ≠ P → s1.heap.get? b = some o → s2.heap.get? b = some o
/-- the element, of the thing v -/
def Elt (X : Cx) (P : Addr) (scope : Scope) (x : Str) (elt : Expr) (s1 : Shared) (F : Value → Prop) (v : Value) : Prop :=
  ∀ (e : Env) (B : Around) (E : Value → Shared → Prop) (s2 : Shared) (m : Str → Option Value),
    Here X P scope s1 s2 e → B.handled = none → s2.heap.Ns e.locals m → m x = some v →
    wpAny (model X.prog X.w) B (eval elt e) (fun y s3 => F y ∧ Keeps s2 s3) E s2
/-- what is walked: n things, of which Pf speaks -/
def IterTo (X : Cx) (P : Addr) (n : Nat) (Pf : Nat → Value → Prop) (xv : Value) (s1 : Shared) : Prop :=
  ∀ Q : Value → Shared → Prop,
    (∀ (o : Obj) (fp : List Addr) (St : Nat → Heap → Prop),
      (∀ B : Around, B.handled = none → Walks X.prog X.w B s1.heap.objs.size fp [s1.heap.objs.size] n Pf St) →
      St 0 (s1.heap.push o) → (∀ b ∈ fp, b < s1.heap.objs.size + 1 ∧ b ≠ P) →
      Q (.ref s1.heap.objs.size) { s1 with heap := s1.heap.push o }) →
    wpAny (model X.prog X.w) X.A (pyIter xv) Q X.xe s1
/-- the generator stands ready, as it is walked all that was held is held -/
def Ready (X : Cx) (pins : List (Addr × Obj)) (σ : L2.St) (H1 : Hp) (n : Nat) (F : Nat → Value → Prop) (g : Addr) (s5 : Shared) : Prop :=
  ∃ (fp wr : List Addr) (G : Array GenState → Array GenState → Prop) (F' : Nat → Value → Prop) (St : Nat → Shared → Prop),
    WalksS X.prog X.w X.A.in1 g fp wr G n F' St ∧ St 0 s5 ∧ (∀ b ∈ fp, b < s5.heap.objs.size) ∧ (∀ j v, F' j v → j < n ∧ F j v) ∧
    ∀ s6, Moved wr G s5 s6 → Inv X pins σ H1 s6
theorem told {p : Program} {w : World} {B : Around} {i : Addr} {fp wr : List Addr} {n : Nat} {F F' : Nat → Value → Prop} {St : Nat → Heap → Prop}
    (W : Walks p w B i fp wr n F St) (h : ∀ j v, F j v → F' j v) : Walks p w B i fp wr n F' St where
  sub := W.sub
  frame := W.frame
  done := W.done
  self := W.self
  item := fun j s Q E lt st q => W.item j s Q E lt st fun v h' tk y => q v h' tk (h j v y)
theorem one_mem {a b : Addr} (h : a ∈ [b]) : a = b := List.mem_singleton.mp h
/-- the code object of the expression, made here or found -/
theorem code_any {c P : Addr} {ps : Array Value} {scope : Scope} {gpos : Pos} {qn : Str} {Q : Value → Shared → Prop} {E : Value → Shared → Prop} {B : Around}
    {s1 : Shared} (hcode : X.env.code = .ref c) (cd : PySem.W.CodeHd s1.heap c P)
    (e0 : s1.heap.get? P = some { cls := .none, data := .fields ps }) (ht : TriplesOk ps.toList)
    (h : ∀ (code : Value) (h3 : Heap) (tk : Nat) (qs : Array Value), Heap.ExtBut P s1.heap h3 → s1.heap.objs.size ≤ h3.objs.size →
      h3.get? P = some { cls := .none, data := .fields qs } → TriplesOk qs.toList → Q code { s1 with heap := h3, toks := tk }) :
    wpAny (model X.prog X.w) B (genexprCode X.env gpos qn scope) Q E s1 := by
  cases found : codeAmong gpos ps.toList with
  | some cv =>
    refine wpAny_genexprCode_hit hcode (cd.code e0 ht) found ?_
    exact h cv s1.heap s1.toks ps (Heap.ExtBut.refl _ _) (Nat.le_refl _) e0 ht
  | none =>
    refine wpAny_genexprCodeX hcode (cd.code e0 ht) (cd.tab e0) found ?_
    intro c' h' tk hx hge hlt hco _ htab _
    have ⟨o1, vs, f1, tf, fl, tg, inF, tx, tt, op, _, _, _, _, _, _, _, _, _, htr, _⟩ := hco
    exact h _ h' tk _ hx (Nat.le_trans hge (Nat.le_of_lt hlt)) htab.2 htr
theorem gen_any {c P : Addr} {elt iter : Expr} {x : Str} {px gpos : Pos} {scope : Scope} {te : TE} {k : Nat}
    {Q' : Value → Shared → Prop} {R : V → Hp → Prop} (hr : Room k X.A) (TB : GxR.TabB X.base X.mg c P)
    (hcode : X.env.code = .ref c) (S : GxR.GenS X.env scope x) (hi : PE X iter te)
    (hs : ∀ v, genFold iter X.env v = pure v) (I : Inv X pins σ H s)
    (h : te σ H fun v H1 => H1 P = some (TabO P) ∧ R v H1)
    (hit : ∀ v H1 xv s1, Inv X pins σ H1 s1 → RelV v xv → H1 P = some (TabO P) → R v H1 → ∃ n Pf F, IterTo X P n Pf xv s1 ∧
      (∀ i u, Pf i u → Elt X P scope x elt s1 (F i) u) ∧ ∀ g s5, Ready X pins σ H1 n F g s5 → Q' (.ref g) s5) :
    wpAny (model X.prog X.w) X.A (eval (.GeneratorExp elt [⟨.Name x px, iter, [], 0⟩] scope gpos) X.env) Q' X.xe s := by
  have room : X.A.depth < recursionLimit := by
    have := hr.dp
    omega
  refine wpAny_GeneratorExp_walksQ hr.hd S.co (closure_ok S.free) S.cell S.dot S.loc S.kind room ?_ hs
  refine thn (hi.run pins s σ H _ I h) fun xv s1 ⟨v, H1, I1, rv, hP, q1⟩ => ?_
  obtain ⟨n, Pf, F, it, hel, hQ⟩ := hit v H1 xv s1 I1 rv hP q1
  refine it _ fun o fp0 St0 W0 hst0 hfp0 => ?_
  obtain ⟨ps, e0, ht⟩ := tab_get I1 hP
  have up : ∀ b u, s1.heap.get? b = some u → (s1.heap.push o).get? b = some u := fun b u e => Heap.get?_push_of_some _ e
  have zpush : (s1.heap.push o).objs.size = s1.heap.objs.size + 1 := Heap.size_push ..
  have cd : PySem.W.CodeHd (s1.heap.push o) c P := TB.code.keeps fun b u e => up b u (I1.bk b u e)
  have stP : cStatics ≠ P := fun e => by
    have ⟨_, y, _⟩ := I1.nolimit
    obtain ⟨o1, es, ep, y1, y2, _⟩ := y
    rw [e, e0] at y1
    cases y1
    exact nomatch y2
  have stz : cStatics ≠ s1.heap.objs.size := by
    have ⟨_, y, _⟩ := I1.nolimit
    exact Nat.ne_of_lt y.lt
  refine ⟨I1.nolimit.push o, ?_⟩
  refine code_any hcode cd (up P _ e0) ht fun code h3 tk qs hx3 h3z hP3 ht3 => ?_
  have keep3 : ∀ b u, b ≠ P → s1.heap.get? b = some u → h3.get? b = some u := fun b u y e => hx3 b u y (up b u e)
  obtain ⟨bm, ob, e1, e2, e3, e4, e5, e6, e7, e8⟩ := TB.bm
  have ns3 : h3.Ns X.env.globals X.mg := by
    rw [I1.ok.glob]
    exact ((I1.mod.glob.keeps I1.bk).push o).extBut hx3 TB.gP
  refine wpAny_builtinsFor (m := X.mg) ns3 e1 e2 (keep3 _ _ e4 (I1.bk _ _ e5)) e6 e7 e8 ?_
  refine ⟨s1.heap.objs.size, fp0, [s1.heap.objs.size], n, Pf, St0, fun _ => true, F, rfl, W0, ?_, ?_, ?_, ?_, ?_, ?_⟩
  · exact (W0 X.A hr.hd).frame _ _ _ hst0 fun b hb u e => hx3 b u (hfp0 b hb).2 e
  · exact fun b hb => Nat.lt_of_lt_of_le (hfp0 b hb).1 (zpush ▸ h3z)
  · exact (I1.nolimit.push o).extBut hx3 stP
  · exact fun y => stz (one_mem y)
  · intro hx hall
    refine ⟨fun B E i v s2 m _ _ _ _ _ => ?_, fun B E i v s2 m hB hv _ hn hm hk => ?_⟩
    · simp only [List.forIn_nil]
      exact wpAny_pure ⟨rfl, GxR.keeps_refl _⟩
    · refine hel i v hv _ B E s2 m ⟨rfl, rfl, rfl, rfl, fun b u y e => ?_⟩ hB hn hm
      have e3 := keep3 b u y e
      have bz := Heap.lt_size e
      exact hk b (List.mem_range.mpr (Heap.lt_size e3)) (fun w => Nat.ne_of_lt bz (one_mem w)) u (hall b u e3)
  · intro g h5 t5 gs bare glt gsz hk5 W5 at5
    simp only [GxR.passing_true, List.length_range] at W5
    have h13 : s1.heap.objs.size < h3.objs.size := by
      have := zpush ▸ h3z
      omega
    refine hQ g _ ⟨_, _, _, _, _, W5.in4_1, at5, ?_, ?_, fun s6 hm => ?_⟩
    · intro b hb
      show b < h5.objs.size
      rw [gsz]
      rcases List.mem_cons.mp hb with w | w
      · rw [w]
        exact Nat.lt_succ_self g
      · rcases List.mem_cons.mp w with w | w
        · rw [w]
          exact Nat.lt_succ_of_lt glt
        · exact Nat.lt_succ_of_lt (Nat.lt_trans (List.mem_range.mp w) glt)
    · rintro j v ⟨i, hij, hv⟩
      obtain ⟨hj, ej⟩ := List.getElem?_eq_some_iff.mp hij
      rw [List.getElem_range] at ej
      rw [List.length_range] at hj
      exact ⟨hj, ej ▸ hv⟩
    · have away : ∀ b u, s1.heap.get? b = some u → b ∉ h3.objs.size :: [s1.heap.objs.size] := fun b u e w => by
        have bl := Heap.lt_size e
        rcases List.mem_cons.mp w with y | y
        · rw [y] at bl
          exact Nat.lt_asymm h13 bl
        · rw [one_mem y] at bl
          exact Nat.lt_irrefl _ bl
      have J := inv_grown (hn := s6.heap) (gn := s6.gens) (dn := s6.drawn) (tn := s6.toks) I1 hP
        (fun b u y e => hm.heap b u (away b u e) (hk5 b u (keep3 b u y e)))
        (hm.heap P _ (away P _ e0) (hk5 P _ hP3)) ht3 (AllBare.movedS (I1.bare.push bare) hm)
      have same : s6 = { s1 with heap := s6.heap, gens := s6.gens, drawn := s6.drawn, toks := s6.toks } := by
        have y : s6.os = s1.os := hm.os
        obtain ⟨_, _, _, _, _⟩ := s6
        obtain rfl : _ = s1.os := y
        rfl
      rw [same]
      exact J
/-! ### what is walked -/
/-- a list -/
theorem iter_list {P : Addr} {a : Addr} {xs : List V} {xv : Value} {H1 : Hp} {s1 : Shared} (I : Inv X pins σ H1 s1)
    (hP : H1 P = some (TabO P)) (r : RelV (.ref a) xv) (hx : SqL X.K H1 a xs) :
    IterTo X P xs.length (fun i v => ∃ y, xs[i]? = some y ∧ RelV y v) xv s1 := by
  intro Q q
  obtain rfl : xv = Value.ref a := r
  obtain ⟨its, rv, hl, _⟩ := I.list hx
  obtain ⟨ps, e0, _⟩ := tab_get I hP
  have isl := hl.isList
  have alt : a < s1.heap.objs.size := by
    have ⟨_, e, _⟩ := isl
    exact Heap.lt_size e
  have aP : a ≠ P := fun y => by
    have ⟨_, e, _, _, d⟩ := isl
    rw [y, e0] at e
    cases e
    exact nomatch d
  have Plt := Heap.lt_size e0
  have len : its.toArray.size = xs.length := by
    rw [List.size_toArray, rv.length]
  refine wpAny_pyIter_list isl (q _ [s1.heap.objs.size, a] (fun i h => h.IsListIter s1.heap.objs.size a i ∧ h.IsList a its.toArray)
    (fun B hB => ?_) ?_ fun b hb => ?_)
  · have W := Walks.list (prog := X.prog) (w := X.w) hB s1.heap.objs.size a (Nat.ne_of_lt alt) its.toArray
    rw [len] at W
    refine told W fun i v e => ?_
    have e2 : its[i]? = some v := by simpa using e
    have lt := (List.getElem?_eq_some_iff.mp e2).1
    rw [← rv.length] at lt
    obtain ⟨u, eu, ru⟩ := rv.get (List.getElem?_eq_getElem lt)
    rw [e2] at eu
    exact ⟨_, List.getElem?_eq_getElem lt, Option.some.inj eu ▸ ru⟩
  · have ⟨ob, e, d⟩ := isl
    exact ⟨⟨_, Heap.get?_push_size _ rfl, rfl, rfl⟩, ob, Heap.get?_push_of_some _ e, d⟩
  · rcases List.mem_cons.mp hb with y | y
    · rw [y]
      exact ⟨Nat.lt_succ_self _, (Nat.ne_of_lt Plt).symm⟩
    · rw [one_mem y]
      exact ⟨Nat.lt_succ_of_lt alt, aP⟩
/-- the signs of a text -/
theorem iter_str {P : Addr} {a : Str} {xv : Value} {H1 : Hp} {s1 : Shared} (I : Inv X pins σ H1 s1)
    (hP : H1 P = some (TabO P)) (r : RelV (.str a) xv) :
    IterTo X P a.cps.size (fun i v => ∃ c t, a.cps[i]? = some c ∧ v = .str ⟨#[c]⟩ t) xv s1 := by
  intro Q q
  obtain ⟨t, rfl⟩ := (show ∃ t, xv = Value.str a t from r)
  obtain ⟨ps, e0, _⟩ := tab_get I hP
  refine wpAny_pyIter_str fun o St W hst => q o [s1.heap.objs.size] St (fun B hB => ?_) hst fun b hb => ?_
  · exact told (W B hB) fun i v ⟨c, u, e1, e2⟩ => ⟨c, u, e1, e2⟩
  · rw [one_mem hb]
    exact ⟨Nat.lt_succ_self _, (Nat.ne_of_lt (Heap.lt_size e0)).symm⟩
/-! ### elements -/
/-- a dict's get of the thing walked, else 1 -/
theorem elt_get {P d : Addr} {kvs : List (Key × V)} {scope : Scope} {x y : Str} {wi j : Nat} {p1 p2 p3 p4 p5 : Pos} {a : Str} {t : Tok} {z : Int} {s1 : Shared} {H1 : Hp}
    (I : Inv X pins σ H1 s1) (hP : H1 P = some (TabO P)) (sk : scope.kind = .function)
    (hx : scope.names.lookup x = some .local) (hy : scope.names.lookup y = some .free)
    (hc : (cloFrom X.env.cells scope.names []).lookup y = X.env.cells.lookup y)
    (hN : X.N[wi]? = some y) (hσ : σ[wi]? = some (some (.ref d))) (hd : Rd H1 d (.dK kvs)) (hv : Vis X.env.scope y)
    (hk : X.env.kindOf y = some .cell) (val : (valV kvs (.inr a)).getD (.int 1) = .int z)
    (dx : (x == ("__debug__" : Str)) = false) (dy : (y == ("__debug__" : Str)) = false) (dc : (y == ("__classdict__" : Str)) = false)
    (hbase : ∀ e, attributeBase (.Name y p1) "get" e (eval (.Name y p1) e) = eval (.Name y p1) e)
    (hfew : ∀ e, ((backTo p5 (starEach [.Name x p3, .Constant (.int 1) j p4] e)).all (fun x => !x.1) && (backToKw p5 (keywordEach [] e)).all (fun x => x.1.isSome)
      && decide (([.Name x p3, .Constant (.int 1) j p4] : List Expr).length + ([] : List Keyword).length + (if ([] : List Keyword).isEmpty then 0 else 1) < 30)) = true)
    (htrees : ∀ e, backTo p5 (starEach [.Name x p3, .Constant (.int 1) j p4] e) = [(false, eval (.Name x p3) e), (false, eval (.Constant (.int 1) j p4) e)])
    (hline : (p2.endLine == p5.line) = true) :
    Elt X P scope x (.Call (.Attribute (.Name y p1) "get" p2) [.Name x p3, .Constant (.int 1) j p4] [] p5) s1 (fun r => ∃ u, r = .int z u) (.str a t) := by
  intro e B E s2 m hh hB hn hm
  obtain ⟨m1, hn1, hl1⟩ := I.loc
  obtain ⟨dv, rd, lk⟩ := hl1 wi y _ hN hσ hv
  obtain rfl : dv = Value.ref d := rd
  obtain ⟨ps, e0, _⟩ := tab_get I hP
  rcases lk with ⟨q, _⟩ | ⟨_, c, hcl, hcell⟩
  · rw [hk] at q
    exact nomatch q
  obtain ⟨co, ho, hod⟩ := hcell
  have cP : c ≠ P := fun q => by
    rw [q, e0] at ho
    cases ho
    exact nomatch hod
  have cell2 : s2.heap.IsCell c (some (.ref d)) := ⟨co, hh.kept c co cP ho, hod⟩
  obtain ⟨_, hsys, vs, rel, dd⟩ := dk_rd I.hok hd
  have ⟨ob, es, ep, o1, o2, o3⟩ := dd
  have dP : d ≠ P := fun q => by
    rw [q, e0] at o1
    cases o1
    exact nomatch o2.1
  have dd2 : s2.heap.DictOf (mixKind X.prog X.w) d vs := ⟨ob, es, ep, hh.kept d ob dP o1, o2, o3⟩
  refine wpAny_Call_method (hbase e) (hfew e) hline PySem.F.plainAttrs_dict PySem.F.slot_dict_get PySem.F.type_dict_get ?_
  refine wpAny_Name (wpAny_loadName_free (c := c) (by rw [hh.sc]; exact sk) (show e.scope.names.lookup y = some .free by rw [hh.sc]; exact hy) (by rw [hh.cl, hc]; exact hcl) cell2 ?_ dc) dy
  refine ⟨dd2.typeIs, fun b q => ?_, ?_⟩
  · cases q
    exact ⟨ob, hh.kept d ob dP o1, o2.2.1⟩
  rw [htrees e]
  refine Calls.callWith_builtin rfl (Calls.evalArgs_plain (Calls.spliced_cons ?_))
  refine wpAny_Name (wpAny_loadName_local (by rw [hh.sc]; exact sk) (show e.scope.names.lookup x = some .local by rw [hh.sc]; exact hx) hn hm ?_) dx
  refine Calls.spliced_cons (wpAny_Constant_int (Calls.spliced_nil ?_))
  refine call_meetsIn PySem.F.slot_dict_get dd2.typeIs PySem.F.entry_dict_get (PySem.F.args_dict_get_3 _ _ _)
    (meets_dict_get_default (mixKind X.prog X.w) d (kV_is (k := .inr a) ⟨t, rfl⟩) hsys _) ⟨_, dd2.mapOf, ?_⟩
  refine ⟨?_, GxR.keeps_tok _ _⟩
  have rr : RelV ((valV kvs (.inr a)).getD (.int 1)) _ := (rel.val (.inr a)).getD (d := .int 1) (d' := .int 1 s2.toks) ⟨_, rfl⟩
  rw [val] at rr
  exact rr
/-- a sign of a written text? -/
theorem elt_in {P : Addr} {scope : Scope} {x y k : Str} {p1 p2 p3 : Pos} {c : Nat} {t tk : Tok} {s1 : Shared} {H1 : Hp} (I : Inv X pins σ H1 s1) (hP : H1 P = some (TabO P))
    (gP : mainGlobals ≠ P) (sk : scope.kind = .function) (hx : scope.names.lookup x = some .local) (hy : scope.names.lookup y = some .globalImplicit)
    (hm : X.mg y = some (.str k tk)) (dx : (x == ("__debug__" : Str)) = false) (dy : (y == ("__debug__" : Str)) = false) :
    Elt X P scope x (.Compare (.Name x p1) [.In] [.Name y p2] p3) s1 (fun r => r = .bool (decide (c ∈ k.cps.toList))) (.str ⟨#[c]⟩ t) := by
  intro e B E s2 m hh hB hn hmx
  refine wpAny_Compare1 ?_
  refine wpAny_Name (wpAny_loadName_local (by rw [hh.sc]; exact sk) (show e.scope.names.lookup x = some .local by rw [hh.sc]; exact hx) hn hmx ?_) dx
  have g1 : s1.heap.Ns mainGlobals X.mg := I.mod.glob.keeps I.bk
  have g2 : s2.heap.Ns mainGlobals X.mg := by
    obtain ⟨ob, es, ep, ho, r⟩ := g1
    exact ⟨ob, es, ep, hh.kept _ ob gP ho, r⟩
  refine Calls.Name_function_global (by rw [hh.sc]; exact sk) (show e.scope.names.lookup y = some .globalImplicit by rw [hh.sc]; exact hy)
    (Calls.loadGlobal_global (by rw [hh.gl, I.ok.glob]; exact g2) hm ?_) dy
  refine in_str ?_
  rw [PySem.StrLaws.found_one]
  exact ⟨rfl, GxR.keeps_refl _⟩
/-! ### the rules -/
theorem preSum_map (f : Str → Int) (ws : List Str) : ∀ n, n ≤ ws.length → preSum (fun j => f (ws.getD j "")) n = ((ws.take n).map f).sum
  | 0, _ => rfl
  | n + 1, h => by
    have lt : n < ws.length := h
    have e : ws.getD n "" = ws[n] := by simp [List.getD_eq_getElem?_getD, lt]
    rw [show preSum (fun j => f (ws.getD j "")) (n + 1) = preSum (fun j => f (ws.getD j "")) n + f (ws.getD n "") from rfl,
      preSum_map f ws n (Nat.le_of_lt lt), e, List.take_succ_eq_append_getElem lt, List.map_append, List.sum_append]
    simp only [List.map_cons, List.map_nil, List.sum_cons, List.sum_nil, Int.add_zero]
/-- the expression's own scope, but for what it captures -/
structure GenN (scope : Scope) (x : Str) : Prop where
  kind : scope.kind = .function
  co : scope.isCoroutine = false
  cell : ∀ y ∈ scope.names, y.2 ≠ .cell
  dot : scope.names.lookup (".0" : Str) = some NameKind.local
  loc : scope.names.lookup x = some .local
theorem GenN.full {env : Env} {scope : Scope} {x : Str} (n : GenN scope x)
    (h : ∀ y ∈ scope.names, y.2 = .free → ∃ c, env.cells.lookup y.1 = some c) : GxR.GenS env scope x :=
  ⟨n.kind, n.co, n.cell, n.dot, n.loc, h⟩
/-- sum(d.get(x, 1) for x in words), d the def's captured name in slot wi -/
def tSumGet (K : PySem.W.Frag) (P : Addr) (wi : Nat) (te : TE) : TE := fun σ H Q => te σ H fun v H1 => H1 P = some (TabO P) ∧
  ∃ (yl d : Addr) (ws : List Str) (kvs : List (Key × V)) (f : Str → Int), v = .ref yl ∧ SqL K H1 yl (ws.map V.str) ∧ σ[wi]? = some (some (.ref d)) ∧ Rd H1 d (.dK kvs) ∧
    (∀ a ∈ ws, (valV kvs (.inr a)).getD (.int 1) = .int (f a)) ∧ Q (.int (ws.map f).sum) H1
theorem pe_sumGet {c P : Addr} {iter : Expr} {x y : Str} {wi j : Nat} {p px gpos p1 p2 p3 p4 p5 pos : Pos} {scope : Scope} {te : TE} {k : Nat}
    (hr : Room k X.A) (TB : GxR.TabB X.base X.mg c P) (hcode : X.env.code = .ref c) (hm : X.mg "sum" = none) (hg : Gl X "sum")
    (hi : PE X iter te) (hs : ∀ v, genFold iter X.env v = pure v) (N : GenN scope x) (hfr : ∀ z ∈ scope.names, z.2 = .free → z.1 = y) (hy : scope.names.lookup y = some .free)
    (hclo : ∀ cells, cloFrom cells scope.names [] = [(y, (cells.lookup y).getD 0)]) (hN : X.N[wi]? = some y) (hk : X.env.kindOf y = some .cell)
    (dx : (x == ("__debug__" : Str)) = false) (dy : (y == ("__debug__" : Str)) = false) (dc : (y == ("__classdict__" : Str)) = false)
    (hbase : ∀ e, attributeBase (.Name y p1) "get" e (eval (.Name y p1) e) = eval (.Name y p1) e)
    (hfew : ∀ e, ((backTo p5 (starEach [.Name x p3, .Constant (.int 1) j p4] e)).all (fun x => !x.1) && (backToKw p5 (keywordEach [] e)).all (fun x => x.1.isSome)
      && decide (([.Name x p3, .Constant (.int 1) j p4] : List Expr).length + ([] : List Keyword).length + (if ([] : List Keyword).isEmpty then 0 else 1) < 30)) = true)
    (htrees : ∀ e, backTo p5 (starEach [.Name x p3, .Constant (.int 1) j p4] e) = [(false, eval (.Name x p3) e), (false, eval (.Constant (.int 1) j p4) e)])
    (hline : (p2.endLine == p5.line) = true)
    (he : ∀ g : Expr, g = .GeneratorExp (.Call (.Attribute (.Name y p1) "get" p2) [.Name x p3, .Constant (.int 1) j p4] [] p5) [⟨.Name x px, iter, [], 0⟩] scope gpos →
      starEach [g] X.env = (false, eval g X.env) :: starEach [] X.env) :
    PE X (.Call (.Name "sum" p) [.GeneratorExp (.Call (.Attribute (.Name y p1) "get" p2) [.Name x p3, .Constant (.int 1) j p4] [] p5) [⟨.Name x px, iter, [], 0⟩] scope gpos] [] pos) (tSumGet X.K P wi te) := by
  refine ⟨fun pins s σ H Q I h => ?_⟩
  have S : GxR.GenS X.env scope x := N.full fun z hz e => by
    rw [hfr z hz e]
    exact I.ok.has y (.inl hk)
  refine wpAny_Call_Name_kw (ld_blt I hg hm boot_sum ?_)
  have he1 := he _ rfl
  refine PyProof.Rows.callWith_builtin1 ?_ he1 (by rfl)
  rw [he1]
  refine Calls.spliced_cons (gen_any (R := fun v H1 => ∃ (yl d : Addr) (ws : List Str) (kvs : List (Key × V)) (f : Str → Int), v = .ref yl ∧ SqL X.K H1 yl (ws.map V.str) ∧
    σ[wi]? = some (some (.ref d)) ∧ Rd H1 d (.dK kvs) ∧ (∀ a ∈ ws, (valV kvs (.inr a)).getD (.int 1) = .int (f a)) ∧ Q (.int (ws.map f).sum) H1)
    hr TB hcode S hi hs I h ?_)
  · rintro v H1 xv s1 I1 rv hP ⟨yl, d, ws, kvs, f, rfl, hx, hσ, hd, hf, q⟩
    have it := iter_list I1 hP rv hx
    rw [List.length_map] at it
    refine ⟨ws.length, _, fun i r => ∃ u, r = .int (f (ws.getD i "")) u, it, ?_, fun g s5 R => ?_⟩
    · rintro i u ⟨a, ea, ra⟩
      rw [List.getElem?_map] at ea
      cases hw : ws[i]? with
      | none =>
        rw [hw] at ea
        exact nomatch ea
      | some b =>
        rw [hw] at ea
        obtain rfl : V.str b = a := Option.some.inj ea
        obtain ⟨t, rfl⟩ := (show ∃ t, u = Value.str b t from ra)
        have eb : ws.getD i "" = b := by rw [List.getD_eq_getElem?_getD, hw]; rfl
        show Elt X P scope x _ s1 (fun r => ∃ u, r = .int (f (ws.getD i "")) u) _
        rw [eb]
        obtain ⟨cc, hcc⟩ := I1.ok.has y (.inl hk)
        exact elt_get I1 hP S.kind S.loc hy (by rw [hclo, hcc]; simp) hN hσ hd (.inr (.inl hk)) hk (hf b (List.mem_of_getElem? hw)) dx dy dc hbase hfew htrees hline
    · obtain ⟨fp, wr, G, F', St, W, hst, hfp, hF, hI⟩ := R
      refine Calls.spliced_nil ?_
      refine call_sum_walkAnyS (W.self 0 _ _ _ hst ⟨g, fp, wr, G, _, F', St, fun j => f (ws.getD j ""), rfl, W, hst, hfp, fun i v hv => (hF i v hv).2, fun s6 t hmv => ?_⟩)
      have J := hI s6 hmv
      refine ⟨.int (preSum (fun j => f (ws.getD j "")) ws.length), H1, J, ⟨t, rfl⟩, ?_⟩
      rw [preSum_map f ws _ (Nat.le_refl _), List.take_length]
      exact q
/-- all(x in k for x in a text), k a written text of the module -/
def tAllIn (P : Addr) (k : Str) (te : TE) : TE := fun σ H Q => te σ H fun v H1 => H1 P = some (TabO P) ∧ ∃ a : Str, v = .str a ∧ Q (.bl (a.cps.toList.all fun c => decide (c ∈ k.cps.toList))) H1
theorem pe_allIn {c P : Addr} {iter : Expr} {x y k0 : Str} {tk : Tok} {p px gpos p1 p2 p3 pos : Pos} {scope : Scope} {te : TE} {k : Nat}
    (hr : Room k X.A) (TB : GxR.TabB X.base X.mg c P) (hcode : X.env.code = .ref c) (hm : X.mg "all" = none) (hg : Gl X "all")
    (hi : PE X iter te) (hs : ∀ v, genFold iter X.env v = pure v) (N : GenN scope x) (hfr : ∀ z ∈ scope.names, z.2 ≠ .free) (hy : scope.names.lookup y = some .globalImplicit) (hk : X.mg y = some (.str k0 tk))
    (dx : (x == ("__debug__" : Str)) = false) (dy : (y == ("__debug__" : Str)) = false)
    (he : ∀ g : Expr, g = .GeneratorExp (.Compare (.Name x p1) [.In] [.Name y p2] p3) [⟨.Name x px, iter, [], 0⟩] scope gpos →
      starEach [g] X.env = (false, eval g X.env) :: starEach [] X.env) :
    PE X (.Call (.Name "all" p) [.GeneratorExp (.Compare (.Name x p1) [.In] [.Name y p2] p3) [⟨.Name x px, iter, [], 0⟩] scope gpos] [] pos) (tAllIn P k0 te) := by
  refine ⟨fun pins s σ H Q I h => ?_⟩
  have S : GxR.GenS X.env scope x := N.full fun z hz e => absurd e (hfr z hz)
  refine wpAny_Call_Name_kw (ld_blt I hg hm boot_all ?_)
  have he1 := he _ rfl
  refine PyProof.Rows.callWith_builtin1 ?_ he1 (by rfl)
  rw [he1]
  refine Calls.spliced_cons (gen_any (R := fun v H1 => ∃ a : Str, v = .str a ∧ Q (.bl (a.cps.toList.all fun c => decide (c ∈ k0.cps.toList))) H1) hr TB hcode S hi hs I h ?_)
  rintro v H1 xv s1 I1 rv hP ⟨a, rfl, q⟩
  refine ⟨_, _, fun i r => ∃ c, a.cps[i]? = some c ∧ r = .bool (decide (c ∈ k0.cps.toList)), iter_str I1 hP rv, ?_, fun g s5 R => ?_⟩
  · rintro i u ⟨cc, t, ec, rfl⟩
    have z := elt_in (c := cc) (t := t) (p1 := p1) (p2 := p2) (p3 := p3) I1 hP TB.gP S.kind S.loc hy hk dx dy
    exact fun e B E s2 m h1 h2 h3 h4 => wpAny_mono (z e B E s2 m h1 h2 h3 h4) (fun r s3 w => ⟨⟨cc, ec, w.1⟩, w.2⟩) fun _ _ w => w
  · obtain ⟨fp, wr, G, F', St, W, hst, hfp, hF, hI⟩ := R
    refine Calls.spliced_nil ?_
    refine call_all_walkS (W.self 0 _ _ _ hst ⟨g, fp, wr, G, _, F', St, GxR.trF (fun c => decide (c ∈ k0.cps.toList)) a.cps.toList, rfl, W, hst, ?_, fun s6 hmv => ?_⟩)
    · intro j r sj Qj Ej hv hq
      obtain ⟨_, cc, ec, rfl⟩ := hF j r hv
      rw [GxR.trF_some (show a.cps.toList[j]? = some cc by rw [Array.getElem?_toList]; exact ec)] at hq
      exact wpAny_truthy_bool hq
    · refine ⟨.bl ((List.range a.cps.size).all (GxR.trF (fun c => decide (c ∈ k0.cps.toList)) a.cps.toList)), H1, hI s6 hmv, rfl, ?_⟩
      rw [GxR.all_signs a _]
      exact q
end
end MuGen

namespace MuGen
open PySem PySem.Spec PyProof.Rows L2
/-- a law's call, the tables at ts tracked without their content -/
theorem law_go {P : Program} {w : World} {K : PySem.W.Frag} {mg mb : Str → Option Value} {CX : CXT} {k : Nat} {fa a : Addr}
    {cs : List (Addr × Addr)} {fd : FuncData} {x : Str} {sp : Sp} {s1 : Shared} {vs : List Value} {ns : List Int}
    (KX : K.In s1.heap) (hg : s1.heap.Ns mainGlobals mg) (hb : s1.heap.Ns builtinsNs mb)
    (hbb : ∀ x : Str, x ≠ "__name__" → mb x = bootBuiltins x) (hlim : s1.heap.NoLimit) (hgens : s1.gens = #[])
    (hT : ∀ p ∈ cs, s1.heap.get? p.2 = some { cls := .none, data := .fields #[] })
    (nT : ∀ p ∈ cs, K.lookup p.2 = none) (C : ∀ p ∈ cs, PySem.W.CodeHd s1.heap p.1 p.2)
    (hbm : ∃ (bm : Addr) (ob : Obj), mg "__builtins__" = some (.ref bm) ∧ bm ≠ builtinsNs ∧ s1.heap.get? bm = some ob ∧
      ob.cls = .type "module" ∧ ob.dict = some builtinsNs ∧ ob.data = .plain)
    (ha : s1.heap.get? a = some { cls := .type "list", data := .seq vs.toArray }) (hi : IntsAre vs ns)
    (hl : ns.length ≤ sizeLine) (hr : Room k callerA)
    (F : ∀ base : Heap, K.In base → base.Ns mainGlobals mg → (∀ p ∈ cs, GxR.TabB base mg p.1 p.2) → FnOk P w K mg base CX k fa fd [x] sp)
    (hbind : ∀ (s : Shared) (u : Value), BindsTo s fd ⟨[u], []⟩ [(x, u)])
    (hsp : ∀ H : Hp, (∀ p ∈ cs, H p.2 = some (TabO p.2)) → SqL K H a (ns.map V.int) →
      sp [.ref a] H (fun v H' => v = .bl true ∧ ∀ p ∈ cs, H' p.2 = some (TabO p.2)) fun _ _ _ => False)
    (hCX : ∀ H e s', CX [] H s1 (fun _ _ _ => False) e s' → False) :
    codeAny (model P w) callerA (.call (.ref fa) ⟨[.ref a], []⟩)
      (fun r s' => r = .ok (.ret (.bool true)) ∧ OldK s1.heap s'.heap ∧ s'.os = s1.os ∧ AllBare s'.gens) s1 := by
  have rv := vals_ints hi
  have len := hi.length
  let ts := cs.map (·.2)
  have at_ts : ∀ b ∈ ts, s1.heap.get? b = some { cls := .none, data := .fields #[] } := fun b m => by
    obtain ⟨p, hp, rfl⟩ := List.mem_map.mp m
    exact hT p hp
  have in_ts : ∀ p ∈ cs, p.2 ∈ ts := fun p hp => List.mem_map.mpr ⟨p, hp, rfl⟩
  have a_ts : a ∉ ts := fun m => by
    have q := ha.symm.trans (at_ts a m)
    exact nomatch congrArg Obj.data (Option.some.inj q)
  have main : ∀ H : Hp, (∀ p ∈ cs, H p.2 = some (TabO p.2)) → (∀ b, H b = none ∨ b ∈ ts ∨ ∃ o xs, H b = some (.frz o (.lst xs))) →
      SqL K H a (ns.map V.int) → HOk P w H s1.heap → (∀ b, H b ≠ none → b = a ∨ b ∈ ts) → (H a ≠ none → K.lookup a = none) →
      codeAny (model P w) callerA (.call (.ref fa) ⟨[.ref a], []⟩)
        (fun r s' => r = .ok (.ret (.bool true)) ∧ OldK s1.heap s'.heap ∧ s'.os = s1.os ∧ AllBare s'.gens) s1 := by
    intro H hH hO hS hok hA hK
    -- what is neither the list nor a table is not tracked
    have off : ∀ {b : Addr} {o : Obj}, s1.heap.get? b = some o → (∀ us n, o.data ≠ .seq us n) → o.data ≠ .fields #[] → H b = none := by
      intro b o e n1 n2
      cases q : H b with
      | none => rfl
      | some u =>
        exfalso
        rcases hA b (fun z => nomatch q.symm.trans z) with y | y
        · rw [y, ha] at e
          obtain rfl := Option.some.inj e
          exact n1 _ _ rfl
        · rw [at_ts b y] at e
          obtain rfl := Option.some.inj e
          exact n2 rfl
    have offD : ∀ {b : Addr} {o : Obj} {es : Array DictEntry} {ep : Nat}, s1.heap.get? b = some o → o.data = .dict es ep → H b = none := by
      intro b o es ep e d
      refine off e (fun us n z => ?_) fun z => ?_
      · exact nomatch d.symm.trans z
      · exact nomatch d.symm.trans z
    have ns_ : ∀ {b : Addr} {m : Str → Option Value}, s1.heap.Ns b m → (hidT s1.heap H).Ns b m := by
      intro b m ⟨o, es, ep, e, d, r⟩
      exact ⟨o, es, ep, hidT_get e (offD e d), d, r⟩
    have KB : K.In (hidT s1.heap H) := by
      intro b o e
      refine hidT_get (KX b o e) ?_
      cases q : H b with
      | none => rfl
      | some u =>
        exfalso
        have nz : H b ≠ none := fun z => nomatch q.symm.trans z
        rcases hA b nz with y | y
        · rw [y] at e nz
          rw [hK nz] at e
          exact nomatch e
        · obtain ⟨p, hp, rfl⟩ := List.mem_map.mp y
          rw [nT p hp] at e
          exact nomatch e
    have MB : L2.Mod K mg (hidT s1.heap H) := by
      refine ⟨KB, ns_ hg, ⟨mb, ns_ hb, hbb⟩, ?_⟩
      have ⟨mc, y1, y2⟩ := hlim
      exact ⟨mc, ns_ y1, y2⟩
    have TB : ∀ p ∈ cs, GxR.TabB (hidT s1.heap H) mg p.1 p.2 := by
      intro p hp
      have tp := hT p hp
      refine ⟨?_, ?_, fun z => ?_⟩
      · have ⟨o, us, file, tf, flags, tg, inF, text, tt, y, r1, r2, r3, r⟩ := C p hp
        refine ⟨o, us, file, tf, flags, tg, inF, text, tt, hidT_get y (off y (fun vs n z => ?_) fun z => ?_), r1, r2, r3, r⟩
        · exact nomatch r2.symm.trans z
        · rw [r2] at z
          cases z
          simp at r3
      · have ⟨bm, ob, b1, b2, b3, b4, b5, b6⟩ := hbm
        have n1 : bm ≠ mainGlobals := fun q => by
          have ⟨o, es, ep, e, d, _⟩ := hg
          rw [← q, b3] at e
          obtain rfl := Option.some.inj e
          exact nomatch b6.symm.trans d
        have n2 : bm ≠ p.2 := fun q => by
          rw [q, tp] at b3
          obtain rfl := Option.some.inj b3
          exact nomatch b6
        refine ⟨bm, ob, b1, b2, n1, n2, hidT_get b3 (off b3 (fun vs n z => ?_) fun z => ?_), b4, b5, b6⟩
        · exact nomatch b6.symm.trans z
        · exact nomatch b6.symm.trans z
      · have ⟨o, es, ep, e, d, _⟩ := hg
        rw [z, tp] at e
        obtain rfl := Option.some.inj e
        exact nomatch d
    have e0 : Env0 P w K mg (hidT s1.heap H) callerA [] s1 H :=
      ⟨rfl, MB, fun b o e => of_hidT e, Nat.le_of_eq (hidT_size _ _), trivial, (fun b m => nomatch m), hok, AllBare.of_eq hgens⟩
    refine codeAny_mono ((F _ KB (ns_ hg) TB).run callerA [] s1 H ⟨[.ref a], []⟩ [.ref a] [.ref a] _ _ hr e0 (hbind s1 (.ref a)) (.cons rfl .nil) (hsp H hH hS)) fun r s' h => ?_
    match r, h with
    | .error e, h => exact (hCX H e s' h).elim
    | .ok (.ret u), h =>
      obtain ⟨v, H', os, bare, un, hok', r', rfl, q⟩ := h
      obtain rfl : u = Value.bool true := r'
      have same : ∀ b o, b ∉ ts → s1.heap.get? b = some o → s'.heap.get? b = some o := by
        intro b o nb e
        rcases hO b with z | z | ⟨ob, xs, z⟩
        · exact un.keep b o e z (fun m => nomatch m) (fun m => nomatch m)
        · exact absurd z nb
        · have y1 := (hok b _ z).1
          have y2 := (hok' b _ (un.frzs b ob _ z)).1
          rw [e] at y1
          obtain rfl := Option.some.inj y1
          exact y2
      have grown : ∀ p ∈ cs, ∃ qs : Array Value, s'.heap.get? p.2 = some { cls := .none, data := .fields qs } := by
        intro p hp
        have ⟨⟨qs, y, _⟩, _⟩ := hok' p.2 _ (q p hp)
        exact ⟨qs, y⟩
      refine ⟨rfl, ⟨fun b o e => ?_, fun b o e => ?_⟩, os, bare⟩
      · rcases Decidable.em (b ∈ ts) with m | m
        · obtain ⟨p, hp, rfl⟩ := List.mem_map.mp m
          obtain ⟨qs, y⟩ := grown p hp
          rw [hT p hp] at e
          obtain rfl := Option.some.inj e
          exact .inr (.inl ⟨((C p hp).tab (hT p hp)).isCodeTable, rfl, #[], qs, rfl, by rw [Array.empty_append]; exact y⟩)
        · exact .inl (same b o m e)
      · rcases Decidable.em (b ∈ ts) with m | m
        · obtain ⟨p, hp, rfl⟩ := List.mem_map.mp m
          obtain ⟨qs, y⟩ := grown p hp
          exact ⟨_, y⟩
        · exact ⟨o, same b o m e⟩
    | .ok .next, h => exact False.elim h
    | .ok .brk, h => exact False.elim h
    | .ok .cont, h => exact False.elim h
  -- the abstract heap at the entry
  have tabOk : ∀ (H : Hp) (b : Addr), b ∈ ts → ObjOk P w H s1.heap b (TabO b) := fun H b m => by
    have y := at_ts b m
    refine ⟨⟨#[], y, ?_⟩, ⟨_, y⟩, fun h1 h2 ⟨qs, a1, a2⟩ a3 => ⟨qs, a3 _ a1, a2⟩⟩
    obtain ⟨p, hp, rfl⟩ := List.mem_map.mp m
    exact trivial
  cases look : K.lookup a with
  | some o =>
    have e := KX a o look
    rw [ha] at e
    obtain rfl := Option.some.inj e
    refine main (fun b => if b ∈ ts then some (TabO b) else none) (fun p hp => if_pos (in_ts p hp)) (fun b => ?_)
      (.inr ⟨_, vs.toArray, _, look, rfl, rfl, rfl, by rw [List.size_toArray, len]; exact hl, by simpa using rv⟩) (fun b u z => ?_) (fun b z => ?_) fun z => absurd (if_neg a_ts) z
    · rcases Decidable.em (b ∈ ts) with m | m
      · exact .inr (.inl m)
      · exact .inl (if_neg m)
    · rcases Decidable.em (b ∈ ts) with m | m
      · obtain rfl := Option.some.inj ((if_pos m).symm.trans z)
        exact tabOk _ b m
      · exact nomatch (if_neg m).symm.trans z
    · rcases Decidable.em (b ∈ ts) with m | m
      · exact .inr m
      · exact absurd (if_neg m) z
  | none =>
    refine main (fun b => if b = a then some (.frz { cls := .type "list", data := .seq vs.toArray } (.lst (ns.map V.int))) else if b ∈ ts then some (TabO b) else none)
      (fun p hp => (if_neg (fun z : p.2 = a => a_ts (z ▸ in_ts p hp))).trans (if_pos (in_ts p hp))) (fun b => ?_)
      (.inl (.inr ⟨_, if_pos rfl⟩)) (fun b u z => ?_) (fun b z => ?_) fun _ => look
    · rcases Decidable.em (b = a) with m | m
      · exact .inr (.inr ⟨_, _, if_pos m⟩)
      · rcases Decidable.em (b ∈ ts) with m2 | m2
        · exact .inr (.inl m2)
        · exact .inl ((if_neg m).trans (if_neg m2))
    · rcases Decidable.em (b = a) with m | m
      · obtain rfl := Option.some.inj ((if_pos m).symm.trans z)
        subst m
        exact ⟨ha, by rw [List.length_map]; exact hl, vs, _, rv, ha⟩
      · have z1 := (if_neg m).symm.trans z
        rcases Decidable.em (b ∈ ts) with m2 | m2
        · obtain rfl := Option.some.inj ((if_pos m2).symm.trans z1)
          exact tabOk _ b m2
        · exact nomatch (if_neg m2).symm.trans z1
    · rcases Decidable.em (b = a) with m | m
      · exact .inl m
      · rcases Decidable.em (b ∈ ts) with m2 | m2
        · exact .inr m2
        · exact absurd ((if_neg m).trans (if_neg m2)) z
/-- what is told of a law at the head's heap, with tables -/
def LawTab (l : PySem.W.OpenLaw) (w : World) (K : PySem.W.Frag) (CX : CXT) (k n : Nat) (x : Str) (mg : Str → Option Value) (fa : Addr) (h : Heap) : Prop :=
  ∃ (fd : FuncData) (cs : List (Addr × Addr)) (sp : Sp),
    (∀ p ∈ cs, h.get? p.2 = some { cls := .none, data := .fields #[] } ∧ K.lookup p.2 = none ∧ PySem.W.CodeHd h p.1 p.2) ∧
    (∀ (s : Shared) (u : Value), BindsTo s fd ⟨[u], []⟩ [(x, u)]) ∧
    (∀ (H : Hp) (a : Addr) (ns : List Int), ns.length ≤ n → (∀ p ∈ cs, H p.2 = some (TabO p.2)) → SqL K H a (ns.map V.int) →
      sp [.ref a] H (fun v H' => v = .bl true ∧ ∀ p ∈ cs, H' p.2 = some (TabO p.2)) fun _ _ _ => False) ∧
    ∀ base : Heap, K.In base → base.Ns mainGlobals mg → (∀ p ∈ cs, GxR.TabB base mg p.1 p.2) → FnOk l.prog w K mg base CX k fa fd [x] sp
/-- the end of a law row, the tables of the defs tl tracked -/
theorem walk_tabs {l : PySem.W.OpenLaw} {n k : Nat} {q : Program} {loose : List Str} {XP : (Str → Option Value) → Heap → Prop} {YP : World → Heap → Prop}
    {d : DefRec} {K : Params → PySem.W.Frag} {CX : World → CXT} {x : Str} (tl : List Str)
    (hn : l.most = some n) (hn2 : n ≤ sizeLine) (hdf : d.params.defaults = []) (hr : Room k callerA)
    (hrec : (tl.all fun y => (recsOf q).any fun e => e.name == y) = true) (hY : ∀ (w : World) (h : Heap), YP w h → (K w.params).In h)
    (F : ∀ (w : World) (mg : Str → Option Value) (fa : Addr) (h : Heap), (K w.params).In h → h.Ns mainGlobals mg → mg d.name = some (.ref fa) →
      (∀ (y : Str) (c P : Addr), y ∈ tl → PySem.W.tabIn (K w.params) y = some (c, P) →
        PySem.W.CodeHd h c P ∧ h.get? P = some { cls := .none, data := .fields #[] }) →
      LawTab l w (K w.params) (CX w) k n x mg fa h)
    (hCX : ∀ (w : World) (H : Hp) (s : Shared) (e : Value) (s' : Shared), CX w [] H s (fun _ _ _ => False) e s' → False) :
    PySem.W.WalkO q loose XP YP l.row.toRowW d [] (fun f vs => PySem.call f vs) := by
  refine Att.attach_call hn hdf fun w s0 s1 mg mb fa o pm cd doc a vs ns G Y ho hd hcd hmg hobj hints hlen hg => ?_
  have KX := hY w _ Y
  obtain ⟨fd, cs, sp, hp, hb, hsp, hF⟩ := F w mg fa _ KX G.T.g hmg fun y c P hy ht => by
    have an := List.all_eq_true.mp hrec y hy
    cases found : (recsOf q).find? (fun e => e.name == y) with
    | none =>
      obtain ⟨e, he, z⟩ := List.any_eq_true.mp an
      exact absurd z (List.find?_eq_none.mp found e he)
    | some e => exact PySem.W.tab_of G.T KX found ht
  exact law_go KX G.T.g G.T.b G.T.builtins G.T.nolimit hg (fun p m => (hp p m).1) (fun p m => (hp p m).2.1) (fun p m => (hp p m).2.2) G.T.bmain
    hobj hints (Nat.le_trans hlen hn2) hr hF hb (fun H hH hS => hsp H a ns hlen hH hS) fun H e s' => hCX w H s1 e s'
/-- a def whose code object stands at c -/
structure FunT (K : PySem.W.Frag) (x qual : Str) (st : Stmt) (f : Addr) (fd : FuncData) (c : Addr) : Prop where
  ex : ∃ (oc : Value) (od : Option Addr) (kV doc pm : Value) (an : Option Addr) (ct : Value) (sl : Array (Option Value)),
    fd = PySem.W.fnOf x qual (defArgs st) (defBody st) (defScope st) .none kV doc pm an (.ref c) ct ∧
    K.lookup f = some ⟨oc, od, .func fd, sl⟩ ∧ PySem.W.codeIn K (.ref c) qual = true
  kp : PySem.W.keepIn K (.ref f) = true
section
variable {P : Program} {w : World} {K : PySem.W.Frag} {mg : Str → Option Value} {base : Heap}
theorem FunT.ok {x qual : Str} {st : Stmt} {f c : Addr} {fd : FuncData} {N ps : List Str} {k : Nat} {sp : Sp} (F : FunT K x qual st f fd c)
    (S : FnScope N ps (defScope st)) (len : ∀ vs H Q E, sp vs H Q E → vs.length = ps.length)
    (body : ∀ (A : Around) (outer : List Env) (s : Shared) (H : Hp) (vs : List V) (Q : VK) (E : XK),
      Room k (A.deeper (envOfC qual (defScope st) s.heap.objs.size f (.ref c))) → sp vs H Q E →
      ∃ t, PSs (cxOf CX0 P w K mg base N qual (defScope st) f (.ref c) A outer s H E).nox (defBody st) t ∧
        t { nx := fun _ H' => Q .non H', rt := Q } (start N vs) H) : FnOk P w K mg base CX0 (k + 1) f fd ps sp := by
  obtain ⟨oc, od, kV, doc, pm, an, ct, sl, rfl, lk, hcd⟩ := F.ex
  refine fn_of lk hcd S len fun A outer s H vs Q E hr h => ?_
  have ⟨t, y, q⟩ := body A outer s H vs Q E hr h
  exact ⟨t, y.nox, q⟩
theorem FunT.fn {x qual : Str} {st : Stmt} {f c : Addr} {fd : FuncData} (F : FunT K x qual st f fd c) : Fun K x qual st f fd := by
  obtain ⟨oc, od, kV, doc, pm, an, ct, sl, e, lk, hcd⟩ := F.ex
  exact ⟨⟨oc, od, kV, doc, pm, an, .ref c, ct, sl, e, lk, hcd⟩, F.kp⟩
theorem funT_mk {x qual : Str} {st : Stmt} {f c : Addr} {oc : Value} {od an : Option Addr} {sl : Array (Option Value)} {kV doc pm ct : Value}
    (l : K.lookup f = some ⟨oc, od, .func (PySem.W.fnOf x qual (defArgs st) (defBody st) (defScope st) .none kV doc pm an (.ref c) ct), sl⟩)
    (h : PySem.W.codeIn K (.ref c) qual = true) (k : PySem.W.keepIn K (.ref f) = true) :
    FunT K x qual st f (PySem.W.fnOf x qual (defArgs st) (defBody st) (defScope st) .none kV doc pm an (.ref c) ct) c :=
  ⟨⟨oc, od, kV, doc, pm, an, ct, sl, rfl, l, h⟩, k⟩
end
theorem tab_at {K : PySem.W.Frag} {x : Str} {f c P : Addr} {oc e : Value} {od dd : Option Addr} {osl sl : Array (Option Value)} {fd : FuncData} {vs : Array Value}
    (a : PySem.W.nsIn K mainGlobals x = some (some (.ref f))) (l : K.lookup f = some ⟨oc, od, .func fd, osl⟩) (hc : fd.code = .ref c)
    (d : K.lookup c = some ⟨e, dd, .fields vs, sl⟩) (v : vs[11]? = some (.ref P)) : PySem.W.tabIn K x = some (c, P) := by
  unfold PySem.W.tabIn
  rw [a]
  simp only
  rw [l]
  simp only [hc, d, v]
end MuGen

namespace MuK
open PySem PySem.Spec PyProof.Rows L2 Evl
/-! ### values of which only something is known -/
def EvX (te : TE) (σ : L2.St) (H : Hp) (R : V → Hp → Prop) : Prop := ∀ H1, Ex H H1 → ∀ Q : VK, (∀ v H2, Ex H1 H2 → R v H2 → Q v H2) → te σ H1 Q
def SpR (D : Hp → List V → (V → Hp → Prop) → Prop) : Sp := fun vs H Q _ => ∃ R, D H vs R ∧ ∀ v H', Ex H H' → R v H' → Q v H'
section
variable {K : PySem.W.Frag} {σ : L2.St} {H H' : Hp} {ta tb te : TE} {t u : TT} {x y z v : V} {D : Ends} {tu tw tz : TS} {R : V → Hp → Prop}
theorem evx_call {Dd : Hp → List V → (V → Hp → Prop) → Prop} {vs : List V} {E : XK} {ta : TA} (h : EvA ta σ H vs)
    (hs : ∀ H1, Ex H H1 → ∃ R1, Dd H1 vs R1 ∧ ∀ v H2, Ex H1 H2 → R1 v H2 → R v H2) : EvX (tCall (SpR Dd) [] E ta) σ H R := fun H1 e Q q =>
  h H1 e _ fun H2 e2 => by
    obtain ⟨R1, d, k⟩ := hs H2 (e.trans e2)
    exact ⟨R1, by rw [List.append_nil]; exact d, fun v H3 e3 r => q v H3 (e2.trans e3) (k v H3 e3 r)⟩
theorem q_asgX {i : Nat} (h : EvX te σ H R) (k : ∀ v H1, Ex H H1 → R v H1 → tz D (σ.set i (some v)) H1) : tSeq (tAsg te (gName i)) tz D σ H := h H (Ex.refl H) _ k
theorem s_asgX {i : Nat} (h : EvX te σ H R) (k : ∀ v H1, Ex H H1 → R v H1 → D.nx (σ.set i (some v)) H1) : tAsg te (gName i) D σ H := h H (Ex.refl H) _ k
theorem s_retX (h : EvX te σ H R) (k : ∀ v H1, Ex H H1 → R v H1 → D.rt v H1) : tRet te D σ H := h H (Ex.refl H) _ k
theorem evx_of (h : Ev te σ H v) : EvX te σ H (fun z _ => z = v) := fun H1 e Q q => h H1 e Q fun H2 e2 => q v H2 e2 rfl
theorem evx_mono {R' : V → Hp → Prop} (h : EvX te σ H R) (k : ∀ v H1, Ex H H1 → R v H1 → R' v H1) : EvX te σ H R' := fun H1 e Q q => h H1 e Q fun v H2 e2 r => q v H2 e2 (k v H2 (e.trans e2) r)
/-- the texts ws stand in the list p -/
abbrev TxL (H : Hp) (p : Addr) (ws : List Str) : Prop := H p = some (.lst (ws.map V.str))
/-! ### weights -/
def IntD (kvs : List (Key × V)) : Prop := ∀ kv ∈ kvs, ∃ z, kv.2 = V.int z
def wOf (kvs : List (Key × V)) (a : Str) : Int := match valV kvs (.inr a) with
  | some (.int z) => z
  | _ => 1
theorem wOf_is {kvs : List (Key × V)} (h : IntD kvs) (a : Str) : (valV kvs (.inr a)).getD (.int 1) = .int (wOf kvs a) := by
  unfold wOf
  cases e : valV kvs (.inr a) with
  | none => rfl
  | some u =>
    have ⟨kv, m, q⟩ : ∃ kv ∈ kvs, kv.2 = u := by
      unfold valV at e
      cases f : kvs.find? fun kv => decide (kv.1 = Sum.inr a) with
      | none =>
        rw [f] at e
        exact nomatch e
      | some kv =>
        rw [f] at e
        exact ⟨kv, List.mem_of_find?_eq_some f, Option.some.inj e⟩
    obtain ⟨z, y⟩ := h kv m
    rw [← q, y]
    rfl
def heavy (kvs : List (Key × V)) (ws : List Str) : Int := (ws.map (wOf kvs)).sum
theorem str_at {ws : List Str} {i : Nat} {x : V} (h : (ws.map V.str)[i]? = some x) : ∃ a, ws[i]? = some a ∧ x = .str a := by
  rw [List.getElem?_map] at h
  cases e : ws[i]? with
  | none =>
    rw [e] at h
    exact nomatch h
  | some a =>
    rw [e] at h
    exact ⟨a, rfl, (Option.some.inj h).symm⟩
theorem nodup_len {α : Type} [DecidableEq α] : ∀ {l m : List α}, l.Nodup → (∀ j ∈ l, j ∈ m) → l.length ≤ m.length
  | [], m, _, _ => Nat.zero_le _
  | a :: l, m, nd, h => by
    obtain ⟨n1, n2⟩ := List.nodup_cons.mp nd
    have ha := h a List.mem_cons_self
    have k : ∀ j ∈ l, j ∈ m.erase a := fun j hj => by
      have ne : j ≠ a := fun z => n1 (z ▸ hj)
      exact (List.mem_erase_of_ne ne).mpr (h j (List.mem_cons_of_mem _ hj))
    have r := nodup_len n2 k
    have e := (List.perm_cons_erase ha).length_eq
    simp only [List.length_cons] at e ⊢
    omega
/-- d.get(k, y) of a dict of ints and texts -/
theorem ev_dget2 {td ty tx : TE} {d : Addr} {k : Key} {kvs : List (Key × V)} {dv r : V} (ha : Ev td σ H (.ref d)) (hd : Rd H d (.dK kvs)) (hb : Ev ty σ H (kV k)) (hc : Ev tx σ H dv)
    (hr : (valV kvs k).getD dv = r) : Ev (tDGet2 td ty tx) σ H r := fun H1 e Q q =>
  ha H1 e _ fun H2 e2 => ⟨d, rfl, .inl ⟨kvs, ex_rd (e.trans e2) hd⟩, hb H2 (e.trans e2) _ fun H3 e3 => hc H3 ((e.trans e2).trans e3) _ fun H4 e4 =>
    ⟨valV kvs k, .inl ⟨kvs, k, ex_rd (((e.trans e2).trans e3).trans e4) hd, rfl, rfl⟩, by rw [hr]; exact q H4 ((e2.trans e3).trans e4)⟩⟩
end
end MuK

namespace MuK
open PySem PySem.Spec PyProof.Rows L2 Evl
section
variable {X : Cx}
/-- a text, some times -/
def rMulS : R2 := fun x y H Q => ∃ (a : Str) (n : Int), x = .str a ∧ y = .int n ∧ a.length ≤ 1000 ∧ 0 ≤ n ∧ n ≤ 1000 ∧ Q (.str (Txt.mul a n)) H
theorem op_mulS : OpR X (binaryOp .Mult) rMulS := by
  intro pins s σ H x y v u Q I rx ry h
  obtain ⟨a, n, rfl, rfl, ha, h0, h1, q⟩ := h
  obtain ⟨t, rfl⟩ := rx
  obtain ⟨t', rfl⟩ := ry
  exact PySem.SB.mul (mulOk_of 1000 1000 ha (by omega) (by omega) (by omega) (by omega)) fun t'' k => ⟨.str (Txt.mul a n), H, I.tok _, ⟨_, rfl⟩, q⟩
/-- list.remove of a list of texts -/
def eqt (k : Str) (v : Value) : Bool := match v with
  | .str a _ => decide (a = k)
  | _ => false
theorem eqt_gives {k : Str} {t : Tok} : ∀ {us : List Value} {ws : List Str}, StrsAre us ws → ∀ y ∈ us, MeetsSeq.EqGives y (.str k t) (eqt k y)
  | _, _, .nil => fun _ hy => nomatch hy
  | _, _, .cons a u r => fun y hy => by
    rcases List.mem_cons.mp hy with e | e
    · rw [e]
      exact fun prog w A E s Q h => wpAny_eqBool_str h
    · exact eqt_gives r y e
def rRemS : V → List V → Hp → VK → Prop := fun x xs H Q => ∃ (l : Addr) (ws : List Str) (k : Str), x = .ref l ∧ xs = [.str k] ∧ TxL H l ws ∧ k ∈ ws ∧
  Q .non (upd H l (.lst ((ws.erase k).map V.str)))
theorem erase_at (k : Str) : ∀ (ws : List Str), k ∈ ws → ∃ j, ws[j]? = some k ∧ (∀ m, m < j → ws[m]? ≠ some k) ∧ ws.erase k = ws.eraseIdx j
  | [], h => nomatch h
  | a :: r, h => by
    by_cases e : a = k
    · subst e
      exact ⟨0, rfl, fun m hm => absurd hm (Nat.not_lt_zero m), by simp⟩
    · have hr : k ∈ r := by
        rcases List.mem_cons.mp h with z | z
        · exact absurd z.symm e
        · exact z
      obtain ⟨j, h1, h2, h3⟩ := erase_at k r hr
      refine ⟨j + 1, h1, fun m hm => ?_, ?_⟩
      · cases m with
        | zero => exact fun z => e (Option.some.inj z)
        | succ m => exact h2 m (by omega)
      · rw [List.erase_cons_tail (by simpa using e), h3]
        rfl
theorem erase_mapS : ∀ (l : List Str) (j : Nat), (l.map V.str).eraseIdx j = (l.eraseIdx j).map V.str
  | [], j => by simp
  | a :: r, 0 => by simp
  | a :: r, j + 1 => by
    have h := erase_mapS r j
    simp [h]
theorem mtS_remove : MtM X "list.remove" rRemS := by
  intro pins s σ H x xs v us Q I rx rxs h
  obtain ⟨l, ws, k, rfl, rfl, hH, hk, q⟩ := h
  obtain ⟨j, hj, hno, er⟩ := erase_at k ws hk
  cases rx
  obtain ⟨u, rfl, ru⟩ := rxs.one
  obtain ⟨t, rfl⟩ := ru
  obtain ⟨z, its, n, r, hl, e⟩ := I.lstM hH
  have hi := strs_of_vals r
  rw [List.length_map] at hl z
  have jlt : j < ws.length := (List.getElem?_eq_some_iff.mp hj).1
  have jlt2 : j < its.toArray.size := by
    rw [List.size_toArray]
    omega
  have at_ : ∀ (m : Nat) (lt : m < its.toArray.size) (a : Str), ws[m]? = some a → ∃ tm, its.toArray[m] = .str a tm := fun m lt a ea => by
    obtain ⟨tm, hm⟩ := hi.get m a ea
    have := (List.getElem?_eq_some_iff.mp hm).2
    exact ⟨tm, by simpa using this⟩
  refine call_meets PySem.F.slot_list_remove ⟨_, e, rfl⟩ PySem.F.entry_list_remove (PySem.F.args_list_remove_2 _ _)
    (MeetsSeq.list_remove l its.toArray n (.str k t) (eqt k) (fun y hy => eqt_gives hi y (by simpa using hy)) j jlt2 ?_ ?_ ?_) ⟨e, ?_⟩
  · obtain ⟨tm, hm⟩ := at_ j jlt2 k hj
    rw [hm]
    exact decide_eq_true rfl
  · intro m lt mj
    have lt2 : m < ws.length := by omega
    obtain ⟨tm, hm⟩ := at_ m lt _ (List.getElem?_eq_getElem lt2)
    rw [hm]
    exact decide_eq_false fun z => hno m mj (by rw [List.getElem?_eq_getElem lt2, z])
  · rw [List.size_toArray]
    omega
  · have rr := r.eraseIdx j
    have e2 : (ws.map V.str).eraseIdx j = (ws.erase k).map V.str := by
      rw [er]
      exact erase_mapS ws j
    rw [e2] at rr
    refine ⟨.non, _, I.lset (its' := its.eraseIdx j) (t' := s.toks) hH e ?_ rr ?_, rfl, q⟩
    · show its.toArray.eraseIdxIfInBounds j = (its.eraseIdx j).toArray
      rw [List.eraseIdxIfInBounds_toArray]
    · rw [List.length_map]
      have := List.length_erase_le (a := k) (l := ws)
      omega
end
section
variable {K : PySem.W.Frag} {σ : L2.St} {H H' : Hp} {ta tb te : TE} {t u : TT} {x y z v : V} {D : Ends} {tu tw tz : TS} {R : V → Hp → Prop}
/-- for i, x in enumerate(xs) -/
theorem s_forE {ta : TA} {a : Addr} {xs : List V} {i j : Nat} (h : EvA ta σ H [.ref a]) (hx : SqL K H a xs) (Pv : Nat → L2.St → Hp → Prop)
    (h0 : ∀ H1, Ex H H1 → Pv 0 σ H1) (hl : ∀ n σ' H', n ≤ xs.length → Pv n σ' H' → SqL K H' a xs)
    (hs : ∀ n x σ' H' H2, xs[n]? = some x → Pv n σ' H' → Ex H' H2 →
      tu { D with nx := Pv (n + 1), ct := Pv (n + 1), bk := D.nx } ((σ'.set i (some (.int (n : Int)))).set j (some x)) H2)
    (hd : ∀ σ' H', Pv xs.length σ' H' → D.nx σ' H') : tFor (iEnum K ta) (gTup K 2 (gCons (gName i) (gCons (gName j) gNil))) tu D σ H := by
  refine h H (Ex.refl H) _ fun H1 e => ⟨a, xs, rfl, ex_l e hx, ?_⟩
  refine ⟨fun n m σ' H' => m = xs.length - n ∧ n ≤ xs.length ∧ Pv n σ' H', ⟨xs.length, rfl, Nat.zero_le _, h0 H1 e⟩, ?_⟩
  rintro n m σ' H' ⟨rfl, hn, p⟩
  have q := hl n σ' H' hn p
  by_cases lt : n < xs.length
  · refine .inr ⟨⟨xs, xs[n], q, List.getElem?_eq_getElem lt⟩, Pv (n + 1), fun σ2 H2 p2 => ⟨xs.length - (n + 1), by omega, rfl, lt, p2⟩, fun x H2 y => ?_⟩
    obtain ⟨T, x, rfl, hT, rfl, hx2⟩ := y
    exact ⟨T, [.int (n : Int), x], rfl, st_of upd_same, rfl, .int (n : Int), [x], rfl, x, [], rfl, rfl, hs n x σ' H' _ (hx2 xs q) p (Ex.new hT)⟩
  · have e2 : n = xs.length := by omega
    subst e2
    exact .inl ⟨⟨xs, q, Nat.le_refl _⟩, hd σ' H' p⟩
theorem q_forE {ta : TA} {a : Addr} {xs : List V} {i j : Nat} (h : EvA ta σ H [.ref a]) (hx : SqL K H a xs) (Pv : Nat → L2.St → Hp → Prop)
    (h0 : ∀ H1, Ex H H1 → Pv 0 σ H1) (hl : ∀ n σ' H', n ≤ xs.length → Pv n σ' H' → SqL K H' a xs)
    (hs : ∀ n x σ' H' H2, xs[n]? = some x → Pv n σ' H' → Ex H' H2 →
      tu { D with nx := Pv (n + 1), ct := Pv (n + 1), bk := tz D } ((σ'.set i (some (.int (n : Int)))).set j (some x)) H2)
    (hd : ∀ σ' H', Pv xs.length σ' H' → tz D σ' H') : tSeq (tFor (iEnum K ta) (gTup K 2 (gCons (gName i) (gCons (gName j) gNil))) tu) tz D σ H :=
  s_forE (D := { D with nx := tz D }) h hx Pv h0 hl hs hd
/-- for i, x in enumerate(e), e a new list -/
theorem q_forEN {xs : List V} {i j : Nat} (h : EvL te σ H xs) (Pv : Addr → Nat → L2.St → Hp → Prop)
    (h0 : ∀ p H1, H p = none → Ex H H1 → H1 p = some (.lst xs) → Pv p 0 σ H1) (hl : ∀ p n σ' H', n ≤ xs.length → Pv p n σ' H' → SqL K H' p xs)
    (hs : ∀ p n x σ' H' H2, xs[n]? = some x → Pv p n σ' H' → Ex H' H2 →
      tu { D with nx := Pv p (n + 1), ct := Pv p (n + 1), bk := tz D } ((σ'.set i (some (.int (n : Int)))).set j (some x)) H2)
    (hd : ∀ p σ' H', Pv p xs.length σ' H' → tz D σ' H') : tSeq (tFor (iEnum K (tCons te tNil)) (gTup K 2 (gCons (gName i) (gCons (gName j) gNil))) tu) tz D σ H := by
  refine h H (Ex.refl H) _ fun p H1 hp e hx => ?_
  refine ⟨p, xs, rfl, sq_of hx, ?_⟩
  refine ⟨fun n m σ' H' => m = xs.length - n ∧ n ≤ xs.length ∧ Pv p n σ' H', ⟨xs.length, rfl, Nat.zero_le _, h0 p H1 hp e hx⟩, ?_⟩
  rintro n m σ' H' ⟨rfl, hn, pv⟩
  have q := hl p n σ' H' hn pv
  by_cases lt : n < xs.length
  · refine .inr ⟨⟨xs, xs[n], q, List.getElem?_eq_getElem lt⟩, Pv p (n + 1), fun σ2 H2 p2 => ⟨xs.length - (n + 1), by omega, rfl, lt, p2⟩, fun x H2 y => ?_⟩
    obtain ⟨T, x, rfl, hT, rfl, hx2⟩ := y
    exact ⟨T, [.int (n : Int), x], rfl, st_of upd_same, rfl, .int (n : Int), [x], rfl, x, [], rfl, rfl, hs p n x σ' H' _ (hx2 xs q) pv (Ex.new hT)⟩
  · have e2 : n = xs.length := by omega
    subst e2
    exact .inl ⟨⟨xs, q, Nat.le_refl _⟩, hd p σ' H' pv⟩
theorem Cw.later {f : Nat → Bool} {v : Nat → V} {Dl : Addr} {n : Nat} {H2 : Hp} (p : Cw H f v Dl n H') (e : Ex H' H2) : Cw H f v Dl n H2 :=
  ⟨p.1, p.2.1.trans e, e Dl _ p.2.2⟩
/-- [e for i, x in enumerate(xs) if t] -/
theorem el_lcE {ta : TA} {a : Addr} {xs : List V} {i j : Nat} {vs : List Nat} (f : Nat → Bool) (v : Nat → V) (h : EvA ta σ H [.ref a]) (hx : SqL K H a xs) (hz : xs.length ≤ 40000)
    (hw : ∀ x y, wipe (((wipe σ vs).set i (some x)).set j (some y)) vs = wipe σ vs)
    (ht : ∀ (n : Nat) (x : V) H1, Ex H H1 → xs[n]? = some x → EvT t (((wipe σ vs).set i (some (.int (n : Int)))).set j (some x)) H1 (f n))
    (he : ∀ (n : Nat) (x : V) H1, Ex H H1 → xs[n]? = some x → f n = true → Ev te (((wipe σ vs).set i (some (.int (n : Int)))).set j (some x)) H1 (v n)) :
    EvL (tLc (iEnum K ta) (gTup K 2 (gCons (gName i) (gCons (gName j) gNil))) t te vs) σ H (given xs.length f v) := fun H0 e Q q => by
  refine h H0 e _ fun H1 e1 => ⟨a, xs, rfl, ex_l (e.trans e1) hx, fun Dl hD => ?_⟩
  refine ⟨fun n m H' => m = xs.length - n ∧ n ≤ xs.length ∧ Cw H1 f v Dl n H', ⟨xs.length, rfl, Nat.zero_le _, hD, Ex.new hD, upd_same⟩, ?_⟩
  rintro n m H' ⟨rfl, hn, p⟩
  have hq := ex_l ((e.trans e1).trans p.2.1) hx
  by_cases lt : n < xs.length
  · refine .inr ⟨⟨xs, xs[n], hq, List.getElem?_eq_getElem lt⟩, fun H2 => Cw H1 f v Dl (n + 1) H2, fun H2 p2 => ⟨xs.length - (n + 1), by omega, rfl, lt, p2⟩, fun x H2 y => ?_⟩
    obtain ⟨T, x, rfl, hT, rfl, hx2⟩ := y
    have hxn := hx2 xs hq
    refine ⟨T, [.int (n : Int), x], rfl, st_of upd_same, rfl, .int (n : Int), [x], rfl, x, [], rfl, rfl, hw _ _, ?_⟩
    exact cw_turn (MuK.Cw.later p (Ex.new hT)) (by omega) (ht n x H1 (e.trans e1) hxn) fun hf => he n x H1 (e.trans e1) hxn hf
  · have e2 : n = xs.length := by omega
    subst e2
    exact .inl ⟨⟨xs, hq, Nat.le_refl _⟩, q Dl H' (fresh_back e1 p.1) (e1.trans p.2.1) p.2.2⟩
/-- the texts of the lists at ls -/
def LotAt (H : Hp) (ls : List (Addr × List Str)) : Prop := ∀ p ∈ ls, TxL H p.1 p.2
theorem LotAt.later {ls : List (Addr × List Str)} (h : LotAt H ls) (e : Ex H H') : LotAt H' ls := fun p m => e _ _ (h p m)
/-- [list(x) for x in lot] -/
theorem evx_copies {ls : List (Addr × List Str)} {a : Addr} {tl : TE} {j : Nat} {vs : List Nat} (h : Ev tl σ H (.ref a)) (hx : SqL K H a (ls.map fun p => V.ref p.1)) (hz : ls.length ≤ 40000)
    (hl : LotAt H ls) (hj : j < σ.length) (hw : ∀ x, wipe ((wipe σ vs).set j (some x)) vs = wipe σ vs) :
    EvX (tLc (iList K tl) (gName j) tYes (tCB (rListS K) (tCons (tVar j) tNil)) vs) σ H
      (fun v H' => ∃ (p : Addr) (cs : List (Addr × List Str)), v = .ref p ∧ H p = none ∧ H' p = some (.lst (cs.map fun p => V.ref p.1)) ∧ cs.map (·.2) = ls.map (·.2) ∧ LotAt H' cs ∧ ∀ c ∈ cs, H c.1 = none) := fun H0 e Q q => by
  refine h H0 e _ fun H1 e1 => ⟨a, rfl, ⟨_, ex_l (e.trans e1) hx⟩, fun Dl hD => ?_⟩
  have e01 := e.trans e1
  refine lc_list (xs := ls.map fun p => V.ref p.1)
    (fun n H' => Ex H1 H' ∧ ∃ cs : List (Addr × List Str), H' Dl = some (.lst (cs.map fun p => V.ref p.1)) ∧ cs.map (·.2) = (ls.take n).map (·.2) ∧ LotAt H' cs ∧ ∀ c ∈ cs, H1 c.1 = none ∧ c.1 ≠ Dl)
    ⟨Ex.new hD, [], upd_same, rfl, fun _ m => (nomatch m), fun _ m => nomatch m⟩ (fun n H' _ p => ex_l (e01.trans p.1) hx) (fun n x H' hn p => ?_) (fun H' p => ?_)
  · obtain ⟨e2, cs, hDl, hcs, hat, hnew⟩ := p
    obtain ⟨pr, hpr, rfl⟩ : ∃ pr, ls[n]? = some pr ∧ x = .ref pr.1 := by
      rw [List.getElem?_map] at hn
      cases y : ls[n]? with
      | none =>
        rw [y] at hn
        exact nomatch hn
      | some pr =>
        rw [y] at hn
        exact ⟨pr, rfl, (Option.some.inj hn).symm⟩
    have hm := List.mem_of_getElem? hpr
    have lt := (List.getElem?_eq_some_iff.mp hpr).1
    refine ⟨hw _, ?_⟩
    show tCB (rListS K) (tCons (tVar j) tNil) _ H' _
    refine ⟨.ref pr.1, ?_, pr.1, pr.2.map V.str, rfl, .inl (sq_of ((e01.trans e2) _ _ (hl pr hm))), fun c hc => ?_⟩
    · exact List.getElem?_set_self (by rw [wipe_length]; exact hj)
    · have hcD : c ≠ Dl := fun z => by
        rw [z, hDl] at hc
        exact nomatch hc
      have e3 : Ex H' (upd H' c (.lst (pr.2.map V.str))) := Ex.new hc
      have len : cs.length ≤ ls.length := by
        have := congrArg List.length hcs
        simp at this
        omega
      refine ⟨cs.map fun p => V.ref p.1, e3 _ _ hDl, by rw [List.length_map]; exact sz_lt (by omega), Ex.mut (e2.trans e3) hD, cs ++ [(c, pr.2)], ?_, ?_, fun p m => ?_, fun p m => ?_⟩
      · rw [upd_same, List.map_append]
        rfl
      · rw [List.map_append, hcs, List.take_succ_eq_append_getElem lt, List.map_append, (List.getElem?_eq_some_iff.mp hpr).2]
        rfl
      · rcases List.mem_append.mp m with m | m
        · exact (upd_ne (hnew p m).2).trans (e3 _ _ (hat p m))
        · obtain rfl := List.mem_singleton.mp m
          exact (upd_ne hcD).trans upd_same
      · rcases List.mem_append.mp m with m | m
        · exact hnew p m
        · obtain rfl := List.mem_singleton.mp m
          exact ⟨fresh_back e2 hc, hcD⟩
  · obtain ⟨e2, cs, hDl, hcs, hat, hnew⟩ := p
    rw [List.length_map, List.take_length] at hcs
    exact q _ _ (e1.trans e2) ⟨Dl, cs, rfl, fresh_back e01 hD, hDl, hcs, hat, fun c m => fresh_back e01 (hnew c m).1⟩
/-- a list and a new one, joined -/
theorem el_catS {xs ys : List V} {a : Addr} (ha : Ev ta σ H (.ref a)) (h0 : SqL K H a xs) (hb : EvL tb σ H ys) (hz : xs.length + ys.length ≤ 100000)
    (hK : ∀ H1, Ex H H1 → H1 a = some (.lst xs)) : EvL (tOp rCat ta tb) σ H (xs ++ ys) := el_catV ha (hK H (Ex.refl H)) hb hz
/-- the item by a number's rest -/
theorem atI_emod {xs : List V} {n : Int} (h : xs ≠ []) : ∃ x, atI xs (n % (xs.length : Int)) = some x ∧ x ∈ xs := by
  have h0 : 0 < xs.length := List.length_pos_iff.mpr h
  have h1 : 0 ≤ n % (xs.length : Int) := Int.emod_nonneg _ (by omega)
  have h2 : n % (xs.length : Int) < xs.length := Int.emod_lt_of_pos _ (by omega)
  have h3 : (((n % (xs.length : Int)).toNat : Nat) : Int) = n % (xs.length : Int) := Int.toNat_of_nonneg h1
  have h4 : (n % (xs.length : Int)).toNat < xs.length := by omega
  have h6 := atI_nat (List.getElem?_eq_getElem h4)
  rw [h3] at h6
  exact ⟨_, h6, List.getElem_mem h4⟩
theorem s_dputK {td ty tv : TE} {d : Addr} {kvs : List (Key × V)} {k : Key} (hd : H d = some (.dK kvs)) (hz : kvs.length < 100000) (hv : Ev tv σ H v) (ho : Ev td σ H (.ref d)) (hk : Ev ty σ H (kV k))
    (q : ∀ H1, Ex H H1 → D.nx σ (upd H1 d (.dK (putK kvs k v)))) : sDPut td ty tv D σ H := by
  refine hv H (Ex.refl H) _ fun H1 e1 => ho H1 e1 _ fun H2 e2 => hk H2 (e1.trans e2) _ fun H3 e3 => ?_
  have e := (e1.trans e2).trans e3
  exact ⟨d, _, rfl, DPut.k (e d _ hd) (sz_lt hz), q H3 e⟩
theorem inV_str {xs : List Str} {a : Str} : inV (.str a) (xs.map V.str) = decide (a ∈ xs) := by
  unfold inV
  rw [List.any_map, Bool.eq_iff_iff, List.any_eq_true, decide_eq_true_eq]
  constructor
  · rintro ⟨y, hy, e⟩
    have : y = a := by simpa [eqV] using e
    exact this ▸ hy
  · intro h
    exact ⟨a, h, by simp [eqV]⟩
end
end MuK

namespace MuK
open PySem PySem.Spec PyProof.Rows L2 Evl
section
variable {X : Cx}
/-- a list, and a list without items, compared -/
def rNil (K : PySem.W.Frag) (k : Bool) : R2 := fun x y H Q => ∃ (a b : Addr) (xs : List V), x = .ref a ∧ y = .ref b ∧ SqL K H a xs ∧ SqL K H b [] ∧ Q (.bl (k == xs.isEmpty)) H
theorem op_neNil (hu : X.A.units + 64 < cLine) : OpR X (compareOp .NotEq) (rNil X.K false) := by
  intro pins s σ H x y v u Q I rx ry h
  obtain ⟨a, b, xs, rfl, rfl, ha, hb, q⟩ := h
  obtain rfl : v = Value.ref a := rx
  obtain rfl : u = Value.ref b := ry
  obtain ⟨us, r1, p1, _⟩ := I.list ha
  obtain ⟨ws, r2, p2, _⟩ := I.list hb
  cases r2
  have hu2 : X.A.units < cLine := by omega
  cases r1 with
  | nil => exact SeqAt.RcNeAt.lists (e := fun _ => true) p1.isList p2.isList rfl hu2 (fun j h1 _ => absurd h1 (Nat.not_lt_zero j)) _ _ _ _ ⟨.bl false, H, I, rfl, q⟩
  | cons r rr => exact SeqAt.RcNeAt.lists_lengths p1.isList p2.isList (by simp) hu2 _ _ _ _ ⟨.bl true, H, I, rfl, q⟩
end
section
variable {K : PySem.W.Frag} {σ : L2.St} {H H' : Hp} {ta tb te : TE} {t u : TT} {x y z v : V} {D : Ends} {tu tw tz : TS} {R : V → Hp → Prop}
theorem ev_neNil {a : Addr} {xs : List V} (ha : Ev ta σ H (.ref a)) (hx : SqL K H a xs) (hb : EvL tb σ H []) : Ev (tOp (rNil K false) ta tb) σ H (.bl (!xs.isEmpty)) := fun H1 e Q q =>
  ha H1 e _ fun H2 e2 => hb H2 (e.trans e2) _ fun p H3 hp e3 h3 => ⟨a, p, xs, rfl, rfl, ex_l ((e.trans e2).trans e3) hx, sq_of h3, by
    have z : (false == xs.isEmpty) = !xs.isEmpty := by cases xs.isEmpty <;> rfl
    rw [z]
    exact q H3 (e2.trans e3)⟩
theorem el_listN {xs : List V} (ha : EvL ta σ H xs) : EvL (tCB (rListS K) (tCons ta tNil)) σ H xs := fun H1 e Q q =>
  ha H1 e _ fun p H2 hp e2 h2 => ⟨p, xs, rfl, .inl (sq_of h2), fun l hl => q l _ (fresh_back e2 hl) (e2.trans (Ex.new hl)) upd_same⟩
theorem sub_nodup {α : Type} {l m : List α} (h : l.Sublist m) (n : m.Nodup) : l.Nodup := n.sublist h
/-- words[at:] + words[:at] -/
theorem rot_str {us : List Str} {k : Nat} (hk : k ≤ us.length) : ∃ vs : List Str, cutV (us.map V.str) (some (k : Int)) none ++ cutV (us.map V.str) none (some (k : Int)) = vs.map V.str ∧ vs.Perm us := by
  refine ⟨us.drop k ++ us.take k, ?_, ?_⟩
  · unfold cutV
    rw [HT.sIx_nat, HT.sIx_nat, HT.sIx_none, HT.sIx_none, List.length_map, Nat.min_eq_left hk, List.map_append, List.map_drop, List.map_take, Nat.sub_zero, List.drop_zero]
    congr 1
    exact List.take_of_length_le (by simp)
  · exact List.perm_append_comm.trans (by rw [List.take_append_drop])
theorem nodup_bound {us ws : List Str} (nd : us.Nodup) (h : ∀ u ∈ us, u ∈ ws) : us.length ≤ ws.length := nodup_len nd h
theorem s_remS {l : Addr} {ws : List Str} {k : Str} (hl : TxL H l ws) (hk : k ∈ ws) (ha : Ev ta σ H (.ref l)) (h : Ev te σ H (.str k))
    (q : ∀ H1, Ex H H1 → D.nx σ (upd H1 l (.lst ((ws.erase k).map V.str)))) : tDrop (tBM K "list" rRemS ta (tCons te tNil)) D σ H := by
  refine ha H (Ex.refl H) _ fun H1 e1 => ⟨.inl ⟨rfl, _, sq_of (e1 l _ hl)⟩, ?_⟩
  refine h H1 e1 _ fun H2 e2 => ?_
  exact ⟨l, ws, k, rfl, rfl, (e1.trans e2) l _ hl, hk, q H2 (e1.trans e2)⟩
theorem s_appX {l : Addr} {xs : List V} (hl : H l = some (.lst xs)) (ha : Ev ta σ H (.ref l)) (h : EvX te σ H R) (hz : xs.length < 100000)
    (k : ∀ v H1, Ex H H1 → R v H1 → D.nx σ (upd H1 l (.lst (xs ++ [v])))) : tDrop (tBM K "list" rAppend ta (tCons te tNil)) D σ H := by
  refine ha H (Ex.refl H) _ fun H1 e1 => ⟨.inl ⟨rfl, xs, sq_of (e1 l _ hl)⟩, ?_⟩
  refine h H1 e1 _ fun v H2 e2 r => ?_
  exact ⟨l, xs, v, rfl, rfl, (e1.trans e2) l _ hl, sz_lt hz, k v H2 (e1.trans e2) r⟩
end
end MuK

namespace MuEq
open PySem PySem.Spec PyProof.Rows L2 PySem.SeqAt MeetsSeq
section
variable {P : Program} {w : World}
/-- what both tuples are, at the heap -/
def Two (s : Shared) (l b : Addr) (xs ys : Array Value) (n m : Nat) (d e : Option Addr) (sx sy : Array (Option Value)) : Prop :=
  s.heap.get? l = some { cls := .type "tuple", dict := d, data := .seq xs n, slots := sx } ∧
  s.heap.get? b = some { cls := .type "tuple", dict := e, data := .seq ys m, slots := sy }
theorem eq_all (l b : Addr) (xs ys : Array Value) (n m : Nat) (d e : Option Addr) (sx sy : Array (Option Value)) (hz : xs.size = ys.size) :
    MeetsIn P w (Builtin.«tuple.__eq__» ⟨[.ref l, .ref b], []⟩) (fun A R s => Two s l b xs ys n m d e sx sy ∧
      (∀ j (h1 : j < xs.size) (h2 : j < ys.size), EqP P w A.in1 s xs[j] ys[j] true) ∧ R (.ok (.ret (.bool true))) s) := by
  intro A R s h
  obtain ⟨hp, g, dr, tk, os⟩ := s
  obtain ⟨⟨hl, hb⟩, he, h⟩ := h
  have f2 := AutoSeq1.sub_tuple_tuple
  wp_walk using wpAny_loadPart' hl, wpAny_loadPart' hb, wpAny_forIn_list _ (fun rest b s' => b.1 = none ∧ s' = ⟨hp, g, dr, tk, os⟩ ∧ ∃ i, rest = (xs.toList.zip ys.toList).drop i) _
  case turn =>
    rintro ⟨y, x⟩ rest b s' ⟨hb', rfl, i, hr⟩
    have lt : i < (xs.toList.zip ys.toList).length := Nat.lt_of_not_le fun z => by
      rw [List.drop_of_length_le z] at hr
      exact nomatch hr
    have lt1 : i < xs.size := by
      simp at lt
      omega
    have lt2 : i < ys.size := by omega
    rw [List.drop_eq_getElem_cons lt] at hr
    obtain ⟨e1, e2⟩ := List.cons.inj hr
    have ey : y = xs[i] := by simpa using congrArg Prod.fst e1
    have ex : x = ys[i] := by simpa using congrArg Prod.snd e1
    subst ey ex
    refine wpAny_bind (he i lt1 lt2 _ _ ?_)
    wp_walk
    exact ⟨rfl, rfl, i + 1, e2⟩
  case fin =>
    rintro ⟨b1, b2⟩ s' ⟨hb', rfl, i, hr⟩
    obtain rfl : b1 = none := hb'
    wp_walk
    simpa [Builtin.Tuple.tupleCompareSizes, hz, bne] using h
  case h => exact ⟨rfl, rfl, 0, rfl⟩
theorem ne_all (l b : Addr) (xs ys : Array Value) (n m : Nat) (d e : Option Addr) (sx sy : Array (Option Value)) (hz : xs.size = ys.size) :
    MeetsIn P w (Builtin.«tuple.__ne__» ⟨[.ref l, .ref b], []⟩) (fun A R s => Two s l b xs ys n m d e sx sy ∧
      (∀ j (h1 : j < xs.size) (h2 : j < ys.size), EqP P w A.in1 s xs[j] ys[j] true) ∧ R (.ok (.ret (.bool false))) s) := by
  intro A R s h
  obtain ⟨hp, g, dr, tk, os⟩ := s
  obtain ⟨⟨hl, hb⟩, he, h⟩ := h
  have f2 := AutoSeq1.sub_tuple_tuple
  wp_walk using wpAny_loadPart' hl, wpAny_loadPart' hb, wpAny_forIn_list _ (fun rest b s' => b.1 = none ∧ s' = ⟨hp, g, dr, tk, os⟩ ∧ ∃ i, rest = (xs.toList.zip ys.toList).drop i) _
  case turn =>
    rintro ⟨y, x⟩ rest b s' ⟨hb', rfl, i, hr⟩
    have lt : i < (xs.toList.zip ys.toList).length := Nat.lt_of_not_le fun z => by
      rw [List.drop_of_length_le z] at hr
      exact nomatch hr
    have lt1 : i < xs.size := by
      simp at lt
      omega
    have lt2 : i < ys.size := by omega
    rw [List.drop_eq_getElem_cons lt] at hr
    obtain ⟨e1, e2⟩ := List.cons.inj hr
    have ey : y = xs[i] := by simpa using congrArg Prod.fst e1
    have ex : x = ys[i] := by simpa using congrArg Prod.snd e1
    subst ey ex
    refine wpAny_bind (he i lt1 lt2 _ _ ?_)
    wp_walk
    exact ⟨rfl, rfl, i + 1, e2⟩
  case fin =>
    rintro ⟨b1, b2⟩ s' ⟨hb', rfl, i, hr⟩
    obtain rfl : b1 = none := hb'
    wp_walk
    simpa [Builtin.Tuple.tupleCompareSizes, hz, bne] using h
  case h => exact ⟨rfl, rfl, 0, rfl⟩
end
section
variable {X : Cx}
/-- two pairs, their items equal by EqV -/
def rPair (K : PySem.W.Frag) (k : Bool) : R2 := fun x y H Q => ∃ (a b : Addr) (x1 x2 y1 y2 : V) (n : Nat), x = .ref a ∧ y = .ref b ∧ SqT K H a [x1, x2] ∧ SqT K H b [y1, y2] ∧ n ≤ 50 ∧ EqV K H n x1 y1 ∧ EqV K H n x2 y2 ∧ Q (.bl k) H
theorem pair_items {pins : List (Addr × Obj)} {σ : L2.St} {H : Hp} {s : Shared} {x1 x2 y1 y2 : V} {n : Nat} {us ws : List Value} (I : Inv X pins σ H s) {A : Around} (hu : A.units + n < cLine)
    (r1 : Vals [x1, x2] us) (r2 : Vals [y1, y2] ws) (h1 : EqV X.K H n x1 y1) (h2 : EqV X.K H n x2 y2) :
    us.length = ws.length ∧ ∀ j (l1 : j < us.toArray.size) (l2 : j < ws.toArray.size), EqP X.prog X.w A s us.toArray[j] ws.toArray[j] true := by
  cases r1 with
  | cons a1 r1 =>
    cases r1 with
    | cons a2 r1 =>
      cases r1
      cases r2 with
      | cons b1 r2 =>
        cases r2 with
        | cons b2 r2 =>
          cases r2
          refine ⟨rfl, fun j l1 l2 => ?_⟩
          match j, l1, l2 with
          | 0, _, _ => exact eqV_run I n A hu _ _ _ _ h1 a1 b1
          | 1, _, _ => exact eqV_run I n A hu _ _ _ _ h2 a2 b2
          | j + 2, l1, _ => exact absurd l1 (by simp)
theorem op_eqPair (hu : X.A.units + 64 < cLine) : OpR X (compareOp .Eq) (rPair X.K true) := by
  intro pins s σ H x y v u Q I rx ry h
  obtain ⟨a, b, x1, x2, y1, y2, n, rfl, rfl, ha, hb, hn, h1, h2, q⟩ := h
  obtain rfl : v = Value.ref a := rx
  obtain rfl : u = Value.ref b := ry
  obtain ⟨us, r1, ⟨o1, g1, c1, m1, d1⟩, _⟩ := I.tuple ha
  obtain ⟨ws, r2, ⟨o2, g2, c2, m2, d2⟩, _⟩ := I.tuple hb
  obtain ⟨len, items⟩ := pair_items I (A := X.A.in1) (show X.A.units + 1 + n < cLine by omega) r1 r2 h1 h2
  obtain ⟨cls1, dd1, data1, sl1⟩ := o1
  obtain ⟨cls2, dd2, data2, sl2⟩ := o2
  obtain rfl : cls1 = _ := c1
  obtain rfl : cls2 = _ := c2
  obtain rfl : data1 = _ := d1
  obtain rfl : data2 = _ := d2
  have ta : s.TypeIs (.ref a) "tuple" := ⟨_, g1, rfl⟩
  have tb : s.TypeIs (.ref b) "tuple" := ⟨_, g2, rfl⟩
  refine wpAny_richCompare_same_room (op := .Eq) ta tb F.slot_tuple_eq (call_meetsIn F.slot_tuple_eq ta F.entry_tuple_eq (F.args_tuple_eq_2 _ _) (eq_all a b us.toArray ws.toArray _ _ _ _ _ _ (by simpa using len)) ⟨⟨g1, g2⟩, items, ?_⟩) (by omega)
  exact ⟨fun z => (nomatch z), .bl true, H, I, rfl, q⟩
theorem op_nePair (hu : X.A.units + 64 < cLine) : OpR X (compareOp .NotEq) (rPair X.K false) := by
  intro pins s σ H x y v u Q I rx ry h
  obtain ⟨a, b, x1, x2, y1, y2, n, rfl, rfl, ha, hb, hn, h1, h2, q⟩ := h
  obtain rfl : v = Value.ref a := rx
  obtain rfl : u = Value.ref b := ry
  obtain ⟨us, r1, ⟨o1, g1, c1, m1, d1⟩, _⟩ := I.tuple ha
  obtain ⟨ws, r2, ⟨o2, g2, c2, m2, d2⟩, _⟩ := I.tuple hb
  obtain ⟨len, items⟩ := pair_items I (A := X.A.in1) (show X.A.units + 1 + n < cLine by omega) r1 r2 h1 h2
  obtain ⟨cls1, dd1, data1, sl1⟩ := o1
  obtain ⟨cls2, dd2, data2, sl2⟩ := o2
  obtain rfl : cls1 = _ := c1
  obtain rfl : cls2 = _ := c2
  obtain rfl : data1 = _ := d1
  obtain rfl : data2 = _ := d2
  have ta : s.TypeIs (.ref a) "tuple" := ⟨_, g1, rfl⟩
  have tb : s.TypeIs (.ref b) "tuple" := ⟨_, g2, rfl⟩
  refine wpAny_richCompare_same_room (op := .NotEq) ta tb F.slot_tuple_ne (call_meetsIn F.slot_tuple_ne ta F.entry_tuple_ne (F.args_tuple_ne_2 _ _) (ne_all a b us.toArray ws.toArray _ _ _ _ _ _ (by simpa using len)) ⟨⟨g1, g2⟩, items, ?_⟩) (by omega)
  exact ⟨fun z => (nomatch z), .bl false, H, I, rfl, q⟩
end
end MuEq

namespace MuK
open PySem PySem.Spec PyProof.Rows L2 Evl
/-! ### texts in order -/
abbrev leT (a b : Str) : Prop := ltCps b.cps.toList a.cps.toList = false
theorem lt_tri : ∀ a b : List Nat, ltCps a b = false → ltCps b a = false → a = b
  | [], [], _, _ => rfl
  | [], _ :: _, h, _ => by simp [ltCps] at h
  | _ :: _, [], _, h => by simp [ltCps] at h
  | a :: r, b :: t, h, k => by
    simp only [ltCps, Bool.or_eq_false_iff, decide_eq_false_iff_not, Bool.and_eq_false_iff, beq_eq_false_iff_ne] at h k
    have e : a = b := by omega
    subst e
    rw [lt_tri r t (h.2.resolve_left fun z => z rfl) (k.2.resolve_left fun z => z rfl)]
theorem le_tr : ∀ a b c : List Nat, ltCps b a = false → ltCps c b = false → ltCps c a = false
  | [], _, [], _, _ => rfl
  | [], _, _ :: _, _, _ => rfl
  | _ :: _, [], _, h, _ => by simp [ltCps] at h
  | _ :: _, _ :: _, [], _, h => by simp [ltCps] at h
  | a :: r, b :: t, c :: u, h, k => by
    simp only [ltCps, Bool.or_eq_false_iff, decide_eq_false_iff_not, Bool.and_eq_false_iff, beq_eq_false_iff_ne] at h k ⊢
    refine ⟨by omega, ?_⟩
    by_cases e : c = a
    · subst e
      have e2 : b = c := by omega
      subst e2
      exact .inr (le_tr r t u (h.2.resolve_left fun z => z rfl) (k.2.resolve_left fun z => z rfl))
    · exact .inl e
theorem rising_pair : ∀ (l : List Str) (p : Str), risingS p l = true → (p :: l).Pairwise leT
  | [], p, _ => List.pairwise_singleton _ _
  | x :: r, p, h => by
    have h' : (!ltCps x.cps.toList p.cps.toList && risingS x r) = true := h
    rw [Bool.and_eq_true, Bool.not_eq_true'] at h'
    have ih := rising_pair r x h'.2
    refine List.pairwise_cons.mpr ⟨fun y hy => ?_, ih⟩
    rcases List.mem_cons.mp hy with e | e
    · rw [e]
      exact h'.1
    · exact le_tr _ _ _ h'.1 ((List.pairwise_cons.mp ih).1 y e)
theorem sorted_pair {l : List Str} (h : sortedS l = true) : l.Pairwise leT := by
  cases l with
  | nil => exact List.Pairwise.nil
  | cons x r => exact rising_pair r x h
theorem sorted_one : ∀ {l m : List Str}, l.Pairwise leT → m.Pairwise leT → l.Perm m → l = m
  | [], m, _, _, h => h.nil_eq
  | a :: l, [], _, _, h => absurd h.length_eq (by simp)
  | a :: l, b :: m, hl, hm, h => by
    have e : a = b := by
      have ha : a ∈ b :: m := h.mem_iff.mp List.mem_cons_self
      have hb : b ∈ a :: l := h.mem_iff.mpr List.mem_cons_self
      rcases List.mem_cons.mp ha with z | z
      · exact z
      · rcases List.mem_cons.mp hb with y | y
        · exact y.symm
        · have q := lt_tri _ _ ((List.pairwise_cons.mp hm).1 a z) ((List.pairwise_cons.mp hl).1 b y)
          obtain ⟨a⟩ := a
          obtain ⟨b⟩ := b
          exact congrArg Str.mk (Array.ext' q)
    subst e
    rw [sorted_one (List.pairwise_cons.mp hl).2 (List.pairwise_cons.mp hm).2 h.cons_inv]
/-- what is sorted, of the same texts each once, is the same -/
theorem sorted_same {l m : List Str} (hl : sortedS l = true) (hm : sortedS m = true) (n1 : l.Nodup) (n2 : m.Nodup) (h : ∀ j, j ∈ l ↔ j ∈ m) : l = m :=
  sorted_one (sorted_pair hl) (sorted_pair hm) ((List.perm_ext_iff_of_nodup n1 n2).mpr h)
end MuK

namespace MuK
open PySem PySem.Spec PyProof.Rows L2 Evl MuEq
section
variable {X : Cx}
/-- two lists of the same texts -/
def rSame (K : PySem.W.Frag) (k : Bool) : R2 := fun x y H Q => ∃ (a b : Addr) (ws : List Str), x = .ref a ∧ y = .ref b ∧ SqL K H a (ws.map V.str) ∧ SqL K H b (ws.map V.str) ∧ Q (.bl k) H
theorem op_neSame (hu : X.A.units + 64 < cLine) : OpR X (compareOp .NotEq) (rSame X.K false) := by
  intro pins s σ H x y v u Q I rx ry h
  obtain ⟨a, b, ws, rfl, rfl, ha, hb, q⟩ := h
  obtain rfl : v = Value.ref a := rx
  obtain rfl : u = Value.ref b := ry
  obtain ⟨us, r1, p1, _⟩ := I.list ha
  obtain ⟨vs, r2, p2, _⟩ := I.list hb
  have hu2 : X.A.units < cLine := by omega
  have l1 := r1.length
  have l2 := r2.length
  rw [List.length_map] at l1 l2
  refine SeqAt.RcNeAt.lists (e := fun _ => true) p1.isList p2.isList (by simp; omega) hu2 (fun j h1 h2 => ?_) _ _ _ _ ?_
  · have lt : j < ws.length := by
      simp at h1
      omega
    have ej : (ws.map V.str)[j]? = some (V.str ws[j]) := by
      rw [List.getElem?_map, List.getElem?_eq_getElem lt]
      rfl
    obtain ⟨w1, e1, q1⟩ := r1.get ej
    obtain ⟨w2, e2, q2⟩ := r2.get ej
    have g1 : us.toArray[j] = w1 := by simpa using (List.getElem?_eq_some_iff.mp e1).2
    have g2 : vs.toArray[j] = w2 := by simpa using (List.getElem?_eq_some_iff.mp e2).2
    rw [g1, g2]
    exact eqAt_same q1 q2 rfl
  · rw [show ((List.range us.toArray.size).all fun _ => true) = true from List.all_eq_true.mpr fun _ _ => rfl]
    exact ⟨.bl false, H, I, rfl, q⟩
end
section
variable {K : PySem.W.Frag} {σ : L2.St} {H H' : Hp} {ta tb te : TE} {t u : TT} {x y z v : V} {D : Ends} {tu tw tz : TS} {R : V → Hp → Prop}
theorem ev_neSame {a b : Addr} {ws : List Str} (ha : Ev ta σ H (.ref a)) (hb : Ev tb σ H (.ref b)) (h1 : SqL K H a (ws.map V.str)) (h2 : SqL K H b (ws.map V.str)) :
    Ev (tOp (rSame K false) ta tb) σ H (.bl false) := ev_op ha hb fun H1 e Q q => ⟨a, b, ws, rfl, rfl, ex_l e h1, ex_l e h2, q H1 (Ex.refl H1)⟩
theorem ev_pair {k : Bool} {a : Addr} {x1 x2 y1 y2 : V} {n : Nat} (ha : Ev ta σ H (.ref a)) (h1 : SqT K H a [x1, x2]) (hb : EvU tb σ H [y1, y2]) (hn : n ≤ 50)
    (e1 : ∀ H1, Ex H H1 → EqV K H1 n x1 y1) (e2 : ∀ H1, Ex H H1 → EqV K H1 n x2 y2) : Ev (tOp (rPair K k) ta tb) σ H (.bl k) :=
  ev_opU ha hb fun p H1 hp e H2 e3 Q q => ⟨a, p, x1, x2, y1, y2, n, rfl, rfl, ex_t (e.trans e3) h1, st_of (e3 p _ hp), hn, e1 H2 (e.trans e3), e2 H2 (e.trans e3), q H2 (Ex.refl H2)⟩
theorem texts_eq {n : Nat} : ∀ ws : List Str, Paired (EqV K H (n + 1)) (ws.map V.str) (ws.map V.str)
  | [] => .nil
  | a :: r => .cons (.inl ⟨rfl, rfl⟩) (texts_eq r)
theorem refs_eq : ∀ {cs ls : List (Addr × List Str)}, cs.map (·.2) = ls.map (·.2) → LotAt H cs → LotAt H ls →
    Paired (EqV K H 2) (cs.map fun p => V.ref p.1) (ls.map fun p => V.ref p.1)
  | [], [], _, _, _ => .nil
  | [], _ :: _, h, _, _ => nomatch h
  | _ :: _, [], h, _, _ => nomatch h
  | c :: cs, l :: ls, h, hc, hl => by
    obtain ⟨h1, h2⟩ := List.cons.inj h
    refine .cons (.inr (.inr (.inl ⟨c.1, l.1, c.2.map V.str, l.2.map V.str, rfl, rfl, sq_of (hc c List.mem_cons_self), sq_of (hl l List.mem_cons_self), ?_⟩))) (refs_eq h2 (fun p m => hc p (List.mem_cons_of_mem _ m)) fun p m => hl p (List.mem_cons_of_mem _ m))
    rw [show c.2 = l.2 from h1]
    exact texts_eq _
theorem lot_eq {p q : Addr} {cs ls : List (Addr × List Str)} (hp : H p = some (.lst (cs.map fun p => V.ref p.1))) (hq : H q = some (.lst (ls.map fun p => V.ref p.1)))
    (he : cs.map (·.2) = ls.map (·.2)) (hc : LotAt H cs) (hl : LotAt H ls) : EqV K H 3 (.ref p) (.ref q) :=
  .inr (.inr (.inl ⟨p, q, _, _, rfl, rfl, sq_of hp, sq_of hq, refs_eq he hc hl⟩))
theorem dict_eq {p q : Addr} {kvs : List (Key × V)} (hp : H p = some (.dK kvs)) (hq : H q = some (.dK kvs)) (nd : (kvs.map (·.1)).Nodup) (hi : IntD kvs) : EqV K H 3 (.ref p) (.ref q) :=
  .inr (.inr (.inr ⟨p, q, kvs, kvs, rfl, rfl, hp, hq, rfl, fun kv m => ⟨kv.2, val_nodup nd kv m, .inl ⟨rfl, by
    obtain ⟨z, e⟩ := hi kv m
    rw [e]
    rfl⟩⟩⟩))
theorem putK_nd {kvs : List (Key × V)} (h : (kvs.map (·.1)).Nodup) (k : Key) (v : V) : ((putK kvs k v).map (·.1)).Nodup := by
  unfold putK
  split
  · rw [List.map_map]
    have e : kvs.map ((fun x : Key × V => x.1) ∘ fun kv => if kv.1 = k then (kv.1, v) else kv) = kvs.map (·.1) := by
      apply List.map_congr_left
      intro kv _
      show (if kv.1 = k then (kv.1, v) else kv).1 = kv.1
      split <;> rfl
    rw [e]
    exact h
  · rename_i hn
    rw [List.map_append]
    refine List.nodup_append.mpr ⟨h, by simp, fun a ha b hb z => hn ?_⟩
    obtain ⟨kv, m, rfl⟩ := List.mem_map.mp ha
    have hb' : b = k := by simpa using hb
    exact List.any_eq_true.mpr ⟨kv, m, decide_eq_true (z.trans hb')⟩
/-- a pair of two new things -/
theorem evx_tup2 {R1 : V → Hp → Prop} {R2' : V → V → Hp → Prop} (h1 : EvX ta σ H R1) (h2 : ∀ v1 H1, Ex H H1 → R1 v1 H1 → EvX tb σ H1 (R2' v1)) :
    EvX (tTup (tCons ta (tCons tb tNil))) σ H (fun v H' => ∃ (p : Addr) (v1 v2 : V), v = .ref p ∧ H p = none ∧ H' p = some (.tup [v1, v2]) ∧ ∃ H1 H2, Ex H H1 ∧ R1 v1 H1 ∧ Ex H1 H2 ∧ R2' v1 v2 H2 ∧ Ex H2 H') := fun H0 e Q q =>
  h1 H0 e _ fun v1 H1 e1 r1 => h2 v1 H1 (e.trans e1) r1 H1 (Ex.refl H1) _ fun v2 H2 e2 r2 => ⟨sz_of (by simp), fun p hp =>
    q (.ref p) _ ((e1.trans e2).trans (Ex.new hp)) ⟨p, v1, v2, rfl, fresh_back ((e.trans e1).trans e2) hp, upd_same, H1, H2, e.trans e1, r1, e2, r2, Ex.new hp⟩⟩
/-- .. [0].append(None), of something new -/
theorem q_appNew {l : Addr → List V → Prop} (h : EvX ta σ H (fun v H' => ∃ (p : Addr) (xs : List V), v = .ref p ∧ H p = none ∧ H' p = some (.lst xs) ∧ xs.length ≤ 90000)) (hv : ∀ H1, Ex H H1 → Ev te σ H1 v)
    (k : ∀ H1, Ex H H1 → tz D σ H1) : tSeq (tDrop (tBM K "list" rAppend ta (tCons te tNil))) tz D σ H := by
  refine h H (Ex.refl H) _ fun w H1 e1 r => ?_
  obtain ⟨p, xs, rfl, hp, h1, hz⟩ := r
  refine ⟨.inl ⟨rfl, xs, sq_of h1⟩, ?_⟩
  refine hv H1 e1 H1 (Ex.refl H1) _ fun H2 e2 => ?_
  exact ⟨p, xs, _, rfl, rfl, e2 p _ h1, sz_lt (by omega), k _ (Ex.mut (e1.trans e2) hp)⟩
theorem evx_sorted {xs : List Str} (h : EvL te σ H (xs.map V.str)) (hz : xs.length < 64) : EvX (tCB (rSortedS K) (tCons te tNil)) σ H
    (fun v H' => ∃ (p : Addr) (ys : List Str), v = .ref p ∧ H p = none ∧ TxL H' p ys ∧ ys.Perm xs ∧ sortedS ys = true) := fun H0 e Q q =>
  h H0 e _ fun a H1 ha e1 h1 => ⟨a, xs, rfl, sq_of h1, hz, fun ys p pe so hp => q _ _ (e1.trans (Ex.new hp)) ⟨p, ys, rfl, fresh_back (e.trans e1) hp, upd_same, pe, so⟩⟩
theorem ev_callN {Dd : Hp → List V → V → Prop} {E : XK} {tr : TA} {vs xs : List V} (h : EvL te σ H xs) (hr : EvA tr σ H vs) (hs : ∀ p H1, Ex H H1 → H1 p = some (.lst xs) → Dd H1 (.ref p :: vs) v) : Ev (tCall (SpVal Dd) [] E (tCons te tr)) σ H v := fun H1 e Q q =>
  h H1 e _ fun p H2 _ e2 hp => hr H2 (e.trans e2) _ fun H3 e3 => ⟨v, by rw [List.append_nil]; exact hs p H3 ((e.trans e2).trans e3) (e3 p _ hp), fun H4 e4 => q H4 ((e2.trans e3).trans e4)⟩
theorem ev_lenS {a : Str} {r : List V → Hp → VK → Prop} (ha : Ev ta σ H (.str a)) (hz : a.length ≤ 100000) (hr : r = (fun xs H Q => ∃ x, xs = [V.str x] ∧ x.length ≤ sizeLine ∧ Q (.int x.length) H) := by rfl) : Ev (tCB r (tCons ta tNil)) σ H (.int (a.length : Int)) := by
  subst hr
  exact fun H1 e Q q => ha H1 e _ fun H2 e2 => ⟨a, rfl, sz_of hz, q H2 e2⟩
/-- words and their weights -/
def WD (Pw : Str → Prop) (kvs : List (Key × V)) : Prop := ∀ kv ∈ kvs, ∃ u z, kv = (.inr u, .int z) ∧ Pw u ∧ 1 ≤ z ∧ z ≤ 1000000
theorem WD.int {Pw : Str → Prop} {kvs : List (Key × V)} (h : WD Pw kvs) : IntD kvs := fun kv m => by
  obtain ⟨u, z, rfl, _⟩ := h kv m
  exact ⟨z, rfl⟩
theorem lock_back {d : Addr} {o u : HO} (hd : H d = some o) (e : Ex (upd H d u) H') : Ex H (upd H' d o) := fun a x hx => by
  by_cases z : a = d
  · subst z
    rw [hd] at hx
    rw [upd_same]
    exact hx
  · rw [upd_ne z]
    exact e a x ((upd_ne z).trans hx)
/-- for k, v in d.items(), d locked -/
theorem s_forItems {td : TE} {d : Addr} {kvs : List (Key × V)} {i j : Nat} (hd : H d = some (.dK kvs)) (h : ∀ H1, Ev td σ H1 (.ref d)) (Pv : Nat → L2.St → Hp → Prop)
    (h0 : ∀ od H1, Ex (upd H d (.frz od (.dK kvs))) H1 → Pv 0 σ H1) (hl : ∀ od n σ' H', n ≤ kvs.length → Pv n σ' H' → Ex (upd H d (.frz od (.dK kvs))) H' → True)
    (hs : ∀ od n k x σ' H' H2, kvs[n]? = some (k, x) → Pv n σ' H' → Ex (upd H d (.frz od (.dK kvs))) H' → Ex H' H2 →
      tu { D with nx := fun σ3 H3 => Pv (n + 1) σ3 H3 ∧ Ex (upd H d (.frz od (.dK kvs))) H3, ct := fun σ3 H3 => Pv (n + 1) σ3 H3 ∧ Ex (upd H d (.frz od (.dK kvs))) H3, bk := fun σ' H' => H' d = some (.frz od (.dK kvs)) ∧ D.nx σ' (upd H' d (.dK kvs)), rt := fun v H' => H' d = some (.frz od (.dK kvs)) ∧ D.rt v (upd H' d (.dK kvs)) } ((σ'.set i (some (kV k))).set j (some x)) H2)
    (hdn : ∀ σ' H', Pv kvs.length σ' H' → Ex H (upd H' d (.dK kvs)) → D.nx σ' (upd H' d (.dK kvs))) :
    tLock (tFor (iItems td) (gTup K 2 (gCons (gName i) (gCons (gName j) gNil))) tu) D σ H := by
  refine ⟨d, .dK kvs, hd, True.intro, fun od => ?_⟩
  refine h _ _ (Ex.refl _) _ fun H1 e1 => ⟨d, od, kvs, rfl, e1 d _ upd_same, ?_⟩
  refine ⟨fun n m σ' H' => m = kvs.length - n ∧ n ≤ kvs.length ∧ Pv n σ' H' ∧ Ex (upd H d (.frz od (.dK kvs))) H', ⟨kvs.length, rfl, Nat.zero_le _, h0 od H1 e1, e1⟩, ?_⟩
  rintro n m σ' H' ⟨rfl, hn, p, e⟩
  have q := e d _ upd_same
  by_cases lt : n < kvs.length
  · refine .inr ⟨⟨q, lt⟩, fun σ3 H3 => Pv (n + 1) σ3 H3 ∧ Ex (upd H d (.frz od (.dK kvs))) H3, fun σ2 H2 p2 => ⟨kvs.length - (n + 1), by omega, rfl, lt, p2.1, p2.2⟩, fun x H2 y => ?_⟩
    obtain ⟨T, k, v, hk, rfl, hT, rfl⟩ := y
    exact ⟨T, [kV k, v], rfl, st_of upd_same, rfl, kV k, [v], rfl, v, [], rfl, rfl, hs od n k v σ' H' _ hk p e (Ex.new hT)⟩
  · have e2 : n = kvs.length := by omega
    subst e2
    exact .inl ⟨⟨q, Nat.le_refl _⟩, q, hdn σ' H' p (lock_back hd e)⟩
end
end MuK

namespace MuK
open PySem PySem.Spec PyProof.Rows L2 Evl
/-! ### words -/
def signsS : Str := "abcdefghijklmnopqrstuvwxyz0123456789."
def sgn (z : Int) : Nat := signsS.cps.toList.getD (z % 37).toNat 0
theorem signs_len : signsS.cps.toList.length = 37 := by decide +kernel
theorem signs_nd : signsS.cps.toList.Nodup := by decide +kernel
theorem sgn_inj {x y : Int} (h : sgn x = sgn y) : x % 37 = y % 37 := by
  have hx : (x % 37).toNat < 37 := by omega
  have hy : (y % 37).toNat < 37 := by omega
  unfold sgn at h
  rw [List.getD_eq_getElem?_getD, List.getD_eq_getElem?_getD, List.getElem?_eq_getElem (by rw [signs_len]; exact hx), List.getElem?_eq_getElem (by rw [signs_len]; exact hy)] at h
  have := (List.getElem_inj signs_nd).mp (show signsS.cps.toList[(x % 37).toNat]'(by rw [signs_len]; exact hx) = signsS.cps.toList[(y % 37).toNat]'(by rw [signs_len]; exact hy) from h)
  omega
theorem sgn_at (z : Int) : atI signsS.cps.toList (z % 37) = some (sgn z) := atI_mod (m := 37) 0 signs_len (by decide)
theorem sgn_in (z : Int) : sgn z ∈ signsS.cps.toList := by
  have h : (z % 37).toNat < signsS.cps.toList.length := by
    rw [signs_len]
    omega
  unfold sgn
  rw [List.getD_eq_getElem?_getD, List.getElem?_eq_getElem h]
  exact List.getElem_mem h
def WordOk (w : Str) : Prop := 1 ≤ w.length ∧ w.length ≤ 30 ∧ ∀ c ∈ w.cps.toList, c ∈ signsS.cps.toList
def TailOk (w : Str) : Prop := w.length ≤ 29 ∧ ∀ c ∈ w.cps.toList, c ∈ signsS.cps.toList
instance (w : Str) : Decidable (TailOk w) := inferInstanceAs (Decidable (_ ∧ _))
instance (w : Str) : Decidable (WordOk w) := inferInstanceAs (Decidable (_ ∧ _ ∧ _))
theorem tail_of {w : Str} {l : List Nat} (hz : l.length ≤ 29) (h : ∀ c ∈ l, c ∈ signsS.cps.toList) (e : w.cps.toList = l := by rfl) : TailOk w := by
  refine ⟨?_, fun c m => h c (e ▸ m)⟩
  show w.cps.size ≤ 29
  rw [← Array.length_toList, e]
  exact hz
theorem word_ok {c : Nat} {t : Str} (hc : c ∈ signsS.cps.toList) (h : TailOk t) : WordOk ((⟨#[c]⟩ : Str) ++ t) := by
  have e : ((⟨#[c]⟩ : Str) ++ t).cps.toList = c :: t.cps.toList := by
    show ((#[c] : Array Nat) ++ t.cps).toList = _
    simp
  have z : ((⟨#[c]⟩ : Str) ++ t).length = t.length + 1 := by
    show ((⟨#[c]⟩ : Str) ++ t).cps.size = t.cps.size + 1
    rw [← Array.length_toList, e, List.length_cons, Array.length_toList]
  refine ⟨by omega, by have := h.1; omega, fun x m => ?_⟩
  rw [e] at m
  rcases List.mem_cons.mp m with y | y
  · exact y ▸ hc
  · exact h.2 x y
theorem word_all {w : Str} (h : WordOk w) : (w.cps.toList.all fun c => decide (c ∈ signsS.cps.toList)) = true := List.all_eq_true.mpr fun c m => decide_eq_true (h.2.2 c m)
end MuK

namespace MuK
open PySem PySem.Spec PyProof.Rows L2 Evl
/-! ### what sets weigh -/
theorem wOf_bd {Pw : Str → Prop} {kvs : List (Key × V)} (h : WD Pw kvs) (a : Str) : 1 ≤ wOf kvs a ∧ wOf kvs a ≤ 1000000 := by
  unfold wOf
  cases e : valV kvs (.inr a) with
  | none => exact ⟨by decide, by decide⟩
  | some u =>
    unfold valV at e
    cases f : kvs.find? fun kv => decide (kv.1 = Sum.inr a) with
    | none =>
      rw [f] at e
      exact nomatch e
    | some kv =>
      rw [f] at e
      obtain ⟨x, z, rfl, _, z1, z2⟩ := h kv (List.mem_of_find?_eq_some f)
      obtain rfl : V.int z = u := Option.some.inj e
      exact ⟨z1, z2⟩
theorem heavy_bd {Pw : Str → Prop} {kvs : List (Key × V)} (h : WD Pw kvs) : ∀ ws : List Str, 0 ≤ heavy kvs ws ∧ heavy kvs ws ≤ 1000000 * ws.length
  | [] => ⟨Int.le_refl 0, by show (0 : Int) ≤ 1000000 * ((0 : Nat) : Int); decide⟩
  | a :: r => by
    have ih := heavy_bd h r
    have b := wOf_bd h a
    have e : heavy kvs (a :: r) = wOf kvs a + heavy kvs r := rfl
    rw [e, List.length_cons]
    omega
theorem heavy_sub {Pw : Str → Prop} {kvs : List (Key × V)} (h : WD Pw kvs) {us ws : List Str} (s : us.Sublist ws) : heavy kvs us ≤ heavy kvs ws := by
  induction s with
  | slnil => exact Int.le_refl _
  | cons a _ ih =>
    have b := wOf_bd h a
    show _ ≤ wOf kvs a + heavy kvs _
    omega
  | cons_cons a _ ih =>
    show wOf kvs a + heavy kvs _ ≤ wOf kvs a + heavy kvs _
    omega
theorem heavy_perm {kvs : List (Key × V)} {us ws : List Str} (p : us.Perm ws) : heavy kvs us = heavy kvs ws := by
  induction p with
  | nil => rfl
  | cons a _ ih =>
    show wOf kvs a + heavy kvs _ = wOf kvs a + heavy kvs _
    rw [ih]
  | swap a b l =>
    show wOf kvs b + (wOf kvs a + heavy kvs l) = wOf kvs a + (wOf kvs b + heavy kvs l)
    omega
  | trans _ _ i1 i2 => exact i1.trans i2
theorem heavy_le {Pw : Str → Prop} {kvs : List (Key × V)} (h : WD Pw kvs) : ∀ {us ws : List Str}, us.Nodup → (∀ u ∈ us, u ∈ ws) → heavy kvs us ≤ heavy kvs ws
  | [], ws, _, _ => (heavy_bd h ws).1
  | a :: r, ws, nd, s => by
    obtain ⟨n1, n2⟩ := List.nodup_cons.mp nd
    have pm := heavy_perm (kvs := kvs) (List.perm_cons_erase (s a List.mem_cons_self))
    have ih := heavy_le h (us := r) (ws := ws.erase a) n2 fun u hu => by
      have ne : u ≠ a := fun z => n1 (z ▸ hu)
      exact (List.mem_erase_of_ne ne).mpr (s u (List.mem_cons_of_mem _ hu))
    have e1 : heavy kvs (a :: r) = wOf kvs a + heavy kvs r := rfl
    have e2 : heavy kvs (a :: ws.erase a) = wOf kvs a + heavy kvs (ws.erase a) := rfl
    omega
theorem sok_of {Pw : Str → Prop} {kvs : List (Key × V)} (h : WD Pw kvs) {la lb : List Str} (na : la.Nodup) (za : la.length ≤ 30) (zb : lb.length ≤ 30) :
    SOk (heavy kvs la) (heavy kvs lb) (heavy kvs (la.filter fun u => decide (u ∈ lb))) := by
  have b1 := heavy_bd h la
  have b2 := heavy_bd h lb
  have b3 := heavy_bd h (la.filter fun u => decide (u ∈ lb))
  have l1 := heavy_sub h (List.filter_sublist (l := la) (p := fun u => decide (u ∈ lb)))
  have l2 := heavy_le h (us := la.filter fun u => decide (u ∈ lb)) (ws := lb) (na.filter _) fun u hu => of_decide_eq_true (List.mem_filter.mp hu).2
  have p : (30000000 : Int) ≤ 2 ^ 200 := by decide +kernel
  exact ⟨⟨b1.1, by omega, b2.1, by omega, b3.1, by omega⟩, l1, l2⟩
section
variable {K : PySem.W.Frag} {σ : L2.St} {H H' : Hp} {ta tb te : TE} {t u : TT} {x y z v : V} {D : Ends} {tu tw tz : TS} {R : V → Hp → Prop}
theorem q_unpX {i j : Nat} {R2 : V → V → Hp → Prop} (h : EvX te σ H (fun v H' => ∃ (t : Addr) (x y : V), v = .ref t ∧ SqT K H' t [x, y] ∧ R2 x y H'))
    (k : ∀ x y H1, Ex H H1 → R2 x y H1 → tz D ((σ.set i (some x)).set j (some y)) H1) : tSeq (tAsg te (gTup K 2 (gCons (gName i) (gCons (gName j) gNil)))) tz D σ H :=
  h H (Ex.refl H) _ fun v H1 e r => by
    obtain ⟨t, x, y, rfl, hq, r⟩ := r
    exact ⟨t, [x, y], rfl, hq, rfl, x, [y], rfl, y, [], rfl, rfl, k x y H1 e r⟩
end
end MuK

namespace MuK
open PySem PySem.Spec PyProof.Rows L2 Evl
/-! ### pairs of sets so much alike -/
/-- the pairs of the sets us that are so much alike, told from place i on, j on -/
def shareW (kd : Str) (kvs : List (Key × V)) (la lb : List Str) : Int × Int := shareM kd (heavy kvs la) (heavy kvs lb) (heavy kvs (la.filter fun u => decide (u ∈ lb)))
/-- a told pair stands at p -/
def PairAt (H : Hp) (p : Addr) (i j : Nat) (s : Int × Int) : Prop := ∃ q : Addr, H p = some (.tup [.int i, .int j, .ref q]) ∧ H q = some (.tup [.int s.1, .int s.2])
theorem PairAt.later {H H' : Hp} {p : Addr} {i j : Nat} {s : Int × Int} (h : PairAt H p i j s) (e : Ex H H') : PairAt H' p i j s := by
  obtain ⟨q, h1, h2⟩ := h
  exact ⟨q, e _ _ h1, e _ _ h2⟩
def reachB (s l : Int × Int) : Bool := decide (l.1 * s.2 ≤ s.1 * l.2)
/-- of row i, the places below m -/
def rowUp (kd : Str) (l : Int × Int) (kvs : List (Key × V)) (us : List (List Str)) (i m : Nat) : List (Nat × Nat) :=
  ((List.range m).filter fun j => decide (i < j) && reachB (shareW kd kvs (us.getD i []) (us.getD j [])) l).map fun j => (i, j)
/-- rows below n -/
def pairsUp (kd : Str) (l : Int × Int) (kvs : List (Key × V)) (us : List (List Str)) (n : Nat) : List (Nat × Nat) :=
  (List.range n).flatMap fun i => rowUp kd l kvs us i us.length
theorem rowUp_succ (kd : Str) (l : Int × Int) (kvs : List (Key × V)) (us : List (List Str)) (i m : Nat) :
    rowUp kd l kvs us i (m + 1) = rowUp kd l kvs us i m ++ (if (decide (i < m) && reachB (shareW kd kvs (us.getD i []) (us.getD m [])) l) = true then [(i, m)] else []) := by
  unfold rowUp
  rw [List.range_succ, List.filter_append, List.map_append, List.filter_cons]
  split <;> rfl
theorem rowUp_low (kd : Str) (l : Int × Int) (kvs : List (Key × V)) (us : List (List Str)) (i : Nat) : ∀ m, m ≤ i + 1 → rowUp kd l kvs us i m = []
  | 0, _ => rfl
  | m + 1, h => by
    rw [rowUp_succ, rowUp_low kd l kvs us i m (by omega), decide_eq_false (by omega)]
    rfl
theorem pairsUp_succ (kd : Str) (l : Int × Int) (kvs : List (Key × V)) (us : List (List Str)) (n : Nat) : pairsUp kd l kvs us (n + 1) = pairsUp kd l kvs us n ++ rowUp kd l kvs us n us.length := by
  unfold pairsUp
  rw [List.range_succ, List.flatMap_append]
  simp
theorem PairAt.stay {H : Hp} {l p : Addr} {xs : List V} {o : HO} {i j : Nat} {s : Int × Int} (hl : H l = some (.lst xs)) (h : PairAt H p i j s) : PairAt (upd H l o) p i j s := by
  obtain ⟨q, h1, h2⟩ := h
  have n1 : p ≠ l := fun z => by
    rw [z, hl] at h1
    exact nomatch h1
  have n2 : q ≠ l := fun z => by
    rw [z, hl] at h2
    exact nomatch h2
  exact ⟨q, (upd_ne n1).trans h1, (upd_ne n2).trans h2⟩
/-- the told pairs at p -/
def PairsAt (kd : Str) (l : Int × Int) (kvs : List (Key × V)) (us : List (List Str)) (ix : List (Nat × Nat)) (p : Addr) (H : Hp) : Prop :=
  ∃ tr : List (Addr × Nat × Nat), H p = some (.lst (tr.map fun x => V.ref x.1)) ∧ tr.map (·.2) = ix ∧ ∀ x ∈ tr, PairAt H x.1 x.2.1 x.2.2 (shareW kd kvs (us.getD x.2.1 []) (us.getD x.2.2 []))
theorem PairsAt.later {kd : Str} {l : Int × Int} {kvs : List (Key × V)} {us : List (List Str)} {ix : List (Nat × Nat)} {p : Addr} {H H' : Hp} (h : PairsAt kd l kvs us ix p H) (e : Ex H H') : PairsAt kd l kvs us ix p H' := by
  obtain ⟨tr, h1, h2, h3⟩ := h
  exact ⟨tr, e _ _ h1, h2, fun x m => (h3 x m).later e⟩
theorem PairsAt.add {kd : Str} {l : Int × Int} {kvs : List (Key × V)} {us : List (List Str)} {p a : Addr} {H : Hp} {i j : Nat} {tr : List (Addr × Nat × Nat)}
    (h1 : H p = some (.lst (tr.map fun x => V.ref x.1))) (h3 : ∀ x ∈ tr, PairAt H x.1 x.2.1 x.2.2 (shareW kd kvs (us.getD x.2.1 []) (us.getD x.2.2 [])))
    (ha : PairAt H a i j (shareW kd kvs (us.getD i []) (us.getD j []))) : PairsAt kd l kvs us (tr.map (·.2) ++ [(i, j)]) p (upd H p (.lst ((tr.map fun x => V.ref x.1) ++ [.ref a]))) := by
  refine ⟨tr ++ [(a, i, j)], ?_, ?_, fun x m => ?_⟩
  · rw [upd_same, List.map_append]
    rfl
  · rw [List.map_append]
    rfl
  · rcases List.mem_append.mp m with m | m
    · exact (h3 x m).stay h1
    · obtain rfl := List.mem_singleton.mp m
      exact ha.stay h1
theorem rowUp_len (kd : Str) (l : Int × Int) (kvs : List (Key × V)) (us : List (List Str)) (i m : Nat) : (rowUp kd l kvs us i m).length ≤ m := by
  unfold rowUp
  rw [List.length_map]
  have := List.length_filter_le (fun j => decide (i < j) && reachB (shareW kd kvs (us.getD i []) (us.getD j [])) l) (List.range m)
  rwa [List.length_range] at this
theorem pairsUp_len (kd : Str) (l : Int × Int) (kvs : List (Key × V)) (us : List (List Str)) : ∀ n, (pairsUp kd l kvs us n).length ≤ n * us.length
  | 0 => by simp [pairsUp]
  | n + 1 => by
    rw [pairsUp_succ, List.length_append, Nat.succ_mul]
    have := pairsUp_len kd l kvs us n
    have := rowUp_len kd l kvs us n us.length
    omega
theorem share_bd (kd : Str) {a b c : Int} (h : SOk a b c) : 0 ≤ (shareM kd a b c).1 ∧ (shareM kd a b c).1 ≤ 2 ^ 402 ∧ 0 ≤ (shareM kd a b c).2 ∧ (shareM kd a b c).2 ≤ 2 ^ 402 := by
  have fb := frac_bd kd h.f
  have p : (1 : Int) ≤ 2 ^ 402 := by decide +kernel
  unfold shareM
  split
  · exact ⟨Int.le_refl 0, by show (0 : Int) ≤ 2 ^ 402; omega, by decide, p⟩
  · have g0 : 0 ≤ gcdI (frac kd a b c).1 (frac kd a b c).2 := Int.natCast_nonneg _
    refine ⟨Int.ediv_nonneg fb.1 g0, Int.le_trans (Int.ediv_le_self _ fb.1) fb.2.1, Int.ediv_nonneg fb.2.2.1 g0, Int.le_trans (Int.ediv_le_self _ fb.2.2.1) fb.2.2.2⟩
/-- what both have, in the first one's turn -/
theorem both_is {cs os : List Str} : given cs.length (fun i => decide (cs.getD i "" ∈ os)) (fun i => .str (cs.getD i "")) = (cs.filter fun u => decide (u ∈ os)).map V.str := by
  have e : (List.range cs.length).map (fun i => cs.getD i "") = cs := by
    apply List.ext_getElem
    · simp
    · intro i h1 h2
      simp [List.getD_eq_getElem?_getD, h2]
  have f : ((List.range cs.length).filter fun i => decide (cs.getD i "" ∈ os)).map (fun i => cs.getD i "") = cs.filter fun u => decide (u ∈ os) := by
    conv => rhs; rw [← e]
    rw [List.filter_map]
    rfl
  unfold given
  rw [← f, List.map_map]
  rfl
theorem given_mapS (ws : List Str) (f : Str → Int) : given ws.length (fun _ => true) (fun i => .int (f (ws.getD i ""))) = (ws.map f).map V.int := by
  unfold given
  rw [List.filter_eq_self.mpr (fun _ _ => rfl)]
  apply List.ext_getElem
  · simp
  · intro i h1 h2
    simp at h1
    simp [List.getD_eq_getElem?_getD, h1]
section
variable {K : PySem.W.Frag} {σ : L2.St} {H H' : Hp} {ta tb te : TE}
theorem ev_sumL {ns : List Int} (h : EvL te σ H (ns.map V.int)) : Ev (tCB (rSum K) (tCons te tNil)) σ H (.int ns.sum) := fun H1 e Q q =>
  h H1 e _ fun p H2 _ e2 hp => ⟨p, ns, rfl, sq_of hp, q H2 e2⟩
end
/-- the told pairs as data -/
def pairD (kd : Str) (kvs : List (Key × V)) (us : List (List Str)) (x : Nat × Nat) : PyData := .tuple [.int x.1, .int x.2, .tuple [.int (shareW kd kvs (us.getD x.1 []) (us.getD x.2 [])).1, .int (shareW kd kvs (us.getD x.1 []) (us.getD x.2 [])).2]]
theorem pairs_lay (kd : Str) (kvs : List (Key × V)) (us : List (List Str)) : ∀ ix : List (Nat × Nat), PyData.canLayAll0 (ix.map (pairD kd kvs us)) = true ∧ PyData.depthAll (ix.map (pairD kd kvs us)) ≤ 2
  | [] => ⟨rfl, by show 0 ≤ 2; decide⟩
  | x :: r => by
    have ih := pairs_lay kd kvs us r
    have e1 : (pairD kd kvs us x).canLay0 = true := by simp [pairD, PyData.canLay0, PyData.canLayAll0]
    have e2 : (pairD kd kvs us x).depth = 2 := by simp [pairD, PyData.depth, PyData.depthAll]
    refine ⟨?_, ?_⟩
    · show PyData.canLayAll0 (pairD kd kvs us x :: r.map (pairD kd kvs us)) = true
      rw [PyData.canLayAll0, e1, ih.1]
      rfl
    · show PyData.depthAll (pairD kd kvs us x :: r.map (pairD kd kvs us)) ≤ 2
      rw [PyData.depthAll, e2]
      omega
theorem pairs_shaped (kd : Str) (kvs : List (Key × V)) (us : List (List Str)) (ix : List (Nat × Nat)) : SeqAt.shaped (.list (ix.map (pairD kd kvs us))) = true ∧ (PyData.list (ix.map (pairD kd kvs us))).canLay0 = true := by
  have h := pairs_lay kd kvs us ix
  have e : (PyData.list (ix.map (pairD kd kvs us))).canLay0 = true := by
    rw [PyData.canLay0]
    exact h.1
  refine ⟨?_, e⟩
  unfold SeqAt.shaped
  rw [e, PyData.depth]
  simp
  omega
theorem pairs_dp {K : PySem.W.Frag} {kd : Str} {l : Int × Int} {kvs : List (Key × V)} {us : List (List Str)} {ix : List (Nat × Nat)} {p : Addr} {H : Hp} (h : PairsAt kd l kvs us ix p H) : Dp K H (.ref p) (.list (ix.map (pairD kd kvs us))) := by
  obtain ⟨tr, h1, h2, h3⟩ := h
  refine .lst (sq_of h1) ?_
  rw [← h2]
  clear h1 h2
  induction tr with
  | nil => exact .nil
  | cons x r ih =>
    obtain ⟨q, a, b⟩ := h3 x List.mem_cons_self
    refine .cons (.tup (st_of a) (.cons (.int _) (.cons (.int _) (.cons (.tup (st_of b) (.cons (.int _) (.cons (.int _) .nil))) .nil)))) (ih fun y m => h3 y (List.mem_cons_of_mem _ m))
theorem ev_nePairs {K : PySem.W.Frag} {σ : L2.St} {H : Hp} {ta tb : TE} {kd : Str} {l : Int × Int} {kvs : List (Key × V)} {us : List (List Str)} {ix : List (Nat × Nat)} {R : V → Hp → Prop} {q : Addr}
    (ha : EvX ta σ H (fun v H' => ∃ p, v = .ref p ∧ PairsAt kd l kvs us ix p H')) (hb : ∀ H1, Ex H H1 → Ev tb σ H1 (.ref q)) (hq : PairsAt kd l kvs us ix q H) : Ev (tOp (rNeD K) ta tb) σ H (.bl false) := fun H1 e Q k =>
  ha H1 e _ fun v H2 e2 r => by
    obtain ⟨p, rfl, hp⟩ := r
    refine hb H2 (e.trans e2) H2 (Ex.refl H2) _ fun H3 e3 => ⟨_, _, pairs_dp (hp.later e3), pairs_dp (hq.later ((e.trans e2).trans e3)), (pairs_shaped kd kvs us ix).1, (pairs_shaped kd kvs us ix).1, ?_⟩
    rw [SeqAt.eqv_refl _ (pairs_shaped kd kvs us ix).2]
    exact k H3 (e2.trans e3)
theorem ev_neNilN {K : PySem.W.Frag} {σ : L2.St} {H : Hp} {ta tb : TE} {xs : List V} (ha : EvL ta σ H xs) (hb : EvL tb σ H []) : Ev (tOp (rNil K false) ta tb) σ H (.bl (!xs.isEmpty)) := fun H1 e Q q =>
  ha H1 e _ fun a H2 _ e2 h2 => hb H2 (e.trans e2) _ fun p H3 hp e3 h3 => ⟨a, p, xs, rfl, rfl, sq_of (e3 a _ h2), sq_of h3, by
    have z : (false == xs.isEmpty) = !xs.isEmpty := by cases xs.isEmpty <;> rfl
    rw [z]
    exact q H3 (e2.trans e3)⟩
section
variable {K : PySem.W.Frag} {σ : L2.St} {H H' : Hp} {ta tb tc td te : TE} {v v1 v2 v4 : V} {R R' : V → Hp → Prop}
theorem el_rep {xs : List V} {k : Int} (ha : EvL ta σ H xs) (hb : Ev tb σ H (.int k)) (h0 : 0 ≤ k) (h1 : k ≤ 1) (hz : xs.length ≤ 100000) : EvL (tOp rRep ta tb) σ H (List.replicate k.toNat xs).flatten := fun H1 e Q q =>
  ha H1 e _ fun p H2 hp e2 h2 => hb H2 (e.trans e2) _ fun H3 e3 => ⟨p, k, xs, rfl, rfl, e3 p _ h2, by omega, by omega, by
    have : k.toNat ≤ 1 := by omega
    have := Nat.mul_le_mul (Nat.le_refl xs.length) this
    exact sz_of (by omega), fun l hl => q l _ (fresh_back (e2.trans e3) hl) ((e2.trans e3).trans (Ex.new hl)) upd_same⟩
theorem evx_call3 {Dd : Hp → List V → (V → Hp → Prop) → Prop} {E : XK} (ha : Ev ta σ H v1) (hb : Ev tb σ H v2) (hc : EvX tc σ H R) (hd : ∀ H1, Ex H H1 → Ev td σ H1 v4)
    (hs : ∀ v3 H1 H2, Ex H H1 → R v3 H1 → Ex H1 H2 → ∃ R1, Dd H2 [v1, v2, v3, v4] R1 ∧ ∀ v H3, Ex H2 H3 → R1 v H3 → R' v H3) :
    EvX (tCall (SpR Dd) [] E (tCons ta (tCons tb (tCons tc (tCons td tNil))))) σ H R' := fun H0 e Q q =>
  ha H0 e _ fun H1 e1 => hb H1 (e.trans e1) _ fun H2 e2 => hc H2 ((e.trans e1).trans e2) _ fun v3 H3 e3 r => hd H3 (((e.trans e1).trans e2).trans e3) H3 (Ex.refl H3) _ fun H4 e4 => by
    obtain ⟨R1, d, k⟩ := hs v3 H3 H4 (((e.trans e1).trans e2).trans e3) r e4
    exact ⟨R1, by rw [List.append_nil]; exact d, fun v H5 e5 r5 => q v H5 ((((e1.trans e2).trans e3).trans e4).trans e5) (k v H5 e5 r5)⟩
theorem ev_call2X {Dd : Hp → List V → V → Prop} {E : XK} (ha : Ev ta σ H v1) (hb : EvX tb σ H R) (hs : ∀ v2 H1, Ex H H1 → R v2 H1 → Dd H1 [v1, v2] v) : Ev (tCall (SpVal Dd) [] E (tCons ta (tCons tb tNil))) σ H v := fun H0 e Q q =>
  ha H0 e _ fun H1 e1 => hb H1 (e.trans e1) _ fun v2 H2 e2 r => ⟨v, by rw [List.append_nil]; exact hs v2 H2 ((e.trans e1).trans e2) r, fun H3 e3 => q H3 ((e1.trans e2).trans e3)⟩
end
/-- one place of a list, or none -/
theorem cut_one {α : Type} {f : α → V} {xs : List α} {k : Nat} : ∃ ys : List α, cutV (xs.map f) (some (k : Int)) (some ((k : Int) + 1)) = ys.map f ∧ ys.Sublist xs ∧ ys.length ≤ 1 := by
  have e : ((k : Int) + 1) = ((k + 1 : Nat) : Int) := by omega
  rw [e]
  unfold cutV
  refine ⟨(xs.drop (min k xs.length)).take (min (k + 1) xs.length - min k xs.length), ?_, (List.take_sublist _ _).trans (List.drop_sublist _ _), ?_⟩
  · rw [HT.sIx_nat, HT.sIx_nat, List.length_map, ← List.map_drop, ← List.map_take]
  · rw [List.length_take]
    omega
end MuK

namespace MuK
open PySem PySem.Spec PyProof.Rows L2 Evl
/-! ### a hair more than a share -/
def aboveM (x y : Int) : Int × Int := ((x * (10 ^ 19 / y) + 1) / gcdI (x * (10 ^ 19 / y) + 1) (y * (10 ^ 19 / y)), y * (10 ^ 19 / y) / gcdI (x * (10 ^ 19 / y) + 1) (y * (10 ^ 19 / y)))
theorem scale_bd {x y : Int} (x0 : 0 < x) (xy : x < y) (y1 : y ≤ 10 ^ 18) : 0 < (10 : Int) ^ 19 / y ∧ (10 : Int) ^ 19 / y ≤ 10 ^ 19 ∧ (0 < y * (10 ^ 19 / y) ∧ y * (10 ^ 19 / y) ≤ 10 ^ 19) ∧ (0 < x * (10 ^ 19 / y) + 1 ∧ x * (10 ^ 19 / y) + 1 ≤ y * (10 ^ 19 / y)) := by
  have p : (10 : Int) ^ 18 * 10 = 10 ^ 19 := by decide +kernel
  have y0 : 0 < y := by omega
  have h0 : 1 ≤ (10 : Int) ^ 19 / y := (Int.le_ediv_iff_mul_le y0).mpr (by omega)
  have h1 : y * ((10 : Int) ^ 19 / y) ≤ 10 ^ 19 := Int.mul_ediv_self_le (by omega)
  have h2 : (10 : Int) ^ 19 / y ≤ 10 ^ 19 := Int.ediv_le_self _ (by decide)
  generalize (10 : Int) ^ 19 / y = s at h0 h1 h2
  have h3 : 0 < y * s := Int.mul_pos y0 (by omega)
  have h4 : 0 < x * s := Int.mul_pos x0 (by omega)
  have h5 : (x + 1) * s ≤ y * s := Int.mul_le_mul_of_nonneg_right (by omega) (by omega)
  rw [Int.add_mul, Int.one_mul] at h5
  exact ⟨by omega, h2, ⟨h3, h1⟩, by omega, by omega⟩
theorem above_ok {x y : Int} (x0 : 0 < x) (xy : x < y) (y1 : y ≤ 10 ^ 18) : LOk (aboveM x y).1 (aboveM x y).2 ∧ (aboveM x y).2 ≤ 10 ^ 36 := by
  obtain ⟨s0, s1, ⟨sy, sz⟩, sx, sw⟩ := scale_bd x0 xy y1
  unfold aboveM
  generalize x * (10 ^ 19 / y) + 1 = a at sx sw
  generalize y * (10 ^ 19 / y) = b at sy sz sw
  obtain ⟨g1, g2, g3⟩ := gcdI_div sx sy
  have g4 := div_gcd_le sx sw
  have g5 := div_gcd_le_self (a := a) sy
  have p : (10 : Int) ^ 19 ≤ 10 ^ 36 := by decide +kernel
  exact ⟨⟨g1, g4, g3⟩, by dsimp only; omega⟩
theorem share2_le (kd : Str) {a b c : Int} (h : SOk a b c) (ha : a ≤ 30000000) (hb : b ≤ 30000000) : (shareM kd a b c).2 ≤ 10 ^ 18 := by
  obtain ⟨⟨a0, _, b0, _, c0, _⟩, ca, cb⟩ := id h
  have m : a * b ≤ 30000000 * 30000000 := Int.mul_le_mul ha hb b0 (by decide)
  have fb : (frac kd a b c).2 ≤ 10 ^ 18 := by
    unfold frac
    split
    · dsimp only; omega
    · split
      · dsimp only; omega
      · split
        · dsimp only; omega
        · split
          · dsimp only; omega
          · dsimp only; omega
  have f0 := (frac_bd kd h.f).2.2.1
  unfold shareM
  split
  · decide
  · exact Int.le_trans (Int.ediv_le_self _ f0) fb
theorem share_pos {kd : Str} {a b c : Int} (c0 : 0 ≤ c) (h : 0 < (shareM kd a b c).1) : 0 < c := by
  rcases Int.lt_or_le 0 c with z | z
  · exact z
  · exfalso
    have c1 : c = 0 := by omega
    subst c1
    unfold shareM at h
    split at h
    · exact absurd h (by decide)
    · have f : (frac kd a b 0).1 = 0 := by
        unfold frac
        split
        · rfl
        · split
          · rfl
          · split
            · rfl
            · split
              · rfl
              · rfl
      rw [f] at h
      simp at h
end MuK

namespace MuK
open PySem PySem.Spec PyProof.Rows L2 Evl
/-! ### pairs of lots that are alike but for names, turns, more sets, other weights -/
theorem mem_rowUp {kd : Str} {l : Int × Int} {kvs : List (Key × V)} {us : List (List Str)} {i m : Nat} {x : Nat × Nat} :
    x ∈ rowUp kd l kvs us i m ↔ x.1 = i ∧ i < x.2 ∧ x.2 < m ∧ reachB (shareW kd kvs (us.getD i []) (us.getD x.2 [])) l = true := by
  unfold rowUp
  rw [List.mem_map]
  constructor
  · rintro ⟨j, hj, rfl⟩
    obtain ⟨h1, h2⟩ := List.mem_filter.mp hj
    rw [Bool.and_eq_true, decide_eq_true_eq] at h2
    exact ⟨rfl, h2.1, List.mem_range.mp h1, h2.2⟩
  · rintro ⟨rfl, h1, h2, h3⟩
    exact ⟨x.2, List.mem_filter.mpr ⟨List.mem_range.mpr h2, by rw [Bool.and_eq_true, decide_eq_true_eq]; exact ⟨h1, h3⟩⟩, rfl⟩
theorem mem_pairsUp {kd : Str} {l : Int × Int} {kvs : List (Key × V)} {us : List (List Str)} {n : Nat} {x : Nat × Nat} :
    x ∈ pairsUp kd l kvs us n ↔ x.1 < n ∧ x.1 < x.2 ∧ x.2 < us.length ∧ reachB (shareW kd kvs (us.getD x.1 []) (us.getD x.2 [])) l = true := by
  unfold pairsUp
  rw [List.mem_flatMap]
  constructor
  · rintro ⟨i, hi, hx⟩
    obtain ⟨rfl, h⟩ := mem_rowUp.mp hx
    exact ⟨List.mem_range.mp hi, h⟩
  · rintro ⟨h1, h⟩
    exact ⟨x.1, List.mem_range.mpr h1, mem_rowUp.mpr ⟨rfl, h⟩⟩
def ltP (x y : Nat × Nat) : Prop := x.1 < y.1 ∨ x.1 = y.1 ∧ x.2 < y.2
theorem rowUp_up (kd : Str) (l : Int × Int) (kvs : List (Key × V)) (us : List (List Str)) (i m : Nat) : (rowUp kd l kvs us i m).Pairwise ltP := by
  unfold rowUp
  rw [List.pairwise_map]
  exact (List.pairwise_lt_range.filter _).imp fun h => .inr ⟨rfl, h⟩
theorem pairsUp_up (kd : Str) (l : Int × Int) (kvs : List (Key × V)) (us : List (List Str)) : ∀ n, (pairsUp kd l kvs us n).Pairwise ltP
  | 0 => List.Pairwise.nil
  | n + 1 => by
    rw [pairsUp_succ, List.pairwise_append]
    refine ⟨pairsUp_up kd l kvs us n, rowUp_up .., fun x hx y hy => .inl ?_⟩
    have h1 := (mem_pairsUp.mp hx).1
    have h2 := (mem_rowUp.mp hy).1
    omega
theorem ltP_one : ∀ {a b : List (Nat × Nat)}, a.Pairwise ltP → b.Pairwise ltP → (∀ x, x ∈ a ↔ x ∈ b) → a = b
  | [], [], _, _, _ => rfl
  | [], y :: b, _, _, h => nomatch (h y).mpr List.mem_cons_self
  | x :: a, [], _, _, h => nomatch (h x).mp List.mem_cons_self
  | x :: a, y :: b, ha, hb, h => by
    obtain ⟨a1, a2⟩ := List.pairwise_cons.mp ha
    obtain ⟨b1, b2⟩ := List.pairwise_cons.mp hb
    have irr : ∀ {u v : Nat × Nat}, ltP u v → ltP v u → False := fun {u v} h k => by
      unfold ltP at h k
      omega
    have e : x = y := by
      rcases List.mem_cons.mp ((h x).mp List.mem_cons_self) with z | z
      · exact z
      · rcases List.mem_cons.mp ((h y).mpr List.mem_cons_self) with w | w
        · exact w.symm
        · exact (irr (b1 x z) (a1 y w)).elim
    subst e
    have self : ∀ {u : Nat × Nat}, ltP u u → False := fun h => irr h h
    rw [ltP_one a2 b2 fun u => ?_]
    have hu := h u
    rw [List.mem_cons, List.mem_cons] at hu
    constructor
    · intro z
      rcases hu.mp (.inr z) with rfl | w
      · exact (self (a1 _ z)).elim
      · exact w
    · intro z
      rcases hu.mpr (.inr z) with rfl | w
      · exact (self (b1 _ z)).elim
      · exact w
/-- the same shares, the same pairs -/
theorem pairs_same {kd : Str} {l : Int × Int} {kvs kv2 : List (Key × V)} {us us2 : List (List Str)} (hl : us2.length = us.length)
    (h : ∀ i j, i < j → j < us.length → shareW kd kv2 (us2.getD i []) (us2.getD j []) = shareW kd kvs (us.getD i []) (us.getD j [])) :
    pairsUp kd l kv2 us2 us2.length = pairsUp kd l kvs us us.length ∧ (pairsUp kd l kv2 us2 us2.length).map (pairD kd kv2 us2) = (pairsUp kd l kvs us us.length).map (pairD kd kvs us) := by
  have e : pairsUp kd l kv2 us2 us2.length = pairsUp kd l kvs us us.length := ltP_one (pairsUp_up ..) (pairsUp_up ..) fun x => by
    rw [mem_pairsUp, mem_pairsUp, hl]
    refine and_congr Iff.rfl (and_congr_right fun h1 => and_congr_right fun h2 => ?_)
    rw [h x.1 x.2 h1 h2]
  refine ⟨e, ?_⟩
  rw [e]
  refine List.map_congr_left fun x hx => ?_
  obtain ⟨_, h1, h2, _⟩ := mem_pairsUp.mp hx
  unfold pairD
  rw [h x.1 x.2 h1 h2]
/-! other names -/
theorem heavy_map {kvs kv2 : List (Key × V)} {rn : Str → Str} : ∀ {la : List Str}, (∀ a ∈ la, wOf kv2 (rn a) = wOf kvs a) → heavy kv2 (la.map rn) = heavy kvs la
  | [], _ => rfl
  | a :: r, h => by
    show wOf kv2 (rn a) + heavy kv2 (r.map rn) = wOf kvs a + heavy kvs r
    rw [h a List.mem_cons_self, heavy_map fun x hx => h x (List.mem_cons_of_mem _ hx)]
theorem share_named {kd : Str} {kvs kv2 : List (Key × V)} {rn : Str → Str} {pool la lb : List Str} (inj : ∀ a ∈ pool, ∀ b ∈ pool, rn a = rn b → a = b) (hw : ∀ a ∈ pool, wOf kv2 (rn a) = wOf kvs a) (ha : ∀ a ∈ la, a ∈ pool) (hb : ∀ a ∈ lb, a ∈ pool) :
    shareW kd kv2 (la.reverse.map rn) (lb.reverse.map rn) = shareW kd kvs la lb := by
  unfold shareW
  have e1 : heavy kv2 (la.reverse.map rn) = heavy kvs la := (heavy_map fun a m => hw a (ha a (List.mem_reverse.mp m))).trans (heavy_perm (List.reverse_perm la))
  have e2 : heavy kv2 (lb.reverse.map rn) = heavy kvs lb := (heavy_map fun a m => hw a (hb a (List.mem_reverse.mp m))).trans (heavy_perm (List.reverse_perm lb))
  have e3 : (la.reverse.map rn).filter (fun u => decide (u ∈ lb.reverse.map rn)) = (la.reverse.filter fun u => decide (u ∈ lb)).map rn := by
    rw [List.filter_map]
    congr 1
    refine List.filter_congr fun a m => ?_
    rw [Function.comp_apply, Bool.eq_iff_iff, decide_eq_true_eq, decide_eq_true_eq, List.mem_map]
    have pa := ha a (List.mem_reverse.mp m)
    constructor
    · rintro ⟨b, mb, e⟩
      have pb := List.mem_reverse.mp mb
      exact inj b (hb b pb) a pa e ▸ pb
    · intro mb
      exact ⟨a, List.mem_reverse.mpr mb, rfl⟩
  rw [e1, e2, e3, heavy_map fun a m => hw a (ha a (List.mem_reverse.mp (List.mem_filter.mp m).1)), List.filter_reverse, heavy_perm (List.reverse_perm _)]
theorem shareW_symm (kd : Str) (kvs : List (Key × V)) {la lb : List Str} (na : la.Nodup) (nb : lb.Nodup) : shareW kd kvs lb la = shareW kd kvs la lb := by
  unfold shareW
  rw [shareM_symm]
  congr 1
  refine heavy_perm ((List.perm_ext_iff_of_nodup (nb.filter _) (na.filter _)).mpr fun x => ?_)
  rw [List.mem_filter, List.mem_filter, decide_eq_true_eq, decide_eq_true_eq]
  exact And.comm
/-! one set more -/
theorem pairs_more {kd : Str} {l : Int × Int} {kvs : List (Key × V)} {us : List (List Str)} {w : List Str} :
    (pairsUp kd l kvs (us ++ [w]) (us ++ [w]).length).filter (fun x => decide (x.2 < us.length)) = pairsUp kd l kvs us us.length := by
  refine ltP_one ((pairsUp_up ..).filter _) (pairsUp_up ..) fun x => ?_
  rw [List.mem_filter, mem_pairsUp, mem_pairsUp, decide_eq_true_eq, List.length_append, List.length_singleton]
  have g : ∀ i, i < us.length → (us ++ [w]).getD i [] = us.getD i [] := fun i hi => by
    rw [List.getD_eq_getElem?_getD, List.getD_eq_getElem?_getD, List.getElem?_append_left hi]
  constructor
  · rintro ⟨⟨h1, h2, h3, h4⟩, h5⟩
    rw [g _ (by omega), g _ h5] at h4
    exact ⟨by omega, h2, h5, h4⟩
  · rintro ⟨h1, h2, h3, h4⟩
    refine ⟨⟨by omega, h2, by omega, ?_⟩, h3⟩
    rw [g _ h1, g _ h3]
    exact h4
/-! a greater least share -/
theorem pairs_less {kd : Str} {l l2 : Int × Int} {kvs : List (Key × V)} {us : List (List Str)} (h : ∀ i j, i < j → j < us.length → reachB (shareW kd kvs (us.getD i []) (us.getD j [])) l2 = true → reachB (shareW kd kvs (us.getD i []) (us.getD j [])) l = true) :
    (pairsUp kd l kvs us us.length).filter (fun x => reachB (shareW kd kvs (us.getD x.1 []) (us.getD x.2 [])) l2) = pairsUp kd l2 kvs us us.length := by
  refine ltP_one ((pairsUp_up ..).filter _) (pairsUp_up ..) fun x => ?_
  rw [List.mem_filter, mem_pairsUp, mem_pairsUp]
  constructor
  · rintro ⟨⟨h1, h2, h3, _⟩, h5⟩
    exact ⟨h1, h2, h3, h5⟩
  · rintro ⟨h1, h2, h3, h4⟩
    exact ⟨⟨h1, h2, h3, h _ _ h2 h3 h4⟩, h4⟩
theorem reach_mono {s l l2 : Int × Int} (s1 : 0 ≤ s.1) (s2 : 0 ≤ s.2) (b1 : 0 < l.2) (b2 : 0 < l2.2) (h : l.1 * l2.2 ≤ l2.1 * l.2) (k : reachB s l2 = true) : reachB s l = true := by
  unfold reachB at k ⊢
  rw [decide_eq_true_eq] at k ⊢
  -- l2.1 * s.2 ≤ s.1 * l2.2
  have e1 : l.1 * s.2 * l2.2 ≤ s.1 * l.2 * l2.2 := by
    have a1 : l.1 * l2.2 * s.2 ≤ l2.1 * l.2 * s.2 := Int.mul_le_mul_of_nonneg_right h s2
    have a2 : l2.1 * s.2 * l.2 ≤ s.1 * l2.2 * l.2 := Int.mul_le_mul_of_nonneg_right k (by omega)
    have r1 : l.1 * s.2 * l2.2 = l.1 * l2.2 * s.2 := by rw [Int.mul_right_comm]
    have r2 : l2.1 * l.2 * s.2 = l2.1 * s.2 * l.2 := by rw [Int.mul_right_comm]
    have r3 : s.1 * l2.2 * l.2 = s.1 * l.2 * l2.2 := by rw [Int.mul_right_comm]
    omega
  exact Int.le_of_mul_le_mul_right e1 b2
/-! all weights so many times as great -/
theorem gcd_scale (k a b : Nat) : Nat.gcd (k * a) (k * b) = k * Nat.gcd a b := Nat.gcd_mul_left k a b
theorem div_scale {k a b : Int} (hk : 0 < k) (ha : 0 ≤ a) (hb : 0 < b) : (k * a) / gcdI (k * a) (k * b) = a / gcdI a b ∧ (k * b) / gcdI (k * a) (k * b) = b / gcdI a b := by
  have g : gcdI (k * a) (k * b) = k * gcdI a b := by
    unfold gcdI
    rw [Int.natAbs_mul, Int.natAbs_mul, Nat.gcd_mul_left]
    have : (k.natAbs : Int) = k := by omega
    rw [Int.natCast_mul, this]
  rw [g]
  exact ⟨Int.mul_ediv_mul_of_pos _ _ hk, Int.mul_ediv_mul_of_pos _ _ hk⟩
theorem heavy_scale {kvs kv2 : List (Key × V)} {k : Int} : ∀ {la : List Str}, (∀ a ∈ la, wOf kv2 a = k * wOf kvs a) → heavy kv2 la = k * heavy kvs la
  | [], _ => by show (0 : Int) = k * 0; rw [Int.mul_zero]
  | a :: r, h => by
    show wOf kv2 a + heavy kv2 r = k * (wOf kvs a + heavy kvs r)
    rw [h a List.mem_cons_self, heavy_scale fun x hx => h x (List.mem_cons_of_mem _ hx), Int.mul_add]
end MuK

namespace MuTri
open PySem PySem.Spec PyProof.Rows L2 Evl MuK
/-! ### sorted of told pairs, whatever their shares -/
abbrev Tri := Addr × (Nat × Nat) × (Int × Int)
def triD (b : Tri) : PyData := .tuple [.int b.2.1.1, .int b.2.1.2, .tuple [.int b.2.2.1, .int b.2.2.2]]
section
variable {X : Cx} {pins : List (Addr × Obj)} {σ : L2.St} {H : Hp} {s : Shared}
theorem tri_reads (I : Inv X pins σ H s) {b : Tri} (h : PairAt H b.1 b.2.1.1 b.2.1.2 b.2.2) {h' : Heap} (k : ∀ c o, s.heap.get? c = some o → h'.get? c = some o) : Reads h' (.ref b.1) (triD b) [] := by
  obtain ⟨q, h1, h2⟩ := h
  obtain ⟨us, r1, ⟨o1, g1, c1, m1, d1⟩, _⟩ := I.tuple (st_of h1)
  obtain ⟨ws, r2, ⟨o2, g2, c2, m2, d2⟩, _⟩ := I.tuple (st_of h2)
  cases r1 with
  | cons a1 r1 =>
    cases r1 with
    | cons a2 r1 =>
      cases r1 with
      | cons a3 r1 =>
        cases r1
        cases r2 with
        | cons e1 r2 =>
          cases r2 with
          | cons e2 r2 =>
            cases r2
            obtain ⟨t1, rfl⟩ := a1
            obtain ⟨t2, rfl⟩ := a2
            cases a3
            obtain ⟨t3, rfl⟩ := e1
            obtain ⟨t4, rfl⟩ := e2
            have rq : Reads h' (.ref q) (.tuple [.int b.2.2.1, .int b.2.2.2]) [] := reads_tuple_at (k _ _ g2) c2 d2 (ReadsAll.cons (as := []) (bs := []) (.int _ _) (ReadsAll.cons (as := []) (bs := []) (.int _ _) .nil))
            exact reads_tuple_at (k _ _ g1) c1 d1 (ReadsAll.cons (as := []) (bs := []) (.int _ _) (ReadsAll.cons (as := []) (bs := []) (.int _ _) (ReadsAll.cons (as := []) (bs := []) rq .nil)))
theorem tri_alike (b c : Tri) : W.alike (triD b) (triD c) = true := by rfl
theorem tri_lt {b c : Tri} (ne : b.2.1 ≠ c.2.1) (h : W.dataLt (triD c) (triD b) = false) : ltP b.2.1 c.2.1 := by
  unfold triD at h
  rw [W.dataLt_tuple, W.dataLt_cons (by rfl), W.dataLt_cons (by rfl)] at h
  have e : ∀ x y : Int, (PyData.int x).eqv (PyData.int y) = decide (x = y) := fun x y => by
    rw [PyData.eqv]
    first | rfl | exact Bool.eq_iff_iff.mpr (by simp)
  rw [e, e, W.dataLt_int, W.dataLt_int] at h
  unfold ltP
  have ne2 : ¬ (b.2.1.1 = c.2.1.1 ∧ b.2.1.2 = c.2.1.2) := fun z => ne (Prod.ext z.1 z.2)
  by_cases c1 : (c.2.1.1 : Int) = b.2.1.1
  · rw [if_pos (decide_eq_true c1)] at h
    by_cases c2 : (c.2.1.2 : Int) = b.2.1.2
    · exact absurd ⟨by omega, by omega⟩ ne2
    · rw [if_neg (by rw [decide_eq_false c2]; decide)] at h
      have := of_decide_eq_false h
      omega
  · rw [if_neg (by rw [decide_eq_false c1]; decide)] at h
    have := of_decide_eq_false h
    omega
def rSortedTri (K : PySem.W.Frag) : List V → Hp → VK → Prop := fun vs H Q => ∃ (a : Addr) (bs : List Tri), vs = [.ref a] ∧ SqL K H a (bs.map fun b => V.ref b.1) ∧ bs.length ≤ 5000 ∧ (∀ b ∈ bs, PairAt H b.1 b.2.1.1 b.2.1.2 b.2.2) ∧ (bs.map (·.2.1)).Nodup ∧
  ∀ p (cs : List Tri), H p = none → cs.Perm bs → (cs.map (·.2.1)).Pairwise ltP → Q (.ref p) (upd H p (.lst (cs.map fun b => V.ref b.1)))
theorem each_refs : ∀ (bs : List Tri), W.EachIs (fun (v : Value) (b : Tri) => v = .ref b.1) (bs.map fun b => Value.ref b.1) bs
  | [] => .nil
  | _ :: r => .cons rfl (each_refs r)
theorem each_of {vs : List Value} {cs : List Tri} (h : W.EachIs (fun (v : Value) (b : Tri) => v = .ref b.1) vs cs) : vs = cs.map fun b => Value.ref b.1 := by
  induction h with
  | nil => rfl
  | cons h _ ih => rw [h, ih]; rfl
theorem vals_refs : ∀ {bs : List Tri} {us : List Value}, Vals (bs.map fun b => V.ref b.1) us → us = bs.map fun b => Value.ref b.1
  | [], _, .nil => rfl
  | _ :: _, _, .cons h r => by
    cases h
    rw [vals_refs r]
    rfl
theorem refs_vals : ∀ (bs : List Tri), Vals (bs.map fun b => V.ref b.1) (bs.map fun b => Value.ref b.1)
  | [] => .nil
  | _ :: r => .cons rfl (refs_vals r)
theorem cr_sortedTri (hu : X.A.units + 64 < cLine) : CallR X (.builtin "sorted") (rSortedTri X.K) := by
  intro pins s σ H vs us Q I r h
  obtain ⟨a, bs, rfl, hs, hz, hb, nd, q⟩ := h
  obtain ⟨its, rv, hl, _⟩ := I.list hs
  rw [Vals.ref1 r]
  obtain rfl := vals_refs rv
  refine Calls.call_function_entry kind_sorted plain_sorted entry_sorted (args_sorted1 _) ?_
  unfold Builtin.«sorted»
  refine wpAny_bind (m := checkCount "sorted" 1 1 _) (wpAny_pure ?_)
  refine wpAny_bind (collect_list hl.isList ?_ (by rw [List.length_map, sizeLine_eq]; omega))
  generalize hh : ((s.heap.push (seqObj "list" #[] 0)).update s.heap.objs.size (Obj.mapSeq fun x => x ++ (bs.map fun b => Value.ref b.1).toArray)) = h1
  have k1 : ∀ c o, s.heap.get? c = some o → h1.get? c = some o := fun c o e => by
    rw [← hh, (Heap.SameBut.update _ _ _).2 c (Nat.ne_of_lt (Heap.lt_size e))]
    exact Heap.get?_push_of_some _ e
  have z1 : s.heap.objs.size ≤ h1.objs.size := by
    rw [← hh, (Heap.SameBut.update _ _ _).1, size_push']
    exact Nat.le_succ _
  refine wpAny_bind (wpAny_newList ?_ (by rw [List.length_map, sizeLine_eq]; omega))
  have hoL : (h1.push (seqObj "list" (bs.map fun b => Value.ref b.1).toArray 0)).get? h1.objs.size = some (seqObj "list" (bs.map fun b => Value.ref b.1).toArray 0) := Heap.get?_push_size _ rfl
  have k2 : ∀ c o, s.heap.get? c = some o → (h1.push (seqObj "list" (bs.map fun b => Value.ref b.1).toArray 0)).get? c = some o := fun c o e => Heap.get?_push_of_some _ (k1 c o e)
  have each2 : ∀ (l : List Tri), (∀ b ∈ l, b ∈ bs) → W.EachIs (fun (v : Value) (b : Tri) => ∃ as, Reads (h1.push (seqObj "list" (bs.map fun b => Value.ref b.1).toArray 0)) v (triD b) as ∧ ¬ h1.objs.size ∈ as) (l.map fun b => Value.ref b.1) l := by
    intro l hl
    induction l with
    | nil => exact .nil
    | cons b r ih => exact .cons ⟨[], tri_reads I (hb b (hl b List.mem_cons_self)) k2, fun z => nomatch z⟩ (ih fun c hc => hl c (List.mem_cons_of_mem _ hc))
  refine wpAny_bind (wpAny_holding (W.list_sort_data (enc := triD) hoL (each_refs bs) (each2 bs fun _ h => h) (W.AllAlike.of tri_alike) (W.Sortable.tuples fun b => ⟨_, _, rfl⟩) (by rw [sizeLine_eq]; omega) (fun b _ => ?_) fun out hl2 ho => ?_))
  · have : (triD b).depth ≤ 2 := by
      simp [triD, PyData.depth, PyData.depthAll]
    show X.A.units + 1 + 1 + (triD b).depth < cLine
    omega
  · obtain rfl := each_of ho
    generalize hcs : bs.mergeSort (W.dataLe false triD) = cs at *
    have pm : cs.Perm bs := hcs ▸ List.mergeSort_perm _ _
    have TL := W.sortLe_total (listOrd itemOrd) false fun b => W.keyToks (triD b)
    have sr : cs.Pairwise fun b c => W.dataLe false triD b c = true := by
      rw [← hcs]
      exact List.pairwise_mergeSort TL.trans (fun a b => by rw [Bool.or_eq_true]; exact TL.total a b) bs
    obtain ⟨c, hg⟩ := sortedHeap_at (vs := bs.map fun b => Value.ref b.1) (out := (cs.map fun b => Value.ref b.1).toArray) hoL
    have hn : H h1.objs.size = none := I.hok.fresh z1
    have hl3 : (cs.map fun b => V.ref b.1).length ≤ sizeLine := by
      rw [List.length_map, pm.length_eq, sizeLine_eq]
      omega
    have up : (cs.map (·.2.1)).Pairwise ltP := by
      have nd2 : (cs.map (·.2.1)).Nodup := (pm.map _).nodup_iff.mpr nd
      rw [List.pairwise_map]
      unfold List.Nodup at nd2
      rw [List.pairwise_map] at nd2
      refine (List.Pairwise.and sr nd2).imp fun {b c} h => tri_lt h.2 ?_
      have := h.1
      rw [W.dataLe_eq] at this
      simpa using this
    refine wpAny_pure ⟨_, rfl, .ref _, _, ?_, rfl, q _ cs hn pm up⟩
    refine I.laid (t' := s.toks) (fun b u e => ?_) z1 ⟨hl3, (cs.map fun b => Value.ref b.1).toArray.toList, c, by simpa using refs_vals cs, hg⟩
    have z := k1 b u e
    have hlt := Heap.lt_size z
    rw [sortedHeap_old (Nat.ne_of_lt hlt) (by rw [size_push']; exact Nat.lt_succ_of_lt hlt)]
    exact Heap.get?_push_of_some _ z
end
end MuTri

namespace MuTri
open PySem PySem.Spec PyProof.Rows L2 Evl MuK
def rTupOf (K : PySem.W.Frag) : List V → Hp → VK → Prop := fun xs H Q => ∃ (p : Addr) (ys : List V), xs = [.ref p] ∧ ((SqL K H p ys ∧ ∀ l, H l = none → Q (.ref l) (upd H l (.tup ys))) ∨ (SqT K H p ys ∧ Q (.ref p) H))
section
variable {K : PySem.W.Frag} {σ : L2.St} {H H' : Hp} {ta tb te td ty tl tw : TE} {t u : TT} {x y z v : V} {D : Ends} {tu tz : TS} {R : V → Hp → Prop}
/-- [e for x in reversed(xs) if t] -/
theorem el_lcRev {tA : TA} {a : Addr} {xs : List V} {j : Nat} {vs : List Nat} (f : Nat → Bool) (v : Nat → V) (h : EvA tA σ H [.ref a]) (hx : SqL K H a xs) (hz : xs.length ≤ 40000)
    (hw : ∀ x, wipe ((wipe σ vs).set j (some x)) vs = wipe σ vs)
    (ht : ∀ (n : Nat) (x : V) H1, Ex H H1 → n < xs.length → xs[xs.length - 1 - n]? = some x → EvT t ((wipe σ vs).set j (some x)) H1 (f n))
    (he : ∀ (n : Nat) (x : V) H1, Ex H H1 → n < xs.length → xs[xs.length - 1 - n]? = some x → f n = true → Ev te ((wipe σ vs).set j (some x)) H1 (v n)) :
    EvL (tLc (iRev K tA) (gName j) t te vs) σ H (given xs.length f v) := fun H0 e Q q => by
  refine h H0 e _ fun H1 e1 => ⟨a, xs, rfl, ex_l (e.trans e1) hx, fun Dl hD => ?_⟩
  refine ⟨fun n m H' => m = xs.length - n ∧ n ≤ xs.length ∧ Cw H1 f v Dl n H', ⟨xs.length, rfl, Nat.zero_le _, hD, Ex.new hD, upd_same⟩, ?_⟩
  rintro n m H' ⟨rfl, hn, p⟩
  have hq := ex_l ((e.trans e1).trans p.2.1) hx
  by_cases lt : n < xs.length
  · have lt2 : xs.length - 1 - n < xs.length := by omega
    refine .inr ⟨⟨lt, xs, xs[xs.length - 1 - n], hq, List.getElem?_eq_getElem lt2⟩, fun H2 => Cw H1 f v Dl (n + 1) H2, fun H2 p2 => ⟨xs.length - (n + 1), by omega, rfl, lt, p2⟩, fun x H2 y => ?_⟩
    obtain ⟨rfl, hx2⟩ := y
    have hxn := hx2 xs hq
    exact ⟨hw _, cw_turn p (by omega) (ht n x H1 (e.trans e1) lt hxn) fun hf => he n x H1 (e.trans e1) lt hxn hf⟩
  · have e2 : n = xs.length := by omega
    subst e2
    exact .inl ⟨Nat.le_refl _, q Dl H' (fresh_back e1 p.1) (e1.trans p.2.1) p.2.2⟩
/-- for x, y in zip(e, ys), e a new list -/
theorem q_forZip {b : Addr} {i j : Nat} (h : EvX te σ H R) (hb : ∀ H1, Ex H H1 → Ev tw σ H1 (.ref b))
    (hk : ∀ v H1 H2, Ex H H1 → R v H1 → Ex H1 H2 → ∃ (a : Addr) (xs ys : List V) (Pv : Nat → L2.St → Hp → Prop), v = .ref a ∧ SqL K H2 a xs ∧ SqL K H2 b ys ∧ xs.length = ys.length ∧ Pv 0 σ H2 ∧ (∀ n σ' H', Pv n σ' H' → SqL K H' a xs ∧ SqL K H' b ys) ∧
      (∀ n x y σ' H' H2, xs[n]? = some x → ys[n]? = some y → Pv n σ' H' → Ex H' H2 → tu { D with nx := Pv (n + 1), ct := Pv (n + 1), bk := tz D } ((σ'.set i (some x)).set j (some y)) H2) ∧ (∀ σ' H', Pv xs.length σ' H' → tz D σ' H')) :
    tSeq (tFor (iZip K (tCons te (tCons tw tNil))) (gTup K 2 (gCons (gName i) (gCons (gName j) gNil))) tu) tz D σ H := by
  refine h H (Ex.refl H) _ fun v H1 e1 r => hb H1 e1 H1 (Ex.refl H1) _ fun H2 e2 => ?_
  obtain ⟨a, xs, ys, Pv, rfl, ha, hb2, hl, h0, hq, hs, hd⟩ := hk v H1 H2 e1 r e2
  refine ⟨a, b, xs, ys, rfl, ha, hb2, ?_⟩
  refine ⟨fun n m σ' H' => m = xs.length - n ∧ n ≤ xs.length ∧ Pv n σ' H', ⟨xs.length, rfl, Nat.zero_le _, h0⟩, ?_⟩
  rintro n m σ' H' ⟨rfl, hn, p⟩
  obtain ⟨q1, q2⟩ := hq n σ' H' p
  by_cases lt : n < xs.length
  · have lt2 : n < ys.length := by omega
    refine .inr ⟨⟨xs, ys, xs[n], ys[n], q1, q2, List.getElem?_eq_getElem lt, List.getElem?_eq_getElem lt2⟩, Pv (n + 1), fun σ2 H2 p2 => ⟨xs.length - (n + 1), by omega, rfl, lt, p2⟩, fun x H2 y => ?_⟩
    obtain ⟨T, x, y, rfl, hT, rfl, hx2, hy2⟩ := y
    exact ⟨T, [x, y], rfl, st_of upd_same, rfl, x, [y], rfl, y, [], rfl, rfl, hs n x y σ' H' _ (hx2 xs q1) (hy2 ys q2) p (Ex.new hT)⟩
  · have e2 : n = xs.length := by omega
    subst e2
    exact .inl ⟨⟨xs, ys, q1, q2, .inl (Nat.le_refl _)⟩, hd σ' H' p⟩
/-- for k in d.keys(), d locked -/
theorem s_forKeys {d : Addr} {kvs : List (Key × V)} {i : Nat} (hd : H d = some (.dK kvs)) (h : ∀ H1, Ev td σ H1 (.ref d)) (Pv : Nat → L2.St → Hp → Prop)
    (h0 : ∀ od H1, Ex (upd H d (.frz od (.dK kvs))) H1 → Pv 0 σ H1)
    (hs : ∀ od n k x σ' H' H2, kvs[n]? = some (k, x) → Pv n σ' H' → Ex (upd H d (.frz od (.dK kvs))) H' → Ex H' H2 →
      tu { D with nx := fun σ3 H3 => Pv (n + 1) σ3 H3 ∧ Ex (upd H d (.frz od (.dK kvs))) H3, ct := fun σ3 H3 => Pv (n + 1) σ3 H3 ∧ Ex (upd H d (.frz od (.dK kvs))) H3, bk := fun σ' H' => H' d = some (.frz od (.dK kvs)) ∧ D.nx σ' (upd H' d (.dK kvs)), rt := fun v H' => H' d = some (.frz od (.dK kvs)) ∧ D.rt v (upd H' d (.dK kvs)) } (σ'.set i (some (kV k))) H2)
    (hdn : ∀ σ' H', Pv kvs.length σ' H' → Ex H (upd H' d (.dK kvs)) → D.nx σ' (upd H' d (.dK kvs))) :
    tLock (tFor (iKeysM td) (gName i) tu) D σ H := by
  refine ⟨d, .dK kvs, hd, True.intro, fun od => ?_⟩
  refine h _ _ (Ex.refl _) _ fun H1 e1 => ⟨d, od, kvs, rfl, e1 d _ upd_same, ?_⟩
  refine ⟨fun n m σ' H' => m = kvs.length - n ∧ n ≤ kvs.length ∧ Pv n σ' H' ∧ Ex (upd H d (.frz od (.dK kvs))) H', ⟨kvs.length, rfl, Nat.zero_le _, h0 od H1 e1, e1⟩, ?_⟩
  rintro n m σ' H' ⟨rfl, hn, p, e⟩
  have q := e d _ upd_same
  by_cases lt : n < kvs.length
  · refine .inr ⟨⟨q, lt⟩, fun σ3 H3 => Pv (n + 1) σ3 H3 ∧ Ex (upd H d (.frz od (.dK kvs))) H3, fun σ2 H2 p2 => ⟨kvs.length - (n + 1), by omega, rfl, lt, p2.1, p2.2⟩, fun x H2 y => ?_⟩
    obtain ⟨rfl, k, v, hk, rfl⟩ := y
    exact hs od n k v σ' _ _ hk p e (Ex.refl _)
  · have e2 : n = kvs.length := by omega
    subst e2
    exact .inl ⟨⟨q, Nat.le_refl _⟩, q, hdn σ' H' p (lock_back hd e)⟩
theorem q_forKeys {d : Addr} {kvs : List (Key × V)} {i : Nat} (hd : H d = some (.dK kvs)) (h : ∀ H1, Ev td σ H1 (.ref d)) (Pv : Nat → L2.St → Hp → Prop)
    (h0 : ∀ od H1, Ex (upd H d (.frz od (.dK kvs))) H1 → Pv 0 σ H1)
    (hs : ∀ od n k x σ' H' H2, kvs[n]? = some (k, x) → Pv n σ' H' → Ex (upd H d (.frz od (.dK kvs))) H' → Ex H' H2 →
      tu { D with nx := fun σ3 H3 => Pv (n + 1) σ3 H3 ∧ Ex (upd H d (.frz od (.dK kvs))) H3, ct := fun σ3 H3 => Pv (n + 1) σ3 H3 ∧ Ex (upd H d (.frz od (.dK kvs))) H3, bk := fun σ' H' => H' d = some (.frz od (.dK kvs)) ∧ tz D σ' (upd H' d (.dK kvs)), rt := fun v H' => H' d = some (.frz od (.dK kvs)) ∧ D.rt v (upd H' d (.dK kvs)) } (σ'.set i (some (kV k))) H2)
    (hdn : ∀ σ' H', Pv kvs.length σ' H' → Ex H (upd H' d (.dK kvs)) → tz D σ' (upd H' d (.dK kvs))) :
    tSeq (tLock (tFor (iKeysM td) (gName i) tu)) tz D σ H := s_forKeys (D := { D with nx := tz D }) hd h Pv h0 hs hdn
/-- for k in d.keys(), d locked, other dicts changed -/
theorem q_forKeys2 {d : Addr} {kvs : List (Key × V)} {i : Nat} (hd : H d = some (.dK kvs)) (h : ∀ H1, Ev td σ H1 (.ref d)) (Pv : Obj → Nat → L2.St → Hp → Prop)
    (h0 : ∀ od H1, Ex (upd H d (.frz od (.dK kvs))) H1 → Pv od 0 σ H1) (hf : ∀ od n σ' H', Pv od n σ' H' → H' d = some (.frz od (.dK kvs)))
    (hs : ∀ od n k x σ' H', kvs[n]? = some (k, x) → Pv od n σ' H' → tu { D with nx := Pv od (n + 1), ct := Pv od (n + 1), bk := fun σ' H' => H' d = some (.frz od (.dK kvs)) ∧ tz D σ' (upd H' d (.dK kvs)), rt := fun v H' => H' d = some (.frz od (.dK kvs)) ∧ D.rt v (upd H' d (.dK kvs)) } (σ'.set i (some (kV k))) H')
    (hdn : ∀ od σ' H', Pv od kvs.length σ' H' → tz D σ' (upd H' d (.dK kvs))) :
    tSeq (tLock (tFor (iKeysM td) (gName i) tu)) tz D σ H := by
  refine ⟨d, .dK kvs, hd, True.intro, fun od => ?_⟩
  refine h _ _ (Ex.refl _) _ fun H1 e1 => ⟨d, od, kvs, rfl, e1 d _ upd_same, ?_⟩
  refine ⟨fun n m σ' H' => m = kvs.length - n ∧ n ≤ kvs.length ∧ Pv od n σ' H', ⟨kvs.length, rfl, Nat.zero_le _, h0 od H1 e1⟩, ?_⟩
  rintro n m σ' H' ⟨rfl, hn, p⟩
  have q := hf od n σ' H' p
  by_cases lt : n < kvs.length
  · refine .inr ⟨⟨q, lt⟩, Pv od (n + 1), fun σ2 H2 p2 => ⟨kvs.length - (n + 1), by omega, rfl, lt, p2⟩, fun x H2 y => ?_⟩
    obtain ⟨rfl, k, v, hk, rfl⟩ := y
    exact hs od n k v σ' _ hk p
  · have e2 : n = kvs.length := by omega
    subst e2
    exact .inl ⟨⟨q, Nat.le_refl _⟩, q, hdn od σ' H' p⟩
theorem q_unpX {i j : Nat} (h : EvX te σ H R) (k : ∀ v H1, Ex H H1 → R v H1 → ∃ (p : Addr) (x y : V), v = .ref p ∧ SqT K H1 p [x, y] ∧ tz D ((σ.set i (some x)).set j (some y)) H1) : tSeq (tAsg te (gTup K 2 (gCons (gName i) (gCons (gName j) gNil)))) tz D σ H :=
  h H (Ex.refl H) _ fun v H1 e r => by
    obtain ⟨p, x, y, rfl, hp, q⟩ := k v H1 e r
    exact ⟨p, [x, y], rfl, hp, rfl, x, [y], rfl, y, [], rfl, rfl, q⟩
/-- two lists of the same data -/
theorem ev_neX {RA RB : V → Hp → Prop} (ha : EvX ta σ H RA) (hb : ∀ v1 H1, Ex H H1 → RA v1 H1 → EvX tb σ H1 RB) (hd : ∀ v1 H1 v2 H2, Ex H H1 → RA v1 H1 → Ex H1 H2 → RB v2 H2 → ∃ d, Dp K H2 v1 d ∧ Dp K H2 v2 d ∧ SeqAt.shaped d = true ∧ d.canLay0 = true) : Ev (tOp (rNeD K) ta tb) σ H (.bl false) := fun H1 e Q k =>
  ha H1 e _ fun v1 H2 e2 r1 => hb v1 H2 (e.trans e2) r1 H2 (Ex.refl H2) _ fun v2 H3 e3 r2 => by
    obtain ⟨d, d1, d2, sh, cl⟩ := hd v1 H2 v2 H3 (e.trans e2) r1 e3 r2
    refine ⟨_, _, d1, d2, sh, sh, ?_⟩
    rw [SeqAt.eqv_refl _ cl]
    exact k H3 (e2.trans e3)
theorem ev_eqX {RA RB : V → Hp → Prop} (ha : EvX ta σ H RA) (hb : ∀ v1 H1, Ex H H1 → RA v1 H1 → EvX tb σ H1 RB) (hd : ∀ v1 H1 v2 H2, Ex H H1 → RA v1 H1 → Ex H1 H2 → RB v2 H2 → ∃ d, Dp K H2 v1 d ∧ Dp K H2 v2 d ∧ SeqAt.shaped d = true ∧ d.canLay0 = true) : Ev (tOp (rEqD K) ta tb) σ H (.bl true) := fun H1 e Q k =>
  ha H1 e _ fun v1 H2 e2 r1 => hb v1 H2 (e.trans e2) r1 H2 (Ex.refl H2) _ fun v2 H3 e3 r2 => by
    obtain ⟨d, d1, d2, sh, cl⟩ := hd v1 H2 v2 H3 (e.trans e2) r1 e3 r2
    refine ⟨_, _, d1, d2, sh, sh, ?_⟩
    rw [SeqAt.eqv_refl _ cl]
    exact k H3 (e2.trans e3)
/-- [tuple(..) + (s,) for i, j, s in bs], new pairs with the same shares -/
theorem evx_lcTri {a : Addr} {bs : List Tri} {F : Nat × Nat → Nat × Nat} {i j k : Nat} {vs : List Nat} (h : Ev tl σ H (.ref a)) (hx : SqL K H a (bs.map fun b => V.ref b.1)) (hz : bs.length ≤ 40000) (hb : ∀ b ∈ bs, PairAt H b.1 b.2.1.1 b.2.1.2 b.2.2)
    (hw : ∀ x y z, wipe ((((wipe σ vs).set i (some x)).set j (some y)).set k (some z)) vs = wipe σ vs)
    (he : ∀ b ∈ bs, ∀ (q : Addr) H1, Ex H H1 → EvX te ((((wipe σ vs).set i (some (.int b.2.1.1))).set j (some (.int b.2.1.2))).set k (some (.ref q))) H1 (fun v H' => ∃ c : Addr, v = .ref c ∧ H1 c = none ∧ H' c = some (.tup [.int (F b.2.1).1, .int (F b.2.1).2, .ref q]))) :
    EvX (tLc (iList K tl) (gTup K 3 (gCons (gName i) (gCons (gName j) (gCons (gName k) gNil)))) tYes te vs) σ H (fun v H' => ∃ (p : Addr) (cs : List Tri), v = .ref p ∧ H p = none ∧ H' p = some (.lst (cs.map fun c => V.ref c.1)) ∧ cs.map (·.2) = bs.map (fun b => (F b.2.1, b.2.2)) ∧ ∀ c ∈ cs, PairAt H' c.1 c.2.1.1 c.2.1.2 c.2.2) := fun H0 e Q q => by
  refine h H0 e _ fun H1 e1 => ⟨a, rfl, ⟨_, ex_l (e.trans e1) hx⟩, fun Dl hD => ?_⟩
  have e01 := e.trans e1
  refine lc_list (xs := bs.map fun b => V.ref b.1)
    (fun n H' => Ex H1 H' ∧ ∃ cs : List Tri, H' Dl = some (.lst (cs.map fun c => V.ref c.1)) ∧ cs.map (·.2) = (bs.take n).map (fun b => (F b.2.1, b.2.2)) ∧ ∀ c ∈ cs, PairAt H' c.1 c.2.1.1 c.2.1.2 c.2.2)
    ⟨Ex.new hD, [], upd_same, rfl, fun _ y => nomatch y⟩ (fun n H' _ p => ex_l (e01.trans p.1) hx) (fun n x H' hn p => ?_) (fun H' p => ?_)
  · obtain ⟨e2, cs, h2, hcs, hat⟩ := p
    obtain ⟨b, hbn, mb, rfl⟩ : ∃ b, bs[n]? = some b ∧ b ∈ bs ∧ x = .ref b.1 := by
      rw [List.getElem?_map] at hn
      cases y : bs[n]? with
      | none =>
        rw [y] at hn
        exact nomatch hn
      | some c =>
        rw [y] at hn
        exact ⟨c, rfl, List.mem_of_getElem? y, (Option.some.inj hn).symm⟩
    obtain ⟨s, hs1, hs2⟩ := (hb b mb).later (e01.trans e2)
    have zc : cs.length ≤ 40000 := by
      have := congrArg List.length hcs
      rw [List.length_map, List.length_map, List.length_take] at this
      omega
    refine ⟨b.1, _, rfl, st_of hs1, rfl, _, _, rfl, _, _, rfl, _, [], rfl, rfl, hw _ _ _, ?_⟩
    simp only [tYes, ↓reduceIte]
    refine he b mb s H' (e01.trans e2) H' (Ex.refl H') _ fun v H2 e3 r => ?_
    obtain ⟨c, rfl, hc, hct⟩ := r
    have h3 := e3 _ _ h2
    have cD : c ≠ Dl := fun z => by
      rw [z, h2] at hc
      exact nomatch hc
    have sD : s ≠ Dl := fun z => by
      rw [z, h2] at hs2
      exact nomatch hs2
    refine ⟨_, h3, sz_lt (by rw [List.length_map]; omega), Ex.mut (e2.trans e3) hD, cs ++ [(c, F b.2.1, b.2.2)], by rw [upd_same, List.map_append]; rfl, ?_, fun y hy => ?_⟩
    · rw [List.map_append, hcs, List.take_add_one, hbn, List.map_append]
      rfl
    · rcases List.mem_append.mp hy with hy | hy
      · exact ((hat y hy).later e3).stay h3
      · obtain rfl := List.mem_singleton.mp hy
        exact ⟨s, (upd_ne cD).trans hct, (upd_ne sD).trans (e3 _ _ hs2)⟩
  · obtain ⟨e2, cs, h2, hcs, hat⟩ := p
    rw [List.length_map, List.take_length] at hcs
    exact q _ _ (e1.trans e2) ⟨Dl, cs, rfl, fresh_back e01 hD, h2, hcs, hat⟩
/-- sorted(e), e a new list of told pairs -/
theorem evx_sortedTri {bs0 : List ((Nat × Nat) × (Int × Int))} (h : EvX te σ H (fun v H' => ∃ (p : Addr) (cs : List Tri), v = .ref p ∧ H p = none ∧ H' p = some (.lst (cs.map fun c => V.ref c.1)) ∧ cs.map (·.2) = bs0 ∧ ∀ c ∈ cs, PairAt H' c.1 c.2.1.1 c.2.1.2 c.2.2)) (hz : bs0.length ≤ 5000) (nd : (bs0.map (·.1)).Nodup) :
    EvX (tCB (rSortedTri K) (tCons te tNil)) σ H (fun v H' => ∃ (p : Addr) (cs : List Tri), v = .ref p ∧ H p = none ∧ H' p = some (.lst (cs.map fun c => V.ref c.1)) ∧ (cs.map (·.2)).Perm bs0 ∧ (cs.map (·.2.1)).Pairwise ltP ∧ ∀ c ∈ cs, PairAt H' c.1 c.2.1.1 c.2.1.2 c.2.2) := fun H1 e Q q =>
  h H1 e _ fun v H2 e2 r => by
    obtain ⟨p, cs, rfl, hp, hl, hcs, hat⟩ := r
    have zl : cs.length ≤ 5000 := by
      have := congrArg List.length hcs
      rw [List.length_map] at this
      omega
    refine ⟨p, cs, rfl, sq_of hl, zl, hat, ?_, fun r ds hr pm up => q _ _ (e2.trans (Ex.new hr)) ⟨r, ds, rfl, fresh_back (e.trans e2) hr, upd_same, ?_, up, fun c hc => ((hat c (pm.mem_iff.mp hc)).later (Ex.new hr))⟩⟩
    · have ee : cs.map (·.2.1) = (cs.map (·.2)).map (·.1) := by rw [List.map_map]; rfl
      rw [ee, hcs]
      exact nd
    · rw [← hcs]
      exact pm.map _
end
end MuTri

namespace MuBag
open PySem PySem.Spec PyProof.Rows L2 Evl MuK MuEq MeetsSeq MeetsSeq2 MeetsSeq3 PySem.SeqAt
/-! ### a new dict, from here on read only -/
def tFrz (t : TE) : TE := fun σ H Q => t σ H fun x H1 => ∃ (d : Addr) (u : HO), x = .ref d ∧ H1 d = some u ∧ Mut (some u) ∧ ∀ od, Q x (upd H1 d (.frz od u))
theorem pe_frz {X : Cx} {e : Expr} {t : TE} (h : PE X e t) : PE X e (tFrz t) := by
  refine ⟨fun pins s σ H Q I hw => ?_⟩
  refine thn (h.run pins s σ H _ I hw) fun v s1 ⟨x, H1, I1, r, d, u, ex, hd, mu, q⟩ => ?_
  obtain ⟨od, I2⟩ := I1.lock hd mu
  exact ⟨x, _, I2, r, q od⟩
/-! ### lists unequal: not where their items are equal -/
section
variable {P : Program} {w : World}
theorem ne_loop (l b : Addr) (xs ys : Array Value) (n m : Nat) (d e : Option Addr) (sx sy : Array (Option Value)) (hz : xs.size = ys.size) (k : Nat) :
    ∀ i : Nat, xs.size - i = k → MeetsIn P w (Builtin.«list.__eq__.loop» ⟨[.ref l, .ref b, rawInt i, rawInt 3], []⟩)
      (fun A R s => s.heap.get? l = some { cls := .type "list", dict := d, data := .seq xs n, slots := sx } ∧ s.heap.get? b = some { cls := .type "list", dict := e, data := .seq ys m, slots := sy } ∧
        (∀ j (h1 : j < xs.size) (h2 : j < ys.size), EqP P w A.in1 s xs[j] ys[j] true) ∧
        R (.ok (.ret (.bool false))) s) := by
  induction k with
  | zero =>
    intro i hk A R s h
    obtain ⟨hp, g, dr, tk, os⟩ := s; obtain ⟨hl, hb, he, h⟩ := h
    wp_walk using AutoSeq1.wpAny_loadPart' hl, AutoSeq1.wpAny_loadPart' hb
    have hi1 : xs[((i : Nat) : Int).toNat]? = none := by simp; omega
    have hi2 : ys[((i : Nat) : Int).toNat]? = none := by simp; omega
    rw [hi1, hi2]
    wp_walk using AutoSeq1.wpAny_loadPart' hl, AutoSeq1.wpAny_loadPart' hb
    show R (.ok (.ret (.bool (xs.size != ys.size)))) _
    rw [hz]
    simpa using h
  | succ k ih =>
    intro i hk A R s h
    obtain ⟨hp, g, dr, tk, os⟩ := s; obtain ⟨hl, hb, he, h⟩ := h
    wp_walk using AutoSeq1.wpAny_loadPart' hl, AutoSeq1.wpAny_loadPart' hb
    have hlt : i < xs.size := by omega
    have hlt2 : i < ys.size := by omega
    have hi1 : xs[((i : Nat) : Int).toNat]? = some xs[i] := by simp [hlt]
    have hi2 : ys[((i : Nat) : Int).toNat]? = some ys[i] := by simp [hlt2]
    have hc : ((i : Int) + 1) = ((i + 1 : Nat) : Int) := by push_cast; rfl
    rw [hi1, hi2]
    refine wpAny_bind (he i hlt hlt2 _ _ ?_)
    wp_walk
    rw [hc]
    exact ⟨plainId_quiet plain_eq_loop _, codeAny_builtin entry_eq_loop (by
      rw [Around.under_plainId plain_eq_loop _]
      exact ih (i + 1) (by omega) A R _ ⟨hl, hb, he, h⟩)⟩
theorem ne_lists (l b : Addr) (xs ys : Array Value) (n m : Nat) (d e : Option Addr) (sx sy : Array (Option Value)) (hz : xs.size = ys.size) :
    MeetsIn P w (Builtin.«list.__ne__» ⟨[.ref l, .ref b], []⟩)
      (fun A R s => s.heap.get? l = some { cls := .type "list", dict := d, data := .seq xs n, slots := sx } ∧ s.heap.get? b = some { cls := .type "list", dict := e, data := .seq ys m, slots := sy } ∧
        (∀ j (h1 : j < xs.size) (h2 : j < ys.size), EqP P w A.in1 s xs[j] ys[j] true) ∧
        R (.ok (.ret (.bool false))) s) := by
  intro A R s h
  obtain ⟨hp, g, dr, tk, os⟩ := s; obtain ⟨hl, hb, he, h⟩ := h
  have f3 := AutoSeq1.sub_list_list
  have hne : ¬ (xs.size != ys.size) = true := by simp [hz]
  wp_walk using AutoSeq1.wpAny_loadPart' hl, AutoSeq1.wpAny_loadPart' hb
  exact ⟨plainId_quiet plain_eq_loop _, codeAny_builtin entry_eq_loop (by
    rw [Around.under_plainId plain_eq_loop _]
    exact ne_loop l b xs ys n m d e sx sy hz _ 0 rfl A R _ ⟨hl, hb, he, h⟩)⟩
end
section
variable {X : Cx}
/-- two lists whose items are equal, held unequal -/
def rNeV (K : PySem.W.Frag) : R2 := fun x y H Q => ∃ (a b : Addr) (xs ys : List V) (n : Nat), x = .ref a ∧ y = .ref b ∧ SqL K H a xs ∧ SqL K H b ys ∧ n ≤ 50 ∧ Paired (EqV K H n) xs ys ∧ Q (.bl false) H
theorem op_neV (hu : X.A.units + 64 < cLine) : OpR X (compareOp .NotEq) (rNeV X.K) := by
  intro pins s σ H x y v u Q I rx ry h
  obtain ⟨a, b, xs, ys, n, rfl, rfl, ha, hb, hn, hp, q⟩ := h
  obtain rfl : v = Value.ref a := rx
  obtain rfl : u = Value.ref b := ry
  obtain ⟨us, r1, p1, _⟩ := I.list ha
  obtain ⟨ws, r2, p2, _⟩ := I.list hb
  have len : us.length = ws.length := by rw [← r1.length, ← r2.length]; exact Paired.length hp
  obtain ⟨⟨cls1, dd1, data1, sl1⟩, g1, c1, m1, d1⟩ := id p1.isList
  obtain ⟨⟨cls2, dd2, data2, sl2⟩, g2, c2, m2, d2⟩ := id p2.isList
  simp only at c1 d1 c2 d2
  subst c1 d1 c2 d2
  have ta : s.TypeIs (.ref a) "list" := ⟨_, g1, rfl⟩
  have tb : s.TypeIs (.ref b) "list" := ⟨_, g2, rfl⟩
  have items : ∀ j (h1 : j < us.toArray.size) (h2 : j < ws.toArray.size), EqP X.prog X.w X.A.in1 s us.toArray[j] ws.toArray[j] true := fun j h1 h2 => by
    have k := items_run (fun x y v u e rx ry => eqV_run I n X.A.in1 (by show X.A.units + 1 + n < cLine; omega) x y v u e rx ry) hp r1 r2 j (by simpa using h1) (by simpa using h2)
    simpa using k
  refine wpAny_richCompare_same_room (op := .NotEq) ta tb F.slot_list_ne (call_meetsIn F.slot_list_ne ta F.entry_list_ne (F.args_list_ne_2 _ _) (ne_lists a b us.toArray ws.toArray _ _ _ _ _ _ (by simpa using len)) ⟨g1, g2, items, ?_⟩) (by omega)
  exact ⟨fun z => (nomatch z), .bl false, H, I, rfl, q⟩
end
/-! ### readings -/
section
variable {K : PySem.W.Frag} {σ : L2.St} {H H' : Hp} {ta tb tc te td tl : TE} {t u : TT} {x y z v : V} {D : Ends} {tu tw tz : TS} {R : V → Hp → Prop}
theorem el_lcItemsN {kvs : List (Key × V)} {i j : Nat} {vs : List Nat} (v : Nat → V) (h : ∀ H1, Ex H H1 → EvX td σ H1 (fun x H' => ∃ d, x = .ref d ∧ H1 d = none ∧ H' d = some (.dK kvs))) (hz : kvs.length ≤ 40000)
    (hw : ∀ x y, wipe (((wipe σ vs).set i (some x)).set j (some y)) vs = wipe σ vs)
    (he : ∀ (n : Nat) (k : Key) (x : V) H1, Ex H H1 → kvs[n]? = some (k, x) → Ev te (((wipe σ vs).set i (some (kV k))).set j (some x)) H1 (v n)) :
    EvL (tLc (iItems (tFrz td)) (gTup K 2 (gCons (gName i) (gCons (gName j) gNil))) tYes te vs) σ H (given kvs.length (fun _ => true) v) := fun H0 e Q q => by
  refine h H0 e H0 (Ex.refl H0) _ fun x H1 e1 r => ?_
  obtain ⟨d, rfl, hd, h1⟩ := r
  refine ⟨d, .dK kvs, rfl, h1, True.intro, fun od => ?_⟩
  have e1' : Ex H0 (upd H1 d (.frz od (.dK kvs))) := Ex.mut e1 hd
  refine ⟨d, od, kvs, rfl, upd_same, fun Dl hD => ?_⟩
  refine ⟨fun n m H' => m = kvs.length - n ∧ n ≤ kvs.length ∧ Cw (upd H1 d (.frz od (.dK kvs))) (fun _ => true) v Dl n H', ⟨kvs.length, rfl, Nat.zero_le _, hD, Ex.new hD, upd_same⟩, ?_⟩
  rintro n m H' ⟨rfl, hn, p⟩
  have hq : H' d = some (.frz od (.dK kvs)) := p.2.1 d _ upd_same
  by_cases lt : n < kvs.length
  · refine .inr ⟨⟨hq, lt⟩, fun H2 => Cw (upd H1 d (.frz od (.dK kvs))) (fun _ => true) v Dl (n + 1) H2, fun H2 p2 => ⟨kvs.length - (n + 1), by omega, rfl, lt, p2⟩, fun x H2 y => ?_⟩
    obtain ⟨T, k, x, hk, rfl, hT, rfl⟩ := y
    refine ⟨T, [kV k, x], rfl, st_of upd_same, rfl, kV k, [x], rfl, x, [], rfl, rfl, hw _ _, ?_⟩
    exact cw_turn (MuK.Cw.later p (Ex.new hT)) (by omega) (fun H3 e3 Q q => q H3 (Ex.refl H3)) fun _ => he n k x _ (e.trans e1') hk
  · have e2 : n = kvs.length := by omega
    subst e2
    exact .inl ⟨⟨hq, Nat.le_refl _⟩, q Dl H' (fresh_back e1' p.1) (e1'.trans p.2.1) p.2.2⟩
/-- for k in d, d locked -/
theorem s_forKeysD {d : Addr} {kvs : List (Key × V)} {i : Nat} (hd : H d = some (.dK kvs)) (h : ∀ H1, Ev td σ H1 (.ref d)) (Pv : Obj → Nat → L2.St → Hp → Prop)
    (h0 : ∀ od H1, Ex (upd H d (.frz od (.dK kvs))) H1 → Pv od 0 σ H1)
    (hs : ∀ od n k x σ' H' H2, kvs[n]? = some (k, x) → Pv od n σ' H' → Ex (upd H d (.frz od (.dK kvs))) H' → Ex H' H2 →
      tu { D with nx := fun σ3 H3 => Pv od (n + 1) σ3 H3 ∧ Ex (upd H d (.frz od (.dK kvs))) H3, ct := fun σ3 H3 => Pv od (n + 1) σ3 H3 ∧ Ex (upd H d (.frz od (.dK kvs))) H3, bk := fun σ' H' => H' d = some (.frz od (.dK kvs)) ∧ D.nx σ' (upd H' d (.dK kvs)), rt := fun v H' => H' d = some (.frz od (.dK kvs)) ∧ D.rt v (upd H' d (.dK kvs)) } (σ'.set i (some (kV k))) H2)
    (hdn : ∀ od σ' H', Pv od kvs.length σ' H' → Ex H (upd H' d (.dK kvs)) → D.nx σ' (upd H' d (.dK kvs))) :
    tLock (tFor (iKeys td) (gName i) tu) D σ H := by
  refine ⟨d, .dK kvs, hd, True.intro, fun od => ?_⟩
  refine h _ _ (Ex.refl _) _ fun H1 e1 => ⟨d, od, rfl, .inl ⟨kvs, e1 d _ upd_same, ?_⟩⟩
  refine ⟨fun n m σ' H' => m = kvs.length - n ∧ n ≤ kvs.length ∧ Pv od n σ' H' ∧ Ex (upd H d (.frz od (.dK kvs))) H', ⟨kvs.length, rfl, Nat.zero_le _, h0 od H1 e1, e1⟩, ?_⟩
  rintro n m σ' H' ⟨rfl, hn, p, e⟩
  have q := e d _ upd_same
  by_cases lt : n < kvs.length
  · refine .inr ⟨⟨q, lt⟩, fun σ3 H3 => Pv od (n + 1) σ3 H3 ∧ Ex (upd H d (.frz od (.dK kvs))) H3, fun σ2 H2 p2 => ⟨kvs.length - (n + 1), by omega, rfl, lt, p2.1, p2.2⟩, fun x H2 y => ?_⟩
    obtain ⟨rfl, k, v, hk, rfl⟩ := y
    exact hs od n k v σ' _ _ hk p e (Ex.refl _)
  · have e2 : n = kvs.length := by omega
    subst e2
    exact .inl ⟨⟨q, Nat.le_refl _⟩, q, hdn od σ' H' p (lock_back hd e)⟩
theorem q_forKeysD {d : Addr} {kvs : List (Key × V)} {i : Nat} (hd : H d = some (.dK kvs)) (h : ∀ H1, Ev td σ H1 (.ref d)) (Pv : Obj → Nat → L2.St → Hp → Prop)
    (h0 : ∀ od H1, Ex (upd H d (.frz od (.dK kvs))) H1 → Pv od 0 σ H1)
    (hs : ∀ od n k x σ' H' H2, kvs[n]? = some (k, x) → Pv od n σ' H' → Ex (upd H d (.frz od (.dK kvs))) H' → Ex H' H2 →
      tu { D with nx := fun σ3 H3 => Pv od (n + 1) σ3 H3 ∧ Ex (upd H d (.frz od (.dK kvs))) H3, ct := fun σ3 H3 => Pv od (n + 1) σ3 H3 ∧ Ex (upd H d (.frz od (.dK kvs))) H3, bk := fun σ' H' => H' d = some (.frz od (.dK kvs)) ∧ tz D σ' (upd H' d (.dK kvs)), rt := fun v H' => H' d = some (.frz od (.dK kvs)) ∧ D.rt v (upd H' d (.dK kvs)) } (σ'.set i (some (kV k))) H2)
    (hdn : ∀ od σ' H', Pv od kvs.length σ' H' → Ex H (upd H' d (.dK kvs)) → tz D σ' (upd H' d (.dK kvs))) :
    tSeq (tLock (tFor (iKeys td) (gName i) tu)) tz D σ H := s_forKeysD (D := { D with nx := tz D }) hd h Pv h0 hs hdn
theorem evx_lst3 {R1 : V → Hp → Prop} {R2' : V → V → Hp → Prop} {R3 : V → V → V → Hp → Prop} (h1 : EvX ta σ H R1) (h2 : ∀ v1 H1, Ex H H1 → R1 v1 H1 → EvX tb σ H1 (R2' v1))
    (h3 : ∀ v1 v2 H1 H2, Ex H H1 → R1 v1 H1 → Ex H1 H2 → R2' v1 v2 H2 → EvX tc σ H2 (R3 v1 v2)) :
    EvX (tLst (tCons ta (tCons tb (tCons tc tNil)))) σ H (fun v H' => ∃ (p : Addr) (v1 v2 v3 : V), v = .ref p ∧ H p = none ∧ H' p = some (.lst [v1, v2, v3]) ∧ ∃ H1 H2 H3, Ex H H1 ∧ R1 v1 H1 ∧ Ex H1 H2 ∧ R2' v1 v2 H2 ∧ Ex H2 H3 ∧ R3 v1 v2 v3 H3 ∧ Ex H3 H') := fun H0 e Q q =>
  h1 H0 e _ fun v1 H1 e1 r1 => h2 v1 H1 (e.trans e1) r1 H1 (Ex.refl H1) _ fun v2 H2 e2 r2 => h3 v1 v2 H1 H2 (e.trans e1) r1 e2 r2 H2 (Ex.refl H2) _ fun v3 H3 e3 r3 => ⟨sz_of (by simp), fun p hp =>
    q (.ref p) _ (((e1.trans e2).trans e3).trans (Ex.new hp)) ⟨p, v1, v2, v3, rfl, fresh_back (((e.trans e1).trans e2).trans e3) hp, upd_same, H1, H2, H3, e.trans e1, r1, e2, r2, e3, r3, Ex.new hp⟩⟩
theorem el_rev {a : Addr} {xs : List V} (h : Ev te σ H (.ref a)) (hs : SqL K H a xs) : EvL (tRevL K te) σ H xs.reverse := fun H1 e Q q =>
  h H1 e _ fun H2 e2 => ⟨a, xs, rfl, ex_l (e.trans e2) hs, fun p hp => q p _ (fresh_back e2 hp) (e2.trans (Ex.new hp)) upd_same⟩
/-- arguments: two new lists, then others -/
theorem ev_callNN {Dd : Hp → List V → V → Prop} {E : XK} {tr : TA} {vs xs ys : List V} (h : EvL ta σ H xs) (h2 : EvL tb σ H ys) (hr : EvA tr σ H vs) (hs : ∀ p r H1, Ex H H1 → H1 p = some (.lst xs) → H1 r = some (.lst ys) → Dd H1 (.ref p :: .ref r :: vs) v) :
    Ev (tCall (SpVal Dd) [] E (tCons ta (tCons tb tr))) σ H v := fun H1 e Q q =>
  h H1 e _ fun p H2 _ e2 hp => h2 H2 (e.trans e2) _ fun r H3 _ e3 hr2 => hr H3 ((e.trans e2).trans e3) _ fun H4 e4 => ⟨v, by rw [List.append_nil]; exact hs p r H4 (((e.trans e2).trans e3).trans e4) ((e3.trans e4) p _ hp) (e4 r _ hr2), fun H5 e5 => q H5 (((e2.trans e3).trans e4).trans e5)⟩
/-- the second argument a new list -/
theorem eu_callN2 {Dd : Hp → List V → List V → Prop} {E : XK} {tr : TA} {v1 : V} {vs xs ys : List V} (h : Ev ta σ H v1) (h2 : EvL tb σ H xs) (hr : EvA tr σ H vs) (hs : ∀ p H1, Ex H H1 → H1 p = some (.lst xs) → Dd H1 (v1 :: .ref p :: vs) ys) :
    EvU (tCall (SpTup Dd) [] E (tCons ta (tCons tb tr))) σ H ys := fun H1 e Q q =>
  h H1 e _ fun H2 e2 => h2 H2 (e.trans e2) _ fun p H3 _ e3 hp => hr H3 ((e.trans e2).trans e3) _ fun H4 e4 => ⟨ys, by rw [List.append_nil]; exact hs p H4 (((e.trans e2).trans e3).trans e4) (e4 p _ hp), fun t H5 ht e5 h5 => q t H5 (fresh_back ((e2.trans e3).trans e4) ht) (((e2.trans e3).trans e4).trans e5) h5⟩
theorem ev_opU1 {r : R2} {xs : List V} (ha : EvU ta σ H xs) (hb : ∀ H1, Ex H H1 → Ev tb σ H1 y) (hr : ∀ p H1, H1 p = some (.tup xs) → Ex H H1 → RV r (.ref p) y H1 z) : Ev (tOp r ta tb) σ H z := fun H1 e Q q =>
  ha H1 e _ fun p H2 _ e2 hp => hb H2 (e.trans e2) H2 (Ex.refl H2) _ fun H3 e3 => hr p H3 (e3 p _ hp) ((e.trans e2).trans e3) H3 (Ex.refl H3) Q fun H4 e4 => q H4 ((e2.trans e3).trans e4)
theorem s_forX {g : TG} (h : EvX tl σ H R) (k : ∀ v H1, Ex H H1 → R v H1 → tFor (iList K (tC v)) g tu D σ H1) : tFor (iList K tl) g tu D σ H := h H (Ex.refl H) _ k
theorem q_forX {g : TG} (h : EvX tl σ H R) (k : ∀ v H1, Ex H H1 → R v H1 → tSeq (tFor (iList K (tC v)) g tu) tz D σ H1) : tSeq (tFor (iList K tl) g tu) tz D σ H := h H (Ex.refl H) _ k
theorem ev_neV {a : Addr} {xs ys : List V} {n : Nat} (ha : Ev ta σ H (.ref a)) (h1 : SqL K H a xs) (hb : EvL tb σ H ys) (hn : n ≤ 50) (e1 : ∀ H1, Ex H H1 → Paired (EqV K H1 n) xs ys) : Ev (tOp (rNeV K) ta tb) σ H (.bl false) :=
  ev_opL ha hb fun p H1 hp e H2 e3 Q q => ⟨a, p, xs, ys, n, rfl, rfl, ex_l (e.trans e3) h1, sq_of (e3 p _ hp), hn, e1 H2 (e.trans e3), q H2 (Ex.refl H2)⟩
theorem txl_eq {p q : Addr} {ws : List Str} {n : Nat} (hp : SqL K H p (ws.map V.str)) (hq : SqL K H q (ws.map V.str)) : EqV K H (n + 2) (.ref p) (.ref q) :=
  .inr (.inr (.inl ⟨p, q, _, _, rfl, rfl, hp, hq, texts_eq (n := n) ws⟩))
theorem dict_eqR {p q : Addr} {kvs : List (Key × V)} (hp : H p = some (.dK kvs)) (hq : H q = some (.dK kvs)) (nd : (kvs.map (·.1)).Nodup) (hi : IntD kvs) : EqV K H 3 (.ref p) (.ref q) := dict_eq hp hq nd hi
theorem atI_modS {ws : List Str} {n : Int} {m : Nat} {d : Str} (hm : ws.length = m) (h0 : 0 < m) : atI (ws.map V.str) (n % (m : Int)) = some (.str (ws.getD (n % (m : Int)).toNat d)) := by
  have h := atI_mod (xs := ws.map V.str) (n := n) (m := m) (.str d) (by rw [List.length_map]; exact hm) h0
  rw [h]
  congr 1
  rw [List.getD_eq_getElem?_getD, List.getD_eq_getElem?_getD, List.getElem?_map]
  cases ws[(n % (m : Int)).toNat]? <;> rfl
theorem ev_dgetF {ty : TE} {d : Addr} {k : Key} {kvs : List (Key × V)} (hd : Ev td σ H (.ref d)) (h : Rd H d (.dK kvs)) (hk : Ev ty σ H (kV k)) (hv : valV kvs k = some v) : Ev (tDGet td ty) σ H v := fun H1 e Q q =>
  hd H1 e _ fun H2 e2 => hk H2 (e.trans e2) _ fun H3 e3 => ⟨d, v, rfl, .inl ⟨kvs, k, ex_rd ((e.trans e2).trans e3) h, rfl, hv.symm⟩, q H3 (e2.trans e3)⟩
/-- d[k] = a new tuple -/
theorem q_dputU {ty tv : TE} {d : Addr} {kvs : List (Key × V)} {k : Key} {xs : List V} (hd : H d = some (.dK kvs)) (hz : kvs.length < 100000) (hv : EvU tv σ H xs) (ho : Ev td σ H (.ref d)) (hk : Ev ty σ H (kV k))
    (q : ∀ t H1, Ex H H1 → H t = none → H1 t = some (.tup xs) → tz D σ (upd H1 d (.dK (putK kvs k (.ref t))))) : tSeq (sDPut td ty tv) tz D σ H := by
  refine hv H (Ex.refl H) _ fun t H1 ht e1 h1 => ho H1 e1 _ fun H2 e2 => hk H2 (e1.trans e2) _ fun H3 e3 => ?_
  have e := (e1.trans e2).trans e3
  exact ⟨d, _, rfl, DPut.k (e d _ hd) (sz_lt hz), q t H3 e ht ((e2.trans e3) t _ h1)⟩
/-- {k: a new tuple, ..}, four of them -/
theorem evx_disp4 {k1 k2 k3 k4 : Str} {x1 x2 x3 x4 : List V} {t1 t2 t3 t4 : TE} (h1 : EvU t1 σ H x1) (h2 : EvU t2 σ H x2) (h3 : EvU t3 σ H x3) (h4 : EvU t4 σ H x4)
    (hm : ∀ a b c d : V, mergeK [] [((.inr k1 : Key), a), (.inr k2, b), (.inr k3, c), (.inr k4, d)] = [(.inr k1, a), (.inr k2, b), (.inr k3, c), (.inr k4, d)]) :
    EvX (tDisp [(tC (.str k1), t1), (tC (.str k2), t2), (tC (.str k3), t3), (tC (.str k4), t4)]) σ H (fun v H' => ∃ d p1 p2 p3 p4 : Addr, v = .ref d ∧ H d = none ∧ H' d = some (.dK [(.inr k1, .ref p1), (.inr k2, .ref p2), (.inr k3, .ref p3), (.inr k4, .ref p4)]) ∧ H' p1 = some (.tup x1) ∧ H' p2 = some (.tup x2) ∧ H' p3 = some (.tup x3) ∧ H' p4 = some (.tup x4)) := fun H0 e Q q p hp => by
  have n1 : Ex H0 (upd H0 p (.dK [])) := Ex.new hp
  have ne : ∀ {b : Addr} {o : HO} {H2 : Hp}, H2 b = some (.tup x1) ∨ H2 b = some (.tup x2) ∨ H2 b = some (.tup x3) ∨ H2 b = some (.tup x4) → H2 p = some (.dK []) → b ≠ p := fun h g z => by
    rw [z, g] at h
    rcases h with h | h | h | h <;> exact nomatch h
  refine h1 _ (e.trans n1) _ fun p1 H1 _ e1 g1 => h2 H1 ((e.trans n1).trans e1) _ fun p2 H2 _ e2 g2 => h3 H2 (((e.trans n1).trans e1).trans e2) _ fun p3 H3 _ e3 g3 => h4 H3 ((((e.trans n1).trans e1).trans e2).trans e3) _ fun p4 H4 _ e4 g4 => ?_
  have gp : H4 p = some (.dK []) := (((e1.trans e2).trans e3).trans e4) _ _ upd_same
  refine ⟨gp, [(.inr k1, .ref p1), (.inr k2, .ref p2), (.inr k3, .ref p3), (.inr k4, .ref p4)], rfl, (by show 4 ≤ 15; decide), ?_⟩
  rw [hm]
  have f1 := ((e2.trans e3).trans e4) _ _ g1
  have f2 := (e3.trans e4) _ _ g2
  have f3 := e4 _ _ g3
  exact q _ _ (Ex.mut ((((n1.trans e1).trans e2).trans e3).trans e4) hp) ⟨p, p1, p2, p3, p4, rfl, fresh_back e hp, upd_same, (upd_ne (ne (o := .dK []) (.inl f1) gp)).trans f1, (upd_ne (ne (o := .dK []) (.inr (.inl f2)) gp)).trans f2, (upd_ne (ne (o := .dK []) (.inr (.inr (.inl f3))) gp)).trans f3, (upd_ne (ne (o := .dK []) (.inr (.inr (.inr g4))) gp)).trans g4⟩
end
/-! ### words -/
def BagOk (u : Str) : Prop := WordOk u ∧ u.length ≤ 24
instance (w : Str) : Decidable (BagOk w) := inferInstanceAs (Decidable (_ ∧ _))
def w10 : List Str := ["a", "b", "ab", "ba", "a.1", "b.2", "1", "x.", "a.10", "zz9"]
def wordM (n : Int) : Str := if n / 10 % 9 = 4 then cutS (Txt.mul (w10.getD (n % 10).toNat "a") 24) none (some 24) else if n / 10 % 9 = 5 then (⟨#[sgn (n / 90)]⟩ : Str) ++ (⟨#[sgn (n / 3330)]⟩ : Str) else w10.getD (n % 10).toNat "a"
theorem wordM_ok (n : Int) : BagOk (wordM n) := by
  unfold wordM
  split
  · exact getDP (P := fun u : Str => BagOk (cutS (Txt.mul u 24) none (some 24))) (by decide +kernel) (by decide +kernel) _
  · split
    · refine ⟨word_ok (sgn_in _) (tail_of (l := [sgn (n / 3330)]) (by show 1 ≤ 29; decide) fun c m => ?_), ?_⟩
      · obtain rfl := List.mem_singleton.mp m
        exact sgn_in _
      · show ((#[sgn (n / 90)] : Array Nat) ++ #[sgn (n / 3330)]).size ≤ 24
        simp
    · exact getDP (P := fun u : Str => BagOk u) (by decide +kernel) (by decide +kernel) _
/-! ### how often each comes -/
def firsts (ws : List Str) : List Str := ws.foldl (fun ks u => if u ∈ ks then ks else ks ++ [u]) []
theorem firsts_app (ws : List Str) (u : Str) : firsts (ws ++ [u]) = if u ∈ firsts ws then firsts ws else firsts ws ++ [u] := by
  unfold firsts
  rw [List.foldl_append]
  rfl
theorem snoc_ind {α : Type} {C : List α → Prop} (h0 : C []) (h1 : ∀ l a, C l → C (l ++ [a])) : ∀ l, C l := by
  have k : ∀ n (l : List α), l.length = n → C l := by
    intro n
    induction n with
    | zero =>
      intro l hl
      rw [List.length_eq_zero_iff.mp hl]
      exact h0
    | succ n ih =>
      intro l hl
      have ne : l ≠ [] := fun z => by
        rw [z] at hl
        exact nomatch hl
      rw [← List.dropLast_concat_getLast ne]
      exact h1 _ _ (ih _ (by rw [List.length_dropLast]; omega))
  exact fun l => k l.length l rfl
theorem firsts_spec (ws : List Str) : (firsts ws).Nodup ∧ ∀ u, u ∈ firsts ws ↔ u ∈ ws := by
  refine snoc_ind (C := fun ws => (firsts ws).Nodup ∧ ∀ u, u ∈ firsts ws ↔ u ∈ ws) ⟨List.nodup_nil, fun u => Iff.rfl⟩ (fun l a ih => ?_) ws
  obtain ⟨nd, m⟩ := ih
  rw [firsts_app]
  by_cases c : a ∈ firsts l
  · rw [if_pos c]
    refine ⟨nd, fun u => ?_⟩
    rw [m, List.mem_append, List.mem_singleton]
    refine ⟨.inl, fun h => ?_⟩
    rcases h with h | rfl
    · exact h
    · exact (m _).mp c
  · rw [if_neg c]
    refine ⟨List.nodup_append.mpr ⟨nd, by simp, fun x hx y hy z => ?_⟩, fun u => ?_⟩
    · rw [List.mem_singleton] at hy
      exact c (hy ▸ z ▸ hx)
    · rw [List.mem_append, List.mem_append, m]
theorem firsts_len (ws : List Str) : (firsts ws).length ≤ ws.length := nodup_len (firsts_spec ws).1 fun j h => ((firsts_spec ws).2 j).mp h
def cntD (ws : List Str) : List (Key × V) := (firsts ws).map fun u => (Sum.inr u, V.int (ws.count u))
theorem val_ks {g : Str → V} : ∀ {ks : List Str} {a : Str}, valV (ks.map fun u => ((Sum.inr u : Key), g u)) (.inr a) = if a ∈ ks then some (g a) else none
  | [], a => rfl
  | b :: r, a => by
    unfold valV
    rw [List.map_cons, List.find?_cons]
    by_cases c : b = a
    · subst c
      simp
    · have ne : ¬ ((Sum.inr b : Key) = Sum.inr a) := fun z => c (Sum.inr.inj z)
      rw [decide_eq_false ne]
      have := val_ks (g := g) (ks := r) (a := a)
      unfold valV at this
      show Option.map _ _ = _
      rw [this]
      have : (a ∈ b :: r) ↔ a ∈ r := by
        rw [List.mem_cons]
        exact ⟨fun h => h.elim (fun z => absurd z.symm c) id, .inr⟩
      simp only [this]
theorem val_cnt (ws : List Str) (a : Str) : (valV (cntD ws) (.inr a)).getD (.int 0) = .int (ws.count a) := by
  unfold cntD
  rw [val_ks (g := fun u => V.int (ws.count u))]
  split
  · rfl
  · rename_i h
    rw [(firsts_spec ws).2] at h
    rw [List.count_eq_zero.mpr h]
    rfl
theorem cnt_put (ws : List Str) (a : Str) : putK (cntD ws) (.inr a) (.int ((ws.count a : Int) + 1)) = cntD (ws ++ [a]) := by
  unfold cntD
  rw [firsts_app]
  have hc : ∀ u, ((ws ++ [a]).count u : Int) = ws.count u + (if a = u then 1 else 0) := fun u => by
    rw [List.count_append, List.count_singleton]
    by_cases c : a = u
    · subst c
      simp
    · rw [if_neg c, show (a == u) = false from beq_false_of_ne c]
      simp
  unfold putK
  by_cases c : a ∈ firsts ws
  · rw [if_pos c, if_pos (by
      rw [List.any_eq_true]
      exact ⟨_, List.mem_map.mpr ⟨a, c, rfl⟩, decide_eq_true rfl⟩), List.map_map]
    refine List.map_congr_left fun u hu => ?_
    rw [Function.comp_apply]
    by_cases d : a = u
    · subst d
      rw [if_pos rfl, hc, if_pos rfl]
    · rw [if_neg (fun z => d (Sum.inr.inj z).symm), hc, if_neg d, Int.add_zero]
  · have ca : ws.count a = 0 := List.count_eq_zero.mpr fun h => c (((firsts_spec ws).2 a).mpr h)
    rw [if_neg c, if_neg (by
      rw [Bool.not_eq_true, List.any_eq_false]
      intro kv m e
      obtain ⟨u, hu, rfl⟩ := List.mem_map.mp m
      exact c ((Sum.inr.inj (of_decide_eq_true e)) ▸ hu)), List.map_append]
    congr 1
    · refine List.map_congr_left fun u hu => ?_
      rw [hc, if_neg (fun z : a = u => c (by rw [z]; exact hu)), Int.add_zero]
    · show [((Sum.inr a : Key), V.int ((ws.count a : Int) + 1))] = [((Sum.inr a : Key), V.int ((ws ++ [a]).count a))]
      rw [hc, if_pos rfl]
theorem cnt_len (ws : List Str) : (cntD ws).length ≤ ws.length := by
  unfold cntD
  rw [List.length_map]
  exact firsts_len ws
/-! ### what bags have in common -/
def comT (kvs : List (Key × V)) (one other : List Str) (u : Str) : Int := wOf kvs u * min (one.count u : Int) (other.count u : Int)
def comM (kvs : List (Key × V)) (one other : List Str) : Int := ((firsts one).map (comT kvs one other)).sum
theorem sum_perm {f : Str → Int} {us ws : List Str} (p : us.Perm ws) : (us.map f).sum = (ws.map f).sum := by
  induction p with
  | nil => rfl
  | cons x _ ih => simp only [List.map_cons, List.sum_cons, ih]
  | swap x y l => simp only [List.map_cons, List.sum_cons]; omega
  | trans _ _ h1 h2 => exact h1.trans h2
theorem sum_filter {f : Str → Int} {p : Str → Bool} : ∀ {us : List Str}, (∀ u ∈ us, p u = false → f u = 0) → ((us.filter p).map f).sum = (us.map f).sum
  | [], _ => rfl
  | a :: r, h => by
    have ih := sum_filter (f := f) (p := p) (us := r) fun u hu => h u (List.mem_cons_of_mem _ hu)
    by_cases c : p a = true
    · rw [List.filter_cons_of_pos c, List.map_cons, List.map_cons, List.sum_cons, List.sum_cons, ih]
    · rw [List.filter_cons_of_neg c, ih, List.map_cons, List.sum_cons, h a List.mem_cons_self (Bool.not_eq_true _ ▸ c), Int.zero_add]
theorem sum_same {f : Str → Int} {us ws : List Str} (n1 : us.Nodup) (n2 : ws.Nodup) (h1 : ∀ u ∈ us, u ∉ ws → f u = 0) (h2 : ∀ u ∈ ws, u ∉ us → f u = 0) : (us.map f).sum = (ws.map f).sum := by
  rw [← sum_filter (us := us) (p := fun u => decide (u ∈ ws)) fun u hu e => h1 u hu (of_decide_eq_false e), ← sum_filter (us := ws) (p := fun u => decide (u ∈ us)) fun u hu e => h2 u hu (of_decide_eq_false e)]
  refine sum_perm ((List.perm_ext_iff_of_nodup (n1.filter _) (n2.filter _)).mpr fun u => ?_)
  rw [List.mem_filter, List.mem_filter, decide_eq_true_eq, decide_eq_true_eq]
  exact And.comm
theorem comT_symm (kvs : List (Key × V)) (one other : List Str) : comT kvs other one = comT kvs one other := funext fun u => by
  unfold comT
  rw [Int.min_comm]
theorem comT_zero {kvs : List (Key × V)} {one other : List Str} {u : Str} (h : u ∉ one ∨ u ∉ other) : comT kvs one other u = 0 := by
  unfold comT
  rcases h with h | h
  · rw [List.count_eq_zero.mpr h]
    rw [show min ((0 : Nat) : Int) (other.count u : Int) = 0 by omega, Int.mul_zero]
  · rw [List.count_eq_zero.mpr h]
    rw [show min (one.count u : Int) ((0 : Nat) : Int) = 0 by omega, Int.mul_zero]
theorem comM_symm (kvs : List (Key × V)) (one other : List Str) : comM kvs other one = comM kvs one other := by
  unfold comM
  rw [comT_symm]
  refine sum_same (firsts_spec _).1 (firsts_spec _).1 (fun u _ h => comT_zero (.inl fun z => h (((firsts_spec _).2 u).mpr z))) fun u _ h => comT_zero (.inr fun z => h (((firsts_spec _).2 u).mpr z))
theorem comM_perm {kvs : List (Key × V)} {one one2 other other2 : List Str} (p : one2.Perm one) (r : other2.Perm other) : comM kvs one2 other2 = comM kvs one other := by
  unfold comM
  have e : comT kvs one2 other2 = comT kvs one other := funext fun u => by
    unfold comT
    rw [p.count_eq, r.count_eq]
  rw [e]
  refine sum_perm ((List.perm_ext_iff_of_nodup (firsts_spec _).1 (firsts_spec _).1).mpr fun u => ?_)
  rw [(firsts_spec _).2, (firsts_spec _).2, p.mem_iff]
theorem sum_le {f g : Str → Int} : ∀ {us : List Str}, (∀ u ∈ us, f u ≤ g u) → (us.map f).sum ≤ (us.map g).sum
  | [], _ => Int.le_refl _
  | a :: r, h => by
    have ih := sum_le (f := f) (g := g) (us := r) fun u hu => h u (List.mem_cons_of_mem _ hu)
    have := h a List.mem_cons_self
    simp only [List.map_cons, List.sum_cons]
    omega
theorem sum_bd {f : Str → Int} {B : Int} : ∀ {us : List Str}, (∀ u ∈ us, 0 ≤ f u ∧ f u ≤ B) → 0 ≤ (us.map f).sum ∧ (us.map f).sum ≤ B * us.length
  | [], _ => by simp
  | a :: r, h => by
    obtain ⟨i1, i2⟩ := sum_bd (f := f) (B := B) (us := r) fun u hu => h u (List.mem_cons_of_mem _ hu)
    obtain ⟨j1, j2⟩ := h a List.mem_cons_self
    simp only [List.map_cons, List.sum_cons, List.length_cons]
    refine ⟨by omega, ?_⟩
    have : B * ((r.length + 1 : Nat) : Int) = B * (r.length : Int) + B := by
      rw [show ((r.length + 1 : Nat) : Int) = (r.length : Int) + 1 by omega, Int.mul_add, Int.mul_one]
    omega
theorem comT_bd {Pw : Str → Prop} {kvs : List (Key × V)} (h : WD Pw kvs) {one other : List Str} (z : one.length ≤ 60) (u : Str) : 0 ≤ comT kvs one other u ∧ comT kvs one other u ≤ 60000000 := by
  unfold comT
  obtain ⟨w1, w2⟩ := wOf_bd h u
  have c1 : one.count u ≤ one.length := List.count_le_length
  have m0 : 0 ≤ min (one.count u : Int) (other.count u : Int) := by omega
  have m1 : min (one.count u : Int) (other.count u : Int) ≤ 60 := by omega
  generalize min (one.count u : Int) (other.count u : Int) = m at m0 m1
  refine ⟨Int.mul_nonneg (by omega) m0, Int.le_trans (Int.mul_le_mul w2 m1 m0 (by omega)) (by decide)⟩
theorem comM_bd {Pw : Str → Prop} {kvs : List (Key × V)} (h : WD Pw kvs) {one other : List Str} (z : one.length ≤ 60) : 0 ≤ comM kvs one other ∧ comM kvs one other ≤ 3600000000 := by
  obtain ⟨a, b⟩ := sum_bd (f := comT kvs one other) (B := 60000000) (us := firsts one) fun u _ => comT_bd h z u
  have := firsts_len one
  refine ⟨a, Int.le_trans b ?_⟩
  omega
theorem comM_le {Pw : Str → Prop} {kvs : List (Key × V)} (h : WD Pw kvs) (one other : List Str) : comM kvs one other ≤ comM kvs one one := by
  unfold comM
  refine sum_le fun u _ => ?_
  unfold comT
  obtain ⟨w1, w2⟩ := wOf_bd h u
  exact Int.mul_le_mul_of_nonneg_left (by omega) (by omega)
theorem comM_sok {Pw : Str → Prop} {kvs : List (Key × V)} (h : WD Pw kvs) {one other : List Str} (z1 : one.length ≤ 60) (z2 : other.length ≤ 60) : SOk (comM kvs one one) (comM kvs other other) (comM kvs one other) := by
  obtain ⟨a0, a1⟩ := comM_bd h (other := one) z1
  obtain ⟨b0, b1⟩ := comM_bd h (other := other) z2
  obtain ⟨c0, c1⟩ := comM_bd h (other := other) z1
  have l1 := comM_le h one other
  have l2 := comM_le h other one
  rw [comM_symm] at l2
  refine ⟨⟨a0, Int.le_trans a1 (by decide), b0, Int.le_trans b1 (by decide), c0, by omega⟩, l1, l2⟩
theorem putK_wd {Pw : Str → Prop} {kvs : List (Key × V)} (h : WD Pw kvs) {b : Str} {z : Int} (hb : Pw b) (h1 : 1 ≤ z) (h2 : z ≤ 1000000) : WD Pw (putK kvs (.inr b) (.int z)) := by
  unfold putK
  split
  · intro kv m
    obtain ⟨x, hx, e⟩ := List.mem_map.mp m
    obtain ⟨u, y, rfl, r⟩ := h x hx
    by_cases c : (Sum.inr u : Key) = .inr b
    · rw [if_pos c] at e
      exact ⟨u, z, e.symm, r.1, h1, h2⟩
    · rw [if_neg c] at e
      exact ⟨u, y, e.symm, r⟩
  · intro kv m
    rcases List.mem_append.mp m with m | m
    · exact h kv m
    · obtain rfl := List.mem_singleton.mp m
      exact ⟨b, z, rfl, hb, h1, h2⟩
theorem putK_len (kvs : List (Key × V)) (k : Key) (v : V) : (putK kvs k v).length ≤ kvs.length + 1 := by
  unfold putK
  split
  · rw [List.length_map]; omega
  · rw [List.length_append]; exact Nat.le_refl _
/-- what a list of copies holds -/
def HandedAt (K : PySem.W.Frag) (H : Hp) (ph : Addr) (la lb : List Str) (kvs : List (Key × V)) : Prop := ∃ p1 p2 d3 : Addr, H ph = some (.lst [.ref p1, .ref p2, .ref d3]) ∧ H p1 = some (.lst (la.map V.str)) ∧ H p2 = some (.lst (lb.map V.str)) ∧ H d3 = some (.dK kvs)
theorem HandedAt.later {K : PySem.W.Frag} {H H' : Hp} {ph : Addr} {la lb : List Str} {kvs : List (Key × V)} (h : HandedAt K H ph la lb kvs) (e : Ex H H') : HandedAt K H' ph la lb kvs := by
  obtain ⟨p1, p2, d3, a, b, c, d⟩ := h
  exact ⟨p1, p2, d3, e _ _ a, e _ _ b, e _ _ c, e _ _ d⟩
theorem handed_evx {K : PySem.W.Frag} {σ : L2.St} {H : Hp} {a b d : Addr} {la lb : List Str} {kvs : List (Key × V)} {ta tb tc : TE} (ha : Ev ta σ H (.ref a)) (hb : Ev tb σ H (.ref b)) (hc : Ev tc σ H (.ref d)) (h1 : SqL K H a (la.map V.str)) (h2 : SqL K H b (lb.map V.str)) (h3 : H d = some (.dK kvs)) :
    EvX (tLst (tCons (tCB (rListS K) (tCons ta tNil)) (tCons (tCB (rListS K) (tCons tb tNil)) (tCons (tCB (fun xs H Q => ∃ (a : Addr) (kvs : List (Key × V)), xs = [.ref a] ∧ Rd H a (.dK kvs) ∧ ∀ p, H p = none → Q (.ref p) (upd H p (.dK kvs))) (tCons tc tNil)) tNil)))) σ H (fun v H' => ∃ ph, v = .ref ph ∧ HandedAt K H' ph la lb kvs) := by
  refine evx_mono (evx_lst3 (R1 := fun v H' => ∃ p1, v = .ref p1 ∧ H' p1 = some (.lst (la.map V.str))) (R2' := fun _ v H' => ∃ p2, v = .ref p2 ∧ H' p2 = some (.lst (lb.map V.str))) (R3 := fun _ _ v H' => ∃ d3, v = .ref d3 ∧ H' d3 = some (.dK kvs)) (fun H1 e1 Q q => el_list ha h1 H1 e1 _ fun p H2 _ e2 hp => q _ _ e2 ⟨p, rfl, hp⟩) (fun v1 H1 e1 _ H2 e2 Q q => el_list (hb.mono (e1.trans e2)) (ex_l (e1.trans e2) h2) H2 (Ex.refl H2) _ fun p H3 _ e3 hp => q _ _ e3 ⟨p, rfl, hp⟩)
    (fun v1 v2 H1 H2 e1 _ e2 _ H3 e3 Q q => (hc.mono ((e1.trans e2).trans e3)) H3 (Ex.refl H3) _ fun H4 e4 => ⟨d, kvs, rfl, .inl ((((e1.trans e2).trans e3).trans e4) _ _ h3), fun p hp => q _ _ (e4.trans (Ex.new hp)) ⟨p, rfl, upd_same⟩⟩)) fun v H1 e1 r => ?_
  obtain ⟨ph, v1, v2, v3, rfl, _, hph, H2, H3, H4, _, ⟨p1, rfl, g1⟩, e3, ⟨p2, rfl, g2⟩, e4, ⟨d3, rfl, g3⟩, e5⟩ := r
  exact ⟨ph, rfl, p1, p2, d3, hph, ((e3.trans e4).trans e5) _ _ g1, (e4.trans e5) _ _ g2, e5 _ _ g3⟩
theorem handed_ne {K : PySem.W.Frag} {σ : L2.St} {H : Hp} {ph a b d : Addr} {la lb : List Str} {kvs : List (Key × V)} {th ta tb tc : TE} (hh : Ev th σ H (.ref ph)) (ha : Ev ta σ H (.ref a)) (hb : Ev tb σ H (.ref b)) (hc : Ev tc σ H (.ref d)) (h0 : HandedAt K H ph la lb kvs) (h1 : SqL K H a (la.map V.str)) (h2 : SqL K H b (lb.map V.str)) (h3 : H d = some (.dK kvs)) (nd : (kvs.map (·.1)).Nodup) (hi : IntD kvs) :
    Ev (tOp (rNeV K) th (tLst (tCons ta (tCons tb (tCons tc tNil))))) σ H (.bl false) := by
  obtain ⟨p1, p2, d3, g0, g1, g2, g3⟩ := h0
  exact ev_neV (xs := [.ref p1, .ref p2, .ref d3]) (ys := [.ref a, .ref b, .ref d]) (n := 3) hh (sq_of g0) (el_lst (ea_cons ha (ea_cons hb (ea_cons hc ea_nil))) (by simp)) (by decide) fun H1 e => .cons (txl_eq (n := 1) (sq_of (e _ _ g1)) (ex_l e h1)) (.cons (txl_eq (n := 1) (sq_of (e _ _ g2)) (ex_l e h2)) (.cons (dict_eq (e _ _ g3) (e _ _ h3) nd hi) .nil))
end MuBag

namespace MuNG
open PySem PySem.Spec PyProof.Rows L2 MuGen GenW
/-! ### all(e for x in xs), e any expression of the hand layer: read in a context of its own for the expression's frame -/
def gcx (P : Program) (w : World) (K : PySem.W.Frag) (mg : Str → Option Value) (base : Heap) (A : Around) (x : Str) (s0 : Shared) (H0 : Hp) (env : Env) (outer : List Env) : Cx :=
  { prog := P, w := w, K := K, mg := mg, base := base, A := A, N := [x], s_0 := s0, H_0 := H0, env := env, outer := outer, stack := env :: outer, ex := [], fn := fun _ => false, calm := true, pn := [], xe := fun _ _ => False }
section
variable {X : Cx} {pins : List (Addr × Obj)} {σ : L2.St} {H1 : Hp} {s1 : Shared} {P C : Addr} {scope : Scope} {x : Str} {A : Around} {code : Value}
theorem start_inv (I : Inv X pins σ H1 s1) (hP : H1 P = some (TabO P)) (hk : scope.kind = .function) (hno : ∀ y, scope.names.lookup y ≠ some .free ∧ scope.names.lookup y ≠ some .cell) (hA : A.handled = none)
    (hf : A.frames = some (genEnv scope [] C code builtinsNs X.env :: X.stack)) (hC : s1.heap.objs.size ≤ C) {s5 : Shared} {m : Str → Option Value} (os : s5.os = s1.os) (bare : AllBare s5.gens) (keep : ∀ b o, b ≠ P → s1.heap.get? b = some o → s5.heap.get? b = some o)
    (tP : ∃ o, s5.heap.get? P = some o) (hok : HOk X.prog X.w H1 s5.heap) (ns : s5.heap.Ns C m) :
    Inv (gcx X.prog X.w X.K X.mg X.base A x s1 H1 (genEnv scope [] C code builtinsNs X.env) X.stack) [] [none] H1 s5 := by
  have off : ∀ b, H1 b = none → b ≠ P := fun b e z => by
    rw [z, hP] at e
    exact nomatch e
  have none_ : ∀ {y : Str} {c : Addr}, ([] : List (Str × Addr)).lookup y = some c → False := fun e => nomatch (show (none : Option Addr) = some _ from e)
  refine ⟨⟨I.ok.mod, hk, I.ok.glob, rfl, hC, fun _ _ _ e => (none_ e).elim, fun y h => ?_, fun _ _ _ e => (none_ e).elim, fun _ => hA, hf, .inr ⟨rfl, rfl⟩, fun _ z => (nomatch z), I.bs, Nat.le_trans I.ok.bsz I.sz, fun _ _ _ z => (nomatch z), fun _ z => (nomatch z), I.stack, I.stkFree⟩, os, bare,
    ⟨fun b o e n _ _ => keep b o (off b n) e, fun b o e n _ _ => ⟨o.slots, keep b o (off b n) e⟩, fun _ _ _ n _ => n, fun b o e _ => ?_, fun _ _ q => q, fun _ _ _ q => q, fun _ ps q => ⟨#[], by rw [Array.append_empty]; exact q⟩⟩,
    ⟨m, ns, fun i y v _ h2 => ?_⟩, fun _ _ e => (none_ e).elim, I.hok.fresh hC, fun _ _ e => (none_ e).elim, fun p hp => (nomatch hp), hok, rfl⟩
  · rcases h with h | h
    · exact absurd h (hno y).2
    · exact absurd h (hno y).1
  · by_cases z : b = P
    · exact z ▸ tP
    · exact ⟨o, keep b o z e⟩
  · match i, h2 with
    | 0, h2 => exact nomatch (Option.some.inj h2)
    | n + 1, h2 => exact nomatch h2
end
section
variable {Y : Cx} {Ig a ga g : Addr} {og : Obj} {xs : List V} {H1 : Hp} {b : Nat → Bool}
/-- n things are still to come -/
structure Good (Y : Cx) (Ig a ga : Addr) (og : Obj) (N : Nat) (H1 : Hp) (n : Nat) (s : Shared) : Prop where
  inv : ∃ (H' : Hp) (ov : Option V), Evl.Ex H1 H' ∧ Inv Y [(ga, og)] [ov] H' s ∧ H' Ig = none
  it : s.heap.IsListIter Ig a (N - n)
def Over (Y : Cx) (ga : Addr) (og : Obj) (H1 : Hp) (s : Shared) : Prop := ∃ (H' : Hp) (ov : Option V), Evl.Ex H1 H' ∧ Inv Y [(ga, og)] [ov] H' s
theorem inv_gens {pins : List (Addr × Obj)} {σ : L2.St} {H : Hp} {s : Shared} {gn : Array GenState} (I : Inv Y pins σ H s) (h : AllBare gn) : Inv Y pins σ H { s with gens := gn } :=
  ⟨I.ok, I.os, h, I.base, I.loc, I.cell, I.free, I.freeC, I.pin, I.hok, I.len⟩
theorem inv_pins {pins pins2 : List (Addr × Obj)} {σ : L2.St} {H : Hp} {s : Shared} (I : Inv Y pins σ H s) (h : ∀ p ∈ Y.pn ++ pins2, s.heap.get? p.1 = some p.2 ∧ H p.1 = none ∧ p.1 ≠ Y.env.locals ∧ p.1 ∉ Y.fs ∧ ∀ v, p.2.data ≠ .cell v) : Inv Y pins2 σ H s :=
  ⟨I.ok, I.os, I.bare, I.base, I.loc, I.cell, I.free, I.freeC, h, I.hok, I.len⟩
theorem Good.gens {N n : Nat} {s : Shared} {gn : Array GenState} (h : Good Y Ig a ga og N H1 n s) (hb : AllBare gn) : Good Y Ig a ga og N H1 n { s with gens := gn } := by
  obtain ⟨⟨H', ov, e, I, hn⟩, it⟩ := h
  exact ⟨⟨H', ov, e, inv_gens I hb, hn⟩, it⟩
def Yd (Y : Cx) (Ig a ga : Addr) (og : Obj) (N : Nat) (H1 : Hp) (b : Nat → Bool) : Protocol := fun n _ v s kap => Good Y Ig a ga og N H1 n s ∧ v = .bool (b (N - 1 - n)) ∧ ∀ s2, Good Y Ig a ga og N H1 n s2 → kap (.send .none) s2
def Ed (Y : Cx) (ga : Addr) (og : Obj) (H1 : Hp) : GenEnd := fun n _ r s => ((r = .ok (.ret .none) ∨ r = .ok .next) ∧ (n = 0 ∧ Over Y ga og H1 s)) ∨ ∃ e, r = .error e ∧ False
/-- what stays from turn to turn -/
structure Fixed (Y : Cx) (Ig a ga : Addr) (og : Obj) (xs : List V) (H1 : Hp) : Prop where
  seq : SqL Y.K H1 a xs
  pn : Y.pn = []
  ne : a ≠ Ig
  ga : ga ≠ Ig
  lc : Ig ≠ Y.env.locals
  fs : Ig ∉ Y.fs
  new : Y.s_0.heap.objs.size ≤ Ig
  cells : Y.env.cells = []
section
variable {prog : Program} {w : World} {K : PySem.W.Frag} {mg : Str → Option Value} {base : Heap} {x : Str} {s0 : Shared} {H0 : Hp} {env : Env} {outer : List Env} {elt iter : Expr} {px : Pos} {scope : Scope} {pos : Pos} {te : TE} {B : Around}
abbrev cdG (elt iter : Expr) (x : Str) (px : Pos) (scope : Scope) (pos : Pos) (Ig : Addr) (env : Env) : Code := .compLoop (.GeneratorExp elt [⟨.Name x px, iter, [], 0⟩] scope pos) 0 (.ref Ig) .none env
abbrev ycx (prog : Program) (w : World) (K : PySem.W.Frag) (mg : Str → Option Value) (base : Heap) (B : Around) (x : Str) (s0 : Shared) (H0 : Hp) (env : Env) (outer : List Env) (elt iter : Expr) (px : Pos) (scope : Scope) (pos : Pos) (Ig : Addr) : Cx :=
  gcx prog w K mg base (B.over (cdG elt iter x px scope pos Ig env) []) x s0 H0 env outer
theorem seg_turns (hB : B.handled = none) (Fx : Fixed (ycx prog w K mg base B x s0 H0 env outer elt iter px scope pos Ig) Ig a ga og xs H1) (hco : env.scope.isCoroutine = false) (hloc : env.scope.names.lookup x = some .local)
    (hpe : PE (ycx prog w K mg base B x s0 H0 env outer elt iter px scope pos Ig) elt te)
    (hel : ∀ (i : Nat) (y : V) (H' : Hp), xs[i]? = some y → Evl.Ex H1 H' → ∀ Q : VK, (∀ H2, Evl.Ex H' H2 → Q (.bl (b i)) H2) → te [some y] H' Q) :
    ∀ (n : Nat) (s₀ s : Shared), n ≤ xs.length → Good (ycx prog w K mg base B x s0 H0 env outer elt iter px scope pos Ig) Ig a ga og xs.length H1 n s →
      Seg (model prog w) B (Ed (ycx prog w K mg base B x s0 H0 env outer elt iter px scope pos Ig) ga og H1) (Yd (ycx prog w K mg base B x s0 H0 env outer elt iter px scope pos Ig) Ig a ga og xs.length H1 b) n s₀
        (cdG elt iter x px scope pos Ig env) ((model prog w).den (cdG elt iter x px scope pos Ig env)) [] s := by
  have hh : (B.over (cdG elt iter x px scope pos Ig env) []).handled = none := hB
  intro n
  induction n with
  | zero =>
    intro s₀ s hn hG
    obtain ⟨⟨H', ov, e, I, hI⟩, it⟩ := hG
    obtain ⟨its, rv, hl, _⟩ := I.list (Evl.ex_l e Fx.seq)
    have len : its.toArray.size = xs.length := by rw [List.size_toArray, rv.length]
    show Seg _ B _ _ _ s₀ _ ((compTurn (.GeneratorExp elt [⟨.Name x px, iter, [], 0⟩] scope pos) 0 (.ref Ig) .none env).onRaise (leaving env)) [] s
    rw [compTurn_gen, Sem.onRaise_eq_wrap]
    refine seg_bind_wrap (wpAny_standAt (seg_bind_wrap ((Walks.list (prog := prog) (w := w) hh Ig a Fx.ne its.toArray).done s _ _ ⟨by rw [len]; exact it, hl.isList⟩ fun h' tk hk => ?_)))
    refine seg_end (.ok .next) (.inl ⟨.inr rfl, rfl, H', ov, e, I.turned (it := Ig) (fun c o z => hk c o fun m => z (List.mem_singleton.mp m)) hI Fx.lc (.inr Fx.new) (fun y c z => ?_) fun p hp => ?_⟩)
    · rw [Fx.cells] at z
      exact nomatch (show (none : Option Addr) = some _ from z)
    · rw [Fx.pn] at hp
      obtain rfl := List.mem_singleton.mp hp
      exact Fx.ga
  | succ n ih =>
    intro s₀ s hn hG
    obtain ⟨⟨H', ov, e, I, hI⟩, it⟩ := hG
    obtain ⟨its, rv, hl, _⟩ := I.list (Evl.ex_l e Fx.seq)
    have len : its.toArray.size = xs.length := by rw [List.size_toArray, rv.length]
    have lt : xs.length - (n + 1) < xs.length := by omega
    show Seg _ B _ _ _ s₀ _ ((compTurn (.GeneratorExp elt [⟨.Name x px, iter, [], 0⟩] scope pos) 0 (.ref Ig) .none env).onRaise (leaving env)) [] s
    rw [compTurn_gen, Sem.onRaise_eq_wrap]
    refine seg_bind_wrap (wpAny_standAt (seg_bind_wrap ((Walks.list (prog := prog) (w := w) hh Ig a Fx.ne its.toArray).item (xs.length - (n + 1)) s _ _ (by rw [len]; exact lt) ⟨it, hl.isList⟩ fun v h' tk hv st hk => ?_)))
    have I2 := I.turned (t' := tk) (it := Ig) (fun c o z => hk c o fun m => z (List.mem_singleton.mp m)) hI Fx.lc (.inr Fx.new) (fun y c z => by
      rw [Fx.cells] at z
      exact nomatch (show (none : Option Addr) = some _ from z)) fun p hp => by
      rw [Fx.pn] at hp
      obtain rfl := List.mem_singleton.mp hp
      exact Fx.ga
    obtain ⟨y, hy, ry⟩ : ∃ y, xs[xs.length - (n + 1)]? = some y ∧ RelV y v := by
      obtain ⟨u, eu, ru⟩ := rv.get (List.getElem?_eq_getElem lt)
      have e2 : its[xs.length - (n + 1)]? = some v := by simpa using hv
      rw [e2] at eu
      exact ⟨_, List.getElem?_eq_getElem lt, Option.some.inj eu ▸ ru⟩
    obtain ⟨oi, ho, hcl, hda⟩ := st.1
    have I3 : Inv (ycx prog w K mg base B x s0 H0 env outer elt iter px scope pos Ig) [(Ig, oi), (ga, og)] [ov] H' { s with heap := h', toks := tk } := inv_pins I2 fun p hp => by
      rw [Fx.pn] at hp
      rcases List.mem_cons.mp hp with rfl | hp
      · exact ⟨ho, hI, Fx.lc, Fx.fs, fun z q => by rw [hda] at q; exact nomatch q⟩
      · exact I2.pin p (by rw [Fx.pn]; exact hp)
    refine seg_bind_wrap (wpAny_of_eq (rfl : letOwnedTupleGo (.Name x px) (.ref Ig) v = pure ()) (seg_bind_wrap (wpAny_assign_Name (store_ok2 (i := 0) I3 (by simp [gcx]) rfl (.inl hloc) ry (fun s2 I4 _ => ?_) (.inr hloc)))))
    refine seg_bind_wrap (m := pure true) (wpAny_pure ?_)
    simp only [if_true]
    have hy2 : ∀ u, yieldOut env u = yieldValue u := fun u => by simp only [yieldOut, hco, Bool.false_eq_true, if_false]
    simp only [hy2]
    rw [Sem.bind_eq_wrap', Sem.bind_eq_wrap', Sem.wrap_wrap, Sem.wrap_wrap]
    refine seg_wrap (wpAny_mono (hpe.run _ s2 [some y] H' (fun z H2 => z = .bl (b (xs.length - (n + 1))) ∧ Evl.Ex H1 H2) I4 (hel _ y H' hy e _ fun H2 e2 => ⟨rfl, e.trans e2⟩)) (fun u s3 r => ?_) fun _ _ z => z.elim)
    obtain ⟨z, H2, I5, rz, rfl, e2⟩ := r
    obtain rfl : u = .bool (b (xs.length - (n + 1))) := rz
    have pI := I5.pin (Ig, oi) (by rw [Fx.pn]; exact List.mem_cons_self)
    refine seg_at (seg_yield rfl rfl rfl ⟨⟨⟨H2, some y, e2, inv_pins I5 fun p hp => I5.pin p (by rw [Fx.pn] at hp ⊢; exact List.mem_cons_of_mem _ hp), pI.2.1⟩, oi, pI.1, hcl, ?_⟩, ?_, fun s4 hG4 => seg_again rfl (ih s4 s4 (by omega) hG4)⟩)
    · rw [hda, show xs.length - (n + 1) + 1 = xs.length - n by omega]
    · rw [show xs.length - 1 - n = xs.length - (n + 1) by omega]
theorem seg_begin (hB : B.handled = none) (Fx : Fixed (ycx prog w K mg base B x s0 H0 env outer elt iter px scope pos Ig) Ig a ga og xs H1) (hco : env.scope.isCoroutine = false) (hloc : env.scope.names.lookup x = some .local)
    (hpe : PE (ycx prog w K mg base B x s0 H0 env outer elt iter px scope pos Ig) elt te)
    (hel : ∀ (i : Nat) (y : V) (H' : Hp), xs[i]? = some y → Evl.Ex H1 H' → ∀ Q : VK, (∀ H2, Evl.Ex H' H2 → Q (.bl (b i)) H2) → te [some y] H' Q) (s₀ s : Shared)
    (hG : Good (ycx prog w K mg base B x s0 H0 env outer elt iter px scope pos Ig) Ig a ga og xs.length H1 xs.length s) :
    Seg (model prog w) B (Ed (ycx prog w K mg base B x s0 H0 env outer elt iter px scope pos Ig) ga og H1) (Yd (ycx prog w K mg base B x s0 H0 env outer elt iter px scope pos Ig) Ig a ga og xs.length H1 b) xs.length s₀
      (.compStart (.GeneratorExp elt [⟨.Name x px, iter, [], 0⟩] scope pos) 0 (.ref Ig) .none env) ((model prog w).den (.compStart (.GeneratorExp elt [⟨.Name x px, iter, [], 0⟩] scope pos) 0 (.ref Ig) .none env)) [] s := by
  have loop := seg_turns hB Fx hco hloc hpe hel xs.length s₀ s (Nat.le_refl _) hG
  have hh : (B.over (.compStart (.GeneratorExp elt [⟨.Name x px, iter, [], 0⟩] scope pos) 0 (.ref Ig) .none env) []).handled = none := hB
  obtain ⟨⟨H', ov, e, I, hI⟩, it⟩ := hG
  obtain ⟨its, rv, hl, _⟩ := I.list (Evl.ex_l e Fx.seq)
  rw [Nat.sub_self] at it
  show Seg _ B _ _ _ s₀ _ ((compStart (.GeneratorExp elt [⟨.Name x px, iter, [], 0⟩] scope pos) 0 (.ref Ig) .none env).onRaise (leaving env)) [] s
  unfold compStart
  rw [Sem.onRaise_eq_wrap]
  show Seg _ B _ _ _ s₀ _ ((ask >>= _).wrap _ _ _ _) [] s
  refine seg_bind_wrap (wpAny_askSetting ?_)
  split
  · exact seg_again rfl loop
  · first
      | exact seg_bind_wrap (wpAny_rule (seg_bind_wrap (wpAny_standAt (seg_bind_wrap ((Walks.list (prog := prog) (w := w) hh Ig a Fx.ne its.toArray).self 0 s _ _ ⟨it, hl.isList⟩ (seg_again rfl loop))))))
      | (refine seg_bind_wrap (wpAny_rule ?_)
         show Seg _ B _ _ _ s₀ _ ((standAt iter.pos >>= _).wrap _ _ _ _) [] s
         exact seg_bind_wrap (wpAny_standAt (seg_bind_wrap ((Walks.list (prog := prog) (w := w) hh Ig a Fx.ne its.toArray).self 0 s _ _ ⟨it, hl.isList⟩ (seg_again rfl loop)))))
end
/-- the walk of all(..) -/
theorem all_turns {A : Around} {R : Result → Shared → Prop} {N : Nat} (hh : A.handled = none) (hd : A.depth < recursionLimit) (hgen : ∀ s : Shared, s.heap.get? ga = some og → s.heap.IsGen ga g) (hpn : Y.pn = [])
    (fin : ∀ (bb : Bool) (s : Shared), Over Y ga og H1 s → bb = (List.range N).all b → R (.ok (.ret (.bool bb))) s) :
    ∀ (n : Nat) (s : Shared), n ≤ N → (∀ j, j < N - n → b j = true) → Good Y Ig a ga og N H1 n s → (∃ gs, s.gens[g]? = some gs ∧ gs.Goes (model Y.prog Y.w) A.in1.in1 (Ed Y ga og H1) (Yd Y Ig a ga og N H1 b) n (.send .none) (s.setGen g .running)) →
      codeAny (model Y.prog Y.w) A (.builtin "all.loop" ⟨[.ref ga], []⟩) R s := by
  have at_ : ∀ {s : Shared} {H' : Hp} {ov : Option V}, Inv Y [(ga, og)] [ov] H' s → s.heap.get? ga = some og := fun I => (I.pin (ga, og) (by rw [hpn]; exact List.mem_cons_self)).1
  intro n
  induction n with
  | zero =>
    intro s _ hall hG ⟨gs, hgs, hgo⟩
    obtain ⟨⟨H', ov, e, I, hI⟩, it⟩ := id hG
    refine codeAny_builtin PySem.F.entry_all_loop ?_
    rw [Around.under_plainId PySem.F.plain_all_loop _]
    show wpAny _ A.in1 (pyNext (.ref ga) >>= _) _ _ s
    refine wpAny_bind (next_genG (A := A.in1) (F := fun n _ s => n = 0 ∧ Over Y ga og H1 s) (Er := fun _ _ => False) hh I.nolimit hd (hgen s (at_ I)) hgs hgo (fun v s2 gs2 _ hv => (hv.2.2 s2 hv.1).elim) (fun s2 hp h3 hk => ?_) fun _ _ z => z.elim)
    obtain ⟨_, H2, ov2, e2, I2⟩ := hp
    refine wpAny_bind (wpAny_rule (wpAny_pure (fin true _ ⟨H2, ov2, e2, ?_⟩ ?_)))
    · exact inv_gens (I2.kept (t' := s2.toks) hk) (allBare_setGen I2.bare rfl)
    · exact (List.all_eq_true.mpr fun j hj => hall j (by have := List.mem_range.mp hj; omega)).symm
  | succ n ih =>
    intro s hn hall hG ⟨gs, hgs, hgo⟩
    have hgl : g < s.gens.size := (Array.getElem?_eq_some_iff.mp hgs).1
    obtain ⟨⟨H', ov, e, I, hI⟩, it⟩ := id hG
    refine codeAny_builtin PySem.F.entry_all_loop ?_
    rw [Around.under_plainId PySem.F.plain_all_loop _]
    show wpAny _ A.in1 (pyNext (.ref ga) >>= _) _ _ s
    refine wpAny_bind (wpAny_gsz (n := g + 1) hgl (next_genG (A := A.in1) (F := fun n _ s => n = 0 ∧ Over Y ga og H1 s) (Er := fun _ _ => False) hh I.nolimit hd (hgen s (at_ I)) hgs hgo (fun v s2 gs2 hb2 hv hsz => ?_) (fun s2 hp h3 hk _ => absurd hp.1 (Nat.succ_ne_zero n)) fun _ _ z => z.elim))
    obtain ⟨hG2, rfl, hk⟩ := hv
    have hsz2 : g < s2.gens.size := by
      have z : g + 1 ≤ s2.gens.size := by
        rw [← setGen_size s2 g gs2]
        exact hsz
      exact z
    have bare2 : AllBare s2.gens := by
      obtain ⟨⟨_, _, _, J, _⟩, _⟩ := hG2
      exact J.bare
    have bare3 : AllBare (s2.setGen g gs2).gens := allBare_setGen bare2 hb2
    refine wpAny_bind (wpAny_holding (wpAny_truthy_bool (wpAny_bind (wpAny_letGo ?_))))
    rw [show N - 1 - (n + 1 - 1) = N - (n + 1) by omega]
    cases hb : b (N - (n + 1)) with
    | true =>
      simp only [if_true]
      refine wpAny_pure ⟨plainId_quiet PySem.F.plain_all_loop _, ih (s2.setGen g gs2) (by omega) (fun j hj => ?_) (hG2.gens bare3) ⟨gs2, setGen_at hsz2, hk _ ?_⟩⟩
      · by_cases c : j < N - (n + 1)
        · exact hall j c
        · rw [show j = N - (n + 1) by omega]
          exact hb
      · exact hG2.gens (allBare_setGen (s := s2.setGen g gs2) bare3 rfl)
    | false =>
      simp only [Bool.false_eq_true, if_false]
      refine wpAny_bind (wpAny_rule (wpAny_pure (fin false _ ?_ ?_)))
      · obtain ⟨⟨H2, ov2, e2, I2, _⟩, _⟩ := hG2
        exact ⟨H2, ov2, e2, inv_gens I2 bare3⟩
      · refine (List.all_eq_false.mpr ⟨N - (n + 1), List.mem_range.mpr (by omega), ?_⟩).symm
        rw [hb]
        exact Bool.false_ne_true
end
/-- all(e for x in a list); te reads e with x alone -/
def tAllG (K : PySem.W.Frag) (P : Addr) (te tl : TE) : TE := fun σ H Q => tl σ H fun v H1 => H1 P = some (TabO P) ∧ ∃ (a : Addr) (xs : List V) (b : Nat → Bool), v = .ref a ∧ SqL K H1 a xs ∧
  (∀ (i : Nat) (y : V) (H' : Hp), xs[i]? = some y → Evl.Ex H1 H' → ∀ Q2 : VK, (∀ H2, Evl.Ex H' H2 → Q2 (.bl (b i)) H2) → te [some y] H' Q2) ∧ ∀ H2, Evl.Ex H1 H2 → Q (.bl ((List.range xs.length).all b)) H2
section
variable {X : Cx}
theorem pe_allG {c P : Addr} {elt iter : Expr} {x : Str} {p px gpos pos : Pos} {scope : Scope} {te tl : TE} {k : Nat}
    (hr : Room (k + 1) X.A) (TB : GxR.TabB X.base X.mg c P) (hcode : X.env.code = .ref c) (hm : X.mg "all" = none) (hg : Gl X "all")
    (hi : PE X iter tl) (hs : ∀ v, genFold iter X.env v = pure v) (N : GenN scope x) (hfr : ∀ z ∈ scope.names, z.2 ≠ .free) (hclo : ∀ cells, cloFrom cells scope.names [] = [])
    (hel : ∀ (A : Around) (s0 : Shared) (H0 : Hp) (C : Addr) (code : Value), Room k A → PE (gcx X.prog X.w X.K X.mg X.base A x s0 H0 (genEnv scope [] C code builtinsNs X.env) X.stack) elt te)
    (he : ∀ g : Expr, g = .GeneratorExp elt [⟨.Name x px, iter, [], 0⟩] scope gpos → starEach [g] X.env = (false, eval g X.env) :: starEach [] X.env) :
    PE X (.Call (.Name "all" p) [.GeneratorExp elt [⟨.Name x px, iter, [], 0⟩] scope gpos] [] pos) (tAllG X.K P te tl) := by
  have hno : ∀ y, scope.names.lookup y ≠ some .free ∧ scope.names.lookup y ≠ some .cell := fun y => ⟨fun e => hfr _ (PySem.mem_of_lookup e) rfl, fun e => N.cell _ (PySem.mem_of_lookup e) rfl⟩
  refine ⟨fun pins s σ H Q I h => ?_⟩
  have hclos : closureFor scope X.env = pure [] := by
    rw [closure_ok fun y hy e => absurd e (hfr y hy), hclo]
  have room : X.A.depth < recursionLimit := by
    have := hr.dp
    omega
  refine wpAny_Call_Name_kw (ld_blt I hg hm boot_all ?_)
  have he1 := he _ rfl
  refine PyProof.Rows.callWith_builtin1 ?_ he1 (by rfl)
  rw [he1]
  refine Calls.spliced_cons (wpAny_GeneratorExp_make N.co hclos N.cell N.dot N.kind room ?_ hs)
  refine thn (hi.run pins s σ H _ I h) fun xv s1 ⟨v, H1, I1, rv, hP, a, xs, b, ev, hx, hel2, q⟩ => ?_
  subst ev
  obtain rfl : xv = Value.ref a := rv
  obtain ⟨its, rvs, hl, _⟩ := I1.list hx
  have isl := hl.isList
  obtain ⟨ps, e0, ht⟩ := tab_get I1 hP
  refine wpAny_pyIter_list isl ⟨I1.nolimit.push _, ?_⟩
  generalize ho : ({ cls := .type "list_iterator", data := .fields #[.ref a, .int 0 0] } : Obj) = o
  have up : ∀ b u, s1.heap.get? b = some u → (s1.heap.push o).get? b = some u := fun b u e => Heap.get?_push_of_some _ e
  have zpush : (s1.heap.push o).objs.size = s1.heap.objs.size + 1 := Heap.size_push ..
  have cd : PySem.W.CodeHd (s1.heap.push o) c P := TB.code.keeps fun b u e => up b u (I1.bk b u e)
  have alt : a < s1.heap.objs.size := by
    have ⟨_, e, _⟩ := isl
    exact Heap.lt_size e
  have Plt := Heap.lt_size e0
  refine code_any hcode cd (up P _ e0) ht fun code h3 tk qs hx3 h3z hP3 ht3 => ?_
  have keep3 : ∀ b u, b ≠ P → s1.heap.get? b = some u → h3.get? b = some u := fun b u y e => hx3 b u y (up b u e)
  obtain ⟨bm, ob, e1, e2, e3, e4, e5, e6, e7, e8⟩ := TB.bm
  have ns3 : h3.Ns X.env.globals X.mg := by
    rw [I1.ok.glob]
    exact ((I1.mod.glob.keeps I1.bk).push o).extBut hx3 TB.gP
  refine wpAny_builtinsFor (m := X.mg) ns3 e1 e2 (keep3 _ _ e4 (I1.bk _ _ e5)) e6 e7 e8 ?_
  intro h' hn' hs'
  have hz1 : s1.heap.objs.size + 1 ≤ h3.objs.size := by
    have z : (s1.heap.push o).objs.size ≤ h3.objs.size := h3z
    omega
  have keep' : ∀ b o, h3.get? b = some o → h'.get? b = some o := fun b o e => hs'.extBut b o (Nat.ne_of_lt (Heap.lt_size e)) (Heap.get?_push_of_some _ e)
  have hsz : h'.objs.size = h3.objs.size + 1 := by rw [hs'.1, Heap.size_push]
  have itP : s1.heap.objs.size ≠ P := Nat.ne_of_gt Plt
  have it3 : h3.get? s1.heap.objs.size = some o := hx3 _ _ itP (by rw [← ho]; exact Heap.get?_push_size _ rfl)
  refine Calls.spliced_nil ?_
  generalize hog : ({ cls := .type "generator", data := .fields #[.int s1.gens.size 0, .str "<genexpr>" (tk + 1), .str (X.env.qual ++ "<genexpr>") (tk + 1 + 1)] } : Obj) = og
  have keep5 : ∀ b u, h3.get? b = some u → (h'.push og).get? b = some u := fun b u e => Heap.get?_push_of_some _ (keep' b u e)
  have bare5 : AllBare (s1.gens.push (.fresh (.compStart (.GeneratorExp elt [⟨.Name x px, iter, [], 0⟩] scope gpos) 0 (.ref s1.heap.objs.size) .none (genEnv scope [] h3.objs.size code builtinsNs X.env)))) := I1.bare.push rfl
  have hok5 : HOk X.prog X.w H1 (h'.push og) := (inv_grown (hn := h'.push og) (gn := s1.gens) (dn := s1.drawn) (tn := s1.toks) I1 hP (fun b u y e => keep5 b u (keep3 b u y e)) (keep5 _ _ hP3) ht3 I1.bare).hok
  refine call_function_tree PySem.F.kind_all PySem.F.plain_all PySem.F.entry_all (PySem.F.args_all1 _) ?_
  unfold Builtin.«all»
  refine wpAny_bind (m := oneArg "all" _) (wpAny_pure ?_)
  have gen5 : ∀ s : Shared, s.heap.get? h'.objs.size = some og → s.heap.IsGen h'.objs.size s1.gens.size := fun s e => ⟨og, _, _, e, by rw [← hog], by rw [← hog], by rw [← hog]⟩
  have ogAt : (h'.push og).get? h'.objs.size = some og := by
    rw [← hog]
    exact Heap.get?_push_size _ rfl
  refine wpAny_bind (wpAny_pyIter_gen (gen5 _ ogAt) ?_)
  have hAf : (X.A.in1.in1.over (cdG elt iter x px scope gpos s1.heap.objs.size (genEnv scope [] h3.objs.size code builtinsNs X.env)) []).frames = some (genEnv scope [] h3.objs.size code builtinsNs X.env :: X.stack) := by
    show pushEnvs [genEnv scope [] h3.objs.size code builtinsNs X.env] (pushEnvs (envsOf []) X.A.frames) = _
    rw [I1.ok.frames]
    rfl
  have hrG : Room k (X.A.in1.in1.over (cdG elt iter x px scope gpos s1.heap.objs.size (genEnv scope [] h3.objs.size code builtinsNs X.env)) []) := by
    obtain ⟨a1, a2, a3⟩ := hr
    refine ⟨a1, ?_, ?_⟩
    · show X.A.depth + 0 + 1 + 3 * k + 5 < _
      omega
    · show X.A.units + 1 + 1 + 0 + 3 + 16 * k + 200 < _
      omega
  have J : Inv (ycx X.prog X.w X.K X.mg X.base X.A.in1.in1 x s1 H1 (genEnv scope [] h3.objs.size code builtinsNs X.env) X.stack elt iter px scope gpos s1.heap.objs.size) [] [none] H1
      { s1 with heap := h'.push og, gens := s1.gens.push (.fresh (.compStart (.GeneratorExp elt [⟨.Name x px, iter, [], 0⟩] scope gpos) 0 (.ref s1.heap.objs.size) .none (genEnv scope [] h3.objs.size code builtinsNs X.env))), toks := tk + 1 + 1 + 1 } :=
    start_inv (A := X.A.in1.in1.over (cdG elt iter x px scope gpos s1.heap.objs.size (genEnv scope [] h3.objs.size code builtinsNs X.env)) []) (C := h3.objs.size) (code := code) (s5 := { s1 with heap := h'.push og, gens := s1.gens.push (.fresh (.compStart (.GeneratorExp elt [⟨.Name x px, iter, [], 0⟩] scope gpos) 0 (.ref s1.heap.objs.size) .none (genEnv scope [] h3.objs.size code builtinsNs X.env))), toks := tk + 1 + 1 + 1 }) I1 hP N.kind hno hr.hd hAf (by omega) rfl bare5 (fun b u y e => keep5 b u (keep3 b u y e)) ⟨_, keep5 _ _ hP3⟩ hok5 (hn'.push _)
  have stkLt : ∀ b ∈ frs X.stack, b < s1.heap.objs.size := fun b hb => by
    obtain ⟨_, o, ho, _⟩ := I1.stack.mem hb
    exact Heap.lt_size ho
  have J2 := inv_pins (pins2 := [(h'.objs.size, og)]) J fun p hp => by
    obtain rfl := List.mem_singleton.mp (show p ∈ [(h'.objs.size, og)] from hp)
    refine ⟨ogAt, I1.hok.fresh (by show s1.heap.objs.size ≤ h'.objs.size; omega), ?_, fun m => ?_, fun z y => ?_⟩
    · show h'.objs.size ≠ h3.objs.size
      omega
    · exact absurd (stkLt _ m) (by show ¬ h'.objs.size < s1.heap.objs.size; omega)
    · rw [← hog] at y
      exact nomatch y
  have Fx : Fixed (ycx X.prog X.w X.K X.mg X.base X.A.in1.in1 x s1 H1 (genEnv scope [] h3.objs.size code builtinsNs X.env) X.stack elt iter px scope gpos s1.heap.objs.size) s1.heap.objs.size a h'.objs.size og xs H1 :=
    ⟨hx, rfl, Nat.ne_of_lt alt, (by show h'.objs.size ≠ s1.heap.objs.size; omega), by show s1.heap.objs.size ≠ h3.objs.size; omega, fun m => Nat.lt_irrefl _ (stkLt _ m), Nat.le_refl _, rfl⟩
  have hGood : Good (ycx X.prog X.w X.K X.mg X.base X.A.in1.in1 x s1 H1 (genEnv scope [] h3.objs.size code builtinsNs X.env) X.stack elt iter px scope gpos s1.heap.objs.size) s1.heap.objs.size a h'.objs.size og xs.length H1 xs.length
      { s1 with heap := h'.push og, gens := s1.gens.push (.fresh (.compStart (.GeneratorExp elt [⟨.Name x px, iter, [], 0⟩] scope gpos) 0 (.ref s1.heap.objs.size) .none (genEnv scope [] h3.objs.size code builtinsNs X.env))), toks := tk + 1 + 1 + 1 } := by
    refine ⟨⟨H1, none, Evl.Ex.refl _, J2, I1.hok.fresh (Nat.le_refl _)⟩, o, keep5 _ _ it3, by rw [← ho], ?_⟩
    rw [← ho, Nat.sub_self]
    rfl
  refine wpAny_pure ⟨plainId_quiet PySem.F.plain_all_loop _, all_turns (Y := ycx X.prog X.w X.K X.mg X.base X.A.in1.in1 x s1 H1 (genEnv scope [] h3.objs.size code builtinsNs X.env) X.stack elt iter px scope gpos s1.heap.objs.size) (Ig := s1.heap.objs.size) (a := a) (ga := h'.objs.size) (og := og) (H1 := H1) (g := s1.gens.size) (N := xs.length) (b := b) hr.hd room gen5 rfl (fun bb s6 hO hbb => ?_) xs.length _ (Nat.le_refl _) (fun j hj => absurd hj (by omega)) hGood ⟨_, Array.getElem?_push_size .., rfl, ?_⟩⟩
  · obtain ⟨H2, ov, e2, I2⟩ := hO
    refine ⟨.bl bb, H2, ?_, rfl, hbb ▸ q H2 e2⟩
    have F := I1.call' (s' := s6) (ch := []) I2.os I2.base I2.hok I2.bare fun b z => nomatch z
    exact F
  · exact seg_begin (b := b) (B := X.A.in1.in1) (px := px) (iter := iter) (pos := gpos) hr.hd Fx N.co N.loc (hel (X.A.in1.in1.over (cdG elt iter x px scope gpos s1.heap.objs.size (genEnv scope [] h3.objs.size code builtinsNs X.env)) []) s1 H1 h3.objs.size code hrG) hel2 _ _ (hGood.gens (allBare_setGen (x := .running) bare5 rfl))
end
section
open Evl
variable {K : PySem.W.Frag} {σ : L2.St} {H : Hp}
theorem ev_allG {P a : Addr} {te tl : TE} {xs : List V} {b : Nat → Bool} {r : Bool} (h : Ev tl σ H (.ref a)) (hx : SqL K H a xs) (hP : H P = some (TabO P)) (he : ∀ (i : Nat) (y : V) (H' : Hp), Ex H H' → xs[i]? = some y → Ev te [some y] H' (.bl (b i))) (hr : (List.range xs.length).all b = r) :
    Ev (tAllG K P te tl) σ H (.bl r) := fun H1 e Q q => h H1 e _ fun H2 e2 => ⟨(e.trans e2) _ _ hP, a, xs, b, rfl, ex_l (e.trans e2) hx, fun i y H' hy e3 Q2 q2 => he i y H' ((e.trans e2).trans e3) hy H' (Ex.refl H') Q2 q2, fun H3 e3 => hr ▸ q H3 (e2.trans e3)⟩
end
end MuNG

namespace MuLc
open PySem PySem.Spec PyProof.Rows L2 Evl MuK
/-! ### list comprehensions whose elements are new things -/
theorem paired_mono {α β : Type} {F G : α → β → Prop} (h : ∀ a b, F a b → G a b) : ∀ {xs : List α} {ys : List β}, Paired F xs ys → Paired G xs ys
  | _, _, .nil => .nil
  | _, _, .cons a r => .cons (h _ _ a) (paired_mono h r)
theorem paired_app {α β : Type} {F : α → β → Prop} : ∀ {xs : List α} {ys : List β} {xs2 : List α} {ys2 : List β}, Paired F xs ys → Paired F xs2 ys2 → Paired F (xs ++ xs2) (ys ++ ys2)
  | _, _, _, _, .nil, h => h
  | _, _, _, _, .cons a r, h => .cons a (paired_app r h)
theorem paired_left {α β γ : Type} {F : γ → β → Prop} {g : α → γ} : ∀ {xs : List α} {ys : List β}, Paired (fun a b => F (g a) b) xs ys → Paired F (xs.map g) ys
  | _, _, .nil => .nil
  | _, _, .cons a r => .cons a (paired_left r)
theorem keep_at {α : Type} (ps : List α) (d : α) (g : α → Bool) : ((List.range ps.length).filter fun n => g (ps.getD n d)).map (fun n => ps.getD n d) = ps.filter g := by
  have e : (List.range ps.length).map (fun i => ps.getD i d) = ps := by
    apply List.ext_getElem
    · simp
    · intro i h1 h2
      simp [List.getD_eq_getElem?_getD, h2]
  conv => rhs; rw [← e]
  rw [List.filter_map]
  rfl
section
variable {K : PySem.W.Frag} {σ : L2.St} {H H' : Hp} {ta tb te tl : TE} {t : TT} {x y z v : V} {R : V → Hp → Prop}
theorem evx_lcX {a : Addr} {xs : List V} {g : TG} {vs : List Nat} (f : Nat → Bool) (R : Nat → V → Hp → Prop) (h : Ev tl σ H (.ref a)) (hx : SqL K H a xs) (hz : xs.length ≤ 40000)
    (hstep : ∀ (n : Nat) (x : V) (H' : Hp), xs[n]? = some x → Ex H H' → ∃ σn : L2.St, wipe σn vs = wipe σ vs ∧ (∀ k : L2.St → Hp → Prop, k σn H' → g x (wipe σ vs) H' k) ∧ EvT t σn H' (f n) ∧ (f n = true → EvX te σn H' (R n)))
    (hR : ∀ n y H1 H2, R n y H1 → Ex H1 H2 → R n y H2) (hS : ∀ n y (H1 : Hp) D zs o, R n y H1 → H1 D = some (.lst zs) → R n y (upd H1 D o)) :
    EvX (tLc (iList K tl) g t te vs) σ H (fun v H' => ∃ (D : Addr) (ys : List V), v = .ref D ∧ H D = none ∧ H' D = some (.lst ys) ∧ Paired (fun n y => R n y H') ((List.range xs.length).filter f) ys) := fun H0 e Q q => by
  refine h H0 e _ fun H1 e1 => ⟨a, rfl, ⟨xs, ex_l (e.trans e1) hx⟩, fun D hD => ?_⟩
  let Nx : Nat → Hp → Prop := fun n H' => n ≤ xs.length ∧ Ex H1 H' ∧ ∃ ys : List V, H' D = some (.lst ys) ∧ ys.length ≤ n ∧ Paired (fun n y => R n y H') ((List.range n).filter f) ys
  refine ⟨fun n m H' => m = xs.length - n ∧ Nx n H', ⟨xs.length, rfl, Nat.zero_le _, Ex.new hD, [], upd_same, Nat.le_refl _, .nil⟩, ?_⟩
  rintro n m H' ⟨rfl, hn, e2, ys, hys, zy, pr⟩
  have e02 := (e.trans e1).trans e2
  have hq := ex_l e02 hx
  by_cases lt : n < xs.length
  · refine .inr ⟨⟨xs, xs[n], hq, List.getElem?_eq_getElem lt⟩, Nx (n + 1), fun H2 p2 => ⟨xs.length - (n + 1), by omega, rfl, p2⟩, fun x H2 y => ?_⟩
    obtain ⟨rfl, hx2⟩ := y
    obtain ⟨σn, hw, hg, ht, he⟩ := hstep n x _ (hx2 xs hq) e02
    refine hg _ ⟨hw, ht _ (Ex.refl _) _ fun H3 e3 => ?_⟩
    cases hf : f n with
    | false =>
      show Nx (n + 1) H3
      refine ⟨lt, e2.trans e3, ys, e3 _ _ hys, by omega, ?_⟩
      rw [List.range_succ, List.filter_append, List.filter_cons_of_neg (by rw [hf]; exact Bool.false_ne_true), List.filter_nil, List.append_nil]
      exact paired_mono (fun a b r => hR a b _ _ r e3) pr
    | true =>
      show te σn H3 fun y H4 => ∃ acc, H4 D = some (.lst acc) ∧ acc.length < sizeLine ∧ Nx (n + 1) (upd H4 D (.lst (acc ++ [y])))
      refine (he hf) H3 e3 _ fun y H4 e4 r => ⟨ys, (e3.trans e4) _ _ hys, sz_lt (by omega), lt, Ex.mut (e2.trans (e3.trans e4)) hD, ys ++ [y], upd_same, by rw [List.length_append]; show ys.length + 1 ≤ n + 1; omega, ?_⟩
      have h4 := (e3.trans e4) _ _ hys
      rw [List.range_succ, List.filter_append, List.filter_cons_of_pos hf, List.filter_nil]
      exact paired_app (paired_mono (fun a b r => hS a b _ _ _ _ (hR a b _ _ r (e3.trans e4)) h4) pr) (.cons (hS _ _ _ _ _ _ r h4) .nil)
  · obtain rfl : n = xs.length := by omega
    exact .inl ⟨⟨xs, hq, Nat.le_refl _⟩, q _ _ (e1.trans e2) ⟨D, ys, rfl, fresh_back (e.trans e1) hD, hys, pr⟩⟩
/-- over a list of the pairs ps -/
theorem evx_lcP {α : Type} {a : Addr} {ys0 : List V} {ps : List α} (d : α) {g : TG} {vs : List Nat} (F : α → V → Hp → Prop) (f : α → Bool) (R : α → V → Hp → Prop) (h : Ev tl σ H (.ref a)) (hx : SqL K H a ys0) (hp : Paired (fun p y => F p y H) ps ys0) (hz : ps.length ≤ 40000)
    (hstep : ∀ (p : α) (x : V) (H' : Hp), p ∈ ps → F p x H → Ex H H' → ∃ σn : L2.St, wipe σn vs = wipe σ vs ∧ (∀ k : L2.St → Hp → Prop, k σn H' → g x (wipe σ vs) H' k) ∧ EvT t σn H' (f p) ∧ (f p = true → EvX te σn H' (R p)))
    (hR : ∀ p y H1 H2, R p y H1 → Ex H1 H2 → R p y H2) (hS : ∀ p y (H1 : Hp) D zs o, R p y H1 → H1 D = some (.lst zs) → R p y (upd H1 D o)) :
    EvX (tLc (iList K tl) g t te vs) σ H (fun v H' => ∃ (D : Addr) (ys : List V), v = .ref D ∧ H D = none ∧ H' D = some (.lst ys) ∧ Paired (fun p y => R p y H') (ps.filter f) ys) := by
  have zl : ys0.length = ps.length := (Paired.length hp).symm
  refine evx_mono (evx_lcX (f := fun n => f (ps.getD n d)) (R := fun n => R (ps.getD n d)) h hx (by omega) (fun n x H' hxn e => ?_) (fun n y H1 H2 r e => hR _ y H1 H2 r e) (fun n y H1 D zs o r e => hS _ y H1 D zs o r e)) fun v H1 e r => ?_
  · have lt : n < ps.length := by
      have := (List.getElem?_eq_some_iff.mp hxn).1
      omega
    have eg : ps.getD n d = ps[n] := by simp [List.getD_eq_getElem?_getD, lt]
    obtain ⟨y, hy, fy⟩ := paired_get hp (List.getElem?_eq_getElem lt)
    rw [hxn] at hy
    obtain rfl := Option.some.inj hy
    rw [eg]
    exact hstep _ x H' (List.getElem_mem lt) fy e
  · obtain ⟨D, ys, rfl, hD, hys, pr⟩ := r
    refine ⟨D, ys, rfl, hD, hys, ?_⟩
    rw [zl] at pr
    have := paired_left (F := fun p y => R p y H1) (g := fun n => ps.getD n d) pr
    rwa [keep_at ps d f] at this
/-! ### pairs of numbers below N -/
def rowP (N i : Nat) : List (Nat × Nat) := (List.range (N - (i + 1))).map fun l => (i, i + 1 + l)
def belowP (N n : Nat) : List (Nat × Nat) := (List.range n).flatMap (rowP N)
abbrev allP (N : Nat) : List (Nat × Nat) := belowP N N
theorem belowP_succ (N n : Nat) : belowP N (n + 1) = belowP N n ++ rowP N n := by
  unfold belowP
  rw [List.range_succ, List.flatMap_append]
  simp
theorem belowP_len (N : Nat) : ∀ n, (belowP N n).length ≤ n * N
  | 0 => by simp [belowP]
  | n + 1 => by
    rw [belowP_succ, List.length_append, Nat.succ_mul]
    have := belowP_len N n
    have : (rowP N n).length = N - (n + 1) := by simp [rowP]
    omega
theorem mem_belowP {N n : Nat} {p : Nat × Nat} (h : p ∈ belowP N n) : p.1 < n ∧ p.1 < p.2 ∧ p.2 < N := by
  unfold belowP rowP at h
  rw [List.mem_flatMap] at h
  obtain ⟨i, hi, h⟩ := h
  obtain ⟨l, hl, rfl⟩ := List.mem_map.mp h
  rw [List.mem_range] at hi hl
  refine ⟨hi, ?_, ?_⟩
  · show i < i + 1 + l
    omega
  · show i + 1 + l < N
    omega
def PrAt (p : Nat × Nat) (y : V) (H : Hp) : Prop := ∃ t : Addr, y = .ref t ∧ H t = some (.tup [.int p.1, .int p.2])
theorem PrAt.later {p : Nat × Nat} {y : V} {H H' : Hp} (h : PrAt p y H) (e : Ex H H') : PrAt p y H' := by
  obtain ⟨t, rfl, h⟩ := h
  exact ⟨t, rfl, e _ _ h⟩
theorem PrAt.stay {p : Nat × Nat} {y : V} {H : Hp} {D : Addr} {zs : List V} {o : HO} (h : PrAt p y H) (hD : H D = some (.lst zs)) : PrAt p y (upd H D o) := by
  obtain ⟨t, rfl, h⟩ := h
  refine ⟨t, rfl, (upd_ne fun z => ?_).trans h⟩
  rw [z, hD] at h
  exact nomatch h
theorem yes_go {σ : L2.St} {H : Hp} {A B : Hp → Prop} (h : A H) : tYes σ H (fun b H3 => if b = true then A H3 else B H3) := by
  have e : (if true = true then A H else B H) := by
    rw [if_pos rfl]
    exact h
  exact e
/-- [(i, j) for i in range(N) for j in range(i + 1, N)] -/
theorem evx_lcPairs {ta ta2 : TA} {i j : Nat} {vs vs1 : List Nat} {N : Nat} (h : EvA ta σ H [.int (N : Int)]) (hN : N ≤ 200) (hw : ∀ x, wipe ((wipe σ vs).set i (some x)) vs = wipe σ vs)
    (hw1 : ∀ x y, wipe ((wipe ((wipe σ vs).set i (some x)) vs1).set j (some y)) vs1 = wipe ((wipe σ vs).set i (some x)) vs1)
    (h2 : ∀ (n : Nat) H', n < N → Ex H H' → EvA ta2 ((wipe σ vs).set i (some (.int (n : Int)))) H' [.int ((n : Int) + 1), .int (N : Int)])
    (he : ∀ (n l : Nat) H', Ex H H' → EvU te ((wipe ((wipe σ vs).set i (some (.int (n : Int)))) vs1).set j (some (.int ((n : Int) + 1 + l)))) H' [.int (n : Int), .int ((n : Int) + 1 + l)]) :
    EvX (tLc2 (iRng1 ta) (gName i) tYes (iRng2 ta2) (gName j) tYes te vs vs1) σ H (fun v H' => ∃ (D : Addr) (ys : List V), v = .ref D ∧ H D = none ∧ H' D = some (.lst ys) ∧ Paired (fun p y => PrAt p y H') (allP N) ys) := fun H0 e Q q => by
  refine h H0 e _ fun H1 e1 => ⟨(N : Int), rfl, by omega, by omega, fun D hD => ?_⟩
  let Acc : List (Nat × Nat) → Hp → Prop := fun ps H' => Ex H1 H' ∧ ∃ ys : List V, H' D = some (.lst ys) ∧ Paired (fun p y => PrAt p y H') ps ys
  refine ⟨fun n m H' => m = N - n ∧ n ≤ N ∧ Acc (belowP N n) H', ⟨N, rfl, Nat.zero_le _, Ex.new hD, [], upd_same, .nil⟩, ?_⟩
  rintro n m H' ⟨rfl, hn, e2, ys, hys, pr⟩
  by_cases lt : n < N
  · refine .inr ⟨by show n < (N : Int).toNat; omega, fun H2 => n + 1 ≤ N ∧ Acc (belowP N (n + 1)) H2, fun H2 p2 => ⟨N - (n + 1), by omega, rfl, p2⟩, fun x H2 y => ?_⟩
    obtain ⟨rfl, rfl⟩ := y
    have e02 := (e.trans e1).trans e2
    show wipe _ vs = _ ∧ _
    rw [show (0 : Int) + (n : Int) = (n : Int) by omega]
    refine ⟨hw _, ?_⟩
    refine yes_go ?_
    refine h2 n _ lt e02 _ (Ex.refl _) _ fun H3 e3 => ⟨(n : Int) + 1, (N : Int), rfl, ⟨by omega, by omega, by omega, by omega⟩, ?_⟩
    refine ⟨fun l k H4 => k = (N - (n + 1)) - l ∧ l ≤ N - (n + 1) ∧ Acc (belowP N n ++ (List.range l).map fun l => (n, n + 1 + l)) H4, ⟨_, rfl, Nat.zero_le _, e2.trans e3, ys, e3 _ _ hys, ?_⟩, ?_⟩
    · rw [List.range_zero, List.map_nil, List.append_nil]
      exact paired_mono (fun a b r => r.later e3) pr
    rintro l k H4 ⟨rfl, hl, e4, zs, hzs, pz⟩
    by_cases lt2 : l < N - (n + 1)
    · refine .inr ⟨by show l < ((N : Int) - ((n : Int) + 1)).toNat; omega, fun H5 => l + 1 ≤ N - (n + 1) ∧ Acc (belowP N n ++ (List.range (l + 1)).map fun l => (n, n + 1 + l)) H5, fun H5 p5 => ⟨(N - (n + 1)) - (l + 1), by omega, rfl, p5⟩, fun x H5 y => ?_⟩
      obtain ⟨rfl, rfl⟩ := y
      refine ⟨hw1 _ _, ?_⟩
      refine yes_go ?_
      refine he n l _ ((e.trans e1).trans e4) _ (Ex.refl _) _ fun t H6 _ e6 h6 => ?_
      have hz6 := e6 _ _ hzs
      have zl : zs.length ≤ 40400 := by
        have a1 := Paired.length pz
        have a2 := belowP_len N n
        rw [List.length_append, List.length_map, List.length_range] at a1
        have a3 : n * N ≤ 200 * 200 := Nat.mul_le_mul (by omega) hN
        omega
      refine ⟨zs, hz6, sz_lt (by omega), lt2, Ex.mut (e4.trans e6) hD, zs ++ [.ref t], upd_same, ?_⟩
      rw [List.range_succ, List.map_append, ← List.append_assoc]
      refine paired_app (paired_mono (fun a b r => (r.later e6).stay hz6) pz) (.cons ?_ .nil)
      refine PrAt.stay ⟨t, rfl, ?_⟩ hz6
      rw [h6]
      show some (HO.tup [.int (n : Int), .int ((n : Int) + 1 + (l : Int))]) = some (HO.tup [.int (n : Int), .int ((n + 1 + l : Nat) : Int)])
      rw [show ((n + 1 + l : Nat) : Int) = (n : Int) + 1 + (l : Int) by omega]
    · obtain rfl : l = N - (n + 1) := by omega
      refine .inl ⟨by show ((N : Int) - ((n : Int) + 1)).toNat ≤ N - (n + 1); omega, lt, e4, zs, hzs, ?_⟩
      rw [belowP_succ]
      exact pz
  · obtain rfl : n = N := by omega
    exact .inl ⟨by show (n : Int).toNat ≤ n; omega, q _ _ (e1.trans e2) ⟨D, ys, rfl, fresh_back (e.trans e1) hD, hys, pr⟩⟩
def allG (M N : Nat) : List (Nat × Nat) := (List.range M).flatMap fun i => (List.range N).map fun j => (i, j)
theorem allG_succ (M N : Nat) : allG (M + 1) N = allG M N ++ (List.range N).map fun j => (M, j) := by
  unfold allG
  rw [List.range_succ, List.flatMap_append]
  simp
theorem allG_len : ∀ M N, (allG M N).length ≤ M * N
  | 0, N => by simp [allG]
  | M + 1, N => by
    rw [allG_succ, List.length_append, Nat.succ_mul, List.length_map, List.length_range]
    have := allG_len M N
    omega
theorem mem_allG {M N : Nat} {p : Nat × Nat} (h : p ∈ allG M N) : p.1 < M ∧ p.2 < N := by
  unfold allG at h
  rw [List.mem_flatMap] at h
  obtain ⟨i, hi, h⟩ := h
  obtain ⟨j, hj, rfl⟩ := List.mem_map.mp h
  exact ⟨List.mem_range.mp hi, List.mem_range.mp hj⟩
/-- [(i, j) for i in range(M) for j in range(N)] -/
theorem evx_lcGrid {ta ta2 : TA} {i j : Nat} {vs vs1 : List Nat} {M N : Nat} (h : EvA ta σ H [.int (M : Int)]) (hM : M ≤ 200) (hN : N ≤ 200) (hw : ∀ x, wipe ((wipe σ vs).set i (some x)) vs = wipe σ vs)
    (hw1 : ∀ x y, wipe ((wipe ((wipe σ vs).set i (some x)) vs1).set j (some y)) vs1 = wipe ((wipe σ vs).set i (some x)) vs1)
    (h2 : ∀ (n : Nat) H', n < M → Ex H H' → EvA ta2 ((wipe σ vs).set i (some (.int (n : Int)))) H' [.int (N : Int)])
    (he : ∀ (n l : Nat) H', Ex H H' → EvU te ((wipe ((wipe σ vs).set i (some (.int (n : Int)))) vs1).set j (some (.int (l : Int)))) H' [.int (n : Int), .int (l : Int)]) :
    EvX (tLc2 (iRng1 ta) (gName i) tYes (iRng1 ta2) (gName j) tYes te vs vs1) σ H (fun v H' => ∃ (D : Addr) (ys : List V), v = .ref D ∧ H D = none ∧ H' D = some (.lst ys) ∧ Paired (fun p y => PrAt p y H') (allG M N) ys) := fun H0 e Q q => by
  refine h H0 e _ fun H1 e1 => ⟨(M : Int), rfl, by omega, by omega, fun D hD => ?_⟩
  let Acc : List (Nat × Nat) → Hp → Prop := fun ps H' => Ex H1 H' ∧ ∃ ys : List V, H' D = some (.lst ys) ∧ Paired (fun p y => PrAt p y H') ps ys
  refine ⟨fun n m H' => m = M - n ∧ n ≤ M ∧ Acc (allG n N) H', ⟨M, rfl, Nat.zero_le _, Ex.new hD, [], upd_same, .nil⟩, ?_⟩
  rintro n m H' ⟨rfl, hn, e2, ys, hys, pr⟩
  by_cases lt : n < M
  · refine .inr ⟨by show n < (M : Int).toNat; omega, fun H2 => n + 1 ≤ M ∧ Acc (allG (n + 1) N) H2, fun H2 p2 => ⟨M - (n + 1), by omega, rfl, p2⟩, fun x H2 y => ?_⟩
    obtain ⟨rfl, rfl⟩ := y
    have e02 := (e.trans e1).trans e2
    show wipe _ vs = _ ∧ _
    rw [show (0 : Int) + (n : Int) = (n : Int) by omega]
    refine ⟨hw _, ?_⟩
    refine yes_go ?_
    refine h2 n _ lt e02 _ (Ex.refl _) _ fun H3 e3 => ⟨(N : Int), rfl, by omega, by omega, ?_⟩
    refine ⟨fun l k H4 => k = N - l ∧ l ≤ N ∧ Acc (allG n N ++ (List.range l).map fun l => (n, l)) H4, ⟨_, rfl, Nat.zero_le _, e2.trans e3, ys, e3 _ _ hys, ?_⟩, ?_⟩
    · rw [List.range_zero, List.map_nil, List.append_nil]
      exact paired_mono (fun a b r => r.later e3) pr
    rintro l k H4 ⟨rfl, hl, e4, zs, hzs, pz⟩
    by_cases lt2 : l < N
    · refine .inr ⟨by show l < (N : Int).toNat; omega, fun H5 => l + 1 ≤ N ∧ Acc (allG n N ++ (List.range (l + 1)).map fun l => (n, l)) H5, fun H5 p5 => ⟨N - (l + 1), by omega, rfl, p5⟩, fun x H5 y => ?_⟩
      obtain ⟨rfl, rfl⟩ := y
      rw [show (0 : Int) + (l : Int) = (l : Int) by omega]
      refine ⟨hw1 _ _, ?_⟩
      refine yes_go ?_
      refine he n l _ ((e.trans e1).trans e4) _ (Ex.refl _) _ fun t H6 _ e6 h6 => ?_
      have hz6 := e6 _ _ hzs
      have zl : zs.length ≤ 40400 := by
        have a1 := Paired.length pz
        have a2 := allG_len n N
        rw [List.length_append, List.length_map, List.length_range] at a1
        have a3 : n * N ≤ 200 * 200 := Nat.mul_le_mul (by omega) hN
        omega
      refine ⟨zs, hz6, sz_lt (by omega), lt2, Ex.mut (e4.trans e6) hD, zs ++ [.ref t], upd_same, ?_⟩
      rw [List.range_succ, List.map_append, ← List.append_assoc]
      refine paired_app (paired_mono (fun a b r => (r.later e6).stay hz6) pz) (.cons ?_ .nil)
      exact PrAt.stay ⟨t, rfl, h6⟩ hz6
    · obtain rfl : l = N := by omega
      refine .inl ⟨by show (l : Int).toNat ≤ l; omega, lt, e4, zs, hzs, ?_⟩
      rw [allG_succ]
      exact pz
  · obtain rfl : n = M := by omega
    exact .inl ⟨by show (n : Int).toNat ≤ n; omega, q _ _ (e1.trans e2) ⟨D, ys, rfl, fresh_back (e.trans e1) hD, hys, pr⟩⟩
/-- (e, f, something new) -/
theorem evx_tup3 {tc : TE} {v1 v2 : V} {R3 : V → Hp → Prop} (h1 : Ev ta σ H v1) (h2 : Ev tb σ H v2) (h3 : EvX tc σ H R3) : EvX (tTup (tCons ta (tCons tb (tCons tc tNil)))) σ H (fun v H' => ∃ (t : Addr) (v3 : V) (H3 : Hp), v = .ref t ∧ H' t = some (.tup [v1, v2, v3]) ∧ R3 v3 H3 ∧ Ex H3 H') := fun H0 e Q q =>
  h1 H0 e _ fun H1 e1 => h2 H1 (e.trans e1) _ fun H2 e2 => h3 H2 ((e.trans e1).trans e2) _ fun v3 H3 e3 r => ⟨sz_of (by simp), fun t ht => q _ _ (((e1.trans e2).trans e3).trans (Ex.new ht)) ⟨t, v3, H3, rfl, upd_same, r, Ex.new ht⟩⟩
/-- a call, its third argument something new -/
theorem evx_callM {Dd : Hp → List V → (V → Hp → Prop) → Prop} {E : XK} {t1 t2 t3 : TE} {tr : TA} {v1 v2 : V} {vs : List V} {R3 : Hp → V → Hp → Prop} (h1 : Ev t1 σ H v1) (h2 : Ev t2 σ H v2) (h3 : ∀ H1, Ex H H1 → EvX t3 σ H1 (R3 H1)) (h4 : EvA tr σ H vs)
    (hs : ∀ v3 H1 H2 H3, Ex H H1 → Ex H1 H2 → R3 H1 v3 H2 → Ex H2 H3 → ∃ R1, Dd H3 (v1 :: v2 :: v3 :: vs) R1 ∧ ∀ v H4, Ex H3 H4 → R1 v H4 → R v H4) : EvX (tCall (SpR Dd) [] E (tCons t1 (tCons t2 (tCons t3 tr)))) σ H R := fun H0 e Q q =>
  h1 H0 e _ fun H1 e1 => h2 H1 (e.trans e1) _ fun H2 e2 => h3 H2 ((e.trans e1).trans e2) H2 (Ex.refl H2) _ fun v3 H3 e3 r3 => h4 H3 (((e.trans e1).trans e2).trans e3) _ fun H4 e4 => by
    obtain ⟨R1, d, k⟩ := hs v3 H2 H3 H4 ((e.trans e1).trans e2) e3 r3 e4
    exact ⟨R1, by rw [List.append_nil]; exact d, fun v H5 e5 r => q v H5 ((((e1.trans e2).trans e3).trans e4).trans e5) (k v H5 e5 r)⟩
end
/-! ### told pairs -/
abbrev shW (kd : Str) (kvs : List (Key × V)) (us us2 : List (List Str)) (p : Nat × Nat) : Int × Int := shareW kd kvs (us.getD p.1 []) (us2.getD p.2 [])
def TriR (kd : Str) (kvs : List (Key × V)) (us us2 : List (List Str)) (p : Nat × Nat) (y : V) (H : Hp) : Prop := ∃ t : Addr, y = .ref t ∧ PairAt H t p.1 p.2 (shW kd kvs us us2 p)
theorem TriR.later {kd : Str} {kvs : List (Key × V)} {us us2 : List (List Str)} {p : Nat × Nat} {y : V} {H H' : Hp} (h : TriR kd kvs us us2 p y H) (e : Ex H H') : TriR kd kvs us us2 p y H' := by
  obtain ⟨t, rfl, h⟩ := h
  exact ⟨t, rfl, h.later e⟩
theorem TriR.stay {kd : Str} {kvs : List (Key × V)} {us us2 : List (List Str)} {p : Nat × Nat} {y : V} {H : Hp} {D : Addr} {zs : List V} {o : HO} (h : TriR kd kvs us us2 p y H) (hD : H D = some (.lst zs)) : TriR kd kvs us us2 p y (upd H D o) := by
  obtain ⟨t, rfl, h⟩ := h
  exact ⟨t, rfl, h.stay hD⟩
theorem pairs_of {kd : Str} {l : Int × Int} {kvs : List (Key × V)} {us : List (List Str)} {D : Addr} {H : Hp} : ∀ {ps : List (Nat × Nat)} {ys : List V}, Paired (fun p y => TriR kd kvs us us p y H) ps ys →
    ∃ tr : List (Addr × Nat × Nat), ys = tr.map (fun x => V.ref x.1) ∧ tr.map (·.2) = ps ∧ ∀ x ∈ tr, PairAt H x.1 x.2.1 x.2.2 (shareW kd kvs (us.getD x.2.1 []) (us.getD x.2.2 []))
  | _, _, .nil => ⟨[], rfl, rfl, fun _ m => nomatch m⟩
  | p :: ps, _, .cons h r => by
    obtain ⟨t, rfl, ht⟩ := h
    obtain ⟨tr, rfl, rfl, h3⟩ := pairs_of (l := l) (D := D) r
    refine ⟨(t, p) :: tr, rfl, rfl, fun x m => ?_⟩
    rcases List.mem_cons.mp m with rfl | m
    · exact ht
    · exact h3 x m
theorem rowUp_row {kd : Str} {l : Int × Int} {kvs : List (Key × V)} {us : List (List Str)} {N i : Nat} (h : i < N) : (rowP N i).filter (fun p => reachB (shW kd kvs us us p) l) = rowUp kd l kvs us i N := by
  have e : List.range N = List.range (i + 1) ++ (List.range (N - (i + 1))).map (i + 1 + ·) := by
    rw [← List.range_add]
    congr 1
    omega
  have z : (List.range (i + 1)).filter (fun j => decide (i < j) && reachB (shareW kd kvs (us.getD i []) (us.getD j [])) l) = [] := List.filter_eq_nil_iff.mpr fun j hj z => by
    have := List.mem_range.mp hj
    rw [decide_eq_false (show ¬ i < j by omega)] at z
    exact nomatch z
  unfold rowUp rowP
  rw [e, List.filter_append, List.map_append, z, List.map_nil, List.nil_append, List.filter_map, List.filter_map, List.map_map]
  congr 1
  refine List.filter_congr fun k _ => ?_
  simp only [Function.comp_apply]
  rw [decide_eq_true (show i < i + 1 + k by omega), Bool.true_and]
theorem pairsUp_all {kd : Str} {l : Int × Int} {kvs : List (Key × V)} {us : List (List Str)} : (allP us.length).filter (fun p => reachB (shW kd kvs us us p) l) = pairsUp kd l kvs us us.length := by
  have k : ∀ n, n ≤ us.length → (belowP us.length n).filter (fun p => reachB (shW kd kvs us us p) l) = pairsUp kd l kvs us n := by
    intro n
    induction n with
    | zero => intro _; rfl
    | succ n ih =>
      intro hn
      rw [belowP_succ, List.filter_append, ih (by omega), rowUp_row (by omega), pairsUp_succ]
  exact k _ (Nat.le_refl _)
end MuLc

namespace MuTri
open PySem PySem.Spec PyProof.Rows L2 Evl MuK
/-! ### what is told, as data -/
abbrev Told := List ((Nat × Nat) × (Int × Int))
def toldL (kd : Str) (l : Int × Int) (kvs : List (Key × V)) (us : List (List Str)) : Told := (pairsUp kd l kvs us us.length).map fun x => (x, shareW kd kvs (us.getD x.1 []) (us.getD x.2 []))
def TrisAt (bs : Told) (p : Addr) (H : Hp) : Prop := ∃ cs : List Tri, H p = some (.lst (cs.map fun c => V.ref c.1)) ∧ cs.map (·.2) = bs ∧ ∀ c ∈ cs, PairAt H c.1 c.2.1.1 c.2.1.2 c.2.2
theorem TrisAt.later {bs : Told} {p : Addr} {H H' : Hp} (h : TrisAt bs p H) (e : Ex H H') : TrisAt bs p H' := by
  obtain ⟨cs, h1, h2, h3⟩ := h
  exact ⟨cs, e _ _ h1, h2, fun c m => (h3 c m).later e⟩
theorem pairs_tri {kd : Str} {l : Int × Int} {kvs : List (Key × V)} {us : List (List Str)} {ix : List (Nat × Nat)} {p : Addr} {H : Hp} (h : PairsAt kd l kvs us ix p H) : TrisAt (ix.map fun x => (x, shareW kd kvs (us.getD x.1 []) (us.getD x.2 []))) p H := by
  obtain ⟨tr, h1, h2, h3⟩ := h
  refine ⟨tr.map fun x => (x.1, x.2, shareW kd kvs (us.getD x.2.1 []) (us.getD x.2.2 [])), ?_, ?_, fun c hc => ?_⟩
  · rw [List.map_map]
    exact h1
  · rw [List.map_map, ← h2, List.map_map]
    rfl
  · obtain ⟨x, hx, rfl⟩ := List.mem_map.mp hc
    exact h3 x hx
def tD (b : (Nat × Nat) × (Int × Int)) : PyData := .tuple [.int b.1.1, .int b.1.2, .tuple [.int b.2.1, .int b.2.2]]
theorem tris_lay : ∀ bs : Told, PyData.canLayAll0 (bs.map tD) = true ∧ PyData.depthAll (bs.map tD) ≤ 2
  | [] => ⟨rfl, by show 0 ≤ 2; decide⟩
  | x :: r => by
    have ih := tris_lay r
    have e1 : (tD x).canLay0 = true := by simp [tD, PyData.canLay0, PyData.canLayAll0]
    have e2 : (tD x).depth = 2 := by simp [tD, PyData.depth, PyData.depthAll]
    refine ⟨?_, ?_⟩
    · show PyData.canLayAll0 (tD x :: r.map tD) = true
      rw [PyData.canLayAll0, e1, ih.1]
      rfl
    · show PyData.depthAll (tD x :: r.map tD) ≤ 2
      rw [PyData.depthAll, e2]
      omega
theorem tris_shaped (bs : Told) : SeqAt.shaped (.list (bs.map tD)) = true ∧ (PyData.list (bs.map tD)).canLay0 = true := by
  have h := tris_lay bs
  have e : (PyData.list (bs.map tD)).canLay0 = true := by
    rw [PyData.canLay0]
    exact h.1
  refine ⟨?_, e⟩
  unfold SeqAt.shaped
  rw [e, PyData.depth]
  simp
  omega
theorem tris_dp {K : PySem.W.Frag} {bs : Told} {p : Addr} {H : Hp} (h : TrisAt bs p H) : Dp K H (.ref p) (.list (bs.map tD)) := by
  obtain ⟨cs, h1, h2, h3⟩ := h
  refine .lst (sq_of h1) ?_
  rw [← h2]
  clear h1 h2
  induction cs with
  | nil => exact .nil
  | cons x r ih =>
    obtain ⟨q, a, b⟩ := h3 x List.mem_cons_self
    exact .cons (.tup (st_of a) (.cons (.int _) (.cons (.int _) (.cons (.tup (st_of b) (.cons (.int _) (.cons (.int _) .nil))) .nil)))) (ih fun y m => h3 y (List.mem_cons_of_mem _ m))
section
variable {K : PySem.W.Frag} {σ : L2.St} {H H' : Hp} {ta tb te td ty tl : TE} {t : TT} {x y z v : V}
abbrev RTold (bs : Told) : V → Hp → Prop := fun v H' => ∃ p : Addr, v = .ref p ∧ TrisAt bs p H'
theorem evx_told {i : Nat} {p : Addr} {bs : Told} (h : σ[i]? = some (some (.ref p))) (hp : TrisAt bs p H) : EvX (tVar i) σ H (RTold bs) := evx_mono (evx_of (ev_var h)) fun v H1 e r => ⟨p, r, hp.later e⟩
theorem ev_neTri {bs : Told} (ha : EvX ta σ H (RTold bs)) (hb : ∀ H1, Ex H H1 → EvX tb σ H1 (RTold bs)) : Ev (tOp (rNeD K) ta tb) σ H (.bl false) :=
  ev_neX ha (fun _ H1 e _ => hb H1 e) fun v1 H1 v2 H2 _ r1 e2 r2 => by
    obtain ⟨p, rfl, hp⟩ := r1
    obtain ⟨q, rfl, hq⟩ := r2
    exact ⟨_, tris_dp (hp.later e2), tris_dp hq, (tris_shaped bs).1, (tris_shaped bs).2⟩
theorem ev_eqTri {bs : Told} (ha : EvX ta σ H (RTold bs)) (hb : ∀ H1, Ex H H1 → EvX tb σ H1 (RTold bs)) : Ev (tOp (rEqD K) ta tb) σ H (.bl true) :=
  ev_eqX ha (fun _ H1 e _ => hb H1 e) fun v1 H1 v2 H2 _ r1 e2 r2 => by
    obtain ⟨p, rfl, hp⟩ := r1
    obtain ⟨q, rfl, hq⟩ := r2
    exact ⟨_, tris_dp (hp.later e2), tris_dp hq, (tris_shaped bs).1, (tris_shaped bs).2⟩
theorem evx_L {xs : List V} (h : EvL te σ H xs) : EvX te σ H (fun v H' => ∃ p : Addr, v = .ref p ∧ H p = none ∧ H' p = some (.lst xs)) := fun H1 e Q q => h H1 e _ fun p H2 hp e2 h2 => q _ _ e2 ⟨p, rfl, fresh_back e hp, h2⟩
theorem given_keep {cs : List Tri} {g : (Nat × Nat) × (Int × Int) → Bool} : ∀ n, n ≤ cs.length → given n (fun i => g (cs.getD i (0, (0, 0), (0, 0))).2) (fun i => .ref (cs.getD i (0, (0, 0), (0, 0))).1) = ((cs.take n).filter fun c => g c.2).map fun c => V.ref c.1
  | 0, _ => rfl
  | n + 1, h => by
    have ih := given_keep (cs := cs) (g := g) n (by omega)
    have lt : n < cs.length := by omega
    have e : cs.getD n (0, (0, 0), (0, 0)) = cs[n] := by simp [List.getD_eq_getElem?_getD, lt]
    unfold given at ih ⊢
    rw [List.range_succ, List.filter_append, List.map_append, ih, List.take_add_one, List.getElem?_eq_getElem lt, List.filter_append, List.map_append]
    congr 1
    cases c : g cs[n].2 <;> simp [List.filter_cons, lt, c]
/-- [x for x in bs if ..] -/
theorem evx_lcKeep {a : Addr} {bs : Told} {g : (Nat × Nat) × (Int × Int) → Bool} {j : Nat} {vs : List Nat} (h : Ev tl σ H (.ref a)) (hx : TrisAt bs a H) (hz : bs.length ≤ 40000) (hw : ∀ x, wipe ((wipe σ vs).set j (some x)) vs = wipe σ vs) (hj : ∀ x, ((wipe σ vs).set j (some x))[j]? = some (some x))
    (ht : ∀ c : Tri, c.2 ∈ bs → PairAt H c.1 c.2.1.1 c.2.1.2 c.2.2 → ∀ H1, Ex H H1 → EvT t ((wipe σ vs).set j (some (.ref c.1))) H1 (g c.2)) : EvX (tLc (iList K tl) (gName j) t (tVar j) vs) σ H (RTold (bs.filter g)) := by
  obtain ⟨cs, h1, h2, h3⟩ := hx
  have zc : cs.length = bs.length := by rw [← h2, List.length_map]
  have at_ : ∀ {i : Nat} {x : V}, (cs.map fun c => V.ref c.1)[i]? = some x → ∃ c, c ∈ cs ∧ x = .ref c.1 ∧ cs.getD i (0, (0, 0), (0, 0)) = c := fun {i x} hi => by
    rw [List.getElem?_map] at hi
    cases y : cs[i]? with
    | none =>
      rw [y] at hi
      exact nomatch hi
    | some c =>
      rw [y] at hi
      exact ⟨c, List.mem_of_getElem? y, (Option.some.inj hi).symm, by rw [List.getD_eq_getElem?_getD, y]; rfl⟩
  refine evx_mono (evx_L (el_lcL (K := K) (xs := cs.map fun c => V.ref c.1) (a := a) (fun i => g (cs.getD i (0, (0, 0), (0, 0))).2) (fun i => .ref (cs.getD i (0, (0, 0), (0, 0))).1) h (sq_of h1) (by rw [List.length_map]; omega) hw (fun i x H1 e hi => ?_) (fun i x H1 e hi _ => ?_))) fun v H1 e r => ?_
  · obtain ⟨c, mc, rfl, ec⟩ := at_ hi
    rw [ec]
    exact ht c (h2 ▸ List.mem_map.mpr ⟨c, mc, rfl⟩) (h3 c mc) H1 e
  · obtain ⟨c, mc, rfl, ec⟩ := at_ hi
    rw [ec]
    exact ev_var (hj _)
  · obtain ⟨p, rfl, _, hp⟩ := r
    rw [List.length_map, given_keep cs.length (Nat.le_refl _), List.take_length] at hp
    refine ⟨p, rfl, cs.filter fun c => g c.2, hp, ?_, fun c hc => (h3 c (List.mem_filter.mp hc).1).later e⟩
    rw [← h2, List.filter_map]
    rfl
end
/-! ### what is told of two lots -/
theorem told_len (kd : Str) (l : Int × Int) (kvs : List (Key × V)) (us : List (List Str)) : (toldL kd l kvs us).length ≤ us.length * us.length := by
  unfold toldL
  rw [List.length_map]
  exact pairsUp_len kd l kvs us us.length
theorem told_same {kd : Str} {l : Int × Int} {kvs kv2 : List (Key × V)} {us us2 : List (List Str)} (hl : us2.length = us.length)
    (h : ∀ i j, i < j → j < us.length → shareW kd kv2 (us2.getD i []) (us2.getD j []) = shareW kd kvs (us.getD i []) (us.getD j [])) : toldL kd l kv2 us2 = toldL kd l kvs us := by
  unfold toldL
  rw [(pairs_same hl h).1]
  refine List.map_congr_left fun x hx => ?_
  obtain ⟨_, h1, h2, _⟩ := mem_pairsUp.mp hx
  rw [h x.1 x.2 h1 h2]
theorem told_more {kd : Str} {l : Int × Int} {kvs : List (Key × V)} {us : List (List Str)} {w : List Str} : (toldL kd l kvs (us ++ [w])).filter (fun x => decide (x.1.2 < us.length)) = toldL kd l kvs us := by
  unfold toldL
  rw [List.filter_map]
  have e : (pairsUp kd l kvs (us ++ [w]) (us ++ [w]).length).filter ((fun x : (Nat × Nat) × (Int × Int) => decide (x.1.2 < us.length)) ∘ fun x => (x, shareW kd kvs ((us ++ [w]).getD x.1 []) ((us ++ [w]).getD x.2 []))) = pairsUp kd l kvs us us.length := pairs_more
  rw [e]
  refine List.map_congr_left fun x hx => ?_
  obtain ⟨h0, _, h2, _⟩ := mem_pairsUp.mp hx
  have g : ∀ i, i < us.length → (us ++ [w]).getD i [] = us.getD i [] := fun i hi => by
    rw [List.getD_eq_getElem?_getD, List.getD_eq_getElem?_getD, List.getElem?_append_left hi]
  rw [g _ h0, g _ h2]
theorem told_less {kd : Str} {l l2 : Int × Int} {kvs : List (Key × V)} {us : List (List Str)} (h : ∀ i j, i < j → j < us.length → reachB (shareW kd kvs (us.getD i []) (us.getD j [])) l2 = true → reachB (shareW kd kvs (us.getD i []) (us.getD j [])) l = true) :
    (toldL kd l kvs us).filter (fun x => reachB x.2 l2) = toldL kd l2 kvs us := by
  unfold toldL
  rw [List.filter_map]
  have e := pairs_less h
  rw [← e]
  rfl
theorem told_mem {kd : Str} {l : Int × Int} {kvs : List (Key × V)} {us : List (List Str)} {x : (Nat × Nat) × (Int × Int)} (h : x ∈ toldL kd l kvs us) : x.1.1 < us.length ∧ x.1.1 < x.1.2 ∧ x.1.2 < us.length ∧ x.2 = shareW kd kvs (us.getD x.1.1 []) (us.getD x.1.2 []) := by
  obtain ⟨y, hy, rfl⟩ := List.mem_map.mp h
  obtain ⟨h0, h1, h2, _⟩ := mem_pairsUp.mp hy
  exact ⟨h0, h1, h2, rfl⟩
end MuTri

namespace MuX
open PySem PySem.Spec PyProof.Rows L2 Evl MuK
/-! ### defs that may raise: what is promised where they do -/
/-- an exception of the class at C leaves the def, all that was tracked stays -/
def SpB (B : Hp → List V → Addr → Prop) : Sp := fun vs H _ E => ∃ C, B H vs C ∧ ∀ H', Ex H H' → E (.ref C) none H'
def SpM (s0 sB : Sp) : Sp := fun vs H Q E => s0 vs H Q E ∨ sB vs H Q E
theorem both {P : Program} {w : World} {K : PySem.W.Frag} {mg : Str → Option Value} {base : Heap} {k : Nat} {f : Addr} {fd : FuncData} {ps : List Str} {s0 sB : Sp} (F0 : FnOk P w K mg base CX0 k f fd ps s0) (FB : FnOk P w K mg base (L2.CX P w) k f fd ps sB) :
    FnOk P w K mg base (L2.CX P w) k f fd ps (SpM s0 sB) :=
  ⟨fun vs H Q E h => h.elim (F0.len _ _ _ _) (FB.len _ _ _ _), fun A outer s H args us vs Q E hr e0 hb hv h => h.elim (fun h => codeAny_mono (F0.run A outer s H args us vs Q E hr e0 hb hv h) fun r s' hq => by
    cases r with
    | ok fl => cases fl <;> exact hq
    | error e => exact False.elim hq) fun h => FB.run A outer s H args us vs Q E hr e0 hb hv h⟩
section
variable {K : PySem.W.Frag} {σ : L2.St} {H H' : Hp} {ta tb te : TE} {v : V} {vs xs : List V} {sB : Sp} {E : XK}
theorem bad_call {s0 : Sp} {B : Hp → List V → Addr → Prop} {C : Addr} {ta : TA} (h : EvA ta σ H vs) (hs : ∀ H1, Ex H H1 → B H1 vs C) (k : ∀ H', Ex H H' → E (.ref C) none H') (Q : VK) : tCall (SpM s0 (SpB B)) [] E ta σ H Q :=
  h H (Ex.refl H) _ fun H1 e1 => .inr ⟨C, by rw [List.append_nil]; exact hs H1 e1, fun H2 e2 => k H2 (e1.trans e2)⟩
theorem q_bad {s0 : Sp} {B : Hp → List V → Addr → Prop} {C : Addr} {ta : TA} {tz : TS} {D : Ends} (h : EvA ta σ H vs) (hs : ∀ H1, Ex H H1 → B H1 vs C) (k : ∀ H', Ex H H' → E (.ref C) none H') : tSeq (tDrop (tCall (SpM s0 (SpB B)) [] E ta)) tz D σ H := bad_call h hs k _
theorem s_bad {s0 : Sp} {B : Hp → List V → Addr → Prop} {C : Addr} {ta : TA} {D : Ends} (h : EvA ta σ H vs) (hs : ∀ H1, Ex H H1 → B H1 vs C) (k : ∀ H', Ex H H' → E (.ref C) none H') : tDrop (tCall (SpM s0 (SpB B)) [] E ta) D σ H := bad_call h hs k _
theorem q_badA {s0 : Sp} {B : Hp → List V → Addr → Prop} {C : Addr} {ta : TA} {tz : TS} {g : TG} {D : Ends} (h : EvA ta σ H vs) (hs : ∀ H1, Ex H H1 → B H1 vs C) (k : ∀ H', Ex H H' → E (.ref C) none H') : tSeq (tAsg (tCall (SpM s0 (SpB B)) [] E ta) g) tz D σ H := bad_call h hs k _
theorem ev_callM {Dd : Hp → List V → V → Prop} {ta : TA} (h : EvA ta σ H vs) (hs : ∀ H1, Ex H H1 → Dd H1 vs v) : Ev (tCall (SpM (SpVal Dd) sB) [] E ta) σ H v := fun H1 e Q q =>
  h H1 e _ fun H2 e2 => .inl ⟨v, by rw [List.append_nil]; exact hs H2 (e.trans e2), fun H3 e3 => q H3 (e2.trans e3)⟩
theorem eu_callM {Dd : Hp → List V → List V → Prop} {ta : TA} (h : EvA ta σ H vs) (hs : ∀ H1, Ex H H1 → Dd H1 vs xs) : EvU (tCall (SpM (SpTup Dd) sB) [] E ta) σ H xs := fun H1 e Q q =>
  h H1 e _ fun H2 e2 => .inl ⟨xs, by rw [List.append_nil]; exact hs H2 (e.trans e2), fun p H3 hp e3 h3 => q p H3 (fresh_back e2 hp) (e2.trans e3) h3⟩
theorem evx_callM {Dd : Hp → List V → (V → Hp → Prop) → Prop} {R : V → Hp → Prop} {ta : TA} (h : EvA ta σ H vs) (hs : ∀ H1, Ex H H1 → ∃ R1, Dd H1 vs R1 ∧ ∀ v H2, Ex H1 H2 → R1 v H2 → R v H2) : EvX (tCall (SpM (SpR Dd) sB) [] E ta) σ H R := fun H1 e Q q =>
  h H1 e _ fun H2 e2 => .inl (by
    obtain ⟨R1, d, k⟩ := hs H2 (e.trans e2)
    exact ⟨R1, by rw [List.append_nil]; exact d, fun v H3 e3 r => q v H3 (e2.trans e3) (k v H3 e3 r)⟩)
end
/-- while a thing is locked: the exception leaves with the thing as it was -/
theorem takes_unlock {X : Cx} {W : WX} (tk : Takes X W) : Takes X (fun cls dd σ H => ∃ d od u, H d = some (.frz od u) ∧ (∀ o' u', X.H_0 d ≠ some (.frz o' u')) ∧ W cls dd σ (upd H d u)) := fun u s' x => by
  obtain ⟨a, B, sI, pins, σ, H, cls, dd, e, I, nb, up, sky, na, os, ag, d, od, w, hd, hn, k⟩ := x
  exact tk u s' ⟨a, B, sI, pins, σ, upd H d w, cls, dd, e, I.unlock hd hn, nb, up, sky, by rw [upd_ne (fun z => by rw [z, hd] at na; exact nomatch na)]; exact na, os, ag, k⟩
section
variable {K : PySem.W.Frag} {C D : Addr}
theorem kit_of {b : Bool} (hi : PySem.W.isClsIn K C = true) (hy : PySem.W.typeIn K (.ref C) = some (.type "type")) (hs : PySem.W.subIn K (.ref D) (.ref C) = some b) : PySem.W.kitCls K (.ref D) (.ref C) = some b := by
  have h1 : ((PySem.W.clsIn K C).isSome && PySem.W.typeIn K (.ref C) == some (.type "type")) = true := by
    rw [hy, show (PySem.W.clsIn K C).isSome = true from hi] <;> rfl
  unfold PySem.W.kitCls
  dsimp only
  rw [if_pos h1]
  exact hs
theorem kit_yes (hi : PySem.W.isClsIn K C = true) (hy : PySem.W.typeIn K (.ref C) = some (.type "type")) (hs : PySem.W.subIn K (.ref D) (.ref C) = some true) : PySem.W.kitOne K (.ref D) (.ref C) = some true := by
  unfold PySem.W.kitOne
  rw [kit_of hi hy hs]
  split <;> rfl
theorem kit_no (hi : PySem.W.isClsIn K C = true) (hy : PySem.W.typeIn K (.ref C) = some (.type "type")) (hs : PySem.W.subIn K (.ref D) (.ref C) = some false) (hj : PySem.W.isIn K (.ref D) C = false) : PySem.W.kitOne K (.ref D) (.ref C) = some false := by
  unfold PySem.W.isIn at hj
  rw [Bool.or_eq_false_iff] at hj
  unfold PySem.W.kitOne
  rw [hj.1, kit_of hi hy hs]
  rfl
theorem kit_val (hs : PySem.W.subIn K (.ref D) (.type "ValueError") = some true) : PySem.W.kitOne K (.ref D) (.type "ValueError") = some true := by
  have h1 : PySem.W.kitMeta "ValueError" = true := by decide +kernel
  have h2 : PySem.W.kitCls K (.ref D) (.type "ValueError") = some true := by
    unfold PySem.W.kitCls
    dsimp only
    rw [if_pos h1]
    exact hs
  unfold PySem.W.kitOne
  rw [h2]
  split <;> rfl
theorem exm_yes (hi : PySem.W.isClsIn K C = true) (hy : PySem.W.typeIn K (.ref C) = some (.type "type")) (he : PySem.W.subIn K (.ref C) (.type "BaseException") = some true) (hs : PySem.W.subIn K (.ref D) (.ref C) = some true) : PySem.W.exmOne K (.ref D) (.ref C) = some true := by
  have h1 : (PySem.W.subIn K (.ref C) (.type "BaseException") == some true) = true := by rw [he] <;> rfl
  unfold PySem.W.exmOne
  rw [if_pos h1]
  exact kit_of hi hy hs
end
/-! ### an exception that is kept -/
/-- at a stands an exception of the class at C -/
def ExO (a C : Addr) : HO := .ext fun h => ∃ oe vs, h.get? a = some oe ∧ Zc (.ref C) none oe ∧ oe.data = .fields vs
/-- what the written part says of a class that is raised; L: the class that is caught -/
structure ExR (K : PySem.W.Frag) (C L : Addr) : Prop where
  ex : PySem.W.excIn K C [.type "ValueError", .type "Exception", .type "BaseException", .type "object"] "ValueError.__new__" = true
  kp : PySem.W.keepIn K (.ref C) = true
  ty : PySem.W.typeIn K (.ref C) = some (.type "type")
  like : PySem.W.exmOne K (.ref C) (.ref L) = some true
  isi : ExcC K C
/-- what 'except x as n' wishes, whose suite keeps the exception -/
def wKeep (K : PySem.W.Frag) (c : Value) (i : Nat) (ts : Addr → Value → Option Addr → TS) (Wout : WX) (D : Ends) : WX := fun cls d σ H =>
  ∃ b, PySem.W.exmOne K cls c = some b ∧ (b = true → ∃ C, cls = .ref C ∧ d = none ∧ ∀ a, H a = none → ts a cls d { nx := fun σ' H' => H' a = none → D.nx (σ'.set i none) (upd H' a (ExO a C)), rt := fun _ _ => False, bk := fun _ _ => False, ct := fun _ _ => False } (σ.set i (some (.ref a))) H) ∧
    (b = false → Wout cls d σ H)
section
variable {X : Cx} {pins : List (Addr × Obj)} {σ : L2.St} {H : Hp} {s : Shared}
theorem exo_track {a C : Addr} {oe : Obj} {vs : Array Value} (I : Inv X pins σ H s) (he : s.heap.get? a = some oe) (hz : Zc (.ref C) none oe) (hd : oe.data = .fields vs) (na : H a = none) (nL : a ≠ X.env.locals)
    (h0 : X.s_0.heap.get? a = none) (hp : ∀ p ∈ X.pn ++ pins, p.1 ≠ a) : Inv X pins σ (upd H a (ExO a C)) s := by
  have ne : ∀ {b : Addr} {o : HO}, H b = some o → b ≠ a := fun e z => by
    rw [z, na] at e
    exact nomatch e
  refine ⟨I.ok, I.os, I.bare, ⟨I.base.keep, I.base.slot, fun b o e n hx => ?_, I.base.there, fun b xs e => ?_, fun b o u e => ?_, fun b ps e => ?_⟩, I.loc, I.cell, ?_, fun x c e => ?_, fun p hpp => ?_, fun b o e => ?_, I.len⟩
  · rw [upd_ne (fun z => by rw [z, h0] at e; exact nomatch e)]
    exact I.base.free b o e n hx
  · have := I.base.tups b xs e
    rw [upd_ne (ne this)]
    exact this
  · have := I.base.frzs b o u e
    rw [upd_ne (ne this)]
    exact this
  · obtain ⟨m, h⟩ := I.base.tbls b ps e
    exact ⟨m, by rw [upd_ne (ne h)]; exact h⟩
  · rw [upd_ne (Ne.symm nL)]
    exact I.free
  · rw [upd_ne]
    · exact I.freeC x c e
    · intro z
      obtain ⟨v, o, ho, hdd⟩ := I.cell x c e
      rw [z, he] at ho
      cases ho
      rw [hd] at hdd
      exact nomatch hdd
  · obtain ⟨q1, q2, q3⟩ := I.pin p hpp
    exact ⟨q1, by rw [upd_ne (hp p hpp)]; exact q2, q3⟩
  · by_cases z : b = a
    · subst z
      rw [upd_same] at e
      obtain rfl := Option.some.inj e
      exact ⟨⟨oe, vs, he, hz, hd⟩, ⟨_, he⟩, fun h1 h2 ⟨o2, v2, a1, a2, a3⟩ k => ⟨o2, v2, k _ a1, a2, a3⟩⟩
    · rw [upd_ne z] at e
      refine (I.hok b o e).stay (fun c v _ q => q) (fun c q => ?_) fun c xs q => ?_
      · rw [upd_ne (ne q)]
        exact q
      · rw [upd_ne (ne q)]
        exact q
/-- try: body, except x as n: suite, where each exception of the body is caught and the suite runs to its end: behind it the exception is known -/
theorem ps_try_keep {x n : Str} {c : Value} {i : Nat} {bd su : List Stmt} {s0 : Stmt} {q1 q2 q3 : Pos} {tb : WX → TS} {ts : Addr → Value → Option Addr → TS} (stk : X.stack = X.env :: X.outer) (fr : X.env.frame = some X.env.locals) (hex : X.ex = []) (nd : X.N.Nodup) (at_i : X.N[i]? = some n)
    (loc : X.env.kindOf n = some .local) (nm : Names X x c)
    (hbd : ∀ (W : WX) (pn : List (Addr × Obj)) (xe : Value → Shared → Prop), Takes (X.tr pn xe) W → PassesOwn (model X.prog X.w) X.A X.env xe → PSs (X.tr pn xe) bd (tb W))
    (hsu : ∀ (e : Addr) (oe : Obj) (cls : Value) (d : Option Addr) (pn : List (Addr × Obj)), Zc cls d oe → (∃ vs, oe.data = .fields vs) → PSs (X.suite e ((e, oe) :: pn)) (s0 :: su) (ts e cls d)) :
    PS X (.Try bd [.ExceptHandler (some (.Name x q1)) (some n) (s0 :: su) q2] [] [] q3) (fun D σ H => tb (wKeep X.K c i ts (fun _ _ _ _ => False) D) D σ H) := by
  constructor
  intro pins s σ H D I hyp
  have ok := I.ok
  have frames2 : X.A.frames = some (X.env :: X.outer) := ok.frames.trans (congrArg some stk)
  apply wpAny_Try_except
  have caught : ∀ (u : Value) (t : Shared), XE (X.tr (X.pn ++ pins) (fun y t1 => wpAny (model X.prog X.w) X.A (noteFrame y X.env) (fun _ t2 => wpAny (model X.prog X.w) X.A (setFlight y none) (fun _ t3 =>
      wpAny (model X.prog X.w) X.A (handleBy y X.env [.ExceptHandler (some (.Name x q1)) (some n) (s0 :: su) q2]) (SP X pins D) X.xe t3) X.xe t2) X.xe t1)) (wKeep X.K c i ts (fun _ _ _ _ => False) D) u t →
      wpAny (model X.prog X.w) X.A (noteFrame u X.env) (fun _ t2 => wpAny (model X.prog X.w) X.A (setFlight u none) (fun _ t3 => wpAny (model X.prog X.w) X.A (handleBy u X.env [.ExceptHandler (some (.Name x q1)) (some n) (s0 :: su) q2]) (SP X pins D) X.xe t3) X.xe t2) X.xe t := by
    rintro u t ⟨e, G, r, pp, τ, M, cls, d, rfl, I1, ground, ups, sky, ne, os1, bare1, b, hexm, yes, no⟩
    have I2 : Inv X pins τ M r := I1.ofTry ok
    have sky2 : Sky G (X.env :: X.outer) e (Zc cls d) X.env.locals t.heap := stk ▸ sky
    cases b with
    | false => exact (no rfl).elim
    | true =>
    obtain ⟨C, rfl, rfl, go⟩ := yes rfl
    refine Sky.land Zc.steady frames2 fr sky2 fun h1 fly1 up1 => ?_
    have I3 : Inv X pins τ M { t with heap := h1 } := I2.landed ground fly1.1 (ups.trans up1) os1 bare1
    obtain ⟨o1, f1, g1, z1, d1⟩ := fly1.there
    have off : e ∉ frs (X.env :: X.outer) := fun m => by
      obtain ⟨_, o2, g2, w2⟩ := fly1.2.2.1.mem m
      obtain rfl := Option.some.inj (g1.symm.trans g2)
      exact w2 _ d1
    have offL : e ≠ X.env.locals := fun z => off (List.mem_filterMap.mpr ⟨X.env, List.mem_cons_self, fr.trans (congrArg some z.symm)⟩)
    have offF : e ∉ X.fs := fun m => by
      obtain ⟨y, my, ey⟩ := List.mem_filterMap.mp m
      exact off (List.mem_filterMap.mpr ⟨y, List.mem_cons_of_mem _ my, ey⟩)
    have newR : r.heap.get? e = none := by
      cases z : r.heap.get? e with
      | none => rfl
      | some o2 =>
        have a1 := ground e o2 z (stk ▸ off)
        rw [fly1.2.1] at a1
        exact nomatch a1
    have new0 : X.s_0.heap.get? e = none := by
      cases z : X.s_0.heap.get? e with
      | none => rfl
      | some o2 =>
        obtain ⟨o3, z3⟩ := I2.base.there e o2 z (by rw [hex]; exact fun m => nomatch m)
        rw [newR] at z3
        exact nomatch z3
    have pinE : ∀ p ∈ X.pn ++ pins, p.1 ≠ e := fun p mp z => by
      have z1 := (I2.pin p mp).1
      rw [z, newR] at z1
      exact nomatch z1
    have J1 := I3.suite g1 d1 ne offL offF
    refine wpAny_handleBy_cons (codeAny_handlers_test ?_) (fun z => nomatch z)
    have ty1 : PySem.W.Looks (model X.prog X.w) h1 (typeOf (.ref e)) (.ref C) := fun A Q E s k q => wpAny_typeOf_ref (k _ _ g1) (by rw [z1.1]; exact q)
    have mt := PySem.W.exm_one (M := model X.prog X.w) I3.kIn ty1 hexm
    have look : ∀ {Q E : Value → Shared → Prop}, Q c { t with heap := h1 } → wpAny (model X.prog X.w) (X.A.mark (some (.ref e))) (eval (.Name x q1) X.env) Q E { t with heap := h1 } := by
      intro Q E q
      rcases nm with ⟨n1, n2, n3 | ⟨n3, n4, n5⟩⟩
      · exact ld_glob (X := X.suite e ((e, o1) :: (X.pn ++ pins))) J1 n1 n3 q n2
      · exact ld_blt (X := X.suite e ((e, o1) :: (X.pn ++ pins))) J1 n1 n3 n4 q n5 n2
    refine look (mt.here ?_)
    refine codeAny_handlers_suite_as (HandSPX.lands_againZ fly1 fun h2 fly2 up2 => ?_)
    have I4 : Inv X pins τ M { t with heap := h2 } := I2.landed ground fly2.1 ((ups.trans up1).trans up2) os1 bare1
    obtain ⟨o4, f4, g4, z4, d4⟩ := fly2.there
    have J2 := I4.suite g4 d4 ne offL offF
    refine store_ok (X := X.suite e ((e, o4) :: (X.pn ++ pins))) (v := .ref e) J2 nd at_i (.inl loc) rfl (fun t5 J5 => ?_) (.inr loc)
    refine wpAny_mono ((hsu e o4 (.ref C) none (X.pn ++ pins) z4 ⟨_, d4⟩).run [] t5 _ M _ J5 (go e ne)) (fun fl t6 w6 => ?_) (fun _ _ z => z.elim)
    cases fl with
    | ret y =>
      obtain ⟨_, _, _, _, _, w⟩ := w6
      exact w.elim
    | brk =>
      obtain ⟨_, _, _, w⟩ := w6
      exact w.elim
    | cont =>
      obtain ⟨_, _, _, w⟩ := w6
      exact w.elim
    | next =>
      obtain ⟨τ6, M6, J6, w⟩ := w6
      have pe := J6.pin (e, o4) (List.mem_append_left _ List.mem_cons_self)
      have K6 : Inv X pins τ6 M6 t6 := J6.unsuite ok
      have K7 : Inv X ((e, o4) :: pins) τ6 M6 t6 := K6.pins_of fun p mp => by
        rcases List.mem_cons.mp mp with rfl | mp
        · exact pe
        · exact K6.pin p (List.mem_append_right _ mp)
      refine gone_ok K7 nd at_i loc fun t8 K8 => ?_
      have p8 := K8.pin (e, o4) (List.mem_append_right _ List.mem_cons_self)
      have K9 : Inv X pins (τ6.set i none) M6 t8 := K8.pins_of fun p mp => K8.pin p (List.mem_append_right _ (List.mem_cons_of_mem _ mp))
      exact ⟨_, _, exo_track K9 p8.1 z4 d4 p8.2.1 offL new0 pinE, w p8.2.1⟩
  refine wpAny_mono ((hbd (wKeep X.K c i ts (fun _ _ _ _ => False) D) (X.pn ++ pins) _ caught PassesOwn.looking).run [] s σ H D (I.toTry _) hyp) (fun fl t w => ?_) (fun _ _ z => z)
  cases fl with
  | next =>
    obtain ⟨τ, M, J, k⟩ := w
    exact wpAny_execs_nil ⟨τ, M, J.ofTry ok, k⟩
  | brk =>
    obtain ⟨τ, M, J, k⟩ := w
    exact ⟨τ, M, J.ofTry ok, k⟩
  | cont =>
    obtain ⟨τ, M, J, k⟩ := w
    exact ⟨τ, M, J.ofTry ok, k⟩
  | ret y =>
    obtain ⟨v, τ, M, J, rr, k⟩ := w
    exact ⟨v, τ, M, J.ofTry ok, rr, k⟩
end
/-! ### isinstance of a kept exception -/
section
variable {X : Cx}
def rIsX (K : PySem.W.Frag) : List V → Hp → VK → Prop := fun xs H Q => ∃ (a D : Addr) (c : V) (cv : Value) (b : Bool), xs = [.ref a, c] ∧ H a = some (ExO a D) ∧ ExcC K D ∧ (∀ u, RelV c u → u = cv) ∧ PySem.W.kitOne K (.ref D) cv = some b ∧ Q (.bl b) H
def rIsXT (K : PySem.W.Frag) : List V → Hp → VK → Prop := fun xs H Q => ∃ (a D tp : Addr) (cs : List V) (us : List Value) (b : Bool), xs = [.ref a, .ref tp] ∧ H a = some (ExO a D) ∧ ExcC K D ∧ H tp = some (.tup cs) ∧ (∀ ws, Vals cs ws → ws = us) ∧ PySem.W.kitAny K (.ref D) us = some b ∧ Q (.bl b) H
theorem inst_of {pins : List (Addr × Obj)} {σ : L2.St} {H : Hp} {s : Shared} {a D : Addr} (I : Inv X pins σ H s) (h : H a = some (ExO a D)) : ∃ oe, PySem.W.InstAt s.heap a oe D none := by
  obtain ⟨⟨oc, od, oda, osl⟩, vs, g, ⟨z1, z2⟩, dd⟩ := (I.hok a _ h).1
  dsimp only at z1 z2 dd
  subst z1 z2 dd
  exact ⟨_, g, rfl, rfl, trivial⟩
theorem call_isX : CallR X (.builtin "isinstance") (rIsX X.K) := by
  rintro pins s σ H xs us Q I r ⟨a, D, c, cv, b, rfl, ha, C, hc, hk, q⟩
  cases r with
  | cons r1 r =>
    cases r with
    | cons r2 r =>
      cases r
      obtain rfl := hc _ r2
      cases r1
      obtain ⟨oe, J⟩ := inst_of I ha
      exact PySem.W.kia_one (PySem.W.handS_kitx_exc C.hg C.hk C.hs C.hd C.ha C.hn C.ht C.hm) I.kIn J hk (fun z => nomatch z) fun tk => ⟨.bl b, H, I.tok tk, rfl, q⟩
theorem call_isXT : CallR X (.builtin "isinstance") (rIsXT X.K) := by
  rintro pins s σ H xs us Q I r ⟨a, D, tp, cs, ws, b, rfl, ha, C, ht, hc, hk, q⟩
  cases r with
  | cons r1 r =>
    cases r with
    | cons r2 r =>
      cases r
      cases r1
      cases r2
      obtain ⟨oe, J⟩ := inst_of I ha
      obtain ⟨_, its, rv, ⟨oc, od, dt, sl⟩, h1, h2, m, h3⟩ := I.hok tp _ ht
      dsimp only at h2 h3
      subst h2 h3
      obtain rfl := hc _ rv
      exact PySem.W.kia_tup (PySem.W.handS_kitx_exc C.hg C.hk C.hs C.hd C.ha C.hn C.ht C.hm) I.kIn J h1 hk (fun z => nomatch z) fun tk => ⟨.bl b, H, I.tok tk, rfl, q⟩
end
section
variable {K : PySem.W.Frag} {σ : L2.St} {H H' : Hp} {ta tb te : TE} {v : V}
theorem rc_isX {a D C : Addr} {b : Bool} (h : H a = some (ExO a D)) (hC : ExcC K D) (hk : PySem.W.kitOne K (.ref D) (.ref C) = some b) : RC (rIsX K) [.ref a, .ref C] H (.bl b) := fun H1 e Q q => ⟨a, D, .ref C, .ref C, b, rfl, e _ _ h, hC, fun u r => r, hk, q H1 (Ex.refl _)⟩
theorem rc_isXV {a D : Addr} {n : String} {b : Bool} (h : H a = some (ExO a D)) (hC : ExcC K D) (hk : PySem.W.kitOne K (.ref D) (.type n) = some b) : RC (rIsX K) [.ref a, .ty n] H (.bl b) := fun H1 e Q q => ⟨a, D, .ty n, .type n, b, rfl, e _ _ h, hC, fun u r => r, hk, q H1 (Ex.refl _)⟩
theorem refs_one : ∀ {cs : List Addr} {ws : List Value}, Vals (cs.map V.ref) ws → ws = cs.map Value.ref
  | [], _, .nil => rfl
  | _ :: _, _, .cons r t => by
    cases r
    rw [refs_one t]
    rfl
theorem ev_isXT {a D : Addr} {cs : List Addr} {b : Bool} (ha : Ev ta σ H (.ref a)) (ht : EvU tb σ H (cs.map V.ref)) (h : H a = some (ExO a D)) (hC : ExcC K D) (hk : PySem.W.kitAny K (.ref D) (cs.map Value.ref) = some b) : Ev (tCB (rIsXT K) (tCons ta (tCons tb tNil))) σ H (.bl b) := fun H1 e Q q =>
  ha H1 e _ fun H2 e2 => ht H2 (e.trans e2) _ fun p H3 _ e3 hp => ⟨a, D, p, _, _, b, rfl, ((e.trans e2).trans e3) _ _ h, hC, hp, fun ws r => refs_one r, hk, q H3 (e2.trans e3)⟩
end
section
variable {K : PySem.W.Frag} {σ : L2.St} {H : Hp} {D : Ends} {ta te : TE} {t : TT} {tz : TS} {v : V}
/-- try: call, except L as e: keep = e -/
def tTry (K : PySem.W.Frag) (L : Value) (i j : Nat) (Wout : WX) (sp : Sp) (ta : TA) : TS := fun D σ H => tDrop (tCallS sp (WE (wKeep K L i (fun _ _ _ => tAsg (tVar i) (gName j)) Wout D)) ta) D σ H
theorem q_tryGood {L : Value} {i j : Nat} {Wout : WX} {s0 sB : Sp} {ta : TA} {vs : List V} (h : EvA ta σ H vs) (hs : ∀ H1, Ex H H1 → ∀ (Q : VK) (E : XK), (∀ v H2, Ex H1 H2 → Q v H2) → s0 vs H1 Q E) (k : ∀ H', Ex H H' → tz D σ H') : tSeq (tTry K L i j Wout (SpM s0 sB) ta) tz D σ H :=
  h H (Ex.refl H) _ fun H1 e1 => .inl (hs H1 e1 _ _ fun v H2 e2 => k H2 (e1.trans e2))
theorem q_tryBad {L : Value} {i j : Nat} {Wout : WX} {s0 : Sp} {B : Hp → List V → Addr → Prop} {ta : TA} {vs : List V} {C : Addr} (hi : i < σ.length) (exm : PySem.W.exmOne K (.ref C) L = some true) (h : EvA ta σ H vs) (hs : ∀ H1, Ex H H1 → B H1 vs C)
    (k : ∀ H' a, Ex H H' → H' a = some (ExO a C) → tz D (((σ.set i (some (.ref a))).set j (some (.ref a))).set i none) H') : tSeq (tTry K L i j Wout (SpM s0 (SpB B)) ta) tz D σ H :=
  h H (Ex.refl H) _ fun H1 e1 => .inr ⟨C, hs H1 e1, fun H2 e2 => ⟨true, exm, fun _ => ⟨C, rfl, rfl, fun a _ => s_asg (v := .ref a) (ev_var (by rw [List.getElem?_set_self hi])) fun H3 e3 na => k _ a (((e1.trans e2).trans e3).trans (Ex.new na)) upd_same⟩, fun z => nomatch z⟩⟩
theorem any_v {Dd : Hp → List V → V → Prop} {vs : List V} (h : ∃ v, Dd H vs v) (Q : VK) (E : XK) (q : ∀ v H2, Ex H H2 → Q v H2) : SpVal Dd vs H Q E := by
  obtain ⟨v, d⟩ := h
  exact ⟨v, d, fun H2 e2 => q v H2 e2⟩
/-- something is told, no matter what -/
def EvY (te : TE) (σ : L2.St) (H : Hp) : Prop := EvX te σ H fun _ _ => True
theorem evy_v (h : Ev te σ H v) : EvY te σ H := fun H1 e Q q => h H1 e Q fun H2 e2 => q v H2 e2 trivial
theorem evy_u {xs : List V} (h : EvU te σ H xs) : EvY te σ H := fun H1 e Q q => h H1 e Q fun p H2 _ e2 _ => q _ H2 e2 trivial
theorem evy_x {R : V → Hp → Prop} (h : EvX te σ H R) : EvY te σ H := fun H1 e Q q => h H1 e Q fun v H2 e2 _ => q v H2 e2 trivial
/-- if t: call, where the call tells something -/
theorem q_ifDrop {b : Bool} (h : EvT t σ H b) (h1 : b = true → ∀ H1, Ex H H1 → EvY te σ H1) (k : ∀ H1, Ex H H1 → tz D σ H1) : tSeq (tIfS t (tDrop te) tNext) tz D σ H :=
  q_when h (fun hb H1 e1 => h1 hb H1 e1 H1 (Ex.refl _) _ fun v H2 e2 _ => k H2 (e1.trans e2)) (fun hb H1 e1 => k H1 e1)
theorem s_ifDrop {b : Bool} (h : EvT t σ H b) (h1 : b = true → ∀ H1, Ex H H1 → EvY te σ H1) (k : ∀ H1, Ex H H1 → D.nx σ H1) : tIfS t (tDrop te) tNext D σ H :=
  s_when h (fun hb H1 e1 => h1 hb H1 e1 H1 (Ex.refl _) _ fun v H2 e2 _ => k H2 (e1.trans e2)) (fun hb H1 e1 => k H1 e1)
/-- if t: call, where the call is refused -/
theorem q_ifBad {s0 : Sp} {B : Hp → List V → Addr → Prop} {C : Addr} {ta : TA} {E : XK} {vs : List V} (h : EvT t σ H true) (ha : ∀ H1, Ex H H1 → EvA ta σ H1 vs) (hs : ∀ H1, Ex H H1 → B H1 vs C) (k : ∀ H', Ex H H' → E (.ref C) none H') : tSeq (tIfS t (tDrop (tCall (SpM s0 (SpB B)) [] E ta)) tNext) tz D σ H :=
  q_when h (fun _ H1 e1 => s_bad (D := { D with nx := tz D }) (ha H1 e1) (fun H2 e2 => hs H2 (e1.trans e2)) fun H2 e2 => k H2 (e1.trans e2)) (fun hb => nomatch hb)
theorem s_ifBad {s0 : Sp} {B : Hp → List V → Addr → Prop} {C : Addr} {ta : TA} {E : XK} {vs : List V} (h : EvT t σ H true) (ha : ∀ H1, Ex H H1 → EvA ta σ H1 vs) (hs : ∀ H1, Ex H H1 → B H1 vs C) (k : ∀ H', Ex H H' → E (.ref C) none H') : tIfS t (tDrop (tCall (SpM s0 (SpB B)) [] E ta)) tNext D σ H :=
  s_when h (fun _ H1 e1 => s_bad (ha H1 e1) (fun H2 e2 => hs H2 (e1.trans e2)) fun H2 e2 => k H2 (e1.trans e2)) (fun hb => nomatch hb)
/-- if t: list.append(v) -/
theorem q_ifApp {b : Bool} {l : Addr} {xs : List V} (hl : H l = some (.lst xs)) (h : EvT t σ H b) (ha : Ev ta σ H (.ref l)) (hv : Ev te σ H v) (hz : xs.length < 100000)
    (k : ∀ H1, Ex H H1 → tz D σ (upd H1 l (.lst (xs ++ if b then [v] else [])))) : tSeq (tIfS t (tDrop (tBM K "list" rAppend ta (tCons te tNil))) tNext) tz D σ H := by
  refine q_when h (fun hb H1 e1 => ?_) (fun hb H1 e1 => ?_)
  · refine s_appX (D := { D with nx := tz D }) (R := fun x _ => x = v) (e1 _ _ hl) (fun H2 e2 => ha H2 (e1.trans e2)) (evx_of fun H2 e2 => hv H2 (e1.trans e2)) hz fun x H2 e2 ex => ?_
    subst ex
    have := k H2 (e1.trans e2)
    rw [hb] at this
    exact this
  · have := k H1 e1
    rw [hb] at this
    rw [show upd H1 l (.lst (xs ++ if false = true then [v] else [])) = H1 from funext fun a => by
      by_cases z : a = l
      · subst z
        rw [upd_same, e1 _ _ hl]
        simp
      · rw [upd_ne z]] at this
    exact this
end
end MuX
namespace MuK
open PySem PySem.Spec PyProof.Rows L2 Evl
theorem all_at (ws : List Str) (f : Str → Bool) : (List.range (ws.map V.str).length).all (fun i => f (ws.getD i "")) = ws.all f := by
  rw [List.length_map, Bool.eq_iff_iff, List.all_eq_true, List.all_eq_true]
  constructor
  · intro h u mu
    obtain ⟨i, hi⟩ := List.getElem?_of_mem mu
    have := h i (List.mem_range.mpr (List.getElem?_eq_some_iff.mp hi).1)
    rw [List.getD_eq_getElem?_getD, hi] at this
    exact this
  · intro h i mi
    have lt := List.mem_range.mp mi
    rw [List.getD_eq_getElem?_getD, List.getElem?_eq_getElem lt]
    exact h _ (List.getElem_mem lt)
theorem dup_less : ∀ {ws : List Str}, ¬ ws.Nodup → ∃ m : List Str, (∀ x ∈ ws, x ∈ m) ∧ m.length < ws.length
  | [], h => absurd List.nodup_nil h
  | x :: t, h => by
    by_cases hx : x ∈ t
    · exact ⟨t, fun y m => by
        rcases List.mem_cons.mp m with rfl | m
        · exact hx
        · exact m, by simp⟩
    · obtain ⟨m, h1, h2⟩ := dup_less (ws := t) fun nd => h (List.nodup_cons.mpr ⟨hx, nd⟩)
      exact ⟨x :: m, fun y my => by
        rcases List.mem_cons.mp my with rfl | my
        · exact List.mem_cons_self
        · exact List.mem_cons_of_mem _ (h1 y my), by simp; omega⟩
theorem nd_of_len {sl ws : List Str} (nd : sl.Nodup) (h : ∀ x, x ∈ sl ↔ x ∈ ws) (hl : sl.length = ws.length) : ws.Nodup :=
  Classical.byContradiction fun c => by
    obtain ⟨m, h1, h2⟩ := dup_less c
    have := nodup_len nd fun x mx => h1 x ((h x).mp mx)
    omega
end MuK

namespace MuX
open PySem PySem.Spec PyProof.Rows L2 Evl MuK
/-- what a kept exception of the class C is called; b: isinstance of the seven tests -/
structure Kin (K : PySem.W.Frag) (C : Addr) (cs : List (Addr × Bool)) (os : List Addr) (b7 : Bool) : Prop where
  isi : ExcC K C
  val : PySem.W.kitOne K (.ref C) (.type "ValueError") = some true
  one : ∀ p ∈ cs, PySem.W.kitOne K (.ref C) (.ref p.1) = some p.2
  any : PySem.W.kitAny K (.ref C) (os.map Value.ref) = some b7
theorem any_no {K : PySem.W.Frag} {C : Addr} : ∀ {os : List Addr}, (∀ o ∈ os, PySem.W.kitOne K (.ref C) (.ref o) = some false) → PySem.W.kitAny K (.ref C) (os.map Value.ref) = some false
  | [], _ => rfl
  | o :: os, h => L2.kitAny_cons (h o List.mem_cons_self) (fun _ => any_no fun x m => h x (List.mem_cons_of_mem _ m)) (fun z => nomatch z)
abbrev rJoinX (K : PySem.W.Frag) : V → List V → Hp → VK → Prop := fun x xs H Q => ∃ a p, ∃ ys : List Str, x = .str a ∧ xs = [.ref p] ∧ (SqL K H p (ys.map V.str) ∨ SqT K H p (ys.map V.str)) ∧ (ys.map (·.length)).sum + ys.length * a.length ≤ 16777216 ∧ Q (.str (Txt.join a ys)) H
section
variable {K : PySem.W.Frag} {σ : L2.St} {H : Hp} {ta tb te : TE} {v : V} {D : Ends} {t : TT} {tz : TS}
theorem q_isApp {b : Bool} {l : Addr} {xs : List V} {Hb : Hp} (J : Ex Hb H ∧ H l = some (.lst xs)) (hb : Hb l = none) (h : EvT t σ H b) (ha : Ev ta σ H (.ref l)) (hv : Ev te σ H v) (hz : xs.length < 100000)
    (k : ∀ H', Ex Hb H' ∧ H' l = some (.lst (xs ++ if b then [v] else [])) → tz D σ H') : tSeq (tIfS t (tDrop (tBM K "list" rAppend ta (tCons te tNil))) tNext) tz D σ H :=
  q_ifApp J.2 h ha hv hz fun H1 e1 => k _ ⟨(J.1.trans e1).mut hb, upd_same⟩
theorem ev_joinS {p : Addr} {ws : List Str} (s : Str) (h : Ev te σ H (.ref p)) (hp : SqL K H p (ws.map V.str)) (hn : ((ws.map (·.length)).sum + ws.length * s.length) ≤ 16777216) : Ev (tM1 (rJoinX K) (tC (.str s)) te) σ H (.str (Txt.join s ws)) := fun H1 e1 Q q =>
  ⟨⟨s, rfl⟩, h H1 e1 _ fun H2 e2 => ⟨s, p, ws, rfl, rfl, .inl (ex_l (e1.trans e2) hp), hn, q H2 e2⟩⟩
end
end MuX
namespace MuX
open PySem PySem.Spec PyProof.Rows L2 Evl MuK
section
variable {K : PySem.W.Frag} {σ : L2.St} {H : Hp} {ta tb te : TE} {v : V} {tA : TA} {R : V → Hp → Prop}
/-! ### lists of new things of one kind -/
def Stay (R : V → Hp → Prop) : Prop := ∀ v H H', Ex H H' → R v H → R v H'
def EaR (R : V → Hp → Prop) (n : Nat) (tA : TA) (σ : L2.St) (H : Hp) : Prop := ∀ H1, Ex H H1 → ∀ Q : List V → Hp → Prop, (∀ vs H2, Ex H1 H2 → vs.length = n → (∀ y ∈ vs, R y H2) → Q vs H2) → tA σ H1 Q
theorem ear_nil : EaR R 0 tNil σ H := fun H1 e Q q => q [] H1 (Ex.refl H1) rfl fun _ m => nomatch m
theorem ear_cons {n : Nat} (st : Stay R) (h : EvX te σ H R) (t : EaR R n tA σ H) : EaR R (n + 1) (tCons te tA) σ H := fun H1 e Q q =>
  h H1 e _ fun v H2 e2 r => t H2 (e.trans e2) _ fun vs H3 e3 z a => q (v :: vs) H3 (e2.trans e3) (by rw [List.length_cons, z]) fun y m => by
    rcases List.mem_cons.mp m with rfl | m
    · exact st _ _ _ e3 r
    · exact a y m
/-- a list of n things of the kind -/
def RLn (R : V → Hp → Prop) (n : Nat) : V → Hp → Prop := fun v H => ∃ p ys, v = .ref p ∧ H p = some (.lst ys) ∧ ys.length = n ∧ ∀ y ∈ ys, R y H
theorem rln_stay {n : Nat} (st : Stay R) : Stay (RLn R n) := fun v H H' e r => by
  obtain ⟨p, ys, rfl, hp, z, a⟩ := r
  exact ⟨p, ys, rfl, e _ _ hp, z, fun y m => st _ _ _ e (a y m)⟩
theorem evx_lstR {n : Nat} (st : Stay R) (h : EaR R n tA σ H) (hz : n ≤ 100000) : EvX (tLst tA) σ H (RLn R n) := fun H1 e Q q =>
  h H1 e _ fun vs H2 e2 z a => ⟨sz_of (by omega), fun p hp => q _ _ (e2.trans (Ex.new hp)) ⟨p, vs, rfl, upd_same, z, fun y m => st _ _ _ (Ex.new hp) (a y m)⟩⟩
theorem evx_catR {n m : Nat} (st : Stay R) (h : EvX ta σ H (RLn R n)) (k : EvX tb σ H (RLn R m)) (hz : n + m ≤ 100000) : EvX (tOp rCat ta tb) σ H (RLn R (n + m)) := fun H1 e Q q =>
  h H1 e _ fun v H2 e2 r => k H2 (e.trans e2) _ fun v2 H3 e3 r2 => by
    obtain ⟨p, ys, rfl, hp, z, a⟩ := r
    obtain ⟨p2, ys2, rfl, hp2, z2, a2⟩ := r2
    refine ⟨p, p2, ys, ys2, rfl, rfl, e3 _ _ hp, hp2, sz_of (by omega), fun l hl => q _ _ ((e2.trans e3).trans (Ex.new hl)) ⟨l, ys ++ ys2, rfl, upd_same, by rw [List.length_append, z, z2], fun y m => ?_⟩⟩
    rcases List.mem_append.mp m with m | m
    · exact st _ _ _ (e3.trans (Ex.new hl)) (a y m)
    · exact st _ _ _ (Ex.new hl) (a2 y m)
theorem evx_varR {i n : Nat} (st : Stay R) (h : σ[i]? = some (some v)) (r : R v H) : EvX (tVar i) σ H R := fun H1 e Q q => (evx_of (ev_var h)) H1 e Q fun z H2 e2 (ez : z = v) => q z H2 e2 (by rw [ez]; exact st _ _ _ (e.trans e2) r)
/-- a thing at a place of the list -/
theorem evx_atR {n : Nat} {i : Int} (st : Stay R) (h : EvX ta σ H (RLn R n)) (hi : Ev tb σ H (.int i)) (h0 : 0 ≤ i) (h1 : i < n) : EvX (tOp (rIxL K) ta tb) σ H R := fun H1 e Q q =>
  h H1 e _ fun v H2 e2 r => hi H2 (e.trans e2) _ fun H3 e3 => by
    obtain ⟨p, ys, rfl, hp, z, a⟩ := r
    obtain ⟨j, rfl⟩ : ∃ j : Nat, i = (j : Int) := ⟨i.toNat, by omega⟩
    have lt : j < ys.length := by omega
    exact rv_ixL (sq_of (e3 _ _ hp)) (atI_nat (List.getElem?_eq_getElem lt)) H3 (Ex.refl _) Q fun H4 e4 => q _ H4 ((e2.trans e3).trans e4) (st _ _ _ (e3.trans e4) (a _ (List.getElem_mem lt)))
def RStr : V → Hp → Prop := fun v _ => ∃ u : Str, v = .str u
theorem rstr_stay : Stay RStr := fun _ _ _ _ r => r
theorem evx_str {u : Str} (h : Ev te σ H (.str u)) : EvX te σ H RStr := evx_mono (evx_of h) fun v H1 e r => ⟨u, r⟩
def RPt (b : Int) : V → Hp → Prop := fun v H => ∃ (p : Addr) (s t : Int), v = .ref p ∧ H p = some (.tup [.int s, .int t]) ∧ -b ≤ s ∧ s ≤ b ∧ -b ≤ t ∧ t ≤ b
theorem rpt_stay (b : Int) : Stay (RPt b) := fun v H H' e r => by
  obtain ⟨p, s, t, rfl, hp, k⟩ := r
  exact ⟨p, s, t, rfl, e _ _ hp, k⟩
theorem evx_pt {b s t : Int} (h1 : Ev ta σ H (.int s)) (h2 : Ev tb σ H (.int t)) (k : -b ≤ s ∧ s ≤ b ∧ -b ≤ t ∧ t ≤ b) : EvX (tTup (tCons ta (tCons tb tNil))) σ H (RPt b) := fun H1 e Q q =>
  (eu_tup (vs := [.int s, .int t]) (ea_cons h1 (ea_cons h2 ea_nil)) (by simp)) H1 e _ fun p H2 hp e2 g => q _ H2 e2 ⟨p, s, t, rfl, g, k⟩
abbrev rSlT : V → Option Int → Option Int → Hp → VK → Prop := fun x lo hi H Q => ∃ a, x = .str a ∧ a.length ≤ sizeLine ∧ Q (.str (cutS a lo hi)) H
theorem ev_cutT {u : Str} {k : Int} (hz : u.length ≤ 100000) (h : Ev ta σ H (.str u)) (hk : Ev tb σ H (.int k)) : Ev (tSl rSlT ta tNoPart (tPart tb)) σ H (.str (cutS u none (some k))) := fun H1 e Q q =>
  h H1 e _ fun H2 e2 => eo_none H2 (e.trans e2) _ fun H3 e3 => (eo_some hk) H3 ((e.trans e2).trans e3) _ fun H4 e4 => ⟨_, rfl, sz_of hz, q H4 ((e2.trans e3).trans e4)⟩
theorem ev_cutF {u : Str} {k : Int} (hz : u.length ≤ 100000) (h : Ev ta σ H (.str u)) (hk : Ev tb σ H (.int k)) : Ev (tSl rSlT ta (tPart tb) tNoPart) σ H (.str (cutS u (some k) none)) := fun H1 e Q q =>
  h H1 e _ fun H2 e2 => (eo_some hk) H2 (e.trans e2) _ fun H3 e3 => eo_none H3 ((e.trans e2).trans e3) _ fun H4 e4 => ⟨_, rfl, sz_of hz, q H4 ((e2.trans e3).trans e4)⟩
abbrev rAddS : V → V → Hp → VK → Prop := fun x y H Q => ∃ i j, x = .str i ∧ y = .str j ∧ i.length + j.length ≤ sizeLine ∧ Q (.str (i ++ j)) H
theorem ev_addS {u w : Str} (h : Ev ta σ H (.str u)) (k : Ev tb σ H (.str w)) (hz : u.length + w.length ≤ 100000) : Ev (tOp rAddS ta tb) σ H (.str (u ++ w)) := ev_op h k fun H1 _ _ q => ⟨_, _, rfl, rfl, sz_of hz, q H1 (Ex.refl H1)⟩
abbrev rUp : V → List V → Hp → VK → Prop := fun x xs H Q => ∃ a, x = .str a ∧ xs = [] ∧ a.length ≤ 5592405 ∧ Q (.str (Txt.upper a)) H
theorem ev_up {u : Str} (h : Ev te σ H (.str u)) (hz : u.length ≤ 100000) : Ev (tM0 rUp te) σ H (.str (Txt.upper u)) := fun H1 e Q q =>
  h H1 e _ fun H2 e2 => ⟨⟨u, rfl⟩, u, rfl, rfl, by omega, q H2 e2⟩
theorem given_nil {n : Nat} {f : Nat → Bool} {v : Nat → V} : (given n f v).isEmpty = true ↔ ∀ i, i < n → f i = false := by
  unfold given
  rw [List.isEmpty_iff, List.map_eq_nil_iff, List.filter_eq_nil_iff]
  constructor
  · intro h i hi
    have := h i (List.mem_range.mpr hi)
    cases e : f i with
    | false => rfl
    | true => exact absurd e this
  · intro h i hi
    rw [h i (List.mem_range.mp hi)]
    exact Bool.false_ne_true
abbrev rLenX (K : PySem.W.Frag) : List V → Hp → VK → Prop := fun xs H Q => ∃ (p : Addr) (ys : List V), xs = [V.ref p] ∧ (SqL K H p ys ∨ SqT K H p ys) ∧ Q (.int ys.length) H
/-- len(set(texts)) < len(texts) -/
theorem ev_dup {P : Program} {w : World} {a : Addr} {ws : List Str} (h : Ev ta σ H (.ref a)) (k : Ev tb σ H (.ref a)) (hs : SqL K H a (ws.map V.str)) (hz : ws.length ≤ 60) :
    Ev (tOp (rI0 fun i j => .bl (decide (i < j))) (tCB (MuSet.rLenTx P w) (tCons (tCB (MuSet.rSetTx K P w) (tCons ta tNil)) tNil)) (tCB (rLenX K) (tCons tb tNil))) σ H (.bl (!decide ws.Nodup)) := fun H1 e Q q =>
  h H1 e _ fun H2 e2 => ⟨a, ws, rfl, ex_l (e.trans e2) hs, by omega, fun sa sl n1 nd1 m1 l1 => by
    have e3 : Ex H2 _ := Ex.new (o := MuSet.SetTx P w sa sl) n1
    have lz : sl.length ≤ ws.length := nodup_len nd1 fun x m => (m1 x).mp m
    refine ⟨sa, sl, rfl, upd_same, by omega, k _ ((e.trans e2).trans e3) _ fun H4 e4 => ⟨a, ws.map V.str, rfl, .inl (ex_l (((e.trans e2).trans e3).trans e4) hs), ?_⟩⟩
    have z : (!decide ws.Nodup) = decide ((sl.length : Int) < ((ws.map V.str).length : Int)) := by
      rw [List.length_map, Bool.eq_iff_iff, Bool.not_eq_true', decide_eq_false_iff_not, decide_eq_true_eq]
      constructor
      · intro h
        rcases Nat.lt_or_ge sl.length ws.length with l | l
        · omega
        · exact absurd (nd_of_len nd1 (fun x => m1 x) (by omega)) h
      · intro h nd
        have hl : sl.length = ws.length := ((List.perm_ext_iff_of_nodup nd1 nd).mpr m1).length_eq
        omega
    rw [z] at q
    exact ⟨_, _, rfl, rfl, q _ ((e2.trans e3).trans e4)⟩⟩
/-! ### arguments, the last of them new -/
def EaP (tA : TA) (σ : L2.St) (H : Hp) (R : List V → Hp → Prop) : Prop := ∀ H1, Ex H H1 → ∀ Q : List V → Hp → Prop, (∀ vs H2, Ex H1 H2 → R vs H2 → Q vs H2) → tA σ H1 Q
theorem eap_last (h : EvX te σ H R) : EaP (tCons te tNil) σ H (fun vs H' => ∃ x, vs = [x] ∧ R x H') := fun H1 e Q q => h H1 e _ fun v H2 e2 r => q [v] H2 e2 ⟨v, rfl, r⟩
theorem eap_cons {S : List V → Hp → Prop} (h : Ev te σ H v) (t : EaP tA σ H S) : EaP (tCons te tA) σ H (fun vs H' => ∃ r, vs = v :: r ∧ S r H') := fun H1 e Q q =>
  h H1 e _ fun H2 e2 => t H2 (e.trans e2) _ fun vs H3 e3 s => q (v :: vs) H3 (e2.trans e3) ⟨vs, rfl, s⟩
theorem ev_callP {Dd : Hp → List V → V → Prop} {E : XK} {S : List V → Hp → Prop} (h : EaP tA σ H S) (hs : ∀ vs H1, Ex H H1 → S vs H1 → Dd H1 vs v) : Ev (tCall (SpVal Dd) [] E tA) σ H v := fun H1 e Q q =>
  h H1 e _ fun vs H2 e2 s => ⟨v, by rw [List.append_nil]; exact hs vs H2 (e.trans e2) s, fun H3 e3 => q H3 (e2.trans e3)⟩
theorem evx_disp1 {k : Key} (hk : Ev ta σ H (kV k)) (hv : Ev tb σ H v) : EvX (tDisp [(ta, tb)]) σ H (fun u H' => ∃ d : Addr, u = .ref d ∧ H' d = some (.dK [(k, v)])) := fun H1 e Q q => by
  intro d hd
  have e1 : Ex H1 (upd H1 d (.dK [])) := Ex.new hd
  refine hk _ (e.trans e1) _ fun H2 e2 => hv _ ((e.trans e1).trans e2) _ fun H3 e3 => ?_
  have h3 := (e2.trans e3) d _ upd_same
  refine ⟨h3, [(k, v)], rfl, by simp, q _ _ (Ex.mut ((e1.trans e2).trans e3) hd) ⟨d, rfl, ?_⟩⟩
  rw [upd_same]
  rfl
theorem evx_newK : EvX tDNewK σ H (fun u H' => ∃ d : Addr, u = .ref d ∧ H' d = some (.dK [])) := fun H1 e Q q d hd => q _ _ (Ex.new hd) ⟨d, rfl, upd_same⟩
/-! ### lists of words, lots -/
def RWords : V → Hp → Prop := fun v H => ∃ (p : Addr) (ws : List Str), v = .ref p ∧ H p = some (.lst (ws.map V.str)) ∧ ws.length ≤ 30 ∧ ∀ u ∈ ws, WordOk u
theorem rwords_stay : Stay RWords := fun v H H' e r => by
  obtain ⟨p, ws, rfl, hp, k⟩ := r
  exact ⟨p, ws, rfl, e _ _ hp, k⟩
theorem evx_words {ws : List Str} (h : EvL te σ H (ws.map V.str)) (k : ws.length ≤ 30 ∧ ∀ u ∈ ws, WordOk u) : EvX te σ H RWords := fun H1 e Q q => h H1 e _ fun p H2 _ e2 g => q _ H2 e2 ⟨p, ws, rfl, g, k⟩
def RLot : V → Hp → Prop := fun v H => ∃ (b : Addr) (ls : List (Addr × List Str)), v = .ref b ∧ H b = some (.lst (ls.map fun p => V.ref p.1)) ∧ ls.length ≤ 60 ∧ LotAt H ls ∧ ∀ c ∈ ls, c.2.length ≤ 30 ∧ ∀ u ∈ c.2, WordOk u
theorem lot_of : ∀ {ys : List V} {H : Hp}, (∀ y ∈ ys, RWords y H) → ∃ ls : List (Addr × List Str), ys = ls.map (fun p => V.ref p.1) ∧ LotAt H ls ∧ ∀ c ∈ ls, c.2.length ≤ 30 ∧ ∀ u ∈ c.2, WordOk u
  | [], _, _ => ⟨[], rfl, (fun _ m => nomatch m), fun _ m => nomatch m⟩
  | y :: ys, H, h => by
    obtain ⟨ls, rfl, hl, ok⟩ := lot_of fun z m => h z (List.mem_cons_of_mem _ m)
    obtain ⟨p, ws, rfl, hp, k⟩ := h y List.mem_cons_self
    refine ⟨(p, ws) :: ls, rfl, fun c m => ?_, fun c m => ?_⟩
    · rcases List.mem_cons.mp m with rfl | m
      · exact hp
      · exact hl c m
    · rcases List.mem_cons.mp m with rfl | m
      · exact k
      · exact ok c m
theorem rlot_of {n : Nat} {v : V} {H : Hp} (hn : n ≤ 60) (r : RLn RWords n v H) : RLot v H := by
  obtain ⟨p, ys, rfl, hp, z, a⟩ := r
  obtain ⟨ls, rfl, hl, ok⟩ := lot_of a
  rw [List.length_map] at z
  exact ⟨p, ls, rfl, hp, by omega, hl, ok⟩
theorem rlot_stay : Stay RLot := fun v H H' e r => by
  obtain ⟨b, ls, rfl, hb, z, hl, ok⟩ := r
  exact ⟨b, ls, rfl, e _ _ hb, z, hl.later e, ok⟩
end
end MuX
namespace MuK
open PySem PySem.Spec PyProof.Rows L2 Evl
/-- a list of texts is a set -/
def setB (ws : List Str) : Bool := ws.all (fun u => decide (WordOk u)) && decide ws.Nodup
theorem setB_ok {ws : List Str} (h : setB ws = true) : ws.Nodup ∧ ∀ u ∈ ws, WordOk u := by
  unfold setB at h
  rw [Bool.and_eq_true, List.all_eq_true] at h
  exact ⟨of_decide_eq_true h.2, fun u m => of_decide_eq_true (h.1 u m)⟩
/-- a number told for a word -/
def wOkB (e : Key × V) : Bool := match e with
  | (.inr u, .int z) => decide (WordOk u) && decide (1 ≤ z)
  | _ => false
def WAny (kvs : List (Key × V)) : Prop := ∀ e ∈ kvs, ∃ u z, e = (.inr u, .int z) ∧ u.length ≤ 1000
end MuK

namespace MuX
open PySem PySem.Spec PyProof.Rows L2 Evl MuK
/-! ### list.count of a list of texts -/
theorem eqt_count {k : Str} : ∀ {us : List Value} {ws : List Str}, StrsAre us ws → us.countP (eqt k) = ws.count k
  | _, _, .nil => rfl
  | _, _, .cons a u r => by
    have ih := eqt_count (k := k) r
    rw [List.countP_cons, List.count_cons, ih]
    by_cases h : a = k
    · subst h
      simp [eqt]
    · simp [eqt, h]
def rCntS (K : PySem.W.Frag) : V → List V → Hp → VK → Prop := fun x xs H Q => ∃ (p : Addr) (ws : List Str) (k : Str), x = .ref p ∧ xs = [.str k] ∧ SqL K H p (ws.map V.str) ∧ Q (.int (ws.count k : Nat)) H
theorem mtS_count {X : Cx} : MtR X "list.count" (rCntS X.K) := by
  intro pins s σ H x xs v us Q I rx rxs h
  obtain ⟨p, ws, k, rfl, rfl, hs, q⟩ := h
  cases rx
  obtain ⟨u, rfl, ru⟩ := rxs.one
  obtain ⟨t, rfl⟩ := ru
  obtain ⟨its, rv, ⟨⟨oc, od, dt, osl⟩, n, ho, h1, h2, h3⟩, hlen⟩ := I.list hs
  dsimp only at h1 h3
  subst h1 h3
  have hi := strs_of_vals rv
  refine call_meets PySem.F.slot_list_count ⟨_, ho, rfl⟩ PySem.F.entry_list_count (PySem.F.args_list_count_2 _ _)
    (SeqAt.list_countAt p its.toArray n od osl (.str k t) (eqt k)) ⟨ho, fun y hy => (eqt_gives hi y (by simpa using hy)).at _ _, ?_⟩
  refine ⟨.int (ws.count k : Nat), H, I.tok _, ⟨s.toks, ?_⟩, q⟩
  have ec : its.toArray.toList.countP (eqt k) = ws.count k := eqt_count hi
  show Value.int ((its.toArray.toList.countP (eqt k) : Nat) : Int) s.toks = Value.int ((ws.count k : Nat) : Int) s.toks
  rw [ec]
section
variable {K : PySem.W.Frag} {σ : L2.St} {H : Hp} {ta tb te tl : TE} {v : V} {D : Ends} {t t2 : TT} {tz tu tw : TS}
theorem ev_countS {p : Addr} {ws : List Str} {k : Str} (h : Ev ta σ H (.ref p)) (hs : SqL K H p (ws.map V.str)) (hk : Ev tb σ H (.str k)) : Ev (tBM K "list" (rCntS K) ta (tCons tb tNil)) σ H (.int (ws.count k : Nat)) := fun H1 e Q q =>
  h H1 e _ fun H2 e2 => ⟨.inl ⟨rfl, _, ex_l (e.trans e2) hs⟩, hk H2 (e.trans e2) _ fun H3 e3 => ⟨p, ws, k, rfl, rfl, ex_l ((e.trans e2).trans e3) hs, q H3 (e2.trans e3)⟩⟩
theorem count_nd : ∀ {ws : List Str}, (∀ u ∈ ws, ws.count u ≤ 1) ↔ ws.Nodup
  | [] => by simp
  | x :: ws => by
    rw [List.nodup_cons, ← count_nd (ws := ws)]
    constructor
    · intro h
      have hx := h x List.mem_cons_self
      rw [List.count_cons_self] at hx
      have nx : x ∉ ws := fun m => by
        have := List.count_pos_iff.mpr m
        omega
      refine ⟨nx, fun u m => ?_⟩
      have := h u (List.mem_cons_of_mem _ m)
      rw [List.count_cons] at this
      omega
    · rintro ⟨nx, h⟩ u m
      rcases List.mem_cons.mp m with rfl | m
      · rw [List.count_cons_self, List.count_eq_zero.mpr nx]
        exact Nat.le_refl 1
      · have ne : ¬ x = u := fun z => nx (z ▸ m)
        have := h u m
        rw [List.count_cons, if_neg (by simpa using ne)]
        omega
/-! ### a loop over a text's signs -/
theorem s_forS {u : Str} {j : Nat} (h : Ev tl σ H (.str u)) (Pv : Nat → L2.St → Hp → Prop) (h0 : ∀ H1, Ex H H1 → Pv 0 σ H1)
    (hs : ∀ i c σ' H', u.cps.toList[i]? = some c → Pv i σ' H' → tu { D with nx := Pv (i + 1), ct := Pv (i + 1), bk := D.nx } (σ'.set j (some (.str ⟨#[c]⟩))) H') (hd : ∀ σ' H', Pv u.cps.toList.length σ' H' → D.nx σ' H') : tFor (iStr tl) (gName j) tu D σ H :=
  h H (Ex.refl H) _ fun H1 e1 => ⟨u, rfl, for_it walk_str Pv (h0 H1 e1) (fun _ _ _ _ _ => trivial) (fun i x σ' H' H2 hi p y => by
    obtain ⟨rfl, c, hc, rfl⟩ := y
    exact hs i c σ' _ (by simpa using hc) p) (fun σ' H' p => hd σ' H' (by simpa using p))⟩
theorem q_forS {u : Str} {j : Nat} (h : Ev tl σ H (.str u)) (Pv : Nat → L2.St → Hp → Prop) (h0 : ∀ H1, Ex H H1 → Pv 0 σ H1)
    (hs : ∀ i c σ' H', u.cps.toList[i]? = some c → Pv i σ' H' → tu { D with nx := Pv (i + 1), ct := Pv (i + 1), bk := tz D } (σ'.set j (some (.str ⟨#[c]⟩))) H') (hd : ∀ σ' H', Pv u.cps.toList.length σ' H' → tz D σ' H') : tSeq (tFor (iStr tl) (gName j) tu) tz D σ H :=
  s_forS (D := { D with nx := tz D }) h Pv h0 hs hd
/-! ### texts of no great length -/
def RStrN : V → Hp → Prop := fun v _ => ∃ u : Str, v = .str u ∧ u.length ≤ 1000
theorem rstrN_stay : Stay RStrN := fun _ _ _ _ r => r
theorem evx_strN {u : Str} (h : Ev te σ H (.str u)) (hz : u.length ≤ 1000) : EvX te σ H RStrN := evx_mono (evx_of h) fun v H1 e r => ⟨u, r, hz⟩
theorem ev_mulS {u : Str} {n : Int} (h : Ev ta σ H (.str u)) (k : Ev tb σ H (.int n)) (hz : u.length ≤ 1000) (h0 : 0 ≤ n) (h1 : n ≤ 1000) : Ev (tOp rMulS ta tb) σ H (.str (Txt.mul u n)) := ev_op h k fun H1 _ _ q => ⟨_, _, rfl, rfl, hz, h0, h1, q H1 (Ex.refl H1)⟩
abbrev rIsN : V → V → Hp → VK → Prop := fun x y H Q => y = V.non ∧ Q (V.bl (decide (x = V.non))) H
/-! ### list.insert -/
abbrev rIns : V → List V → Hp → VK → Prop := fun x vs H Q => ∃ (l : Addr) (xs : List V) (i : Int) (y : V), x = .ref l ∧ vs = [.int i, y] ∧ H l = some (.lst xs) ∧ xs.length < sizeLine ∧ 0 ≤ i ∧ i < 2 ^ 63 ∧ Q .non (upd H l (.lst (xs.take i.toNat ++ [y] ++ xs.drop i.toNat)))
theorem s_ins {l : Addr} {xs : List V} {i : Int} (hl : H l = some (.lst xs)) (ha : Ev ta σ H (.ref l)) (hi : Ev tb σ H (.int i)) (hv : Ev te σ H v) (hz : xs.length < 100000) (h0 : 0 ≤ i) (h1 : i < 2 ^ 63)
    (k : ∀ H1, Ex H H1 → D.nx σ (upd H1 l (.lst (xs.take i.toNat ++ [v] ++ xs.drop i.toNat)))) : tDrop (tBM K "list" rIns ta (tCons tb (tCons te tNil))) D σ H :=
  ha H (Ex.refl H) _ fun H1 e1 => ⟨.inl ⟨rfl, xs, sq_of (e1 l _ hl)⟩, hi H1 e1 _ fun H2 e2 => hv H2 (e1.trans e2) _ fun H3 e3 => ⟨l, xs, i, v, rfl, rfl, ((e1.trans e2).trans e3) _ _ hl, sz_lt hz, h0, h1, k H3 ((e1.trans e2).trans e3)⟩⟩
/-! ### tests and statements within a try -/
theorem q_go {t : TS} (h : t { D with nx := tz D } σ H) : tSeq t tz D σ H := h
theorem s_ifAndBad (h1 : EvT t σ H true) (bad : ∀ H1, Ex H H1 → ∀ R, t2 σ H1 R) : tIfS (tAnd t t2) tu tw D σ H := h1 H (Ex.refl H) _ fun H1 e1 => bad H1 e1 _
theorem q_ifAndBad (h1 : EvT t σ H true) (bad : ∀ H1, Ex H H1 → ∀ R, t2 σ H1 R) : tSeq (tIfS (tAnd t t2) tu tw) tz D σ H := s_ifAndBad (D := { D with nx := tz D }) h1 bad
theorem bad_callS {s0 : Sp} {B : Hp → List V → Addr → Prop} {C : Addr} {ta : TA} {vs : List V} {E : L2.St → XK} (h : EvA ta σ H vs) (hs : ∀ H1, Ex H H1 → B H1 vs C) (k : ∀ H', Ex H H' → E σ (.ref C) none H') (Q : VK) : tCallS (SpM s0 (SpB B)) E ta σ H Q :=
  h H (Ex.refl H) _ fun H1 e1 => .inr ⟨C, hs H1 e1, fun H2 e2 => k H2 (e1.trans e2)⟩
theorem ev_callSV {Dd : Hp → List V → V → Prop} {sB : Sp} {ta : TA} {vs : List V} {E : L2.St → XK} (h : EvA ta σ H vs) (hs : ∀ H1, Ex H H1 → Dd H1 vs v) : Ev (tCallS (SpM (SpVal Dd) sB) E ta) σ H v := fun H1 e Q q =>
  h H1 e _ fun H2 e2 => .inl ⟨v, hs H2 (e.trans e2), fun H3 e3 => q H3 (e2.trans e3)⟩
theorem keep_nx {L : Value} {i j : Nat} {Wout : WX} {C : Addr} (hi : i < σ.length) (exm : PySem.W.exmOne K (.ref C) L = some true)
    (k : ∀ H' a, Ex H H' → H' a = some (ExO a C) → D.nx (((σ.set i (some (.ref a))).set j (some (.ref a))).set i none) H') : wKeep K L i (fun _ _ _ => tAsg (tVar i) (gName j)) Wout D (.ref C) none σ H :=
  ⟨true, exm, fun _ => ⟨C, rfl, rfl, fun a _ => s_asg (v := .ref a) (ev_var (by rw [List.getElem?_set_self hi])) fun H3 e3 na => k _ a (e3.trans (Ex.new na)) upd_same⟩, fun z => nomatch z⟩
theorem eap_nil {σ : L2.St} {H : Hp} : EaP tNil σ H (fun vs _ => vs = []) := fun H1 e Q q => q [] H1 (Ex.refl H1) rfl
theorem eap_consX {tA : TA} {R : V → Hp → Prop} {S : List V → Hp → Prop} (st : Stay R) (h : EvX te σ H R) (t : EaP tA σ H S) : EaP (tCons te tA) σ H (fun vs H' => ∃ x r, vs = x :: r ∧ R x H' ∧ S r H') := fun H1 e Q q =>
  h H1 e _ fun v H2 e2 r => t H2 (e.trans e2) _ fun vs H3 e3 s => q (v :: vs) H3 (e2.trans e3) ⟨v, vs, rfl, st _ _ _ e3 r, s⟩
theorem s_callSP {tA : TA} {S : List V → Hp → Prop} {sp : Sp} {E : L2.St → XK} (h : EaP tA σ H S) (k : ∀ vs H1, Ex H H1 → S vs H1 → sp vs H1 (fun _ H' => D.nx σ H') (E σ)) : tDrop (tCallS sp E tA) D σ H := h H (Ex.refl H) _ k
def RT2 (i j : Int) : V → Hp → Prop := fun v H => ∃ p : Addr, v = .ref p ∧ H p = some (.tup [.int i, .int j])
theorem rt2_stay {i j : Int} : Stay (RT2 i j) := fun v H H' e r => by
  obtain ⟨p, rfl, hp⟩ := r
  exact ⟨p, rfl, e _ _ hp⟩
theorem evx_t2 {i j : Int} (h1 : Ev ta σ H (.int i)) (h2 : Ev tb σ H (.int j)) : EvX (tTup (tCons ta (tCons tb tNil))) σ H (RT2 i j) := fun H1 e Q q =>
  (eu_tup (vs := [.int i, .int j]) (ea_cons h1 (ea_cons h2 ea_nil)) (by simp)) H1 e _ fun p H2 hp e2 g => q _ H2 e2 ⟨p, rfl, g⟩
end
/-! ### a call that changes some lists and a dict -/
def ExQ (S : List Addr) (H H' : Hp) : Prop := ∀ x o, H x = some o → x ∉ S → H' x = some o
theorem ExQ.refl {S : List Addr} {H : Hp} : ExQ S H H := fun _ _ h _ => h
theorem ExQ.ex {S : List Addr} {H H1 H2 : Hp} (a : ExQ S H H1) (b : Ex H1 H2) : ExQ S H H2 := fun x o h n => b x o (a x o h n)
theorem ExQ.upd {S : List Addr} {H H1 : Hp} (a : ExQ S H H1) {d : Addr} {o : HO} (hd : d ∈ S) : ExQ S H (upd H1 d o) := fun x u h n => by
  have ne : x ≠ d := fun z => n (by rw [z]; exact hd)
  rw [upd_ne ne]
  exact a x u h n
def WZ (kvs : List (Key × V)) : Prop := ∀ e ∈ kvs, ∃ u z, e = (.inr u, .int z) ∧ u.length ≤ 1000 ∧ z ≤ 1000000
theorem putK_wz {kvs : List (Key × V)} (h : WZ kvs) {b : Str} {z : Int} (hb : b.length ≤ 1000) (h2 : z ≤ 1000000) : WZ (putK kvs (.inr b) (.int z)) := by
  unfold putK
  split
  · intro kv m
    obtain ⟨x, hx, e⟩ := List.mem_map.mp m
    obtain ⟨u, y, rfl, r⟩ := h x hx
    by_cases c : (Sum.inr u : Key) = .inr b
    · rw [if_pos c] at e
      exact ⟨u, z, e.symm, r.1, h2⟩
    · rw [if_neg c] at e
      exact ⟨u, y, e.symm, r⟩
  · intro kv m
    rcases List.mem_append.mp m with m | m
    · exact h kv m
    · obtain rfl := List.mem_singleton.mp m
      exact ⟨b, z, rfl, hb, h2⟩
theorem putK_len2 (kvs : List (Key × V)) (k : Key) (v : V) : (putK kvs k v).length ≤ kvs.length + 1 := by
  unfold putK
  split
  · rw [List.length_map]; omega
  · rw [List.length_append]; exact Nat.le_refl _
section
variable {K : PySem.W.Frag} {σ : L2.St} {H : Hp} {ta tb te tl td ty tv : TE} {v : V} {D : Ends} {t t2 : TT} {tz tu tw : TS}
theorem s_dputX {d : Addr} {kvs : List (Key × V)} {R : V → Hp → Prop} (hd : H d = some (.dK kvs)) (hz : kvs.length < 100000) (hv : Ev tv σ H v) (ho : Ev td σ H (.ref d)) (hk : EvX ty σ H R) (hR : ∀ x H1, R x H1 → ∃ k : Key, x = kV k)
    (q : ∀ (k : Key) H1, Ex H H1 → R (kV k) H1 → D.nx σ (upd H1 d (.dK (putK kvs k v)))) : sDPut td ty tv D σ H :=
  hv H (Ex.refl H) _ fun H1 e1 => ho H1 e1 _ fun H2 e2 => hk H2 (e1.trans e2) _ fun x H3 e3 r => by
    have e := (e1.trans e2).trans e3
    obtain ⟨k, rfl⟩ := hR x H3 r
    exact ⟨d, _, rfl, DPut.k (e d _ hd) (sz_lt hz), q k H3 e r⟩
theorem q_callRaw {sp : Sp} {E : XK} {tA : TA} {vs : List V} (h : EvA tA σ H vs) (k : ∀ H1, Ex H H1 → sp (vs ++ []) H1 (fun _ H' => tz D σ H') E) : tSeq (tDrop (tCall sp [] E tA)) tz D σ H := h H (Ex.refl H) _ k
theorem q_ifAsgX {b : Bool} {i : Nat} {R : V → Hp → Prop} (h : EvT t σ H b) (h1 : b = true → ∀ H1, Ex H H1 → EvX te σ H1 R) (h2 : b = false → ∀ H1, Ex H H1 → ∃ v, σ.set i (some v) = σ ∧ R v H1) (k : ∀ v H1, Ex H H1 → R v H1 → tz D (σ.set i (some v)) H1) : tSeq (tIfS t (tAsg te (gName i)) tNext) tz D σ H :=
  q_when h (fun hb H1 e1 => s_asgX (D := { D with nx := tz D }) (h1 hb H1 e1) fun v H2 e2 r => k v H2 (e1.trans e2) r) (fun hb H1 e1 => by
    obtain ⟨v, hv, r⟩ := h2 hb H1 e1
    rw [← hv]
    exact k v H1 e1 r)
end
/-- a list of the lot is another now -/
def setLot (ls : List (Addr × List Str)) (a : Addr) (ws : List Str) : List (Addr × List Str) := ls.map fun e => if e.1 = a then (a, ws) else e
theorem setLot_fst (ls : List (Addr × List Str)) (a : Addr) (ws : List Str) : (setLot ls a ws).map (·.1) = ls.map (·.1) := by
  unfold setLot
  rw [List.map_map]
  refine List.map_congr_left fun e _ => ?_
  show (if e.1 = a then (a, ws) else e).1 = e.1
  split
  · rename_i h
    exact h.symm
  · rfl
theorem setLot_at {H : Hp} {ls : List (Addr × List Str)} (h : LotAt H ls) (a : Addr) (ws : List Str) : LotAt (L2.upd H a (.lst (ws.map V.str))) (setLot ls a ws) := fun c m => by
  obtain ⟨e, me, rfl⟩ := List.mem_map.mp m
  by_cases z : e.1 = a
  · simp only [if_pos z]
    exact upd_same
  · simp only [if_neg z]
    exact (upd_ne z).trans (h e me)
/-! ### what a lot is refused for -/
def dueL (ws : List (List Str)) (kvs : List (Key × V)) : Str := if ws.all setB = false then "set" else if kvs.all wOkB = false then "weight" else ""
end MuX
namespace MuK
open PySem PySem.Spec PyProof.Rows L2 Evl
theorem val_at : ∀ {kvs : List (Key × V)} {n : Nat} {k : Key} {x : V}, (kvs.map (·.1)).Nodup → kvs[n]? = some (k, x) → valV kvs k = some x
  | [], _, _, _, _, h => nomatch h
  | (k0, x0) :: kvs, 0, k, x, _, h => by
    cases h
    unfold valV
    simp
  | (k0, x0) :: kvs, n + 1, k, x, nd, h => by
    have nd := List.nodup_cons.mp nd
    have ih := val_at nd.2 (show kvs[n]? = some (k, x) from h)
    have m : k ∈ kvs.map (·.1) := List.mem_map_of_mem (List.mem_of_getElem? (show kvs[n]? = some (k, x) from h))
    have ne : k0 ≠ k := fun z => nd.1 (z ▸ m)
    unfold valV at ih ⊢
    rw [List.find?_cons_of_neg (by simpa using ne)]
    exact ih
end MuK
namespace MuX
open PySem PySem.Spec PyProof.Rows L2 Evl MuK
theorem cutV_map {α : Type} (f : α → V) (xs : List α) (lo hi : Option Int) : ∃ ys : List α, cutV (xs.map f) lo hi = ys.map f ∧ ys.Sublist xs := by
  unfold cutV
  rw [List.length_map, ← List.map_drop, ← List.map_take]
  exact ⟨_, rfl, (List.take_sublist _ _).trans (List.drop_sublist _ _)⟩
theorem dueL_more {xs ys zs : List (Addr × List Str)} (hy : ys.Sublist xs) (hz : zs.Sublist xs) (kvs : List (Key × V)) : dueL ((xs ++ ys ++ zs).map (·.2)) kvs = dueL (xs.map (·.2)) kvs := by
  have e : ((xs ++ ys ++ zs).map (·.2)).all setB = (xs.map (·.2)).all setB := by
    rw [Bool.eq_iff_iff, List.all_eq_true, List.all_eq_true]
    constructor
    · intro h x mx
      exact h x (by
        rw [List.map_append, List.map_append]
        exact List.mem_append_left _ (List.mem_append_left _ mx))
    · intro h x mx
      obtain ⟨c, mc, rfl⟩ := List.mem_map.mp mx
      refine h _ (List.mem_map_of_mem ?_)
      rcases List.mem_append.mp mc with mc | mc
      · rcases List.mem_append.mp mc with mc | mc
        · exact mc
        · exact hy.subset mc
      · exact hz.subset mc
  unfold dueL
  rw [e]
end MuX

namespace MuGen
open PySem PySem.Spec PyProof.Rows L2
/-- a table at the law's end -/
def TabX (H : Hp) (P : Addr) : Prop := H P = some (TabO P) ∨ ∃ qs : Array Value, H P = some (.tbl qs)
/-- a law's call, the tables at ts tracked without their content -/
theorem law_go2 {T0 : Addr → HO} (h0 : ∀ b, T0 b = TabO b ∨ T0 b = .tbl #[]) {P : Program} {w : World} {K : PySem.W.Frag} {mg mb : Str → Option Value} {CX : CXT} {k : Nat} {fa a : Addr}
    {cs : List (Addr × Addr)} {fd : FuncData} {x : Str} {sp : Sp} {s1 : Shared} {vs : List Value} {ns : List Int}
    (KX : K.In s1.heap) (hg : s1.heap.Ns mainGlobals mg) (hb : s1.heap.Ns builtinsNs mb)
    (hbb : ∀ x : Str, x ≠ "__name__" → mb x = bootBuiltins x) (hlim : s1.heap.NoLimit) (hgens : s1.gens = #[])
    (hT : ∀ p ∈ cs, s1.heap.get? p.2 = some { cls := .none, data := .fields #[] })
    (nT : ∀ p ∈ cs, K.lookup p.2 = none) (C : ∀ p ∈ cs, PySem.W.CodeHd s1.heap p.1 p.2)
    (hbm : ∃ (bm : Addr) (ob : Obj), mg "__builtins__" = some (.ref bm) ∧ bm ≠ builtinsNs ∧ s1.heap.get? bm = some ob ∧
      ob.cls = .type "module" ∧ ob.dict = some builtinsNs ∧ ob.data = .plain)
    (ha : s1.heap.get? a = some { cls := .type "list", data := .seq vs.toArray }) (hi : IntsAre vs ns)
    (hl : ns.length ≤ sizeLine) (hr : Room k callerA)
    (F : ∀ base : Heap, K.In base → base.Ns mainGlobals mg → (∀ p ∈ cs, GxR.TabB base mg p.1 p.2) → FnOk P w K mg base CX k fa fd [x] sp)
    (hbind : ∀ (s : Shared) (u : Value), BindsTo s fd ⟨[u], []⟩ [(x, u)])
    (hsp : ∀ H : Hp, (∀ p ∈ cs, H p.2 = some (T0 p.2)) → SqL K H a (ns.map V.int) →
      sp [.ref a] H (fun v H' => v = .bl true ∧ ∀ p ∈ cs, TabX H' p.2) fun _ _ _ => False)
    (hCX : ∀ H e s', CX [] H s1 (fun _ _ _ => False) e s' → False) :
    codeAny (model P w) callerA (.call (.ref fa) ⟨[.ref a], []⟩)
      (fun r s' => r = .ok (.ret (.bool true)) ∧ OldK s1.heap s'.heap ∧ s'.os = s1.os ∧ AllBare s'.gens) s1 := by
  have rv := vals_ints hi
  have len := hi.length
  let ts := cs.map (·.2)
  have at_ts : ∀ b ∈ ts, s1.heap.get? b = some { cls := .none, data := .fields #[] } := fun b m => by
    obtain ⟨p, hp, rfl⟩ := List.mem_map.mp m
    exact hT p hp
  have in_ts : ∀ p ∈ cs, p.2 ∈ ts := fun p hp => List.mem_map.mpr ⟨p, hp, rfl⟩
  have a_ts : a ∉ ts := fun m => by
    have q := ha.symm.trans (at_ts a m)
    exact nomatch congrArg Obj.data (Option.some.inj q)
  have main : ∀ H : Hp, (∀ p ∈ cs, H p.2 = some (T0 p.2)) → (∀ b, H b = none ∨ b ∈ ts ∨ ∃ o xs, H b = some (.frz o (.lst xs))) →
      SqL K H a (ns.map V.int) → HOk P w H s1.heap → (∀ b, H b ≠ none → b = a ∨ b ∈ ts) → (H a ≠ none → K.lookup a = none) →
      codeAny (model P w) callerA (.call (.ref fa) ⟨[.ref a], []⟩)
        (fun r s' => r = .ok (.ret (.bool true)) ∧ OldK s1.heap s'.heap ∧ s'.os = s1.os ∧ AllBare s'.gens) s1 := by
    intro H hH hO hS hok hA hK
    -- what is neither the list nor a table is not tracked
    have off : ∀ {b : Addr} {o : Obj}, s1.heap.get? b = some o → (∀ us n, o.data ≠ .seq us n) → o.data ≠ .fields #[] → H b = none := by
      intro b o e n1 n2
      cases q : H b with
      | none => rfl
      | some u =>
        exfalso
        rcases hA b (fun z => nomatch q.symm.trans z) with y | y
        · rw [y, ha] at e
          obtain rfl := Option.some.inj e
          exact n1 _ _ rfl
        · rw [at_ts b y] at e
          obtain rfl := Option.some.inj e
          exact n2 rfl
    have offD : ∀ {b : Addr} {o : Obj} {es : Array DictEntry} {ep : Nat}, s1.heap.get? b = some o → o.data = .dict es ep → H b = none := by
      intro b o es ep e d
      refine off e (fun us n z => ?_) fun z => ?_
      · exact nomatch d.symm.trans z
      · exact nomatch d.symm.trans z
    have ns_ : ∀ {b : Addr} {m : Str → Option Value}, s1.heap.Ns b m → (hidT s1.heap H).Ns b m := by
      intro b m ⟨o, es, ep, e, d, r⟩
      exact ⟨o, es, ep, hidT_get e (offD e d), d, r⟩
    have KB : K.In (hidT s1.heap H) := by
      intro b o e
      refine hidT_get (KX b o e) ?_
      cases q : H b with
      | none => rfl
      | some u =>
        exfalso
        have nz : H b ≠ none := fun z => nomatch q.symm.trans z
        rcases hA b nz with y | y
        · rw [y] at e nz
          rw [hK nz] at e
          exact nomatch e
        · obtain ⟨p, hp, rfl⟩ := List.mem_map.mp y
          rw [nT p hp] at e
          exact nomatch e
    have MB : L2.Mod K mg (hidT s1.heap H) := by
      refine ⟨KB, ns_ hg, ⟨mb, ns_ hb, hbb⟩, ?_⟩
      have ⟨mc, y1, y2⟩ := hlim
      exact ⟨mc, ns_ y1, y2⟩
    have TB : ∀ p ∈ cs, GxR.TabB (hidT s1.heap H) mg p.1 p.2 := by
      intro p hp
      have tp := hT p hp
      refine ⟨?_, ?_, fun z => ?_⟩
      · have ⟨o, us, file, tf, flags, tg, inF, text, tt, y, r1, r2, r3, r⟩ := C p hp
        refine ⟨o, us, file, tf, flags, tg, inF, text, tt, hidT_get y (off y (fun vs n z => ?_) fun z => ?_), r1, r2, r3, r⟩
        · exact nomatch r2.symm.trans z
        · rw [r2] at z
          cases z
          simp at r3
      · have ⟨bm, ob, b1, b2, b3, b4, b5, b6⟩ := hbm
        have n1 : bm ≠ mainGlobals := fun q => by
          have ⟨o, es, ep, e, d, _⟩ := hg
          rw [← q, b3] at e
          obtain rfl := Option.some.inj e
          exact nomatch b6.symm.trans d
        have n2 : bm ≠ p.2 := fun q => by
          rw [q, tp] at b3
          obtain rfl := Option.some.inj b3
          exact nomatch b6
        refine ⟨bm, ob, b1, b2, n1, n2, hidT_get b3 (off b3 (fun vs n z => ?_) fun z => ?_), b4, b5, b6⟩
        · exact nomatch b6.symm.trans z
        · exact nomatch b6.symm.trans z
      · have ⟨o, es, ep, e, d, _⟩ := hg
        rw [z, tp] at e
        obtain rfl := Option.some.inj e
        exact nomatch d
    have e0 : Env0 P w K mg (hidT s1.heap H) callerA [] s1 H :=
      ⟨rfl, MB, fun b o e => of_hidT e, Nat.le_of_eq (hidT_size _ _), trivial, (fun b m => nomatch m), hok, AllBare.of_eq hgens⟩
    refine codeAny_mono ((F _ KB (ns_ hg) TB).run callerA [] s1 H ⟨[.ref a], []⟩ [.ref a] [.ref a] _ _ hr e0 (hbind s1 (.ref a)) (.cons rfl .nil) (hsp H hH hS)) fun r s' h => ?_
    match r, h with
    | .error e, h => exact (hCX H e s' h).elim
    | .ok (.ret u), h =>
      obtain ⟨v, H', os, bare, un, hok', r', rfl, q⟩ := h
      obtain rfl : u = Value.bool true := r'
      have same : ∀ b o, b ∉ ts → s1.heap.get? b = some o → s'.heap.get? b = some o := by
        intro b o nb e
        rcases hO b with z | z | ⟨ob, xs, z⟩
        · exact un.keep b o e z (fun m => nomatch m) (fun m => nomatch m)
        · exact absurd z nb
        · have y1 := (hok b _ z).1
          have y2 := (hok' b _ (un.frzs b ob _ z)).1
          rw [e] at y1
          obtain rfl := Option.some.inj y1
          exact y2
      have grown : ∀ p ∈ cs, ∃ qs : Array Value, s'.heap.get? p.2 = some { cls := .none, data := .fields qs } := by
        intro p hp
        rcases q p hp with y | ⟨qs, y⟩
        · obtain ⟨⟨qs, y, _⟩, _⟩ := hok' p.2 _ y
          exact ⟨qs, y⟩
        · exact ⟨qs, hok' p.2 _ y⟩
      refine ⟨rfl, ⟨fun b o e => ?_, fun b o e => ?_⟩, os, bare⟩
      · rcases Decidable.em (b ∈ ts) with m | m
        · obtain ⟨p, hp, rfl⟩ := List.mem_map.mp m
          obtain ⟨qs, y⟩ := grown p hp
          rw [hT p hp] at e
          obtain rfl := Option.some.inj e
          exact .inr (.inl ⟨((C p hp).tab (hT p hp)).isCodeTable, rfl, #[], qs, rfl, by rw [Array.empty_append]; exact y⟩)
        · exact .inl (same b o m e)
      · rcases Decidable.em (b ∈ ts) with m | m
        · obtain ⟨p, hp, rfl⟩ := List.mem_map.mp m
          obtain ⟨qs, y⟩ := grown p hp
          exact ⟨_, y⟩
        · exact ⟨o, same b o m e⟩
    | .ok .next, h => exact False.elim h
    | .ok .brk, h => exact False.elim h
    | .ok .cont, h => exact False.elim h
  -- the abstract heap at the entry
  have tabOk : ∀ (H : Hp) (b : Addr), b ∈ ts → ObjOk P w H s1.heap b (T0 b) := fun H b m => by
    have y := at_ts b m
    rcases h0 b with z | z <;> rw [z]
    · exact ⟨⟨#[], y, trivial⟩, ⟨_, y⟩, fun h1 h2 ⟨qs, a1, a2⟩ a3 => ⟨qs, a3 _ a1, a2⟩⟩
    · exact y
  cases look : K.lookup a with
  | some o =>
    have e := KX a o look
    rw [ha] at e
    obtain rfl := Option.some.inj e
    refine main (fun b => if b ∈ ts then some (T0 b) else none) (fun p hp => if_pos (in_ts p hp)) (fun b => ?_)
      (.inr ⟨_, vs.toArray, _, look, rfl, rfl, rfl, by rw [List.size_toArray, len]; exact hl, by simpa using rv⟩) (fun b u z => ?_) (fun b z => ?_) fun z => absurd (if_neg a_ts) z
    · rcases Decidable.em (b ∈ ts) with m | m
      · exact .inr (.inl m)
      · exact .inl (if_neg m)
    · rcases Decidable.em (b ∈ ts) with m | m
      · obtain rfl := Option.some.inj ((if_pos m).symm.trans z)
        exact tabOk _ b m
      · exact nomatch (if_neg m).symm.trans z
    · rcases Decidable.em (b ∈ ts) with m | m
      · exact .inr m
      · exact absurd (if_neg m) z
  | none =>
    refine main (fun b => if b = a then some (.frz { cls := .type "list", data := .seq vs.toArray } (.lst (ns.map V.int))) else if b ∈ ts then some (T0 b) else none)
      (fun p hp => (if_neg (fun z : p.2 = a => a_ts (z ▸ in_ts p hp))).trans (if_pos (in_ts p hp))) (fun b => ?_)
      (.inl (.inr ⟨_, if_pos rfl⟩)) (fun b u z => ?_) (fun b z => ?_) fun _ => look
    · rcases Decidable.em (b = a) with m | m
      · exact .inr (.inr ⟨_, _, if_pos m⟩)
      · rcases Decidable.em (b ∈ ts) with m2 | m2
        · exact .inr (.inl m2)
        · exact .inl ((if_neg m).trans (if_neg m2))
    · rcases Decidable.em (b = a) with m | m
      · obtain rfl := Option.some.inj ((if_pos m).symm.trans z)
        subst m
        exact ⟨ha, by rw [List.length_map]; exact hl, vs, _, rv, ha⟩
      · have z1 := (if_neg m).symm.trans z
        rcases Decidable.em (b ∈ ts) with m2 | m2
        · obtain rfl := Option.some.inj ((if_pos m2).symm.trans z1)
          exact tabOk _ b m2
        · exact nomatch (if_neg m2).symm.trans z1
    · rcases Decidable.em (b = a) with m | m
      · exact .inl m
      · rcases Decidable.em (b ∈ ts) with m2 | m2
        · exact .inr m2
        · exact absurd ((if_neg m).trans (if_neg m2)) z
/-- what is told of a law at the head's heap, with tables -/
def LawTab2 (l : PySem.W.OpenLaw) (w : World) (K : PySem.W.Frag) (CX : CXT) (k n : Nat) (x : Str) (mg : Str → Option Value) (fa : Addr) (h : Heap) : Prop :=
  ∃ (fd : FuncData) (cs : List (Addr × Addr)) (sp : Sp) (T0 : Addr → HO), (∀ b, T0 b = TabO b ∨ T0 b = .tbl #[]) ∧
    (∀ p ∈ cs, h.get? p.2 = some { cls := .none, data := .fields #[] } ∧ K.lookup p.2 = none ∧ PySem.W.CodeHd h p.1 p.2) ∧
    (∀ (s : Shared) (u : Value), BindsTo s fd ⟨[u], []⟩ [(x, u)]) ∧
    (∀ (H : Hp) (a : Addr) (ns : List Int), ns.length ≤ n → (∀ p ∈ cs, H p.2 = some (T0 p.2)) → SqL K H a (ns.map V.int) →
      sp [.ref a] H (fun v H' => v = .bl true ∧ ∀ p ∈ cs, TabX H' p.2) fun _ _ _ => False) ∧
    ∀ base : Heap, K.In base → base.Ns mainGlobals mg → (∀ p ∈ cs, GxR.TabB base mg p.1 p.2) → FnOk l.prog w K mg base CX k fa fd [x] sp
/-- the end of a law row, the tables of the defs tl tracked -/
theorem walk_tabs2 {l : PySem.W.OpenLaw} {n k : Nat} {q : Program} {loose : List Str} {XP : (Str → Option Value) → Heap → Prop} {YP : World → Heap → Prop}
    {d : DefRec} {K : Params → PySem.W.Frag} {CX : World → CXT} {x : Str} (tl : List Str)
    (hn : l.most = some n) (hn2 : n ≤ sizeLine) (hdf : d.params.defaults = []) (hr : Room k callerA)
    (hrec : (tl.all fun y => (recsOf q).any fun e => e.name == y) = true) (hY : ∀ (w : World) (h : Heap), YP w h → (K w.params).In h)
    (F : ∀ (w : World) (mg : Str → Option Value) (fa : Addr) (h : Heap), (K w.params).In h → h.Ns mainGlobals mg → mg d.name = some (.ref fa) →
      (∀ (y : Str) (c P : Addr), y ∈ tl → PySem.W.tabIn (K w.params) y = some (c, P) →
        PySem.W.CodeHd h c P ∧ h.get? P = some { cls := .none, data := .fields #[] }) →
      LawTab2 l w (K w.params) (CX w) k n x mg fa h)
    (hCX : ∀ (w : World) (H : Hp) (s : Shared) (e : Value) (s' : Shared), CX w [] H s (fun _ _ _ => False) e s' → False) :
    PySem.W.WalkO q loose XP YP l.row.toRowW d [] (fun f vs => PySem.call f vs) := by
  refine Att.attach_call hn hdf fun w s0 s1 mg mb fa o pm cd doc a vs ns G Y ho hd hcd hmg hobj hints hlen hg => ?_
  have KX := hY w _ Y
  obtain ⟨fd, cs, sp, T0, hT0, hp, hb, hsp, hF⟩ := F w mg fa _ KX G.T.g hmg fun y c P hy ht => by
    have an := List.all_eq_true.mp hrec y hy
    cases found : (recsOf q).find? (fun e => e.name == y) with
    | none =>
      obtain ⟨e, he, z⟩ := List.any_eq_true.mp an
      exact absurd z (List.find?_eq_none.mp found e he)
    | some e => exact PySem.W.tab_of G.T KX found ht
  exact law_go2 hT0 KX G.T.g G.T.b G.T.builtins G.T.nolimit hg (fun p m => (hp p m).1) (fun p m => (hp p m).2.1) (fun p m => (hp p m).2.2) G.T.bmain
    hobj hints (Nat.le_trans hlen hn2) hr hF hb (fun H hH hS => hsp H a ns hlen hH hS) fun H e s' => hCX w H s1 e s'
end MuGen

namespace MuLam
open PySem PySem.Spec PyProof.Rows L2 Evl MuK
open PySem.W (EachIs AllAlike Sortable dataLe KeyPure KeepsBut KeyedOut)
/-- v is the text u -/
def IsS (v : Value) (u : Str) : Prop := ∃ t, v = .str u t
theorem each_strs : ∀ {vs : List Value} {ks : List Str}, EachIs IsS vs ks → Vals (ks.map V.str) vs
  | _, _, .nil => .nil
  | _, _, .cons h t => .cons h (each_strs t)
theorem each_get {α β : Type} {R : α → β → Prop} : ∀ {as : List α} {bs : List β}, as.length = bs.length → (∀ (i : Nat) a b, as[i]? = some a → bs[i]? = some b → R a b) → EachIs R as bs
  | [], [], _, _ => .nil
  | [], _ :: _, h, _ => nomatch h
  | _ :: _, [], h, _ => nomatch h
  | a :: as, b :: bs, h, k => .cons (k 0 a b rfl rfl) (each_get (Nat.succ.inj h) fun i x y hx hy => k (i + 1) x y hx hy)
section
variable {X : Cx} {pins : List (Addr × Obj)} {σ : L2.St} {H : Hp} {s : Shared}
/-- sorted(d, key=f), d with text keys, each call f(u) gives the key k u and keeps what was there -/
theorem call_sortedDK {d f : Addr} {kvs : List (Key × V)} {ks : List Str} {Q : VK} (I : Inv X pins σ H s) (hcalm : X.calm = true) (hd : Rd H d (.dK kvs)) (hks : kvs.map (·.1) = ks.map Sum.inr) (hz : ks.length ≤ 4000) (k : Str → PyData)
    (hal : AllAlike (ks.map k)) (hsk : Sortable (ks.map k)) (hu : ∀ u ∈ ks, X.A.units + 2 + (k u).depth < cLine)
    (turn : ∀ (u : Str) (t : Tok), u ∈ ks → ∀ (h : Heap) (tk : Nat), (∀ b o, s.heap.get? b = some o → h.get? b = some o) → wpAny (model X.prog X.w) X.A.in1.in1 (call (.ref f) [.str u t]) (KeyPure (k u) { s with heap := h, toks := tk }) (fun _ _ => False) { s with heap := h, toks := tk })
    (q : ∀ p, H p = none → Q (.ref p) (upd H p (.lst ((ks.mergeSort (dataLe false k)).map V.str)))) :
    wpAny (model X.prog X.w) X.A (call (.builtin "sorted") [.ref d] [(Str.ofString "key", .ref f)]) (EP X pins σ Q) X.xe s := by
  obtain ⟨z, lo, vs, rel, dd⟩ := dk_rd I.hok hd
  obtain ⟨ep, hat⟩ := dd.dictAt
  have hkeys : vs.map (·.1) = ks.map Sum.inr := rel.keys.symm.trans hks
  have hl : vs.length = ks.length := by
    have e := congrArg List.length hkeys
    rw [List.length_map, List.length_map] at e
    exact e
  have h16 : vs.length ≤ sizeLine := by rw [hl, sizeLine_eq]; omega
  refine call_function_entry_kw kind_sorted plain_sorted entry_sorted (ksk_s1 _ _) ?_
  unfold Builtin.«sorted»
  refine wpAny_bind (m := checkCount "sorted" 1 1 _) (wpAny_pure ?_)
  refine wpAny_bind (PySem.W.kdu_collect (A := X.A.in1) (PySem.W.kdl_dict (knd := mixKind X.prog X.w) (kvs := vs) (ep := ep) lo) (I.ok.hd hcalm) hat h16 fun h' tk acc hk hacc => ?_)
  have halen : acc.toList.length = ks.length := by rw [Array.length_toList, hacc.1, hl]
  have hS : EachIs IsS acc.toList ks := each_get halen fun j v u hv hu' => by
    obtain ⟨k', x, e1, e2⟩ := hacc.2 j v (by rw [← Array.getElem?_toList]; exact hv)
    have e3 : (vs.map (·.1))[j]? = some k' := by rw [List.getElem?_map, e1]; rfl
    rw [hkeys, List.getElem?_map, hu'] at e3
    have e5 : Sum.inr u = k' := Option.some.inj e3
    subst e5
    rcases keyIs_shape (show keyIs (Sum.inr u) v = true from e2) with ⟨i, t, ek, ev⟩ | ⟨z, t, ek, ev⟩
    · cases ek
    · cases ek
      exact ⟨t, ev⟩
  have I1 : Inv X pins σ H { s with heap := h', toks := tk } := I.kept hk
  refine wpAny_bind (wpAny_newList ?_ (by rw [halen, sizeLine_eq]; omega))
  have hoL : (h'.push (seqObj "list" acc.toList.toArray 0)).get? h'.objs.size = some (seqObj "list" acc.toList.toArray 0) := Heap.get?_push_size _ rfl
  show wpAny _ _ _ _ _ { s with heap := h'.push (seqObj "list" acc.toList.toArray 0), toks := tk }
  refine wpAny_bind (wpAny_holding (wpAny_call_entry_kw slot_list_sort ⟨_, hoL, rfl⟩ entry_list_sort ?body (ksk_l1 _ _)))
  case body =>
    show wpAny (model X.prog X.w) X.A.in1.in1 (Builtin.«list.sort» ⟨[.ref h'.objs.size], [(Str.ofString "key", .ref f)]⟩) _ _ _
    rw [ksk_t1]
    have old : ∀ b o, s.heap.get? b = some o → b ≠ h'.objs.size ∧ (h'.push (seqObj "list" acc.toList.toArray 0)).get? b = some o := fun b o e => ⟨Nat.ne_of_lt (Heap.lt_size (hk b o e)), Heap.get?_push_of_some _ (hk b o e)⟩
    refine PySem.W.keyH_tree (kz := ks.map k) (s := { s with heap := h'.push (seqObj "list" acc.toList.toArray 0), toks := tk }) hoL (by rw [List.length_map]; exact halen.symm) (by rw [halen, sizeLine_eq]; omega) hal hsk (fun x mx => ?_)
      (PySem.W.keyH_turns (s := { s with heap := h'.push (seqObj "list" acc.toList.toArray 0), toks := tk }) hS fun v u hR mu h2 tk2 kp => ?_) fun h2 tk2 out c kp hD ko => ⟨_, rfl, ?_⟩
    · obtain ⟨u, mu, rfl⟩ := List.mem_map.mp mx
      exact hu u mu
    · obtain ⟨t, rfl⟩ := hR
      exact turn u t mu h2 tk2 fun b o e => kp b o (old b o e).1 (old b o e).2
    · have eo := PySem.W.keyedOut_each k ko hS
      have hlen : ((ks.mergeSort (dataLe false k)).map V.str).length ≤ sizeLine := by
        rw [List.length_map, List.length_mergeSort, sizeLine_eq]
        omega
      have old1 : ∀ b o, h'.get? b = some o → h2.get? b = some o := fun b o e => kp b o (Nat.ne_of_lt (Heap.lt_size e)) (Heap.get?_push_of_some _ e)
      exact wpAny_pure ⟨_, rfl, .ref h'.objs.size, _, I1.laid (a := h'.objs.size) (o := .lst ((ks.mergeSort (dataLe false k)).map V.str)) (h' := h2) (t' := tk2) old1 (Nat.le_refl _) ⟨hlen, out, c, each_strs eo, hD⟩, rfl, q _ (I1.hok.fresh (Nat.le_refl _))⟩
/-- a name that can be seen stands for what its slot holds -/
theorem name_at {i : Nat} {x : Str} {v : V} (I : Inv X pins σ H s) (hN : X.N[i]? = some x) (hv : Vis X.env.scope x) (e : σ[i]? = some (some v)) : ∃ u m, RelV v u ∧ s.heap.Ns X.env.locals m ∧ Look X.env s.heap m x u := by
  obtain ⟨m, hn, hl⟩ := I.loc
  obtain ⟨u, r, l⟩ := hl i x v hN e hv
  exact ⟨u, m, r, hn, l⟩
/-- the captured name's cell holds the thing -/
theorem cell_at {i : Nat} {x : Str} {d : Addr} (I : Inv X pins σ H s) (hN : X.N[i]? = some x) (hv : X.env.scope.names.lookup x = some .cell) (e : σ[i]? = some (some (.ref d))) : ∃ c, X.env.cells.lookup x = some c ∧ s.heap.IsCell c (some (.ref d)) := by
  obtain ⟨u, m, r, _, l⟩ := name_at I hN (.inr (.inl hv)) e
  obtain rfl : u = Value.ref d := r
  rcases l with ⟨hk, _⟩ | ⟨_, c, hc, hcell⟩
  · rw [show X.env.scope.names.lookup x = some .local from hk] at hv
    exact nomatch hv
  · exact ⟨c, hc, hcell⟩
/-- the scope of lambda a: (m[a], a) -/
structure Scp (scope : Scope) (m a : Str) : Prop where
  kind : scope.kind = .function
  co : scope.isCoroutine = false
  gen : scope.isGenerator = false
  nc : ∀ y ∈ scope.names, y.2 ≠ .cell
  par : scope.names.lookup a = some .local
  fre : scope.names.lookup m = some .free
theorem lam_turn {k i : Nat} {f c' d : Addr} {q m a : Str} {params : Arguments} {scope : Scope} {clos : List (Str × Addr)} {pm ctv : Value} {kvs : List (Key × V)} {u : Str} {n : Int} {x1 : Nat} {p1 p2 p3 p4 p5 : Pos} (I : Inv X pins σ H s) (hr : Room k X.A)
    (hf : s.heap.get? f = some (PySem.W.kla_obj "<lambda>" q params (.Tuple [.Subscript (.Name m p1) (.Name a p2) p3, .Name a p4] x1 p5) scope clos pm c' ctv)) (hco : H c' = some (LamX.CodeO c' q)) (S : Scp scope m a) (hclo : ∀ c, X.env.cells.lookup m = some c → clos.lookup m = some c)
    (hbind : ∀ v, bindArgs (PySem.W.kla_fn "<lambda>" q params (.Tuple [.Subscript (.Name m p1) (.Name a p2) p3, .Name a p4] x1 p5) scope clos pm (.ref c') ctv) ⟨[v], []⟩ = pure [(a, v)])
    (hN : X.N[i]? = some m) (hv : X.env.scope.names.lookup m = some .cell) (hσ : σ[i]? = some (some (.ref d))) (hd : H d = some (.dK kvs)) (hval : valV kvs (.inr u) = some (.int n))
    (da : (a == ("__debug__" : Str)) = false) (dm : (m == ("__debug__" : Str)) = false) (cm : (m == ("__classdict__" : Str)) = false)
    (t : Tok) (h : Heap) (tk : Nat) (hk : ∀ b o, s.heap.get? b = some o → h.get? b = some o) :
    wpAny (model X.prog X.w) X.A.in1.in1 (call (.ref f) [.str u t]) (KeyPure (.tuple [.int n, .str u]) { s with heap := h, toks := tk }) (fun _ _ => False) { s with heap := h, toks := tk } := by
  have I1 : Inv X pins σ H { s with heap := h, toks := tk } := I.kept hk
  obtain ⟨c, hc, hcell⟩ := cell_at I1 hN hv hσ
  obtain ⟨⟨oc, vs, t', hoc, hdc, hvc⟩, _, _⟩ := I1.hok c' _ hco
  have room : X.A.depth < recursionLimit := by
    have := hr.dp
    omega
  refine wpAny_call ?_
  refine PySem.W.kla_callFunE (A := X.A.in1.in1) room (hk _ _ hf) rfl S.co S.gen rfl ⟨c', oc, vs, t', rfl, hoc, hdc, hvc⟩ ?_
  rw [hbind]
  refine wpAny_pure (wpAny_newFunctionEnv S.nc (fun y hy => ?_) (fun h₁ hns hsb => ⟨I1.nolimit.fresh _ hsb, ?_⟩) S.kind)
  · obtain rfl := List.mem_singleton.mp hy
    exact S.par
  show codeAny _ _ (.expr _ (PySem.W.envX q scope h.objs.size f (.ref c') clos)) _ _
  have kp : ∀ b o, h.get? b = some o → h₁.get? b = some o := fun b o e => hsb.extBut b o (Nat.ne_of_lt (Heap.lt_size e)) (Heap.get?_push_of_some _ e)
  have hcell1 : h₁.IsCell c (some (.ref d)) := by
    obtain ⟨o, ho, hd⟩ := hcell
    exact ⟨o, kp _ _ ho, hd⟩
  have I2 : HOk X.prog X.w H h₁ := I1.hok.kept kp
  obtain ⟨_, _, xs, rel, dd⟩ := dk_rd I2 (.inl hd)
  obtain ⟨w', hw, rw'⟩ := RelO.some_of (v := .int n) (o := valueAt xs (.inr u)) (by rw [← hval]; exact rel.val _)
  obtain ⟨t2, rfl⟩ := rw'
  have nameA : ∀ {pos : Pos} {A : Around} {E : Value → Shared → Prop} {Q : Value → Shared → Prop} {s2 : Shared}, s2.heap = h₁ → Q (.str u t) s2 → wpAny (model X.prog X.w) A (eval (.Name a pos) (PySem.W.envX q scope h.objs.size f (.ref c') clos)) Q E s2 := fun {pos A E Q s2} e q2 =>
    wpAny_Name (wpAny_loadName_local S.kind S.par (e ▸ hns) (by simp) q2) da
  have isS : RelV (V.str u) (.str u t) := ⟨t, rfl⟩
  refine PySem.W.kla_codeExpr (wpAny_Tuple_spliced (PySem.Calls.spliced_cons (subD_of PySem.F.slot_dict_getitem.lookup (fun _ _ => rfl) (wpAny_Name (wpAny_loadName_free S.kind S.fre (hclo c hc) hcell1 (nameA rfl ⟨dd.mapOf.typeIs, wpAny_getItem_of (kV_is (k := .inr u) isS) dd.mapOf hw ?_⟩) cm) dm))))
  refine PySem.Calls.spliced_cons (nameA rfl (PySem.Calls.spliced_nil ⟨by show 2 ≤ sizeLine; decide, ?_⟩))
  exact ⟨_, _, rfl, fun b o e => Heap.get?_push_of_some _ (kp b o e), .tuple (Heap.get?_push_size _ rfl) rfl rfl (.cons (.int _ _) (.cons (.str _ _) .nil))⟩
/-- sorted(m, key=lambda a: (m[a], a)); P: the table of this def's code objects, q: the lambda's name -/
def keyD (kvs : List (Key × V)) (u : Str) : PyData := .tuple [.int (match valV kvs (.inr u) with | some (.int n) => n | _ => 0), .str u]
def tSortLam (P : Addr) (q : Str) (i : Nat) : TE := fun σ H Q => ∃ (d : Addr) (kvs : List (Key × V)) (ks : List Str), σ[i]? = some (some (.ref d)) ∧ H d = some (.dK kvs) ∧ kvs.map (·.1) = ks.map Sum.inr ∧ ks.Nodup ∧ ks.length ≤ 4000 ∧ IntD kvs ∧ LamX.TabS H P q ∧
  ∀ H1 p, LamX.ExtN H H1 → LamX.TabS H1 P q → H1 p = none → Q (.ref p) (upd H1 p (.lst ((ks.mergeSort (dataLe false (keyD kvs))).map V.str)))
theorem keyD_alike (kvs : List (Key × V)) (ks : List Str) : AllAlike (ks.map (keyD kvs)) := fun d hd d' hd' => by
  obtain ⟨u, _, rfl⟩ := List.mem_map.mp hd
  obtain ⟨v, _, rfl⟩ := List.mem_map.mp hd'
  rfl
theorem keyD_sortable (kvs : List (Key × V)) (ks : List Str) : Sortable (ks.map (keyD kvs)) := .inl fun d hd => by
  obtain ⟨u, _, rfl⟩ := List.mem_map.mp hd
  exact ⟨_, _, rfl⟩
theorem val_num {kvs : List (Key × V)} {ks : List Str} (hks : kvs.map (·.1) = ks.map Sum.inr) (hint : IntD kvs) {u : Str} (mu : u ∈ ks) : ∃ n, valV kvs (.inr u) = some (.int n) := by
  have m : (Sum.inr u : Key) ∈ kvs.map (·.1) := by
    rw [hks]
    exact List.mem_map_of_mem mu
  obtain ⟨e, me, he⟩ := List.mem_map.mp m
  unfold valV
  cases h : kvs.find? fun kv => decide (kv.1 = Sum.inr u) with
  | none => exact absurd (decide_eq_true he) (List.find?_eq_none.mp h e me)
  | some y =>
    obtain ⟨n, hn⟩ := hint y (List.mem_of_find?_eq_some h)
    exact ⟨n, congrArg some hn⟩
theorem pe_sortedLam {i k : Nat} {c P : Addr} {m a : Str} {params : Arguments} {scope : Scope} {x1 : Nat} {pp p0 p1 p2 p3 p4 p5 lpos kpos pos : Pos} (hr : Room k X.A) (TB : LamX.TabB X.base X.mg c P) (hcode : X.env.code = .ref c) (hcalm : X.calm = true)
    (hg : Gl X "sorted") (hm : X.mg "sorted" = none) (hN : X.N[i]? = some m) (hv : X.env.scope.names.lookup m = some .cell) (S : Scp scope m a) (hfr : ∀ y ∈ scope.names, y.2 = .free → y.1 = m)
    (hclo : ∀ (cells : List (Str × Addr)) c, cells.lookup m = some c → (cloFrom cells scope.names []).lookup m = some c) (hdef : ∀ env, defaultsOf params env = ([], []))
    (hbind : ∀ (q : Str) (clos : List (Str × Addr)) (pm : Value) (c' : Addr) (ctv v : Value), bindArgs (PySem.W.kla_fn "<lambda>" q params (.Tuple [.Subscript (.Name m p1) (.Name a p2) p3, .Name a p4] x1 p5) scope clos pm (.ref c') ctv) ⟨[v], []⟩ = pure [(a, v)])
    (da : (a == ("__debug__" : Str)) = false) (dm : (m == ("__debug__" : Str)) = false) (cm : (m == ("__classdict__" : Str)) = false) :
    PE X (.Call (.Name "sorted" pp) [.Name m p0] [⟨some "key", .Lambda params (.Tuple [.Subscript (.Name m p1) (.Name a p2) p3, .Name a p4] x1 p5) scope lpos, kpos⟩] pos) (tSortLam P (X.env.qual ++ "<lambda>") i) := by
  refine ⟨fun pins s σ H Q I h => ?_⟩
  obtain ⟨d, kvs, ks, hσ, hd, hks, hnd, hz, hint, hT, hQ⟩ := h
  refine wpAny_Call_Name_kw (ld_blt I hg hm (by rfl) ?_)
  have hvm : Vis X.env.scope m := .inr (.inl hv)
  refine callWith_kw (thn ((pa_cons (pe_var (pos := p0) hN hvm dm cm) pa_nil).run pos pins s σ H (fun vs H1 => vs = [.ref d] ∧ H1 = H) I ⟨.ref d, hσ, rfl, rfl⟩) fun us s1 ⟨vs, H1, I1, r1, ev, eH⟩ => ?_) (by rfl) (by rfl) (by rfl) (by rfl)
  subst ev
  rw [eH] at I1
  cases r1 with
  | cons ru rn =>
    cases rn
    cases ru
    have hfree : ∀ y ∈ scope.names, y.2 = .free → ∃ c, X.env.cells.lookup y.1 = some c := fun y hy e => by
      rw [hfr y hy e]
      obtain ⟨c1, h1, _⟩ := cell_at I hN hv hσ
      exact ⟨c1, h1⟩
    refine wpAny_evalAll_cons (wpAny_bind (LamX.lam_make2 (T := [(P, X.env.qual ++ "<lambda>")]) I1 TB hcode (List.mem_singleton.mpr rfl) (fun p hp _ => by rw [List.mem_singleton.mp hp]) (fun p hp => by
      rw [List.mem_singleton.mp hp]
      exact hT) (hdef _) hfree fun f c' pm ctv H2 s' I2 eN tT hf hfn _ hco => wpAny_bind (wpAny_standAt (wpAny_pure (wpAny_evalAll_nil ?_)))))
    show wpAny _ _ (call (.builtin "sorted") [.ref d] [(Str.ofString "key", .ref f)]) _ _ _
    have hd2 : H2 d = some (.dK kvs) := eN _ _ hd fun ps z => nomatch z
    refine call_sortedDK I2 hcalm (.inl hd2) hks hz (keyD kvs) (keyD_alike kvs ks) (keyD_sortable kvs ks) (fun u _ => ?_) (fun u t mu h tk hk => ?_) fun p hp => hQ H2 p eN (tT _ (List.mem_singleton.mpr rfl)) hp
    · have := hr.un
      show X.A.units + 2 + 1 < cLine
      omega
    · obtain ⟨n, hn⟩ := val_num hks hint mu
      have e : keyD kvs u = .tuple [.int n, .str u] := by
        unfold keyD
        rw [hn]
      rw [e]
      exact lam_turn I2 hr hf hco S (hclo _) (fun v => hbind _ _ _ _ _ v) hN hv hσ hd2 hn da dm cm t h tk hk
end
/-- what is captured: the one free name -/
theorem clo_all (cells : List (Str × Addr)) : ∀ (names : List (Str × NameKind)) (acc : List (Str × Addr)), cloFrom cells names acc = ((names.filter fun y => y.2 == .free).map fun y => (y.1, (cells.lookup y.1).getD 0)).reverse ++ acc
  | [], acc => rfl
  | (n, k) :: r, acc => by
    unfold cloFrom
    cases h : (k == NameKind.free) with
    | true => rw [if_pos rfl, clo_all cells r, List.filter_cons_of_pos (by exact h), List.map_cons, List.reverse_cons, List.append_assoc]; rfl
    | false => rw [if_neg Bool.false_ne_true, clo_all cells r, List.filter_cons_of_neg (by simpa using h)]
theorem clo_one {names : List (Str × NameKind)} {m : Str} (h : (names.filter fun y => y.2 == .free) = [(m, .free)]) (cells : List (Str × Addr)) (c : Addr) (e : cells.lookup m = some c) : (cloFrom cells names []).lookup m = some c := by
  rw [clo_all, h]
  simp [List.lookup, e]
/-- smaller numbers ahead, texts among equal ones -/
def numD (kvs : List (Key × V)) (u : Str) : Int := match valV kvs (.inr u) with | some (.int n) => n | _ => 0
theorem lt_is (x y : Int) (u v : Str) : PySem.W.dataLt (.tuple [.int x, .str u]) (.tuple [.int y, .str v]) = decide (x < y ∨ (x = y ∧ u.cps.toList < v.cps.toList)) := by
  rw [PySem.W.dataLt_pair (by simp [PySem.W.alike]) (by simp [PySem.W.alike]), PySem.W.dataLt_int, PySem.W.dataLt_str]
  simp only [PyData.eqv, beq_iff_eq]
  by_cases h1 : x = y <;> by_cases h2 : u = v <;> simp [h1, h2]
def leD (kvs : List (Key × V)) (u v : Str) : Prop := numD kvs u < numD kvs v ∨ (numD kvs u = numD kvs v ∧ u.cps.toList ≤ v.cps.toList)
theorem keyD_le (kvs : List (Key × V)) (u v : Str) : dataLe false (keyD kvs) u v = true ↔ leD kvs u v := by
  show (!PySem.W.dataLt (.tuple [.int (numD kvs v), .str v]) (.tuple [.int (numD kvs u), .str u])) = true ↔ _
  rw [lt_is, Bool.not_eq_true', decide_eq_false_iff_not]
  unfold leD
  rw [← List.not_lt]
  constructor
  · intro h
    rcases Int.lt_trichotomy (numD kvs u) (numD kvs v) with l | e | g
    · exact .inl l
    · exact .inr ⟨e, fun z => h (.inr ⟨e.symm, z⟩)⟩
    · exact absurd (.inl g) h
  · rintro (l | ⟨e, n⟩) (l2 | ⟨e2, n2⟩)
    · omega
    · omega
    · omega
    · exact n n2
theorem leD_anti {kvs : List (Key × V)} {u v : Str} (h : leD kvs u v) (k : leD kvs v u) : u = v := by
  rcases h with l | ⟨e, n⟩
  · rcases k with l2 | ⟨e2, _⟩ <;> omega
  · rcases k with l2 | ⟨e2, n2⟩
    · omega
    · have := List.le_antisymm n n2
      cases u
      cases v
      exact congrArg Str.mk (Array.ext' this)
/-- the one order of the texts -/
theorem sorted_is {kvs : List (Key × V)} {ks L : List Str} (hp : L.Perm ks) (hl : L.Pairwise (leD kvs)) : ks.mergeSort (dataLe false (keyD kvs)) = L := by
  have ps := List.pairwise_mergeSort (le := dataLe false (keyD kvs)) (fun a b c => (PySem.W.sortLe_total _ false _).trans a b c) (fun a b => by
    have := (PySem.W.sortLe_total (PyProof.Rows.listOrd PyProof.Rows.itemOrd) false fun b => PySem.W.keyToks (keyD kvs b)).total a b
    rw [Bool.or_eq_true]
    exact this) ks
  exact List.Perm.eq_of_pairwise (fun a b _ _ => leD_anti) (ps.imp fun h => (keyD_le kvs _ _).mp h) hl ((List.mergeSort_perm ks _).trans hp.symm)
theorem lt_cps : ∀ a b : List Nat, ltCps a b = decide (a < b)
  | [], [] => by simp [ltCps]
  | [], _ :: _ => by simp [ltCps]
  | _ :: _, [] => by simp [ltCps]
  | a :: r, b :: t => by
    rw [Bool.eq_iff_iff, decide_eq_true_eq, List.cons_lt_cons_iff]
    simp only [ltCps, Bool.or_eq_true, decide_eq_true_eq, Bool.and_eq_true, beq_iff_eq, lt_cps r t]
theorem leT_le {a b : Str} (h : leT a b) : a.cps.toList ≤ b.cps.toList := by
  have h : ltCps b.cps.toList a.cps.toList = false := h
  rw [lt_cps, decide_eq_false_iff_not] at h
  exact List.not_lt.mp h
theorem num_cnt (ws : List Str) (u : Str) : numD (MuBag.cntD ws) u = (ws.count u : Int) := by
  have h := MuBag.val_cnt ws u
  unfold numD
  cases e : valV (MuBag.cntD ws) (.inr u) with
  | none =>
    rw [e] at h
    exact V.int.inj h
  | some v =>
    rw [e] at h
    obtain rfl : v = .int (ws.count u : Int) := h
    rfl
/-- the texts of ws by how often they are there, then by their signs: each as often as it is, from 1 to n -/
def byRare (sw ws : List Str) (n : Nat) : List Str := (((List.range n).map fun m => sw.filter fun u => decide (ws.count u = m + 1))).flatten
theorem rare_is {sw ws : List Str} {n : Nat} (nd : sw.Nodup) (hm : ∀ u, u ∈ sw ↔ u ∈ ws) (hs : sw.Pairwise leT) (hn : ∀ u ∈ ws, ws.count u ≤ n) : (MuBag.firsts ws).mergeSort (dataLe false (keyD (MuBag.cntD ws))) = byRare sw ws n := by
  refine sorted_is ?_ ?_
  · refine (List.perm_ext_iff_of_nodup ?_ (MuBag.firsts_spec ws).1).mpr fun u => ?_
    · unfold byRare
      show List.Pairwise (fun a b => a ≠ b) _
      rw [List.pairwise_flatten]
      refine ⟨fun l hl => ?_, ?_⟩
      · obtain ⟨m, _, rfl⟩ := List.mem_map.mp hl
        exact nd.filter _
      · rw [List.pairwise_map]
        refine List.Pairwise.imp_of_mem (fun {a b} _ _ hab => ?_) (List.pairwise_lt_range (n := n))
        intro x hx y hy e
        subst e
        have h1 := of_decide_eq_true (List.mem_filter.mp hx).2
        have h2 := of_decide_eq_true (List.mem_filter.mp hy).2
        omega
    · rw [(MuBag.firsts_spec ws).2]
      unfold byRare
      rw [List.mem_flatten]
      constructor
      · rintro ⟨l, hl, hu⟩
        obtain ⟨m, _, rfl⟩ := List.mem_map.mp hl
        exact (hm u).mp (List.mem_filter.mp hu).1
      · intro hu
        have c1 := List.count_pos_iff.mpr hu
        have c2 := hn u hu
        exact ⟨_, List.mem_map.mpr ⟨ws.count u - 1, List.mem_range.mpr (by omega), rfl⟩, List.mem_filter.mpr ⟨(hm u).mpr hu, decide_eq_true (by omega)⟩⟩
  · unfold byRare
    rw [List.pairwise_flatten]
    refine ⟨fun l hl => ?_, ?_⟩
    · obtain ⟨m, _, rfl⟩ := List.mem_map.mp hl
      refine List.Pairwise.imp_of_mem (fun {a b} ha hb h => ?_) (hs.filter _)
      have h1 := of_decide_eq_true (List.mem_filter.mp ha).2
      have h2 := of_decide_eq_true (List.mem_filter.mp hb).2
      exact .inr ⟨by rw [num_cnt, num_cnt, h1, h2], leT_le h⟩
    · rw [List.pairwise_map]
      refine List.Pairwise.imp_of_mem (fun {a b} _ _ hab => ?_) (List.pairwise_lt_range (n := n))
      intro x hx y hy
      have h1 := of_decide_eq_true (List.mem_filter.mp hx).2
      have h2 := of_decide_eq_true (List.mem_filter.mp hy).2
      exact .inl (by rw [num_cnt, num_cnt, h1, h2]; omega)
end MuLam

namespace MuEqL
open PySem PySem.Spec PyProof.Rows L2 Evl MuK MuEq MeetsSeq MeetsSeq2 MeetsSeq3 PySem.SeqAt
/-! ### lists equal, whose items are -/
section
variable {P : Program} {w : World}
theorem eq_loop (l b : Addr) (xs ys : Array Value) (n m : Nat) (d e : Option Addr) (sx sy : Array (Option Value)) (hz : xs.size = ys.size) (k : Nat) :
    ∀ i : Nat, xs.size - i = k → MeetsIn P w (Builtin.«list.__eq__.loop» ⟨[.ref l, .ref b, rawInt i, rawInt 2], []⟩)
      (fun A R s => s.heap.get? l = some { cls := .type "list", dict := d, data := .seq xs n, slots := sx } ∧ s.heap.get? b = some { cls := .type "list", dict := e, data := .seq ys m, slots := sy } ∧
        (∀ j (h1 : j < xs.size) (h2 : j < ys.size), EqP P w A.in1 s xs[j] ys[j] true) ∧
        R (.ok (.ret (.bool true))) s) := by
  induction k with
  | zero =>
    intro i hk A R s h
    obtain ⟨hp, g, dr, tk, os⟩ := s; obtain ⟨hl, hb, he, h⟩ := h
    wp_walk using AutoSeq1.wpAny_loadPart' hl, AutoSeq1.wpAny_loadPart' hb
    have hi1 : xs[((i : Nat) : Int).toNat]? = none := by simp; omega
    have hi2 : ys[((i : Nat) : Int).toNat]? = none := by simp; omega
    rw [hi1, hi2]
    wp_walk using AutoSeq1.wpAny_loadPart' hl, AutoSeq1.wpAny_loadPart' hb
    show R (.ok (.ret (.bool (xs.size == ys.size)))) _
    rw [hz]
    simpa using h
  | succ k ih =>
    intro i hk A R s h
    obtain ⟨hp, g, dr, tk, os⟩ := s; obtain ⟨hl, hb, he, h⟩ := h
    wp_walk using AutoSeq1.wpAny_loadPart' hl, AutoSeq1.wpAny_loadPart' hb
    have hlt : i < xs.size := by omega
    have hlt2 : i < ys.size := by omega
    have hi1 : xs[((i : Nat) : Int).toNat]? = some xs[i] := by simp [hlt]
    have hi2 : ys[((i : Nat) : Int).toNat]? = some ys[i] := by simp [hlt2]
    have hc : ((i : Int) + 1) = ((i + 1 : Nat) : Int) := by push_cast; rfl
    rw [hi1, hi2]
    refine wpAny_bind (he i hlt hlt2 _ _ ?_)
    wp_walk
    rw [hc]
    exact ⟨plainId_quiet plain_eq_loop _, codeAny_builtin entry_eq_loop (by
      rw [Around.under_plainId plain_eq_loop _]
      exact ih (i + 1) (by omega) A R _ ⟨hl, hb, he, h⟩)⟩
theorem eq_lists (l b : Addr) (xs ys : Array Value) (n m : Nat) (d e : Option Addr) (sx sy : Array (Option Value)) (hz : xs.size = ys.size) :
    MeetsIn P w (Builtin.«list.__eq__» ⟨[.ref l, .ref b], []⟩)
      (fun A R s => s.heap.get? l = some { cls := .type "list", dict := d, data := .seq xs n, slots := sx } ∧ s.heap.get? b = some { cls := .type "list", dict := e, data := .seq ys m, slots := sy } ∧
        (∀ j (h1 : j < xs.size) (h2 : j < ys.size), EqP P w A.in1 s xs[j] ys[j] true) ∧
        R (.ok (.ret (.bool true))) s) := by
  intro A R s h
  obtain ⟨hp, g, dr, tk, os⟩ := s; obtain ⟨hl, hb, he, h⟩ := h
  have f3 := AutoSeq1.sub_list_list
  have hne : ¬ (xs.size != ys.size) = true := by simp [hz]
  wp_walk using AutoSeq1.wpAny_loadPart' hl, AutoSeq1.wpAny_loadPart' hb
  exact ⟨plainId_quiet plain_eq_loop _, codeAny_builtin entry_eq_loop (by
    rw [Around.under_plainId plain_eq_loop _]
    exact eq_loop l b xs ys n m d e sx sy hz _ 0 rfl A R _ ⟨hl, hb, he, h⟩)⟩
end
section
variable {X : Cx}
def rEqV (K : PySem.W.Frag) : R2 := fun x y H Q => ∃ (a b : Addr) (xs ys : List V) (n : Nat), x = .ref a ∧ y = .ref b ∧ SqL K H a xs ∧ SqL K H b ys ∧ n ≤ 50 ∧ Paired (EqV K H n) xs ys ∧ Q (.bl true) H
theorem op_eqV (hu : X.A.units + 64 < cLine) : OpR X (compareOp .Eq) (rEqV X.K) := by
  intro pins s σ H x y v u Q I rx ry h
  obtain ⟨a, b, xs, ys, n, rfl, rfl, ha, hb, hn, hp, q⟩ := h
  obtain rfl : v = Value.ref a := rx
  obtain rfl : u = Value.ref b := ry
  obtain ⟨us, r1, p1, _⟩ := I.list ha
  obtain ⟨ws, r2, p2, _⟩ := I.list hb
  have len : us.length = ws.length := by rw [← r1.length, ← r2.length]; exact Paired.length hp
  obtain ⟨⟨cls1, dd1, data1, sl1⟩, g1, c1, m1, d1⟩ := id p1.isList
  obtain ⟨⟨cls2, dd2, data2, sl2⟩, g2, c2, m2, d2⟩ := id p2.isList
  simp only at c1 d1 c2 d2
  subst c1 d1 c2 d2
  have ta : s.TypeIs (.ref a) "list" := ⟨_, g1, rfl⟩
  have tb : s.TypeIs (.ref b) "list" := ⟨_, g2, rfl⟩
  have items : ∀ j (h1 : j < us.toArray.size) (h2 : j < ws.toArray.size), EqP X.prog X.w X.A.in1 s us.toArray[j] ws.toArray[j] true := fun j h1 h2 => by
    have k := items_run (fun x y v u e rx ry => eqV_run I n X.A.in1 (by show X.A.units + 1 + n < cLine; omega) x y v u e rx ry) hp r1 r2 j (by simpa using h1) (by simpa using h2)
    simpa using k
  refine wpAny_richCompare_same_room (op := .Eq) ta tb F.slot_list_eq (call_meetsIn F.slot_list_eq ta F.entry_list_eq (F.args_list_eq_2 _ _) (eq_lists a b us.toArray ws.toArray _ _ _ _ _ _ (by simpa using len)) ⟨g1, g2, items, ?_⟩) (by omega)
  exact ⟨fun z => (nomatch z), .bl true, H, I, rfl, q⟩
end
theorem ev_eqV {K : PySem.W.Frag} {σ : L2.St} {H : Hp} {ta tb : TE} {a : Addr} {xs ys : List V} {n : Nat} (ha : EvL ta σ H xs) (hb : Ev tb σ H (.ref a)) (h1 : SqL K H a ys) (hn : n ≤ 50) (e1 : ∀ H1, Ex H H1 → Paired (EqV K H1 n) xs ys) : Ev (tOp (rEqV K) ta tb) σ H (.bl true) := fun H1 e Q q =>
  ha H1 e _ fun p H2 _ e2 hp => hb H2 (e.trans e2) _ fun H3 e3 => ⟨p, a, xs, ys, n, rfl, rfl, sq_of (e3 p _ hp), ex_l ((e.trans e2).trans e3) h1, hn, e1 H3 ((e.trans e2).trans e3), q H3 (e2.trans e3)⟩
end MuEqL

/- g: what a reading's expression evaluates to, from the outside in; s: a side condition -/
local macro_rules | `(tactic| walk_at "mu s") => `(tactic| first | assumption | rfl | omega | decide | decide +kernel | skip)
local macro_rules | `(tactic| walk_at "mu g") => `(tactic| first
  | (with_reducible exact Evl.ev_c)
  | exact Evl.ev_var rfl
  | ((with_reducible apply Evl.ev_op) <;> walk_at "mu g")
  | ((with_reducible apply Evl.ev_un) <;> walk_at "mu g")
  | (with_reducible exact Evl.rv_I0)
  | (with_reducible exact MuK.rv_eqI)
  | (with_reducible exact MuK.rv_eqS)
  | (with_reducible exact MuK.rv_neI)
  | (with_reducible exact MuK.rv_neS)
  | ((with_reducible apply Evl.rv_I) <;> walk_at "mu side")
  | (with_reducible exact Evl.ru_neg)
  | (with_reducible exact Evl.ea_nil)
  | ((with_reducible apply Evl.ea_cons) <;> walk_at "mu g")
  | (with_reducible exact MuK.rc_min2)
  | (with_reducible exact MuK.rc_max2)
  | (with_reducible exact MuK.rc_gcdI)
  | (with_reducible exact MuK.rc_intB)
  | ((with_reducible apply Evl.ev_cb) <;> walk_at "mu g")
  | ((with_reducible apply MuK.ev_callV) <;> walk_at "mu g")
  | ((with_reducible apply Evl.et_test) <;> walk_at "mu g")
  | ((with_reducible apply Evl.et_B) <;> walk_at "mu g")
  | ((with_reducible apply Evl.et_not) <;> walk_at "mu g")
  | ((with_reducible refine' Evl.et_and ?_ (fun _ => ?_)) <;> walk_at "mu g")
  | ((with_reducible refine' Evl.et_or ?_ (fun _ => ?_)) <;> walk_at "mu g")
  | ((with_reducible apply Evl.eu_tup) <;> walk_at "mu g")
  | ((with_reducible apply Evl.el_lst) <;> walk_at "mu g")
  | ((with_reducible apply MuK.ev_ixNew) <;> walk_at "mu g")
  | (show List.length _ ≤ (100000 : Nat); simp; done)
  | skip)
local macro_rules | `(tactic| walk_at "mu side") => `(tactic| first
  | (show L2.CDiv _ _; exact ⟨by decide, by decide⟩)
  | (show (0 : Int) < _; decide)
  | (show L2.CPow _ _; exact ⟨by decide, by decide, by decide⟩)
  | skip)

namespace MuK
open PySem PySem.Spec PyProof.Rows L2 Evl
def topS (i : Nat) : Stmt := PySem.Challenge.pw_muchalike_k31_rare_orders.main.body.getD i (.Pass ⟨0, 0, 0, 0⟩)
abbrev s_p_rare_order : Stmt := topS 1
theorem sc_p_rare_order : FnScope ["lot", "many", "words", "word"] ["lot"] (defScope s_p_rare_order) := ⟨rfl, rfl, rfl, by decide +kernel, rfl, by decide +kernel, by decide +kernel⟩
abbrev s_l_cell_at : Stmt := topS 3
theorem sc_l_cell_at : FnScope ["_law_script", "_law_k"] ["_law_script", "_law_k"] (defScope s_l_cell_at) := ⟨rfl, rfl, rfl, by decide +kernel, rfl, by decide +kernel, by decide +kernel⟩
abbrev s_l_mix : Stmt := topS 4
theorem sc_l_mix : FnScope ["_law_cell", "_law_k", "_law_again", "_law_number"] ["_law_cell", "_law_k"] (defScope s_l_mix) := ⟨rfl, rfl, rfl, by decide +kernel, rfl, by decide +kernel, by decide +kernel⟩
abbrev s_l_turned_row : Stmt := topS 5
theorem sc_l_turned_row : FnScope ["_law_number", "_law_many", "_law_told", "_law_k"] ["_law_number", "_law_many"] (defScope s_l_turned_row) := ⟨rfl, rfl, rfl, by decide +kernel, rfl, by decide +kernel, by decide +kernel⟩
abbrev s_l_names : Stmt := topS 6
theorem sc_l_names : FnScope ["_law_script", "_law_names_here", "_law_number", "_law_signs", "_law_k", "_law_cell", "_law_drawn", "_law_j"] ["_law_script"] (defScope s_l_names) := ⟨rfl, rfl, rfl, by decide +kernel, rfl, by decide +kernel, by decide +kernel⟩
abbrev s_l_set : Stmt := topS 7
theorem sc_l_set : FnScope ["_law_names_here", "_law_cell", "_law_ahead", "_law_some", "_law_k", "_law_name"] ["_law_names_here", "_law_cell", "_law_ahead"] (defScope s_l_set) := ⟨rfl, rfl, rfl, by decide +kernel, rfl, by decide +kernel, by decide +kernel⟩
abbrev s_l_lot : Stmt := topS 8
theorem sc_l_lot : FnScope ["_law_script", "_law_names_here", "_law_lot_here", "_law_number", "_law_many", "_law_k"] ["_law_script"] (defScope s_l_lot) := ⟨rfl, rfl, rfl, by decide +kernel, rfl, by decide +kernel, by decide +kernel⟩
abbrev s_l_cut : Stmt := topS 9
theorem sc_l_cut : FnScope ["_law_script", "_law_most", "_law_cell"] ["_law_script"] (defScope s_l_cut) := ⟨rfl, rfl, rfl, by decide +kernel, rfl, by decide +kernel, by decide +kernel⟩
abbrev s_p_law : Stmt := topS 10
theorem sc_p_law : FnScope ["_law_script", "_law_lot_here", "_law_words", "_law_some", "_law_due", "_law_many", "_law_word", "_law_handed", "_law_again", "_law_got"] ["_law_script"] (defScope s_p_law) := ⟨rfl, rfl, rfl, by decide +kernel, rfl, by decide +kernel, by decide +kernel⟩
structure Txt (K : PySem.W.Frag) (mg : Str → Option Value) (base : Heap) where
  a_p_rare_order : Addr
  d_p_rare_order : FuncData
  c_p_rare_order : Addr
  P_p_rare_order : Addr
  F_p_rare_order : MuGen.FunT K "rare_order" "rare_order" s_p_rare_order a_p_rare_order d_p_rare_order c_p_rare_order
  B_p_rare_order : GxR.TabB base mg c_p_rare_order P_p_rare_order
  b_p_rare_order : Binds K d_p_rare_order ["lot"] []
  g_p_rare_order : mg "rare_order" = some (.ref a_p_rare_order)
  a_l_cell_at : Addr
  d_l_cell_at : FuncData
  F_l_cell_at : Fun K "_law_cell_at" "_law_cell_at" s_l_cell_at a_l_cell_at d_l_cell_at
  b_l_cell_at : Binds K d_l_cell_at ["_law_script", "_law_k"] []
  g_l_cell_at : mg "_law_cell_at" = some (.ref a_l_cell_at)
  a_l_mix : Addr
  d_l_mix : FuncData
  F_l_mix : Fun K "_law_mix" "_law_mix" s_l_mix a_l_mix d_l_mix
  b_l_mix : Binds K d_l_mix ["_law_cell", "_law_k"] []
  g_l_mix : mg "_law_mix" = some (.ref a_l_mix)
  a_l_turned_row : Addr
  d_l_turned_row : FuncData
  F_l_turned_row : Fun K "_law_turned_row" "_law_turned_row" s_l_turned_row a_l_turned_row d_l_turned_row
  b_l_turned_row : Binds K d_l_turned_row ["_law_number", "_law_many"] []
  g_l_turned_row : mg "_law_turned_row" = some (.ref a_l_turned_row)
  a_l_names : Addr
  d_l_names : FuncData
  F_l_names : Fun K "_law_names" "_law_names" s_l_names a_l_names d_l_names
  b_l_names : Binds K d_l_names ["_law_script"] []
  g_l_names : mg "_law_names" = some (.ref a_l_names)
  a_l_set : Addr
  d_l_set : FuncData
  F_l_set : Fun K "_law_set" "_law_set" s_l_set a_l_set d_l_set
  b_l_set : Binds K d_l_set ["_law_names_here", "_law_cell", "_law_ahead"] []
  g_l_set : mg "_law_set" = some (.ref a_l_set)
  a_l_lot : Addr
  d_l_lot : FuncData
  F_l_lot : Fun K "_law_lot" "_law_lot" s_l_lot a_l_lot d_l_lot
  b_l_lot : Binds K d_l_lot ["_law_script"] []
  g_l_lot : mg "_law_lot" = some (.ref a_l_lot)
  a_l_cut : Addr
  d_l_cut : FuncData
  F_l_cut : Fun K "_law_cut" "_law_cut" s_l_cut a_l_cut d_l_cut
  b_l_cut : Binds K d_l_cut ["_law_script"] []
  g_l_cut : mg "_law_cut" = some (.ref a_l_cut)
  z_enumerate : mg "enumerate" = none
  z_int : mg "int" = none
  z_isinstance : mg "isinstance" = none
  z_len : mg "len" = none
  z_list : mg "list" = none
  z_range : mg "range" = none
  z_set : mg "set" = none
  z_sorted : mg "sorted" = none
section
variable {P : Program} {w : World} {K : PySem.W.Frag} {mg : Str → Option Value} {base : Heap}

/-- the lambda's name -/
def rareQ : Str := "rare_order" ++ ".<locals>." ++ "<lambda>"
def sumL (ls : List (Addr × List Str)) : List Str := (ls.map (·.2)).flatten
theorem sum_len {ls : List (Addr × List Str)} (zl : ls.length ≤ 60) (h : ∀ c ∈ ls, c.2.length ≤ 60) : (sumL ls).length ≤ 3600 := by
  have : ∀ xs : List (Addr × List Str), (∀ c ∈ xs, c.2.length ≤ 60) → (sumL xs).length ≤ 60 * xs.length := fun xs => by
    induction xs with
    | nil => intro _; exact Nat.le_refl 0
    | cons c xs ih =>
      intro h
      have a := h c List.mem_cons_self
      have b := ih fun e m => h e (List.mem_cons_of_mem _ m)
      unfold sumL at b ⊢
      rw [List.map_cons, List.flatten_cons, List.length_append, List.length_cons]
      omega
  have := this ls h
  omega
def spRare (K : PySem.W.Frag) (P : Addr) : Sp := fun vs H Q _ => ∃ (b : Addr) (ls : List (Addr × List Str)), vs = [.ref b] ∧ H b = some (.lst (ls.map fun p => V.ref p.1)) ∧ ls.length ≤ 60 ∧ LotAt H ls ∧ (∀ c ∈ ls, c.2.length ≤ 60) ∧ LamX.TabS H P rareQ ∧
  ∀ H' p, LamX.ExtN H H' → LamX.TabS H' P rareQ → (∀ o, H p = some o → ∃ ps, o = .tbl ps) → H' p = some (.lst (((MuBag.firsts (sumL ls)).mergeSort (PySem.W.dataLe false (MuLam.keyD (MuBag.cntD (sumL ls))))).map V.str)) → Q (.ref p) H'
theorem ok_p_rare_order (T : Txt K mg base) : FnOk P w K mg base CX0 1 T.a_p_rare_order T.d_p_rare_order ["lot"] (spRare K T.P_p_rare_order) := by
  refine T.F_p_rare_order.ok sc_p_rare_order (fun vs H Q E h => ?_) (fun A outer s H vs Q E hr h => ?_)
  · obtain ⟨b, ls, rfl, _⟩ := h
    rfl
  · obtain ⟨b, ls, rfl, hb, zl, hat, hls, hT, q⟩ := h
    refine ⟨_, (pss_cons (ps_set (i := 1) sc_p_rare_order.nd rfl (.inr rfl) pe_dnewK)
      (pss_cons (ps_for PassesOwn.never rfl (pi_list (pv 0)) (pg_name (i := 2) sc_p_rare_order.nd rfl (.inl rfl))
      (pss_one (ps_for PassesOwn.never rfl (pi_list (pv 2)) (pg_name (i := 3) sc_p_rare_order.nd rfl (.inl rfl))
      (pss_one (ps_dput (hu_of hr) (pv 1) (pv 3) (pe_op op_add (pe_dget2 (hu_of hr) (pv 1) (pv 3) pe_int ⟨by rfl, by rfl, by rfl, by rfl⟩) pe_int) rfl)))))
      (pss_one (ps_ret (MuLam.pe_sortedLam (i := 1) (m := "many") (a := "text") hr (LamX.TabB.mk T.B_p_rare_order.code T.B_p_rare_order.bm T.B_p_rare_order.gP) rfl rfl (by rfl) T.z_sorted rfl rfl ⟨rfl, rfl, rfl, by decide +kernel, rfl, rfl⟩ (by decide +kernel) (MuLam.clo_one (by decide +kernel)) (fun _ => rfl) (fun _ _ _ _ _ _ => rfl) (by decide) (by decide) (by decide)))))), ?_⟩
    refine q_asgX (R := fun v H' => ∃ d, v = .ref d ∧ H d = none ∧ H' d = some (.dK [])) (fun H1 e1 Q q d hd => q _ _ (Ex.new hd) ⟨d, rfl, fresh_back e1 hd, upd_same⟩) fun v H1 e1 r => ?_
    obtain ⟨d, rfl, hdn, h1⟩ := r
    refine q_forLn (xs := ls.map fun p => V.ref p.1) (ev_var rfl) (sq_of (e1 _ _ hb)) (fun i σ' H' => Ex H H' ∧ H' d = some (.dK (MuBag.cntD (sumL (ls.take i)))) ∧ ∃ x2 x3, σ' = [some (.ref b), some (.ref d), x2, x3]) (fun H2 e2 => ⟨e1.trans e2, e2 _ _ h1, _, _, rfl⟩) (fun i σ' H' _ hp => sq_of (hp.1 b _ hb)) (fun i x σ' H' hx hp => ?_) (fun σ' H' hp => ?_)
    · obtain ⟨e2, h2, x2, x3, rfl⟩ := hp
      obtain ⟨c, hc, rfl⟩ : ∃ c, ls[i]? = some c ∧ x = .ref c.1 := by
        rw [List.getElem?_map] at hx
        cases y : ls[i]? with
        | none =>
          rw [y] at hx
          exact nomatch hx
        | some c =>
          rw [y] at hx
          exact ⟨c, rfl, (Option.some.inj hx).symm⟩
      have mc := List.mem_of_getElem? hc
      have e4 : sumL (ls.take (i + 1)) = sumL (ls.take i) ++ c.2 := by
        unfold sumL
        rw [List.take_add_one, hc, List.map_append, List.flatten_append]
        simp
      have big : (sumL ls).length ≤ 3600 := sum_len zl hls
      have zt : (sumL (ls.take (i + 1))).length ≤ 3600 := sum_len (by rw [List.length_take]; omega) fun c m => hls c (List.mem_of_mem_take m)
      refine s_forLn (xs := c.2.map V.str) (ev_var rfl) (sq_of (e2 _ _ (hat c mc))) (fun n σ' H' => Ex H H' ∧ H' d = some (.dK (MuBag.cntD (sumL (ls.take i) ++ c.2.take n))) ∧ ∃ x3, σ' = [some (.ref b), some (.ref d), some (.ref c.1), x3]) (fun H3 e3 => ⟨e2.trans e3, by rw [List.take_zero, List.append_nil]; exact e3 _ _ h2, _, rfl⟩) (fun n σ' H' _ hp => sq_of (hp.1 _ _ (hat c mc))) (fun n x σ' H' hx hp => ?_) (fun σ' H' hp => ?_)
      · obtain ⟨e3, h3, x3, rfl⟩ := hp
        obtain ⟨u, hu, rfl⟩ := str_at hx
        have zl2 := MuBag.cnt_len (sumL (ls.take i) ++ c.2.take n)
        rw [e4, List.length_append] at zt
        rw [List.length_append, List.length_take] at zl2
        refine s_dputK (k := .inr u) (v := .int (((sumL (ls.take i) ++ c.2.take n).count u : Int) + 1)) h3 (by omega) (ev_op (ev_dget2 (k := .inr u) (dv := .int 0) (r := .int ((sumL (ls.take i) ++ c.2.take n).count u : Int)) (ev_var rfl) (.inl h3) (ev_var rfl) ev_c (MuBag.val_cnt _ u)) ev_c rv_I0) (ev_var rfl) (ev_var rfl) fun H4 e5 => ?_
        refine ⟨Ex.mut (e3.trans e5) hdn, ?_, _, rfl⟩
        rw [upd_same, MuBag.cnt_put, List.take_add_one, hu, List.append_assoc]
        rfl
      · obtain ⟨e3, h3, x3, rfl⟩ := hp
        rw [List.length_map, List.take_length] at h3
        rw [← e4] at h3
        exact ⟨e3, h3, _, _, rfl⟩
    · obtain ⟨e2, h2, x2, x3, rfl⟩ := hp
      rw [List.length_map, List.take_length] at h2
      have big : (sumL ls).length ≤ 3600 := sum_len zl hls
      have kz := MuBag.firsts_len (sumL ls)
      refine ⟨d, MuBag.cntD (sumL ls), MuBag.firsts (sumL ls), rfl, h2, by unfold MuBag.cntD; rw [List.map_map]; rfl, (MuBag.firsts_spec _).1, by omega, fun kv m => ?_, hT.ext e2, fun H3 p e3 hT3 hp => ?_⟩
      · obtain ⟨u, _, rfl⟩ := List.mem_map.mp m
        exact ⟨_, rfl⟩
      · refine q _ p (fun x o hx nt => ?_) (hT3.ext (Ex.new hp)) (fun o ho => ?_) upd_same
        · have := e3 x o (e2 x o hx) nt
          rw [upd_ne (fun z => by rw [z, hp] at this; exact nomatch this)]
          exact this
        · refine Classical.byContradiction fun nt => ?_
          have := e3 p o (e2 p o ho) fun ps z => nt ⟨ps, z⟩
          rw [hp] at this
          exact nomatch this

def D_l_mix : Hp → List V → V → Prop := fun _ vs v => ∃ (c : Int) (k : Nat), vs = [.int c, .int k] ∧ k ≤ 1000 ∧ v = .int (mix c k)
theorem ok_l_mix (T : Txt K mg base) : FnOk P w K mg base CX0 1 T.a_l_mix T.d_l_mix ["_law_cell", "_law_k"] (SpVal D_l_mix) := by
  refine T.F_l_mix.ok sc_l_mix (fun vs H Q E h => ?_) (fun cdv A outer s H vs Q E hr h => ?_)
  · obtain ⟨v, ⟨c, k, rfl, _⟩, _⟩ := h
    rfl
  · obtain ⟨v, ⟨c, k, rfl, hk, rfl⟩, q⟩ := h
    refine ⟨_, (pss_cons (ps_if (pt_cmpR op_ge (pv 0) (pe_op op_pow pe_int pe_int) (nomark _))
      (pss_cons (ps_for PassesOwn.never rfl (pi_range1 (by rfl) T.z_range (pa_cons (pv 1) pa_nil)) (pg_name (i := 2) sc_l_mix.nd rfl (.inl rfl))
      (pss_one (ps_set (i := 0) sc_l_mix.nd rfl (.inl rfl) (pe_op op_fdiv (pv 0) (pe_op op_pow pe_int pe_int)))))
      (pss_one (ps_ret (pe_op op_mod (pv 0) (pe_op op_pow pe_int pe_int)))))
      pss_nil)
      (pss_cons (ps_set (i := 3) sc_l_mix.nd rfl (.inl rfl) (pe_op op_mod (pe_op op_mul (pe_op op_add (pe_op op_add (pe_op op_mod (pv 0) pe_int) (pe_op op_mul (pe_op op_mul (pv 1) (pv 1)) pe_int)) (pv 1)) pe_int) pe_int))
      (pss_cons (ps_set (i := 3) sc_l_mix.nd rfl (.inl rfl) (pe_op op_mod (pe_op op_mul (pv 3) (pv 3)) pe_int))
      (pss_one (ps_ret (pe_op op_fdiv (pe_op op_mod (pe_op op_mul (pv 3) (pe_op op_add (pv 3) pe_int)) pe_int) pe_int)))))), ?_⟩
    refine q_when (b := decide ((10 : Int) ^ (18 : Int).toNat ≤ c)) (by walk_at "mu g") (fun hb H1 e1 => ?_) (fun hb H1 e1 => ?_)
    · refine q_forR1 (n := (k : Int)) (by walk_at "mu g") (by omega) (fun i σ' H' => Ex H H' ∧ ∃ x3 x4, σ' = [some (.int (divs (10 ^ 6) i c)), some (.int k), x3, x4]) (fun H2 e2 => ⟨e1.trans e2, none, none, rfl⟩) (fun i σ' H' hi hp => ?_) (fun σ' H' hp => ?_)
      · obtain ⟨e2, x3, x4, rfl⟩ := hp
        refine s_asg (by walk_at "mu g") fun H3 e3 => ?_
        exact ⟨e2.trans e3, _, _, rfl⟩
      · obtain ⟨e2, x3, x4, rfl⟩ := hp
        refine s_ret (v := .int (mix c k)) ?_ fun H3 e3 => q H3 (e2.trans e3)
        have hb' : c ≥ 10 ^ 18 := of_decide_eq_true hb
        have e : mix c k = divs (10 ^ 6) k c % 10 ^ 6 := by
          unfold mix
          rw [if_pos hb']
        rw [e]
        exact ev_is (by walk_at "mu g") (by first | rfl | simp)
    · have hb' : ¬ c ≥ 10 ^ 18 := of_decide_eq_false hb
      have r1 : ∀ z : Int, 0 ≤ z % 2147483629 ∧ z % 2147483629 < 2147483629 := fun z => ⟨Int.emod_nonneg z (by decide), Int.emod_lt_of_pos z (by decide)⟩
      have r2 : ∀ z : Int, 0 ≤ z % 2147483587 ∧ z % 2147483587 < 2147483587 := fun z => ⟨Int.emod_nonneg z (by decide), Int.emod_lt_of_pos z (by decide)⟩
      have r3 : 0 ≤ c % 1000003 ∧ c % 1000003 < 1000003 := ⟨Int.emod_nonneg c (by decide), Int.emod_lt_of_pos c (by decide)⟩
      refine q_asg (by walk_at "mu g"; all_goals (show CMul _ _; first | exact .inr ⟨by decide, by decide⟩ | exact .inr ⟨by omega, by omega⟩)) fun H2 e2 => ?_
      refine q_asg (by walk_at "mu g"; all_goals (show CMul _ _; have := r1 ((c % 1000003 + k * k * 7919 + k) * 48271); exact .inr ⟨by omega, by omega⟩)) fun H3 e3 => ?_
      refine s_ret (v := .int (mix c k)) ?_ fun H4 e4 => q H4 (((e1.trans e2).trans e3).trans e4)
      unfold mix
      rw [if_neg hb']
      refine ev_is (by walk_at "mu g"; all_goals (show CMul _ _; exact .inr ⟨by have := r2 ((((c % 1000003 + k * k * 7919 + k) * 48271 % 2147483629) * ((c % 1000003 + k * k * 7919 + k) * 48271 % 2147483629))); omega, by have := r2 ((((c % 1000003 + k * k * 7919 + k) * 48271 % 2147483629) * ((c % 1000003 + k * k * 7919 + k) * 48271 % 2147483629))); omega⟩)) rfl

def D_l_cell_at (K : PySem.W.Frag) : Hp → List V → V → Prop := fun H vs v => ∃ (a : Addr) (ns : List Int) (k : Nat), vs = [.ref a, .int k] ∧ SqL K H a (ns.map V.int) ∧ v = .int (ns.getD k 0)
theorem ok_l_cell_at (T : Txt K mg base) : FnOk P w K mg base CX0 1 T.a_l_cell_at T.d_l_cell_at ["_law_script", "_law_k"] (SpVal (D_l_cell_at K)) := by
  refine T.F_l_cell_at.ok sc_l_cell_at (fun vs H Q E h => ?_) (fun cdv A outer s H vs Q E hr h => ?_)
  · obtain ⟨v, ⟨a, ns, k, rfl, _⟩, _⟩ := h
    rfl
  · obtain ⟨v, ⟨a, ns, k, rfl, hs, rfl⟩, q⟩ := h
    refine ⟨_, (pss_cons (ps_if (pt_cmpR op_lt (pv 1) (pe_callB call_len_seq (by rfl) T.z_len (by decide +kernel) (pa_cons (pv 0) pa_nil)) (nomark _))
      (pss_one (ps_ret (pe_ix ix_list (pv 0) (pv 1) (fun _ _ => rfl))))
      pss_nil)
      (pss_one (ps_ret pe_int))), ?_⟩
    refine q_when (b := decide ((k : Int) < ((ns.map V.int).length : Int))) (et_test (ev_op (ev_var rfl) (ev_len (ev_var rfl) hs) rv_I0)) (fun hb H1 e1 => ?_) (fun hb H1 e1 => ?_)
    · have hk : k < ns.length := by
        have := of_decide_eq_true hb
        rw [List.length_map] at this
        omega
      refine s_ret (v := .int (ns.getD k 0)) (ev_op (ev_var rfl) (ev_var rfl) (rv_ixL (ex_l e1 hs) (atI_nat (j := k) ?_))) fun H2 e2 => q H2 (e1.trans e2)
      rw [List.getElem?_map, List.getD_eq_getElem?_getD, List.getElem?_eq_getElem hk]
      rfl
    · have hk : ¬ k < ns.length := by
        have := of_decide_eq_false hb
        rw [List.length_map] at this
        omega
      have e0 : ns.getD k 0 = 0 := by
        rw [List.getD_eq_getElem?_getD, List.getElem?_eq_none (by omega)]
        rfl
      rw [e0] at q
      exact s_ret (v := .int 0) (by walk_at "mu g") fun H2 e2 => q H2 (e1.trans e2)

def D_l_cut (K : PySem.W.Frag) : Hp → List V → List V → Prop := fun H vs xs => ∃ (a : Addr) (ns : List Int), vs = [.ref a] ∧ SqL K H a (ns.map V.int) ∧ ns.length ≤ 63 ∧ xs = (ns.map cutI).map V.int
theorem bigM_ev {σ : L2.St} {H : Hp} : Ev (tOp (rI CPowW fun i j => V.int (i ^ j.toNat)) (tOp (rI CPow fun i j => V.int (i ^ j.toNat)) (tC (.int 10)) (tC (.int 60))) (tC (.int 60))) σ H (.int bigM) :=
  ev_is (ev_op (ev_op ev_c ev_c (rv_I ⟨by decide, by decide, by decide⟩)) ev_c (rv_I ⟨by decide, by decide +kernel⟩)) rfl
theorem ok_l_cut (T : Txt K mg base) : FnOk P w K mg base CX0 1 T.a_l_cut T.d_l_cut ["_law_script"] (SpLst (D_l_cut K)) := by
  refine T.F_l_cut.ok sc_l_cut (fun vs H Q E h => ?_) (fun cdv A outer s H vs Q E hr h => ?_)
  · obtain ⟨v, ⟨a, ns, rfl, _⟩, _⟩ := h
    rfl
  · obtain ⟨v, ⟨a, ns, rfl, hs, hn, rfl⟩, q⟩ := h
    refine ⟨_, (pss_cons (ps_set (i := 1) sc_l_cut.nd rfl (.inr rfl) (pe_op op_powW (pe_op op_pow pe_int pe_int) pe_int))
      (pss_one (ps_ret (pe_lc (own := [("_law_cell", 2)]) (g := gName 2) (tt := tYes) rfl sc_l_cut.nd (pi_list (pv 0)) (blkOk_by (N := ["_law_script", "_law_most", "_law_cell"]) (sc := defScope s_l_cut) (by decide +kernel)) (fun _ _ _ _ _ => (pg_name (i := 2) sc_l_cut.nd rfl (Or.inl rfl))) (fun _ _ _ _ _ => pts_nil) (fun _ _ _ _ _ => (pe_ix (show IxR _ (rIxL K) from ix_list) (pe_lst (pa_cons (pv 2) (pa_cons (pe_op op_add (pv 1) (pe_op op_mod (pv 2) (pv 1))) pa_nil))) (pe_callTy call_int1 (by rfl) T.z_int (by decide +kernel) (pa_cons (pe_cmpR op_ge (pv 2) (pv 1) (nomark _)) pa_nil)) (fun _ _ => rfl))))))), ?_⟩
    refine q_asg (v := .int bigM) bigM_ev fun H1 e1 => ?_
    refine s_retL (el_is (el_lcL (xs := ns.map V.int) (fun _ => true) (fun i => .int (cutI (ns.getD i 0))) (ev_var rfl) (ex_l e1 hs) (by rw [List.length_map]; omega) (fun x => rfl) (fun i x H2 e2 hi H3 e3 Q q => q H3 (Ex.refl H3)) (fun i x H2 e2 hi _ => ?_)) ?_) fun p H2 hp e2 h2 => q p H2 (fresh_back e1 hp) (e1.trans e2) h2
    · obtain ⟨c, hc, rfl⟩ : ∃ c, ns[i]? = some c ∧ x = .int c := by
        rw [List.getElem?_map] at hi
        cases e : ns[i]? with
        | none => rw [e] at hi; cases hi
        | some z => rw [e] at hi; exact ⟨z, rfl, (Option.some.inj hi).symm⟩
      have hg : ns.getD i 0 = c := by rw [List.getD_eq_getElem?_getD, hc]; rfl
      rw [hg]
      refine ev_ixNew (K := K) (xs := [.int c, .int (bigM + c % bigM)]) (i := if decide (bigM ≤ c) then 1 else 0) (el_lst (by walk_at "mu g") (by simp)) (by walk_at "mu g") ?_
      unfold cutI
      by_cases hc2 : bigM ≤ c
      · rw [if_pos (decide_eq_true hc2), if_pos hc2]
        exact atI_nat (j := 1) rfl
      · rw [if_neg (by rw [decide_eq_false hc2]; decide), if_neg hc2]
        exact atI_nat (j := 0) rfl
    · rw [List.length_map]
      exact given_map ns cutI

def D_l_turned_row : Hp → List V → (V → Hp → Prop) → Prop := fun H vs R => ∃ (n : Int) (m : Nat), vs = [.int n, .int m] ∧ m ≤ 1000 ∧ R = fun v H' => ∃ (p : Addr) (ps : List Int), v = .ref p ∧ H p = none ∧ H' p = some (.lst (ps.map V.int)) ∧ ps.Perm ((List.range m).map Int.ofNat)
theorem s_ins {K : PySem.W.Frag} {σ : L2.St} {H : Hp} {ta tb tc : TE} {D : Ends} {l : Addr} {xs : List V} {i : Int} {y : V} (hl : H l = some (.lst xs)) (ha : Ev ta σ H (.ref l)) (hb : Ev tb σ H (.int i)) (hc : Ev tc σ H y) (h0 : 0 ≤ i) (h1 : i < 2 ^ 40) (hz : xs.length < 100000)
    {r : V → List V → Hp → VK → Prop} (hr : r = fun x vs H Q => ∃ (l : Addr) (xs : List V) (i : Int) (y : V), x = .ref l ∧ vs = [.int i, y] ∧ H l = some (.lst xs) ∧ xs.length < sizeLine ∧ 0 ≤ i ∧ i < 2 ^ 63 ∧ Q .non (upd H l (.lst (xs.take i.toNat ++ [y] ++ xs.drop i.toNat))))
    (q : ∀ H1, Ex H H1 → D.nx σ (upd H1 l (.lst (xs.take i.toNat ++ [y] ++ xs.drop i.toNat)))) : tDrop (tBM K "list" r ta (tCons tb (tCons tc tNil))) D σ H := by
  subst hr
  refine ha H (Ex.refl H) _ fun H1 e1 => ⟨.inl ⟨rfl, xs, sq_of (e1 l _ hl)⟩, ?_⟩
  refine hb H1 e1 _ fun H2 e2 => hc H2 (e1.trans e2) _ fun H3 e3 => ?_
  exact ⟨l, xs, i, y, rfl, rfl, ((e1.trans e2).trans e3) l _ hl, sz_lt hz, h0, by omega, q H3 ((e1.trans e2).trans e3)⟩
theorem ins_perm (ps : List Int) (k : Nat) (x : Int) : ∃ qs : List Int, (ps.map V.int).take k ++ [V.int x] ++ (ps.map V.int).drop k = qs.map V.int ∧ qs.Perm (ps ++ [x]) := by
  refine ⟨ps.take k ++ [x] ++ ps.drop k, by simp, ?_⟩
  have h1 : (ps.take k ++ [x] ++ ps.drop k).Perm (ps.take k ++ ps.drop k ++ [x]) := by
    rw [List.append_assoc, List.append_assoc]
    exact List.perm_append_comm.append_left _
  rwa [List.take_append_drop] at h1
theorem ok_l_turned_row (T : Txt K mg base) : FnOk P w K mg base CX0 1 T.a_l_turned_row T.d_l_turned_row ["_law_number", "_law_many"] (SpR D_l_turned_row) := by
  refine T.F_l_turned_row.ok sc_l_turned_row (fun vs H Q E h => ?_) (fun cdv A outer s H vs Q E hr h => ?_)
  · obtain ⟨v, ⟨n, m, rfl, _⟩, _⟩ := h
    rfl
  · obtain ⟨v, ⟨n, m, rfl, hm, rfl⟩, q⟩ := h
    refine ⟨_, (pss_cons (ps_set (i := 2) sc_l_turned_row.nd rfl (.inl rfl) (pe_lst pa_nil))
      (pss_cons (ps_for PassesOwn.never rfl (pi_range1 (by rfl) T.z_range (pa_cons (pv 1) pa_nil)) (pg_name (i := 3) sc_l_turned_row.nd rfl (.inl rfl))
      (pss_cons (ps_expr (pe_bm PySem.F.plainAttrs_list PySem.F.slot_list_insert PySem.F.type_list_insert mt_insert (pv 2) (pa_cons (pe_op op_mod (pv 0) (pe_op op_add (pv 3) pe_int)) (pa_cons (pv 3) pa_nil))))
      (pss_one (ps_set (i := 0) sc_l_turned_row.nd rfl (.inl rfl) (pe_op op_fdiv (pv 0) (pe_op op_add (pv 3) pe_int))))))
      (pss_one (ps_ret (pv 2))))), ?_⟩
    refine q_asgL (xs := []) (el_lst (by walk_at "mu g") (by decide)) fun p H1 hp e1 h1 => ?_
    refine q_forR1 (n := (m : Int)) (by walk_at "mu g") (by omega) (fun k σ' H' => Ex H H' ∧ ∃ (ps : List Int) (z : Int), H' p = some (.lst (ps.map V.int)) ∧ ps.Perm ((List.range k).map Int.ofNat) ∧ ∃ x3, σ' = [some (.int z), some (.int m), some (.ref p), x3])
      (fun H2 e2 => ⟨e1.trans e2, [], n, e2 _ _ h1, List.Perm.refl _, _, rfl⟩) (fun k σ' H' hk hq => ?_) (fun σ' H' hq => ?_)
    · obtain ⟨e2, ps, z, h2, pm, x3, rfl⟩ := hq
      have zl : ps.length = k := by rw [pm.length_eq, List.length_map, List.length_range]
      have r0 : 0 ≤ z % ((k : Int) + 1) := Int.emod_nonneg _ (by omega)
      have r1 : z % ((k : Int) + 1) < (k : Int) + 1 := Int.emod_lt_of_pos _ (by omega)
      refine s_ins (D := { nx := _, rt := _, bk := _, ct := _ }) h2 (ev_var rfl) (ev_op (ev_var rfl) (ev_op (ev_var rfl) ev_c rv_I0) (rv_I (by omega))) (ev_var rfl) r0 (by omega) (by rw [List.length_map]; omega) rfl fun H3 e3 => ?_
      obtain ⟨qs, eq, pq⟩ := ins_perm ps (z % ((k : Int) + 1)).toNat k
      rw [eq]
      have e4 : Ex H (upd H3 p (.lst (qs.map V.int))) := Ex.mut (e2.trans e3) hp
      have h4 : (upd H3 p (.lst (qs.map V.int))) p = some (.lst (qs.map V.int)) := upd_same
      generalize upd H3 p (.lst (qs.map V.int)) = H4 at e4 h4
      refine s_asg (v := .int (z / ((k : Int) + 1))) (ev_op (ev_var rfl) (ev_op (ev_var rfl) ev_c rv_I0) (rv_I ⟨by omega, by omega⟩)) fun H5 e5 => ⟨e4.trans e5, qs, _, e5 _ _ h4, ?_, _, rfl⟩
      rw [List.range_succ, List.map_append]
      exact pq.trans (pm.append_right _)
    · obtain ⟨e2, ps, z, h2, pm, x3, rfl⟩ := hq
      exact s_ret (v := .ref p) (ev_var rfl) fun H3 e3 => q _ _ (e2.trans e3) ⟨p, ps, rfl, hp, e3 _ _ h2, by simpa using pm⟩

theorem getDPs {P : Str → Prop} {ws : List Str} (h : ∀ u ∈ ws, P u) {u : Str} (hu : u ∈ ws) : P u := h u hu
/-- what stands in l has one place written anew -/
theorem set_nodup {us : List Str} {u : Str} {i : Nat} (n : us.Nodup) (hu : u ∉ us) : (us.set i u).Nodup := by
  induction us generalizing i with
  | nil => simpa using n
  | cons a t ih =>
    rw [List.nodup_cons] at n
    rw [List.mem_cons, not_or] at hu
    cases i with
    | zero => exact List.nodup_cons.mpr ⟨hu.2, n.2⟩
    | succ j =>
      refine List.nodup_cons.mpr ⟨fun m => ?_, ih n.2 hu.2⟩
      rcases List.mem_or_eq_of_mem_set m with m | m
      · exact n.1 m
      · exact hu.1 m.symm
def sixteen : List Str := ["a", "b", "ab", "c", "a.1", "b0", "z", "9", ".", "d", "e", "f", "g", "h", "i", "j"]
def D_l_names (K : PySem.W.Frag) : Hp → List V → (V → Hp → Prop) → Prop := fun H vs R => ∃ (s : Addr) (ns : List Int), vs = [.ref s] ∧ SqL K H s (ns.map V.int) ∧ R = fun v H' => ∃ (p : Addr) (ws : List Str), v = .ref p ∧ H p = none ∧ TxL H' p ws ∧ ws.Nodup ∧ 3 ≤ ws.length ∧ ws.length ≤ 16
theorem cut_names {m : Int} (h0 : 0 ≤ m) : ∃ ws : List Str, cutV (sixteen.map V.str) none (some (3 + m)) = ws.map V.str ∧ ws.Sublist sixteen ∧ ws.length = min (3 + m).toNat 16 := by
  obtain ⟨k, rfl⟩ : ∃ k : Nat, m = k := ⟨m.toNat, by omega⟩
  have e3 : (3 : Int) + (k : Int) = ((3 + k : Nat) : Int) := by simp
  have l : sixteen.length = 16 := rfl
  refine ⟨sixteen.take (min (3 + k) 16), ?_, List.take_sublist _ _, by rw [List.length_take, l]; omega⟩
  unfold cutV
  rw [e3, HT.sIx_nat, HT.sIx_none, List.length_map, l, Nat.sub_zero, List.drop_zero, List.map_take]
theorem ok_l_names (T : Txt K mg base) : FnOk P w K mg base CX0 2 T.a_l_names T.d_l_names ["_law_script"] (SpR (D_l_names K)) := by
  refine T.F_l_names.ok sc_l_names (fun vs H Q E h => ?_) (fun cdv A outer s H vs Q E hr h => ?_)
  · obtain ⟨v, ⟨s, ns, rfl, _⟩, _⟩ := h
    rfl
  · obtain ⟨v, ⟨s, ns, rfl, hs, rfl⟩, q⟩ := h
    refine ⟨_, (pss_cons (ps_set (i := 1) sc_l_names.nd rfl (.inl rfl) (pe_lst (pa_cons pe_str (pa_cons pe_str (pa_cons pe_str (pa_cons pe_str (pa_cons pe_str (pa_cons pe_str (pa_cons pe_str (pa_cons pe_str (pa_cons pe_str (pa_cons pe_str (pa_cons pe_str (pa_cons pe_str (pa_cons pe_str (pa_cons pe_str (pa_cons pe_str (pa_cons pe_str pa_nil))))))))))))))))))
      (pss_cons (ps_set (i := 2) sc_l_names.nd rfl (.inl rfl) (pe_call (ok_l_mix T) (hr.mono (by decide)) rfl T.g_l_mix T.F_l_mix.kp T.b_l_mix .nil pass0 (pa_cons (pe_call (ok_l_cell_at T) (hr.mono (by decide)) rfl T.g_l_cell_at T.F_l_cell_at.kp T.b_l_cell_at .nil pass0 (pa_cons (pv 0) (pa_cons pe_int pa_nil))) (pa_cons pe_int pa_nil))))
      (pss_cons (ps_set (i := 1) sc_l_names.nd rfl (.inl rfl) (pe_slice sl_list (pv 1) po_none (po_some (pe_op op_add pe_int (pe_op op_mod (pv 2) pe_int)))))
      (pss_cut (ps_if (pt_cmpR op_eq (pe_op op_mod (pe_op op_fdiv (pv 2) pe_int) pe_int) pe_int (nomark _))
      (pss_cons (ps_set (i := 3) sc_l_names.nd rfl (.inr rfl) pe_str)
      (pss_one (ps_for PassesOwn.never rfl (pi_range1 (by rfl) T.z_range (pa_cons (pe_callB call_len_seq (by rfl) T.z_len (by decide +kernel) (pa_cons (pv 1) pa_nil)) pa_nil)) (pg_name (i := 4) sc_l_names.nd rfl (.inl rfl))
      (pss_cons (ps_set (i := 5) sc_l_names.nd rfl (.inr rfl) (pe_call (ok_l_cell_at T) (hr.mono (by decide)) rfl T.g_l_cell_at T.F_l_cell_at.kp T.b_l_cell_at .nil pass0 (pa_cons (pv 0) (pa_cons (pe_op op_add pe_int (pv 4)) pa_nil))))
      (pss_cons (ps_setLc (i := 6) (own := [("_law_j", 7)]) (g := gName 7) (tt := tYes) rfl sc_l_names.nd rfl rfl (sw_true rfl rfl rfl (by decide +kernel)) (pi_range1 (by rfl) T.z_range (pa_cons (pe_op op_add pe_int (pe_op op_mod (pe_call (ok_l_mix T) (hr.mono (by decide)) rfl T.g_l_mix T.F_l_mix.kp T.b_l_mix .nil pass0 (pa_cons (pv 5) (pa_cons pe_int pa_nil))) pe_int)) pa_nil)) (blkOk_by (N := ["_law_script", "_law_names_here", "_law_number", "_law_signs", "_law_k", "_law_cell", "_law_drawn", "_law_j"]) (sc := defScope s_l_names) (by decide +kernel)) (fun _ _ _ _ _ => (pg_name (i := 7) sc_l_names.nd rfl (Or.inl rfl))) (fun _ _ _ _ _ => by exact pts_nil) (fun _ _ _ _ _ => by exact (pe_ix ix_str (pv 3) (pe_op op_mod (pe_call (ok_l_mix T) (hr.mono (by decide)) rfl T.g_l_mix T.F_l_mix.kp T.b_l_mix .nil pass0 (pa_cons (pv 5) (pa_cons (pe_op op_add pe_int (pv 7)) pa_nil))) pe_int) (fun _ _ => rfl))))
      (pss_one (ps_if (pt_cmpR op_notIn_seq (pe_join pe_str (pv 6)) (pv 1) (by rfl))
      (pss_one (ps_asg (pe_join pe_str (pv 6)) (pg_sub (pv 1) (pv 4) set_list)))
      pss_nil)))))))
      pss_nil)
      (pss_one (ps_ret (pv 1))))))), ?_⟩
    refine q_asgL (xs := sixteen.map V.str) (el_is (el_lst (by walk_at "mu g") (by decide)) (by rfl)) fun p H1 hp e1 h1 => ?_
    let c : Int := mix (ns.getD 0 0) 0
    refine q_asg (v := .int c) (ev_callV (vs := [.int (ns.getD 0 0), .int 0]) (ea_cons (ev_callV (vs := [.ref s, .int 0]) (by walk_at "mu g") fun _ e => ⟨s, ns, 0, rfl, ex_l (e1.trans e) hs, rfl⟩) (ea_cons ev_c ea_nil)) fun _ _ => ⟨_, 0, rfl, by decide, rfl⟩) fun H2 e2 => ?_
    have c0 : 0 ≤ c % 14 := Int.emod_nonneg _ (by decide)
    have c1 : c % 14 < 14 := Int.emod_lt_of_pos _ (by decide)
    obtain ⟨ws, ew, sw, lw⟩ := cut_names c0
    refine q_asgL (xs := ws.map V.str) (el_is (el_sl (K := K) (ev_var rfl) eo_none (eo_some (i := 3 + c % 14) (ev_op (x := .int 3) (y := .int (c % 14)) ev_c (ev_op (x := .int c) (y := .int 14) (ev_var rfl) ev_c (rv_I (by decide))) rv_I0)) (sq_of (e2 p _ h1))) ew) fun p2 H3 hp2 e3 h3 => ?_
    have e13 := (e1.trans e2).trans e3
    have hp20 : H p2 = none := fresh_back (e1.trans e2) hp2
    have nw : ws.Nodup := sub_nodup sw (by decide +kernel)
    have l16 : ws.length ≤ 16 := by omega
    have l3 : 3 ≤ ws.length := by omega
    refine q_cut (M := fun σ' H' => Ex H H' ∧ ∃ us : List Str, TxL H' p2 us ∧ us.Nodup ∧ us.length = ws.length ∧ ∃ x3 x4 x5 x6 x7, σ' = [some (.ref s), some (.ref p2), some (.int c), x3, x4, x5, x6, x7]) ?_ fun σ' H' hm => ?_
    · refine s_when (b := decide (c / 14 % 4 = 1)) (et_test (ev_op (ev_op (x := .int (c / 14)) (y := .int 4) (ev_op (x := .int c) (y := .int 14) (ev_var rfl) ev_c (rv_I ⟨by decide, by decide⟩)) ev_c (rv_I (by decide))) ev_c rv_eqI)) (fun hb1 H4 e4 => ?_) (fun hb1 H4 e4 => ⟨e13.trans e4, ws, e4 _ _ h3, nw, rfl, _, _, _, _, _, rfl⟩)
      refine q_asg (v := .str signsS) (ev_is ev_c rfl) fun H5 e5 => ?_
      have e35 := e4.trans e5
      have e05 := e13.trans e35
      refine s_forR1 (n := (ws.length : Int)) (ea_cons (ev_is (ev_len (ev_var rfl) (sq_of (e35 p2 _ h3))) (by rw [List.length_map])) ea_nil) (by omega)
        (fun i σ' H' => Ex H H' ∧ ∃ us : List Str, TxL H' p2 us ∧ us.Nodup ∧ us.length = ws.length ∧ ∃ x4 x5 x6 x7, σ' = [some (.ref s), some (.ref p2), some (.int c), some (.str signsS), x4, x5, x6, x7])
        (fun H6 e6 => ⟨e05.trans e6, ws, (e35.trans e6) _ _ h3, nw, rfl, _, _, _, _, rfl⟩) (fun i σ' H' hi hp1 => ?_) (fun σ' H' hp1 => ?_)
      · obtain ⟨e6, us, hu, und, ul, x4, x5, x6, x7, rfl⟩ := hp1
        let d : Int := ns.getD (25 + i) 0
        refine q_asg (v := .int d) (ev_callV (vs := [.ref s, .int (25 + (i : Int))]) (by walk_at "mu g") fun _ e => ⟨s, ns, 25 + i, by simp, ex_l (e6.trans e) hs, rfl⟩) fun H7 e7 => ?_
        have d0 : 0 ≤ mix d 0 % 30 := Int.emod_nonneg _ (by decide)
        have d1 : mix d 0 % 30 < 30 := Int.emod_lt_of_pos _ (by decide)
        let ds : List Str := (List.range (1 + mix d 0 % 30).toNat).map fun j => ⟨#[sgn (mix d (1 + j))]⟩
        have ed : given (1 + mix d 0 % 30).toNat (fun _ => true) (fun j => .str ⟨#[sgn (mix d (1 + j))]⟩) = ds.map V.str := by
          unfold given
          rw [List.filter_eq_self.mpr fun _ _ => rfl, List.map_map]
          rfl
        refine q_asgL (xs := ds.map V.str) (el_is (el_lcR1 (n := 1 + mix d 0 % 30) (fun _ => true) (fun j => .str ⟨#[sgn (mix d (1 + j))]⟩) ?_ (by omega) (fun x => rfl) (fun j H8 e8 hj H9 e9 Q q => q H9 (Ex.refl H9)) (fun j H8 e8 hj _ => ?_)) ed) fun p6 H8 hp6 e8 h8 => ?_
        · exact ea_cons (ev_op (x := .int 1) (y := .int (mix d 0 % 30)) ev_c (ev_op (x := .int (mix d 0)) (y := .int 30) (ev_callV (vs := [.int d, .int 0]) (by walk_at "mu g") fun _ _ => ⟨d, 0, rfl, by decide, rfl⟩) ev_c (rv_I (by decide))) rv_I0) ea_nil
        · exact ev_op (x := .str signsS) (y := .int (mix d (1 + j) % 37)) (ev_var rfl) (ev_op (x := .int (mix d (1 + j))) (y := .int 37) (ev_callV (vs := [.int d, .int (1 + (j : Int))]) (by walk_at "mu g") fun _ _ => ⟨d, 1 + j, by simp, by omega, rfl⟩) ev_c (rv_I (by decide))) (rv_ixS (by decide +kernel) (sgn_at _))
        have zd : ds.length = (1 + mix d 0 % 30).toNat := by rw [List.length_map, List.length_range]
        have zs : (ds.map (·.length)).sum ≤ 30 := by
          have : ∀ l : List Nat, ((l.map fun j => (⟨#[sgn (mix d (1 + j))]⟩ : Str)).map (·.length)).sum = l.length := fun l => by
            induction l with
            | nil => rfl
            | cons a t ih =>
              rw [List.map_cons, List.map_cons, List.sum_cons, ih, List.length_cons]
              show 1 + t.length = _
              omega
          rw [this, List.length_range]
          omega
        have e68 := e7.trans e8
        have h9 := e68 p2 _ hu
        have joinE : ∀ {H' : Hp} {σ' : L2.St}, σ'[6]? = some (some (.ref p6)) → Ex H8 H' → Ev (tM1 (MuX.rJoinX K) (tC (.str "")) (tVar 6)) σ' H' (.str (Txt.join "" ds)) := fun {H' σ'} hσ e => MuX.ev_joinS "" (ev_var hσ) (sq_of (e p6 _ h8)) (by rw [show ("" : Str).length = 0 from rfl]; omega)
        have flat : ((us.map V.str).all flatV) = true := by
          rw [List.all_map]
          exact List.all_eq_true.mpr fun _ _ => rfl
        refine s_when (b := !inV (.str (Txt.join "" ds)) (us.map V.str)) (et_test (ev_op (joinE rfl (Ex.refl _)) (ev_var rfl) (rv_niL (sq_of h9) rfl flat))) (fun hb2 H10 e10 => ?_) (fun hb2 H10 e10 => ?_)
        · have hin : Txt.join "" ds ∉ us := fun hin => by
            rw [inV_str, decide_eq_true hin] at hb2
            exact nomatch hb2
          refine s_setL (j := i) (e10 _ _ h9) (joinE rfl e10) (ev_var rfl) (ev_var rfl) (by rw [List.length_map]; omega) fun H11 e11 => ?_
          exact ⟨Ex.mut ((e6.trans e68).trans (e10.trans e11)) hp20, us.set i (Txt.join "" ds), by rw [TxL, upd_same, List.map_set], set_nodup und hin, by rw [List.length_set]; exact ul, _, _, _, _, rfl⟩
        · exact ⟨(e6.trans e68).trans e10, us, e10 _ _ h9, und, ul, _, _, _, _, rfl⟩
      · obtain ⟨e6, us, hu, und, ul, x4, x5, x6, x7, rfl⟩ := hp1
        exact ⟨e6, us, hu, und, ul, _, _, _, _, _, rfl⟩
    · obtain ⟨e4, us, hu, und, ul, x3, x4, x5, x6, x7, rfl⟩ := hm
      exact s_ret (v := .ref p2) (ev_var rfl) fun H5 e5 => q _ _ (e4.trans e5) ⟨p2, us, rfl, hp20, e5 _ _ hu, und, by omega, by omega⟩

def D_l_set (K : PySem.W.Frag) : Hp → List V → (V → Hp → Prop) → Prop := fun H vs R => ∃ (a b : Addr) (ws : List Str) (c : Int) (ls : List (Addr × List Str)), vs = [.ref a, .int c, .ref b] ∧ TxL H a ws ∧ ws.Nodup ∧ 1 ≤ ws.length ∧ ws.length ≤ 16 ∧
  H b = some (.lst (ls.map fun p => V.ref p.1)) ∧ ls.length ≤ 60 ∧ LotAt H ls ∧ (∀ p ∈ ls, p.2.Nodup ∧ ∀ u ∈ p.2, u ∈ ws) ∧ R = fun v H' => ∃ (p : Addr) (us : List Str), v = .ref p ∧ H p = none ∧ TxL H' p us ∧ us.Nodup ∧ ∀ u ∈ us, u ∈ ws
theorem given_str {ws : List Str} {f : Nat → Bool} : ∃ us : List Str, given ws.length f (fun i => .str (ws.getD i "")) = us.map V.str ∧ us.Sublist ws := by
  refine ⟨((List.range ws.length).filter f).map fun i => ws.getD i "", by unfold given; rw [List.map_map]; rfl, ?_⟩
  have h := (List.filter_sublist (l := List.range ws.length) (p := f)).map fun i => ws.getD i ""
  have e : (List.range ws.length).map (fun i => ws.getD i "") = ws := by
    apply List.ext_getElem
    · simp
    · intro i h1 h2
      simp [List.getD_eq_getElem?_getD, h2]
  rw [e] at h
  exact h
/-- the texts at the places ps -/
theorem picked {us : List Str} {ps : List Int} (h : ps.Perm ((List.range us.length).map Int.ofNat)) : ∃ ys : List Str, given ps.length (fun _ => true) (fun i => .str (us.getD (ps.getD i 0).toNat "")) = ys.map V.str ∧ ys.Perm us := by
  refine ⟨ps.map fun k => us.getD k.toNat "", ?_, ?_⟩
  · unfold given
    rw [List.filter_eq_self.mpr fun _ _ => rfl, List.map_map]
    apply List.ext_getElem
    · simp
    · intro i h1 h2
      simp only [List.getElem_map, List.getElem_range, Function.comp]
      have h3 : i < ps.length := by simpa using h2
      rw [List.getD_eq_getElem?_getD (l := ps), List.getElem?_eq_getElem h3]
      rfl
  · refine (h.map fun k => us.getD k.toNat "").trans ?_
    rw [List.map_map]
    have e : (List.range us.length).map ((fun k : Int => us.getD k.toNat "") ∘ Int.ofNat) = us := by
      apply List.ext_getElem
      · simp
      · intro i h1 h2
        simp [List.getD_eq_getElem?_getD, h2]
    rw [e]
theorem evx_lcThen {K : PySem.W.Frag} {σ : L2.St} {H : Hp} {tl te : TE} {t : TT} {g : TG} {vs : List Nat} {R R' : V → Hp → Prop} (h : EvX tl σ H R) (k : ∀ v H1, Ex H H1 → R v H1 → EvX (tLc (iList K (tC v)) g t te vs) σ H1 R') : EvX (tLc (iList K tl) g t te vs) σ H R' := fun H0 e Q q => h H0 e _ fun v H1 e1 r => k v H1 (e.trans e1) r H1 (Ex.refl H1) Q fun w H2 e2 r2 => q w H2 (e1.trans e2) r2
theorem ok_l_set (T : Txt K mg base) : FnOk P w K mg base CX0 2 T.a_l_set T.d_l_set ["_law_names_here", "_law_cell", "_law_ahead"] (SpR (D_l_set K)) := by
  refine T.F_l_set.ok sc_l_set (fun vs H Q E h => ?_) (fun cdv A outer s H vs Q E hr h => ?_)
  · obtain ⟨v, ⟨a, b, ws, c, ls, rfl, _⟩, _⟩ := h
    rfl
  · obtain ⟨v, ⟨a, b, ws, c, ls, rfl, ha, nd, l1, l16, hb, lz, hl, hls, rfl⟩, q⟩ := h
    refine ⟨_, (pss_cons (ps_set (i := 3) sc_l_set.nd rfl (.inr rfl) (pe_lc (own := [("_law_k", 4), ("_law_name", 5)]) (g := gTup K 2 (gCons (gName 4) (gCons (gName 5) gNil))) rfl sc_l_set.nd (pi_enum (by rfl) T.z_enumerate (pa_cons (pv 0) pa_nil)) (blkOk_by (N := ["_law_names_here", "_law_cell", "_law_ahead", "_law_some", "_law_k", "_law_name"]) (sc := defScope s_l_set) (by decide +kernel)) (fun _ _ _ _ _ => by exact (pg_tup (by rfl) (pgs_cons (pg_name (i := 4) sc_l_set.nd rfl (Or.inl rfl)) (pgs_cons (pg_name (i := 5) sc_l_set.nd rfl (Or.inl rfl)) pgs_nil)))) (fun _ _ _ _ _ => by exact (pts_one (pt_cmpR op_lt (pe_op op_mod (pe_call (ok_l_mix T) (hr.mono (by decide)) rfl T.g_l_mix T.F_l_mix.kp T.b_l_mix .nil pass0 (pa_cons (pv 1) (pa_cons (pe_op op_add pe_int (pv 4)) pa_nil))) pe_int) (pe_ix (show IxR _ (rIxL K) from ix_list) (pe_lst (pa_cons pe_int (pa_cons pe_int (pa_cons pe_int (pa_cons pe_int pa_nil))))) (pe_op op_mod (pe_call (ok_l_mix T) (hr.mono (by decide)) rfl T.g_l_mix T.F_l_mix.kp T.b_l_mix .nil pass0 (pa_cons (pv 1) (pa_cons pe_int pa_nil))) pe_int) (fun _ _ => rfl)) (nomark _)))) (fun _ _ _ _ _ => by exact (pv 5))))
      (pss_cut (ps_if (PW.pt (pw_and (pt_cmpR (op_neNil hr.units) (pv 2) (pe_lst pa_nil) (nomark _)) (pw_and1 (pt_cmpR op_eq (pe_op op_mod (pe_op op_fdiv (pe_call (ok_l_mix T) (hr.mono (by decide)) rfl T.g_l_mix T.F_l_mix.kp T.b_l_mix .nil pass0 (pa_cons (pv 1) (pa_cons pe_int pa_nil))) pe_int) pe_int) pe_int (nomark _)))))
      (pss_cons (ps_set (i := 3) sc_l_set.nd rfl (.inr rfl) (pe_callTy call_list_of (by rfl) T.z_list (by decide +kernel) (pa_cons (pe_ix ix_list (pv 2) (pe_op op_mod (pe_op op_fdiv (pe_call (ok_l_mix T) (hr.mono (by decide)) rfl T.g_l_mix T.F_l_mix.kp T.b_l_mix .nil pass0 (pa_cons (pv 1) (pa_cons pe_int pa_nil))) pe_int) (pe_callB call_len_seq (by rfl) T.z_len (by decide +kernel) (pa_cons (pv 2) pa_nil))) (fun _ _ => rfl)) pa_nil)))
      (pss_one (ps_for PassesOwn.never rfl (pi_range1 (by rfl) T.z_range (pa_cons (pe_op op_mod (pe_op op_fdiv (pe_call (ok_l_mix T) (hr.mono (by decide)) rfl T.g_l_mix T.F_l_mix.kp T.b_l_mix .nil pass0 (pa_cons (pv 1) (pa_cons pe_int pa_nil))) pe_int) pe_int) pa_nil)) (pg_name (i := 4) sc_l_set.nd rfl (.inl rfl))
      (pss_cons (ps_set (i := 5) sc_l_set.nd rfl (.inl rfl) (pe_ix ix_list (pv 0) (pe_op op_mod (pe_call (ok_l_mix T) (hr.mono (by decide)) rfl T.g_l_mix T.F_l_mix.kp T.b_l_mix .nil pass0 (pa_cons (pv 1) (pa_cons (pe_op op_add pe_int (pv 4)) pa_nil))) (pe_callB call_len_seq (by rfl) T.z_len (by decide +kernel) (pa_cons (pv 0) pa_nil))) (fun _ _ => rfl)))
      (pss_one (ps_if (pt_cmpR op_in_seq (pv 5) (pv 3) (by rfl))
      (pss_one (ps_expr (pe_bm PySem.F.plainAttrs_list PySem.F.slot_list_remove PySem.F.type_list_remove mtS_remove (pv 3) (pa_cons (pv 5) pa_nil))))
      (pss_one (ps_expr (pe_bm PySem.F.plainAttrs_list PySem.F.slot_list_append PySem.F.type_list_append mt_append (pv 3) (pa_cons (pv 5) pa_nil))))))))))
      pss_nil)
      (pss_one (ps_ret (pe_lc (own := [("_law_k", 4)]) (g := gName 4) (tt := tYes) rfl sc_l_set.nd (pi_list (pe_call (ok_l_turned_row T) (hr.mono (by decide)) rfl T.g_l_turned_row T.F_l_turned_row.kp T.b_l_turned_row .nil pass0 (pa_cons (pe_call (ok_l_mix T) (hr.mono (by decide)) rfl T.g_l_mix T.F_l_mix.kp T.b_l_mix .nil pass0 (pa_cons (pv 1) (pa_cons pe_int pa_nil))) (pa_cons (pe_callB call_len_seq (by rfl) T.z_len (by decide +kernel) (pa_cons (pv 3) pa_nil)) pa_nil)))) (blkOk_by (N := ["_law_names_here", "_law_cell", "_law_ahead", "_law_some", "_law_k", "_law_name"]) (sc := defScope s_l_set) (by decide +kernel)) (fun _ _ _ _ _ => (pg_name (i := 4) sc_l_set.nd rfl (Or.inl rfl))) (fun _ _ _ _ _ => pts_nil) (fun _ _ _ _ _ => (pe_ix (show IxR _ (rIxL K) from ix_list) (pv 3) (pv 4) (fun _ _ => rfl)))))))), ?_⟩
    have mixE : ∀ {H' : Hp} {σ' : L2.St} {tk : TE} (k : Nat), k ≤ 1000 → σ'[1]? = some (some (.int c)) → Ev tk σ' H' (.int (k : Int)) → Ev (tCall (SpVal D_l_mix) [] E0 (tCons (tVar 1) (tCons tk tNil))) σ' H' (.int (mix c k)) := fun {H' σ' tk} k hk hσ h => ev_callV (vs := [.int c, .int k]) (ea_cons (ev_var hσ) (ea_cons h ea_nil)) fun _ _ => ⟨c, k, rfl, by omega, rfl⟩
    let few : Int := ([1, 3, 4, 6] : List Int).getD (mix c 0 % 4).toNat 0
    obtain ⟨us1, eu1, su1⟩ := given_str (ws := ws) (f := fun i => decide (mix c (1 + i) % 8 < few))
    refine q_asgL (xs := us1.map V.str) (el_is (el_lcE (xs := ws.map V.str) (a := a) (fun i => decide (mix c (1 + i) % 8 < few)) (fun i => .str (ws.getD i "")) (ea_cons (ev_var rfl) ea_nil) (sq_of ha) (by rw [List.length_map]; omega) (fun x y => rfl) (fun i x H2 e2 hi => ?_) (fun i x H2 e2 hi _ => ?_)) (by rw [List.length_map]; exact eu1)) fun p1 H1 hp1 e1 h1 => ?_
    · have lt := (List.getElem?_eq_some_iff.mp hi).1
      rw [List.length_map] at lt
      exact et_test (ev_op (ev_op (mixE (1 + i) (by omega) rfl (ev_is (v := .int (1 + (i : Int))) (by walk_at "mu g") (by simp))) ev_c (rv_I (by decide))) (ev_ixNew (K := K) (xs := [1, 3, 4, 6].map V.int) (i := mix c 0 % 4) (el_is (el_lst (by walk_at "mu g") (by decide)) (by rfl)) (ev_op (mixE 0 (by decide) rfl ev_c) ev_c (rv_I (by decide))) (atI_modI (m := 4) rfl (by decide))) rv_I0)
    · obtain ⟨u, hu, rfl⟩ := str_at hi
      have e : ws.getD i "" = u := by rw [List.getD_eq_getElem?_getD, hu]; rfl
      show Ev _ _ _ (.str (ws.getD i ""))
      rw [e]
      exact ev_var rfl
    refine q_cut (M := fun σ' H' => Ex H H' ∧ ∃ (p : Addr) (us : List Str), TxL H' p us ∧ H p = none ∧ us.Nodup ∧ (∀ u ∈ us, u ∈ ws) ∧ ∃ x4 x5, σ' = [some (.ref a), some (.int c), some (.ref b), some (.ref p), x4, x5]) ?_ fun σ' H' hm => ?_
    · refine s_when (b := !(ls.map fun p => V.ref p.1).isEmpty && decide (mix c 0 / 4 % 2 = 1)) (et_and (et_test (ev_neNil (ev_var rfl) (sq_of (e1 b _ hb)) (el_lst (by walk_at "mu g") (by decide)))) fun _ => et_test (ev_op (ev_op (ev_op (mixE 0 (by decide) rfl ev_c) ev_c (rv_I ⟨by decide, by decide⟩)) ev_c (rv_I (by decide))) ev_c rv_eqI)) (fun hb1 H2 e2 => ?_) (fun hb1 H2 e2 => ⟨e1.trans e2, p1, us1, e2 _ _ h1, hp1, sub_nodup su1 nd, fun u hu => su1.subset hu, _, _, rfl⟩)
      have hne : (ls.map fun p => V.ref p.1) ≠ [] := fun z => by
        rw [z] at hb1
        simp at hb1
      obtain ⟨x, hx, mx⟩ := atI_emod (n := mix c 0 / 8) hne
      obtain ⟨pr, mpr, rfl⟩ := List.mem_map.mp mx
      have e12 := e1.trans e2
      have npos : (0 : Int) < ((ls.map fun p => V.ref p.1).length : Int) := by
        have := List.length_pos_iff.mpr hne
        omega
      obtain ⟨nd2, sub2⟩ := hls pr mpr
      have z2 := nodup_bound nd2 sub2
      refine q_asgL (xs := pr.2.map V.str) (el_list (K := K) (ev_op (ev_var rfl) (ev_op (ev_op (mixE 0 (by decide) rfl ev_c) ev_c (rv_I ⟨by decide, by decide⟩)) (ev_len (ev_var rfl) (sq_of (e12 b _ hb))) (rv_I npos)) (rv_ixL (sq_of (e12 b _ hb)) hx)) (sq_of (e12 _ _ (hl pr mpr)))) fun p3 H3 hp3 e3 h3 => ?_
      have e13 := e12.trans e3
      have hp30 : H p3 = none := fresh_back e12 hp3
      have r0 : 0 ≤ mix c 0 / 64 % 3 := Int.emod_nonneg _ (by decide)
      have r1 : mix c 0 / 64 % 3 < 3 := Int.emod_lt_of_pos _ (by decide)
      refine s_forR1 (n := mix c 0 / 64 % 3) ?_ (by omega)
        (fun i σ' H' => Ex H H' ∧ ∃ us : List Str, TxL H' p3 us ∧ us.Nodup ∧ (∀ u ∈ us, u ∈ ws) ∧ ∃ x4 x5, σ' = [some (.ref a), some (.int c), some (.ref b), some (.ref p3), x4, x5])
        (fun H4 e4 => ⟨e13.trans e4, pr.2, e4 p3 _ h3, nd2, sub2, _, _, rfl⟩) (fun i σ' H' hi hp1 => ?_) (fun σ' H' hp1 => ?_)
      · exact (ea_cons (ev_op (x := .int (mix c 0 / 64)) (y := .int 3) (ev_op (x := .int (mix c 0)) (y := .int 64) (mixE 0 (by decide) rfl ev_c) ev_c (rv_I ⟨by decide, by decide⟩)) ev_c (rv_I (by decide))) ea_nil)
      · obtain ⟨e4, us, hu, und, usub, x4, x5, rfl⟩ := hp1
        have z2 := nodup_bound und usub
        have hne2 : ws.map V.str ≠ [] := fun z => by
          have := congrArg List.length z
          simp at this
          rw [this] at l1
          exact absurd l1 (by decide)
        obtain ⟨y, hy, my⟩ := atI_emod (n := mix c (20 + i)) hne2
        obtain ⟨wd, mwd, rfl⟩ := List.mem_map.mp my
        have wpos : (0 : Int) < ((ws.map V.str).length : Int) := by
          have := List.length_pos_iff.mpr hne2
          omega
        refine q_asg (v := .str wd) (ev_op (ev_var rfl) (ev_op (mixE (20 + i) (by omega) rfl (ev_is (v := .int (20 + (i : Int))) (by walk_at "mu g") (by simp))) (ev_len (ev_var rfl) (sq_of (e4 a _ ha))) (rv_I wpos)) (rv_ixL (sq_of (e4 a _ ha)) hy)) fun H6 e6 => ?_
        have h6 : TxL H6 p3 us := e6 p3 _ hu
        have e46 := e4.trans e6
        have flat : ((us.map V.str).all flatV) = true := by
          rw [List.all_map]
          exact List.all_eq_true.mpr fun _ _ => rfl
        refine s_if (b := inV (.str wd) (us.map V.str)) (et_test (ev_op (ev_var rfl) (ev_var rfl) (rv_isL (sq_of h6) rfl flat))) (fun hb2 H7 e7 => ?_) (fun hb2 H7 e7 => ?_)
        · have hin : wd ∈ us := by
            rw [inV_str, decide_eq_true_eq] at hb2
            exact hb2
          refine s_remS (e7 p3 _ h6) hin (ev_var rfl) (ev_var rfl) fun H8 e8 => ?_
          exact ⟨Ex.mut ((e46.trans e7).trans e8) hp30, us.erase wd, upd_same, und.erase wd, fun u hu => usub u (List.mem_of_mem_erase hu), _, _, rfl⟩
        · have hin : wd ∉ us := fun hin => by
            rw [inV_str, decide_eq_true hin] at hb2
            exact nomatch hb2
          refine s_app (e7 p3 _ h6) (ev_var rfl) (ev_var rfl) (by rw [List.length_map]; omega) fun H9 e9 => ?_
          refine ⟨Ex.mut ((e46.trans e7).trans e9) hp30, us ++ [wd], by rw [TxL, upd_same, List.map_append]; rfl, List.nodup_append.mpr ⟨und, by simp, fun x hx2 y hy2 z => ?_⟩, fun u hu => ?_, _, _, rfl⟩
          · rw [List.mem_singleton] at hy2
            rw [z, hy2] at hx2
            exact hin hx2
          · rcases List.mem_append.mp hu with hu | hu
            · exact usub u hu
            · rw [List.mem_singleton.mp hu]
              exact mwd
      · obtain ⟨e4, us, hu, und, usub, x4, x5, rfl⟩ := hp1
        exact ⟨e4, p3, us, hu, hp30, und, usub, _, _, rfl⟩
    · obtain ⟨e2, p, us, hw, hp, und, usub, x4, x5, rfl⟩ := hm
      have z2 := nodup_bound und usub
      refine s_retX (R := fun v H' => ∃ (p : Addr) (ys : List Str), v = .ref p ∧ H p = none ∧ TxL H' p ys ∧ ys.Nodup ∧ ∀ u ∈ ys, u ∈ ws) (evx_lcThen (R := fun v H' => ∃ (q : Addr) (ps : List Int), v = .ref q ∧ H' q = some (.lst (ps.map V.int)) ∧ ps.Perm ((List.range us.length).map Int.ofNat)) (evx_call (vs := [.int (mix c 24), .int (us.length : Int)]) (ea_cons (ev_callV (vs := [.int c, .int 24]) (by walk_at "mu g") fun _ _ => ⟨c, 24, rfl, by decide, rfl⟩) (ea_cons (ev_is (ev_len (ev_var rfl) (sq_of hw)) (by rw [List.length_map])) ea_nil)) fun H1 e1 => ⟨_, ⟨mix c 24, us.length, rfl, by omega, rfl⟩, fun v H2 e3 r => ?_⟩) fun v H1 e1 r => ?_) fun v H1 e1 r => q v H1 (e2.trans e1) r
      · obtain ⟨q, ps, rfl, hq, h2, pm⟩ := r
        exact ⟨q, ps, rfl, h2, pm⟩
      · obtain ⟨q, ps, rfl, hq, pm⟩ := r
        have zl : ps.length = us.length := by rw [pm.length_eq, List.length_map, List.length_range]
        obtain ⟨ys, ey, py⟩ := picked pm
        refine evx_mono (MuTri.evx_L (xs := ys.map V.str) (el_is (el_lcL (K := K) (xs := ps.map V.int) (a := q) (fun _ => true) (fun i => .str (us.getD (ps.getD i 0).toNat "")) ev_c (sq_of hq) (by rw [List.length_map]; omega) (fun x => rfl) (fun i x H9 e9 hi H3 e3 Q q => q H3 (Ex.refl H3)) (fun i x H9 e9 hi _ => ?_)) (by rw [List.length_map]; exact ey))) fun v H2 e3 r => ?_
        · rw [List.getElem?_map] at hi
          obtain ⟨n, hn, rfl⟩ : ∃ n, ps[i]? = some n ∧ x = .int n := by
            cases e0 : ps[i]? with
            | none => rw [e0] at hi; exact nomatch hi
            | some n => rw [e0] at hi; exact ⟨n, rfl, by simpa using hi.symm⟩
          have mn := pm.subset (List.mem_of_getElem? hn)
          obtain ⟨m, hm, rfl⟩ := List.mem_map.mp mn
          have ml : m < us.length := List.mem_range.mp hm
          rw [List.getD_eq_getElem?_getD (l := ps), hn]
          refine ev_op (ev_var rfl) (ev_var rfl) (rv_ixL (sq_of ((e1.trans e9) p _ hw)) (atI_nat ?_))
          rw [List.getElem?_map, List.getD_eq_getElem?_getD]
          show Option.map V.str us[m]? = some (V.str (us[m]?.getD ""))
          rw [List.getElem?_eq_getElem ml]
          rfl
        · obtain ⟨z, rfl, hz, h2⟩ := r
          exact ⟨z, ys, rfl, fresh_back (e2.trans e1) hz, h2, py.nodup_iff.mpr und, fun u hu => usub u (py.mem_iff.mp hu)⟩

def D_l_lot (K : PySem.W.Frag) : Hp → List V → (V → Hp → Prop) → Prop := fun H vs R => ∃ (s : Addr) (ns : List Int), vs = [.ref s] ∧ SqL K H s (ns.map V.int) ∧ R = fun v H' => ∃ (p : Addr) (ls : List (Addr × List Str)), v = .ref p ∧ H p = none ∧ H' p = some (.lst (ls.map fun p => V.ref p.1)) ∧ LotAt H' ls ∧ ls.length ≤ 13 ∧ ∃ ws : List Str, ws.Nodup ∧ ws.length ≤ 16 ∧ ∀ c ∈ ls, H c.1 = none ∧ c.1 ≠ p ∧ c.2.Nodup ∧ ∀ u ∈ c.2, u ∈ ws
theorem ok_l_lot (T : Txt K mg base) : FnOk P w K mg base CX0 3 T.a_l_lot T.d_l_lot ["_law_script"] (SpR (D_l_lot K)) := by
  refine T.F_l_lot.ok sc_l_lot (fun vs H Q E h => ?_) (fun cdv A outer s H vs Q E hr h => ?_)
  · obtain ⟨v, ⟨s, ns, rfl, _⟩, _⟩ := h
    rfl
  · obtain ⟨v, ⟨s, ns, rfl, hs, rfl⟩, q⟩ := h
    refine ⟨_, (pss_cons (ps_set (i := 1) sc_l_lot.nd rfl (.inl rfl) (pe_call (ok_l_names T) (hr.mono (by decide)) rfl T.g_l_names T.F_l_names.kp T.b_l_names .nil pass0 (pa_cons (pv 0) pa_nil)))
      (pss_cons (ps_set (i := 2) sc_l_lot.nd rfl (.inl rfl) (pe_lst pa_nil))
      (pss_cons (ps_set (i := 3) sc_l_lot.nd rfl (.inl rfl) (pe_call (ok_l_mix T) (hr.mono (by decide)) rfl T.g_l_mix T.F_l_mix.kp T.b_l_mix .nil pass0 (pa_cons (pe_call (ok_l_cell_at T) (hr.mono (by decide)) rfl T.g_l_cell_at T.F_l_cell_at.kp T.b_l_cell_at .nil pass0 (pa_cons (pv 0) (pa_cons pe_int pa_nil))) (pa_cons pe_int pa_nil))))
      (pss_cons (ps_set (i := 4) sc_l_lot.nd rfl (.inl rfl) (pe_ix ix_list (pe_lst (pa_cons (pe_op op_mod (pv 3) pe_int) (pa_cons (pe_op op_add pe_int (pe_op op_mod (pe_op op_fdiv (pv 3) pe_int) pe_int)) pa_nil))) (pe_callTy call_int1 (by rfl) T.z_int (by decide +kernel) (pa_cons (pe_cmpR op_eq (pe_op op_mod (pe_op op_fdiv (pv 3) pe_int) pe_int) pe_int (nomark _)) pa_nil)) (fun _ _ => rfl)))
      (pss_cons (ps_for PassesOwn.never rfl (pi_range1 (by rfl) T.z_range (pa_cons (pv 4) pa_nil)) (pg_name (i := 5) sc_l_lot.nd rfl (.inl rfl))
      (pss_one (ps_expr (pe_bm PySem.F.plainAttrs_list PySem.F.slot_list_append PySem.F.type_list_append mt_append (pv 2) (pa_cons (pe_call (ok_l_set T) (hr.mono (by decide)) rfl T.g_l_set T.F_l_set.kp T.b_l_set .nil pass0 (pa_cons (pv 1) (pa_cons (pe_call (ok_l_cell_at T) (hr.mono (by decide)) rfl T.g_l_cell_at T.F_l_cell_at.kp T.b_l_cell_at .nil pass0 (pa_cons (pv 0) (pa_cons (pe_op op_add pe_int (pv 5)) pa_nil))) (pa_cons (pv 2) pa_nil)))) pa_nil)))))
      (pss_one (ps_ret (pv 2)))))))), ?_⟩
    refine q_asgX (R := fun v H' => ∃ (a : Addr) (ws : List Str), v = .ref a ∧ H a = none ∧ TxL H' a ws ∧ ws.Nodup ∧ 3 ≤ ws.length ∧ ws.length ≤ 16) (evx_call (vs := [.ref s]) (ea_cons (ev_var rfl) ea_nil) fun H1 e1 => ⟨_, ⟨s, ns, rfl, ex_l e1 hs, rfl⟩, fun v H2 e2 r => ?_⟩) fun v H1 e1 r => ?_
    · obtain ⟨a, ws, rfl, ha, r⟩ := r
      exact ⟨a, ws, rfl, fresh_back e1 ha, r⟩
    obtain ⟨a, ws, rfl, ha0, ha, nd, l3, l16⟩ := r
    refine q_asgL (xs := []) (el_lst (by walk_at "mu g") (by decide)) fun p H2 hp e2 h2 => ?_
    have e12 := e1.trans e2
    have hp0 : H p = none := fresh_back e1 hp
    have ap : a ≠ p := fun z => by
      have hh : H1 a = some _ := ha
      rw [z, hp] at hh
      exact nomatch hh
    let c : Int := mix (ns.getD 0 0) 1
    refine q_asg (v := .int c) (ev_callV (vs := [.int (ns.getD 0 0), .int 1]) (ea_cons (ev_callV (vs := [.ref s, .int 0]) (by walk_at "mu g") fun _ e => ⟨s, ns, 0, rfl, ex_l (e12.trans e) hs, rfl⟩) (ea_cons ev_c ea_nil)) fun _ _ => ⟨_, 1, rfl, by decide, rfl⟩) fun H3 e3 => ?_
    have e13 := e12.trans e3
    have b0 : 0 ≤ c % 9 := Int.emod_nonneg _ (by decide)
    have b1 : c % 9 < 9 := Int.emod_lt_of_pos _ (by decide)
    have b2 : 0 ≤ c / 144 % 3 := Int.emod_nonneg _ (by decide)
    have b3 : c / 144 % 3 < 3 := Int.emod_lt_of_pos _ (by decide)
    obtain ⟨m, hm, em⟩ : ∃ m : Nat, m ≤ 13 ∧ (if decide (c / 9 % 16 = 1) then 11 + c / 144 % 3 else c % 9) = (m : Int) := by
      by_cases h : c / 9 % 16 = 1
      · exact ⟨(11 + c / 144 % 3).toNat, by omega, by rw [if_pos (decide_eq_true h)]; omega⟩
      · exact ⟨(c % 9).toNat, by omega, by rw [if_neg (by simpa using h)]; omega⟩
    refine q_asg (v := .int (m : Int)) ?_ fun H4 e4 => ?_
    · refine ev_ixNew (K := K) (xs := [.int (c % 9), .int (11 + c / 144 % 3)]) (i := if decide (c / 9 % 16 = 1) then 1 else 0) (el_lst (by walk_at "mu g") (by simp)) (by walk_at "mu g") ?_
      rw [← em]
      by_cases h : c / 9 % 16 = 1
      · rw [decide_eq_true h]
        rfl
      · rw [decide_eq_false h]
        rfl
    have e14 := e13.trans e4
    refine q_forR1 (n := (m : Int)) (ea_cons (ev_var rfl) ea_nil) (by omega)
      (fun i σ' H' => Ex H H' ∧ TxL H' a ws ∧ ∃ ls : List (Addr × List Str), H' p = some (.lst (ls.map fun p => V.ref p.1)) ∧ LotAt H' ls ∧ ls.length = i ∧ (∀ c ∈ ls, H c.1 = none ∧ c.1 ≠ p ∧ c.2.Nodup ∧ ∀ u ∈ c.2, u ∈ ws) ∧ ∃ x5, σ' = [some (.ref s), some (.ref a), some (.ref p), some (.int c), some (.int (m : Int)), x5])
      (fun H5 e5 => ⟨e14.trans e5, ((e2.trans e3).trans (e4.trans e5)) a _ ha, [], ((e3.trans e4).trans e5) p _ h2, (fun _ y => nomatch y), rfl, (fun _ y => nomatch y), _, rfl⟩) (fun i σ' H' hi hp1 => ?_) (fun σ' H' hp1 => ?_)
    · obtain ⟨e2, ha, ls, hl, hat, len, hnew, x5, rfl⟩ := hp1
      refine s_appX (R := fun v H2 => ∃ (c : Addr) (us : List Str), v = .ref c ∧ H' c = none ∧ TxL H2 c us ∧ us.Nodup ∧ (∀ u ∈ us, u ∈ ws) ∧ TxL H2 a ws) hl (ev_var rfl) (evx_call (vs := [.ref a, .int (ns.getD (2 + i) 0), .ref p]) (ea_cons (ev_var rfl) (ea_cons (ev_callV (vs := [.ref s, .int (2 + (i : Int))]) (by walk_at "mu g") fun _ e => ⟨s, ns, 2 + i, by simp, ex_l (e2.trans e) hs, rfl⟩) (ea_cons (ev_var rfl) ea_nil)))
        (fun H2 e3 => ⟨_, ⟨a, p, ws, _, ls, rfl, e3 a _ ha, nd, by omega, l16, e3 p _ hl, by omega, hat.later e3, (fun c y => (hnew c y).2.2), rfl⟩, fun v H3 e4 r => ?_⟩)) (by rw [List.length_map]; omega) fun v H2 e3 r => ?_
      · obtain ⟨c, us, rfl, hc, h3, r1, r2⟩ := r
        exact ⟨c, us, rfl, fresh_back e3 hc, h3, r1, r2, (e3.trans e4) a _ ha⟩
      · obtain ⟨c, us, rfl, hc, h3, r1, r2, ha3⟩ := r
        have cp : c ≠ p := fun z => by
          rw [z, hl] at hc
          exact nomatch hc
        refine ⟨Ex.mut (e2.trans e3) hp0, (upd_ne ap).trans ha3, ls ++ [(c, us)], by rw [upd_same, List.map_append]; rfl, fun y hy => ?_, by simp [len], fun y hy => ?_, _, rfl⟩
        · rcases List.mem_append.mp hy with hy | hy
          · exact (upd_ne (hnew y hy).2.1).trans (e3 _ _ (hat y hy))
          · obtain rfl := List.mem_singleton.mp hy
            exact (upd_ne cp).trans h3
        · rcases List.mem_append.mp hy with hy | hy
          · exact hnew y hy
          · obtain rfl := List.mem_singleton.mp hy
            exact ⟨fresh_back e2 hc, cp, r1, r2⟩
    · obtain ⟨e2, ha, ls, hl, hat, len, hnew, x5, rfl⟩ := hp1
      refine s_ret (v := .ref p) (ev_var rfl) fun H2 e3 => q _ _ (e2.trans e3) ⟨p, ls, rfl, hp0, e3 p _ hl, hat.later e3, by omega, ws, nd, l16, hnew⟩

theorem evx_revs {K : PySem.W.Frag} {σ : L2.St} {H : Hp} {ls : List (Addr × List Str)} {a : Addr} {tl : TE} {j : Nat} {vs : List Nat} (h : Ev tl σ H (.ref a)) (hx : SqL K H a (ls.map fun p => V.ref p.1)) (hz : ls.length ≤ 40000)
    (hl : LotAt H ls) (hj : j < σ.length) (hw : ∀ x, wipe ((wipe σ vs).set j (some x)) vs = wipe σ vs) :
    EvX (tLc (iList K tl) (gName j) tYes (tRevL K (tVar j)) vs) σ H
      (fun v H' => ∃ (p : Addr) (cs : List (Addr × List Str)), v = .ref p ∧ H p = none ∧ H' p = some (.lst (cs.map fun p => V.ref p.1)) ∧ cs.map (·.2) = ls.map (fun c => c.2.reverse) ∧ LotAt H' cs ∧ ∀ c ∈ cs, H c.1 = none) := fun H0 e Q q => by
  refine h H0 e _ fun H1 e1 => ⟨a, rfl, ⟨_, ex_l (e.trans e1) hx⟩, fun Dl hD => ?_⟩
  have e01 := e.trans e1
  refine lc_list (xs := ls.map fun p => V.ref p.1)
    (fun n H' => Ex H1 H' ∧ ∃ cs : List (Addr × List Str), H' Dl = some (.lst (cs.map fun p => V.ref p.1)) ∧ cs.map (·.2) = (ls.take n).map (fun c => c.2.reverse) ∧ LotAt H' cs ∧ ∀ c ∈ cs, H1 c.1 = none ∧ c.1 ≠ Dl)
    ⟨Ex.new hD, [], upd_same, rfl, fun _ m => (nomatch m), fun _ m => nomatch m⟩ (fun n H' _ p => ex_l (e01.trans p.1) hx) (fun n x H' hn p => ?_) (fun H' p => ?_)
  · obtain ⟨e2, cs, hDl, hcs, hat, hnew⟩ := p
    obtain ⟨pr, hpr, rfl⟩ : ∃ pr, ls[n]? = some pr ∧ x = .ref pr.1 := by
      rw [List.getElem?_map] at hn
      cases y : ls[n]? with
      | none =>
        rw [y] at hn
        exact nomatch hn
      | some pr =>
        rw [y] at hn
        exact ⟨pr, rfl, (Option.some.inj hn).symm⟩
    have hm := List.mem_of_getElem? hpr
    have lt := (List.getElem?_eq_some_iff.mp hpr).1
    refine ⟨hw _, ?_⟩
    unfold tYes
    dsimp only
    rw [if_pos rfl]
    unfold tRevL tVar
    dsimp only
    refine ⟨.ref pr.1, ?_, pr.1, pr.2.map V.str, rfl, sq_of ((e01.trans e2) _ _ (hl pr hm)), fun c hc => ?_⟩
    rotate_left
    · rw [← List.map_reverse]
      have hcD : c ≠ Dl := fun z => by
        rw [z, hDl] at hc
        exact nomatch hc
      have e3 : Ex H' (upd H' c (.lst (pr.2.reverse.map V.str))) := Ex.new hc
      have len : cs.length ≤ ls.length := by
        have := congrArg List.length hcs
        simp at this
        omega
      refine ⟨cs.map fun p => V.ref p.1, e3 _ _ hDl, by rw [List.length_map]; exact sz_lt (by omega), Ex.mut (e2.trans e3) hD, cs ++ [(c, pr.2.reverse)], ?_, ?_, fun p m => ?_, fun p m => ?_⟩
      · rw [upd_same, List.map_append]
        rfl
      · rw [List.map_append, hcs, List.take_succ_eq_append_getElem lt, List.map_append, (List.getElem?_eq_some_iff.mp hpr).2]
        rfl
      · rcases List.mem_append.mp m with m | m
        · exact (upd_ne (hnew p m).2).trans (e3 _ _ (hat p m))
        · obtain rfl := List.mem_singleton.mp m
          exact (upd_ne hcD).trans upd_same
      · rcases List.mem_append.mp m with m | m
        · exact hnew p m
        · obtain rfl := List.mem_singleton.mp m
          exact ⟨fresh_back e2 hc, hcD⟩
    · exact List.getElem?_set_self (by rw [wipe_length]; exact hj)
  · obtain ⟨e2, cs, hDl, hcs, hat, hnew⟩ := p
    rw [List.length_map, List.take_length] at hcs
    exact q _ _ (e1.trans e2) ⟨Dl, cs, rfl, fresh_back e01 hD, hDl, hcs, hat, fun c m => fresh_back e01 (hnew c m).1⟩

theorem el_catVW {K : PySem.W.Frag} {σ : L2.St} {H : Hp} {ta tb : TE} {xs ys : List V} {a b : Addr} (ha : Ev ta σ H (.ref a)) (h0 : H a = some (.lst xs)) (hb : Ev tb σ H (.ref b)) (h1 : H b = some (.lst ys)) (hz : xs.length + ys.length ≤ 100000) : EvL (tOp rCat ta tb) σ H (xs ++ ys) := fun H1 e Q q =>
  ha H1 e _ fun H2 e2 => hb H2 (e.trans e2) _ fun H3 e3 => ⟨a, b, xs, ys, rfl, rfl, ((e.trans e2).trans e3) a _ h0, ((e.trans e2).trans e3) b _ h1, sz_of hz, fun l hl => q l _ (fresh_back (e2.trans e3) hl) ((e2.trans e3).trans (Ex.new hl)) upd_same⟩
theorem tIn_any {σ : L2.St} {H : Hp} {te : TE} {D : Ends} {i : Nat} {R : V → Hp → Prop} (h : EvX te σ H R) (k : ∀ v H1, Ex H H1 → R v H1 → D.nx (σ.set i (some v)) H1) : tAsg te (gName i) D σ H := h H (Ex.refl H) _ k
theorem evx_catW {σ : L2.St} {H : Hp} {ta tb : TE} {a : Addr} {xs : List V} {R : List V → Prop} (ha : Ev ta σ H (.ref a)) (h0 : H a = some (.lst xs)) (hb : EvX tb σ H (fun v H' => ∃ (p : Addr) (ys : List V), v = .ref p ∧ H' p = some (.lst ys) ∧ xs.length + ys.length ≤ 100000 ∧ R ys)) :
    EvX (tOp rCat ta tb) σ H (fun v H' => ∃ (p : Addr) (ys : List V), v = .ref p ∧ H' p = some (.lst (xs ++ ys)) ∧ R ys) := fun H1 e Q q =>
  ha H1 e _ fun H2 e2 => hb H2 (e.trans e2) _ fun v H3 e3 r => by
    obtain ⟨p, ys, rfl, hp, hz, hr⟩ := r
    exact ⟨a, p, xs, ys, rfl, rfl, ((e.trans e2).trans e3) a _ h0, hp, sz_of hz, fun l hl => q _ _ ((e2.trans e3).trans (Ex.new hl)) ⟨l, ys, rfl, upd_same, hr⟩⟩
theorem given_filter (f : Str → Bool) (ys : List Str) : given ys.length (fun i => f (ys.getD i "")) (fun i => .str (ys.getD i "")) = (ys.filter f).map V.str := by
  have e : (List.range ys.length).map (fun i => ys.getD i "") = ys := by
    apply List.ext_getElem
    · simp
    · intro i h1 h2
      simp [List.getD_eq_getElem?_getD, h2]
  have h : ys.filter f = ((List.range ys.length).filter fun i => f (ys.getD i "")).map fun i => ys.getD i "" := by
    have := List.filter_map (f := fun i => ys.getD i "") (p := f) (l := List.range ys.length)
    rw [e] at this
    exact this
  rw [h, List.map_map]
  rfl
theorem q_rare {K : PySem.W.Frag} {σ : L2.St} {H : Hp} {ta : TA} {tz : TS} {D : Ends} {i : Nat} {P b : Addr} {E : XK} (h : EvA ta σ H [.ref b]) (k : ∀ H1, Ex H H1 → spRare K P [.ref b] H1 (fun v H2 => tz D (σ.set i (some v)) H2) E) : tSeq (tAsg (tCall (spRare K P) [] E ta) (gName i)) tz D σ H := h H (Ex.refl H) _ fun H1 e1 => k H1 e1
theorem s_rareEq {K : PySem.W.Frag} {σ : L2.St} {H : Hp} {te tb : TE} {D : Ends} {P : Addr} {E : XK} {rr : R2} {R : V → Hp → Prop} (h : EvX te σ H R) (k : ∀ v H1, Ex H H1 → R v H1 → spRare K P [v] H1 (fun v H2 => tb σ H2 fun y H3 => rr v y H3 D.rt) E) : tRet (tOp rr (tCall (spRare K P) [] E (tCons te tNil)) tb) D σ H := h H (Ex.refl H) _ fun v H1 e1 r => k v H1 e1 r
def SortedOf (sw W : List Str) : Prop := sortedS sw = true ∧ sw.Nodup ∧ ∀ j, j ∈ sw ↔ j ∈ W
theorem by_next (sw W : List Str) (i : Nat) : MuLam.byRare sw W (i + 1) = MuLam.byRare sw W i ++ sw.filter fun u => decide (W.count u = i + 1) := by
  unfold MuLam.byRare
  rw [List.range_succ, List.map_append, List.flatten_append]
  simp
theorem by_same {sw W W2 : List Str} (n : Nat) (h : ∀ u, W2.count u = W.count u) : MuLam.byRare sw W2 n = MuLam.byRare sw W n := by
  unfold MuLam.byRare
  simp only [h]
theorem cnt_sum : ∀ (ls : List (List Str)) (u : Str), (∀ c ∈ ls, c.Nodup) → ls.flatten.count u ≤ ls.length
  | [], u, _ => Nat.le_refl 0
  | c :: r, u, h => by
    have h1 := cnt_sum r u fun e m => h e (List.mem_cons_of_mem _ m)
    have h2 : c.count u ≤ 1 := List.nodup_iff_count.mp (h c List.mem_cons_self) u
    rw [List.flatten_cons, List.count_append, List.length_cons]
    omega
theorem rev_cnt (ls : List (Addr × List Str)) (u : Str) : ((ls.reverse.map fun c => c.2.reverse).flatten).count u = (sumL ls).count u := by
  unfold sumL
  induction ls with
  | nil => rfl
  | cons c r ih =>
    rw [List.reverse_cons, List.map_append, List.flatten_append, List.count_append, ih, List.map_cons, List.map_cons, List.map_nil, List.flatten_cons, List.flatten_cons, List.flatten_nil, List.append_nil, List.count_append, List.count_reverse]
    omega
theorem rv_neV {K : PySem.W.Frag} {H : Hp} {a b : Addr} {xs ys : List V} {n : Nat} (h1 : SqL K H a xs) (h2 : SqL K H b ys) (hn : n ≤ 50) (p : ∀ H1, Ex H H1 → Paired (EqV K H1 n) xs ys) : RV (MuBag.rNeV K) (.ref a) (.ref b) H (.bl false) := fun H1 e Q q => ⟨a, b, xs, ys, n, rfl, rfl, ex_l e h1, ex_l e h2, hn, p H1 e, q H1 (Ex.refl H1)⟩
def spLaw (K : PySem.W.Frag) (tabs : List Addr) : Sp := fun vs H Q _ => ∃ (a : Addr) (ns : List Int), vs = [.ref a] ∧ SqL K H a (ns.map V.int) ∧ ns.length ≤ 63 ∧ (∀ P ∈ tabs, H P = some (.tbl #[])) ∧ ∀ H', (∀ P ∈ tabs, ∃ qs, H' P = some (.tbl qs)) → Q (.bl true) H'
theorem ok_p_law (T : Txt K mg base) {f : Addr} {fd : FuncData} (F : Fun K "law" "law" s_p_law f fd) : FnOk P w K mg base CX0 4 f fd ["_law_script"] (spLaw K [T.P_p_rare_order]) := by
  refine F.ok sc_p_law (fun vs H Q E h => ?_) (fun cdv A outer s H vs Q E hr h => ?_)
  · obtain ⟨a, ns, rfl, _⟩ := h
    rfl
  · obtain ⟨a, ns, rfl, hs, hz, hT, q⟩ := h
    have hT0 := LamX.TabS.nil (q := rareQ) (hT T.P_p_rare_order (by simp))
    refine ⟨_, (pss_cons (ps_set (i := 0) sc_p_law.nd rfl (.inl rfl) (pe_call (ok_l_cut T) (hr.mono (by decide)) rfl T.g_l_cut T.F_l_cut.kp T.b_l_cut .nil pass0 (pa_cons (pv 0) pa_nil)))
      (pss_cons (ps_set (i := 1) sc_p_law.nd rfl (.inl rfl) (pe_call (ok_l_lot T) (hr.mono (by decide)) rfl T.g_l_lot T.F_l_lot.kp T.b_l_lot .nil pass0 (pa_cons (pv 0) pa_nil)))
      (pss_cons (ps_set (i := 2) sc_p_law.nd rfl (.inr rfl) (pe_lst pa_nil))
      (pss_cons (ps_for PassesOwn.never rfl (pi_list (pv 1)) (pg_name (i := 3) sc_p_law.nd rfl (.inl rfl))
      (pss_one (ps_set (i := 2) sc_p_law.nd rfl (.inr rfl) (pe_op op_cat (pv 2) (pv 3)))))
      (pss_cons (ps_set (i := 4) sc_p_law.nd rfl (.inl rfl) (pe_lst pa_nil))
      (pss_cons (ps_for PassesOwn.never rfl (pi_range2 (by rfl) T.z_range (pa_cons pe_int (pa_cons (pe_op op_add (pe_callB call_len_seq (by rfl) T.z_len (by decide +kernel) (pa_cons (pv 1) pa_nil)) pe_int) pa_nil))) (pg_name (i := 5) sc_p_law.nd rfl (.inr rfl))
      (pss_one (ps_set (i := 4) sc_p_law.nd rfl (.inl rfl) (pe_op op_cat (pv 4) (pe_lc (own := [("_law_word", 6)]) (g := gName 6) (tt := tTest (tOp rEq (tBM K "list" (MuX.rCntS K) (tVar 2) (tCons (tVar 6) tNil)) (tVar 5))) rfl sc_p_law.nd (pi_list (pe_callB (MuSet.cr_sortedTx rfl) (by rfl) T.z_sorted (by decide +kernel) (pa_cons (pe_callTy (MuSet.cr_setTx rfl) (by rfl) T.z_set (by decide +kernel) (pa_cons (pv 2) pa_nil)) pa_nil))) (blkOk_by (N := ["_law_script", "_law_lot_here", "_law_words", "_law_some", "_law_due", "_law_many", "_law_word", "_law_handed", "_law_again", "_law_got"]) (sc := defScope s_p_law) (by decide +kernel)) (fun _ _ _ _ _ => (pg_name (i := 6) sc_p_law.nd rfl (Or.inl rfl))) (fun _ _ _ _ _ => by exact (pts_one (pt_cmpR op_eq (pe_bm PySem.F.plainAttrs_list PySem.F.slot_list_count PySem.F.type_list_count (show MtR _ "list.count" (MuX.rCntS K) from MuX.mtS_count) (pv 2) (pa_cons (pv 6) pa_nil)) (pv 5) (nomark _)))) (fun _ _ _ _ _ => by exact (pv 6)))))))
      (pss_cons (ps_setLc (i := 7) (own := [("_law_some", 3)]) (g := gName 3) (tt := tYes) rfl sc_p_law.nd rfl rfl (sw_true rfl rfl rfl (by decide +kernel)) (pi_list (pv 1)) (blkOk_by (N := ["_law_script", "_law_lot_here", "_law_words", "_law_some", "_law_due", "_law_many", "_law_word", "_law_handed", "_law_again", "_law_got"]) (sc := defScope s_p_law) (by decide +kernel)) (fun _ _ _ _ _ => (pg_name (i := 3) sc_p_law.nd rfl (Or.inl rfl))) (fun _ _ _ _ _ => pts_nil) (fun _ _ _ _ _ => (pe_callTy (show CallR _ (.type "list") (Evl.rListS K) from call_list_of) (by rfl) T.z_list (by decide +kernel) (pa_cons (pv 3) pa_nil))))
      (pss_cons (ps_for PassesOwn.never rfl (pi_range1 (by rfl) T.z_range (pa_cons pe_int pa_nil)) (pg_name (i := 8) sc_p_law.nd rfl (.inl rfl))
      (pss_cons (ps_set (i := 9) sc_p_law.nd rfl (.inl rfl) (pe_call (ok_p_rare_order T) (hr.mono (by decide)) rfl T.g_p_rare_order T.F_p_rare_order.kp T.b_p_rare_order .nil pass0 (pa_cons (pv 7) pa_nil)))
      (pss_cons (ps_if (PW.pt (pw_or (pt_not (pt_val (pe_callB call_isi (by rfl) T.z_isinstance (by decide +kernel) (pa_cons (pv 9) (pa_cons (pe_bltn (v := .ty "list") (by rfl) T.z_list (by decide +kernel) rfl) pa_nil))))) (pw_or (pt_cmpR (MuBag.op_neV hr.units) (pv 9) (pv 4) (nomark _)) (pw_or1 (pt_cmpR (MuBag.op_neV hr.units) (pv 7) (pv 1) (nomark _))))))
      (pss_one (ps_ret pe_bl))
      pss_nil)
      (pss_one (ps_expr (pe_bm PySem.F.plainAttrs_list PySem.F.slot_list_append PySem.F.type_list_append mt_append (pv 9) (pa_cons pe_str pa_nil)))))))
      (pss_one (ps_ret (pe_cmpR (MuEqL.op_eqV hr.units) (pe_call (ok_p_rare_order T) (hr.mono (by decide)) rfl T.g_p_rare_order T.F_p_rare_order.kp T.b_p_rare_order .nil pass0 (pa_cons (pe_lc (own := [("_law_some", 3)]) (g := gName 3) (tt := tYes) rfl sc_p_law.nd (pi_list (pe_revL (pv 1))) (blkOk_by (N := ["_law_script", "_law_lot_here", "_law_words", "_law_some", "_law_due", "_law_many", "_law_word", "_law_handed", "_law_again", "_law_got"]) (sc := defScope s_p_law) (by decide +kernel)) (fun _ _ _ _ _ => (pg_name (i := 3) sc_p_law.nd rfl (Or.inl rfl))) (fun _ _ _ _ _ => pts_nil) (fun _ _ _ _ _ => (show PE _ _ (tRevL K _) from pe_revL (pv 3)))) pa_nil)) (pv 4) (nomark _)))))))))))), ?_⟩
    refine q_asgL (el_callL (by walk_at "mu g") fun H1 e1 => ⟨a, ns, rfl, ex_l e1 hs, hz, rfl⟩) fun p0 H1 hp0 e1 h1 => ?_
    generalize ns.map cutI = cs at h1
    refine q_asgX (R := fun v H' => ∃ (p : Addr) (ls : List (Addr × List Str)), v = .ref p ∧ H' p = some (.lst (ls.map fun p => V.ref p.1)) ∧ LotAt H' ls ∧ ls.length ≤ 13 ∧ ∃ ws : List Str, ws.length ≤ 16 ∧ ∀ c ∈ ls, c.2.Nodup ∧ ∀ u ∈ c.2, u ∈ ws) (evx_call (vs := [.ref p0]) (ea_cons (ev_var rfl) ea_nil) fun H2 e2 => ⟨_, ⟨p0, cs, rfl, sq_of (e2 _ _ h1), rfl⟩, fun v H3 e3 r => ?_⟩) fun v H2 e2 r => ?_
    · obtain ⟨p, ls, rfl, _, r1, r2, r3, ws, _, r4, r5⟩ := r
      exact ⟨p, ls, rfl, r1, r2, r3, ws, r4, fun c m => (r5 c m).2.2⟩
    obtain ⟨pl, ls, rfl, hpl, hat, l13, ws, l16, hls⟩ := r
    have len16 : ∀ c ∈ ls, c.2.length ≤ 16 := fun c m => Nat.le_trans (nodup_bound (hls c m).1 (hls c m).2) l16
    have big : (sumL ls).length ≤ 3600 := sum_len (by omega) fun c m => Nat.le_trans (len16 c m) (by decide)
    have e02 := e1.trans e2
    refine q_asgL (xs := []) (el_lst (by walk_at "mu g") (by decide)) fun p2 H3 hp2 e3 h3 => ?_
    refine q_forLn (xs := ls.map fun p => V.ref p.1) (ev_var rfl) (sq_of (e3 _ _ hpl)) (fun i σ' H' => Ex H3 H' ∧ ∃ (pw : Addr) (x3 : Option V), TxL H' pw (sumL (ls.take i)) ∧ σ' = [some (.ref p0), some (.ref pl), some (.ref pw), x3, none, none, none, none, none, none]) (fun H4 e4 => ⟨e4, p2, _, e4 _ _ h3, rfl⟩) (fun i σ' H' _ hp => sq_of (hp.1 _ _ (e3 _ _ hpl))) (fun i x σ' H' hx hp => ?_) (fun σ' H' hp => ?_)
    · obtain ⟨e4, pw, x3, hw, rfl⟩ := hp
      obtain ⟨c, hc, rfl⟩ : ∃ c, ls[i]? = some c ∧ x = .ref c.1 := by
        rw [List.getElem?_map] at hx
        cases y : ls[i]? with
        | none =>
          rw [y] at hx
          exact nomatch hx
        | some c =>
          rw [y] at hx
          exact ⟨c, rfl, (Option.some.inj hx).symm⟩
      have mc := List.mem_of_getElem? hc
      have ec : sumL (ls.take (i + 1)) = sumL (ls.take i) ++ c.2 := by
        unfold sumL
        rw [List.take_add_one, hc, List.map_append, List.flatten_append]
        simp
      have zt : (sumL (ls.take i)).length ≤ 3600 := sum_len (by rw [List.length_take]; omega) fun c m => Nat.le_trans (len16 c (List.mem_of_mem_take m)) (by decide)
      have zc := len16 c mc
      refine s_asgL (el_catVW (K := K) (ev_var rfl) hw (ev_var rfl) ((e3.trans e4) _ _ (hat c mc)) (by rw [List.length_map, List.length_map]; omega)) fun p5 H5 hp5 e5 h5 => ⟨e4.trans e5, p5, _, ?_, rfl⟩
      rw [ec]
      show H5 p5 = some (.lst ((sumL (ls.take i) ++ c.2).map V.str))
      rw [List.map_append]
      exact h5
    obtain ⟨e4, pw, x3, hw, rfl⟩ := hp
    rw [List.length_map, List.take_length] at hw
    generalize hW : sumL ls = W at *
    have e04 := (e02.trans e3).trans e4
    have e24 := e3.trans e4
    have memW : ∀ u ∈ W, u ∈ ws := fun u hu => by
      rw [← hW] at hu
      unfold sumL at hu
      obtain ⟨l, ml, mu⟩ := List.mem_flatten.mp hu
      obtain ⟨c, mc, rfl⟩ := List.mem_map.mp ml
      exact (hls c mc).2 u mu
    refine q_asgL (xs := []) (el_lst (by walk_at "mu g") (by decide)) fun p4 H5 hp4 e5 h5 => ?_
    refine q_forR2 (lo := 1) (n := (ls.length : Int) + 1) (ea_cons ev_c (ea_cons (ev_op (ev_is (ev_len (ev_var rfl) (sq_of ((e24.trans e5) _ _ hpl))) (by rw [List.length_map])) ev_c rv_I0) ea_nil)) (by omega)
      (fun i σ' H' => Ex H5 H' ∧ ∃ (pd : Addr) (ds : List Str) (x5 x6 : Option V), TxL H' pd ds ∧ ds.length ≤ 16 * i ∧ (∀ sw, SortedOf sw W → ds = MuLam.byRare sw W i) ∧ (i = 0 ∨ ∃ sw, SortedOf sw W) ∧ σ' = [some (.ref p0), some (.ref pl), some (.ref pw), x3, some (.ref pd), x5, x6, none, none, none])
      (fun H6 e6 => ⟨e6, p4, [], _, _, e6 _ _ h5, Nat.zero_le _, fun _ _ => rfl, .inl rfl, rfl⟩) (fun i σ' H' hi hp => ?_) (fun σ' H' hp => ?_)
    · obtain ⟨e6, pd, ds, x5, x6, hd, ld, hds, _, rfl⟩ := hp
      have e46 := e5.trans e6
      have hw6 := e46 _ _ hw
      -- due + [.. for word in sorted(set(words)) if ..]
      refine tIn_any (R := fun v H'' => ∃ (p : Addr) (ys : List Str), v = .ref p ∧ TxL H'' p (ds ++ ys) ∧ ys.length ≤ 16 ∧ ∃ sw, SortedOf sw W ∧ ys = sw.filter fun u => decide (W.count u = i + 1)) ?_ fun v H7 e7 r => ?_
      · refine evx_mono (evx_catW (R := fun ys => ∃ us : List Str, ys = us.map V.str ∧ us.length ≤ 16 ∧ ∃ sw, SortedOf sw W ∧ us = sw.filter fun u => decide (W.count u = i + 1)) (ev_var rfl) hd (evx_lcThen (R := fun v H'' => ∃ (q : Addr) (ys : List Str), v = .ref q ∧ TxL H'' q ys ∧ ys.length ≤ 16 ∧ SortedOf ys W) (fun H7 e7 Q q => ?_) fun v H7 e7 r => ?_)) fun v H7 e7 r => ?_
        · refine ⟨.ref pw, rfl, pw, W, rfl, sq_of (e7 _ _ hw6), by omega, fun sa sl n1 nd1 m1 l1 => ?_⟩
          have e8 : Ex H7 _ := Ex.new (o := MuSet.SetTx P w sa sl) n1
          have z16 : sl.length ≤ ws.length := nodup_bound nd1 fun u hu => memW u ((m1 u).mp hu)
          refine ⟨sa, sl, rfl, upd_same, by omega, fun r ys hr hsort nd hm => q _ _ (e8.trans (Ex.new hr)) ⟨r, ys, rfl, upd_same, ?_, hsort, nd, fun j => (hm j).trans (m1 j)⟩⟩
          exact Nat.le_trans (nodup_bound nd fun u hu => memW u ((m1 u).mp ((hm u).mp hu))) l16
        · obtain ⟨qa, ys, rfl, hq, l16y, hso⟩ := r
          refine evx_mono (MuTri.evx_L (xs := (ys.filter fun u => decide (W.count u = i + 1)).map V.str) (el_is (el_lcL (K := K) (xs := ys.map V.str) (a := qa) (fun k => decide (W.count (ys.getD k "") = i + 1)) (fun k => .str (ys.getD k "")) ev_c (sq_of hq) (by rw [List.length_map]; omega) (fun x => rfl) (fun k x H9 e9 hk => ?_) (fun k x H9 e9 hk _ => ?_)) (by rw [List.length_map]; exact given_filter (fun u => decide (W.count u = i + 1)) ys))) fun v H8 e8 r => ?_
          · obtain ⟨u, hu, rfl⟩ := str_at hk
            have eu : ys.getD k "" = u := by rw [List.getD_eq_getElem?_getD, hu]; rfl
            rw [eu]
            refine et_is (et_test (ev_op (MuX.ev_countS (ev_var rfl) (sq_of ((e7.trans e9) _ _ hw6)) (ev_var rfl)) (ev_var rfl) rv_eqI)) (decide_eq_decide.mpr ?_)
            omega
          · obtain ⟨u, hu, rfl⟩ := str_at hk
            have eu : ys.getD k "" = u := by rw [List.getD_eq_getElem?_getD, hu]; rfl
            rw [eu]
            exact ev_var rfl
          · obtain ⟨p, rfl, _, hp⟩ := r
            have zf := List.length_filter_le (fun u => decide (W.count u = i + 1)) ys
            exact ⟨p, _, rfl, hp, by rw [List.length_map, List.length_map]; omega, _, rfl, by omega, ys, hso, rfl⟩
        · obtain ⟨p, ys, rfl, h7, us, rfl, lu, sw, hsw, eu⟩ := r
          refine ⟨p, us, rfl, ?_, lu, sw, hsw, eu⟩
          show H7 p = some (.lst ((ds ++ us).map V.str))
          rw [List.map_append]
          exact h7
      · obtain ⟨p, ys, rfl, h7, ly, sw, hsw, ey⟩ := r
        refine ⟨e6.trans e7, p, ds ++ ys, _, _, h7, by rw [List.length_append]; omega, fun sw2 h2 => ?_, .inr ⟨sw, hsw⟩, rfl⟩
        have es : sw2 = sw := sorted_same h2.1 hsw.1 h2.2.1 hsw.2.1 fun j => (h2.2.2 j).trans (hsw.2.2 j).symm
        rw [by_next, ey, es, hds sw hsw]
    obtain ⟨e6, pd, ds, x5, x6, hd, ldd, hds, hsw, rfl⟩ := hp
    replace ldd : ds.length ≤ 1000 := by omega
    have en : ((ls.length : Int) + 1 - 1).toNat = ls.length := by omega
    rw [en] at hds hsw
    obtain ⟨sw, hso⟩ : ∃ sw, SortedOf sw W := by
      rcases hsw with z | z
      · have : ls = [] := List.length_eq_zero_iff.mp z
        rw [this] at hW
        exact ⟨[], rfl, List.nodup_nil, fun j => by rw [← hW]; exact Iff.rfl⟩
      · exact z
    have hdue := hds sw hso
    have cntW : ∀ u, W.count u ≤ ls.length := fun u => by
      rw [← hW]
      have := cnt_sum (ls.map (·.2)) u fun l m => by
        obtain ⟨c, mc, rfl⟩ := List.mem_map.mp m
        exact (hls c mc).1
      rw [List.length_map] at this
      exact this
    have sortW : ∀ W2 : List Str, (∀ u, W2.count u = W.count u) → (MuBag.firsts W2).mergeSort (PySem.W.dataLe false (MuLam.keyD (MuBag.cntD W2))) = ds := fun W2 h2 => by
      have hm : ∀ u, u ∈ sw ↔ u ∈ W2 := fun u => by
        rw [hso.2.2 u, ← List.count_pos_iff, ← List.count_pos_iff, h2 u]
      rw [MuLam.rare_is (n := ls.length) hso.2.1 hm (sorted_pair hso.1) (fun u _ => by rw [h2 u]; exact cntW u), by_same ls.length h2, ← hdue]
    have e56 := e5.trans e6
    refine q_asgX (evx_copies (ls := ls) (a := pl) (ev_var rfl) (sq_of ((e24.trans e56) _ _ hpl)) (by omega) (hat.later (e24.trans e56)) (show 3 < 10 by decide) (fun x => rfl)) fun v H7 e7 r => ?_
    obtain ⟨ph, cps, rfl, _, hph, hcs, hcat, _⟩ := r
    have lc : cps.length = ls.length := by
      have := congrArg List.length hcs
      simpa using this
    have cp16 : ∀ c ∈ cps, c.2.length ≤ 60 := fun c m => by
      have : c.2 ∈ ls.map (·.2) := by rw [← hcs]; exact List.mem_map.mpr ⟨c, m, rfl⟩
      obtain ⟨d, md, ed⟩ := List.mem_map.mp this
      have := len16 d md
      rw [ed] at this
      omega
    have hT7 : LamX.TabS H7 T.P_p_rare_order rareQ := hT0.ext ((e04.trans e56).trans e7)
    have hWc : sumL cps = W := by
      rw [← hW]
      unfold sumL
      rw [hcs]
    let Big : Hp → Prop := fun H' => H' pl = some (.lst (ls.map fun p => V.ref p.1)) ∧ LotAt H' ls ∧ H' ph = some (.lst (cps.map fun p => V.ref p.1)) ∧ LotAt H' cps ∧ TxL H' pd ds ∧ LamX.TabS H' T.P_p_rare_order rareQ
    have bigE : ∀ {H' H''}, Big H' → Ex H' H'' → Big H'' := fun {H' H''} b e => ⟨e _ _ b.1, b.2.1.later e, e _ _ b.2.2.1, b.2.2.2.1.later e, e _ _ b.2.2.2.2.1, b.2.2.2.2.2.ext e⟩
    have bigN : ∀ {H' H''}, Big H' → LamX.ExtN H' H'' → LamX.TabS H'' T.P_p_rare_order rareQ → Big H'' := fun {H' H''} b e t => ⟨e _ _ b.1 (fun _ z => nomatch z), fun c m => e _ _ (b.2.1 c m) (fun _ z => nomatch z), e _ _ b.2.2.1 (fun _ z => nomatch z), fun c m => e _ _ (b.2.2.2.1 c m) (fun _ z => nomatch z), e _ _ b.2.2.2.2.1 (fun _ z => nomatch z), t⟩
    refine q_forR1 (n := 2) (ea_cons ev_c ea_nil) (by decide) (fun i σ' H' => Big H' ∧ ∃ x8 x9, σ' = [some (.ref p0), some (.ref pl), some (.ref pw), x3, some (.ref pd), x5, x6, some (.ref ph), x8, x9])
      (fun H8 e8 => ⟨bigE ⟨((e24.trans e56).trans e7) _ _ hpl, hat.later ((e24.trans e56).trans e7), hph, hcat, e7 _ _ hd, hT7⟩ e8, _, _, rfl⟩) (fun i σ' H' hi hp => ?_) (fun σ' H' hp => ?_)
    · obtain ⟨b, x8, x9, rfl⟩ := hp
      refine q_rare (b := ph) (ea_cons (ev_var rfl) ea_nil) fun H8 e8 => ⟨ph, cps, rfl, e8 _ _ b.2.2.1, by omega, b.2.2.2.1.later e8, cp16, b.2.2.2.2.2.ext e8, fun H9 pg eN hT9 hnew hg => ?_⟩
      have b8 := bigE b e8
      have b9 := bigN b8 eN hT9
      have ne : ∀ {x : Addr} {xs : List V}, H8 x = some (.lst xs) → x ≠ pg := fun {x xs} h z => by
        rw [z] at h
        obtain ⟨ps, e⟩ := hnew _ h
        exact nomatch e
      rw [hWc, sortW W fun _ => rfl] at hg
      refine q_when (b := !true || (false || false)) (et_or (et_not (et_B (ev_cb (ea_cons (ev_var rfl) (ea_cons ev_c ea_nil)) (rc_isiLst hg (by rfl))))) fun _ => et_or (et_test (ev_op (ev_var rfl) (ev_var rfl) (rv_neV (n := 1) (sq_of hg) (sq_of b9.2.2.2.2.1) (by decide) fun _ _ => texts_eq (n := 0) ds))) fun _ => et_test (ev_op (ev_var rfl) (ev_var rfl) (rv_neV (n := 2) (sq_of b9.2.2.1) (sq_of b9.1) (by decide) fun H3 e3 => refs_eq hcs (b9.2.2.2.1.later e3) (b9.2.1.later e3)))) (fun hb => by cases hb) (fun _ H10 e10 => ?_)
      have ld : ds.length ≤ 1000 := ldd
      refine s_app (e10 _ _ hg) (ev_var rfl) ev_c (by rw [List.length_map]; omega) fun H11 e11 => ?_
      have e911 := e10.trans e11
      have b11 := bigE b9 e911
      have hg11 := e911 _ _ hg
      refine ⟨⟨(upd_ne (ne b8.1)).trans b11.1, fun c m => (upd_ne (ne (b8.2.1 c m))).trans (b11.2.1 c m), (upd_ne (ne b8.2.2.1)).trans b11.2.2.1, fun c m => (upd_ne (ne (b8.2.2.2.1 c m))).trans (b11.2.2.2.1 c m), (upd_ne (ne b8.2.2.2.2.1)).trans b11.2.2.2.2.1, ?_⟩, _, _, rfl⟩
      obtain ⟨ps, t1, t2, t3⟩ := b11.2.2.2.2.2
      refine ⟨ps, (upd_ne fun z => ?_).trans t1, t2, fun pos cv hc => ?_⟩
      · rw [z, hg11] at t1
        exact nomatch t1
      · obtain ⟨c, c1, c2⟩ := t3 pos cv hc
        refine ⟨c, c1, (upd_ne fun z => ?_).trans c2⟩
        rw [z, hg11] at c2
        exact nomatch c2
    · obtain ⟨b, x8, x9, rfl⟩ := hp
      have rl : (ls.map fun p => V.ref p.1).reverse = ls.reverse.map fun p => V.ref p.1 := by rw [List.map_reverse]
      refine s_rareEq (evx_lcThen (MuTri.evx_L (MuBag.el_rev (ev_var rfl) (sq_of b.1))) fun v H8 e8 r => ?_) (R := fun v H' => ∃ (p : Addr) (rs : List (Addr × List Str)), v = .ref p ∧ H' p = some (.lst (rs.map fun p => V.ref p.1)) ∧ rs.map (·.2) = ls.reverse.map (fun c => c.2.reverse) ∧ LotAt H' rs) fun v H8 e8 r => ?_
      · obtain ⟨pr, rfl, _, hr⟩ := r
        rw [rl] at hr
        refine evx_mono (evx_revs (ls := ls.reverse) ev_c (sq_of hr) (by rw [List.length_reverse]; omega) (fun c m => e8 _ _ (b.2.1 c (List.mem_reverse.mp m))) (show 3 < 10 by decide) (fun x => rfl)) fun v H9 e9 r => ?_
        obtain ⟨pq, rs, rfl, _, r1, r2, r3, _⟩ := r
        exact ⟨pq, rs, rfl, r1, r2, r3⟩
      · obtain ⟨pq, rs, rfl, hq, hrs, hrat⟩ := r
        have b8 := bigE b e8
        have lr : rs.length = ls.length := by
          have := congrArg List.length hrs
          simpa using this
        refine ⟨pq, rs, rfl, hq, by omega, hrat, fun c m => ?_, b8.2.2.2.2.2, fun H9 pg eN hT9 hnew hg => ?_⟩
        · have : c.2 ∈ ls.reverse.map (fun c => c.2.reverse) := by rw [← hrs]; exact List.mem_map.mpr ⟨c, m, rfl⟩
          obtain ⟨d, md, ed⟩ := List.mem_map.mp this
          have := len16 d (List.mem_reverse.mp md)
          rw [← ed, List.length_reverse]
          omega
        · have b9 := bigN b8 eN hT9
          rw [sortW (sumL rs) fun u => by
            rw [← hW, ← rev_cnt ls u]
            unfold sumL
            rw [hrs]] at hg
          refine ⟨.ref pd, rfl, pg, pd, _, _, 1, rfl, rfl, sq_of hg, sq_of b9.2.2.2.2.1, by decide, texts_eq (n := 0) ds, q H9 fun P m => ?_⟩
          obtain rfl := List.mem_singleton.mp m
          obtain ⟨ps, t1, _⟩ := b9.2.2.2.2.2
          exact ⟨ps, t1⟩

end
set_option maxHeartbeats 4000000 in
theorem all_mk {l : PySem.W.OpenLaw} {w : World} {K : PySem.W.Frag} {h : Heap} {mg : Str → Option Value} {fa : Addr} (X : K.In h) (G : h.Ns mainGlobals mg) (hfa : mg "law" = some (.ref fa)) (tabs : ∀ (y : Str) (c P : Addr), y ∈ (["rare_order"] : List Str) → PySem.W.tabIn K y = some (c, P) → PySem.W.CodeHd h c P ∧ h.get? P = some { cls := .none, data := .fields #[] })
    {oc_p_rare_order kV_p_rare_order dc_p_rare_order pm_p_rare_order ct_p_rare_order : Value} {od_p_rare_order an_p_rare_order : Option Addr} {sl_p_rare_order : Array (Option Value)} {f_p_rare_order : Addr}
    {oc_l_cell_at kV_l_cell_at dc_l_cell_at pm_l_cell_at cd_l_cell_at ct_l_cell_at : Value} {od_l_cell_at an_l_cell_at : Option Addr} {sl_l_cell_at : Array (Option Value)} {f_l_cell_at : Addr}
    {oc_l_mix kV_l_mix dc_l_mix pm_l_mix cd_l_mix ct_l_mix : Value} {od_l_mix an_l_mix : Option Addr} {sl_l_mix : Array (Option Value)} {f_l_mix : Addr}
    {oc_l_turned_row kV_l_turned_row dc_l_turned_row pm_l_turned_row cd_l_turned_row ct_l_turned_row : Value} {od_l_turned_row an_l_turned_row : Option Addr} {sl_l_turned_row : Array (Option Value)} {f_l_turned_row : Addr}
    {oc_l_names kV_l_names dc_l_names pm_l_names cd_l_names ct_l_names : Value} {od_l_names an_l_names : Option Addr} {sl_l_names : Array (Option Value)} {f_l_names : Addr}
    {oc_l_set kV_l_set dc_l_set pm_l_set cd_l_set ct_l_set : Value} {od_l_set an_l_set : Option Addr} {sl_l_set : Array (Option Value)} {f_l_set : Addr}
    {oc_l_lot kV_l_lot dc_l_lot pm_l_lot cd_l_lot ct_l_lot : Value} {od_l_lot an_l_lot : Option Addr} {sl_l_lot : Array (Option Value)} {f_l_lot : Addr}
    {oc_l_cut kV_l_cut dc_l_cut pm_l_cut cd_l_cut ct_l_cut : Value} {od_l_cut an_l_cut : Option Addr} {sl_l_cut : Array (Option Value)} {f_l_cut : Addr}
    {oc_p_law kV_p_law dc_p_law pm_p_law cd_p_law ct_p_law : Value} {od_p_law an_p_law : Option Addr} {sl_p_law : Array (Option Value)} {f_p_law : Addr}
    {c_p_rare_order P_p_rare_order : Addr}
    (A_p_rare_order : PySem.W.nsIn K mainGlobals "rare_order" = some (some (.ref f_p_rare_order))) (L_p_rare_order : K.lookup f_p_rare_order = some ⟨oc_p_rare_order, od_p_rare_order, .func (PySem.W.fnOf "rare_order" "rare_order" (defArgs s_p_rare_order) (defBody s_p_rare_order) (defScope s_p_rare_order) .none kV_p_rare_order dc_p_rare_order pm_p_rare_order an_p_rare_order (.ref c_p_rare_order) ct_p_rare_order), sl_p_rare_order⟩) (C_p_rare_order : PySem.W.codeIn K (.ref c_p_rare_order) "rare_order" = true) (K_p_rare_order : PySem.W.keepIn K (.ref f_p_rare_order) = true)
    {oe_p_rare_order : Value} {oo_p_rare_order : Option Addr} {ov_p_rare_order : Array Value} {os_p_rare_order : Array (Option Value)} (D_p_rare_order : K.lookup c_p_rare_order = some ⟨oe_p_rare_order, oo_p_rare_order, .fields ov_p_rare_order, os_p_rare_order⟩) (V_p_rare_order : ov_p_rare_order[11]? = some (.ref P_p_rare_order)) (N_p_rare_order : K.lookup P_p_rare_order = none)
    (A_l_cell_at : PySem.W.nsIn K mainGlobals "_law_cell_at" = some (some (.ref f_l_cell_at))) (L_l_cell_at : K.lookup f_l_cell_at = some ⟨oc_l_cell_at, od_l_cell_at, .func (PySem.W.fnOf "_law_cell_at" "_law_cell_at" (defArgs s_l_cell_at) (defBody s_l_cell_at) (defScope s_l_cell_at) .none kV_l_cell_at dc_l_cell_at pm_l_cell_at an_l_cell_at cd_l_cell_at ct_l_cell_at), sl_l_cell_at⟩) (C_l_cell_at : PySem.W.codeIn K cd_l_cell_at "_law_cell_at" = true) (K_l_cell_at : PySem.W.keepIn K (.ref f_l_cell_at) = true)
    (A_l_mix : PySem.W.nsIn K mainGlobals "_law_mix" = some (some (.ref f_l_mix))) (L_l_mix : K.lookup f_l_mix = some ⟨oc_l_mix, od_l_mix, .func (PySem.W.fnOf "_law_mix" "_law_mix" (defArgs s_l_mix) (defBody s_l_mix) (defScope s_l_mix) .none kV_l_mix dc_l_mix pm_l_mix an_l_mix cd_l_mix ct_l_mix), sl_l_mix⟩) (C_l_mix : PySem.W.codeIn K cd_l_mix "_law_mix" = true) (K_l_mix : PySem.W.keepIn K (.ref f_l_mix) = true)
    (A_l_turned_row : PySem.W.nsIn K mainGlobals "_law_turned_row" = some (some (.ref f_l_turned_row))) (L_l_turned_row : K.lookup f_l_turned_row = some ⟨oc_l_turned_row, od_l_turned_row, .func (PySem.W.fnOf "_law_turned_row" "_law_turned_row" (defArgs s_l_turned_row) (defBody s_l_turned_row) (defScope s_l_turned_row) .none kV_l_turned_row dc_l_turned_row pm_l_turned_row an_l_turned_row cd_l_turned_row ct_l_turned_row), sl_l_turned_row⟩) (C_l_turned_row : PySem.W.codeIn K cd_l_turned_row "_law_turned_row" = true) (K_l_turned_row : PySem.W.keepIn K (.ref f_l_turned_row) = true)
    (A_l_names : PySem.W.nsIn K mainGlobals "_law_names" = some (some (.ref f_l_names))) (L_l_names : K.lookup f_l_names = some ⟨oc_l_names, od_l_names, .func (PySem.W.fnOf "_law_names" "_law_names" (defArgs s_l_names) (defBody s_l_names) (defScope s_l_names) .none kV_l_names dc_l_names pm_l_names an_l_names cd_l_names ct_l_names), sl_l_names⟩) (C_l_names : PySem.W.codeIn K cd_l_names "_law_names" = true) (K_l_names : PySem.W.keepIn K (.ref f_l_names) = true)
    (A_l_set : PySem.W.nsIn K mainGlobals "_law_set" = some (some (.ref f_l_set))) (L_l_set : K.lookup f_l_set = some ⟨oc_l_set, od_l_set, .func (PySem.W.fnOf "_law_set" "_law_set" (defArgs s_l_set) (defBody s_l_set) (defScope s_l_set) .none kV_l_set dc_l_set pm_l_set an_l_set cd_l_set ct_l_set), sl_l_set⟩) (C_l_set : PySem.W.codeIn K cd_l_set "_law_set" = true) (K_l_set : PySem.W.keepIn K (.ref f_l_set) = true)
    (A_l_lot : PySem.W.nsIn K mainGlobals "_law_lot" = some (some (.ref f_l_lot))) (L_l_lot : K.lookup f_l_lot = some ⟨oc_l_lot, od_l_lot, .func (PySem.W.fnOf "_law_lot" "_law_lot" (defArgs s_l_lot) (defBody s_l_lot) (defScope s_l_lot) .none kV_l_lot dc_l_lot pm_l_lot an_l_lot cd_l_lot ct_l_lot), sl_l_lot⟩) (C_l_lot : PySem.W.codeIn K cd_l_lot "_law_lot" = true) (K_l_lot : PySem.W.keepIn K (.ref f_l_lot) = true)
    (A_l_cut : PySem.W.nsIn K mainGlobals "_law_cut" = some (some (.ref f_l_cut))) (L_l_cut : K.lookup f_l_cut = some ⟨oc_l_cut, od_l_cut, .func (PySem.W.fnOf "_law_cut" "_law_cut" (defArgs s_l_cut) (defBody s_l_cut) (defScope s_l_cut) .none kV_l_cut dc_l_cut pm_l_cut an_l_cut cd_l_cut ct_l_cut), sl_l_cut⟩) (C_l_cut : PySem.W.codeIn K cd_l_cut "_law_cut" = true) (K_l_cut : PySem.W.keepIn K (.ref f_l_cut) = true)
    (A_p_law : PySem.W.nsIn K mainGlobals "law" = some (some (.ref f_p_law))) (L_p_law : K.lookup f_p_law = some ⟨oc_p_law, od_p_law, .func (PySem.W.fnOf "law" "law" (defArgs s_p_law) (defBody s_p_law) (defScope s_p_law) .none kV_p_law dc_p_law pm_p_law an_p_law cd_p_law ct_p_law), sl_p_law⟩) (C_p_law : PySem.W.codeIn K cd_p_law "law" = true) (K_p_law : PySem.W.keepIn K (.ref f_p_law) = true)
    (Z_enumerate : PySem.W.nsIn K mainGlobals "enumerate" = some none)
    (Z_int : PySem.W.nsIn K mainGlobals "int" = some none)
    (Z_isinstance : PySem.W.nsIn K mainGlobals "isinstance" = some none)
    (Z_len : PySem.W.nsIn K mainGlobals "len" = some none)
    (Z_list : PySem.W.nsIn K mainGlobals "list" = some none)
    (Z_range : PySem.W.nsIn K mainGlobals "range" = some none)
    (Z_set : PySem.W.nsIn K mainGlobals "set" = some none)
    (Z_sorted : PySem.W.nsIn K mainGlobals "sorted" = some none)
    : MuGen.LawTab2 l w K CX0 4 63 "_law_script" mg fa h := by
  have e := hfa.symm.trans (PySem.W.mg_of X G A_p_law)
  cases e
  refine ⟨(PySem.W.fnOf "law" "law" (defArgs s_p_law) (defBody s_p_law) (defScope s_p_law) .none kV_p_law dc_p_law pm_p_law an_p_law cd_p_law ct_p_law), [(c_p_rare_order, P_p_rare_order)], spLaw K [P_p_rare_order], fun _ => .tbl #[], fun _ => .inr rfl, ?_, fun s v => .of_eq rfl, fun H a ns hl hT hS => ⟨a, ns, rfl, hS, hl, fun P hP => ?_, fun H' e => ⟨rfl, fun p hp => .inr (e p.2 (List.mem_map_of_mem (f := (·.2)) hp))⟩⟩, fun base _ _ TT => ?_⟩
  · intro p hp
    simp only [List.mem_cons, List.not_mem_nil, or_false] at hp
    rcases hp with rfl
    · exact ⟨(tabs "rare_order" c_p_rare_order P_p_rare_order (by simp) (MuGen.tab_at A_p_rare_order L_p_rare_order rfl D_p_rare_order V_p_rare_order)).2, N_p_rare_order, (tabs "rare_order" c_p_rare_order P_p_rare_order (by simp) (MuGen.tab_at A_p_rare_order L_p_rare_order rfl D_p_rare_order V_p_rare_order)).1⟩
  · obtain ⟨p, hp, rfl⟩ := List.mem_map.mp (show P ∈ ([(c_p_rare_order, P_p_rare_order)] : List (Addr × Addr)).map (·.2) from hP)
    exact hT p hp
  let T : Txt K mg base := { z_enumerate := PySem.W.mg_none_of X G Z_enumerate, z_int := PySem.W.mg_none_of X G Z_int, z_isinstance := PySem.W.mg_none_of X G Z_isinstance, z_len := PySem.W.mg_none_of X G Z_len, z_list := PySem.W.mg_none_of X G Z_list, z_range := PySem.W.mg_none_of X G Z_range, z_set := PySem.W.mg_none_of X G Z_set, z_sorted := PySem.W.mg_none_of X G Z_sorted, a_p_rare_order := f_p_rare_order, d_p_rare_order := _, c_p_rare_order := c_p_rare_order, P_p_rare_order := P_p_rare_order, F_p_rare_order := MuGen.funT_mk (st := s_p_rare_order) L_p_rare_order C_p_rare_order K_p_rare_order, B_p_rare_order := TT (c_p_rare_order, P_p_rare_order) (by simp), b_p_rare_order := (fun_mk (st := s_p_rare_order) L_p_rare_order C_p_rare_order K_p_rare_order).binds (ps := ["lot"]) (fun _ _ _ _ _ _ us hl => match us, hl with | [_], _ => rfl), g_p_rare_order := PySem.W.mg_of X G A_p_rare_order, a_l_cell_at := f_l_cell_at, d_l_cell_at := _, F_l_cell_at := fun_mk (st := s_l_cell_at) L_l_cell_at C_l_cell_at K_l_cell_at, b_l_cell_at := (fun_mk (st := s_l_cell_at) L_l_cell_at C_l_cell_at K_l_cell_at).binds (ps := ["_law_script", "_law_k"]) (fun _ _ _ _ _ _ us hl => match us, hl with | [_, _], _ => rfl), g_l_cell_at := PySem.W.mg_of X G A_l_cell_at, a_l_mix := f_l_mix, d_l_mix := _, F_l_mix := fun_mk (st := s_l_mix) L_l_mix C_l_mix K_l_mix, b_l_mix := (fun_mk (st := s_l_mix) L_l_mix C_l_mix K_l_mix).binds (ps := ["_law_cell", "_law_k"]) (fun _ _ _ _ _ _ us hl => match us, hl with | [_, _], _ => rfl), g_l_mix := PySem.W.mg_of X G A_l_mix, a_l_turned_row := f_l_turned_row, d_l_turned_row := _, F_l_turned_row := fun_mk (st := s_l_turned_row) L_l_turned_row C_l_turned_row K_l_turned_row, b_l_turned_row := (fun_mk (st := s_l_turned_row) L_l_turned_row C_l_turned_row K_l_turned_row).binds (ps := ["_law_number", "_law_many"]) (fun _ _ _ _ _ _ us hl => match us, hl with | [_, _], _ => rfl), g_l_turned_row := PySem.W.mg_of X G A_l_turned_row, a_l_names := f_l_names, d_l_names := _, F_l_names := fun_mk (st := s_l_names) L_l_names C_l_names K_l_names, b_l_names := (fun_mk (st := s_l_names) L_l_names C_l_names K_l_names).binds (ps := ["_law_script"]) (fun _ _ _ _ _ _ us hl => match us, hl with | [_], _ => rfl), g_l_names := PySem.W.mg_of X G A_l_names, a_l_set := f_l_set, d_l_set := _, F_l_set := fun_mk (st := s_l_set) L_l_set C_l_set K_l_set, b_l_set := (fun_mk (st := s_l_set) L_l_set C_l_set K_l_set).binds (ps := ["_law_names_here", "_law_cell", "_law_ahead"]) (fun _ _ _ _ _ _ us hl => match us, hl with | [_, _, _], _ => rfl), g_l_set := PySem.W.mg_of X G A_l_set, a_l_lot := f_l_lot, d_l_lot := _, F_l_lot := fun_mk (st := s_l_lot) L_l_lot C_l_lot K_l_lot, b_l_lot := (fun_mk (st := s_l_lot) L_l_lot C_l_lot K_l_lot).binds (ps := ["_law_script"]) (fun _ _ _ _ _ _ us hl => match us, hl with | [_], _ => rfl), g_l_lot := PySem.W.mg_of X G A_l_lot, a_l_cut := f_l_cut, d_l_cut := _, F_l_cut := fun_mk (st := s_l_cut) L_l_cut C_l_cut K_l_cut, b_l_cut := (fun_mk (st := s_l_cut) L_l_cut C_l_cut K_l_cut).binds (ps := ["_law_script"]) (fun _ _ _ _ _ _ us hl => match us, hl with | [_], _ => rfl), g_l_cut := PySem.W.mg_of X G A_l_cut }
  exact ok_p_law T (fun_mk (st := s_p_law) L_p_law C_p_law K_p_law)
end MuK
open PySem PySem.W PyProof.Rows
set_option maxHeartbeats 0 in
theorem PySem.Challenge.cw_muchalike_k31_rare_orders_holds : PySem.Challenge.rw_muchalike_k31_rare_orders.Holds := by
  w_on; o_law; k_head; (case hw => w_witness2)
  k_fill
  refine MuGen.walk_tabs2 (l := PySem.Challenge.rw_muchalike_k31_rare_orders) (n := 63) (k := 4) (x := "_law_script") (CX := fun _ => L2.CX0) ["rare_order"] rfl (by decide) rfl ⟨rfl, by decide, by decide⟩ (by decide +kernel) (fun w h Y => PySem.W.km_in_of Y) ?F (fun _ _ _ _ _ h => h)
  case F =>
    intro w mg fa h KX G hmg tabs
    refine' MuK.all_mk KX G hmg tabs ?A_p_rare_order ?L_p_rare_order ?C_p_rare_order ?K_p_rare_order ?D_p_rare_order ?V_p_rare_order ?N_p_rare_order ?A_l_cell_at ?L_l_cell_at ?C_l_cell_at ?K_l_cell_at ?A_l_mix ?L_l_mix ?C_l_mix ?K_l_mix ?A_l_turned_row ?L_l_turned_row ?C_l_turned_row ?K_l_turned_row ?A_l_names ?L_l_names ?C_l_names ?K_l_names ?A_l_set ?L_l_set ?C_l_set ?K_l_set ?A_l_lot ?L_l_lot ?C_l_lot ?K_l_lot ?A_l_cut ?L_l_cut ?C_l_cut ?K_l_cut ?A_p_law ?L_p_law ?C_p_law ?K_p_law ?Z_enumerate ?Z_int ?Z_isinstance ?Z_len ?Z_list ?Z_range ?Z_set ?Z_sorted
    (case A_p_rare_order => k_is)
    (case L_p_rare_order => k_is)
    (case C_p_rare_order => k_is)
    (case K_p_rare_order => k_is)
    (case D_p_rare_order => k_is)
    (case V_p_rare_order => exact rfl)
    (case N_p_rare_order => exact rfl)
    (case A_l_cell_at => k_is)
    (case L_l_cell_at => k_is)
    (case C_l_cell_at => k_is)
    (case K_l_cell_at => k_is)
    (case A_l_mix => k_is)
    (case L_l_mix => k_is)
    (case C_l_mix => k_is)
    (case K_l_mix => k_is)
    (case A_l_turned_row => k_is)
    (case L_l_turned_row => k_is)
    (case C_l_turned_row => k_is)
    (case K_l_turned_row => k_is)
    (case A_l_names => k_is)
    (case L_l_names => k_is)
    (case C_l_names => k_is)
    (case K_l_names => k_is)
    (case A_l_set => k_is)
    (case L_l_set => k_is)
    (case C_l_set => k_is)
    (case K_l_set => k_is)
    (case A_l_lot => k_is)
    (case L_l_lot => k_is)
    (case C_l_lot => k_is)
    (case K_l_lot => k_is)
    (case A_l_cut => k_is)
    (case L_l_cut => k_is)
    (case C_l_cut => k_is)
    (case K_l_cut => k_is)
    (case A_p_law => k_is)
    (case L_p_law => k_is)
    (case C_p_law => k_is)
    (case K_p_law => k_is)
    (case Z_enumerate => k_is)
    (case Z_int => k_is)
    (case Z_isinstance => k_is)
    (case Z_len => k_is)
    (case Z_list => k_is)
    (case Z_range => k_is)
    (case Z_set => k_is)
    (case Z_sorted => k_is)
