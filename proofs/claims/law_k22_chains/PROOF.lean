import PyProof.Rows.All
import Wide.All
import OpenK.AllK
import Wide.FinOn
import HandS.ForMost
import HandS.ForExc
import HandS.Evl
import HandS.Wide
import HandS.Gcd
import HandS.IsInst
import Flt.RightSqrt
import KE.KMathG
import HandS.SetTxt0
import HandS.SetFor
import HandS.Set
import HandS.SetKeys
import Wide.More
import PyProof.Rows.SortShellAny
import KE.KNest
import HandS.AnyAll
import HandS.JoinGen
import HandS.EndTab
import PyProof.SumAny
import HandS.More
import PyProof.StrBlock2
import HandS.DeepEq
import KE.KDictSum
import KE.SortData
import HandS.Conv
import HandS.Strs
import HandS.Style
import HandS.DictComp
import HandS.FStr
import HandS.Lambda
import HandS.ListItems
import HandS.GenList
import HandS.Flt
import HandS.TupSets
import HandS.SetBool
import PySem.Challenge.RW_muchalike_k22_chains
set_option Elab.async false
set_option linter.all false
set_option maxRecDepth 100000
set_option maxHeartbeats 8000000

namespace MuK
open PySem PySem.Spec PyProof.Rows L2 Evl

/-! ### general rules -/
def CPowW (i j : Int) : Prop := 0 ≤ j ∧ (Builtin.Int.intBits i : Int) * j ≤ 2 ^ 27
theorem op_powW {X : Cx} : OpR X (binaryOp .Pow) (rI CPowW fun i j => .int (i ^ j.toNat)) := opI fun _ _ _ _ _ _ _ hc q => pow_int hc.1 hc.2 q

/-- promises: a value, a new tuple, a new list -/
def SpVal (D : Hp → List V → V → Prop) : Sp := fun vs H Q _ => ∃ v, D H vs v ∧ ∀ H', Ex H H' → Q v H'
def SpTup (D : Hp → List V → List V → Prop) : Sp := fun vs H Q _ => ∃ xs, D H vs xs ∧ ∀ p H', H p = none → Ex H H' → H' p = some (.tup xs) → Q (.ref p) H'
def SpLst (D : Hp → List V → List V → Prop) : Sp := fun vs H Q _ => ∃ xs, D H vs xs ∧ ∀ p H', H p = none → Ex H H' → H' p = some (.lst xs) → Q (.ref p) H'

section
variable {K : PySem.W.Frag} {σ : L2.St} {H H' : Hp} {ta tb te : TE} {t u : TT} {x y z v : V} {D : Ends} {tu tw tz : TS}
def SpU (sp : Sp) (vs : List V) (H : Hp) (xs : List V) : Prop := ∀ H1, Ex H H1 → ∀ Q : VK, (∀ p H2, H1 p = none → Ex H1 H2 → H2 p = some (.tup xs) → Q (.ref p) H2) → ∀ E : XK, sp vs H1 Q E
theorem eu_call {sp : Sp} {dvs vs xs : List V} {E : XK} {ta : TA} (h : EvA ta σ H vs) (hs : SpU sp (vs ++ dvs) H xs) : EvU (tCall sp dvs E ta) σ H xs := fun H1 e Q q =>
  h H1 e _ fun H2 e2 => hs H2 (e.trans e2) Q (fun p H3 hp e3 h3 => q p H3 (fresh_back e2 hp) (e2.trans e3) h3) E
theorem spVal {Dd : Hp → List V → V → Prop} {vs : List V} (h : ∀ H1, Ex H H1 → Dd H1 vs v) : SpV (SpVal Dd) vs H v := fun H1 e _ q _ => ⟨v, h H1 e, q⟩
theorem spTup {Dd : Hp → List V → List V → Prop} {vs xs : List V} (h : ∀ H1, Ex H H1 → Dd H1 vs xs) : SpU (SpTup Dd) vs H xs := fun H1 e _ q _ => ⟨xs, h H1 e, q⟩
theorem spLst {Dd : Hp → List V → List V → Prop} {vs xs : List V} (h : ∀ H1, Ex H H1 → Dd H1 vs xs) : SpL (SpLst Dd) vs H xs := fun H1 e _ q _ => ⟨xs, h H1 e, q⟩
theorem ev_callV {Dd : Hp → List V → V → Prop} {vs : List V} {E : XK} {ta : TA} (h : EvA ta σ H vs) (hs : ∀ H1, Ex H H1 → Dd H1 vs v) : Ev (tCall (SpVal Dd) [] E ta) σ H v :=
  ev_call h (by rw [List.append_nil]; exact spVal hs)
theorem eu_callU {Dd : Hp → List V → List V → Prop} {vs xs : List V} {E : XK} {ta : TA} (h : EvA ta σ H vs) (hs : ∀ H1, Ex H H1 → Dd H1 vs xs) : EvU (tCall (SpTup Dd) [] E ta) σ H xs :=
  eu_call h (by rw [List.append_nil]; exact spTup hs)
theorem el_callL {Dd : Hp → List V → List V → Prop} {vs xs : List V} {E : XK} {ta : TA} (h : EvA ta σ H vs) (hs : ∀ H1, Ex H H1 → Dd H1 vs xs) : EvL (tCall (SpLst Dd) [] E ta) σ H xs :=
  el_call h (by rw [List.append_nil]; exact spLst hs)

/-- built-ins by values -/
theorem rc_min2 {i j : Int} : RC (fun xs H Q => ∃ i j, xs = [.int i, .int j] ∧ Q (.int (if j < i then j else i)) H) [.int i, .int j] H (.int (min i j)) := fun H1 _ Q q =>
  ⟨i, j, rfl, by have e : (if j < i then j else i) = min i j := by (split <;> omega)
                 rw [e]; exact q H1 (Ex.refl H1)⟩
theorem rc_max2 {i j : Int} : RC (fun xs H Q => ∃ i j, xs = [.int i, .int j] ∧ Q (.int (if j > i then j else i)) H) [.int i, .int j] H (.int (max i j)) := fun H1 _ Q q =>
  ⟨i, j, rfl, by have e : (if j > i then j else i) = max i j := by (split <;> omega)
                 rw [e]; exact q H1 (Ex.refl H1)⟩
theorem rc_gcd {a b : Int} : RC rGcd [.int a, .int b] H (.int ((Nat.gcd a.natAbs b.natAbs : Nat) : Int)) := fun H1 _ _ q => ⟨a, b, rfl, q H1 (Ex.refl H1)⟩
theorem rc_lenT {p : Addr} {ys : List V} (h : SqT K H p ys) : RC (fun xs H Q => ∃ p ys, xs = [.ref p] ∧ (SqL K H p ys ∨ SqT K H p ys) ∧ Q (.int ys.length) H) [.ref p] H (.int ys.length) := fun H1 e _ q => ⟨p, ys, rfl, .inr (ex_t e h), q H1 (Ex.refl H1)⟩
theorem rc_lenL {p : Addr} {ys : List V} (h : SqL K H p ys) : RC (fun xs H Q => ∃ p ys, xs = [.ref p] ∧ (SqL K H p ys ∨ SqT K H p ys) ∧ Q (.int ys.length) H) [.ref p] H (.int ys.length) := fun H1 e _ q => ⟨p, ys, rfl, .inl (ex_l e h), q H1 (Ex.refl H1)⟩
theorem rc_intB {k : Bool} : RC (fun xs H Q => (∃ i, xs = [.int i] ∧ Q (.int i) H) ∨ ∃ k, xs = [.bl k] ∧ Q (.int (if k then 1 else 0)) H) [.bl k] H (.int (if k then 1 else 0)) := fun H1 _ _ q => .inr ⟨k, rfl, q H1 (Ex.refl H1)⟩
theorem rc_isiInt {i : Int} {n : String} {b : Bool} (h : PySem.W.kitOne K (.type "int") (.type n) = some b) : RC (rIsi K) [.int i, .ty n] H (.bl b) := fun H1 _ _ q => ⟨_, _, _, _, b, rfl, .ty n, .base (.int i), h, q H1 (Ex.refl H1)⟩
theorem rc_isiBool {i : Bool} {n : String} {b : Bool} (h : PySem.W.kitOne K (.type "bool") (.type n) = some b) : RC (rIsi K) [.bl i, .ty n] H (.bl b) := fun H1 _ _ q => ⟨_, _, _, _, b, rfl, .ty n, .base (.bl i), h, q H1 (Ex.refl H1)⟩
theorem rc_isiNone {n : String} {b : Bool} (h : PySem.W.kitOne K (.type "NoneType") (.type n) = some b) : RC (rIsi K) [.non, .ty n] H (.bl b) := fun H1 _ _ q => ⟨_, _, _, _, b, rfl, .ty n, .base .non, h, q H1 (Ex.refl H1)⟩
theorem rc_isiTup {p : Addr} {xs : List V} {n : String} {b : Bool} (hp : H p = some (.tup xs)) (h : PySem.W.kitOne K (.type "tuple") (.type n) = some b) : RC (rIsi K) [.ref p, .ty n] H (.bl b) := fun H1 e _ q => ⟨_, _, _, _, b, rfl, .ty n, .base (.tup (e p _ hp)), h, q H1 (Ex.refl H1)⟩
theorem rc_isiLst {p : Addr} {xs : List V} {n : String} {b : Bool} (hp : H p = some (.lst xs)) (h : PySem.W.kitOne K (.type "list") (.type n) = some b) : RC (rIsi K) [.ref p, .ty n] H (.bl b) := fun H1 e _ q => ⟨_, _, _, _, b, rfl, .ty n, .base (.lst (e p _ hp)), h, q H1 (Ex.refl H1)⟩
/-- lists joined, both new -/
theorem el_cat {xs ys : List V} (ha : EvL ta σ H xs) (hb : EvL tb σ H ys) (hz : xs.length + ys.length ≤ 100000) : EvL (tOp rCat ta tb) σ H (xs ++ ys) := fun H1 e Q q =>
  ha H1 e _ fun p H2 hp e2 h2 => hb H2 (e.trans e2) _ fun r H3 hr e3 h3 => ⟨p, r, xs, ys, rfl, rfl, e3 p _ h2, h3, sz_of hz, fun l hl => q l _ (fresh_back (e2.trans e3) hl) ((e2.trans e3).trans (Ex.new hl)) upd_same⟩
theorem el_catV {xs ys : List V} {a : Addr} (ha : Ev ta σ H (.ref a)) (h0 : H a = some (.lst xs)) (hb : EvL tb σ H ys) (hz : xs.length + ys.length ≤ 100000) : EvL (tOp rCat ta tb) σ H (xs ++ ys) := fun H1 e Q q =>
  ha H1 e _ fun H2 e2 => hb H2 (e.trans e2) _ fun r H3 hr e3 h3 => ⟨a, r, xs, ys, rfl, rfl, ((e.trans e2).trans e3) a _ h0, h3, sz_of hz, fun l hl => q l _ (fresh_back (e2.trans e3) hl) ((e2.trans e3).trans (Ex.new hl)) upd_same⟩
/-- an item of a new list -/
theorem ev_ixNew {xs : List V} {i : Int} (ha : EvL ta σ H xs) (hb : Ev tb σ H (.int i)) (h : atI xs i = some v) : Ev (tOp (rIxL K) ta tb) σ H v :=
  ev_opL1 ha (fun _ e => hb.mono e) fun _ _ hp _ => rv_ixL (sq_of hp) h
theorem rv_fdW {i j : Int} {b : Nat} (h : 0 < j) (hb : j.natAbs < 2 ^ b) (h0 : 0 < b) (h9 : b ≤ 9000) : RV (rI CDivW fun i j => .int (i / j)) (.int i) (.int j) H (.int (i / j)) := rv_I (wide_div h hb h0 h9)
theorem s_par {i j : Nat} {ta : TA} {v w : V} (h : EvA ta σ H [v, w]) (k : ∀ H1, Ex H H1 → D.nx ((σ.set i (some v)).set j (some w)) H1) : tPar i j ta D σ H := h H (Ex.refl H) _ fun H1 e => ⟨v, w, rfl, k H1 e⟩
theorem q_par {i j : Nat} {ta : TA} {v w : V} (h : EvA ta σ H [v, w]) (k : ∀ H1, Ex H H1 → tz D ((σ.set i (some v)).set j (some w)) H1) : tSeq (tPar i j ta) tz D σ H := s_par (D := { D with nx := tz D }) h k
/-- a, b = e, e a new tuple of two; of any tuple -/
theorem q_unp2 {i j : Nat} {x y : V} (h : EvU te σ H [x, y]) (k : ∀ H1, Ex H H1 → tz D ((σ.set i (some x)).set j (some y)) H1) : tSeq (tAsg te (gTup K 2 (gCons (gName i) (gCons (gName j) gNil)))) tz D σ H :=
  h H (Ex.refl H) _ fun p H1 _ e hp => ⟨p, [x, y], rfl, st_of hp, rfl, x, [y], rfl, y, [], rfl, rfl, k H1 e⟩
theorem q_unp2V {i j : Nat} {p : Addr} {x y : V} (h : Ev te σ H (.ref p)) (h2 : SqT K H p [x, y]) (k : ∀ H1, Ex H H1 → tz D ((σ.set i (some x)).set j (some y)) H1) : tSeq (tAsg te (gTup K 2 (gCons (gName i) (gCons (gName j) gNil)))) tz D σ H :=
  h H (Ex.refl H) _ fun H1 e => ⟨p, [x, y], rfl, ex_t e h2, rfl, x, [y], rfl, y, [], rfl, rfl, k H1 e⟩
theorem decs {a b : Str} : decide (V.str a = V.str b) = decide (a = b) := by
  by_cases h : a = b
  · subst h; simp
  · rw [decide_eq_false h]; exact decide_eq_false fun e => h (V.str.inj e)
theorem deci {a b : Int} : decide (V.int a = V.int b) = decide (a = b) := by
  by_cases h : a = b
  · subst h; simp
  · rw [decide_eq_false h]; exact decide_eq_false fun e => h (V.int.inj e)
theorem rv_eqS {a b : Str} : RV rEq (.str a) (.str b) H (.bl (decide (a = b))) := by rw [← decs]; exact rv_eq rfl
theorem rv_eqI {a b : Int} : RV rEq (.int a) (.int b) H (.bl (decide (a = b))) := by rw [← deci]; exact rv_eq rfl
theorem rv_neS {a b : Str} : RV rNe (.str a) (.str b) H (.bl (!decide (a = b))) := by rw [← decs]; exact rv_ne rfl
theorem rv_neI {a b : Int} : RV rNe (.int a) (.int b) H (.bl (!decide (a = b))) := by rw [← deci]; exact rv_ne rfl
theorem vals_map_str : ∀ {xs : List (Str × Tok)}, Vals (xs.map fun p => V.str p.1) (xs.map fun p => Value.str p.1 p.2)
  | [] => .nil
  | _ :: _ => .cons ⟨_, rfl⟩ vals_map_str
theorem dp_ints : ∀ (ns : List Int), DpAll K H (ns.map V.int) (ns.map PyData.int)
  | [] => .nil
  | n :: ns => .cons (.int n) (dp_ints ns)
/-- an argument that is a new tuple, a new list -/
theorem ev_callU1 {Dd : Hp → List V → V → Prop} {E : XK} {tr : TA} {vs xs : List V} (h : EvU te σ H xs) (hr : EvA tr σ H vs) (hs : ∀ p H1, Ex H H1 → H1 p = some (.tup xs) → Dd H1 (.ref p :: vs) v) : Ev (tCall (SpVal Dd) [] E (tCons te tr)) σ H v := fun H1 e Q q =>
  h H1 e _ fun p H2 _ e2 hp => hr H2 (e.trans e2) _ fun H3 e3 => ⟨v, by rw [List.append_nil]; exact hs p H3 ((e.trans e2).trans e3) (e3 p _ hp), fun H4 e4 => q H4 ((e2.trans e3).trans e4)⟩
theorem atI_mod {α : Type} {xs : List α} {n : Int} {m : Nat} (d : α) (hm : xs.length = m) (h0 : 0 < m) : atI xs (n % (m : Int)) = some (xs.getD (n % (m : Int)).toNat d) := by
  have h1 : 0 ≤ n % (m : Int) := Int.emod_nonneg _ (by omega)
  have h2 : n % (m : Int) < m := Int.emod_lt_of_pos _ (by omega)
  have h3 : (((n % (m : Int)).toNat : Nat) : Int) = n % (m : Int) := Int.toNat_of_nonneg h1
  have h4 : (n % (m : Int)).toNat < xs.length := by omega
  have h5 : xs[(n % (m : Int)).toNat]? = some (xs.getD (n % (m : Int)).toNat d) := by
    rw [List.getD_eq_getElem?_getD, List.getElem?_eq_getElem h4]; rfl
  have h6 := atI_nat h5
  rw [h3] at h6
  exact h6
theorem atI_modI {xs : List Int} {n : Int} {m : Nat} (hm : xs.length = m) (h0 : 0 < m) : atI (xs.map V.int) (n % (m : Int)) = some (.int (xs.getD (n % (m : Int)).toNat 0)) := by
  have h := atI_mod (xs := xs.map V.int) (n := n) (m := m) (.int 0) (by rw [List.length_map]; exact hm) h0
  rw [h]
  congr 1
  rw [List.getD_eq_getElem?_getD, List.getD_eq_getElem?_getD, List.getElem?_map]
  cases xs[(n % (m : Int)).toNat]? <;> rfl
theorem cutV_mem {xs : List V} {lo hi : Option Int} {x : V} (h : x ∈ cutV xs lo hi) : x ∈ xs := List.mem_of_mem_drop (List.mem_of_mem_take h)
theorem sqT_written {f : Addr} {od : Option Addr} {vs : List V} {us : List Value} {n : Nat} {sl : Array (Option Value)} (h : K.lookup f = some ⟨.type "tuple", od, .seq us.toArray n, sl⟩) (r : Vals vs us) (hz : us.length ≤ 1000) : SqT K H f vs :=
  .inr ⟨_, us.toArray, n, h, rfl, rfl, by rw [List.size_toArray]; exact sz_of (by omega), by simpa using r⟩
theorem el_is {xs ys : List V} (h : EvL te σ H xs) (e : xs = ys) : EvL te σ H ys := by
  rw [← e]
  exact h
theorem eu_is {xs ys : List V} (h : EvU te σ H xs) (e : xs = ys) : EvU te σ H ys := by
  rw [← e]
  exact h
theorem given_map (ns : List Int) (f : Int → Int) : given ns.length (fun _ => true) (fun i => .int (f (ns.getD i 0))) = (ns.map f).map V.int := by
  unfold given
  rw [List.filter_eq_self.mpr (fun _ _ => rfl)]
  apply List.ext_getElem
  · simp
  · intro i h1 h2
    simp at h1
    simp [List.getD_eq_getElem?_getD, h1]
theorem ev_chain {r r' : R2} {tc : TE} {a b : Bool} (ha : Ev ta σ H x) (hb : Ev tb σ H y) (hr : RV r x y H (.bl a)) (hc : a = true → Ev tc σ H z) (hr' : a = true → RV r' y z H (.bl b)) : Ev (tChain r r' ta tb tc) σ H (.bl (a && b)) := fun H1 e Q q =>
  ha H1 e _ fun H2 e2 => hb H2 (e.trans e2) _ fun H3 e3 => hr H3 ((e.trans e2).trans e3) _ fun H4 e4 => ⟨a, rfl, by
    have ee := ((e.trans e2).trans e3).trans e4
    cases a with
    | true =>
      show tc σ H4 fun w' H5 => r' y w' H5 Q
      exact hc rfl H4 ee _ fun H5 e5 => hr' rfl H5 (ee.trans e5) Q fun H6 e6 => q H6 ((((e2.trans e3).trans e4).trans e5).trans e6)
    | false =>
      show Q (.bl false) H4
      exact q H4 ((e2.trans e3).trans e4)⟩
theorem atI_modD {xs : List Int} {n : Int} {m : Nat} {d : Int} (hm : xs.length = m) (h0 : 0 < m) : atI (xs.map V.int) (n % (m : Int)) = some (.int (xs.getD (n % (m : Int)).toNat d)) := by
  have h := atI_mod (xs := xs.map V.int) (n := n) (m := m) (.int d) (by rw [List.length_map]; exact hm) h0
  rw [h]
  congr 1
  rw [List.getD_eq_getElem?_getD, List.getD_eq_getElem?_getD, List.getElem?_map]
  cases xs[(n % (m : Int)).toNat]? <;> rfl
theorem getDP {α : Type} {xs : List α} {d : α} {P : α → Prop} (h : ∀ x ∈ xs, P x) (h0 : P d) (i : Nat) : P (xs.getD i d) := by
  rw [List.getD_eq_getElem?_getD]
  cases e : xs[i]? with
  | none => exact h0
  | some x => exact h x (List.mem_of_getElem? e)
theorem cells_int {ns : List Int} {lo hi : Option Int} {a b : Int} {i : Nat} {x : V} (hx : (cutV (ns.map V.int) lo hi ++ [.int a, .int b])[i]? = some x) : ∃ c, x = .int c := by
  have hm := List.mem_of_getElem? hx
  rw [List.mem_append] at hm
  rcases hm with hm | hm
  · have := cutV_mem hm
    rw [List.mem_map] at this
    obtain ⟨z, _, rfl⟩ := this
    exact ⟨z, rfl⟩
  · simp only [List.mem_cons, List.not_mem_nil, or_false] at hm
    rcases hm with rfl | rfl
    · exact ⟨_, rfl⟩
    · exact ⟨_, rfl⟩
/-- two tuples of the same two ints are equal -/
theorem rv_eqT2 {p q : Addr} {x y : Int} (hp : H p = some (.tup [.int x, .int y])) (hq : H q = some (.tup [.int x, .int y])) : RV (rEqD K) (.ref p) (.ref q) H (.bl true) := fun H1 e Q k => by
  refine ⟨.tuple [.int x, .int y], .tuple [.int x, .int y], .tup (st_of (e p _ hp)) (.cons (.int x) (.cons (.int y) .nil)), .tup (st_of (e q _ hq)) (.cons (.int x) (.cons (.int y) .nil)), rfl, rfl, ?_⟩
  rw [SeqAt.eqv_refl]
  all_goals first | exact k H1 (Ex.refl H1) | rfl
theorem rv_neT2 {p q : Addr} {x y : Int} (hp : H p = some (.tup [.int x, .int y])) (hq : H q = some (.tup [.int x, .int y])) : RV (rNeD K) (.ref p) (.ref q) H (.bl false) := fun H1 e Q k => by
  refine ⟨.tuple [.int x, .int y], .tuple [.int x, .int y], .tup (st_of (e p _ hp)) (.cons (.int x) (.cons (.int y) .nil)), .tup (st_of (e q _ hq)) (.cons (.int x) (.cons (.int y) .nil)), rfl, rfl, ?_⟩
  rw [SeqAt.eqv_refl]
  all_goals first | exact k H1 (Ex.refl H1) | rfl
theorem atI_inI {xs : List Int} {n : Int} {d : Int} (h0 : 0 ≤ n) (h1 : n < xs.length) : atI (xs.map V.int) n = some (.int (xs.getD n.toNat d)) := by
  have h3 : ((n.toNat : Nat) : Int) = n := Int.toNat_of_nonneg h0
  have h4 : n.toNat < xs.length := by omega
  have h5 : (xs.map V.int)[n.toNat]? = some (.int (xs.getD n.toNat d)) := by
    rw [List.getElem?_map, List.getD_eq_getElem?_getD, List.getElem?_eq_getElem h4]; rfl
  have h6 := atI_nat h5
  rw [h3] at h6
  exact h6
theorem s_forNLn {xs : List V} {tl : TE} {j : Nat} (h : EvL tl σ H xs) (Pv : Addr → Nat → L2.St → Hp → Prop) (h0 : ∀ p H1, H p = none → Ex H H1 → H1 p = some (.lst xs) → Pv p 0 σ H1) (hl : ∀ p i σ' H', i ≤ xs.length → Pv p i σ' H' → SqL K H' p xs)
    (hs : ∀ p i x σ' H', xs[i]? = some x → Pv p i σ' H' → tu { D with nx := Pv p (i + 1), ct := Pv p (i + 1), bk := D.nx } (σ'.set j (some x)) H') (hd : ∀ p σ' H', Pv p xs.length σ' H' → D.nx σ' H') : tFor (iList K tl) (gName j) tu D σ H :=
  s_forNL h Pv h0 hl hs hd
end
end MuK

namespace MuK
open PySem PySem.Spec PyProof.Rows L2 Evl
/-! ### plain mathematics of the helpers -/
def divs (b : Int) : Nat → Int → Int
  | 0, c => c
  | n + 1, c => divs b n c / b
def mix (c : Int) (k : Nat) : Int :=
  if c ≥ 10 ^ 18 then divs (10 ^ 6) k c % 10 ^ 6 else
  ((((c % 1000003 + k * k * 7919 + k) * 48271 % 2147483629) * ((c % 1000003 + k * k * 7919 + k) * 48271 % 2147483629) % 2147483587) *
   ((((c % 1000003 + k * k * 7919 + k) * 48271 % 2147483629) * ((c % 1000003 + k * k * 7919 + k) * 48271 % 2147483629) % 2147483587) + 2)) % 2147483579 / 7
theorem mix_nn (c : Int) (k : Nat) : 0 ≤ mix c k := by
  unfold mix
  split
  · exact Int.emod_nonneg _ (by decide)
  · exact Int.ediv_nonneg (Int.emod_nonneg _ (by decide)) (by decide)
theorem mix_lt (c : Int) (k : Nat) : mix c k < 306783379 := by
  unfold mix
  split
  · have := Int.emod_lt_of_pos (divs (10 ^ 6) k c) (show (0 : Int) < 10 ^ 6 by decide)
    omega
  · generalize ((((c % 1000003 + k * k * 7919 + k) * 48271 % 2147483629) * ((c % 1000003 + k * k * 7919 + k) * 48271 % 2147483629) % 2147483587) * ((((c % 1000003 + k * k * 7919 + k) * 48271 % 2147483629) * ((c % 1000003 + k * k * 7919 + k) * 48271 % 2147483629) % 2147483587) + 2)) = z
    have := Int.emod_lt_of_pos z (show (0 : Int) < 2147483579 by decide)
    have := Int.emod_nonneg z (show (2147483579 : Int) ≠ 0 by decide)
    omega
theorem gcd_step (a b : Int) (ha : 0 ≤ a) (hb : 0 < b) : Nat.gcd b.natAbs (a % b).natAbs = Nat.gcd a.natAbs b.natAbs := by
  obtain ⟨m, rfl⟩ := Int.eq_ofNat_of_zero_le ha
  obtain ⟨n, rfl⟩ := Int.eq_ofNat_of_zero_le (show (0 : Int) ≤ b by omega)
  rw [show ((m : Int) % (n : Int)) = ((m % n : Nat) : Int) from (Int.natCast_emod m n).symm]
  simp only [Int.natAbs_natCast]
  rw [Nat.gcd_comm m n]
  rw [Nat.gcd_comm n (m % n), ← Nat.gcd_rec]
/-- top and bottom of the fraction of a kind -/
def frac (k : Str) (a b c : Int) : Int × Int :=
  if k = "both" then (c, a + b - c) else if k = "mean" then (2 * c, a + b) else if k = "greater" then (c, max a b) else if k = "lesser" then (c, min a b) else (c * c, a * b)
def five : List Str := ["both", "mean", "greater", "lesser", "square"]
def gcdI (a b : Int) : Int := ((Nat.gcd a.natAbs b.natAbs : Nat) : Int)
def shareM (k : Str) (a b c : Int) : Int × Int :=
  if a = 0 ∨ b = 0 then (0, 1) else ((frac k a b c).1 / gcdI (frac k a b c).1 (frac k a b c).2, (frac k a b c).2 / gcdI (frac k a b c).1 (frac k a b c).2)
/-- weights and what they have in common, as they are handed in -/
structure WOk (a b c : Int) : Prop where
  a0 : 0 ≤ a
  a1 : a ≤ 10 ^ 18
  b0 : 0 ≤ b
  b1 : b ≤ 10 ^ 18
  c0 : 0 ≤ c
  ca : c ≤ a
  cb : c ≤ b
theorem WOk.symm {a b c : Int} (h : WOk a b c) : WOk b a c := ⟨h.b0, h.b1, h.a0, h.a1, h.c0, h.cb, h.ca⟩
theorem mul_le_36 {a b : Int} (a0 : 0 ≤ a) (a1 : a ≤ 10 ^ 18) (b0 : 0 ≤ b) (b1 : b ≤ 10 ^ 18) : 0 ≤ a * b ∧ a * b ≤ 10 ^ 36 := by
  refine ⟨Int.mul_nonneg a0 b0, ?_⟩
  have := Int.mul_le_mul a1 b1 b0 (by decide : (0 : Int) ≤ 10 ^ 18)
  omega
theorem frac_bounds (k : Str) {a b c : Int} (h : WOk a b c) (ha : 0 < a) (hb : 0 < b) : 0 ≤ (frac k a b c).1 ∧ (frac k a b c).1 ≤ 10 ^ 36 ∧ 0 < (frac k a b c).2 ∧ (frac k a b c).2 ≤ 10 ^ 36 := by
  obtain ⟨a0, a1, b0, b1, c0, ca, cb⟩ := h
  unfold frac
  split
  · dsimp only
    omega
  · split
    · dsimp only
      omega
    · split
      · dsimp only
        omega
      · split
        · dsimp only
          omega
        · dsimp only
          have h1 := mul_le_36 c0 (by omega) c0 (by omega : c ≤ 10 ^ 18)
          have h2 := mul_le_36 a0 a1 b0 b1
          have h3 := Int.mul_pos ha hb
          exact ⟨h1.1, h1.2, h3, h2.2⟩
theorem gcdI_pos {a b : Int} (hb : 0 < b) : 0 < gcdI a b := by
  unfold gcdI
  have : 0 < Nat.gcd a.natAbs b.natAbs := Nat.gcd_pos_of_pos_right _ (by omega)
  omega
theorem gcdI_le {a b : Int} (hb : 0 < b) : gcdI a b ≤ b := by
  unfold gcdI
  have : Nat.gcd a.natAbs b.natAbs ≤ b.natAbs := Nat.gcd_le_right _ (by omega)
  omega
theorem abs_lt_of {x : Int} {n : Nat} (h0 : 0 ≤ x) (h : x < (2 : Int) ^ n) : x.natAbs < 2 ^ n := by
  have e : ((x.natAbs : Nat) : Int) = x := Int.natAbs_of_nonneg h0
  have e2 : ((2 ^ n : Nat) : Int) = (2 : Int) ^ n := by rw [Int.natCast_pow]; rfl
  omega
theorem frac_symm (k : Str) (a b c : Int) : frac k b a c = frac k a b c := by
  unfold frac
  split
  · rw [Int.add_comm b a]
  · split
    · rw [Int.add_comm b a]
    · split
      · rw [Int.max_comm b a]
      · split
        · rw [Int.min_comm b a]
        · rw [Int.mul_comm b a]
theorem shareM_symm (k : Str) (a b c : Int) : shareM k b a c = shareM k a b c := by
  unfold shareM
  rw [frac_symm k a b c]
  by_cases h : a = 0 ∨ b = 0
  · rw [if_pos h, if_pos (by omega)]
  · rw [if_neg h, if_neg (by omega)]
def bigM : Int := ((10 : Int) ^ 60) ^ 60
def cutI (c : Int) : Int := if c ≥ bigM then bigM + c % bigM else c
theorem bigM_pos : 0 < bigM := by
  unfold bigM
  exact Int.pow_pos (Int.pow_pos (by decide))
theorem getD5 {xs : List Int} {P : Int → Prop} (h : ∀ x ∈ xs, P x) (h0 : P 0) (i : Nat) : P (xs.getD i 0) := by
  rw [List.getD_eq_getElem?_getD]
  cases e : xs[i]? with
  | none => exact h0
  | some x => exact h x (List.mem_of_getElem? e)
theorem rc_gcdI {H : Hp} {a b : Int} : RC rGcd [.int a, .int b] H (.int (gcdI a b)) := rc_gcd
end MuK

namespace MuK
open PySem PySem.Spec PyProof.Rows L2 Evl
/-! ### what two sets need -/
/-- a quotient rounded up -/
def cd (t b : Int) : Int := (t + b - 1) / b
theorem cd_le {t b c : Int} (hb : 0 < b) : cd t b ≤ c ↔ t ≤ c * b := by
  unfold cd
  constructor
  · intro h
    have h1 : (t + b - 1) < (c + 1) * b := Int.lt_mul_of_ediv_lt hb (by omega)
    have h2 : (c + 1) * b = c * b + b := by rw [Int.add_mul, Int.one_mul]
    omega
  · intro h
    have h1 : (t + b - 1) / b < c + 1 := by
      apply Int.ediv_lt_of_lt_mul hb
      have h2 : (c + 1) * b = c * b + b := by rw [Int.add_mul, Int.one_mul]
      omega
    omega
def isq (n : Int) : Int := ((Float64.isqrt n.toNat : Nat) : Int)
theorem isq_nn (n : Int) : 0 ≤ isq n := Int.natCast_nonneg _
theorem isq_lt {n c : Int} (hn : 0 ≤ n) (hc : 0 ≤ c) : isq n < c ↔ n < c * c := by
  obtain ⟨m, rfl⟩ := Int.eq_ofNat_of_zero_le hn
  obtain ⟨k, rfl⟩ := Int.eq_ofNat_of_zero_le hc
  unfold isq
  rw [Int.toNat_natCast]
  obtain ⟨h1, h2⟩ := Float64.isqrt_spec m
  have e : ((k : Int) * (k : Int)) = ((k * k : Nat) : Int) := (Int.natCast_mul k k).symm
  rw [e]
  constructor
  · intro h
    have h3 : Float64.isqrt m + 1 ≤ k := by omega
    have := Nat.mul_le_mul h3 h3
    omega
  · intro h
    have h3 : m < k * k := by omega
    rcases Nat.lt_or_ge (Float64.isqrt m) k with h4 | h4
    · omega
    · have := Nat.mul_le_mul h4 h4
      omega
def needM (k : Str) (T B a b : Int) : Int :=
  if k = "both" then cd (T * (a + b)) (T + B) else if k = "mean" then cd (T * (a + b)) (2 * B) else if k = "greater" then cd (T * max a b) B
  else if k = "lesser" then cd (T * min a b) B else isq (cd (T * a * b) B - 1) + 1
def reach (k : Str) (T B a b c : Int) : Bool := decide (T * (frac k a b c).2 ≤ (frac k a b c).1 * B)
structure LOk (T B : Int) : Prop where
  t0 : 0 < T
  tb : T ≤ B
  g1 : gcdI T B = 1
theorem mul_pos3 {a b c : Int} (ha : 0 < a) (hb : 0 < b) (hc : 0 < c) : 0 < a * b * c := Int.mul_pos (Int.mul_pos ha hb) hc
theorem need_spec {k : Str} {T B a b c : Int} (t0 : 0 < T) (tb : T ≤ B) (ha : 0 < a) (hb : 0 < b) (hc : 0 ≤ c) : reach k T B a b c = true ↔ needM k T B a b ≤ c := by
  unfold reach needM frac
  rw [decide_eq_true_iff]
  by_cases h1 : k = "both"
  · rw [if_pos h1, if_pos h1, cd_le (by omega)]
    dsimp only
    have e1 : T * (a + b - c) = T * (a + b) - T * c := Int.mul_sub _ _ _
    have e2 : c * (T + B) = T * c + c * B := by rw [Int.mul_add, Int.mul_comm c T]
    omega
  rw [if_neg h1, if_neg h1]
  by_cases h2 : k = "mean"
  · rw [if_pos h2, if_pos h2, cd_le (by omega)]
    dsimp only
    have e2 : c * (2 * B) = 2 * c * B := by rw [← Int.mul_assoc, Int.mul_comm c 2]
    omega
  rw [if_neg h2, if_neg h2]
  by_cases h3 : k = "greater"
  · rw [if_pos h3, if_pos h3, cd_le (by omega)]
  rw [if_neg h3, if_neg h3]
  by_cases h4 : k = "lesser"
  · rw [if_pos h4, if_pos h4, cd_le (by omega)]
  rw [if_neg h4, if_neg h4]
  dsimp only
  have B0 : 0 < B := by omega
  have p0 : 0 < T * a * b := mul_pos3 t0 ha hb
  have q1 : 1 ≤ cd (T * a * b) B := by
    rcases Int.lt_or_le (cd (T * a * b) B) 1 with h | h
    · have := (cd_le (t := T * a * b) (b := B) (c := 0) B0).mp (by omega)
      omega
    · exact h
  have s1 := isq_lt (n := cd (T * a * b) B - 1) (c := c) (by omega) hc
  have s2 := cd_le (t := T * a * b) (b := B) (c := c * c) B0
  have e : T * (a * b) = T * a * b := (Int.mul_assoc _ _ _).symm
  rw [e]
  omega
theorem need_nn {k : Str} {T B a b : Int} (t0 : 0 < T) (tb : T ≤ B) (ha : 0 < a) (hb : 0 < b) : 0 ≤ needM k T B a b := by
  have h := isq_nn (cd (T * a * b) B - 1)
  have p1 : 0 ≤ T * (a + b) := Int.mul_nonneg (by omega) (by omega)
  have p2 : 0 ≤ T * max a b := Int.mul_nonneg (by omega) (by omega)
  have p3 : 0 ≤ T * min a b := Int.mul_nonneg (by omega) (by omega)
  unfold needM cd
  split
  · exact Int.ediv_nonneg (by omega) (by omega)
  · split
    · exact Int.ediv_nonneg (by omega) (by omega)
    · split
      · exact Int.ediv_nonneg (by omega) (by omega)
      · split
        · exact Int.ediv_nonneg (by omega) (by omega)
        · unfold cd at h
          omega
theorem need_le {k : Str} {T B a b : Int} (t0 : 0 < T) (tb : T ≤ B) (ha : 0 < a) (hb : 0 < b) : needM k T B a b ≤ a + b := by
  rw [← need_spec t0 tb ha hb (by omega)]
  unfold reach frac
  rw [decide_eq_true_iff]
  have m1 : T * (a + b) ≤ (a + b) * B := by rw [Int.mul_comm (a + b) B]; exact Int.mul_le_mul_of_nonneg_right tb (by omega)
  have m2 : T * max a b ≤ T * (a + b) := Int.mul_le_mul_of_nonneg_left (by omega) (by omega)
  have m3 : T * min a b ≤ T * (a + b) := Int.mul_le_mul_of_nonneg_left (by omega) (by omega)
  have m5 : 0 ≤ (a + b) * B := Int.mul_nonneg (by omega) (by omega)
  split
  · dsimp only
    rw [Int.sub_self, Int.mul_zero]
    exact m5
  · split
    · dsimp only
      rw [Int.mul_assoc]
      omega
    · split
      · exact Int.le_trans m2 m1
      · split
        · exact Int.le_trans m3 m1
        · dsimp only
          have m6 : a * b ≤ (a + b) * (a + b) := by
            have q1 : a * b ≤ (a + b) * b := Int.mul_le_mul_of_nonneg_right (by omega) (by omega)
            have q2 : (a + b) * b ≤ (a + b) * (a + b) := Int.mul_le_mul_of_nonneg_left (by omega) (by omega)
            omega
          have m7 : T * (a * b) ≤ T * ((a + b) * (a + b)) := Int.mul_le_mul_of_nonneg_left m6 (by omega)
          have m8 : T * ((a + b) * (a + b)) ≤ B * ((a + b) * (a + b)) := Int.mul_le_mul_of_nonneg_right tb (Int.mul_nonneg (by omega) (by omega))
          rw [Int.mul_comm ((a + b) * (a + b)) B]
          omega
theorem max_symm (a b : Int) : max b a = max a b := Int.max_comm b a
theorem needM_symm (k : Str) (T B a b : Int) : needM k T B b a = needM k T B a b := by
  unfold needM
  rw [Int.add_comm b a, Int.max_comm b a, Int.min_comm b a, Int.mul_assoc T b a, Int.mul_comm b a, ← Int.mul_assoc T a b]
/-! ### math.isqrt -/
def rIsqrt : List V → Hp → VK → Prop := fun vs H Q => ∃ n : Int, vs = [.int n] ∧ 0 ≤ n ∧ n.toNat.log2 ≤ 9000 ∧ Q (.int (isq n)) H
theorem cr_isqrt {X : Cx} : CallR X (.builtin "math.isqrt") rIsqrt := by
  intro pins s σ H vs us Q I r h
  obtain ⟨n, rfl, h0, h1, q⟩ := h
  cases r with
  | cons r1 r2 =>
    cases r2
    obtain ⟨t, rfl⟩ := r1
    exact PySem.call_function_meets PySem.W.MGF.kind_isqrt PySem.W.MGF.plain_isqrt PySem.W.MGF.entry_isqrt (PySem.W.MGF.args_isqrt _) (PySem.W.mg_run_isqrt n t (by omega) (by omega) (by omega)).meets ⟨.int _, H, I.tok _, ⟨_, rfl⟩, q⟩
theorem rc_isqrt {H : Hp} {n : Int} (h0 : 0 ≤ n) (h1 : n.toNat.log2 ≤ 9000) : RC rIsqrt [.int n] H (.int (isq n)) := fun H1 _ _ q => ⟨n, rfl, h0, h1, q H1 (Ex.refl H1)⟩
theorem log2_le_of {x : Int} {n : Nat} (h0 : 0 ≤ x) (h : x < (2 : Int) ^ (n + 1)) : x.toNat.log2 ≤ n := by
  have h1 := abs_lt_of h0 h
  have e : x.toNat = x.natAbs := by omega
  rw [e]
  exact PySem.W.mg_log h1
/-- wide numbers -/
theorem cmulW_of {i j : Int} (h1 : 0 ≤ i) (h2 : i < (2 : Int) ^ 900) (h3 : 0 ≤ j) (h4 : j < (2 : Int) ^ 900) : CMulW i j := wide_mul (abs_lt_of h1 h2) (abs_lt_of h3 h4) (by decide) (by decide) (by decide)
theorem cdivW_of {i j : Int} (h3 : 0 < j) (h4 : j < (2 : Int) ^ 900) : CDivW i j := wide_div h3 (abs_lt_of (by omega) h4) (by decide) (by decide)
structure FOk (a b c : Int) : Prop where
  a0 : 0 ≤ a
  a1 : a ≤ 2 ^ 200
  b0 : 0 ≤ b
  b1 : b ≤ 2 ^ 200
  c0 : 0 ≤ c
  cab : c ≤ a + b
structure SOk (a b c : Int) : Prop where
  f : FOk a b c
  ca : c ≤ a
  cb : c ≤ b
theorem frac_bd (k : Str) {a b c : Int} (h : FOk a b c) : 0 ≤ (frac k a b c).1 ∧ (frac k a b c).1 ≤ 2 ^ 402 ∧ 0 ≤ (frac k a b c).2 ∧ (frac k a b c).2 ≤ 2 ^ 402 := by
  obtain ⟨a0, a1, b0, b1, c0, ca⟩ := h
  unfold frac
  split
  · dsimp only
    omega
  · split
    · dsimp only
      omega
    · split
      · dsimp only
        omega
      · split
        · dsimp only
          omega
        · dsimp only
          have h1 := Int.mul_nonneg c0 c0
          have h2 := Int.mul_nonneg a0 b0
          have h3 : c * c ≤ 2 ^ 201 * 2 ^ 201 := Int.mul_le_mul (by omega) (by omega) c0 (by decide)
          have h4 : a * b ≤ 2 ^ 200 * 2 ^ 200 := Int.mul_le_mul a1 b1 b0 (by decide)
          have e3 : (2 : Int) ^ 201 * 2 ^ 201 = 2 ^ 402 := by decide +kernel
          have e4 : (2 : Int) ^ 200 * 2 ^ 200 ≤ 2 ^ 402 := by decide +kernel
          omega
theorem frac_pos (k : Str) {a b c : Int} (ha : 0 < a) (hb : 0 < b) (hc : c < a + b) : 0 < (frac k a b c).2 := by
  unfold frac
  split
  · dsimp only
    omega
  · split
    · dsimp only
      omega
    · split
      · dsimp only
        omega
      · split
        · dsimp only
          omega
        · dsimp only
          exact Int.mul_pos ha hb
/-! ### drawn least shares -/
def lbot (m : Int) : Int := ([1 + m / 5 % 12, 1 + m / 5 % 4, 1 + m / 5 % 1000, 999999999 - m / 5 % 999] : List Int).getD (m % 4).toNat 0
def ltop (m : Int) : Int := if m % 4 = 3 then ([1 + m * 7919 % lbot m, lbot m - m / 56 % 999] : List Int).getD (m / 28 % 2).toNat 0 else 1 + m / 7 % lbot m
def leastM (m : Int) : Int × Int := (ltop m / gcdI (ltop m) (lbot m), lbot m / gcdI (ltop m) (lbot m))
theorem lbot_ok (m : Int) : 1 ≤ lbot m ∧ lbot m ≤ 999999999 ∧ (m % 4 = 3 → 999999001 ≤ lbot m) := by
  have h : m % 4 = 0 ∨ m % 4 = 1 ∨ m % 4 = 2 ∨ m % 4 = 3 := by omega
  unfold lbot
  rcases h with h | h | h | h <;> rw [h]
  · show 1 ≤ 1 + m / 5 % 12 ∧ 1 + m / 5 % 12 ≤ 999999999 ∧ ((0 : Int) = 3 → 999999001 ≤ 1 + m / 5 % 12)
    omega
  · show 1 ≤ 1 + m / 5 % 4 ∧ 1 + m / 5 % 4 ≤ 999999999 ∧ ((1 : Int) = 3 → 999999001 ≤ 1 + m / 5 % 4)
    omega
  · show 1 ≤ 1 + m / 5 % 1000 ∧ 1 + m / 5 % 1000 ≤ 999999999 ∧ ((2 : Int) = 3 → 999999001 ≤ 1 + m / 5 % 1000)
    omega
  · show 1 ≤ 999999999 - m / 5 % 999 ∧ 999999999 - m / 5 % 999 ≤ 999999999 ∧ ((3 : Int) = 3 → 999999001 ≤ 999999999 - m / 5 % 999)
    omega
theorem ltop_ok (m : Int) : 1 ≤ ltop m ∧ ltop m ≤ lbot m := by
  obtain ⟨h1, h2, h3⟩ := lbot_ok m
  unfold ltop
  split
  · rename_i h
    have h3 := h3 h
    have h : m / 28 % 2 = 0 ∨ m / 28 % 2 = 1 := by omega
    have e1 := Int.emod_nonneg (m * 7919) (show lbot m ≠ 0 by omega)
    have e2 := Int.emod_lt_of_pos (m * 7919) (show 0 < lbot m by omega)
    rcases h with h | h <;> rw [h]
    · show 1 ≤ 1 + m * 7919 % lbot m ∧ 1 + m * 7919 % lbot m ≤ lbot m
      omega
    · show 1 ≤ lbot m - m / 56 % 999 ∧ lbot m - m / 56 % 999 ≤ lbot m
      omega
  · have e1 := Int.emod_nonneg (m / 7) (show lbot m ≠ 0 by omega)
    have e2 := Int.emod_lt_of_pos (m / 7) (show 0 < lbot m by omega)
    omega
theorem gcdI_div {a b : Int} (ha : 0 < a) (hb : 0 < b) : 0 < a / gcdI a b ∧ 0 < b / gcdI a b ∧ gcdI (a / gcdI a b) (b / gcdI a b) = 1 := by
  obtain ⟨m, rfl⟩ := Int.eq_ofNat_of_zero_le (show 0 ≤ a by omega)
  obtain ⟨n, rfl⟩ := Int.eq_ofNat_of_zero_le (show 0 ≤ b by omega)
  have hm : 0 < m := by omega
  have hn : 0 < n := by omega
  unfold gcdI
  simp only [Int.natAbs_natCast]
  have g0 : 0 < Nat.gcd m n := Nat.gcd_pos_of_pos_left _ hm
  have d1 : 0 < m / Nat.gcd m n := Nat.div_pos (Nat.gcd_le_left _ hm) g0
  have d2 : 0 < n / Nat.gcd m n := Nat.div_pos (Nat.gcd_le_right _ hn) g0
  have e1 : ((m : Int) / ((Nat.gcd m n : Nat) : Int)) = ((m / Nat.gcd m n : Nat) : Int) := (Int.natCast_ediv _ _).symm
  have e2 : ((n : Int) / ((Nat.gcd m n : Nat) : Int)) = ((n / Nat.gcd m n : Nat) : Int) := (Int.natCast_ediv _ _).symm
  rw [e1, e2]
  simp only [Int.natAbs_natCast]
  refine ⟨by omega, by omega, ?_⟩
  rw [Nat.gcd_div (Nat.gcd_dvd_left m n) (Nat.gcd_dvd_right m n), Nat.div_self g0]
  rfl
theorem div_gcd_le {a b : Int} (ha : 0 < a) (h : a ≤ b) : a / gcdI a b ≤ b / gcdI a b := Int.ediv_le_ediv (gcdI_pos (by omega)) h
theorem div_gcd_le_self {a b : Int} (hb : 0 < b) : b / gcdI a b ≤ b := by
  have := gcdI_pos (a := a) hb
  exact Int.ediv_le_self _ (by omega)
theorem least_ok (m : Int) : LOk (leastM m).1 (leastM m).2 ∧ (leastM m).2 ≤ 999999999 := by
  obtain ⟨h1, h2, h3⟩ := lbot_ok m
  obtain ⟨h4, h5⟩ := ltop_ok m
  obtain ⟨g1, g2, g3⟩ := gcdI_div (show 0 < ltop m by omega) (show 0 < lbot m by omega)
  have g4 := div_gcd_le (show 0 < ltop m by omega) h5
  have g5 := div_gcd_le_self (a := ltop m) (show 0 < lbot m by omega)
  unfold leastM
  exact ⟨⟨g1, g4, g3⟩, by dsimp only; omega⟩
end MuK

namespace MuK
open PySem PySem.Spec PyProof.Rows L2 Evl
/-! ### mates -/
def botM (k : Str) (T B : Int) : Int := if k = "mean" then 2 * B - T else B
def lowM (k : Str) (T B a : Int) : Int := if k = "lesser" then 1 else cd (a * T) (botM k T B)
def highM (k : Str) (T B a : Int) : Int := a * botM k T B / T
def hiV (k : Str) (T B a : Int) : V := if k = "lesser" then .non else .int (highM k T B a)
def mateB (k : Str) (T B a b : Int) : Bool := decide (0 < b) && reach k T B a b (min a b)
theorem botM_ok {k : Str} {T B : Int} (t0 : 0 < T) (tb : T ≤ B) : T ≤ botM k T B ∧ B ≤ botM k T B ∧ botM k T B ≤ 2 * B := by
  unfold botM
  split <;> omega
theorem mul_cancel_le {x y z : Int} (hx : 0 < x) : x * y ≤ x * z ↔ y ≤ z := by
  constructor
  · intro h
    exact Int.le_of_mul_le_mul_left h hx
  · intro h
    exact Int.mul_le_mul_of_nonneg_left h (by omega)
theorem reach_min {k : Str} {T B a b : Int} (hk : k ∈ five) (hl : k ≠ "lesser") (t0 : 0 < T) (tb : T ≤ B) (ha : 0 < a) (hb : 0 < b) : reach k T B a b (min a b) = true ↔ T * max a b ≤ min a b * botM k T B := by
  unfold reach frac botM
  rw [decide_eq_true_iff]
  by_cases h1 : k = "both"
  · have : ¬ k = "mean" := by rw [h1]; decide +kernel
    rw [if_pos h1, if_neg this]
    dsimp only
    have e : a + b - min a b = max a b := by omega
    rw [e]
  rw [if_neg h1]
  by_cases h2 : k = "mean"
  · rw [if_pos h2, if_pos h2]
    dsimp only
    have e : a + b = min a b + max a b := by omega
    rw [e, Int.mul_add, Int.mul_sub, Int.mul_assoc 2, ← Int.mul_assoc (min a b) 2 B, Int.mul_comm (min a b) 2, Int.mul_assoc 2, Int.mul_comm (min a b) T]
    omega
  rw [if_neg h2, if_neg h2]
  by_cases h3 : k = "greater"
  · rw [if_pos h3]
  rw [if_neg h3, if_neg hl]
  dsimp only
  have e : a * b = min a b * max a b := by
    rcases Int.le_total a b with h | h
    · rw [Int.min_eq_left h, Int.max_eq_right h]
    · rw [Int.min_eq_right h, Int.max_eq_left h, Int.mul_comm]
  have e1 : T * (a * b) = min a b * (T * max a b) := by
    rw [e, ← Int.mul_assoc, Int.mul_comm T (min a b), Int.mul_assoc]
  rw [e1, Int.mul_assoc (min a b), mul_cancel_le (by omega)]
theorem mate_iff {k : Str} {T B a b : Int} (hk : k ∈ five) (t0 : 0 < T) (tb : T ≤ B) (ha : 0 < a) : mateB k T B a b = true ↔ lowM k T B a ≤ b ∧ (k = "lesser" ∨ b ≤ highM k T B a) := by
  unfold mateB
  obtain ⟨q1, q2, q3⟩ := botM_ok (k := k) t0 tb
  by_cases hb : 0 < b
  · rw [decide_eq_true hb, Bool.true_and]
    by_cases hl : k = "lesser"
    · unfold lowM
      rw [if_pos hl]
      unfold reach frac
      have n1 : ¬ k = "both" := by rw [hl]; decide +kernel
      have n2 : ¬ k = "mean" := by rw [hl]; decide +kernel
      have n3 : ¬ k = "greater" := by rw [hl]; decide +kernel
      rw [if_neg n1, if_neg n2, if_neg n3, if_pos hl, decide_eq_true_iff]
      dsimp only
      have : T * min a b ≤ min a b * B := by rw [Int.mul_comm T]; exact Int.mul_le_mul_of_nonneg_left tb (by omega)
      exact ⟨fun _ => ⟨by omega, .inl hl⟩, fun _ => this⟩
    · rw [reach_min hk hl t0 tb ha hb]
      unfold lowM highM
      rw [if_neg hl, cd_le (by omega), Int.le_ediv_iff_mul_le t0]
      rcases Int.le_total a b with h | h
      · rw [Int.max_eq_right h, Int.min_eq_left h]
        have e1 : a * T ≤ b * botM k T B := by
          have := Int.mul_le_mul_of_nonneg_left q1 (show 0 ≤ a by omega)
          have := Int.mul_le_mul_of_nonneg_right h (show 0 ≤ botM k T B by omega)
          omega
        rw [Int.mul_comm T b]
        exact ⟨fun z => ⟨e1, .inr z⟩, fun z => z.2.resolve_left hl⟩
      · rw [Int.max_eq_left h, Int.min_eq_right h]
        have e1 : b * T ≤ a * botM k T B := by
          have := Int.mul_le_mul_of_nonneg_left q1 (show 0 ≤ b by omega)
          have := Int.mul_le_mul_of_nonneg_right h (show 0 ≤ botM k T B by omega)
          omega
        rw [Int.mul_comm T a]
        exact ⟨fun z => ⟨z, .inr e1⟩, fun z => z.1⟩
  · rw [decide_eq_false hb, Bool.false_and]
    refine ⟨fun z => (by cases z), fun z => absurd z.1 ?_⟩
    unfold lowM
    split
    · omega
    · rw [cd_le (by omega)]
      have := Int.mul_pos ha t0
      have := Int.mul_nonneg (show 0 ≤ -b by omega) (show 0 ≤ botM k T B by omega)
      rw [Int.neg_mul] at this
      omega
theorem low_ok {k : Str} {T B a : Int} (t0 : 0 < T) (tb : T ≤ B) (ha : 0 < a) : 1 ≤ lowM k T B a ∧ lowM k T B a ≤ a := by
  obtain ⟨q1, q2, q3⟩ := botM_ok (k := k) t0 tb
  unfold lowM
  split
  · omega
  · have h1 : cd (a * T) (botM k T B) ≤ a := by
      rw [cd_le (by omega)]
      exact Int.mul_le_mul_of_nonneg_left q1 (by omega)
    refine ⟨?_, h1⟩
    rcases Int.lt_or_le (cd (a * T) (botM k T B)) 1 with h | h
    · have := (cd_le (t := a * T) (b := botM k T B) (c := 0) (by omega)).mp (by omega)
      have := Int.mul_pos ha t0
      omega
    · exact h
theorem high_ok {k : Str} {T B a : Int} (t0 : 0 < T) (tb : T ≤ B) (ha : 0 < a) : a ≤ highM k T B a ∧ highM k T B a ≤ a * (2 * B) := by
  obtain ⟨q1, q2, q3⟩ := botM_ok (k := k) t0 tb
  unfold highM
  constructor
  · rw [Int.le_ediv_iff_mul_le t0]
    exact Int.mul_le_mul_of_nonneg_left q1 (by omega)
  · have h1 := Int.ediv_le_self T (show 0 ≤ a * botM k T B from Int.mul_nonneg (by omega) (by omega))
    have h2 := Int.mul_le_mul_of_nonneg_left q3 (show 0 ≤ a by omega)
    omega
/-- what is needed rises with the other weight -/
theorem need_mono {k : Str} {T B a b d : Int} (t0 : 0 < T) (tb : T ≤ B) (ha : 0 < a) (hb : 0 < b) (h : b ≤ d) : needM k T B a b ≤ needM k T B a d := by
  have n0 := need_nn (k := k) (b := d) t0 tb ha (by omega)
  have n1 := (need_spec (k := k) (b := d) t0 tb ha (by omega) n0).mpr (Int.le_refl _)
  rw [← need_spec t0 tb ha hb n0]
  revert n1
  generalize needM k T B a d = c at n0
  unfold reach frac
  rw [decide_eq_true_iff, decide_eq_true_iff]
  have w1 : T * (a + b - c) ≤ T * (a + d - c) := Int.mul_le_mul_of_nonneg_left (by omega) (by omega)
  have w2 : T * (a + b) ≤ T * (a + d) := Int.mul_le_mul_of_nonneg_left (by omega) (by omega)
  have w3 : T * max a b ≤ T * max a d := Int.mul_le_mul_of_nonneg_left (by omega) (by omega)
  have w4 : T * min a b ≤ T * min a d := Int.mul_le_mul_of_nonneg_left (by omega) (by omega)
  have w5 : T * (a * b) ≤ T * (a * d) := Int.mul_le_mul_of_nonneg_left (Int.mul_le_mul_of_nonneg_left h (by omega)) (by omega)
  split
  · intro z; exact Int.le_trans w1 z
  · split
    · intro z; exact Int.le_trans w2 z
    · split
      · intro z; exact Int.le_trans w3 z
      · split
        · intro z; exact Int.le_trans w4 z
        · intro z; exact Int.le_trans w5 z
/-- a share told in lowest terms is no less just where the fraction is -/
theorem share_no_less {k : Str} {T B a b c : Int} (ha : 0 < a) (hb : 0 < b) (hp : 0 < (frac k a b c).2) (h0 : 0 ≤ (frac k a b c).1) (h : reach k T B a b c = true) :
    T * (shareM k a b c).2 ≤ (shareM k a b c).1 * B := by
  have h := of_decide_eq_true (show decide (T * (frac k a b c).2 ≤ (frac k a b c).1 * B) = true from h)
  unfold shareM
  rw [if_neg (by omega)]
  dsimp only
  generalize (frac k a b c).1 = x at *
  generalize (frac k a b c).2 = y at *
  have g0 := gcdI_pos (a := x) hp
  have d1 : gcdI x y ∣ x := by
    unfold gcdI
    exact Int.natAbs_dvd_natAbs.mp (by rw [Int.natAbs_natCast]; exact Nat.gcd_dvd_left _ _)
  have d2 : gcdI x y ∣ y := by
    unfold gcdI
    exact Int.natAbs_dvd_natAbs.mp (by rw [Int.natAbs_natCast]; exact Nat.gcd_dvd_right _ _)
  generalize gcdI x y = g at *
  obtain ⟨x', rfl⟩ := d1
  obtain ⟨y', rfl⟩ := d2
  rw [Int.mul_ediv_cancel_left _ (by omega), Int.mul_ediv_cancel_left _ (by omega)]
  have e1 : T * (g * y') = g * (T * y') := by rw [← Int.mul_assoc, Int.mul_comm T g, Int.mul_assoc]
  rw [e1, Int.mul_assoc, mul_cancel_le g0] at h
  exact h
structure MOk (T B a : Int) : Prop where
  l : LOk T B
  a0 : 0 < a
  ab : a * (2 * B) ≤ 2 ^ 190
theorem MOk.bd {T B a : Int} (h : MOk T B a) : a ≤ 2 ^ 190 ∧ B ≤ 2 ^ 190 ∧ (∀ k, 1 ≤ lowM k T B a ∧ lowM k T B a ≤ a ∧ a ≤ highM k T B a ∧ highM k T B a ≤ 2 ^ 190 ∧ 0 < botM k T B ∧ botM k T B ≤ 2 ^ 191 ∧ 0 ≤ a * botM k T B ∧ a * botM k T B ≤ 2 ^ 190) := by
  obtain ⟨⟨t0, tb, _⟩, a0, ab⟩ := h
  have h1 : a * 1 ≤ a * (2 * B) := Int.mul_le_mul_of_nonneg_left (by omega) (by omega)
  have h2 : 1 * (2 * B) ≤ a * (2 * B) := Int.mul_le_mul_of_nonneg_right (by omega) (by omega)
  refine ⟨by omega, by omega, fun k => ?_⟩
  have := low_ok (k := k) t0 tb a0
  have := high_ok (k := k) t0 tb a0
  obtain ⟨q1, q2, q3⟩ := botM_ok (k := k) t0 tb
  have q4 := Int.mul_le_mul_of_nonneg_left q3 (show 0 ≤ a by omega)
  have q5 : 0 ≤ a * botM k T B := Int.mul_nonneg (by omega) (by omega)
  exact ⟨by omega, by omega, by omega, by omega, by omega, by omega, q5, by omega⟩
/-- the share of two weights that have something in common is a least share -/
theorem share_is_least {k : Str} {a b c : Int} (h : WOk a b c) (hc : 0 < c) (hk : k ∈ five) : LOk (shareM k a b c).1 (shareM k a b c).2 ∧ (shareM k a b c).2 ≤ 10 ^ 36 := by
  obtain ⟨a0, a1, b0, b1, c0, ca, cb⟩ := id h
  obtain ⟨f1, f2, f3, f4⟩ := frac_bounds k h (by omega) (by omega)
  have fle : (frac k a b c).1 ≤ (frac k a b c).2 := by
    unfold frac
    split
    · dsimp only; omega
    · split
      · dsimp only; omega
      · split
        · dsimp only; omega
        · split
          · dsimp only; omega
          · exact Int.mul_le_mul ca cb c0 a0
  have fpos : 0 < (frac k a b c).1 := by
    unfold frac
    split
    · exact hc
    · split
      · dsimp only; omega
      · split
        · exact hc
        · split
          · exact hc
          · exact Int.mul_pos hc hc
  unfold shareM
  rw [if_neg (by omega)]
  obtain ⟨g1, g2, g3⟩ := gcdI_div fpos f3
  exact ⟨⟨g1, div_gcd_le fpos fle, g3⟩, Int.le_trans (div_gcd_le_self f3) f4⟩
end MuK

namespace MuSet
open PySem PySem.Spec PyProof.Rows L2
/-! ### sets of texts: what stands at an address, in what order does not matter -/
/-- the payload: it holds just the texts of l, each once; its table rises, and may be walked -/
structure Pay (P : Program) (w : World) (D : PySem.Froz.SD) (l : List Str) : Prop where
  tx : PySem.Froz.TxOk P w D l
  nd : l.Nodup
  ris : Ris D.2.2.place.toList
  led : w.params.followText "set-order" = true ∨ D.2.2.led = true
def TxS (P : Program) (w : World) (h : Heap) (a : Addr) (l : List Str) : Prop := ∃ D, h.get? a = some (PySem.Froz.sObj "set" D) ∧ Pay P w D l
section
variable {P : Program} {w : World} {A : Around} {E : Value → Shared → Prop} {s : Shared} {h h' : Heap} {a : Addr} {l l' : List Str}
theorem TxS.at (R : TxS P w h a l) (k : ∀ o, h.get? a = some o → h'.get? a = some o) : TxS P w h' a l := by
  obtain ⟨D, e, p⟩ := R
  exact ⟨D, k _ e, p⟩
theorem Pay.congr {D : PySem.Froz.SD} (p : Pay P w D l) (e : ∀ k, k ∈ l' ↔ k ∈ l) (nd : l'.Nodup) : Pay P w D l' := by
  have pm : l'.Perm l := (List.perm_ext_iff_of_nodup nd p.nd).mpr e
  exact ⟨⟨p.tx.el, fun k => (e k).trans (p.tx.mem k), by rw [p.tx.sz, pm.length_eq], p.tx.fit⟩, nd, p.ris, p.led⟩
theorem tail_ris {ep : Nat} {es : Array (Int × Value)} {t : SetTable} {b : Bool} (r : Ris t.place.toList) : Ris (PySem.Froz.tailTx ep es t b).2.2.place.toList := by
  unfold PySem.Froz.tailTx
  split
  · exact relayAll_ris _ _ _
  · exact r
theorem tail_led {ep : Nat} {es : Array (Int × Value)} {t : SetTable} {b : Bool} : (PySem.Froz.tailTx ep es t b).2.2.led = t.led := by
  unfold PySem.Froz.tailTx
  split
  · exact relayAll_led _ _ _
  · rfl
theorem addTx_ris {h : Int} {v : Value} {D : PySem.Froz.SD} (r : Ris D.2.2.place.toList) : Ris (PySem.Froz.addTx h v D).2.2.place.toList := by
  have r1 := layNew_ris D.2.2 D.1 h v r
  refine tail_ris ?_
  split
  · exact r1
  · exact r1
theorem addTx_led {h : Int} {v : Value} {D : PySem.Froz.SD} : (PySem.Froz.addTx h v D).2.2.led = D.2.2.led := by
  have r1 := layNew_led D.2.2 D.1 h v
  refine tail_led.trans ?_
  split
  · exact r1
  · exact r1
theorem Pay.add {D : PySem.Froz.SD} {k : Str} {u : Tok} (p : Pay P w D l) (hk : k ∉ l) : Pay P w (PySem.Froz.addTx (hashStr w k) (.str k u) D) (k :: l) :=
  ⟨PySem.Froz.add_ok u p.tx, List.nodup_cons.mpr ⟨hk, p.nd⟩, addTx_ris p.ris, p.led.imp_right fun z => addTx_led.trans z⟩
/-- a text is put in: new, or there already -/
theorem tx_add {k : Str} {u : Tok} {Q : Bool → Shared → Prop} (R : TxS P w s.heap a l) (hb : l.length + 1 < scanBound)
    (q : ∀ h' l', Heap.SameBut a s.heap h' → TxS P w h' a l' → (∀ j, j ∈ l' ↔ j ∈ l ∨ j = k) → l'.length ≤ l.length + 1 → ∀ b, Q b { s with heap := h' }) : wpAny (model P w) A (setAddHashed a (.str k u) (hashStr w k)) Q E s := by
  obtain ⟨D, ho, p⟩ := R
  by_cases hk : k ∈ l
  · -- there already: nothing changes
    obtain ⟨es, ep, t⟩ := D
    have hel : ElemsOf (PySem.strKind P w) es.toList := p.tx.el
    have hsz : es.size = l.length := p.tx.sz
    have hkey : (PySem.strKind P w).is k (.str k u) = true := PySem.Froz.is_str k u
    have hq := q s.heap l (Heap.SameBut.refl a s.heap) ⟨_, ho, p⟩ (fun j => ⟨.inl, fun z => z.elim (fun y => y) (fun y => by rw [y]; exact hk)⟩) (Nat.le_succ _)
    obtain ⟨j, hj⟩ : ∃ j, List.findIdx? (fun e => (PySem.strKind P w).is k e.2) es.toList = some j := by
      cases hr : List.findIdx? (fun e => (PySem.strKind P w).is k e.2) es.toList with
      | some j => exact ⟨j, rfl⟩
      | none =>
        obtain ⟨e, he, z⟩ := (p.tx.mem k).mp hk
        rw [List.findIdx?_eq_none_iff] at hr
        rw [hr e he] at z
        cases z
    unfold setAddHashed setAddHashedIn
    refine wpAny_holding (wpAny_bind (wpAny_setState_of ho rfl p.tx.fit ?_))
    dsimp only
    rw [byScan_of rfl (by omega) hel, if_pos rfl]
    unfold setAddByScan
    refine wpAny_bind (wpAny_bind (wpAny_rule (wpAny_bind (wpAny_setScan_of (knd := PySem.strKind P w) (k := k) hkey ho rfl p.tx.fit hel ?_))))
    rw [hj]
    exact wpAny_pure (wpAny_pure (hq false))
  · refine PySem.Froz.add_x ho p.tx hk hb ?_
    refine q _ (k :: l) (Heap.SameBut.update _ _ _) ⟨_, PySem.Froz.get_upd _ ho rfl, p.add hk⟩ (fun j => ?_) (Nat.le_refl _) true
    rw [List.mem_cons]
    exact ⟨fun z => z.symm, fun z => z.symm⟩
/-! ### the elements, walked -/
/-- in some order -/
theorem tx_walk {D : PySem.Froz.SD} {Q : Array (Int × Value) → Shared → Prop} (ho : s.heap.get? a = some (PySem.Froz.sObj "set" D)) (p : Pay P w D l)
    (q : ∀ (es : Array (Int × Value)) d, es.toList.Perm D.1.toList → Q es { s with drawn := d }) : wpAny (model P w) A (setWalk a) Q E s := by
  obtain ⟨es, ep, t⟩ := D
  have e0 : s = { s with drawn := s.drawn } := rfl
  unfold setWalk
  refine wpAny_bind (wpAny_setState_of ho rfl p.tx.fit ?_)
  dsimp only
  refine wpAny_bind (wpAny_byText ?_)
  by_cases hb : w.params.followText "set-order" = true
  · refine wp_if_pos hb ?_
    exact wpAny_bind (wpAny_askSetting (wpAny_pure (q _ s.drawn (pick_perm _ es))))
  · refine wp_if_neg hb ?_
    try refine wpAny_bind (wpAny_pure ?_)
    have hl : t.led = true := p.led.resolve_left hb
    cases hd : (!t.plain && decide (es.size > 1)) with
    | true =>
      refine wp_if_pos hd ?_
      exact wpAny_bind (drawOrder_at _ _ _ _ (Nat.le_of_eq (Array.length_toList)) fun ys d hp => wpAny_pure (q ys.toArray d (by simpa using hp)))
    | false =>
      refine wp_if_neg (by show ¬ ((!t.plain && decide (es.size > 1)) = true); rw [hd]; exact Bool.false_ne_true) ?_
      try refine wpAny_bind (wpAny_pure ?_)
      refine wpAny_bind (wpAny_of_eq (a := ()) ?_ (wpAny_pure (q es s.drawn (List.Perm.refl _))))
      show (if (!t.led && decide (es.size > 1)) = true then unsupported "set:maker-not-led" else pure ()) = pure ()
      rw [hl] <;> rfl
theorem Pay.strs {D : PySem.Froz.SD} (p : Pay P w D l) : ∀ e ∈ D.1.toList, ∃ k tk, e = (hashStr w k, Value.str k tk) := fun e he => by
  obtain ⟨⟨k, hk, hh⟩, _⟩ := p.tx.el e he
  obtain ⟨h0, v⟩ := e
  have hs : Value.isStrOf k v = true := hk
  obtain ⟨tk, rfl⟩ := Value.isStrOf_shape hs
  exact ⟨k, tk, by rw [show h0 = hashStr w k from hh]⟩
theorem quiet_one : ∀ (es : List (Int × Value)) {β : Type} (r0 : β) (f : Int × Value → β → Sem (ForInStep β)) {s : Shared} {Q : β → Shared → Prop},
    (∀ e ∈ es, f e r0 = pure (ForInStep.yield r0)) → Q r0 s → wpAny (model P w) A (forIn es r0 f) Q E s
  | [], _, _, _, _, _, _, q => by
    rw [List.forIn_nil]
    exact wpAny_pure q
  | e :: es, _, r0, f, _, _, h, q => by
    rw [List.forIn_cons, h e List.mem_cons_self, pure_bind]
    exact quiet_one es r0 f (fun x hx => h x (List.mem_cons_of_mem _ hx)) q
theorem quiet_sets : ∀ (sets : List Addr) {s : Shared} {Q : Bool → Shared → Prop}, (∀ b ∈ sets, ∃ l, TxS P w s.heap b l) → Q true s → wpAny (model P w) A (setsQuiet sets) Q E s := by
  intro sets s Q h q
  unfold setsQuiet
  have main : ∀ (bs : List Addr) {β : Type} (r0 : β) (f : Addr → β → Sem (ForInStep β)) {Q : β → Shared → Prop},
      (∀ b ∈ bs, ∀ Q2 : ForInStep β → Shared → Prop, Q2 (ForInStep.yield r0) s → wpAny (model P w) A (f b r0) Q2 E s) → Q r0 s → wpAny (model P w) A (forIn bs r0 f) Q E s := by
    intro bs
    induction bs with
    | nil =>
      intro β r0 f Q _ q
      rw [List.forIn_nil]
      exact wpAny_pure q
    | cons b bs ih =>
      intro β r0 f Q h q
      rw [List.forIn_cons]
      refine wpAny_bind (h b List.mem_cons_self _ ?_)
      exact ih r0 f (fun x hx => h x (List.mem_cons_of_mem _ hx)) q
  refine wpAny_bind (main sets _ _ (fun b hb Q2 q2 => ?_) ?_)
  · obtain ⟨lb, D, ho, p⟩ := h b hb
    refine wpAny_bind (wpAny_setEntries_of ho rfl p.tx.fit ?_)
    rw [← Array.forIn_toList]
    refine wpAny_bind (quiet_one _ _ _ (fun e he => ?_) ?_)
    · obtain ⟨k, tk, rfl⟩ := p.strs e he
      rfl
    · exact wpAny_pure q2
  · exact wpAny_pure q
/-- walked where nobody sees it: f, which is being filled, may lose its marks -/
theorem tx_unseen {D : PySem.Froz.SD} {f : Addr} {lf : List Str} {others : List Addr} {Q : Array (Int × Value) → Shared → Prop} (ho : s.heap.get? a = some (PySem.Froz.sObj "set" D)) (p : Pay P w D l) (hf : TxS P w s.heap f lf)
    (hz : lf.length < scanBound) (hoth : ∀ b ∈ others, ∃ l, TxS P w s.heap b l)
    (q : ∀ (es : Array (Int × Value)) h' d, es.toList.Perm D.1.toList → Heap.SameBut f s.heap h' → TxS P w h' f lf → Q es { s with heap := h', drawn := d }) : wpAny (model P w) A (setWalkUnseen a others (some f)) Q E s := by
  have plainly : wpAny (model P w) A (setWalk a) Q E s := tx_walk ho p fun es d hp => q es s.heap d hp (Heap.SameBut.refl f s.heap) hf
  obtain ⟨es, ep, t⟩ := D
  unfold setWalkUnseen
  refine wpAny_bind (wpAny_setState_of ho rfl p.tx.fit ?_)
  dsimp only
  refine wpAny_bind (wpAny_byText ?_)
  cases hc : (w.params.followText "set-order" || t.led && t.plain || decide (es.size ≤ 1)) with
  | true =>
    refine wp_if_pos rfl ?_
    first | exact plainly | exact wpAny_bind (m := setWalk a) (thn plainly fun v s' z => wpAny_pure z)
  | false =>
    refine wp_if_neg Bool.false_ne_true ?_
    try refine wpAny_bind (wpAny_pure ?_)
    refine wpAny_bind (quiet_sets (a :: others) (fun b hb => ?_) ?_)
    · rcases List.mem_cons.mp hb with rfl | hb
      · exact ⟨l, _, ho, p⟩
      · exact hoth b hb
    refine wp_if_neg (by simp) ?_
    try refine wpAny_bind (wpAny_pure ?_)
    refine wpAny_bind (wpAny_rule ?_)
    obtain ⟨Df, hof, pf⟩ := id hf
    obtain ⟨ef, epf, tf⟩ := Df
    have hled : w.params.followText "set-order" = true ∨ t.led = true := p.led
    refine wpAny_bind (wpAny_setState_of hof rfl pf.tx.fit ?_)
    dsimp only
    split
    · refine wpAny_bind (wpAny_storeSet_of hof rfl ?_ (fits_of_scanBound (by have := pf.tx.sz; dsimp only at this; omega)))
      have hd : (s.heap.update f (Obj.putSet ef { tf with led := tf.led && t.led, plain := tf.plain && t.plain })).get? f = some (PySem.Froz.sObj "set" (ef, epf + 1, { tf with led := tf.led && t.led, plain := tf.plain && t.plain })) :=
        (Heap.get?_update_self _ hof rfl).trans rfl
      have hp2 : Pay P w (ef, epf + 1, { tf with led := tf.led && t.led, plain := tf.plain && t.plain }) lf :=
        ⟨⟨pf.tx.el, pf.tx.mem, pf.tx.sz, pf.tx.fit⟩, pf.nd, pf.ris, by
          rcases hled with z | z
          · exact .inl z
          · rcases pf.led with y | y
            · exact .inl y
            · refine .inr ?_
              show (tf.led && t.led) = true
              rw [show tf.led = true from y, z] <;> rfl⟩
      exact wpAny_pure (q es _ s.drawn (List.Perm.refl _) (Heap.SameBut.update _ _ _) ⟨_, hd, hp2⟩)
    · exact wpAny_pure (q es s.heap s.drawn (List.Perm.refl _) (Heap.SameBut.refl f s.heap) hf)
/-! ### one & other -/
theorem sub_set : isSubtype (.type "set") (.type "set") = pure true := sub_set_self
theorem tx_type (R : TxS P w s.heap a l) : s.TypeIs (.ref a) "set" := by
  obtain ⟨D, ho, _⟩ := R
  exact ⟨_, ho, rfl⟩
theorem same_epoch {y : Addr} {ly : List Str} {Dy : PySem.Froz.SD} {nm : String} {Q : Unit → Shared → Prop} (hoy : s.heap.get? y = some (PySem.Froz.sObj "set" Dy)) (py : Pay P w Dy ly) (q : Q () s) : wpAny (model P w) A (Builtin.Frozenset.unchanged nm y Dy.2.1) Q E s := by
  unfold Builtin.Frozenset.unchanged
  refine wpAny_bind (wpAny_setEpoch_of hoy rfl py.tx.fit ?_)
  refine wp_if_neg (by simp) ?_
  exact wpAny_pure q
/-- those of the walked ones that the asked set has are put into r -/
theorem tx_fill {r o y : Addr} {lo ly : List Str} {Dy : PySem.Froz.SD} {nm : String} (hro : r ≠ o) (hry : r ≠ y) (py : Pay P w Dy ly) (f : Int × Value → PUnit → Sem (ForInStep PUnit)) (hfd : ∀ e, f e PUnit.unit = (do
        holding [e.2] (do
          if (← setFind o e.2 e.1).isSome then
            let _ ← setAddHashed r e.2 e.1
          else pure PUnit.unit)
        Builtin.Frozenset.unchanged nm y Dy.2.1
        pure (ForInStep.yield PUnit.unit))) : ∀ (es : List (Int × Value)) (ks : List Str) {s : Shared} {lr : List Str} {Q : PUnit → Shared → Prop}, Paired (fun (e : Int × Value) (k : Str) => ∃ tk, e = (hashStr w k, Value.str k tk)) es ks →
    s.heap.get? y = some (PySem.Froz.sObj "set" Dy) → TxS P w s.heap o lo → TxS P w s.heap r lr → lo.length < scanBound → lr.length + es.length < scanBound →
    (∀ h' lr' tk, Heap.SameBut r s.heap h' → TxS P w h' r lr' → (∀ j, j ∈ lr' ↔ j ∈ lr ∨ (j ∈ ks ∧ j ∈ lo)) → Q PUnit.unit { s with heap := h', toks := tk }) →
    wpAny (model P w) A (forIn es PUnit.unit f) Q E s
  | _, _, s, lr, Q, .nil, _, _, hr, _, _, q => by
    rw [List.forIn_nil]
    exact wpAny_pure (q s.heap lr s.toks (Heap.SameBut.refl r s.heap) hr (fun j => by simp))
  | _, _, s, lr, Q, .cons (a := e) (b := k) (l₁ := es) (l₂ := ks) he hes, hoy, ho, hr, hz, hz2, q => by
    obtain ⟨tk, rfl⟩ := he
    rw [List.forIn_cons, hfd]
    obtain ⟨Do, hoo, po⟩ := id ho
    obtain ⟨eo, epo, to⟩ := Do
    have hso : eo.size = lo.length := po.tx.sz
    have hs1 : eo.size < scanBound := by omega
    have hl2 : lr.length + (es.length + 1) < scanBound := by simpa using hz2
    refine wpAny_bind (wpAny_bind (wpAny_holding ?_))
    refine wpAny_bind (PySem.W.setFind_any (knd := PySem.strKind P w) (S := fun j => decide (j ∈ lo)) (k := k) (PySem.Froz.is_str k tk) rfl hoo rfl po.tx.el (fun j => by rw [decide_eq_true_eq]; exact po.tx.mem j) hs1 po.tx.fit fun fd hfd2 => ?_)
    by_cases hk : k ∈ lo
    · rw [if_pos (by rw [hfd2]; exact decide_eq_true hk)]
      refine wpAny_bind (tx_add (k := k) (u := tk) hr (by omega) fun h' l' sb R m ll b => ?_)
      refine wpAny_pure ?_
      have hoy' : h'.get? y = some (PySem.Froz.sObj "set" Dy) := by
        rw [sb.2 y (Ne.symm hry)]
        exact hoy
      refine wpAny_bind (same_epoch hoy' py (wpAny_pure ?_))
      refine tx_fill hro hry py f hfd es ks hes hoy' (ho.at fun u z => by rw [sb.2 o (Ne.symm hro)]; exact z) R hz ?_ fun h2 lr2 tk2 sb2 R2 m2 => q h2 lr2 tk2 (sb.trans sb2) R2 fun j => ?_
      · omega
      · rw [m2, m, List.mem_cons]
        constructor
        · rintro ((z | z) | ⟨z, y⟩)
          · exact .inl z
          · exact .inr ⟨.inl z, by rw [z]; exact hk⟩
          · exact .inr ⟨.inr z, y⟩
        · rintro (z | ⟨z | z, y⟩)
          · exact .inl (.inl z)
          · exact .inl (.inr z)
          · exact .inr ⟨z, y⟩
    · rw [if_neg (by rw [hfd2, decide_eq_false hk]; exact Bool.false_ne_true)]
      refine wpAny_pure ?_
      refine wpAny_bind (same_epoch hoy py (wpAny_pure ?_))
      refine tx_fill hro hry py f hfd es ks hes hoy ho hr hz (by omega) fun h2 lr2 tk2 sb2 R2 m2 => q h2 lr2 tk2 sb2 R2 fun j => ?_
      rw [m2, List.mem_cons]
      constructor
      · rintro (z | ⟨z, y⟩)
        · exact .inl z
        · exact .inr ⟨.inr z, y⟩
      · rintro (z | ⟨z | z, y⟩)
        · exact .inl z
        · exact absurd (by rw [← z]; exact y) hk
        · exact .inr ⟨z, y⟩
theorem strs_keys : ∀ (es : List (Int × Value)), (∀ e ∈ es, ∃ k tk, e = (hashStr w k, Value.str k tk)) → ∃ ks : List Str, Paired (fun (e : Int × Value) (k : Str) => ∃ tk, e = (hashStr w k, Value.str k tk)) es ks ∧ (∀ j, j ∈ ks ↔ ∃ e ∈ es, (PySem.strKind P w).is j e.2 = true)
  | [], _ => ⟨[], .nil, fun j => by simp⟩
  | e :: es, h => by
    obtain ⟨ks, h1, h2⟩ := strs_keys es fun x hx => h x (List.mem_cons_of_mem _ hx)
    obtain ⟨k, tk, rfl⟩ := h e List.mem_cons_self
    refine ⟨k :: ks, .cons ⟨tk, rfl⟩ h1, fun j => ?_⟩
    rw [List.mem_cons, h2]
    constructor
    · rintro (rfl | ⟨e, he, z⟩)
      · exact ⟨_, List.mem_cons_self, PySem.Froz.is_str j tk⟩
      · exact ⟨e, List.mem_cons_of_mem _ he, z⟩
    · rintro ⟨e, he, z⟩
      rcases List.mem_cons.mp he with rfl | he
      · exact .inl ((PySem.strKind P w).inj (.str k tk) j k z (PySem.Froz.is_str k tk))
      · exact .inr ⟨e, he, z⟩
theorem tx_len {D : PySem.Froz.SD} (p : Pay P w D l) : D.1.size = l.length := p.tx.sz
theorem fresh_pay {h : Heap} : TxS P w (h.push { cls := .type "set", dict := none, data := .set #[] 0 (.fresh 0 0 (!w.params.followText "set-order")) }) h.objs.size [] :=
  ⟨(#[], 0, .fresh 0 0 (!w.params.followText "set-order")), Heap.get?_push_size _ rfl, ⟨PySem.Froz.TxOk.nil rfl, List.nodup_nil, List.Pairwise.nil, by
    show w.params.followText "set-order" = true ∨ (!w.params.followText "set-order") = true
    cases w.params.followText "set-order"
    · exact .inr rfl
    · exact .inl rfl⟩⟩
theorem any_set {b : Addr} {lb : List Str} {Q : Bool → Shared → Prop} (R : TxS P w s.heap b lb) (q : Q true s) : wpAny (model P w) A (Builtin.Frozenset.isAnySet (.ref b)) Q E s := by
  unfold Builtin.Frozenset.isAnySet
  refine wpAny_bind (wpAny_isInstance (tx_type R) sub_set_self ?_)
  exact wpAny_pure q
theorem tx_and {b : Addr} {la lb : List Str} {nm : String} {Q : Value → Shared → Prop} (Ra : TxS P w s.heap a la) (Rb : TxS P w s.heap b lb) (hab : a ≠ b) (hz : la.length + lb.length < scanBound)
    (q : ∀ h' lr d tk, (∀ c o, s.heap.get? c = some o → h'.get? c = some o) → TxS P w h' s.heap.objs.size lr → (∀ j, j ∈ lr ↔ j ∈ la ∧ j ∈ lb) → Q (.ref s.heap.objs.size) { s with heap := h', drawn := d, toks := tk }) :
    wpAny (model P w) A (Builtin.Frozenset.intersection nm a (.ref b)) Q E s := by
  have hlt : ∀ c lc, TxS P w s.heap c lc → c < s.heap.objs.size := fun c lc R => by
    obtain ⟨D, ho, _⟩ := R
    exact Heap.lt_size ho
  unfold Builtin.Frozenset.intersection
  refine wp_if_neg (by simp [Ne.symm hab]) ?_
  try refine wpAny_bind (wpAny_pure ?_)
  refine wpAny_bind ?_
  unfold Builtin.Frozenset.baseOf
  refine wpAny_bind (wpAny_isInstance (tx_type Ra) sub_set_self ?_)
  refine wpAny_pure ?_
  rw [if_pos rfl]
  refine wpAny_bind ?_
  unfold newSet
  refine wpAny_bind (wpAny_byText ?_)
  refine wpAny_newObj_type ?_
  refine wpAny_bind (wpAny_pure ?_)
  generalize hs1 : ({ s with heap := s.heap.push { cls := .type "set", dict := none, data := .set #[] 0 (.fresh 0 0 (!w.params.followText "set-order")) } } : Shared) = s1
  have k1 : ∀ c o, s.heap.get? c = some o → s1.heap.get? c = some o := fun c o e => by
    rw [← hs1]
    exact Heap.get?_push_of_some _ e
  have Rr : TxS P w s1.heap s.heap.objs.size [] := by
    rw [← hs1]
    exact fresh_pay
  have Ra1 := Ra.at (h' := s1.heap) fun o e => k1 a o e
  have Rb1 := Rb.at (h' := s1.heap) fun o e => k1 b o e
  -- the loop, for either choice of which one is walked
  have run : ∀ (x y : Addr) (lx ly : List Str) (G : PUnit → Shared → Prop), TxS P w s1.heap x lx → TxS P w s1.heap y ly → x < s.heap.objs.size → y < s.heap.objs.size → lx.length + ly.length < scanBound → x ≠ y →
      (∀ h' lr d tk, (∀ c o, s.heap.get? c = some o → h'.get? c = some o) → TxS P w h' s.heap.objs.size lr → (∀ j, j ∈ lr ↔ j ∈ lx ∧ j ∈ ly) → G PUnit.unit { s with heap := h', drawn := d, toks := tk }) →
      wpAny (model P w) A (do
        let was ← setEpoch y
        for (h, z) in ← setWalkUnseen y [x, s.heap.objs.size] (some s.heap.objs.size) do
          holding [z] do
            if (← setFind x z h).isSome then
              let _ ← setAddHashed s.heap.objs.size z h
          Builtin.Frozenset.unchanged nm y was) G E s1 := by
    intro x y lx ly G Rx Ry hx hy hz hxy g
    obtain ⟨Dy, hoy, py⟩ := id Ry
    refine wpAny_bind (wpAny_setEpoch_of hoy rfl py.tx.fit ?_)
    refine wpAny_bind (tx_unseen hoy py Rr (by decide) (fun c hc => ?_) fun es h2 d2 pm sb R2 => ?_)
    · rcases List.mem_cons.mp hc with rfl | hc
      · exact ⟨lx, Rx⟩
      · rw [List.mem_singleton.mp hc]
        exact ⟨[], Rr⟩
    obtain ⟨ks, pk, mk⟩ := strs_keys (P := P) (w := w) es.toList fun e he => py.strs e (pm.mem_iff.mp he)
    rw [← Array.forIn_toList]
    have hne : ∀ c, c < s.heap.objs.size → s.heap.objs.size ≠ c := fun c hc => Ne.symm (Nat.ne_of_lt hc)
    have k2 : ∀ c o, c < s.heap.objs.size → s1.heap.get? c = some o → h2.get? c = some o := fun c o hc e => by
      rw [sb.2 c (Nat.ne_of_lt hc)]
      exact e
    have hkl : es.toList.length ≤ ly.length := by
      rw [pm.length_eq, Array.length_toList, tx_len py]
      exact Nat.le_refl _
    have hoy2 : h2.get? y = some (PySem.Froz.sObj "set" Dy) := k2 y _ hy hoy
    refine wpAny_bind (tx_fill (r := s.heap.objs.size) (o := x) (lo := lx) (nm := nm) (hne x hx) (hne y hy) py _ (fun e => rfl) es.toList ks pk hoy2 (Rx.at fun o e => k2 x o hx e) R2 (by omega) (by simp only [List.length_nil]; omega) fun h3 l3 tk3 sb3 R3 m3 => ?_)
    refine wpAny_pure ?_
    have fin := g h3 l3 d2 tk3 (fun c o e => by
      have hc := Heap.lt_size e
      rw [sb3.2 c (Nat.ne_of_lt hc)]
      exact k2 c o hc (k1 c o e)) R3 (fun j => by
        rw [m3, mk]
        constructor
        · rintro (z | ⟨⟨e, he, z⟩, y⟩)
          · cases z
          · exact ⟨y, (py.tx.mem j).mpr ⟨e, pm.mem_iff.mp he, z⟩⟩
        · rintro ⟨z, y⟩
          obtain ⟨e, he, v⟩ := (py.tx.mem j).mp y
          exact .inr ⟨⟨e, pm.mem_iff.mpr he, v⟩, z⟩)
    rw [← hs1]
    exact fin
  refine wpAny_bind (wpAny_holding ?_)
  refine wpAny_bind (any_set Rb1 ?_)
  refine wp_if_pos rfl ?_
  refine wpAny_bind (wpAny_pure ?_)
  obtain ⟨Da, hoa, pa⟩ := id Ra1
  obtain ⟨Db, hob, pb⟩ := id Rb1
  unfold Builtin.Frozenset.sizeOf
  refine wpAny_bind (wpAny_bind (wpAny_setEntries_of hob rfl pb.tx.fit (wpAny_pure ?_)))
  refine wpAny_bind (wpAny_bind (wpAny_setEntries_of hoa rfl pa.tx.fit (wpAny_pure ?_)))
  have ha := hlt a la Ra
  have hb := hlt b lb Rb
  by_cases hc : Db.1.size > Da.1.size
  · rw [if_pos hc]
    refine run b a lb la (fun _ s' => wpAny (model P w) A (pure (Value.ref s.heap.objs.size)) Q E s') Rb1 Ra1 hb ha (by omega) (Ne.symm hab) fun h' lr d tk k R m => wpAny_pure (q h' lr d tk k R fun j => by rw [m]; exact And.comm)
  · rw [if_neg hc]
    exact run a b la lb (fun _ s' => wpAny (model P w) A (pure (Value.ref s.heap.objs.size)) Q E s') Ra1 Rb1 ha hb hz hab fun h' lr d tk k R m => wpAny_pure (q h' lr d tk k R m)
/-! ### set(words) -/
/-- the walked texts go into the set at S, one after another -/
theorem tx_update {I S : Addr} {fp wr : List Addr} {G : Array GenState → Array GenState → Prop} {n : Nat} {Pv : Nat → Value → Prop} {St : Nat → Shared → Prop} {R : Result → Shared → Prop} (W : WalksS P w A.in1 I fp wr G n Pv St) (hS : S ∉ fp)
    (xs : List Str) (hv : ∀ i v, Pv i v → ∃ x t, xs[i]? = some x ∧ v = .str x t) (hn : n = xs.length) (hz : n < 4000) : ∀ (k i : Nat) (s : Shared), n - i = k → i ≤ n → St i s → (∃ l, TxS P w s.heap S l ∧ (∀ j, j ∈ l ↔ j ∈ xs.take i) ∧ l.length ≤ i) →
    (∀ s', Moved (S :: wr) G s s' → (∃ l, TxS P w s'.heap S l ∧ (∀ j, j ∈ l ↔ j ∈ xs) ∧ l.length ≤ n) → R (.ok (.ret .none)) s') → codeAny (model P w) A (.builtin "set.update.loop" ⟨[.ref S, .ref I], []⟩) R s := by
  have hSw : S ∉ wr := fun z => hS (W.sub _ z)
  have up : ∀ b ∈ wr, b ∈ S :: wr := fun b z => List.mem_cons_of_mem _ z
  intro k
  induction k with
  | zero =>
    intro i s hk hi hst ⟨l, T, m, ll⟩ fin
    obtain rfl : i = n := by omega
    refine codeAny_builtin PyProof.Rows.F.entry_set_update_loop ?_
    rw [Around.under_plainId PyProof.Rows.F.plain_set_update_loop _]
    show wpAny _ A.in1 (pyNext (.ref I) >>= _) _ _ s
    refine wpAny_bind (W.done s _ _ hst fun s2 mv => ?_)
    rw [hn, List.take_length] at m
    exact wpAny_pure (fin s2 (mv.mono up) ⟨l, T.at fun o e => mv.heap S o hSw e, m, ll⟩)
  | succ k ih =>
    intro i s hk hi hst ⟨l, T, m, ll⟩ fin
    have hlt : i < n := by omega
    refine codeAny_builtin PyProof.Rows.F.entry_set_update_loop ?_
    rw [Around.under_plainId PyProof.Rows.F.plain_set_update_loop _]
    show wpAny _ A.in1 (pyNext (.ref I) >>= _) _ _ s
    refine wpAny_bind (W.item i s _ _ hlt hst fun v s2 hp hst2 mv => ?_)
    obtain ⟨x, t, hx, rfl⟩ := hv i v hp
    have T2 : TxS P w s2.heap S l := T.at fun o e => mv.heap S o hSw e
    show wpAny _ A.in1 (holding [Value.str x t] (setAdd S (.str x t)) >>= _) _ _ s2
    refine wpAny_bind (wpAny_holding ?_)
    unfold setAdd
    refine wpAny_holding (wpAny_bind ((PySem.strKind P w).pyHash (k := x) (PySem.Froz.is_str x t) ?_))
    refine tx_add (s := { s2 with toks := s2.toks + 1 }) (k := x) (u := t) T2 (by show l.length + 1 < 4096; omega) fun h3 l3 sb T3 m3 ll3 b => ?_
    have m4 : ∀ j, j ∈ l3 ↔ j ∈ xs.take (i + 1) := fun j => by
      rw [m3, m, List.take_add_one, hx, List.mem_append]
      simp
    refine wpAny_pure ⟨plainId_quiet PyProof.Rows.F.plain_set_update_loop _, ih (i + 1) _ (by omega) hlt (W.frame _ s2 _ _ hst2 (Nat.le_succ _) fun c hc o e => ?_) ⟨l3, T3, m4, by omega⟩ fun s4 mv4 R4 => ?_⟩
    · rw [sb.2 c fun z => hS (z ▸ hc)]
      exact e
    · refine fin s4 (Moved.trans W.gtrans ((mv.mono up).then_heap (Nat.le_succ _) fun c o hc e => ?_) mv4) R4
      rw [sb.2 c fun z => hc (by rw [z]; exact List.mem_cons_self)]
      exact e
abbrev newS (w : World) : Obj := { cls := .type "set", dict := none, data := .set #[] 0 (.fresh 0 0 (!w.params.followText "set-order")) }
set_option maxHeartbeats 8000000 in
theorem tx_of_list {p : Addr} {its : Array Value} {xs : List Str} {Q : Value → Shared → Prop} (hh : A.handled = none) (hp : s.heap.IsList p its) (hx : ∀ (i : Nat) (v : Value), its[i]? = some v → ∃ (x : Str) (t : Tok), xs[i]? = some x ∧ v = Value.str x t) (hn : its.size = xs.length) (hz : its.size < 4000)
    (q : ∀ h' tk l, TxS P w h' s.heap.objs.size l → (∀ j, j ∈ l ↔ j ∈ xs) → l.length ≤ xs.length → (∀ b o, s.heap.get? b = some o → h'.get? b = some o) → Q (.ref s.heap.objs.size) { s with heap := h', toks := tk }) : wpAny (model P w) A (call (.type "set") [.ref p]) Q E s := by
  obtain ⟨c0, tl0, hmro⟩ := F.called_set.mro
  have f1 := F.called_set.made; have f2 := F.called_set.sub; have f3 := F.called_set.notType; have f4 := F.called_set.canCreate; have f5 := F.typeCall_set_1 (.ref p)
  refine wpAny_call (codeAny_of_tree ?_)
  show wpAny _ _ (callAny (.type "set") _) _ _ _
  refine wpAny_pure ⟨Code.quiet_builtin _ (by decide +kernel), codeAny_builtin F.entry_type_call ?_⟩
  rw [Around.under_plain (weight_type_call_type "set" [.ref p] []) rfl]
  repeat any_goals (first | assumption | wp_step)
  refine codeAny_mono (code_set_led1 (.ref p) (E := E) (Q₁ := fun ob s1 => ob = .ref s.heap.objs.size ∧ s1 = { s with heap := s.heap.push (newS w) }) ⟨rfl, rfl⟩) fun r s1 hr => ?_
  cases r with
  | error e => exact hr
  | ok fl => cases fl with
    | next => exact hr.elim
    | brk => exact hr.elim
    | cont => exact hr.elim
    | ret ob =>
      obtain ⟨rfl, rfl⟩ := hr
      have hS : (s.heap.push (newS w)).get? s.heap.objs.size = some (newS w) := Heap.get?_push_size _ rfl
      have hT : Shared.TypeIs { s with heap := s.heap.push (newS w) } (.ref s.heap.objs.size) "set" := ⟨_, hS, rfl⟩
      have g1 := F.called_set.init.lookup; have g2 := F.called_set.init.bind (.ref s.heap.objs.size)
      repeat any_goals (first | assumption | wp_step)
      refine codeAny_mono (codeAny_call_builtin (R := wants (fun r s2 => r = .none ∧ ∃ h' tk l, s2 = { s with heap := h', toks := tk } ∧ TxS P w h' s.heap.objs.size l ∧ (∀ j, j ∈ l ↔ j ∈ xs) ∧ l.length ≤ xs.length ∧ (∀ b o, s.heap.get? b = some o → h'.get? b = some o)) E) F.called_set.init.plain F.entry_set_init (check_set_init_1 hT ?_)) fun r2 s2 hr2 => ?_
      · obtain ⟨⟨oc, od, odt, osl⟩, ho, hc, n0, hd⟩ := hp
        simp only at hc hd
        subst hc; subst hd
        have ho' : (s.heap.push (newS w)).get? p = some { cls := .type "list", dict := od, data := .seq its n0, slots := osl } := Heap.get?_push_of_some _ ho
        have e1 := F.sub_list_set; have e2 := F.sub_list_frozenset
        have e3 : (Value.type "list" == Value.type "dict") = false := by decide
        have hl : (s.heap.push (newS w)).IsList p its := ⟨_, ho', rfl, n0, rfl⟩
        have hps : p < s.heap.objs.size := Heap.lt_size ho
        have hz1 : (s.heap.push (newS w)).objs.size = s.heap.objs.size + 1 := Heap.size_push ..
        unfold Builtin.«set.__init__» noKeywords Builtin.Frozenset.updateFrom
        generalize hPI : pyIter = PI
        wp_walk
        subst hPI
        refine wpAny_pyIter_list hl (wpAny_bind (wpAny_runValue ?_))
        have hh3 : A.in1.in1.in1.handled = none := by simp [hh]
        have n1 : p ≠ (s.heap.push (newS w)).objs.size := by
          rw [hz1]
          exact Nat.ne_of_lt (Nat.lt_succ_of_lt hps)
        have n2 : s.heap.objs.size ∉ [(s.heap.push (newS w)).objs.size, p] := fun z => by
          rcases List.mem_cons.mp z with z | z
          · rw [hz1] at z
            exact Nat.ne_of_lt (Nat.lt_succ_self _) z
          · exact Nat.ne_of_gt hps (List.mem_singleton.mp z)
        refine tx_update ((Walks.list hh3 _ p n1 its).toS) n2 xs hx hn hz (its.size - 0) 0 _ (by omega) (Nat.zero_le _) ⟨⟨_, Heap.get?_push_size _ rfl, rfl, rfl⟩, hl.push _⟩
          ⟨[], (fresh_pay (P := P) (w := w) (h := s.heap)).at fun o e => Heap.get?_push_of_some _ e, fun j => by simp, Nat.le_refl _⟩ fun s3 mv ⟨l, T, m, ll⟩ => ?_
        obtain ⟨h3, gg, dd, tk, oo⟩ := s3
        obtain rfl : gg = s.gens := mv.gens
        obtain rfl : dd = s.drawn := mv.drawn
        obtain rfl : oo = s.os := mv.os
        refine wpAny_pure ?_
        show wpAny _ _ (ret Value.none) _ _ _
        refine wpAny_pure ⟨rfl, h3, tk, l, rfl, T, m, by omega, fun b o e => ?_⟩
        have hb := Heap.lt_size e
        refine mv.heap b o (fun z => ?_) (Heap.get?_push_of_some _ (Heap.get?_push_of_some _ e))
        rcases List.mem_cons.mp z with z | z
        · exact Nat.ne_of_lt hb z
        · rw [List.mem_singleton.mp z, hz1] at hb
          exact absurd hb (Nat.not_lt_of_le (Nat.le_succ _))
      · cases r2 with
        | error e => exact hr2
        | ok fl2 => cases fl2 with
          | next => exact hr2.elim
          | brk => exact hr2.elim
          | cont => exact hr2.elim
          | ret r =>
            obtain ⟨rfl, h', tk, l, rfl, T, m, ll, k⟩ := hr2
            repeat any_goals (first | assumption | wp_step)
            exact q _ _ _ T m ll k
end
end MuSet

namespace MuSet
open PySem PySem.Spec PyProof.Rows L2
section
variable {P : Program} {w : World} {A : Around} {E : Value → Shared → Prop} {s : Shared} {h h' : Heap} {a : Addr} {l l' : List Str}
/-! ### sorted(set), len(set) -/
/-- a list as long as one without repetition that has the same members has none either -/
theorem nodup_of_len : ∀ {α : Type} [DecidableEq α] {l xs : List α}, l.Nodup → (∀ j, j ∈ xs ↔ j ∈ l) → xs.length ≤ l.length → xs.Nodup := by
  intro α _ l
  induction l with
  | nil =>
    intro xs _ m _
    cases xs with
    | nil => exact List.nodup_nil
    | cons x r => exact absurd ((m x).mp List.mem_cons_self) (by simp)
  | cons y l ih =>
    intro xs nd m ll
    obtain ⟨n1, n2⟩ := List.nodup_cons.mp nd
    have hy : y ∈ xs := (m y).mpr List.mem_cons_self
    have pm := List.perm_cons_erase hy
    have hl : (xs.erase y).length + 1 = xs.length := by
      rw [pm.length_eq]
      rfl
    -- what is left without every y
    have sub : ∀ j, j ∈ (xs.filter (fun z => decide (z ≠ y))) ↔ j ∈ l := fun j => by
      rw [List.mem_filter, m, List.mem_cons, decide_eq_true_eq]
      constructor
      · rintro ⟨z | z, h⟩
        · exact absurd z h
        · exact z
      · intro z
        exact ⟨.inr z, fun e => n1 (e ▸ z)⟩
    have fl : (xs.filter (fun z => decide (z ≠ y))).length ≤ (xs.erase y).length := by
      have e1 : (xs.filter (fun z => decide (z ≠ y))).Perm ((y :: xs.erase y).filter (fun z => decide (z ≠ y))) := pm.filter _
      rw [e1.length_eq, List.filter_cons, if_neg (by simp)]
      exact List.length_filter_le _ _
    have hll : xs.length ≤ l.length + 1 := ll
    have nd2 := ih n2 sub (by omega)
    have fe : (xs.filter (fun z => decide (z ≠ y))).length = l.length := ((List.perm_ext_iff_of_nodup nd2 n2).mpr sub).length_eq
    have e2 : (xs.erase y).filter (fun z => decide (z ≠ y)) = xs.erase y := by
      have e1 : (xs.filter (fun z => decide (z ≠ y))).Perm ((y :: xs.erase y).filter (fun z => decide (z ≠ y))) := pm.filter _
      rw [List.filter_cons, if_neg (by simp)] at e1
      have q := e1.length_eq
      exact List.filter_eq_self.mpr (List.length_filter_eq_length_iff.mp (by
        have := List.length_filter_le (fun z => decide (z ≠ y)) (xs.erase y)
        omega))
    have ye : y ∉ xs.erase y := fun z => by
      rw [← e2, List.mem_filter] at z
      simp at z
    refine pm.nodup_iff.mpr (List.nodup_cons.mpr ⟨ye, ?_⟩)
    have e1 : (xs.filter (fun z => decide (z ≠ y))).Perm ((y :: xs.erase y).filter (fun z => decide (z ≠ y))) := pm.filter _
    rw [List.filter_cons, if_neg (by simp), e2] at e1
    exact e1.nodup_iff.mp nd2
theorem tx_sorted {Q : Value → Shared → Prop} (R : TxS P w s.heap a l) (hh : A.handled = none) (h64 : l.length < 64)
    (q : ∀ s2 p (out : Array Value) (c : Nat) (ys : List Str), (∀ b o, s.heap.get? b = some o → s2.heap.get? b = some o) → s2.gens = s.gens → s2.os = s.os → s.heap.objs.size ≤ p → s2.heap.get? p = some (seqObj "list" out c) →
      StrsAre out.toList ys → sortedS ys = true → ys.Nodup → (∀ j, j ∈ ys ↔ j ∈ l) → Q (.ref p) s2) : wpAny (model P w) A (call (.builtin "sorted") [.ref a]) Q E s := by
  obtain ⟨⟨es, ep, t⟩, ho, p⟩ := R
  have hsz : es.size = l.length := p.tx.sz
  refine Calls.call_function_entry kind_sorted plain_sorted entry_sorted (args_sorted1 _) ?_
  unfold Builtin.«sorted»
  refine wpAny_bind (m := checkCount "sorted" 1 1 _) (wpAny_pure ?_)
  refine wpAny_bind (collect_set (A := A.in1) hh ⟨_, ho, rfl, rfl⟩ p.tx.fit (by show es.size < 4096; omega) p.ris p.led fun s1 vs k1 hz g1 o1 pm => ?_)
  have hvl : vs.length = l.length := by
    rw [pm.length_eq, List.length_map, Array.length_toList]
    exact hsz
  have vstr : ∀ v ∈ vs, ∃ x t, v = Value.str x t := fun v hv => by
    obtain ⟨e, he, z⟩ := List.mem_map.mp (pm.mem_iff.mp hv)
    obtain ⟨k, tk, rfl⟩ := p.strs e he
    exact ⟨k, tk, z.symm⟩
  have hI : StrsAre vs (vs.map strOf) := strsAre_map vs vstr
  refine wpAny_bind (wpAny_newList ?_ (by rw [hvl, sizeLine_eq]; omega))
  have hoL : (s1.heap.push (seqObj "list" vs.toArray 0)).get? s1.heap.objs.size = some (seqObj "list" vs.toArray 0) := Heap.get?_push_size _ rfl
  refine wpAny_bind (wpAny_holding (wpAny_call_entry slot_list_sort ⟨_, hoL, rfl⟩ entry_list_sort (list_sort_treeKAny strKind_oneLt hoL hI.keysOf (fun v1 v2 rest e => keyKind_strs (by rw [← e]; exact hI)) (by rw [hvl, sizeLine_eq]; omega) fun st hp hs => ⟨_, rfl, ?_⟩) (args_list_sort _)))
  obtain ⟨ys, h1, h2, h3⟩ := sorted_out_str hI hp hs
  obtain ⟨c, hc⟩ := sortedHeap_at (vs := vs) (out := (arrOf st).map (·.2)) hoL
  have memk : ∀ j, j ∈ vs.map strOf ↔ j ∈ l := fun j => by
    rw [p.tx.mem j, List.mem_map]
    constructor
    · rintro ⟨v, hv, z⟩
      obtain ⟨e, he, y⟩ := List.mem_map.mp (pm.mem_iff.mp hv)
      obtain ⟨k, tk, rfl⟩ := p.strs e he
      refine ⟨_, he, ?_⟩
      rw [← z, ← y]
      exact PySem.Froz.is_str k tk
    · rintro ⟨e, he, z⟩
      obtain ⟨k, tk, rfl⟩ := p.strs e he
      refine ⟨.str k tk, pm.mem_iff.mpr (List.mem_map.mpr ⟨_, he, rfl⟩), ?_⟩
      exact (PySem.strKind P w).inj (.str k tk) k j (PySem.Froz.is_str k tk) z
  have hnd : (vs.map strOf).Nodup := by
    refine nodup_of_len (l := l) p.nd (fun j => memk j) ?_
    rw [List.length_map, hvl]
    exact Nat.le_refl _
  refine wpAny_pure ⟨_, rfl, q _ s1.heap.objs.size _ c ys (fun b u e => ?_) g1 o1 hz hc h1 h3 (h2.nodup_iff.mpr hnd) (fun j => by rw [h2.mem_iff, memk])⟩
  have z := k1 b u e
  have hlt := Heap.lt_size z
  show (sortedHeap (s1.heap.push (seqObj "list" vs.toArray 0)) s1.heap.objs.size vs _).get? b = some u
  rw [sortedHeap_old (Nat.ne_of_lt hlt) (by rw [size_push']; exact Nat.lt_succ_of_lt hlt)]
  exact Heap.get?_push_of_some _ z
end
/-! ### the same for the layer: a set of texts in the abstract heap -/
def SetTx (P : Program) (w : World) (a : Addr) (l : List Str) : HO := .ext fun h => TxS P w h a l
theorem setTx_new {P : Program} {w : World} {H : Hp} {h : Heap} {a : Addr} {l : List Str} (R : TxS P w h a l) : ObjOk P w H h a (SetTx P w a l) := by
  have ⟨D, ho, _⟩ := R
  exact ⟨R, ⟨_, ho⟩, fun h1 h2 p k => TxS.at p k⟩
section
variable {X : Cx} {pins : List (Addr × Obj)} {σ : L2.St} {H : Hp} {s : Shared} {a : Addr} {l : List Str}
theorem setTx_get (I : Inv X pins σ H s) (ha : H a = some (SetTx X.prog X.w a l)) : TxS X.prog X.w s.heap a l := (I.hok a _ ha).1
/-- set(words) -/
def rSetTx (K : PySem.W.Frag) (P : Program) (w : World) : List V → Hp → VK → Prop := fun vs H Q => ∃ (p : Addr) (xs : List Str), vs = [.ref p] ∧ SqL K H p (xs.map V.str) ∧ xs.length < 4000 ∧
  ∀ a l, H a = none → l.Nodup → (∀ j, j ∈ l ↔ j ∈ xs) → l.length ≤ xs.length → Q (.ref a) (upd H a (SetTx P w a l))
theorem cr_setTx (hc : X.calm = true) : CallR X (.type "set") (rSetTx X.K X.prog X.w) := by
  intro pins s σ H vs us Q I r h
  obtain ⟨p, xs, rfl, hs, hz, q⟩ := h
  obtain ⟨its, rv, hl, _⟩ := I.list hs
  rw [Vals.ref1 r]
  have hlen := rv.length
  rw [List.length_map] at hlen
  refine tx_of_list (xs := xs) (I.ok.hd hc) hl.isList (fun i v hv => ?_) (by simpa using hlen.symm) (by simpa using (by omega : its.length < 4000)) fun h' tk l T m ll k => ?_
  · have hi : i < xs.length := by
      have := (Array.getElem?_eq_some_iff.mp hv).1
      simp at this
      omega
    have e1 : (xs.map V.str)[i]? = some (V.str xs[i]) := by
      rw [List.getElem?_map, List.getElem?_eq_getElem hi]
      rfl
    obtain ⟨u, hu, t, rfl⟩ := rv.get e1
    have e2 : its[i]? = some v := by simpa using hv
    rw [hu] at e2
    exact ⟨xs[i], t, List.getElem?_eq_getElem hi, (Option.some.inj e2).symm⟩
  · have ⟨D, _, p⟩ := T
    exact ⟨.ref _, upd H s.heap.objs.size (SetTx X.prog X.w s.heap.objs.size l), I.laid (t' := tk) k (Nat.le_refl _) (setTx_new T), rfl, q _ l (I.hok.fresh (Nat.le_refl _)) p.nd m ll⟩
/-- one & other -/
def rAndTx (P : Program) (w : World) : R2 := fun x y H Q => ∃ (a b : Addr) (la lb : List Str), x = .ref a ∧ y = .ref b ∧ H a = some (SetTx P w a la) ∧ H b = some (SetTx P w b lb) ∧ a ≠ b ∧ la.length + lb.length < 4000 ∧
  ∀ c lc, H c = none → lc.Nodup → (∀ j, j ∈ lc ↔ j ∈ la ∧ j ∈ lb) → Q (.ref c) (upd H c (SetTx P w c lc))
theorem entry_set_and : entryFor table "set.__and__" = some Builtin.«frozenset.__and__» := entryFor_alias (id' := "frozenset.__and__") (by kernel_rfl) rfl (by decide +kernel) (by kernel_rfl)
theorem op_andTx : OpR X (binaryOp .BitAnd) (rAndTx X.prog X.w) := by
  intro pins s σ H x y v u Q I rx ry h
  obtain ⟨a, b, la, lb, rfl, rfl, ha, hb, hab, hz, q⟩ := h
  obtain rfl : v = Value.ref a := rx
  obtain rfl : u = Value.ref b := ry
  have Ra := setTx_get I ha
  have Rb := setTx_get I hb
  refine wpAny_binaryOp_same (tx_type Ra) (tx_type Rb) F.fills_set_and F.slot_set_and ?_
  refine wpAny_call_entry F.slot_set_and (tx_type Ra) entry_set_and ?_ (F.args_set_and_2 _ _)
  unfold Builtin.«frozenset.__and__»
  refine wpAny_bind (m := Builtin.Frozenset.slot1 "__and__" _) (wpAny_of_eq (a := (.ref a, .ref b)) (by rfl) ?_)
  refine wpAny_bind (wpAny_bind (any_set Ra ?_))
  refine any_set Rb ?_
  refine wp_if_neg (by simp) ?_
  refine wpAny_bind (m := Builtin.Frozenset.addrOf _) (wpAny_pure ?_)
  refine wpAny_bind (tx_and Ra Rb hab (by show la.length + lb.length < 4096; omega) fun h' lr d tk k R m => ?_)
  refine wpAny_pure ⟨_, rfl, ?_⟩
  have hn : H s.heap.objs.size = none := I.hok.fresh (Nat.le_refl _)
  have ⟨D, _, p⟩ := R
  refine ⟨fun z => (by cases z), .ref _, upd H s.heap.objs.size (SetTx X.prog X.w s.heap.objs.size lr), ?_, rfl, q _ lr hn p.nd m⟩
  exact I.call (ch := []) (Un.laid k (Nat.le_refl _) hn) (I.hok.laid k (Nat.le_refl _) (setTx_new R)) I.bare (fun _ z => nomatch z)
/-- sorted(set) -/
def rSortedTx (P : Program) (w : World) : List V → Hp → VK → Prop := fun vs H Q => ∃ (a : Addr) (l : List Str), vs = [.ref a] ∧ H a = some (SetTx P w a l) ∧ l.length < 64 ∧
  ∀ p ys, H p = none → sortedS ys = true → ys.Nodup → (∀ j, j ∈ ys ↔ j ∈ l) → Q (.ref p) (upd H p (.lst (ys.map V.str)))
theorem cr_sortedTx (hc : X.calm = true) : CallR X (.builtin "sorted") (rSortedTx X.prog X.w) := by
  intro pins s σ H vs us Q I r h
  obtain ⟨a, l, rfl, ha, h64, q⟩ := h
  have R := setTx_get I ha
  rw [Vals.ref1 r]
  refine tx_sorted R (I.ok.hd hc) h64 fun s2 p out c ys k g o hp hg hi hs hnd hm => ?_
  have hn : H p = none := I.hok.fresh hp
  have rv : Vals (ys.map V.str) out.toList := vals_of_strs hi
  have hlen : (ys.map V.str).length ≤ sizeLine := by
    have e : ys.length = l.length := by
      have ⟨D, _, pp⟩ := R
      exact ((List.perm_ext_iff_of_nodup hnd pp.nd).mpr hm).length_eq
    rw [List.length_map, e, sizeLine_eq]
    omega
  have J : Inv X pins σ (upd H p (.lst (ys.map V.str))) { s with heap := s2.heap, gens := s2.gens, drawn := s2.drawn, toks := s2.toks } :=
    I.call (ch := []) (Un.laid k hp hn) (I.hok.laid k hp ⟨hlen, out.toList, c, rv, hg⟩) (by rw [g]; exact I.bare) (fun _ z => nomatch z)
  have e : s2 = { s with heap := s2.heap, gens := s2.gens, drawn := s2.drawn, toks := s2.toks } := by
    obtain ⟨_, _, _, _, _⟩ := s2
    obtain rfl : _ = s.os := o
    rfl
  rw [e]
  exact ⟨.ref p, _, J, rfl, q p ys hn hs hnd hm⟩
/-- len(set) -/
def rLenTx (P : Program) (w : World) : List V → Hp → VK → Prop := fun vs H Q => ∃ (a : Addr) (l : List Str), vs = [.ref a] ∧ H a = some (SetTx P w a l) ∧ l.length < 4000 ∧ Q (.int l.length) H
theorem cr_lenTx : CallR X (.builtin "len") (rLenTx X.prog X.w) := by
  intro pins s σ H vs us Q I r h
  obtain ⟨a, l, rfl, ha, hz, q⟩ := h
  obtain ⟨D, ho, p⟩ := setTx_get I ha
  rw [Vals.ref1 r]
  have hsz : D.1.size = l.length := p.tx.sz
  exact call_len_set ho ⟨rfl, rfl, rfl⟩ rfl p.tx.fit (by rw [hsz]; omega) ⟨.int l.length, H, I.tok _, ⟨_, by rw [hsz]⟩, q⟩
end
end MuSet

namespace MuGen
open PySem PySem.Spec PyProof.Rows L2
/-- the table of a code object, tracked without what it holds -/
def TabO (P : Addr) : HO := .ext fun h => ∃ ps : Array Value,
  h.get? P = some { cls := .none, data := .fields ps } ∧ TriplesOk ps.toList
section
variable {X : Cx} {pins : List (Addr × Obj)} {σ : L2.St} {H : Hp} {s : Shared}
theorem tab_get {P : Addr} (I : Inv X pins σ H s) (h : H P = some (TabO P)) :
    ∃ ps : Array Value, s.heap.get? P = some { cls := .none, data := .fields ps } ∧ TriplesOk ps.toList :=
  (I.hok P _ h).1
/-- the table is another one, all else that stood stands -/
theorem inv_grown {P : Addr} {ps : Array Value} {hn : Heap} {gn : Array GenState} {dn : Drawn} {tn : Nat}
    (I : Inv X pins σ H s) (hP : H P = some (TabO P))
    (k : ∀ b o, b ≠ P → s.heap.get? b = some o → hn.get? b = some o)
    (hm : hn.get? P = some { cls := .none, data := .fields ps }) (ht : TriplesOk ps.toList)
    (hg : AllBare gn) : Inv X pins σ H { s with heap := hn, gens := gn, drawn := dn, toks := tn } := by
  have off : ∀ b, H b = none → b ≠ P := fun b e z => by
    rw [z, hP] at e
    exact nomatch e
  have off2 : ∀ b u, H b = some u → u ≠ TabO P → b ≠ P := fun b u e n z => by
    rw [z, hP] at e
    exact n (Option.some.inj e).symm
  refine I.step (g' := gn) (d' := dn) (t' := tn) (ch := []) (fun b z => nomatch z)
    (fun b o _ _ _ e n => k b o (off b n) e) (fun b o _ _ _ e n => ⟨o.slots, k b o (off b n) e⟩)
    (fun _ _ _ _ n => n) (fun b o _ e => ?_) (fun _ _ e => e) (fun _ _ _ e => e)
    (fun b qs e => ⟨#[], by rw [Array.append_empty]; exact e⟩) (fun m q => ?_) (fun b u e => ?_) hg
  · rcases Decidable.em (b = P) with z | z
    · exact ⟨_, z ▸ hm⟩
    · exact ⟨o, k b o z e⟩
  · have ⟨ob, es, ep, ho, r⟩ := q
    exact ⟨ob, es, ep, k _ ob (off _ I.free) ho, r⟩
  · rcases Decidable.em (b = P) with z | z
    · subst z
      rw [hP] at e
      obtain rfl := Option.some.inj e
      exact ⟨⟨ps, hm, ht⟩, ⟨_, hm⟩, fun h1 h2 ⟨qs, a1, a2⟩ a3 => ⟨qs, a3 _ a1, a2⟩⟩
    · refine (I.hok b u e).stay (fun d v hd q => k d v ?_ q) (fun _ q => q) fun _ _ q => q
      rcases hd with y | y
      · exact y ▸ z
      · exact off2 d _ y (fun t => nomatch t)
/-- what is known where the element is told -/
structure Here (X : Cx) (P : Addr) (scope : Scope) (s1 s2 : Shared) (e : Env) : Prop where
  sc : e.scope = scope
  cl : e.cells = cloFrom X.env.cells scope.names []
  gl : e.globals = X.env.globals
  bl : e.builtins = builtinsNs
  kept : ∀ b o, b ≠ P → s1.heap.get? b = some o → s2.heap.get? b = some o
/-- the element, of the thing v -/
def Elt (X : Cx) (P : Addr) (scope : Scope) (x : Str) (elt : Expr) (s1 : Shared) (F : Value → Prop) (v : Value) : Prop :=
  ∀ (e : Env) (B : Around) (E : Value → Shared → Prop) (s2 : Shared) (m : Str → Option Value),
    Here X P scope s1 s2 e → B.handled = none → s2.heap.Ns e.locals m → m x = some v →
    wpAny (model X.prog X.w) B (eval elt e) (fun y s3 => F y ∧ Keeps s2 s3) E s2
/-- what is walked: n things, of which Pf speaks -/
def IterTo (X : Cx) (P : Addr) (n : Nat) (Pf : Nat → Value → Prop) (xv : Value) (s1 : Shared) : Prop :=
  ∀ Q : Value → Shared → Prop,
    (∀ (o : Obj) (fp : List Addr) (St : Nat → Heap → Prop),
      (∀ B : Around, B.handled = none → Walks X.prog X.w B s1.heap.objs.size fp [s1.heap.objs.size] n Pf St) →
      St 0 (s1.heap.push o) → (∀ b ∈ fp, b < s1.heap.objs.size + 1 ∧ b ≠ P) →
      Q (.ref s1.heap.objs.size) { s1 with heap := s1.heap.push o }) →
    wpAny (model X.prog X.w) X.A (pyIter xv) Q X.xe s1
/-- the generator stands ready, as it is walked all that was held is held -/
def Ready (X : Cx) (pins : List (Addr × Obj)) (σ : L2.St) (H1 : Hp) (n : Nat) (F : Nat → Value → Prop) (g : Addr) (s5 : Shared) : Prop :=
  ∃ (fp wr : List Addr) (G : Array GenState → Array GenState → Prop) (F' : Nat → Value → Prop) (St : Nat → Shared → Prop),
    WalksS X.prog X.w X.A.in1 g fp wr G n F' St ∧ St 0 s5 ∧ (∀ b ∈ fp, b < s5.heap.objs.size) ∧ (∀ j v, F' j v → j < n ∧ F j v) ∧
    ∀ s6, Moved wr G s5 s6 → Inv X pins σ H1 s6
theorem told {p : Program} {w : World} {B : Around} {i : Addr} {fp wr : List Addr} {n : Nat} {F F' : Nat → Value → Prop} {St : Nat → Heap → Prop}
    (W : Walks p w B i fp wr n F St) (h : ∀ j v, F j v → F' j v) : Walks p w B i fp wr n F' St where
  sub := W.sub
  frame := W.frame
  done := W.done
  self := W.self
  item := fun j s Q E lt st q => W.item j s Q E lt st fun v h' tk y => q v h' tk (h j v y)
theorem one_mem {a b : Addr} (h : a ∈ [b]) : a = b := List.mem_singleton.mp h
/-- the code object of the expression, made here or found -/
theorem code_any {c P : Addr} {ps : Array Value} {scope : Scope} {gpos : Pos} {qn : Str} {Q : Value → Shared → Prop} {E : Value → Shared → Prop} {B : Around}
    {s1 : Shared} (hcode : X.env.code = .ref c) (cd : PySem.W.CodeHd s1.heap c P)
    (e0 : s1.heap.get? P = some { cls := .none, data := .fields ps }) (ht : TriplesOk ps.toList)
    (h : ∀ (code : Value) (h3 : Heap) (tk : Nat) (qs : Array Value), Heap.ExtBut P s1.heap h3 → s1.heap.objs.size ≤ h3.objs.size →
      h3.get? P = some { cls := .none, data := .fields qs } → TriplesOk qs.toList → Q code { s1 with heap := h3, toks := tk }) :
    wpAny (model X.prog X.w) B (genexprCode X.env gpos qn scope) Q E s1 := by
  cases found : codeAmong gpos ps.toList with
  | some cv =>
    refine wpAny_genexprCode_hit hcode (cd.code e0 ht) found ?_
    exact h cv s1.heap s1.toks ps (Heap.ExtBut.refl _ _) (Nat.le_refl _) e0 ht
  | none =>
    refine wpAny_genexprCodeX hcode (cd.code e0 ht) (cd.tab e0) found ?_
    intro c' h' tk hx hge hlt hco _ htab _
    have ⟨o1, vs, f1, tf, fl, tg, inF, tx, tt, op, _, _, _, _, _, _, _, _, _, htr, _⟩ := hco
    exact h _ h' tk _ hx (Nat.le_trans hge (Nat.le_of_lt hlt)) htab.2 htr
theorem gen_any {c P : Addr} {elt iter : Expr} {x : Str} {px gpos : Pos} {scope : Scope} {te : TE} {k : Nat}
    {Q' : Value → Shared → Prop} {R : V → Hp → Prop} (hr : Room k X.A) (TB : GxR.TabB X.base X.mg c P)
    (hcode : X.env.code = .ref c) (S : GxR.GenS X.env scope x) (hi : PE X iter te)
    (hs : ∀ v, genFold iter X.env v = pure v) (I : Inv X pins σ H s)
    (h : te σ H fun v H1 => H1 P = some (TabO P) ∧ R v H1)
    (hit : ∀ v H1 xv s1, Inv X pins σ H1 s1 → RelV v xv → H1 P = some (TabO P) → R v H1 → ∃ n Pf F, IterTo X P n Pf xv s1 ∧
      (∀ i u, Pf i u → Elt X P scope x elt s1 (F i) u) ∧ ∀ g s5, Ready X pins σ H1 n F g s5 → Q' (.ref g) s5) :
    wpAny (model X.prog X.w) X.A (eval (.GeneratorExp elt [⟨.Name x px, iter, [], 0⟩] scope gpos) X.env) Q' X.xe s := by
  have room : X.A.depth < recursionLimit := by
    have := hr.dp
    omega
  refine wpAny_GeneratorExp_walksQ hr.hd S.co (closure_ok S.free) S.cell S.dot S.loc S.kind room ?_ hs
  refine thn (hi.run pins s σ H _ I h) fun xv s1 ⟨v, H1, I1, rv, hP, q1⟩ => ?_
  obtain ⟨n, Pf, F, it, hel, hQ⟩ := hit v H1 xv s1 I1 rv hP q1
  refine it _ fun o fp0 St0 W0 hst0 hfp0 => ?_
  obtain ⟨ps, e0, ht⟩ := tab_get I1 hP
  have up : ∀ b u, s1.heap.get? b = some u → (s1.heap.push o).get? b = some u := fun b u e => Heap.get?_push_of_some _ e
  have zpush : (s1.heap.push o).objs.size = s1.heap.objs.size + 1 := Heap.size_push ..
  have cd : PySem.W.CodeHd (s1.heap.push o) c P := TB.code.keeps fun b u e => up b u (I1.bk b u e)
  have stP : cStatics ≠ P := fun e => by
    have ⟨_, y, _⟩ := I1.nolimit
    obtain ⟨o1, es, ep, y1, y2, _⟩ := y
    rw [e, e0] at y1
    cases y1
    exact nomatch y2
  have stz : cStatics ≠ s1.heap.objs.size := by
    have ⟨_, y, _⟩ := I1.nolimit
    exact Nat.ne_of_lt y.lt
  refine ⟨I1.nolimit.push o, ?_⟩
  refine code_any hcode cd (up P _ e0) ht fun code h3 tk qs hx3 h3z hP3 ht3 => ?_
  have keep3 : ∀ b u, b ≠ P → s1.heap.get? b = some u → h3.get? b = some u := fun b u y e => hx3 b u y (up b u e)
  obtain ⟨bm, ob, e1, e2, e3, e4, e5, e6, e7, e8⟩ := TB.bm
  have ns3 : h3.Ns X.env.globals X.mg := by
    rw [I1.ok.glob]
    exact ((I1.mod.glob.keeps I1.bk).push o).extBut hx3 TB.gP
  refine wpAny_builtinsFor (m := X.mg) ns3 e1 e2 (keep3 _ _ e4 (I1.bk _ _ e5)) e6 e7 e8 ?_
  refine ⟨s1.heap.objs.size, fp0, [s1.heap.objs.size], n, Pf, St0, fun _ => true, F, rfl, W0, ?_, ?_, ?_, ?_, ?_, ?_⟩
  · exact (W0 X.A hr.hd).frame _ _ _ hst0 fun b hb u e => hx3 b u (hfp0 b hb).2 e
  · exact fun b hb => Nat.lt_of_lt_of_le (hfp0 b hb).1 (zpush ▸ h3z)
  · exact (I1.nolimit.push o).extBut hx3 stP
  · exact fun y => stz (one_mem y)
  · intro hx hall
    refine ⟨fun B E i v s2 m _ _ _ _ _ => ?_, fun B E i v s2 m hB hv _ hn hm hk => ?_⟩
    · simp only [List.forIn_nil]
      exact wpAny_pure ⟨rfl, GxR.keeps_refl _⟩
    · refine hel i v hv _ B E s2 m ⟨rfl, rfl, rfl, rfl, fun b u y e => ?_⟩ hB hn hm
      have e3 := keep3 b u y e
      have bz := Heap.lt_size e
      exact hk b (List.mem_range.mpr (Heap.lt_size e3)) (fun w => Nat.ne_of_lt bz (one_mem w)) u (hall b u e3)
  · intro g h5 t5 gs bare glt gsz hk5 W5 at5
    simp only [GxR.passing_true, List.length_range] at W5
    have h13 : s1.heap.objs.size < h3.objs.size := by
      have := zpush ▸ h3z
      omega
    refine hQ g _ ⟨_, _, _, _, _, W5.in4_1, at5, ?_, ?_, fun s6 hm => ?_⟩
    · intro b hb
      show b < h5.objs.size
      rw [gsz]
      rcases List.mem_cons.mp hb with w | w
      · rw [w]
        exact Nat.lt_succ_self g
      · rcases List.mem_cons.mp w with w | w
        · rw [w]
          exact Nat.lt_succ_of_lt glt
        · exact Nat.lt_succ_of_lt (Nat.lt_trans (List.mem_range.mp w) glt)
    · rintro j v ⟨i, hij, hv⟩
      obtain ⟨hj, ej⟩ := List.getElem?_eq_some_iff.mp hij
      rw [List.getElem_range] at ej
      rw [List.length_range] at hj
      exact ⟨hj, ej ▸ hv⟩
    · have away : ∀ b u, s1.heap.get? b = some u → b ∉ h3.objs.size :: [s1.heap.objs.size] := fun b u e w => by
        have bl := Heap.lt_size e
        rcases List.mem_cons.mp w with y | y
        · rw [y] at bl
          exact Nat.lt_asymm h13 bl
        · rw [one_mem y] at bl
          exact Nat.lt_irrefl _ bl
      have J := inv_grown (hn := s6.heap) (gn := s6.gens) (dn := s6.drawn) (tn := s6.toks) I1 hP
        (fun b u y e => hm.heap b u (away b u e) (hk5 b u (keep3 b u y e)))
        (hm.heap P _ (away P _ e0) (hk5 P _ hP3)) ht3 (AllBare.movedS (I1.bare.push bare) hm)
      have same : s6 = { s1 with heap := s6.heap, gens := s6.gens, drawn := s6.drawn, toks := s6.toks } := by
        have y : s6.os = s1.os := hm.os
        obtain ⟨_, _, _, _, _⟩ := s6
        obtain rfl : _ = s1.os := y
        rfl
      rw [same]
      exact J
/-! ### what is walked -/
/-- a list -/
theorem iter_list {P : Addr} {a : Addr} {xs : List V} {xv : Value} {H1 : Hp} {s1 : Shared} (I : Inv X pins σ H1 s1)
    (hP : H1 P = some (TabO P)) (r : RelV (.ref a) xv) (hx : SqL X.K H1 a xs) :
    IterTo X P xs.length (fun i v => ∃ y, xs[i]? = some y ∧ RelV y v) xv s1 := by
  intro Q q
  obtain rfl : xv = Value.ref a := r
  obtain ⟨its, rv, hl, _⟩ := I.list hx
  obtain ⟨ps, e0, _⟩ := tab_get I hP
  have isl := hl.isList
  have alt : a < s1.heap.objs.size := by
    have ⟨_, e, _⟩ := isl
    exact Heap.lt_size e
  have aP : a ≠ P := fun y => by
    have ⟨_, e, _, _, d⟩ := isl
    rw [y, e0] at e
    cases e
    exact nomatch d
  have Plt := Heap.lt_size e0
  have len : its.toArray.size = xs.length := by
    rw [List.size_toArray, rv.length]
  refine wpAny_pyIter_list isl (q _ [s1.heap.objs.size, a] (fun i h => h.IsListIter s1.heap.objs.size a i ∧ h.IsList a its.toArray)
    (fun B hB => ?_) ?_ fun b hb => ?_)
  · have W := Walks.list (prog := X.prog) (w := X.w) hB s1.heap.objs.size a (Nat.ne_of_lt alt) its.toArray
    rw [len] at W
    refine told W fun i v e => ?_
    have e2 : its[i]? = some v := by simpa using e
    have lt := (List.getElem?_eq_some_iff.mp e2).1
    rw [← rv.length] at lt
    obtain ⟨u, eu, ru⟩ := rv.get (List.getElem?_eq_getElem lt)
    rw [e2] at eu
    exact ⟨_, List.getElem?_eq_getElem lt, Option.some.inj eu ▸ ru⟩
  · have ⟨ob, e, d⟩ := isl
    exact ⟨⟨_, Heap.get?_push_size _ rfl, rfl, rfl⟩, ob, Heap.get?_push_of_some _ e, d⟩
  · rcases List.mem_cons.mp hb with y | y
    · rw [y]
      exact ⟨Nat.lt_succ_self _, (Nat.ne_of_lt Plt).symm⟩
    · rw [one_mem y]
      exact ⟨Nat.lt_succ_of_lt alt, aP⟩
/-- the signs of a text -/
theorem iter_str {P : Addr} {a : Str} {xv : Value} {H1 : Hp} {s1 : Shared} (I : Inv X pins σ H1 s1)
    (hP : H1 P = some (TabO P)) (r : RelV (.str a) xv) :
    IterTo X P a.cps.size (fun i v => ∃ c t, a.cps[i]? = some c ∧ v = .str ⟨#[c]⟩ t) xv s1 := by
  intro Q q
  obtain ⟨t, rfl⟩ := (show ∃ t, xv = Value.str a t from r)
  obtain ⟨ps, e0, _⟩ := tab_get I hP
  refine wpAny_pyIter_str fun o St W hst => q o [s1.heap.objs.size] St (fun B hB => ?_) hst fun b hb => ?_
  · exact told (W B hB) fun i v ⟨c, u, e1, e2⟩ => ⟨c, u, e1, e2⟩
  · rw [one_mem hb]
    exact ⟨Nat.lt_succ_self _, (Nat.ne_of_lt (Heap.lt_size e0)).symm⟩
/-! ### elements -/
/-- a dict's get of the thing walked, else 1 -/
theorem elt_get {P d : Addr} {kvs : List (Key × V)} {scope : Scope} {x y : Str} {wi j : Nat} {p1 p2 p3 p4 p5 : Pos} {a : Str} {t : Tok} {z : Int} {s1 : Shared} {H1 : Hp}
    (I : Inv X pins σ H1 s1) (hP : H1 P = some (TabO P)) (sk : scope.kind = .function)
    (hx : scope.names.lookup x = some .local) (hy : scope.names.lookup y = some .free)
    (hc : (cloFrom X.env.cells scope.names []).lookup y = X.env.cells.lookup y)
    (hN : X.N[wi]? = some y) (hσ : σ[wi]? = some (some (.ref d))) (hd : Rd H1 d (.dK kvs)) (hv : Vis X.env.scope y)
    (hk : X.env.kindOf y = some .cell) (val : (valV kvs (.inr a)).getD (.int 1) = .int z)
    (dx : (x == ("__debug__" : Str)) = false) (dy : (y == ("__debug__" : Str)) = false) (dc : (y == ("__classdict__" : Str)) = false)
    (hbase : ∀ e, attributeBase (.Name y p1) "get" e (eval (.Name y p1) e) = eval (.Name y p1) e)
    (hfew : ∀ e, ((backTo p5 (starEach [.Name x p3, .Constant (.int 1) j p4] e)).all (fun x => !x.1) && (backToKw p5 (keywordEach [] e)).all (fun x => x.1.isSome)
      && decide (([.Name x p3, .Constant (.int 1) j p4] : List Expr).length + ([] : List Keyword).length + (if ([] : List Keyword).isEmpty then 0 else 1) < 30)) = true)
    (htrees : ∀ e, backTo p5 (starEach [.Name x p3, .Constant (.int 1) j p4] e) = [(false, eval (.Name x p3) e), (false, eval (.Constant (.int 1) j p4) e)])
    (hline : (p2.endLine == p5.line) = true) :
    Elt X P scope x (.Call (.Attribute (.Name y p1) "get" p2) [.Name x p3, .Constant (.int 1) j p4] [] p5) s1 (fun r => ∃ u, r = .int z u) (.str a t) := by
  intro e B E s2 m hh hB hn hm
  obtain ⟨m1, hn1, hl1⟩ := I.loc
  obtain ⟨dv, rd, lk⟩ := hl1 wi y _ hN hσ hv
  obtain rfl : dv = Value.ref d := rd
  obtain ⟨ps, e0, _⟩ := tab_get I hP
  rcases lk with ⟨q, _⟩ | ⟨_, c, hcl, hcell⟩
  · rw [hk] at q
    exact nomatch q
  obtain ⟨co, ho, hod⟩ := hcell
  have cP : c ≠ P := fun q => by
    rw [q, e0] at ho
    cases ho
    exact nomatch hod
  have cell2 : s2.heap.IsCell c (some (.ref d)) := ⟨co, hh.kept c co cP ho, hod⟩
  obtain ⟨_, hsys, vs, rel, dd⟩ := dk_rd I.hok hd
  have ⟨ob, es, ep, o1, o2, o3⟩ := dd
  have dP : d ≠ P := fun q => by
    rw [q, e0] at o1
    cases o1
    exact nomatch o2.1
  have dd2 : s2.heap.DictOf (mixKind X.prog X.w) d vs := ⟨ob, es, ep, hh.kept d ob dP o1, o2, o3⟩
  refine wpAny_Call_method (hbase e) (hfew e) hline PySem.F.plainAttrs_dict PySem.F.slot_dict_get PySem.F.type_dict_get ?_
  refine wpAny_Name (wpAny_loadName_free (c := c) (by rw [hh.sc]; exact sk) (show e.scope.names.lookup y = some .free by rw [hh.sc]; exact hy) (by rw [hh.cl, hc]; exact hcl) cell2 ?_ dc) dy
  refine ⟨dd2.typeIs, fun b q => ?_, ?_⟩
  · cases q
    exact ⟨ob, hh.kept d ob dP o1, o2.2.1⟩
  rw [htrees e]
  refine Calls.callWith_builtin rfl (Calls.evalArgs_plain (Calls.spliced_cons ?_))
  refine wpAny_Name (wpAny_loadName_local (by rw [hh.sc]; exact sk) (show e.scope.names.lookup x = some .local by rw [hh.sc]; exact hx) hn hm ?_) dx
  refine Calls.spliced_cons (wpAny_Constant_int (Calls.spliced_nil ?_))
  refine call_meetsIn PySem.F.slot_dict_get dd2.typeIs PySem.F.entry_dict_get (PySem.F.args_dict_get_3 _ _ _)
    (meets_dict_get_default (mixKind X.prog X.w) d (kV_is (k := .inr a) ⟨t, rfl⟩) hsys _) ⟨_, dd2.mapOf, ?_⟩
  refine ⟨?_, GxR.keeps_tok _ _⟩
  have rr : RelV ((valV kvs (.inr a)).getD (.int 1)) _ := (rel.val (.inr a)).getD (d := .int 1) (d' := .int 1 s2.toks) ⟨_, rfl⟩
  rw [val] at rr
  exact rr
/-- a sign of a written text? -/
theorem elt_in {P : Addr} {scope : Scope} {x y k : Str} {p1 p2 p3 : Pos} {c : Nat} {t tk : Tok} {s1 : Shared} {H1 : Hp} (I : Inv X pins σ H1 s1) (hP : H1 P = some (TabO P))
    (gP : mainGlobals ≠ P) (sk : scope.kind = .function) (hx : scope.names.lookup x = some .local) (hy : scope.names.lookup y = some .globalImplicit)
    (hm : X.mg y = some (.str k tk)) (dx : (x == ("__debug__" : Str)) = false) (dy : (y == ("__debug__" : Str)) = false) :
    Elt X P scope x (.Compare (.Name x p1) [.In] [.Name y p2] p3) s1 (fun r => r = .bool (decide (c ∈ k.cps.toList))) (.str ⟨#[c]⟩ t) := by
  intro e B E s2 m hh hB hn hmx
  refine wpAny_Compare1 ?_
  refine wpAny_Name (wpAny_loadName_local (by rw [hh.sc]; exact sk) (show e.scope.names.lookup x = some .local by rw [hh.sc]; exact hx) hn hmx ?_) dx
  have g1 : s1.heap.Ns mainGlobals X.mg := I.mod.glob.keeps I.bk
  have g2 : s2.heap.Ns mainGlobals X.mg := by
    obtain ⟨ob, es, ep, ho, r⟩ := g1
    exact ⟨ob, es, ep, hh.kept _ ob gP ho, r⟩
  refine Calls.Name_function_global (by rw [hh.sc]; exact sk) (show e.scope.names.lookup y = some .globalImplicit by rw [hh.sc]; exact hy)
    (Calls.loadGlobal_global (by rw [hh.gl, I.ok.glob]; exact g2) hm ?_) dy
  refine in_str ?_
  rw [PySem.StrLaws.found_one]
  exact ⟨rfl, GxR.keeps_refl _⟩
/-! ### the rules -/
theorem preSum_map (f : Str → Int) (ws : List Str) : ∀ n, n ≤ ws.length → preSum (fun j => f (ws.getD j "")) n = ((ws.take n).map f).sum
  | 0, _ => rfl
  | n + 1, h => by
    have lt : n < ws.length := h
    have e : ws.getD n "" = ws[n] := by simp [List.getD_eq_getElem?_getD, lt]
    rw [show preSum (fun j => f (ws.getD j "")) (n + 1) = preSum (fun j => f (ws.getD j "")) n + f (ws.getD n "") from rfl,
      preSum_map f ws n (Nat.le_of_lt lt), e, List.take_succ_eq_append_getElem lt, List.map_append, List.sum_append]
    simp only [List.map_cons, List.map_nil, List.sum_cons, List.sum_nil, Int.add_zero]
/-- the expression's own scope, but for what it captures -/
structure GenN (scope : Scope) (x : Str) : Prop where
  kind : scope.kind = .function
  co : scope.isCoroutine = false
  cell : ∀ y ∈ scope.names, y.2 ≠ .cell
  dot : scope.names.lookup (".0" : Str) = some NameKind.local
  loc : scope.names.lookup x = some .local
theorem GenN.full {env : Env} {scope : Scope} {x : Str} (n : GenN scope x)
    (h : ∀ y ∈ scope.names, y.2 = .free → ∃ c, env.cells.lookup y.1 = some c) : GxR.GenS env scope x :=
  ⟨n.kind, n.co, n.cell, n.dot, n.loc, h⟩
/-- sum(d.get(x, 1) for x in words), d the def's captured name in slot wi -/
def tSumGet (K : PySem.W.Frag) (P : Addr) (wi : Nat) (te : TE) : TE := fun σ H Q => te σ H fun v H1 => H1 P = some (TabO P) ∧
  ∃ (yl d : Addr) (ws : List Str) (kvs : List (Key × V)) (f : Str → Int), v = .ref yl ∧ SqL K H1 yl (ws.map V.str) ∧ σ[wi]? = some (some (.ref d)) ∧ Rd H1 d (.dK kvs) ∧
    (∀ a ∈ ws, (valV kvs (.inr a)).getD (.int 1) = .int (f a)) ∧ Q (.int (ws.map f).sum) H1
theorem pe_sumGet {c P : Addr} {iter : Expr} {x y : Str} {wi j : Nat} {p px gpos p1 p2 p3 p4 p5 pos : Pos} {scope : Scope} {te : TE} {k : Nat}
    (hr : Room k X.A) (TB : GxR.TabB X.base X.mg c P) (hcode : X.env.code = .ref c) (hm : X.mg "sum" = none) (hg : Gl X "sum")
    (hi : PE X iter te) (hs : ∀ v, genFold iter X.env v = pure v) (N : GenN scope x) (hfr : ∀ z ∈ scope.names, z.2 = .free → z.1 = y) (hy : scope.names.lookup y = some .free)
    (hclo : ∀ cells, cloFrom cells scope.names [] = [(y, (cells.lookup y).getD 0)]) (hN : X.N[wi]? = some y) (hk : X.env.kindOf y = some .cell)
    (dx : (x == ("__debug__" : Str)) = false) (dy : (y == ("__debug__" : Str)) = false) (dc : (y == ("__classdict__" : Str)) = false)
    (hbase : ∀ e, attributeBase (.Name y p1) "get" e (eval (.Name y p1) e) = eval (.Name y p1) e)
    (hfew : ∀ e, ((backTo p5 (starEach [.Name x p3, .Constant (.int 1) j p4] e)).all (fun x => !x.1) && (backToKw p5 (keywordEach [] e)).all (fun x => x.1.isSome)
      && decide (([.Name x p3, .Constant (.int 1) j p4] : List Expr).length + ([] : List Keyword).length + (if ([] : List Keyword).isEmpty then 0 else 1) < 30)) = true)
    (htrees : ∀ e, backTo p5 (starEach [.Name x p3, .Constant (.int 1) j p4] e) = [(false, eval (.Name x p3) e), (false, eval (.Constant (.int 1) j p4) e)])
    (hline : (p2.endLine == p5.line) = true)
    (he : ∀ g : Expr, g = .GeneratorExp (.Call (.Attribute (.Name y p1) "get" p2) [.Name x p3, .Constant (.int 1) j p4] [] p5) [⟨.Name x px, iter, [], 0⟩] scope gpos →
      starEach [g] X.env = (false, eval g X.env) :: starEach [] X.env) :
    PE X (.Call (.Name "sum" p) [.GeneratorExp (.Call (.Attribute (.Name y p1) "get" p2) [.Name x p3, .Constant (.int 1) j p4] [] p5) [⟨.Name x px, iter, [], 0⟩] scope gpos] [] pos) (tSumGet X.K P wi te) := by
  refine ⟨fun pins s σ H Q I h => ?_⟩
  have S : GxR.GenS X.env scope x := N.full fun z hz e => by
    rw [hfr z hz e]
    exact I.ok.has y (.inl hk)
  refine wpAny_Call_Name_kw (ld_blt I hg hm boot_sum ?_)
  have he1 := he _ rfl
  refine PyProof.Rows.callWith_builtin1 ?_ he1 (by rfl)
  rw [he1]
  refine Calls.spliced_cons (gen_any (R := fun v H1 => ∃ (yl d : Addr) (ws : List Str) (kvs : List (Key × V)) (f : Str → Int), v = .ref yl ∧ SqL X.K H1 yl (ws.map V.str) ∧
    σ[wi]? = some (some (.ref d)) ∧ Rd H1 d (.dK kvs) ∧ (∀ a ∈ ws, (valV kvs (.inr a)).getD (.int 1) = .int (f a)) ∧ Q (.int (ws.map f).sum) H1)
    hr TB hcode S hi hs I h ?_)
  · rintro v H1 xv s1 I1 rv hP ⟨yl, d, ws, kvs, f, rfl, hx, hσ, hd, hf, q⟩
    have it := iter_list I1 hP rv hx
    rw [List.length_map] at it
    refine ⟨ws.length, _, fun i r => ∃ u, r = .int (f (ws.getD i "")) u, it, ?_, fun g s5 R => ?_⟩
    · rintro i u ⟨a, ea, ra⟩
      rw [List.getElem?_map] at ea
      cases hw : ws[i]? with
      | none =>
        rw [hw] at ea
        exact nomatch ea
      | some b =>
        rw [hw] at ea
        obtain rfl : V.str b = a := Option.some.inj ea
        obtain ⟨t, rfl⟩ := (show ∃ t, u = Value.str b t from ra)
        have eb : ws.getD i "" = b := by rw [List.getD_eq_getElem?_getD, hw]; rfl
        show Elt X P scope x _ s1 (fun r => ∃ u, r = .int (f (ws.getD i "")) u) _
        rw [eb]
        obtain ⟨cc, hcc⟩ := I1.ok.has y (.inl hk)
        exact elt_get I1 hP S.kind S.loc hy (by rw [hclo, hcc]; simp) hN hσ hd (.inr (.inl hk)) hk (hf b (List.mem_of_getElem? hw)) dx dy dc hbase hfew htrees hline
    · obtain ⟨fp, wr, G, F', St, W, hst, hfp, hF, hI⟩ := R
      refine Calls.spliced_nil ?_
      refine call_sum_walkAnyS (W.self 0 _ _ _ hst ⟨g, fp, wr, G, _, F', St, fun j => f (ws.getD j ""), rfl, W, hst, hfp, fun i v hv => (hF i v hv).2, fun s6 t hmv => ?_⟩)
      have J := hI s6 hmv
      refine ⟨.int (preSum (fun j => f (ws.getD j "")) ws.length), H1, J, ⟨t, rfl⟩, ?_⟩
      rw [preSum_map f ws _ (Nat.le_refl _), List.take_length]
      exact q
/-- all(x in k for x in a text), k a written text of the module -/
def tAllIn (P : Addr) (k : Str) (te : TE) : TE := fun σ H Q => te σ H fun v H1 => H1 P = some (TabO P) ∧ ∃ a : Str, v = .str a ∧ Q (.bl (a.cps.toList.all fun c => decide (c ∈ k.cps.toList))) H1
theorem pe_allIn {c P : Addr} {iter : Expr} {x y k0 : Str} {tk : Tok} {p px gpos p1 p2 p3 pos : Pos} {scope : Scope} {te : TE} {k : Nat}
    (hr : Room k X.A) (TB : GxR.TabB X.base X.mg c P) (hcode : X.env.code = .ref c) (hm : X.mg "all" = none) (hg : Gl X "all")
    (hi : PE X iter te) (hs : ∀ v, genFold iter X.env v = pure v) (N : GenN scope x) (hfr : ∀ z ∈ scope.names, z.2 ≠ .free) (hy : scope.names.lookup y = some .globalImplicit) (hk : X.mg y = some (.str k0 tk))
    (dx : (x == ("__debug__" : Str)) = false) (dy : (y == ("__debug__" : Str)) = false)
    (he : ∀ g : Expr, g = .GeneratorExp (.Compare (.Name x p1) [.In] [.Name y p2] p3) [⟨.Name x px, iter, [], 0⟩] scope gpos →
      starEach [g] X.env = (false, eval g X.env) :: starEach [] X.env) :
    PE X (.Call (.Name "all" p) [.GeneratorExp (.Compare (.Name x p1) [.In] [.Name y p2] p3) [⟨.Name x px, iter, [], 0⟩] scope gpos] [] pos) (tAllIn P k0 te) := by
  refine ⟨fun pins s σ H Q I h => ?_⟩
  have S : GxR.GenS X.env scope x := N.full fun z hz e => absurd e (hfr z hz)
  refine wpAny_Call_Name_kw (ld_blt I hg hm boot_all ?_)
  have he1 := he _ rfl
  refine PyProof.Rows.callWith_builtin1 ?_ he1 (by rfl)
  rw [he1]
  refine Calls.spliced_cons (gen_any (R := fun v H1 => ∃ a : Str, v = .str a ∧ Q (.bl (a.cps.toList.all fun c => decide (c ∈ k0.cps.toList))) H1) hr TB hcode S hi hs I h ?_)
  rintro v H1 xv s1 I1 rv hP ⟨a, rfl, q⟩
  refine ⟨_, _, fun i r => ∃ c, a.cps[i]? = some c ∧ r = .bool (decide (c ∈ k0.cps.toList)), iter_str I1 hP rv, ?_, fun g s5 R => ?_⟩
  · rintro i u ⟨cc, t, ec, rfl⟩
    have z := elt_in (c := cc) (t := t) (p1 := p1) (p2 := p2) (p3 := p3) I1 hP TB.gP S.kind S.loc hy hk dx dy
    exact fun e B E s2 m h1 h2 h3 h4 => wpAny_mono (z e B E s2 m h1 h2 h3 h4) (fun r s3 w => ⟨⟨cc, ec, w.1⟩, w.2⟩) fun _ _ w => w
  · obtain ⟨fp, wr, G, F', St, W, hst, hfp, hF, hI⟩ := R
    refine Calls.spliced_nil ?_
    refine call_all_walkS (W.self 0 _ _ _ hst ⟨g, fp, wr, G, _, F', St, GxR.trF (fun c => decide (c ∈ k0.cps.toList)) a.cps.toList, rfl, W, hst, ?_, fun s6 hmv => ?_⟩)
    · intro j r sj Qj Ej hv hq
      obtain ⟨_, cc, ec, rfl⟩ := hF j r hv
      rw [GxR.trF_some (show a.cps.toList[j]? = some cc by rw [Array.getElem?_toList]; exact ec)] at hq
      exact wpAny_truthy_bool hq
    · refine ⟨.bl ((List.range a.cps.size).all (GxR.trF (fun c => decide (c ∈ k0.cps.toList)) a.cps.toList)), H1, hI s6 hmv, rfl, ?_⟩
      rw [GxR.all_signs a _]
      exact q
end
end MuGen

namespace MuGen
open PySem PySem.Spec PyProof.Rows L2
/-- a law's call, the tables at ts tracked without their content -/
theorem law_go {P : Program} {w : World} {K : PySem.W.Frag} {mg mb : Str → Option Value} {CX : CXT} {k : Nat} {fa a : Addr}
    {cs : List (Addr × Addr)} {fd : FuncData} {x : Str} {sp : Sp} {s1 : Shared} {vs : List Value} {ns : List Int}
    (KX : K.In s1.heap) (hg : s1.heap.Ns mainGlobals mg) (hb : s1.heap.Ns builtinsNs mb)
    (hbb : ∀ x : Str, x ≠ "__name__" → mb x = bootBuiltins x) (hlim : s1.heap.NoLimit) (hgens : s1.gens = #[])
    (hT : ∀ p ∈ cs, s1.heap.get? p.2 = some { cls := .none, data := .fields #[] })
    (nT : ∀ p ∈ cs, K.lookup p.2 = none) (C : ∀ p ∈ cs, PySem.W.CodeHd s1.heap p.1 p.2)
    (hbm : ∃ (bm : Addr) (ob : Obj), mg "__builtins__" = some (.ref bm) ∧ bm ≠ builtinsNs ∧ s1.heap.get? bm = some ob ∧
      ob.cls = .type "module" ∧ ob.dict = some builtinsNs ∧ ob.data = .plain)
    (ha : s1.heap.get? a = some { cls := .type "list", data := .seq vs.toArray }) (hi : IntsAre vs ns)
    (hl : ns.length ≤ sizeLine) (hr : Room k callerA)
    (F : ∀ base : Heap, K.In base → base.Ns mainGlobals mg → (∀ p ∈ cs, GxR.TabB base mg p.1 p.2) → FnOk P w K mg base CX k fa fd [x] sp)
    (hbind : ∀ (s : Shared) (u : Value), BindsTo s fd ⟨[u], []⟩ [(x, u)])
    (hsp : ∀ H : Hp, (∀ p ∈ cs, H p.2 = some (TabO p.2)) → SqL K H a (ns.map V.int) →
      sp [.ref a] H (fun v H' => v = .bl true ∧ ∀ p ∈ cs, H' p.2 = some (TabO p.2)) fun _ _ _ => False)
    (hCX : ∀ H e s', CX [] H s1 (fun _ _ _ => False) e s' → False) :
    codeAny (model P w) callerA (.call (.ref fa) ⟨[.ref a], []⟩)
      (fun r s' => r = .ok (.ret (.bool true)) ∧ OldK s1.heap s'.heap ∧ s'.os = s1.os ∧ AllBare s'.gens) s1 := by
  have rv := vals_ints hi
  have len := hi.length
  let ts := cs.map (·.2)
  have at_ts : ∀ b ∈ ts, s1.heap.get? b = some { cls := .none, data := .fields #[] } := fun b m => by
    obtain ⟨p, hp, rfl⟩ := List.mem_map.mp m
    exact hT p hp
  have in_ts : ∀ p ∈ cs, p.2 ∈ ts := fun p hp => List.mem_map.mpr ⟨p, hp, rfl⟩
  have a_ts : a ∉ ts := fun m => by
    have q := ha.symm.trans (at_ts a m)
    exact nomatch congrArg Obj.data (Option.some.inj q)
  have main : ∀ H : Hp, (∀ p ∈ cs, H p.2 = some (TabO p.2)) → (∀ b, H b = none ∨ b ∈ ts ∨ ∃ o xs, H b = some (.frz o (.lst xs))) →
      SqL K H a (ns.map V.int) → HOk P w H s1.heap → (∀ b, H b ≠ none → b = a ∨ b ∈ ts) → (H a ≠ none → K.lookup a = none) →
      codeAny (model P w) callerA (.call (.ref fa) ⟨[.ref a], []⟩)
        (fun r s' => r = .ok (.ret (.bool true)) ∧ OldK s1.heap s'.heap ∧ s'.os = s1.os ∧ AllBare s'.gens) s1 := by
    intro H hH hO hS hok hA hK
    -- what is neither the list nor a table is not tracked
    have off : ∀ {b : Addr} {o : Obj}, s1.heap.get? b = some o → (∀ us n, o.data ≠ .seq us n) → o.data ≠ .fields #[] → H b = none := by
      intro b o e n1 n2
      cases q : H b with
      | none => rfl
      | some u =>
        exfalso
        rcases hA b (fun z => nomatch q.symm.trans z) with y | y
        · rw [y, ha] at e
          obtain rfl := Option.some.inj e
          exact n1 _ _ rfl
        · rw [at_ts b y] at e
          obtain rfl := Option.some.inj e
          exact n2 rfl
    have offD : ∀ {b : Addr} {o : Obj} {es : Array DictEntry} {ep : Nat}, s1.heap.get? b = some o → o.data = .dict es ep → H b = none := by
      intro b o es ep e d
      refine off e (fun us n z => ?_) fun z => ?_
      · exact nomatch d.symm.trans z
      · exact nomatch d.symm.trans z
    have ns_ : ∀ {b : Addr} {m : Str → Option Value}, s1.heap.Ns b m → (hidT s1.heap H).Ns b m := by
      intro b m ⟨o, es, ep, e, d, r⟩
      exact ⟨o, es, ep, hidT_get e (offD e d), d, r⟩
    have KB : K.In (hidT s1.heap H) := by
      intro b o e
      refine hidT_get (KX b o e) ?_
      cases q : H b with
      | none => rfl
      | some u =>
        exfalso
        have nz : H b ≠ none := fun z => nomatch q.symm.trans z
        rcases hA b nz with y | y
        · rw [y] at e nz
          rw [hK nz] at e
          exact nomatch e
        · obtain ⟨p, hp, rfl⟩ := List.mem_map.mp y
          rw [nT p hp] at e
          exact nomatch e
    have MB : L2.Mod K mg (hidT s1.heap H) := by
      refine ⟨KB, ns_ hg, ⟨mb, ns_ hb, hbb⟩, ?_⟩
      have ⟨mc, y1, y2⟩ := hlim
      exact ⟨mc, ns_ y1, y2⟩
    have TB : ∀ p ∈ cs, GxR.TabB (hidT s1.heap H) mg p.1 p.2 := by
      intro p hp
      have tp := hT p hp
      refine ⟨?_, ?_, fun z => ?_⟩
      · have ⟨o, us, file, tf, flags, tg, inF, text, tt, y, r1, r2, r3, r⟩ := C p hp
        refine ⟨o, us, file, tf, flags, tg, inF, text, tt, hidT_get y (off y (fun vs n z => ?_) fun z => ?_), r1, r2, r3, r⟩
        · exact nomatch r2.symm.trans z
        · rw [r2] at z
          cases z
          simp at r3
      · have ⟨bm, ob, b1, b2, b3, b4, b5, b6⟩ := hbm
        have n1 : bm ≠ mainGlobals := fun q => by
          have ⟨o, es, ep, e, d, _⟩ := hg
          rw [← q, b3] at e
          obtain rfl := Option.some.inj e
          exact nomatch b6.symm.trans d
        have n2 : bm ≠ p.2 := fun q => by
          rw [q, tp] at b3
          obtain rfl := Option.some.inj b3
          exact nomatch b6
        refine ⟨bm, ob, b1, b2, n1, n2, hidT_get b3 (off b3 (fun vs n z => ?_) fun z => ?_), b4, b5, b6⟩
        · exact nomatch b6.symm.trans z
        · exact nomatch b6.symm.trans z
      · have ⟨o, es, ep, e, d, _⟩ := hg
        rw [z, tp] at e
        obtain rfl := Option.some.inj e
        exact nomatch d
    have e0 : Env0 P w K mg (hidT s1.heap H) callerA [] s1 H :=
      ⟨rfl, MB, fun b o e => of_hidT e, Nat.le_of_eq (hidT_size _ _), trivial, (fun b m => nomatch m), hok, AllBare.of_eq hgens⟩
    refine codeAny_mono ((F _ KB (ns_ hg) TB).run callerA [] s1 H ⟨[.ref a], []⟩ [.ref a] [.ref a] _ _ hr e0 (hbind s1 (.ref a)) (.cons rfl .nil) (hsp H hH hS)) fun r s' h => ?_
    match r, h with
    | .error e, h => exact (hCX H e s' h).elim
    | .ok (.ret u), h =>
      obtain ⟨v, H', os, bare, un, hok', r', rfl, q⟩ := h
      obtain rfl : u = Value.bool true := r'
      have same : ∀ b o, b ∉ ts → s1.heap.get? b = some o → s'.heap.get? b = some o := by
        intro b o nb e
        rcases hO b with z | z | ⟨ob, xs, z⟩
        · exact un.keep b o e z (fun m => nomatch m) (fun m => nomatch m)
        · exact absurd z nb
        · have y1 := (hok b _ z).1
          have y2 := (hok' b _ (un.frzs b ob _ z)).1
          rw [e] at y1
          obtain rfl := Option.some.inj y1
          exact y2
      have grown : ∀ p ∈ cs, ∃ qs : Array Value, s'.heap.get? p.2 = some { cls := .none, data := .fields qs } := by
        intro p hp
        have ⟨⟨qs, y, _⟩, _⟩ := hok' p.2 _ (q p hp)
        exact ⟨qs, y⟩
      refine ⟨rfl, ⟨fun b o e => ?_, fun b o e => ?_⟩, os, bare⟩
      · rcases Decidable.em (b ∈ ts) with m | m
        · obtain ⟨p, hp, rfl⟩ := List.mem_map.mp m
          obtain ⟨qs, y⟩ := grown p hp
          rw [hT p hp] at e
          obtain rfl := Option.some.inj e
          exact .inr (.inl ⟨((C p hp).tab (hT p hp)).isCodeTable, rfl, #[], qs, rfl, by rw [Array.empty_append]; exact y⟩)
        · exact .inl (same b o m e)
      · rcases Decidable.em (b ∈ ts) with m | m
        · obtain ⟨p, hp, rfl⟩ := List.mem_map.mp m
          obtain ⟨qs, y⟩ := grown p hp
          exact ⟨_, y⟩
        · exact ⟨o, same b o m e⟩
    | .ok .next, h => exact False.elim h
    | .ok .brk, h => exact False.elim h
    | .ok .cont, h => exact False.elim h
  -- the abstract heap at the entry
  have tabOk : ∀ (H : Hp) (b : Addr), b ∈ ts → ObjOk P w H s1.heap b (TabO b) := fun H b m => by
    have y := at_ts b m
    refine ⟨⟨#[], y, ?_⟩, ⟨_, y⟩, fun h1 h2 ⟨qs, a1, a2⟩ a3 => ⟨qs, a3 _ a1, a2⟩⟩
    obtain ⟨p, hp, rfl⟩ := List.mem_map.mp m
    exact trivial
  cases look : K.lookup a with
  | some o =>
    have e := KX a o look
    rw [ha] at e
    obtain rfl := Option.some.inj e
    refine main (fun b => if b ∈ ts then some (TabO b) else none) (fun p hp => if_pos (in_ts p hp)) (fun b => ?_)
      (.inr ⟨_, vs.toArray, _, look, rfl, rfl, rfl, by rw [List.size_toArray, len]; exact hl, by simpa using rv⟩) (fun b u z => ?_) (fun b z => ?_) fun z => absurd (if_neg a_ts) z
    · rcases Decidable.em (b ∈ ts) with m | m
      · exact .inr (.inl m)
      · exact .inl (if_neg m)
    · rcases Decidable.em (b ∈ ts) with m | m
      · obtain rfl := Option.some.inj ((if_pos m).symm.trans z)
        exact tabOk _ b m
      · exact nomatch (if_neg m).symm.trans z
    · rcases Decidable.em (b ∈ ts) with m | m
      · exact .inr m
      · exact absurd (if_neg m) z
  | none =>
    refine main (fun b => if b = a then some (.frz { cls := .type "list", data := .seq vs.toArray } (.lst (ns.map V.int))) else if b ∈ ts then some (TabO b) else none)
      (fun p hp => (if_neg (fun z : p.2 = a => a_ts (z ▸ in_ts p hp))).trans (if_pos (in_ts p hp))) (fun b => ?_)
      (.inl (.inr ⟨_, if_pos rfl⟩)) (fun b u z => ?_) (fun b z => ?_) fun _ => look
    · rcases Decidable.em (b = a) with m | m
      · exact .inr (.inr ⟨_, _, if_pos m⟩)
      · rcases Decidable.em (b ∈ ts) with m2 | m2
        · exact .inr (.inl m2)
        · exact .inl ((if_neg m).trans (if_neg m2))
    · rcases Decidable.em (b = a) with m | m
      · obtain rfl := Option.some.inj ((if_pos m).symm.trans z)
        subst m
        exact ⟨ha, by rw [List.length_map]; exact hl, vs, _, rv, ha⟩
      · have z1 := (if_neg m).symm.trans z
        rcases Decidable.em (b ∈ ts) with m2 | m2
        · obtain rfl := Option.some.inj ((if_pos m2).symm.trans z1)
          exact tabOk _ b m2
        · exact nomatch (if_neg m2).symm.trans z1
    · rcases Decidable.em (b = a) with m | m
      · exact .inl m
      · rcases Decidable.em (b ∈ ts) with m2 | m2
        · exact .inr m2
        · exact absurd ((if_neg m).trans (if_neg m2)) z
/-- what is told of a law at the head's heap, with tables -/
def LawTab (l : PySem.W.OpenLaw) (w : World) (K : PySem.W.Frag) (CX : CXT) (k n : Nat) (x : Str) (mg : Str → Option Value) (fa : Addr) (h : Heap) : Prop :=
  ∃ (fd : FuncData) (cs : List (Addr × Addr)) (sp : Sp),
    (∀ p ∈ cs, h.get? p.2 = some { cls := .none, data := .fields #[] } ∧ K.lookup p.2 = none ∧ PySem.W.CodeHd h p.1 p.2) ∧
    (∀ (s : Shared) (u : Value), BindsTo s fd ⟨[u], []⟩ [(x, u)]) ∧
    (∀ (H : Hp) (a : Addr) (ns : List Int), ns.length ≤ n → (∀ p ∈ cs, H p.2 = some (TabO p.2)) → SqL K H a (ns.map V.int) →
      sp [.ref a] H (fun v H' => v = .bl true ∧ ∀ p ∈ cs, H' p.2 = some (TabO p.2)) fun _ _ _ => False) ∧
    ∀ base : Heap, K.In base → base.Ns mainGlobals mg → (∀ p ∈ cs, GxR.TabB base mg p.1 p.2) → FnOk l.prog w K mg base CX k fa fd [x] sp
/-- the end of a law row, the tables of the defs tl tracked -/
theorem walk_tabs {l : PySem.W.OpenLaw} {n k : Nat} {q : Program} {loose : List Str} {XP : (Str → Option Value) → Heap → Prop} {YP : World → Heap → Prop}
    {d : DefRec} {K : Params → PySem.W.Frag} {CX : World → CXT} {x : Str} (tl : List Str)
    (hn : l.most = some n) (hn2 : n ≤ sizeLine) (hdf : d.params.defaults = []) (hr : Room k callerA)
    (hrec : (tl.all fun y => (recsOf q).any fun e => e.name == y) = true) (hY : ∀ (w : World) (h : Heap), YP w h → (K w.params).In h)
    (F : ∀ (w : World) (mg : Str → Option Value) (fa : Addr) (h : Heap), (K w.params).In h → h.Ns mainGlobals mg → mg d.name = some (.ref fa) →
      (∀ (y : Str) (c P : Addr), y ∈ tl → PySem.W.tabIn (K w.params) y = some (c, P) →
        PySem.W.CodeHd h c P ∧ h.get? P = some { cls := .none, data := .fields #[] }) →
      LawTab l w (K w.params) (CX w) k n x mg fa h)
    (hCX : ∀ (w : World) (H : Hp) (s : Shared) (e : Value) (s' : Shared), CX w [] H s (fun _ _ _ => False) e s' → False) :
    PySem.W.WalkO q loose XP YP l.row.toRowW d [] (fun f vs => PySem.call f vs) := by
  refine Att.attach_call hn hdf fun w s0 s1 mg mb fa o pm cd doc a vs ns G Y ho hd hcd hmg hobj hints hlen hg => ?_
  have KX := hY w _ Y
  obtain ⟨fd, cs, sp, hp, hb, hsp, hF⟩ := F w mg fa _ KX G.T.g hmg fun y c P hy ht => by
    have an := List.all_eq_true.mp hrec y hy
    cases found : (recsOf q).find? (fun e => e.name == y) with
    | none =>
      obtain ⟨e, he, z⟩ := List.any_eq_true.mp an
      exact absurd z (List.find?_eq_none.mp found e he)
    | some e => exact PySem.W.tab_of G.T KX found ht
  exact law_go KX G.T.g G.T.b G.T.builtins G.T.nolimit hg (fun p m => (hp p m).1) (fun p m => (hp p m).2.1) (fun p m => (hp p m).2.2) G.T.bmain
    hobj hints (Nat.le_trans hlen hn2) hr hF hb (fun H hH hS => hsp H a ns hlen hH hS) fun H e s' => hCX w H s1 e s'
/-- a def whose code object stands at c -/
structure FunT (K : PySem.W.Frag) (x qual : Str) (st : Stmt) (f : Addr) (fd : FuncData) (c : Addr) : Prop where
  ex : ∃ (oc : Value) (od : Option Addr) (kV doc pm : Value) (an : Option Addr) (ct : Value) (sl : Array (Option Value)),
    fd = PySem.W.fnOf x qual (defArgs st) (defBody st) (defScope st) .none kV doc pm an (.ref c) ct ∧
    K.lookup f = some ⟨oc, od, .func fd, sl⟩ ∧ PySem.W.codeIn K (.ref c) qual = true
  kp : PySem.W.keepIn K (.ref f) = true
section
variable {P : Program} {w : World} {K : PySem.W.Frag} {mg : Str → Option Value} {base : Heap}
theorem FunT.ok {x qual : Str} {st : Stmt} {f c : Addr} {fd : FuncData} {N ps : List Str} {k : Nat} {sp : Sp} (F : FunT K x qual st f fd c)
    (S : FnScope N ps (defScope st)) (len : ∀ vs H Q E, sp vs H Q E → vs.length = ps.length)
    (body : ∀ (A : Around) (outer : List Env) (s : Shared) (H : Hp) (vs : List V) (Q : VK) (E : XK),
      Room k (A.deeper (envOfC qual (defScope st) s.heap.objs.size f (.ref c))) → sp vs H Q E →
      ∃ t, PSs (cxOf CX0 P w K mg base N qual (defScope st) f (.ref c) A outer s H E).nox (defBody st) t ∧
        t { nx := fun _ H' => Q .non H', rt := Q } (start N vs) H) : FnOk P w K mg base CX0 (k + 1) f fd ps sp := by
  obtain ⟨oc, od, kV, doc, pm, an, ct, sl, rfl, lk, hcd⟩ := F.ex
  refine fn_of lk hcd S len fun A outer s H vs Q E hr h => ?_
  have ⟨t, y, q⟩ := body A outer s H vs Q E hr h
  exact ⟨t, y.nox, q⟩
theorem FunT.fn {x qual : Str} {st : Stmt} {f c : Addr} {fd : FuncData} (F : FunT K x qual st f fd c) : Fun K x qual st f fd := by
  obtain ⟨oc, od, kV, doc, pm, an, ct, sl, e, lk, hcd⟩ := F.ex
  exact ⟨⟨oc, od, kV, doc, pm, an, .ref c, ct, sl, e, lk, hcd⟩, F.kp⟩
theorem funT_mk {x qual : Str} {st : Stmt} {f c : Addr} {oc : Value} {od an : Option Addr} {sl : Array (Option Value)} {kV doc pm ct : Value}
    (l : K.lookup f = some ⟨oc, od, .func (PySem.W.fnOf x qual (defArgs st) (defBody st) (defScope st) .none kV doc pm an (.ref c) ct), sl⟩)
    (h : PySem.W.codeIn K (.ref c) qual = true) (k : PySem.W.keepIn K (.ref f) = true) :
    FunT K x qual st f (PySem.W.fnOf x qual (defArgs st) (defBody st) (defScope st) .none kV doc pm an (.ref c) ct) c :=
  ⟨⟨oc, od, kV, doc, pm, an, ct, sl, rfl, l, h⟩, k⟩
end
theorem tab_at {K : PySem.W.Frag} {x : Str} {f c P : Addr} {oc e : Value} {od dd : Option Addr} {osl sl : Array (Option Value)} {fd : FuncData} {vs : Array Value}
    (a : PySem.W.nsIn K mainGlobals x = some (some (.ref f))) (l : K.lookup f = some ⟨oc, od, .func fd, osl⟩) (hc : fd.code = .ref c)
    (d : K.lookup c = some ⟨e, dd, .fields vs, sl⟩) (v : vs[11]? = some (.ref P)) : PySem.W.tabIn K x = some (c, P) := by
  unfold PySem.W.tabIn
  rw [a]
  simp only
  rw [l]
  simp only [hc, d, v]
end MuGen

namespace MuK
open PySem PySem.Spec PyProof.Rows L2 Evl
/-! ### values of which only something is known -/
def EvX (te : TE) (σ : L2.St) (H : Hp) (R : V → Hp → Prop) : Prop := ∀ H1, Ex H H1 → ∀ Q : VK, (∀ v H2, Ex H1 H2 → R v H2 → Q v H2) → te σ H1 Q
def SpR (D : Hp → List V → (V → Hp → Prop) → Prop) : Sp := fun vs H Q _ => ∃ R, D H vs R ∧ ∀ v H', Ex H H' → R v H' → Q v H'
section
variable {K : PySem.W.Frag} {σ : L2.St} {H H' : Hp} {ta tb te : TE} {t u : TT} {x y z v : V} {D : Ends} {tu tw tz : TS} {R : V → Hp → Prop}
theorem evx_call {Dd : Hp → List V → (V → Hp → Prop) → Prop} {vs : List V} {E : XK} {ta : TA} (h : EvA ta σ H vs)
    (hs : ∀ H1, Ex H H1 → ∃ R1, Dd H1 vs R1 ∧ ∀ v H2, Ex H1 H2 → R1 v H2 → R v H2) : EvX (tCall (SpR Dd) [] E ta) σ H R := fun H1 e Q q =>
  h H1 e _ fun H2 e2 => by
    obtain ⟨R1, d, k⟩ := hs H2 (e.trans e2)
    exact ⟨R1, by rw [List.append_nil]; exact d, fun v H3 e3 r => q v H3 (e2.trans e3) (k v H3 e3 r)⟩
theorem q_asgX {i : Nat} (h : EvX te σ H R) (k : ∀ v H1, Ex H H1 → R v H1 → tz D (σ.set i (some v)) H1) : tSeq (tAsg te (gName i)) tz D σ H := h H (Ex.refl H) _ k
theorem s_asgX {i : Nat} (h : EvX te σ H R) (k : ∀ v H1, Ex H H1 → R v H1 → D.nx (σ.set i (some v)) H1) : tAsg te (gName i) D σ H := h H (Ex.refl H) _ k
theorem s_retX (h : EvX te σ H R) (k : ∀ v H1, Ex H H1 → R v H1 → D.rt v H1) : tRet te D σ H := h H (Ex.refl H) _ k
theorem evx_of (h : Ev te σ H v) : EvX te σ H (fun z _ => z = v) := fun H1 e Q q => h H1 e Q fun H2 e2 => q v H2 e2 rfl
theorem evx_mono {R' : V → Hp → Prop} (h : EvX te σ H R) (k : ∀ v H1, Ex H H1 → R v H1 → R' v H1) : EvX te σ H R' := fun H1 e Q q => h H1 e Q fun v H2 e2 r => q v H2 e2 (k v H2 (e.trans e2) r)
/-- the texts ws stand in the list p -/
abbrev TxL (H : Hp) (p : Addr) (ws : List Str) : Prop := H p = some (.lst (ws.map V.str))
/-! ### weights -/
def IntD (kvs : List (Key × V)) : Prop := ∀ kv ∈ kvs, ∃ z, kv.2 = V.int z
def wOf (kvs : List (Key × V)) (a : Str) : Int := match valV kvs (.inr a) with
  | some (.int z) => z
  | _ => 1
theorem wOf_is {kvs : List (Key × V)} (h : IntD kvs) (a : Str) : (valV kvs (.inr a)).getD (.int 1) = .int (wOf kvs a) := by
  unfold wOf
  cases e : valV kvs (.inr a) with
  | none => rfl
  | some u =>
    have ⟨kv, m, q⟩ : ∃ kv ∈ kvs, kv.2 = u := by
      unfold valV at e
      cases f : kvs.find? fun kv => decide (kv.1 = Sum.inr a) with
      | none =>
        rw [f] at e
        exact nomatch e
      | some kv =>
        rw [f] at e
        exact ⟨kv, List.mem_of_find?_eq_some f, Option.some.inj e⟩
    obtain ⟨z, y⟩ := h kv m
    rw [← q, y]
    rfl
def heavy (kvs : List (Key × V)) (ws : List Str) : Int := (ws.map (wOf kvs)).sum
theorem str_at {ws : List Str} {i : Nat} {x : V} (h : (ws.map V.str)[i]? = some x) : ∃ a, ws[i]? = some a ∧ x = .str a := by
  rw [List.getElem?_map] at h
  cases e : ws[i]? with
  | none =>
    rw [e] at h
    exact nomatch h
  | some a =>
    rw [e] at h
    exact ⟨a, rfl, (Option.some.inj h).symm⟩
theorem nodup_len {α : Type} [DecidableEq α] : ∀ {l m : List α}, l.Nodup → (∀ j ∈ l, j ∈ m) → l.length ≤ m.length
  | [], m, _, _ => Nat.zero_le _
  | a :: l, m, nd, h => by
    obtain ⟨n1, n2⟩ := List.nodup_cons.mp nd
    have ha := h a List.mem_cons_self
    have k : ∀ j ∈ l, j ∈ m.erase a := fun j hj => by
      have ne : j ≠ a := fun z => n1 (z ▸ hj)
      exact (List.mem_erase_of_ne ne).mpr (h j (List.mem_cons_of_mem _ hj))
    have r := nodup_len n2 k
    have e := (List.perm_cons_erase ha).length_eq
    simp only [List.length_cons] at e ⊢
    omega
/-- d.get(k, y) of a dict of ints and texts -/
theorem ev_dget2 {td ty tx : TE} {d : Addr} {k : Key} {kvs : List (Key × V)} {dv r : V} (ha : Ev td σ H (.ref d)) (hd : Rd H d (.dK kvs)) (hb : Ev ty σ H (kV k)) (hc : Ev tx σ H dv)
    (hr : (valV kvs k).getD dv = r) : Ev (tDGet2 td ty tx) σ H r := fun H1 e Q q =>
  ha H1 e _ fun H2 e2 => ⟨d, rfl, .inl ⟨kvs, ex_rd (e.trans e2) hd⟩, hb H2 (e.trans e2) _ fun H3 e3 => hc H3 ((e.trans e2).trans e3) _ fun H4 e4 =>
    ⟨valV kvs k, .inl ⟨kvs, k, ex_rd (((e.trans e2).trans e3).trans e4) hd, rfl, rfl⟩, by rw [hr]; exact q H4 ((e2.trans e3).trans e4)⟩⟩
end
end MuK

namespace MuK
open PySem PySem.Spec PyProof.Rows L2 Evl
section
variable {X : Cx}
/-- a text, some times -/
def rMulS : R2 := fun x y H Q => ∃ (a : Str) (n : Int), x = .str a ∧ y = .int n ∧ a.length ≤ 1000 ∧ 0 ≤ n ∧ n ≤ 1000 ∧ Q (.str (Txt.mul a n)) H
theorem op_mulS : OpR X (binaryOp .Mult) rMulS := by
  intro pins s σ H x y v u Q I rx ry h
  obtain ⟨a, n, rfl, rfl, ha, h0, h1, q⟩ := h
  obtain ⟨t, rfl⟩ := rx
  obtain ⟨t', rfl⟩ := ry
  exact PySem.SB.mul (mulOk_of 1000 1000 ha (by omega) (by omega) (by omega) (by omega)) fun t'' k => ⟨.str (Txt.mul a n), H, I.tok _, ⟨_, rfl⟩, q⟩
/-- list.remove of a list of texts -/
def eqt (k : Str) (v : Value) : Bool := match v with
  | .str a _ => decide (a = k)
  | _ => false
theorem eqt_gives {k : Str} {t : Tok} : ∀ {us : List Value} {ws : List Str}, StrsAre us ws → ∀ y ∈ us, MeetsSeq.EqGives y (.str k t) (eqt k y)
  | _, _, .nil => fun _ hy => nomatch hy
  | _, _, .cons a u r => fun y hy => by
    rcases List.mem_cons.mp hy with e | e
    · rw [e]
      exact fun prog w A E s Q h => wpAny_eqBool_str h
    · exact eqt_gives r y e
def rRemS : V → List V → Hp → VK → Prop := fun x xs H Q => ∃ (l : Addr) (ws : List Str) (k : Str), x = .ref l ∧ xs = [.str k] ∧ TxL H l ws ∧ k ∈ ws ∧
  Q .non (upd H l (.lst ((ws.erase k).map V.str)))
theorem erase_at (k : Str) : ∀ (ws : List Str), k ∈ ws → ∃ j, ws[j]? = some k ∧ (∀ m, m < j → ws[m]? ≠ some k) ∧ ws.erase k = ws.eraseIdx j
  | [], h => nomatch h
  | a :: r, h => by
    by_cases e : a = k
    · subst e
      exact ⟨0, rfl, fun m hm => absurd hm (Nat.not_lt_zero m), by simp⟩
    · have hr : k ∈ r := by
        rcases List.mem_cons.mp h with z | z
        · exact absurd z.symm e
        · exact z
      obtain ⟨j, h1, h2, h3⟩ := erase_at k r hr
      refine ⟨j + 1, h1, fun m hm => ?_, ?_⟩
      · cases m with
        | zero => exact fun z => e (Option.some.inj z)
        | succ m => exact h2 m (by omega)
      · rw [List.erase_cons_tail (by simpa using e), h3]
        rfl
theorem erase_mapS : ∀ (l : List Str) (j : Nat), (l.map V.str).eraseIdx j = (l.eraseIdx j).map V.str
  | [], j => by simp
  | a :: r, 0 => by simp
  | a :: r, j + 1 => by
    have h := erase_mapS r j
    simp [h]
theorem mtS_remove : MtM X "list.remove" rRemS := by
  intro pins s σ H x xs v us Q I rx rxs h
  obtain ⟨l, ws, k, rfl, rfl, hH, hk, q⟩ := h
  obtain ⟨j, hj, hno, er⟩ := erase_at k ws hk
  cases rx
  obtain ⟨u, rfl, ru⟩ := rxs.one
  obtain ⟨t, rfl⟩ := ru
  obtain ⟨z, its, n, r, hl, e⟩ := I.lstM hH
  have hi := strs_of_vals r
  rw [List.length_map] at hl z
  have jlt : j < ws.length := (List.getElem?_eq_some_iff.mp hj).1
  have jlt2 : j < its.toArray.size := by
    rw [List.size_toArray]
    omega
  have at_ : ∀ (m : Nat) (lt : m < its.toArray.size) (a : Str), ws[m]? = some a → ∃ tm, its.toArray[m] = .str a tm := fun m lt a ea => by
    obtain ⟨tm, hm⟩ := hi.get m a ea
    have := (List.getElem?_eq_some_iff.mp hm).2
    exact ⟨tm, by simpa using this⟩
  refine call_meets PySem.F.slot_list_remove ⟨_, e, rfl⟩ PySem.F.entry_list_remove (PySem.F.args_list_remove_2 _ _)
    (MeetsSeq.list_remove l its.toArray n (.str k t) (eqt k) (fun y hy => eqt_gives hi y (by simpa using hy)) j jlt2 ?_ ?_ ?_) ⟨e, ?_⟩
  · obtain ⟨tm, hm⟩ := at_ j jlt2 k hj
    rw [hm]
    exact decide_eq_true rfl
  · intro m lt mj
    have lt2 : m < ws.length := by omega
    obtain ⟨tm, hm⟩ := at_ m lt _ (List.getElem?_eq_getElem lt2)
    rw [hm]
    exact decide_eq_false fun z => hno m mj (by rw [List.getElem?_eq_getElem lt2, z])
  · rw [List.size_toArray]
    omega
  · have rr := r.eraseIdx j
    have e2 : (ws.map V.str).eraseIdx j = (ws.erase k).map V.str := by
      rw [er]
      exact erase_mapS ws j
    rw [e2] at rr
    refine ⟨.non, _, I.lset (its' := its.eraseIdx j) (t' := s.toks) hH e ?_ rr ?_, rfl, q⟩
    · show its.toArray.eraseIdxIfInBounds j = (its.eraseIdx j).toArray
      rw [List.eraseIdxIfInBounds_toArray]
    · rw [List.length_map]
      have := List.length_erase_le (a := k) (l := ws)
      omega
end
section
variable {K : PySem.W.Frag} {σ : L2.St} {H H' : Hp} {ta tb te : TE} {t u : TT} {x y z v : V} {D : Ends} {tu tw tz : TS} {R : V → Hp → Prop}
/-- for i, x in enumerate(xs) -/
theorem s_forE {ta : TA} {a : Addr} {xs : List V} {i j : Nat} (h : EvA ta σ H [.ref a]) (hx : SqL K H a xs) (Pv : Nat → L2.St → Hp → Prop)
    (h0 : ∀ H1, Ex H H1 → Pv 0 σ H1) (hl : ∀ n σ' H', n ≤ xs.length → Pv n σ' H' → SqL K H' a xs)
    (hs : ∀ n x σ' H' H2, xs[n]? = some x → Pv n σ' H' → Ex H' H2 →
      tu { D with nx := Pv (n + 1), ct := Pv (n + 1), bk := D.nx } ((σ'.set i (some (.int (n : Int)))).set j (some x)) H2)
    (hd : ∀ σ' H', Pv xs.length σ' H' → D.nx σ' H') : tFor (iEnum K ta) (gTup K 2 (gCons (gName i) (gCons (gName j) gNil))) tu D σ H := by
  refine h H (Ex.refl H) _ fun H1 e => ⟨a, xs, rfl, ex_l e hx, ?_⟩
  refine ⟨fun n m σ' H' => m = xs.length - n ∧ n ≤ xs.length ∧ Pv n σ' H', ⟨xs.length, rfl, Nat.zero_le _, h0 H1 e⟩, ?_⟩
  rintro n m σ' H' ⟨rfl, hn, p⟩
  have q := hl n σ' H' hn p
  by_cases lt : n < xs.length
  · refine .inr ⟨⟨xs, xs[n], q, List.getElem?_eq_getElem lt⟩, Pv (n + 1), fun σ2 H2 p2 => ⟨xs.length - (n + 1), by omega, rfl, lt, p2⟩, fun x H2 y => ?_⟩
    obtain ⟨T, x, rfl, hT, rfl, hx2⟩ := y
    exact ⟨T, [.int (n : Int), x], rfl, st_of upd_same, rfl, .int (n : Int), [x], rfl, x, [], rfl, rfl, hs n x σ' H' _ (hx2 xs q) p (Ex.new hT)⟩
  · have e2 : n = xs.length := by omega
    subst e2
    exact .inl ⟨⟨xs, q, Nat.le_refl _⟩, hd σ' H' p⟩
theorem q_forE {ta : TA} {a : Addr} {xs : List V} {i j : Nat} (h : EvA ta σ H [.ref a]) (hx : SqL K H a xs) (Pv : Nat → L2.St → Hp → Prop)
    (h0 : ∀ H1, Ex H H1 → Pv 0 σ H1) (hl : ∀ n σ' H', n ≤ xs.length → Pv n σ' H' → SqL K H' a xs)
    (hs : ∀ n x σ' H' H2, xs[n]? = some x → Pv n σ' H' → Ex H' H2 →
      tu { D with nx := Pv (n + 1), ct := Pv (n + 1), bk := tz D } ((σ'.set i (some (.int (n : Int)))).set j (some x)) H2)
    (hd : ∀ σ' H', Pv xs.length σ' H' → tz D σ' H') : tSeq (tFor (iEnum K ta) (gTup K 2 (gCons (gName i) (gCons (gName j) gNil))) tu) tz D σ H :=
  s_forE (D := { D with nx := tz D }) h hx Pv h0 hl hs hd
/-- for i, x in enumerate(e), e a new list -/
theorem q_forEN {xs : List V} {i j : Nat} (h : EvL te σ H xs) (Pv : Addr → Nat → L2.St → Hp → Prop)
    (h0 : ∀ p H1, H p = none → Ex H H1 → H1 p = some (.lst xs) → Pv p 0 σ H1) (hl : ∀ p n σ' H', n ≤ xs.length → Pv p n σ' H' → SqL K H' p xs)
    (hs : ∀ p n x σ' H' H2, xs[n]? = some x → Pv p n σ' H' → Ex H' H2 →
      tu { D with nx := Pv p (n + 1), ct := Pv p (n + 1), bk := tz D } ((σ'.set i (some (.int (n : Int)))).set j (some x)) H2)
    (hd : ∀ p σ' H', Pv p xs.length σ' H' → tz D σ' H') : tSeq (tFor (iEnum K (tCons te tNil)) (gTup K 2 (gCons (gName i) (gCons (gName j) gNil))) tu) tz D σ H := by
  refine h H (Ex.refl H) _ fun p H1 hp e hx => ?_
  refine ⟨p, xs, rfl, sq_of hx, ?_⟩
  refine ⟨fun n m σ' H' => m = xs.length - n ∧ n ≤ xs.length ∧ Pv p n σ' H', ⟨xs.length, rfl, Nat.zero_le _, h0 p H1 hp e hx⟩, ?_⟩
  rintro n m σ' H' ⟨rfl, hn, pv⟩
  have q := hl p n σ' H' hn pv
  by_cases lt : n < xs.length
  · refine .inr ⟨⟨xs, xs[n], q, List.getElem?_eq_getElem lt⟩, Pv p (n + 1), fun σ2 H2 p2 => ⟨xs.length - (n + 1), by omega, rfl, lt, p2⟩, fun x H2 y => ?_⟩
    obtain ⟨T, x, rfl, hT, rfl, hx2⟩ := y
    exact ⟨T, [.int (n : Int), x], rfl, st_of upd_same, rfl, .int (n : Int), [x], rfl, x, [], rfl, rfl, hs p n x σ' H' _ (hx2 xs q) pv (Ex.new hT)⟩
  · have e2 : n = xs.length := by omega
    subst e2
    exact .inl ⟨⟨xs, q, Nat.le_refl _⟩, hd p σ' H' pv⟩
theorem Cw.later {f : Nat → Bool} {v : Nat → V} {Dl : Addr} {n : Nat} {H2 : Hp} (p : Cw H f v Dl n H') (e : Ex H' H2) : Cw H f v Dl n H2 :=
  ⟨p.1, p.2.1.trans e, e Dl _ p.2.2⟩
/-- [e for i, x in enumerate(xs) if t] -/
theorem el_lcE {ta : TA} {a : Addr} {xs : List V} {i j : Nat} {vs : List Nat} (f : Nat → Bool) (v : Nat → V) (h : EvA ta σ H [.ref a]) (hx : SqL K H a xs) (hz : xs.length ≤ 40000)
    (hw : ∀ x y, wipe (((wipe σ vs).set i (some x)).set j (some y)) vs = wipe σ vs)
    (ht : ∀ (n : Nat) (x : V) H1, Ex H H1 → xs[n]? = some x → EvT t (((wipe σ vs).set i (some (.int (n : Int)))).set j (some x)) H1 (f n))
    (he : ∀ (n : Nat) (x : V) H1, Ex H H1 → xs[n]? = some x → f n = true → Ev te (((wipe σ vs).set i (some (.int (n : Int)))).set j (some x)) H1 (v n)) :
    EvL (tLc (iEnum K ta) (gTup K 2 (gCons (gName i) (gCons (gName j) gNil))) t te vs) σ H (given xs.length f v) := fun H0 e Q q => by
  refine h H0 e _ fun H1 e1 => ⟨a, xs, rfl, ex_l (e.trans e1) hx, fun Dl hD => ?_⟩
  refine ⟨fun n m H' => m = xs.length - n ∧ n ≤ xs.length ∧ Cw H1 f v Dl n H', ⟨xs.length, rfl, Nat.zero_le _, hD, Ex.new hD, upd_same⟩, ?_⟩
  rintro n m H' ⟨rfl, hn, p⟩
  have hq := ex_l ((e.trans e1).trans p.2.1) hx
  by_cases lt : n < xs.length
  · refine .inr ⟨⟨xs, xs[n], hq, List.getElem?_eq_getElem lt⟩, fun H2 => Cw H1 f v Dl (n + 1) H2, fun H2 p2 => ⟨xs.length - (n + 1), by omega, rfl, lt, p2⟩, fun x H2 y => ?_⟩
    obtain ⟨T, x, rfl, hT, rfl, hx2⟩ := y
    have hxn := hx2 xs hq
    refine ⟨T, [.int (n : Int), x], rfl, st_of upd_same, rfl, .int (n : Int), [x], rfl, x, [], rfl, rfl, hw _ _, ?_⟩
    exact cw_turn (MuK.Cw.later p (Ex.new hT)) (by omega) (ht n x H1 (e.trans e1) hxn) fun hf => he n x H1 (e.trans e1) hxn hf
  · have e2 : n = xs.length := by omega
    subst e2
    exact .inl ⟨⟨xs, hq, Nat.le_refl _⟩, q Dl H' (fresh_back e1 p.1) (e1.trans p.2.1) p.2.2⟩
/-- the texts of the lists at ls -/
def LotAt (H : Hp) (ls : List (Addr × List Str)) : Prop := ∀ p ∈ ls, TxL H p.1 p.2
theorem LotAt.later {ls : List (Addr × List Str)} (h : LotAt H ls) (e : Ex H H') : LotAt H' ls := fun p m => e _ _ (h p m)
/-- [list(x) for x in lot] -/
theorem evx_copies {ls : List (Addr × List Str)} {a : Addr} {tl : TE} {j : Nat} {vs : List Nat} (h : Ev tl σ H (.ref a)) (hx : SqL K H a (ls.map fun p => V.ref p.1)) (hz : ls.length ≤ 40000)
    (hl : LotAt H ls) (hj : j < σ.length) (hw : ∀ x, wipe ((wipe σ vs).set j (some x)) vs = wipe σ vs) :
    EvX (tLc (iList K tl) (gName j) tYes (tCB (rListS K) (tCons (tVar j) tNil)) vs) σ H
      (fun v H' => ∃ (p : Addr) (cs : List (Addr × List Str)), v = .ref p ∧ H p = none ∧ H' p = some (.lst (cs.map fun p => V.ref p.1)) ∧ cs.map (·.2) = ls.map (·.2) ∧ LotAt H' cs ∧ ∀ c ∈ cs, H c.1 = none) := fun H0 e Q q => by
  refine h H0 e _ fun H1 e1 => ⟨a, rfl, ⟨_, ex_l (e.trans e1) hx⟩, fun Dl hD => ?_⟩
  have e01 := e.trans e1
  refine lc_list (xs := ls.map fun p => V.ref p.1)
    (fun n H' => Ex H1 H' ∧ ∃ cs : List (Addr × List Str), H' Dl = some (.lst (cs.map fun p => V.ref p.1)) ∧ cs.map (·.2) = (ls.take n).map (·.2) ∧ LotAt H' cs ∧ ∀ c ∈ cs, H1 c.1 = none ∧ c.1 ≠ Dl)
    ⟨Ex.new hD, [], upd_same, rfl, fun _ m => (nomatch m), fun _ m => nomatch m⟩ (fun n H' _ p => ex_l (e01.trans p.1) hx) (fun n x H' hn p => ?_) (fun H' p => ?_)
  · obtain ⟨e2, cs, hDl, hcs, hat, hnew⟩ := p
    obtain ⟨pr, hpr, rfl⟩ : ∃ pr, ls[n]? = some pr ∧ x = .ref pr.1 := by
      rw [List.getElem?_map] at hn
      cases y : ls[n]? with
      | none =>
        rw [y] at hn
        exact nomatch hn
      | some pr =>
        rw [y] at hn
        exact ⟨pr, rfl, (Option.some.inj hn).symm⟩
    have hm := List.mem_of_getElem? hpr
    have lt := (List.getElem?_eq_some_iff.mp hpr).1
    refine ⟨hw _, ?_⟩
    show tCB (rListS K) (tCons (tVar j) tNil) _ H' _
    refine ⟨.ref pr.1, ?_, pr.1, pr.2.map V.str, rfl, .inl (sq_of ((e01.trans e2) _ _ (hl pr hm))), fun c hc => ?_⟩
    · exact List.getElem?_set_self (by rw [wipe_length]; exact hj)
    · have hcD : c ≠ Dl := fun z => by
        rw [z, hDl] at hc
        exact nomatch hc
      have e3 : Ex H' (upd H' c (.lst (pr.2.map V.str))) := Ex.new hc
      have len : cs.length ≤ ls.length := by
        have := congrArg List.length hcs
        simp at this
        omega
      refine ⟨cs.map fun p => V.ref p.1, e3 _ _ hDl, by rw [List.length_map]; exact sz_lt (by omega), Ex.mut (e2.trans e3) hD, cs ++ [(c, pr.2)], ?_, ?_, fun p m => ?_, fun p m => ?_⟩
      · rw [upd_same, List.map_append]
        rfl
      · rw [List.map_append, hcs, List.take_succ_eq_append_getElem lt, List.map_append, (List.getElem?_eq_some_iff.mp hpr).2]
        rfl
      · rcases List.mem_append.mp m with m | m
        · exact (upd_ne (hnew p m).2).trans (e3 _ _ (hat p m))
        · obtain rfl := List.mem_singleton.mp m
          exact (upd_ne hcD).trans upd_same
      · rcases List.mem_append.mp m with m | m
        · exact hnew p m
        · obtain rfl := List.mem_singleton.mp m
          exact ⟨fresh_back e2 hc, hcD⟩
  · obtain ⟨e2, cs, hDl, hcs, hat, hnew⟩ := p
    rw [List.length_map, List.take_length] at hcs
    exact q _ _ (e1.trans e2) ⟨Dl, cs, rfl, fresh_back e01 hD, hDl, hcs, hat, fun c m => fresh_back e01 (hnew c m).1⟩
/-- a list and a new one, joined -/
theorem el_catS {xs ys : List V} {a : Addr} (ha : Ev ta σ H (.ref a)) (h0 : SqL K H a xs) (hb : EvL tb σ H ys) (hz : xs.length + ys.length ≤ 100000)
    (hK : ∀ H1, Ex H H1 → H1 a = some (.lst xs)) : EvL (tOp rCat ta tb) σ H (xs ++ ys) := el_catV ha (hK H (Ex.refl H)) hb hz
/-- the item by a number's rest -/
theorem atI_emod {xs : List V} {n : Int} (h : xs ≠ []) : ∃ x, atI xs (n % (xs.length : Int)) = some x ∧ x ∈ xs := by
  have h0 : 0 < xs.length := List.length_pos_iff.mpr h
  have h1 : 0 ≤ n % (xs.length : Int) := Int.emod_nonneg _ (by omega)
  have h2 : n % (xs.length : Int) < xs.length := Int.emod_lt_of_pos _ (by omega)
  have h3 : (((n % (xs.length : Int)).toNat : Nat) : Int) = n % (xs.length : Int) := Int.toNat_of_nonneg h1
  have h4 : (n % (xs.length : Int)).toNat < xs.length := by omega
  have h6 := atI_nat (List.getElem?_eq_getElem h4)
  rw [h3] at h6
  exact ⟨_, h6, List.getElem_mem h4⟩
theorem s_dputK {td ty tv : TE} {d : Addr} {kvs : List (Key × V)} {k : Key} (hd : H d = some (.dK kvs)) (hz : kvs.length < 100000) (hv : Ev tv σ H v) (ho : Ev td σ H (.ref d)) (hk : Ev ty σ H (kV k))
    (q : ∀ H1, Ex H H1 → D.nx σ (upd H1 d (.dK (putK kvs k v)))) : sDPut td ty tv D σ H := by
  refine hv H (Ex.refl H) _ fun H1 e1 => ho H1 e1 _ fun H2 e2 => hk H2 (e1.trans e2) _ fun H3 e3 => ?_
  have e := (e1.trans e2).trans e3
  exact ⟨d, _, rfl, DPut.k (e d _ hd) (sz_lt hz), q H3 e⟩
theorem inV_str {xs : List Str} {a : Str} : inV (.str a) (xs.map V.str) = decide (a ∈ xs) := by
  unfold inV
  rw [List.any_map, Bool.eq_iff_iff, List.any_eq_true, decide_eq_true_eq]
  constructor
  · rintro ⟨y, hy, e⟩
    have : y = a := by simpa [eqV] using e
    exact this ▸ hy
  · intro h
    exact ⟨a, h, by simp [eqV]⟩
end
end MuK

namespace MuK
open PySem PySem.Spec PyProof.Rows L2 Evl
section
variable {X : Cx}
/-- a list, and a list without items, compared -/
def rNil (K : PySem.W.Frag) (k : Bool) : R2 := fun x y H Q => ∃ (a b : Addr) (xs : List V), x = .ref a ∧ y = .ref b ∧ SqL K H a xs ∧ SqL K H b [] ∧ Q (.bl (k == xs.isEmpty)) H
theorem op_neNil (hu : X.A.units + 64 < cLine) : OpR X (compareOp .NotEq) (rNil X.K false) := by
  intro pins s σ H x y v u Q I rx ry h
  obtain ⟨a, b, xs, rfl, rfl, ha, hb, q⟩ := h
  obtain rfl : v = Value.ref a := rx
  obtain rfl : u = Value.ref b := ry
  obtain ⟨us, r1, p1, _⟩ := I.list ha
  obtain ⟨ws, r2, p2, _⟩ := I.list hb
  cases r2
  have hu2 : X.A.units < cLine := by omega
  cases r1 with
  | nil => exact SeqAt.RcNeAt.lists (e := fun _ => true) p1.isList p2.isList rfl hu2 (fun j h1 _ => absurd h1 (Nat.not_lt_zero j)) _ _ _ _ ⟨.bl false, H, I, rfl, q⟩
  | cons r rr => exact SeqAt.RcNeAt.lists_lengths p1.isList p2.isList (by simp) hu2 _ _ _ _ ⟨.bl true, H, I, rfl, q⟩
end
section
variable {K : PySem.W.Frag} {σ : L2.St} {H H' : Hp} {ta tb te : TE} {t u : TT} {x y z v : V} {D : Ends} {tu tw tz : TS} {R : V → Hp → Prop}
theorem ev_neNil {a : Addr} {xs : List V} (ha : Ev ta σ H (.ref a)) (hx : SqL K H a xs) (hb : EvL tb σ H []) : Ev (tOp (rNil K false) ta tb) σ H (.bl (!xs.isEmpty)) := fun H1 e Q q =>
  ha H1 e _ fun H2 e2 => hb H2 (e.trans e2) _ fun p H3 hp e3 h3 => ⟨a, p, xs, rfl, rfl, ex_l ((e.trans e2).trans e3) hx, sq_of h3, by
    have z : (false == xs.isEmpty) = !xs.isEmpty := by cases xs.isEmpty <;> rfl
    rw [z]
    exact q H3 (e2.trans e3)⟩
theorem el_listN {xs : List V} (ha : EvL ta σ H xs) : EvL (tCB (rListS K) (tCons ta tNil)) σ H xs := fun H1 e Q q =>
  ha H1 e _ fun p H2 hp e2 h2 => ⟨p, xs, rfl, .inl (sq_of h2), fun l hl => q l _ (fresh_back e2 hl) (e2.trans (Ex.new hl)) upd_same⟩
theorem sub_nodup {α : Type} {l m : List α} (h : l.Sublist m) (n : m.Nodup) : l.Nodup := n.sublist h
/-- words[at:] + words[:at] -/
theorem rot_str {us : List Str} {k : Nat} (hk : k ≤ us.length) : ∃ vs : List Str, cutV (us.map V.str) (some (k : Int)) none ++ cutV (us.map V.str) none (some (k : Int)) = vs.map V.str ∧ vs.Perm us := by
  refine ⟨us.drop k ++ us.take k, ?_, ?_⟩
  · unfold cutV
    rw [HT.sIx_nat, HT.sIx_nat, HT.sIx_none, HT.sIx_none, List.length_map, Nat.min_eq_left hk, List.map_append, List.map_drop, List.map_take, Nat.sub_zero, List.drop_zero]
    congr 1
    exact List.take_of_length_le (by simp)
  · exact List.perm_append_comm.trans (by rw [List.take_append_drop])
theorem nodup_bound {us ws : List Str} (nd : us.Nodup) (h : ∀ u ∈ us, u ∈ ws) : us.length ≤ ws.length := nodup_len nd h
theorem s_remS {l : Addr} {ws : List Str} {k : Str} (hl : TxL H l ws) (hk : k ∈ ws) (ha : Ev ta σ H (.ref l)) (h : Ev te σ H (.str k))
    (q : ∀ H1, Ex H H1 → D.nx σ (upd H1 l (.lst ((ws.erase k).map V.str)))) : tDrop (tBM K "list" rRemS ta (tCons te tNil)) D σ H := by
  refine ha H (Ex.refl H) _ fun H1 e1 => ⟨.inl ⟨rfl, _, sq_of (e1 l _ hl)⟩, ?_⟩
  refine h H1 e1 _ fun H2 e2 => ?_
  exact ⟨l, ws, k, rfl, rfl, (e1.trans e2) l _ hl, hk, q H2 (e1.trans e2)⟩
theorem s_appX {l : Addr} {xs : List V} (hl : H l = some (.lst xs)) (ha : Ev ta σ H (.ref l)) (h : EvX te σ H R) (hz : xs.length < 100000)
    (k : ∀ v H1, Ex H H1 → R v H1 → D.nx σ (upd H1 l (.lst (xs ++ [v])))) : tDrop (tBM K "list" rAppend ta (tCons te tNil)) D σ H := by
  refine ha H (Ex.refl H) _ fun H1 e1 => ⟨.inl ⟨rfl, xs, sq_of (e1 l _ hl)⟩, ?_⟩
  refine h H1 e1 _ fun v H2 e2 r => ?_
  exact ⟨l, xs, v, rfl, rfl, (e1.trans e2) l _ hl, sz_lt hz, k v H2 (e1.trans e2) r⟩
end
end MuK

namespace MuEq
open PySem PySem.Spec PyProof.Rows L2 PySem.SeqAt MeetsSeq
section
variable {P : Program} {w : World}
/-- what both tuples are, at the heap -/
def Two (s : Shared) (l b : Addr) (xs ys : Array Value) (n m : Nat) (d e : Option Addr) (sx sy : Array (Option Value)) : Prop :=
  s.heap.get? l = some { cls := .type "tuple", dict := d, data := .seq xs n, slots := sx } ∧
  s.heap.get? b = some { cls := .type "tuple", dict := e, data := .seq ys m, slots := sy }
theorem eq_all (l b : Addr) (xs ys : Array Value) (n m : Nat) (d e : Option Addr) (sx sy : Array (Option Value)) (hz : xs.size = ys.size) :
    MeetsIn P w (Builtin.«tuple.__eq__» ⟨[.ref l, .ref b], []⟩) (fun A R s => Two s l b xs ys n m d e sx sy ∧
      (∀ j (h1 : j < xs.size) (h2 : j < ys.size), EqP P w A.in1 s xs[j] ys[j] true) ∧ R (.ok (.ret (.bool true))) s) := by
  intro A R s h
  obtain ⟨hp, g, dr, tk, os⟩ := s
  obtain ⟨⟨hl, hb⟩, he, h⟩ := h
  have f2 := AutoSeq1.sub_tuple_tuple
  wp_walk using wpAny_loadPart' hl, wpAny_loadPart' hb, wpAny_forIn_list _ (fun rest b s' => b.1 = none ∧ s' = ⟨hp, g, dr, tk, os⟩ ∧ ∃ i, rest = (xs.toList.zip ys.toList).drop i) _
  case turn =>
    rintro ⟨y, x⟩ rest b s' ⟨hb', rfl, i, hr⟩
    have lt : i < (xs.toList.zip ys.toList).length := Nat.lt_of_not_le fun z => by
      rw [List.drop_of_length_le z] at hr
      exact nomatch hr
    have lt1 : i < xs.size := by
      simp at lt
      omega
    have lt2 : i < ys.size := by omega
    rw [List.drop_eq_getElem_cons lt] at hr
    obtain ⟨e1, e2⟩ := List.cons.inj hr
    have ey : y = xs[i] := by simpa using congrArg Prod.fst e1
    have ex : x = ys[i] := by simpa using congrArg Prod.snd e1
    subst ey ex
    refine wpAny_bind (he i lt1 lt2 _ _ ?_)
    wp_walk
    exact ⟨rfl, rfl, i + 1, e2⟩
  case fin =>
    rintro ⟨b1, b2⟩ s' ⟨hb', rfl, i, hr⟩
    obtain rfl : b1 = none := hb'
    wp_walk
    simpa [Builtin.Tuple.tupleCompareSizes, hz, bne] using h
  case h => exact ⟨rfl, rfl, 0, rfl⟩
theorem ne_all (l b : Addr) (xs ys : Array Value) (n m : Nat) (d e : Option Addr) (sx sy : Array (Option Value)) (hz : xs.size = ys.size) :
    MeetsIn P w (Builtin.«tuple.__ne__» ⟨[.ref l, .ref b], []⟩) (fun A R s => Two s l b xs ys n m d e sx sy ∧
      (∀ j (h1 : j < xs.size) (h2 : j < ys.size), EqP P w A.in1 s xs[j] ys[j] true) ∧ R (.ok (.ret (.bool false))) s) := by
  intro A R s h
  obtain ⟨hp, g, dr, tk, os⟩ := s
  obtain ⟨⟨hl, hb⟩, he, h⟩ := h
  have f2 := AutoSeq1.sub_tuple_tuple
  wp_walk using wpAny_loadPart' hl, wpAny_loadPart' hb, wpAny_forIn_list _ (fun rest b s' => b.1 = none ∧ s' = ⟨hp, g, dr, tk, os⟩ ∧ ∃ i, rest = (xs.toList.zip ys.toList).drop i) _
  case turn =>
    rintro ⟨y, x⟩ rest b s' ⟨hb', rfl, i, hr⟩
    have lt : i < (xs.toList.zip ys.toList).length := Nat.lt_of_not_le fun z => by
      rw [List.drop_of_length_le z] at hr
      exact nomatch hr
    have lt1 : i < xs.size := by
      simp at lt
      omega
    have lt2 : i < ys.size := by omega
    rw [List.drop_eq_getElem_cons lt] at hr
    obtain ⟨e1, e2⟩ := List.cons.inj hr
    have ey : y = xs[i] := by simpa using congrArg Prod.fst e1
    have ex : x = ys[i] := by simpa using congrArg Prod.snd e1
    subst ey ex
    refine wpAny_bind (he i lt1 lt2 _ _ ?_)
    wp_walk
    exact ⟨rfl, rfl, i + 1, e2⟩
  case fin =>
    rintro ⟨b1, b2⟩ s' ⟨hb', rfl, i, hr⟩
    obtain rfl : b1 = none := hb'
    wp_walk
    simpa [Builtin.Tuple.tupleCompareSizes, hz, bne] using h
  case h => exact ⟨rfl, rfl, 0, rfl⟩
end
section
variable {X : Cx}
/-- two pairs, their items equal by EqV -/
def rPair (K : PySem.W.Frag) (k : Bool) : R2 := fun x y H Q => ∃ (a b : Addr) (x1 x2 y1 y2 : V) (n : Nat), x = .ref a ∧ y = .ref b ∧ SqT K H a [x1, x2] ∧ SqT K H b [y1, y2] ∧ n ≤ 50 ∧ EqV K H n x1 y1 ∧ EqV K H n x2 y2 ∧ Q (.bl k) H
theorem pair_items {pins : List (Addr × Obj)} {σ : L2.St} {H : Hp} {s : Shared} {x1 x2 y1 y2 : V} {n : Nat} {us ws : List Value} (I : Inv X pins σ H s) {A : Around} (hu : A.units + n < cLine)
    (r1 : Vals [x1, x2] us) (r2 : Vals [y1, y2] ws) (h1 : EqV X.K H n x1 y1) (h2 : EqV X.K H n x2 y2) :
    us.length = ws.length ∧ ∀ j (l1 : j < us.toArray.size) (l2 : j < ws.toArray.size), EqP X.prog X.w A s us.toArray[j] ws.toArray[j] true := by
  cases r1 with
  | cons a1 r1 =>
    cases r1 with
    | cons a2 r1 =>
      cases r1
      cases r2 with
      | cons b1 r2 =>
        cases r2 with
        | cons b2 r2 =>
          cases r2
          refine ⟨rfl, fun j l1 l2 => ?_⟩
          match j, l1, l2 with
          | 0, _, _ => exact eqV_run I n A hu _ _ _ _ h1 a1 b1
          | 1, _, _ => exact eqV_run I n A hu _ _ _ _ h2 a2 b2
          | j + 2, l1, _ => exact absurd l1 (by simp)
theorem op_eqPair (hu : X.A.units + 64 < cLine) : OpR X (compareOp .Eq) (rPair X.K true) := by
  intro pins s σ H x y v u Q I rx ry h
  obtain ⟨a, b, x1, x2, y1, y2, n, rfl, rfl, ha, hb, hn, h1, h2, q⟩ := h
  obtain rfl : v = Value.ref a := rx
  obtain rfl : u = Value.ref b := ry
  obtain ⟨us, r1, ⟨o1, g1, c1, m1, d1⟩, _⟩ := I.tuple ha
  obtain ⟨ws, r2, ⟨o2, g2, c2, m2, d2⟩, _⟩ := I.tuple hb
  obtain ⟨len, items⟩ := pair_items I (A := X.A.in1) (show X.A.units + 1 + n < cLine by omega) r1 r2 h1 h2
  obtain ⟨cls1, dd1, data1, sl1⟩ := o1
  obtain ⟨cls2, dd2, data2, sl2⟩ := o2
  obtain rfl : cls1 = _ := c1
  obtain rfl : cls2 = _ := c2
  obtain rfl : data1 = _ := d1
  obtain rfl : data2 = _ := d2
  have ta : s.TypeIs (.ref a) "tuple" := ⟨_, g1, rfl⟩
  have tb : s.TypeIs (.ref b) "tuple" := ⟨_, g2, rfl⟩
  refine wpAny_richCompare_same_room (op := .Eq) ta tb F.slot_tuple_eq (call_meetsIn F.slot_tuple_eq ta F.entry_tuple_eq (F.args_tuple_eq_2 _ _) (eq_all a b us.toArray ws.toArray _ _ _ _ _ _ (by simpa using len)) ⟨⟨g1, g2⟩, items, ?_⟩) (by omega)
  exact ⟨fun z => (nomatch z), .bl true, H, I, rfl, q⟩
theorem op_nePair (hu : X.A.units + 64 < cLine) : OpR X (compareOp .NotEq) (rPair X.K false) := by
  intro pins s σ H x y v u Q I rx ry h
  obtain ⟨a, b, x1, x2, y1, y2, n, rfl, rfl, ha, hb, hn, h1, h2, q⟩ := h
  obtain rfl : v = Value.ref a := rx
  obtain rfl : u = Value.ref b := ry
  obtain ⟨us, r1, ⟨o1, g1, c1, m1, d1⟩, _⟩ := I.tuple ha
  obtain ⟨ws, r2, ⟨o2, g2, c2, m2, d2⟩, _⟩ := I.tuple hb
  obtain ⟨len, items⟩ := pair_items I (A := X.A.in1) (show X.A.units + 1 + n < cLine by omega) r1 r2 h1 h2
  obtain ⟨cls1, dd1, data1, sl1⟩ := o1
  obtain ⟨cls2, dd2, data2, sl2⟩ := o2
  obtain rfl : cls1 = _ := c1
  obtain rfl : cls2 = _ := c2
  obtain rfl : data1 = _ := d1
  obtain rfl : data2 = _ := d2
  have ta : s.TypeIs (.ref a) "tuple" := ⟨_, g1, rfl⟩
  have tb : s.TypeIs (.ref b) "tuple" := ⟨_, g2, rfl⟩
  refine wpAny_richCompare_same_room (op := .NotEq) ta tb F.slot_tuple_ne (call_meetsIn F.slot_tuple_ne ta F.entry_tuple_ne (F.args_tuple_ne_2 _ _) (ne_all a b us.toArray ws.toArray _ _ _ _ _ _ (by simpa using len)) ⟨⟨g1, g2⟩, items, ?_⟩) (by omega)
  exact ⟨fun z => (nomatch z), .bl false, H, I, rfl, q⟩
end
end MuEq

namespace MuK
open PySem PySem.Spec PyProof.Rows L2 Evl
/-! ### texts in order -/
abbrev leT (a b : Str) : Prop := ltCps b.cps.toList a.cps.toList = false
theorem lt_tri : ∀ a b : List Nat, ltCps a b = false → ltCps b a = false → a = b
  | [], [], _, _ => rfl
  | [], _ :: _, h, _ => by simp [ltCps] at h
  | _ :: _, [], _, h => by simp [ltCps] at h
  | a :: r, b :: t, h, k => by
    simp only [ltCps, Bool.or_eq_false_iff, decide_eq_false_iff_not, Bool.and_eq_false_iff, beq_eq_false_iff_ne] at h k
    have e : a = b := by omega
    subst e
    rw [lt_tri r t (h.2.resolve_left fun z => z rfl) (k.2.resolve_left fun z => z rfl)]
theorem le_tr : ∀ a b c : List Nat, ltCps b a = false → ltCps c b = false → ltCps c a = false
  | [], _, [], _, _ => rfl
  | [], _, _ :: _, _, _ => rfl
  | _ :: _, [], _, h, _ => by simp [ltCps] at h
  | _ :: _, _ :: _, [], _, h => by simp [ltCps] at h
  | a :: r, b :: t, c :: u, h, k => by
    simp only [ltCps, Bool.or_eq_false_iff, decide_eq_false_iff_not, Bool.and_eq_false_iff, beq_eq_false_iff_ne] at h k ⊢
    refine ⟨by omega, ?_⟩
    by_cases e : c = a
    · subst e
      have e2 : b = c := by omega
      subst e2
      exact .inr (le_tr r t u (h.2.resolve_left fun z => z rfl) (k.2.resolve_left fun z => z rfl))
    · exact .inl e
theorem rising_pair : ∀ (l : List Str) (p : Str), risingS p l = true → (p :: l).Pairwise leT
  | [], p, _ => List.pairwise_singleton _ _
  | x :: r, p, h => by
    have h' : (!ltCps x.cps.toList p.cps.toList && risingS x r) = true := h
    rw [Bool.and_eq_true, Bool.not_eq_true'] at h'
    have ih := rising_pair r x h'.2
    refine List.pairwise_cons.mpr ⟨fun y hy => ?_, ih⟩
    rcases List.mem_cons.mp hy with e | e
    · rw [e]
      exact h'.1
    · exact le_tr _ _ _ h'.1 ((List.pairwise_cons.mp ih).1 y e)
theorem sorted_pair {l : List Str} (h : sortedS l = true) : l.Pairwise leT := by
  cases l with
  | nil => exact List.Pairwise.nil
  | cons x r => exact rising_pair r x h
theorem sorted_one : ∀ {l m : List Str}, l.Pairwise leT → m.Pairwise leT → l.Perm m → l = m
  | [], m, _, _, h => h.nil_eq
  | a :: l, [], _, _, h => absurd h.length_eq (by simp)
  | a :: l, b :: m, hl, hm, h => by
    have e : a = b := by
      have ha : a ∈ b :: m := h.mem_iff.mp List.mem_cons_self
      have hb : b ∈ a :: l := h.mem_iff.mpr List.mem_cons_self
      rcases List.mem_cons.mp ha with z | z
      · exact z
      · rcases List.mem_cons.mp hb with y | y
        · exact y.symm
        · have q := lt_tri _ _ ((List.pairwise_cons.mp hm).1 a z) ((List.pairwise_cons.mp hl).1 b y)
          obtain ⟨a⟩ := a
          obtain ⟨b⟩ := b
          exact congrArg Str.mk (Array.ext' q)
    subst e
    rw [sorted_one (List.pairwise_cons.mp hl).2 (List.pairwise_cons.mp hm).2 h.cons_inv]
/-- what is sorted, of the same texts each once, is the same -/
theorem sorted_same {l m : List Str} (hl : sortedS l = true) (hm : sortedS m = true) (n1 : l.Nodup) (n2 : m.Nodup) (h : ∀ j, j ∈ l ↔ j ∈ m) : l = m :=
  sorted_one (sorted_pair hl) (sorted_pair hm) ((List.perm_ext_iff_of_nodup n1 n2).mpr h)
end MuK

namespace MuK
open PySem PySem.Spec PyProof.Rows L2 Evl MuEq
section
variable {X : Cx}
/-- two lists of the same texts -/
def rSame (K : PySem.W.Frag) (k : Bool) : R2 := fun x y H Q => ∃ (a b : Addr) (ws : List Str), x = .ref a ∧ y = .ref b ∧ SqL K H a (ws.map V.str) ∧ SqL K H b (ws.map V.str) ∧ Q (.bl k) H
theorem op_neSame (hu : X.A.units + 64 < cLine) : OpR X (compareOp .NotEq) (rSame X.K false) := by
  intro pins s σ H x y v u Q I rx ry h
  obtain ⟨a, b, ws, rfl, rfl, ha, hb, q⟩ := h
  obtain rfl : v = Value.ref a := rx
  obtain rfl : u = Value.ref b := ry
  obtain ⟨us, r1, p1, _⟩ := I.list ha
  obtain ⟨vs, r2, p2, _⟩ := I.list hb
  have hu2 : X.A.units < cLine := by omega
  have l1 := r1.length
  have l2 := r2.length
  rw [List.length_map] at l1 l2
  refine SeqAt.RcNeAt.lists (e := fun _ => true) p1.isList p2.isList (by simp; omega) hu2 (fun j h1 h2 => ?_) _ _ _ _ ?_
  · have lt : j < ws.length := by
      simp at h1
      omega
    have ej : (ws.map V.str)[j]? = some (V.str ws[j]) := by
      rw [List.getElem?_map, List.getElem?_eq_getElem lt]
      rfl
    obtain ⟨w1, e1, q1⟩ := r1.get ej
    obtain ⟨w2, e2, q2⟩ := r2.get ej
    have g1 : us.toArray[j] = w1 := by simpa using (List.getElem?_eq_some_iff.mp e1).2
    have g2 : vs.toArray[j] = w2 := by simpa using (List.getElem?_eq_some_iff.mp e2).2
    rw [g1, g2]
    exact eqAt_same q1 q2 rfl
  · rw [show ((List.range us.toArray.size).all fun _ => true) = true from List.all_eq_true.mpr fun _ _ => rfl]
    exact ⟨.bl false, H, I, rfl, q⟩
end
section
variable {K : PySem.W.Frag} {σ : L2.St} {H H' : Hp} {ta tb te : TE} {t u : TT} {x y z v : V} {D : Ends} {tu tw tz : TS} {R : V → Hp → Prop}
theorem ev_neSame {a b : Addr} {ws : List Str} (ha : Ev ta σ H (.ref a)) (hb : Ev tb σ H (.ref b)) (h1 : SqL K H a (ws.map V.str)) (h2 : SqL K H b (ws.map V.str)) :
    Ev (tOp (rSame K false) ta tb) σ H (.bl false) := ev_op ha hb fun H1 e Q q => ⟨a, b, ws, rfl, rfl, ex_l e h1, ex_l e h2, q H1 (Ex.refl H1)⟩
theorem ev_pair {k : Bool} {a : Addr} {x1 x2 y1 y2 : V} {n : Nat} (ha : Ev ta σ H (.ref a)) (h1 : SqT K H a [x1, x2]) (hb : EvU tb σ H [y1, y2]) (hn : n ≤ 50)
    (e1 : ∀ H1, Ex H H1 → EqV K H1 n x1 y1) (e2 : ∀ H1, Ex H H1 → EqV K H1 n x2 y2) : Ev (tOp (rPair K k) ta tb) σ H (.bl k) :=
  ev_opU ha hb fun p H1 hp e H2 e3 Q q => ⟨a, p, x1, x2, y1, y2, n, rfl, rfl, ex_t (e.trans e3) h1, st_of (e3 p _ hp), hn, e1 H2 (e.trans e3), e2 H2 (e.trans e3), q H2 (Ex.refl H2)⟩
theorem texts_eq {n : Nat} : ∀ ws : List Str, Paired (EqV K H (n + 1)) (ws.map V.str) (ws.map V.str)
  | [] => .nil
  | a :: r => .cons (.inl ⟨rfl, rfl⟩) (texts_eq r)
theorem refs_eq : ∀ {cs ls : List (Addr × List Str)}, cs.map (·.2) = ls.map (·.2) → LotAt H cs → LotAt H ls →
    Paired (EqV K H 2) (cs.map fun p => V.ref p.1) (ls.map fun p => V.ref p.1)
  | [], [], _, _, _ => .nil
  | [], _ :: _, h, _, _ => nomatch h
  | _ :: _, [], h, _, _ => nomatch h
  | c :: cs, l :: ls, h, hc, hl => by
    obtain ⟨h1, h2⟩ := List.cons.inj h
    refine .cons (.inr (.inr (.inl ⟨c.1, l.1, c.2.map V.str, l.2.map V.str, rfl, rfl, sq_of (hc c List.mem_cons_self), sq_of (hl l List.mem_cons_self), ?_⟩))) (refs_eq h2 (fun p m => hc p (List.mem_cons_of_mem _ m)) fun p m => hl p (List.mem_cons_of_mem _ m))
    rw [show c.2 = l.2 from h1]
    exact texts_eq _
theorem lot_eq {p q : Addr} {cs ls : List (Addr × List Str)} (hp : H p = some (.lst (cs.map fun p => V.ref p.1))) (hq : H q = some (.lst (ls.map fun p => V.ref p.1)))
    (he : cs.map (·.2) = ls.map (·.2)) (hc : LotAt H cs) (hl : LotAt H ls) : EqV K H 3 (.ref p) (.ref q) :=
  .inr (.inr (.inl ⟨p, q, _, _, rfl, rfl, sq_of hp, sq_of hq, refs_eq he hc hl⟩))
theorem dict_eq {p q : Addr} {kvs : List (Key × V)} (hp : H p = some (.dK kvs)) (hq : H q = some (.dK kvs)) (nd : (kvs.map (·.1)).Nodup) (hi : IntD kvs) : EqV K H 3 (.ref p) (.ref q) :=
  .inr (.inr (.inr ⟨p, q, kvs, kvs, rfl, rfl, hp, hq, rfl, fun kv m => ⟨kv.2, val_nodup nd kv m, .inl ⟨rfl, by
    obtain ⟨z, e⟩ := hi kv m
    rw [e]
    rfl⟩⟩⟩))
theorem putK_nd {kvs : List (Key × V)} (h : (kvs.map (·.1)).Nodup) (k : Key) (v : V) : ((putK kvs k v).map (·.1)).Nodup := by
  unfold putK
  split
  · rw [List.map_map]
    have e : kvs.map ((fun x : Key × V => x.1) ∘ fun kv => if kv.1 = k then (kv.1, v) else kv) = kvs.map (·.1) := by
      apply List.map_congr_left
      intro kv _
      show (if kv.1 = k then (kv.1, v) else kv).1 = kv.1
      split <;> rfl
    rw [e]
    exact h
  · rename_i hn
    rw [List.map_append]
    refine List.nodup_append.mpr ⟨h, by simp, fun a ha b hb z => hn ?_⟩
    obtain ⟨kv, m, rfl⟩ := List.mem_map.mp ha
    have hb' : b = k := by simpa using hb
    exact List.any_eq_true.mpr ⟨kv, m, decide_eq_true (z.trans hb')⟩
/-- a pair of two new things -/
theorem evx_tup2 {R1 : V → Hp → Prop} {R2' : V → V → Hp → Prop} (h1 : EvX ta σ H R1) (h2 : ∀ v1 H1, Ex H H1 → R1 v1 H1 → EvX tb σ H1 (R2' v1)) :
    EvX (tTup (tCons ta (tCons tb tNil))) σ H (fun v H' => ∃ (p : Addr) (v1 v2 : V), v = .ref p ∧ H p = none ∧ H' p = some (.tup [v1, v2]) ∧ ∃ H1 H2, Ex H H1 ∧ R1 v1 H1 ∧ Ex H1 H2 ∧ R2' v1 v2 H2 ∧ Ex H2 H') := fun H0 e Q q =>
  h1 H0 e _ fun v1 H1 e1 r1 => h2 v1 H1 (e.trans e1) r1 H1 (Ex.refl H1) _ fun v2 H2 e2 r2 => ⟨sz_of (by simp), fun p hp =>
    q (.ref p) _ ((e1.trans e2).trans (Ex.new hp)) ⟨p, v1, v2, rfl, fresh_back ((e.trans e1).trans e2) hp, upd_same, H1, H2, e.trans e1, r1, e2, r2, Ex.new hp⟩⟩
/-- .. [0].append(None), of something new -/
theorem q_appNew {l : Addr → List V → Prop} (h : EvX ta σ H (fun v H' => ∃ (p : Addr) (xs : List V), v = .ref p ∧ H p = none ∧ H' p = some (.lst xs) ∧ xs.length ≤ 90000)) (hv : ∀ H1, Ex H H1 → Ev te σ H1 v)
    (k : ∀ H1, Ex H H1 → tz D σ H1) : tSeq (tDrop (tBM K "list" rAppend ta (tCons te tNil))) tz D σ H := by
  refine h H (Ex.refl H) _ fun w H1 e1 r => ?_
  obtain ⟨p, xs, rfl, hp, h1, hz⟩ := r
  refine ⟨.inl ⟨rfl, xs, sq_of h1⟩, ?_⟩
  refine hv H1 e1 H1 (Ex.refl H1) _ fun H2 e2 => ?_
  exact ⟨p, xs, _, rfl, rfl, e2 p _ h1, sz_lt (by omega), k _ (Ex.mut (e1.trans e2) hp)⟩
theorem evx_sorted {xs : List Str} (h : EvL te σ H (xs.map V.str)) (hz : xs.length < 64) : EvX (tCB (rSortedS K) (tCons te tNil)) σ H
    (fun v H' => ∃ (p : Addr) (ys : List Str), v = .ref p ∧ H p = none ∧ TxL H' p ys ∧ ys.Perm xs ∧ sortedS ys = true) := fun H0 e Q q =>
  h H0 e _ fun a H1 ha e1 h1 => ⟨a, xs, rfl, sq_of h1, hz, fun ys p pe so hp => q _ _ (e1.trans (Ex.new hp)) ⟨p, ys, rfl, fresh_back (e.trans e1) hp, upd_same, pe, so⟩⟩
theorem ev_callN {Dd : Hp → List V → V → Prop} {E : XK} {tr : TA} {vs xs : List V} (h : EvL te σ H xs) (hr : EvA tr σ H vs) (hs : ∀ p H1, Ex H H1 → H1 p = some (.lst xs) → Dd H1 (.ref p :: vs) v) : Ev (tCall (SpVal Dd) [] E (tCons te tr)) σ H v := fun H1 e Q q =>
  h H1 e _ fun p H2 _ e2 hp => hr H2 (e.trans e2) _ fun H3 e3 => ⟨v, by rw [List.append_nil]; exact hs p H3 ((e.trans e2).trans e3) (e3 p _ hp), fun H4 e4 => q H4 ((e2.trans e3).trans e4)⟩
theorem ev_lenS {a : Str} {r : List V → Hp → VK → Prop} (ha : Ev ta σ H (.str a)) (hz : a.length ≤ 100000) (hr : r = (fun xs H Q => ∃ x, xs = [V.str x] ∧ x.length ≤ sizeLine ∧ Q (.int x.length) H) := by rfl) : Ev (tCB r (tCons ta tNil)) σ H (.int (a.length : Int)) := by
  subst hr
  exact fun H1 e Q q => ha H1 e _ fun H2 e2 => ⟨a, rfl, sz_of hz, q H2 e2⟩
/-- words and their weights -/
def WD (Pw : Str → Prop) (kvs : List (Key × V)) : Prop := ∀ kv ∈ kvs, ∃ u z, kv = (.inr u, .int z) ∧ Pw u ∧ 1 ≤ z ∧ z ≤ 1000000
theorem WD.int {Pw : Str → Prop} {kvs : List (Key × V)} (h : WD Pw kvs) : IntD kvs := fun kv m => by
  obtain ⟨u, z, rfl, _⟩ := h kv m
  exact ⟨z, rfl⟩
theorem lock_back {d : Addr} {o u : HO} (hd : H d = some o) (e : Ex (upd H d u) H') : Ex H (upd H' d o) := fun a x hx => by
  by_cases z : a = d
  · subst z
    rw [hd] at hx
    rw [upd_same]
    exact hx
  · rw [upd_ne z]
    exact e a x ((upd_ne z).trans hx)
/-- for k, v in d.items(), d locked -/
theorem s_forItems {td : TE} {d : Addr} {kvs : List (Key × V)} {i j : Nat} (hd : H d = some (.dK kvs)) (h : ∀ H1, Ev td σ H1 (.ref d)) (Pv : Nat → L2.St → Hp → Prop)
    (h0 : ∀ od H1, Ex (upd H d (.frz od (.dK kvs))) H1 → Pv 0 σ H1) (hl : ∀ od n σ' H', n ≤ kvs.length → Pv n σ' H' → Ex (upd H d (.frz od (.dK kvs))) H' → True)
    (hs : ∀ od n k x σ' H' H2, kvs[n]? = some (k, x) → Pv n σ' H' → Ex (upd H d (.frz od (.dK kvs))) H' → Ex H' H2 →
      tu { D with nx := fun σ3 H3 => Pv (n + 1) σ3 H3 ∧ Ex (upd H d (.frz od (.dK kvs))) H3, ct := fun σ3 H3 => Pv (n + 1) σ3 H3 ∧ Ex (upd H d (.frz od (.dK kvs))) H3, bk := fun σ' H' => H' d = some (.frz od (.dK kvs)) ∧ D.nx σ' (upd H' d (.dK kvs)), rt := fun v H' => H' d = some (.frz od (.dK kvs)) ∧ D.rt v (upd H' d (.dK kvs)) } ((σ'.set i (some (kV k))).set j (some x)) H2)
    (hdn : ∀ σ' H', Pv kvs.length σ' H' → Ex H (upd H' d (.dK kvs)) → D.nx σ' (upd H' d (.dK kvs))) :
    tLock (tFor (iItems td) (gTup K 2 (gCons (gName i) (gCons (gName j) gNil))) tu) D σ H := by
  refine ⟨d, .dK kvs, hd, True.intro, fun od => ?_⟩
  refine h _ _ (Ex.refl _) _ fun H1 e1 => ⟨d, od, kvs, rfl, e1 d _ upd_same, ?_⟩
  refine ⟨fun n m σ' H' => m = kvs.length - n ∧ n ≤ kvs.length ∧ Pv n σ' H' ∧ Ex (upd H d (.frz od (.dK kvs))) H', ⟨kvs.length, rfl, Nat.zero_le _, h0 od H1 e1, e1⟩, ?_⟩
  rintro n m σ' H' ⟨rfl, hn, p, e⟩
  have q := e d _ upd_same
  by_cases lt : n < kvs.length
  · refine .inr ⟨⟨q, lt⟩, fun σ3 H3 => Pv (n + 1) σ3 H3 ∧ Ex (upd H d (.frz od (.dK kvs))) H3, fun σ2 H2 p2 => ⟨kvs.length - (n + 1), by omega, rfl, lt, p2.1, p2.2⟩, fun x H2 y => ?_⟩
    obtain ⟨T, k, v, hk, rfl, hT, rfl⟩ := y
    exact ⟨T, [kV k, v], rfl, st_of upd_same, rfl, kV k, [v], rfl, v, [], rfl, rfl, hs od n k v σ' H' _ hk p e (Ex.new hT)⟩
  · have e2 : n = kvs.length := by omega
    subst e2
    exact .inl ⟨⟨q, Nat.le_refl _⟩, q, hdn σ' H' p (lock_back hd e)⟩
end
end MuK

namespace MuK
open PySem PySem.Spec PyProof.Rows L2 Evl
/-! ### words -/
def signsS : Str := "abcdefghijklmnopqrstuvwxyz0123456789."
def sgn (z : Int) : Nat := signsS.cps.toList.getD (z % 37).toNat 0
theorem signs_len : signsS.cps.toList.length = 37 := by decide +kernel
theorem signs_nd : signsS.cps.toList.Nodup := by decide +kernel
theorem sgn_inj {x y : Int} (h : sgn x = sgn y) : x % 37 = y % 37 := by
  have hx : (x % 37).toNat < 37 := by omega
  have hy : (y % 37).toNat < 37 := by omega
  unfold sgn at h
  rw [List.getD_eq_getElem?_getD, List.getD_eq_getElem?_getD, List.getElem?_eq_getElem (by rw [signs_len]; exact hx), List.getElem?_eq_getElem (by rw [signs_len]; exact hy)] at h
  have := (List.getElem_inj signs_nd).mp (show signsS.cps.toList[(x % 37).toNat]'(by rw [signs_len]; exact hx) = signsS.cps.toList[(y % 37).toNat]'(by rw [signs_len]; exact hy) from h)
  omega
theorem sgn_at (z : Int) : atI signsS.cps.toList (z % 37) = some (sgn z) := atI_mod (m := 37) 0 signs_len (by decide)
theorem sgn_in (z : Int) : sgn z ∈ signsS.cps.toList := by
  have h : (z % 37).toNat < signsS.cps.toList.length := by
    rw [signs_len]
    omega
  unfold sgn
  rw [List.getD_eq_getElem?_getD, List.getElem?_eq_getElem h]
  exact List.getElem_mem h
def WordOk (w : Str) : Prop := 1 ≤ w.length ∧ w.length ≤ 30 ∧ ∀ c ∈ w.cps.toList, c ∈ signsS.cps.toList
def TailOk (w : Str) : Prop := w.length ≤ 29 ∧ ∀ c ∈ w.cps.toList, c ∈ signsS.cps.toList
instance (w : Str) : Decidable (TailOk w) := inferInstanceAs (Decidable (_ ∧ _))
instance (w : Str) : Decidable (WordOk w) := inferInstanceAs (Decidable (_ ∧ _ ∧ _))
theorem tail_of {w : Str} {l : List Nat} (hz : l.length ≤ 29) (h : ∀ c ∈ l, c ∈ signsS.cps.toList) (e : w.cps.toList = l := by rfl) : TailOk w := by
  refine ⟨?_, fun c m => h c (e ▸ m)⟩
  show w.cps.size ≤ 29
  rw [← Array.length_toList, e]
  exact hz
theorem word_ok {c : Nat} {t : Str} (hc : c ∈ signsS.cps.toList) (h : TailOk t) : WordOk ((⟨#[c]⟩ : Str) ++ t) := by
  have e : ((⟨#[c]⟩ : Str) ++ t).cps.toList = c :: t.cps.toList := by
    show ((#[c] : Array Nat) ++ t.cps).toList = _
    simp
  have z : ((⟨#[c]⟩ : Str) ++ t).length = t.length + 1 := by
    show ((⟨#[c]⟩ : Str) ++ t).cps.size = t.cps.size + 1
    rw [← Array.length_toList, e, List.length_cons, Array.length_toList]
  refine ⟨by omega, by have := h.1; omega, fun x m => ?_⟩
  rw [e] at m
  rcases List.mem_cons.mp m with y | y
  · exact y ▸ hc
  · exact h.2 x y
theorem word_all {w : Str} (h : WordOk w) : (w.cps.toList.all fun c => decide (c ∈ signsS.cps.toList)) = true := List.all_eq_true.mpr fun c m => decide_eq_true (h.2.2 c m)
end MuK

namespace MuK
open PySem PySem.Spec PyProof.Rows L2 Evl
/-! ### what sets weigh -/
theorem wOf_bd {Pw : Str → Prop} {kvs : List (Key × V)} (h : WD Pw kvs) (a : Str) : 1 ≤ wOf kvs a ∧ wOf kvs a ≤ 1000000 := by
  unfold wOf
  cases e : valV kvs (.inr a) with
  | none => exact ⟨by decide, by decide⟩
  | some u =>
    unfold valV at e
    cases f : kvs.find? fun kv => decide (kv.1 = Sum.inr a) with
    | none =>
      rw [f] at e
      exact nomatch e
    | some kv =>
      rw [f] at e
      obtain ⟨x, z, rfl, _, z1, z2⟩ := h kv (List.mem_of_find?_eq_some f)
      obtain rfl : V.int z = u := Option.some.inj e
      exact ⟨z1, z2⟩
theorem heavy_bd {Pw : Str → Prop} {kvs : List (Key × V)} (h : WD Pw kvs) : ∀ ws : List Str, 0 ≤ heavy kvs ws ∧ heavy kvs ws ≤ 1000000 * ws.length
  | [] => ⟨Int.le_refl 0, by show (0 : Int) ≤ 1000000 * ((0 : Nat) : Int); decide⟩
  | a :: r => by
    have ih := heavy_bd h r
    have b := wOf_bd h a
    have e : heavy kvs (a :: r) = wOf kvs a + heavy kvs r := rfl
    rw [e, List.length_cons]
    omega
theorem heavy_sub {Pw : Str → Prop} {kvs : List (Key × V)} (h : WD Pw kvs) {us ws : List Str} (s : us.Sublist ws) : heavy kvs us ≤ heavy kvs ws := by
  induction s with
  | slnil => exact Int.le_refl _
  | cons a _ ih =>
    have b := wOf_bd h a
    show _ ≤ wOf kvs a + heavy kvs _
    omega
  | cons_cons a _ ih =>
    show wOf kvs a + heavy kvs _ ≤ wOf kvs a + heavy kvs _
    omega
theorem heavy_perm {kvs : List (Key × V)} {us ws : List Str} (p : us.Perm ws) : heavy kvs us = heavy kvs ws := by
  induction p with
  | nil => rfl
  | cons a _ ih =>
    show wOf kvs a + heavy kvs _ = wOf kvs a + heavy kvs _
    rw [ih]
  | swap a b l =>
    show wOf kvs b + (wOf kvs a + heavy kvs l) = wOf kvs a + (wOf kvs b + heavy kvs l)
    omega
  | trans _ _ i1 i2 => exact i1.trans i2
theorem heavy_le {Pw : Str → Prop} {kvs : List (Key × V)} (h : WD Pw kvs) : ∀ {us ws : List Str}, us.Nodup → (∀ u ∈ us, u ∈ ws) → heavy kvs us ≤ heavy kvs ws
  | [], ws, _, _ => (heavy_bd h ws).1
  | a :: r, ws, nd, s => by
    obtain ⟨n1, n2⟩ := List.nodup_cons.mp nd
    have pm := heavy_perm (kvs := kvs) (List.perm_cons_erase (s a List.mem_cons_self))
    have ih := heavy_le h (us := r) (ws := ws.erase a) n2 fun u hu => by
      have ne : u ≠ a := fun z => n1 (z ▸ hu)
      exact (List.mem_erase_of_ne ne).mpr (s u (List.mem_cons_of_mem _ hu))
    have e1 : heavy kvs (a :: r) = wOf kvs a + heavy kvs r := rfl
    have e2 : heavy kvs (a :: ws.erase a) = wOf kvs a + heavy kvs (ws.erase a) := rfl
    omega
theorem sok_of {Pw : Str → Prop} {kvs : List (Key × V)} (h : WD Pw kvs) {la lb : List Str} (na : la.Nodup) (za : la.length ≤ 60) (zb : lb.length ≤ 60) :
    SOk (heavy kvs la) (heavy kvs lb) (heavy kvs (la.filter fun u => decide (u ∈ lb))) := by
  have b1 := heavy_bd h la
  have b2 := heavy_bd h lb
  have b3 := heavy_bd h (la.filter fun u => decide (u ∈ lb))
  have l1 := heavy_sub h (List.filter_sublist (l := la) (p := fun u => decide (u ∈ lb)))
  have l2 := heavy_le h (us := la.filter fun u => decide (u ∈ lb)) (ws := lb) (na.filter _) fun u hu => of_decide_eq_true (List.mem_filter.mp hu).2
  have p : (60000000 : Int) ≤ 2 ^ 200 := by decide +kernel
  exact ⟨⟨b1.1, by omega, b2.1, by omega, b3.1, by omega⟩, l1, l2⟩
section
variable {K : PySem.W.Frag} {σ : L2.St} {H H' : Hp} {ta tb te : TE} {t u : TT} {x y z v : V} {D : Ends} {tu tw tz : TS} {R : V → Hp → Prop}
theorem q_unpX {i j : Nat} {R2 : V → V → Hp → Prop} (h : EvX te σ H (fun v H' => ∃ (t : Addr) (x y : V), v = .ref t ∧ SqT K H' t [x, y] ∧ R2 x y H'))
    (k : ∀ x y H1, Ex H H1 → R2 x y H1 → tz D ((σ.set i (some x)).set j (some y)) H1) : tSeq (tAsg te (gTup K 2 (gCons (gName i) (gCons (gName j) gNil)))) tz D σ H :=
  h H (Ex.refl H) _ fun v H1 e r => by
    obtain ⟨t, x, y, rfl, hq, r⟩ := r
    exact ⟨t, [x, y], rfl, hq, rfl, x, [y], rfl, y, [], rfl, rfl, k x y H1 e r⟩
end
end MuK

namespace MuK
open PySem PySem.Spec PyProof.Rows L2 Evl
/-! ### pairs of sets so much alike -/
/-- the pairs of the sets us that are so much alike, told from place i on, j on -/
def shareW (kd : Str) (kvs : List (Key × V)) (la lb : List Str) : Int × Int := shareM kd (heavy kvs la) (heavy kvs lb) (heavy kvs (la.filter fun u => decide (u ∈ lb)))
/-- a told pair stands at p -/
def PairAt (H : Hp) (p : Addr) (i j : Nat) (s : Int × Int) : Prop := ∃ q : Addr, H p = some (.tup [.int i, .int j, .ref q]) ∧ H q = some (.tup [.int s.1, .int s.2])
theorem PairAt.later {H H' : Hp} {p : Addr} {i j : Nat} {s : Int × Int} (h : PairAt H p i j s) (e : Ex H H') : PairAt H' p i j s := by
  obtain ⟨q, h1, h2⟩ := h
  exact ⟨q, e _ _ h1, e _ _ h2⟩
def reachB (s l : Int × Int) : Bool := decide (l.1 * s.2 ≤ s.1 * l.2)
/-- of row i, the places below m -/
def rowUp (kd : Str) (l : Int × Int) (kvs : List (Key × V)) (us : List (List Str)) (i m : Nat) : List (Nat × Nat) :=
  ((List.range m).filter fun j => decide (i < j) && reachB (shareW kd kvs (us.getD i []) (us.getD j [])) l).map fun j => (i, j)
/-- rows below n -/
def pairsUp (kd : Str) (l : Int × Int) (kvs : List (Key × V)) (us : List (List Str)) (n : Nat) : List (Nat × Nat) :=
  (List.range n).flatMap fun i => rowUp kd l kvs us i us.length
theorem rowUp_succ (kd : Str) (l : Int × Int) (kvs : List (Key × V)) (us : List (List Str)) (i m : Nat) :
    rowUp kd l kvs us i (m + 1) = rowUp kd l kvs us i m ++ (if (decide (i < m) && reachB (shareW kd kvs (us.getD i []) (us.getD m [])) l) = true then [(i, m)] else []) := by
  unfold rowUp
  rw [List.range_succ, List.filter_append, List.map_append, List.filter_cons]
  split <;> rfl
theorem rowUp_low (kd : Str) (l : Int × Int) (kvs : List (Key × V)) (us : List (List Str)) (i : Nat) : ∀ m, m ≤ i + 1 → rowUp kd l kvs us i m = []
  | 0, _ => rfl
  | m + 1, h => by
    rw [rowUp_succ, rowUp_low kd l kvs us i m (by omega), decide_eq_false (by omega)]
    rfl
theorem pairsUp_succ (kd : Str) (l : Int × Int) (kvs : List (Key × V)) (us : List (List Str)) (n : Nat) : pairsUp kd l kvs us (n + 1) = pairsUp kd l kvs us n ++ rowUp kd l kvs us n us.length := by
  unfold pairsUp
  rw [List.range_succ, List.flatMap_append]
  simp
theorem PairAt.stay {H : Hp} {l p : Addr} {xs : List V} {o : HO} {i j : Nat} {s : Int × Int} (hl : H l = some (.lst xs)) (h : PairAt H p i j s) : PairAt (upd H l o) p i j s := by
  obtain ⟨q, h1, h2⟩ := h
  have n1 : p ≠ l := fun z => by
    rw [z, hl] at h1
    exact nomatch h1
  have n2 : q ≠ l := fun z => by
    rw [z, hl] at h2
    exact nomatch h2
  exact ⟨q, (upd_ne n1).trans h1, (upd_ne n2).trans h2⟩
/-- the told pairs at p -/
def PairsAt (kd : Str) (l : Int × Int) (kvs : List (Key × V)) (us : List (List Str)) (ix : List (Nat × Nat)) (p : Addr) (H : Hp) : Prop :=
  ∃ tr : List (Addr × Nat × Nat), H p = some (.lst (tr.map fun x => V.ref x.1)) ∧ tr.map (·.2) = ix ∧ ∀ x ∈ tr, PairAt H x.1 x.2.1 x.2.2 (shareW kd kvs (us.getD x.2.1 []) (us.getD x.2.2 []))
theorem PairsAt.later {kd : Str} {l : Int × Int} {kvs : List (Key × V)} {us : List (List Str)} {ix : List (Nat × Nat)} {p : Addr} {H H' : Hp} (h : PairsAt kd l kvs us ix p H) (e : Ex H H') : PairsAt kd l kvs us ix p H' := by
  obtain ⟨tr, h1, h2, h3⟩ := h
  exact ⟨tr, e _ _ h1, h2, fun x m => (h3 x m).later e⟩
theorem PairsAt.add {kd : Str} {l : Int × Int} {kvs : List (Key × V)} {us : List (List Str)} {p a : Addr} {H : Hp} {i j : Nat} {tr : List (Addr × Nat × Nat)}
    (h1 : H p = some (.lst (tr.map fun x => V.ref x.1))) (h3 : ∀ x ∈ tr, PairAt H x.1 x.2.1 x.2.2 (shareW kd kvs (us.getD x.2.1 []) (us.getD x.2.2 [])))
    (ha : PairAt H a i j (shareW kd kvs (us.getD i []) (us.getD j []))) : PairsAt kd l kvs us (tr.map (·.2) ++ [(i, j)]) p (upd H p (.lst ((tr.map fun x => V.ref x.1) ++ [.ref a]))) := by
  refine ⟨tr ++ [(a, i, j)], ?_, ?_, fun x m => ?_⟩
  · rw [upd_same, List.map_append]
    rfl
  · rw [List.map_append]
    rfl
  · rcases List.mem_append.mp m with m | m
    · exact (h3 x m).stay h1
    · obtain rfl := List.mem_singleton.mp m
      exact ha.stay h1
theorem rowUp_len (kd : Str) (l : Int × Int) (kvs : List (Key × V)) (us : List (List Str)) (i m : Nat) : (rowUp kd l kvs us i m).length ≤ m := by
  unfold rowUp
  rw [List.length_map]
  have := List.length_filter_le (fun j => decide (i < j) && reachB (shareW kd kvs (us.getD i []) (us.getD j [])) l) (List.range m)
  rwa [List.length_range] at this
theorem pairsUp_len (kd : Str) (l : Int × Int) (kvs : List (Key × V)) (us : List (List Str)) : ∀ n, (pairsUp kd l kvs us n).length ≤ n * us.length
  | 0 => by simp [pairsUp]
  | n + 1 => by
    rw [pairsUp_succ, List.length_append, Nat.succ_mul]
    have := pairsUp_len kd l kvs us n
    have := rowUp_len kd l kvs us n us.length
    omega
theorem share_bd (kd : Str) {a b c : Int} (h : SOk a b c) : 0 ≤ (shareM kd a b c).1 ∧ (shareM kd a b c).1 ≤ 2 ^ 402 ∧ 0 ≤ (shareM kd a b c).2 ∧ (shareM kd a b c).2 ≤ 2 ^ 402 := by
  have fb := frac_bd kd h.f
  have p : (1 : Int) ≤ 2 ^ 402 := by decide +kernel
  unfold shareM
  split
  · exact ⟨Int.le_refl 0, by show (0 : Int) ≤ 2 ^ 402; omega, by decide, p⟩
  · have g0 : 0 ≤ gcdI (frac kd a b c).1 (frac kd a b c).2 := Int.natCast_nonneg _
    refine ⟨Int.ediv_nonneg fb.1 g0, Int.le_trans (Int.ediv_le_self _ fb.1) fb.2.1, Int.ediv_nonneg fb.2.2.1 g0, Int.le_trans (Int.ediv_le_self _ fb.2.2.1) fb.2.2.2⟩
/-- what both have, in the first one's turn -/
theorem both_is {cs os : List Str} : given cs.length (fun i => decide (cs.getD i "" ∈ os)) (fun i => .str (cs.getD i "")) = (cs.filter fun u => decide (u ∈ os)).map V.str := by
  have e : (List.range cs.length).map (fun i => cs.getD i "") = cs := by
    apply List.ext_getElem
    · simp
    · intro i h1 h2
      simp [List.getD_eq_getElem?_getD, h2]
  have f : ((List.range cs.length).filter fun i => decide (cs.getD i "" ∈ os)).map (fun i => cs.getD i "") = cs.filter fun u => decide (u ∈ os) := by
    conv => rhs; rw [← e]
    rw [List.filter_map]
    rfl
  unfold given
  rw [← f, List.map_map]
  rfl
theorem given_mapS (ws : List Str) (f : Str → Int) : given ws.length (fun _ => true) (fun i => .int (f (ws.getD i ""))) = (ws.map f).map V.int := by
  unfold given
  rw [List.filter_eq_self.mpr (fun _ _ => rfl)]
  apply List.ext_getElem
  · simp
  · intro i h1 h2
    simp at h1
    simp [List.getD_eq_getElem?_getD, h1]
section
variable {K : PySem.W.Frag} {σ : L2.St} {H H' : Hp} {ta tb te : TE}
theorem ev_sumL {ns : List Int} (h : EvL te σ H (ns.map V.int)) : Ev (tCB (rSum K) (tCons te tNil)) σ H (.int ns.sum) := fun H1 e Q q =>
  h H1 e _ fun p H2 _ e2 hp => ⟨p, ns, rfl, sq_of hp, q H2 e2⟩
end
/-- the told pairs as data -/
def pairD (kd : Str) (kvs : List (Key × V)) (us : List (List Str)) (x : Nat × Nat) : PyData := .tuple [.int x.1, .int x.2, .tuple [.int (shareW kd kvs (us.getD x.1 []) (us.getD x.2 [])).1, .int (shareW kd kvs (us.getD x.1 []) (us.getD x.2 [])).2]]
theorem pairs_lay (kd : Str) (kvs : List (Key × V)) (us : List (List Str)) : ∀ ix : List (Nat × Nat), PyData.canLayAll0 (ix.map (pairD kd kvs us)) = true ∧ PyData.depthAll (ix.map (pairD kd kvs us)) ≤ 2
  | [] => ⟨rfl, by show 0 ≤ 2; decide⟩
  | x :: r => by
    have ih := pairs_lay kd kvs us r
    have e1 : (pairD kd kvs us x).canLay0 = true := by simp [pairD, PyData.canLay0, PyData.canLayAll0]
    have e2 : (pairD kd kvs us x).depth = 2 := by simp [pairD, PyData.depth, PyData.depthAll]
    refine ⟨?_, ?_⟩
    · show PyData.canLayAll0 (pairD kd kvs us x :: r.map (pairD kd kvs us)) = true
      rw [PyData.canLayAll0, e1, ih.1]
      rfl
    · show PyData.depthAll (pairD kd kvs us x :: r.map (pairD kd kvs us)) ≤ 2
      rw [PyData.depthAll, e2]
      omega
theorem pairs_shaped (kd : Str) (kvs : List (Key × V)) (us : List (List Str)) (ix : List (Nat × Nat)) : SeqAt.shaped (.list (ix.map (pairD kd kvs us))) = true ∧ (PyData.list (ix.map (pairD kd kvs us))).canLay0 = true := by
  have h := pairs_lay kd kvs us ix
  have e : (PyData.list (ix.map (pairD kd kvs us))).canLay0 = true := by
    rw [PyData.canLay0]
    exact h.1
  refine ⟨?_, e⟩
  unfold SeqAt.shaped
  rw [e, PyData.depth]
  simp
  omega
theorem pairs_dp {K : PySem.W.Frag} {kd : Str} {l : Int × Int} {kvs : List (Key × V)} {us : List (List Str)} {ix : List (Nat × Nat)} {p : Addr} {H : Hp} (h : PairsAt kd l kvs us ix p H) : Dp K H (.ref p) (.list (ix.map (pairD kd kvs us))) := by
  obtain ⟨tr, h1, h2, h3⟩ := h
  refine .lst (sq_of h1) ?_
  rw [← h2]
  clear h1 h2
  induction tr with
  | nil => exact .nil
  | cons x r ih =>
    obtain ⟨q, a, b⟩ := h3 x List.mem_cons_self
    refine .cons (.tup (st_of a) (.cons (.int _) (.cons (.int _) (.cons (.tup (st_of b) (.cons (.int _) (.cons (.int _) .nil))) .nil)))) (ih fun y m => h3 y (List.mem_cons_of_mem _ m))
theorem ev_nePairs {K : PySem.W.Frag} {σ : L2.St} {H : Hp} {ta tb : TE} {kd : Str} {l : Int × Int} {kvs : List (Key × V)} {us : List (List Str)} {ix : List (Nat × Nat)} {R : V → Hp → Prop} {q : Addr}
    (ha : EvX ta σ H (fun v H' => ∃ p, v = .ref p ∧ PairsAt kd l kvs us ix p H')) (hb : ∀ H1, Ex H H1 → Ev tb σ H1 (.ref q)) (hq : PairsAt kd l kvs us ix q H) : Ev (tOp (rNeD K) ta tb) σ H (.bl false) := fun H1 e Q k =>
  ha H1 e _ fun v H2 e2 r => by
    obtain ⟨p, rfl, hp⟩ := r
    refine hb H2 (e.trans e2) H2 (Ex.refl H2) _ fun H3 e3 => ⟨_, _, pairs_dp (hp.later e3), pairs_dp (hq.later ((e.trans e2).trans e3)), (pairs_shaped kd kvs us ix).1, (pairs_shaped kd kvs us ix).1, ?_⟩
    rw [SeqAt.eqv_refl _ (pairs_shaped kd kvs us ix).2]
    exact k H3 (e2.trans e3)
theorem ev_neNilN {K : PySem.W.Frag} {σ : L2.St} {H : Hp} {ta tb : TE} {xs : List V} (ha : EvL ta σ H xs) (hb : EvL tb σ H []) : Ev (tOp (rNil K false) ta tb) σ H (.bl (!xs.isEmpty)) := fun H1 e Q q =>
  ha H1 e _ fun a H2 _ e2 h2 => hb H2 (e.trans e2) _ fun p H3 hp e3 h3 => ⟨a, p, xs, rfl, rfl, sq_of (e3 a _ h2), sq_of h3, by
    have z : (false == xs.isEmpty) = !xs.isEmpty := by cases xs.isEmpty <;> rfl
    rw [z]
    exact q H3 (e2.trans e3)⟩
section
variable {K : PySem.W.Frag} {σ : L2.St} {H H' : Hp} {ta tb tc td te : TE} {v v1 v2 v4 : V} {R R' : V → Hp → Prop}
theorem el_rep {xs : List V} {k : Int} (ha : EvL ta σ H xs) (hb : Ev tb σ H (.int k)) (h0 : 0 ≤ k) (h1 : k ≤ 1) (hz : xs.length ≤ 100000) : EvL (tOp rRep ta tb) σ H (List.replicate k.toNat xs).flatten := fun H1 e Q q =>
  ha H1 e _ fun p H2 hp e2 h2 => hb H2 (e.trans e2) _ fun H3 e3 => ⟨p, k, xs, rfl, rfl, e3 p _ h2, by omega, by omega, by
    have : k.toNat ≤ 1 := by omega
    have := Nat.mul_le_mul (Nat.le_refl xs.length) this
    exact sz_of (by omega), fun l hl => q l _ (fresh_back (e2.trans e3) hl) ((e2.trans e3).trans (Ex.new hl)) upd_same⟩
theorem evx_call3 {Dd : Hp → List V → (V → Hp → Prop) → Prop} {E : XK} (ha : Ev ta σ H v1) (hb : Ev tb σ H v2) (hc : EvX tc σ H R) (hd : ∀ H1, Ex H H1 → Ev td σ H1 v4)
    (hs : ∀ v3 H1 H2, Ex H H1 → R v3 H1 → Ex H1 H2 → ∃ R1, Dd H2 [v1, v2, v3, v4] R1 ∧ ∀ v H3, Ex H2 H3 → R1 v H3 → R' v H3) :
    EvX (tCall (SpR Dd) [] E (tCons ta (tCons tb (tCons tc (tCons td tNil))))) σ H R' := fun H0 e Q q =>
  ha H0 e _ fun H1 e1 => hb H1 (e.trans e1) _ fun H2 e2 => hc H2 ((e.trans e1).trans e2) _ fun v3 H3 e3 r => hd H3 (((e.trans e1).trans e2).trans e3) H3 (Ex.refl H3) _ fun H4 e4 => by
    obtain ⟨R1, d, k⟩ := hs v3 H3 H4 (((e.trans e1).trans e2).trans e3) r e4
    exact ⟨R1, by rw [List.append_nil]; exact d, fun v H5 e5 r5 => q v H5 ((((e1.trans e2).trans e3).trans e4).trans e5) (k v H5 e5 r5)⟩
theorem ev_call2X {Dd : Hp → List V → V → Prop} {E : XK} (ha : Ev ta σ H v1) (hb : EvX tb σ H R) (hs : ∀ v2 H1, Ex H H1 → R v2 H1 → Dd H1 [v1, v2] v) : Ev (tCall (SpVal Dd) [] E (tCons ta (tCons tb tNil))) σ H v := fun H0 e Q q =>
  ha H0 e _ fun H1 e1 => hb H1 (e.trans e1) _ fun v2 H2 e2 r => ⟨v, by rw [List.append_nil]; exact hs v2 H2 ((e.trans e1).trans e2) r, fun H3 e3 => q H3 ((e1.trans e2).trans e3)⟩
end
/-- one place of a list, or none -/
theorem cut_one {α : Type} {f : α → V} {xs : List α} {k : Nat} : ∃ ys : List α, cutV (xs.map f) (some (k : Int)) (some ((k : Int) + 1)) = ys.map f ∧ ys.Sublist xs ∧ ys.length ≤ 1 := by
  have e : ((k : Int) + 1) = ((k + 1 : Nat) : Int) := by omega
  rw [e]
  unfold cutV
  refine ⟨(xs.drop (min k xs.length)).take (min (k + 1) xs.length - min k xs.length), ?_, (List.take_sublist _ _).trans (List.drop_sublist _ _), ?_⟩
  · rw [HT.sIx_nat, HT.sIx_nat, List.length_map, ← List.map_drop, ← List.map_take]
  · rw [List.length_take]
    omega
end MuK

namespace MuK
open PySem PySem.Spec PyProof.Rows L2 Evl
/-! ### a hair more than a share -/
def aboveM (x y : Int) : Int × Int := ((x * (10 ^ 19 / y) + 1) / gcdI (x * (10 ^ 19 / y) + 1) (y * (10 ^ 19 / y)), y * (10 ^ 19 / y) / gcdI (x * (10 ^ 19 / y) + 1) (y * (10 ^ 19 / y)))
theorem scale_bd {x y : Int} (x0 : 0 < x) (xy : x < y) (y1 : y ≤ 10 ^ 18) : 0 < (10 : Int) ^ 19 / y ∧ (10 : Int) ^ 19 / y ≤ 10 ^ 19 ∧ (0 < y * (10 ^ 19 / y) ∧ y * (10 ^ 19 / y) ≤ 10 ^ 19) ∧ (0 < x * (10 ^ 19 / y) + 1 ∧ x * (10 ^ 19 / y) + 1 ≤ y * (10 ^ 19 / y)) := by
  have p : (10 : Int) ^ 18 * 10 = 10 ^ 19 := by decide +kernel
  have y0 : 0 < y := by omega
  have h0 : 1 ≤ (10 : Int) ^ 19 / y := (Int.le_ediv_iff_mul_le y0).mpr (by omega)
  have h1 : y * ((10 : Int) ^ 19 / y) ≤ 10 ^ 19 := Int.mul_ediv_self_le (by omega)
  have h2 : (10 : Int) ^ 19 / y ≤ 10 ^ 19 := Int.ediv_le_self _ (by decide)
  generalize (10 : Int) ^ 19 / y = s at h0 h1 h2
  have h3 : 0 < y * s := Int.mul_pos y0 (by omega)
  have h4 : 0 < x * s := Int.mul_pos x0 (by omega)
  have h5 : (x + 1) * s ≤ y * s := Int.mul_le_mul_of_nonneg_right (by omega) (by omega)
  rw [Int.add_mul, Int.one_mul] at h5
  exact ⟨by omega, h2, ⟨h3, h1⟩, by omega, by omega⟩
theorem above_ok {x y : Int} (x0 : 0 < x) (xy : x < y) (y1 : y ≤ 10 ^ 18) : LOk (aboveM x y).1 (aboveM x y).2 ∧ (aboveM x y).2 ≤ 10 ^ 36 := by
  obtain ⟨s0, s1, ⟨sy, sz⟩, sx, sw⟩ := scale_bd x0 xy y1
  unfold aboveM
  generalize x * (10 ^ 19 / y) + 1 = a at sx sw
  generalize y * (10 ^ 19 / y) = b at sy sz sw
  obtain ⟨g1, g2, g3⟩ := gcdI_div sx sy
  have g4 := div_gcd_le sx sw
  have g5 := div_gcd_le_self (a := a) sy
  have p : (10 : Int) ^ 19 ≤ 10 ^ 36 := by decide +kernel
  exact ⟨⟨g1, g4, g3⟩, by dsimp only; omega⟩
theorem share2_le (kd : Str) {a b c : Int} (h : SOk a b c) (ha : a ≤ 30000000) (hb : b ≤ 30000000) : (shareM kd a b c).2 ≤ 10 ^ 18 := by
  obtain ⟨⟨a0, _, b0, _, c0, _⟩, ca, cb⟩ := id h
  have m : a * b ≤ 30000000 * 30000000 := Int.mul_le_mul ha hb b0 (by decide)
  have fb : (frac kd a b c).2 ≤ 10 ^ 18 := by
    unfold frac
    split
    · dsimp only; omega
    · split
      · dsimp only; omega
      · split
        · dsimp only; omega
        · split
          · dsimp only; omega
          · dsimp only; omega
  have f0 := (frac_bd kd h.f).2.2.1
  unfold shareM
  split
  · decide
  · exact Int.le_trans (Int.ediv_le_self _ f0) fb
theorem share_pos {kd : Str} {a b c : Int} (c0 : 0 ≤ c) (h : 0 < (shareM kd a b c).1) : 0 < c := by
  rcases Int.lt_or_le 0 c with z | z
  · exact z
  · exfalso
    have c1 : c = 0 := by omega
    subst c1
    unfold shareM at h
    split at h
    · exact absurd h (by decide)
    · have f : (frac kd a b 0).1 = 0 := by
        unfold frac
        split
        · rfl
        · split
          · rfl
          · split
            · rfl
            · split
              · rfl
              · rfl
      rw [f] at h
      simp at h
end MuK

namespace MuK
open PySem PySem.Spec PyProof.Rows L2 Evl
/-! ### pairs of lots that are alike but for names, turns, more sets, other weights -/
theorem mem_rowUp {kd : Str} {l : Int × Int} {kvs : List (Key × V)} {us : List (List Str)} {i m : Nat} {x : Nat × Nat} :
    x ∈ rowUp kd l kvs us i m ↔ x.1 = i ∧ i < x.2 ∧ x.2 < m ∧ reachB (shareW kd kvs (us.getD i []) (us.getD x.2 [])) l = true := by
  unfold rowUp
  rw [List.mem_map]
  constructor
  · rintro ⟨j, hj, rfl⟩
    obtain ⟨h1, h2⟩ := List.mem_filter.mp hj
    rw [Bool.and_eq_true, decide_eq_true_eq] at h2
    exact ⟨rfl, h2.1, List.mem_range.mp h1, h2.2⟩
  · rintro ⟨rfl, h1, h2, h3⟩
    exact ⟨x.2, List.mem_filter.mpr ⟨List.mem_range.mpr h2, by rw [Bool.and_eq_true, decide_eq_true_eq]; exact ⟨h1, h3⟩⟩, rfl⟩
theorem mem_pairsUp {kd : Str} {l : Int × Int} {kvs : List (Key × V)} {us : List (List Str)} {n : Nat} {x : Nat × Nat} :
    x ∈ pairsUp kd l kvs us n ↔ x.1 < n ∧ x.1 < x.2 ∧ x.2 < us.length ∧ reachB (shareW kd kvs (us.getD x.1 []) (us.getD x.2 [])) l = true := by
  unfold pairsUp
  rw [List.mem_flatMap]
  constructor
  · rintro ⟨i, hi, hx⟩
    obtain ⟨rfl, h⟩ := mem_rowUp.mp hx
    exact ⟨List.mem_range.mp hi, h⟩
  · rintro ⟨h1, h⟩
    exact ⟨x.1, List.mem_range.mpr h1, mem_rowUp.mpr ⟨rfl, h⟩⟩
def ltP (x y : Nat × Nat) : Prop := x.1 < y.1 ∨ x.1 = y.1 ∧ x.2 < y.2
theorem rowUp_up (kd : Str) (l : Int × Int) (kvs : List (Key × V)) (us : List (List Str)) (i m : Nat) : (rowUp kd l kvs us i m).Pairwise ltP := by
  unfold rowUp
  rw [List.pairwise_map]
  exact (List.pairwise_lt_range.filter _).imp fun h => .inr ⟨rfl, h⟩
theorem pairsUp_up (kd : Str) (l : Int × Int) (kvs : List (Key × V)) (us : List (List Str)) : ∀ n, (pairsUp kd l kvs us n).Pairwise ltP
  | 0 => List.Pairwise.nil
  | n + 1 => by
    rw [pairsUp_succ, List.pairwise_append]
    refine ⟨pairsUp_up kd l kvs us n, rowUp_up .., fun x hx y hy => .inl ?_⟩
    have h1 := (mem_pairsUp.mp hx).1
    have h2 := (mem_rowUp.mp hy).1
    omega
theorem ltP_one : ∀ {a b : List (Nat × Nat)}, a.Pairwise ltP → b.Pairwise ltP → (∀ x, x ∈ a ↔ x ∈ b) → a = b
  | [], [], _, _, _ => rfl
  | [], y :: b, _, _, h => nomatch (h y).mpr List.mem_cons_self
  | x :: a, [], _, _, h => nomatch (h x).mp List.mem_cons_self
  | x :: a, y :: b, ha, hb, h => by
    obtain ⟨a1, a2⟩ := List.pairwise_cons.mp ha
    obtain ⟨b1, b2⟩ := List.pairwise_cons.mp hb
    have irr : ∀ {u v : Nat × Nat}, ltP u v → ltP v u → False := fun {u v} h k => by
      unfold ltP at h k
      omega
    have e : x = y := by
      rcases List.mem_cons.mp ((h x).mp List.mem_cons_self) with z | z
      · exact z
      · rcases List.mem_cons.mp ((h y).mpr List.mem_cons_self) with w | w
        · exact w.symm
        · exact (irr (b1 x z) (a1 y w)).elim
    subst e
    have self : ∀ {u : Nat × Nat}, ltP u u → False := fun h => irr h h
    rw [ltP_one a2 b2 fun u => ?_]
    have hu := h u
    rw [List.mem_cons, List.mem_cons] at hu
    constructor
    · intro z
      rcases hu.mp (.inr z) with rfl | w
      · exact (self (a1 _ z)).elim
      · exact w
    · intro z
      rcases hu.mpr (.inr z) with rfl | w
      · exact (self (b1 _ z)).elim
      · exact w
/-- the same shares, the same pairs -/
theorem pairs_same {kd : Str} {l : Int × Int} {kvs kv2 : List (Key × V)} {us us2 : List (List Str)} (hl : us2.length = us.length)
    (h : ∀ i j, i < j → j < us.length → shareW kd kv2 (us2.getD i []) (us2.getD j []) = shareW kd kvs (us.getD i []) (us.getD j [])) :
    pairsUp kd l kv2 us2 us2.length = pairsUp kd l kvs us us.length ∧ (pairsUp kd l kv2 us2 us2.length).map (pairD kd kv2 us2) = (pairsUp kd l kvs us us.length).map (pairD kd kvs us) := by
  have e : pairsUp kd l kv2 us2 us2.length = pairsUp kd l kvs us us.length := ltP_one (pairsUp_up ..) (pairsUp_up ..) fun x => by
    rw [mem_pairsUp, mem_pairsUp, hl]
    refine and_congr Iff.rfl (and_congr_right fun h1 => and_congr_right fun h2 => ?_)
    rw [h x.1 x.2 h1 h2]
  refine ⟨e, ?_⟩
  rw [e]
  refine List.map_congr_left fun x hx => ?_
  obtain ⟨_, h1, h2, _⟩ := mem_pairsUp.mp hx
  unfold pairD
  rw [h x.1 x.2 h1 h2]
/-! other names -/
theorem heavy_map {kvs kv2 : List (Key × V)} {rn : Str → Str} : ∀ {la : List Str}, (∀ a ∈ la, wOf kv2 (rn a) = wOf kvs a) → heavy kv2 (la.map rn) = heavy kvs la
  | [], _ => rfl
  | a :: r, h => by
    show wOf kv2 (rn a) + heavy kv2 (r.map rn) = wOf kvs a + heavy kvs r
    rw [h a List.mem_cons_self, heavy_map fun x hx => h x (List.mem_cons_of_mem _ hx)]
theorem share_named {kd : Str} {kvs kv2 : List (Key × V)} {rn : Str → Str} {pool la lb : List Str} (inj : ∀ a ∈ pool, ∀ b ∈ pool, rn a = rn b → a = b) (hw : ∀ a ∈ pool, wOf kv2 (rn a) = wOf kvs a) (ha : ∀ a ∈ la, a ∈ pool) (hb : ∀ a ∈ lb, a ∈ pool) :
    shareW kd kv2 (la.reverse.map rn) (lb.reverse.map rn) = shareW kd kvs la lb := by
  unfold shareW
  have e1 : heavy kv2 (la.reverse.map rn) = heavy kvs la := (heavy_map fun a m => hw a (ha a (List.mem_reverse.mp m))).trans (heavy_perm (List.reverse_perm la))
  have e2 : heavy kv2 (lb.reverse.map rn) = heavy kvs lb := (heavy_map fun a m => hw a (hb a (List.mem_reverse.mp m))).trans (heavy_perm (List.reverse_perm lb))
  have e3 : (la.reverse.map rn).filter (fun u => decide (u ∈ lb.reverse.map rn)) = (la.reverse.filter fun u => decide (u ∈ lb)).map rn := by
    rw [List.filter_map]
    congr 1
    refine List.filter_congr fun a m => ?_
    rw [Function.comp_apply, Bool.eq_iff_iff, decide_eq_true_eq, decide_eq_true_eq, List.mem_map]
    have pa := ha a (List.mem_reverse.mp m)
    constructor
    · rintro ⟨b, mb, e⟩
      have pb := List.mem_reverse.mp mb
      exact inj b (hb b pb) a pa e ▸ pb
    · intro mb
      exact ⟨a, List.mem_reverse.mpr mb, rfl⟩
  rw [e1, e2, e3, heavy_map fun a m => hw a (ha a (List.mem_reverse.mp (List.mem_filter.mp m).1)), List.filter_reverse, heavy_perm (List.reverse_perm _)]
theorem shareW_symm (kd : Str) (kvs : List (Key × V)) {la lb : List Str} (na : la.Nodup) (nb : lb.Nodup) : shareW kd kvs lb la = shareW kd kvs la lb := by
  unfold shareW
  rw [shareM_symm]
  congr 1
  refine heavy_perm ((List.perm_ext_iff_of_nodup (nb.filter _) (na.filter _)).mpr fun x => ?_)
  rw [List.mem_filter, List.mem_filter, decide_eq_true_eq, decide_eq_true_eq]
  exact And.comm
/-! one set more -/
theorem pairs_more {kd : Str} {l : Int × Int} {kvs : List (Key × V)} {us : List (List Str)} {w : List Str} :
    (pairsUp kd l kvs (us ++ [w]) (us ++ [w]).length).filter (fun x => decide (x.2 < us.length)) = pairsUp kd l kvs us us.length := by
  refine ltP_one ((pairsUp_up ..).filter _) (pairsUp_up ..) fun x => ?_
  rw [List.mem_filter, mem_pairsUp, mem_pairsUp, decide_eq_true_eq, List.length_append, List.length_singleton]
  have g : ∀ i, i < us.length → (us ++ [w]).getD i [] = us.getD i [] := fun i hi => by
    rw [List.getD_eq_getElem?_getD, List.getD_eq_getElem?_getD, List.getElem?_append_left hi]
  constructor
  · rintro ⟨⟨h1, h2, h3, h4⟩, h5⟩
    rw [g _ (by omega), g _ h5] at h4
    exact ⟨by omega, h2, h5, h4⟩
  · rintro ⟨h1, h2, h3, h4⟩
    refine ⟨⟨by omega, h2, by omega, ?_⟩, h3⟩
    rw [g _ h1, g _ h3]
    exact h4
/-! a greater least share -/
theorem pairs_less {kd : Str} {l l2 : Int × Int} {kvs : List (Key × V)} {us : List (List Str)} (h : ∀ i j, i < j → j < us.length → reachB (shareW kd kvs (us.getD i []) (us.getD j [])) l2 = true → reachB (shareW kd kvs (us.getD i []) (us.getD j [])) l = true) :
    (pairsUp kd l kvs us us.length).filter (fun x => reachB (shareW kd kvs (us.getD x.1 []) (us.getD x.2 [])) l2) = pairsUp kd l2 kvs us us.length := by
  refine ltP_one ((pairsUp_up ..).filter _) (pairsUp_up ..) fun x => ?_
  rw [List.mem_filter, mem_pairsUp, mem_pairsUp]
  constructor
  · rintro ⟨⟨h1, h2, h3, _⟩, h5⟩
    exact ⟨h1, h2, h3, h5⟩
  · rintro ⟨h1, h2, h3, h4⟩
    exact ⟨⟨h1, h2, h3, h _ _ h2 h3 h4⟩, h4⟩
theorem reach_mono {s l l2 : Int × Int} (s1 : 0 ≤ s.1) (s2 : 0 ≤ s.2) (b1 : 0 < l.2) (b2 : 0 < l2.2) (h : l.1 * l2.2 ≤ l2.1 * l.2) (k : reachB s l2 = true) : reachB s l = true := by
  unfold reachB at k ⊢
  rw [decide_eq_true_eq] at k ⊢
  -- l2.1 * s.2 ≤ s.1 * l2.2
  have e1 : l.1 * s.2 * l2.2 ≤ s.1 * l.2 * l2.2 := by
    have a1 : l.1 * l2.2 * s.2 ≤ l2.1 * l.2 * s.2 := Int.mul_le_mul_of_nonneg_right h s2
    have a2 : l2.1 * s.2 * l.2 ≤ s.1 * l2.2 * l.2 := Int.mul_le_mul_of_nonneg_right k (by omega)
    have r1 : l.1 * s.2 * l2.2 = l.1 * l2.2 * s.2 := by rw [Int.mul_right_comm]
    have r2 : l2.1 * l.2 * s.2 = l2.1 * s.2 * l.2 := by rw [Int.mul_right_comm]
    have r3 : s.1 * l2.2 * l.2 = s.1 * l.2 * l2.2 := by rw [Int.mul_right_comm]
    omega
  exact Int.le_of_mul_le_mul_right e1 b2
/-! all weights so many times as great -/
theorem gcd_scale (k a b : Nat) : Nat.gcd (k * a) (k * b) = k * Nat.gcd a b := Nat.gcd_mul_left k a b
theorem div_scale {k a b : Int} (hk : 0 < k) (ha : 0 ≤ a) (hb : 0 < b) : (k * a) / gcdI (k * a) (k * b) = a / gcdI a b ∧ (k * b) / gcdI (k * a) (k * b) = b / gcdI a b := by
  have g : gcdI (k * a) (k * b) = k * gcdI a b := by
    unfold gcdI
    rw [Int.natAbs_mul, Int.natAbs_mul, Nat.gcd_mul_left]
    have : (k.natAbs : Int) = k := by omega
    rw [Int.natCast_mul, this]
  rw [g]
  exact ⟨Int.mul_ediv_mul_of_pos _ _ hk, Int.mul_ediv_mul_of_pos _ _ hk⟩
theorem heavy_scale {kvs kv2 : List (Key × V)} {k : Int} : ∀ {la : List Str}, (∀ a ∈ la, wOf kv2 a = k * wOf kvs a) → heavy kv2 la = k * heavy kvs la
  | [], _ => by show (0 : Int) = k * 0; rw [Int.mul_zero]
  | a :: r, h => by
    show wOf kv2 a + heavy kv2 r = k * (wOf kvs a + heavy kvs r)
    rw [h a List.mem_cons_self, heavy_scale fun x hx => h x (List.mem_cons_of_mem _ hx), Int.mul_add]
end MuK

namespace MuTri
open PySem PySem.Spec PyProof.Rows L2 Evl MuK
/-! ### sorted of told pairs, whatever their shares -/
abbrev Tri := Addr × (Nat × Nat) × (Int × Int)
def triD (b : Tri) : PyData := .tuple [.int b.2.1.1, .int b.2.1.2, .tuple [.int b.2.2.1, .int b.2.2.2]]
section
variable {X : Cx} {pins : List (Addr × Obj)} {σ : L2.St} {H : Hp} {s : Shared}
theorem tri_reads (I : Inv X pins σ H s) {b : Tri} (h : PairAt H b.1 b.2.1.1 b.2.1.2 b.2.2) {h' : Heap} (k : ∀ c o, s.heap.get? c = some o → h'.get? c = some o) : Reads h' (.ref b.1) (triD b) [] := by
  obtain ⟨q, h1, h2⟩ := h
  obtain ⟨us, r1, ⟨o1, g1, c1, m1, d1⟩, _⟩ := I.tuple (st_of h1)
  obtain ⟨ws, r2, ⟨o2, g2, c2, m2, d2⟩, _⟩ := I.tuple (st_of h2)
  cases r1 with
  | cons a1 r1 =>
    cases r1 with
    | cons a2 r1 =>
      cases r1 with
      | cons a3 r1 =>
        cases r1
        cases r2 with
        | cons e1 r2 =>
          cases r2 with
          | cons e2 r2 =>
            cases r2
            obtain ⟨t1, rfl⟩ := a1
            obtain ⟨t2, rfl⟩ := a2
            cases a3
            obtain ⟨t3, rfl⟩ := e1
            obtain ⟨t4, rfl⟩ := e2
            have rq : Reads h' (.ref q) (.tuple [.int b.2.2.1, .int b.2.2.2]) [] := reads_tuple_at (k _ _ g2) c2 d2 (ReadsAll.cons (as := []) (bs := []) (.int _ _) (ReadsAll.cons (as := []) (bs := []) (.int _ _) .nil))
            exact reads_tuple_at (k _ _ g1) c1 d1 (ReadsAll.cons (as := []) (bs := []) (.int _ _) (ReadsAll.cons (as := []) (bs := []) (.int _ _) (ReadsAll.cons (as := []) (bs := []) rq .nil)))
theorem tri_alike (b c : Tri) : W.alike (triD b) (triD c) = true := by rfl
theorem tri_lt {b c : Tri} (ne : b.2.1 ≠ c.2.1) (h : W.dataLt (triD c) (triD b) = false) : ltP b.2.1 c.2.1 := by
  unfold triD at h
  rw [W.dataLt_tuple, W.dataLt_cons (by rfl), W.dataLt_cons (by rfl)] at h
  have e : ∀ x y : Int, (PyData.int x).eqv (PyData.int y) = decide (x = y) := fun x y => by
    rw [PyData.eqv]
    first | rfl | exact Bool.eq_iff_iff.mpr (by simp)
  rw [e, e, W.dataLt_int, W.dataLt_int] at h
  unfold ltP
  have ne2 : ¬ (b.2.1.1 = c.2.1.1 ∧ b.2.1.2 = c.2.1.2) := fun z => ne (Prod.ext z.1 z.2)
  by_cases c1 : (c.2.1.1 : Int) = b.2.1.1
  · rw [if_pos (decide_eq_true c1)] at h
    by_cases c2 : (c.2.1.2 : Int) = b.2.1.2
    · exact absurd ⟨by omega, by omega⟩ ne2
    · rw [if_neg (by rw [decide_eq_false c2]; decide)] at h
      have := of_decide_eq_false h
      omega
  · rw [if_neg (by rw [decide_eq_false c1]; decide)] at h
    have := of_decide_eq_false h
    omega
def rSortedTri (K : PySem.W.Frag) : List V → Hp → VK → Prop := fun vs H Q => ∃ (a : Addr) (bs : List Tri), vs = [.ref a] ∧ SqL K H a (bs.map fun b => V.ref b.1) ∧ bs.length ≤ 5000 ∧ (∀ b ∈ bs, PairAt H b.1 b.2.1.1 b.2.1.2 b.2.2) ∧ (bs.map (·.2.1)).Nodup ∧
  ∀ p (cs : List Tri), H p = none → cs.Perm bs → (cs.map (·.2.1)).Pairwise ltP → Q (.ref p) (upd H p (.lst (cs.map fun b => V.ref b.1)))
theorem each_refs : ∀ (bs : List Tri), W.EachIs (fun (v : Value) (b : Tri) => v = .ref b.1) (bs.map fun b => Value.ref b.1) bs
  | [] => .nil
  | _ :: r => .cons rfl (each_refs r)
theorem each_of {vs : List Value} {cs : List Tri} (h : W.EachIs (fun (v : Value) (b : Tri) => v = .ref b.1) vs cs) : vs = cs.map fun b => Value.ref b.1 := by
  induction h with
  | nil => rfl
  | cons h _ ih => rw [h, ih]; rfl
theorem vals_refs : ∀ {bs : List Tri} {us : List Value}, Vals (bs.map fun b => V.ref b.1) us → us = bs.map fun b => Value.ref b.1
  | [], _, .nil => rfl
  | _ :: _, _, .cons h r => by
    cases h
    rw [vals_refs r]
    rfl
theorem refs_vals : ∀ (bs : List Tri), Vals (bs.map fun b => V.ref b.1) (bs.map fun b => Value.ref b.1)
  | [] => .nil
  | _ :: r => .cons rfl (refs_vals r)
theorem cr_sortedTri (hu : X.A.units + 64 < cLine) : CallR X (.builtin "sorted") (rSortedTri X.K) := by
  intro pins s σ H vs us Q I r h
  obtain ⟨a, bs, rfl, hs, hz, hb, nd, q⟩ := h
  obtain ⟨its, rv, hl, _⟩ := I.list hs
  rw [Vals.ref1 r]
  obtain rfl := vals_refs rv
  refine Calls.call_function_entry kind_sorted plain_sorted entry_sorted (args_sorted1 _) ?_
  unfold Builtin.«sorted»
  refine wpAny_bind (m := checkCount "sorted" 1 1 _) (wpAny_pure ?_)
  refine wpAny_bind (collect_list hl.isList ?_ (by rw [List.length_map, sizeLine_eq]; omega))
  generalize hh : ((s.heap.push (seqObj "list" #[] 0)).update s.heap.objs.size (Obj.mapSeq fun x => x ++ (bs.map fun b => Value.ref b.1).toArray)) = h1
  have k1 : ∀ c o, s.heap.get? c = some o → h1.get? c = some o := fun c o e => by
    rw [← hh, (Heap.SameBut.update _ _ _).2 c (Nat.ne_of_lt (Heap.lt_size e))]
    exact Heap.get?_push_of_some _ e
  have z1 : s.heap.objs.size ≤ h1.objs.size := by
    rw [← hh, (Heap.SameBut.update _ _ _).1, size_push']
    exact Nat.le_succ _
  refine wpAny_bind (wpAny_newList ?_ (by rw [List.length_map, sizeLine_eq]; omega))
  have hoL : (h1.push (seqObj "list" (bs.map fun b => Value.ref b.1).toArray 0)).get? h1.objs.size = some (seqObj "list" (bs.map fun b => Value.ref b.1).toArray 0) := Heap.get?_push_size _ rfl
  have k2 : ∀ c o, s.heap.get? c = some o → (h1.push (seqObj "list" (bs.map fun b => Value.ref b.1).toArray 0)).get? c = some o := fun c o e => Heap.get?_push_of_some _ (k1 c o e)
  have each2 : ∀ (l : List Tri), (∀ b ∈ l, b ∈ bs) → W.EachIs (fun (v : Value) (b : Tri) => ∃ as, Reads (h1.push (seqObj "list" (bs.map fun b => Value.ref b.1).toArray 0)) v (triD b) as ∧ ¬ h1.objs.size ∈ as) (l.map fun b => Value.ref b.1) l := by
    intro l hl
    induction l with
    | nil => exact .nil
    | cons b r ih => exact .cons ⟨[], tri_reads I (hb b (hl b List.mem_cons_self)) k2, fun z => nomatch z⟩ (ih fun c hc => hl c (List.mem_cons_of_mem _ hc))
  refine wpAny_bind (wpAny_holding (W.list_sort_data (enc := triD) hoL (each_refs bs) (each2 bs fun _ h => h) (W.AllAlike.of tri_alike) (W.Sortable.tuples fun b => ⟨_, _, rfl⟩) (by rw [sizeLine_eq]; omega) (fun b _ => ?_) fun out hl2 ho => ?_))
  · have : (triD b).depth ≤ 2 := by
      simp [triD, PyData.depth, PyData.depthAll]
    show X.A.units + 1 + 1 + (triD b).depth < cLine
    omega
  · obtain rfl := each_of ho
    generalize hcs : bs.mergeSort (W.dataLe false triD) = cs at *
    have pm : cs.Perm bs := hcs ▸ List.mergeSort_perm _ _
    have TL := W.sortLe_total (listOrd itemOrd) false fun b => W.keyToks (triD b)
    have sr : cs.Pairwise fun b c => W.dataLe false triD b c = true := by
      rw [← hcs]
      exact List.pairwise_mergeSort TL.trans (fun a b => by rw [Bool.or_eq_true]; exact TL.total a b) bs
    obtain ⟨c, hg⟩ := sortedHeap_at (vs := bs.map fun b => Value.ref b.1) (out := (cs.map fun b => Value.ref b.1).toArray) hoL
    have hn : H h1.objs.size = none := I.hok.fresh z1
    have hl3 : (cs.map fun b => V.ref b.1).length ≤ sizeLine := by
      rw [List.length_map, pm.length_eq, sizeLine_eq]
      omega
    have up : (cs.map (·.2.1)).Pairwise ltP := by
      have nd2 : (cs.map (·.2.1)).Nodup := (pm.map _).nodup_iff.mpr nd
      rw [List.pairwise_map]
      unfold List.Nodup at nd2
      rw [List.pairwise_map] at nd2
      refine (List.Pairwise.and sr nd2).imp fun {b c} h => tri_lt h.2 ?_
      have := h.1
      rw [W.dataLe_eq] at this
      simpa using this
    refine wpAny_pure ⟨_, rfl, .ref _, _, ?_, rfl, q _ cs hn pm up⟩
    refine I.laid (t' := s.toks) (fun b u e => ?_) z1 ⟨hl3, (cs.map fun b => Value.ref b.1).toArray.toList, c, by simpa using refs_vals cs, hg⟩
    have z := k1 b u e
    have hlt := Heap.lt_size z
    rw [sortedHeap_old (Nat.ne_of_lt hlt) (by rw [size_push']; exact Nat.lt_succ_of_lt hlt)]
    exact Heap.get?_push_of_some _ z
end
end MuTri

namespace MuTri
open PySem PySem.Spec PyProof.Rows L2 Evl MuK
def rTupOf (K : PySem.W.Frag) : List V → Hp → VK → Prop := fun xs H Q => ∃ (p : Addr) (ys : List V), xs = [.ref p] ∧ ((SqL K H p ys ∧ ∀ l, H l = none → Q (.ref l) (upd H l (.tup ys))) ∨ (SqT K H p ys ∧ Q (.ref p) H))
section
variable {K : PySem.W.Frag} {σ : L2.St} {H H' : Hp} {ta tb te td ty tl tw : TE} {t u : TT} {x y z v : V} {D : Ends} {tu tz : TS} {R : V → Hp → Prop}
/-- [e for x in reversed(xs) if t] -/
theorem el_lcRev {tA : TA} {a : Addr} {xs : List V} {j : Nat} {vs : List Nat} (f : Nat → Bool) (v : Nat → V) (h : EvA tA σ H [.ref a]) (hx : SqL K H a xs) (hz : xs.length ≤ 40000)
    (hw : ∀ x, wipe ((wipe σ vs).set j (some x)) vs = wipe σ vs)
    (ht : ∀ (n : Nat) (x : V) H1, Ex H H1 → n < xs.length → xs[xs.length - 1 - n]? = some x → EvT t ((wipe σ vs).set j (some x)) H1 (f n))
    (he : ∀ (n : Nat) (x : V) H1, Ex H H1 → n < xs.length → xs[xs.length - 1 - n]? = some x → f n = true → Ev te ((wipe σ vs).set j (some x)) H1 (v n)) :
    EvL (tLc (iRev K tA) (gName j) t te vs) σ H (given xs.length f v) := fun H0 e Q q => by
  refine h H0 e _ fun H1 e1 => ⟨a, xs, rfl, ex_l (e.trans e1) hx, fun Dl hD => ?_⟩
  refine ⟨fun n m H' => m = xs.length - n ∧ n ≤ xs.length ∧ Cw H1 f v Dl n H', ⟨xs.length, rfl, Nat.zero_le _, hD, Ex.new hD, upd_same⟩, ?_⟩
  rintro n m H' ⟨rfl, hn, p⟩
  have hq := ex_l ((e.trans e1).trans p.2.1) hx
  by_cases lt : n < xs.length
  · have lt2 : xs.length - 1 - n < xs.length := by omega
    refine .inr ⟨⟨lt, xs, xs[xs.length - 1 - n], hq, List.getElem?_eq_getElem lt2⟩, fun H2 => Cw H1 f v Dl (n + 1) H2, fun H2 p2 => ⟨xs.length - (n + 1), by omega, rfl, lt, p2⟩, fun x H2 y => ?_⟩
    obtain ⟨rfl, hx2⟩ := y
    have hxn := hx2 xs hq
    exact ⟨hw _, cw_turn p (by omega) (ht n x H1 (e.trans e1) lt hxn) fun hf => he n x H1 (e.trans e1) lt hxn hf⟩
  · have e2 : n = xs.length := by omega
    subst e2
    exact .inl ⟨Nat.le_refl _, q Dl H' (fresh_back e1 p.1) (e1.trans p.2.1) p.2.2⟩
/-- for x, y in zip(e, ys), e a new list -/
theorem q_forZip {b : Addr} {i j : Nat} (h : EvX te σ H R) (hb : ∀ H1, Ex H H1 → Ev tw σ H1 (.ref b))
    (hk : ∀ v H1 H2, Ex H H1 → R v H1 → Ex H1 H2 → ∃ (a : Addr) (xs ys : List V) (Pv : Nat → L2.St → Hp → Prop), v = .ref a ∧ SqL K H2 a xs ∧ SqL K H2 b ys ∧ xs.length = ys.length ∧ Pv 0 σ H2 ∧ (∀ n σ' H', Pv n σ' H' → SqL K H' a xs ∧ SqL K H' b ys) ∧
      (∀ n x y σ' H' H2, xs[n]? = some x → ys[n]? = some y → Pv n σ' H' → Ex H' H2 → tu { D with nx := Pv (n + 1), ct := Pv (n + 1), bk := tz D } ((σ'.set i (some x)).set j (some y)) H2) ∧ (∀ σ' H', Pv xs.length σ' H' → tz D σ' H')) :
    tSeq (tFor (iZip K (tCons te (tCons tw tNil))) (gTup K 2 (gCons (gName i) (gCons (gName j) gNil))) tu) tz D σ H := by
  refine h H (Ex.refl H) _ fun v H1 e1 r => hb H1 e1 H1 (Ex.refl H1) _ fun H2 e2 => ?_
  obtain ⟨a, xs, ys, Pv, rfl, ha, hb2, hl, h0, hq, hs, hd⟩ := hk v H1 H2 e1 r e2
  refine ⟨a, b, xs, ys, rfl, ha, hb2, ?_⟩
  refine ⟨fun n m σ' H' => m = xs.length - n ∧ n ≤ xs.length ∧ Pv n σ' H', ⟨xs.length, rfl, Nat.zero_le _, h0⟩, ?_⟩
  rintro n m σ' H' ⟨rfl, hn, p⟩
  obtain ⟨q1, q2⟩ := hq n σ' H' p
  by_cases lt : n < xs.length
  · have lt2 : n < ys.length := by omega
    refine .inr ⟨⟨xs, ys, xs[n], ys[n], q1, q2, List.getElem?_eq_getElem lt, List.getElem?_eq_getElem lt2⟩, Pv (n + 1), fun σ2 H2 p2 => ⟨xs.length - (n + 1), by omega, rfl, lt, p2⟩, fun x H2 y => ?_⟩
    obtain ⟨T, x, y, rfl, hT, rfl, hx2, hy2⟩ := y
    exact ⟨T, [x, y], rfl, st_of upd_same, rfl, x, [y], rfl, y, [], rfl, rfl, hs n x y σ' H' _ (hx2 xs q1) (hy2 ys q2) p (Ex.new hT)⟩
  · have e2 : n = xs.length := by omega
    subst e2
    exact .inl ⟨⟨xs, ys, q1, q2, .inl (Nat.le_refl _)⟩, hd σ' H' p⟩
/-- for k in d.keys(), d locked -/
theorem s_forKeys {d : Addr} {kvs : List (Key × V)} {i : Nat} (hd : H d = some (.dK kvs)) (h : ∀ H1, Ev td σ H1 (.ref d)) (Pv : Nat → L2.St → Hp → Prop)
    (h0 : ∀ od H1, Ex (upd H d (.frz od (.dK kvs))) H1 → Pv 0 σ H1)
    (hs : ∀ od n k x σ' H' H2, kvs[n]? = some (k, x) → Pv n σ' H' → Ex (upd H d (.frz od (.dK kvs))) H' → Ex H' H2 →
      tu { D with nx := fun σ3 H3 => Pv (n + 1) σ3 H3 ∧ Ex (upd H d (.frz od (.dK kvs))) H3, ct := fun σ3 H3 => Pv (n + 1) σ3 H3 ∧ Ex (upd H d (.frz od (.dK kvs))) H3, bk := fun σ' H' => H' d = some (.frz od (.dK kvs)) ∧ D.nx σ' (upd H' d (.dK kvs)), rt := fun v H' => H' d = some (.frz od (.dK kvs)) ∧ D.rt v (upd H' d (.dK kvs)) } (σ'.set i (some (kV k))) H2)
    (hdn : ∀ σ' H', Pv kvs.length σ' H' → Ex H (upd H' d (.dK kvs)) → D.nx σ' (upd H' d (.dK kvs))) :
    tLock (tFor (iKeysM td) (gName i) tu) D σ H := by
  refine ⟨d, .dK kvs, hd, True.intro, fun od => ?_⟩
  refine h _ _ (Ex.refl _) _ fun H1 e1 => ⟨d, od, kvs, rfl, e1 d _ upd_same, ?_⟩
  refine ⟨fun n m σ' H' => m = kvs.length - n ∧ n ≤ kvs.length ∧ Pv n σ' H' ∧ Ex (upd H d (.frz od (.dK kvs))) H', ⟨kvs.length, rfl, Nat.zero_le _, h0 od H1 e1, e1⟩, ?_⟩
  rintro n m σ' H' ⟨rfl, hn, p, e⟩
  have q := e d _ upd_same
  by_cases lt : n < kvs.length
  · refine .inr ⟨⟨q, lt⟩, fun σ3 H3 => Pv (n + 1) σ3 H3 ∧ Ex (upd H d (.frz od (.dK kvs))) H3, fun σ2 H2 p2 => ⟨kvs.length - (n + 1), by omega, rfl, lt, p2.1, p2.2⟩, fun x H2 y => ?_⟩
    obtain ⟨rfl, k, v, hk, rfl⟩ := y
    exact hs od n k v σ' _ _ hk p e (Ex.refl _)
  · have e2 : n = kvs.length := by omega
    subst e2
    exact .inl ⟨⟨q, Nat.le_refl _⟩, q, hdn σ' H' p (lock_back hd e)⟩
theorem q_forKeys {d : Addr} {kvs : List (Key × V)} {i : Nat} (hd : H d = some (.dK kvs)) (h : ∀ H1, Ev td σ H1 (.ref d)) (Pv : Nat → L2.St → Hp → Prop)
    (h0 : ∀ od H1, Ex (upd H d (.frz od (.dK kvs))) H1 → Pv 0 σ H1)
    (hs : ∀ od n k x σ' H' H2, kvs[n]? = some (k, x) → Pv n σ' H' → Ex (upd H d (.frz od (.dK kvs))) H' → Ex H' H2 →
      tu { D with nx := fun σ3 H3 => Pv (n + 1) σ3 H3 ∧ Ex (upd H d (.frz od (.dK kvs))) H3, ct := fun σ3 H3 => Pv (n + 1) σ3 H3 ∧ Ex (upd H d (.frz od (.dK kvs))) H3, bk := fun σ' H' => H' d = some (.frz od (.dK kvs)) ∧ tz D σ' (upd H' d (.dK kvs)), rt := fun v H' => H' d = some (.frz od (.dK kvs)) ∧ D.rt v (upd H' d (.dK kvs)) } (σ'.set i (some (kV k))) H2)
    (hdn : ∀ σ' H', Pv kvs.length σ' H' → Ex H (upd H' d (.dK kvs)) → tz D σ' (upd H' d (.dK kvs))) :
    tSeq (tLock (tFor (iKeysM td) (gName i) tu)) tz D σ H := s_forKeys (D := { D with nx := tz D }) hd h Pv h0 hs hdn
/-- for k in d.keys(), d locked, other dicts changed -/
theorem q_forKeys2 {d : Addr} {kvs : List (Key × V)} {i : Nat} (hd : H d = some (.dK kvs)) (h : ∀ H1, Ev td σ H1 (.ref d)) (Pv : Obj → Nat → L2.St → Hp → Prop)
    (h0 : ∀ od H1, Ex (upd H d (.frz od (.dK kvs))) H1 → Pv od 0 σ H1) (hf : ∀ od n σ' H', Pv od n σ' H' → H' d = some (.frz od (.dK kvs)))
    (hs : ∀ od n k x σ' H', kvs[n]? = some (k, x) → Pv od n σ' H' → tu { D with nx := Pv od (n + 1), ct := Pv od (n + 1), bk := fun σ' H' => H' d = some (.frz od (.dK kvs)) ∧ tz D σ' (upd H' d (.dK kvs)), rt := fun v H' => H' d = some (.frz od (.dK kvs)) ∧ D.rt v (upd H' d (.dK kvs)) } (σ'.set i (some (kV k))) H')
    (hdn : ∀ od σ' H', Pv od kvs.length σ' H' → tz D σ' (upd H' d (.dK kvs))) :
    tSeq (tLock (tFor (iKeysM td) (gName i) tu)) tz D σ H := by
  refine ⟨d, .dK kvs, hd, True.intro, fun od => ?_⟩
  refine h _ _ (Ex.refl _) _ fun H1 e1 => ⟨d, od, kvs, rfl, e1 d _ upd_same, ?_⟩
  refine ⟨fun n m σ' H' => m = kvs.length - n ∧ n ≤ kvs.length ∧ Pv od n σ' H', ⟨kvs.length, rfl, Nat.zero_le _, h0 od H1 e1⟩, ?_⟩
  rintro n m σ' H' ⟨rfl, hn, p⟩
  have q := hf od n σ' H' p
  by_cases lt : n < kvs.length
  · refine .inr ⟨⟨q, lt⟩, Pv od (n + 1), fun σ2 H2 p2 => ⟨kvs.length - (n + 1), by omega, rfl, lt, p2⟩, fun x H2 y => ?_⟩
    obtain ⟨rfl, k, v, hk, rfl⟩ := y
    exact hs od n k v σ' _ hk p
  · have e2 : n = kvs.length := by omega
    subst e2
    exact .inl ⟨⟨q, Nat.le_refl _⟩, q, hdn od σ' H' p⟩
theorem q_unpX {i j : Nat} (h : EvX te σ H R) (k : ∀ v H1, Ex H H1 → R v H1 → ∃ (p : Addr) (x y : V), v = .ref p ∧ SqT K H1 p [x, y] ∧ tz D ((σ.set i (some x)).set j (some y)) H1) : tSeq (tAsg te (gTup K 2 (gCons (gName i) (gCons (gName j) gNil)))) tz D σ H :=
  h H (Ex.refl H) _ fun v H1 e r => by
    obtain ⟨p, x, y, rfl, hp, q⟩ := k v H1 e r
    exact ⟨p, [x, y], rfl, hp, rfl, x, [y], rfl, y, [], rfl, rfl, q⟩
/-- two lists of the same data -/
theorem ev_neX {RA RB : V → Hp → Prop} (ha : EvX ta σ H RA) (hb : ∀ v1 H1, Ex H H1 → RA v1 H1 → EvX tb σ H1 RB) (hd : ∀ v1 H1 v2 H2, Ex H H1 → RA v1 H1 → Ex H1 H2 → RB v2 H2 → ∃ d, Dp K H2 v1 d ∧ Dp K H2 v2 d ∧ SeqAt.shaped d = true ∧ d.canLay0 = true) : Ev (tOp (rNeD K) ta tb) σ H (.bl false) := fun H1 e Q k =>
  ha H1 e _ fun v1 H2 e2 r1 => hb v1 H2 (e.trans e2) r1 H2 (Ex.refl H2) _ fun v2 H3 e3 r2 => by
    obtain ⟨d, d1, d2, sh, cl⟩ := hd v1 H2 v2 H3 (e.trans e2) r1 e3 r2
    refine ⟨_, _, d1, d2, sh, sh, ?_⟩
    rw [SeqAt.eqv_refl _ cl]
    exact k H3 (e2.trans e3)
theorem ev_eqX {RA RB : V → Hp → Prop} (ha : EvX ta σ H RA) (hb : ∀ v1 H1, Ex H H1 → RA v1 H1 → EvX tb σ H1 RB) (hd : ∀ v1 H1 v2 H2, Ex H H1 → RA v1 H1 → Ex H1 H2 → RB v2 H2 → ∃ d, Dp K H2 v1 d ∧ Dp K H2 v2 d ∧ SeqAt.shaped d = true ∧ d.canLay0 = true) : Ev (tOp (rEqD K) ta tb) σ H (.bl true) := fun H1 e Q k =>
  ha H1 e _ fun v1 H2 e2 r1 => hb v1 H2 (e.trans e2) r1 H2 (Ex.refl H2) _ fun v2 H3 e3 r2 => by
    obtain ⟨d, d1, d2, sh, cl⟩ := hd v1 H2 v2 H3 (e.trans e2) r1 e3 r2
    refine ⟨_, _, d1, d2, sh, sh, ?_⟩
    rw [SeqAt.eqv_refl _ cl]
    exact k H3 (e2.trans e3)
/-- [tuple(..) + (s,) for i, j, s in bs], new pairs with the same shares -/
theorem evx_lcTri {a : Addr} {bs : List Tri} {F : Nat × Nat → Nat × Nat} {i j k : Nat} {vs : List Nat} (h : Ev tl σ H (.ref a)) (hx : SqL K H a (bs.map fun b => V.ref b.1)) (hz : bs.length ≤ 40000) (hb : ∀ b ∈ bs, PairAt H b.1 b.2.1.1 b.2.1.2 b.2.2)
    (hw : ∀ x y z, wipe ((((wipe σ vs).set i (some x)).set j (some y)).set k (some z)) vs = wipe σ vs)
    (he : ∀ b ∈ bs, ∀ (q : Addr) H1, Ex H H1 → EvX te ((((wipe σ vs).set i (some (.int b.2.1.1))).set j (some (.int b.2.1.2))).set k (some (.ref q))) H1 (fun v H' => ∃ c : Addr, v = .ref c ∧ H1 c = none ∧ H' c = some (.tup [.int (F b.2.1).1, .int (F b.2.1).2, .ref q]))) :
    EvX (tLc (iList K tl) (gTup K 3 (gCons (gName i) (gCons (gName j) (gCons (gName k) gNil)))) tYes te vs) σ H (fun v H' => ∃ (p : Addr) (cs : List Tri), v = .ref p ∧ H p = none ∧ H' p = some (.lst (cs.map fun c => V.ref c.1)) ∧ cs.map (·.2) = bs.map (fun b => (F b.2.1, b.2.2)) ∧ ∀ c ∈ cs, PairAt H' c.1 c.2.1.1 c.2.1.2 c.2.2) := fun H0 e Q q => by
  refine h H0 e _ fun H1 e1 => ⟨a, rfl, ⟨_, ex_l (e.trans e1) hx⟩, fun Dl hD => ?_⟩
  have e01 := e.trans e1
  refine lc_list (xs := bs.map fun b => V.ref b.1)
    (fun n H' => Ex H1 H' ∧ ∃ cs : List Tri, H' Dl = some (.lst (cs.map fun c => V.ref c.1)) ∧ cs.map (·.2) = (bs.take n).map (fun b => (F b.2.1, b.2.2)) ∧ ∀ c ∈ cs, PairAt H' c.1 c.2.1.1 c.2.1.2 c.2.2)
    ⟨Ex.new hD, [], upd_same, rfl, fun _ y => nomatch y⟩ (fun n H' _ p => ex_l (e01.trans p.1) hx) (fun n x H' hn p => ?_) (fun H' p => ?_)
  · obtain ⟨e2, cs, h2, hcs, hat⟩ := p
    obtain ⟨b, hbn, mb, rfl⟩ : ∃ b, bs[n]? = some b ∧ b ∈ bs ∧ x = .ref b.1 := by
      rw [List.getElem?_map] at hn
      cases y : bs[n]? with
      | none =>
        rw [y] at hn
        exact nomatch hn
      | some c =>
        rw [y] at hn
        exact ⟨c, rfl, List.mem_of_getElem? y, (Option.some.inj hn).symm⟩
    obtain ⟨s, hs1, hs2⟩ := (hb b mb).later (e01.trans e2)
    have zc : cs.length ≤ 40000 := by
      have := congrArg List.length hcs
      rw [List.length_map, List.length_map, List.length_take] at this
      omega
    refine ⟨b.1, _, rfl, st_of hs1, rfl, _, _, rfl, _, _, rfl, _, [], rfl, rfl, hw _ _ _, ?_⟩
    simp only [tYes, ↓reduceIte]
    refine he b mb s H' (e01.trans e2) H' (Ex.refl H') _ fun v H2 e3 r => ?_
    obtain ⟨c, rfl, hc, hct⟩ := r
    have h3 := e3 _ _ h2
    have cD : c ≠ Dl := fun z => by
      rw [z, h2] at hc
      exact nomatch hc
    have sD : s ≠ Dl := fun z => by
      rw [z, h2] at hs2
      exact nomatch hs2
    refine ⟨_, h3, sz_lt (by rw [List.length_map]; omega), Ex.mut (e2.trans e3) hD, cs ++ [(c, F b.2.1, b.2.2)], by rw [upd_same, List.map_append]; rfl, ?_, fun y hy => ?_⟩
    · rw [List.map_append, hcs, List.take_add_one, hbn, List.map_append]
      rfl
    · rcases List.mem_append.mp hy with hy | hy
      · exact ((hat y hy).later e3).stay h3
      · obtain rfl := List.mem_singleton.mp hy
        exact ⟨s, (upd_ne cD).trans hct, (upd_ne sD).trans (e3 _ _ hs2)⟩
  · obtain ⟨e2, cs, h2, hcs, hat⟩ := p
    rw [List.length_map, List.take_length] at hcs
    exact q _ _ (e1.trans e2) ⟨Dl, cs, rfl, fresh_back e01 hD, h2, hcs, hat⟩
/-- sorted(e), e a new list of told pairs -/
theorem evx_sortedTri {bs0 : List ((Nat × Nat) × (Int × Int))} (h : EvX te σ H (fun v H' => ∃ (p : Addr) (cs : List Tri), v = .ref p ∧ H p = none ∧ H' p = some (.lst (cs.map fun c => V.ref c.1)) ∧ cs.map (·.2) = bs0 ∧ ∀ c ∈ cs, PairAt H' c.1 c.2.1.1 c.2.1.2 c.2.2)) (hz : bs0.length ≤ 5000) (nd : (bs0.map (·.1)).Nodup) :
    EvX (tCB (rSortedTri K) (tCons te tNil)) σ H (fun v H' => ∃ (p : Addr) (cs : List Tri), v = .ref p ∧ H p = none ∧ H' p = some (.lst (cs.map fun c => V.ref c.1)) ∧ (cs.map (·.2)).Perm bs0 ∧ (cs.map (·.2.1)).Pairwise ltP ∧ ∀ c ∈ cs, PairAt H' c.1 c.2.1.1 c.2.1.2 c.2.2) := fun H1 e Q q =>
  h H1 e _ fun v H2 e2 r => by
    obtain ⟨p, cs, rfl, hp, hl, hcs, hat⟩ := r
    have zl : cs.length ≤ 5000 := by
      have := congrArg List.length hcs
      rw [List.length_map] at this
      omega
    refine ⟨p, cs, rfl, sq_of hl, zl, hat, ?_, fun r ds hr pm up => q _ _ (e2.trans (Ex.new hr)) ⟨r, ds, rfl, fresh_back (e.trans e2) hr, upd_same, ?_, up, fun c hc => ((hat c (pm.mem_iff.mp hc)).later (Ex.new hr))⟩⟩
    · have ee : cs.map (·.2.1) = (cs.map (·.2)).map (·.1) := by rw [List.map_map]; rfl
      rw [ee, hcs]
      exact nd
    · rw [← hcs]
      exact pm.map _
end
end MuTri

namespace MuBag
open PySem PySem.Spec PyProof.Rows L2 Evl MuK MuEq MeetsSeq MeetsSeq2 MeetsSeq3 PySem.SeqAt
/-! ### a new dict, from here on read only -/
def tFrz (t : TE) : TE := fun σ H Q => t σ H fun x H1 => ∃ (d : Addr) (u : HO), x = .ref d ∧ H1 d = some u ∧ Mut (some u) ∧ ∀ od, Q x (upd H1 d (.frz od u))
theorem pe_frz {X : Cx} {e : Expr} {t : TE} (h : PE X e t) : PE X e (tFrz t) := by
  refine ⟨fun pins s σ H Q I hw => ?_⟩
  refine thn (h.run pins s σ H _ I hw) fun v s1 ⟨x, H1, I1, r, d, u, ex, hd, mu, q⟩ => ?_
  obtain ⟨od, I2⟩ := I1.lock hd mu
  exact ⟨x, _, I2, r, q od⟩
/-! ### lists unequal: not where their items are equal -/
section
variable {P : Program} {w : World}
theorem ne_loop (l b : Addr) (xs ys : Array Value) (n m : Nat) (d e : Option Addr) (sx sy : Array (Option Value)) (hz : xs.size = ys.size) (k : Nat) :
    ∀ i : Nat, xs.size - i = k → MeetsIn P w (Builtin.«list.__eq__.loop» ⟨[.ref l, .ref b, rawInt i, rawInt 3], []⟩)
      (fun A R s => s.heap.get? l = some { cls := .type "list", dict := d, data := .seq xs n, slots := sx } ∧ s.heap.get? b = some { cls := .type "list", dict := e, data := .seq ys m, slots := sy } ∧
        (∀ j (h1 : j < xs.size) (h2 : j < ys.size), EqP P w A.in1 s xs[j] ys[j] true) ∧
        R (.ok (.ret (.bool false))) s) := by
  induction k with
  | zero =>
    intro i hk A R s h
    obtain ⟨hp, g, dr, tk, os⟩ := s; obtain ⟨hl, hb, he, h⟩ := h
    wp_walk using AutoSeq1.wpAny_loadPart' hl, AutoSeq1.wpAny_loadPart' hb
    have hi1 : xs[((i : Nat) : Int).toNat]? = none := by simp; omega
    have hi2 : ys[((i : Nat) : Int).toNat]? = none := by simp; omega
    rw [hi1, hi2]
    wp_walk using AutoSeq1.wpAny_loadPart' hl, AutoSeq1.wpAny_loadPart' hb
    show R (.ok (.ret (.bool (xs.size != ys.size)))) _
    rw [hz]
    simpa using h
  | succ k ih =>
    intro i hk A R s h
    obtain ⟨hp, g, dr, tk, os⟩ := s; obtain ⟨hl, hb, he, h⟩ := h
    wp_walk using AutoSeq1.wpAny_loadPart' hl, AutoSeq1.wpAny_loadPart' hb
    have hlt : i < xs.size := by omega
    have hlt2 : i < ys.size := by omega
    have hi1 : xs[((i : Nat) : Int).toNat]? = some xs[i] := by simp [hlt]
    have hi2 : ys[((i : Nat) : Int).toNat]? = some ys[i] := by simp [hlt2]
    have hc : ((i : Int) + 1) = ((i + 1 : Nat) : Int) := by push_cast; rfl
    rw [hi1, hi2]
    refine wpAny_bind (he i hlt hlt2 _ _ ?_)
    wp_walk
    rw [hc]
    exact ⟨plainId_quiet plain_eq_loop _, codeAny_builtin entry_eq_loop (by
      rw [Around.under_plainId plain_eq_loop _]
      exact ih (i + 1) (by omega) A R _ ⟨hl, hb, he, h⟩)⟩
theorem ne_lists (l b : Addr) (xs ys : Array Value) (n m : Nat) (d e : Option Addr) (sx sy : Array (Option Value)) (hz : xs.size = ys.size) :
    MeetsIn P w (Builtin.«list.__ne__» ⟨[.ref l, .ref b], []⟩)
      (fun A R s => s.heap.get? l = some { cls := .type "list", dict := d, data := .seq xs n, slots := sx } ∧ s.heap.get? b = some { cls := .type "list", dict := e, data := .seq ys m, slots := sy } ∧
        (∀ j (h1 : j < xs.size) (h2 : j < ys.size), EqP P w A.in1 s xs[j] ys[j] true) ∧
        R (.ok (.ret (.bool false))) s) := by
  intro A R s h
  obtain ⟨hp, g, dr, tk, os⟩ := s; obtain ⟨hl, hb, he, h⟩ := h
  have f3 := AutoSeq1.sub_list_list
  have hne : ¬ (xs.size != ys.size) = true := by simp [hz]
  wp_walk using AutoSeq1.wpAny_loadPart' hl, AutoSeq1.wpAny_loadPart' hb
  exact ⟨plainId_quiet plain_eq_loop _, codeAny_builtin entry_eq_loop (by
    rw [Around.under_plainId plain_eq_loop _]
    exact ne_loop l b xs ys n m d e sx sy hz _ 0 rfl A R _ ⟨hl, hb, he, h⟩)⟩
end
section
variable {X : Cx}
/-- two lists whose items are equal, held unequal -/
def rNeV (K : PySem.W.Frag) : R2 := fun x y H Q => ∃ (a b : Addr) (xs ys : List V) (n : Nat), x = .ref a ∧ y = .ref b ∧ SqL K H a xs ∧ SqL K H b ys ∧ n ≤ 50 ∧ Paired (EqV K H n) xs ys ∧ Q (.bl false) H
theorem op_neV (hu : X.A.units + 64 < cLine) : OpR X (compareOp .NotEq) (rNeV X.K) := by
  intro pins s σ H x y v u Q I rx ry h
  obtain ⟨a, b, xs, ys, n, rfl, rfl, ha, hb, hn, hp, q⟩ := h
  obtain rfl : v = Value.ref a := rx
  obtain rfl : u = Value.ref b := ry
  obtain ⟨us, r1, p1, _⟩ := I.list ha
  obtain ⟨ws, r2, p2, _⟩ := I.list hb
  have len : us.length = ws.length := by rw [← r1.length, ← r2.length]; exact Paired.length hp
  obtain ⟨⟨cls1, dd1, data1, sl1⟩, g1, c1, m1, d1⟩ := id p1.isList
  obtain ⟨⟨cls2, dd2, data2, sl2⟩, g2, c2, m2, d2⟩ := id p2.isList
  simp only at c1 d1 c2 d2
  subst c1 d1 c2 d2
  have ta : s.TypeIs (.ref a) "list" := ⟨_, g1, rfl⟩
  have tb : s.TypeIs (.ref b) "list" := ⟨_, g2, rfl⟩
  have items : ∀ j (h1 : j < us.toArray.size) (h2 : j < ws.toArray.size), EqP X.prog X.w X.A.in1 s us.toArray[j] ws.toArray[j] true := fun j h1 h2 => by
    have k := items_run (fun x y v u e rx ry => eqV_run I n X.A.in1 (by show X.A.units + 1 + n < cLine; omega) x y v u e rx ry) hp r1 r2 j (by simpa using h1) (by simpa using h2)
    simpa using k
  refine wpAny_richCompare_same_room (op := .NotEq) ta tb F.slot_list_ne (call_meetsIn F.slot_list_ne ta F.entry_list_ne (F.args_list_ne_2 _ _) (ne_lists a b us.toArray ws.toArray _ _ _ _ _ _ (by simpa using len)) ⟨g1, g2, items, ?_⟩) (by omega)
  exact ⟨fun z => (nomatch z), .bl false, H, I, rfl, q⟩
end
/-! ### readings -/
section
variable {K : PySem.W.Frag} {σ : L2.St} {H H' : Hp} {ta tb tc te td tl : TE} {t u : TT} {x y z v : V} {D : Ends} {tu tw tz : TS} {R : V → Hp → Prop}
theorem el_lcItemsN {kvs : List (Key × V)} {i j : Nat} {vs : List Nat} (v : Nat → V) (h : ∀ H1, Ex H H1 → EvX td σ H1 (fun x H' => ∃ d, x = .ref d ∧ H1 d = none ∧ H' d = some (.dK kvs))) (hz : kvs.length ≤ 40000)
    (hw : ∀ x y, wipe (((wipe σ vs).set i (some x)).set j (some y)) vs = wipe σ vs)
    (he : ∀ (n : Nat) (k : Key) (x : V) H1, Ex H H1 → kvs[n]? = some (k, x) → Ev te (((wipe σ vs).set i (some (kV k))).set j (some x)) H1 (v n)) :
    EvL (tLc (iItems (tFrz td)) (gTup K 2 (gCons (gName i) (gCons (gName j) gNil))) tYes te vs) σ H (given kvs.length (fun _ => true) v) := fun H0 e Q q => by
  refine h H0 e H0 (Ex.refl H0) _ fun x H1 e1 r => ?_
  obtain ⟨d, rfl, hd, h1⟩ := r
  refine ⟨d, .dK kvs, rfl, h1, True.intro, fun od => ?_⟩
  have e1' : Ex H0 (upd H1 d (.frz od (.dK kvs))) := Ex.mut e1 hd
  refine ⟨d, od, kvs, rfl, upd_same, fun Dl hD => ?_⟩
  refine ⟨fun n m H' => m = kvs.length - n ∧ n ≤ kvs.length ∧ Cw (upd H1 d (.frz od (.dK kvs))) (fun _ => true) v Dl n H', ⟨kvs.length, rfl, Nat.zero_le _, hD, Ex.new hD, upd_same⟩, ?_⟩
  rintro n m H' ⟨rfl, hn, p⟩
  have hq : H' d = some (.frz od (.dK kvs)) := p.2.1 d _ upd_same
  by_cases lt : n < kvs.length
  · refine .inr ⟨⟨hq, lt⟩, fun H2 => Cw (upd H1 d (.frz od (.dK kvs))) (fun _ => true) v Dl (n + 1) H2, fun H2 p2 => ⟨kvs.length - (n + 1), by omega, rfl, lt, p2⟩, fun x H2 y => ?_⟩
    obtain ⟨T, k, x, hk, rfl, hT, rfl⟩ := y
    refine ⟨T, [kV k, x], rfl, st_of upd_same, rfl, kV k, [x], rfl, x, [], rfl, rfl, hw _ _, ?_⟩
    exact cw_turn (MuK.Cw.later p (Ex.new hT)) (by omega) (fun H3 e3 Q q => q H3 (Ex.refl H3)) fun _ => he n k x _ (e.trans e1') hk
  · have e2 : n = kvs.length := by omega
    subst e2
    exact .inl ⟨⟨hq, Nat.le_refl _⟩, q Dl H' (fresh_back e1' p.1) (e1'.trans p.2.1) p.2.2⟩
/-- for k in d, d locked -/
theorem s_forKeysD {d : Addr} {kvs : List (Key × V)} {i : Nat} (hd : H d = some (.dK kvs)) (h : ∀ H1, Ev td σ H1 (.ref d)) (Pv : Obj → Nat → L2.St → Hp → Prop)
    (h0 : ∀ od H1, Ex (upd H d (.frz od (.dK kvs))) H1 → Pv od 0 σ H1)
    (hs : ∀ od n k x σ' H' H2, kvs[n]? = some (k, x) → Pv od n σ' H' → Ex (upd H d (.frz od (.dK kvs))) H' → Ex H' H2 →
      tu { D with nx := fun σ3 H3 => Pv od (n + 1) σ3 H3 ∧ Ex (upd H d (.frz od (.dK kvs))) H3, ct := fun σ3 H3 => Pv od (n + 1) σ3 H3 ∧ Ex (upd H d (.frz od (.dK kvs))) H3, bk := fun σ' H' => H' d = some (.frz od (.dK kvs)) ∧ D.nx σ' (upd H' d (.dK kvs)), rt := fun v H' => H' d = some (.frz od (.dK kvs)) ∧ D.rt v (upd H' d (.dK kvs)) } (σ'.set i (some (kV k))) H2)
    (hdn : ∀ od σ' H', Pv od kvs.length σ' H' → Ex H (upd H' d (.dK kvs)) → D.nx σ' (upd H' d (.dK kvs))) :
    tLock (tFor (iKeys td) (gName i) tu) D σ H := by
  refine ⟨d, .dK kvs, hd, True.intro, fun od => ?_⟩
  refine h _ _ (Ex.refl _) _ fun H1 e1 => ⟨d, od, rfl, .inl ⟨kvs, e1 d _ upd_same, ?_⟩⟩
  refine ⟨fun n m σ' H' => m = kvs.length - n ∧ n ≤ kvs.length ∧ Pv od n σ' H' ∧ Ex (upd H d (.frz od (.dK kvs))) H', ⟨kvs.length, rfl, Nat.zero_le _, h0 od H1 e1, e1⟩, ?_⟩
  rintro n m σ' H' ⟨rfl, hn, p, e⟩
  have q := e d _ upd_same
  by_cases lt : n < kvs.length
  · refine .inr ⟨⟨q, lt⟩, fun σ3 H3 => Pv od (n + 1) σ3 H3 ∧ Ex (upd H d (.frz od (.dK kvs))) H3, fun σ2 H2 p2 => ⟨kvs.length - (n + 1), by omega, rfl, lt, p2.1, p2.2⟩, fun x H2 y => ?_⟩
    obtain ⟨rfl, k, v, hk, rfl⟩ := y
    exact hs od n k v σ' _ _ hk p e (Ex.refl _)
  · have e2 : n = kvs.length := by omega
    subst e2
    exact .inl ⟨⟨q, Nat.le_refl _⟩, q, hdn od σ' H' p (lock_back hd e)⟩
theorem q_forKeysD {d : Addr} {kvs : List (Key × V)} {i : Nat} (hd : H d = some (.dK kvs)) (h : ∀ H1, Ev td σ H1 (.ref d)) (Pv : Obj → Nat → L2.St → Hp → Prop)
    (h0 : ∀ od H1, Ex (upd H d (.frz od (.dK kvs))) H1 → Pv od 0 σ H1)
    (hs : ∀ od n k x σ' H' H2, kvs[n]? = some (k, x) → Pv od n σ' H' → Ex (upd H d (.frz od (.dK kvs))) H' → Ex H' H2 →
      tu { D with nx := fun σ3 H3 => Pv od (n + 1) σ3 H3 ∧ Ex (upd H d (.frz od (.dK kvs))) H3, ct := fun σ3 H3 => Pv od (n + 1) σ3 H3 ∧ Ex (upd H d (.frz od (.dK kvs))) H3, bk := fun σ' H' => H' d = some (.frz od (.dK kvs)) ∧ tz D σ' (upd H' d (.dK kvs)), rt := fun v H' => H' d = some (.frz od (.dK kvs)) ∧ D.rt v (upd H' d (.dK kvs)) } (σ'.set i (some (kV k))) H2)
    (hdn : ∀ od σ' H', Pv od kvs.length σ' H' → Ex H (upd H' d (.dK kvs)) → tz D σ' (upd H' d (.dK kvs))) :
    tSeq (tLock (tFor (iKeys td) (gName i) tu)) tz D σ H := s_forKeysD (D := { D with nx := tz D }) hd h Pv h0 hs hdn
theorem evx_lst3 {R1 : V → Hp → Prop} {R2' : V → V → Hp → Prop} {R3 : V → V → V → Hp → Prop} (h1 : EvX ta σ H R1) (h2 : ∀ v1 H1, Ex H H1 → R1 v1 H1 → EvX tb σ H1 (R2' v1))
    (h3 : ∀ v1 v2 H1 H2, Ex H H1 → R1 v1 H1 → Ex H1 H2 → R2' v1 v2 H2 → EvX tc σ H2 (R3 v1 v2)) :
    EvX (tLst (tCons ta (tCons tb (tCons tc tNil)))) σ H (fun v H' => ∃ (p : Addr) (v1 v2 v3 : V), v = .ref p ∧ H p = none ∧ H' p = some (.lst [v1, v2, v3]) ∧ ∃ H1 H2 H3, Ex H H1 ∧ R1 v1 H1 ∧ Ex H1 H2 ∧ R2' v1 v2 H2 ∧ Ex H2 H3 ∧ R3 v1 v2 v3 H3 ∧ Ex H3 H') := fun H0 e Q q =>
  h1 H0 e _ fun v1 H1 e1 r1 => h2 v1 H1 (e.trans e1) r1 H1 (Ex.refl H1) _ fun v2 H2 e2 r2 => h3 v1 v2 H1 H2 (e.trans e1) r1 e2 r2 H2 (Ex.refl H2) _ fun v3 H3 e3 r3 => ⟨sz_of (by simp), fun p hp =>
    q (.ref p) _ (((e1.trans e2).trans e3).trans (Ex.new hp)) ⟨p, v1, v2, v3, rfl, fresh_back (((e.trans e1).trans e2).trans e3) hp, upd_same, H1, H2, H3, e.trans e1, r1, e2, r2, e3, r3, Ex.new hp⟩⟩
theorem el_rev {a : Addr} {xs : List V} (h : Ev te σ H (.ref a)) (hs : SqL K H a xs) : EvL (tRevL K te) σ H xs.reverse := fun H1 e Q q =>
  h H1 e _ fun H2 e2 => ⟨a, xs, rfl, ex_l (e.trans e2) hs, fun p hp => q p _ (fresh_back e2 hp) (e2.trans (Ex.new hp)) upd_same⟩
/-- arguments: two new lists, then others -/
theorem ev_callNN {Dd : Hp → List V → V → Prop} {E : XK} {tr : TA} {vs xs ys : List V} (h : EvL ta σ H xs) (h2 : EvL tb σ H ys) (hr : EvA tr σ H vs) (hs : ∀ p r H1, Ex H H1 → H1 p = some (.lst xs) → H1 r = some (.lst ys) → Dd H1 (.ref p :: .ref r :: vs) v) :
    Ev (tCall (SpVal Dd) [] E (tCons ta (tCons tb tr))) σ H v := fun H1 e Q q =>
  h H1 e _ fun p H2 _ e2 hp => h2 H2 (e.trans e2) _ fun r H3 _ e3 hr2 => hr H3 ((e.trans e2).trans e3) _ fun H4 e4 => ⟨v, by rw [List.append_nil]; exact hs p r H4 (((e.trans e2).trans e3).trans e4) ((e3.trans e4) p _ hp) (e4 r _ hr2), fun H5 e5 => q H5 (((e2.trans e3).trans e4).trans e5)⟩
/-- the second argument a new list -/
theorem eu_callN2 {Dd : Hp → List V → List V → Prop} {E : XK} {tr : TA} {v1 : V} {vs xs ys : List V} (h : Ev ta σ H v1) (h2 : EvL tb σ H xs) (hr : EvA tr σ H vs) (hs : ∀ p H1, Ex H H1 → H1 p = some (.lst xs) → Dd H1 (v1 :: .ref p :: vs) ys) :
    EvU (tCall (SpTup Dd) [] E (tCons ta (tCons tb tr))) σ H ys := fun H1 e Q q =>
  h H1 e _ fun H2 e2 => h2 H2 (e.trans e2) _ fun p H3 _ e3 hp => hr H3 ((e.trans e2).trans e3) _ fun H4 e4 => ⟨ys, by rw [List.append_nil]; exact hs p H4 (((e.trans e2).trans e3).trans e4) (e4 p _ hp), fun t H5 ht e5 h5 => q t H5 (fresh_back ((e2.trans e3).trans e4) ht) (((e2.trans e3).trans e4).trans e5) h5⟩
theorem ev_opU1 {r : R2} {xs : List V} (ha : EvU ta σ H xs) (hb : ∀ H1, Ex H H1 → Ev tb σ H1 y) (hr : ∀ p H1, H1 p = some (.tup xs) → Ex H H1 → RV r (.ref p) y H1 z) : Ev (tOp r ta tb) σ H z := fun H1 e Q q =>
  ha H1 e _ fun p H2 _ e2 hp => hb H2 (e.trans e2) H2 (Ex.refl H2) _ fun H3 e3 => hr p H3 (e3 p _ hp) ((e.trans e2).trans e3) H3 (Ex.refl H3) Q fun H4 e4 => q H4 ((e2.trans e3).trans e4)
theorem s_forX {g : TG} (h : EvX tl σ H R) (k : ∀ v H1, Ex H H1 → R v H1 → tFor (iList K (tC v)) g tu D σ H1) : tFor (iList K tl) g tu D σ H := h H (Ex.refl H) _ k
theorem q_forX {g : TG} (h : EvX tl σ H R) (k : ∀ v H1, Ex H H1 → R v H1 → tSeq (tFor (iList K (tC v)) g tu) tz D σ H1) : tSeq (tFor (iList K tl) g tu) tz D σ H := h H (Ex.refl H) _ k
theorem ev_neV {a : Addr} {xs ys : List V} {n : Nat} (ha : Ev ta σ H (.ref a)) (h1 : SqL K H a xs) (hb : EvL tb σ H ys) (hn : n ≤ 50) (e1 : ∀ H1, Ex H H1 → Paired (EqV K H1 n) xs ys) : Ev (tOp (rNeV K) ta tb) σ H (.bl false) :=
  ev_opL ha hb fun p H1 hp e H2 e3 Q q => ⟨a, p, xs, ys, n, rfl, rfl, ex_l (e.trans e3) h1, sq_of (e3 p _ hp), hn, e1 H2 (e.trans e3), q H2 (Ex.refl H2)⟩
theorem txl_eq {p q : Addr} {ws : List Str} {n : Nat} (hp : SqL K H p (ws.map V.str)) (hq : SqL K H q (ws.map V.str)) : EqV K H (n + 2) (.ref p) (.ref q) :=
  .inr (.inr (.inl ⟨p, q, _, _, rfl, rfl, hp, hq, texts_eq (n := n) ws⟩))
theorem dict_eqR {p q : Addr} {kvs : List (Key × V)} (hp : H p = some (.dK kvs)) (hq : H q = some (.dK kvs)) (nd : (kvs.map (·.1)).Nodup) (hi : IntD kvs) : EqV K H 3 (.ref p) (.ref q) := dict_eq hp hq nd hi
theorem atI_modS {ws : List Str} {n : Int} {m : Nat} {d : Str} (hm : ws.length = m) (h0 : 0 < m) : atI (ws.map V.str) (n % (m : Int)) = some (.str (ws.getD (n % (m : Int)).toNat d)) := by
  have h := atI_mod (xs := ws.map V.str) (n := n) (m := m) (.str d) (by rw [List.length_map]; exact hm) h0
  rw [h]
  congr 1
  rw [List.getD_eq_getElem?_getD, List.getD_eq_getElem?_getD, List.getElem?_map]
  cases ws[(n % (m : Int)).toNat]? <;> rfl
theorem ev_dgetF {ty : TE} {d : Addr} {k : Key} {kvs : List (Key × V)} (hd : Ev td σ H (.ref d)) (h : Rd H d (.dK kvs)) (hk : Ev ty σ H (kV k)) (hv : valV kvs k = some v) : Ev (tDGet td ty) σ H v := fun H1 e Q q =>
  hd H1 e _ fun H2 e2 => hk H2 (e.trans e2) _ fun H3 e3 => ⟨d, v, rfl, .inl ⟨kvs, k, ex_rd ((e.trans e2).trans e3) h, rfl, hv.symm⟩, q H3 (e2.trans e3)⟩
/-- d[k] = a new tuple -/
theorem q_dputU {ty tv : TE} {d : Addr} {kvs : List (Key × V)} {k : Key} {xs : List V} (hd : H d = some (.dK kvs)) (hz : kvs.length < 100000) (hv : EvU tv σ H xs) (ho : Ev td σ H (.ref d)) (hk : Ev ty σ H (kV k))
    (q : ∀ t H1, Ex H H1 → H t = none → H1 t = some (.tup xs) → tz D σ (upd H1 d (.dK (putK kvs k (.ref t))))) : tSeq (sDPut td ty tv) tz D σ H := by
  refine hv H (Ex.refl H) _ fun t H1 ht e1 h1 => ho H1 e1 _ fun H2 e2 => hk H2 (e1.trans e2) _ fun H3 e3 => ?_
  have e := (e1.trans e2).trans e3
  exact ⟨d, _, rfl, DPut.k (e d _ hd) (sz_lt hz), q t H3 e ht ((e2.trans e3) t _ h1)⟩
/-- {k: a new tuple, ..}, four of them -/
theorem evx_disp4 {k1 k2 k3 k4 : Str} {x1 x2 x3 x4 : List V} {t1 t2 t3 t4 : TE} (h1 : EvU t1 σ H x1) (h2 : EvU t2 σ H x2) (h3 : EvU t3 σ H x3) (h4 : EvU t4 σ H x4)
    (hm : ∀ a b c d : V, mergeK [] [((.inr k1 : Key), a), (.inr k2, b), (.inr k3, c), (.inr k4, d)] = [(.inr k1, a), (.inr k2, b), (.inr k3, c), (.inr k4, d)]) :
    EvX (tDisp [(tC (.str k1), t1), (tC (.str k2), t2), (tC (.str k3), t3), (tC (.str k4), t4)]) σ H (fun v H' => ∃ d p1 p2 p3 p4 : Addr, v = .ref d ∧ H d = none ∧ H' d = some (.dK [(.inr k1, .ref p1), (.inr k2, .ref p2), (.inr k3, .ref p3), (.inr k4, .ref p4)]) ∧ H' p1 = some (.tup x1) ∧ H' p2 = some (.tup x2) ∧ H' p3 = some (.tup x3) ∧ H' p4 = some (.tup x4)) := fun H0 e Q q p hp => by
  have n1 : Ex H0 (upd H0 p (.dK [])) := Ex.new hp
  have ne : ∀ {b : Addr} {o : HO} {H2 : Hp}, H2 b = some (.tup x1) ∨ H2 b = some (.tup x2) ∨ H2 b = some (.tup x3) ∨ H2 b = some (.tup x4) → H2 p = some (.dK []) → b ≠ p := fun h g z => by
    rw [z, g] at h
    rcases h with h | h | h | h <;> exact nomatch h
  refine h1 _ (e.trans n1) _ fun p1 H1 _ e1 g1 => h2 H1 ((e.trans n1).trans e1) _ fun p2 H2 _ e2 g2 => h3 H2 (((e.trans n1).trans e1).trans e2) _ fun p3 H3 _ e3 g3 => h4 H3 ((((e.trans n1).trans e1).trans e2).trans e3) _ fun p4 H4 _ e4 g4 => ?_
  have gp : H4 p = some (.dK []) := (((e1.trans e2).trans e3).trans e4) _ _ upd_same
  refine ⟨gp, [(.inr k1, .ref p1), (.inr k2, .ref p2), (.inr k3, .ref p3), (.inr k4, .ref p4)], rfl, (by show 4 ≤ 15; decide), ?_⟩
  rw [hm]
  have f1 := ((e2.trans e3).trans e4) _ _ g1
  have f2 := (e3.trans e4) _ _ g2
  have f3 := e4 _ _ g3
  exact q _ _ (Ex.mut ((((n1.trans e1).trans e2).trans e3).trans e4) hp) ⟨p, p1, p2, p3, p4, rfl, fresh_back e hp, upd_same, (upd_ne (ne (o := .dK []) (.inl f1) gp)).trans f1, (upd_ne (ne (o := .dK []) (.inr (.inl f2)) gp)).trans f2, (upd_ne (ne (o := .dK []) (.inr (.inr (.inl f3))) gp)).trans f3, (upd_ne (ne (o := .dK []) (.inr (.inr (.inr g4))) gp)).trans g4⟩
end
/-! ### words -/
def BagOk (u : Str) : Prop := WordOk u ∧ u.length ≤ 24
instance (w : Str) : Decidable (BagOk w) := inferInstanceAs (Decidable (_ ∧ _))
def w10 : List Str := ["a", "b", "ab", "ba", "a.1", "b.2", "1", "x.", "a.10", "zz9"]
def wordM (n : Int) : Str := if n / 10 % 9 = 4 then cutS (Txt.mul (w10.getD (n % 10).toNat "a") 24) none (some 24) else if n / 10 % 9 = 5 then (⟨#[sgn (n / 90)]⟩ : Str) ++ (⟨#[sgn (n / 3330)]⟩ : Str) else w10.getD (n % 10).toNat "a"
theorem wordM_ok (n : Int) : BagOk (wordM n) := by
  unfold wordM
  split
  · exact getDP (P := fun u : Str => BagOk (cutS (Txt.mul u 24) none (some 24))) (by decide +kernel) (by decide +kernel) _
  · split
    · refine ⟨word_ok (sgn_in _) (tail_of (l := [sgn (n / 3330)]) (by show 1 ≤ 29; decide) fun c m => ?_), ?_⟩
      · obtain rfl := List.mem_singleton.mp m
        exact sgn_in _
      · show ((#[sgn (n / 90)] : Array Nat) ++ #[sgn (n / 3330)]).size ≤ 24
        simp
    · exact getDP (P := fun u : Str => BagOk u) (by decide +kernel) (by decide +kernel) _
/-! ### how often each comes -/
def firsts (ws : List Str) : List Str := ws.foldl (fun ks u => if u ∈ ks then ks else ks ++ [u]) []
theorem firsts_app (ws : List Str) (u : Str) : firsts (ws ++ [u]) = if u ∈ firsts ws then firsts ws else firsts ws ++ [u] := by
  unfold firsts
  rw [List.foldl_append]
  rfl
theorem snoc_ind {α : Type} {C : List α → Prop} (h0 : C []) (h1 : ∀ l a, C l → C (l ++ [a])) : ∀ l, C l := by
  have k : ∀ n (l : List α), l.length = n → C l := by
    intro n
    induction n with
    | zero =>
      intro l hl
      rw [List.length_eq_zero_iff.mp hl]
      exact h0
    | succ n ih =>
      intro l hl
      have ne : l ≠ [] := fun z => by
        rw [z] at hl
        exact nomatch hl
      rw [← List.dropLast_concat_getLast ne]
      exact h1 _ _ (ih _ (by rw [List.length_dropLast]; omega))
  exact fun l => k l.length l rfl
theorem firsts_spec (ws : List Str) : (firsts ws).Nodup ∧ ∀ u, u ∈ firsts ws ↔ u ∈ ws := by
  refine snoc_ind (C := fun ws => (firsts ws).Nodup ∧ ∀ u, u ∈ firsts ws ↔ u ∈ ws) ⟨List.nodup_nil, fun u => Iff.rfl⟩ (fun l a ih => ?_) ws
  obtain ⟨nd, m⟩ := ih
  rw [firsts_app]
  by_cases c : a ∈ firsts l
  · rw [if_pos c]
    refine ⟨nd, fun u => ?_⟩
    rw [m, List.mem_append, List.mem_singleton]
    refine ⟨.inl, fun h => ?_⟩
    rcases h with h | rfl
    · exact h
    · exact (m _).mp c
  · rw [if_neg c]
    refine ⟨List.nodup_append.mpr ⟨nd, by simp, fun x hx y hy z => ?_⟩, fun u => ?_⟩
    · rw [List.mem_singleton] at hy
      exact c (hy ▸ z ▸ hx)
    · rw [List.mem_append, List.mem_append, m]
theorem firsts_len (ws : List Str) : (firsts ws).length ≤ ws.length := nodup_len (firsts_spec ws).1 fun j h => ((firsts_spec ws).2 j).mp h
def cntD (ws : List Str) : List (Key × V) := (firsts ws).map fun u => (Sum.inr u, V.int (ws.count u))
theorem val_ks {g : Str → V} : ∀ {ks : List Str} {a : Str}, valV (ks.map fun u => ((Sum.inr u : Key), g u)) (.inr a) = if a ∈ ks then some (g a) else none
  | [], a => rfl
  | b :: r, a => by
    unfold valV
    rw [List.map_cons, List.find?_cons]
    by_cases c : b = a
    · subst c
      simp
    · have ne : ¬ ((Sum.inr b : Key) = Sum.inr a) := fun z => c (Sum.inr.inj z)
      rw [decide_eq_false ne]
      have := val_ks (g := g) (ks := r) (a := a)
      unfold valV at this
      show Option.map _ _ = _
      rw [this]
      have : (a ∈ b :: r) ↔ a ∈ r := by
        rw [List.mem_cons]
        exact ⟨fun h => h.elim (fun z => absurd z.symm c) id, .inr⟩
      simp only [this]
theorem val_cnt (ws : List Str) (a : Str) : (valV (cntD ws) (.inr a)).getD (.int 0) = .int (ws.count a) := by
  unfold cntD
  rw [val_ks (g := fun u => V.int (ws.count u))]
  split
  · rfl
  · rename_i h
    rw [(firsts_spec ws).2] at h
    rw [List.count_eq_zero.mpr h]
    rfl
theorem cnt_put (ws : List Str) (a : Str) : putK (cntD ws) (.inr a) (.int ((ws.count a : Int) + 1)) = cntD (ws ++ [a]) := by
  unfold cntD
  rw [firsts_app]
  have hc : ∀ u, ((ws ++ [a]).count u : Int) = ws.count u + (if a = u then 1 else 0) := fun u => by
    rw [List.count_append, List.count_singleton]
    by_cases c : a = u
    · subst c
      simp
    · rw [if_neg c, show (a == u) = false from beq_false_of_ne c]
      simp
  unfold putK
  by_cases c : a ∈ firsts ws
  · rw [if_pos c, if_pos (by
      rw [List.any_eq_true]
      exact ⟨_, List.mem_map.mpr ⟨a, c, rfl⟩, decide_eq_true rfl⟩), List.map_map]
    refine List.map_congr_left fun u hu => ?_
    rw [Function.comp_apply]
    by_cases d : a = u
    · subst d
      rw [if_pos rfl, hc, if_pos rfl]
    · rw [if_neg (fun z => d (Sum.inr.inj z).symm), hc, if_neg d, Int.add_zero]
  · have ca : ws.count a = 0 := List.count_eq_zero.mpr fun h => c (((firsts_spec ws).2 a).mpr h)
    rw [if_neg c, if_neg (by
      rw [Bool.not_eq_true, List.any_eq_false]
      intro kv m e
      obtain ⟨u, hu, rfl⟩ := List.mem_map.mp m
      exact c ((Sum.inr.inj (of_decide_eq_true e)) ▸ hu)), List.map_append]
    congr 1
    · refine List.map_congr_left fun u hu => ?_
      rw [hc, if_neg (fun z : a = u => c (by rw [z]; exact hu)), Int.add_zero]
    · show [((Sum.inr a : Key), V.int ((ws.count a : Int) + 1))] = [((Sum.inr a : Key), V.int ((ws ++ [a]).count a))]
      rw [hc, if_pos rfl]
theorem cnt_len (ws : List Str) : (cntD ws).length ≤ ws.length := by
  unfold cntD
  rw [List.length_map]
  exact firsts_len ws
/-! ### what bags have in common -/
def comT (kvs : List (Key × V)) (one other : List Str) (u : Str) : Int := wOf kvs u * min (one.count u : Int) (other.count u : Int)
def comM (kvs : List (Key × V)) (one other : List Str) : Int := ((firsts one).map (comT kvs one other)).sum
theorem sum_perm {f : Str → Int} {us ws : List Str} (p : us.Perm ws) : (us.map f).sum = (ws.map f).sum := by
  induction p with
  | nil => rfl
  | cons x _ ih => simp only [List.map_cons, List.sum_cons, ih]
  | swap x y l => simp only [List.map_cons, List.sum_cons]; omega
  | trans _ _ h1 h2 => exact h1.trans h2
theorem sum_filter {f : Str → Int} {p : Str → Bool} : ∀ {us : List Str}, (∀ u ∈ us, p u = false → f u = 0) → ((us.filter p).map f).sum = (us.map f).sum
  | [], _ => rfl
  | a :: r, h => by
    have ih := sum_filter (f := f) (p := p) (us := r) fun u hu => h u (List.mem_cons_of_mem _ hu)
    by_cases c : p a = true
    · rw [List.filter_cons_of_pos c, List.map_cons, List.map_cons, List.sum_cons, List.sum_cons, ih]
    · rw [List.filter_cons_of_neg c, ih, List.map_cons, List.sum_cons, h a List.mem_cons_self (Bool.not_eq_true _ ▸ c), Int.zero_add]
theorem sum_same {f : Str → Int} {us ws : List Str} (n1 : us.Nodup) (n2 : ws.Nodup) (h1 : ∀ u ∈ us, u ∉ ws → f u = 0) (h2 : ∀ u ∈ ws, u ∉ us → f u = 0) : (us.map f).sum = (ws.map f).sum := by
  rw [← sum_filter (us := us) (p := fun u => decide (u ∈ ws)) fun u hu e => h1 u hu (of_decide_eq_false e), ← sum_filter (us := ws) (p := fun u => decide (u ∈ us)) fun u hu e => h2 u hu (of_decide_eq_false e)]
  refine sum_perm ((List.perm_ext_iff_of_nodup (n1.filter _) (n2.filter _)).mpr fun u => ?_)
  rw [List.mem_filter, List.mem_filter, decide_eq_true_eq, decide_eq_true_eq]
  exact And.comm
theorem comT_symm (kvs : List (Key × V)) (one other : List Str) : comT kvs other one = comT kvs one other := funext fun u => by
  unfold comT
  rw [Int.min_comm]
theorem comT_zero {kvs : List (Key × V)} {one other : List Str} {u : Str} (h : u ∉ one ∨ u ∉ other) : comT kvs one other u = 0 := by
  unfold comT
  rcases h with h | h
  · rw [List.count_eq_zero.mpr h]
    rw [show min ((0 : Nat) : Int) (other.count u : Int) = 0 by omega, Int.mul_zero]
  · rw [List.count_eq_zero.mpr h]
    rw [show min (one.count u : Int) ((0 : Nat) : Int) = 0 by omega, Int.mul_zero]
theorem comM_symm (kvs : List (Key × V)) (one other : List Str) : comM kvs other one = comM kvs one other := by
  unfold comM
  rw [comT_symm]
  refine sum_same (firsts_spec _).1 (firsts_spec _).1 (fun u _ h => comT_zero (.inl fun z => h (((firsts_spec _).2 u).mpr z))) fun u _ h => comT_zero (.inr fun z => h (((firsts_spec _).2 u).mpr z))
theorem comM_perm {kvs : List (Key × V)} {one one2 other other2 : List Str} (p : one2.Perm one) (r : other2.Perm other) : comM kvs one2 other2 = comM kvs one other := by
  unfold comM
  have e : comT kvs one2 other2 = comT kvs one other := funext fun u => by
    unfold comT
    rw [p.count_eq, r.count_eq]
  rw [e]
  refine sum_perm ((List.perm_ext_iff_of_nodup (firsts_spec _).1 (firsts_spec _).1).mpr fun u => ?_)
  rw [(firsts_spec _).2, (firsts_spec _).2, p.mem_iff]
theorem sum_le {f g : Str → Int} : ∀ {us : List Str}, (∀ u ∈ us, f u ≤ g u) → (us.map f).sum ≤ (us.map g).sum
  | [], _ => Int.le_refl _
  | a :: r, h => by
    have ih := sum_le (f := f) (g := g) (us := r) fun u hu => h u (List.mem_cons_of_mem _ hu)
    have := h a List.mem_cons_self
    simp only [List.map_cons, List.sum_cons]
    omega
theorem sum_bd {f : Str → Int} {B : Int} : ∀ {us : List Str}, (∀ u ∈ us, 0 ≤ f u ∧ f u ≤ B) → 0 ≤ (us.map f).sum ∧ (us.map f).sum ≤ B * us.length
  | [], _ => by simp
  | a :: r, h => by
    obtain ⟨i1, i2⟩ := sum_bd (f := f) (B := B) (us := r) fun u hu => h u (List.mem_cons_of_mem _ hu)
    obtain ⟨j1, j2⟩ := h a List.mem_cons_self
    simp only [List.map_cons, List.sum_cons, List.length_cons]
    refine ⟨by omega, ?_⟩
    have : B * ((r.length + 1 : Nat) : Int) = B * (r.length : Int) + B := by
      rw [show ((r.length + 1 : Nat) : Int) = (r.length : Int) + 1 by omega, Int.mul_add, Int.mul_one]
    omega
theorem comT_bd {Pw : Str → Prop} {kvs : List (Key × V)} (h : WD Pw kvs) {one other : List Str} (z : one.length ≤ 60) (u : Str) : 0 ≤ comT kvs one other u ∧ comT kvs one other u ≤ 60000000 := by
  unfold comT
  obtain ⟨w1, w2⟩ := wOf_bd h u
  have c1 : one.count u ≤ one.length := List.count_le_length
  have m0 : 0 ≤ min (one.count u : Int) (other.count u : Int) := by omega
  have m1 : min (one.count u : Int) (other.count u : Int) ≤ 60 := by omega
  generalize min (one.count u : Int) (other.count u : Int) = m at m0 m1
  refine ⟨Int.mul_nonneg (by omega) m0, Int.le_trans (Int.mul_le_mul w2 m1 m0 (by omega)) (by decide)⟩
theorem comM_bd {Pw : Str → Prop} {kvs : List (Key × V)} (h : WD Pw kvs) {one other : List Str} (z : one.length ≤ 60) : 0 ≤ comM kvs one other ∧ comM kvs one other ≤ 3600000000 := by
  obtain ⟨a, b⟩ := sum_bd (f := comT kvs one other) (B := 60000000) (us := firsts one) fun u _ => comT_bd h z u
  have := firsts_len one
  refine ⟨a, Int.le_trans b ?_⟩
  omega
theorem comM_le {Pw : Str → Prop} {kvs : List (Key × V)} (h : WD Pw kvs) (one other : List Str) : comM kvs one other ≤ comM kvs one one := by
  unfold comM
  refine sum_le fun u _ => ?_
  unfold comT
  obtain ⟨w1, w2⟩ := wOf_bd h u
  exact Int.mul_le_mul_of_nonneg_left (by omega) (by omega)
theorem comM_sok {Pw : Str → Prop} {kvs : List (Key × V)} (h : WD Pw kvs) {one other : List Str} (z1 : one.length ≤ 60) (z2 : other.length ≤ 60) : SOk (comM kvs one one) (comM kvs other other) (comM kvs one other) := by
  obtain ⟨a0, a1⟩ := comM_bd h (other := one) z1
  obtain ⟨b0, b1⟩ := comM_bd h (other := other) z2
  obtain ⟨c0, c1⟩ := comM_bd h (other := other) z1
  have l1 := comM_le h one other
  have l2 := comM_le h other one
  rw [comM_symm] at l2
  refine ⟨⟨a0, Int.le_trans a1 (by decide), b0, Int.le_trans b1 (by decide), c0, by omega⟩, l1, l2⟩
theorem putK_wd {Pw : Str → Prop} {kvs : List (Key × V)} (h : WD Pw kvs) {b : Str} {z : Int} (hb : Pw b) (h1 : 1 ≤ z) (h2 : z ≤ 1000000) : WD Pw (putK kvs (.inr b) (.int z)) := by
  unfold putK
  split
  · intro kv m
    obtain ⟨x, hx, e⟩ := List.mem_map.mp m
    obtain ⟨u, y, rfl, r⟩ := h x hx
    by_cases c : (Sum.inr u : Key) = .inr b
    · rw [if_pos c] at e
      exact ⟨u, z, e.symm, r.1, h1, h2⟩
    · rw [if_neg c] at e
      exact ⟨u, y, e.symm, r⟩
  · intro kv m
    rcases List.mem_append.mp m with m | m
    · exact h kv m
    · obtain rfl := List.mem_singleton.mp m
      exact ⟨b, z, rfl, hb, h1, h2⟩
theorem putK_len (kvs : List (Key × V)) (k : Key) (v : V) : (putK kvs k v).length ≤ kvs.length + 1 := by
  unfold putK
  split
  · rw [List.length_map]; omega
  · rw [List.length_append]; exact Nat.le_refl _
/-- what a list of copies holds -/
def HandedAt (K : PySem.W.Frag) (H : Hp) (ph : Addr) (la lb : List Str) (kvs : List (Key × V)) : Prop := ∃ p1 p2 d3 : Addr, H ph = some (.lst [.ref p1, .ref p2, .ref d3]) ∧ H p1 = some (.lst (la.map V.str)) ∧ H p2 = some (.lst (lb.map V.str)) ∧ H d3 = some (.dK kvs)
theorem HandedAt.later {K : PySem.W.Frag} {H H' : Hp} {ph : Addr} {la lb : List Str} {kvs : List (Key × V)} (h : HandedAt K H ph la lb kvs) (e : Ex H H') : HandedAt K H' ph la lb kvs := by
  obtain ⟨p1, p2, d3, a, b, c, d⟩ := h
  exact ⟨p1, p2, d3, e _ _ a, e _ _ b, e _ _ c, e _ _ d⟩
theorem handed_evx {K : PySem.W.Frag} {σ : L2.St} {H : Hp} {a b d : Addr} {la lb : List Str} {kvs : List (Key × V)} {ta tb tc : TE} (ha : Ev ta σ H (.ref a)) (hb : Ev tb σ H (.ref b)) (hc : Ev tc σ H (.ref d)) (h1 : SqL K H a (la.map V.str)) (h2 : SqL K H b (lb.map V.str)) (h3 : H d = some (.dK kvs)) :
    EvX (tLst (tCons (tCB (rListS K) (tCons ta tNil)) (tCons (tCB (rListS K) (tCons tb tNil)) (tCons (tCB (fun xs H Q => ∃ (a : Addr) (kvs : List (Key × V)), xs = [.ref a] ∧ Rd H a (.dK kvs) ∧ ∀ p, H p = none → Q (.ref p) (upd H p (.dK kvs))) (tCons tc tNil)) tNil)))) σ H (fun v H' => ∃ ph, v = .ref ph ∧ HandedAt K H' ph la lb kvs) := by
  refine evx_mono (evx_lst3 (R1 := fun v H' => ∃ p1, v = .ref p1 ∧ H' p1 = some (.lst (la.map V.str))) (R2' := fun _ v H' => ∃ p2, v = .ref p2 ∧ H' p2 = some (.lst (lb.map V.str))) (R3 := fun _ _ v H' => ∃ d3, v = .ref d3 ∧ H' d3 = some (.dK kvs)) (fun H1 e1 Q q => el_list ha h1 H1 e1 _ fun p H2 _ e2 hp => q _ _ e2 ⟨p, rfl, hp⟩) (fun v1 H1 e1 _ H2 e2 Q q => el_list (hb.mono (e1.trans e2)) (ex_l (e1.trans e2) h2) H2 (Ex.refl H2) _ fun p H3 _ e3 hp => q _ _ e3 ⟨p, rfl, hp⟩)
    (fun v1 v2 H1 H2 e1 _ e2 _ H3 e3 Q q => (hc.mono ((e1.trans e2).trans e3)) H3 (Ex.refl H3) _ fun H4 e4 => ⟨d, kvs, rfl, .inl ((((e1.trans e2).trans e3).trans e4) _ _ h3), fun p hp => q _ _ (e4.trans (Ex.new hp)) ⟨p, rfl, upd_same⟩⟩)) fun v H1 e1 r => ?_
  obtain ⟨ph, v1, v2, v3, rfl, _, hph, H2, H3, H4, _, ⟨p1, rfl, g1⟩, e3, ⟨p2, rfl, g2⟩, e4, ⟨d3, rfl, g3⟩, e5⟩ := r
  exact ⟨ph, rfl, p1, p2, d3, hph, ((e3.trans e4).trans e5) _ _ g1, (e4.trans e5) _ _ g2, e5 _ _ g3⟩
theorem handed_ne {K : PySem.W.Frag} {σ : L2.St} {H : Hp} {ph a b d : Addr} {la lb : List Str} {kvs : List (Key × V)} {th ta tb tc : TE} (hh : Ev th σ H (.ref ph)) (ha : Ev ta σ H (.ref a)) (hb : Ev tb σ H (.ref b)) (hc : Ev tc σ H (.ref d)) (h0 : HandedAt K H ph la lb kvs) (h1 : SqL K H a (la.map V.str)) (h2 : SqL K H b (lb.map V.str)) (h3 : H d = some (.dK kvs)) (nd : (kvs.map (·.1)).Nodup) (hi : IntD kvs) :
    Ev (tOp (rNeV K) th (tLst (tCons ta (tCons tb (tCons tc tNil))))) σ H (.bl false) := by
  obtain ⟨p1, p2, d3, g0, g1, g2, g3⟩ := h0
  exact ev_neV (xs := [.ref p1, .ref p2, .ref d3]) (ys := [.ref a, .ref b, .ref d]) (n := 3) hh (sq_of g0) (el_lst (ea_cons ha (ea_cons hb (ea_cons hc ea_nil))) (by simp)) (by decide) fun H1 e => .cons (txl_eq (n := 1) (sq_of (e _ _ g1)) (ex_l e h1)) (.cons (txl_eq (n := 1) (sq_of (e _ _ g2)) (ex_l e h2)) (.cons (dict_eq (e _ _ g3) (e _ _ h3) nd hi) .nil))
end MuBag

namespace MuNG
open PySem PySem.Spec PyProof.Rows L2 MuGen GenW
/-! ### all(e for x in xs), e any expression of the hand layer: read in a context of its own for the expression's frame -/
def gcx (P : Program) (w : World) (K : PySem.W.Frag) (mg : Str → Option Value) (base : Heap) (A : Around) (x : Str) (s0 : Shared) (H0 : Hp) (env : Env) (outer : List Env) : Cx :=
  { prog := P, w := w, K := K, mg := mg, base := base, A := A, N := [x], s_0 := s0, H_0 := H0, env := env, outer := outer, stack := env :: outer, ex := [], fn := fun _ => false, calm := true, pn := [], xe := fun _ _ => False }
section
variable {X : Cx} {pins : List (Addr × Obj)} {σ : L2.St} {H1 : Hp} {s1 : Shared} {P C : Addr} {scope : Scope} {x : Str} {A : Around} {code : Value}
theorem start_inv (I : Inv X pins σ H1 s1) (hP : H1 P = some (TabO P)) (hk : scope.kind = .function) (hno : ∀ y, scope.names.lookup y ≠ some .free ∧ scope.names.lookup y ≠ some .cell) (hA : A.handled = none)
    (hf : A.frames = some (genEnv scope [] C code builtinsNs X.env :: X.stack)) (hC : s1.heap.objs.size ≤ C) {s5 : Shared} {m : Str → Option Value} (os : s5.os = s1.os) (bare : AllBare s5.gens) (keep : ∀ b o, b ≠ P → s1.heap.get? b = some o → s5.heap.get? b = some o)
    (tP : ∃ o, s5.heap.get? P = some o) (hok : HOk X.prog X.w H1 s5.heap) (ns : s5.heap.Ns C m) :
    Inv (gcx X.prog X.w X.K X.mg X.base A x s1 H1 (genEnv scope [] C code builtinsNs X.env) X.stack) [] [none] H1 s5 := by
  have off : ∀ b, H1 b = none → b ≠ P := fun b e z => by
    rw [z, hP] at e
    exact nomatch e
  have none_ : ∀ {y : Str} {c : Addr}, ([] : List (Str × Addr)).lookup y = some c → False := fun e => nomatch (show (none : Option Addr) = some _ from e)
  refine ⟨⟨I.ok.mod, hk, I.ok.glob, rfl, hC, fun _ _ _ e => (none_ e).elim, fun y h => ?_, fun _ _ _ e => (none_ e).elim, fun _ => hA, hf, .inr ⟨rfl, rfl⟩, fun _ z => (nomatch z), I.bs, Nat.le_trans I.ok.bsz I.sz, fun _ _ _ z => (nomatch z), fun _ z => (nomatch z), I.stack, I.stkFree⟩, os, bare,
    ⟨fun b o e n _ _ => keep b o (off b n) e, fun b o e n _ _ => ⟨o.slots, keep b o (off b n) e⟩, fun _ _ _ n _ => n, fun b o e _ => ?_, fun _ _ q => q, fun _ _ _ q => q, fun _ ps q => ⟨#[], by rw [Array.append_empty]; exact q⟩⟩,
    ⟨m, ns, fun i y v _ h2 => ?_⟩, fun _ _ e => (none_ e).elim, I.hok.fresh hC, fun _ _ e => (none_ e).elim, fun p hp => (nomatch hp), hok, rfl⟩
  · rcases h with h | h
    · exact absurd h (hno y).2
    · exact absurd h (hno y).1
  · by_cases z : b = P
    · exact z ▸ tP
    · exact ⟨o, keep b o z e⟩
  · match i, h2 with
    | 0, h2 => exact nomatch (Option.some.inj h2)
    | n + 1, h2 => exact nomatch h2
end
section
variable {Y : Cx} {Ig a ga g : Addr} {og : Obj} {xs : List V} {H1 : Hp} {b : Nat → Bool}
/-- n things are still to come -/
structure Good (Y : Cx) (Ig a ga : Addr) (og : Obj) (N : Nat) (H1 : Hp) (n : Nat) (s : Shared) : Prop where
  inv : ∃ (H' : Hp) (ov : Option V), Evl.Ex H1 H' ∧ Inv Y [(ga, og)] [ov] H' s ∧ H' Ig = none
  it : s.heap.IsListIter Ig a (N - n)
def Over (Y : Cx) (ga : Addr) (og : Obj) (H1 : Hp) (s : Shared) : Prop := ∃ (H' : Hp) (ov : Option V), Evl.Ex H1 H' ∧ Inv Y [(ga, og)] [ov] H' s
theorem inv_gens {pins : List (Addr × Obj)} {σ : L2.St} {H : Hp} {s : Shared} {gn : Array GenState} (I : Inv Y pins σ H s) (h : AllBare gn) : Inv Y pins σ H { s with gens := gn } :=
  ⟨I.ok, I.os, h, I.base, I.loc, I.cell, I.free, I.freeC, I.pin, I.hok, I.len⟩
theorem inv_pins {pins pins2 : List (Addr × Obj)} {σ : L2.St} {H : Hp} {s : Shared} (I : Inv Y pins σ H s) (h : ∀ p ∈ Y.pn ++ pins2, s.heap.get? p.1 = some p.2 ∧ H p.1 = none ∧ p.1 ≠ Y.env.locals ∧ p.1 ∉ Y.fs ∧ ∀ v, p.2.data ≠ .cell v) : Inv Y pins2 σ H s :=
  ⟨I.ok, I.os, I.bare, I.base, I.loc, I.cell, I.free, I.freeC, h, I.hok, I.len⟩
theorem Good.gens {N n : Nat} {s : Shared} {gn : Array GenState} (h : Good Y Ig a ga og N H1 n s) (hb : AllBare gn) : Good Y Ig a ga og N H1 n { s with gens := gn } := by
  obtain ⟨⟨H', ov, e, I, hn⟩, it⟩ := h
  exact ⟨⟨H', ov, e, inv_gens I hb, hn⟩, it⟩
def Yd (Y : Cx) (Ig a ga : Addr) (og : Obj) (N : Nat) (H1 : Hp) (b : Nat → Bool) : Protocol := fun n _ v s kap => Good Y Ig a ga og N H1 n s ∧ v = .bool (b (N - 1 - n)) ∧ ∀ s2, Good Y Ig a ga og N H1 n s2 → kap (.send .none) s2
def Ed (Y : Cx) (ga : Addr) (og : Obj) (H1 : Hp) : GenEnd := fun n _ r s => ((r = .ok (.ret .none) ∨ r = .ok .next) ∧ (n = 0 ∧ Over Y ga og H1 s)) ∨ ∃ e, r = .error e ∧ False
/-- what stays from turn to turn -/
structure Fixed (Y : Cx) (Ig a ga : Addr) (og : Obj) (xs : List V) (H1 : Hp) : Prop where
  seq : SqL Y.K H1 a xs
  pn : Y.pn = []
  ne : a ≠ Ig
  ga : ga ≠ Ig
  lc : Ig ≠ Y.env.locals
  fs : Ig ∉ Y.fs
  new : Y.s_0.heap.objs.size ≤ Ig
  cells : Y.env.cells = []
section
variable {prog : Program} {w : World} {K : PySem.W.Frag} {mg : Str → Option Value} {base : Heap} {x : Str} {s0 : Shared} {H0 : Hp} {env : Env} {outer : List Env} {elt iter : Expr} {px : Pos} {scope : Scope} {pos : Pos} {te : TE} {B : Around}
abbrev cdG (elt iter : Expr) (x : Str) (px : Pos) (scope : Scope) (pos : Pos) (Ig : Addr) (env : Env) : Code := .compLoop (.GeneratorExp elt [⟨.Name x px, iter, [], 0⟩] scope pos) 0 (.ref Ig) .none env
abbrev ycx (prog : Program) (w : World) (K : PySem.W.Frag) (mg : Str → Option Value) (base : Heap) (B : Around) (x : Str) (s0 : Shared) (H0 : Hp) (env : Env) (outer : List Env) (elt iter : Expr) (px : Pos) (scope : Scope) (pos : Pos) (Ig : Addr) : Cx :=
  gcx prog w K mg base (B.over (cdG elt iter x px scope pos Ig env) []) x s0 H0 env outer
theorem seg_turns (hB : B.handled = none) (Fx : Fixed (ycx prog w K mg base B x s0 H0 env outer elt iter px scope pos Ig) Ig a ga og xs H1) (hco : env.scope.isCoroutine = false) (hloc : env.scope.names.lookup x = some .local)
    (hpe : PE (ycx prog w K mg base B x s0 H0 env outer elt iter px scope pos Ig) elt te)
    (hel : ∀ (i : Nat) (y : V) (H' : Hp), xs[i]? = some y → Evl.Ex H1 H' → ∀ Q : VK, (∀ H2, Evl.Ex H' H2 → Q (.bl (b i)) H2) → te [some y] H' Q) :
    ∀ (n : Nat) (s₀ s : Shared), n ≤ xs.length → Good (ycx prog w K mg base B x s0 H0 env outer elt iter px scope pos Ig) Ig a ga og xs.length H1 n s →
      Seg (model prog w) B (Ed (ycx prog w K mg base B x s0 H0 env outer elt iter px scope pos Ig) ga og H1) (Yd (ycx prog w K mg base B x s0 H0 env outer elt iter px scope pos Ig) Ig a ga og xs.length H1 b) n s₀
        (cdG elt iter x px scope pos Ig env) ((model prog w).den (cdG elt iter x px scope pos Ig env)) [] s := by
  have hh : (B.over (cdG elt iter x px scope pos Ig env) []).handled = none := hB
  intro n
  induction n with
  | zero =>
    intro s₀ s hn hG
    obtain ⟨⟨H', ov, e, I, hI⟩, it⟩ := hG
    obtain ⟨its, rv, hl, _⟩ := I.list (Evl.ex_l e Fx.seq)
    have len : its.toArray.size = xs.length := by rw [List.size_toArray, rv.length]
    show Seg _ B _ _ _ s₀ _ ((compTurn (.GeneratorExp elt [⟨.Name x px, iter, [], 0⟩] scope pos) 0 (.ref Ig) .none env).onRaise (leaving env)) [] s
    rw [compTurn_gen, Sem.onRaise_eq_wrap]
    refine seg_bind_wrap (wpAny_standAt (seg_bind_wrap ((Walks.list (prog := prog) (w := w) hh Ig a Fx.ne its.toArray).done s _ _ ⟨by rw [len]; exact it, hl.isList⟩ fun h' tk hk => ?_)))
    refine seg_end (.ok .next) (.inl ⟨.inr rfl, rfl, H', ov, e, I.turned (it := Ig) (fun c o z => hk c o fun m => z (List.mem_singleton.mp m)) hI Fx.lc (.inr Fx.new) (fun y c z => ?_) fun p hp => ?_⟩)
    · rw [Fx.cells] at z
      exact nomatch (show (none : Option Addr) = some _ from z)
    · rw [Fx.pn] at hp
      obtain rfl := List.mem_singleton.mp hp
      exact Fx.ga
  | succ n ih =>
    intro s₀ s hn hG
    obtain ⟨⟨H', ov, e, I, hI⟩, it⟩ := hG
    obtain ⟨its, rv, hl, _⟩ := I.list (Evl.ex_l e Fx.seq)
    have len : its.toArray.size = xs.length := by rw [List.size_toArray, rv.length]
    have lt : xs.length - (n + 1) < xs.length := by omega
    show Seg _ B _ _ _ s₀ _ ((compTurn (.GeneratorExp elt [⟨.Name x px, iter, [], 0⟩] scope pos) 0 (.ref Ig) .none env).onRaise (leaving env)) [] s
    rw [compTurn_gen, Sem.onRaise_eq_wrap]
    refine seg_bind_wrap (wpAny_standAt (seg_bind_wrap ((Walks.list (prog := prog) (w := w) hh Ig a Fx.ne its.toArray).item (xs.length - (n + 1)) s _ _ (by rw [len]; exact lt) ⟨it, hl.isList⟩ fun v h' tk hv st hk => ?_)))
    have I2 := I.turned (t' := tk) (it := Ig) (fun c o z => hk c o fun m => z (List.mem_singleton.mp m)) hI Fx.lc (.inr Fx.new) (fun y c z => by
      rw [Fx.cells] at z
      exact nomatch (show (none : Option Addr) = some _ from z)) fun p hp => by
      rw [Fx.pn] at hp
      obtain rfl := List.mem_singleton.mp hp
      exact Fx.ga
    obtain ⟨y, hy, ry⟩ : ∃ y, xs[xs.length - (n + 1)]? = some y ∧ RelV y v := by
      obtain ⟨u, eu, ru⟩ := rv.get (List.getElem?_eq_getElem lt)
      have e2 : its[xs.length - (n + 1)]? = some v := by simpa using hv
      rw [e2] at eu
      exact ⟨_, List.getElem?_eq_getElem lt, Option.some.inj eu ▸ ru⟩
    obtain ⟨oi, ho, hcl, hda⟩ := st.1
    have I3 : Inv (ycx prog w K mg base B x s0 H0 env outer elt iter px scope pos Ig) [(Ig, oi), (ga, og)] [ov] H' { s with heap := h', toks := tk } := inv_pins I2 fun p hp => by
      rw [Fx.pn] at hp
      rcases List.mem_cons.mp hp with rfl | hp
      · exact ⟨ho, hI, Fx.lc, Fx.fs, fun z q => by rw [hda] at q; exact nomatch q⟩
      · exact I2.pin p (by rw [Fx.pn]; exact hp)
    refine seg_bind_wrap (wpAny_of_eq (rfl : letOwnedTupleGo (.Name x px) (.ref Ig) v = pure ()) (seg_bind_wrap (wpAny_assign_Name (store_ok2 (i := 0) I3 (by simp [gcx]) rfl (.inl hloc) ry (fun s2 I4 _ => ?_) (.inr hloc)))))
    refine seg_bind_wrap (m := pure true) (wpAny_pure ?_)
    simp only [if_true]
    have hy2 : ∀ u, yieldOut env u = yieldValue u := fun u => by simp only [yieldOut, hco, Bool.false_eq_true, if_false]
    simp only [hy2]
    rw [Sem.bind_eq_wrap', Sem.bind_eq_wrap', Sem.wrap_wrap, Sem.wrap_wrap]
    refine seg_wrap (wpAny_mono (hpe.run _ s2 [some y] H' (fun z H2 => z = .bl (b (xs.length - (n + 1))) ∧ Evl.Ex H1 H2) I4 (hel _ y H' hy e _ fun H2 e2 => ⟨rfl, e.trans e2⟩)) (fun u s3 r => ?_) fun _ _ z => z.elim)
    obtain ⟨z, H2, I5, rz, rfl, e2⟩ := r
    obtain rfl : u = .bool (b (xs.length - (n + 1))) := rz
    have pI := I5.pin (Ig, oi) (by rw [Fx.pn]; exact List.mem_cons_self)
    refine seg_at (seg_yield rfl rfl rfl ⟨⟨⟨H2, some y, e2, inv_pins I5 fun p hp => I5.pin p (by rw [Fx.pn] at hp ⊢; exact List.mem_cons_of_mem _ hp), pI.2.1⟩, oi, pI.1, hcl, ?_⟩, ?_, fun s4 hG4 => seg_again rfl (ih s4 s4 (by omega) hG4)⟩)
    · rw [hda, show xs.length - (n + 1) + 1 = xs.length - n by omega]
    · rw [show xs.length - 1 - n = xs.length - (n + 1) by omega]
theorem seg_begin (hB : B.handled = none) (Fx : Fixed (ycx prog w K mg base B x s0 H0 env outer elt iter px scope pos Ig) Ig a ga og xs H1) (hco : env.scope.isCoroutine = false) (hloc : env.scope.names.lookup x = some .local)
    (hpe : PE (ycx prog w K mg base B x s0 H0 env outer elt iter px scope pos Ig) elt te)
    (hel : ∀ (i : Nat) (y : V) (H' : Hp), xs[i]? = some y → Evl.Ex H1 H' → ∀ Q : VK, (∀ H2, Evl.Ex H' H2 → Q (.bl (b i)) H2) → te [some y] H' Q) (s₀ s : Shared)
    (hG : Good (ycx prog w K mg base B x s0 H0 env outer elt iter px scope pos Ig) Ig a ga og xs.length H1 xs.length s) :
    Seg (model prog w) B (Ed (ycx prog w K mg base B x s0 H0 env outer elt iter px scope pos Ig) ga og H1) (Yd (ycx prog w K mg base B x s0 H0 env outer elt iter px scope pos Ig) Ig a ga og xs.length H1 b) xs.length s₀
      (.compStart (.GeneratorExp elt [⟨.Name x px, iter, [], 0⟩] scope pos) 0 (.ref Ig) .none env) ((model prog w).den (.compStart (.GeneratorExp elt [⟨.Name x px, iter, [], 0⟩] scope pos) 0 (.ref Ig) .none env)) [] s := by
  have loop := seg_turns hB Fx hco hloc hpe hel xs.length s₀ s (Nat.le_refl _) hG
  have hh : (B.over (.compStart (.GeneratorExp elt [⟨.Name x px, iter, [], 0⟩] scope pos) 0 (.ref Ig) .none env) []).handled = none := hB
  obtain ⟨⟨H', ov, e, I, hI⟩, it⟩ := hG
  obtain ⟨its, rv, hl, _⟩ := I.list (Evl.ex_l e Fx.seq)
  rw [Nat.sub_self] at it
  show Seg _ B _ _ _ s₀ _ ((compStart (.GeneratorExp elt [⟨.Name x px, iter, [], 0⟩] scope pos) 0 (.ref Ig) .none env).onRaise (leaving env)) [] s
  unfold compStart
  rw [Sem.onRaise_eq_wrap]
  show Seg _ B _ _ _ s₀ _ ((ask >>= _).wrap _ _ _ _) [] s
  refine seg_bind_wrap (wpAny_askSetting ?_)
  split
  · exact seg_again rfl loop
  · first
      | exact seg_bind_wrap (wpAny_rule (seg_bind_wrap (wpAny_standAt (seg_bind_wrap ((Walks.list (prog := prog) (w := w) hh Ig a Fx.ne its.toArray).self 0 s _ _ ⟨it, hl.isList⟩ (seg_again rfl loop))))))
      | (refine seg_bind_wrap (wpAny_rule ?_)
         show Seg _ B _ _ _ s₀ _ ((standAt iter.pos >>= _).wrap _ _ _ _) [] s
         exact seg_bind_wrap (wpAny_standAt (seg_bind_wrap ((Walks.list (prog := prog) (w := w) hh Ig a Fx.ne its.toArray).self 0 s _ _ ⟨it, hl.isList⟩ (seg_again rfl loop)))))
end
/-- the walk of all(..) -/
theorem all_turns {A : Around} {R : Result → Shared → Prop} {N : Nat} (hh : A.handled = none) (hd : A.depth < recursionLimit) (hgen : ∀ s : Shared, s.heap.get? ga = some og → s.heap.IsGen ga g) (hpn : Y.pn = [])
    (fin : ∀ (bb : Bool) (s : Shared), Over Y ga og H1 s → bb = (List.range N).all b → R (.ok (.ret (.bool bb))) s) :
    ∀ (n : Nat) (s : Shared), n ≤ N → (∀ j, j < N - n → b j = true) → Good Y Ig a ga og N H1 n s → (∃ gs, s.gens[g]? = some gs ∧ gs.Goes (model Y.prog Y.w) A.in1.in1 (Ed Y ga og H1) (Yd Y Ig a ga og N H1 b) n (.send .none) (s.setGen g .running)) →
      codeAny (model Y.prog Y.w) A (.builtin "all.loop" ⟨[.ref ga], []⟩) R s := by
  have at_ : ∀ {s : Shared} {H' : Hp} {ov : Option V}, Inv Y [(ga, og)] [ov] H' s → s.heap.get? ga = some og := fun I => (I.pin (ga, og) (by rw [hpn]; exact List.mem_cons_self)).1
  intro n
  induction n with
  | zero =>
    intro s _ hall hG ⟨gs, hgs, hgo⟩
    obtain ⟨⟨H', ov, e, I, hI⟩, it⟩ := id hG
    refine codeAny_builtin PySem.F.entry_all_loop ?_
    rw [Around.under_plainId PySem.F.plain_all_loop _]
    show wpAny _ A.in1 (pyNext (.ref ga) >>= _) _ _ s
    refine wpAny_bind (next_genG (A := A.in1) (F := fun n _ s => n = 0 ∧ Over Y ga og H1 s) (Er := fun _ _ => False) hh I.nolimit hd (hgen s (at_ I)) hgs hgo (fun v s2 gs2 _ hv => (hv.2.2 s2 hv.1).elim) (fun s2 hp h3 hk => ?_) fun _ _ z => z.elim)
    obtain ⟨_, H2, ov2, e2, I2⟩ := hp
    refine wpAny_bind (wpAny_rule (wpAny_pure (fin true _ ⟨H2, ov2, e2, ?_⟩ ?_)))
    · exact inv_gens (I2.kept (t' := s2.toks) hk) (allBare_setGen I2.bare rfl)
    · exact (List.all_eq_true.mpr fun j hj => hall j (by have := List.mem_range.mp hj; omega)).symm
  | succ n ih =>
    intro s hn hall hG ⟨gs, hgs, hgo⟩
    have hgl : g < s.gens.size := (Array.getElem?_eq_some_iff.mp hgs).1
    obtain ⟨⟨H', ov, e, I, hI⟩, it⟩ := id hG
    refine codeAny_builtin PySem.F.entry_all_loop ?_
    rw [Around.under_plainId PySem.F.plain_all_loop _]
    show wpAny _ A.in1 (pyNext (.ref ga) >>= _) _ _ s
    refine wpAny_bind (wpAny_gsz (n := g + 1) hgl (next_genG (A := A.in1) (F := fun n _ s => n = 0 ∧ Over Y ga og H1 s) (Er := fun _ _ => False) hh I.nolimit hd (hgen s (at_ I)) hgs hgo (fun v s2 gs2 hb2 hv hsz => ?_) (fun s2 hp h3 hk _ => absurd hp.1 (Nat.succ_ne_zero n)) fun _ _ z => z.elim))
    obtain ⟨hG2, rfl, hk⟩ := hv
    have hsz2 : g < s2.gens.size := by
      have z : g + 1 ≤ s2.gens.size := by
        rw [← setGen_size s2 g gs2]
        exact hsz
      exact z
    have bare2 : AllBare s2.gens := by
      obtain ⟨⟨_, _, _, J, _⟩, _⟩ := hG2
      exact J.bare
    have bare3 : AllBare (s2.setGen g gs2).gens := allBare_setGen bare2 hb2
    refine wpAny_bind (wpAny_holding (wpAny_truthy_bool (wpAny_bind (wpAny_letGo ?_))))
    rw [show N - 1 - (n + 1 - 1) = N - (n + 1) by omega]
    cases hb : b (N - (n + 1)) with
    | true =>
      simp only [if_true]
      refine wpAny_pure ⟨plainId_quiet PySem.F.plain_all_loop _, ih (s2.setGen g gs2) (by omega) (fun j hj => ?_) (hG2.gens bare3) ⟨gs2, setGen_at hsz2, hk _ ?_⟩⟩
      · by_cases c : j < N - (n + 1)
        · exact hall j c
        · rw [show j = N - (n + 1) by omega]
          exact hb
      · exact hG2.gens (allBare_setGen (s := s2.setGen g gs2) bare3 rfl)
    | false =>
      simp only [Bool.false_eq_true, if_false]
      refine wpAny_bind (wpAny_rule (wpAny_pure (fin false _ ?_ ?_)))
      · obtain ⟨⟨H2, ov2, e2, I2, _⟩, _⟩ := hG2
        exact ⟨H2, ov2, e2, inv_gens I2 bare3⟩
      · refine (List.all_eq_false.mpr ⟨N - (n + 1), List.mem_range.mpr (by omega), ?_⟩).symm
        rw [hb]
        exact Bool.false_ne_true
end
/-- all(e for x in a list); te reads e with x alone -/
def tAllG (K : PySem.W.Frag) (P : Addr) (te tl : TE) : TE := fun σ H Q => tl σ H fun v H1 => H1 P = some (TabO P) ∧ ∃ (a : Addr) (xs : List V) (b : Nat → Bool), v = .ref a ∧ SqL K H1 a xs ∧
  (∀ (i : Nat) (y : V) (H' : Hp), xs[i]? = some y → Evl.Ex H1 H' → ∀ Q2 : VK, (∀ H2, Evl.Ex H' H2 → Q2 (.bl (b i)) H2) → te [some y] H' Q2) ∧ ∀ H2, Evl.Ex H1 H2 → Q (.bl ((List.range xs.length).all b)) H2
section
variable {X : Cx}
theorem pe_allG {c P : Addr} {elt iter : Expr} {x : Str} {p px gpos pos : Pos} {scope : Scope} {te tl : TE} {k : Nat}
    (hr : Room (k + 1) X.A) (TB : GxR.TabB X.base X.mg c P) (hcode : X.env.code = .ref c) (hm : X.mg "all" = none) (hg : Gl X "all")
    (hi : PE X iter tl) (hs : ∀ v, genFold iter X.env v = pure v) (N : GenN scope x) (hfr : ∀ z ∈ scope.names, z.2 ≠ .free) (hclo : ∀ cells, cloFrom cells scope.names [] = [])
    (hel : ∀ (A : Around) (s0 : Shared) (H0 : Hp) (C : Addr) (code : Value), Room k A → PE (gcx X.prog X.w X.K X.mg X.base A x s0 H0 (genEnv scope [] C code builtinsNs X.env) X.stack) elt te)
    (he : ∀ g : Expr, g = .GeneratorExp elt [⟨.Name x px, iter, [], 0⟩] scope gpos → starEach [g] X.env = (false, eval g X.env) :: starEach [] X.env) :
    PE X (.Call (.Name "all" p) [.GeneratorExp elt [⟨.Name x px, iter, [], 0⟩] scope gpos] [] pos) (tAllG X.K P te tl) := by
  have hno : ∀ y, scope.names.lookup y ≠ some .free ∧ scope.names.lookup y ≠ some .cell := fun y => ⟨fun e => hfr _ (PySem.mem_of_lookup e) rfl, fun e => N.cell _ (PySem.mem_of_lookup e) rfl⟩
  refine ⟨fun pins s σ H Q I h => ?_⟩
  have hclos : closureFor scope X.env = pure [] := by
    rw [closure_ok fun y hy e => absurd e (hfr y hy), hclo]
  have room : X.A.depth < recursionLimit := by
    have := hr.dp
    omega
  refine wpAny_Call_Name_kw (ld_blt I hg hm boot_all ?_)
  have he1 := he _ rfl
  refine PyProof.Rows.callWith_builtin1 ?_ he1 (by rfl)
  rw [he1]
  refine Calls.spliced_cons (wpAny_GeneratorExp_make N.co hclos N.cell N.dot N.kind room ?_ hs)
  refine thn (hi.run pins s σ H _ I h) fun xv s1 ⟨v, H1, I1, rv, hP, a, xs, b, ev, hx, hel2, q⟩ => ?_
  subst ev
  obtain rfl : xv = Value.ref a := rv
  obtain ⟨its, rvs, hl, _⟩ := I1.list hx
  have isl := hl.isList
  obtain ⟨ps, e0, ht⟩ := tab_get I1 hP
  refine wpAny_pyIter_list isl ⟨I1.nolimit.push _, ?_⟩
  generalize ho : ({ cls := .type "list_iterator", data := .fields #[.ref a, .int 0 0] } : Obj) = o
  have up : ∀ b u, s1.heap.get? b = some u → (s1.heap.push o).get? b = some u := fun b u e => Heap.get?_push_of_some _ e
  have zpush : (s1.heap.push o).objs.size = s1.heap.objs.size + 1 := Heap.size_push ..
  have cd : PySem.W.CodeHd (s1.heap.push o) c P := TB.code.keeps fun b u e => up b u (I1.bk b u e)
  have alt : a < s1.heap.objs.size := by
    have ⟨_, e, _⟩ := isl
    exact Heap.lt_size e
  have Plt := Heap.lt_size e0
  refine code_any hcode cd (up P _ e0) ht fun code h3 tk qs hx3 h3z hP3 ht3 => ?_
  have keep3 : ∀ b u, b ≠ P → s1.heap.get? b = some u → h3.get? b = some u := fun b u y e => hx3 b u y (up b u e)
  obtain ⟨bm, ob, e1, e2, e3, e4, e5, e6, e7, e8⟩ := TB.bm
  have ns3 : h3.Ns X.env.globals X.mg := by
    rw [I1.ok.glob]
    exact ((I1.mod.glob.keeps I1.bk).push o).extBut hx3 TB.gP
  refine wpAny_builtinsFor (m := X.mg) ns3 e1 e2 (keep3 _ _ e4 (I1.bk _ _ e5)) e6 e7 e8 ?_
  intro h' hn' hs'
  have hz1 : s1.heap.objs.size + 1 ≤ h3.objs.size := by
    have z : (s1.heap.push o).objs.size ≤ h3.objs.size := h3z
    omega
  have keep' : ∀ b o, h3.get? b = some o → h'.get? b = some o := fun b o e => hs'.extBut b o (Nat.ne_of_lt (Heap.lt_size e)) (Heap.get?_push_of_some _ e)
  have hsz : h'.objs.size = h3.objs.size + 1 := by rw [hs'.1, Heap.size_push]
  have itP : s1.heap.objs.size ≠ P := Nat.ne_of_gt Plt
  have it3 : h3.get? s1.heap.objs.size = some o := hx3 _ _ itP (by rw [← ho]; exact Heap.get?_push_size _ rfl)
  refine Calls.spliced_nil ?_
  generalize hog : ({ cls := .type "generator", data := .fields #[.int s1.gens.size 0, .str "<genexpr>" (tk + 1), .str (X.env.qual ++ "<genexpr>") (tk + 1 + 1)] } : Obj) = og
  have keep5 : ∀ b u, h3.get? b = some u → (h'.push og).get? b = some u := fun b u e => Heap.get?_push_of_some _ (keep' b u e)
  have bare5 : AllBare (s1.gens.push (.fresh (.compStart (.GeneratorExp elt [⟨.Name x px, iter, [], 0⟩] scope gpos) 0 (.ref s1.heap.objs.size) .none (genEnv scope [] h3.objs.size code builtinsNs X.env)))) := I1.bare.push rfl
  have hok5 : HOk X.prog X.w H1 (h'.push og) := (inv_grown (hn := h'.push og) (gn := s1.gens) (dn := s1.drawn) (tn := s1.toks) I1 hP (fun b u y e => keep5 b u (keep3 b u y e)) (keep5 _ _ hP3) ht3 I1.bare).hok
  refine call_function_tree PySem.F.kind_all PySem.F.plain_all PySem.F.entry_all (PySem.F.args_all1 _) ?_
  unfold Builtin.«all»
  refine wpAny_bind (m := oneArg "all" _) (wpAny_pure ?_)
  have gen5 : ∀ s : Shared, s.heap.get? h'.objs.size = some og → s.heap.IsGen h'.objs.size s1.gens.size := fun s e => ⟨og, _, _, e, by rw [← hog], by rw [← hog], by rw [← hog]⟩
  have ogAt : (h'.push og).get? h'.objs.size = some og := by
    rw [← hog]
    exact Heap.get?_push_size _ rfl
  refine wpAny_bind (wpAny_pyIter_gen (gen5 _ ogAt) ?_)
  have hAf : (X.A.in1.in1.over (cdG elt iter x px scope gpos s1.heap.objs.size (genEnv scope [] h3.objs.size code builtinsNs X.env)) []).frames = some (genEnv scope [] h3.objs.size code builtinsNs X.env :: X.stack) := by
    show pushEnvs [genEnv scope [] h3.objs.size code builtinsNs X.env] (pushEnvs (envsOf []) X.A.frames) = _
    rw [I1.ok.frames]
    rfl
  have hrG : Room k (X.A.in1.in1.over (cdG elt iter x px scope gpos s1.heap.objs.size (genEnv scope [] h3.objs.size code builtinsNs X.env)) []) := by
    obtain ⟨a1, a2, a3⟩ := hr
    refine ⟨a1, ?_, ?_⟩
    · show X.A.depth + 0 + 1 + 3 * k + 5 < _
      omega
    · show X.A.units + 1 + 1 + 0 + 3 + 16 * k + 200 < _
      omega
  have J : Inv (ycx X.prog X.w X.K X.mg X.base X.A.in1.in1 x s1 H1 (genEnv scope [] h3.objs.size code builtinsNs X.env) X.stack elt iter px scope gpos s1.heap.objs.size) [] [none] H1
      { s1 with heap := h'.push og, gens := s1.gens.push (.fresh (.compStart (.GeneratorExp elt [⟨.Name x px, iter, [], 0⟩] scope gpos) 0 (.ref s1.heap.objs.size) .none (genEnv scope [] h3.objs.size code builtinsNs X.env))), toks := tk + 1 + 1 + 1 } :=
    start_inv (A := X.A.in1.in1.over (cdG elt iter x px scope gpos s1.heap.objs.size (genEnv scope [] h3.objs.size code builtinsNs X.env)) []) (C := h3.objs.size) (code := code) (s5 := { s1 with heap := h'.push og, gens := s1.gens.push (.fresh (.compStart (.GeneratorExp elt [⟨.Name x px, iter, [], 0⟩] scope gpos) 0 (.ref s1.heap.objs.size) .none (genEnv scope [] h3.objs.size code builtinsNs X.env))), toks := tk + 1 + 1 + 1 }) I1 hP N.kind hno hr.hd hAf (by omega) rfl bare5 (fun b u y e => keep5 b u (keep3 b u y e)) ⟨_, keep5 _ _ hP3⟩ hok5 (hn'.push _)
  have stkLt : ∀ b ∈ frs X.stack, b < s1.heap.objs.size := fun b hb => by
    obtain ⟨_, o, ho, _⟩ := I1.stack.mem hb
    exact Heap.lt_size ho
  have J2 := inv_pins (pins2 := [(h'.objs.size, og)]) J fun p hp => by
    obtain rfl := List.mem_singleton.mp (show p ∈ [(h'.objs.size, og)] from hp)
    refine ⟨ogAt, I1.hok.fresh (by show s1.heap.objs.size ≤ h'.objs.size; omega), ?_, fun m => ?_, fun z y => ?_⟩
    · show h'.objs.size ≠ h3.objs.size
      omega
    · exact absurd (stkLt _ m) (by show ¬ h'.objs.size < s1.heap.objs.size; omega)
    · rw [← hog] at y
      exact nomatch y
  have Fx : Fixed (ycx X.prog X.w X.K X.mg X.base X.A.in1.in1 x s1 H1 (genEnv scope [] h3.objs.size code builtinsNs X.env) X.stack elt iter px scope gpos s1.heap.objs.size) s1.heap.objs.size a h'.objs.size og xs H1 :=
    ⟨hx, rfl, Nat.ne_of_lt alt, (by show h'.objs.size ≠ s1.heap.objs.size; omega), by show s1.heap.objs.size ≠ h3.objs.size; omega, fun m => Nat.lt_irrefl _ (stkLt _ m), Nat.le_refl _, rfl⟩
  have hGood : Good (ycx X.prog X.w X.K X.mg X.base X.A.in1.in1 x s1 H1 (genEnv scope [] h3.objs.size code builtinsNs X.env) X.stack elt iter px scope gpos s1.heap.objs.size) s1.heap.objs.size a h'.objs.size og xs.length H1 xs.length
      { s1 with heap := h'.push og, gens := s1.gens.push (.fresh (.compStart (.GeneratorExp elt [⟨.Name x px, iter, [], 0⟩] scope gpos) 0 (.ref s1.heap.objs.size) .none (genEnv scope [] h3.objs.size code builtinsNs X.env))), toks := tk + 1 + 1 + 1 } := by
    refine ⟨⟨H1, none, Evl.Ex.refl _, J2, I1.hok.fresh (Nat.le_refl _)⟩, o, keep5 _ _ it3, by rw [← ho], ?_⟩
    rw [← ho, Nat.sub_self]
    rfl
  refine wpAny_pure ⟨plainId_quiet PySem.F.plain_all_loop _, all_turns (Y := ycx X.prog X.w X.K X.mg X.base X.A.in1.in1 x s1 H1 (genEnv scope [] h3.objs.size code builtinsNs X.env) X.stack elt iter px scope gpos s1.heap.objs.size) (Ig := s1.heap.objs.size) (a := a) (ga := h'.objs.size) (og := og) (H1 := H1) (g := s1.gens.size) (N := xs.length) (b := b) hr.hd room gen5 rfl (fun bb s6 hO hbb => ?_) xs.length _ (Nat.le_refl _) (fun j hj => absurd hj (by omega)) hGood ⟨_, Array.getElem?_push_size .., rfl, ?_⟩⟩
  · obtain ⟨H2, ov, e2, I2⟩ := hO
    refine ⟨.bl bb, H2, ?_, rfl, hbb ▸ q H2 e2⟩
    have F := I1.call' (s' := s6) (ch := []) I2.os I2.base I2.hok I2.bare fun b z => nomatch z
    exact F
  · exact seg_begin (b := b) (B := X.A.in1.in1) (px := px) (iter := iter) (pos := gpos) hr.hd Fx N.co N.loc (hel (X.A.in1.in1.over (cdG elt iter x px scope gpos s1.heap.objs.size (genEnv scope [] h3.objs.size code builtinsNs X.env)) []) s1 H1 h3.objs.size code hrG) hel2 _ _ (hGood.gens (allBare_setGen (x := .running) bare5 rfl))
end
section
open Evl
variable {K : PySem.W.Frag} {σ : L2.St} {H : Hp}
theorem ev_allG {P a : Addr} {te tl : TE} {xs : List V} {b : Nat → Bool} {r : Bool} (h : Ev tl σ H (.ref a)) (hx : SqL K H a xs) (hP : H P = some (TabO P)) (he : ∀ (i : Nat) (y : V) (H' : Hp), Ex H H' → xs[i]? = some y → Ev te [some y] H' (.bl (b i))) (hr : (List.range xs.length).all b = r) :
    Ev (tAllG K P te tl) σ H (.bl r) := fun H1 e Q q => h H1 e _ fun H2 e2 => ⟨(e.trans e2) _ _ hP, a, xs, b, rfl, ex_l (e.trans e2) hx, fun i y H' hy e3 Q2 q2 => he i y H' ((e.trans e2).trans e3) hy H' (Ex.refl H') Q2 q2, fun H3 e3 => hr ▸ q H3 (e2.trans e3)⟩
end
end MuNG

namespace MuLc
open PySem PySem.Spec PyProof.Rows L2 Evl MuK
/-! ### list comprehensions whose elements are new things -/
theorem paired_mono {α β : Type} {F G : α → β → Prop} (h : ∀ a b, F a b → G a b) : ∀ {xs : List α} {ys : List β}, Paired F xs ys → Paired G xs ys
  | _, _, .nil => .nil
  | _, _, .cons a r => .cons (h _ _ a) (paired_mono h r)
theorem paired_app {α β : Type} {F : α → β → Prop} : ∀ {xs : List α} {ys : List β} {xs2 : List α} {ys2 : List β}, Paired F xs ys → Paired F xs2 ys2 → Paired F (xs ++ xs2) (ys ++ ys2)
  | _, _, _, _, .nil, h => h
  | _, _, _, _, .cons a r, h => .cons a (paired_app r h)
theorem paired_left {α β γ : Type} {F : γ → β → Prop} {g : α → γ} : ∀ {xs : List α} {ys : List β}, Paired (fun a b => F (g a) b) xs ys → Paired F (xs.map g) ys
  | _, _, .nil => .nil
  | _, _, .cons a r => .cons a (paired_left r)
theorem keep_at {α : Type} (ps : List α) (d : α) (g : α → Bool) : ((List.range ps.length).filter fun n => g (ps.getD n d)).map (fun n => ps.getD n d) = ps.filter g := by
  have e : (List.range ps.length).map (fun i => ps.getD i d) = ps := by
    apply List.ext_getElem
    · simp
    · intro i h1 h2
      simp [List.getD_eq_getElem?_getD, h2]
  conv => rhs; rw [← e]
  rw [List.filter_map]
  rfl
section
variable {K : PySem.W.Frag} {σ : L2.St} {H H' : Hp} {ta tb te tl : TE} {t : TT} {x y z v : V} {R : V → Hp → Prop}
theorem evx_lcX {a : Addr} {xs : List V} {g : TG} {vs : List Nat} (f : Nat → Bool) (R : Nat → V → Hp → Prop) (h : Ev tl σ H (.ref a)) (hx : SqL K H a xs) (hz : xs.length ≤ 40000)
    (hstep : ∀ (n : Nat) (x : V) (H' : Hp), xs[n]? = some x → Ex H H' → ∃ σn : L2.St, wipe σn vs = wipe σ vs ∧ (∀ k : L2.St → Hp → Prop, k σn H' → g x (wipe σ vs) H' k) ∧ EvT t σn H' (f n) ∧ (f n = true → EvX te σn H' (R n)))
    (hR : ∀ n y H1 H2, R n y H1 → Ex H1 H2 → R n y H2) (hS : ∀ n y (H1 : Hp) D zs o, R n y H1 → H1 D = some (.lst zs) → R n y (upd H1 D o)) :
    EvX (tLc (iList K tl) g t te vs) σ H (fun v H' => ∃ (D : Addr) (ys : List V), v = .ref D ∧ H D = none ∧ H' D = some (.lst ys) ∧ Paired (fun n y => R n y H') ((List.range xs.length).filter f) ys) := fun H0 e Q q => by
  refine h H0 e _ fun H1 e1 => ⟨a, rfl, ⟨xs, ex_l (e.trans e1) hx⟩, fun D hD => ?_⟩
  let Nx : Nat → Hp → Prop := fun n H' => n ≤ xs.length ∧ Ex H1 H' ∧ ∃ ys : List V, H' D = some (.lst ys) ∧ ys.length ≤ n ∧ Paired (fun n y => R n y H') ((List.range n).filter f) ys
  refine ⟨fun n m H' => m = xs.length - n ∧ Nx n H', ⟨xs.length, rfl, Nat.zero_le _, Ex.new hD, [], upd_same, Nat.le_refl _, .nil⟩, ?_⟩
  rintro n m H' ⟨rfl, hn, e2, ys, hys, zy, pr⟩
  have e02 := (e.trans e1).trans e2
  have hq := ex_l e02 hx
  by_cases lt : n < xs.length
  · refine .inr ⟨⟨xs, xs[n], hq, List.getElem?_eq_getElem lt⟩, Nx (n + 1), fun H2 p2 => ⟨xs.length - (n + 1), by omega, rfl, p2⟩, fun x H2 y => ?_⟩
    obtain ⟨rfl, hx2⟩ := y
    obtain ⟨σn, hw, hg, ht, he⟩ := hstep n x _ (hx2 xs hq) e02
    refine hg _ ⟨hw, ht _ (Ex.refl _) _ fun H3 e3 => ?_⟩
    cases hf : f n with
    | false =>
      show Nx (n + 1) H3
      refine ⟨lt, e2.trans e3, ys, e3 _ _ hys, by omega, ?_⟩
      rw [List.range_succ, List.filter_append, List.filter_cons_of_neg (by rw [hf]; exact Bool.false_ne_true), List.filter_nil, List.append_nil]
      exact paired_mono (fun a b r => hR a b _ _ r e3) pr
    | true =>
      show te σn H3 fun y H4 => ∃ acc, H4 D = some (.lst acc) ∧ acc.length < sizeLine ∧ Nx (n + 1) (upd H4 D (.lst (acc ++ [y])))
      refine (he hf) H3 e3 _ fun y H4 e4 r => ⟨ys, (e3.trans e4) _ _ hys, sz_lt (by omega), lt, Ex.mut (e2.trans (e3.trans e4)) hD, ys ++ [y], upd_same, by rw [List.length_append]; show ys.length + 1 ≤ n + 1; omega, ?_⟩
      have h4 := (e3.trans e4) _ _ hys
      rw [List.range_succ, List.filter_append, List.filter_cons_of_pos hf, List.filter_nil]
      exact paired_app (paired_mono (fun a b r => hS a b _ _ _ _ (hR a b _ _ r (e3.trans e4)) h4) pr) (.cons (hS _ _ _ _ _ _ r h4) .nil)
  · obtain rfl : n = xs.length := by omega
    exact .inl ⟨⟨xs, hq, Nat.le_refl _⟩, q _ _ (e1.trans e2) ⟨D, ys, rfl, fresh_back (e.trans e1) hD, hys, pr⟩⟩
/-- over a list of the pairs ps -/
theorem evx_lcP {α : Type} {a : Addr} {ys0 : List V} {ps : List α} (d : α) {g : TG} {vs : List Nat} (F : α → V → Hp → Prop) (f : α → Bool) (R : α → V → Hp → Prop) (h : Ev tl σ H (.ref a)) (hx : SqL K H a ys0) (hp : Paired (fun p y => F p y H) ps ys0) (hz : ps.length ≤ 40000)
    (hstep : ∀ (p : α) (x : V) (H' : Hp), p ∈ ps → F p x H → Ex H H' → ∃ σn : L2.St, wipe σn vs = wipe σ vs ∧ (∀ k : L2.St → Hp → Prop, k σn H' → g x (wipe σ vs) H' k) ∧ EvT t σn H' (f p) ∧ (f p = true → EvX te σn H' (R p)))
    (hR : ∀ p y H1 H2, R p y H1 → Ex H1 H2 → R p y H2) (hS : ∀ p y (H1 : Hp) D zs o, R p y H1 → H1 D = some (.lst zs) → R p y (upd H1 D o)) :
    EvX (tLc (iList K tl) g t te vs) σ H (fun v H' => ∃ (D : Addr) (ys : List V), v = .ref D ∧ H D = none ∧ H' D = some (.lst ys) ∧ Paired (fun p y => R p y H') (ps.filter f) ys) := by
  have zl : ys0.length = ps.length := (Paired.length hp).symm
  refine evx_mono (evx_lcX (f := fun n => f (ps.getD n d)) (R := fun n => R (ps.getD n d)) h hx (by omega) (fun n x H' hxn e => ?_) (fun n y H1 H2 r e => hR _ y H1 H2 r e) (fun n y H1 D zs o r e => hS _ y H1 D zs o r e)) fun v H1 e r => ?_
  · have lt : n < ps.length := by
      have := (List.getElem?_eq_some_iff.mp hxn).1
      omega
    have eg : ps.getD n d = ps[n] := by simp [List.getD_eq_getElem?_getD, lt]
    obtain ⟨y, hy, fy⟩ := paired_get hp (List.getElem?_eq_getElem lt)
    rw [hxn] at hy
    obtain rfl := Option.some.inj hy
    rw [eg]
    exact hstep _ x H' (List.getElem_mem lt) fy e
  · obtain ⟨D, ys, rfl, hD, hys, pr⟩ := r
    refine ⟨D, ys, rfl, hD, hys, ?_⟩
    rw [zl] at pr
    have := paired_left (F := fun p y => R p y H1) (g := fun n => ps.getD n d) pr
    rwa [keep_at ps d f] at this
/-! ### pairs of numbers below N -/
def rowP (N i : Nat) : List (Nat × Nat) := (List.range (N - (i + 1))).map fun l => (i, i + 1 + l)
def belowP (N n : Nat) : List (Nat × Nat) := (List.range n).flatMap (rowP N)
abbrev allP (N : Nat) : List (Nat × Nat) := belowP N N
theorem belowP_succ (N n : Nat) : belowP N (n + 1) = belowP N n ++ rowP N n := by
  unfold belowP
  rw [List.range_succ, List.flatMap_append]
  simp
theorem belowP_len (N : Nat) : ∀ n, (belowP N n).length ≤ n * N
  | 0 => by simp [belowP]
  | n + 1 => by
    rw [belowP_succ, List.length_append, Nat.succ_mul]
    have := belowP_len N n
    have : (rowP N n).length = N - (n + 1) := by simp [rowP]
    omega
theorem mem_belowP {N n : Nat} {p : Nat × Nat} (h : p ∈ belowP N n) : p.1 < n ∧ p.1 < p.2 ∧ p.2 < N := by
  unfold belowP rowP at h
  rw [List.mem_flatMap] at h
  obtain ⟨i, hi, h⟩ := h
  obtain ⟨l, hl, rfl⟩ := List.mem_map.mp h
  rw [List.mem_range] at hi hl
  refine ⟨hi, ?_, ?_⟩
  · show i < i + 1 + l
    omega
  · show i + 1 + l < N
    omega
def PrAt (p : Nat × Nat) (y : V) (H : Hp) : Prop := ∃ t : Addr, y = .ref t ∧ H t = some (.tup [.int p.1, .int p.2])
theorem PrAt.later {p : Nat × Nat} {y : V} {H H' : Hp} (h : PrAt p y H) (e : Ex H H') : PrAt p y H' := by
  obtain ⟨t, rfl, h⟩ := h
  exact ⟨t, rfl, e _ _ h⟩
theorem PrAt.stay {p : Nat × Nat} {y : V} {H : Hp} {D : Addr} {zs : List V} {o : HO} (h : PrAt p y H) (hD : H D = some (.lst zs)) : PrAt p y (upd H D o) := by
  obtain ⟨t, rfl, h⟩ := h
  refine ⟨t, rfl, (upd_ne fun z => ?_).trans h⟩
  rw [z, hD] at h
  exact nomatch h
theorem yes_go {σ : L2.St} {H : Hp} {A B : Hp → Prop} (h : A H) : tYes σ H (fun b H3 => if b = true then A H3 else B H3) := by
  have e : (if true = true then A H else B H) := by
    rw [if_pos rfl]
    exact h
  exact e
/-- [(i, j) for i in range(N) for j in range(i + 1, N)] -/
theorem evx_lcPairs {ta ta2 : TA} {i j : Nat} {vs vs1 : List Nat} {N : Nat} (h : EvA ta σ H [.int (N : Int)]) (hN : N ≤ 200) (hw : ∀ x, wipe ((wipe σ vs).set i (some x)) vs = wipe σ vs)
    (hw1 : ∀ x y, wipe ((wipe ((wipe σ vs).set i (some x)) vs1).set j (some y)) vs1 = wipe ((wipe σ vs).set i (some x)) vs1)
    (h2 : ∀ (n : Nat) H', n < N → Ex H H' → EvA ta2 ((wipe σ vs).set i (some (.int (n : Int)))) H' [.int ((n : Int) + 1), .int (N : Int)])
    (he : ∀ (n l : Nat) H', Ex H H' → EvU te ((wipe ((wipe σ vs).set i (some (.int (n : Int)))) vs1).set j (some (.int ((n : Int) + 1 + l)))) H' [.int (n : Int), .int ((n : Int) + 1 + l)]) :
    EvX (tLc2 (iRng1 ta) (gName i) tYes (iRng2 ta2) (gName j) tYes te vs vs1) σ H (fun v H' => ∃ (D : Addr) (ys : List V), v = .ref D ∧ H D = none ∧ H' D = some (.lst ys) ∧ Paired (fun p y => PrAt p y H') (allP N) ys) := fun H0 e Q q => by
  refine h H0 e _ fun H1 e1 => ⟨(N : Int), rfl, by omega, by omega, fun D hD => ?_⟩
  let Acc : List (Nat × Nat) → Hp → Prop := fun ps H' => Ex H1 H' ∧ ∃ ys : List V, H' D = some (.lst ys) ∧ Paired (fun p y => PrAt p y H') ps ys
  refine ⟨fun n m H' => m = N - n ∧ n ≤ N ∧ Acc (belowP N n) H', ⟨N, rfl, Nat.zero_le _, Ex.new hD, [], upd_same, .nil⟩, ?_⟩
  rintro n m H' ⟨rfl, hn, e2, ys, hys, pr⟩
  by_cases lt : n < N
  · refine .inr ⟨by show n < (N : Int).toNat; omega, fun H2 => n + 1 ≤ N ∧ Acc (belowP N (n + 1)) H2, fun H2 p2 => ⟨N - (n + 1), by omega, rfl, p2⟩, fun x H2 y => ?_⟩
    obtain ⟨rfl, rfl⟩ := y
    have e02 := (e.trans e1).trans e2
    show wipe _ vs = _ ∧ _
    rw [show (0 : Int) + (n : Int) = (n : Int) by omega]
    refine ⟨hw _, ?_⟩
    refine yes_go ?_
    refine h2 n _ lt e02 _ (Ex.refl _) _ fun H3 e3 => ⟨(n : Int) + 1, (N : Int), rfl, ⟨by omega, by omega, by omega, by omega⟩, ?_⟩
    refine ⟨fun l k H4 => k = (N - (n + 1)) - l ∧ l ≤ N - (n + 1) ∧ Acc (belowP N n ++ (List.range l).map fun l => (n, n + 1 + l)) H4, ⟨_, rfl, Nat.zero_le _, e2.trans e3, ys, e3 _ _ hys, ?_⟩, ?_⟩
    · rw [List.range_zero, List.map_nil, List.append_nil]
      exact paired_mono (fun a b r => r.later e3) pr
    rintro l k H4 ⟨rfl, hl, e4, zs, hzs, pz⟩
    by_cases lt2 : l < N - (n + 1)
    · refine .inr ⟨by show l < ((N : Int) - ((n : Int) + 1)).toNat; omega, fun H5 => l + 1 ≤ N - (n + 1) ∧ Acc (belowP N n ++ (List.range (l + 1)).map fun l => (n, n + 1 + l)) H5, fun H5 p5 => ⟨(N - (n + 1)) - (l + 1), by omega, rfl, p5⟩, fun x H5 y => ?_⟩
      obtain ⟨rfl, rfl⟩ := y
      refine ⟨hw1 _ _, ?_⟩
      refine yes_go ?_
      refine he n l _ ((e.trans e1).trans e4) _ (Ex.refl _) _ fun t H6 _ e6 h6 => ?_
      have hz6 := e6 _ _ hzs
      have zl : zs.length ≤ 40400 := by
        have a1 := Paired.length pz
        have a2 := belowP_len N n
        rw [List.length_append, List.length_map, List.length_range] at a1
        have a3 : n * N ≤ 200 * 200 := Nat.mul_le_mul (by omega) hN
        omega
      refine ⟨zs, hz6, sz_lt (by omega), lt2, Ex.mut (e4.trans e6) hD, zs ++ [.ref t], upd_same, ?_⟩
      rw [List.range_succ, List.map_append, ← List.append_assoc]
      refine paired_app (paired_mono (fun a b r => (r.later e6).stay hz6) pz) (.cons ?_ .nil)
      refine PrAt.stay ⟨t, rfl, ?_⟩ hz6
      rw [h6]
      show some (HO.tup [.int (n : Int), .int ((n : Int) + 1 + (l : Int))]) = some (HO.tup [.int (n : Int), .int ((n + 1 + l : Nat) : Int)])
      rw [show ((n + 1 + l : Nat) : Int) = (n : Int) + 1 + (l : Int) by omega]
    · obtain rfl : l = N - (n + 1) := by omega
      refine .inl ⟨by show ((N : Int) - ((n : Int) + 1)).toNat ≤ N - (n + 1); omega, lt, e4, zs, hzs, ?_⟩
      rw [belowP_succ]
      exact pz
  · obtain rfl : n = N := by omega
    exact .inl ⟨by show (n : Int).toNat ≤ n; omega, q _ _ (e1.trans e2) ⟨D, ys, rfl, fresh_back (e.trans e1) hD, hys, pr⟩⟩
def allG (M N : Nat) : List (Nat × Nat) := (List.range M).flatMap fun i => (List.range N).map fun j => (i, j)
theorem allG_succ (M N : Nat) : allG (M + 1) N = allG M N ++ (List.range N).map fun j => (M, j) := by
  unfold allG
  rw [List.range_succ, List.flatMap_append]
  simp
theorem allG_len : ∀ M N, (allG M N).length ≤ M * N
  | 0, N => by simp [allG]
  | M + 1, N => by
    rw [allG_succ, List.length_append, Nat.succ_mul, List.length_map, List.length_range]
    have := allG_len M N
    omega
theorem mem_allG {M N : Nat} {p : Nat × Nat} (h : p ∈ allG M N) : p.1 < M ∧ p.2 < N := by
  unfold allG at h
  rw [List.mem_flatMap] at h
  obtain ⟨i, hi, h⟩ := h
  obtain ⟨j, hj, rfl⟩ := List.mem_map.mp h
  exact ⟨List.mem_range.mp hi, List.mem_range.mp hj⟩
/-- [(i, j) for i in range(M) for j in range(N)] -/
theorem evx_lcGrid {ta ta2 : TA} {i j : Nat} {vs vs1 : List Nat} {M N : Nat} (h : EvA ta σ H [.int (M : Int)]) (hM : M ≤ 200) (hN : N ≤ 200) (hw : ∀ x, wipe ((wipe σ vs).set i (some x)) vs = wipe σ vs)
    (hw1 : ∀ x y, wipe ((wipe ((wipe σ vs).set i (some x)) vs1).set j (some y)) vs1 = wipe ((wipe σ vs).set i (some x)) vs1)
    (h2 : ∀ (n : Nat) H', n < M → Ex H H' → EvA ta2 ((wipe σ vs).set i (some (.int (n : Int)))) H' [.int (N : Int)])
    (he : ∀ (n l : Nat) H', Ex H H' → EvU te ((wipe ((wipe σ vs).set i (some (.int (n : Int)))) vs1).set j (some (.int (l : Int)))) H' [.int (n : Int), .int (l : Int)]) :
    EvX (tLc2 (iRng1 ta) (gName i) tYes (iRng1 ta2) (gName j) tYes te vs vs1) σ H (fun v H' => ∃ (D : Addr) (ys : List V), v = .ref D ∧ H D = none ∧ H' D = some (.lst ys) ∧ Paired (fun p y => PrAt p y H') (allG M N) ys) := fun H0 e Q q => by
  refine h H0 e _ fun H1 e1 => ⟨(M : Int), rfl, by omega, by omega, fun D hD => ?_⟩
  let Acc : List (Nat × Nat) → Hp → Prop := fun ps H' => Ex H1 H' ∧ ∃ ys : List V, H' D = some (.lst ys) ∧ Paired (fun p y => PrAt p y H') ps ys
  refine ⟨fun n m H' => m = M - n ∧ n ≤ M ∧ Acc (allG n N) H', ⟨M, rfl, Nat.zero_le _, Ex.new hD, [], upd_same, .nil⟩, ?_⟩
  rintro n m H' ⟨rfl, hn, e2, ys, hys, pr⟩
  by_cases lt : n < M
  · refine .inr ⟨by show n < (M : Int).toNat; omega, fun H2 => n + 1 ≤ M ∧ Acc (allG (n + 1) N) H2, fun H2 p2 => ⟨M - (n + 1), by omega, rfl, p2⟩, fun x H2 y => ?_⟩
    obtain ⟨rfl, rfl⟩ := y
    have e02 := (e.trans e1).trans e2
    show wipe _ vs = _ ∧ _
    rw [show (0 : Int) + (n : Int) = (n : Int) by omega]
    refine ⟨hw _, ?_⟩
    refine yes_go ?_
    refine h2 n _ lt e02 _ (Ex.refl _) _ fun H3 e3 => ⟨(N : Int), rfl, by omega, by omega, ?_⟩
    refine ⟨fun l k H4 => k = N - l ∧ l ≤ N ∧ Acc (allG n N ++ (List.range l).map fun l => (n, l)) H4, ⟨_, rfl, Nat.zero_le _, e2.trans e3, ys, e3 _ _ hys, ?_⟩, ?_⟩
    · rw [List.range_zero, List.map_nil, List.append_nil]
      exact paired_mono (fun a b r => r.later e3) pr
    rintro l k H4 ⟨rfl, hl, e4, zs, hzs, pz⟩
    by_cases lt2 : l < N
    · refine .inr ⟨by show l < (N : Int).toNat; omega, fun H5 => l + 1 ≤ N ∧ Acc (allG n N ++ (List.range (l + 1)).map fun l => (n, l)) H5, fun H5 p5 => ⟨N - (l + 1), by omega, rfl, p5⟩, fun x H5 y => ?_⟩
      obtain ⟨rfl, rfl⟩ := y
      rw [show (0 : Int) + (l : Int) = (l : Int) by omega]
      refine ⟨hw1 _ _, ?_⟩
      refine yes_go ?_
      refine he n l _ ((e.trans e1).trans e4) _ (Ex.refl _) _ fun t H6 _ e6 h6 => ?_
      have hz6 := e6 _ _ hzs
      have zl : zs.length ≤ 40400 := by
        have a1 := Paired.length pz
        have a2 := allG_len n N
        rw [List.length_append, List.length_map, List.length_range] at a1
        have a3 : n * N ≤ 200 * 200 := Nat.mul_le_mul (by omega) hN
        omega
      refine ⟨zs, hz6, sz_lt (by omega), lt2, Ex.mut (e4.trans e6) hD, zs ++ [.ref t], upd_same, ?_⟩
      rw [List.range_succ, List.map_append, ← List.append_assoc]
      refine paired_app (paired_mono (fun a b r => (r.later e6).stay hz6) pz) (.cons ?_ .nil)
      exact PrAt.stay ⟨t, rfl, h6⟩ hz6
    · obtain rfl : l = N := by omega
      refine .inl ⟨by show (l : Int).toNat ≤ l; omega, lt, e4, zs, hzs, ?_⟩
      rw [allG_succ]
      exact pz
  · obtain rfl : n = M := by omega
    exact .inl ⟨by show (n : Int).toNat ≤ n; omega, q _ _ (e1.trans e2) ⟨D, ys, rfl, fresh_back (e.trans e1) hD, hys, pr⟩⟩
/-- (e, f, something new) -/
theorem evx_tup3 {tc : TE} {v1 v2 : V} {R3 : V → Hp → Prop} (h1 : Ev ta σ H v1) (h2 : Ev tb σ H v2) (h3 : EvX tc σ H R3) : EvX (tTup (tCons ta (tCons tb (tCons tc tNil)))) σ H (fun v H' => ∃ (t : Addr) (v3 : V) (H3 : Hp), v = .ref t ∧ H' t = some (.tup [v1, v2, v3]) ∧ R3 v3 H3 ∧ Ex H3 H') := fun H0 e Q q =>
  h1 H0 e _ fun H1 e1 => h2 H1 (e.trans e1) _ fun H2 e2 => h3 H2 ((e.trans e1).trans e2) _ fun v3 H3 e3 r => ⟨sz_of (by simp), fun t ht => q _ _ (((e1.trans e2).trans e3).trans (Ex.new ht)) ⟨t, v3, H3, rfl, upd_same, r, Ex.new ht⟩⟩
/-- a call, its third argument something new -/
theorem evx_callM {Dd : Hp → List V → (V → Hp → Prop) → Prop} {E : XK} {t1 t2 t3 : TE} {tr : TA} {v1 v2 : V} {vs : List V} {R3 : Hp → V → Hp → Prop} (h1 : Ev t1 σ H v1) (h2 : Ev t2 σ H v2) (h3 : ∀ H1, Ex H H1 → EvX t3 σ H1 (R3 H1)) (h4 : EvA tr σ H vs)
    (hs : ∀ v3 H1 H2 H3, Ex H H1 → Ex H1 H2 → R3 H1 v3 H2 → Ex H2 H3 → ∃ R1, Dd H3 (v1 :: v2 :: v3 :: vs) R1 ∧ ∀ v H4, Ex H3 H4 → R1 v H4 → R v H4) : EvX (tCall (SpR Dd) [] E (tCons t1 (tCons t2 (tCons t3 tr)))) σ H R := fun H0 e Q q =>
  h1 H0 e _ fun H1 e1 => h2 H1 (e.trans e1) _ fun H2 e2 => h3 H2 ((e.trans e1).trans e2) H2 (Ex.refl H2) _ fun v3 H3 e3 r3 => h4 H3 (((e.trans e1).trans e2).trans e3) _ fun H4 e4 => by
    obtain ⟨R1, d, k⟩ := hs v3 H2 H3 H4 ((e.trans e1).trans e2) e3 r3 e4
    exact ⟨R1, by rw [List.append_nil]; exact d, fun v H5 e5 r => q v H5 ((((e1.trans e2).trans e3).trans e4).trans e5) (k v H5 e5 r)⟩
end
/-! ### told pairs -/
abbrev shW (kd : Str) (kvs : List (Key × V)) (us us2 : List (List Str)) (p : Nat × Nat) : Int × Int := shareW kd kvs (us.getD p.1 []) (us2.getD p.2 [])
def TriR (kd : Str) (kvs : List (Key × V)) (us us2 : List (List Str)) (p : Nat × Nat) (y : V) (H : Hp) : Prop := ∃ t : Addr, y = .ref t ∧ PairAt H t p.1 p.2 (shW kd kvs us us2 p)
theorem TriR.later {kd : Str} {kvs : List (Key × V)} {us us2 : List (List Str)} {p : Nat × Nat} {y : V} {H H' : Hp} (h : TriR kd kvs us us2 p y H) (e : Ex H H') : TriR kd kvs us us2 p y H' := by
  obtain ⟨t, rfl, h⟩ := h
  exact ⟨t, rfl, h.later e⟩
theorem TriR.stay {kd : Str} {kvs : List (Key × V)} {us us2 : List (List Str)} {p : Nat × Nat} {y : V} {H : Hp} {D : Addr} {zs : List V} {o : HO} (h : TriR kd kvs us us2 p y H) (hD : H D = some (.lst zs)) : TriR kd kvs us us2 p y (upd H D o) := by
  obtain ⟨t, rfl, h⟩ := h
  exact ⟨t, rfl, h.stay hD⟩
theorem pairs_of {kd : Str} {l : Int × Int} {kvs : List (Key × V)} {us : List (List Str)} {D : Addr} {H : Hp} : ∀ {ps : List (Nat × Nat)} {ys : List V}, Paired (fun p y => TriR kd kvs us us p y H) ps ys →
    ∃ tr : List (Addr × Nat × Nat), ys = tr.map (fun x => V.ref x.1) ∧ tr.map (·.2) = ps ∧ ∀ x ∈ tr, PairAt H x.1 x.2.1 x.2.2 (shareW kd kvs (us.getD x.2.1 []) (us.getD x.2.2 []))
  | _, _, .nil => ⟨[], rfl, rfl, fun _ m => nomatch m⟩
  | p :: ps, _, .cons h r => by
    obtain ⟨t, rfl, ht⟩ := h
    obtain ⟨tr, rfl, rfl, h3⟩ := pairs_of (l := l) (D := D) r
    refine ⟨(t, p) :: tr, rfl, rfl, fun x m => ?_⟩
    rcases List.mem_cons.mp m with rfl | m
    · exact ht
    · exact h3 x m
theorem rowUp_row {kd : Str} {l : Int × Int} {kvs : List (Key × V)} {us : List (List Str)} {N i : Nat} (h : i < N) : (rowP N i).filter (fun p => reachB (shW kd kvs us us p) l) = rowUp kd l kvs us i N := by
  have e : List.range N = List.range (i + 1) ++ (List.range (N - (i + 1))).map (i + 1 + ·) := by
    rw [← List.range_add]
    congr 1
    omega
  have z : (List.range (i + 1)).filter (fun j => decide (i < j) && reachB (shareW kd kvs (us.getD i []) (us.getD j [])) l) = [] := List.filter_eq_nil_iff.mpr fun j hj z => by
    have := List.mem_range.mp hj
    rw [decide_eq_false (show ¬ i < j by omega)] at z
    exact nomatch z
  unfold rowUp rowP
  rw [e, List.filter_append, List.map_append, z, List.map_nil, List.nil_append, List.filter_map, List.filter_map, List.map_map]
  congr 1
  refine List.filter_congr fun k _ => ?_
  simp only [Function.comp_apply]
  rw [decide_eq_true (show i < i + 1 + k by omega), Bool.true_and]
theorem pairsUp_all {kd : Str} {l : Int × Int} {kvs : List (Key × V)} {us : List (List Str)} : (allP us.length).filter (fun p => reachB (shW kd kvs us us p) l) = pairsUp kd l kvs us us.length := by
  have k : ∀ n, n ≤ us.length → (belowP us.length n).filter (fun p => reachB (shW kd kvs us us p) l) = pairsUp kd l kvs us n := by
    intro n
    induction n with
    | zero => intro _; rfl
    | succ n ih =>
      intro hn
      rw [belowP_succ, List.filter_append, ih (by omega), rowUp_row (by omega), pairsUp_succ]
  exact k _ (Nat.le_refl _)
end MuLc

namespace MuTri
open PySem PySem.Spec PyProof.Rows L2 Evl MuK
/-! ### what is told, as data -/
abbrev Told := List ((Nat × Nat) × (Int × Int))
def toldL (kd : Str) (l : Int × Int) (kvs : List (Key × V)) (us : List (List Str)) : Told := (pairsUp kd l kvs us us.length).map fun x => (x, shareW kd kvs (us.getD x.1 []) (us.getD x.2 []))
def TrisAt (bs : Told) (p : Addr) (H : Hp) : Prop := ∃ cs : List Tri, H p = some (.lst (cs.map fun c => V.ref c.1)) ∧ cs.map (·.2) = bs ∧ ∀ c ∈ cs, PairAt H c.1 c.2.1.1 c.2.1.2 c.2.2
theorem TrisAt.later {bs : Told} {p : Addr} {H H' : Hp} (h : TrisAt bs p H) (e : Ex H H') : TrisAt bs p H' := by
  obtain ⟨cs, h1, h2, h3⟩ := h
  exact ⟨cs, e _ _ h1, h2, fun c m => (h3 c m).later e⟩
theorem pairs_tri {kd : Str} {l : Int × Int} {kvs : List (Key × V)} {us : List (List Str)} {ix : List (Nat × Nat)} {p : Addr} {H : Hp} (h : PairsAt kd l kvs us ix p H) : TrisAt (ix.map fun x => (x, shareW kd kvs (us.getD x.1 []) (us.getD x.2 []))) p H := by
  obtain ⟨tr, h1, h2, h3⟩ := h
  refine ⟨tr.map fun x => (x.1, x.2, shareW kd kvs (us.getD x.2.1 []) (us.getD x.2.2 [])), ?_, ?_, fun c hc => ?_⟩
  · rw [List.map_map]
    exact h1
  · rw [List.map_map, ← h2, List.map_map]
    rfl
  · obtain ⟨x, hx, rfl⟩ := List.mem_map.mp hc
    exact h3 x hx
def tD (b : (Nat × Nat) × (Int × Int)) : PyData := .tuple [.int b.1.1, .int b.1.2, .tuple [.int b.2.1, .int b.2.2]]
theorem tris_lay : ∀ bs : Told, PyData.canLayAll0 (bs.map tD) = true ∧ PyData.depthAll (bs.map tD) ≤ 2
  | [] => ⟨rfl, by show 0 ≤ 2; decide⟩
  | x :: r => by
    have ih := tris_lay r
    have e1 : (tD x).canLay0 = true := by simp [tD, PyData.canLay0, PyData.canLayAll0]
    have e2 : (tD x).depth = 2 := by simp [tD, PyData.depth, PyData.depthAll]
    refine ⟨?_, ?_⟩
    · show PyData.canLayAll0 (tD x :: r.map tD) = true
      rw [PyData.canLayAll0, e1, ih.1]
      rfl
    · show PyData.depthAll (tD x :: r.map tD) ≤ 2
      rw [PyData.depthAll, e2]
      omega
theorem tris_shaped (bs : Told) : SeqAt.shaped (.list (bs.map tD)) = true ∧ (PyData.list (bs.map tD)).canLay0 = true := by
  have h := tris_lay bs
  have e : (PyData.list (bs.map tD)).canLay0 = true := by
    rw [PyData.canLay0]
    exact h.1
  refine ⟨?_, e⟩
  unfold SeqAt.shaped
  rw [e, PyData.depth]
  simp
  omega
theorem tris_dp {K : PySem.W.Frag} {bs : Told} {p : Addr} {H : Hp} (h : TrisAt bs p H) : Dp K H (.ref p) (.list (bs.map tD)) := by
  obtain ⟨cs, h1, h2, h3⟩ := h
  refine .lst (sq_of h1) ?_
  rw [← h2]
  clear h1 h2
  induction cs with
  | nil => exact .nil
  | cons x r ih =>
    obtain ⟨q, a, b⟩ := h3 x List.mem_cons_self
    exact .cons (.tup (st_of a) (.cons (.int _) (.cons (.int _) (.cons (.tup (st_of b) (.cons (.int _) (.cons (.int _) .nil))) .nil)))) (ih fun y m => h3 y (List.mem_cons_of_mem _ m))
section
variable {K : PySem.W.Frag} {σ : L2.St} {H H' : Hp} {ta tb te td ty tl : TE} {t : TT} {x y z v : V}
abbrev RTold (bs : Told) : V → Hp → Prop := fun v H' => ∃ p : Addr, v = .ref p ∧ TrisAt bs p H'
theorem evx_told {i : Nat} {p : Addr} {bs : Told} (h : σ[i]? = some (some (.ref p))) (hp : TrisAt bs p H) : EvX (tVar i) σ H (RTold bs) := evx_mono (evx_of (ev_var h)) fun v H1 e r => ⟨p, r, hp.later e⟩
theorem ev_neTri {bs : Told} (ha : EvX ta σ H (RTold bs)) (hb : ∀ H1, Ex H H1 → EvX tb σ H1 (RTold bs)) : Ev (tOp (rNeD K) ta tb) σ H (.bl false) :=
  ev_neX ha (fun _ H1 e _ => hb H1 e) fun v1 H1 v2 H2 _ r1 e2 r2 => by
    obtain ⟨p, rfl, hp⟩ := r1
    obtain ⟨q, rfl, hq⟩ := r2
    exact ⟨_, tris_dp (hp.later e2), tris_dp hq, (tris_shaped bs).1, (tris_shaped bs).2⟩
theorem ev_eqTri {bs : Told} (ha : EvX ta σ H (RTold bs)) (hb : ∀ H1, Ex H H1 → EvX tb σ H1 (RTold bs)) : Ev (tOp (rEqD K) ta tb) σ H (.bl true) :=
  ev_eqX ha (fun _ H1 e _ => hb H1 e) fun v1 H1 v2 H2 _ r1 e2 r2 => by
    obtain ⟨p, rfl, hp⟩ := r1
    obtain ⟨q, rfl, hq⟩ := r2
    exact ⟨_, tris_dp (hp.later e2), tris_dp hq, (tris_shaped bs).1, (tris_shaped bs).2⟩
theorem evx_L {xs : List V} (h : EvL te σ H xs) : EvX te σ H (fun v H' => ∃ p : Addr, v = .ref p ∧ H p = none ∧ H' p = some (.lst xs)) := fun H1 e Q q => h H1 e _ fun p H2 hp e2 h2 => q _ _ e2 ⟨p, rfl, fresh_back e hp, h2⟩
theorem given_keep {cs : List Tri} {g : (Nat × Nat) × (Int × Int) → Bool} : ∀ n, n ≤ cs.length → given n (fun i => g (cs.getD i (0, (0, 0), (0, 0))).2) (fun i => .ref (cs.getD i (0, (0, 0), (0, 0))).1) = ((cs.take n).filter fun c => g c.2).map fun c => V.ref c.1
  | 0, _ => rfl
  | n + 1, h => by
    have ih := given_keep (cs := cs) (g := g) n (by omega)
    have lt : n < cs.length := by omega
    have e : cs.getD n (0, (0, 0), (0, 0)) = cs[n] := by simp [List.getD_eq_getElem?_getD, lt]
    unfold given at ih ⊢
    rw [List.range_succ, List.filter_append, List.map_append, ih, List.take_add_one, List.getElem?_eq_getElem lt, List.filter_append, List.map_append]
    congr 1
    cases c : g cs[n].2 <;> simp [List.filter_cons, lt, c]
/-- [x for x in bs if ..] -/
theorem evx_lcKeep {a : Addr} {bs : Told} {g : (Nat × Nat) × (Int × Int) → Bool} {j : Nat} {vs : List Nat} (h : Ev tl σ H (.ref a)) (hx : TrisAt bs a H) (hz : bs.length ≤ 40000) (hw : ∀ x, wipe ((wipe σ vs).set j (some x)) vs = wipe σ vs) (hj : ∀ x, ((wipe σ vs).set j (some x))[j]? = some (some x))
    (ht : ∀ c : Tri, c.2 ∈ bs → PairAt H c.1 c.2.1.1 c.2.1.2 c.2.2 → ∀ H1, Ex H H1 → EvT t ((wipe σ vs).set j (some (.ref c.1))) H1 (g c.2)) : EvX (tLc (iList K tl) (gName j) t (tVar j) vs) σ H (RTold (bs.filter g)) := by
  obtain ⟨cs, h1, h2, h3⟩ := hx
  have zc : cs.length = bs.length := by rw [← h2, List.length_map]
  have at_ : ∀ {i : Nat} {x : V}, (cs.map fun c => V.ref c.1)[i]? = some x → ∃ c, c ∈ cs ∧ x = .ref c.1 ∧ cs.getD i (0, (0, 0), (0, 0)) = c := fun {i x} hi => by
    rw [List.getElem?_map] at hi
    cases y : cs[i]? with
    | none =>
      rw [y] at hi
      exact nomatch hi
    | some c =>
      rw [y] at hi
      exact ⟨c, List.mem_of_getElem? y, (Option.some.inj hi).symm, by rw [List.getD_eq_getElem?_getD, y]; rfl⟩
  refine evx_mono (evx_L (el_lcL (K := K) (xs := cs.map fun c => V.ref c.1) (a := a) (fun i => g (cs.getD i (0, (0, 0), (0, 0))).2) (fun i => .ref (cs.getD i (0, (0, 0), (0, 0))).1) h (sq_of h1) (by rw [List.length_map]; omega) hw (fun i x H1 e hi => ?_) (fun i x H1 e hi _ => ?_))) fun v H1 e r => ?_
  · obtain ⟨c, mc, rfl, ec⟩ := at_ hi
    rw [ec]
    exact ht c (h2 ▸ List.mem_map.mpr ⟨c, mc, rfl⟩) (h3 c mc) H1 e
  · obtain ⟨c, mc, rfl, ec⟩ := at_ hi
    rw [ec]
    exact ev_var (hj _)
  · obtain ⟨p, rfl, _, hp⟩ := r
    rw [List.length_map, given_keep cs.length (Nat.le_refl _), List.take_length] at hp
    refine ⟨p, rfl, cs.filter fun c => g c.2, hp, ?_, fun c hc => (h3 c (List.mem_filter.mp hc).1).later e⟩
    rw [← h2, List.filter_map]
    rfl
end
/-! ### what is told of two lots -/
theorem told_len (kd : Str) (l : Int × Int) (kvs : List (Key × V)) (us : List (List Str)) : (toldL kd l kvs us).length ≤ us.length * us.length := by
  unfold toldL
  rw [List.length_map]
  exact pairsUp_len kd l kvs us us.length
theorem told_same {kd : Str} {l : Int × Int} {kvs kv2 : List (Key × V)} {us us2 : List (List Str)} (hl : us2.length = us.length)
    (h : ∀ i j, i < j → j < us.length → shareW kd kv2 (us2.getD i []) (us2.getD j []) = shareW kd kvs (us.getD i []) (us.getD j [])) : toldL kd l kv2 us2 = toldL kd l kvs us := by
  unfold toldL
  rw [(pairs_same hl h).1]
  refine List.map_congr_left fun x hx => ?_
  obtain ⟨_, h1, h2, _⟩ := mem_pairsUp.mp hx
  rw [h x.1 x.2 h1 h2]
theorem told_more {kd : Str} {l : Int × Int} {kvs : List (Key × V)} {us : List (List Str)} {w : List Str} : (toldL kd l kvs (us ++ [w])).filter (fun x => decide (x.1.2 < us.length)) = toldL kd l kvs us := by
  unfold toldL
  rw [List.filter_map]
  have e : (pairsUp kd l kvs (us ++ [w]) (us ++ [w]).length).filter ((fun x : (Nat × Nat) × (Int × Int) => decide (x.1.2 < us.length)) ∘ fun x => (x, shareW kd kvs ((us ++ [w]).getD x.1 []) ((us ++ [w]).getD x.2 []))) = pairsUp kd l kvs us us.length := pairs_more
  rw [e]
  refine List.map_congr_left fun x hx => ?_
  obtain ⟨h0, _, h2, _⟩ := mem_pairsUp.mp hx
  have g : ∀ i, i < us.length → (us ++ [w]).getD i [] = us.getD i [] := fun i hi => by
    rw [List.getD_eq_getElem?_getD, List.getD_eq_getElem?_getD, List.getElem?_append_left hi]
  rw [g _ h0, g _ h2]
theorem told_less {kd : Str} {l l2 : Int × Int} {kvs : List (Key × V)} {us : List (List Str)} (h : ∀ i j, i < j → j < us.length → reachB (shareW kd kvs (us.getD i []) (us.getD j [])) l2 = true → reachB (shareW kd kvs (us.getD i []) (us.getD j [])) l = true) :
    (toldL kd l kvs us).filter (fun x => reachB x.2 l2) = toldL kd l2 kvs us := by
  unfold toldL
  rw [List.filter_map]
  have e := pairs_less h
  rw [← e]
  rfl
theorem told_mem {kd : Str} {l : Int × Int} {kvs : List (Key × V)} {us : List (List Str)} {x : (Nat × Nat) × (Int × Int)} (h : x ∈ toldL kd l kvs us) : x.1.1 < us.length ∧ x.1.1 < x.1.2 ∧ x.1.2 < us.length ∧ x.2 = shareW kd kvs (us.getD x.1.1 []) (us.getD x.1.2 []) := by
  obtain ⟨y, hy, rfl⟩ := List.mem_map.mp h
  obtain ⟨h0, h1, h2, _⟩ := mem_pairsUp.mp hy
  exact ⟨h0, h1, h2, rfl⟩
end MuTri

namespace MuKv
open PySem PySem.Spec PyProof.Rows L2
/-! ### d.keys() as a value, sorted -/
def KvO (P : Program) (w : World) (v d : Addr) : HO := .ext fun h => PySem.W.KdlKeysView h v d
section
variable {X : Cx} {pins : List (Addr × Obj)} {σ : L2.St} {H : Hp} {s : Shared} {a : Addr}
theorem kv_new {P : Program} {w : World} {H : Hp} {h : Heap} {v d : Addr} (R : PySem.W.KdlKeysView h v d) : ObjOk P w H h v (KvO P w v d) := by
  have ⟨o, ho, r⟩ := R
  exact ⟨R, ⟨_, ho⟩, fun h1 h2 ⟨o, p, q⟩ k => ⟨o, k _ p, q⟩⟩
theorem kv_get {v d : Addr} (I : Inv X pins σ H s) (ha : H v = some (KvO X.prog X.w v d)) : PySem.W.KdlKeysView s.heap v d := (I.hok v _ ha).1
def rKeysV (P : Program) (w : World) : V → List V → Hp → VK → Prop := fun x xs H Q => ∃ (d : Addr) (kvs : List (Key × V)), x = .ref d ∧ xs = [] ∧ Rd H d (.dK kvs) ∧
  ∀ v, H v = none → Q (.ref v) (upd H v (KvO P w v d))
theorem mt_keysV : MtR X "dict.keys" (rKeysV X.prog X.w) := by
  intro pins s σ H x xs v us Q I rx rxs h
  obtain ⟨d, kvs, rfl, rfl, hd, q⟩ := h
  cases rx
  cases rxs
  obtain ⟨_, hsys, vs, rel, dd⟩ := dk_rd I.hok hd
  refine call_meetsIn PySem.F.slot_dict_keys dd.typeIs PySem.F.entry_dict_keys (PySem.F.args_dict_keys_1 _) (PySem.W.kdl_meets_keys (mixKind X.prog X.w) d hsys) ⟨⟨_, dd⟩, ?_⟩
  have k : ∀ (b : Addr) (u : Obj), s.heap.get? b = some u → (s.heap.push { cls := .type "dict_keys", data := .fields #[.ref d] }).get? b = some u := fun b u e => Heap.get?_push_of_some _ e
  have R : PySem.W.KdlKeysView (s.heap.push { cls := .type "dict_keys", data := .fields #[.ref d] }) s.heap.objs.size d := ⟨_, Heap.get?_push_size _ rfl, rfl, rfl⟩
  exact ⟨.ref _, upd H s.heap.objs.size (KvO X.prog X.w s.heap.objs.size d), I.laid (t' := s.toks) k (Nat.le_refl _) (kv_new R), rfl, q _ (I.hok.fresh (Nat.le_refl _))⟩
def rSortedKv (P : Program) (w : World) : List V → Hp → VK → Prop := fun vs H Q => ∃ (v d : Addr) (kvs : List (Key × V)) (ks : List Int), vs = [.ref v] ∧ H v = some (KvO P w v d) ∧ Rd H d (.dK kvs) ∧ kvs.map (·.1) = ks.map Sum.inl ∧ ks.length < 64 ∧
  ∀ (ys : List Int) p, ys.Perm ks → ys.Pairwise (· ≤ ·) → H p = none → Q (.ref p) (upd H p (.lst (ys.map V.int)))
theorem intsAre_of : ∀ {vs : List Value} {ns : List Int}, vs.length = ns.length → (∀ (j : Nat) (v : Value), vs[j]? = some v → ∃ n t, ns[j]? = some n ∧ v = .int n t) → IntsAre vs ns
  | [], [], _, _ => .nil
  | v :: vs, n :: ns, hl, h => by
    obtain ⟨n', t, e, rfl⟩ := h 0 v rfl
    obtain rfl : n = n' := Option.some.inj e
    exact .cons _ _ (intsAre_of (by simpa using hl) fun j v e => h (j + 1) v e)
  | [], _ :: _, hl, _ => by simp at hl
  | _ :: _, [], hl, _ => by simp at hl
/-- what is walked, laid as a list; the heap has grown -/
theorem src_collect {P : Program} {w : World} {A : Around} {E : Value → Shared → Prop} {s : Shared} {T : String} {r d : Addr} {n : Nat} {Pv : Nat → Value → Prop} {OK : Heap → Prop} {R : List Value → Shared → Prop}
    (S : PySem.W.KdlSrc P w T r d n Pv OK) (hh : A.handled = none) (ok : OK s.heap) (ok2 : ∀ o, OK (s.heap.push o)) (hr : r < s.heap.objs.size) (hd : d < s.heap.objs.size) (hz : n ≤ sizeLine)
    (q : ∀ (h' : Heap) (tk : Nat) (acc : Array Value), (∀ b o, s.heap.get? b = some o → h'.get? b = some o) → s.heap.objs.size ≤ h'.objs.size → ItemsOf Pv acc n → R acc.toList { s with heap := h', toks := tk }) :
    wpAny (model P w) A (collect (.ref r)) R E s := by
  have inner : ∀ (R1 : Result → Shared → Prop), (∀ (h' : Heap) (tk : Nat) (acc : Array Value) (c : Nat), (∀ b o, s.heap.get? b = some o → h'.get? b = some o) → h'.get? s.heap.objs.size = some { cls := .type "list", data := .seq acc c } → ItemsOf Pv acc n → R1 (.ok (.ret (.ref s.heap.objs.size))) { s with heap := h', toks := tk }) →
      codeAny (model P w) A (.builtin "proto.collect" ⟨[.ref r], []⟩) R1 s := fun R1 fin => by
    refine codeAny_builtin entry_proto_collect' ?_
    rw [Around.under_plainId PySem.F.plain_proto_collect]
    unfold Builtin.«proto.collect»
    refine wpAny_bind (wpAny_newList ?_ (by decide))
    refine wpAny_pure ⟨Code.quiet_builtin _ (by decide +kernel), codeAny_builtin entry_list_iadd' ?_⟩
    rw [Around.under_plainId PySem.F.plain_list_iadd]
    have hS : (s.heap.push (seqObj "list" #[] 0)).get? s.heap.objs.size = some (seqObj "list" #[] 0) := Heap.get?_push_size _ rfl
    unfold Builtin.«list.__iadd__»
    refine wpAny_bind (wpAny_of_eq (a := (.ref s.heap.objs.size, [.ref r])) (by rfl) ?_)
    exact PySem.W.kdl_extend (R := R1) (s := { s with heap := s.heap.push (seqObj "list" #[] 0) }) S hh (ok2 _) s.heap.objs.size (Ne.symm (Nat.ne_of_lt hr)) (Ne.symm (Nat.ne_of_lt hd)) _ 0 hS (fun h' tk acc c k g hi =>
      fin h' tk acc c (fun b o e => k b o (Nat.ne_of_lt (Heap.lt_size e)) (Heap.get?_push_of_some _ e)) g hi) hz
  unfold collect
  refine wpAny_bind (wpAny_runValue (inner _ fun h' tk acc c k g hi => ?_))
  exact wpAny_bind (wpAny_load g (wpAny_pure (q h' tk acc k (Nat.le_of_lt (Heap.lt_size g)) hi)))
theorem cr_sortedKv (hc : X.calm = true) : CallR X (.builtin "sorted") (rSortedKv X.prog X.w) := by
  intro pins s σ H vs us Q I r h
  obtain ⟨v, d, kvs, ks, rfl, hv, hd, hk, h64, q⟩ := h
  have R := kv_get I hv
  rw [Vals.ref1 r]
  obtain ⟨_, hsys, ws, rel, dd⟩ := dk_rd I.hok hd
  have hlen : ws.length = ks.length := by
    have e := rel.length
    have e2 := congrArg List.length hk
    simp only [List.length_map] at e2
    omega
  obtain ⟨ob, es, ep, ho, hx, hat⟩ := id dd
  refine Calls.call_function_entry kind_sorted plain_sorted entry_sorted (args_sorted1 _) ?_
  unfold Builtin.«sorted»
  refine wpAny_bind (m := checkCount "sorted" 1 1 _) (wpAny_pure ?_)
  refine wpAny_bind (src_collect (A := X.A.in1) (PySem.W.kdl_keys (knd := mixKind X.prog X.w) (d := d) (r := v) (kvs := ws) (ep := ep)) (I.ok.hd hc) ⟨R, ⟨ob, es, ho, hx, hat⟩⟩ (fun o => ⟨R.imp fun _ z => ⟨Heap.get?_push_of_some _ z.1, z.2⟩, ⟨ob, es, Heap.get?_push_of_some _ ho, hx, hat⟩⟩) (by have ⟨_, z, _⟩ := R; exact Heap.lt_size z) (Heap.lt_size ho) (by rw [hlen, sizeLine_eq]; omega) fun h1 tk acc k1 hz1 ⟨hz, hit⟩ => ?_)
  have hI : IntsAre acc.toList ks := by
    refine intsAre_of (by rw [Array.length_toList, hz, hlen]) fun j u e => ?_
    obtain ⟨kk, x, e1, e2⟩ := hit j u (by simpa using e)
    have lt1 := (List.getElem?_eq_some_iff.mp e1).1
    have lt2 : j < kvs.length := by
      have := rel.length
      omega
    obtain ⟨y, hy, hyr⟩ := paired_get rel (List.getElem?_eq_getElem lt2)
    rw [e1] at hy
    obtain rfl := Option.some.inj hy
    have e3 := congrArg (fun z => z[j]?) hk
    simp only [List.getElem?_map, List.getElem?_eq_getElem lt2] at e3
    cases e4 : ks[j]? with
    | none =>
      rw [e4] at e3
      exact nomatch e3
    | some n =>
      rw [e4] at e3
      have e5 : (kvs[j]).1 = Sum.inl n := Option.some.inj e3
      have e6 : kk = Sum.inl n := hyr.1.symm.trans e5
      subst e6
      obtain ⟨t, rfl⟩ := Value.isInt_shape (show Value.isInt n u = true from e2)
      exact ⟨n, t, rfl, rfl⟩
  have hvl : acc.toList.length < 64 := by rw [hI.length]; exact h64
  refine wpAny_bind (wpAny_newList ?_ (by rw [sizeLine_eq]; omega))
  have hoL : (h1.push (seqObj "list" acc.toList.toArray 0)).get? h1.objs.size = some (seqObj "list" acc.toList.toArray 0) := Heap.get?_push_size _ rfl
  refine wpAny_bind (wpAny_holding (wpAny_call_entry slot_list_sort ⟨_, hoL, rfl⟩ entry_list_sort (list_sort_tree hoL hI hvl fun out ys h2 h3 h4 => ⟨_, rfl, ?_⟩) (args_list_sort _)))
  obtain ⟨c, hg⟩ := sortedHeap_at (vs := acc.toList) (out := out) hoL
  have hn : H h1.objs.size = none := I.hok.fresh hz1
  have rv : Vals (ys.map V.int) out.toList := vals_of_ints h2
  have hl2 : (ys.map V.int).length ≤ sizeLine := by
    rw [List.length_map, h3.length_eq, sizeLine_eq]
    omega
  have k : ∀ b u, s.heap.get? b = some u → (sortedHeap (h1.push (seqObj "list" acc.toList.toArray 0)) h1.objs.size acc.toList out).get? b = some u := fun b u e => by
    have z := k1 b u e
    have hlt := Heap.lt_size z
    rw [sortedHeap_old (Nat.ne_of_lt hlt) (by rw [size_push']; exact Nat.lt_succ_of_lt hlt)]
    exact Heap.get?_push_of_some _ z
  refine wpAny_pure ⟨_, rfl, .ref _, _, ?_, rfl, q ys _ h3 h4 hn⟩
  exact I.laid (t' := tk) k hz1 ⟨hl2, out.toList, c, rv, hg⟩
end
end MuKv

namespace MuSI
open PySem PySem.Spec PyProof.Rows L2
/-! ### set(xs), xs a list of whole numbers -/
section
variable {P : Program} {w : World} {A : Around} {E : Value → Shared → Prop} {s : Shared} {h h' : Heap} {a : Addr}
/-- the walked numbers go into the set at S, one after another -/
theorem in_update {I S : Addr} {fp wr : List Addr} {G : Array GenState → Array GenState → Prop} {n : Nat} {Pv : Nat → Value → Prop} {St : Nat → Shared → Prop} {R : Result → Shared → Prop} (W : WalksS P w A.in1 I fp wr G n Pv St) (hS : S ∉ fp)
    (xs : List Int) (hv : ∀ i v, Pv i v → ∃ x t, xs[i]? = some x ∧ v = .int x t) (hn : n = xs.length) (hz : n < 4000) : ∀ (k i : Nat) (s : Shared), n - i = k → i ≤ n → St i s → (∃ (l : Int → Bool) (m : Nat), SetR w s.heap S l m ∧ (∀ j, l j = true ↔ j ∈ xs.take i) ∧ m ≤ i) →
    (∀ s', Moved (S :: wr) G s s' → (∃ (l : Int → Bool) (m : Nat), SetR w s'.heap S l m ∧ (∀ j, l j = true ↔ j ∈ xs) ∧ m ≤ n) → R (.ok (.ret .none)) s') → codeAny (model P w) A (.builtin "set.update.loop" ⟨[.ref S, .ref I], []⟩) R s := by
  have hSw : S ∉ wr := fun z => hS (W.sub _ z)
  have up : ∀ b ∈ wr, b ∈ S :: wr := fun b z => List.mem_cons_of_mem _ z
  intro k
  induction k with
  | zero =>
    intro i s hk hi hst ⟨l, z, T, m, ll⟩ fin
    obtain rfl : i = n := by omega
    refine codeAny_builtin PyProof.Rows.F.entry_set_update_loop ?_
    rw [Around.under_plainId PyProof.Rows.F.plain_set_update_loop _]
    show wpAny _ A.in1 (pyNext (.ref I) >>= _) _ _ s
    refine wpAny_bind (W.done s _ _ hst fun s2 mv => ?_)
    rw [hn, List.take_length] at m
    exact wpAny_pure (fin s2 (mv.mono up) ⟨l, z, T.at fun o e => mv.heap S o hSw e, m, ll⟩)
  | succ k ih =>
    intro i s hk hi hst ⟨l, z, T, m, ll⟩ fin
    have hlt : i < n := by omega
    refine codeAny_builtin PyProof.Rows.F.entry_set_update_loop ?_
    rw [Around.under_plainId PyProof.Rows.F.plain_set_update_loop _]
    show wpAny _ A.in1 (pyNext (.ref I) >>= _) _ _ s
    refine wpAny_bind (W.item i s _ _ hlt hst fun v s2 hp hst2 mv => ?_)
    obtain ⟨x, t, hx, rfl⟩ := hv i v hp
    have T2 : SetR w s2.heap S l z := T.at fun o e => mv.heap S o hSw e
    show wpAny _ A.in1 (holding [Value.int x t] (setAdd S (.int x t)) >>= _) _ _ s2
    refine wpAny_bind (wpAny_holding ?_)
    unfold setAdd
    refine wpAny_holding (wpAny_bind ((PySem.intKind P w).pyHash (k := x) (PySem.intKind_is P w x t) ?_))
    refine setR_add_hashed (s := { s2 with toks := s2.toks + 1 }) (k := x) (tk := t) T2 (by show z + 1 < 4096; omega) fun h3 sb T3 => ?_
    have m4 : ∀ j, (l j || decide (j = x)) = true ↔ j ∈ xs.take (i + 1) := fun j => by
      rw [Bool.or_eq_true, m, List.take_add_one, hx, List.mem_append]
      simp
    refine wpAny_pure ⟨plainId_quiet PyProof.Rows.F.plain_set_update_loop _, ih (i + 1) _ (by omega) hlt (W.frame _ s2 _ _ hst2 (Nat.le_succ _) fun c hc o e => ?_) ⟨_, _, T3, m4, by split <;> omega⟩ fun s4 mv4 R4 => ?_⟩
    · rw [sb.2 c fun z => hS (z ▸ hc)]
      exact e
    · refine fin s4 (Moved.trans W.gtrans ((mv.mono up).then_heap (Nat.le_succ _) fun c o hc e => ?_) mv4) R4
      rw [sb.2 c fun z => hc (by rw [z]; exact List.mem_cons_self)]
      exact e
abbrev newSI (w : World) : Obj := { cls := .type "set", dict := none, data := .set #[] 0 (.fresh 0 0 (!w.params.followText "set-order")) }
set_option maxHeartbeats 8000000 in
theorem in_of_list {p : Addr} {its : Array Value} {xs : List Int} {Q : Value → Shared → Prop} (hh : A.handled = none) (hp : s.heap.IsList p its) (hx : ∀ (i : Nat) (v : Value), its[i]? = some v → ∃ (x : Int) (t : Tok), xs[i]? = some x ∧ v = Value.int x t) (hn : its.size = xs.length) (hz : its.size < 4000)
    (q : ∀ h' tk l m, SetR w h' s.heap.objs.size l m → (∀ j, l j = true ↔ j ∈ xs) → m ≤ xs.length → (∀ b o, s.heap.get? b = some o → h'.get? b = some o) → Q (.ref s.heap.objs.size) { s with heap := h', toks := tk }) : wpAny (model P w) A (call (.type "set") [.ref p]) Q E s := by
  obtain ⟨c0, tl0, hmro⟩ := F.called_set.mro
  have f1 := F.called_set.made; have f2 := F.called_set.sub; have f3 := F.called_set.notType; have f4 := F.called_set.canCreate; have f5 := F.typeCall_set_1 (.ref p)
  refine wpAny_call (codeAny_of_tree ?_)
  show wpAny _ _ (callAny (.type "set") _) _ _ _
  refine wpAny_pure ⟨Code.quiet_builtin _ (by decide +kernel), codeAny_builtin F.entry_type_call ?_⟩
  rw [Around.under_plain (weight_type_call_type "set" [.ref p] []) rfl]
  repeat any_goals (first | assumption | wp_step)
  refine codeAny_mono (code_set_led1 (.ref p) (E := E) (Q₁ := fun ob s1 => ob = .ref s.heap.objs.size ∧ s1 = { s with heap := s.heap.push (newSI w) }) ⟨rfl, rfl⟩) fun r s1 hr => ?_
  cases r with
  | error e => exact hr
  | ok fl => cases fl with
    | next => exact hr.elim
    | brk => exact hr.elim
    | cont => exact hr.elim
    | ret ob =>
      obtain ⟨rfl, rfl⟩ := hr
      have hS : (s.heap.push (newSI w)).get? s.heap.objs.size = some (newSI w) := Heap.get?_push_size _ rfl
      have hT : Shared.TypeIs { s with heap := s.heap.push (newSI w) } (.ref s.heap.objs.size) "set" := ⟨_, hS, rfl⟩
      have g1 := F.called_set.init.lookup; have g2 := F.called_set.init.bind (.ref s.heap.objs.size)
      repeat any_goals (first | assumption | wp_step)
      refine codeAny_mono (codeAny_call_builtin (R := wants (fun r s2 => r = .none ∧ ∃ h' tk l m, s2 = { s with heap := h', toks := tk } ∧ SetR w h' s.heap.objs.size l m ∧ (∀ j, l j = true ↔ j ∈ xs) ∧ m ≤ xs.length ∧ (∀ b o, s.heap.get? b = some o → h'.get? b = some o)) E) F.called_set.init.plain F.entry_set_init (check_set_init_1 hT ?_)) fun r2 s2 hr2 => ?_
      · obtain ⟨⟨oc, od, odt, osl⟩, ho, hc, n0, hd⟩ := hp
        simp only at hc hd
        subst hc; subst hd
        have ho' : (s.heap.push (newSI w)).get? p = some { cls := .type "list", dict := od, data := .seq its n0, slots := osl } := Heap.get?_push_of_some _ ho
        have e1 := F.sub_list_set; have e2 := F.sub_list_frozenset
        have e3 : (Value.type "list" == Value.type "dict") = false := by decide
        have hl : (s.heap.push (newSI w)).IsList p its := ⟨_, ho', rfl, n0, rfl⟩
        have hps : p < s.heap.objs.size := Heap.lt_size ho
        have hz1 : (s.heap.push (newSI w)).objs.size = s.heap.objs.size + 1 := Heap.size_push ..
        unfold Builtin.«set.__init__» noKeywords Builtin.Frozenset.updateFrom
        generalize hPI : pyIter = PI
        wp_walk
        subst hPI
        refine wpAny_pyIter_list hl (wpAny_bind (wpAny_runValue ?_))
        have hh3 : A.in1.in1.in1.handled = none := by simp [hh]
        have n1 : p ≠ (s.heap.push (newSI w)).objs.size := by
          rw [hz1]
          exact Nat.ne_of_lt (Nat.lt_succ_of_lt hps)
        have n2 : s.heap.objs.size ∉ [(s.heap.push (newSI w)).objs.size, p] := fun z => by
          rcases List.mem_cons.mp z with z | z
          · rw [hz1] at z
            exact Nat.ne_of_lt (Nat.lt_succ_self _) z
          · exact Nat.ne_of_gt hps (List.mem_singleton.mp z)
        refine in_update ((Walks.list hh3 _ p n1 its).toS) n2 xs hx hn hz (its.size - 0) 0 _ (by omega) (Nat.zero_le _) ⟨⟨_, Heap.get?_push_size _ rfl, rfl, rfl⟩, hl.push _⟩
          ⟨_, 0, (setR_fresh (h := s.heap) w).at fun o e => Heap.get?_push_of_some _ e, fun j => by simp, Nat.le_refl _⟩ fun s3 mv ⟨l, z, T, m, ll⟩ => ?_
        obtain ⟨h3, gg, dd, tk, oo⟩ := s3
        obtain rfl : gg = s.gens := mv.gens
        obtain rfl : dd = s.drawn := mv.drawn
        obtain rfl : oo = s.os := mv.os
        refine wpAny_pure ?_
        show wpAny _ _ (ret Value.none) _ _ _
        refine wpAny_pure ⟨rfl, h3, tk, l, z, rfl, T, m, by omega, fun b o e => ?_⟩
        have hb := Heap.lt_size e
        refine mv.heap b o (fun z => ?_) (Heap.get?_push_of_some _ (Heap.get?_push_of_some _ e))
        rcases List.mem_cons.mp z with z | z
        · exact Nat.ne_of_lt hb z
        · rw [List.mem_singleton.mp z, hz1] at hb
          exact absurd hb (Nat.not_lt_of_le (Nat.le_succ _))
      · cases r2 with
        | error e => exact hr2
        | ok fl2 => cases fl2 with
          | next => exact hr2.elim
          | brk => exact hr2.elim
          | cont => exact hr2.elim
          | ret r =>
            obtain ⟨rfl, h', tk, l, z, rfl, T, m, ll, k⟩ := hr2
            repeat any_goals (first | assumption | wp_step)
            exact q _ _ _ _ T m ll k
end
section
variable {X : Cx}
def rSetIn (K : PySem.W.Frag) (w : World) : List V → Hp → VK → Prop := fun vs H Q => ∃ (p : Addr) (xs : List Int), vs = [.ref p] ∧ SqL K H p (xs.map V.int) ∧ xs.length < 4000 ∧
  ∀ a S m, H a = none → (∀ j, S j = decide (j ∈ xs)) → Q (.ref a) (upd H a (SetO w a S m))
theorem cr_setIn (hc : X.calm = true) : CallR X (.type "set") (rSetIn X.K X.w) := by
  intro pins s σ H vs us Q I r h
  obtain ⟨p, xs, rfl, hs, hz, q⟩ := h
  obtain ⟨its, rv, hl, _⟩ := I.list hs
  rw [Vals.ref1 r]
  have hlen := rv.length
  rw [List.length_map] at hlen
  refine in_of_list (xs := xs) (I.ok.hd hc) hl.isList (fun i v hv => ?_) (by simpa using hlen.symm) (by simpa using (by omega : its.length < 4000)) fun h' tk l z T m ll k => ?_
  · have hi : i < xs.length := by
      have := (Array.getElem?_eq_some_iff.mp hv).1
      simp at this
      omega
    have e1 : (xs.map V.int)[i]? = some (V.int xs[i]) := by
      rw [List.getElem?_map, List.getElem?_eq_getElem hi]
      rfl
    obtain ⟨u, hu, t, rfl⟩ := rv.get e1
    have e2 : its[i]? = some v := by simpa using hv
    rw [hu] at e2
    exact ⟨xs[i], t, List.getElem?_eq_getElem hi, (Option.some.inj e2).symm⟩
  · exact ⟨.ref _, upd H s.heap.objs.size (SetO X.w s.heap.objs.size l z), I.laid (t' := tk) k (Nat.le_refl _) (setO_new T), rfl, q _ l z (I.hok.fresh (Nat.le_refl _)) fun j => by
      rw [Bool.eq_iff_iff, m, decide_eq_true_eq]⟩
end
end MuSI

namespace MuK
open PySem PySem.Spec PyProof.Rows L2 Evl
/-! ### pairs of numbers, and what is reached by them -/
def near (ep : List (Int × Int)) (x : Int) : List Int := ep.flatMap fun p => (if p.1 = x then [p.2] else []) ++ (if p.2 = x then [p.1] else [])
theorem mem_near {ep : List (Int × Int)} {x y : Int} : y ∈ near ep x ↔ (x, y) ∈ ep ∨ (y, x) ∈ ep := by
  unfold near
  rw [List.mem_flatMap]
  constructor
  · rintro ⟨⟨a, b⟩, h, m⟩
    rcases List.mem_append.mp m with m | m
    · by_cases e : a = x
      · rw [if_pos e] at m
        obtain rfl := List.mem_singleton.mp m
        exact .inl (e ▸ h)
      · rw [if_neg e] at m
        exact nomatch m
    · by_cases e : b = x
      · rw [if_pos e] at m
        obtain rfl := List.mem_singleton.mp m
        exact .inr (e ▸ h)
      · rw [if_neg e] at m
        exact nomatch m
  · rintro (h | h)
    · exact ⟨_, h, List.mem_append_left _ (by simp)⟩
    · exact ⟨_, h, List.mem_append_right _ (by simp)⟩
theorem near_symm {ep : List (Int × Int)} {x y : Int} : y ∈ near ep x ↔ x ∈ near ep y := by
  rw [mem_near, mem_near]
  exact Or.comm
theorem near_app (ep fp : List (Int × Int)) (x : Int) : near (ep ++ fp) x = near ep x ++ near fp x := List.flatMap_append
inductive Rch (ep : List (Int × Int)) (x : Int) : Int → Prop
  | refl : Rch ep x x
  | step {y z : Int} : Rch ep x y → z ∈ near ep y → Rch ep x z
theorem Rch.trans {ep : List (Int × Int)} {x y z : Int} (h : Rch ep x y) (k : Rch ep y z) : Rch ep x z := by
  induction k with
  | refl => exact h
  | step _ m ih => exact .step ih m
theorem Rch.symm {ep : List (Int × Int)} {x y : Int} (h : Rch ep x y) : Rch ep y x := by
  induction h with
  | refl => exact .refl
  | step _ m ih => exact (Rch.step .refl (near_symm.mp m)).trans ih
/-- all pairs are of numbers below m -/
def InR (m : Int) (ep : List (Int × Int)) : Prop := ∀ p ∈ ep, (0 ≤ p.1 ∧ p.1 < m) ∧ 0 ≤ p.2 ∧ p.2 < m
theorem InR.near {m : Int} {ep : List (Int × Int)} (h : InR m ep) {x y : Int} (k : y ∈ near ep x) : (0 ≤ x ∧ x < m) ∧ 0 ≤ y ∧ y < m := by
  rcases mem_near.mp k with k | k
  · exact h _ k
  · exact ⟨(h _ k).2, (h _ k).1⟩
theorem InR.rch {m : Int} {ep : List (Int × Int)} (h : InR m ep) {x y : Int} (h0 : 0 ≤ x ∧ x < m) (k : Rch ep x y) : 0 ≤ y ∧ y < m := by
  induction k with
  | refl => exact h0
  | step _ m _ => exact (h.near m).2
theorem ints_few {rs : List Int} {m : Nat} (nd : rs.Nodup) (h : ∀ x ∈ rs, 0 ≤ x ∧ x < (m : Int)) : rs.length ≤ m := by
  have k := nodup_len (m := (List.range m).map Int.ofNat) nd fun x hx => by
    obtain ⟨h0, h1⟩ := h x hx
    refine List.mem_map.mpr ⟨x.toNat, List.mem_range.mpr (by omega), ?_⟩
    show ((x.toNat : Nat) : Int) = x
    omega
  rwa [List.length_map, List.length_range] at k
/-- each pair has both its numbers in the list or none: nothing leads out -/
theorem rch_closed {ep : List (Int × Int)} {some : List Int} (h : ∀ p ∈ ep, p.1 ∈ some ↔ p.2 ∈ some) {x y : Int} (hx : x ∈ some) (k : Rch ep x y) : y ∈ some := by
  induction k with
  | refl => exact hx
  | step _ m ih =>
    rcases mem_near.mp m with m | m
    · exact (h _ m).mp ih
    · exact (h _ m).mpr ih
/-! ### pairs as tuples of two or more -/
def PairT (H : Hp) (p : Addr × Int × Int) : Prop := ∃ r : List V, H p.1 = some (.tup (.int p.2.1 :: .int p.2.2 :: r))
def PairsT (H : Hp) (ps : List (Addr × Int × Int)) : Prop := ∀ p ∈ ps, PairT H p
section
variable {K : PySem.W.Frag} {σ : L2.St} {H H' : Hp}
theorem PairT.later {p : Addr × Int × Int} (h : PairT H p) (e : Ex H H') : PairT H' p := by
  obtain ⟨r, h1⟩ := h
  exact ⟨r, e _ _ h1⟩
theorem PairsT.later {ps : List (Addr × Int × Int)} (h : PairsT H ps) (e : Ex H H') : PairsT H' ps := fun p m => (h p m).later e
theorem refs_same {n : Nat} : ∀ ps : List (Addr × Int × Int), Paired (EqV K H (n + 1)) (ps.map fun p => V.ref p.1) (ps.map fun p => V.ref p.1)
  | [] => .nil
  | p :: r => .cons (.inr (.inl ⟨p.1, rfl, rfl⟩)) (refs_same r)
theorem pairs_eq {a b : Addr} {ps : List (Addr × Int × Int)} (ha : H a = some (.lst (ps.map fun p => V.ref p.1))) (hb : H b = some (.lst (ps.map fun p => V.ref p.1))) : EqV K H 4 (.ref a) (.ref b) :=
  .inr (.inr (.inl ⟨a, b, _, _, rfl, rfl, sq_of ha, sq_of hb, refs_same ps⟩))
theorem ints_paired {n : Nat} : ∀ ns : List Int, Paired (EqV K H (n + 1)) (ns.map V.int) (ns.map V.int)
  | [] => .nil
  | _ :: r => .cons (.inl ⟨rfl, rfl⟩) (ints_paired r)
theorem ints_eq {a b : Addr} {ns : List Int} (ha : H a = some (.lst (ns.map V.int))) (hb : H b = some (.lst (ns.map V.int))) : EqV K H 4 (.ref a) (.ref b) :=
  .inr (.inr (.inl ⟨a, b, _, _, rfl, rfl, sq_of ha, sq_of hb, ints_paired ns⟩))
theorem pair_at {ps : List (Addr × Int × Int)} {n : Nat} {x : V} (hx : (ps.map fun p => V.ref p.1)[n]? = some x) : ∃ p, ps[n]? = some p ∧ p ∈ ps ∧ x = .ref p.1 := by
  rw [List.getElem?_map] at hx
  cases y : ps[n]? with
  | none =>
    rw [y] at hx
    exact nomatch hx
  | some c =>
    rw [y] at hx
    exact ⟨c, rfl, List.mem_of_getElem? y, (Option.some.inj hx).symm⟩
theorem int_at {ns : List Int} {n : Nat} {x : V} (hx : (ns.map V.int)[n]? = some x) : ∃ c, ns[n]? = some c ∧ c ∈ ns ∧ x = .int c := by
  rw [List.getElem?_map] at hx
  cases y : ns[n]? with
  | none =>
    rw [y] at hx
    exact nomatch hx
  | some c =>
    rw [y] at hx
    exact ⟨c, rfl, List.mem_of_getElem? y, (Option.some.inj hx).symm⟩
theorem rv_p0 {p : Addr × Int × Int} (h : PairT H p) : RV (rIxT K) (.ref p.1) (.int 0) H (.int p.2.1) := by
  obtain ⟨r, h1⟩ := h
  exact rv_ixT (st_of h1) (atI_nat (j := 0) rfl)
theorem rv_p1 {p : Addr × Int × Int} (h : PairT H p) : RV (rIxT K) (.ref p.1) (.int 1) H (.int p.2.2) := by
  obtain ⟨r, h1⟩ := h
  exact rv_ixT (st_of h1) (atI_nat (j := 1) rfl)
end
end MuK

namespace MuK
open PySem PySem.Spec PyProof.Rows L2 Evl
section
variable {X : Cx}
theorem op_eqNil (hu : X.A.units + 64 < cLine) : OpR X (compareOp .Eq) (rNil X.K true) := by
  intro pins s σ H x y v u Q I rx ry h
  obtain ⟨a, b, xs, rfl, rfl, ha, hb, q⟩ := h
  obtain rfl : v = Value.ref a := rx
  obtain rfl : u = Value.ref b := ry
  obtain ⟨us, r1, p1, _⟩ := I.list ha
  obtain ⟨ws, r2, p2, _⟩ := I.list hb
  cases r2
  have hu2 : X.A.units < cLine := by omega
  cases r1 with
  | nil => exact SeqAt.RcAt.lists (e := fun _ => true) p1.isList p2.isList rfl hu2 (fun j h1 _ => absurd h1 (Nat.not_lt_zero j)) _ _ _ _ ⟨.bl true, H, I, rfl, q⟩
  | cons r rr => exact SeqAt.RcAt.lists_lengths p1.isList p2.isList (by simp) hu2 _ _ _ _ ⟨.bl false, H, I, rfl, q⟩
end
section
variable {K : PySem.W.Frag} {σ : L2.St} {H H' : Hp} {ta tb te td ty : TE} {t u : TT} {x y z v : V} {D : Ends} {tu tw tz : TS} {R : V → Hp → Prop}
/-- k in d, k not in d, d[k] -/
theorem et_din {d : Addr} {k : Key} {kvs : List (Key × V)} (hk : Ev ty σ H (kV k)) (hd : Ev td σ H (.ref d)) (h : Rd H d (.dK kvs)) : EvT (tB (tDIn ty td)) σ H (valV kvs k).isSome := fun H1 e Q q =>
  hk H1 e _ fun H2 e2 => hd H2 (e.trans e2) _ fun H3 e3 => ⟨d, valV kvs k, rfl, .inl ⟨kvs, k, ex_rd ((e.trans e2).trans e3) h, rfl, rfl⟩, _, rfl, q H3 (e2.trans e3)⟩
theorem et_dnin {d : Addr} {k : Key} {kvs : List (Key × V)} (hk : Ev ty σ H (kV k)) (hd : Ev td σ H (.ref d)) (h : Rd H d (.dK kvs)) : EvT (tB (tDNotIn ty td)) σ H (!(valV kvs k).isSome) := fun H1 e Q q =>
  hk H1 e _ fun H2 e2 => hd H2 (e.trans e2) _ fun H3 e3 => ⟨d, valV kvs k, rfl, .inl ⟨kvs, k, ex_rd ((e.trans e2).trans e3) h, rfl, rfl⟩, _, rfl, q H3 (e2.trans e3)⟩
theorem ev_dgetK {d : Addr} {k : Key} {kvs : List (Key × V)} (hd : Ev td σ H (.ref d)) (h : Rd H d (.dK kvs)) (hk : Ev ty σ H (kV k)) (hv : valV kvs k = some v) : Ev (tDGet td ty) σ H v := fun H1 e Q q =>
  hd H1 e _ fun H2 e2 => hk H2 (e.trans e2) _ fun H3 e3 => ⟨d, v, rfl, .inl ⟨kvs, k, ex_rd ((e.trans e2).trans e3) h, rfl, hv.symm⟩, q H3 (e2.trans e3)⟩
/-- the numbers that are keys -/
def KeysI (kvs : List (Key × V)) (rs : List Int) : Prop := kvs.map (·.1) = rs.map Sum.inl
theorem keysI_val {kvs : List (Key × V)} {rs : List Int} (h : KeysI kvs rs) (x : Int) : (valV kvs (.inl x)).isSome = decide (x ∈ rs) := by
  rw [Bool.eq_iff_iff, decide_eq_true_eq]
  unfold valV
  rw [Option.isSome_map, List.find?_isSome]
  have m : x ∈ rs ↔ (Sum.inl x : Key) ∈ kvs.map (·.1) := by
    rw [h, List.mem_map]
    constructor
    · intro z
      exact ⟨x, z, rfl⟩
    · rintro ⟨y, hy, e⟩
      exact Sum.inl.inj e ▸ hy
  rw [m, List.mem_map]
  constructor
  · rintro ⟨kv, hm, e⟩
    exact ⟨kv, hm, of_decide_eq_true e⟩
  · rintro ⟨kv, hm, e⟩
    exact ⟨kv, hm, decide_eq_true e⟩
theorem keysI_put {kvs : List (Key × V)} {rs : List Int} (h : KeysI kvs rs) {x : Int} (hx : x ∉ rs) (w : V) : putK kvs (.inl x) w = kvs ++ [(.inl x, w)] ∧ KeysI (putK kvs (.inl x) w) (rs ++ [x]) := by
  have n : kvs.any (fun kv => decide (kv.1 = Sum.inl x)) = false := by
    rw [List.any_eq_false]
    intro kv m e
    have e2 : kv.1 = Sum.inl x := of_decide_eq_true e
    have : (Sum.inl x : Key) ∈ rs.map Sum.inl := h ▸ List.mem_map.mpr ⟨kv, m, e2⟩
    obtain ⟨y, hy, e3⟩ := List.mem_map.mp this
    exact hx (Sum.inl.inj e3 ▸ hy)
  have e : putK kvs (.inl x) w = kvs ++ [(.inl x, w)] := by
    unfold putK
    rw [if_neg (by rw [n]; decide)]
  refine ⟨e, ?_⟩
  unfold KeysI
  rw [e, List.map_append, List.map_append, h]
  rfl
theorem keysI_put2 {kvs : List (Key × V)} {rs : List Int} (h : KeysI kvs rs) {x : Int} (hx : x ∈ rs) (w : V) : KeysI (putK kvs (.inl x) w) rs := by
  have m : (Sum.inl x : Key) ∈ kvs.map (·.1) := h ▸ List.mem_map.mpr ⟨x, hx, rfl⟩
  obtain ⟨kv, hm, e⟩ := List.mem_map.mp m
  have n : kvs.any (fun kv => decide (kv.1 = Sum.inl x)) = true := List.any_eq_true.mpr ⟨kv, hm, decide_eq_true e⟩
  unfold KeysI putK
  rw [if_pos n, List.map_map, ← h]
  refine List.map_congr_left fun a _ => ?_
  simp only [Function.comp_apply]
  split <;> rfl
theorem keysI_len {kvs : List (Key × V)} {rs : List Int} (h : KeysI kvs rs) : kvs.length = rs.length := by
  have := congrArg List.length h
  simpa using this
/-- sorted(d), of a dict whose keys are numbers -/
def rSDI : List V → Hp → VK → Prop := fun xs H Q => ∃ (a : Addr) (kvs : List (Key × V)) (ks : List Int), xs = [.ref a] ∧ Rd H a (.dK kvs) ∧ kvs.map (·.1) = ks.map Sum.inl ∧ ks.length < 64 ∧
  ∀ (ys : List Int) (p : Addr), ys.Perm ks → ys.Pairwise (· ≤ ·) → H p = none → Q (.ref p) (upd H p (.lst (ys.map V.int)))
theorem evx_sortedDI {d : Addr} {kvs : List (Key × V)} {ks : List Int} (hd : Ev td σ H (.ref d)) (h : Rd H d (.dK kvs)) (hk : KeysI kvs ks) (hz : ks.length < 64) :
    EvX (tCB rSDI (tCons td tNil)) σ H (fun v H' => ∃ (p : Addr) (ys : List Int), v = .ref p ∧ H p = none ∧ H' p = some (.lst (ys.map V.int)) ∧ ys.Perm ks ∧ ys.Pairwise (· ≤ ·)) := fun H1 e Q q =>
  hd H1 e _ fun H2 e2 => ⟨d, kvs, ks, rfl, ex_rd (e.trans e2) h, hk, hz, fun ys p hp hs hn => q _ _ (e2.trans (Ex.new hn)) ⟨p, ys, rfl, fresh_back (e.trans e2) hn, upd_same, hp, hs⟩⟩
/-- sorted(e.keys()) -/
theorem evx_sortedKv {P : Program} {w : World} {ks : List Int → Prop} (hd : EvX te σ H (fun v H' => ∃ (d : Addr) (kvs : List (Key × V)) (rs : List Int), v = .ref d ∧ H' d = some (.dK kvs) ∧ KeysI kvs rs ∧ rs.length < 64 ∧ ks rs)) :
    EvX (tCB (MuKv.rSortedKv P w) (tCons (tBM0 K "dict" (MuKv.rKeysV P w) te) tNil)) σ H (fun v H' => ∃ (p : Addr) (ys rs : List Int), v = .ref p ∧ H p = none ∧ H' p = some (.lst (ys.map V.int)) ∧ ys.Perm rs ∧ ys.Pairwise (· ≤ ·) ∧ ks rs) := fun H1 e Q q => by
  refine hd H1 e _ fun v H2 e2 r => ?_
  obtain ⟨d, kvs, rs, rfl, h, hk, hz, hr⟩ := r
  refine ⟨.inr (.inr (.inl ⟨rfl, .inl ⟨_, h⟩⟩)), d, kvs, rfl, rfl, .inl h, fun a hw => ?_⟩
  have dw : d ≠ a := fun z => by
    rw [z, hw] at h
    exact nomatch h
  refine ⟨a, d, kvs, rs, rfl, upd_same, .inl ((upd_ne dw).trans h), hk, hz, fun ys p hp hs hn => ?_⟩
  have e3 : Ex H1 (upd H2 a (MuKv.KvO P w a d)) := e2.trans (Ex.new hw)
  exact q _ _ (e3.trans (Ex.new hn)) ⟨p, ys, rs, rfl, fresh_back (e.trans e3) hn, upd_same, hp, hs, hr⟩
/-- set(xs), x in it -/
theorem evx_setIn {w : World} {p : Addr} {ns : List Int} (ha : Ev te σ H (.ref p)) (h : SqL K H p (ns.map V.int)) (hz : ns.length < 4000) :
    EvX (tCB (MuSI.rSetIn K w) (tCons te tNil)) σ H (fun v H' => ∃ (a : Addr) (m : Nat), v = .ref a ∧ H' a = some (SetO w a (fun j => decide (j ∈ ns)) m)) := fun H1 e Q q =>
  ha H1 e _ fun H2 e2 => ⟨p, ns, rfl, ex_l (e.trans e2) h, hz, fun a S m hn hS => q _ _ (e2.trans (Ex.new hn)) ⟨a, m, rfl, by
    rw [upd_same, show S = fun j => decide (j ∈ ns) from funext hS]⟩⟩
theorem rv_sin {w : World} {a : Addr} {S : Int → Bool} {m : Nat} {k : Int} (h : H a = some (SetO w a S m)) : RV (rSIn w) (.int k) (.ref a) H (.bl (S k)) := fun H1 e Q q =>
  ⟨k, a, S, m, rfl, rfl, e _ _ h, q H1 (Ex.refl H1)⟩
/-- while xs -/
theorem et_truL {p : Addr} {xs : List V} (ha : Ev te σ H (.ref p)) (h : SqL K H p xs) : EvT (fun σ H Q => te σ H fun x H' => ∃ k, TruV K x H' k ∧ Q k H') σ H (!xs.isEmpty) := fun H1 e Q q =>
  ha H1 e _ fun H2 e2 => ⟨_, .inl ⟨xs, ex_l (e.trans e2) h, rfl⟩, q H2 e2⟩
/-- {k: v} -/
theorem evx_disp1 {k : Key} (hk : Ev ta σ H (kV k)) (hv : Ev tb σ H v) : EvX (tDisp [(ta, tb)]) σ H (fun u H' => ∃ d : Addr, u = .ref d ∧ H d = none ∧ H' d = some (.dK [(k, v)])) := fun H1 e Q q => by
  intro d hd
  have e1 : Ex H1 (upd H1 d (.dK [])) := Ex.new hd
  refine hk _ (e.trans e1) _ fun H2 e2 => hv _ ((e.trans e1).trans e2) _ fun H3 e3 => ?_
  have h3 := (e2.trans e3) d _ upd_same
  refine ⟨h3, [(k, v)], rfl, by simp, q _ _ (Ex.mut ((e1.trans e2).trans e3) hd) ⟨d, rfl, fresh_back e hd, ?_⟩⟩
  rw [upd_same]
  rfl
/-- list(range(n)) -/
theorem el_listRg {n : Int} (ha : Ev ta σ H (.int n)) (h0 : 0 ≤ n) (h1 : n ≤ 1000) : EvL (tLstRg (tRg1 ta)) σ H (((List.range n.toNat).map Int.ofNat).map V.int) := fun H1 e Q q =>
  ha H1 e _ fun H2 e2 => ⟨n, rfl, ⟨by omega, by omega, by omega, by omega, by omega⟩, fun p hp => q p _ (fresh_back e2 hp) (e2.trans (Ex.new hp)) (by
    rw [upd_same]
    unfold rgV
    rw [show (n - 0).toNat = n.toNat by omega, List.map_map]
    congr 2
    refine List.map_congr_left fun i _ => ?_
    show V.int (0 + (i : Int)) = V.int (Int.ofNat i)
    rw [Int.zero_add]
    rfl)⟩
theorem ev_all {bs : List Bool} (h : EvL te σ H (bs.map V.bl)) : Ev (tCB (rAll K) (tCons te tNil)) σ H (.bl (bs.all id)) := fun H1 e Q q =>
  h H1 e _ fun p H2 hp e2 h2 => ⟨p, bs, rfl, sq_of h2, q H2 e2⟩
theorem inV_int {xs : List Int} {a : Int} : inV (.int a) (xs.map V.int) = decide (a ∈ xs) := by
  unfold inV
  rw [List.any_map, Bool.eq_iff_iff, List.any_eq_true, decide_eq_true_eq]
  constructor
  · rintro ⟨y, hy, e⟩
    have : y = a := by simpa [eqV] using e
    exact this ▸ hy
  · intro h
    exact ⟨a, h, by simp [eqV]⟩
theorem flat_int (xs : List Int) : (xs.map V.int).all flatV = true := by
  rw [List.all_map, List.all_eq_true]
  exact fun _ _ => rfl
theorem rv_inI {p : Addr} {ns : List Int} {k : Int} (h : SqL K H p (ns.map V.int)) : RV (rIn K false) (.int k) (.ref p) H (.bl (decide (k ∈ ns))) := by
  rw [← inV_int]
  exact rv_inL h rfl (flat_int ns)
theorem rv_niI {p : Addr} {ns : List Int} {k : Int} (h : SqL K H p (ns.map V.int)) : RV (rIn K true) (.int k) (.ref p) H (.bl (!decide (k ∈ ns))) := by
  rw [← inV_int]
  exact rv_niL h rfl (flat_int ns)
/-- xs.pop(k) -/
theorem s_popAt {l : Addr} {xs : List V} {n : Int} {k : Nat} (hl : H l = some (.lst xs)) (ha : Ev ta σ H (.ref l)) (hn : Ev te σ H (.int n)) (hk : n = k) (lt : k < xs.length) (hz : xs.length ≤ 1000)
    (q : ∀ H1, Ex H H1 → D.nx σ (upd H1 l (.lst (xs.eraseIdx k)))) : tDrop (tBM K "list" rPopAt ta (tCons te tNil)) D σ H := by
  refine ha H (Ex.refl H) _ fun H1 e1 => ⟨.inl ⟨rfl, xs, sq_of (e1 l _ hl)⟩, ?_⟩
  refine hn H1 e1 _ fun H2 e2 => ?_
  refine ⟨l, xs, n, k, xs[k], rfl, rfl, (e1.trans e2) l _ hl, by omega, by omega, ?_, List.getElem?_eq_getElem lt, q H2 (e1.trans e2)⟩
  rw [hk]
  unfold seqIndex?
  have c : ¬ ((k : Int) < 0) := by omega
  simp only [if_neg c]
  rw [if_pos (by simp; omega)]
  simp
theorem eraseI (l : List Int) (k : Nat) : (l.map V.int).eraseIdx k = (l.eraseIdx k).map V.int := by
  induction l generalizing k with
  | nil => rfl
  | cons a r ih =>
    cases k with
    | zero => rfl
    | succ k => simp [ih]
theorem el_revL {xs : List V} {a : Addr} (ha : Ev te σ H (.ref a)) (h : SqL K H a xs) : EvL (tRevL K te) σ H xs.reverse := fun H1 e Q q =>
  ha H1 e _ fun H2 e2 => ⟨a, xs, rfl, ex_l (e.trans e2) h, fun p hp => q p _ (fresh_back e2 hp) (e2.trans (Ex.new hp)) upd_same⟩
theorem ev_eqNilN {xs : List V} (ha : EvL ta σ H xs) (hb : EvL tb σ H []) : Ev (tOp (rNil K true) ta tb) σ H (.bl xs.isEmpty) := fun H1 e Q q =>
  ha H1 e _ fun p H2 hp e2 h2 => hb H2 (e.trans e2) _ fun r H3 hr e3 h3 => ⟨p, r, xs, rfl, rfl, sq_of (e3 p _ h2), sq_of h3, by
    have z : (true == xs.isEmpty) = xs.isEmpty := by cases xs.isEmpty <;> rfl
    rw [z]
    exact q H3 (e2.trans e3)⟩
theorem q_dputK {tv : TE} {d : Addr} {kvs : List (Key × V)} {k : Key} (hd : H d = some (.dK kvs)) (hz : kvs.length < 100000) (hv : Ev tv σ H v) (ho : Ev td σ H (.ref d)) (hk : Ev ty σ H (kV k))
    (q : ∀ H1, Ex H H1 → tz D σ (upd H1 d (.dK (putK kvs k v)))) : tSeq (sDPut td ty tv) tz D σ H := s_dputK (D := { D with nx := tz D }) hd hz hv ho hk q
theorem q_appX {l : Addr} {xs : List V} (hl : H l = some (.lst xs)) (ha : Ev ta σ H (.ref l)) (h : EvX te σ H R) (hz : xs.length < 100000)
    (k : ∀ v H1, Ex H H1 → R v H1 → tz D σ (upd H1 l (.lst (xs ++ [v])))) : tSeq (tDrop (tBM K "list" rAppend ta (tCons te tNil))) tz D σ H := s_appX (D := { D with nx := tz D }) hl ha h hz k
/-- the lists at the places: the neighbours, rising -/
def NearAt (H : Hp) (ep : List (Int × Int)) (m : Nat) (cs : List (Addr × List Int)) : Prop := cs.length = m ∧ (∀ c ∈ cs, H c.1 = some (.lst (c.2.map V.int))) ∧ ∀ (i : Nat) (c : Addr × List Int), cs[i]? = some c → c.2.Pairwise (· < ·) ∧ ∀ y, y ∈ c.2 ↔ y ∈ near ep i
theorem NearAt.later {H H' : Hp} {ep : List (Int × Int)} {m : Nat} {cs : List (Addr × List Int)} (h : NearAt H ep m cs) (e : Ex H H') : NearAt H' ep m cs := ⟨h.1, fun c hc => e _ _ (h.2.1 c hc), h.2.2⟩
theorem evx_call2X {Dd : Hp → List V → (V → Hp → Prop) → Prop} {E : XK} {v1 : V} {R2' : V → Hp → Prop} (ha : Ev ta σ H v1) (hb : EvX tb σ H R2') (hs : ∀ v2 H1, Ex H H1 → R2' v2 H1 → ∃ R1, Dd H1 [v1, v2] R1 ∧ ∀ v H2, Ex H1 H2 → R1 v H2 → R v H2) :
    EvX (tCall (SpR Dd) [] E (tCons ta (tCons tb tNil))) σ H R := fun H1 e Q q =>
  ha H1 e _ fun H2 e2 => hb H2 (e.trans e2) _ fun v2 H3 e3 r => by
    obtain ⟨R1, d, k⟩ := hs v2 H3 ((e.trans e2).trans e3) r
    exact ⟨R1, by rw [List.append_nil]; exact d, fun v H4 e4 r => q v H4 ((e2.trans e3).trans e4) (k v H4 e4 r)⟩
theorem rv_eqB {a b : Bool} : RV rEq (.bl a) (.bl b) H (.bl (a == b)) := by
  have e : (a == b) = decide (V.bl a = V.bl b) := by cases a <;> cases b <;> rfl
  rw [e]
  exact rv_eq rfl
theorem rv_neB {a b : Bool} : RV rNe (.bl a) (.bl b) H (.bl (a != b)) := by
  have e : (a != b) = !decide (V.bl a = V.bl b) := by cases a <;> cases b <;> rfl
  rw [e]
  exact rv_ne rfl
/-- a tuple, of which but its length nothing is known -/
def TupR : V → Hp → Prop := fun v H' => ∃ (p : Addr) (r : List V), v = .ref p ∧ H' p = some (.tup r) ∧ r.length ≤ 10
theorem TupR.later {v : V} (h : TupR v H) (e : Ex H H') : TupR v H' := by
  obtain ⟨p, r, h1, h2, h3⟩ := h
  exact ⟨p, r, h1, e p _ h2, h3⟩
/-- n arguments of any kind -/
def EvAX (ta : TA) (σ : L2.St) (H : Hp) (n : Nat) : Prop := ∀ H1, Ex H H1 → ∀ Q : List V → Hp → Prop, (∀ vs H2, Ex H1 H2 → vs.length = n → Q vs H2) → ta σ H1 Q
theorem eax_nil : EvAX tNil σ H 0 := fun H1 _ Q q => q [] H1 (Ex.refl H1) rfl
theorem eax_cons {tr : TA} {n : Nat} {R : V → Hp → Prop} (h : EvX te σ H R) (hr : ∀ H1, Ex H H1 → EvAX tr σ H1 n) : EvAX (tCons te tr) σ H (n + 1) := fun H1 e Q q =>
  h H1 e _ fun v H2 e2 _ => hr H2 (e.trans e2) H2 (Ex.refl H2) _ fun vs H3 e3 hl => q (v :: vs) H3 (e2.trans e3) (by rw [List.length_cons, hl])
theorem evx_tupA {tr : TA} {n : Nat} (h : EvAX tr σ H n) (hn : n ≤ 10) : EvX (tTup tr) σ H TupR := fun H1 e Q q =>
  h H1 e _ fun vs H2 e2 hl => ⟨sz_of (by omega), fun p hp => q _ _ (e2.trans (Ex.new hp)) ⟨p, vs, rfl, upd_same, by omega⟩⟩
theorem evx_lstA {tr : TA} {n : Nat} (h : EvAX tr σ H n) (hn : n ≤ 10) : EvX (tLst tr) σ H (fun _ _ => True) := fun H1 e Q q =>
  h H1 e _ fun vs H2 e2 hl => ⟨sz_of (by omega), fun p hp => q _ _ (e2.trans (Ex.new hp)) True.intro⟩
/-- n arguments, each a tuple -/
def EvAT (ta : TA) (σ : L2.St) (H : Hp) (n : Nat) : Prop := ∀ H1, Ex H H1 → ∀ Q : List V → Hp → Prop, (∀ vs H2, Ex H1 H2 → vs.length = n → (∀ v ∈ vs, TupR v H2) → Q vs H2) → ta σ H1 Q
theorem eat_nil : EvAT tNil σ H 0 := fun H1 _ Q q => q [] H1 (Ex.refl H1) rfl fun _ m => nomatch m
theorem eat_cons {tr : TA} {n : Nat} (h : EvX te σ H TupR) (hr : ∀ H1, Ex H H1 → EvAT tr σ H1 n) : EvAT (tCons te tr) σ H (n + 1) := fun H1 e Q q =>
  h H1 e _ fun v H2 e2 r => hr H2 (e.trans e2) H2 (Ex.refl H2) _ fun vs H3 e3 hl ht => q (v :: vs) H3 (e2.trans e3) (by rw [List.length_cons, hl]) fun u m => by
    rcases List.mem_cons.mp m with rfl | m
    · exact r.later e3
    · exact ht u m
/-- [tuples][k] -/
theorem evx_ixT {tr : TA} {n : Nat} {vs : List V} {k : Int} (h : EvAT tr σ H n) (hb : ∀ H1, Ex H H1 → Ev tb σ H1 (.int k)) (h0 : 0 ≤ k) (h1 : k < n) (hz : n ≤ 100 := by decide) : EvX (tOp (rIxL K) (tLst tr) tb) σ H TupR := fun H1 e Q q =>
  h H1 e _ fun vs H2 e2 hl ht => ⟨sz_of (by omega), fun p hp => by
    have e3 : Ex H1 (upd H2 p (.lst vs)) := e2.trans (Ex.new hp)
    refine hb _ (e.trans e3) _ (Ex.refl _) _ fun H4 e4 => ?_
    have lt : k.toNat < vs.length := by omega
    refine ⟨p, vs, k, vs[k.toNat], rfl, rfl, sq_of (e4 p _ upd_same), ?_, q _ _ (e3.trans e4) ((ht _ (List.getElem_mem lt)).later ((Ex.new hp).trans e4))⟩
    have h5 := atI_nat (List.getElem?_eq_getElem lt)
    rwa [show ((k.toNat : Nat) : Int) = k by omega] at h5⟩
/-- [x for x in d if t], d a dict whose keys are numbers, locked -/
theorem el_lcKeys {d : Addr} {kvs : List (Key × V)} {rs : List Int} {j : Nat} {vs : List Nat} (f : Nat → Bool) (hd : H d = some (.dK kvs)) (hk : KeysI kvs rs) (hz : rs.length ≤ 40000) (hv : ∀ H1, Ev ta σ H1 (.ref d))
    (hw : ∀ x, wipe ((wipe σ vs).set j (some x)) vs = wipe σ vs)
    (ht : ∀ (i : Nat) (x : Int) H1, (∀ a o, a ≠ d → H a = some o → H1 a = some o) → rs[i]? = some x → EvT t ((wipe σ vs).set j (some (.int x))) H1 (f i))
    (hj : j < (wipe σ vs).length) :
    EvL (tLockE (tLc (iKeys ta) (gName j) t (tVar j) vs)) σ H (given rs.length f (fun i => .int (rs.getD i 0))) := fun H1 e Q q => by
  have hd1 := e d _ hd
  refine ⟨d, .dK kvs, hd1, True.intro, fun od => ?_⟩
  have off : ∀ H2, Ex (upd H1 d (.frz od (.dK kvs))) H2 → ∀ a o, a ≠ d → H a = some o → H2 a = some o := fun H2 e2 a o na ha => e2 a o ((upd_ne na).trans (e a o ha))
  refine hv _ _ (Ex.refl _) _ fun H2 e2 => ⟨d, od, rfl, .inl ⟨kvs, e2 d _ upd_same, fun Dl hD => ?_⟩⟩
  have Dd : Dl ≠ d := fun z => by
    rw [z, e2 d _ upd_same] at hD
    exact nomatch hD
  have lenK : kvs.length = rs.length := keysI_len hk
  refine ⟨fun n m H' => m = kvs.length - n ∧ n ≤ kvs.length ∧ Cw H2 f (fun i => .int (rs.getD i 0)) Dl n H', ⟨kvs.length, rfl, Nat.zero_le _, hD, Ex.new hD, upd_same⟩, ?_⟩
  rintro n m H' ⟨rfl, hn, p⟩
  have q2 := p.2.1 d _ (e2 d _ upd_same)
  by_cases lt : n < kvs.length
  · refine .inr ⟨⟨q2, lt⟩, fun H3 => Cw H2 f (fun i => .int (rs.getD i 0)) Dl (n + 1) H3, fun H3 p3 => ⟨kvs.length - (n + 1), by omega, rfl, lt, p3⟩, fun x H3 y => ?_⟩
    obtain ⟨rfl, k, v, hkv, rfl⟩ := y
    have lt2 : n < rs.length := by omega
    have ek : k = Sum.inl (rs[n]) := by
      have := congrArg (fun z => z[n]?) hk
      simp only [List.getElem?_map, hkv, List.getElem?_eq_getElem lt2] at this
      exact Option.some.inj this
    subst ek
    have eg : rs.getD n 0 = rs[n] := by simp [List.getD_eq_getElem?_getD, lt2]
    refine ⟨hw _, cw_turn p (by omega) (ht n _ H2 (off H2 e2) (List.getElem?_eq_getElem lt2)) fun hf => ?_⟩
    rw [eg]
    exact ev_var (by rw [List.getElem?_set_self hj]; rfl)
  · have e3 : n = kvs.length := by omega
    subst e3
    refine .inl ⟨⟨q2, Nat.le_refl _⟩, q2, ?_⟩
    obtain ⟨c1, c2, c3⟩ := p
    rw [lenK] at c3
    refine q Dl _ ?_ (lock_back hd1 (e2.trans c2)) ((upd_ne Dd).trans c3)
    have := fresh_back e2 c1
    exact (upd_ne Dd).symm.trans this
end
end MuK

namespace MuTg
open PySem PySem.Spec PyProof.Rows L2
/-! ### sets of tuples of whole numbers with a table of up to 512 places -/
def Mq (m : Nat) : Prop := m = 7 ∨ m = 31 ∨ m = 127 ∨ m = 511
def pathL (m : Nat) : Nat → Nat → List Nat
  | 0, _ => []
  | n + 1, i => i :: pathL m n ((i * 5 + 1) % (m + 1))
def pathB (m : Nat) : Nat → Nat → Nat
  | 0, _ => 0
  | n + 1, i => 2 ^ i ||| pathB m n ((i * 5 + 1) % (m + 1))
theorem pathB_bit (m j : Nat) : ∀ n i : Nat, (pathB m n i).testBit j = true → j ∈ pathL m n i
  | 0, _, h => by
    unfold pathB at h
    rw [Nat.zero_testBit] at h
    exact nomatch h
  | n + 1, i, h => by
    unfold pathB at h
    rw [Nat.testBit_or, Bool.or_eq_true, Nat.testBit_two_pow, decide_eq_true_eq] at h
    rcases h with h | h
    · exact List.mem_cons.mpr (.inl h.symm)
    · exact List.mem_cons.mpr (.inr (pathB_bit m j n _ h))
def covers (m : Nat) : Bool := (List.range (m + 1)).all fun i => pathB m (m + 1) i == 2 ^ (m + 1) - 1
theorem covers_of {m : Nat} (ok : Mq m) : covers m = true := by
  rcases ok with rfl | rfl | rfl | rfl
  · decide +kernel
  · decide +kernel
  · decide +kernel
  · decide +kernel
theorem lcg_shift (m i : Nat) : ∀ k, lcgI m ((i * 5 + 1) % (m + 1)) k = lcgI m i (k + 1)
  | 0 => rfl
  | k + 1 => by
    show (lcgI m ((i * 5 + 1) % (m + 1)) k * 5 + 1) % (m + 1) = (lcgI m i (k + 1) * 5 + 1) % (m + 1)
    rw [lcg_shift m i k]
theorem path_lcg (m j : Nat) : ∀ n i : Nat, j ∈ pathL m n i → ∃ k, k < n ∧ lcgI m i k = j
  | 0, _, h => nomatch h
  | n + 1, i, h => by
    rcases List.mem_cons.mp h with rfl | h
    · exact ⟨0, Nat.succ_pos _, rfl⟩
    · obtain ⟨k, hk, e⟩ := path_lcg m j n _ h
      exact ⟨k + 1, by omega, (lcg_shift m i k).symm.trans e⟩
theorem lcg_all {m i j : Nat} (ok : Mq m) (hi : i ≤ m) (hj : j ≤ m) : ∃ k, k ≤ m ∧ lcgI m i k = j := by
  have h := eq_of_beq (List.all_eq_true.mp (covers_of ok) i (List.mem_range.mpr (by omega)))
  obtain ⟨k, hk, e⟩ := path_lcg m j (m + 1) i (pathB_bit m j _ _ (by
    rw [h, Nat.testBit_two_pow_sub_one, decide_eq_true_eq]
    omega))
  exact ⟨k, by omega, e⟩
theorem run_meets {m : Nat} (ok : Mq m) (h : Int) {j : Nat} (hj : j ≤ m) : ∃ n, n ≤ m + 12 ∧ runI m (SetTable.bits h) n = j := by
  obtain ⟨k, hk, e⟩ := lcg_all ok (runI_le m (SetTable.bits h) 12) hj
  exact ⟨12 + k, by omega, (runI_tail (bits_lt h) k).trans e⟩
theorem nth_meets {m : Nat} (ok : Mq m) (h : Int) {j : Nat} (hj : j ≤ m) : ∃ k, k < 10 * SetTable.turns m ∧ way m h k = j := by
  obtain ⟨n, hn, e⟩ := run_meets ok h hj
  obtain ⟨k, hk, e2⟩ := run_nth m (SetTable.bits h) n
  refine ⟨k, ?_, ?_⟩
  · show k < 10 * (m + 15)
    omega
  · show (nth m (runAt m (SetTable.bits h % (m + 1)) (SetTable.bits h)) k).j = j
    rw [e2]
    exact e
theorem way_le {m : Nat} {h : Int} {k : Nat} : way m h k ≤ m := by
  have hi : SetTable.bits h % (m + 1) ≤ m := Nat.le_of_lt_succ (Nat.mod_lt _ (Nat.succ_pos m))
  have r := runEnd_bd hi
  have q := nth_in (m := m) k (runAt m (SetTable.bits h % (m + 1)) (SetTable.bits h)) (by
    show SetTable.bits h % (m + 1) + (SetTable.runEnd m (SetTable.bits h % (m + 1)) - SetTable.bits h % (m + 1)) ≤ m
    omega)
  show (nth m (runAt m (SetTable.bits h % (m + 1)) (SetTable.bits h)) k).j ≤ m
  omega
theorem free_find {m : Nat} (ok : Mq m) (owner : Array (Option Nat)) (h : Int) {j : Nat} (hj : j ≤ m) (hf : oAt owner j = none) :
    ∃ K, SetTable.layClean.free m owner (SetTable.turns m) (SetTable.bits h % (m + 1)) (SetTable.bits h) = some (way m h K) ∧ oAt owner (way m h K) = none ∧ ∀ k, k < K → oAt owner (way m h k) ≠ none := by
  obtain ⟨n, hn, e⟩ := run_meets ok h hj
  have hw : way m h (off m (SetTable.bits h % (m + 1)) (SetTable.bits h) n) = j := by
    show (nth m (runAt m (SetTable.bits h % (m + 1)) (SetTable.bits h)) (off m (SetTable.bits h % (m + 1)) (SetTable.bits h) n)).j = j
    rw [nth_off, itL_run]
    exact e
  obtain ⟨K, k1, k2, k3⟩ := st_least (p := fun K => oAt owner (way m h K) = none) (off m (SetTable.bits h % (m + 1)) (SetTable.bits h) n) (by show oAt owner (way m h _) = none; rw [hw]; exact hf)
  refine ⟨K, free_spec m owner (SetTable.turns m) n _ _ K (by show n < m + 15; omega) k1 (fun k hk => ?_) (by rw [show oAt owner (nth m (runAt m (SetTable.bits h % (m + 1)) (SetTable.bits h)) K).j = none from k2]; rfl), k2, k3⟩
  have q : oAt owner (nth m (runAt m (SetTable.bits h % (m + 1)) (SetTable.bits h)) k).j ≠ none := k3 k hk
  cases z : oAt owner (nth m (runAt m (SetTable.bits h % (m + 1)) (SetTable.bits h)) k).j with
  | none => exact absurd z q
  | some _ => rfl
theorem own_step {m : Nat} (ok : Mq m) {done : List Int} {owner : Array (Option Nat)} (W : L2.Own m done owner) (hl : done.length ≤ m) (h : Int) :
    ∃ j, SetTable.layClean.free m owner (SetTable.turns m) (SetTable.bits h % (m + 1)) (SetTable.bits h) = some j ∧ L2.Own m (done ++ [h]) (owner.setIfInBounds j (some done.length)) := by
  obtain ⟨ps, hps, hin⟩ := W.ps
  obtain ⟨j0, h0, hn0⟩ := st_missing ps (m + 1) (by omega)
  have hj0 : oAt owner j0 = none := by
    cases z : oAt owner j0 with
    | none => rfl
    | some k => exact absurd (hin j0 (by omega) (by rw [z]; exact fun e => nomatch e)) hn0
  obtain ⟨K, e1, e2, e3⟩ := free_find ok owner h (Nat.le_of_lt_succ h0) hj0
  have hjm : way m h K ≤ m := way_le
  have hjs : way m h K < owner.size := by rw [W.sz]; omega
  obtain ⟨j, hj⟩ : ∃ j, way m h K = j := ⟨_, rfl⟩
  rw [hj] at e1 e2 hjm hjs
  have hself : oAt (owner.setIfInBounds j (some done.length)) j = some done.length := oAt_set_self _ hjs
  have mono : ∀ i, oAt owner i ≠ none → oAt (owner.setIfInBounds j (some done.length)) i ≠ none := fun i hi => by
    by_cases c : i = j
    · rw [c, hself]
      exact fun e => nomatch e
    · rw [oAt_set_ne _ c]
      exact hi
  refine ⟨j, e1, ⟨by rw [Array.size_setIfInBounds]; exact W.sz, fun i k hi e => ?_, fun k hk => ?_, j :: ps, by rw [List.length_cons, List.length_append, hps]; rfl, fun i hi e => ?_⟩⟩
  · by_cases c : i = j
    · rw [c, hself] at e
      have ek : done.length = k := Option.some.inj e
      refine ⟨h, K, ?_, hj.trans c.symm, fun k' hk' => mono _ (e3 k' hk')⟩
      rw [← ek, List.getElem?_append_right (Nat.le_refl _), Nat.sub_self]
      rfl
    · rw [oAt_set_ne _ c] at e
      obtain ⟨h', K', a1, a2, a3⟩ := W.at_ i k hi e
      exact ⟨h', K', by rw [List.getElem?_append_left (List.getElem?_eq_some_iff.mp a1).1]; exact a1, a2, fun k' hk' => mono _ (a3 k' hk')⟩
  · by_cases c : k < done.length
    · obtain ⟨i, hi, e⟩ := W.all k c
      have ne : i ≠ j := fun z => by
        rw [z, e2] at e
        exact nomatch e
      exact ⟨i, hi, (oAt_set_ne _ ne).trans e⟩
    · have hk2 : k < done.length + 1 := by
        have hk' := hk
        rw [List.length_append] at hk'
        exact hk'
      obtain rfl : k = done.length := by omega
      exact ⟨j, hjm, hself⟩
  · by_cases c : i = j
    · rw [c]
      exact List.mem_cons_self
    · rw [oAt_set_ne _ c] at e
      exact List.mem_cons_of_mem _ (hin i hi e)
theorem fold_ok {m : Nat} (ok : Mq m) : ∀ (rest done : List Int) (owner : Array (Option Nat)), L2.Own m done owner → done.length + rest.length ≤ m →
    ∃ o2, List.foldl (stepF m) (some (owner, done.length)) rest = some (o2, (done ++ rest).length) ∧ L2.Own m (done ++ rest) o2
  | [], done, owner, W, _ => ⟨owner, by rw [List.append_nil]; rfl, by rw [List.append_nil]; exact W⟩
  | h :: rest, done, owner, W, hl => by
    have hl2 : done.length + (rest.length + 1) ≤ m := hl
    obtain ⟨j, e1, W2⟩ := own_step ok W (by omega) h
    rw [List.foldl_cons, stepF_some e1]
    have l1 : (done ++ [h]).length = done.length + 1 := by rw [List.length_append]; rfl
    obtain ⟨o2, e2, W3⟩ := fold_ok ok rest (done ++ [h]) _ W2 (by rw [l1]; omega)
    rw [l1, List.append_assoc] at e2
    rw [List.append_assoc] at W3
    exact ⟨o2, e2, W3⟩
theorem layClean_ok {m : Nat} (ok : Mq m) {hs : Array Int} (hn : hs.size ≤ m) : ∃ owner, SetTable.layClean m hs = some owner ∧ L2.Own m hs.toList owner := by
  obtain ⟨o2, e, W⟩ := fold_ok ok hs.toList [] _ (L2.Own.init m) (by rw [Array.length_toList]; show 0 + hs.size ≤ m; omega)
  refine ⟨o2, ?_, W⟩
  rw [layClean_eq]
  have e' : List.foldl (stepF m) (some (Array.replicate (m + 1) none, 0)) hs.toList = some (o2, ([] ++ hs.toList).length) := e
  rw [e']
  rfl
/-- the table holds the hashes hs, each where the search for it comes by -/
structure TabB (t : SetTable) (hs : List Int) : Prop where
  ris : Ris t.place.toList
  dm : t.dummies = #[]
  sz : t.place.size = hs.length
  mok : Mq t.mask
  bd : ∀ x ∈ t.place.toList, x ≤ t.mask
  reach : ∀ (i : Nat) (h : Int) (j : Nat), hs[i]? = some h → t.place.toList[i]? = some j → ∃ k, way t.mask h k = j ∧ ∀ k', k' < k → way t.mask h k' ∈ t.place.toList
theorem TabB.first {t : SetTable} {hs : List Int} (T : TabB t hs) (hl : hs.length ≤ t.mask) (h : Int) : ∃ K, K < 10 * SetTable.turns t.mask ∧ way t.mask h K ∉ t.place.toList ∧ ∀ k, k < K → way t.mask h k ∈ t.place.toList := by
  have hlen : t.place.toList.length < t.mask + 1 := by
    rw [Array.length_toList, T.sz]
    omega
  obtain ⟨j, hj, hn⟩ := st_missing t.place.toList (t.mask + 1) hlen
  obtain ⟨k, hk, e⟩ := nth_meets T.mok h (Nat.le_of_lt_succ hj)
  obtain ⟨K, h1, h2, h3⟩ := st_least (p := fun K => way t.mask h K ∉ t.place.toList) k (by rw [e]; exact hn)
  exact ⟨K, by omega, h2, fun k' hk' => Classical.byContradiction fun c => h3 k' hk' c⟩
theorem TabB.before {t : SetTable} {hs : List Int} (T : TabB t hs) {h : Int} {K i j : Nat} (hK : way t.mask h K ∉ t.place.toList) (hi : hs[i]? = some h) (hj : t.place.toList[i]? = some j) : ∃ k, k < K ∧ way t.mask h k = j := by
  obtain ⟨k, e, hb⟩ := T.reach i h j hi hj
  refine ⟨k, ?_, e⟩
  rcases Nat.lt_trichotomy k K with c | c | c
  · exact c
  · rw [← c, e] at hK
    exact absurd (List.mem_of_getElem? hj) hK
  · exact absurd (hb K c) hK
theorem TabB.put {t : SetTable} {hs : List Int} (T : TabB t hs) {h : Int} {K : Nat} (hK : way t.mask h K ∉ t.place.toList) (hb : ∀ k, k < K → way t.mask h k ∈ t.place.toList) :
    (t.put (way t.mask h K)).2 = SetTable.below t.place (way t.mask h K) ∧ SetTable.below t.place (way t.mask h K) ≤ hs.length ∧
      TabB (t.put (way t.mask h K)).1 (List.take (SetTable.below t.place (way t.mask h K)) hs ++ h :: List.drop (SetTable.below t.place (way t.mask h K)) hs) ∧
      (t.put (way t.mask h K)).1.mask = t.mask ∧ (t.put (way t.mask h K)).1.led = t.led ∧ (t.put (way t.mask h K)).1.plain = t.plain ∧ (t.put (way t.mask h K)).1.fill = hs.length + 1 := by
  have hjm : way t.mask h K ≤ t.mask := way_le
  obtain ⟨j, hj⟩ : ∃ j, way t.mask h K = j := ⟨_, rfl⟩
  rw [hj] at hK hjm ⊢
  obtain ⟨c1, _, _⟩ := below_cut T.ris j
  have hpl : SetTable.below t.place j ≤ t.place.toList.length := by rw [Array.length_toList]; exact c1
  have hph : SetTable.below t.place j ≤ hs.length := by rw [← T.sz]; exact c1
  have hsz : t.place.toList.length = hs.length := by rw [Array.length_toList]; exact T.sz
  have hnp : t.place[SetTable.below t.place j]? ≠ some j := fun e => hK (List.mem_of_getElem? (i := SetTable.below t.place j) (by rw [Array.getElem?_toList]; exact e))
  have hpp := put_place t j
  have hsize : (t.put j).1.place.size = hs.length + 1 := by
    rw [← Array.length_toList, hpp, len_ins _ hpl, hsz]
  have up : ∀ {x}, x ∈ t.place.toList → x ∈ (t.put j).1.place.toList := fun hx => by
    rw [hpp]
    exact mem_ins.mpr (.inr hx)
  refine ⟨rfl, hph, ⟨ris_insert T.ris hnp, put_dm T.dm j, by rw [len_ins _ hph]; exact hsize, T.mok, fun x hx => ?_, fun i h' j' h1 h2 => ?_⟩, rfl, rfl, rfl, ?_⟩
  · rw [hpp] at hx
    rcases mem_ins.mp hx with z | z
    · rw [z]
      exact hjm
    · exact T.bd x z
  · show ∃ k, way t.mask h' k = j' ∧ ∀ k', k' < k → way t.mask h' k' ∈ (t.put j).1.place.toList
    rw [tins_get _ hph] at h1
    rw [hpp, tins_get _ hpl] at h2
    by_cases c : i < SetTable.below t.place j
    · rw [if_pos c] at h1 h2
      obtain ⟨k, e, z⟩ := T.reach i h' j' h1 h2
      exact ⟨k, e, fun k' hk' => up (z k' hk')⟩
    · rw [if_neg c] at h1 h2
      by_cases d : i = SetTable.below t.place j
      · rw [if_pos d] at h1 h2
        obtain rfl := Option.some.inj h1
        obtain rfl := Option.some.inj h2
        exact ⟨K, hj, fun k' hk' => up (hb k' hk')⟩
      · rw [if_neg d] at h1 h2
        obtain ⟨k, e, z⟩ := T.reach (i - 1) h' j' h1 h2
        exact ⟨k, e, fun k' hk' => up (z k' hk')⟩
  · show (t.put j).1.place.size + (t.put j).1.dummies.size = hs.length + 1
    rw [hsize, put_dm T.dm j]
    rfl
theorem relaid_ok (t : SetTable) {hs : Array Int} {wanted M : Nat} (hw : SetTable.sizeAbove wanted - 1 = M) (hM : Mq M) (hn : hs.size ≤ M) :
    ∃ t' order, t.relaid hs wanted = some (t', order) ∧ order.toList.Perm (List.range hs.size) ∧ TabB t' (order.toList.map fun i => hs.getD i 0) ∧ t'.mask = M ∧ t'.led = t.led ∧ t'.plain = t.plain := by
  obtain ⟨owner, e, W⟩ := layClean_ok hM hn
  have hr : t.relaid hs wanted = some (tabOf t M owner, ((liveOf M owner).map fun x => x.2).toArray) := by
    rw [relaid_eq, hw, e]
    rfl
  obtain ⟨r1, r2⟩ := ris_live (fun j => owner.getD j none) (List.range (M + 1)) List.pairwise_lt_range
  have nd : ((liveOf M owner).map fun x => x.1).Nodup := List.Pairwise.imp (fun h => Nat.ne_of_lt h) r1
  have hall : ∀ k, k < hs.size → k ∈ (liveOf M owner).map fun x => x.2 := fun k hk => by
    obtain ⟨j, b1, b2⟩ := W.all k (by rw [Array.length_toList]; exact hk)
    exact List.mem_map.mpr ⟨(j, k), (mem_live W.sz).mpr ⟨b1, b2⟩, rfl⟩
  have hlen : (liveOf M owner).length = hs.size := by
    obtain ⟨ps, p1, p2⟩ := W.ps
    have a := nat_nodup_len ((liveOf M owner).map fun x => x.1) ps nd fun x hx => by
      obtain ⟨⟨y, k⟩, hq, rfl⟩ := List.mem_map.mp hx
      obtain ⟨b1, b2⟩ := (mem_live W.sz).mp hq
      exact p2 y b1 (by rw [b2]; exact fun z => nomatch z)
    have b := nat_nodup_len (List.range hs.size) ((liveOf M owner).map fun x => x.2) List.nodup_range fun k hk => hall k (List.mem_range.mp hk)
    rw [List.length_map, p1] at a
    rw [List.length_map, List.length_range] at b
    have hz : hs.toList.length = hs.size := rfl
    omega
  refine ⟨tabOf t M owner, _, hr, perm_range hs.size _ (by show ((liveOf M owner).map fun x => x.2).length = _; rw [List.length_map]; exact hlen) hall, ⟨r1, rfl, ?_, hM, fun x hx => Nat.le_of_lt_succ (List.mem_range.mp (r2 x hx)), fun i h j h1 h2 => ?_⟩, rfl, rfl, rfl⟩
  · show ((liveOf M owner).map fun x => x.1).toArray.size = (((liveOf M owner).map fun x => x.2).map fun i => hs.getD i 0).length
    rw [List.size_toArray, List.length_map, List.length_map, List.length_map]
  · have h1' : (((liveOf M owner).map fun x => x.2).map fun i => hs.getD i 0)[i]? = some h := h1
    have h2' : ((liveOf M owner).map fun x => x.1)[i]? = some j := h2
    rw [List.getElem?_map] at h2'
    rw [List.getElem?_map, List.getElem?_map] at h1'
    cases hq : (liveOf M owner)[i]? with
    | none =>
      rw [hq] at h2'
      exact nomatch h2'
    | some q =>
      obtain ⟨y, k⟩ := q
      rw [hq] at h1' h2'
      obtain rfl : y = j := Option.some.inj h2'
      have eh : hs.getD k 0 = h := Option.some.inj h1'
      obtain ⟨b1, b2⟩ := (mem_live W.sz).mp (List.mem_of_getElem? hq)
      obtain ⟨h0, K, a1, a2, a3⟩ := W.at_ y k b1 b2
      have e0 : hs.getD k 0 = h0 := by
        rw [Array.getD_eq_getD_getElem?, ← Array.getElem?_toList, a1]
        rfl
      obtain rfl : h0 = h := e0.symm.trans eh
      refine ⟨K, a2, fun k' hk' => ?_⟩
      show way M h0 k' ∈ (liveOf M owner).map fun x => x.1
      cases z : oAt owner (way M h0 k') with
      | none => exact absurd z (a3 k' hk')
      | some k2 => exact List.mem_map.mpr ⟨(way M h0 k', k2), (mem_live W.sz).mpr ⟨way_le, z⟩, rfl⟩
structure SetG (P : Program) (w : World) (h : Heap) (a : Addr) (L : List (Addr × List Int)) (es : Array (Int × Value)) (ep : Nat) (t : SetTable) : Prop where
  ob : ∃ o, h.get? a = some o ∧ o.ExactSet ∧ o.data = Data.set es ep t
  rows : es.toList = rowsOf P w L
  tab : TabB t (L.map fun p => thash P w p.2)
  nd : (L.map (·.2)).Nodup
  tup : ∀ p ∈ L, L2.IsT P w h p.2 p.1
  plain : t.plain = true
  led : w.params.followText "set-order" = true ∨ t.led = true
  room : L.length * 5 < t.mask * 3
  few : L.length < 300
structure SetG0 (P : Program) (w : World) (h : Heap) (a : Addr) (L : List (Addr × List Int)) : Prop where
  ex : ∃ es ep t, (∃ o, h.get? a = some o ∧ o.ExactSet ∧ o.data = Data.set es ep t) ∧ es.toList = rowsOf P w L ∧ TabB t (L.map fun p => thash P w p.2) ∧ (L.map (·.2)).Nodup ∧ t.plain = true ∧ (w.params.followText "set-order" = true ∨ t.led = true) ∧ L.length * 5 < t.mask * 3 ∧ L.length < 300
def SetGO (P : Program) (w : World) (a : Addr) (L : List (Addr × List Int)) : HO := HO.ext fun h => SetG0 P w h a L
section
variable {P : Program} {w : World} {A : Around} {E : Value → Shared → Prop} {s : Shared} {a : Addr} {L : List (Addr × List Int)} {es : Array (Int × Value)} {ep : Nat} {t : SetTable}
theorem SetG0.full {h : Heap} (R : SetG0 P w h a L) (ht : ∀ p ∈ L, L2.IsT P w h p.2 p.1) : ∃ es ep t, SetG P w h a L es ep t := by
  obtain ⟨es, ep, t, h1, h2, h3, h4, h5, h6, h7, h8⟩ := R.ex
  exact ⟨es, ep, t, h1, h2, h3, h4, ht, h5, h6, h7, h8⟩
theorem SetG.t0 {h : Heap} (R : SetG P w h a L es ep t) : SetG0 P w h a L := ⟨es, ep, t, R.ob, R.rows, R.tab, R.nd, R.plain, R.led, R.room, R.few⟩
theorem setGO_new {H : Hp} {h : Heap} (R : SetG0 P w h a L) : ObjOk P w H h a (SetGO P w a L) := by
  obtain ⟨es, ep, t, ⟨o, ho, r⟩, q⟩ := R.ex
  exact ⟨R, ⟨⟨o, ho⟩, fun h1 h2 p k => by
    obtain ⟨es', ep', t', ⟨o', ho', r'⟩, q'⟩ := (show SetG0 P w h1 a L from p).ex
    exact ⟨es', ep', t', ⟨o', k o' ho', r'⟩, q'⟩⟩⟩
theorem setG_fresh {h : Heap} (ho : h.get? a = some { cls := Value.type "set", dict := none, data := Data.set #[] 0 (SetTable.fresh 0 0 !w.params.followText "set-order") }) : SetG P w h a [] #[] 0 (SetTable.fresh 0 0 !w.params.followText "set-order") := by
  refine ⟨⟨_, ho, ⟨rfl, rfl, rfl⟩, rfl⟩, rfl, ⟨List.Pairwise.nil, rfl, rfl, .inl rfl, (fun _ hx => nomatch hx), fun i h j hi => by simp at hi⟩, List.nodup_nil, (fun _ hp => nomatch hp), rfl, ?_, by show 0 * 5 < 7 * 3; decide, by decide⟩
  cases z : w.params.followText "set-order" with
  | true => exact .inl rfl
  | false => exact .inr rfl
theorem SetG.size (R : SetG P w s.heap a L es ep t) : es.size = L.length := by
  have h := congrArg List.length R.rows
  unfold rowsOf at h
  rw [List.length_map, Array.length_toList] at h
  exact h
theorem SetG.fits (R : SetG P w s.heap a L es ep t) : t.fits es.size = true := by
  have h1 := R.tab.sz
  rw [List.length_map] at h1
  have h2 := R.size
  have h3 := R.room
  show (t.place.size == es.size && decide (t.place.size + t.dummies.size ≤ t.mask)) = true
  rw [R.tab.dm, Bool.and_eq_true, beq_iff_eq, decide_eq_true_eq]
  show t.place.size = es.size ∧ t.place.size + 0 ≤ t.mask
  omega
theorem SetG.gw (R : SetG P w s.heap a L es ep t) : ¬ t.gaveWay = true := by
  show ¬ (t.mask % 2 == 0) = true
  rcases R.tab.mok with e | e | e | e <;> rw [e] <;> decide
theorem SetG.entry (R : SetG P w s.heap a L es ep t) {i : Nat} {p : Addr × List Int} (h : L[i]? = some p) : es[i]? = some (thash P w p.2, Value.ref p.1) := by
  rw [← Array.getElem?_toList, R.rows]
  unfold rowsOf
  rw [List.getElem?_map, h]
  rfl
theorem nodm (m : Nat) : ∀ (n : Nat) (p : SetTable.Probe), p.dummy = none → (nth m p n).dummy = none
  | 0, _, h => h
  | n + 1, p, h => nodm m n (adv m p) (by
    unfold adv
    split <;> exact h)
/-- the search, asking or adding -/
theorem find_from {ad : Bool} (R : SetG P w s.heap a L es ep t) {x : Addr} {k : List Int} (hx : L2.IsT P w s.heap k x) (hu : A.units < cLine) {K : Nat} (hKf : K < 10 * SetTable.turns t.mask)
    (hK : way t.mask (thash P w k) K ∉ t.place.toList) (hKb : ∀ c, c < K → way t.mask (thash P w k) c ∈ t.place.toList) {Q : SetFound → Shared → Prop}
    (hin : ∀ i, (ad = true → i = none) → (ad = false → i ≠ none) → k ∈ L.map (·.2) → Q (.there i) s) (hout : k ∉ L.map (·.2) → Q (.free (way t.mask (thash P w k) K) false) s) :
    ∀ (f c : Nat) (stand : Option SetTable.Probe), stand.getD (t.probeStart (thash P w k)) = nth t.mask (runAt t.mask (SetTable.bits (thash P w k) % (t.mask + 1)) (SetTable.bits (thash P w k))) c → c ≤ K → K - c < f →
      (∀ (i : Nat) p, L[i]? = some p → p.2 = k → ∃ c', c ≤ c' ∧ c' < K ∧ t.place.toList[i]? = some (way t.mask (thash P w k) c')) →
      wpAny (model P w) A (setSearchFrom a (.ref x) (thash P w k) ad f stand) Q E s
  | 0, _, _, _, _, hf, _ => absurd hf (Nat.not_lt_zero _)
  | f + 1, c, stand, hst, hc, hf, hre => by
    obtain ⟨o, ho, hex, hd⟩ := R.ob
    rw [setSearchFrom_succ]
    refine wpAny_bind (wpAny_setState_of ho hd R.fits ?_)
    dsimp only
    refine wp_if_neg R.gw ?_
    try refine wpAny_bind (wpAny_pure ?_)
    generalize hp0 : runAt t.mask (SetTable.bits (thash P w k) % (t.mask + 1)) (SetTable.bits (thash P w k)) = p0 at hst
    have wy : ∀ q, way t.mask (thash P w k) q = (nth t.mask p0 q).j := fun q => by rw [← hp0]
    have d0 : p0.dummy = none := by rw [← hp0]; rfl
    have sh : ∀ q, nth t.mask (nth t.mask p0 c) q = nth t.mask p0 (c + q) := fun q => (nth_add t.mask c _ q).symm
    have sj : ∀ q, (nth t.mask (nth t.mask p0 c) q).j = way t.mask (thash P w k) (c + q) := fun q => (congrArg SetTable.Probe.j (sh q)).trans (wy _).symm
    have spec := go_spec t R.tab.ris R.tab.dm (fun i => (es[i]?.map (·.1)).getD 0) (thash P w k) (10 * SetTable.turns t.mask) (K - c) _ (nodm t.mask c p0 d0) (by omega)
      (fun q hq => by rw [sj]; exact hKb (c + q) (by omega)) (by rw [sj, show c + (K - c) = K by omega]; exact hK)
    have hashAt : ∀ (i : Nat) p, L[i]? = some p → (fun i => (es[i]?.map (·.1)).getD 0) i = thash P w p.2 := fun i p hp => by
      show (es[i]?.map (·.1)).getD 0 = _
      rw [R.entry hp] <;> rfl
    rcases spec with ⟨q, i, hq, hi, hh, hno, hpr⟩ | ⟨hno, hpr⟩
    · have hpr2 : t.probe (fun i => (es[i]?.map (·.1)).getD 0) (thash P w k) (stand.getD (t.probeStart (thash P w k))) = some (.candidate (way t.mask (thash P w k) (c + q)) i (nth t.mask p0 (c + (q + 1)))) := by
        rw [hst, ← sj, ← sh]
        exact hpr
      rw [hpr2]
      dsimp only
      rw [sj] at hi
      have hil : i < L.length := by
        have h1 := (List.getElem?_eq_some_iff.mp hi).1
        have h2 := R.tab.sz
        rw [List.length_map] at h2
        rw [Array.length_toList] at h1
        omega
      obtain ⟨p, hp⟩ : ∃ p, L[i]? = some p := ⟨_, List.getElem?_eq_getElem hil⟩
      have hmem : p ∈ L := List.mem_of_getElem? hp
      have hsl : t.slot (way t.mask (thash P w k) (c + q)) = .live i := slot_live R.tab.ris hi
      have rest : wpAny (model P w) A (searchRest a (.ref x) (thash P w k) ad f es t (way t.mask (thash P w k) (c + q)) i (nth t.mask p0 (c + (q + 1)))) Q E s := by
        unfold searchRest
        rw [R.entry hp]
        dsimp only
        refine wpAny_bind (wpAny_holding (wpAny_eqBool_tuple hu (R.tup p hmem) hx ?_))
        refine wpAny_bind (wpAny_setState_of ho hd R.fits ?_)
        dsimp only
        by_cases hak : ad = true ∧ p.2 = k
        · refine wp_if_pos (by simp [hak.1, hak.2]) ?_
          exact wpAny_pure (hin none (fun _ => rfl) (fun z => by rw [hak.1] at z; exact nomatch z) (List.mem_map.mpr ⟨p, hmem, hak.2⟩))
        · refine wp_if_neg (by
            rw [Bool.and_eq_true, decide_eq_true_eq]
            exact hak) ?_
          try refine wpAny_bind (wpAny_pure ?_)
          rw [sameMem]
          dsimp only
          simp only [if_true, hsl, R.entry hp]
          refine wpAny_bind (wpAny_isSame_ref_self (wpAny_bind (wpAny_pure ?_)))
          simp only [if_true]
          by_cases hkk : p.2 = k
          · refine wp_if_pos (by simp [hkk]) ?_
            exact wpAny_pure (hin (some i) (fun z => absurd ⟨z, hkk⟩ hak) (fun _ z => nomatch z) (List.mem_map.mpr ⟨p, hmem, hkk⟩))
          · refine wp_if_neg (by simp [hkk]) ?_
            refine find_from R hx hu hKf hK hKb hin hout f (c + (q + 1)) _ (by rw [hp0]; rfl) (by omega) (by omega) fun i0 p1 h0 hk0 => ?_
            obtain ⟨c', a1, a2, a3⟩ := hre i0 p1 h0 hk0
            refine ⟨c', ?_, a2, a3⟩
            have ne1 : ¬ c' < c + q := fun z => hno (c' - c) i0 (by omega) (by rw [sj, show c + (c' - c) = c' by omega]; exact a3) ((hashAt i0 p1 h0).trans (congrArg (thash P w) hk0))
            have ne2 : c' ≠ c + q := fun z => by
              rw [z] at a3
              have s0 := slot_live R.tab.ris a3
              rw [hsl] at s0
              injection s0 with s0
              rw [← s0, hp] at h0
              exact hkk ((congrArg Prod.snd (Option.some.inj h0)).trans hk0)
            omega
      by_cases hl : t.led = true
      · refine wp_if_neg (by simp [hl]) ?_
        try refine wpAny_bind (wpAny_pure ?_)
        exact rest
      · refine wp_if_pos (by simp [hl]) ?_
        refine wpAny_bind (seen_tup hx (fun y hy => ?_) ?_)
        · obtain ⟨e, he, ee⟩ := List.mem_map.mp hy
          have he1 : e ∈ es ∧ e.1 = thash P w k := by simpa using he
          have he2 : e ∈ es.toList := by simpa using he1.1
          rw [R.rows] at he2
          obtain ⟨p2, hp2, e2⟩ := List.mem_map.mp he2
          exact ⟨p2.2, p2.1, by rw [← ee, ← e2], R.tup p2 hp2⟩
        · refine wp_if_neg (by decide) ?_
          try refine wpAny_bind (wpAny_pure ?_)
          exact rest
    · have hpr2 : t.probe (fun i => (es[i]?.map (·.1)).getD 0) (thash P w k) (stand.getD (t.probeStart (thash P w k))) = some (.empty (way t.mask (thash P w k) K) none) := by
        have e2 : way t.mask (thash P w k) K = (nth t.mask (nth t.mask p0 c) (K - c)).j := by rw [sj, show c + (K - c) = K by omega]
        rw [hst, e2]
        exact hpr
      rw [hpr2]
      dsimp only
      refine wpAny_pure (hout fun hm => ?_)
      obtain ⟨p1, h1, hk1⟩ := List.mem_map.mp hm
      obtain ⟨i0, h0⟩ := List.getElem?_of_mem h1
      obtain ⟨c', a1, a2, a3⟩ := hre i0 p1 h0 hk1
      exact hno (c' - c) i0 (by omega) (by rw [sj, show c + (c' - c) = c' by omega]; exact a3) ((hashAt i0 p1 h0).trans (congrArg (thash P w) hk1))
theorem find_at {ad : Bool} (R : SetG P w s.heap a L es ep t) {x : Addr} {k : List Int} (hx : L2.IsT P w s.heap k x) (hu : A.units < cLine) {Q : SetFound → Shared → Prop}
    (hin : ∀ i, (ad = true → i = none) → (ad = false → i ≠ none) → k ∈ L.map (·.2) → Q (.there i) s)
    (hout : ∀ K, k ∉ L.map (·.2) → way t.mask (thash P w k) K ∉ t.place.toList → (∀ c, c < K → way t.mask (thash P w k) c ∈ t.place.toList) → Q (.free (way t.mask (thash P w k) K) false) s) : wpAny (model P w) A (setSearch a (.ref x) (thash P w k) ad) Q E s := by
  have hroom := R.room
  obtain ⟨K, hKf, hK, hKb⟩ := R.tab.first (by rw [List.length_map]; omega) (thash P w k)
  have hbig : K < 100000 := by
    have : 10 * SetTable.turns t.mask ≤ 5260 := by
      unfold SetTable.turns
      rcases R.tab.mok with e | e | e | e <;> omega
    omega
  unfold setSearch
  refine find_from R hx hu hKf hK hKb hin (fun z => hout K z hK hKb) 100000 0 none rfl (Nat.zero_le _) (by omega) fun i p hp hk => ?_
  have hi : (L.map fun p => thash P w p.2)[i]? = some (thash P w k) := by rw [List.getElem?_map, hp, ← hk] <;> rfl
  have hil : i < t.place.toList.length := by
    have h1 : i < L.length := (List.getElem?_eq_some_iff.mp hp).1
    have h2 := R.tab.sz
    rw [List.length_map] at h2
    rw [Array.length_toList]
    omega
  have hj := List.getElem?_eq_getElem hil
  obtain ⟨c, hc, e⟩ := R.tab.before hK hi hj
  exact ⟨c, Nat.zero_le _, hc, by rw [hj, e]⟩
theorem relay_at {o : Obj} (ho : s.heap.get? a = some o) (hex : o.ExactSet) (hd : o.data = Data.set es ep t) (hrows : es.toList = rowsOf P w L) (hsz : t.place.size = es.size) (hdm : t.dummies = #[]) (hfl : es.size ≤ t.mask)
    (nd : (L.map (·.2)).Nodup) (tup : ∀ p ∈ L, L2.IsT P w s.heap p.2 p.1) (pl : t.plain = true) (ld : w.params.followText "set-order" = true ∨ t.led = true) (few : L.length < 300) {wanted M : Nat} (hw : SetTable.sizeAbove wanted - 1 = M) (hM : Mq M) (hw2 : SetTable.sizeAbove wanted ≤ 512) (hn : L.length * 5 < M * 3) {Q : Unit → Shared → Prop}
    (hQ : ∀ h' L' es' ep' t', Heap.SameBut a s.heap h' → SetG P w h' a L' es' ep' t' → L'.Perm L → Q () { s with heap := h' }) : wpAny (model P w) A (setRelay a wanted) Q E s := by
  have hsl : es.size = L.length := by
    have h := congrArg List.length hrows
    unfold rowsOf at h
    rw [List.length_map, Array.length_toList] at h
    exact h
  have hfits : t.fits es.size = true := by
    show (t.place.size == es.size && decide (t.place.size + t.dummies.size ≤ t.mask)) = true
    rw [hdm, Bool.and_eq_true, beq_iff_eq, decide_eq_true_eq]
    show t.place.size = es.size ∧ t.place.size + 0 ≤ t.mask
    omega
  obtain ⟨t', order, e, hp, T, em, el, ep'⟩ := relaid_ok t (hs := es.map fun x => x.1) hw hM (by rw [Array.size_map, hsl]; omega)
  rw [Array.size_map, hsl] at hp
  obtain ⟨L2, r1, r2, r3⟩ := order_rows L es order hrows hp
  have hs2 : (order.filterMap fun x => es[x]?).size = es.size := by
    have h := congrArg List.length r1
    unfold rowsOf at h
    rw [Array.length_toList, List.length_map, r2.length_eq] at h
    rw [h, hsl]
  rw [setRelay_eq]
  refine wpAny_bind (wpAny_setState_of ho hd hfits ?_)
  dsimp only
  refine wp_if_neg (by rw [sizeLine_eq]; omega) ?_
  rw [e]
  dsimp only
  refine wpAny_bind ?_
  refine wp_if_neg (by rw [hs2]; simp) ?_
  try refine wpAny_bind (wpAny_pure ?_)
  refine wpAny_pure ?_
  dsimp only
  refine wpAny_storeSet_of ho hd ?_ (by rw [hs2, hsl, sizeLine_eq]; omega)
  have sb := Heap.SameBut.update s.heap a (Obj.putSet (order.filterMap fun x => es[x]?) t')
  refine hQ _ L2 _ (ep + 1) t' sb ⟨⟨_, store_at ho hd, ⟨hex.1, hex.2.1, hex.2.2⟩, rfl⟩, r1, ?_, (r2.map (·.2)).nodup_iff.mpr nd, fun p hpm => isT_same (tup p (r2.mem_iff.mp hpm)) ho hd sb, ep'.trans pl, ?_, ?_, ?_⟩ r2
  · rw [r3]
    exact T
  · rw [el]
    exact ld
  · rw [r2.length_eq, em]
    exact hn
  · rw [r2.length_eq]
    exact few
theorem grown_to {m n : Nat} (ok : Mq m) (lo : n * 5 < m * 3) (hi : (n + 1) * 5 ≥ m * 3) (few : n + 1 < 300) : ∃ M, SetTable.sizeAbove (SetTable.grown (n + 1)) - 1 = M ∧ Mq M ∧ SetTable.sizeAbove (SetTable.grown (n + 1)) ≤ 512 ∧ (n + 1) * 5 < M * 3 := by
  rcases ok with rfl | rfl | rfl | rfl
  · obtain rfl : n = 4 := by omega
    exact ⟨31, by decide, .inr (.inl rfl), by decide, by decide⟩
  · obtain rfl : n = 18 := by omega
    exact ⟨127, by decide, .inr (.inr (.inl rfl)), by decide, by decide⟩
  · obtain rfl : n = 76 := by omega
    exact ⟨511, by decide, .inr (.inr (.inr rfl)), by decide, by decide⟩
  · omega
theorem add_at (R : SetG P w s.heap a L es ep t) {x : Addr} {k : List Int} (hx : L2.IsT P w s.heap k x) (hu : A.units < cLine) (hfew : L.length + 1 < 300) {Q : Bool → Shared → Prop}
    (hQ : ∀ b h' L' es' ep' t', Heap.SameBut a s.heap h' → SetG P w h' a L' es' ep' t' → (k ∈ L.map (·.2) → L' = L) → (k ∉ L.map (·.2) → L'.Perm ((x, k) :: L)) → Q b { s with heap := h' }) : wpAny (model P w) A (setAddHashed a (.ref x) (thash P w k)) Q E s := by
  obtain ⟨o, ho, hex, hd⟩ := R.ob
  have hsl := R.size
  have hroom := R.room
  show wpAny _ _ (holding _ (setAddHashedIn a (.ref x) (thash P w k) (99999 + 1))) Q E s
  refine wpAny_holding ?_
  rw [setAddHashedIn_succ]
  refine wpAny_bind (wpAny_setState_of ho hd R.fits ?_)
  dsimp only
  refine wp_if_neg (by simp [byScan, Value.scannable]) ?_
  refine wpAny_bind (find_at R hx hu (fun i i0 _ hm => ?_) fun K hm hK hb => ?_)
  · dsimp only
    exact wpAny_pure (hQ false s.heap L es ep t (Heap.SameBut.refl a s.heap) R (fun _ => rfl) fun z => absurd hm z)
  · dsimp only
    refine wpAny_bind (wpAny_setState_of ho hd R.fits ?_)
    dsimp only
    obtain ⟨q1, q2, q3, q4, q5, q6, q9⟩ := R.tab.put hK hb
    have hp1 : (t.put (way t.mask (thash P w k) K)).1.plain = true := q6.trans R.plain
    have qd := put_dm R.tab.dm (way t.mask (thash P w k) K)
    rw [List.length_map] at q2 q9
    generalize hpt : t.put (way t.mask (thash P w k) K) = tp at q1 q3 q4 q5 q6 q9 hp1 qd
    obtain ⟨t1, p⟩ := tp
    dsimp only at q1 q3 q4 q5 q6 q9 hp1 qd
    generalize SetTable.below t.place (way t.mask (thash P w k) K) = p0 at q1 q2 q3
    subst q1
    dsimp only
    refine wp_if_pos hp1 ?_
    refine wpAny_bind (hashBy_tup hx ?_)
    simp only [if_true]
    have hin : (SetTable.insertAt es p (thash P w k, Value.ref x)).toList = rowsOf P w (List.take p L ++ (x, k) :: List.drop p L) := by
      rw [SetTable.toList_insertAt, rows_put, R.rows]
    have pm : (List.take p L ++ (x, k) :: List.drop p L).Perm ((x, k) :: L) := put_perm L p (x, k)
    have hlen : (List.take p L ++ (x, k) :: List.drop p L).length = L.length + 1 := pm.length_eq
    have hhs : (List.take p L ++ (x, k) :: List.drop p L).map (fun p => thash P w p.2) = List.take p (L.map fun p => thash P w p.2) ++ thash P w k :: List.drop p (L.map fun p => thash P w p.2) := by
      rw [List.map_append, List.map_cons, List.map_take, List.map_drop]
    have nd1 : ((List.take p L ++ (x, k) :: List.drop p L).map (·.2)).Nodup := (pm.map (·.2)).nodup_iff.mpr (by
      rw [List.map_cons]
      exact List.nodup_cons.mpr ⟨hm, R.nd⟩)
    have hes : (SetTable.insertAt es p (thash P w k, Value.ref x)).size = L.length + 1 := by
      have h := congrArg List.length hin
      unfold rowsOf at h
      rw [List.length_map, Array.length_toList, hlen] at h
      exact h
    rw [← hhs] at q3
    refine wpAny_bind (wpAny_storeSet_of ho hd ?_ (by rw [hes, sizeLine_eq]; omega))
    have sb := Heap.SameBut.update s.heap a (Obj.putSet (SetTable.insertAt es p (thash P w k, Value.ref x)) t1)
    have ho1 := store_at (es' := SetTable.insertAt es p (thash P w k, Value.ref x)) (t' := t1) ho hd
    have tup1 : ∀ q ∈ List.take p L ++ (x, k) :: List.drop p L, L2.IsT P w (s.heap.update a (Obj.putSet (SetTable.insertAt es p (thash P w k, Value.ref x)) t1)) q.2 q.1 := fun q hq => by
      rcases List.mem_cons.mp (pm.mem_iff.mp hq) with e | e
      · rw [e]
        exact isT_same hx ho hd sb
      · exact isT_same (R.tup q e) ho hd sb
    have ld1 : w.params.followText "set-order" = true ∨ t1.led = true := by
      rw [q5]
      exact R.led
    by_cases hf : t1.tooFull = true
    · refine wp_if_pos (by rw [hf]; rfl) ?_
      have hfull : (L.length + 1) * 5 ≥ t.mask * 3 := by
        have h : decide (t1.fill * 5 ≥ t1.mask * 3) = true := hf
        rw [decide_eq_true_eq, q9, q4] at h
        exact h
      obtain ⟨M, g1, g2, g3, g4⟩ := grown_to R.tab.mok hroom hfull (by omega)
      rw [hsl]
      refine wpAny_bind (relay_at (s := { s with heap := s.heap.update a (Obj.putSet (SetTable.insertAt es p (thash P w k, Value.ref x)) t1) }) ho1 ⟨hex.1, hex.2.1, hex.2.2⟩ rfl hin (by
          have h := q3.sz
          rw [List.length_map, hlen] at h
          rw [h, hes]) qd (by rw [hes, q4]; omega) nd1 tup1 hp1 ld1 (by rw [hlen]; omega) g1 g2 g3 (by rw [hlen]; exact g4) fun h' L' es' ep' t' sb2 R' pm2 => ?_)
      exact wpAny_pure (hQ true h' L' es' ep' t' (sb.trans sb2) R' (fun z => absurd z hm) fun _ => pm2.trans pm)
    · refine wp_if_neg (by rw [Bool.eq_false_iff.mpr hf]; simp) ?_
      have hfull : (L.length + 1) * 5 < t.mask * 3 := by
        have h : ¬ decide (t1.fill * 5 ≥ t1.mask * 3) = true := hf
        rw [decide_eq_true_eq, q9, q4] at h
        omega
      exact wpAny_pure (hQ true _ _ _ _ t1 sb ⟨⟨_, ho1, ⟨hex.1, hex.2.1, hex.2.2⟩, rfl⟩, hin, q3, nd1, tup1, hp1, ld1, by rw [hlen, q4]; exact hfull, by rw [hlen]; exact hfew⟩ (fun z => absurd z hm) fun _ => pm)
theorem find_tup (R : SetG P w s.heap a L es ep t) {x : Addr} {k : List Int} (hx : L2.IsT P w s.heap k x) (hu : A.units < cLine) {Q : Option Nat → Shared → Prop}
    (h : ∀ r : Option Nat, r.isSome = decide (k ∈ L.map (·.2)) → Q r s) : wpAny (model P w) A (setFind a (.ref x) (thash P w k)) Q E s := by
  obtain ⟨o, ho, hex, hd⟩ := R.ob
  show wpAny (model P w) A (do
    let (es, _, _) ← setState a
    if byScan (.ref x) es then
      rule "set.find.by-scan"
      match ← setScan a (.ref x) (thash P w k) false es with
      | .found i => return some i
      | .absent => return none
      | .anew => return ← setFindIn a (.ref x) (thash P w k) 99999
    match ← setSearch a (.ref x) (thash P w k) with
    | .there i => return i
    | .free .. => return none) Q E s
  refine wpAny_bind (wpAny_setState_of ho hd R.fits ?_)
  dsimp only
  refine wp_if_neg (by simp [byScan, Value.scannable]) ?_
  try refine wpAny_bind (wpAny_pure ?_)
  refine wpAny_bind (find_at R hx hu (fun i _ i0 hm => ?_) fun K hm _ _ => ?_)
  · dsimp only
    cases i with
    | none => exact absurd rfl (i0 rfl)
    | some i => exact wpAny_pure (h (some i) (decide_eq_true hm).symm)
  · dsimp only
    exact wpAny_pure (h none (decide_eq_false hm).symm)
theorem SetG.ty (R : SetG P w s.heap a L es ep t) : s.TypeIs (.ref a) "set" := by
  obtain ⟨o, ho, hex, _⟩ := R.ob
  exact ⟨o, ho, hex.1⟩
/-- t in S -/
theorem in_tup {x : Addr} {k : List Int} {Q : Value → Shared → Prop} (R : SetG P w s.heap a L es ep t) (hx : L2.IsT P w s.heap k x) (hu : A.in1.units < cLine) (h : ∀ tk, Q (.bool (decide (k ∈ L.map (·.2)))) { s with toks := tk }) : wpAny (model P w) A (compareOp .In (.ref x) (.ref a)) Q E s := by
  have hT := SetG.ty R
  show wpAny _ _ (do return .bool (← contains (.ref a) (.ref x))) Q E s
  refine wpAny_bind ?_
  unfold contains
  try with_reducible refine wpAny_holding ?_
  refine wpAny_bind (wpAny_specialOf hT PySem.F.slot_set_contains.lookup ?_)
  show wpAny _ _ (if (some (Value.builtin "set.__contains__") == some Value.none) = true then _ else _) _ E s
  rw [if_neg (by rw [beq_builtin_none]; exact Bool.false_ne_true)]
  refine wpAny_bind (wpAny_callSpecialUnlessNone?_slot (name := Str.ofString "__contains__") hT PySem.F.slot_set_contains
    (wpAny_call_entry PySem.F.slot_set_contains hT entry_set_contains ?_ (PySem.F.args_set_contains_2 _ _)))
  unfold Builtin.«frozenset.__contains__» Builtin.Frozenset.oneOther
  simp only [List.isEmpty_nil, bind_assoc]
  unfold Builtin.Frozenset.addrOf Builtin.Frozenset.withSetAsKey setContains
  refine wpAny_bind (wpAny_pure ?_)
  try dsimp only
  refine wpAny_bind (wpAny_pure ?_)
  try dsimp only
  refine wpAny_bind (wpAny_tryCatch ?_)
  refine wpAny_holding ?_
  refine wpAny_bind (wpAny_pyHash_tuple hu hx ?_)
  refine wpAny_bind (find_tup (s := { s with toks := s.toks + (k.length + 1) }) R hx hu fun r hr => ?_)
  refine wpAny_pure ?_
  show wpAny _ _ (ret (Value.bool r.isSome)) _ _ _
  rw [hr]
  exact wpAny_pure ⟨_, rfl, wpAny_truthy_bool (wpAny_pure (h _))⟩
/-- set.add of a tuple -/
theorem tup_addC {x : Addr} {k : List Int} {Q : Value → Shared → Prop} (R : SetG P w s.heap a L es ep t) (hx : L2.IsT P w s.heap k x) (hu : A.in1.units < cLine) (few : L.length + 1 < 300)
    (q : ∀ h' L' es' ep' t' tk, Heap.SameBut a s.heap h' → SetG P w h' a L' es' ep' t' → (k ∈ L.map (·.2) → L' = L) → (k ∉ L.map (·.2) → L'.Perm ((x, k) :: L)) → Q .none { s with heap := h', toks := tk }) : wpAny (model P w) A (call (.builtin "set.add") [.ref a, .ref x]) Q E s := by
  refine wpAny_call_entry PySem.F.slot_set_add (SetG.ty R) PySem.F.entry_set_add ?_ (PySem.F.args_set_add_2 _ _)
  unfold Builtin.«set.add» Builtin.Frozenset.oneOther
  simp only [List.isEmpty_nil, bind_assoc]
  unfold Builtin.Frozenset.addrOf setAdd
  refine wpAny_bind (wpAny_pure ?_)
  try dsimp only
  refine wpAny_bind (wpAny_pure ?_)
  try dsimp only
  refine wpAny_bind (wpAny_holding (wpAny_bind (wpAny_pyHash_tuple hu hx ?_)))
  refine add_at (s := { s with toks := s.toks + (k.length + 1) }) R hx hu few fun b h' L' es' ep' t' sb R' c1 c2 => ?_
  show wpAny _ _ (ret Value.none) _ _ _
  exact wpAny_pure ⟨_, rfl, q h' L' es' ep' t' _ sb R' c1 c2⟩
end
end MuTg
namespace MuTg
open PySem PySem.Spec PyProof.Rows L2
section
variable {X : Cx}
/-- t in S, S a set of tuples of whole numbers -/
def rInTu (K : PySem.W.Frag) (P : Program) (w : World) : R2 := fun x y H Q => ∃ (p D : Addr) (k : List Int) (L : List (Addr × List Int)), x = .ref p ∧ y = .ref D ∧ SqT K H p (k.map V.int) ∧ H D = some (SetGO P w D L) ∧ (∀ q ∈ L, SqT K H q.1 (q.2.map V.int)) ∧ Q (.bl (decide (k ∈ L.map (·.2)))) H
theorem op_inTu (hu : X.A.units + 64 < cLine) : OpR X (compareOp .In) (rInTu X.K X.prog X.w) := by
  intro pins s σ H x y v u Q I rx ry h
  obtain ⟨p, D, k, L, rfl, rfl, hp, hD, hL, q⟩ := h
  obtain rfl : v = Value.ref p := rx
  obtain rfl : u = Value.ref D := ry
  have R0 : SetG0 X.prog X.w s.heap D L := (I.hok D _ hD).1
  obtain ⟨es, ep, t, R⟩ := R0.full fun q hq => I.isT (hL q hq)
  refine in_tup R (I.isT hp) (by show X.A.units + 1 < cLine; omega) fun tk => ⟨.bl _, H, I.tok tk, rfl, q⟩
theorem add_okT {pins : List (Addr × Obj)} {σ : L2.St} {H : Hp} {s : Shared} {E : Value → Shared → Prop} {D x : Addr} {L : List (Addr × List Int)} {k : List Int} {Q : Value → Shared → Prop} (I : Inv X pins σ H s) (hD : H D = some (SetGO X.prog X.w D L)) (hL : ∀ q ∈ L, SqT X.K H q.1 (q.2.map V.int)) (hx : SqT X.K H x (k.map V.int)) (hu : X.A.units + 64 < cLine) (few : L.length + 1 < 300)
    (h : ∀ L' s', (k ∈ L.map (·.2) → L' = L) → (k ∉ L.map (·.2) → L'.Perm ((x, k) :: L)) → Inv X pins σ (upd H D (SetGO X.prog X.w D L')) s' → Q .none s') : wpAny (model X.prog X.w) X.A (call (.builtin "set.add") [.ref D, .ref x]) Q E s := by
  have R0 : SetG0 X.prog X.w s.heap D L := (I.hok D _ hD).1
  obtain ⟨es, ep, t, R⟩ := R0.full fun q hq => I.isT (hL q hq)
  refine tup_addC R (I.isT hx) (by show X.A.units + 1 < cLine; omega) few fun h' L' es' ep' t' tk sb R' c1 c2 => ?_
  obtain ⟨o2, ho2, _⟩ := R'.ob
  exact h L' _ c1 c2 (I.write (e := D) (t' := tk) (by rw [hD]; trivial) (.inl rfl) (fun b u hb hu => (sb.2 b hb).trans hu) ⟨o2, ho2⟩ (setGO_new R'.t0))
abbrev cs1 (e ta ia : Expr) (sc : Scope) (ps : Pos) : Expr := .SetComp e [⟨ta, ia, [], 0⟩] sc ps
abbrev lp1 (e ta ia : Expr) (sc : Scope) (ps : Pos) (it acc : Value) (env : Env) : Code := .compLoop (cs1 e ta ia sc ps) 0 it acc env
abbrev sta1 (e ta ia : Expr) (sc : Scope) (ps : Pos) (it acc : Value) (env : Env) : Code := .compStart (cs1 e ta ia sc ps) 0 it acc env
section
variable {prog : Program} {w : World} {A : Around} {R : Result → Shared → Prop} {s : Shared} {e ta ia : Expr} {sc : Scope} {ps : Pos} {it acc : Value} {env : Env}
abbrev er1 (prog : Program) (w : World) (A : Around) (env : Env) (R : Result → Shared → Prop) : Value → Shared → Prop := notedBy (model prog w) A env fun x s' => R (.error x) s'
theorem turn1 : compTurn (cs1 e ta ia sc ps) 0 it acc env = (do
      standAt ia.pos
      match ← pyNext it with
      | none => pure (.done .next)
      | some y =>
        letOwnedTupleGo ta it y
        assign ta env y
        let mut go := true
        for c in ([] : List Expr) do
          if go then go ← isTrue c env (eval c env)
        if go then
          (do let y ← eval e env; standAt e.pos; let _ ← call (.builtin "set.add") [acc, y])
        again (lp1 e ta ia sc ps it acc env)) := by rfl
theorem loop1 (J : Nat → Shared → Prop)
    (step : ∀ n s, J n s → wpAny (model prog w) A (pyNext it) (fun r s1 => match r with
      | none => R (.ok .next) s1
      | some y => wpAny (model prog w) A (letOwnedTupleGo ta it y) (fun _ s2 => wpAny (model prog w) A (assign ta env y) (fun _ s3 => wpAny (model prog w) A (eval e env) (fun x s4 =>
          wpAny (model prog w) A (call (.builtin "set.add") [acc, x]) (fun _ s5 => ∃ m, m < n ∧ J m s5) (er1 prog w A env R) s4) (er1 prog w A env R) s3) (er1 prog w A env R) s2) (er1 prog w A env R) s1) (er1 prog w A env R) s)
    (n : Nat) (h : J n s) : codeAny (model prog w) A (lp1 e ta ia sc ps it acc env) R s := by
  refine codeAny_loop rfl J (fun n s j => ?_) n h
  show wpAny _ A ((compTurn (cs1 e ta ia sc ps) 0 it acc env).onRaise (fun x => do noteFrame x env; theTreesLotGoes x)) _ _ s
  refine wpAny_noted ?_
  rw [turn1]
  refine wpAny_bind (wpAny_standAt (wpAny_bind (wpAny_mono (step n s j) (fun r s1 h1 => ?_) fun _ _ z => z)))
  cases r with
  | none => exact wpAny_pure h1
  | some y =>
    refine wpAny_bind (wpAny_mono h1 (fun _ s2 h2 => wpAny_bind (wpAny_mono h2 (fun _ s3 h3 => ?_) fun _ _ z => z)) fun _ _ z => z)
    refine wpAny_bind (wpAny_tests_nil ?_)
    exact wpAny_bind (wpAny_bind (wpAny_mono h3 (fun x s4 h4 => wpAny_bind (wpAny_standAt (wpAny_bind (wpAny_mono h4 (fun _ s5 h5 => wpAny_pure (wpAny_pure ⟨rfl, h5⟩)) fun _ _ z => z)))) fun _ _ z => z))
theorem start1 (h0 : codeAny (model prog w) A (lp1 e ta ia sc ps it acc env) R s)
    (h : wpAny (model prog w) A (pyIter it) (fun jt s1 => codeAny (model prog w) A (lp1 e ta ia sc ps jt acc env) R s1) (er1 prog w A env R) s) :
    codeAny (model prog w) A (sta1 e ta ia sc ps it acc env) R s := PpSet.codeAny_compStart_set h0 h
end
/-- D the new set, e a new tuple of whole numbers -/
def tSc1 (K : PySem.W.Frag) (P : Program) (w : World) (wa : TI) (ga : TG) (te : TE) (vs : List Nat) : TE := fun σ H Q => wa σ H fun J H1 => ∀ D, H1 D = none → ∃ W : Nat → Nat → Hp → Prop, (∃ m, W 0 m (upd H1 D (SetGO P w D []))) ∧ ∀ i m H, W i m H →
  (J.stop i H ∧ Q (.ref D) H) ∨ (J.go i H ∧ ∃ Nx : Hp → Prop, (∀ H', Nx H' → ∃ m', m' < m ∧ W (i + 1) m' H') ∧ ∀ x H', J.yld i H x H' → ga x (wipe σ vs) H' fun σ2 H2 => wipe σ2 vs = wipe σ vs ∧
    te σ2 H2 fun y H3 => ∃ (t : Addr) (k : List Int) (L : List (Addr × List Int)), y = .ref t ∧ SqT K H3 t (k.map V.int) ∧ H3 D = some (SetGO P w D L) ∧ (∀ q ∈ L, SqT K H3 q.1 (q.2.map V.int)) ∧ L.length + 1 < 300 ∧ ∀ L', (k ∈ L.map (·.2) → L' = L) → (k ∉ L.map (·.2) → L'.Perm ((t, k) :: L)) → Nx (upd H3 D (SetGO P w D L')))
theorem core1 {pins : List (Addr × Obj)} {s : Shared} {σ : L2.St} {H : Hp} {Q : VK} {e ta ia : Expr} {sc : Scope} {own : List (Str × Nat)} {ps : Pos} {wa : TI} {ga : TG} {te : TE}
    (hc : X.calm = true) (hu : X.A.units + 64 < cLine) (hN : X.N.Nodup) (I : Inv X pins σ H s) (hi : PI X ta ia wa) (ok : BlkOk X.N X.env.scope sc own)
    (hga : ∀ (s : Shared) (H : Hp) (C : Addr) (cl : List (Str × Addr)) (fp : List Addr), PG (X.blk s H sc (compEnvC sc cl C X.env) fp) ta ga)
    (he : ∀ (s : Shared) (H : Hp) (C : Addr) (cl : List (Str × Addr)) (fp : List Addr), PE (X.blk s H sc (compEnvC sc cl C X.env) fp) e te)
    (hs : ∀ x, foldedSetIterable ia X.env x = pure x)
    (h : tSc1 X.K X.prog X.w wa ga te (own.map (·.2)) σ H Q) :
    wpAny (model X.prog X.w) X.A (eval (cs1 e ta ia sc ps) X.env) (EP X pins σ Q) X.xe s := by
  have free : ∀ y ∈ sc.names, y.2 = .free → ∃ c, X.env.cells.lookup y.1 = some c := fun y hy z => (ok.free y hy z).elim (fun k => I.ok.has _ (.inl k)) (fun k => I.ok.has _ (.inr k))
  rw [PpSet.eval_SetComp]
  refine wpAny_comprehension_free (use := none) rfl hs (closure_ok free) ok.kind (fun y hy z => by rw [ok.uniq y hy, z])
    (thn (hi.run pins s σ H _ I h) fun xv s1 hx => thn hx fun itv s2 h2 => ?_)
  obtain ⟨it, fp, tn, J, H2, e0, I2, T, sta, f2, q⟩ := h2
  subst e0
  refine PpSet.newSet_ok (newEnv_comp ?_)
  generalize hD : s2.heap.objs.size = D
  have nD : H2 D = none := I2.hok.fresh (Nat.le_of_eq hD)
  obtain ⟨W, ⟨m0, w0⟩, turn⟩ := q D nD
  generalize hs3 : ({ s2 with heap := s2.heap.push { cls := .type "set", dict := none, data := .set #[] 0 (.fresh 0 0 (!X.w.params.followText "set-order")) } } : Shared) = s3
  have heap3 : s3.heap = s2.heap.push { cls := .type "set", dict := none, data := .set #[] 0 (.fresh 0 0 (!X.w.params.followText "set-order")) } := by rw [← hs3]
  have I3 : Inv X pins σ (upd H2 D (SetGO X.prog X.w D [])) s3 := by
    rw [← hs3]
    refine I2.laid (t' := s2.toks) (fun b o z => Heap.get?_push_of_some _ z) (Nat.le_of_eq hD) ?_
    rw [← hD]
    exact setGO_new (setG_fresh (Heap.get?_push_size _ rfl)).t0
  have f3 : ∀ b ∈ fp, FpOk X pins (upd H2 D (SetGO X.prog X.w D [])) b ∧ b < s3.heap.objs.size := fun b hb => by
    obtain ⟨o, z, _⟩ := T.obj _ _ sta b hb
    have lt := Heap.lt_size z
    refine ⟨⟨?_, (f2 b hb).2⟩, by rw [heap3, Heap.size_push]; exact Nat.lt_succ_of_lt lt⟩
    rw [upd_ne (by rw [← hD]; exact Nat.ne_of_lt lt)]
    exact (f2 b hb).1
  have sta3 : tn 0 s3.heap := T.keep _ _ _ sta fun b _ o z => by rw [heap3]; exact Heap.get?_push_of_some _ z
  have I4 := block_start I3 ok hN f3
  have pa := hga s3 (upd H2 D (SetGO X.prog X.w D [])) s3.heap.objs.size (cellsFrom (s3.heap.objs.size + 1) sc.names (cloFrom X.env.cells sc.names [])) fp
  have pe := he s3 (upd H2 D (SetGO X.prog X.w D [])) s3.heap.objs.size (cellsFrom (s3.heap.objs.size + 1) sc.names (cloFrom X.env.cells sc.names [])) fp
  show codeAny _ _ (sta1 e ta ia sc ps (.ref it) (.ref D) (compEnvC sc (cellsFrom (s3.heap.objs.size + 1) sc.names (cloFrom X.env.cells sc.names [])) s3.heap.objs.size X.env)) (compPost (model X.prog X.w) X.A X.xe none (EP X pins σ Q) (.ref D) s3.heap.objs.size) { s3 with heap := pushCells (s3.heap.push { cls := .type "dict", data := .dict #[] }) sc.names }
  have nfp : ∀ b ∈ fp, (upd H2 D (SetGO X.prog X.w D [])) b = none := fun b hb => (f3 b hb).1.1
  generalize hce : compEnvC sc (cellsFrom (s3.heap.objs.size + 1) sc.names (cloFrom X.env.cells sc.names [])) s3.heap.objs.size X.env = ce at I4 pa pe ⊢
  have cL : ce.locals = s3.heap.objs.size := by subst hce; rfl
  generalize hH3 : upd H2 D (SetGO X.prog X.w D []) = H3 at I3 I4 pa pe w0 nfp f3
  generalize hs4 : ({ s3 with heap := pushCells (s3.heap.push { cls := .type "dict", data := .dict #[] }) sc.names } : Shared) = s4 at I4 ⊢
  have sta4 : tn 0 s4.heap := T.keep _ _ _ sta3 fun b _ o z => by rw [← hs4]; exact pushCells_keeps _ _ _ _ (Heap.get?_push_of_some _ z)
  have okf : ∀ {σ' : L2.St} {H' : Hp} {s' : Shared}, Inv (X.blk s3 H3 sc ce fp) [] σ' H' s' → (∀ b ∈ fp, H' b = none) → ∀ b ∈ fp, FpOk (X.blk s3 H3 sc ce fp) [] H' b := fun {σ' H' s'} I' hn b hb =>
    ⟨hn b hb, (I'.ok.exf b hb).1, I'.ok.exfs b hb, .inl hb, fun x c z => (I'.ok.exf b hb).2 x c z, fun p hp => absurd (show p ∈ ([] : List (Addr × Obj)) ++ [] from hp) (by simp)⟩
  have go : codeAny (model X.prog X.w) X.A (lp1 e ta ia sc ps (.ref it) (.ref D) ce) (compPost (model X.prog X.w) X.A X.xe none (EP X pins σ Q) (.ref D) s3.heap.objs.size) s4 := by
    refine loop1 (fun n s' => ∃ i H', Inv (X.blk s3 H3 sc ce fp) [] (wipe σ (own.map (·.2))) H' s' ∧ tn i s'.heap ∧ (∀ b ∈ fp, H' b = none) ∧ W i n H') ?_ m0 ⟨0, H3, I4, sta4, nfp, w0⟩
    rintro n s5 ⟨i, H5, I5, st5, n5, w5⟩
    rcases turn i n H5 w5 with ⟨stop, qq⟩ | ⟨goes, Nx, less, step⟩
    · refine thnF (T.done (X.blk s3 H3 sc ce fp) rfl rfl rfl hc i [] s5 _ H5 (fun _ _ => False) I5 (okf I5 n5) st5 stop) fun r s6 ⟨hr, I6⟩ => ?_
      subst hr
      have I7 : Inv X pins σ H5 s6 := I3.call' (ch := fp) I6.os I6.base I6.hok I6.bare fun b hb => ⟨(f3 b hb).1.2.2.2.1, (f3 b hb).1.2.1, (f3 b hb).1.2.2.2.2.1, (f3 b hb).1.2.2.2.2.2⟩
      have nC : H5 s3.heap.objs.size = none := by
        have z : H5 ce.locals = none := I6.free
        rw [cL] at z
        exact z
      obtain ⟨m, hn, _⟩ := I6.loc
      have hn : s6.heap.Ns ce.locals m := hn
      rw [cL] at hn
      obtain ⟨g0, g1, g2, g3, g4, g5⟩ := I3.fpOk (Nat.le_refl _) nC
      exact ⟨m, hn, fun h'' sb => ⟨.ref D, H5, I7.turned (t' := s6.toks) (fun b o hb z => (sb.2 b hb).trans z) nC g1 g3 g4 g5, rfl, qq⟩⟩
    · refine thnF (T.item (X.blk s3 H3 sc ce fp) rfl rfl rfl hc i [] s5 _ H5 (fun _ _ => False) I5 (okf I5 n5) st5 goes) fun r s6 ⟨u, hr, h6⟩ => ?_
      subst hr
      refine thnF h6 fun _ s7 ⟨x, H7, I7, r7, y7, st7, n7⟩ => ?_
      refine thnF (pa.run _ s7 _ H7 x u _ (I7.pinned (okf I7 n7) (T.obj _ _ st7)) r7 (step x H7 y7)) fun _ s8 ⟨σ8, H8, I8, hw8, q8⟩ => ?_
      refine thnF (pe.run _ s8 σ8 H8 _ I8 q8) fun z s9 ⟨yv, He, Ie, re, t, k, L, ey, ht, hDs, hL, few, nx⟩ => ?_
      subst ey
      obtain rfl : z = Value.ref t := re
      refine add_okT (X := X.blk s3 H3 sc ce fp) Ie hDs hL ht hu few fun L' s10 c1 c2 I10 => ?_
      obtain ⟨m', hm, w'⟩ := less _ (nx L' c1 c2)
      have pin' : ∀ b ∈ fp, ∀ o, s7.heap.get? b = some o → s10.heap.get? b = some o ∧ (upd He D (SetGO X.prog X.w D L')) b = none := fun b hb o z =>
        let r := I10.pin (b, o) (List.mem_append_right _ (List.mem_append_right _ (mem_pinsAt hb z)))
        ⟨r.1, r.2.1⟩
      refine ⟨m', hm, i + 1, _, (I10.unpinned (pins := [])).weak (by rw [← hw8, wipe_length]) (fun i v q => by rw [← hw8] at q; exact (wipe_some q).1), T.keep _ _ _ st7 fun b hb o z => (pin' b hb o z).1, fun b hb => ?_, w'⟩
      obtain ⟨o, z, _⟩ := T.obj _ _ st7 b hb
      exact (pin' b hb o z).2
  exact start1 go (T.self X.A 0 _ _ _ sta4 go)
theorem pe_sc1 {e ta ia : Expr} {sc : Scope} {own : List (Str × Nat)} {ps : Pos} {wa : TI} {ga : TG} {te : TE}
    (hc : X.calm = true) (hu : X.A.units + 64 < cLine) (hN : X.N.Nodup) (hi : PI X ta ia wa) (ok : BlkOk X.N X.env.scope sc own)
    (hga : ∀ (s : Shared) (H : Hp) (C : Addr) (cl : List (Str × Addr)) (fp : List Addr), PG (X.blk s H sc (compEnvC sc cl C X.env) fp) ta ga)
    (he : ∀ (s : Shared) (H : Hp) (C : Addr) (cl : List (Str × Addr)) (fp : List Addr), PE (X.blk s H sc (compEnvC sc cl C X.env) fp) e te)
    (hs : ∀ x, foldedSetIterable ia X.env x = pure x := by intro _; rfl) :
    PE X (.SetComp e [⟨ta, ia, [], 0⟩] sc ps) (tSc1 X.K X.prog X.w wa ga te (own.map (·.2))) :=
  ⟨fun _ _ _ _ _ I h => core1 hc hu hN I hi ok hga he hs h⟩
end
end MuTg
namespace MuTg
open PySem PySem.Spec PyProof.Rows L2 Evl MuK
section
variable {P : Program} {w : World} {K : PySem.W.Frag} {σ : L2.St} {H : Hp} {ta tb te tl : TE}
/-- the set at D holds just the lists of L, each in a tuple of its own -/
def TupsAt (P : Program) (w : World) (H : Hp) (D : Addr) (L : List (Addr × List Int)) : Prop := H D = some (SetGO P w D L) ∧ ∀ q ∈ L, H q.1 = some (.tup (q.2.map V.int))
theorem TupsAt.later {H H' : Hp} {D : Addr} {L : List (Addr × List Int)} (h : TupsAt P w H D L) (e : Ex H H') : TupsAt P w H' D L := ⟨e _ _ h.1, fun q m => e _ _ (h.2 q m)⟩
/-- {(..) for x in xs} -/
theorem evx_sc1 {a : Addr} {xs : List V} {j : Nat} {vs : List Nat} (f : Nat → List Int) (h : Ev tl σ H (.ref a)) (hx : SqL K H a xs) (hz : xs.length ≤ 250) (hw : ∀ x, wipe ((wipe σ vs).set j (some x)) vs = wipe σ vs)
    (he : ∀ (n : Nat) (x : V) (H' : Hp), xs[n]? = some x → Ex H H' → EvU te ((wipe σ vs).set j (some x)) H' ((f n).map V.int)) :
    EvX (tSc1 K P w (iList K tl) (gName j) te vs) σ H (fun v H' => ∃ (D : Addr) (L : List (Addr × List Int)), v = .ref D ∧ H D = none ∧ TupsAt P w H' D L ∧ ∀ k, k ∈ L.map (·.2) ↔ ∃ n, n < xs.length ∧ f n = k) := fun H0 e Q q => by
  refine h H0 e _ fun H1 e1 => ⟨a, rfl, ⟨xs, ex_l (e.trans e1) hx⟩, fun D hD => ?_⟩
  let Nx : Nat → Hp → Prop := fun n H' => n ≤ xs.length ∧ Ex H1 H' ∧ ∃ L, TupsAt P w H' D L ∧ L.length ≤ n ∧ ∀ k, k ∈ L.map (·.2) ↔ ∃ m, m < n ∧ f m = k
  refine ⟨fun n m H' => m = xs.length - n ∧ Nx n H', ⟨xs.length, rfl, Nat.zero_le _, Ex.new hD, [], ⟨upd_same, (fun _ m => nomatch m)⟩, Nat.le_refl _, fun k => ⟨(fun m => nomatch m), fun ⟨m, z, _⟩ => absurd z (Nat.not_lt_zero _)⟩⟩, ?_⟩
  rintro n m H' ⟨rfl, hn, e2, L, hL, zL, mem⟩
  have e02 := (e.trans e1).trans e2
  have hq := ex_l e02 hx
  by_cases lt : n < xs.length
  · refine .inr ⟨⟨xs, xs[n], hq, List.getElem?_eq_getElem lt⟩, Nx (n + 1), fun H2 p2 => ⟨xs.length - (n + 1), by omega, rfl, p2⟩, fun x H2 y => ?_⟩
    obtain ⟨rfl, hx2⟩ := y
    refine ⟨hw _, ?_⟩
    refine he n x _ (hx2 xs hq) e02 _ (Ex.refl _) _ fun t H3 ht e3 h3 => ?_
    have hL3 := hL.later e3
    have tD : t ≠ D := fun z => by
      rw [z, hL.1] at ht
      exact nomatch ht
    refine ⟨t, f n, L, rfl, st_of h3, hL3.1, fun q m => st_of (hL3.2 q m), by omega, fun L' c1 c2 => ⟨lt, Ex.mut (e2.trans e3) hD, L', ⟨upd_same, fun q mq => ?_⟩, ?_, fun k => ?_⟩⟩
    · have mq2 : q ∈ L ∨ q = (t, f n) := by
        by_cases c : f n ∈ L.map (·.2)
        · rw [c1 c] at mq
          exact .inl mq
        · rcases List.mem_cons.mp ((c2 c).mem_iff.mp mq) with z | z
          · exact .inr z
          · exact .inl z
      rcases mq2 with mq | rfl
      · have qD : q.1 ≠ D := fun z => by
          have := hL3.2 q mq
          rw [z, hL3.1] at this
          exact nomatch this
        rw [upd_ne qD]
        exact hL3.2 q mq
      · exact (upd_ne tD).trans h3
    · by_cases c : f n ∈ L.map (·.2)
      · rw [c1 c]
        omega
      · rw [(c2 c).length_eq]
        show L.length + 1 ≤ n + 1
        omega
    · have step : k ∈ L'.map (·.2) ↔ k ∈ L.map (·.2) ∨ k = f n := by
        by_cases c : f n ∈ L.map (·.2)
        · rw [c1 c]
          exact ⟨.inl, fun z => z.elim id fun z => z ▸ c⟩
        · rw [((c2 c).map (·.2)).mem_iff, List.map_cons, List.mem_cons]
          exact Or.comm
      rw [step, mem]
      constructor
      · rintro (⟨m, z, r⟩ | rfl)
        · exact ⟨m, by omega, r⟩
        · exact ⟨n, by omega, rfl⟩
      · rintro ⟨m, z, r⟩
        rcases Nat.lt_or_ge m n with y | y
        · exact .inl ⟨m, y, r⟩
        · obtain rfl : m = n := by omega
          exact .inr r.symm
  · obtain rfl : n = xs.length := by omega
    exact .inl ⟨⟨xs, hq, Nat.le_refl _⟩, q _ _ (e1.trans e2) ⟨D, L, rfl, fresh_back (e.trans e1) hD, hL, mem⟩⟩
/-- (i, j) in S -/
theorem ev_inTu {D : Addr} {L : List (Addr × List Int)} {k : List Int} (ha : EvU ta σ H (k.map V.int)) (hb : Ev tb σ H (.ref D)) (hL : TupsAt P w H D L) : Ev (tOp (rInTu K P w) ta tb) σ H (.bl (decide (k ∈ L.map (·.2)))) := fun H1 e Q q =>
  ha H1 e _ fun p H2 _ e2 h2 => hb H2 (e.trans e2) _ fun H3 e3 => by
    have hL3 := hL.later ((e.trans e2).trans e3)
    exact ⟨p, D, k, L, rfl, rfl, st_of (e3 _ _ h2), hL3.1, fun q m => st_of (hL3.2 q m), q H3 (e2.trans e3)⟩
end
end MuTg

namespace MuK
open PySem PySem.Spec PyProof.Rows L2 Evl
section
variable {X : Cx}
/-- two lists of the same things -/
def rSameR (K : PySem.W.Frag) : R2 := fun x y H Q => ∃ (a b : Addr) (ps : List Addr), x = .ref a ∧ y = .ref b ∧ SqL K H a (ps.map V.ref) ∧ SqL K H b (ps.map V.ref) ∧ Q (.bl false) H
theorem op_neRefs (hu : X.A.units + 64 < cLine) : OpR X (compareOp .NotEq) (rSameR X.K) := by
  intro pins s σ H x y v u Q I rx ry h
  obtain ⟨a, b, ws, rfl, rfl, ha, hb, q⟩ := h
  obtain rfl : v = Value.ref a := rx
  obtain rfl : u = Value.ref b := ry
  obtain ⟨us, r1, p1, _⟩ := I.list ha
  obtain ⟨vs, r2, p2, _⟩ := I.list hb
  have hu2 : X.A.units < cLine := by omega
  have l1 := r1.length
  have l2 := r2.length
  rw [List.length_map] at l1 l2
  refine SeqAt.RcNeAt.lists (e := fun _ => true) p1.isList p2.isList (by simp; omega) hu2 (fun j h1 h2 => ?_) _ _ _ _ ?_
  · have lt : j < ws.length := by
      simp at h1
      omega
    have ej : (ws.map V.ref)[j]? = some (V.ref ws[j]) := by
      rw [List.getElem?_map, List.getElem?_eq_getElem lt]
      rfl
    obtain ⟨w1, e1, q1⟩ := r1.get ej
    obtain ⟨w2, e2, q2⟩ := r2.get ej
    have g1 : us.toArray[j] = w1 := by simpa using (List.getElem?_eq_some_iff.mp e1).2
    have g2 : vs.toArray[j] = w2 := by simpa using (List.getElem?_eq_some_iff.mp e2).2
    obtain rfl : w1 = Value.ref ws[j] := q1
    obtain rfl : w2 = Value.ref ws[j] := q2
    rw [g1, g2]
    exact SeqAt.EqAt.same _
  · rw [show ((List.range us.toArray.size).all fun _ => true) = true from List.all_eq_true.mpr fun _ _ => rfl]
    exact ⟨.bl false, H, I, rfl, q⟩
/-- d.update(e) -/
def rDUpd : V → List V → Hp → VK → Prop := fun x xs H Q => ∃ (a b : Addr) (kvs more : List (Key × V)), x = .ref a ∧ xs = [.ref b] ∧ H a = some (.dK kvs) ∧ H b = some (.dK more) ∧ a ≠ b ∧ kvs.length + more.length ≤ 100000 ∧
  Q .non (upd H a (.dK (mergeK kvs more)))
theorem mergeK_len : ∀ (more kvs : List (Key × V)), (mergeK kvs more).length ≤ kvs.length + more.length
  | [], kvs => Nat.le_refl _
  | kv :: more, kvs => by
    have e : mergeK kvs (kv :: more) = mergeK (putK kvs kv.1 kv.2) more := rfl
    have h := mergeK_len more (putK kvs kv.1 kv.2)
    have h2 : (putK kvs kv.1 kv.2).length ≤ kvs.length + 1 := by
      unfold putK
      split
      · rw [List.length_map]
        omega
      · rw [List.length_append]
        exact Nat.le_refl _
    rw [e, List.length_cons]
    omega
theorem mt_dupd : MtM X "dict.update" rDUpd := by
  intro pins s σ H x xs v us Q I rx rxs h
  obtain ⟨a, b, kvs, more, rfl, rfl, ha, hb, ab, hz, q⟩ := h
  cases rx
  obtain ⟨u, rfl, ru⟩ := rxs.one
  obtain rfl : u = Value.ref b := ru
  obtain ⟨_, sa, va, ra, da⟩ := dk_of I.hok ha
  obtain ⟨_, sb, vb, rb, db⟩ := dk_of I.hok hb
  have la := ra.length
  have lb := rb.length
  have z : va.length + vb.length ≤ sizeLine := by
    rw [← la, ← lb, sizeLine_eq]
    omega
  refine call_meetsIn PySem.F.slot_dict_update da.typeIs PySem.F.entry_dict_update (PySem.F.args_dict_update_2 _ _) (meets_dict_update (mixKind X.prog X.w) a b ab sb) ⟨va, vb, da, db, z, fun h' d1 d2 same => ?_⟩
  have hm := mergeK_len more kvs
  refine ⟨.non, upd H a (.dK (mergeK kvs more)), ?_, rfl, q⟩
  refine I.write (x := a) (e := a) (t' := s.toks) (by rw [ha]; exact True.intro) (.inl rfl) (fun c u n e => by rw [same.2 c n]; exact e) ?_ (dk_new (by rw [sizeLine_eq]; omega) sa (KV.merge rb ra) d1)
  obtain ⟨o, es, ep, ho, _⟩ := d1
  exact ⟨o, ho⟩
end
section
variable {K : PySem.W.Frag} {σ : L2.St} {H H' : Hp} {ta tb te td ty tl : TE} {t u : TT} {x y z v : V} {D : Ends} {tu tw tz : TS} {R : V → Hp → Prop}
theorem ev_neRefs {a b : Addr} {ps : List (Addr × Int × Int)} (ha : Ev ta σ H (.ref a)) (hb : Ev tb σ H (.ref b)) (h1 : H a = some (.lst (ps.map fun p => V.ref p.1))) (h2 : H b = some (.lst (ps.map fun p => V.ref p.1))) :
    Ev (tOp (rSameR K) ta tb) σ H (.bl false) := ev_op ha hb fun H1 e Q q => ⟨a, b, ps.map (·.1), rfl, rfl, by rw [List.map_map]; exact sq_of (e _ _ h1), by rw [List.map_map]; exact sq_of (e _ _ h2), q H1 (Ex.refl H1)⟩
theorem keysI_merge : ∀ {more : List (Key × V)} {ms : List Int} {kvs : List (Key × V)} {rs : List Int}, KeysI kvs rs → rs.Nodup → KeysI more ms → ∃ rs', KeysI (mergeK kvs more) rs' ∧ rs'.Nodup ∧ ∀ x, x ∈ rs' ↔ x ∈ rs ∨ x ∈ ms
  | [], ms, kvs, rs, h, nd, k => by
    have : ms = [] := by
      have e := keysI_len k
      exact List.eq_nil_of_length_eq_zero e.symm
    subst this
    exact ⟨rs, h, nd, fun x => by simp⟩
  | kv :: more, [], kvs, rs, h, nd, k => by
    have e := keysI_len k
    simp at e
  | kv :: more, mx :: ms, kvs, rs, h, nd, k => by
    obtain ⟨e1, e2⟩ := List.cons.inj (show kv.1 :: more.map (·.1) = Sum.inl mx :: ms.map Sum.inl from k)
    have e : mergeK kvs (kv :: more) = mergeK (putK kvs (.inl mx) kv.2) more := by
      show mergeK (putK kvs kv.1 kv.2) more = _
      rw [e1]
    rw [e]
    by_cases m : mx ∈ rs
    · obtain ⟨rs', a1, a2, a3⟩ := keysI_merge (keysI_put2 h m kv.2) nd e2
      exact ⟨rs', a1, a2, fun x => by
        rw [a3, List.mem_cons]
        exact ⟨fun z => z.imp id .inr, fun z => z.elim .inl fun z => z.elim (fun z => .inl (z ▸ m)) .inr⟩⟩
    · have nd2 : (rs ++ [mx]).Nodup := by
        rw [List.nodup_append]
        exact ⟨nd, by simp, fun a ha b hb e => m (by rw [List.mem_singleton] at hb; rw [← hb, ← e]; exact ha)⟩
      obtain ⟨rs', a1, a2, a3⟩ := keysI_merge (keysI_put h m kv.2).2 nd2 e2
      exact ⟨rs', a1, a2, fun x => by
        rw [a3, List.mem_cons, List.mem_append, List.mem_singleton]
        exact or_assoc⟩
/-- {x: True for x in xs} -/
theorem evx_dcYes {a : Addr} {ns : List Int} {j : Nat} {vs : List Nat} {c : V} (h : Ev tl σ H (.ref a)) (hx : SqL K H a (ns.map V.int)) (nd : ns.Nodup) (hz : ns.length ≤ 1000) (hw : ∀ x, wipe ((wipe σ vs).set j (some x)) vs = wipe σ vs) (hj : j < σ.length) :
    EvX (tDc (iList K tl) (gName j) tYes (tVar j) (tC c) vs) σ H (fun v H' => ∃ (d : Addr) (kvs : List (Key × V)), v = .ref d ∧ H d = none ∧ H' d = some (.dK kvs) ∧ KeysI kvs ns) := fun H0 e Q q => by
  refine h H0 e _ fun H1 e1 => ⟨a, rfl, ⟨_, ex_l (e.trans e1) hx⟩, fun Dl hD => ?_⟩
  have e01 := e.trans e1
  refine ⟨fun n m H' => m = ns.length - n ∧ n ≤ ns.length ∧ Ex H1 H' ∧ ∃ kvs, H' Dl = some (.dK kvs) ∧ KeysI kvs (ns.take n), ⟨ns.length, rfl, Nat.zero_le _, Ex.new hD, [], upd_same, rfl⟩, ?_⟩
  rintro n m H' ⟨rfl, hn, e2, kvs, hk, kk⟩
  have hq := ex_l (e01.trans e2) hx
  by_cases lt : n < ns.length
  · have ex : (ns.map V.int)[n]? = some (.int ns[n]) := by rw [List.getElem?_map, List.getElem?_eq_getElem lt]; rfl
    refine .inr ⟨⟨_, _, hq, ex⟩, fun H' => Ex H1 H' ∧ ∃ kvs, H' Dl = some (.dK kvs) ∧ KeysI kvs (ns.take (n + 1)), fun H2 p2 => ⟨ns.length - (n + 1), by omega, rfl, lt, p2.1, p2.2⟩, fun x H2 y => ?_⟩
    obtain ⟨rfl, hy⟩ := y
    have ex2 := hy _ hq
    rw [ex] at ex2
    obtain rfl := Option.some.inj ex2
    have nt : ns[n] ∉ ns.take n := fun m => by
      obtain ⟨i, hi, e⟩ := List.getElem_of_mem m
      rw [List.length_take] at hi
      rw [List.getElem_take] at e
      have := (List.getElem?_inj (i := i) (j := n) (by omega) nd).mp (by rw [List.getElem?_eq_getElem (by omega), List.getElem?_eq_getElem lt, e])
      omega
    refine ⟨hw _, ?_⟩
    simp only [tYes, ↓reduceIte]
    refine (show Ev (tVar j) ((wipe σ vs).set j (some (.int ns[n]))) H2 (.int ns[n]) from ev_var (List.getElem?_set_self (by rw [wipe_length]; exact hj))) H2 (Ex.refl H2) _ fun H3 e3 => ?_
    refine ⟨kvs, .inl ns[n], rfl, e3 _ _ hk, sz_lt (by have := keysI_len kk; rw [List.length_take] at this; omega), Ex.mut (e2.trans e3) hD, _, upd_same, ?_⟩
    rw [List.take_add_one, List.getElem?_eq_getElem lt]
    exact (keysI_put kk nt c).2
  · have e3 : n = ns.length := by omega
    subst e3
    rw [List.take_length] at kk
    exact .inl ⟨⟨_, hq, by rw [List.length_map]; exact Nat.le_refl _⟩, q _ _ (e1.trans e2) ⟨Dl, kvs, rfl, fresh_back e01 hD, hk, kk⟩⟩
theorem q_updD {d : Addr} {kvs : List (Key × V)} {ms : List Int} (hd : H d = some (.dK kvs)) (ha : Ev ta σ H (.ref d)) (h : EvX te σ H (fun v H' => ∃ (c : Addr) (more : List (Key × V)), v = .ref c ∧ H c = none ∧ H' c = some (.dK more) ∧ KeysI more ms)) (hz : kvs.length + ms.length ≤ 100000)
    (k : ∀ H1 more, Ex H H1 → KeysI more ms → tz D σ (upd H1 d (.dK (mergeK kvs more)))) : tSeq (tDrop (tBM K "dict" rDUpd ta (tCons te tNil))) tz D σ H := by
  refine ha H (Ex.refl H) _ fun H1 e1 => ⟨.inr (.inr (.inl ⟨rfl, .inl ⟨_, e1 d _ hd⟩⟩)), ?_⟩
  refine h H1 e1 _ fun v H2 e2 r => ?_
  obtain ⟨c, more, rfl, hc, h2, hk⟩ := r
  refine ⟨d, c, kvs, more, rfl, rfl, (e1.trans e2) d _ hd, h2, fun z => ?_, by rw [keysI_len hk]; exact hz, k H2 more (e1.trans e2) hk⟩
  rw [← z, hd] at hc
  cases hc
theorem el_catVV {xs ys : List V} {a b : Addr} (ha : Ev ta σ H (.ref a)) (h0 : H a = some (.lst xs)) (hb : Ev tb σ H (.ref b)) (h1 : H b = some (.lst ys)) (hz : xs.length + ys.length ≤ 100000) : EvL (tOp rCat ta tb) σ H (xs ++ ys) := fun H1 e Q q =>
  ha H1 e _ fun H2 e2 => hb H2 (e.trans e2) _ fun H3 e3 => ⟨a, b, xs, ys, rfl, rfl, ((e.trans e2).trans e3) a _ h0, ((e.trans e2).trans e3) b _ h1, sz_of hz, fun l hl => q l _ (fresh_back (e2.trans e3) hl) ((e2.trans e3).trans (Ex.new hl)) upd_same⟩
/-- f(e, y), e a new list -/
theorem evx_callN2 {Dd : Hp → List V → (V → Hp → Prop) → Prop} {E : XK} {xs : List V} (ha : EvL ta σ H xs) (hb : ∀ H1, Ex H H1 → Ev tb σ H1 y) (hs : ∀ p H1, Ex H H1 → H1 p = some (.lst xs) → ∃ R1, Dd H1 [.ref p, y] R1 ∧ ∀ v H2, Ex H1 H2 → R1 v H2 → R v H2) :
    EvX (tCall (SpR Dd) [] E (tCons ta (tCons tb tNil))) σ H R := fun H1 e Q q =>
  ha H1 e _ fun p H2 _ e2 h2 => hb H2 (e.trans e2) H2 (Ex.refl H2) _ fun H3 e3 => by
    obtain ⟨R1, d, k⟩ := hs p H3 ((e.trans e2).trans e3) (e3 p _ h2)
    exact ⟨R1, by rw [List.append_nil]; exact d, fun v H4 e4 r => q v H4 ((e2.trans e3).trans e4) (k v H4 e4 r)⟩
theorem ev_eqNilX (ha : EvX ta σ H (fun v H' => ∃ p : Addr, v = .ref p ∧ H' p = some (.lst []))) (hb : EvL tb σ H []) : Ev (tOp (rNil K true) ta tb) σ H (.bl true) := fun H1 e Q q =>
  ha H1 e _ fun v H2 e2 r => by
    obtain ⟨p, rfl, h2⟩ := r
    exact hb H2 (e.trans e2) _ fun r H3 hr e3 h3 => ⟨p, r, [], rfl, rfl, sq_of (e3 p _ h2), sq_of h3, q H3 (e2.trans e3)⟩
/-- sorted(d), d new -/
theorem evx_sortedDX {ks : List Int → Prop} (hd : EvX te σ H (fun v H' => ∃ (d : Addr) (kvs : List (Key × V)) (rs : List Int), v = .ref d ∧ H' d = some (.dK kvs) ∧ KeysI kvs rs ∧ rs.length < 64 ∧ ks rs)) :
    EvX (tCB rSDI (tCons te tNil)) σ H (fun v H' => ∃ (p : Addr) (ys rs : List Int), v = .ref p ∧ H p = none ∧ H' p = some (.lst (ys.map V.int)) ∧ ys.Perm rs ∧ ys.Pairwise (· ≤ ·) ∧ ks rs) := fun H1 e Q q => by
  refine hd H1 e _ fun v H2 e2 r => ?_
  obtain ⟨d, kvs, rs, rfl, h, hk, hz, hr⟩ := r
  exact ⟨d, kvs, rs, rfl, .inl h, hk, hz, fun ys p hp hs hn => q _ _ (e2.trans (Ex.new hn)) ⟨p, ys, rs, rfl, fresh_back (e.trans e2) hn, upd_same, hp, hs, hr⟩⟩
end
/-! ### the groups -/
noncomputable def cls (ep : List (Int × Int)) (m : Nat) (x : Int) : List Int := ((List.range m).map Int.ofNat).filter fun y => @decide (Rch ep x y) (Classical.propDecidable _)
theorem mem_cls {ep : List (Int × Int)} {m : Nat} {x y : Int} : y ∈ cls ep m x ↔ (0 ≤ y ∧ y < (m : Int)) ∧ Rch ep x y := by
  unfold cls
  rw [List.mem_filter, List.mem_map, @decide_eq_true_eq _ (Classical.propDecidable _)]
  refine and_congr ⟨?_, fun h => ⟨y.toNat, List.mem_range.mpr (by omega), by show ((y.toNat : Nat) : Int) = y; omega⟩⟩ Iff.rfl
  rintro ⟨i, hi, rfl⟩
  have := List.mem_range.mp hi
  exact ⟨Int.natCast_nonneg i, by show (i : Int) < m; omega⟩
theorem cls_up {ep : List (Int × Int)} {m : Nat} {x : Int} : (cls ep m x).Pairwise (· < ·) := by
  unfold cls
  refine List.Pairwise.filter _ ?_
  rw [List.pairwise_map]
  exact List.pairwise_lt_range.imp fun h => by show (_ : Int) < _; exact Int.ofNat_lt.mpr h
theorem up_one : ∀ {l m : List Int}, l.Pairwise (· < ·) → m.Pairwise (· < ·) → (∀ x, x ∈ l ↔ x ∈ m) → l = m
  | [], [], _, _, _ => rfl
  | [], b :: m, _, _, h => nomatch (h b).mpr List.mem_cons_self
  | a :: l, [], _, _, h => nomatch (h a).mp List.mem_cons_self
  | a :: l, b :: m, hl, hm, h => by
    obtain ⟨l1, l2⟩ := List.pairwise_cons.mp hl
    obtain ⟨m1, m2⟩ := List.pairwise_cons.mp hm
    have e : a = b := by
      rcases List.mem_cons.mp ((h a).mp List.mem_cons_self) with z | z
      · exact z
      · rcases List.mem_cons.mp ((h b).mpr List.mem_cons_self) with y | y
        · exact y.symm
        · have := m1 a z
          have := l1 b y
          omega
    subst e
    rw [up_one l2 m2 fun x => ?_]
    have hx := h x
    rw [List.mem_cons, List.mem_cons] at hx
    constructor
    · intro z
      rcases hx.mp (.inr z) with rfl | y
      · have := l1 _ z
        omega
      · exact y
    · intro z
      rcases hx.mpr (.inr z) with rfl | y
      · have := m1 _ z
        omega
      · exact y
theorem sorted_cls {ep : List (Int × Int)} {m : Nat} {x : Int} {ys rs : List Int} (hp : ys.Perm rs) (hs : ys.Pairwise (· ≤ ·)) (nd : rs.Nodup) (h : ∀ y, y ∈ rs ↔ Rch ep x y) (hr : ∀ y, Rch ep x y → 0 ≤ y ∧ y < (m : Int)) : ys = cls ep m x :=
  up_one ((List.Pairwise.and hs (hp.nodup_iff.mpr nd)).imp fun h => by have := h.1; have := h.2; omega) cls_up fun y => by
    rw [hp.mem_iff, h, mem_cls]
    exact ⟨fun z => ⟨hr y z, z⟩, fun z => z.2⟩
noncomputable def grpM (ep : List (Int × Int)) (m : Nat) : Nat → List (List Int)
  | 0 => []
  | n + 1 => if (grpM ep m n).any (fun g => decide ((n : Int) ∈ g)) then grpM ep m n else grpM ep m n ++ [cls ep m n]
theorem grpM_skip {ep : List (Int × Int)} {m n : Nat} (h : ∃ g ∈ grpM ep m n, (n : Int) ∈ g) : grpM ep m (n + 1) = grpM ep m n := by
  show (if _ then _ else _) = _
  rw [if_pos]
  obtain ⟨g, hg, hn⟩ := h
  exact List.any_eq_true.mpr ⟨g, hg, decide_eq_true hn⟩
theorem grpM_new {ep : List (Int × Int)} {m n : Nat} (h : ¬ ∃ g ∈ grpM ep m n, (n : Int) ∈ g) : grpM ep m (n + 1) = grpM ep m n ++ [cls ep m n] := by
  show (if _ then _ else _) = _
  rw [if_neg]
  intro z
  obtain ⟨g, hg, hn⟩ := List.any_eq_true.mp z
  exact h ⟨g, hg, of_decide_eq_true hn⟩
theorem grpM_len (ep : List (Int × Int)) (m : Nat) : ∀ n, (grpM ep m n).length ≤ n
  | 0 => Nat.le_refl _
  | n + 1 => by
    have h := grpM_len ep m n
    by_cases c : ∃ g ∈ grpM ep m n, (n : Int) ∈ g
    · rw [grpM_skip c]
      omega
    · rw [grpM_new c, List.length_append, List.length_singleton]
      omega
theorem grpM_in (ep : List (Int × Int)) (m : Nat) : ∀ n, ∀ g ∈ grpM ep m n, g.length ≤ m ∧ ∀ y ∈ g, 0 ≤ y ∧ y < (m : Int)
  | 0 => fun _ h => nomatch h
  | n + 1 => fun g h => by
    by_cases c : ∃ g ∈ grpM ep m n, (n : Int) ∈ g
    · rw [grpM_skip c] at h
      exact grpM_in ep m n g h
    · rw [grpM_new c] at h
      rcases List.mem_append.mp h with h | h
      · exact grpM_in ep m n g h
      · obtain rfl := List.mem_singleton.mp h
        have r : ∀ y ∈ cls ep m n, 0 ≤ y ∧ y < (m : Int) := fun y hy => (mem_cls.mp hy).1
        exact ⟨ints_few (cls_up.imp fun h => by omega) r, r⟩
end MuK

namespace MuK
open PySem PySem.Spec PyProof.Rows L2 Evl
/-! ### how numbers are reached: who stands ahead of whom, in as few steps as any -/
structure AheadOk (ep : List (Int × Int)) (one : Int) (kvs : List (Key × V)) (rs : List Int) (D : Int → Nat) : Prop where
  d0 : D one = 0
  v0 : valV kvs (.inl one) = some .non
  up : ∀ y ∈ rs, y ≠ one → ∃ x ∈ rs, valV kvs (.inl y) = some (.int x) ∧ y ∈ near ep x ∧ D y = D x + 1
/-- as the numbers of the edge are walked: the first k of the edge are done; they stand L steps away -/
structure ReachL (ep : List (Int × Int)) (one : Int) (kvs : List (Key × V)) (rs edge more : List Int) (k : Nat) (D : Int → Nat) (L : Nat) : Prop where
  keys : KeysI kvs rs
  nd : rs.Nodup
  one_ : one ∈ rs
  rch : ∀ y ∈ rs, Rch ep one y
  sub : ∀ y ∈ edge, y ∈ rs
  subm : ∀ y ∈ more, y ∈ rs
  done : ∀ x ∈ rs, x ∉ edge.drop k → x ∉ more → ∀ y ∈ near ep x, y ∈ rs
  ah : AheadOk ep one kvs rs D
  dE : ∀ x ∈ edge, D x = L
  dM : ∀ x ∈ more, D x = L + 1
  dA : ∀ x ∈ rs, D x ≤ L + 1
  lip : ∀ x ∈ rs, x ∉ edge.drop k → x ∉ more → ∀ y ∈ near ep x, D y ≤ D x + 1
def RA (ep : List (Int × Int)) (one : Int) (kvs : List (Key × V)) (rs edge more : List Int) (k : Nat) : Prop := ∃ D L, ReachL ep one kvs rs edge more k D L
section
variable {ep : List (Int × Int)} {one : Int} {kvs : List (Key × V)} {rs edge more : List Int} {k : Nat}
theorem RA.init : RA ep one [(.inl one, .non)] [one] [one] [] 0 := by
  refine ⟨fun _ => 0, 0, rfl, by simp, by simp, fun y hy => ?_, fun y hy => hy, fun y hy => (nomatch hy), fun x hx nx _ => absurd hx nx, ⟨rfl, valV_pos rfl, fun y hy ne => absurd (List.mem_singleton.mp hy) ne⟩, fun _ _ => rfl, fun _ m => (nomatch m), fun _ _ => Nat.zero_le _, fun x hx nx _ => absurd hx nx⟩
  obtain rfl := List.mem_singleton.mp hy
  exact .refl
theorem RA.keys (h : RA ep one kvs rs edge more k) : KeysI kvs rs := by obtain ⟨D, L, h⟩ := h; exact h.keys
theorem RA.nd (h : RA ep one kvs rs edge more k) : rs.Nodup := by obtain ⟨D, L, h⟩ := h; exact h.nd
theorem RA.rch (h : RA ep one kvs rs edge more k) : ∀ y ∈ rs, Rch ep one y := by obtain ⟨D, L, h⟩ := h; exact h.rch
theorem RA.sub (h : RA ep one kvs rs edge more k) : ∀ y ∈ edge, y ∈ rs := by obtain ⟨D, L, h⟩ := h; exact h.sub
theorem RA.put {x y : Int} (h : RA ep one kvs rs edge more k) (hx : x ∈ edge) (ny : y ∉ rs) (hn : y ∈ near ep x) : RA ep one (putK kvs (.inl y) (.int x)) (rs ++ [y]) edge (more ++ [y]) k := by
  obtain ⟨D, L, h⟩ := h
  have kp := keysI_put h.keys ny (.int x)
  have ne : ∀ {z}, z ∈ rs → z ≠ y := fun hz e => ny (e ▸ hz)
  let D' : Int → Nat := fun z => if z = y then L + 1 else D z
  have dy : D' y = L + 1 := if_pos rfl
  have dn : ∀ {z}, z ∈ rs → D' z = D z := fun hz => if_neg (ne hz)
  refine ⟨D', L, kp.2, ?_, List.mem_append_left _ h.one_, fun z hz => ?_, fun z hz => List.mem_append_left _ (h.sub z hz), fun z hz => ?_, fun z hz n1 n2 t ht => ?_, ⟨?_, ?_, fun z hz nz => ?_⟩, fun z hz => ?_, fun z hz => ?_, fun z hz => ?_, fun z hz n1 n2 t ht => ?_⟩
  · rw [List.nodup_append]
    exact ⟨h.nd, by simp, fun a ha b hb e => ny (by rw [List.mem_singleton] at hb; rw [← hb, ← e]; exact ha)⟩
  · rcases List.mem_append.mp hz with hz | hz
    · exact h.rch z hz
    · obtain rfl := List.mem_singleton.mp hz
      exact .step (h.rch _ (h.sub _ hx)) hn
  · rcases List.mem_append.mp hz with hz | hz
    · exact List.mem_append_left _ (h.subm z hz)
    · exact List.mem_append_right _ hz
  · rcases List.mem_append.mp hz with hz | hz
    · exact List.mem_append_left _ (h.done z hz n1 (fun k => n2 (List.mem_append_left _ k)) t ht)
    · exact absurd (List.mem_append_right _ hz) n2
  · rw [dn h.one_]
    exact h.ah.d0
  · rw [valV_put, if_neg (fun e => ne h.one_ (Sum.inl.inj e))]
    exact h.ah.v0
  · rcases List.mem_append.mp hz with hz | hz
    · obtain ⟨w, hw, hv, hm, hd⟩ := h.ah.up z hz nz
      exact ⟨w, List.mem_append_left _ hw, by rw [valV_put, if_neg (fun e => ne hz (Sum.inl.inj e))]; exact hv, hm, by rw [dn hz, dn hw]; exact hd⟩
    · obtain rfl := List.mem_singleton.mp hz
      exact ⟨x, List.mem_append_left _ (h.sub _ hx), by rw [valV_put, if_pos rfl], hn, by rw [dy, dn (h.sub _ hx), h.dE x hx]⟩
  · rw [dn (h.sub z hz)]
    exact h.dE z hz
  · rcases List.mem_append.mp hz with hz | hz
    · rw [dn (h.subm z hz)]
      exact h.dM z hz
    · rw [List.mem_singleton.mp hz]
      exact dy
  · rcases List.mem_append.mp hz with hz | hz
    · rw [dn hz]
      exact h.dA z hz
    · rw [List.mem_singleton.mp hz, dy]
      exact Nat.le_refl _
  · rcases List.mem_append.mp hz with hz | hz
    · have nm : z ∉ more := fun k => n2 (List.mem_append_left _ k)
      rw [dn hz, dn (h.done z hz n1 nm t ht)]
      exact h.lip z hz n1 nm t ht
    · exact absurd (List.mem_append_right _ hz) n2
theorem RA.next {x : Int} (h : RA ep one kvs rs edge more k) (hx : edge[k]? = some x) (hall : ∀ t ∈ near ep x, t ∈ rs) : RA ep one kvs rs edge more (k + 1) := by
  obtain ⟨D, L, h⟩ := h
  have mx := List.mem_of_getElem? hx
  have lt := (List.getElem?_eq_some_iff.mp hx).1
  have dr : ∀ z, z ≠ x → z ∉ edge.drop (k + 1) → z ∉ edge.drop k := fun z zx n1 hk => by
    rw [List.drop_eq_getElem_cons lt, (List.getElem?_eq_some_iff.mp hx).2] at hk
    rcases List.mem_cons.mp hk with hk | hk
    · exact zx hk
    · exact n1 hk
  refine ⟨D, L, h.keys, h.nd, h.one_, h.rch, h.sub, h.subm, fun z hz n1 n2 t ht => ?_, h.ah, h.dE, h.dM, h.dA, fun z hz n1 n2 t ht => ?_⟩
  · by_cases zx : z = x
    · subst zx
      exact hall t ht
    · exact h.done z hz (dr z zx n1) n2 t ht
  · by_cases zx : z = x
    · subst zx
      rw [h.dE z mx]
      exact h.dA t (hall t ht)
    · exact h.lip z hz (dr z zx n1) n2 t ht
theorem RA.swap (h : RA ep one kvs rs edge more edge.length) : RA ep one kvs rs more [] 0 := by
  obtain ⟨D, L, h⟩ := h
  have dr : ∀ z, z ∉ edge.drop edge.length := fun z => by simp
  exact ⟨D, L + 1, h.keys, h.nd, h.one_, h.rch, h.subm, (fun y hy => (nomatch hy)), fun z hz n1 _ t ht => h.done z hz (dr z) n1 t ht, h.ah, h.dM, (fun y hy => (nomatch hy)), fun z hz => Nat.le_succ_of_le (h.dA z hz), fun z hz n1 _ t ht => h.lip z hz (dr z) n1 t ht⟩
theorem RA.fin (h : RA ep one kvs rs [] [] 0) : (∀ y, y ∈ rs ↔ Rch ep one y) ∧ ∃ D, AheadOk ep one kvs rs D ∧ ∀ x ∈ rs, ∀ y ∈ near ep x, D y ≤ D x + 1 := by
  obtain ⟨D, L, h⟩ := h
  refine ⟨fun y => ⟨h.rch y, fun r => ?_⟩, D, h.ah, fun x hx y hy => h.lip x hx (by simp) (by simp) y hy⟩
  induction r with
  | refl => exact h.one_
  | step _ mm ih => exact h.done _ ih (by simp) (by simp) _ mm
end
/-- a row that goes along pairs -/
def Row (ep : List (Int × Int)) (ns : List Int) : Prop := ∀ k x y, ns[k]? = some x → ns[k + 1]? = some y → y ∈ near ep x
theorem Row.snoc {ep : List (Int × Int)} {ns : List Int} {y : Int} (h : Row ep ns) (hl : ∀ x, ns.getLast? = some x → y ∈ near ep x) : Row ep (ns ++ [y]) := fun k a b ha hb => by
  have l2 := (List.getElem?_eq_some_iff.mp hb).1
  rw [List.length_append, List.length_singleton] at l2
  rw [List.getElem?_append_left (by omega)] at ha
  by_cases lt : k + 1 < ns.length
  · rw [List.getElem?_append_left lt] at hb
    exact h k a b ha hb
  · have e : k + 1 = ns.length := by omega
    rw [List.getElem?_append_right (by omega), e, Nat.sub_self] at hb
    obtain rfl : y = b := by simpa using hb
    refine hl a ?_
    rw [List.getLast?_eq_getElem?, ← e]
    simpa using ha
end MuK

namespace MuK
open PySem PySem.Spec PyProof.Rows L2 Evl
/-! ### words for rows of numbers and new tuples -/
section
variable {P : Program} {w : World}
/-- [(..) for k in range(n)] -/
theorem evx_lcTupsR {K : PySem.W.Frag} {σ : L2.St} {H : Hp} {ta : TA} {te : TE} {j : Nat} {vs : List Nat} {N : Nat} {M : Int} (f : Nat → List Int) (h : EvA ta σ H [.int M]) (hM : M.toNat = N) (m1 : -1000 ≤ M) (hN : N ≤ 1000) (hw : ∀ x, wipe ((wipe σ vs).set j (some x)) vs = wipe σ vs)
    (he : ∀ n H', n < N → Ex H H' → EvU te ((wipe σ vs).set j (some (.int (n : Int)))) H' ((f n).map V.int)) :
    EvX (tLc (iRng1 ta) (gName j) tYes te vs) σ H (fun v H' => ∃ (D : Addr) (ts : List (Addr × List Int)), v = .ref D ∧ H' D = some (.lst (ts.map fun c => V.ref c.1)) ∧ (∀ c ∈ ts, H' c.1 = some (.tup (c.2.map V.int))) ∧ ts.map (·.2) = (List.range N).map f) := fun H0 e Q q => by
  refine h H0 e _ fun H1 e1 => ⟨M, rfl, by omega, by omega, fun Dl hD => ?_⟩
  have e01 := e.trans e1
  rw [hM]
  refine lc_range (lo := 0) (n := N) (fun n H' => Ex H1 H' ∧ ∃ ts : List (Addr × List Int), H' Dl = some (.lst (ts.map fun c => V.ref c.1)) ∧ (∀ c ∈ ts, c.1 ≠ Dl ∧ H' c.1 = some (.tup (c.2.map V.int))) ∧ ts.map (·.2) = (List.range n).map f ∧ ts.length = n)
    ⟨Ex.new hD, [], upd_same, (fun _ m => nomatch m), rfl, rfl⟩ (fun n H' hn p => ?_) (fun H' p => ?_)
  · obtain ⟨e2, ts, hDl, hne, hf, len⟩ := p
    have e0 : (0 : Int) + (n : Int) = (n : Int) := Int.zero_add _
    rw [e0]
    refine ⟨hw _, ?_⟩
    unfold tYes
    dsimp only
    rw [if_pos rfl]
    refine he n H' hn (e01.trans e2) H' (Ex.refl H') _ fun p H3 hp e3 h3 => ?_
    have pD : p ≠ Dl := fun z => by
      rw [z, hDl] at hp
      exact nomatch hp
    refine ⟨ts.map fun c => V.ref c.1, e3 _ _ hDl, by rw [List.length_map]; exact sz_lt (by omega), Ex.mut (e2.trans e3) hD, ts ++ [(p, f n)], ?_, fun c m => ?_, ?_, by rw [List.length_append, len]; rfl⟩
    · rw [upd_same, List.map_append]
      rfl
    · rcases List.mem_append.mp m with m | m
      · exact ⟨(hne c m).1, (upd_ne (hne c m).1).trans (e3 _ _ (hne c m).2)⟩
      · obtain rfl := List.mem_singleton.mp m
        exact ⟨pD, (upd_ne pD).trans h3⟩
    · rw [List.map_append, hf, List.range_succ, List.map_append]
      rfl
  · obtain ⟨e2, ts, hDl, hne, hf, len⟩ := p
    exact q _ _ (e1.trans e2) ⟨Dl, ts, rfl, hDl, fun c m => (hne c m).2, hf⟩
theorem paired_fn {F : Nat → V → Prop} {f : Nat → Bool} (hF : ∀ n y, F n y → y = .bl (f n)) : ∀ {xs : List Nat} {ys : List V}, Paired F xs ys → ys = (xs.map f).map V.bl
  | _, _, .nil => rfl
  | _, _, .cons r t => by
    rw [hF _ _ r, paired_fn hF t]
    rfl
theorem ev_allX {K : PySem.W.Frag} {σ : L2.St} {H : Hp} {te : TE} {b : Bool} (h : EvX te σ H (fun v H' => ∃ (D : Addr) (bs : List Bool), v = .ref D ∧ H' D = some (.lst (bs.map V.bl)) ∧ bs.all id = b)) : Ev (tCB (rAll K) (tCons te tNil)) σ H (.bl b) := fun H1 e Q q =>
  h H1 e _ fun v H2 e2 r => by
    obtain ⟨D, bs, rfl, h2, hb⟩ := r
    exact ⟨D, bs, rfl, sq_of h2, by rw [hb]; exact q H2 e2⟩
theorem g_tup2 {K : PySem.W.Frag} {σ : L2.St} {H : Hp} {i j : Nat} {p : Addr} {x y : V} {Q : L2.St → Hp → Prop} (hp : H p = some (.tup [x, y])) (q : Q ((σ.set i (some x)).set j (some y)) H) : gTup K 2 (gCons (gName i) (gCons (gName j) gNil)) (.ref p) σ H Q :=
  ⟨p, [x, y], rfl, st_of hp, rfl, x, [y], rfl, y, [], rfl, rfl, q⟩
theorem ints_lay : ∀ ns : List Int, PyData.canLayAll0 (ns.map PyData.int) = true ∧ PyData.depthAll (ns.map PyData.int) = 0
  | [] => ⟨rfl, rfl⟩
  | n :: ns => by
    obtain ⟨h1, h2⟩ := ints_lay ns
    refine ⟨?_, ?_⟩
    · rw [List.map_cons, PyData.canLayAll0, h1]
      rfl
    · rw [List.map_cons, PyData.depthAll, h2]
      rfl
theorem ints_shaped (ns : List Int) : SeqAt.shaped (.list (ns.map PyData.int)) = true ∧ (PyData.list (ns.map PyData.int)).canLay0 = true := by
  obtain ⟨h1, h2⟩ := ints_lay ns
  have e : (PyData.list (ns.map PyData.int)).canLay0 = true := by
    rw [PyData.canLay0]
    exact h1
  refine ⟨?_, e⟩
  unfold SeqAt.shaped
  rw [e, PyData.depth, h2]
  rfl
def IntsR (ns : List Int) : V → Hp → Prop := fun v H' => ∃ p : Addr, v = .ref p ∧ H' p = some (.lst (ns.map V.int))
theorem ev_eqIntsX {K : PySem.W.Frag} {σ : L2.St} {H : Hp} {ta tb : TE} {ns : List Int} (ha : EvX ta σ H (IntsR ns)) (hb : ∀ H1, Ex H H1 → EvX tb σ H1 (IntsR ns)) : Ev (tOp (rEqD K) ta tb) σ H (.bl true) := fun H1 e Q q =>
  ha H1 e _ fun v H2 e2 r => hb H2 (e.trans e2) H2 (Ex.refl H2) _ fun w H3 e3 r3 => by
    obtain ⟨a, rfl, h2⟩ := r
    obtain ⟨b, rfl, h3⟩ := r3
    refine ⟨.list (ns.map PyData.int), .list (ns.map PyData.int), .lst (sq_of (e3 _ _ h2)) (dp_ints ns), .lst (sq_of h3) (dp_ints ns), (ints_shaped ns).1, (ints_shaped ns).1, ?_⟩
    rw [SeqAt.eqv_refl _ (ints_shaped ns).2]
    exact q H3 (e2.trans e3)
theorem ev_neIntsX {K : PySem.W.Frag} {σ : L2.St} {H : Hp} {ta tb : TE} {ns : List Int} (ha : EvX ta σ H (IntsR ns)) (hb : ∀ H1, Ex H H1 → EvX tb σ H1 (IntsR ns)) : Ev (tOp (rNeD K) ta tb) σ H (.bl false) := fun H1 e Q q =>
  ha H1 e _ fun v H2 e2 r => hb H2 (e.trans e2) H2 (Ex.refl H2) _ fun w H3 e3 r3 => by
    obtain ⟨a, rfl, h2⟩ := r
    obtain ⟨b, rfl, h3⟩ := r3
    refine ⟨.list (ns.map PyData.int), .list (ns.map PyData.int), .lst (sq_of (e3 _ _ h2)) (dp_ints ns), .lst (sq_of h3) (dp_ints ns), (ints_shaped ns).1, (ints_shaped ns).1, ?_⟩
    rw [SeqAt.eqv_refl _ (ints_shaped ns).2]
    exact q H3 (e2.trans e3)
theorem ev_niNewI {K : PySem.W.Frag} {σ : L2.St} {H : Hp} {ta tb : TE} {k : Int} {ns : List Int} (ha : Ev ta σ H (.int k)) (hb : EvL tb σ H (ns.map V.int)) : Ev (tOp (rIn K true) ta tb) σ H (.bl (!decide (k ∈ ns))) := fun H1 e Q q =>
  ha H1 e _ fun H2 e2 => hb H2 (e.trans e2) _ fun p H3 _ e3 h3 => rv_niI (sq_of h3) H3 (Ex.refl H3) _ fun H4 e4 => q H4 ((e2.trans e3).trans e4)
theorem evx_call1 {Dd : Hp → List V → (V → Hp → Prop) → Prop} {R R1 : V → Hp → Prop} {E : XK} {te : TE} {tr : TA} {σ : L2.St} {H : Hp} (h : EvX te σ H R1)
    (hr : ∀ v H1, Ex H H1 → R1 v H1 → ∃ vs, EvA tr σ H1 vs ∧ ∀ H2, Ex H1 H2 → ∃ R', Dd H2 (v :: vs) R' ∧ ∀ x H3, Ex H2 H3 → R' x H3 → R x H3) : EvX (tCall (SpR Dd) [] E (tCons te tr)) σ H R := fun H1 e Q q =>
  h H1 e _ fun v H2 e2 r => by
    obtain ⟨vs, hv, hs⟩ := hr v H2 (e.trans e2) r
    refine hv H2 (Ex.refl H2) _ fun H3 e3 => ?_
    obtain ⟨R', d, k⟩ := hs H3 e3
    exact ⟨R', by rw [List.append_nil]; exact d, fun x H4 e4 r => q x H4 ((e2.trans e3).trans e4) (k x H4 e4 r)⟩
theorem evx_ofLR {te : TE} {σ : L2.St} {H : Hp} {xs : List V} (h : EvL te σ H xs) : EvX te σ H (fun v H' => ∃ p : Addr, v = .ref p ∧ H' p = some (.lst xs)) := fun H1 e Q q => h H1 e _ fun p H2 _ e2 h2 => q _ _ e2 ⟨p, rfl, h2⟩
end
end MuK

/- g: what a reading's expression evaluates to, from the outside in; s: a side condition -/
local macro_rules | `(tactic| walk_at "mu s") => `(tactic| first | assumption | rfl | omega | decide | decide +kernel | skip)
local macro_rules | `(tactic| walk_at "mu g") => `(tactic| first
  | (with_reducible exact Evl.ev_c)
  | exact Evl.ev_var rfl
  | ((with_reducible apply Evl.ev_op) <;> walk_at "mu g")
  | ((with_reducible apply Evl.ev_un) <;> walk_at "mu g")
  | (with_reducible exact Evl.rv_I0)
  | (with_reducible exact MuK.rv_eqI)
  | (with_reducible exact MuK.rv_eqS)
  | (with_reducible exact MuK.rv_neI)
  | (with_reducible exact MuK.rv_neS)
  | ((with_reducible apply Evl.rv_I) <;> walk_at "mu side")
  | (with_reducible exact Evl.ru_neg)
  | (with_reducible exact Evl.ea_nil)
  | ((with_reducible apply Evl.ea_cons) <;> walk_at "mu g")
  | (with_reducible exact MuK.rc_min2)
  | (with_reducible exact MuK.rc_max2)
  | (with_reducible exact MuK.rc_gcdI)
  | (with_reducible exact MuK.rc_intB)
  | ((with_reducible apply Evl.ev_cb) <;> walk_at "mu g")
  | ((with_reducible apply MuK.ev_callV) <;> walk_at "mu g")
  | ((with_reducible apply Evl.et_test) <;> walk_at "mu g")
  | ((with_reducible apply Evl.et_B) <;> walk_at "mu g")
  | ((with_reducible apply Evl.et_not) <;> walk_at "mu g")
  | ((with_reducible refine' Evl.et_and ?_ (fun _ => ?_)) <;> walk_at "mu g")
  | ((with_reducible refine' Evl.et_or ?_ (fun _ => ?_)) <;> walk_at "mu g")
  | ((with_reducible apply Evl.eu_tup) <;> walk_at "mu g")
  | ((with_reducible apply Evl.el_lst) <;> walk_at "mu g")
  | ((with_reducible apply MuK.ev_ixNew) <;> walk_at "mu g")
  | (show List.length _ ≤ (100000 : Nat); simp; done)
  | skip)
local macro_rules | `(tactic| walk_at "mu side") => `(tactic| first
  | (show L2.CDiv _ _; exact ⟨by decide, by decide⟩)
  | (show (0 : Int) < _; decide)
  | (show L2.CPow _ _; exact ⟨by decide, by decide, by decide⟩)
  | skip)

namespace MuK
open PySem PySem.Spec PyProof.Rows L2 Evl
def topS (i : Nat) : Stmt := PySem.Challenge.pw_muchalike_k22_chains.main.body.getD i (.Pass ⟨0, 0, 0, 0⟩)
abbrev s_p_neighbours : Stmt := topS 1
theorem sc_p_neighbours : FnScope ["pairs", "many", "beside", "_", "pair", "numbers"] ["pairs", "many"] (defScope s_p_neighbours) := ⟨rfl, rfl, rfl, by decide +kernel, rfl, by decide +kernel, by decide +kernel⟩
abbrev s_p_reached_from : Stmt := topS 2
theorem sc_p_reached_from : FnScope ["start", "neighbours", "ahead", "edge", "further", "number", "other"] ["start", "neighbours"] (defScope s_p_reached_from) := ⟨rfl, rfl, rfl, by decide +kernel, rfl, by decide +kernel, by decide +kernel⟩
abbrev s_p_chain : Stmt := topS 3
theorem sc_p_chain : FnScope ["pairs", "many", "i", "j", "ahead", "told", "number"] ["pairs", "many", "i", "j"] (defScope s_p_chain) := ⟨rfl, rfl, rfl, by decide +kernel, rfl, by decide +kernel, by decide +kernel⟩
abbrev s_p_is_chain : Stmt := topS 4
theorem sc_p_is_chain : FnScope ["pairs", "some", "beside", "pair", "steps", "at", "i", "j"] ["pairs", "some"] (defScope s_p_is_chain) := ⟨rfl, rfl, rfl, by decide +kernel, rfl, by decide +kernel, by decide +kernel⟩
abbrev s_l_cell_at : Stmt := topS 6
theorem sc_l_cell_at : FnScope ["_law_script", "_law_k"] ["_law_script", "_law_k"] (defScope s_l_cell_at) := ⟨rfl, rfl, rfl, by decide +kernel, rfl, by decide +kernel, by decide +kernel⟩
abbrev s_l_mix : Stmt := topS 7
theorem sc_l_mix : FnScope ["_law_cell", "_law_k", "_law_turn", "_law_number"] ["_law_cell", "_law_k"] (defScope s_l_mix) := ⟨rfl, rfl, rfl, by decide +kernel, rfl, by decide +kernel, by decide +kernel⟩
abbrev s_l_count : Stmt := topS 9
theorem sc_l_count : FnScope ["_law_script"] ["_law_script"] (defScope s_l_count) := ⟨rfl, rfl, rfl, by decide +kernel, rfl, by decide +kernel, by decide +kernel⟩
abbrev s_l_behind : Stmt := topS 10
theorem sc_l_behind : FnScope ["_law_many", "_law_pick", "_law_number"] ["_law_many", "_law_pick"] (defScope s_l_behind) := ⟨rfl, rfl, rfl, by decide +kernel, rfl, by decide +kernel, by decide +kernel⟩
abbrev s_l_some_pairs : Stmt := topS 11
theorem sc_l_some_pairs : FnScope ["_law_script", "_law_many", "_law_told", "_law_k", "_law_pick", "_law_i", "_law_j"] ["_law_script", "_law_many"] (defScope s_l_some_pairs) := ⟨rfl, rfl, rfl, by decide +kernel, rfl, by decide +kernel, by decide +kernel⟩
abbrev s_l_near : Stmt := topS 12
theorem sc_l_near : FnScope ["_law_pairs", "_law_one", "_law_told", "_law_pair"] ["_law_pairs", "_law_one"] (defScope s_l_near) := ⟨rfl, rfl, rfl, by decide +kernel, rfl, by decide +kernel, by decide +kernel⟩
abbrev s_l_steps : Stmt := topS 13
theorem sc_l_steps : FnScope ["_law_pairs", "_law_one", "_law_told", "_law_row", "_law_at", "_law_other"] ["_law_pairs", "_law_one"] (defScope s_l_steps) := ⟨rfl, rfl, rfl, by decide +kernel, rfl, by decide +kernel, by decide +kernel⟩
abbrev s_l_right : Stmt := topS 14
theorem sc_l_right : FnScope ["_law_pairs", "_law_many", "_law_i", "_law_j", "_law_handed", "_law_given", "_law_far", "_law_k", "_law_told"] ["_law_pairs", "_law_many", "_law_i", "_law_j"] (defScope s_l_right) := ⟨rfl, rfl, rfl, by decide +kernel, rfl, by decide +kernel, by decide +kernel⟩
abbrev s_l_path_right : Stmt := topS 15
theorem sc_l_path_right : FnScope ["_law_number", "_law_many", "_law_pairs", "_law_k", "_law_turn", "_law_due"] ["_law_number"] (defScope s_l_path_right) := ⟨rfl, rfl, rfl, by decide +kernel, rfl, by decide +kernel, by decide +kernel⟩
abbrev s_l_cut : Stmt := topS 16
theorem sc_l_cut : FnScope ["_law_script", "_law_most", "_law_cell"] ["_law_script"] (defScope s_l_cut) := ⟨rfl, rfl, rfl, by decide +kernel, rfl, by decide +kernel, by decide +kernel⟩
abbrev s_p_law : Stmt := topS 17
theorem sc_p_law : FnScope ["_law_script", "_law_many", "_law_pairs", "_law_some", "_law_k", "_law_i", "_law_j"] ["_law_script"] (defScope s_p_law) := ⟨rfl, rfl, rfl, by decide +kernel, rfl, by decide +kernel, by decide +kernel⟩
structure Txt (K : PySem.W.Frag) (mg : Str → Option Value) (base : Heap) where
  a_p_neighbours : Addr
  d_p_neighbours : FuncData
  F_p_neighbours : Fun K "_neighbours" "_neighbours" s_p_neighbours a_p_neighbours d_p_neighbours
  b_p_neighbours : Binds K d_p_neighbours ["pairs", "many"] []
  g_p_neighbours : mg "_neighbours" = some (.ref a_p_neighbours)
  a_p_reached_from : Addr
  d_p_reached_from : FuncData
  F_p_reached_from : Fun K "_reached_from" "_reached_from" s_p_reached_from a_p_reached_from d_p_reached_from
  b_p_reached_from : Binds K d_p_reached_from ["start", "neighbours"] []
  g_p_reached_from : mg "_reached_from" = some (.ref a_p_reached_from)
  a_p_chain : Addr
  d_p_chain : FuncData
  F_p_chain : Fun K "chain" "chain" s_p_chain a_p_chain d_p_chain
  b_p_chain : Binds K d_p_chain ["pairs", "many", "i", "j"] []
  g_p_chain : mg "chain" = some (.ref a_p_chain)
  a_p_is_chain : Addr
  d_p_is_chain : FuncData
  F_p_is_chain : Fun K "is_chain" "is_chain" s_p_is_chain a_p_is_chain d_p_is_chain
  b_p_is_chain : Binds K d_p_is_chain ["pairs", "some"] []
  g_p_is_chain : mg "is_chain" = some (.ref a_p_is_chain)
  a_l_cell_at : Addr
  d_l_cell_at : FuncData
  F_l_cell_at : Fun K "_law_cell_at" "_law_cell_at" s_l_cell_at a_l_cell_at d_l_cell_at
  b_l_cell_at : Binds K d_l_cell_at ["_law_script", "_law_k"] []
  g_l_cell_at : mg "_law_cell_at" = some (.ref a_l_cell_at)
  a_l_mix : Addr
  d_l_mix : FuncData
  F_l_mix : Fun K "_law_mix" "_law_mix" s_l_mix a_l_mix d_l_mix
  b_l_mix : Binds K d_l_mix ["_law_cell", "_law_k"] []
  g_l_mix : mg "_law_mix" = some (.ref a_l_mix)
  a_l_count : Addr
  d_l_count : FuncData
  F_l_count : Fun K "_law_count" "_law_count" s_l_count a_l_count d_l_count
  b_l_count : Binds K d_l_count ["_law_script"] []
  g_l_count : mg "_law_count" = some (.ref a_l_count)
  a_l_behind : Addr
  d_l_behind : FuncData
  F_l_behind : Fun K "_law_behind" "_law_behind" s_l_behind a_l_behind d_l_behind
  b_l_behind : Binds K d_l_behind ["_law_many", "_law_pick"] []
  g_l_behind : mg "_law_behind" = some (.ref a_l_behind)
  a_l_some_pairs : Addr
  d_l_some_pairs : FuncData
  F_l_some_pairs : Fun K "_law_some_pairs" "_law_some_pairs" s_l_some_pairs a_l_some_pairs d_l_some_pairs
  b_l_some_pairs : Binds K d_l_some_pairs ["_law_script", "_law_many"] []
  g_l_some_pairs : mg "_law_some_pairs" = some (.ref a_l_some_pairs)
  a_l_near : Addr
  d_l_near : FuncData
  F_l_near : Fun K "_law_near" "_law_near" s_l_near a_l_near d_l_near
  b_l_near : Binds K d_l_near ["_law_pairs", "_law_one"] []
  g_l_near : mg "_law_near" = some (.ref a_l_near)
  a_l_steps : Addr
  d_l_steps : FuncData
  F_l_steps : Fun K "_law_steps" "_law_steps" s_l_steps a_l_steps d_l_steps
  b_l_steps : Binds K d_l_steps ["_law_pairs", "_law_one"] []
  g_l_steps : mg "_law_steps" = some (.ref a_l_steps)
  a_l_right : Addr
  d_l_right : FuncData
  F_l_right : Fun K "_law_right" "_law_right" s_l_right a_l_right d_l_right
  b_l_right : Binds K d_l_right ["_law_pairs", "_law_many", "_law_i", "_law_j"] []
  g_l_right : mg "_law_right" = some (.ref a_l_right)
  a_l_path_right : Addr
  d_l_path_right : FuncData
  F_l_path_right : Fun K "_law_path_right" "_law_path_right" s_l_path_right a_l_path_right d_l_path_right
  b_l_path_right : Binds K d_l_path_right ["_law_number"] []
  g_l_path_right : mg "_law_path_right" = some (.ref a_l_path_right)
  a_l_cut : Addr
  d_l_cut : FuncData
  F_l_cut : Fun K "_law_cut" "_law_cut" s_l_cut a_l_cut d_l_cut
  b_l_cut : Binds K d_l_cut ["_law_script"] []
  g_l_cut : mg "_law_cut" = some (.ref a_l_cut)
  z_all : mg "all" = none
  z_bool : mg "bool" = none
  z_int : mg "int" = none
  z_isinstance : mg "isinstance" = none
  z_len : mg "len" = none
  z_list : mg "list" = none
  z_min : mg "min" = none
  z_range : mg "range" = none
  z_sorted : mg "sorted" = none
section
variable {P : Program} {w : World} {K : PySem.W.Frag} {mg : Str → Option Value} {base : Heap}

/-- the dicts at ds have these keys: those that stand in a pair with the number -/
def BesideAt (H : Hp) (M : Nat → Int → Prop) (ds : List Addr) : Prop := ∀ (i : Nat) (d : Addr), ds[i]? = some d → ∃ (kvs : List (Key × V)) (rs : List Int), H d = some (.dK kvs) ∧ KeysI kvs rs ∧ rs.Nodup ∧ ∀ y, y ∈ rs ↔ M i y
def D_p_neighbours : Hp → List V → (V → Hp → Prop) → Prop := fun H vs R => ∃ (b : Addr) (m : Nat) (ps : List (Addr × Int × Int)), vs = [.ref b, .int m] ∧ H b = some (.lst (ps.map fun p => V.ref p.1)) ∧ PairsT H ps ∧ ps.length ≤ 2000 ∧ InR m (ps.map (·.2)) ∧ m ≤ 200 ∧
  (∀ (x : Int) (rs : List Int), rs.Nodup → (∀ y ∈ rs, y ∈ near (ps.map (·.2)) x) → rs.length < 64) ∧
  R = fun v H' => ∃ (p : Addr) (cs : List (Addr × List Int)), v = .ref p ∧ H' p = some (.lst (cs.map fun c => V.ref c.1)) ∧ NearAt H' (ps.map (·.2)) m cs
/-- [{} for _ in range(m)] -/
theorem evx_dicts {K : PySem.W.Frag} {σ : L2.St} {H : Hp} {ta : TA} {m : Nat} {j : Nat} {vs : List Nat} (h : EvA ta σ H [.int m]) (hz : m ≤ 1000) (hw : ∀ x, wipe ((wipe σ vs).set j (some x)) vs = wipe σ vs) :
    EvX (tLc (iRng1 ta) (gName j) tYes tDNewK vs) σ H (fun v H' => ∃ (p : Addr) (ds : List Addr), v = .ref p ∧ H p = none ∧ H' p = some (.lst (ds.map V.ref)) ∧ ds.length = m ∧ ds.Nodup ∧ (∀ d ∈ ds, H d = none ∧ d ≠ p ∧ H' d = some (.dK []))) := fun H0 e Q q => by
  refine h H0 e _ fun H1 e1 => ⟨m, rfl, by omega, by omega, fun Dl hD => ?_⟩
  refine lc_range (lo := 0) (n := (m : Int).toNat) (fun n H' => Ex H1 H' ∧ ∃ ds : List Addr, H' Dl = some (.lst (ds.map V.ref)) ∧ ds.length = n ∧ ds.Nodup ∧ ∀ d ∈ ds, H1 d = none ∧ d ≠ Dl ∧ H' d = some (.dK []))
    ⟨Ex.new hD, [], upd_same, rfl, List.nodup_nil, fun _ y => nomatch y⟩ (fun n H' hn hq => ?_) (fun H' hq => ?_)
  · obtain ⟨e2, ds, h2, hl, nd, hds⟩ := hq
    refine ⟨hw _, fun d hd => ?_⟩
    have dD : d ≠ Dl := fun z => by
      rw [z, h2] at hd
      exact nomatch hd
    have dn : d ∉ ds := fun z => by
      rw [(hds d z).2.2] at hd
      exact nomatch hd
    refine ⟨ds.map V.ref, (upd_ne (Ne.symm dD)).trans h2, sz_lt (by rw [List.length_map]; omega), Ex.mut (e2.trans (Ex.new hd)) hD, ds ++ [d], by rw [upd_same, List.map_append]; rfl, by simp [hl], ?_, fun x hx => ?_⟩
    · rw [List.nodup_append]
      exact ⟨nd, by simp, fun a ha b hb z => dn (by rw [List.mem_singleton] at hb; rw [← hb, ← z]; exact ha)⟩
    · rcases List.mem_append.mp hx with hx | hx
      · obtain ⟨c1, c2, c3⟩ := hds x hx
        exact ⟨c1, c2, (upd_ne c2).trans ((upd_ne fun z : x = d => dn (z ▸ hx)).trans c3)⟩
      · obtain rfl := List.mem_singleton.mp hx
        exact ⟨fresh_back e2 hd, dD, (upd_ne dD).trans upd_same⟩
  · obtain ⟨e2, ds, h2, hl, nd, hds⟩ := hq
    exact q _ _ (e1.trans e2) ⟨Dl, ds, rfl, fresh_back (e.trans e1) hD, h2, by omega, nd, fun d hd => ⟨fresh_back (e.trans e1) (hds d hd).1, (hds d hd).2⟩⟩
theorem near_one' (p : Int × Int) (x : Int) : near [p] x = (if p.1 = x then [p.2] else []) ++ (if p.2 = x then [p.1] else []) := by
  unfold near
  simp
/-- [sorted(numbers) for numbers in beside] -/
theorem evx_nears {K : PySem.W.Frag} {σ : L2.St} {H : Hp} {tl : TE} {a : Addr} {ds : List Addr} {j : Nat} {vs : List Nat} {ep : List (Int × Int)} (h : Ev tl σ H (.ref a)) (hx : SqL K H a (ds.map V.ref)) (hz : ds.length ≤ 1000) (hw : ∀ x, wipe ((wipe σ vs).set j (some x)) vs = wipe σ vs)
    (hB : BesideAt H (fun k y => y ∈ near ep k) ds) (hfew : ∀ (x : Int) (rs : List Int), rs.Nodup → (∀ y ∈ rs, y ∈ near ep x) → rs.length < 64) (hj : j < σ.length) :
    EvX (tLc (iList K tl) (gName j) tYes (tCB rSDI (tCons (tVar j) tNil)) vs) σ H (fun v H' => ∃ (p : Addr) (cs : List (Addr × List Int)), v = .ref p ∧ H' p = some (.lst (cs.map fun c => V.ref c.1)) ∧ NearAt H' ep ds.length cs) := fun H0 e Q q => by
  refine h H0 e _ fun H1 e1 => ⟨a, rfl, ⟨_, ex_l (e.trans e1) hx⟩, fun Dl hD => ?_⟩
  have e01 := e.trans e1
  refine lc_list (xs := ds.map V.ref)
    (fun n H' => Ex H1 H' ∧ ∃ cs : List (Addr × List Int), H' Dl = some (.lst (cs.map fun c => V.ref c.1)) ∧ cs.length = n ∧ (∀ c ∈ cs, c.1 ≠ Dl ∧ H' c.1 = some (.lst (c.2.map V.int))) ∧ ∀ (i : Nat) (c : Addr × List Int), cs[i]? = some c → c.2.Pairwise (· < ·) ∧ ∀ y, y ∈ c.2 ↔ y ∈ near ep i)
    ⟨Ex.new hD, [], upd_same, rfl, (fun _ y => nomatch y), fun i c hc => by simp at hc⟩ (fun n H' _ p => ex_l (e01.trans p.1) hx) (fun n x H' hn p => ?_) (fun H' p => ?_)
  · obtain ⟨e2, cs, h2, hl, hcs, hat⟩ := p
    obtain ⟨d, hd, rfl⟩ : ∃ d, ds[n]? = some d ∧ x = .ref d := by
      rw [List.getElem?_map] at hn
      cases y : ds[n]? with
      | none =>
        rw [y] at hn
        exact nomatch hn
      | some c =>
        rw [y] at hn
        exact ⟨c, rfl, (Option.some.inj hn).symm⟩
    obtain ⟨kvs, rs, g1, g2, g3, g4⟩ := hB n d hd
    refine ⟨hw _, evx_sortedDI (ev_var (by rw [List.getElem?_set_self (by rw [wipe_length]; exact hj)])) (.inl ((e01.trans e2) _ _ g1)) g2 (hfew n rs g3 fun y hy => (g4 y).mp hy) H' (Ex.refl H') _ fun v H2 e3 r => ?_⟩
    obtain ⟨p, ys, rfl, hp, hys, pm, sr⟩ := r
    have pD : p ≠ Dl := fun z => by
      rw [z, h2] at hp
      exact nomatch hp
    have ndy : ys.Nodup := pm.nodup_iff.mpr g3
    refine ⟨_, e3 _ _ h2, sz_lt (by rw [List.length_map]; have := (List.getElem?_eq_some_iff.mp hd).1; omega), Ex.mut (e2.trans e3) hD, cs ++ [(p, ys)], by rw [upd_same, List.map_append]; rfl, by simp [hl], fun c hc => ?_, fun i c hc => ?_⟩
    · rcases List.mem_append.mp hc with hc | hc
      · exact ⟨(hcs c hc).1, (upd_ne (hcs c hc).1).trans (e3 _ _ (hcs c hc).2)⟩
      · obtain rfl := List.mem_singleton.mp hc
        exact ⟨pD, (upd_ne pD).trans hys⟩
    · by_cases lt : i < cs.length
      · rw [List.getElem?_append_left lt] at hc
        exact hat i c hc
      · rw [List.getElem?_append_right (by omega)] at hc
        have z : i - cs.length = 0 := by
          have := (List.getElem?_eq_some_iff.mp hc).1
          simp at this
          omega
        rw [z] at hc
        obtain rfl := Option.some.inj hc
        obtain rfl : i = n := by omega
        refine ⟨?_, fun y => pm.mem_iff.trans (g4 y)⟩
        exact (List.Pairwise.and sr ndy).imp fun h => by have := h.1; have := h.2; omega
  · obtain ⟨e2, cs, h2, hl, hcs, hat⟩ := p
    rw [List.length_map] at hl
    exact q _ _ (e1.trans e2) ⟨Dl, cs, rfl, h2, hl, fun c hc => (hcs c hc).2, hat⟩
theorem ok_p_neighbours (T : Txt K mg base) : FnOk P w K mg base CX0 1 T.a_p_neighbours T.d_p_neighbours ["pairs", "many"] (SpR D_p_neighbours) := by
  refine T.F_p_neighbours.ok sc_p_neighbours (fun vs H Q E h => ?_) (fun cdv A outer s H vs Q E hr h => ?_)
  · obtain ⟨v, ⟨b, m, ps, rfl, _⟩, _⟩ := h
    rfl
  · obtain ⟨v, ⟨b, m, ps, rfl, hb, hps, hz, hin, m200, hfew, rfl⟩, q⟩ := h
    refine ⟨_, (pss_cons (ps_setLc (i := 2) (own := [("_", 3)]) (g := gName 3) (tt := tYes) rfl sc_p_neighbours.nd rfl rfl (sw_true rfl rfl rfl (by decide +kernel)) (pi_range1 (by rfl) T.z_range (pa_cons (pv 1) pa_nil)) (blkOk_by (N := ["pairs", "many", "beside", "_", "pair", "numbers"]) (sc := defScope s_p_neighbours) (by decide +kernel)) (fun _ _ _ _ _ => (pg_name (i := 3) sc_p_neighbours.nd rfl (Or.inl rfl))) (fun _ _ _ _ _ => pts_nil) (fun _ _ _ _ _ => pe_dnewK))
      (pss_cons (ps_for PassesOwn.never rfl (pi_list (pv 0)) (pg_name (i := 4) sc_p_neighbours.nd rfl (.inl rfl))
      (pss_cons (ps_dput (hu_of hr) (pe_ix ix_list (pv 2) (pe_ix ix_tup (pv 4) pe_int (fun _ _ => rfl)) (fun _ _ => rfl)) (pe_ix ix_tup (pv 4) pe_int (fun _ _ => rfl)) pe_bl rfl)
      (pss_one (ps_dput (hu_of hr) (pe_ix ix_list (pv 2) (pe_ix ix_tup (pv 4) pe_int (fun _ _ => rfl)) (fun _ _ => rfl)) (pe_ix ix_tup (pv 4) pe_int (fun _ _ => rfl)) pe_bl rfl))))
      (pss_one (ps_ret (pe_lc (own := [("numbers", 5)]) (g := gName 5) (tt := tYes) rfl sc_p_neighbours.nd (pi_list (pv 2)) (blkOk_by (N := ["pairs", "many", "beside", "_", "pair", "numbers"]) (sc := defScope s_p_neighbours) (by decide +kernel)) (fun _ _ _ _ _ => (pg_name (i := 5) sc_p_neighbours.nd rfl (Or.inl rfl))) (fun _ _ _ _ _ => pts_nil) (fun _ _ _ _ _ => (pe_callB (show CallR _ (.builtin "sorted") MuK.rSDI from call_sortedDI rfl) (by rfl) T.z_sorted (by decide +kernel) (pa_cons (pv 5) pa_nil)))))))), ?_⟩
    refine q_asgX (evx_dicts (K := K) (by walk_at "mu g") (by omega) fun _ => rfl) fun v H1 e1 r => ?_
    obtain ⟨p, ds, rfl, hp, h1, hl, nd, hds⟩ := r
    have dAt : ∀ {H' : Hp} {M : Nat → Int → Prop} {i : Nat}, BesideAt H' M ds → i < m → ∃ (d : Addr) (kvs : List (Key × V)) (rs : List Int), ds[i]? = some d ∧ d ∈ ds ∧ H' d = some (.dK kvs) ∧ KeysI kvs rs ∧ rs.Nodup ∧ ∀ y, y ∈ rs ↔ M i y := fun h lt => by
      have lt2 : _ < ds.length := hl ▸ lt
      obtain ⟨kvs, rs, r⟩ := h _ _ (List.getElem?_eq_getElem lt2)
      exact ⟨_, kvs, rs, List.getElem?_eq_getElem lt2, List.getElem_mem lt2, r⟩
    have put : ∀ {H' : Hp} {M : Nat → Int → Prop} {i : Nat} {d : Addr} {kvs : List (Key × V)} {j : Int} {M2 : Nat → Int → Prop} (w : V), BesideAt H' M ds → ds[i]? = some d → H' d = some (.dK kvs) → (∀ (k : Nat) y, M2 k y ↔ M k y ∨ (k = i ∧ y = j)) →
        BesideAt (upd H' d (.dK (putK kvs (.inl j) w))) M2 ds := fun {H' M i d kvs j M2} w h hi hd hep k c hc => by
      obtain ⟨kv2, rs, a1, a2, a3, a4⟩ := h k c hc
      by_cases z : k = i
      · subst z
        rw [hi] at hc
        obtain rfl := Option.some.inj hc
        rw [hd] at a1
        obtain rfl : kvs = kv2 := by injection (Option.some.inj a1)
        by_cases jm : j ∈ rs
        · exact ⟨_, rs, upd_same, keysI_put2 a2 jm w, a3, fun y => by
            rw [hep, ← a4]
            exact ⟨.inl, fun o => o.elim id fun o => o.2 ▸ jm⟩⟩
        · refine ⟨_, rs ++ [j], upd_same, (keysI_put a2 jm w).2, ?_, fun y => ?_⟩
          · rw [List.nodup_append]
            exact ⟨a3, by simp, fun a ha b hb e => jm (by rw [List.mem_singleton] at hb; rw [← hb, ← e]; exact ha)⟩
          · rw [hep, ← a4, List.mem_append, List.mem_singleton]
            exact ⟨fun o => o.imp id fun o => ⟨rfl, o⟩, fun o => o.imp id fun o => o.2⟩
      · have cd : c ≠ d := fun y => by
          rw [y] at hc
          exact z ((List.getElem?_inj (List.getElem?_eq_some_iff.mp hc).1 nd).mp (hc.trans hi.symm))
        exact ⟨kv2, rs, (upd_ne cd).trans a1, a2, a3, fun y => by
          rw [hep, ← a4]
          exact ⟨.inl, fun o => o.elim id fun o => absurd o.1 z⟩⟩
    have later : ∀ {H' H2 : Hp} {M : Nat → Int → Prop}, BesideAt H' M ds → Ex H' H2 → BesideAt H2 M ds := fun h e i d hd => by
      obtain ⟨kvs, rs, a1, r⟩ := h i d hd
      exact ⟨kvs, rs, e _ _ a1, r⟩
    refine q_forLn (K := K) (a := b) (xs := ps.map fun p => V.ref p.1) (ev_var rfl) (sq_of (e1 b _ hb)) (fun n σ' H' => Ex H H' ∧ H' p = some (.lst (ds.map V.ref)) ∧ BesideAt H' (fun k y => y ∈ near ((ps.take n).map (·.2)) k) ds ∧ ∃ x3 x4 x5, σ' = [some (.ref b), some (.int m), some (.ref p), x3, x4, x5])
      (fun H2 e2 => ⟨e1.trans e2, e2 p _ h1, fun i d hd => ⟨[], [], e2 _ _ (hds d (List.mem_of_getElem? hd)).2.2, rfl, List.nodup_nil, fun y => by
        rw [List.take_zero]
        exact ⟨fun z => (nomatch z), fun z => (nomatch z)⟩⟩, _, _, _, rfl⟩) (fun n σ' H' _ hq => sq_of (hq.1 b _ hb)) (fun n x σ' H' hx hq => ?_) (fun σ' H' hq => ?_)
    · obtain ⟨e2, h2, hB, x3, x4, x5, rfl⟩ := hq
      obtain ⟨pr, epr, mpr, rfl⟩ := pair_at hx
      have hT : ∀ H3, Ex H H3 → PairT H3 pr := fun H3 e => (hps pr mpr).later e
      obtain ⟨⟨i0, i1⟩, j0, j1⟩ := hin pr.2 (List.mem_map.mpr ⟨pr, mpr, rfl⟩)
      generalize hi : pr.2.1 = i at i0 i1
      generalize hj : pr.2.2 = j at j0 j1
      have q0 : ∀ {H3 : Hp}, PairT H3 pr → RV (rIxT K) (.ref pr.1) (.int 0) H3 (.int i) := fun h => hi ▸ rv_p0 h
      have q1 : ∀ {H3 : Hp}, PairT H3 pr → RV (rIxT K) (.ref pr.1) (.int 1) H3 (.int j) := fun h => hj ▸ rv_p1 h
      obtain ⟨iN, rfl⟩ : ∃ iN : Nat, i = iN := ⟨i.toNat, by omega⟩
      obtain ⟨jN, rfl⟩ : ∃ jN : Nat, j = jN := ⟨j.toNat, by omega⟩
      obtain ⟨d, kvs, rs, hd, md, g1, g2, g3, g4⟩ := dAt hB (i := iN) (by omega)
      have at_ : ∀ {H3 : Hp} {k : Nat} {d : Addr}, H3 p = some (.lst (ds.map V.ref)) → ds[k]? = some d → RV (rIxL K) (.ref p) (.int (k : Int)) H3 (.ref d) := fun h e => rv_ixL (sq_of h) (atI_nat (by rw [List.getElem?_map, e]; rfl))
      have small : ∀ {kvs : List (Key × V)} {rs : List Int}, KeysI kvs rs → rs.Nodup → (∀ y ∈ rs, 0 ≤ y ∧ y < (m : Int)) → kvs.length < 100000 := fun k n h => by
        have := ints_few n h
        have := keysI_len k
        omega
      have hinT : InR m ((ps.take n).map (·.2)) := fun x hx => by
        obtain ⟨z, hz, e⟩ := List.mem_map.mp hx
        exact hin x (List.mem_map.mpr ⟨z, List.mem_of_mem_take hz, e⟩)
      refine q_dputK (k := .inl (jN : Int)) (v := .bl true) g1 (small g2 g3 fun y hy => (hinT.near ((g4 y).mp hy)).2) ev_c (ev_op (ev_var rfl) (ev_op (ev_var rfl) ev_c (q0 (hT _ e2))) (at_ h2 hd)) (ev_op (ev_var rfl) ev_c (q1 (hT _ e2))) fun H3 e3 => ?_
      have hB2 := put (i := iN) (d := d) (kvs := kvs) (j := (jN : Int)) (M2 := fun k y => y ∈ near ((ps.take n).map (·.2)) k ∨ (k = iN ∧ y = (jN : Int))) (.bl true) (later hB e3) hd (e3 _ _ g1) (fun _ _ => Iff.rfl)
      have dp : ∀ c ∈ ds, p ≠ c := fun c hc => Ne.symm (hds c hc).2.1
      have e4 : Ex H (upd H3 d (.dK (putK kvs (.inl (jN : Int)) (.bl true)))) := Ex.mut (e2.trans e3) (hds d md).1
      have h4 : (upd H3 d (.dK (putK kvs (.inl (jN : Int)) (.bl true)))) p = some (.lst (ds.map V.ref)) := (upd_ne (dp d md)).trans (e3 _ _ h2)
      generalize upd H3 d (.dK (putK kvs (.inl (jN : Int)) (.bl true))) = H4 at hB2 e4 h4
      obtain ⟨d2, kv2, rs2, hd2, md2, f1, f2, f3, f4⟩ := dAt hB2 (i := jN) (by omega)
      refine s_dputK (k := .inl (iN : Int)) (v := .bl true) f1 (small f2 f3 fun y hy => ?_) ev_c (ev_op (ev_var rfl) (ev_op (ev_var rfl) ev_c (q1 (hT _ e4))) (at_ h4 hd2)) (ev_op (ev_var rfl) ev_c (q0 (hT _ e4))) fun H5 e5 => ?_
      · rcases (f4 y).mp hy with z | z
        · exact (hinT.near z).2
        · rw [z.2]
          exact ⟨j0, j1⟩
      have hB3 := put (i := jN) (d := d2) (kvs := kv2) (j := (iN : Int)) (M2 := fun (k : Nat) y => y ∈ near ((ps.take (n + 1)).map (·.2)) (k : Int)) (.bl true) (later hB2 e5) hd2 (e5 _ _ f1) (fun k y => by
        rw [List.take_add_one, epr, List.map_append, near_app, show (some pr).toList.map (·.2) = [pr.2] from rfl, near_one', hi, hj, List.mem_append, List.mem_append, or_assoc]
        refine or_congr Iff.rfl (or_congr ?_ ?_)
        · by_cases c : (iN : Int) = (k : Int)
          · rw [if_pos c, List.mem_singleton]
            exact ⟨fun z => ⟨by omega, z⟩, fun z => z.2⟩
          · rw [if_neg c]
            exact ⟨fun z => (nomatch z), fun z => absurd (by omega) c⟩
        · by_cases c : (jN : Int) = (k : Int)
          · rw [if_pos c, List.mem_singleton]
            exact ⟨fun z => ⟨by omega, z⟩, fun z => z.2⟩
          · rw [if_neg c]
            exact ⟨fun z => (nomatch z), fun z => absurd (by omega) c⟩)
      exact ⟨Ex.mut (e4.trans e5) (hds d2 md2).1, (upd_ne (dp d2 md2)).trans (e5 _ _ h4), hB3, _, _, _, rfl⟩
    · obtain ⟨e2, h2, hB, x3, x4, x5, rfl⟩ := hq
      rw [List.length_map, List.take_length] at hB
      refine s_retX (evx_nears (K := K) (ev_var rfl) (sq_of h2) (by omega) (fun _ => rfl) (ep := ps.map (·.2)) hB hfew (by simp)) fun v H3 e3 r => q v H3 (e2.trans e3) ?_
      obtain ⟨c, cs, rfl, hc, hn⟩ := r
      exact ⟨c, cs, rfl, hc, hl ▸ hn⟩

/-! ### the walk outwards as a function -/
theorem sortedI_same : ∀ {l k : List Int}, l.Pairwise (· < ·) → k.Pairwise (· < ·) → (∀ y, y ∈ l ↔ y ∈ k) → l = k
  | [], [], _, _, _ => rfl
  | [], b :: k, _, _, h => nomatch (h b).mpr List.mem_cons_self
  | a :: l, [], _, _, h => nomatch (h a).mp List.mem_cons_self
  | a :: l, b :: k, hl, hk, h => by
    obtain ⟨la, hl2⟩ := List.pairwise_cons.mp hl
    obtain ⟨kb, hk2⟩ := List.pairwise_cons.mp hk
    have e : a = b := by
      rcases List.mem_cons.mp ((h a).mp List.mem_cons_self) with z | z
      · exact z
      · rcases List.mem_cons.mp ((h b).mpr List.mem_cons_self) with y | y
        · exact y.symm
        · have := kb a z
          have := la b y
          omega
    subst e
    refine congrArg (a :: ·) (sortedI_same hl2 hk2 fun y => ⟨fun m => ?_, fun m => ?_⟩)
    · rcases List.mem_cons.mp ((h y).mp (List.mem_cons_of_mem _ m)) with z | z
      · have := la y m
        omega
      · exact z
    · rcases List.mem_cons.mp ((h y).mpr (List.mem_cons_of_mem _ m)) with z | z
      · have := kb y m
        omega
      · exact z
open Classical in
noncomputable def nbOf (ep : List (Int × Int)) (x : Int) : List Int := if h : ∃ l : List Int, l.Pairwise (· < ·) ∧ ∀ y, y ∈ l ↔ y ∈ near ep x then Classical.choose h else []
theorem nbOf_eq {ep : List (Int × Int)} {x : Int} {l : List Int} (s : l.Pairwise (· < ·)) (h : ∀ y, y ∈ l ↔ y ∈ near ep x) : nbOf ep x = l := by
  unfold nbOf
  have e : ∃ l : List Int, l.Pairwise (· < ·) ∧ ∀ y, y ∈ l ↔ y ∈ near ep x := ⟨l, s, h⟩
  rw [dif_pos e]
  obtain ⟨s2, h2⟩ := Classical.choose_spec e
  exact sortedI_same s2 s fun y => (h2 y).trans (h y).symm
abbrev StF := List (Key × V) × List Int
def visF (x : Int) (st : StF) (y : Int) : StF := if (valV st.1 (.inl y)).isSome = true then st else (putK st.1 (.inl y) (.int x), st.2 ++ [y])
noncomputable def visN (ep : List (Int × Int)) (st : StF) (x : Int) : StF := (nbOf ep x).foldl (visF x) st
noncomputable def itF (ep : List (Int × Int)) (one : Int) : Nat → StF
  | 0 => ([(.inl one, .non)], [one])
  | n + 1 => (itF ep one n).2.foldl (visN ep) ((itF ep one n).1, [])
theorem itF_stay {ep : List (Int × Int)} {one : Int} {n : Nat} {kvs : List (Key × V)} (h : itF ep one n = (kvs, [])) : ∀ k, itF ep one (n + k) = (kvs, [])
  | 0 => h
  | k + 1 => by
    show (itF ep one (n + k)).2.foldl (visN ep) ((itF ep one (n + k)).1, []) = _
    rw [itF_stay h k]
    rfl
theorem itF_one {ep : List (Int × Int)} {one : Int} {n k : Nat} {a b : List (Key × V)} (ha : itF ep one n = (a, [])) (hb : itF ep one k = (b, [])) : a = b := by
  rcases Nat.le_total n k with h | h
  · have := itF_stay ha (k - n)
    rw [Nat.add_sub_cancel' h, hb] at this
    exact (congrArg Prod.fst this).symm
  · have := itF_stay hb (n - k)
    rw [Nat.add_sub_cancel' h, ha] at this
    exact congrArg Prod.fst this
theorem fold_take {α β : Type} (f : β → α → β) (l : List α) (b : β) {k : Nat} {x : α} (h : l[k]? = some x) : (l.take (k + 1)).foldl f b = f ((l.take k).foldl f b) x := by
  rw [List.take_add_one, h, List.foldl_append]
  rfl
def R_p_reached (H : Hp) (ep : List (Int × Int)) (one : Int) : V → Hp → Prop := fun v H' => ∃ (d : Addr) (kvs : List (Key × V)) (rs : List Int), v = .ref d ∧ H d = none ∧ H' d = some (.dK kvs) ∧ KeysI kvs rs ∧ rs.Nodup ∧ (∀ y, y ∈ rs ↔ Rch ep one y)
def D_p_reached_from : Hp → List V → (V → Hp → Prop) → Prop := fun H vs R => ∃ (b : Addr) (one : Int) (m : Nat) (ep : List (Int × Int)) (cs : List (Addr × List Int)), vs = [.int one, .ref b] ∧ H b = some (.lst (cs.map fun c => V.ref c.1)) ∧ NearAt H ep m cs ∧ InR m ep ∧ (0 ≤ one ∧ one < m) ∧ m ≤ 200 ∧ R = R_p_reached H ep one
def R_p_reached_all (H : Hp) (ep : List (Int × Int)) (one : Int) : V → Hp → Prop := fun v H' => ∃ (d : Addr) (kvs : List (Key × V)) (rs : List Int), v = .ref d ∧ H d = none ∧ H' d = some (.dK kvs) ∧ KeysI kvs rs ∧ rs.Nodup ∧ (∀ y, y ∈ rs ↔ Rch ep one y) ∧ ∃ D, AheadOk ep one kvs rs D ∧ (∀ x ∈ rs, ∀ y ∈ near ep x, D y ≤ D x + 1) ∧ ∃ n, itF ep one n = (kvs, [])
def D_p_reached_all : Hp → List V → (V → Hp → Prop) → Prop := fun H vs R => ∃ (b : Addr) (one : Int) (m : Nat) (ep : List (Int × Int)) (cs : List (Addr × List Int)), vs = [.int one, .ref b] ∧ H b = some (.lst (cs.map fun c => V.ref c.1)) ∧ NearAt H ep m cs ∧ InR m ep ∧ (0 ≤ one ∧ one < m) ∧ m ≤ 200 ∧ R = R_p_reached_all H ep one
theorem ok_p_reached_all (T : Txt K mg base) : FnOk P w K mg base CX0 1 T.a_p_reached_from T.d_p_reached_from ["start", "neighbours"] (SpR D_p_reached_all) := by
  refine T.F_p_reached_from.ok sc_p_reached_from (fun vs H Q E h => ?_) (fun cdv A outer s H vs Q E hr h => ?_)
  · obtain ⟨v, ⟨b, one, m, ep, cs, rfl, _⟩, _⟩ := h
    rfl
  · obtain ⟨v, ⟨b, one, m, ep, cs, rfl, hb, hcs, hin, h1m, m200, rfl⟩, q⟩ := h
    refine ⟨_, (pss_cons (ps_set (i := 2) sc_p_reached_from.nd rfl (.inl rfl) (pe_disp (pps_cons (pv 0) pe_non pps_nil) (by rfl) (by rfl) (fun z => by cases z) (by decide)))
      (pss_cons (ps_set (i := 3) sc_p_reached_from.nd rfl (.inl rfl) (pe_lst (pa_cons (pv 0) pa_nil)))
      (pss_cons (ps_while PassesOwn.never (pt_truth (pv 3) (by intro _; rfl)) (pss_cons (ps_set (i := 4) sc_p_reached_from.nd rfl (.inl rfl) (pe_lst pa_nil))
      (pss_cons (ps_for PassesOwn.never rfl (pi_list (pv 3)) (pg_name (i := 5) sc_p_reached_from.nd rfl (.inl rfl))
      (pss_one (ps_for PassesOwn.never rfl (pi_list (pe_ix ix_list (pv 1) (pv 5) (fun _ _ => rfl))) (pg_name (i := 6) sc_p_reached_from.nd rfl (.inl rfl))
      (pss_one (ps_if (pt_cmp (pc_dnotin (hu_of hr) (pv 6) (pv 2)))
      (pss_cons (ps_dput (hu_of hr) (pv 2) (pv 6) (pv 5) rfl)
      (pss_one (ps_expr (pe_bm PySem.F.plainAttrs_list PySem.F.slot_list_append PySem.F.type_list_append mt_append (pv 4) (pa_cons (pv 6) pa_nil)))))
      pss_nil)))))
      (pss_one (ps_set (i := 3) sc_p_reached_from.nd rfl (.inl rfl) (pv 4))))))
      (pss_one (ps_ret (pv 2)))))), ?_⟩
    refine q_asgX (evx_disp1 (k := .inl one) (v := .non) (ev_var rfl) ev_c) fun v H1 e1 r => ?_
    obtain ⟨d, rfl, hd, h1⟩ := r
    refine q_asgL (xs := [.int one]) (el_lst (by walk_at "mu g") (by simp)) fun p H2 hp e2 h2 => ?_
    have pd : p ≠ d := fun z => by
      rw [z, h1] at hp
      exact nomatch hp
    have e12 := e1.trans e2
    have few : ∀ {kvs : List (Key × V)} {rs eg mr : List Int} {k : Nat}, RA ep one kvs rs eg mr k → rs.length ≤ m := fun st => ints_few st.nd fun y hy => hin.rch h1m (st.rch y hy)
    refine q_while (fun z σ' H' => Ex H H' ∧ ∃ (kvs : List (Key × V)) (rs eg : List Int) (c : Addr), H' d = some (.dK kvs) ∧ H' c = some (.lst (eg.map V.int)) ∧ c ≠ d ∧ H c = none ∧ RA ep one kvs rs eg [] 0 ∧ (∃ n, itF ep one n = (kvs, eg)) ∧ z = 2 * (m - rs.length) + (if eg = [] then 0 else 1) ∧ ∃ x4 x5 x6, σ' = [some (.int one), some (.ref b), some (.ref d), some (.ref c), x4, x5, x6])
      (2 * (m - 1) + 1) ⟨e12, [(.inl one, .non)], [one], [one], p, e2 d _ h1, h2, pd, fresh_back e1 hp, RA.init, ⟨0, rfl⟩, by simp, _, _, _, rfl⟩ (fun z σ' H' hw => ?_)
    obtain ⟨e4, kvs, rs, eg, c, hk, hc, cd, hcn, st, ⟨nF, hF⟩, rfl, x4, x5, x6, rfl⟩ := hw
    refine ⟨!(eg.map V.int).isEmpty, et_truL (K := K) (ev_var rfl) (sq_of hc), fun ht H4 e5 => ?_, fun hf H4 e5 => ?_⟩
    · have ne : eg ≠ [] := fun z => by
        rw [z] at ht
        cases ht
      have e45 := e4.trans e5
      refine ⟨fun σ' H' => Ex H H' ∧ ∃ (kvs : List (Key × V)) (rs' mr : List Int) (c' : Addr), H' d = some (.dK kvs) ∧ H' c' = some (.lst (mr.map V.int)) ∧ c' ≠ d ∧ H c' = none ∧ RA ep one kvs rs' mr [] 0 ∧ itF ep one (nF + 1) = (kvs, mr) ∧ rs'.length = rs.length + mr.length ∧ ∃ x4 x5 x6, σ' = [some (.int one), some (.ref b), some (.ref d), some (.ref c'), x4, x5, x6], fun σ' H' hq => ?_, ?_⟩
      · obtain ⟨e6, kvs', rs', mr, c', a1, a2, a3, a4, a5, aF, a6, x4, x5, x6, rfl⟩ := hq
        have := few a5
        refine ⟨2 * (m - rs'.length) + (if mr = [] then 0 else 1), ?_, e6, kvs', rs', mr, c', a1, a2, a3, a4, a5, ⟨nF + 1, aF⟩, rfl, _, _, _, rfl⟩
        rw [if_neg ne]
        by_cases z : mr = []
        · rw [if_pos z]
          rw [z] at a6
          simp at a6
          omega
        · rw [if_neg z]
          have : 0 < mr.length := List.length_pos_iff.mpr z
          omega
      obtain ⟨kvs0, hk0⟩ : ∃ k, k = kvs := ⟨kvs, rfl⟩
      refine q_asgL (xs := []) (el_lst (by walk_at "mu g") (by decide)) fun f H5 hf e6 h5 => ?_
      have fd : f ≠ d := fun z => by
        rw [z, e5 d _ hk] at hf
        exact nomatch hf
      have fc : f ≠ c := fun z => by
        rw [z, e5 c _ hc] at hf
        exact nomatch hf
      have hf0 : H f = none := fresh_back e45 hf
      refine q_forLn (K := K) (a := c) (xs := eg.map V.int) (ev_var rfl) (sq_of ((e5.trans e6) c _ hc)) (fun n σ' H' => Ex H H' ∧ H' c = some (.lst (eg.map V.int)) ∧ ∃ (kvs : List (Key × V)) (rs' mr : List Int), H' d = some (.dK kvs) ∧ H' f = some (.lst (mr.map V.int)) ∧ RA ep one kvs rs' eg mr n ∧ (eg.take n).foldl (visN ep) (kvs0, []) = (kvs, mr) ∧ rs'.length = rs.length + mr.length ∧ ∃ x5 x6, σ' = [some (.int one), some (.ref b), some (.ref d), some (.ref c), some (.ref f), x5, x6])
        (fun H6 e7 => ⟨(e45.trans e6).trans e7, ((e5.trans e6).trans e7) c _ hc, kvs, rs, [], ((e5.trans e6).trans e7) d _ hk, e7 f _ h5, st, by rw [List.take_zero, hk0]; rfl, by simp, _, _, rfl⟩) (fun n σ' H' _ hq => sq_of hq.2.1) (fun n u σ' H' hu hq => ?_) (fun σ' H' hq => ?_)
      · obtain ⟨e7, hc', kvs', rs', mr, a1, a2, a3, aF, a4, x5, x6, rfl⟩ := hq
        obtain ⟨x, ex, mx, rfl⟩ := int_at hu
        have xr : 0 ≤ x ∧ x < (m : Int) := hin.rch h1m (a3.rch x (a3.sub x mx))
        obtain ⟨xN, rfl⟩ : ∃ xN : Nat, x = xN := ⟨x.toNat, by omega⟩
        have xlt : xN < cs.length := by
          rw [hcs.1]
          omega
        have hcx : cs[xN]? = some cs[xN] := List.getElem?_eq_getElem xlt
        have mcx : cs[xN] ∈ cs := List.getElem_mem xlt
        obtain ⟨hso, hnx⟩ := hcs.2.2 _ _ hcx
        have hox := hcs.2.1 _ mcx
        generalize cs[xN] = o at hcx mcx hnx hox hso
        have hnb : nbOf ep (xN : Int) = o.2 := nbOf_eq hso hnx
        have o_d : o.1 ≠ d := fun z => by
          rw [z, fresh_back (Ex.refl H) hd] at hox
          exact nomatch hox
        refine s_forLn (K := K) (a := o.1) (xs := o.2.map V.int) (ev_op (ev_var rfl) (ev_var rfl) (rv_ixL (sq_of (e7 b _ hb)) (atI_nat (by rw [List.getElem?_map, hcx]; rfl)))) (sq_of (e7 _ _ hox))
          (fun j σ' H' => Ex H H' ∧ H' c = some (.lst (eg.map V.int)) ∧ ∃ (kvs : List (Key × V)) (rs' mr : List Int), H' d = some (.dK kvs) ∧ H' f = some (.lst (mr.map V.int)) ∧ RA ep one kvs rs' eg mr n ∧ (o.2.take j).foldl (visF (xN : Int)) ((eg.take n).foldl (visN ep) (kvs0, [])) = (kvs, mr) ∧ rs'.length = rs.length + mr.length ∧ (∀ y ∈ o.2.take j, y ∈ rs') ∧ ∃ x6, σ' = [some (.int one), some (.ref b), some (.ref d), some (.ref c), some (.ref f), some (.int (xN : Int)), x6])
          (fun H6 e8 => ⟨e7.trans e8, e8 c _ hc', kvs', rs', mr, e8 d _ a1, e8 f _ a2, a3, by rw [List.take_zero]; exact aF, a4, (fun y hy => by simp at hy), _, rfl⟩) (fun j σ' H' _ hq => sq_of (hq.1 _ _ hox)) (fun j u σ' H' hu hq => ?_) (fun σ' H' hq => ?_)
        · obtain ⟨e8, hc8, kv8, rs8, mr8, b1, b2, b3, bF, b4, b5, x6, rfl⟩ := hq
          obtain ⟨y, ey, my, rfl⟩ := int_at hu
          have tk : ∀ z, z ∈ o.2.take (j + 1) ↔ z ∈ o.2.take j ∨ z = y := fun z => by
            rw [List.take_add_one, ey, List.mem_append]
            simp
          refine s_when (b := !(valV kv8 (.inl y)).isSome) (et_dnin (k := .inl y) (ev_var rfl) (ev_var rfl) (.inl b1)) (fun hb2 H6 e9 => ?_) (fun hb2 H6 e9 => ?_)
          · have ny : y ∉ rs8 := fun hy => by
              rw [keysI_val b3.keys, decide_eq_true hy] at hb2
              cases hb2
            have kp := keysI_put b3.keys ny (.int (xN : Int))
            have zk := keysI_len b3.keys
            have fm := few b3
            have st' := b3.put mx ny ((hnx y).mp my)
            refine q_dputK (k := .inl y) (v := .int (xN : Int)) (e9 d _ b1) (by omega) (ev_var rfl) (ev_var rfl) (ev_var rfl) fun H7 e10 => ?_
            have e90 := e9.trans e10
            have zm : mr8.length ≤ m := by omega
            refine s_app (v := .int y) ((upd_ne fd).trans (e90 f _ b2)) (ev_var rfl) (ev_var rfl) (by rw [List.length_map]; omega) fun H8 e11 => ?_
            refine ⟨Ex.mut ((Ex.mut (e8.trans e90) hd).trans e11) hf0, (upd_ne (Ne.symm fc)).trans (e11 c _ ((upd_ne cd).trans (e90 c _ hc8))), _, _, mr8 ++ [y], (upd_ne (Ne.symm fd)).trans (e11 d _ upd_same), by rw [upd_same, List.map_append]; rfl, st', by rw [fold_take _ _ _ ey, bF]; unfold visF; rw [if_neg (by intro z; rw [z] at hb2; cases hb2)], by simp only [List.length_append, List.length_singleton]; omega, fun z hz => ((tk z).mp hz).elim (fun w => List.mem_append_left _ (b5 z w)) fun e => by rw [e]; simp, _, rfl⟩
          · have yy : y ∈ rs8 := by
              rw [keysI_val b3.keys] at hb2
              by_cases h : y ∈ rs8
              · exact h
              · rw [decide_eq_false h] at hb2
                cases hb2
            exact ⟨e8.trans e9, e9 c _ hc8, kv8, rs8, mr8, e9 d _ b1, e9 f _ b2, b3, by rw [fold_take _ _ _ ey, bF]; unfold visF; rw [if_pos (by rw [keysI_val b3.keys]; exact decide_eq_true yy)], b4, (fun z hz => ((tk z).mp hz).elim (b5 z) fun e => e ▸ yy), _, rfl⟩
        · obtain ⟨e8, hc8, kv8, rs8, mr8, b1, b2, b3, bF, b4, b5, x6, rfl⟩ := hq
          rw [List.length_map, List.take_length] at b5 bF
          exact ⟨e8, hc8, kv8, rs8, mr8, b1, b2, b3.next ex (fun t ht => b5 t ((hnx t).mpr ht)), by rw [fold_take _ _ _ ex]; unfold visN; rw [hnb]; exact bF, b4, _, _, rfl⟩
      · obtain ⟨e7, hc', kvs', rs', mr, a1, a2, a3, aF, a4, x5, x6, rfl⟩ := hq
        rw [List.length_map] at a3 aF
        rw [List.take_length, hk0] at aF
        refine s_asg (v := .ref f) (ev_var rfl) fun H6 e8 => ⟨e7.trans e8, kvs', rs', mr, f, e8 d _ a1, e8 f _ a2, fd, hf0, a3.swap, by show (itF ep one nF).2.foldl (visN ep) ((itF ep one nF).1, []) = _; rw [hF]; exact aF, a4, _, _, _, rfl⟩
    · have eg0 : eg = [] := by
        cases eg with
        | nil => rfl
        | cons a r => cases hf
      refine s_ret (v := .ref d) (ev_var rfl) fun H5 e6 => q _ _ ((e4.trans e5).trans e6) ⟨d, kvs, rs, rfl, hd, (e5.trans e6) d _ hk, st.keys, st.nd, ?_⟩
      rw [eg0] at st hF
      obtain ⟨f1, D, f2, f3⟩ := st.fin
      exact ⟨f1, D, f2, f3, nF, hF⟩

/-- ns goes along the dict: each next one is what stands there for the one before, behind the last stands None -/
def RowV (kvs : List (Key × V)) (ns : List Int) : Prop := ∀ k x y, ns[k]? = some x → ns[k + 1]? = some y → valV kvs (.inl x) = some (.int y)
def FolV (kvs : List (Key × V)) (ns : List Int) : Prop := RowV kvs ns ∧ ∀ x, ns.getLast? = some x → valV kvs (.inl x) = some .non
theorem RowV.snoc {kvs : List (Key × V)} {ns : List Int} {y : Int} (h : RowV kvs ns) (hl : ∀ x, ns.getLast? = some x → valV kvs (.inl x) = some (.int y)) : RowV kvs (ns ++ [y]) := fun k a b ha hb => by
  have l2 := (List.getElem?_eq_some_iff.mp hb).1
  rw [List.length_append, List.length_singleton] at l2
  rw [List.getElem?_append_left (by omega)] at ha
  by_cases lt : k + 1 < ns.length
  · rw [List.getElem?_append_left lt] at hb
    exact h k a b ha hb
  · have e : k + 1 = ns.length := by omega
    rw [List.getElem?_append_right (by omega), e, Nat.sub_self] at hb
    obtain rfl : y = b := by simpa using hb
    refine hl a ?_
    rw [List.getLast?_eq_getElem?, ← e]
    simpa using ha
theorem fol_same {kvs : List (Key × V)} : ∀ {l k : List Int}, FolV kvs l → FolV kvs k → l.head? = k.head? → l = k
  | [], [], _, _, _ => rfl
  | [], _ :: _, _, _, h => nomatch h
  | _ :: _, [], _, _, h => nomatch h
  | [a], [b], _, _, h => by
    obtain rfl := Option.some.inj h
    rfl
  | [a], b :: c :: k, h1, h2, h => by
    obtain rfl : a = b := Option.some.inj h
    have e1 := h1.2 a rfl
    have e2 := h2.1 0 a c rfl rfl
    rw [e1] at e2
    exact nomatch e2
  | a :: c :: l, [b], h1, h2, h => by
    obtain rfl : a = b := Option.some.inj h
    have e1 := h2.2 a rfl
    have e2 := h1.1 0 a c rfl rfl
    rw [e1] at e2
    exact nomatch e2
  | a :: c :: l, b :: d :: k, h1, h2, h => by
    obtain rfl : a = b := Option.some.inj h
    have e1 := h1.1 0 a c rfl rfl
    have e2 := h2.1 0 a d rfl rfl
    rw [e1] at e2
    have ecd : c = d := by
      have := Option.some.inj e2
      injection this
    rw [fol_same (l := c :: l) (k := d :: k) ⟨fun k x y hx hy => h1.1 (k + 1) x y hx hy, fun x hx => h1.2 x (by rw [List.getLast?_cons_cons]; exact hx)⟩ ⟨fun k x y hx hy => h2.1 (k + 1) x y hx hy, fun x hx => h2.2 x (by rw [List.getLast?_cons_cons]; exact hx)⟩ (by rw [ecd]; rfl)]
/-- the row that is told: from i to j along pairs, in as few steps as any; or none -/
def D_p_chain_all : Hp → List V → (V → Hp → Prop) → Prop := fun H vs R => ∃ (b : Addr) (i j : Int) (m : Nat) (ps : List (Addr × Int × Int)), vs = [.ref b, .int m, .int i, .int j] ∧ H b = some (.lst (ps.map fun p => V.ref p.1)) ∧ PairsT H ps ∧ ps.length ≤ 2000 ∧ InR m (ps.map (·.2)) ∧ (0 ≤ j ∧ j < m) ∧ m ≤ 200 ∧
  (∀ (x : Int) (rs : List Int), rs.Nodup → (∀ y ∈ rs, y ∈ near (ps.map (·.2)) x) → rs.length < 64) ∧
  R = fun v H' => (¬ Rch (ps.map (·.2)) j i ∧ v = .non) ∨ (Rch (ps.map (·.2)) j i ∧ ∃ (p : Addr) (ns : List Int) (D : Int → Nat), v = .ref p ∧ H p = none ∧ H' p = some (.lst (ns.map V.int)) ∧ ns.head? = some i ∧ ns.getLast? = some j ∧ Row (ps.map (·.2)) ns ∧ D j = 0 ∧ ns.length = D i + 1 ∧ (∀ x y, Rch (ps.map (·.2)) j x → y ∈ near (ps.map (·.2)) x → D y ≤ D x + 1) ∧ ns.length ≤ m ∧ ∃ kvs n, itF (ps.map (·.2)) j n = (kvs, []) ∧ FolV kvs ns)
theorem near_some {ep : List (Int × Int)} {rs : List Int} {D : Int → Nat} {kvs : List (Key × V)} {one : Int} (h : AheadOk ep one kvs rs D) {x : Int} (hx : x ∈ rs) : (x = one ∧ valV kvs (.inl x) = some .non ∧ D x = 0) ∨ ∃ z ∈ rs, valV kvs (.inl x) = some (.int z) ∧ z ∈ near ep x ∧ D x = D z + 1 := by
  by_cases e : x = one
  · exact .inl ⟨e, by rw [e]; exact h.v0, by rw [e]; exact h.d0⟩
  · obtain ⟨z, hz, hv, hn, hd⟩ := h.up x hx e
    exact .inr ⟨z, hz, hv, near_symm.mp hn, hd⟩
/-- no more steps than numbers -/
theorem steps_few {ep : List (Int × Int)} {D : Int → Nat} {kvs : List (Key × V)} {one : Int} {rs : List Int} (h : AheadOk ep one kvs rs D) : ∀ n x, x ∈ rs → D x = n → ∃ l : List Int, l.Nodup ∧ l.length = n + 1 ∧ (∀ y ∈ l, y ∈ rs) ∧ ∀ y ∈ l, D y ≤ n
  | 0, x, hx, hd => ⟨[x], by simp, rfl, fun y m => by rw [List.mem_singleton.mp m]; exact hx, fun y m => by rw [List.mem_singleton.mp m, hd]; exact Nat.le_refl _⟩
  | n + 1, x, hx, hd => by
    rcases near_some h hx with ⟨_, _, h0⟩ | ⟨z, hz, _, _, hz2⟩
    · omega
    · obtain ⟨l, nd, len, sub, le⟩ := steps_few h n z hz (by omega)
      refine ⟨x :: l, List.nodup_cons.mpr ⟨fun m => by have := le x m; omega, nd⟩, by rw [List.length_cons, len], fun y m => ?_, fun y m => ?_⟩
      · rcases List.mem_cons.mp m with rfl | m
        · exact hx
        · exact sub y m
      · rcases List.mem_cons.mp m with rfl | m
        · omega
        · have := le y m
          omega
theorem ok_p_chain (T : Txt K mg base) : FnOk P w K mg base CX0 2 T.a_p_chain T.d_p_chain ["pairs", "many", "i", "j"] (SpR D_p_chain_all) := by
  refine T.F_p_chain.ok sc_p_chain (fun vs H Q E h => ?_) (fun cdv A outer s H vs Q E hr h => ?_)
  · obtain ⟨v, ⟨b, i, j, m, ps, rfl, _⟩, _⟩ := h
    rfl
  · obtain ⟨v, ⟨b, i, j, m, ps, rfl, hb, hps, hz, hin, hj, m200, few, rfl⟩, q⟩ := h
    refine ⟨_, (pss_cons (ps_set (i := 4) sc_p_chain.nd rfl (.inl rfl) (pe_call (ok_p_reached_all T) (hr.mono (by decide)) rfl T.g_p_reached_from T.F_p_reached_from.kp T.b_p_reached_from .nil pass0 (pa_cons (pv 3) (pa_cons (pe_call (ok_p_neighbours T) (hr.mono (by decide)) rfl T.g_p_neighbours T.F_p_neighbours.kp T.b_p_neighbours .nil pass0 (pa_cons (pv 0) (pa_cons (pv 1) pa_nil))) pa_nil))))
      (pss_cons (ps_if (pt_cmp (pc_dnotin (hu_of hr) (pv 2) (pv 4)))
      (pss_one (ps_ret pe_non))
      pss_nil)
      (pss_cons (ps_set (i := 5) sc_p_chain.nd rfl (.inl rfl) (pe_lst pa_nil))
      (pss_cons (ps_set (i := 6) sc_p_chain.nd rfl (.inl rfl) (pv 2))
      (pss_cons (ps_while PassesOwn.never (pt_cmpR op_notN (pv 6) pe_non (nomark _)) (pss_cons (ps_expr (pe_bm PySem.F.plainAttrs_list PySem.F.slot_list_append PySem.F.type_list_append mt_append (pv 5) (pa_cons (pv 6) pa_nil)))
      (pss_one (ps_set (i := 6) sc_p_chain.nd rfl (.inl rfl) (pe_dget (hu_of hr) (pv 4) (pv 6) (fun _ _ => rfl))))))
      (pss_one (ps_ret (pv 5)))))))), ?_⟩
    refine q_asgX (R := R_p_reached_all H (ps.map (·.2)) j) (evx_call2X (v1 := .int j) (ev_var rfl) (evx_call (R := fun v H' => ∃ (p : Addr) (cs : List (Addr × List Int)), v = .ref p ∧ H' p = some (.lst (cs.map fun c => V.ref c.1)) ∧ NearAt H' (ps.map (·.2)) m cs) (vs := [.ref b, .int m]) (by walk_at "mu g") fun H1 e1 => ⟨_, ⟨b, m, ps, rfl, e1 b _ hb, hps.later e1, hz, hin, by omega, few, rfl⟩, fun v H2 _ r => r⟩) fun v2 H1 e1 r => ?_) fun v H1 e1 r => ?_
    · obtain ⟨p, cs, rfl, hp, hcs⟩ := r
      exact ⟨_, ⟨p, j, m, ps.map (·.2), cs, rfl, hp, hcs, hin, hj, by omega, rfl⟩, fun v H2 e2 r => by
        obtain ⟨d, kvs, rs, rfl, hd, r⟩ := r
        exact ⟨d, kvs, rs, rfl, fresh_back e1 hd, r⟩⟩
    · obtain ⟨d, kvs, rs, rfl, hd0, hd, hk, nd, hrs, D, ah, lip, nF, hF⟩ := r
      refine q_when (b := !(valV kvs (.inl i)).isSome) (et_dnin (k := .inl i) (ev_var rfl) (ev_var rfl) (.inl hd)) (fun hb2 H2 e2 => ?_) (fun hb2 H2 e2 => ?_)
      · refine s_ret (v := .non) ev_c fun H3 e3 => q _ H3 ((e1.trans e2).trans e3) (.inl ⟨fun h => ?_, rfl⟩)
        rw [keysI_val hk, decide_eq_true ((hrs i).mpr h)] at hb2
        cases hb2
      · have mi : i ∈ rs := by
          rw [keysI_val hk] at hb2
          by_cases h : i ∈ rs
          · exact h
          · rw [decide_eq_false h] at hb2
            cases hb2
        refine q_asgL (xs := []) (el_lst ea_nil (by decide)) fun l H3 hl e3 h3 => ?_
        refine q_asg (v := .int i) (ev_var rfl) fun H4 e4 => ?_
        have e14 := ((e1.trans e2).trans e3).trans e4
        have hl0 : H l = none := fresh_back (e1.trans e2) hl
        have ld : l ≠ d := fun z => by rw [z, e2 d _ hd] at hl; exact nomatch hl
        have all : ∀ x, x ∈ rs → D x < rs.length := fun x hx => by
          obtain ⟨l, n1, n2, n3, _⟩ := steps_few ah (D x) x hx rfl
          have := nodup_len n1 n3
          omega
        have zr : rs.length ≤ m := ints_few nd fun y hy => hin.rch hj ((hrs y).mp hy)
        refine q_while (fun z σ' H' => Ex H H' ∧ H' d = some (.dK kvs) ∧ ∃ ns : List Int, H' l = some (.lst (ns.map V.int)) ∧ Row (ps.map (·.2)) ns ∧ (ns ≠ [] → ns.head? = some i) ∧
            ((∃ x, x ∈ rs ∧ z = D x + 1 ∧ D x + ns.length = D i ∧ (ns = [] → x = i) ∧ (∀ y, ns.getLast? = some y → x ∈ near (ps.map (·.2)) y) ∧ (RowV kvs ns ∧ ∀ y, ns.getLast? = some y → valV kvs (.inl y) = some (.int x)) ∧ σ' = [some (.ref b), some (.int m), some (.int i), some (.int j), some (.ref d), some (.ref l), some (.int x)]) ∨
             (z = 0 ∧ ns.getLast? = some j ∧ ns.length = D i + 1 ∧ FolV kvs ns ∧ σ' = [some (.ref b), some (.int m), some (.int i), some (.int j), some (.ref d), some (.ref l), some .non]))) (D i + 1)
          ⟨e14, (e2.trans (e3.trans e4)) d _ hd, [], e4 _ _ h3, (fun k a b ha => by simp at ha), (fun h => absurd rfl h), .inl ⟨i, mi, rfl, by simp, fun _ => rfl, (fun y hy => by simp at hy), ⟨(fun k a b ha => by simp at ha), (fun y hy => by simp at hy)⟩, rfl⟩⟩ (fun z σ' H' hw => ?_)
        obtain ⟨e5, hd5, ns, hl5, hrow, hhd, hcase⟩ := hw
        rcases hcase with ⟨x, hx, rfl, hlen, hfirst, hlast, ⟨hrv, hlv⟩, rfl⟩ | ⟨rfl, hlast, hlen, hfol, rfl⟩
        · refine ⟨true, et_test (ev_is (ev_op (ev_var rfl) ev_c fun H6 e6 Q q => ⟨rfl, q H6 (Ex.refl H6)⟩) (by rfl)), fun _ H6 e6 => ?_, fun h => nomatch h⟩
          have dx := all x hx
          have di := all i mi
          refine ⟨fun σ2 H2 => ∃ z', z' < D x + 1 ∧ (Ex H H2 ∧ H2 d = some (.dK kvs) ∧ ∃ ns : List Int, H2 l = some (.lst (ns.map V.int)) ∧ Row (ps.map (·.2)) ns ∧ (ns ≠ [] → ns.head? = some i) ∧
            ((∃ x, x ∈ rs ∧ z' = D x + 1 ∧ D x + ns.length = D i ∧ (ns = [] → x = i) ∧ (∀ y, ns.getLast? = some y → x ∈ near (ps.map (·.2)) y) ∧ (RowV kvs ns ∧ ∀ y, ns.getLast? = some y → valV kvs (.inl y) = some (.int x)) ∧ σ2 = [some (.ref b), some (.int m), some (.int i), some (.int j), some (.ref d), some (.ref l), some (.int x)]) ∨
             (z' = 0 ∧ ns.getLast? = some j ∧ ns.length = D i + 1 ∧ FolV kvs ns ∧ σ2 = [some (.ref b), some (.int m), some (.int i), some (.int j), some (.ref d), some (.ref l), some .non]))), fun σ2 H2 h => h, ?_⟩
          refine q_app (v := .int x) (e6 _ _ hl5) (ev_var rfl) (ev_var rfl) (by rw [List.length_map]; omega) fun H7 e7 => ?_
          have e67 := e6.trans e7
          have hrv2 : RowV kvs (ns ++ [x]) := hrv.snoc hlv
          have hrow2 : Row (ps.map (·.2)) (ns ++ [x]) := hrow.snoc hlast
          have hhd2 : (ns ++ [x]).head? = some i := by
            cases ns with
            | nil => rw [hfirst rfl]; rfl
            | cons a r => exact hhd (by simp)
          have eU : Ex H (upd H7 l (.lst (ns.map V.int ++ [V.int x]))) := Ex.mut (e5.trans e67) hl0
          have hdU : (upd H7 l (.lst (ns.map V.int ++ [V.int x]))) d = some (.dK kvs) := (upd_ne (Ne.symm ld)).trans (e67 _ _ hd5)
          have hlU : (upd H7 l (.lst (ns.map V.int ++ [V.int x]))) l = some (.lst ((ns ++ [x]).map V.int)) := by rw [upd_same, List.map_append]; rfl
          generalize upd H7 l (.lst (ns.map V.int ++ [V.int x])) = H8 at eU hdU hlU
          have zn : (ns ++ [x]).length = ns.length + 1 := by simp
          rcases near_some ah hx with ⟨xj, hv, h0⟩ | ⟨y, hy, hv, hn, hdy⟩
          · refine s_asg (v := .non) (ev_dgetK (k := .inl x) (ev_var rfl) (.inl hdU) (ev_var rfl) hv) fun H9 e9 => ⟨0, by omega, eU.trans e9, e9 _ _ hdU, ns ++ [x], e9 _ _ hlU, hrow2, fun _ => hhd2, .inr ⟨rfl, by simp [xj], by omega, ⟨hrv2, fun z hz => by
              have : x = z := by simpa using hz
              rw [← this]
              exact hv⟩, rfl⟩⟩
          · refine s_asg (v := .int y) (ev_dgetK (k := .inl x) (ev_var rfl) (.inl hdU) (ev_var rfl) hv) fun H9 e9 => ⟨D y + 1, by omega, eU.trans e9, e9 _ _ hdU, ns ++ [x], e9 _ _ hlU, hrow2, fun _ => hhd2, .inl ⟨y, hy, rfl, by omega, fun z => by simp at z, fun z hz => ?_, ⟨hrv2, fun z hz => ?_⟩, rfl⟩⟩
            · have : x = z := by simpa using hz
              exact this ▸ hn
            · have : x = z := by simpa using hz
              rw [← this]
              exact hv
        · refine ⟨false, et_test (ev_is (ev_op (ev_var rfl) ev_c fun H6 e6 Q q => ⟨rfl, q H6 (Ex.refl H6)⟩) (by rfl)), (fun h => nomatch h), fun _ H6 e6 => ?_⟩
          have ne : ns ≠ [] := fun z => by rw [z] at hlen; simp at hlen
          have di := all i mi
          exact s_ret (v := .ref l) (ev_var rfl) fun H7 e7 => q _ _ ((e5.trans e6).trans e7) (.inr ⟨(hrs i).mp mi, l, ns, D, rfl, hl0, (e6.trans e7) _ _ hl5, hhd ne, hlast, hrow, ah.d0, hlen, fun x y hx hy => lip x ((hrs x).mpr hx) y hy, by omega, kvs, nF, hF, hfol⟩)

/-- whether each next two are a pair -/
def stepB (ps : List (Int × Int)) (ns : List Int) (n : Nat) : Bool := decide (ns.getD (n + 1) 0 ∈ near ps (ns.getD n 0))
def chainB (ps : List (Int × Int)) (ns : List Int) : Bool := !ns.isEmpty && (List.range (ns.length - 1)).all (stepB ps ns)
def D_p_is_chain (K : PySem.W.Frag) : Hp → List V → V → Prop := fun H vs v => ∃ (b c : Addr) (ps : List (Addr × Int × Int)) (ns : List Int), vs = [.ref b, .ref c] ∧ SqL K H b (ps.map fun p => V.ref p.1) ∧ PairsT H ps ∧ ps.length ≤ 200 ∧ SqL K H c (ns.map V.int) ∧ ns.length ≤ 200 ∧ v = .bl (chainB (ps.map (·.2)) ns)
theorem ok_p_is_chain (T : Txt K mg base) : FnOk P w K mg base CX0 1 T.a_p_is_chain T.d_p_is_chain ["pairs", "some"] (SpVal (D_p_is_chain K)) := by
  refine T.F_p_is_chain.ok sc_p_is_chain (fun vs H Q E h => ?_) (fun cdv A outer s H vs Q E hr h => ?_)
  · obtain ⟨v, ⟨b, c, ps, ns, rfl, _⟩, _⟩ := h
    rfl
  · obtain ⟨v, ⟨b, c, ps, ns, rfl, hb, hps, hz, hc, hz2, rfl⟩, q⟩ := h
    refine ⟨_, (pss_cons (ps_set (i := 2) sc_p_is_chain.nd rfl (.inr rfl) (MuTg.pe_sc1 (own := [("pair", 3)]) (ga := gName 3) rfl hr.units sc_p_is_chain.nd (pi_list (pv 0)) (blkOk_by (N := ["pairs", "some", "beside", "pair", "steps", "at", "i", "j"]) (sc := defScope s_p_is_chain) (by decide +kernel)) (fun _ _ _ _ _ => by exact (pg_name (i := 3) sc_p_is_chain.nd rfl (Or.inl rfl))) (fun _ _ _ _ _ => by exact (pe_tup (pa_cons (pe_ix (show IxR _ (rIxT K) from ix_tup) (pv 3) pe_int (fun _ _ => rfl)) (pa_cons (pe_ix (show IxR _ (rIxT K) from ix_tup) (pv 3) pe_int (fun _ _ => rfl)) pa_nil))))))
      (pss_cons (ps_setLc (i := 4) (own := [("at", 5)]) (g := gName 5) (tt := tYes) rfl sc_p_is_chain.nd rfl rfl (sw_true rfl rfl rfl (by decide +kernel)) (pi_range1 (by rfl) T.z_range (pa_cons (pe_op op_sub (pe_callB call_len_seq (by rfl) T.z_len (by decide +kernel) (pa_cons (pv 1) pa_nil)) pe_int) pa_nil)) (blkOk_by (N := ["pairs", "some", "beside", "pair", "steps", "at", "i", "j"]) (sc := defScope s_p_is_chain) (by decide +kernel)) (fun _ _ _ _ _ => (pg_name (i := 5) sc_p_is_chain.nd rfl (Or.inl rfl))) (fun _ _ _ _ _ => pts_nil) (fun _ _ _ _ _ => (pe_tup (pa_cons (pe_ix (show IxR _ (rIxL K) from ix_list) (pv 1) (pv 5) (fun _ _ => rfl)) (pa_cons (pe_ix (show IxR _ (rIxL K) from ix_list) (pv 1) (pe_op op_add (pv 5) pe_int) (fun _ _ => rfl)) pa_nil)))))
      (pss_one (ps_ret (pe_and (pe_cmpR op_gt (pe_callB call_len_seq (by rfl) T.z_len (by decide +kernel) (pa_cons (pv 1) pa_nil)) pe_int (nomark _)) (pe_one (pe_callB (cr_all rfl) (by rfl) T.z_all (by decide +kernel) (pa_cons (pe_lc (own := [("i", 6), ("j", 7)]) (g := gTup K 2 (gCons (gName 6) (gCons (gName 7) gNil))) (tt := tYes) rfl sc_p_is_chain.nd (pi_list (pv 4)) (blkOk_by (N := ["pairs", "some", "beside", "pair", "steps", "at", "i", "j"]) (sc := defScope s_p_is_chain) (by decide +kernel)) (fun _ _ _ _ _ => by exact (pg_tup (by rfl) (pgs_cons (pg_name (i := 6) sc_p_is_chain.nd rfl (Or.inl rfl)) (pgs_cons (pg_name (i := 7) sc_p_is_chain.nd rfl (Or.inl rfl)) pgs_nil)))) (fun _ _ _ _ _ => pts_nil) (fun _ _ _ _ _ => (pe_or (pe_cmpR (show OpR _ (compareOp .In) (MuTg.rInTu K P w) from MuTg.op_inTu hr.units) (pe_tup (pa_cons (pv 6) (pa_cons (pv 7) pa_nil))) (pv 2) (by rfl)) (pe_one (pe_cmpR (show OpR _ (compareOp .In) (MuTg.rInTu K P w) from MuTg.op_inTu hr.units) (pe_tup (pa_cons (pv 7) (pa_cons (pv 6) pa_nil))) (pv 2) (by rfl)))))) pa_nil)))))))), ?_⟩
    refine q_asgX (MuTg.evx_sc1 (P := P) (w := w) (K := K) (fun n => [(ps.getD n (0, 0, 0)).2.1, (ps.getD n (0, 0, 0)).2.2]) (ev_var rfl) hb (by rw [List.length_map]; omega) (fun _ => rfl) (fun n x H2 hi e2 => ?_)) fun v H1 e1 r => ?_
    · obtain ⟨pr, epr, mpr, rfl⟩ := pair_at hi
      have hg : ps.getD n (0, 0, 0) = pr := by rw [List.getD_eq_getElem?_getD, epr]; rfl
      rw [hg]
      have hT := (hps pr mpr).later e2
      exact eu_tup (vs := [.int pr.2.1, .int pr.2.2]) (ea_cons (ev_op (ev_var rfl) ev_c (rv_p0 hT)) (ea_cons (ev_op (ev_var rfl) ev_c (rv_p1 hT)) ea_nil)) (by show 2 ≤ 100000; decide)
    obtain ⟨S, L, rfl, _, hS, hmem⟩ := r
    have inS : ∀ x y : Int, [x, y] ∈ L.map (·.2) ↔ (x, y) ∈ ps.map (·.2) := fun x y => by
      rw [hmem, List.length_map]
      constructor
      · rintro ⟨n, lt, e⟩
        have hn : ps[n]? = some ps[n] := List.getElem?_eq_getElem lt
        rw [List.getD_eq_getElem?_getD, hn] at e
        obtain ⟨e1, e2⟩ := List.cons.inj e
        exact List.mem_map.mpr ⟨ps[n], List.getElem_mem lt, Prod.ext e1 (List.cons.inj e2).1⟩
      · intro m
        obtain ⟨p, mp, ep⟩ := List.mem_map.mp m
        obtain ⟨n, hn⟩ := List.getElem?_of_mem mp
        refine ⟨n, (List.getElem?_eq_some_iff.mp hn).1, ?_⟩
        rw [List.getD_eq_getElem?_getD, hn]
        show [p.2.1, p.2.2] = [x, y]
        rw [ep]
    have lenE : ∀ {H' : Hp} {σ' : L2.St}, Ex H H' → σ'[1]? = some (some (.ref c)) → Ev (tCB (fun xs H Q => ∃ (p : Addr) (ys : List V), xs = [V.ref p] ∧ (SqL K H p ys ∨ SqT K H p ys) ∧ Q (.int ys.length) H) (tCons (tVar 1) tNil)) σ' H' (.int (ns.length : Int)) := fun e hσ => ev_is (ev_cb (ea_cons (ev_var hσ) ea_nil) (rc_lenL (ex_l e hc))) (by rw [List.length_map])
    refine q_asgX (evx_lcTupsR (K := K) (N := ns.length - 1) (fun n => [ns.getD n 0, ns.getD (n + 1) 0]) (M := (ns.length : Int) - 1) (ea_cons (ev_op (lenE e1 rfl) ev_c rv_I0) ea_nil) (by omega) (by omega) (by omega) (fun _ => rfl) (fun n H2 hn e2 => ?_)) fun v H2 e2 r => ?_
    · have at0 : ns[n]? = some (ns.getD n 0) := by rw [List.getD_eq_getElem?_getD, List.getElem?_eq_getElem (show n < ns.length by omega)]; rfl
      have at1 : ns[n + 1]? = some (ns.getD (n + 1) 0) := by rw [List.getD_eq_getElem?_getD, List.getElem?_eq_getElem (show n + 1 < ns.length by omega)]; rfl
      exact eu_tup (vs := [.int (ns.getD n 0), .int (ns.getD (n + 1) 0)]) (ea_cons (ev_op (ev_var rfl) (ev_var rfl) (rv_ixL (ex_l (e1.trans e2) hc) (atI_nat (by rw [List.getElem?_map, at0]; rfl)))) (ea_cons (ev_op (ev_var rfl) (ev_op (ev_var rfl) ev_c rv_I0) (rv_ixL (ex_l (e1.trans e2) hc) (atI_nat (j := n + 1) (by rw [List.getElem?_map, at1]; rfl)))) ea_nil)) (by show 2 ≤ 100000; decide)
    obtain ⟨D, ts, rfl, hD, hts, hf⟩ := r
    have zts : ts.length = ns.length - 1 := by
      have := congrArg List.length hf
      rwa [List.length_map, List.length_map, List.length_range] at this
    refine s_ret (v := .bl (decide ((0 : Int) < (ns.length : Int)) && (List.range (ns.length - 1)).all (stepB (ps.map (·.2)) ns))) (ev_andV (ev_op (lenE (e1.trans e2) rfl) ev_c rv_I0) fun _ => ev_allX (evx_mono (MuLc.evx_lcX (K := K) (fun _ => true) (fun n y _ => y = .bl (stepB (ps.map (·.2)) ns n)) (ev_var rfl) (sq_of hD) (by rw [List.length_map]; omega) (fun n x H3 hx e3 => ?_) (fun _ _ _ _ r _ => r) (fun _ _ _ _ _ _ r _ => r)) fun v H3 e3 r => ?_)) fun H3 e3 => by
      have z := q _ ((e1.trans e2).trans e3)
      unfold chainB at z
      cases ns with
      | nil => exact z
      | cons x r => 
        rw [decide_eq_true (show (0 : Int) < ((x :: r).length : Int) by rw [List.length_cons]; omega)]
        exact z
    · rw [List.getElem?_map] at hx
      obtain ⟨t, ht, rfl⟩ := Option.map_eq_some_iff.mp hx
      have h3 := e3 _ _ (hts t (List.mem_of_getElem? ht))
      have lt : n < ns.length - 1 := by
        have := (List.getElem?_eq_some_iff.mp ht).1
        omega
      have t2 : t.2 = [ns.getD n 0, ns.getD (n + 1) 0] := by
        have := congrArg (fun l => l[n]?) hf
        simp only [List.getElem?_map, ht] at this
        rw [List.getElem?_range lt] at this
        exact Option.some.inj this
      rw [t2] at h3
      have at0 : ns[n]? = some (ns.getD n 0) := by rw [List.getD_eq_getElem?_getD, List.getElem?_eq_getElem (show n < ns.length by omega)]; rfl
      have at1 : ns[n + 1]? = some (ns.getD (n + 1) 0) := by rw [List.getD_eq_getElem?_getD, List.getElem?_eq_getElem (show n + 1 < ns.length by omega)]; rfl
      have sb : stepB (ps.map (·.2)) ns n = decide (ns.getD (n + 1) 0 ∈ near (ps.map (·.2)) (ns.getD n 0)) := rfl
      generalize ns.getD n 0 = x at h3 sb
      generalize ns.getD (n + 1) 0 = y at h3 sb
      have hS3 := hS.later (e2.trans e3)
      refine ⟨[some (.ref b), some (.ref c), some (.ref S), none, some (.ref D), none, some (.int x), some (.int y)], rfl, fun k hk => ?_, fun H4 e4 Q q => q H4 (Ex.refl _), fun _ => ?_⟩
      · exact g_tup2 h3 hk
      · refine evx_mono (evx_of (v := .bl (decide ([x, y] ∈ L.map (·.2)) || decide ([y, x] ∈ L.map (·.2)))) (ev_orV (MuTg.ev_inTu (k := [x, y]) (eu_tup (vs := [.int x, .int y]) (ea_cons (ev_var rfl) (ea_cons (ev_var rfl) ea_nil)) (by show 2 ≤ 100000; decide)) (ev_var rfl) hS3) fun _ => MuTg.ev_inTu (k := [y, x]) (eu_tup (vs := [.int y, .int x]) (ea_cons (ev_var rfl) (ea_cons (ev_var rfl) ea_nil)) (by show 2 ≤ 100000; decide)) (ev_var rfl) hS3)) fun v H4 e4 r => ?_
        rw [r, sb]
        congr 1
        rw [Bool.eq_iff_iff, Bool.or_eq_true, decide_eq_true_eq, decide_eq_true_eq, decide_eq_true_eq, mem_near, inS, inS]
    · obtain ⟨D2, ys, rfl, _, h2, pr⟩ := r
      obtain rfl := paired_fn (fun _ _ z => z) pr
      refine ⟨D2, _, rfl, h2, ?_⟩
      rw [List.filter_eq_self.mpr (fun _ _ => rfl), List.length_map, zts, List.all_map]
      rfl

def D_l_mix : Hp → List V → V → Prop := fun _ vs v => ∃ (c : Int) (k : Nat), vs = [.int c, .int k] ∧ k ≤ 1000 ∧ v = .int (mix c k)
theorem ok_l_mix (T : Txt K mg base) : FnOk P w K mg base CX0 1 T.a_l_mix T.d_l_mix ["_law_cell", "_law_k"] (SpVal D_l_mix) := by
  refine T.F_l_mix.ok sc_l_mix (fun vs H Q E h => ?_) (fun cdv A outer s H vs Q E hr h => ?_)
  · obtain ⟨v, ⟨c, k, rfl, _⟩, _⟩ := h
    rfl
  · obtain ⟨v, ⟨c, k, rfl, hk, rfl⟩, q⟩ := h
    refine ⟨_, (pss_cons (ps_if (pt_cmpR op_ge (pv 0) (pe_op op_pow pe_int pe_int) (nomark _))
      (pss_cons (ps_for PassesOwn.never rfl (pi_range1 (by rfl) T.z_range (pa_cons (pv 1) pa_nil)) (pg_name (i := 2) sc_l_mix.nd rfl (.inl rfl))
      (pss_one (ps_set (i := 0) sc_l_mix.nd rfl (.inl rfl) (pe_op op_fdiv (pv 0) (pe_op op_pow pe_int pe_int)))))
      (pss_one (ps_ret (pe_op op_mod (pv 0) (pe_op op_pow pe_int pe_int)))))
      pss_nil)
      (pss_cons (ps_set (i := 3) sc_l_mix.nd rfl (.inl rfl) (pe_op op_mod (pe_op op_mul (pe_op op_add (pe_op op_add (pe_op op_mod (pv 0) pe_int) (pe_op op_mul (pe_op op_mul (pv 1) (pv 1)) pe_int)) (pv 1)) pe_int) pe_int))
      (pss_cons (ps_set (i := 3) sc_l_mix.nd rfl (.inl rfl) (pe_op op_mod (pe_op op_mul (pv 3) (pv 3)) pe_int))
      (pss_one (ps_ret (pe_op op_fdiv (pe_op op_mod (pe_op op_mul (pv 3) (pe_op op_add (pv 3) pe_int)) pe_int) pe_int)))))), ?_⟩
    refine q_when (b := decide ((10 : Int) ^ (18 : Int).toNat ≤ c)) (by walk_at "mu g") (fun hb H1 e1 => ?_) (fun hb H1 e1 => ?_)
    · refine q_forR1 (n := (k : Int)) (by walk_at "mu g") (by omega) (fun i σ' H' => Ex H H' ∧ ∃ x3 x4, σ' = [some (.int (divs (10 ^ 6) i c)), some (.int k), x3, x4]) (fun H2 e2 => ⟨e1.trans e2, none, none, rfl⟩) (fun i σ' H' hi hp => ?_) (fun σ' H' hp => ?_)
      · obtain ⟨e2, x3, x4, rfl⟩ := hp
        refine s_asg (by walk_at "mu g") fun H3 e3 => ?_
        exact ⟨e2.trans e3, _, _, rfl⟩
      · obtain ⟨e2, x3, x4, rfl⟩ := hp
        refine s_ret (v := .int (mix c k)) ?_ fun H3 e3 => q H3 (e2.trans e3)
        have hb' : c ≥ 10 ^ 18 := of_decide_eq_true hb
        have e : mix c k = divs (10 ^ 6) k c % 10 ^ 6 := by
          unfold mix
          rw [if_pos hb']
        rw [e]
        exact ev_is (by walk_at "mu g") (by first | rfl | simp)
    · have hb' : ¬ c ≥ 10 ^ 18 := of_decide_eq_false hb
      have r1 : ∀ z : Int, 0 ≤ z % 2147483629 ∧ z % 2147483629 < 2147483629 := fun z => ⟨Int.emod_nonneg z (by decide), Int.emod_lt_of_pos z (by decide)⟩
      have r2 : ∀ z : Int, 0 ≤ z % 2147483587 ∧ z % 2147483587 < 2147483587 := fun z => ⟨Int.emod_nonneg z (by decide), Int.emod_lt_of_pos z (by decide)⟩
      have r3 : 0 ≤ c % 1000003 ∧ c % 1000003 < 1000003 := ⟨Int.emod_nonneg c (by decide), Int.emod_lt_of_pos c (by decide)⟩
      refine q_asg (by walk_at "mu g"; all_goals (show CMul _ _; first | exact .inr ⟨by decide, by decide⟩ | exact .inr ⟨by omega, by omega⟩)) fun H2 e2 => ?_
      refine q_asg (by walk_at "mu g"; all_goals (show CMul _ _; have := r1 ((c % 1000003 + k * k * 7919 + k) * 48271); exact .inr ⟨by omega, by omega⟩)) fun H3 e3 => ?_
      refine s_ret (v := .int (mix c k)) ?_ fun H4 e4 => q H4 (((e1.trans e2).trans e3).trans e4)
      unfold mix
      rw [if_neg hb']
      refine ev_is (by walk_at "mu g"; all_goals (show CMul _ _; exact .inr ⟨by have := r2 ((((c % 1000003 + k * k * 7919 + k) * 48271 % 2147483629) * ((c % 1000003 + k * k * 7919 + k) * 48271 % 2147483629))); omega, by have := r2 ((((c % 1000003 + k * k * 7919 + k) * 48271 % 2147483629) * ((c % 1000003 + k * k * 7919 + k) * 48271 % 2147483629))); omega⟩)) rfl

def D_l_cell_at (K : PySem.W.Frag) : Hp → List V → V → Prop := fun H vs v => ∃ (a : Addr) (ns : List Int) (k : Nat), vs = [.ref a, .int k] ∧ SqL K H a (ns.map V.int) ∧ v = .int (ns.getD k 0)
theorem ok_l_cell_at (T : Txt K mg base) : FnOk P w K mg base CX0 1 T.a_l_cell_at T.d_l_cell_at ["_law_script", "_law_k"] (SpVal (D_l_cell_at K)) := by
  refine T.F_l_cell_at.ok sc_l_cell_at (fun vs H Q E h => ?_) (fun cdv A outer s H vs Q E hr h => ?_)
  · obtain ⟨v, ⟨a, ns, k, rfl, _⟩, _⟩ := h
    rfl
  · obtain ⟨v, ⟨a, ns, k, rfl, hs, rfl⟩, q⟩ := h
    refine ⟨_, (pss_cons (ps_if (pt_cmpR op_lt (pv 1) (pe_callB call_len_seq (by rfl) T.z_len (by decide +kernel) (pa_cons (pv 0) pa_nil)) (nomark _))
      (pss_one (ps_ret (pe_ix ix_list (pv 0) (pv 1) (fun _ _ => rfl))))
      pss_nil)
      (pss_one (ps_ret pe_int))), ?_⟩
    refine q_when (b := decide ((k : Int) < ((ns.map V.int).length : Int))) (et_test (ev_op (ev_var rfl) (ev_len (ev_var rfl) hs) rv_I0)) (fun hb H1 e1 => ?_) (fun hb H1 e1 => ?_)
    · have hk : k < ns.length := by
        have := of_decide_eq_true hb
        rw [List.length_map] at this
        omega
      refine s_ret (v := .int (ns.getD k 0)) (ev_op (ev_var rfl) (ev_var rfl) (rv_ixL (ex_l e1 hs) (atI_nat (j := k) ?_))) fun H2 e2 => q H2 (e1.trans e2)
      rw [List.getElem?_map, List.getD_eq_getElem?_getD, List.getElem?_eq_getElem hk]
      rfl
    · have hk : ¬ k < ns.length := by
        have := of_decide_eq_false hb
        rw [List.length_map] at this
        omega
      have e0 : ns.getD k 0 = 0 := by
        rw [List.getD_eq_getElem?_getD, List.getElem?_eq_none (by omega)]
        rfl
      rw [e0] at q
      exact s_ret (v := .int 0) (by walk_at "mu g") fun H2 e2 => q H2 (e1.trans e2)

def D_l_cut (K : PySem.W.Frag) : Hp → List V → List V → Prop := fun H vs xs => ∃ (a : Addr) (ns : List Int), vs = [.ref a] ∧ SqL K H a (ns.map V.int) ∧ ns.length ≤ 63 ∧ xs = (ns.map cutI).map V.int
theorem bigM_ev {σ : L2.St} {H : Hp} : Ev (tOp (rI CPowW fun i j => V.int (i ^ j.toNat)) (tOp (rI CPow fun i j => V.int (i ^ j.toNat)) (tC (.int 10)) (tC (.int 60))) (tC (.int 60))) σ H (.int bigM) :=
  ev_is (ev_op (ev_op ev_c ev_c (rv_I ⟨by decide, by decide, by decide⟩)) ev_c (rv_I ⟨by decide, by decide +kernel⟩)) rfl
theorem ok_l_cut (T : Txt K mg base) : FnOk P w K mg base CX0 1 T.a_l_cut T.d_l_cut ["_law_script"] (SpLst (D_l_cut K)) := by
  refine T.F_l_cut.ok sc_l_cut (fun vs H Q E h => ?_) (fun cdv A outer s H vs Q E hr h => ?_)
  · obtain ⟨v, ⟨a, ns, rfl, _⟩, _⟩ := h
    rfl
  · obtain ⟨v, ⟨a, ns, rfl, hs, hn, rfl⟩, q⟩ := h
    refine ⟨_, (pss_cons (ps_set (i := 1) sc_l_cut.nd rfl (.inr rfl) (pe_op op_powW (pe_op op_pow pe_int pe_int) pe_int))
      (pss_one (ps_ret (pe_lc (own := [("_law_cell", 2)]) (g := gName 2) (tt := tYes) rfl sc_l_cut.nd (pi_list (pv 0)) (blkOk_by (N := ["_law_script", "_law_most", "_law_cell"]) (sc := defScope s_l_cut) (by decide +kernel)) (fun _ _ _ _ _ => (pg_name (i := 2) sc_l_cut.nd rfl (Or.inl rfl))) (fun _ _ _ _ _ => pts_nil) (fun _ _ _ _ _ => (pe_ix (show IxR _ (rIxL K) from ix_list) (pe_lst (pa_cons (pv 2) (pa_cons (pe_op op_add (pv 1) (pe_op op_mod (pv 2) (pv 1))) pa_nil))) (pe_callTy call_int1 (by rfl) T.z_int (by decide +kernel) (pa_cons (pe_cmpR op_ge (pv 2) (pv 1) (nomark _)) pa_nil)) (fun _ _ => rfl))))))), ?_⟩
    refine q_asg (v := .int bigM) bigM_ev fun H1 e1 => ?_
    refine s_retL (el_is (el_lcL (xs := ns.map V.int) (fun _ => true) (fun i => .int (cutI (ns.getD i 0))) (ev_var rfl) (ex_l e1 hs) (by rw [List.length_map]; omega) (fun x => rfl) (fun i x H2 e2 hi H3 e3 Q q => q H3 (Ex.refl H3)) (fun i x H2 e2 hi _ => ?_)) ?_) fun p H2 hp e2 h2 => q p H2 (fresh_back e1 hp) (e1.trans e2) h2
    · obtain ⟨c, hc, rfl⟩ : ∃ c, ns[i]? = some c ∧ x = .int c := by
        rw [List.getElem?_map] at hi
        cases e : ns[i]? with
        | none => rw [e] at hi; cases hi
        | some z => rw [e] at hi; exact ⟨z, rfl, (Option.some.inj hi).symm⟩
      have hg : ns.getD i 0 = c := by rw [List.getD_eq_getElem?_getD, hc]; rfl
      rw [hg]
      refine ev_ixNew (K := K) (xs := [.int c, .int (bigM + c % bigM)]) (i := if decide (bigM ≤ c) then 1 else 0) (el_lst (by walk_at "mu g") (by simp)) (by walk_at "mu g") ?_
      unfold cutI
      by_cases hc2 : bigM ≤ c
      · rw [if_pos (decide_eq_true hc2), if_pos hc2]
        exact atI_nat (j := 1) rfl
      · rw [if_neg (by rw [decide_eq_false hc2]; decide), if_neg hc2]
        exact atI_nat (j := 0) rfl
    · rw [List.length_map]
      exact given_map ns cutI

def D_l_count (K : PySem.W.Frag) : Hp → List V → V → Prop := fun H vs v => ∃ (a : Addr) (ns : List Int), vs = [.ref a] ∧ SqL K H a (ns.map V.int) ∧ v = .int (1 + mix (ns.getD 0 0) 0 % 30)
theorem ok_l_count (T : Txt K mg base) : FnOk P w K mg base CX0 2 T.a_l_count T.d_l_count ["_law_script"] (SpVal (D_l_count K)) := by
  refine T.F_l_count.ok sc_l_count (fun vs H Q E h => ?_) (fun cdv A outer s H vs Q E hr h => ?_)
  · obtain ⟨v, ⟨a, ns, rfl, _⟩, _⟩ := h
    rfl
  · obtain ⟨v, ⟨a, ns, rfl, hs, rfl⟩, q⟩ := h
    refine ⟨_, (pss_one (ps_ret (pe_op op_add pe_int (pe_op op_mod (pe_call (ok_l_mix T) (hr.mono (by decide)) rfl T.g_l_mix T.F_l_mix.kp T.b_l_mix .nil pass0 (pa_cons (pe_call (ok_l_cell_at T) (hr.mono (by decide)) rfl T.g_l_cell_at T.F_l_cell_at.kp T.b_l_cell_at .nil pass0 (pa_cons (pv 0) (pa_cons pe_int pa_nil))) (pa_cons pe_int pa_nil))) pe_int)))), ?_⟩
    exact s_ret (v := .int (1 + mix (ns.getD 0 0) 0 % 30)) (ev_op ev_c (ev_op (ev_callV (vs := [.int (ns.getD 0 0), .int 0]) (ea_cons (ev_callV (vs := [.ref a, .int 0]) (by walk_at "mu g") fun _ e => ⟨a, ns, 0, rfl, ex_l e hs, rfl⟩) (ea_cons ev_c ea_nil)) fun _ _ => ⟨_, 0, rfl, by omega, rfl⟩) ev_c (rv_I (by decide))) rv_I0) fun H2 e2 => q H2 e2

def D_l_behind : Hp → List V → (V → Hp → Prop) → Prop := fun _ vs R => ∃ (m pk : Int), vs = [.int m, .int pk] ∧ 1 ≤ m ∧ m ≤ 1000 ∧ 0 ≤ pk ∧ R = TupR
theorem ok_l_behind (T : Txt K mg base) : FnOk P w K mg base CX0 1 T.a_l_behind T.d_l_behind ["_law_many", "_law_pick"] (SpR D_l_behind) := by
  refine T.F_l_behind.ok sc_l_behind (fun vs H Q E h => ?_) (fun cdv A outer s H vs Q E hr h => ?_)
  · obtain ⟨v, ⟨m, pk, rfl, _⟩, _⟩ := h
    rfl
  · obtain ⟨v, ⟨m, pk, rfl, m1, m2, p0, rfl⟩, q⟩ := h
    refine ⟨_, (pss_cons (ps_set (i := 2) sc_l_behind.nd rfl (.inl rfl) (pe_op op_mod (pe_op op_fdiv (pv 1) pe_int) (pe_op op_add (pv 0) pe_int)))
      (pss_one (ps_ret (pe_ix ix_list (pe_lst (pa_cons (pe_tup pa_nil) (pa_cons (pe_tup pa_nil) (pa_cons (pe_tup (pa_cons (pe_tup (pa_cons pe_int (pa_cons pe_int pa_nil))) pa_nil)) (pa_cons (pe_tup (pa_cons (pv 2) pa_nil)) (pa_cons (pe_tup (pa_cons (pv 2) (pa_cons (pe_tup (pa_cons pe_int (pa_cons pe_int pa_nil))) pa_nil))) (pa_cons (pe_tup (pa_cons pe_non (pa_cons (pv 2) pa_nil))) (pa_cons (pe_tup (pa_cons (pe_lst (pa_cons (pv 2) pa_nil)) pa_nil)) pa_nil)))))))) (pe_op op_mod (pv 1) pe_int) (fun _ _ => rfl))))), ?_⟩
    refine q_asg (v := .int (pk / 7 % (m + 2))) (by walk_at "mu g"; all_goals (show (0 : Int) < _; omega)) fun H1 e1 => ?_
    generalize pk / 7 % (m + 2) = nb
    have ev0 : ∀ H2, Ex H1 H2 → EvX (tTup tNil) [some (.int m), some (.int pk), some (.int nb)] H2 TupR := fun H2 _ => evx_tupA eax_nil (by decide)
    have e12 : EvX (tTup (tCons (tC (.int 1)) (tCons (tC (.int 2)) tNil))) [some (.int m), some (.int pk), some (.int nb)] H1 TupR := evx_tupA (eax_cons (evx_of ev_c) fun _ _ => eax_cons (evx_of ev_c) fun _ _ => eax_nil) (by decide)
    refine s_retX (evx_ixT (n := 7) (vs := []) (k := pk % 7) ?_ (fun _ _ => by walk_at "mu g") (by omega) (by omega)) fun v H2 e2 r => q v H2 (e1.trans e2) r
    refine eat_cons (evx_tupA eax_nil (by decide)) fun H2 x2 => ?_
    refine eat_cons (evx_tupA eax_nil (by decide)) fun H3 x3 => ?_
    refine eat_cons (evx_tupA (eax_cons (evx_tupA (eax_cons (evx_of ev_c) fun _ _ => eax_cons (evx_of ev_c) fun _ _ => eax_nil) (by decide)) fun _ _ => eax_nil) (by decide)) fun H4 x4 => ?_
    refine eat_cons (evx_tupA (eax_cons (evx_of (ev_var rfl)) fun _ _ => eax_nil) (by decide)) fun H5 x5 => ?_
    refine eat_cons (evx_tupA (eax_cons (evx_of (ev_var rfl)) fun _ _ => eax_cons (evx_tupA (eax_cons (evx_of ev_c) fun _ _ => eax_cons (evx_of ev_c) fun _ _ => eax_nil) (by decide)) fun _ _ => eax_nil) (by decide)) fun H6 x6 => ?_
    refine eat_cons (evx_tupA (eax_cons (evx_of ev_c) fun _ _ => eax_cons (evx_of (ev_var rfl)) fun _ _ => eax_nil) (by decide)) fun H7 x7 => ?_
    refine eat_cons (evx_tupA (eax_cons (evx_lstA (eax_cons (evx_of (ev_var rfl)) fun _ _ => eax_nil) (by decide)) fun _ _ => eax_nil) (by decide)) fun H8 x8 => ?_
    exact eat_nil

def D_l_some_pairs (K : PySem.W.Frag) : Hp → List V → (V → Hp → Prop) → Prop := fun H vs R => ∃ (a : Addr) (ns : List Int) (m : Nat), vs = [.ref a, .int m] ∧ SqL K H a (ns.map V.int) ∧ 1 ≤ m ∧ m ≤ 200 ∧
  R = fun v H' => ∃ (p : Addr) (ps : List (Addr × Int × Int)), v = .ref p ∧ H p = none ∧ H' p = some (.lst (ps.map fun p => V.ref p.1)) ∧ PairsT H' ps ∧ InR m (ps.map (·.2)) ∧ ps.length ≤ 100
theorem pairsT_app {ps : List (Addr × Int × Int)} {p : Addr × Int × Int} {H : Hp} (h : PairsT H ps) (k : PairT H p) : PairsT H (ps ++ [p]) := fun x m => by
  rcases List.mem_append.mp m with m | m
  · exact h x m
  · obtain rfl := List.mem_singleton.mp m
    exact k
theorem inR_app {m : Int} {ps : List (Addr × Int × Int)} {p : Addr × Int × Int} (h : InR m (ps.map (·.2))) (k : (0 ≤ p.2.1 ∧ p.2.1 < m) ∧ 0 ≤ p.2.2 ∧ p.2.2 < m) : InR m ((ps ++ [p]).map (·.2)) := fun x hm => by
  rw [List.map_append] at hm
  rcases List.mem_append.mp hm with hm | hm
  · exact h x hm
  · obtain rfl := List.mem_singleton.mp hm
    exact k
theorem evx_catP {K : PySem.W.Frag} {σ : L2.St} {H : Hp} {ta tb : TE} {i j : Int} (ha : EvU ta σ H [.int i, .int j]) (hb : ∀ H1, Ex H H1 → EvX tb σ H1 TupR) : EvX (tOp (rCatT K) ta tb) σ H (fun v H' => ∃ p : Addr, v = .ref p ∧ H p = none ∧ PairT H' (p, i, j)) := fun H1 e Q q =>
  ha H1 e _ fun p H2 hp e2 h2 => hb H2 (e.trans e2) H2 (Ex.refl H2) _ fun v H3 e3 r => by
    obtain ⟨b, r, rfl, hr, hl⟩ := r
    have e13 := e2.trans e3
    refine ⟨p, b, _, r, rfl, rfl, st_of (e3 p _ h2), st_of hr, by simp, ?_, fun z => ?_, fun _ c hc => q _ _ (e13.trans (Ex.new hc)) ⟨c, rfl, fresh_back (e.trans e13) hc, r, upd_same⟩⟩
    · have := sz_of (n := 2 + r.length) (by omega)
      exact this
    · exact q _ _ e13 ⟨p, rfl, fresh_back e hp, [], e3 p _ h2⟩
theorem ok_l_some_pairs (T : Txt K mg base) : FnOk P w K mg base CX0 2 T.a_l_some_pairs T.d_l_some_pairs ["_law_script", "_law_many"] (SpR (D_l_some_pairs K)) := by
  refine T.F_l_some_pairs.ok sc_l_some_pairs (fun vs H Q E h => ?_) (fun cdv A outer s H vs Q E hr h => ?_)
  · obtain ⟨v, ⟨a, ns, m, rfl, _⟩, _⟩ := h
    rfl
  · obtain ⟨v, ⟨a, ns, m, rfl, hs, m1, m2, rfl⟩, q⟩ := h
    refine ⟨_, (pss_cons (ps_set (i := 2) sc_l_some_pairs.nd rfl (.inl rfl) (pe_lst pa_nil))
      (pss_cons (ps_for PassesOwn.never rfl (pi_range1 (by rfl) T.z_range (pa_cons (pe_op op_mul (pe_op op_mod (pe_call (ok_l_mix T) (hr.mono (by decide)) rfl T.g_l_mix T.F_l_mix.kp T.b_l_mix .nil pass0 (pa_cons (pe_call (ok_l_cell_at T) (hr.mono (by decide)) rfl T.g_l_cell_at T.F_l_cell_at.kp T.b_l_cell_at .nil pass0 (pa_cons (pv 0) (pa_cons pe_int pa_nil))) (pa_cons pe_int pa_nil))) pe_int) (pe_callTy call_int1 (by rfl) T.z_int (by decide +kernel) (pa_cons (pe_cmpR op_gt (pv 1) pe_int (nomark _)) pa_nil))) pa_nil)) (pg_name (i := 3) sc_l_some_pairs.nd rfl (.inl rfl))
      (pss_cons (ps_set (i := 4) sc_l_some_pairs.nd rfl (.inl rfl) (pe_call (ok_l_mix T) (hr.mono (by decide)) rfl T.g_l_mix T.F_l_mix.kp T.b_l_mix .nil pass0 (pa_cons (pe_call (ok_l_cell_at T) (hr.mono (by decide)) rfl T.g_l_cell_at T.F_l_cell_at.kp T.b_l_cell_at .nil pass0 (pa_cons (pv 0) (pa_cons (pe_op op_add pe_int (pe_op op_mod (pv 3) pe_int)) pa_nil))) (pa_cons (pe_op op_add pe_int (pe_op op_fdiv (pv 3) pe_int)) pa_nil))))
      (pss_cons (ps_set (i := 5) sc_l_some_pairs.nd rfl (.inl rfl) (pe_op op_mod (pv 4) (pv 1)))
      (pss_cons (ps_set (i := 6) sc_l_some_pairs.nd rfl (.inl rfl) (pe_op op_mod (pe_op op_add (pe_op op_add (pv 5) pe_int) (pe_op op_mod (pe_op op_fdiv (pv 4) pe_int) (pe_ix ix_list (pe_lst (pa_cons (pe_op op_sub (pv 1) pe_int) (pa_cons (pe_callB (call_min2 rfl) (by rfl) T.z_min (by decide +kernel) (pa_cons pe_int (pa_cons (pe_op op_sub (pv 1) pe_int) pa_nil))) pa_nil))) (pe_op op_mod (pe_op op_fdiv (pv 4) pe_int) pe_int) (fun _ _ => rfl)))) (pv 1)))
      (pss_cons (ps_expr (pe_bm PySem.F.plainAttrs_list PySem.F.slot_list_append PySem.F.type_list_append mt_append (pv 2) (pa_cons (pe_op op_catT (pe_tup (pa_cons (pv 5) (pa_cons (pv 6) pa_nil))) (pe_call (ok_l_behind T) (hr.mono (by decide)) rfl T.g_l_behind T.F_l_behind.kp T.b_l_behind .nil pass0 (pa_cons (pv 1) (pa_cons (pe_call (ok_l_mix T) (hr.mono (by decide)) rfl T.g_l_mix T.F_l_mix.kp T.b_l_mix .nil pass0 (pa_cons (pe_call (ok_l_cell_at T) (hr.mono (by decide)) rfl T.g_l_cell_at T.F_l_cell_at.kp T.b_l_cell_at .nil pass0 (pa_cons (pv 0) (pa_cons pe_int pa_nil))) (pa_cons (pv 3) pa_nil))) pa_nil)))) pa_nil)))
      (pss_one (ps_if (pt_cmpR op_eq (pe_op op_mod (pe_op op_fdiv (pv 4) pe_int) pe_int) pe_int (nomark _))
      (pss_one (ps_expr (pe_bm PySem.F.plainAttrs_list PySem.F.slot_list_append PySem.F.type_list_append mt_append (pv 2) (pa_cons (pe_tup (pa_cons (pv 6) (pa_cons (pv 5) pa_nil))) pa_nil))))
      pss_nil)))))))
      (pss_one (ps_ret (pv 2))))), ?_⟩
    refine q_asgL (xs := []) (el_lst (by walk_at "mu g") (by decide)) fun p H1 hp e1 h1 => ?_
    have b0 := mix_nn (ns.getD 0 0) 1
    let bk : Int := if decide ((1 : Int) < (m : Int)) = true then 1 else 0
    have bk01 : (bk = 0 ∨ bk = 1) ∧ (bk = 1 → 1 < m) := by
      show ((if _ then (1 : Int) else 0) = 0 ∨ (if _ then (1 : Int) else 0) = 1) ∧ ((if _ then (1 : Int) else 0) = 1 → _)
      split
      · rename_i h
        exact ⟨.inr rfl, fun _ => by have := of_decide_eq_true h; omega⟩
      · exact ⟨.inl rfl, fun h => by omega⟩
    obtain ⟨N, hN, N41, N1⟩ : ∃ N : Nat, mix (ns.getD 0 0) 1 % 41 * bk = N ∧ N ≤ 41 ∧ (0 < N → 1 < m) := by
      obtain ⟨z, y⟩ := bk01
      rcases z with z | z
      · exact ⟨0, by rw [z]; simp, by omega, fun h => by omega⟩
      · refine ⟨(mix (ns.getD 0 0) 1 % 41).toNat, ?_, by omega, fun _ => y z⟩
        rw [z, Int.mul_one]
        omega
    refine q_forR1 (n := (N : Int)) (ea_cons (ev_is (ev_op (ev_op (ev_callV (vs := [.int (ns.getD 0 0), .int 1]) (ea_cons (ev_callV (vs := [.ref a, .int 0]) (by walk_at "mu g") fun _ e => ⟨a, ns, 0, rfl, ex_l (e1.trans e) hs, rfl⟩) (ea_cons ev_c ea_nil)) fun _ _ => ⟨_, 1, rfl, by omega, rfl⟩) ev_c (rv_I (by decide))) (ev_cb (ea_cons (ev_op (ev_var rfl) ev_c rv_I0) ea_nil) rc_intB) (rv_I (show CMul _ _ from .inr ⟨by omega, by
        show bk < 2 ^ 64
        rcases bk01.1 with z | z <;> omega⟩))) (congrArg V.int hN)) ea_nil) (by omega)
      (fun k σ' H' => Ex H H' ∧ ∃ ps : List (Addr × Int × Int), H' p = some (.lst (ps.map fun p => V.ref p.1)) ∧ PairsT H' ps ∧ InR m (ps.map (·.2)) ∧ ps.length ≤ 2 * k ∧ (∀ x ∈ ps, x.1 ≠ p) ∧ ∃ x3 x4 x5 x6, σ' = [some (.ref a), some (.int m), some (.ref p), x3, x4, x5, x6])
      (fun H2 e2 => ⟨e1.trans e2, [], e2 p _ h1, (fun _ y => nomatch y), (fun _ y => nomatch y), Nat.le_refl _, (fun _ y => nomatch y), _, _, _, _, rfl⟩) (fun k σ' H' hk hq => ?_) (fun σ' H' hq => ?_)
    · obtain ⟨e2, ps, h2, hps, hin, hlen, hne, x3, x4, x5, x6, rfl⟩ := hq
      have mm : 1 < m := N1 (by omega)
      have c0 := mix_nn (ns.getD (1 + k % 8) 0) (1 + k / 8)
      refine q_asg (v := .int (mix (ns.getD (1 + k % 8) 0) (1 + k / 8))) (ev_callV (vs := [.int (ns.getD (1 + k % 8) 0), .int (1 + (k : Int) / 8)]) (ea_cons (ev_callV (vs := [.ref a, .int (1 + (k : Int) % 8)]) (by walk_at "mu g") fun _ e => ⟨a, ns, 1 + k % 8, by simp, ex_l (e2.trans e) hs, rfl⟩) (ea_cons (by walk_at "mu g") ea_nil)) fun _ _ => ⟨_, 1 + k / 8, by simp, by omega, rfl⟩) fun H3 e3 => ?_
      generalize mix (ns.getD (1 + k % 8) 0) (1 + k / 8) = pk at c0
      refine q_asg (v := .int (pk % m)) (ev_op (ev_var rfl) (ev_var rfl) (rv_I (by omega))) fun H4 e4 => ?_
      have i0 : 0 ≤ pk % (m : Int) := Int.emod_nonneg _ (by omega)
      have i1 : pk % (m : Int) < m := Int.emod_lt_of_pos _ (by omega)
      generalize pk % (m : Int) = i at i0 i1
      obtain ⟨dv, hdv, d0⟩ : ∃ dv : Int, ([(m : Int) - 1, min 2 ((m : Int) - 1)] : List Int).getD (pk / 1024 % 2).toNat 1 = dv ∧ 0 < dv := by
        refine ⟨_, rfl, getDP (P := fun z : Int => 0 < z) (fun z hz => ?_) (by decide) _⟩
        simp only [List.mem_cons, List.not_mem_nil, or_false] at hz
        rcases hz with rfl | rfl <;> omega
      refine q_asg (v := .int ((i + 1 + pk / 32 % dv) % m)) (ev_op (ev_op (ev_op (ev_var rfl) ev_c rv_I0) (ev_op (ev_op (ev_var rfl) ev_c (rv_I ⟨by decide, by decide⟩)) (ev_is (ev_ixNew (K := K) (xs := ([(m : Int) - 1, min 2 ((m : Int) - 1)] : List Int).map V.int) (i := pk / 1024 % 2) (el_is (xs := [.int ((m : Int) - 1), .int (min 2 ((m : Int) - 1))]) (el_lst (by walk_at "mu g") (by simp)) rfl) (by walk_at "mu g") (atI_modD (d := 1) (m := 2) rfl (by decide))) (congrArg V.int hdv)) (rv_I d0)) rv_I0) (ev_var rfl) (rv_I (by omega))) fun H5 e5 => ?_
      have j0 : 0 ≤ (i + 1 + pk / 32 % dv) % (m : Int) := Int.emod_nonneg _ (by omega)
      have j1 : (i + 1 + pk / 32 % dv) % (m : Int) < m := Int.emod_lt_of_pos _ (by omega)
      generalize (i + 1 + pk / 32 % dv) % (m : Int) = j at j0 j1
      have e25 := (e3.trans e4).trans e5
      have b0 := mix_nn (ns.getD 11 0) k
      refine q_appX (R := fun v H' => ∃ p : Addr, v = .ref p ∧ H5 p = none ∧ PairT H' (p, i, j)) (e25 p _ h2) (ev_var rfl) (evx_catP (eu_tup (by walk_at "mu g") (by simp)) fun H6 e6 => evx_call (vs := [.int m, .int (mix (ns.getD 11 0) k)]) (ea_cons (ev_var rfl) (ea_cons (ev_callV (vs := [.int (ns.getD 11 0), .int k]) (ea_cons (ev_callV (vs := [.ref a, .int 11]) (by walk_at "mu g") fun _ e => ⟨a, ns, 11, rfl, ex_l (((e2.trans e25).trans e6).trans e) hs, rfl⟩) (ea_cons (ev_var rfl) ea_nil)) fun _ _ => ⟨_, k, rfl, by omega, rfl⟩) ea_nil)) fun H7 e7 => ⟨_, ⟨m, _, rfl, by omega, by omega, b0, rfl⟩, fun _ _ _ r => r⟩) (by rw [List.length_map]; omega) fun v H6 e6 r => ?_
      obtain ⟨c, rfl, hc, hcp⟩ := r
      have cp : c ≠ p := fun z => by
        rw [z, e25 p _ h2] at hc
        exact nomatch hc
      have e26 := e25.trans e6
      have hp6 : PairsT (upd H6 p (.lst ((ps.map fun p => V.ref p.1) ++ [.ref c]))) (ps ++ [(c, i, j)]) := pairsT_app (fun x hx => by
        obtain ⟨r, hr⟩ := hps x hx
        exact ⟨r, (upd_ne (hne x hx)).trans (e26 _ _ hr)⟩) (by
        obtain ⟨r, hr⟩ := hcp
        exact ⟨r, (upd_ne cp).trans hr⟩)
      have hin6 : InR m ((ps ++ [(c, i, j)]).map (·.2)) := inR_app hin ⟨⟨i0, i1⟩, j0, j1⟩
      have ne6 : ∀ x ∈ ps ++ [(c, i, j)], x.1 ≠ p := fun x hx => by
        rcases List.mem_append.mp hx with hx | hx
        · exact hne x hx
        · obtain rfl := List.mem_singleton.mp hx
          exact cp
      have h6 : (upd H6 p (.lst ((ps.map fun p => V.ref p.1) ++ [.ref c]))) p = some (.lst ((ps ++ [(c, i, j)]).map fun p => V.ref p.1)) := by
        rw [upd_same, List.map_append]
        rfl
      have e06 : Ex H (upd H6 p (.lst ((ps.map fun p => V.ref p.1) ++ [.ref c]))) := Ex.mut (e2.trans e26) hp
      have z6 : (ps ++ [(c, i, j)]).length ≤ 2 * k + 1 := by
        rw [List.length_append, List.length_singleton]
        omega
      generalize upd H6 p (.lst ((ps.map fun p => V.ref p.1) ++ [.ref c])) = Hc at hp6 h6 e06
      generalize ps ++ [(c, i, j)] = qs at hp6 hin6 ne6 h6 z6
      refine s_when (b := decide (pk / 4096 % 8 = 1)) (by walk_at "mu g") (fun hb H7 e7 => ?_) (fun hb H7 e7 => ⟨e06.trans e7, qs, e7 p _ h6, hp6.later e7, hin6, by omega, ne6, _, _, _, _, rfl⟩)
      refine s_appU (e7 p _ h6) (ev_var rfl) (eu_tup (vs := [.int j, .int i]) (by walk_at "mu g") (by simp)) (by rw [List.length_map]; omega) fun b H8 hb8 e8 h8 => ?_
      have bp : b ≠ p := fun z => by
        rw [z, e7 p _ h6] at hb8
        exact nomatch hb8
      refine ⟨Ex.mut ((e06.trans e7).trans e8) hp, qs ++ [(b, j, i)], by rw [upd_same, List.map_append]; rfl, pairsT_app (fun x hx => by
        obtain ⟨r, hr⟩ := hp6 x hx
        exact ⟨r, (upd_ne (ne6 x hx)).trans ((e7.trans e8) _ _ hr)⟩) ⟨[], (upd_ne bp).trans h8⟩, inR_app hin6 ⟨⟨j0, j1⟩, i0, i1⟩, by rw [List.length_append, List.length_singleton]; omega, fun x hx => ?_, _, _, _, _, rfl⟩
      rcases List.mem_append.mp hx with hx | hx
      · exact ne6 x hx
      · obtain rfl := List.mem_singleton.mp hx
        exact bp
    · obtain ⟨e2, ps, h2, hps, hin, hlen, hne, x3, x4, x5, x6, rfl⟩ := hq
      exact s_ret (v := .ref p) (ev_var rfl) fun H3 e3 => q _ _ (e2.trans e3) ⟨p, ps, rfl, hp, e3 p _ h2, hps.later e3, hin, by omega⟩

def D_l_near : Hp → List V → List V → Prop := fun H vs xs => ∃ (b : Addr) (one : Int) (ps : List (Addr × Int × Int)), vs = [.ref b, .int one] ∧ H b = some (.lst (ps.map fun p => V.ref p.1)) ∧ PairsT H ps ∧ ps.length ≤ 1000 ∧ xs = (near (ps.map (·.2)) one).map V.int
theorem near_len (ep : List (Int × Int)) (x : Int) : (near ep x).length ≤ 2 * ep.length := by
  induction ep with
  | nil => exact Nat.le_refl _
  | cons p r ih =>
    have e : near (p :: r) x = near [p] x ++ near r x := near_app [p] r x
    have e2 : (near [p] x).length ≤ 2 := by
      unfold near
      simp only [List.flatMap_cons, List.flatMap_nil, List.append_nil, List.length_append]
      split <;> split <;> simp
    rw [e, List.length_append, List.length_cons]
    omega
theorem near_one (p : Int × Int) (x : Int) : near [p] x = (if p.1 = x then [p.2] else []) ++ (if p.2 = x then [p.1] else []) := by
  unfold near
  simp
theorem ok_l_near (T : Txt K mg base) : FnOk P w K mg base CX0 1 T.a_l_near T.d_l_near ["_law_pairs", "_law_one"] (SpLst D_l_near) := by
  refine T.F_l_near.ok sc_l_near (fun vs H Q E h => ?_) (fun cdv A outer s H vs Q E hr h => ?_)
  · obtain ⟨v, ⟨b, one, ps, rfl, _⟩, _⟩ := h
    rfl
  · obtain ⟨v, ⟨b, one, ps, rfl, hb, hps, hz, rfl⟩, q⟩ := h
    refine ⟨_, (pss_cons (ps_set (i := 2) sc_l_near.nd rfl (.inl rfl) (pe_lst pa_nil))
      (pss_cons (ps_for PassesOwn.never rfl (pi_list (pv 0)) (pg_name (i := 3) sc_l_near.nd rfl (.inl rfl))
      (pss_cut (ps_if (pt_cmpR op_eq (pe_ix ix_tup (pv 3) pe_int (fun _ _ => rfl)) (pv 1) (nomark _))
      (pss_one (ps_expr (pe_bm PySem.F.plainAttrs_list PySem.F.slot_list_append PySem.F.type_list_append mt_append (pv 2) (pa_cons (pe_ix ix_tup (pv 3) pe_int (fun _ _ => rfl)) pa_nil))))
      pss_nil)
      (pss_one (ps_if (pt_cmpR op_eq (pe_ix ix_tup (pv 3) pe_int (fun _ _ => rfl)) (pv 1) (nomark _))
      (pss_one (ps_expr (pe_bm PySem.F.plainAttrs_list PySem.F.slot_list_append PySem.F.type_list_append mt_append (pv 2) (pa_cons (pe_ix ix_tup (pv 3) pe_int (fun _ _ => rfl)) pa_nil))))
      pss_nil))))
      (pss_one (ps_ret (pv 2))))), ?_⟩
    refine q_asgL (xs := []) (el_lst (by walk_at "mu g") (by decide)) fun p H1 hp e1 h1 => ?_
    refine q_forLn (K := K) (a := b) (xs := ps.map fun p => V.ref p.1) (ev_var rfl) (sq_of (e1 b _ hb)) (fun n σ' H' => Ex H H' ∧ H' p = some (.lst ((near ((ps.take n).map (·.2)) one).map V.int)) ∧ ∃ x3, σ' = [some (.ref b), some (.int one), some (.ref p), x3])
      (fun H2 e2 => ⟨e1.trans e2, e2 p _ h1, _, rfl⟩) (fun n σ' H' _ hq => sq_of (hq.1 b _ hb)) (fun n x σ' H' hx hq => ?_) (fun σ' H' hq => ?_)
    · obtain ⟨e2, h2, x3, rfl⟩ := hq
      obtain ⟨pr, epr, mpr, rfl⟩ := pair_at hx
      have hT : ∀ H3, Ex H' H3 → PairT H3 pr := fun H3 e => (hps pr mpr).later (e2.trans e)
      have lt := (List.getElem?_eq_some_iff.mp epr).1
      have zl : (near ((ps.take n).map (·.2)) one).length ≤ 2 * 1000 := by
        have := near_len ((ps.take n).map (·.2)) one
        rw [List.length_map, List.length_take] at this
        omega
      refine q_cut (M := fun σ' H3 => Ex H' (upd H3 p (.lst ((near ((ps.take n).map (·.2)) one).map V.int))) ∧ Ex H H3 ∧ H3 p = some (.lst ((near ((ps.take n).map (·.2)) one ++ (if pr.2.1 = one then [pr.2.2] else [])).map V.int)) ∧ σ' = [some (.ref b), some (.int one), some (.ref p), some (.ref pr.1)])
        (s_when (b := decide (pr.2.1 = one)) (et_test (ev_op (ev_op (ev_var rfl) ev_c (rv_p0 (hT _ (Ex.refl _)))) (ev_var rfl) rv_eqI)) (fun hb3 H3 e3 => ?_) (fun hb3 H3 e3 => ?_)) fun σ' H3 hM => ?_
      · refine s_app (v := .int pr.2.2) (e3 p _ h2) (ev_var rfl) (ev_op (ev_var rfl) ev_c (rv_p1 (hT _ e3))) (by rw [List.length_map]; omega) fun H4 e4 => ?_
        have e34 := e3.trans e4
        refine ⟨?_, Ex.mut (e2.trans e34) hp, ?_, rfl⟩
        · intro a o ha
          by_cases z : a = p
          · subst z
            rw [upd_same, ← ha, h2]
          · rw [upd_ne z, upd_ne z]
            exact e34 a o ha
        · rw [upd_same, if_pos (of_decide_eq_true hb3), List.map_append]
          rfl
      · refine ⟨?_, e2.trans e3, ?_, rfl⟩
        · intro a o ha
          by_cases z : a = p
          · subst z
            rw [upd_same, ← ha, h2]
          · rw [upd_ne z]
            exact e3 a o ha
        · rw [if_neg (of_decide_eq_false hb3), List.append_nil]
          exact e3 p _ h2
      · obtain ⟨_, e3, h3, rfl⟩ := hM
        have hT3 : ∀ H4, Ex H3 H4 → PairT H4 pr := fun H4 e => (hps pr mpr).later (e3.trans e)
        have en : near ((ps.take (n + 1)).map (·.2)) one = (near ((ps.take n).map (·.2)) one ++ (if pr.2.1 = one then [pr.2.2] else [])) ++ (if pr.2.2 = one then [pr.2.1] else []) := by
          rw [List.take_add_one, epr, List.map_append, near_app, show (some pr).toList.map (·.2) = [pr.2] from rfl, near_one, List.append_assoc]
        have zm : (near ((ps.take n).map (·.2)) one ++ (if pr.2.1 = one then [pr.2.2] else [])).length ≤ 2 * 1000 + 1 := by
          rw [List.length_append]
          have : (if pr.2.1 = one then [pr.2.2] else []).length ≤ 1 := by split <;> simp
          omega
        refine s_when (b := decide (pr.2.2 = one)) (et_test (ev_op (ev_op (ev_var rfl) ev_c (rv_p1 (hT3 _ (Ex.refl _)))) (ev_var rfl) rv_eqI)) (fun hb4 H4 e4 => ?_) (fun hb4 H4 e4 => ?_)
        · refine s_app (v := .int pr.2.1) (e4 p _ h3) (ev_var rfl) (ev_op (ev_var rfl) ev_c (rv_p0 (hT3 _ e4))) (by rw [List.length_map]; omega) fun H5 e5 => ?_
          refine ⟨Ex.mut ((e3.trans e4).trans e5) hp, ?_, _, rfl⟩
          rw [upd_same, en, if_pos (of_decide_eq_true hb4), List.map_append (l₂ := [pr.2.1])]
          rfl
        · refine ⟨e3.trans e4, ?_, _, rfl⟩
          rw [en, if_neg (of_decide_eq_false hb4), List.append_nil]
          exact e4 p _ h3
    · obtain ⟨e2, h2, x3, rfl⟩ := hq
      rw [List.length_map, List.take_length] at h2
      exact s_ret (v := .ref p) (ev_var rfl) fun H3 e3 => q p H3 hp (e2.trans e3) (e3 p _ h2)

/-- how many steps each is away -/
structure FarOk (ep : List (Int × Int)) (one : Int) (kvs : List (Key × V)) (rs : List Int) (E : Int → Nat) : Prop where
  e0 : E one = 0
  val : ∀ x ∈ rs, valV kvs (.inl x) = some (.int (E x))
  up : ∀ y ∈ rs, y ≠ one → ∃ x ∈ rs, y ∈ near ep x ∧ E y = E x + 1
structure FarAt (ep : List (Int × Int)) (one : Int) (kvs : List (Key × V)) (rs : List Int) (k : Nat) (E : Int → Nat) : Prop where
  ok : FarOk ep one kvs rs E
  mono : rs.Pairwise fun x y => E x ≤ E y
  band : ∀ x, rs[k]? = some x → ∀ y ∈ rs, E y ≤ E x + 1
  lip : ∀ (i : Nat) (x : Int), i < k → rs[i]? = some x → ∀ y ∈ near ep x, E y ≤ E x + 1
theorem FarAt.init {ep : List (Int × Int)} {one : Int} : FarAt ep one [(.inl one, .int 0)] [one] 0 fun _ => 0 := by
  refine ⟨⟨rfl, fun x hx => ?_, fun y hy n => absurd (List.mem_singleton.mp hy) n⟩, by simp, fun _ _ _ _ => Nat.zero_le _, fun i x lt => absurd lt (Nat.not_lt_zero i)⟩
  obtain rfl := List.mem_singleton.mp hx
  exact valV_pos rfl
theorem FarAt.put {ep : List (Int × Int)} {one : Int} {kvs : List (Key × V)} {rs : List Int} {k : Nat} {E : Int → Nat} {x y : Int} (h : FarAt ep one kvs rs k E) (hone : one ∈ rs) (kat : rs[k]? = some x) (ny : y ∉ rs) (hn : y ∈ near ep x) (hd : ∀ (i : Nat) (x : Int), i < k → rs[i]? = some x → ∀ y ∈ near ep x, y ∈ rs) : ∃ E', FarAt ep one (putK kvs (.inl y) (.int ((E x : Int) + 1))) (rs ++ [y]) k E' := by
  have ne : ∀ {z}, z ∈ rs → z ≠ y := fun hz e => ny (e ▸ hz)
  let E' : Int → Nat := fun z => if z = y then E x + 1 else E z
  have ey : E' y = E x + 1 := if_pos rfl
  have en : ∀ {z}, z ∈ rs → E' z = E z := fun hz => if_neg (ne hz)
  have mx := List.mem_of_getElem? kat
  have klt := (List.getElem?_eq_some_iff.mp kat).1
  refine ⟨E', ⟨by rw [en hone]; exact h.ok.e0, fun z hz => ?_, fun z hz nz => ?_⟩, ?_, fun z hz t ht => ?_, fun i z lt hz t ht => ?_⟩
  · rcases List.mem_append.mp hz with hz | hz
    · rw [valV_put, if_neg (fun e => ne hz (Sum.inl.inj e)), en hz]
      exact h.ok.val z hz
    · obtain rfl := List.mem_singleton.mp hz
      rw [valV_put, if_pos rfl, ey]
      rfl
  · rcases List.mem_append.mp hz with hz | hz
    · obtain ⟨w, hw, hm, hd⟩ := h.ok.up z hz nz
      exact ⟨w, List.mem_append_left _ hw, hm, by rw [en hz, en hw]; exact hd⟩
    · obtain rfl := List.mem_singleton.mp hz
      exact ⟨x, List.mem_append_left _ mx, hn, by rw [ey, en mx]⟩
  · rw [List.pairwise_append]
    refine ⟨h.mono.imp_of_mem fun ha hb r => by rw [en ha, en hb]; exact r, by simp, fun a ha b hb => ?_⟩
    obtain rfl := List.mem_singleton.mp hb
    rw [en ha, ey]
    exact h.band x kat a ha
  · rw [List.getElem?_append_left klt, kat] at hz
    obtain rfl := Option.some.inj hz
    rw [en mx]
    rcases List.mem_append.mp ht with ht | ht
    · rw [en ht]
      exact h.band _ kat t ht
    · rw [List.mem_singleton.mp ht, ey]
      exact Nat.le_refl _
  · rw [List.getElem?_append_left (by omega)] at hz
    rw [en (List.mem_of_getElem? hz), en (hd i z lt hz t ht)]
    exact h.lip i z lt hz t ht
theorem FarAt.next {ep : List (Int × Int)} {one : Int} {kvs : List (Key × V)} {rs : List Int} {k : Nat} {E : Int → Nat} {x : Int} (h : FarAt ep one kvs rs k E) (kat : rs[k]? = some x) (hall : ∀ y ∈ near ep x, y ∈ rs) : FarAt ep one kvs rs (k + 1) E := by
  refine ⟨h.ok, h.mono, fun z hz t ht => ?_, fun i z lt hz t ht => ?_⟩
  · have b := h.band x kat t ht
    have l1 := (List.getElem?_eq_some_iff.mp hz).1
    have m := List.pairwise_iff_getElem.mp h.mono k (k + 1) (by omega) l1 (Nat.lt_succ_self k)
    rw [(List.getElem?_eq_some_iff.mp kat).2, (List.getElem?_eq_some_iff.mp hz).2] at m
    omega
  · by_cases c : i < k
    · exact h.lip i z c hz t ht
    · obtain rfl : i = k := by omega
      rw [kat] at hz
      obtain rfl := Option.some.inj hz
      exact h.band _ kat t (hall t ht)
def R_l_steps (H : Hp) (ep : List (Int × Int)) (one : Int) : V → Hp → Prop := fun v H' => ∃ (d : Addr) (kvs : List (Key × V)) (rs : List Int), v = .ref d ∧ H d = none ∧ H' d = some (.dK kvs) ∧ KeysI kvs rs ∧ rs.Nodup ∧ (∀ y, y ∈ rs ↔ Rch ep one y) ∧ ∃ E : Int → Nat, FarOk ep one kvs rs E ∧ ∀ x ∈ rs, ∀ y ∈ near ep x, E y ≤ E x + 1
def D_l_steps : Hp → List V → (V → Hp → Prop) → Prop := fun H vs R => ∃ (b : Addr) (one : Int) (m : Nat) (ps : List (Addr × Int × Int)), vs = [.ref b, .int one] ∧ H b = some (.lst (ps.map fun p => V.ref p.1)) ∧ PairsT H ps ∧ ps.length ≤ 1000 ∧ InR m (ps.map (·.2)) ∧ (0 ≤ one ∧ one < m) ∧ m ≤ 200 ∧ R = R_l_steps H (ps.map (·.2)) one
def ValsI (kvs : List (Key × V)) : Prop := ∀ kv ∈ kvs, ∃ n : Nat, kv.2 = V.int n
theorem valsI_get {kvs : List (Key × V)} {rs : List Int} (h : ValsI kvs) (k : KeysI kvs rs) {x : Int} (hx : x ∈ rs) : ∃ n : Nat, valV kvs (.inl x) = some (.int n) := by
  have e := keysI_val k x
  rw [decide_eq_true hx] at e
  cases f : valV kvs (.inl x) with
  | none =>
    rw [f] at e
    cases e
  | some u =>
    unfold valV at f
    cases g : kvs.find? fun kv => decide (kv.1 = Sum.inl x) with
    | none =>
      rw [g] at f
      cases f
    | some kv =>
      rw [g] at f
      obtain rfl : kv.2 = u := Option.some.inj f
      obtain ⟨n, e⟩ := h kv (List.mem_of_find?_eq_some g)
      exact ⟨n, by rw [e]⟩
/-- what is known of the row and the told ones as the row is walked -/
structure StepsAt (ep : List (Int × Int)) (m : Nat) (one : Int) (kvs : List (Key × V)) (rs : List Int) (at_ : Nat) : Prop where
  k : KeysI kvs rs
  nd : rs.Nodup
  at1 : at_ ≤ rs.length
  one_ : one ∈ rs
  rch : ∀ y ∈ rs, Rch ep one y
  done : ∀ (i : Nat) (x : Int), i < at_ → rs[i]? = some x → ∀ y ∈ near ep x, y ∈ rs
theorem StepsAt.end_ {ep : List (Int × Int)} {m : Nat} {one : Int} {kvs : List (Key × V)} {rs : List Int} (h : StepsAt ep m one kvs rs rs.length) (y : Int) : y ∈ rs ↔ Rch ep one y := by
  refine ⟨h.rch y, fun r => ?_⟩
  induction r with
  | refl => exact h.one_
  | step _ mm ih =>
    obtain ⟨i, lt, e⟩ := List.getElem_of_mem ih
    exact h.done i _ lt (by rw [List.getElem?_eq_getElem lt, e]) _ mm
theorem ok_l_steps (T : Txt K mg base) : FnOk P w K mg base CX0 2 T.a_l_steps T.d_l_steps ["_law_pairs", "_law_one"] (SpR D_l_steps) := by
  refine T.F_l_steps.ok sc_l_steps (fun vs H Q E h => ?_) (fun cdv A outer s H vs Q E hr h => ?_)
  · obtain ⟨v, ⟨b, one, m, ps, rfl, _⟩, _⟩ := h
    rfl
  · obtain ⟨v, ⟨b, one, m, ps, rfl, hb, hps, hz, hin, h1m, m200, rfl⟩, q⟩ := h
    refine ⟨_, (pss_cons (ps_set (i := 2) sc_l_steps.nd rfl (.inl rfl) (pe_disp (pps_cons (pv 1) pe_int pps_nil) (by rfl) (by rfl) (fun z => by cases z) (by decide)))
      (pss_cons (ps_set (i := 3) sc_l_steps.nd rfl (.inl rfl) (pe_lst (pa_cons (pv 1) pa_nil)))
      (pss_cons (ps_set (i := 4) sc_l_steps.nd rfl (.inl rfl) pe_int)
      (pss_cons (ps_while PassesOwn.never (pt_cmpR op_lt (pv 4) (pe_callB call_len_seq (by rfl) T.z_len (by decide +kernel) (pa_cons (pv 3) pa_nil)) (nomark _)) (pss_cons (ps_for PassesOwn.never rfl (pi_list (pe_call (ok_l_near T) (hr.mono (by decide)) rfl T.g_l_near T.F_l_near.kp T.b_l_near .nil pass0 (pa_cons (pv 0) (pa_cons (pe_ix ix_list (pv 3) (pv 4) (fun _ _ => rfl)) pa_nil)))) (pg_name (i := 5) sc_l_steps.nd rfl (.inl rfl))
      (pss_one (ps_if (pt_cmp (pc_dnotin (hu_of hr) (pv 5) (pv 2)))
      (pss_cons (ps_dput (hu_of hr) (pv 2) (pv 5) (pe_op op_add (pe_dget (hu_of hr) (pv 2) (pe_ix ix_list (pv 3) (pv 4) (fun _ _ => rfl)) (fun _ _ => rfl)) pe_int) rfl)
      (pss_one (ps_expr (pe_bm PySem.F.plainAttrs_list PySem.F.slot_list_append PySem.F.type_list_append mt_append (pv 3) (pa_cons (pv 5) pa_nil)))))
      pss_nil)))
      (pss_one (ps_set (i := 4) sc_l_steps.nd rfl (.inl rfl) (pe_op op_add (pv 4) pe_int)))))
      (pss_one (ps_ret (pv 2))))))), ?_⟩
    generalize hep : ps.map (·.2) = ep at hin q
    refine q_asgX (evx_disp1 (k := .inl one) (v := .int 0) (ev_var rfl) ev_c) fun v H1 e1 r => ?_
    obtain ⟨d, rfl, hd, h1⟩ := r
    refine q_asgL (xs := [.int one]) (el_lst (by walk_at "mu g") (by simp)) fun p H2 hp e2 h2 => ?_
    have pd : p ≠ d := fun z => by
      rw [z, h1] at hp
      exact nomatch hp
    have hp0 : H p = none := fresh_back e1 hp
    refine q_asg (v := .int 0) ev_c fun H3 e3 => ?_
    have e13 := (e1.trans e2).trans e3
    have few : ∀ (kvs : List (Key × V)) (rs : List Int) (k : Nat), StepsAt ep m one kvs rs k → rs.length ≤ m := fun kvs rs k st => ints_few st.nd fun y hy => hin.rch h1m (st.rch y hy)
    refine q_while (fun z σ' H' => Ex H H' ∧ ∃ (kvs : List (Key × V)) (rs : List Int) (k : Nat), H' d = some (.dK kvs) ∧ H' p = some (.lst (rs.map V.int)) ∧ ValsI kvs ∧ StepsAt ep m one kvs rs k ∧ (∃ E, FarAt ep one kvs rs k E) ∧ z = m - k ∧ ∃ x5, σ' = [some (.ref b), some (.int one), some (.ref d), some (.ref p), some (.int k), x5])
      m ⟨e13, [(.inl one, .int 0)], [one], 0, (e2.trans e3) d _ h1, e3 p _ h2, (fun kv hm => by
        obtain rfl := List.mem_singleton.mp hm
        exact ⟨0, rfl⟩), ⟨rfl, by simp, by omega, by simp, fun y hy => by
        obtain rfl := List.mem_singleton.mp hy
        exact .refl, fun i x lt => absurd lt (Nat.not_lt_zero i)⟩, ⟨_, FarAt.init⟩, rfl, _, rfl⟩ (fun z σ' H' hw => ?_)
    obtain ⟨e4, kvs, rs, k, hk, hrs, hv, st, fa, rfl, x5, rfl⟩ := hw
    refine ⟨decide ((k : Int) < ((rs.map V.int).length : Int)), et_test (ev_op (ev_var rfl) (ev_len (ev_var rfl) (sq_of hrs)) rv_I0), fun ht H4 e5 => ?_, fun hf H4 e5 => ?_⟩
    · have klt : k < rs.length := by
        have := of_decide_eq_true ht
        rw [List.length_map] at this
        omega
      have e45 := e4.trans e5
      have kat : rs[k]? = some rs[k] := List.getElem?_eq_getElem klt
      have fm := few _ _ _ st
      refine ⟨fun σ' H' => Ex H H' ∧ ∃ (kvs : List (Key × V)) (rs : List Int), H' d = some (.dK kvs) ∧ H' p = some (.lst (rs.map V.int)) ∧ ValsI kvs ∧ StepsAt ep m one kvs rs (k + 1) ∧ (∃ E, FarAt ep one kvs rs (k + 1) E) ∧ ∃ x5, σ' = [some (.ref b), some (.int one), some (.ref d), some (.ref p), some (.int ((k : Int) + 1)), x5], fun σ' H' hq => ?_, ?_⟩
      · obtain ⟨e6, kvs', rs', a1, a2, a3, a4, aE, x5, rfl⟩ := hq
        have := few _ _ _ a4
        have := a4.at1
        exact ⟨m - (k + 1), by omega, e6, kvs', rs', k + 1, a1, a2, a3, a4, aE, rfl, x5, rfl⟩
      generalize hx : rs[k] = x at kat
      have rx : Rch ep one x := st.rch x (List.mem_of_getElem? kat)
      refine q_forNLn (K := K) (xs := (near ep x).map V.int) (el_callL (vs := [.ref b, .int x]) (ea_cons (ev_var rfl) (ea_cons (ev_op (ev_var rfl) (ev_var rfl) (rv_ixL (sq_of (e5 p _ hrs)) (atI_nat (by rw [List.getElem?_map, kat]; rfl)))) ea_nil)) fun H5 e => ⟨b, x, ps, rfl, (e45.trans e) b _ hb, hps.later (e45.trans e), hz, by rw [hep]⟩)
        (fun c n σ' H' => Ex H H' ∧ H' c = some (.lst ((near ep x).map V.int)) ∧ c ≠ d ∧ c ≠ p ∧ ∃ (kvs : List (Key × V)) (rs' : List Int), H' d = some (.dK kvs) ∧ H' p = some (.lst (rs'.map V.int)) ∧ ValsI kvs ∧ StepsAt ep m one kvs rs' k ∧ (∃ E, FarAt ep one kvs rs' k E) ∧ rs'[k]? = some x ∧ (∀ y ∈ (near ep x).take n, y ∈ rs') ∧ ∃ x5, σ' = [some (.ref b), some (.int one), some (.ref d), some (.ref p), some (.int k), x5])
        (fun c H5 hc e6 h5 => ⟨e45.trans e6, h5, (fun z => by rw [z, e5 d _ hk] at hc; exact nomatch hc), (fun z => by rw [z, e5 p _ hrs] at hc; exact nomatch hc), kvs, rs, (e5.trans e6) d _ hk, (e5.trans e6) p _ hrs, hv, st, fa, kat, (fun y hy => by simp at hy), _, rfl⟩)
        (fun c n σ' H' _ hq => sq_of hq.2.1) (fun c n u σ' H' hu hq => ?_) (fun c σ' H' hq => ?_)
      · obtain ⟨e6, hc, cd, cp, kvs', rs', a1, a2, a3, a4, ⟨E, aE⟩, ax, a5, x5, rfl⟩ := hq
        obtain ⟨y, ey, my, rfl⟩ := int_at hu
        have tk : ∀ z, z ∈ (near ep x).take (n + 1) ↔ z ∈ (near ep x).take n ∨ z = y := fun z => by
          rw [List.take_add_one, ey, List.mem_append]
          simp
        refine s_when (b := !(valV kvs' (.inl y)).isSome) (et_dnin (k := .inl y) (ev_var rfl) (ev_var rfl) (.inl a1)) (fun hb2 H5 e7 => ?_) (fun hb2 H5 e7 => ?_)
        · have ny : y ∉ rs' := fun hy => by
            rw [keysI_val a4.k, decide_eq_true hy] at hb2
            cases hb2
          have fa' := aE.put a4.one_ ax ny my a4.done
          obtain ⟨n0, hn0, hE⟩ : ∃ n0 : Nat, valV kvs' (.inl x) = some (.int n0) ∧ E x = n0 := ⟨E x, aE.ok.val x (List.mem_of_getElem? ax), rfl⟩
          rw [hE] at fa'
          have fm' := few _ _ _ a4
          have kp := keysI_put a4.k ny (.int ((n0 : Int) + 1))
          have st' : StepsAt ep m one (putK kvs' (.inl y) (.int ((n0 : Int) + 1))) (rs' ++ [y]) k := ⟨kp.2, by
            rw [List.nodup_append]
            exact ⟨a4.nd, by simp, fun a ha b hb e => ny (by rw [List.mem_singleton] at hb; rw [← hb, ← e]; exact ha)⟩, by rw [List.length_append]; have := a4.at1; omega, List.mem_append_left _ a4.one_, fun z hz => by
            rcases List.mem_append.mp hz with hz | hz
            · exact a4.rch z hz
            · obtain rfl := List.mem_singleton.mp hz
              exact .step rx my, fun i u lt hu z hz => List.mem_append_left _ (a4.done i u lt (by
                have := a4.at1
                rwa [List.getElem?_append_left (by omega)] at hu) z hz)⟩
          have zk := keysI_len a4.k
          refine q_dputK (k := .inl y) (v := .int ((n0 : Int) + 1)) (e7 d _ a1) (by omega) (ev_op (ev_dgetK (k := .inl x) (ev_var rfl) (.inl (e7 d _ a1)) (ev_op (ev_var rfl) (ev_var rfl) (rv_ixL (sq_of (e7 p _ a2)) (atI_nat (by rw [List.getElem?_map, ax]; rfl)))) hn0) ev_c rv_I0) (ev_var rfl) (ev_var rfl) fun H6 e8 => ?_
          have e78 := e7.trans e8
          have hp6 : (upd H6 d (.dK (putK kvs' (.inl y) (.int ((n0 : Int) + 1))))) p = some (.lst (rs'.map V.int)) := (upd_ne pd).trans (e78 p _ a2)
          refine s_app (v := .int y) hp6 (ev_var rfl) (ev_var rfl) (by rw [List.length_map]; omega) fun H7 e9 => ?_
          have e10 : Ex H H7 := (Ex.mut (e6.trans e78) hd).trans e9
          refine ⟨Ex.mut e10 hp0, (upd_ne cp).trans (e9 c _ ((upd_ne cd).trans (e78 c _ hc))), cd, cp, _, rs' ++ [y], (upd_ne (Ne.symm pd)).trans (e9 d _ upd_same), by rw [upd_same, List.map_append]; rfl, ?_, st', fa', ?_, fun z hz => ((tk z).mp hz).elim (fun w => List.mem_append_left _ (a5 z w)) fun e => by rw [e]; simp, _, rfl⟩
          · rw [kp.1]
            intro kv hm
            rcases List.mem_append.mp hm with hm | hm
            · exact a3 kv hm
            · obtain rfl := List.mem_singleton.mp hm
              exact ⟨n0 + 1, by simp⟩
          · rw [List.getElem?_append_left (List.getElem?_eq_some_iff.mp ax).1]
            exact ax
        · have yy : y ∈ rs' := by
            rw [keysI_val a4.k] at hb2
            by_cases h : y ∈ rs'
            · exact h
            · rw [decide_eq_false h] at hb2
              cases hb2
          exact ⟨e6.trans e7, e7 c _ hc, cd, cp, kvs', rs', e7 d _ a1, e7 p _ a2, a3, a4, ⟨E, aE⟩, ax, (fun z hz => ((tk z).mp hz).elim (a5 z) fun e => e ▸ yy), _, rfl⟩
      · obtain ⟨e6, hc, cd, cp, kvs', rs', a1, a2, a3, a4, ⟨E, aE⟩, ax, a5, x5, rfl⟩ := hq
        rw [List.length_map, List.take_length] at a5
        refine s_asg (v := .int ((k : Int) + 1)) (by walk_at "mu g") fun H5 e7 => ⟨e6.trans e7, kvs', rs', e7 d _ a1, e7 p _ a2, a3, ⟨a4.k, a4.nd, (List.getElem?_eq_some_iff.mp ax).1, a4.one_, a4.rch, fun i u lt hu => ?_⟩, ⟨E, aE.next ax a5⟩, _, rfl⟩
        by_cases c : i < k
        · exact a4.done i u c hu
        · obtain rfl : i = k := by omega
          rw [ax] at hu
          obtain rfl := Option.some.inj hu
          exact a5
    · have kend : k = rs.length := by
        have := of_decide_eq_false hf
        rw [List.length_map] at this
        have := st.at1
        omega
      subst kend
      exact s_ret (v := .ref d) (ev_var rfl) fun H5 e6 => q _ _ ((e4.trans e5).trans e6) ⟨d, kvs, rs, rfl, hd, (e5.trans e6) d _ hk, st.k, st.nd, st.end_, by
        obtain ⟨E, fa⟩ := fa
        refine ⟨E, fa.ok, fun x hx y hy => ?_⟩
        obtain ⟨i, lt, e⟩ := List.getElem_of_mem hx
        exact fa.lip i x lt (by rw [List.getElem?_eq_getElem lt, e]) y hy⟩

theorem far_le {ep : List (Int × Int)} {i j : Int} {kvs : List (Key × V)} {rs : List Int} {E D : Int → Nat} (h : FarOk ep i kvs rs E) (hrs : ∀ y, y ∈ rs ↔ Rch ep i y) (hji : Rch ep j i) (lip : ∀ x y, Rch ep j x → y ∈ near ep x → D y ≤ D x + 1) : ∀ (n : Nat) (y : Int), y ∈ rs → E y = n → D i ≤ D y + n
  | 0, y, hy, e => by
    by_cases c : y = i
    · rw [c]
      exact Nat.le_refl _
    · obtain ⟨x, _, _, h3⟩ := h.up y hy c
      omega
  | n + 1, y, hy, e => by
    by_cases c : y = i
    · rw [c]
      exact Nat.le_add_right _ _
    · obtain ⟨x, hx, hm, h3⟩ := h.up y hy c
      have a := far_le h hrs hji lip n x hx (by omega)
      have b := lip y x (hji.trans ((hrs y).mp hy)) (near_symm.mp hm)
      omega
theorem row_far {ep : List (Int × Int)} {i : Int} {rs ns : List Int} {E : Int → Nat} (e0 : E i = 0) (hrs : ∀ y, y ∈ rs ↔ Rch ep i y) (lip : ∀ x ∈ rs, ∀ y ∈ near ep x, E y ≤ E x + 1) (hrow : Row ep ns) (hd : ns.head? = some i) : ∀ (k : Nat) (x : Int), ns[k]? = some x → x ∈ rs ∧ E x ≤ k
  | 0, x, hx => by
    have e : i = x := by
      rw [List.head?_eq_getElem?, hx] at hd
      exact (Option.some.inj hd).symm
    subst e
    exact ⟨(hrs _).mpr .refl, by omega⟩
  | k + 1, x, hx => by
    have l1 := (List.getElem?_eq_some_iff.mp hx).1
    have hy : ns[k]? = some ns[k] := List.getElem?_eq_getElem (by omega)
    obtain ⟨m, le⟩ := row_far e0 hrs lip hrow hd k _ hy
    have hn := hrow k _ _ hy hx
    have := lip _ m x hn
    exact ⟨(hrs x).mpr (.step ((hrs _).mp m) hn), by omega⟩
def D_l_chain_right : Hp → List V → V → Prop := fun H vs v => ∃ (b : Addr) (m : Nat) (i j : Int) (ps : List (Addr × Int × Int)), vs = [.ref b, .int m, .int i, .int j] ∧ H b = some (.lst (ps.map fun p => V.ref p.1)) ∧ PairsT H ps ∧ ps.length ≤ 100 ∧ InR m (ps.map (·.2)) ∧ (0 ≤ i ∧ i < m) ∧ (0 ≤ j ∧ j < m) ∧ m ≤ 40 ∧ v = .bl true
theorem ok_l_right (T : Txt K mg base) : FnOk P w K mg base CX0 3 T.a_l_right T.d_l_right ["_law_pairs", "_law_many", "_law_i", "_law_j"] (SpVal D_l_chain_right) := by
  refine T.F_l_right.ok sc_l_right (fun vs H Q E h => ?_) (fun cdv A outer s H vs Q E hr h => ?_)
  · obtain ⟨v, ⟨b, m, i, j, ps, rfl, _⟩, _⟩ := h
    rfl
  · obtain ⟨v, ⟨b, m, i, j, ps, rfl, hb, hps, hz, hin, hi, hj, m40, rfl⟩, q⟩ := h
    refine ⟨_, (pss_cons (ps_set (i := 4) sc_l_right.nd rfl (.inl rfl) (pe_callTy call_list_of (by rfl) T.z_list (by decide +kernel) (pa_cons (pv 0) pa_nil)))
      (pss_cons (ps_set (i := 5) sc_l_right.nd rfl (.inl rfl) (pe_call (ok_p_chain T) (hr.mono (by decide)) rfl T.g_p_chain T.F_p_chain.kp T.b_p_chain .nil pass0 (pa_cons (pv 4) (pa_cons (pv 1) (pa_cons (pv 2) (pa_cons (pv 3) pa_nil))))))
      (pss_cons (ps_set (i := 6) sc_l_right.nd rfl (.inl rfl) (pe_call (ok_l_steps T) (hr.mono (by decide)) rfl T.g_l_steps T.F_l_steps.kp T.b_l_steps .nil pass0 (pa_cons (pv 0) (pa_cons (pv 2) pa_nil))))
      (pss_cons (ps_if (pt_cmpR (op_neRefs hr.units) (pv 4) (pv 0) (nomark _))
      (pss_one (ps_ret pe_bl))
      pss_nil)
      (pss_cons (ps_if (pt_cmp (pc_dnotin (hu_of hr) (pv 3) (pv 6)))
      (pss_one (ps_ret (pe_cmpR op_isN (pv 5) pe_non (nomark _))))
      pss_nil)
      (pss_cons (ps_if (PW.pt (pw_or (pt_not (pt_val (pe_callB call_isi (by rfl) T.z_isinstance (by decide +kernel) (pa_cons (pv 5) (pa_cons (pe_bltn (v := .ty "list") (by rfl) T.z_list (by decide +kernel) rfl) pa_nil))))) (pw_or (pt_cmpR op_ne (pe_callB call_len_seq (by rfl) T.z_len (by decide +kernel) (pa_cons (pv 5) pa_nil)) (pe_op op_add (pe_dget (hu_of hr) (pv 6) (pv 3) (fun _ _ => rfl)) pe_int) (nomark _)) (pw_or (pt_cmpR op_ne (pe_ix ix_list (pv 5) pe_int (fun _ _ => rfl)) (pv 2) (nomark _)) (pw_or1 (pt_cmpR op_ne (pe_ix ix_list (pv 5) (pe_op op_sub (pe_callB call_len_seq (by rfl) T.z_len (by decide +kernel) (pa_cons (pv 5) pa_nil)) pe_int) (fun _ _ => rfl)) (pv 3) (nomark _)))))))
      (pss_one (ps_ret pe_bl))
      pss_nil)
      (pss_cons (ps_for PassesOwn.never rfl (pi_range1 (by rfl) T.z_range (pa_cons (pe_callB call_len_seq (by rfl) T.z_len (by decide +kernel) (pa_cons (pv 5) pa_nil)) pa_nil)) (pg_name (i := 7) sc_l_right.nd rfl (.inl rfl))
      (pss_cons (ps_if (PW.pt (pw_or (pt_not (pt_val (pe_callB call_isi (by rfl) T.z_isinstance (by decide +kernel) (pa_cons (pe_ix ix_list (pv 5) (pv 7) (fun _ _ => rfl)) (pa_cons (pe_bltn (v := .ty "int") (by rfl) T.z_int (by decide +kernel) rfl) pa_nil))))) (pw_or1 (pt_val (pe_callB call_isi (by rfl) T.z_isinstance (by decide +kernel) (pa_cons (pe_ix ix_list (pv 5) (pv 7) (fun _ _ => rfl)) (pa_cons (pe_bltn (v := .ty "bool") (by rfl) T.z_bool (by decide +kernel) rfl) pa_nil)))))))
      (pss_one (ps_ret pe_bl))
      pss_nil)
      (pss_one (ps_if (PW.pt (pw_and (pt_cmpR op_gt (pv 7) pe_int (nomark _)) (pw_and1 (pt_cmpR op_notIn_seq (pe_ix ix_list (pv 5) (pv 7) (fun _ _ => rfl)) (pe_call (ok_l_near T) (hr.mono (by decide)) rfl T.g_l_near T.F_l_near.kp T.b_l_near .nil pass0 (pa_cons (pv 0) (pa_cons (pe_ix ix_list (pv 5) (pe_op op_sub (pv 7) pe_int) (fun _ _ => rfl)) pa_nil))) (by rfl)))))
      (pss_one (ps_ret pe_bl))
      pss_nil))))
      (pss_cons (ps_if (pt_cmpR op_notBl (pe_call (ok_p_is_chain T) (hr.mono (by decide)) rfl T.g_p_is_chain T.F_p_is_chain.kp T.b_p_is_chain .nil pass0 (pa_cons (pv 4) (pa_cons (pv 5) pa_nil))) pe_bl (nomark _))
      (pss_one (ps_ret pe_bl))
      pss_nil)
      (pss_cons (ps_set (i := 8) sc_l_right.nd rfl (.inl rfl) (pe_callTy call_list_of (by rfl) T.z_list (by decide +kernel) (pa_cons (pv 5) pa_nil)))
      (pss_cons (ps_expr (pe_bm PySem.F.plainAttrs_list PySem.F.slot_list_append PySem.F.type_list_append mt_append (pv 5) (pa_cons pe_non pa_nil)))
      (pss_one (ps_ret (pe_cmpR (op_eqD hr.units) (pe_call (ok_p_chain T) (hr.mono (by decide)) rfl T.g_p_chain T.F_p_chain.kp T.b_p_chain .nil pass0 (pa_cons (pv 4) (pa_cons (pv 1) (pa_cons (pv 2) (pa_cons (pv 3) pa_nil))))) (pv 8) (nomark _)))))))))))))), ?_⟩
    have few : ∀ (x : Int) (rs : List Int), rs.Nodup → (∀ y ∈ rs, y ∈ near (ps.map (·.2)) x) → rs.length < 64 := fun x rs nd h => by
      have := ints_few (m := m) nd fun y hy => (hin.near (h y hy)).2
      omega
    refine q_asgL (el_list (ev_var rfl) (sq_of hb)) fun hd H1 hhd e1 h1 => ?_
    let RC : Hp → V → Hp → Prop := fun H v H' => (¬ Rch (ps.map (·.2)) j i ∧ v = .non) ∨ (Rch (ps.map (·.2)) j i ∧ ∃ (p : Addr) (ns : List Int) (D : Int → Nat), v = .ref p ∧ H p = none ∧ H' p = some (.lst (ns.map V.int)) ∧ ns.head? = some i ∧ ns.getLast? = some j ∧ Row (ps.map (·.2)) ns ∧ D j = 0 ∧ ns.length = D i + 1 ∧ (∀ x y, Rch (ps.map (·.2)) j x → y ∈ near (ps.map (·.2)) x → D y ≤ D x + 1) ∧ ns.length ≤ m ∧ ∃ kvs n, itF (ps.map (·.2)) j n = (kvs, []) ∧ FolV kvs ns)
    have chain : ∀ (H' : Hp) (σ' : L2.St), Ex H1 H' → σ'[4]? = some (some (.ref hd)) → σ'[1]? = some (some (.int m)) → σ'[2]? = some (some (.int i)) → σ'[3]? = some (some (.int j)) → EvX (tCall (SpR D_p_chain_all) [] E0 (tCons (tVar 4) (tCons (tVar 1) (tCons (tVar 2) (tCons (tVar 3) tNil))))) σ' H' (RC H') := fun H' σ' e s4 s1 s2 s3 =>
      evx_call (vs := [.ref hd, .int m, .int i, .int j]) (ea_cons (ev_var s4) (ea_cons (ev_var s1) (ea_cons (ev_var s2) (ea_cons (ev_var s3) ea_nil)))) fun H2 e2 => ⟨_, ⟨hd, i, j, m, ps, rfl, (e.trans e2) _ _ h1, hps.later (e1.trans (e.trans e2)), by omega, hin, hj, by omega, few, rfl⟩, fun v H3 e3 r => by
        rcases r with r | ⟨r, p, ns, D, rfl, hp, r2⟩
        · exact .inl r
        · exact .inr ⟨r, p, ns, D, rfl, fresh_back e2 hp, r2⟩⟩
    refine q_asgX (chain H1 _ (Ex.refl H1) rfl rfl rfl rfl) fun v H2 e2 r => ?_
    have e12 := e1.trans e2
    refine q_asgX (evx_call (R := R_l_steps H2 (ps.map (·.2)) i) (vs := [.ref b, .int i]) (ea_cons (ev_var rfl) (ea_cons (ev_var rfl) ea_nil)) fun H3 e3 => ⟨_, ⟨b, i, m, ps, rfl, (e12.trans e3) _ _ hb, hps.later (e12.trans e3), by omega, hin, hi, by omega, rfl⟩, fun v H4 _ r => by
      obtain ⟨d, kvs, rs, rfl, hd, r⟩ := r
      exact ⟨d, kvs, rs, rfl, fresh_back e3 hd, r⟩⟩) fun v2 H3 e3 r2 => ?_
    obtain ⟨d, kvs, rs, rfl, hd0, hdk, hk, nd, hrs, E, fa, lipE⟩ := r2
    have e13 := e12.trans e3
    refine q_when (b := false) (et_test (ev_neRefs (ev_var rfl) (ev_var rfl) ((e2.trans e3) _ _ h1) (e13 _ _ hb))) (fun h => nomatch h) fun _ H4 e4 => ?_
    have e14 := e13.trans e4
    refine q_when (b := !(valV kvs (.inl j)).isSome) (et_dnin (k := .inl j) (ev_var rfl) (ev_var rfl) (.inl (e4 _ _ hdk))) (fun hb2 H5 e5 => ?_) (fun hb2 H5 e5 => ?_)
    · have nj : ¬ Rch (ps.map (·.2)) i j := fun z => by
        rw [keysI_val hk, decide_eq_true ((hrs j).mpr z)] at hb2
        cases hb2
      rcases r with ⟨_, rfl⟩ | ⟨r, _⟩
      · exact s_ret (v := .bl true) (ev_is (ev_op (ev_var rfl) ev_c fun H6 e6 Q q => ⟨rfl, q H6 (Ex.refl H6)⟩) (by rfl)) fun H6 e6 => q _ (e14.trans (e5.trans e6))
      · exact absurd r.symm nj
    · have mj : j ∈ rs := by
        rw [keysI_val hk] at hb2
        by_cases h : j ∈ rs
        · exact h
        · rw [decide_eq_false h] at hb2
          cases hb2
      rcases r with ⟨nr, _⟩ | ⟨rji, p, ns, D, rfl, hp, hns, hhd2, hlast, hrow, d0, hlen, lip, zns, kc, nc, hF, hfol⟩
      · exact absurd ((hrs j).mp mj).symm nr
      have e15 := e14.trans e5
      have e25 := (e3.trans e4).trans e5
      have hEj : ns.length = E j + 1 := by
        have a := far_le fa hrs rji lip (E j) j mj rfl
        have lt : ns.length - 1 < ns.length := by omega
        have b := (row_far fa.e0 hrs lipE hrow hhd2 (ns.length - 1) j (by rw [← List.getLast?_eq_getElem?]; exact hlast)).2
        omega
      have at0 : atI (ns.map V.int) 0 = some (.int i) := atI_nat (j := 0) (by rw [List.getElem?_map, ← List.head?_eq_getElem?, hhd2]; rfl)
      have atL : atI (ns.map V.int) ((ns.length : Int) - 1) = some (.int j) := by
        rw [show (ns.length : Int) - 1 = ((ns.length - 1 : Nat) : Int) by omega]
        exact atI_nat (by rw [List.getElem?_map, ← List.getLast?_eq_getElem?, hlast]; rfl)
      have kN : ∀ H', Ex H2 H' → SqL K H' p (ns.map V.int) := fun H' e => sq_of (e _ _ hns)
      have lenE : ∀ {H' : Hp} {σ' : L2.St}, Ex H2 H' → σ'[5]? = some (some (.ref p)) → Ev (tCB (fun xs H Q => ∃ (p : Addr) (ys : List V), xs = [V.ref p] ∧ (SqL K H p ys ∨ SqT K H p ys) ∧ Q (.int ys.length) H) (tCons (tVar 5) tNil)) σ' H' (.int (ns.length : Int)) := fun e hσ => ev_is (ev_cb (ea_cons (ev_var hσ) ea_nil) (rc_lenL (kN _ e))) (by rw [List.length_map])
      refine q_when (b := !true || (false || (false || false))) (et_or (et_not (et_B (ev_cb (ea_cons (ev_var rfl) (ea_cons ev_c ea_nil)) (rc_isiLst (e25 _ _ hns) (by rfl))))) fun _ => et_or (et_is (et_test (ev_op (lenE e25 rfl) (ev_op (ev_dgetK (k := .inl j) (ev_var rfl) (.inl ((e4.trans e5) _ _ hdk)) (ev_var rfl) (fa.val j mj)) ev_c rv_I0) rv_neI)) (by rw [hEj]; simp)) fun _ => et_or (et_is (et_test (ev_op (ev_op (ev_var rfl) ev_c (rv_ixL (kN _ e25) at0)) (ev_var rfl) rv_neI)) (by simp)) fun _ => et_is (et_test (ev_op (ev_op (ev_var rfl) (ev_op (lenE e25 rfl) ev_c rv_I0) (rv_ixL (kN _ e25) atL)) (ev_var rfl) rv_neI)) (by simp)) (fun h => nomatch h) fun _ H6 e6 => ?_
      have e26 := e25.trans e6
      refine q_forR1 (n := (ns.length : Int)) (ea_cons (lenE e26 rfl) ea_nil) (by omega) (fun k σ' H' => Ex H2 H' ∧ ∃ x7 x8, σ' = [some (.ref b), some (.int m), some (.int i), some (.int j), some (.ref hd), some (.ref p), some (.ref d), x7, x8])
        (fun H7 e7 => ⟨e26.trans e7, _, _, rfl⟩) (fun k σ' H7 hk hq => ?_) (fun σ' H7 hq => ?_)
      · obtain ⟨e7, x7, x8, rfl⟩ := hq
        have klt : k < ns.length := by omega
        have nk : ns[k]? = some ns[k] := List.getElem?_eq_getElem klt
        have atk : atI (ns.map V.int) ((k : Nat) : Int) = some (.int ns[k]) := atI_nat (by rw [List.getElem?_map, nk]; rfl)
        refine q_when (b := !true || false) (et_or (et_not (et_B (ev_cb (ea_cons (ev_op (ev_var rfl) (ev_var rfl) (rv_ixL (kN _ e7) atk)) (ea_cons ev_c ea_nil)) (rc_isiInt (by rfl))))) fun _ => et_B (ev_cb (ea_cons (ev_op (ev_var rfl) (ev_var rfl) (rv_ixL (kN _ e7) atk)) (ea_cons ev_c ea_nil)) (rc_isiInt (by rfl)))) (fun h => nomatch h) fun _ H8 e8 => ?_
        have e78 := e7.trans e8
        refine s_when (b := decide ((0 : Int) < (k : Int)) && !decide (ns[k] ∈ near (ps.map (·.2)) (ns.getD (k - 1) 0))) (et_and (et_test (ev_op (ev_var rfl) ev_c rv_I0)) fun h0 => ?_) (fun h H9 e9 => ?_) (fun _ H9 e9 => ⟨e78.trans e9, _, _, rfl⟩)
        · have k0 : 0 < k := by
            have := of_decide_eq_true h0
            omega
          have at1 : atI (ns.map V.int) ((k : Int) - 1) = some (.int (ns.getD (k - 1) 0)) := by
            rw [show (k : Int) - 1 = ((k - 1 : Nat) : Int) by omega]
            exact atI_nat (by rw [List.getElem?_map, List.getElem?_eq_getElem (show k - 1 < ns.length by omega), List.getD_eq_getElem?_getD, List.getElem?_eq_getElem (show k - 1 < ns.length by omega)]; rfl)
          exact et_test (ev_niNewI (ev_op (ev_var rfl) (ev_var rfl) (rv_ixL (kN _ e78) atk)) (el_callL (vs := [.ref b, .int (ns.getD (k - 1) 0)]) (ea_cons (ev_var rfl) (ea_cons (ev_op (ev_var rfl) (ev_op (ev_var rfl) ev_c rv_I0) (rv_ixL (kN _ e78) at1)) ea_nil)) fun H9 e9 => ⟨b, _, ps, rfl, (e12.trans (e78.trans e9)) _ _ hb, hps.later (e12.trans (e78.trans e9)), by omega, rfl⟩))
        · rw [Bool.and_eq_true] at h
          have k0 : 0 < k := by
            have := of_decide_eq_true h.1
            omega
          have h1k : ns[k - 1]? = some (ns.getD (k - 1) 0) := by rw [List.getD_eq_getElem?_getD, List.getElem?_eq_getElem (show k - 1 < ns.length by omega)]; rfl
          have mm := hrow (k - 1) _ _ h1k (by rw [Nat.sub_add_cancel k0]; exact nk)
          rw [decide_eq_true mm] at h
          cases h.2
      obtain ⟨e7, x7, x8, rfl⟩ := hq
      have e17 := e12.trans e7
      have hch : chainB (ps.map (·.2)) ns = true := by
        unfold chainB
        have ne : ns ≠ [] := fun z => by
          rw [z] at hhd2
          exact nomatch hhd2
        rw [Bool.and_eq_true]
        refine ⟨by cases ns with | nil => exact absurd rfl ne | cons _ _ => rfl, List.all_eq_true.mpr fun k hk => ?_⟩
        have kl := List.mem_range.mp hk
        refine decide_eq_true (hrow k _ _ ?_ ?_)
        · rw [List.getD_eq_getElem?_getD, List.getElem?_eq_getElem (show k < ns.length by omega)]
          rfl
        · rw [List.getD_eq_getElem?_getD, List.getElem?_eq_getElem (show k + 1 < ns.length by omega)]
          rfl
      refine q_when (b := false) (et_test (ev_is (ev_op (ev_is (ev_callV (vs := [.ref hd, .ref p]) (ea_cons (ev_var rfl) (ea_cons (ev_var rfl) ea_nil)) fun _ e => ⟨hd, p, ps, ns, rfl, sq_of ((e2.trans (e7.trans e)) _ _ h1), hps.later (e17.trans e), by omega, kN _ (e7.trans e), by omega, rfl⟩) (congrArg V.bl hch)) ev_c fun H8 e8 Q q => ⟨true, true, rfl, rfl, q H8 (Ex.refl H8)⟩) (by rfl))) (fun h => nomatch h) fun _ H8 e8 => ?_
      refine q_asgL (el_list (ev_var rfl) (kN _ (e7.trans e8))) fun tl H9 htl e9 h9 => ?_
      have e29 := (e7.trans e8).trans e9
      have tp : tl ≠ p := fun z => by
        rw [z, (e7.trans e8) _ _ hns] at htl
        exact nomatch htl
      have hp0 : H p = none := fresh_back e1 hp
      refine q_app (v := .non) (e29 _ _ hns) (ev_var rfl) ev_c (by rw [List.length_map]; omega) fun H10 e10 => ?_
      have e210 := e29.trans e10
      have eU : Ex H1 (upd H10 p (.lst (ns.map V.int ++ [V.non]))) := Ex.mut (e2.trans e210) hp
      have hT : (upd H10 p (.lst (ns.map V.int ++ [V.non]))) tl = some (.lst (ns.map V.int)) := (upd_ne tp).trans (e10 _ _ h9)
      generalize upd H10 p (.lst (ns.map V.int ++ [V.non])) = H11 at eU hT
      refine s_ret (v := .bl true) (ev_eqIntsX (ns := ns) (evx_mono (chain H11 _ eU rfl rfl rfl rfl) fun v H12 e12 r => ?_) fun H12 e12 => evx_mono (evx_of (ev_var rfl)) fun v H13 e13 r => ⟨tl, r, (e12.trans e13) _ _ hT⟩) fun H12 e12 => q _ ((e1.trans eU).trans e12)
      rcases r with ⟨nr, _⟩ | ⟨_, p2, ns2, D2, rfl, _, h2, g1, _, _, _, _, _, _, kc2, nc2, hF2, hfol2⟩
      · exact absurd rji nr
      · rw [itF_one hF2 hF] at hfol2
        rw [fol_same hfol2 hfol (g1.trans hhd2.symm)] at h2
        exact ⟨p2, rfl, h2⟩

def picks (n : Int) (k : Nat) : List Int := if ((k : Int) + n) % 2 = 0 then [(k : Int), (k : Int) + 1] else [(k : Int) + 1, (k : Int)]
def picksP (n : Int) (k : Nat) : Int × Int := if ((k : Int) + n) % 2 = 0 then ((k : Int), (k : Int) + 1) else ((k : Int) + 1, (k : Int))
theorem picks_is (n : Int) (k : Nat) : picks n k = [(picksP n k).1, (picksP n k).2] := by
  unfold picks picksP
  split <;> rfl
theorem picksP_or (n : Int) (k : Nat) : picksP n k = ((k : Int), (k : Int) + 1) ∨ picksP n k = ((k : Int) + 1, (k : Int)) := by
  unfold picksP
  split
  · exact .inl rfl
  · exact .inr rfl
def basP (n : Int) (m : Nat) : List (Int × Int) := (List.range (m - 1)).map (picksP n)
theorem basP_in {n : Int} {m : Nat} {p : Int × Int} (h : p ∈ basP n m) : ∃ k : Nat, k + 1 < m ∧ (p = ((k : Int), (k : Int) + 1) ∨ p = ((k : Int) + 1, (k : Int))) := by
  obtain ⟨k, hk, rfl⟩ := List.mem_map.mp h
  have := List.mem_range.mp hk
  exact ⟨k, by omega, picksP_or n k⟩
/-- numbers in a row, each with the next -/
def PathE (m : Nat) (ep : List (Int × Int)) : Prop := ∀ x y, y ∈ near ep x ↔ (0 ≤ x ∧ x < m ∧ 0 ≤ y ∧ y < m ∧ (y = x + 1 ∨ x = y + 1))
theorem pathE_of {n : Int} {m : Nat} {ep : List (Int × Int)} (h : ∀ p, p ∈ ep ↔ p ∈ basP n m) : PathE m ep := fun x y => by
  rw [mem_near, h, h]
  have one : ∀ k : Nat, k + 1 < m → ((k : Int), (k : Int) + 1) ∈ basP n m ∨ ((k : Int) + 1, (k : Int)) ∈ basP n m := fun k hk => by
    have mm : picksP n k ∈ basP n m := List.mem_map.mpr ⟨k, List.mem_range.mpr (by omega), rfl⟩
    rcases picksP_or n k with e | e
    · exact .inl (e ▸ mm)
    · exact .inr (e ▸ mm)
  constructor
  · rintro (z | z)
    · obtain ⟨k, hk, e | e⟩ := basP_in z
      · obtain ⟨rfl, rfl⟩ := Prod.mk.inj e
        omega
      · obtain ⟨rfl, rfl⟩ := Prod.mk.inj e
        omega
    · obtain ⟨k, hk, e | e⟩ := basP_in z
      · obtain ⟨rfl, rfl⟩ := Prod.mk.inj e
        omega
      · obtain ⟨rfl, rfl⟩ := Prod.mk.inj e
        omega
  · rintro ⟨x0, x1, y0, y1, rfl | rfl⟩
    · obtain ⟨k, rfl⟩ : ∃ k : Nat, x = k := ⟨x.toNat, by omega⟩
      exact one k (by omega)
    · obtain ⟨k, rfl⟩ : ∃ k : Nat, y = k := ⟨y.toNat, by omega⟩
      exact (one k (by omega)).symm
theorem PathE.rch {m : Nat} {ep : List (Int × Int)} (h : PathE m ep) : ∀ k : Nat, k < m → Rch ep 0 (k : Int)
  | 0, _ => .refl
  | k + 1, hk => .step (h.rch k (by omega)) ((h _ _).mpr (by omega))
theorem PathE.few {m : Nat} {ep : List (Int × Int)} (h : PathE m ep) (x : Int) (rs : List Int) (nd : rs.Nodup) (hr : ∀ y ∈ rs, y ∈ near ep x) : rs.length < 64 := by
  have := nodup_len (m := [x - 1, x + 1]) nd fun y hy => by
    have := (h x y).mp (hr y hy)
    rcases this.2.2.2.2 with e | e
    · rw [e]
      simp
    · have : y = x - 1 := by omega
      rw [this]
      simp
  have e : ([x - 1, x + 1] : List Int).length = 2 := rfl
  omega
theorem row_step {m : Nat} {ep : List (Int × Int)} (h : PathE m ep) {ns : List Int} (hr : Row ep ns) {k : Nat} {x : Int} (hx : ns[k]? = some x) : ∀ (l : Nat) (y : Int), ns[k + l]? = some y → y ≤ x + l ∧ x ≤ y + l
  | 0, y, hy => by
    rw [Nat.add_zero, hx] at hy
    obtain rfl := Option.some.inj hy
    omega
  | l + 1, y, hy => by
    have l1 := (List.getElem?_eq_some_iff.mp hy).1
    have hz : ns[k + l]? = some ns[k + l] := List.getElem?_eq_getElem (by omega)
    have a := row_step h hr hx l _ hz
    have b := ((h _ _).mp (hr (k + l) _ _ hz hy)).2.2.2.2
    omega
theorem row_fwd {m : Nat} {ep : List (Int × Int)} (h : PathE m ep) {ns : List Int} (hr : Row ep ns) (m1 : 1 ≤ m) (hh : ns.head? = some 0) (hl : ns.getLast? = some ((m : Int) - 1)) (hz : ns.length ≤ m) : ns = (List.range m).map Int.ofNat := by
  have h0 : ns[0]? = some 0 := by rw [← List.head?_eq_getElem?]; exact hh
  have pos := (List.getElem?_eq_some_iff.mp h0).1
  have hL : ns[ns.length - 1]? = some ((m : Int) - 1) := by rw [← List.getLast?_eq_getElem?]; exact hl
  have len : ns.length = m := by
    have := row_step h hr h0 (ns.length - 1) _ (by rw [Nat.zero_add]; exact hL)
    omega
  refine List.ext_getElem? fun k => ?_
  by_cases c : k < ns.length
  · have hk : ns[k]? = some ns[k] := List.getElem?_eq_getElem c
    have a := row_step h hr h0 k _ (by rw [Nat.zero_add]; exact hk)
    have b := row_step h hr hk (ns.length - 1 - k) _ (by rw [show k + (ns.length - 1 - k) = ns.length - 1 by omega]; exact hL)
    rw [hk, List.getElem?_map, List.getElem?_range (by omega)]
    show some _ = some _
    congr 1
    show ns[k] = (k : Int)
    omega
  · rw [List.getElem?_eq_none (by omega), List.getElem?_eq_none (by rw [List.length_map, List.length_range]; omega)]
theorem row_bwd {m : Nat} {ep : List (Int × Int)} (h : PathE m ep) {ns : List Int} (hr : Row ep ns) (m1 : 1 ≤ m) (hh : ns.head? = some ((m : Int) - 1)) (hl : ns.getLast? = some 0) (hz : ns.length ≤ m) : ns = ((List.range m).map Int.ofNat).reverse := by
  have h0 : ns[0]? = some ((m : Int) - 1) := by rw [← List.head?_eq_getElem?]; exact hh
  have pos := (List.getElem?_eq_some_iff.mp h0).1
  have hL : ns[ns.length - 1]? = some 0 := by rw [← List.getLast?_eq_getElem?]; exact hl
  have len : ns.length = m := by
    have := row_step h hr h0 (ns.length - 1) _ (by rw [Nat.zero_add]; exact hL)
    omega
  refine List.ext_getElem? fun k => ?_
  by_cases c : k < ns.length
  · have hk : ns[k]? = some ns[k] := List.getElem?_eq_getElem c
    have a := row_step h hr h0 k _ (by rw [Nat.zero_add]; exact hk)
    have b := row_step h hr hk (ns.length - 1 - k) _ (by rw [show k + (ns.length - 1 - k) = ns.length - 1 by omega]; exact hL)
    rw [hk, List.getElem?_reverse (by rw [List.length_map, List.length_range]; omega), List.length_map, List.length_range, List.getElem?_map, List.getElem?_range (by omega)]
    show some _ = some _
    congr 1
    show ns[k] = ((m - 1 - k : Nat) : Int)
    omega
  · rw [List.getElem?_eq_none (by omega), List.getElem?_eq_none (by rw [List.length_reverse, List.length_map, List.length_range]; omega)]
theorem rch_side {ep : List (Int × Int)} {t : Int} (h : ∀ p ∈ ep, p.1 ≤ t ↔ p.2 ≤ t) {x y : Int} (r : Rch ep x y) : x ≤ t ↔ y ≤ t := by
  induction r with
  | refl => exact Iff.rfl
  | step _ mm ih =>
    rcases mem_near.mp mm with z | z
    · exact ih.trans (h _ z)
    · exact ih.trans (h _ z).symm
/-- [a, b][i] of new tuples -/
theorem eu_pick2 {K : PySem.W.Frag} {σ : L2.St} {H : Hp} {ta tb ti : TE} {xs ys : List V} {i : Int} (h1 : EvU ta σ H xs) (h2 : ∀ H1, Ex H H1 → EvU tb σ H1 ys) (hi : ∀ H1, Ex H H1 → Ev ti σ H1 (.int i)) (b : i = 0 ∨ i = 1) : EvU (tOp (rIxL K) (tLst (tCons ta (tCons tb tNil))) ti) σ H (if i = 0 then xs else ys) := fun H1 e Q q =>
  h1 H1 e _ fun p H2 hp e2 g2 => h2 H2 (e.trans e2) H2 (Ex.refl H2) _ fun r H3 hr e3 g3 => ⟨sz_of (by simp), fun l hl => by
    have eN : Ex H3 (upd H3 l (.lst [V.ref p, V.ref r])) := Ex.new hl
    have e03 := (e.trans e2).trans e3
    refine hi _ (e03.trans eN) _ (Ex.refl _) _ fun H4 e4 => ?_
    have hl4 : SqL K H4 l [V.ref p, V.ref r] := sq_of (e4 _ _ upd_same)
    rcases b with rfl | rfl
    · exact rv_ixL hl4 (atI_nat (j := 0) rfl) H4 (Ex.refl H4) _ fun H5 e5 => q p H5 hp (((e2.trans e3).trans (eN.trans e4)).trans e5) (e5 _ _ ((eN.trans e4) _ _ (e3 _ _ g2)))
    · exact rv_ixL hl4 (atI_nat (j := 1) rfl) H4 (Ex.refl H4) _ fun H5 e5 => q r H5 (fresh_back e2 hr) (((e2.trans e3).trans (eN.trans e4)).trans e5) (e5 _ _ ((eN.trans e4) _ _ g3))⟩
theorem cutV_at {α : Type} (g : α → V) (ls : List α) (k : Nat) : cutV (ls.map g) none (some (k : Int)) = (ls.take k).map g ∧ cutV (ls.map g) (some (k : Int)) none = (ls.drop k).map g := by
  unfold cutV
  rw [HT.sIx_nat, HT.sIx_none, HT.sIx_nat, HT.sIx_none, List.length_map, ← List.map_drop, ← List.map_take, ← List.map_drop, ← List.map_take]
  refine ⟨?_, ?_⟩
  · congr 1
    rw [List.drop_zero, Nat.sub_zero]
    rcases Nat.le_total k ls.length with h | h
    · rw [Nat.min_eq_left h]
    · rw [Nat.min_eq_right h, List.take_length, List.take_of_length_le h]
  · congr 1
    rcases Nat.le_total k ls.length with h | h
    · rw [Nat.min_eq_left h, List.take_of_length_le (by rw [List.length_drop]; exact Nat.le_refl _)]
    · rw [Nat.min_eq_right h, List.drop_length, List.drop_of_length_le h]
      exact List.take_nil
theorem ev_isNonX {σ : L2.St} {H : Hp} {ta : TE} (h : EvX ta σ H (fun v _ => v = .non)) : Ev (tOp (fun x y H Q => y = V.non ∧ Q (V.bl (decide (x = V.non))) H) ta (tC .non)) σ H (.bl true) := fun H1 e Q q =>
  h H1 e _ fun v H2 e2 r => by
    subst r
    exact ev_c H2 (Ex.refl H2) _ fun H3 e3 => ⟨rfl, q H3 (e2.trans e3)⟩
def D_l_path_right : Hp → List V → V → Prop := fun _ vs v => ∃ n : Int, vs = [.int n] ∧ 0 ≤ n ∧ v = .bl true
theorem ok_l_path_right (T : Txt K mg base) : FnOk P w K mg base CX0 3 T.a_l_path_right T.d_l_path_right ["_law_number"] (SpVal D_l_path_right) := by
  refine T.F_l_path_right.ok sc_l_path_right (fun vs H Q E h => ?_) (fun cdv A outer s H vs Q E hr h => ?_)
  · obtain ⟨v, ⟨n, rfl, _⟩, _⟩ := h
    rfl
  · obtain ⟨v, ⟨n, rfl, n0, rfl⟩, q⟩ := h
    refine ⟨_, (pss_cons (ps_set (i := 1) sc_l_path_right.nd rfl (.inl rfl) (pe_op op_add pe_int (pe_op op_mod (pv 0) pe_int)))
      (pss_cons (ps_setLc (i := 2) (own := [("_law_k", 3)]) (g := gName 3) (tt := tYes) rfl sc_l_path_right.nd rfl rfl (sw_true rfl rfl rfl (by decide +kernel)) (pi_range1 (by rfl) T.z_range (pa_cons (pe_op op_sub (pv 1) pe_int) pa_nil)) (blkOk_by (N := ["_law_number", "_law_many", "_law_pairs", "_law_k", "_law_turn", "_law_due"]) (sc := defScope s_l_path_right) (by decide +kernel)) (fun _ _ _ _ _ => (pg_name (i := 3) sc_l_path_right.nd rfl (Or.inl rfl))) (fun _ _ _ _ _ => pts_nil) (fun _ _ _ _ _ => (pe_ix (show IxR _ (rIxL K) from ix_list) (pe_lst (pa_cons (pe_tup (pa_cons (pv 3) (pa_cons (pe_op op_add (pv 3) pe_int) pa_nil))) (pa_cons (pe_tup (pa_cons (pe_op op_add (pv 3) pe_int) (pa_cons (pv 3) pa_nil))) pa_nil))) (pe_op op_mod (pe_op op_add (pv 3) (pv 0)) pe_int) (fun _ _ => rfl))))
      (pss_cons (ps_set (i := 4) sc_l_path_right.nd rfl (.inl rfl) (pe_op op_mod (pe_op op_fdiv (pv 0) pe_int) (pe_op op_sub (pv 1) pe_int)))
      (pss_cons (ps_set (i := 2) sc_l_path_right.nd rfl (.inl rfl) (pe_op op_cat (pe_slice sl_list (pv 2) (po_some (pv 4)) po_none) (pe_slice sl_list (pv 2) po_none (po_some (pv 4)))))
      (pss_cons (ps_set (i := 5) sc_l_path_right.nd rfl (.inl rfl) (pe_listRg rfl (by rfl) T.z_list (prg_1 (by rfl) T.z_range (pv 1))))
      (pss_cons (ps_if (PW.pt (pw_or (pt_cmpR (op_neD hr.units) (pe_call (ok_p_chain T) (hr.mono (by decide)) rfl T.g_p_chain T.F_p_chain.kp T.b_p_chain .nil pass0 (pa_cons (pv 2) (pa_cons (pv 1) (pa_cons pe_int (pa_cons (pe_op op_sub (pv 1) pe_int) pa_nil))))) (pv 5) (nomark _)) (pw_or1 (pt_cmpR (op_neD hr.units) (pe_call (ok_p_chain T) (hr.mono (by decide)) rfl T.g_p_chain T.F_p_chain.kp T.b_p_chain .nil pass0 (pa_cons (pv 2) (pa_cons (pv 1) (pa_cons (pe_op op_sub (pv 1) pe_int) (pa_cons pe_int pa_nil))))) (pe_revL (pv 5)) (nomark _)))))
      (pss_one (ps_ret pe_bl))
      pss_nil)
      (pss_one (ps_ret (pe_cmpR op_isN (pe_call (ok_p_chain T) (hr.mono (by decide)) rfl T.g_p_chain T.F_p_chain.kp T.b_p_chain .nil pass0 (pa_cons (pe_slice sl_list (pv 2) (po_some pe_int) po_none) (pa_cons (pv 1) (pa_cons pe_int (pa_cons (pe_op op_sub (pv 1) pe_int) pa_nil))))) pe_non (nomark _)))))))))), ?_⟩
    obtain ⟨m, hm, m60, m200⟩ : ∃ m : Nat, 60 + n % 141 = (m : Int) ∧ 60 ≤ m ∧ m ≤ 200 := ⟨(60 + n % 141).toNat, by omega, by omega, by omega⟩
    refine q_asg (v := .int m) (ev_is (ev_op ev_c (ev_op (ev_var rfl) ev_c (rv_I (by decide))) rv_I0) (congrArg V.int hm)) fun H1 e1 => ?_
    refine q_asgX (evx_lcTupsR (K := K) (N := m - 1) (M := (m : Int) - 1) (picks n) (ea_cons (ev_op (ev_var rfl) ev_c rv_I0) ea_nil) (by omega) (by omega) (by omega) (fun _ => rfl) (fun k H2 hk e2 => ?_)) fun v H2 e2 r => ?_
    · have e2 : (picks n k).map V.int = if ((k : Int) + n) % 2 = 0 then [V.int (k : Int), .int ((k : Int) + 1)] else [.int ((k : Int) + 1), .int (k : Int)] := by
        unfold picks
        split <;> rfl
      rw [e2]
      exact eu_pick2 (K := K) (xs := [.int (k : Int), .int ((k : Int) + 1)]) (ys := [.int ((k : Int) + 1), .int (k : Int)]) (i := ((k : Int) + n) % 2) (eu_tup (vs := [.int (k : Int), .int ((k : Int) + 1)]) (ea_cons (ev_var rfl) (ea_cons (ev_op (ev_var rfl) ev_c rv_I0) ea_nil)) (by simp)) (fun H3 e3 => eu_tup (vs := [.int ((k : Int) + 1), .int (k : Int)]) (ea_cons (ev_op (ev_var rfl) ev_c rv_I0) (ea_cons (ev_var rfl) ea_nil)) (by simp)) (fun H3 e3 => ev_op (ev_op (ev_var rfl) (ev_var rfl) rv_I0) ev_c (rv_I (by decide))) (by omega)
    obtain ⟨D, ts, rfl, hD, hts, hf⟩ := r
    let ps : List (Addr × Int × Int) := ts.map fun c => (c.1, c.2.getD 0 0, c.2.getD 1 0)
    have pR : ts.map (fun c => V.ref c.1) = ps.map fun p => V.ref p.1 := by
      show _ = (ts.map _).map _
      rw [List.map_map]
      rfl
    have pE : ps.map (·.2) = basP n m := by
      have h1 : ps.map (·.2) = (ts.map (·.2)).map fun l => (l.getD 0 0, l.getD 1 0) := by
        show (ts.map _).map _ = _
        rw [List.map_map, List.map_map]
        rfl
      rw [h1, hf, List.map_map]
      refine List.map_congr_left fun k _ => ?_
      show ((picks n k).getD 0 0, (picks n k).getD 1 0) = picksP n k
      rw [picks_is]
      rfl
    have pT : PairsT H2 ps := fun p hp => by
      obtain ⟨c, mc, rfl⟩ := List.mem_map.mp hp
      have h1 := hts c mc
      have h2 : c.2 ∈ (List.range (m - 1)).map (picks n) := hf ▸ List.mem_map.mpr ⟨c, mc, rfl⟩
      obtain ⟨k, _, e⟩ := List.mem_map.mp h2
      rw [← e, picks_is] at h1
      refine ⟨[], ?_⟩
      show H2 c.1 = some (.tup [.int (c.2.getD 0 0), .int (c.2.getD 1 0)])
      rw [h1, ← e, picks_is]
      rfl
    rw [pR] at hD
    have pz : ps.length = m - 1 := by
      have h1 := congrArg List.length pE
      rw [show (basP n m).length = m - 1 from by unfold basP; rw [List.length_map, List.length_range], List.length_map] at h1
      exact h1
    generalize ps = qs at hD pE pT pz
    obtain ⟨t, ht, tl⟩ : ∃ t : Nat, n / 141 % ((m : Int) - 1) = t ∧ t < m - 1 := ⟨(n / 141 % ((m : Int) - 1)).toNat, by have := Int.emod_nonneg (n / 141) (show (m : Int) - 1 ≠ 0 by omega); omega, by have := Int.emod_nonneg (n / 141) (show (m : Int) - 1 ≠ 0 by omega); have := Int.emod_lt_of_pos (n / 141) (show (0 : Int) < (m : Int) - 1 by omega); omega⟩
    refine q_asg (v := .int t) (ev_is (ev_op (ev_op (ev_var rfl) ev_c (rv_I ⟨by decide, by decide⟩)) (ev_op (ev_var rfl) ev_c rv_I0) (rv_I (by omega))) (congrArg V.int ht)) fun H3 e3 => ?_
    have hD3 := e3 _ _ hD
    refine q_asgL (xs := (qs.drop t ++ qs.take t).map fun p => V.ref p.1) (el_is (el_cat (el_is (el_sl (K := K) (ev_var rfl) (eo_some (ev_var rfl)) eo_none (sq_of hD3)) (cutV_at (fun p : Addr × Int × Int => V.ref p.1) qs t).2) (el_is (el_sl (K := K) (ev_var rfl) eo_none (eo_some (ev_var rfl)) (sq_of hD3)) (cutV_at (fun p : Addr × Int × Int => V.ref p.1) qs t).1) (by rw [List.length_map, List.length_map, List.length_drop, List.length_take]; omega)) (by rw [List.map_append])) fun D4 H4 _ e4 h4 => ?_
    have rT : PairsT H4 (qs.drop t ++ qs.take t) := fun p hp => (pT p (by
      rcases List.mem_append.mp hp with z | z
      · exact List.mem_of_mem_drop z
      · exact List.mem_of_mem_take z)).later (e3.trans e4)
    have rE : (qs.drop t ++ qs.take t).map (·.2) = (basP n m).drop t ++ (basP n m).take t := by
      rw [List.map_append, List.map_drop, List.map_take, pE]
    have rz : (qs.drop t ++ qs.take t).length ≤ 200 := by
      rw [List.length_append, List.length_drop, List.length_take]
      omega
    generalize qs.drop t ++ qs.take t = rs at h4 rT rE rz
    have path : PathE m (rs.map (·.2)) := pathE_of (n := n) fun p => by
      rw [rE, List.mem_append, ← List.mem_append.trans or_comm, List.take_append_drop]
    have inR : InR m (rs.map (·.2)) := fun p hp => by
      have := (path p.1 p.2).mp (mem_near.mpr (.inl hp))
      omega
    refine q_asgL (xs := ((List.range (m : Int).toNat).map Int.ofNat).map V.int) (el_listRg (ev_var rfl) (by omega) (by omega)) fun D5 H5 _ e5 h5 => ?_
    rw [Int.toNat_natCast] at h5
    have e45 := e5
    have call : ∀ (H' : Hp) (σ' : L2.St) (ti tj : TE) (i j : Int), Ex H5 H' → σ'[2]? = some (some (.ref D4)) → σ'[1]? = some (some (.int m)) → Ev ti σ' H' (.int i) → (∀ H1, Ex H' H1 → Ev tj σ' H1 (.int j)) → (0 ≤ j ∧ j < m) → Rch (rs.map (·.2)) j i →
        EvX (tCall (SpR D_p_chain_all) [] E0 (tCons (tVar 2) (tCons (tVar 1) (tCons ti (tCons tj tNil))))) σ' H' (fun v H2 => ∃ (p : Addr) (ns : List Int), v = .ref p ∧ H2 p = some (.lst (ns.map V.int)) ∧ ns.head? = some i ∧ ns.getLast? = some j ∧ Row (rs.map (·.2)) ns ∧ ns.length ≤ m) := fun H' σ' ti tj i j e s2 s1 hi hj0 hj hr =>
      evx_call (vs := [.ref D4, .int m, .int i, .int j]) (ea_cons (ev_var s2) (ea_cons (ev_var s1) (ea_cons hi (ea_cons (hj0 _ (Ex.refl _)) ea_nil)))) fun H6 e6 => ⟨_, ⟨D4, i, j, m, rs, rfl, (e5.trans (e.trans e6)) _ _ h4, rT.later (e5.trans (e.trans e6)), by omega, inR, hj, by omega, path.few, rfl⟩, fun v H7 e7 r => by
        rcases r with ⟨nr, _⟩ | ⟨_, p, ns, D, rfl, _, a1, a2, a3, a4, _, _, _, a5, _⟩
        · exact absurd hr nr
        · exact ⟨p, ns, rfl, a1, a2, a3, a4, a5⟩⟩
    have r0 : Rch (rs.map (·.2)) 0 ((m : Int) - 1) := by
      have := path.rch (m - 1) (by omega)
      rwa [show ((m - 1 : Nat) : Int) = (m : Int) - 1 by omega] at this
    refine q_when (b := false || false) (et_or (et_test (ev_neIntsX (ns := (List.range m).map Int.ofNat) (evx_mono (call H5 _ _ _ 0 ((m : Int) - 1) (Ex.refl _) rfl rfl ev_c (fun _ _ => ev_op (ev_var rfl) ev_c rv_I0) (by omega) r0.symm) fun v H6 e6 r => ?_) fun H6 e6 => evx_mono (evx_of (ev_var rfl)) fun v H7 e7 r => ⟨D5, r, (e6.trans e7) _ _ h5⟩)) fun _ => et_test (ev_neIntsX (ns := ((List.range m).map Int.ofNat).reverse) (evx_mono (call H5 _ _ _ ((m : Int) - 1) 0 (Ex.refl _) rfl rfl (ev_op (ev_var rfl) ev_c rv_I0) (fun _ _ => ev_c) (by omega) r0) fun v H6 e6 r => ?_) fun H6 e6 => evx_mono (evx_ofLR (el_revL (ev_var rfl) (sq_of (e6 _ _ h5)))) fun v H7 e7 r => ?_)) (fun h => nomatch h) fun _ H6 e6 => ?_
    · obtain ⟨p, ns, rfl, h6, a1, a2, a3, a4⟩ := r
      exact ⟨p, rfl, by rw [← row_fwd path a3 (by omega) a1 a2 a4]; exact h6⟩
    · obtain ⟨p, ns, rfl, h6, a1, a2, a3, a4⟩ := r
      exact ⟨p, rfl, by rw [← row_bwd path a3 (by omega) a1 a2 a4]; exact h6⟩
    · obtain ⟨p, rfl, h7⟩ := r
      exact ⟨p, rfl, by rw [h7, List.map_reverse]⟩
    have tE : (rs.drop 1).map (·.2) = (basP n m).drop (t + 1) ++ (basP n m).take t := by
      rw [List.map_drop, rE, List.drop_append_of_le_length (by unfold basP; rw [List.length_drop, List.length_map, List.length_range]; omega), List.drop_drop]
    have bz : (basP n m).length = m - 1 := by
      unfold basP
      rw [List.length_map, List.length_range]
    have tside : ∀ p ∈ (rs.drop 1).map (·.2), p.1 ≤ (t : Int) ↔ p.2 ≤ (t : Int) := fun p hp => by
      rw [tE] at hp
      obtain ⟨k, hk, kt⟩ : ∃ k : Nat, p = picksP n k ∧ k ≠ t := by
        rcases List.mem_append.mp hp with z | z
        · obtain ⟨i, hi⟩ := List.getElem?_of_mem z
          rw [List.getElem?_drop] at hi
          unfold basP at hi
          rw [List.getElem?_map] at hi
          obtain ⟨a, ha, rfl⟩ := Option.map_eq_some_iff.mp hi
          have := (List.getElem?_eq_some_iff.mp ha).2
          rw [List.getElem_range] at this
          exact ⟨a, rfl, by omega⟩
        · obtain ⟨i, hi⟩ := List.getElem?_of_mem z
          have il := (List.getElem?_eq_some_iff.mp hi).1
          rw [List.length_take] at il
          rw [List.getElem?_take_of_lt (by omega)] at hi
          unfold basP at hi
          rw [List.getElem?_map] at hi
          obtain ⟨a, ha, rfl⟩ := Option.map_eq_some_iff.mp hi
          have := (List.getElem?_eq_some_iff.mp ha).2
          rw [List.getElem_range] at this
          exact ⟨a, rfl, by omega⟩
      rcases picksP_or n k with e | e
      · rw [hk, e]
        show (k : Int) ≤ t ↔ (k : Int) + 1 ≤ t
        omega
      · rw [hk, e]
        show (k : Int) + 1 ≤ t ↔ (k : Int) ≤ t
        omega
    have tsub : ∀ p ∈ rs.drop 1, p ∈ rs := fun p hp => List.mem_of_mem_drop hp
    refine s_ret (v := .bl true) (ev_isNonX (evx_mono (evx_call1 (R := fun v _ => v = .non) (evx_ofLR (el_is (el_sl (K := K) (ev_var rfl) (eo_some ev_c) eo_none (sq_of ((e5.trans e6) _ _ h4))) (cutV_at (fun p : Addr × Int × Int => V.ref p.1) rs 1).2)) fun v H7 e7 r => ?_) fun v _ _ r => r)) fun H7 e7 => q _ (((((e1.trans e2).trans e3).trans e4).trans e5).trans (e6.trans e7))
    obtain ⟨p, rfl, h7⟩ := r
    refine ⟨[.int m, .int 0, .int ((m : Int) - 1)], ea_cons (ev_var rfl) (ea_cons ev_c (ea_cons (ev_op (ev_var rfl) ev_c rv_I0) ea_nil)), fun H8 e8 => ⟨_, ⟨p, 0, (m : Int) - 1, m, rs.drop 1, rfl, e8 _ _ h7, fun x hx => (rT x (tsub x hx)).later ((e5.trans e6).trans (e7.trans e8)), by rw [List.length_drop]; omega, fun x hx => ?_, by omega, by omega, fun x l nd hl => path.few x l nd fun y hy => ?_, rfl⟩, fun v H9 e9 r => ?_⟩⟩
    · obtain ⟨y, my, rfl⟩ := List.mem_map.mp hx
      exact inR _ (List.mem_map.mpr ⟨y, tsub y my, rfl⟩)
    · have sub : ∀ z ∈ (rs.drop 1).map (·.2), z ∈ rs.map (·.2) := fun z hz => by
        obtain ⟨y, my, rfl⟩ := List.mem_map.mp hz
        exact List.mem_map.mpr ⟨y, tsub y my, rfl⟩
      exact mem_near.mpr ((mem_near.mp (hl y hy)).imp (sub _) (sub _))
    · rcases r with ⟨_, rfl⟩ | ⟨r, _⟩
      · rfl
      · have := rch_side tside r
        omega

def spLaw (K : PySem.W.Frag) : Sp := fun vs H Q _ => ∃ (a : Addr) (ns : List Int), vs = [.ref a] ∧ SqL K H a (ns.map V.int) ∧ ns.length ≤ 63 ∧ ∀ H', Q (.bl true) H'
theorem ok_p_law (T : Txt K mg base) {f : Addr} {fd : FuncData} (F : Fun K "law" "law" s_p_law f fd) : FnOk P w K mg base CX0 4 f fd ["_law_script"] (spLaw K) := by
  refine F.ok sc_p_law (fun vs H Q E h => ?_) (fun cdv A outer s H vs Q E hr h => ?_)
  · obtain ⟨a, ns, rfl, _⟩ := h
    rfl
  · obtain ⟨a, ns, rfl, hs, hn, q⟩ := h
    refine ⟨_, (pss_cons (ps_set (i := 0) sc_p_law.nd rfl (.inr rfl) (pe_call (ok_l_cut T) (hr.mono (by decide)) rfl T.g_l_cut T.F_l_cut.kp T.b_l_cut .nil pass0 (pa_cons (pv 0) pa_nil)))
      (pss_cons (ps_if (pt_not (pt_val (pe_call (ok_l_path_right T) (hr.mono (by decide)) rfl T.g_l_path_right T.F_l_path_right.kp T.b_l_path_right .nil pass0 (pa_cons (pe_call (ok_l_mix T) (hr.mono (by decide)) rfl T.g_l_mix T.F_l_mix.kp T.b_l_mix .nil pass0 (pa_cons (pe_call (ok_l_cell_at T) (hr.mono (by decide)) rfl T.g_l_cell_at T.F_l_cell_at.kp T.b_l_cell_at .nil pass0 (pa_cons (pv 0) (pa_cons pe_int pa_nil))) (pa_cons pe_int pa_nil))) pa_nil))))
      (pss_one (ps_ret pe_bl))
      pss_nil)
      (pss_cons (ps_set (i := 1) sc_p_law.nd rfl (.inr rfl) (pe_call (ok_l_count T) (hr.mono (by decide)) rfl T.g_l_count T.F_l_count.kp T.b_l_count .nil pass0 (pa_cons (pv 0) pa_nil)))
      (pss_cons (ps_set (i := 2) sc_p_law.nd rfl (.inl rfl) (pe_call (ok_l_some_pairs T) (hr.mono (by decide)) rfl T.g_l_some_pairs T.F_l_some_pairs.kp T.b_l_some_pairs .nil pass0 (pa_cons (pv 0) (pa_cons (pv 1) pa_nil))))
      (pss_cons (ps_setLc (i := 3) (own := [("_law_k", 4)]) (g := gName 4) (tt := tYes) rfl sc_p_law.nd rfl rfl (sw_true rfl rfl rfl (by decide +kernel)) (pi_range1 (by rfl) T.z_range (pa_cons pe_int pa_nil)) (blkOk_by (N := ["_law_script", "_law_many", "_law_pairs", "_law_some", "_law_k", "_law_i", "_law_j"]) (sc := defScope s_p_law) (by decide +kernel)) (fun _ _ _ _ _ => (pg_name (i := 4) sc_p_law.nd rfl (Or.inl rfl))) (fun _ _ _ _ _ => by exact pts_nil) (fun _ _ _ _ _ => by exact (pe_op op_mod (pe_call (ok_l_mix T) (hr.mono (by decide)) rfl T.g_l_mix T.F_l_mix.kp T.b_l_mix .nil pass0 (pa_cons (pe_call (ok_l_cell_at T) (hr.mono (by decide)) rfl T.g_l_cell_at T.F_l_cell_at.kp T.b_l_cell_at .nil pass0 (pa_cons (pv 0) (pa_cons pe_int pa_nil))) (pa_cons (pv 4) pa_nil))) (pv 1))))
      (pss_cons (ps_for PassesOwn.never rfl (pi_list (pv 3)) (pg_name (i := 5) sc_p_law.nd rfl (.inl rfl))
      (pss_one (ps_for PassesOwn.never rfl (pi_list (pv 3)) (pg_name (i := 6) sc_p_law.nd rfl (.inl rfl))
      (pss_one (ps_if (pt_not (pt_val (pe_call (ok_l_right T) (hr.mono (by decide)) rfl T.g_l_right T.F_l_right.kp T.b_l_right .nil pass0 (pa_cons (pv 2) (pa_cons (pv 1) (pa_cons (pv 5) (pa_cons (pv 6) pa_nil)))))))
      (pss_one (ps_ret pe_bl))
      pss_nil)))))
      (pss_one (ps_ret pe_bl)))))))), ?_⟩
    refine q_asgL (el_callL (by walk_at "mu g") fun H1 e1 => ⟨a, ns, rfl, ex_l e1 hs, hn, rfl⟩) fun p0 H1 hp0 e1 h1 => ?_
    generalize ns.map cutI = cs at h1
    have cell : ∀ (k : Nat) (H' : Hp) (σ' : L2.St) (tc : TE), Ex H1 H' → σ'[0]? = some (some (.ref p0)) → Ev tc σ' H' (.int (k : Int)) → Ev (tCall (SpVal (D_l_cell_at K)) [] E0 (tCons (tVar 0) (tCons tc tNil))) σ' H' (.int (cs.getD k 0)) := fun k H' σ' tc e hσ h =>
      ev_callV (vs := [.ref p0, .int k]) (ea_cons (ev_var hσ) (ea_cons h ea_nil)) fun _ e2 => ⟨p0, cs, k, rfl, sq_of ((e.trans e2) p0 _ h1), rfl⟩
    have c0 := mix_nn (cs.getD 0 0) 0
    have c2 := mix_nn (cs.getD 0 0) 2
    refine q_when (b := !true) (et_not (et_B (ev_callV (vs := [.int (mix (cs.getD 0 0) 2)]) (ea_cons (ev_callV (vs := [.int (cs.getD 0 0), .int 2]) (ea_cons (cell 0 _ _ _ (Ex.refl _) rfl ev_c) (ea_cons ev_c ea_nil)) fun _ _ => ⟨_, 2, rfl, by omega, rfl⟩) ea_nil) fun _ _ => ⟨_, rfl, c2, rfl⟩))) (fun h => nomatch h) fun _ H2 e2 => ?_
    obtain ⟨m, hm, m1, m30⟩ : ∃ m : Nat, 1 + mix (cs.getD 0 0) 0 % 30 = (m : Int) ∧ 1 ≤ m ∧ m ≤ 30 := ⟨(1 + mix (cs.getD 0 0) 0 % 30).toNat, by omega, by omega, by omega⟩
    refine q_asg (v := .int m) (ev_is (ev_callV (vs := [.ref p0]) (by walk_at "mu g") fun _ e => ⟨p0, cs, rfl, sq_of ((e2.trans e) p0 _ h1), rfl⟩) (congrArg V.int hm)) fun H3 e3 => ?_
    refine q_asgX (R := fun v H' => ∃ (p : Addr) (ps : List (Addr × Int × Int)), v = .ref p ∧ H' p = some (.lst (ps.map fun p => V.ref p.1)) ∧ PairsT H' ps ∧ InR m (ps.map (·.2)) ∧ ps.length ≤ 100) (evx_call (vs := [.ref p0, .int m]) (by walk_at "mu g") fun H4 e4 => ⟨_, ⟨p0, cs, m, rfl, sq_of (((e2.trans e3).trans e4) p0 _ h1), m1, by omega, rfl⟩, fun v H5 _ r => by
      obtain ⟨p, ps, rfl, _, r⟩ := r
      exact ⟨p, ps, rfl, r⟩⟩) fun v H4 e4 r => ?_
    obtain ⟨pp, ps, rfl, hpp, hps, hin, zps⟩ := r
    have e14 := (e2.trans e3).trans e4
    refine q_asgL (xs := ((List.range 8).map fun k : Nat => mix (cs.getD 9 0) k % (m : Int)).map V.int) (el_is (el_lcR1 (n := 8) (fun _ => true) (fun k => .int (mix (cs.getD 9 0) k % (m : Int))) (ea_cons ev_c ea_nil) (by decide) (fun _ => rfl) (fun k H5 e5 hk H6 e6 Q q => q H6 (Ex.refl H6)) (fun k H5 e5 hk _ => ev_op (ev_callV (vs := [.int (cs.getD 9 0), .int (k : Int)]) (ea_cons (cell 9 _ _ _ (e14.trans e5) rfl ev_c) (ea_cons (ev_var rfl) ea_nil)) fun _ _ => ⟨_, k, rfl, by omega, rfl⟩) (ev_var rfl) (rv_I (by omega)))) rfl) fun ps2 H5 _ e5 h5 => ?_
    have rng : ∀ x ∈ (List.range 8).map fun k : Nat => mix (cs.getD 9 0) k % (m : Int), 0 ≤ x ∧ x < (m : Int) := fun x hx => by
      obtain ⟨k, _, rfl⟩ := List.mem_map.mp hx
      exact ⟨Int.emod_nonneg _ (by omega), Int.emod_lt_of_pos _ (by omega)⟩
    generalize ((List.range 8).map fun k : Nat => mix (cs.getD 9 0) k % (m : Int)) = xs at h5 rng
    let J : Hp → L2.St → Prop := fun H' σ' => Ex H5 H' ∧ ∃ x4 x5 x6, σ' = [some (.ref p0), some (.int m), some (.ref pp), some (.ref ps2), x4, x5, x6]
    refine q_forLn (K := K) (a := ps2) (xs := xs.map V.int) (ev_var rfl) (sq_of h5) (fun n σ' H' => J H' σ') (fun H6 e6 => ⟨e6, _, _, _, rfl⟩) (fun n σ' H' _ hq => sq_of (hq.1 _ _ h5)) (fun n x σ' H6 hx hq => ?_) (fun σ' H6 hq => ?_)
    · obtain ⟨e6, x4, x5, x6, rfl⟩ := hq
      obtain ⟨i, _, mi, rfl⟩ := int_at hx
      refine s_forLn (K := K) (a := ps2) (xs := xs.map V.int) (ev_var rfl) (sq_of (e6 _ _ h5)) (fun n σ' H' => Ex H5 H' ∧ ∃ x4 x6, σ' = [some (.ref p0), some (.int m), some (.ref pp), some (.ref ps2), x4, some (.int i), x6]) (fun H7 e7 => ⟨e6.trans e7, _, _, rfl⟩) (fun n σ' H' _ hq => sq_of (hq.1 _ _ h5)) (fun n x σ' H7 hx hq => ?_) (fun σ' H7 hq => ?_)
      · obtain ⟨e7, x4, x6, rfl⟩ := hq
        obtain ⟨j, _, mj, rfl⟩ := int_at hx
        exact s_when (b := !true) (et_not (et_B (ev_callV (vs := [.ref pp, .int m, .int i, .int j]) (ea_cons (ev_var rfl) (ea_cons (ev_var rfl) (ea_cons (ev_var rfl) (ea_cons (ev_var rfl) ea_nil)))) fun _ e => ⟨pp, m, i, j, ps, rfl, (e5.trans (e7.trans e)) _ _ hpp, hps.later (e5.trans (e7.trans e)), zps, hin, rng i mi, rng j mj, by omega, rfl⟩))) (fun h => nomatch h) fun _ H8 e8 => ⟨e7.trans e8, _, _, rfl⟩
      · obtain ⟨e7, x4, x6, rfl⟩ := hq
        exact ⟨e7, _, _, _, rfl⟩
    · obtain ⟨e6, x4, x5, x6, rfl⟩ := hq
      exact s_ret (v := .bl true) (by walk_at "mu g") fun H6 e6 => q _

end
set_option maxHeartbeats 4000000 in
theorem all_mk {l : PySem.W.OpenLaw} {w : World} {K : PySem.W.Frag} {h : Heap} {mg : Str → Option Value} {fa : Addr} (X : K.In h) (G : h.Ns mainGlobals mg) (hfa : mg "law" = some (.ref fa))
    {oc_p_neighbours kV_p_neighbours dc_p_neighbours pm_p_neighbours cd_p_neighbours ct_p_neighbours : Value} {od_p_neighbours an_p_neighbours : Option Addr} {sl_p_neighbours : Array (Option Value)} {f_p_neighbours : Addr}
    {oc_p_reached_from kV_p_reached_from dc_p_reached_from pm_p_reached_from cd_p_reached_from ct_p_reached_from : Value} {od_p_reached_from an_p_reached_from : Option Addr} {sl_p_reached_from : Array (Option Value)} {f_p_reached_from : Addr}
    {oc_p_chain kV_p_chain dc_p_chain pm_p_chain cd_p_chain ct_p_chain : Value} {od_p_chain an_p_chain : Option Addr} {sl_p_chain : Array (Option Value)} {f_p_chain : Addr}
    {oc_p_is_chain kV_p_is_chain dc_p_is_chain pm_p_is_chain cd_p_is_chain ct_p_is_chain : Value} {od_p_is_chain an_p_is_chain : Option Addr} {sl_p_is_chain : Array (Option Value)} {f_p_is_chain : Addr}
    {oc_l_cell_at kV_l_cell_at dc_l_cell_at pm_l_cell_at cd_l_cell_at ct_l_cell_at : Value} {od_l_cell_at an_l_cell_at : Option Addr} {sl_l_cell_at : Array (Option Value)} {f_l_cell_at : Addr}
    {oc_l_mix kV_l_mix dc_l_mix pm_l_mix cd_l_mix ct_l_mix : Value} {od_l_mix an_l_mix : Option Addr} {sl_l_mix : Array (Option Value)} {f_l_mix : Addr}
    {oc_l_count kV_l_count dc_l_count pm_l_count cd_l_count ct_l_count : Value} {od_l_count an_l_count : Option Addr} {sl_l_count : Array (Option Value)} {f_l_count : Addr}
    {oc_l_behind kV_l_behind dc_l_behind pm_l_behind cd_l_behind ct_l_behind : Value} {od_l_behind an_l_behind : Option Addr} {sl_l_behind : Array (Option Value)} {f_l_behind : Addr}
    {oc_l_some_pairs kV_l_some_pairs dc_l_some_pairs pm_l_some_pairs cd_l_some_pairs ct_l_some_pairs : Value} {od_l_some_pairs an_l_some_pairs : Option Addr} {sl_l_some_pairs : Array (Option Value)} {f_l_some_pairs : Addr}
    {oc_l_near kV_l_near dc_l_near pm_l_near cd_l_near ct_l_near : Value} {od_l_near an_l_near : Option Addr} {sl_l_near : Array (Option Value)} {f_l_near : Addr}
    {oc_l_steps kV_l_steps dc_l_steps pm_l_steps cd_l_steps ct_l_steps : Value} {od_l_steps an_l_steps : Option Addr} {sl_l_steps : Array (Option Value)} {f_l_steps : Addr}
    {oc_l_right kV_l_right dc_l_right pm_l_right cd_l_right ct_l_right : Value} {od_l_right an_l_right : Option Addr} {sl_l_right : Array (Option Value)} {f_l_right : Addr}
    {oc_l_path_right kV_l_path_right dc_l_path_right pm_l_path_right cd_l_path_right ct_l_path_right : Value} {od_l_path_right an_l_path_right : Option Addr} {sl_l_path_right : Array (Option Value)} {f_l_path_right : Addr}
    {oc_l_cut kV_l_cut dc_l_cut pm_l_cut cd_l_cut ct_l_cut : Value} {od_l_cut an_l_cut : Option Addr} {sl_l_cut : Array (Option Value)} {f_l_cut : Addr}
    {oc_p_law kV_p_law dc_p_law pm_p_law cd_p_law ct_p_law : Value} {od_p_law an_p_law : Option Addr} {sl_p_law : Array (Option Value)} {f_p_law : Addr}
    (A_p_neighbours : PySem.W.nsIn K mainGlobals "_neighbours" = some (some (.ref f_p_neighbours))) (L_p_neighbours : K.lookup f_p_neighbours = some ⟨oc_p_neighbours, od_p_neighbours, .func (PySem.W.fnOf "_neighbours" "_neighbours" (defArgs s_p_neighbours) (defBody s_p_neighbours) (defScope s_p_neighbours) .none kV_p_neighbours dc_p_neighbours pm_p_neighbours an_p_neighbours cd_p_neighbours ct_p_neighbours), sl_p_neighbours⟩) (C_p_neighbours : PySem.W.codeIn K cd_p_neighbours "_neighbours" = true) (K_p_neighbours : PySem.W.keepIn K (.ref f_p_neighbours) = true)
    (A_p_reached_from : PySem.W.nsIn K mainGlobals "_reached_from" = some (some (.ref f_p_reached_from))) (L_p_reached_from : K.lookup f_p_reached_from = some ⟨oc_p_reached_from, od_p_reached_from, .func (PySem.W.fnOf "_reached_from" "_reached_from" (defArgs s_p_reached_from) (defBody s_p_reached_from) (defScope s_p_reached_from) .none kV_p_reached_from dc_p_reached_from pm_p_reached_from an_p_reached_from cd_p_reached_from ct_p_reached_from), sl_p_reached_from⟩) (C_p_reached_from : PySem.W.codeIn K cd_p_reached_from "_reached_from" = true) (K_p_reached_from : PySem.W.keepIn K (.ref f_p_reached_from) = true)
    (A_p_chain : PySem.W.nsIn K mainGlobals "chain" = some (some (.ref f_p_chain))) (L_p_chain : K.lookup f_p_chain = some ⟨oc_p_chain, od_p_chain, .func (PySem.W.fnOf "chain" "chain" (defArgs s_p_chain) (defBody s_p_chain) (defScope s_p_chain) .none kV_p_chain dc_p_chain pm_p_chain an_p_chain cd_p_chain ct_p_chain), sl_p_chain⟩) (C_p_chain : PySem.W.codeIn K cd_p_chain "chain" = true) (K_p_chain : PySem.W.keepIn K (.ref f_p_chain) = true)
    (A_p_is_chain : PySem.W.nsIn K mainGlobals "is_chain" = some (some (.ref f_p_is_chain))) (L_p_is_chain : K.lookup f_p_is_chain = some ⟨oc_p_is_chain, od_p_is_chain, .func (PySem.W.fnOf "is_chain" "is_chain" (defArgs s_p_is_chain) (defBody s_p_is_chain) (defScope s_p_is_chain) .none kV_p_is_chain dc_p_is_chain pm_p_is_chain an_p_is_chain cd_p_is_chain ct_p_is_chain), sl_p_is_chain⟩) (C_p_is_chain : PySem.W.codeIn K cd_p_is_chain "is_chain" = true) (K_p_is_chain : PySem.W.keepIn K (.ref f_p_is_chain) = true)
    (A_l_cell_at : PySem.W.nsIn K mainGlobals "_law_cell_at" = some (some (.ref f_l_cell_at))) (L_l_cell_at : K.lookup f_l_cell_at = some ⟨oc_l_cell_at, od_l_cell_at, .func (PySem.W.fnOf "_law_cell_at" "_law_cell_at" (defArgs s_l_cell_at) (defBody s_l_cell_at) (defScope s_l_cell_at) .none kV_l_cell_at dc_l_cell_at pm_l_cell_at an_l_cell_at cd_l_cell_at ct_l_cell_at), sl_l_cell_at⟩) (C_l_cell_at : PySem.W.codeIn K cd_l_cell_at "_law_cell_at" = true) (K_l_cell_at : PySem.W.keepIn K (.ref f_l_cell_at) = true)
    (A_l_mix : PySem.W.nsIn K mainGlobals "_law_mix" = some (some (.ref f_l_mix))) (L_l_mix : K.lookup f_l_mix = some ⟨oc_l_mix, od_l_mix, .func (PySem.W.fnOf "_law_mix" "_law_mix" (defArgs s_l_mix) (defBody s_l_mix) (defScope s_l_mix) .none kV_l_mix dc_l_mix pm_l_mix an_l_mix cd_l_mix ct_l_mix), sl_l_mix⟩) (C_l_mix : PySem.W.codeIn K cd_l_mix "_law_mix" = true) (K_l_mix : PySem.W.keepIn K (.ref f_l_mix) = true)
    (A_l_count : PySem.W.nsIn K mainGlobals "_law_count" = some (some (.ref f_l_count))) (L_l_count : K.lookup f_l_count = some ⟨oc_l_count, od_l_count, .func (PySem.W.fnOf "_law_count" "_law_count" (defArgs s_l_count) (defBody s_l_count) (defScope s_l_count) .none kV_l_count dc_l_count pm_l_count an_l_count cd_l_count ct_l_count), sl_l_count⟩) (C_l_count : PySem.W.codeIn K cd_l_count "_law_count" = true) (K_l_count : PySem.W.keepIn K (.ref f_l_count) = true)
    (A_l_behind : PySem.W.nsIn K mainGlobals "_law_behind" = some (some (.ref f_l_behind))) (L_l_behind : K.lookup f_l_behind = some ⟨oc_l_behind, od_l_behind, .func (PySem.W.fnOf "_law_behind" "_law_behind" (defArgs s_l_behind) (defBody s_l_behind) (defScope s_l_behind) .none kV_l_behind dc_l_behind pm_l_behind an_l_behind cd_l_behind ct_l_behind), sl_l_behind⟩) (C_l_behind : PySem.W.codeIn K cd_l_behind "_law_behind" = true) (K_l_behind : PySem.W.keepIn K (.ref f_l_behind) = true)
    (A_l_some_pairs : PySem.W.nsIn K mainGlobals "_law_some_pairs" = some (some (.ref f_l_some_pairs))) (L_l_some_pairs : K.lookup f_l_some_pairs = some ⟨oc_l_some_pairs, od_l_some_pairs, .func (PySem.W.fnOf "_law_some_pairs" "_law_some_pairs" (defArgs s_l_some_pairs) (defBody s_l_some_pairs) (defScope s_l_some_pairs) .none kV_l_some_pairs dc_l_some_pairs pm_l_some_pairs an_l_some_pairs cd_l_some_pairs ct_l_some_pairs), sl_l_some_pairs⟩) (C_l_some_pairs : PySem.W.codeIn K cd_l_some_pairs "_law_some_pairs" = true) (K_l_some_pairs : PySem.W.keepIn K (.ref f_l_some_pairs) = true)
    (A_l_near : PySem.W.nsIn K mainGlobals "_law_near" = some (some (.ref f_l_near))) (L_l_near : K.lookup f_l_near = some ⟨oc_l_near, od_l_near, .func (PySem.W.fnOf "_law_near" "_law_near" (defArgs s_l_near) (defBody s_l_near) (defScope s_l_near) .none kV_l_near dc_l_near pm_l_near an_l_near cd_l_near ct_l_near), sl_l_near⟩) (C_l_near : PySem.W.codeIn K cd_l_near "_law_near" = true) (K_l_near : PySem.W.keepIn K (.ref f_l_near) = true)
    (A_l_steps : PySem.W.nsIn K mainGlobals "_law_steps" = some (some (.ref f_l_steps))) (L_l_steps : K.lookup f_l_steps = some ⟨oc_l_steps, od_l_steps, .func (PySem.W.fnOf "_law_steps" "_law_steps" (defArgs s_l_steps) (defBody s_l_steps) (defScope s_l_steps) .none kV_l_steps dc_l_steps pm_l_steps an_l_steps cd_l_steps ct_l_steps), sl_l_steps⟩) (C_l_steps : PySem.W.codeIn K cd_l_steps "_law_steps" = true) (K_l_steps : PySem.W.keepIn K (.ref f_l_steps) = true)
    (A_l_right : PySem.W.nsIn K mainGlobals "_law_right" = some (some (.ref f_l_right))) (L_l_right : K.lookup f_l_right = some ⟨oc_l_right, od_l_right, .func (PySem.W.fnOf "_law_right" "_law_right" (defArgs s_l_right) (defBody s_l_right) (defScope s_l_right) .none kV_l_right dc_l_right pm_l_right an_l_right cd_l_right ct_l_right), sl_l_right⟩) (C_l_right : PySem.W.codeIn K cd_l_right "_law_right" = true) (K_l_right : PySem.W.keepIn K (.ref f_l_right) = true)
    (A_l_path_right : PySem.W.nsIn K mainGlobals "_law_path_right" = some (some (.ref f_l_path_right))) (L_l_path_right : K.lookup f_l_path_right = some ⟨oc_l_path_right, od_l_path_right, .func (PySem.W.fnOf "_law_path_right" "_law_path_right" (defArgs s_l_path_right) (defBody s_l_path_right) (defScope s_l_path_right) .none kV_l_path_right dc_l_path_right pm_l_path_right an_l_path_right cd_l_path_right ct_l_path_right), sl_l_path_right⟩) (C_l_path_right : PySem.W.codeIn K cd_l_path_right "_law_path_right" = true) (K_l_path_right : PySem.W.keepIn K (.ref f_l_path_right) = true)
    (A_l_cut : PySem.W.nsIn K mainGlobals "_law_cut" = some (some (.ref f_l_cut))) (L_l_cut : K.lookup f_l_cut = some ⟨oc_l_cut, od_l_cut, .func (PySem.W.fnOf "_law_cut" "_law_cut" (defArgs s_l_cut) (defBody s_l_cut) (defScope s_l_cut) .none kV_l_cut dc_l_cut pm_l_cut an_l_cut cd_l_cut ct_l_cut), sl_l_cut⟩) (C_l_cut : PySem.W.codeIn K cd_l_cut "_law_cut" = true) (K_l_cut : PySem.W.keepIn K (.ref f_l_cut) = true)
    (A_p_law : PySem.W.nsIn K mainGlobals "law" = some (some (.ref f_p_law))) (L_p_law : K.lookup f_p_law = some ⟨oc_p_law, od_p_law, .func (PySem.W.fnOf "law" "law" (defArgs s_p_law) (defBody s_p_law) (defScope s_p_law) .none kV_p_law dc_p_law pm_p_law an_p_law cd_p_law ct_p_law), sl_p_law⟩) (C_p_law : PySem.W.codeIn K cd_p_law "law" = true) (K_p_law : PySem.W.keepIn K (.ref f_p_law) = true)
    (Z_all : PySem.W.nsIn K mainGlobals "all" = some none)
    (Z_bool : PySem.W.nsIn K mainGlobals "bool" = some none)
    (Z_int : PySem.W.nsIn K mainGlobals "int" = some none)
    (Z_isinstance : PySem.W.nsIn K mainGlobals "isinstance" = some none)
    (Z_len : PySem.W.nsIn K mainGlobals "len" = some none)
    (Z_list : PySem.W.nsIn K mainGlobals "list" = some none)
    (Z_min : PySem.W.nsIn K mainGlobals "min" = some none)
    (Z_range : PySem.W.nsIn K mainGlobals "range" = some none)
    (Z_sorted : PySem.W.nsIn K mainGlobals "sorted" = some none)
    : ∃ fd : FuncData, (∀ (s : Shared) (v : Value), BindsTo s fd ⟨[v], []⟩ [("_law_script", v)]) ∧ ∀ base : Heap, K.In base → base.Ns mainGlobals mg → FnOk l.prog w K mg base CX0 4 fa fd ["_law_script"] (spLaw K) := by
  have e := hfa.symm.trans (PySem.W.mg_of X G A_p_law)
  cases e
  refine ⟨(PySem.W.fnOf "law" "law" (defArgs s_p_law) (defBody s_p_law) (defScope s_p_law) .none kV_p_law dc_p_law pm_p_law an_p_law cd_p_law ct_p_law), fun s v => .of_eq rfl, fun base _ _ => ?_⟩
  let T : Txt K mg base := { z_all := PySem.W.mg_none_of X G Z_all, z_bool := PySem.W.mg_none_of X G Z_bool, z_int := PySem.W.mg_none_of X G Z_int, z_isinstance := PySem.W.mg_none_of X G Z_isinstance, z_len := PySem.W.mg_none_of X G Z_len, z_list := PySem.W.mg_none_of X G Z_list, z_min := PySem.W.mg_none_of X G Z_min, z_range := PySem.W.mg_none_of X G Z_range, z_sorted := PySem.W.mg_none_of X G Z_sorted, a_p_neighbours := f_p_neighbours, d_p_neighbours := _, F_p_neighbours := fun_mk (st := s_p_neighbours) L_p_neighbours C_p_neighbours K_p_neighbours, b_p_neighbours := (fun_mk (st := s_p_neighbours) L_p_neighbours C_p_neighbours K_p_neighbours).binds (ps := ["pairs", "many"]) (fun _ _ _ _ _ _ us hl => match us, hl with | [_, _], _ => rfl), g_p_neighbours := PySem.W.mg_of X G A_p_neighbours, a_p_reached_from := f_p_reached_from, d_p_reached_from := _, F_p_reached_from := fun_mk (st := s_p_reached_from) L_p_reached_from C_p_reached_from K_p_reached_from, b_p_reached_from := (fun_mk (st := s_p_reached_from) L_p_reached_from C_p_reached_from K_p_reached_from).binds (ps := ["start", "neighbours"]) (fun _ _ _ _ _ _ us hl => match us, hl with | [_, _], _ => rfl), g_p_reached_from := PySem.W.mg_of X G A_p_reached_from, a_p_chain := f_p_chain, d_p_chain := _, F_p_chain := fun_mk (st := s_p_chain) L_p_chain C_p_chain K_p_chain, b_p_chain := (fun_mk (st := s_p_chain) L_p_chain C_p_chain K_p_chain).binds (ps := ["pairs", "many", "i", "j"]) (fun _ _ _ _ _ _ us hl => match us, hl with | [_, _, _, _], _ => rfl), g_p_chain := PySem.W.mg_of X G A_p_chain, a_p_is_chain := f_p_is_chain, d_p_is_chain := _, F_p_is_chain := fun_mk (st := s_p_is_chain) L_p_is_chain C_p_is_chain K_p_is_chain, b_p_is_chain := (fun_mk (st := s_p_is_chain) L_p_is_chain C_p_is_chain K_p_is_chain).binds (ps := ["pairs", "some"]) (fun _ _ _ _ _ _ us hl => match us, hl with | [_, _], _ => rfl), g_p_is_chain := PySem.W.mg_of X G A_p_is_chain, a_l_cell_at := f_l_cell_at, d_l_cell_at := _, F_l_cell_at := fun_mk (st := s_l_cell_at) L_l_cell_at C_l_cell_at K_l_cell_at, b_l_cell_at := (fun_mk (st := s_l_cell_at) L_l_cell_at C_l_cell_at K_l_cell_at).binds (ps := ["_law_script", "_law_k"]) (fun _ _ _ _ _ _ us hl => match us, hl with | [_, _], _ => rfl), g_l_cell_at := PySem.W.mg_of X G A_l_cell_at, a_l_mix := f_l_mix, d_l_mix := _, F_l_mix := fun_mk (st := s_l_mix) L_l_mix C_l_mix K_l_mix, b_l_mix := (fun_mk (st := s_l_mix) L_l_mix C_l_mix K_l_mix).binds (ps := ["_law_cell", "_law_k"]) (fun _ _ _ _ _ _ us hl => match us, hl with | [_, _], _ => rfl), g_l_mix := PySem.W.mg_of X G A_l_mix, a_l_count := f_l_count, d_l_count := _, F_l_count := fun_mk (st := s_l_count) L_l_count C_l_count K_l_count, b_l_count := (fun_mk (st := s_l_count) L_l_count C_l_count K_l_count).binds (ps := ["_law_script"]) (fun _ _ _ _ _ _ us hl => match us, hl with | [_], _ => rfl), g_l_count := PySem.W.mg_of X G A_l_count, a_l_behind := f_l_behind, d_l_behind := _, F_l_behind := fun_mk (st := s_l_behind) L_l_behind C_l_behind K_l_behind, b_l_behind := (fun_mk (st := s_l_behind) L_l_behind C_l_behind K_l_behind).binds (ps := ["_law_many", "_law_pick"]) (fun _ _ _ _ _ _ us hl => match us, hl with | [_, _], _ => rfl), g_l_behind := PySem.W.mg_of X G A_l_behind, a_l_some_pairs := f_l_some_pairs, d_l_some_pairs := _, F_l_some_pairs := fun_mk (st := s_l_some_pairs) L_l_some_pairs C_l_some_pairs K_l_some_pairs, b_l_some_pairs := (fun_mk (st := s_l_some_pairs) L_l_some_pairs C_l_some_pairs K_l_some_pairs).binds (ps := ["_law_script", "_law_many"]) (fun _ _ _ _ _ _ us hl => match us, hl with | [_, _], _ => rfl), g_l_some_pairs := PySem.W.mg_of X G A_l_some_pairs, a_l_near := f_l_near, d_l_near := _, F_l_near := fun_mk (st := s_l_near) L_l_near C_l_near K_l_near, b_l_near := (fun_mk (st := s_l_near) L_l_near C_l_near K_l_near).binds (ps := ["_law_pairs", "_law_one"]) (fun _ _ _ _ _ _ us hl => match us, hl with | [_, _], _ => rfl), g_l_near := PySem.W.mg_of X G A_l_near, a_l_steps := f_l_steps, d_l_steps := _, F_l_steps := fun_mk (st := s_l_steps) L_l_steps C_l_steps K_l_steps, b_l_steps := (fun_mk (st := s_l_steps) L_l_steps C_l_steps K_l_steps).binds (ps := ["_law_pairs", "_law_one"]) (fun _ _ _ _ _ _ us hl => match us, hl with | [_, _], _ => rfl), g_l_steps := PySem.W.mg_of X G A_l_steps, a_l_right := f_l_right, d_l_right := _, F_l_right := fun_mk (st := s_l_right) L_l_right C_l_right K_l_right, b_l_right := (fun_mk (st := s_l_right) L_l_right C_l_right K_l_right).binds (ps := ["_law_pairs", "_law_many", "_law_i", "_law_j"]) (fun _ _ _ _ _ _ us hl => match us, hl with | [_, _, _, _], _ => rfl), g_l_right := PySem.W.mg_of X G A_l_right, a_l_path_right := f_l_path_right, d_l_path_right := _, F_l_path_right := fun_mk (st := s_l_path_right) L_l_path_right C_l_path_right K_l_path_right, b_l_path_right := (fun_mk (st := s_l_path_right) L_l_path_right C_l_path_right K_l_path_right).binds (ps := ["_law_number"]) (fun _ _ _ _ _ _ us hl => match us, hl with | [_], _ => rfl), g_l_path_right := PySem.W.mg_of X G A_l_path_right, a_l_cut := f_l_cut, d_l_cut := _, F_l_cut := fun_mk (st := s_l_cut) L_l_cut C_l_cut K_l_cut, b_l_cut := (fun_mk (st := s_l_cut) L_l_cut C_l_cut K_l_cut).binds (ps := ["_law_script"]) (fun _ _ _ _ _ _ us hl => match us, hl with | [_], _ => rfl), g_l_cut := PySem.W.mg_of X G A_l_cut }
  exact ok_p_law T (fun_mk (st := s_p_law) L_p_law C_p_law K_p_law)
end MuK
open PySem PySem.W PyProof.Rows
set_option maxHeartbeats 0 in
theorem PySem.Challenge.cw_muchalike_k22_chains_holds : PySem.Challenge.rw_muchalike_k22_chains.Holds := by
  w_on; o_law; k_head; (case hw => w_witness2)
  k_fill
  refine L2.walk_of (l := PySem.Challenge.rw_muchalike_k22_chains) (n := 63) (k := 4) (x := "_law_script") (CX := fun _ => L2.CX0) (sp := fun w => MuK.spLaw _) rfl (by decide) rfl ⟨rfl, by decide, by decide⟩ (fun w h Y => PySem.W.kIn_of Y) ?F (fun _ _ a ns hl _ hS => ⟨a, ns, rfl, hS, hl, fun _ => rfl⟩) (fun _ _ _ _ _ h => h)
  case F =>
    intro w mg fa h KX G hmg
    refine' MuK.all_mk KX G hmg ?A_p_neighbours ?L_p_neighbours ?C_p_neighbours ?K_p_neighbours ?A_p_reached_from ?L_p_reached_from ?C_p_reached_from ?K_p_reached_from ?A_p_chain ?L_p_chain ?C_p_chain ?K_p_chain ?A_p_is_chain ?L_p_is_chain ?C_p_is_chain ?K_p_is_chain ?A_l_cell_at ?L_l_cell_at ?C_l_cell_at ?K_l_cell_at ?A_l_mix ?L_l_mix ?C_l_mix ?K_l_mix ?A_l_count ?L_l_count ?C_l_count ?K_l_count ?A_l_behind ?L_l_behind ?C_l_behind ?K_l_behind ?A_l_some_pairs ?L_l_some_pairs ?C_l_some_pairs ?K_l_some_pairs ?A_l_near ?L_l_near ?C_l_near ?K_l_near ?A_l_steps ?L_l_steps ?C_l_steps ?K_l_steps ?A_l_right ?L_l_right ?C_l_right ?K_l_right ?A_l_path_right ?L_l_path_right ?C_l_path_right ?K_l_path_right ?A_l_cut ?L_l_cut ?C_l_cut ?K_l_cut ?A_p_law ?L_p_law ?C_p_law ?K_p_law ?Z_all ?Z_bool ?Z_int ?Z_isinstance ?Z_len ?Z_list ?Z_min ?Z_range ?Z_sorted
    (case A_p_neighbours => k_is)
    (case L_p_neighbours => k_is)
    (case C_p_neighbours => k_is)
    (case K_p_neighbours => k_is)
    (case A_p_reached_from => k_is)
    (case L_p_reached_from => k_is)
    (case C_p_reached_from => k_is)
    (case K_p_reached_from => k_is)
    (case A_p_chain => k_is)
    (case L_p_chain => k_is)
    (case C_p_chain => k_is)
    (case K_p_chain => k_is)
    (case A_p_is_chain => k_is)
    (case L_p_is_chain => k_is)
    (case C_p_is_chain => k_is)
    (case K_p_is_chain => k_is)
    (case A_l_cell_at => k_is)
    (case L_l_cell_at => k_is)
    (case C_l_cell_at => k_is)
    (case K_l_cell_at => k_is)
    (case A_l_mix => k_is)
    (case L_l_mix => k_is)
    (case C_l_mix => k_is)
    (case K_l_mix => k_is)
    (case A_l_count => k_is)
    (case L_l_count => k_is)
    (case C_l_count => k_is)
    (case K_l_count => k_is)
    (case A_l_behind => k_is)
    (case L_l_behind => k_is)
    (case C_l_behind => k_is)
    (case K_l_behind => k_is)
    (case A_l_some_pairs => k_is)
    (case L_l_some_pairs => k_is)
    (case C_l_some_pairs => k_is)
    (case K_l_some_pairs => k_is)
    (case A_l_near => k_is)
    (case L_l_near => k_is)
    (case C_l_near => k_is)
    (case K_l_near => k_is)
    (case A_l_steps => k_is)
    (case L_l_steps => k_is)
    (case C_l_steps => k_is)
    (case K_l_steps => k_is)
    (case A_l_right => k_is)
    (case L_l_right => k_is)
    (case C_l_right => k_is)
    (case K_l_right => k_is)
    (case A_l_path_right => k_is)
    (case L_l_path_right => k_is)
    (case C_l_path_right => k_is)
    (case K_l_path_right => k_is)
    (case A_l_cut => k_is)
    (case L_l_cut => k_is)
    (case C_l_cut => k_is)
    (case K_l_cut => k_is)
    (case A_p_law => k_is)
    (case L_p_law => k_is)
    (case C_p_law => k_is)
    (case K_p_law => k_is)
    (case Z_all => k_is)
    (case Z_bool => k_is)
    (case Z_int => k_is)
    (case Z_isinstance => k_is)
    (case Z_len => k_is)
    (case Z_list => k_is)
    (case Z_min => k_is)
    (case Z_range => k_is)
    (case Z_sorted => k_is)
