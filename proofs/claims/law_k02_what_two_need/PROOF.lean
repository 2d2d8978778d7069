import PyProof.Rows.All
import Wide.All
import OpenK.AllK
import Wide.FinOn
import HandS.ForMost
import HandS.ForExc
import HandS.Evl
import HandS.Wide
import HandS.Gcd
import HandS.IsInst
import Flt.RightSqrt
import KE.KMathG
import PySem.Challenge.RW_muchalike_k02_what_two_need
set_option Elab.async false
set_option linter.all false
set_option maxRecDepth 100000
set_option maxHeartbeats 8000000

namespace MuK
open PySem PySem.Spec PyProof.Rows L2 Evl

/-! ### general rules -/
def CPowW (i j : Int) : Prop := 0 ≤ j ∧ (Builtin.Int.intBits i : Int) * j ≤ 2 ^ 27
theorem op_powW {X : Cx} : OpR X (binaryOp .Pow) (rI CPowW fun i j => .int (i ^ j.toNat)) := opI fun _ _ _ _ _ _ _ hc q => pow_int hc.1 hc.2 q

/-- promises: a value, a new tuple, a new list -/
def SpVal (D : Hp → List V → V → Prop) : Sp := fun vs H Q _ => ∃ v, D H vs v ∧ ∀ H', Ex H H' → Q v H'
def SpTup (D : Hp → List V → List V → Prop) : Sp := fun vs H Q _ => ∃ xs, D H vs xs ∧ ∀ p H', H p = none → Ex H H' → H' p = some (.tup xs) → Q (.ref p) H'
def SpLst (D : Hp → List V → List V → Prop) : Sp := fun vs H Q _ => ∃ xs, D H vs xs ∧ ∀ p H', H p = none → Ex H H' → H' p = some (.lst xs) → Q (.ref p) H'

section
variable {K : PySem.W.Frag} {σ : L2.St} {H H' : Hp} {ta tb te : TE} {t u : TT} {x y z v : V} {D : Ends} {tu tw tz : TS}
def SpU (sp : Sp) (vs : List V) (H : Hp) (xs : List V) : Prop := ∀ H1, Ex H H1 → ∀ Q : VK, (∀ p H2, H1 p = none → Ex H1 H2 → H2 p = some (.tup xs) → Q (.ref p) H2) → ∀ E : XK, sp vs H1 Q E
theorem eu_call {sp : Sp} {dvs vs xs : List V} {E : XK} {ta : TA} (h : EvA ta σ H vs) (hs : SpU sp (vs ++ dvs) H xs) : EvU (tCall sp dvs E ta) σ H xs := fun H1 e Q q =>
  h H1 e _ fun H2 e2 => hs H2 (e.trans e2) Q (fun p H3 hp e3 h3 => q p H3 (fresh_back e2 hp) (e2.trans e3) h3) E
theorem spVal {Dd : Hp → List V → V → Prop} {vs : List V} (h : ∀ H1, Ex H H1 → Dd H1 vs v) : SpV (SpVal Dd) vs H v := fun H1 e _ q _ => ⟨v, h H1 e, q⟩
theorem spTup {Dd : Hp → List V → List V → Prop} {vs xs : List V} (h : ∀ H1, Ex H H1 → Dd H1 vs xs) : SpU (SpTup Dd) vs H xs := fun H1 e _ q _ => ⟨xs, h H1 e, q⟩
theorem spLst {Dd : Hp → List V → List V → Prop} {vs xs : List V} (h : ∀ H1, Ex H H1 → Dd H1 vs xs) : SpL (SpLst Dd) vs H xs := fun H1 e _ q _ => ⟨xs, h H1 e, q⟩
theorem ev_callV {Dd : Hp → List V → V → Prop} {vs : List V} {E : XK} {ta : TA} (h : EvA ta σ H vs) (hs : ∀ H1, Ex H H1 → Dd H1 vs v) : Ev (tCall (SpVal Dd) [] E ta) σ H v :=
  ev_call h (by rw [List.append_nil]; exact spVal hs)
theorem eu_callU {Dd : Hp → List V → List V → Prop} {vs xs : List V} {E : XK} {ta : TA} (h : EvA ta σ H vs) (hs : ∀ H1, Ex H H1 → Dd H1 vs xs) : EvU (tCall (SpTup Dd) [] E ta) σ H xs :=
  eu_call h (by rw [List.append_nil]; exact spTup hs)
theorem el_callL {Dd : Hp → List V → List V → Prop} {vs xs : List V} {E : XK} {ta : TA} (h : EvA ta σ H vs) (hs : ∀ H1, Ex H H1 → Dd H1 vs xs) : EvL (tCall (SpLst Dd) [] E ta) σ H xs :=
  el_call h (by rw [List.append_nil]; exact spLst hs)

/-- built-ins by values -/
theorem rc_min2 {i j : Int} : RC (fun xs H Q => ∃ i j, xs = [.int i, .int j] ∧ Q (.int (if j < i then j else i)) H) [.int i, .int j] H (.int (min i j)) := fun H1 _ Q q =>
  ⟨i, j, rfl, by have e : (if j < i then j else i) = min i j := by (split <;> omega)
                 rw [e]; exact q H1 (Ex.refl H1)⟩
theorem rc_max2 {i j : Int} : RC (fun xs H Q => ∃ i j, xs = [.int i, .int j] ∧ Q (.int (if j > i then j else i)) H) [.int i, .int j] H (.int (max i j)) := fun H1 _ Q q =>
  ⟨i, j, rfl, by have e : (if j > i then j else i) = max i j := by (split <;> omega)
                 rw [e]; exact q H1 (Ex.refl H1)⟩
theorem rc_gcd {a b : Int} : RC rGcd [.int a, .int b] H (.int ((Nat.gcd a.natAbs b.natAbs : Nat) : Int)) := fun H1 _ _ q => ⟨a, b, rfl, q H1 (Ex.refl H1)⟩
theorem rc_lenT {p : Addr} {ys : List V} (h : SqT K H p ys) : RC (fun xs H Q => ∃ p ys, xs = [.ref p] ∧ (SqL K H p ys ∨ SqT K H p ys) ∧ Q (.int ys.length) H) [.ref p] H (.int ys.length) := fun H1 e _ q => ⟨p, ys, rfl, .inr (ex_t e h), q H1 (Ex.refl H1)⟩
theorem rc_lenL {p : Addr} {ys : List V} (h : SqL K H p ys) : RC (fun xs H Q => ∃ p ys, xs = [.ref p] ∧ (SqL K H p ys ∨ SqT K H p ys) ∧ Q (.int ys.length) H) [.ref p] H (.int ys.length) := fun H1 e _ q => ⟨p, ys, rfl, .inl (ex_l e h), q H1 (Ex.refl H1)⟩
theorem rc_intB {k : Bool} : RC (fun xs H Q => (∃ i, xs = [.int i] ∧ Q (.int i) H) ∨ ∃ k, xs = [.bl k] ∧ Q (.int (if k then 1 else 0)) H) [.bl k] H (.int (if k then 1 else 0)) := fun H1 _ _ q => .inr ⟨k, rfl, q H1 (Ex.refl H1)⟩
theorem rc_isiInt {i : Int} {n : String} {b : Bool} (h : PySem.W.kitOne K (.type "int") (.type n) = some b) : RC (rIsi K) [.int i, .ty n] H (.bl b) := fun H1 _ _ q => ⟨_, _, _, _, b, rfl, .ty n, .base (.int i), h, q H1 (Ex.refl H1)⟩
theorem rc_isiBool {i : Bool} {n : String} {b : Bool} (h : PySem.W.kitOne K (.type "bool") (.type n) = some b) : RC (rIsi K) [.bl i, .ty n] H (.bl b) := fun H1 _ _ q => ⟨_, _, _, _, b, rfl, .ty n, .base (.bl i), h, q H1 (Ex.refl H1)⟩
theorem rc_isiNone {n : String} {b : Bool} (h : PySem.W.kitOne K (.type "NoneType") (.type n) = some b) : RC (rIsi K) [.non, .ty n] H (.bl b) := fun H1 _ _ q => ⟨_, _, _, _, b, rfl, .ty n, .base .non, h, q H1 (Ex.refl H1)⟩
theorem rc_isiTup {p : Addr} {xs : List V} {n : String} {b : Bool} (hp : H p = some (.tup xs)) (h : PySem.W.kitOne K (.type "tuple") (.type n) = some b) : RC (rIsi K) [.ref p, .ty n] H (.bl b) := fun H1 e _ q => ⟨_, _, _, _, b, rfl, .ty n, .base (.tup (e p _ hp)), h, q H1 (Ex.refl H1)⟩
theorem rc_isiLst {p : Addr} {xs : List V} {n : String} {b : Bool} (hp : H p = some (.lst xs)) (h : PySem.W.kitOne K (.type "list") (.type n) = some b) : RC (rIsi K) [.ref p, .ty n] H (.bl b) := fun H1 e _ q => ⟨_, _, _, _, b, rfl, .ty n, .base (.lst (e p _ hp)), h, q H1 (Ex.refl H1)⟩
/-- lists joined, both new -/
theorem el_cat {xs ys : List V} (ha : EvL ta σ H xs) (hb : EvL tb σ H ys) (hz : xs.length + ys.length ≤ 100000) : EvL (tOp rCat ta tb) σ H (xs ++ ys) := fun H1 e Q q =>
  ha H1 e _ fun p H2 hp e2 h2 => hb H2 (e.trans e2) _ fun r H3 hr e3 h3 => ⟨p, r, xs, ys, rfl, rfl, e3 p _ h2, h3, sz_of hz, fun l hl => q l _ (fresh_back (e2.trans e3) hl) ((e2.trans e3).trans (Ex.new hl)) upd_same⟩
theorem el_catV {xs ys : List V} {a : Addr} (ha : Ev ta σ H (.ref a)) (h0 : H a = some (.lst xs)) (hb : EvL tb σ H ys) (hz : xs.length + ys.length ≤ 100000) : EvL (tOp rCat ta tb) σ H (xs ++ ys) := fun H1 e Q q =>
  ha H1 e _ fun H2 e2 => hb H2 (e.trans e2) _ fun r H3 hr e3 h3 => ⟨a, r, xs, ys, rfl, rfl, ((e.trans e2).trans e3) a _ h0, h3, sz_of hz, fun l hl => q l _ (fresh_back (e2.trans e3) hl) ((e2.trans e3).trans (Ex.new hl)) upd_same⟩
/-- an item of a new list -/
theorem ev_ixNew {xs : List V} {i : Int} (ha : EvL ta σ H xs) (hb : Ev tb σ H (.int i)) (h : atI xs i = some v) : Ev (tOp (rIxL K) ta tb) σ H v :=
  ev_opL1 ha (fun _ e => hb.mono e) fun _ _ hp _ => rv_ixL (sq_of hp) h
theorem rv_fdW {i j : Int} {b : Nat} (h : 0 < j) (hb : j.natAbs < 2 ^ b) (h0 : 0 < b) (h9 : b ≤ 9000) : RV (rI CDivW fun i j => .int (i / j)) (.int i) (.int j) H (.int (i / j)) := rv_I (wide_div h hb h0 h9)
theorem s_par {i j : Nat} {ta : TA} {v w : V} (h : EvA ta σ H [v, w]) (k : ∀ H1, Ex H H1 → D.nx ((σ.set i (some v)).set j (some w)) H1) : tPar i j ta D σ H := h H (Ex.refl H) _ fun H1 e => ⟨v, w, rfl, k H1 e⟩
theorem q_par {i j : Nat} {ta : TA} {v w : V} (h : EvA ta σ H [v, w]) (k : ∀ H1, Ex H H1 → tz D ((σ.set i (some v)).set j (some w)) H1) : tSeq (tPar i j ta) tz D σ H := s_par (D := { D with nx := tz D }) h k
/-- a, b = e, e a new tuple of two; of any tuple -/
theorem q_unp2 {i j : Nat} {x y : V} (h : EvU te σ H [x, y]) (k : ∀ H1, Ex H H1 → tz D ((σ.set i (some x)).set j (some y)) H1) : tSeq (tAsg te (gTup K 2 (gCons (gName i) (gCons (gName j) gNil)))) tz D σ H :=
  h H (Ex.refl H) _ fun p H1 _ e hp => ⟨p, [x, y], rfl, st_of hp, rfl, x, [y], rfl, y, [], rfl, rfl, k H1 e⟩
theorem q_unp2V {i j : Nat} {p : Addr} {x y : V} (h : Ev te σ H (.ref p)) (h2 : SqT K H p [x, y]) (k : ∀ H1, Ex H H1 → tz D ((σ.set i (some x)).set j (some y)) H1) : tSeq (tAsg te (gTup K 2 (gCons (gName i) (gCons (gName j) gNil)))) tz D σ H :=
  h H (Ex.refl H) _ fun H1 e => ⟨p, [x, y], rfl, ex_t e h2, rfl, x, [y], rfl, y, [], rfl, rfl, k H1 e⟩
theorem decs {a b : Str} : decide (V.str a = V.str b) = decide (a = b) := by
  by_cases h : a = b
  · subst h; simp
  · rw [decide_eq_false h]; exact decide_eq_false fun e => h (V.str.inj e)
theorem deci {a b : Int} : decide (V.int a = V.int b) = decide (a = b) := by
  by_cases h : a = b
  · subst h; simp
  · rw [decide_eq_false h]; exact decide_eq_false fun e => h (V.int.inj e)
theorem rv_eqS {a b : Str} : RV rEq (.str a) (.str b) H (.bl (decide (a = b))) := by rw [← decs]; exact rv_eq rfl
theorem rv_eqI {a b : Int} : RV rEq (.int a) (.int b) H (.bl (decide (a = b))) := by rw [← deci]; exact rv_eq rfl
theorem rv_neS {a b : Str} : RV rNe (.str a) (.str b) H (.bl (!decide (a = b))) := by rw [← decs]; exact rv_ne rfl
theorem rv_neI {a b : Int} : RV rNe (.int a) (.int b) H (.bl (!decide (a = b))) := by rw [← deci]; exact rv_ne rfl
theorem vals_map_str : ∀ {xs : List (Str × Tok)}, Vals (xs.map fun p => V.str p.1) (xs.map fun p => Value.str p.1 p.2)
  | [] => .nil
  | _ :: _ => .cons ⟨_, rfl⟩ vals_map_str
theorem dp_ints : ∀ (ns : List Int), DpAll K H (ns.map V.int) (ns.map PyData.int)
  | [] => .nil
  | n :: ns => .cons (.int n) (dp_ints ns)
/-- an argument that is a new tuple, a new list -/
theorem ev_callU1 {Dd : Hp → List V → V → Prop} {E : XK} {tr : TA} {vs xs : List V} (h : EvU te σ H xs) (hr : EvA tr σ H vs) (hs : ∀ p H1, Ex H H1 → H1 p = some (.tup xs) → Dd H1 (.ref p :: vs) v) : Ev (tCall (SpVal Dd) [] E (tCons te tr)) σ H v := fun H1 e Q q =>
  h H1 e _ fun p H2 _ e2 hp => hr H2 (e.trans e2) _ fun H3 e3 => ⟨v, by rw [List.append_nil]; exact hs p H3 ((e.trans e2).trans e3) (e3 p _ hp), fun H4 e4 => q H4 ((e2.trans e3).trans e4)⟩
theorem atI_mod {α : Type} {xs : List α} {n : Int} {m : Nat} (d : α) (hm : xs.length = m) (h0 : 0 < m) : atI xs (n % (m : Int)) = some (xs.getD (n % (m : Int)).toNat d) := by
  have h1 : 0 ≤ n % (m : Int) := Int.emod_nonneg _ (by omega)
  have h2 : n % (m : Int) < m := Int.emod_lt_of_pos _ (by omega)
  have h3 : (((n % (m : Int)).toNat : Nat) : Int) = n % (m : Int) := Int.toNat_of_nonneg h1
  have h4 : (n % (m : Int)).toNat < xs.length := by omega
  have h5 : xs[(n % (m : Int)).toNat]? = some (xs.getD (n % (m : Int)).toNat d) := by
    rw [List.getD_eq_getElem?_getD, List.getElem?_eq_getElem h4]; rfl
  have h6 := atI_nat h5
  rw [h3] at h6
  exact h6
theorem atI_modI {xs : List Int} {n : Int} {m : Nat} (hm : xs.length = m) (h0 : 0 < m) : atI (xs.map V.int) (n % (m : Int)) = some (.int (xs.getD (n % (m : Int)).toNat 0)) := by
  have h := atI_mod (xs := xs.map V.int) (n := n) (m := m) (.int 0) (by rw [List.length_map]; exact hm) h0
  rw [h]
  congr 1
  rw [List.getD_eq_getElem?_getD, List.getD_eq_getElem?_getD, List.getElem?_map]
  cases xs[(n % (m : Int)).toNat]? <;> rfl
theorem cutV_mem {xs : List V} {lo hi : Option Int} {x : V} (h : x ∈ cutV xs lo hi) : x ∈ xs := List.mem_of_mem_drop (List.mem_of_mem_take h)
theorem sqT_written {f : Addr} {od : Option Addr} {vs : List V} {us : List Value} {n : Nat} {sl : Array (Option Value)} (h : K.lookup f = some ⟨.type "tuple", od, .seq us.toArray n, sl⟩) (r : Vals vs us) (hz : us.length ≤ 1000) : SqT K H f vs :=
  .inr ⟨_, us.toArray, n, h, rfl, rfl, by rw [List.size_toArray]; exact sz_of (by omega), by simpa using r⟩
theorem el_is {xs ys : List V} (h : EvL te σ H xs) (e : xs = ys) : EvL te σ H ys := by
  rw [← e]
  exact h
theorem eu_is {xs ys : List V} (h : EvU te σ H xs) (e : xs = ys) : EvU te σ H ys := by
  rw [← e]
  exact h
theorem given_map (ns : List Int) (f : Int → Int) : given ns.length (fun _ => true) (fun i => .int (f (ns.getD i 0))) = (ns.map f).map V.int := by
  unfold given
  rw [List.filter_eq_self.mpr (fun _ _ => rfl)]
  apply List.ext_getElem
  · simp
  · intro i h1 h2
    simp at h1
    simp [List.getD_eq_getElem?_getD, h1]
theorem ev_chain {r r' : R2} {tc : TE} {a b : Bool} (ha : Ev ta σ H x) (hb : Ev tb σ H y) (hr : RV r x y H (.bl a)) (hc : a = true → Ev tc σ H z) (hr' : a = true → RV r' y z H (.bl b)) : Ev (tChain r r' ta tb tc) σ H (.bl (a && b)) := fun H1 e Q q =>
  ha H1 e _ fun H2 e2 => hb H2 (e.trans e2) _ fun H3 e3 => hr H3 ((e.trans e2).trans e3) _ fun H4 e4 => ⟨a, rfl, by
    have ee := ((e.trans e2).trans e3).trans e4
    cases a with
    | true =>
      show tc σ H4 fun w' H5 => r' y w' H5 Q
      exact hc rfl H4 ee _ fun H5 e5 => hr' rfl H5 (ee.trans e5) Q fun H6 e6 => q H6 ((((e2.trans e3).trans e4).trans e5).trans e6)
    | false =>
      show Q (.bl false) H4
      exact q H4 ((e2.trans e3).trans e4)⟩
theorem atI_modD {xs : List Int} {n : Int} {m : Nat} {d : Int} (hm : xs.length = m) (h0 : 0 < m) : atI (xs.map V.int) (n % (m : Int)) = some (.int (xs.getD (n % (m : Int)).toNat d)) := by
  have h := atI_mod (xs := xs.map V.int) (n := n) (m := m) (.int d) (by rw [List.length_map]; exact hm) h0
  rw [h]
  congr 1
  rw [List.getD_eq_getElem?_getD, List.getD_eq_getElem?_getD, List.getElem?_map]
  cases xs[(n % (m : Int)).toNat]? <;> rfl
theorem getDP {α : Type} {xs : List α} {d : α} {P : α → Prop} (h : ∀ x ∈ xs, P x) (h0 : P d) (i : Nat) : P (xs.getD i d) := by
  rw [List.getD_eq_getElem?_getD]
  cases e : xs[i]? with
  | none => exact h0
  | some x => exact h x (List.mem_of_getElem? e)
theorem cells_int {ns : List Int} {lo hi : Option Int} {a b : Int} {i : Nat} {x : V} (hx : (cutV (ns.map V.int) lo hi ++ [.int a, .int b])[i]? = some x) : ∃ c, x = .int c := by
  have hm := List.mem_of_getElem? hx
  rw [List.mem_append] at hm
  rcases hm with hm | hm
  · have := cutV_mem hm
    rw [List.mem_map] at this
    obtain ⟨z, _, rfl⟩ := this
    exact ⟨z, rfl⟩
  · simp only [List.mem_cons, List.not_mem_nil, or_false] at hm
    rcases hm with rfl | rfl
    · exact ⟨_, rfl⟩
    · exact ⟨_, rfl⟩
/-- two tuples of the same two ints are equal -/
theorem rv_eqT2 {p q : Addr} {x y : Int} (hp : H p = some (.tup [.int x, .int y])) (hq : H q = some (.tup [.int x, .int y])) : RV (rEqD K) (.ref p) (.ref q) H (.bl true) := fun H1 e Q k => by
  refine ⟨.tuple [.int x, .int y], .tuple [.int x, .int y], .tup (st_of (e p _ hp)) (.cons (.int x) (.cons (.int y) .nil)), .tup (st_of (e q _ hq)) (.cons (.int x) (.cons (.int y) .nil)), rfl, rfl, ?_⟩
  rw [SeqAt.eqv_refl]
  all_goals first | exact k H1 (Ex.refl H1) | rfl
theorem rv_neT2 {p q : Addr} {x y : Int} (hp : H p = some (.tup [.int x, .int y])) (hq : H q = some (.tup [.int x, .int y])) : RV (rNeD K) (.ref p) (.ref q) H (.bl false) := fun H1 e Q k => by
  refine ⟨.tuple [.int x, .int y], .tuple [.int x, .int y], .tup (st_of (e p _ hp)) (.cons (.int x) (.cons (.int y) .nil)), .tup (st_of (e q _ hq)) (.cons (.int x) (.cons (.int y) .nil)), rfl, rfl, ?_⟩
  rw [SeqAt.eqv_refl]
  all_goals first | exact k H1 (Ex.refl H1) | rfl
theorem atI_inI {xs : List Int} {n : Int} {d : Int} (h0 : 0 ≤ n) (h1 : n < xs.length) : atI (xs.map V.int) n = some (.int (xs.getD n.toNat d)) := by
  have h3 : ((n.toNat : Nat) : Int) = n := Int.toNat_of_nonneg h0
  have h4 : n.toNat < xs.length := by omega
  have h5 : (xs.map V.int)[n.toNat]? = some (.int (xs.getD n.toNat d)) := by
    rw [List.getElem?_map, List.getD_eq_getElem?_getD, List.getElem?_eq_getElem h4]; rfl
  have h6 := atI_nat h5
  rw [h3] at h6
  exact h6
theorem s_forNLn {xs : List V} {tl : TE} {j : Nat} (h : EvL tl σ H xs) (Pv : Addr → Nat → L2.St → Hp → Prop) (h0 : ∀ p H1, H p = none → Ex H H1 → H1 p = some (.lst xs) → Pv p 0 σ H1) (hl : ∀ p i σ' H', i ≤ xs.length → Pv p i σ' H' → SqL K H' p xs)
    (hs : ∀ p i x σ' H', xs[i]? = some x → Pv p i σ' H' → tu { D with nx := Pv p (i + 1), ct := Pv p (i + 1), bk := D.nx } (σ'.set j (some x)) H') (hd : ∀ p σ' H', Pv p xs.length σ' H' → D.nx σ' H') : tFor (iList K tl) (gName j) tu D σ H :=
  s_forNL h Pv h0 hl hs hd
end
end MuK

namespace MuK
open PySem PySem.Spec PyProof.Rows L2 Evl
/-! ### plain mathematics of the helpers -/
def divs (b : Int) : Nat → Int → Int
  | 0, c => c
  | n + 1, c => divs b n c / b
def mix (c : Int) (k : Nat) : Int :=
  if c ≥ 10 ^ 18 then divs (10 ^ 6) k c % 10 ^ 6 else
  ((((c % 1000003 + k * k * 7919 + k) * 48271 % 2147483629) * ((c % 1000003 + k * k * 7919 + k) * 48271 % 2147483629) % 2147483587) *
   ((((c % 1000003 + k * k * 7919 + k) * 48271 % 2147483629) * ((c % 1000003 + k * k * 7919 + k) * 48271 % 2147483629) % 2147483587) + 2)) % 2147483579 / 7
theorem mix_nn (c : Int) (k : Nat) : 0 ≤ mix c k := by
  unfold mix
  split
  · exact Int.emod_nonneg _ (by decide)
  · exact Int.ediv_nonneg (Int.emod_nonneg _ (by decide)) (by decide)
theorem mix_lt (c : Int) (k : Nat) : mix c k < 306783379 := by
  unfold mix
  split
  · have := Int.emod_lt_of_pos (divs (10 ^ 6) k c) (show (0 : Int) < 10 ^ 6 by decide)
    omega
  · generalize ((((c % 1000003 + k * k * 7919 + k) * 48271 % 2147483629) * ((c % 1000003 + k * k * 7919 + k) * 48271 % 2147483629) % 2147483587) * ((((c % 1000003 + k * k * 7919 + k) * 48271 % 2147483629) * ((c % 1000003 + k * k * 7919 + k) * 48271 % 2147483629) % 2147483587) + 2)) = z
    have := Int.emod_lt_of_pos z (show (0 : Int) < 2147483579 by decide)
    have := Int.emod_nonneg z (show (2147483579 : Int) ≠ 0 by decide)
    omega
theorem gcd_step (a b : Int) (ha : 0 ≤ a) (hb : 0 < b) : Nat.gcd b.natAbs (a % b).natAbs = Nat.gcd a.natAbs b.natAbs := by
  obtain ⟨m, rfl⟩ := Int.eq_ofNat_of_zero_le ha
  obtain ⟨n, rfl⟩ := Int.eq_ofNat_of_zero_le (show (0 : Int) ≤ b by omega)
  rw [show ((m : Int) % (n : Int)) = ((m % n : Nat) : Int) from (Int.natCast_emod m n).symm]
  simp only [Int.natAbs_natCast]
  rw [Nat.gcd_comm m n]
  rw [Nat.gcd_comm n (m % n), ← Nat.gcd_rec]
/-- top and bottom of the fraction of a kind -/
def frac (k : Str) (a b c : Int) : Int × Int :=
  if k = "both" then (c, a + b - c) else if k = "mean" then (2 * c, a + b) else if k = "greater" then (c, max a b) else if k = "lesser" then (c, min a b) else (c * c, a * b)
def five : List Str := ["both", "mean", "greater", "lesser", "square"]
def gcdI (a b : Int) : Int := ((Nat.gcd a.natAbs b.natAbs : Nat) : Int)
def shareM (k : Str) (a b c : Int) : Int × Int :=
  if a = 0 ∨ b = 0 then (0, 1) else ((frac k a b c).1 / gcdI (frac k a b c).1 (frac k a b c).2, (frac k a b c).2 / gcdI (frac k a b c).1 (frac k a b c).2)
/-- weights and what they have in common, as they are handed in -/
structure WOk (a b c : Int) : Prop where
  a0 : 0 ≤ a
  a1 : a ≤ 10 ^ 18
  b0 : 0 ≤ b
  b1 : b ≤ 10 ^ 18
  c0 : 0 ≤ c
  ca : c ≤ a
  cb : c ≤ b
theorem WOk.symm {a b c : Int} (h : WOk a b c) : WOk b a c := ⟨h.b0, h.b1, h.a0, h.a1, h.c0, h.cb, h.ca⟩
theorem mul_le_36 {a b : Int} (a0 : 0 ≤ a) (a1 : a ≤ 10 ^ 18) (b0 : 0 ≤ b) (b1 : b ≤ 10 ^ 18) : 0 ≤ a * b ∧ a * b ≤ 10 ^ 36 := by
  refine ⟨Int.mul_nonneg a0 b0, ?_⟩
  have := Int.mul_le_mul a1 b1 b0 (by decide : (0 : Int) ≤ 10 ^ 18)
  omega
theorem frac_bounds (k : Str) {a b c : Int} (h : WOk a b c) (ha : 0 < a) (hb : 0 < b) : 0 ≤ (frac k a b c).1 ∧ (frac k a b c).1 ≤ 10 ^ 36 ∧ 0 < (frac k a b c).2 ∧ (frac k a b c).2 ≤ 10 ^ 36 := by
  obtain ⟨a0, a1, b0, b1, c0, ca, cb⟩ := h
  unfold frac
  split
  · dsimp only
    omega
  · split
    · dsimp only
      omega
    · split
      · dsimp only
        omega
      · split
        · dsimp only
          omega
        · dsimp only
          have h1 := mul_le_36 c0 (by omega) c0 (by omega : c ≤ 10 ^ 18)
          have h2 := mul_le_36 a0 a1 b0 b1
          have h3 := Int.mul_pos ha hb
          exact ⟨h1.1, h1.2, h3, h2.2⟩
theorem gcdI_pos {a b : Int} (hb : 0 < b) : 0 < gcdI a b := by
  unfold gcdI
  have : 0 < Nat.gcd a.natAbs b.natAbs := Nat.gcd_pos_of_pos_right _ (by omega)
  omega
theorem gcdI_le {a b : Int} (hb : 0 < b) : gcdI a b ≤ b := by
  unfold gcdI
  have : Nat.gcd a.natAbs b.natAbs ≤ b.natAbs := Nat.gcd_le_right _ (by omega)
  omega
theorem abs_lt_of {x : Int} {n : Nat} (h0 : 0 ≤ x) (h : x < (2 : Int) ^ n) : x.natAbs < 2 ^ n := by
  have e : ((x.natAbs : Nat) : Int) = x := Int.natAbs_of_nonneg h0
  have e2 : ((2 ^ n : Nat) : Int) = (2 : Int) ^ n := by rw [Int.natCast_pow]; rfl
  omega
theorem frac_symm (k : Str) (a b c : Int) : frac k b a c = frac k a b c := by
  unfold frac
  split
  · rw [Int.add_comm b a]
  · split
    · rw [Int.add_comm b a]
    · split
      · rw [Int.max_comm b a]
      · split
        · rw [Int.min_comm b a]
        · rw [Int.mul_comm b a]
theorem shareM_symm (k : Str) (a b c : Int) : shareM k b a c = shareM k a b c := by
  unfold shareM
  rw [frac_symm k a b c]
  by_cases h : a = 0 ∨ b = 0
  · rw [if_pos h, if_pos (by omega)]
  · rw [if_neg h, if_neg (by omega)]
def bigM : Int := ((10 : Int) ^ 60) ^ 60
def cutI (c : Int) : Int := if c ≥ bigM then bigM + c % bigM else c
theorem bigM_pos : 0 < bigM := by
  unfold bigM
  exact Int.pow_pos (Int.pow_pos (by decide))
theorem getD5 {xs : List Int} {P : Int → Prop} (h : ∀ x ∈ xs, P x) (h0 : P 0) (i : Nat) : P (xs.getD i 0) := by
  rw [List.getD_eq_getElem?_getD]
  cases e : xs[i]? with
  | none => exact h0
  | some x => exact h x (List.mem_of_getElem? e)
theorem rc_gcdI {H : Hp} {a b : Int} : RC rGcd [.int a, .int b] H (.int (gcdI a b)) := rc_gcd
end MuK

namespace MuK
open PySem PySem.Spec PyProof.Rows L2 Evl
/-! ### what two sets need -/
/-- a quotient rounded up -/
def cd (t b : Int) : Int := (t + b - 1) / b
theorem cd_le {t b c : Int} (hb : 0 < b) : cd t b ≤ c ↔ t ≤ c * b := by
  unfold cd
  constructor
  · intro h
    have h1 : (t + b - 1) < (c + 1) * b := Int.lt_mul_of_ediv_lt hb (by omega)
    have h2 : (c + 1) * b = c * b + b := by rw [Int.add_mul, Int.one_mul]
    omega
  · intro h
    have h1 : (t + b - 1) / b < c + 1 := by
      apply Int.ediv_lt_of_lt_mul hb
      have h2 : (c + 1) * b = c * b + b := by rw [Int.add_mul, Int.one_mul]
      omega
    omega
def isq (n : Int) : Int := ((Float64.isqrt n.toNat : Nat) : Int)
theorem isq_nn (n : Int) : 0 ≤ isq n := Int.natCast_nonneg _
theorem isq_lt {n c : Int} (hn : 0 ≤ n) (hc : 0 ≤ c) : isq n < c ↔ n < c * c := by
  obtain ⟨m, rfl⟩ := Int.eq_ofNat_of_zero_le hn
  obtain ⟨k, rfl⟩ := Int.eq_ofNat_of_zero_le hc
  unfold isq
  rw [Int.toNat_natCast]
  obtain ⟨h1, h2⟩ := Float64.isqrt_spec m
  have e : ((k : Int) * (k : Int)) = ((k * k : Nat) : Int) := (Int.natCast_mul k k).symm
  rw [e]
  constructor
  · intro h
    have h3 : Float64.isqrt m + 1 ≤ k := by omega
    have := Nat.mul_le_mul h3 h3
    omega
  · intro h
    have h3 : m < k * k := by omega
    rcases Nat.lt_or_ge (Float64.isqrt m) k with h4 | h4
    · omega
    · have := Nat.mul_le_mul h4 h4
      omega
def needM (k : Str) (T B a b : Int) : Int :=
  if k = "both" then cd (T * (a + b)) (T + B) else if k = "mean" then cd (T * (a + b)) (2 * B) else if k = "greater" then cd (T * max a b) B
  else if k = "lesser" then cd (T * min a b) B else isq (cd (T * a * b) B - 1) + 1
def reach (k : Str) (T B a b c : Int) : Bool := decide (T * (frac k a b c).2 ≤ (frac k a b c).1 * B)
structure LOk (T B : Int) : Prop where
  t0 : 0 < T
  tb : T ≤ B
  g1 : gcdI T B = 1
theorem mul_pos3 {a b c : Int} (ha : 0 < a) (hb : 0 < b) (hc : 0 < c) : 0 < a * b * c := Int.mul_pos (Int.mul_pos ha hb) hc
theorem need_spec {k : Str} {T B a b c : Int} (t0 : 0 < T) (tb : T ≤ B) (ha : 0 < a) (hb : 0 < b) (hc : 0 ≤ c) : reach k T B a b c = true ↔ needM k T B a b ≤ c := by
  unfold reach needM frac
  rw [decide_eq_true_iff]
  by_cases h1 : k = "both"
  · rw [if_pos h1, if_pos h1, cd_le (by omega)]
    dsimp only
    have e1 : T * (a + b - c) = T * (a + b) - T * c := Int.mul_sub _ _ _
    have e2 : c * (T + B) = T * c + c * B := by rw [Int.mul_add, Int.mul_comm c T]
    omega
  rw [if_neg h1, if_neg h1]
  by_cases h2 : k = "mean"
  · rw [if_pos h2, if_pos h2, cd_le (by omega)]
    dsimp only
    have e2 : c * (2 * B) = 2 * c * B := by rw [← Int.mul_assoc, Int.mul_comm c 2]
    omega
  rw [if_neg h2, if_neg h2]
  by_cases h3 : k = "greater"
  · rw [if_pos h3, if_pos h3, cd_le (by omega)]
  rw [if_neg h3, if_neg h3]
  by_cases h4 : k = "lesser"
  · rw [if_pos h4, if_pos h4, cd_le (by omega)]
  rw [if_neg h4, if_neg h4]
  dsimp only
  have B0 : 0 < B := by omega
  have p0 : 0 < T * a * b := mul_pos3 t0 ha hb
  have q1 : 1 ≤ cd (T * a * b) B := by
    rcases Int.lt_or_le (cd (T * a * b) B) 1 with h | h
    · have := (cd_le (t := T * a * b) (b := B) (c := 0) B0).mp (by omega)
      omega
    · exact h
  have s1 := isq_lt (n := cd (T * a * b) B - 1) (c := c) (by omega) hc
  have s2 := cd_le (t := T * a * b) (b := B) (c := c * c) B0
  have e : T * (a * b) = T * a * b := (Int.mul_assoc _ _ _).symm
  rw [e]
  omega
theorem need_nn {k : Str} {T B a b : Int} (t0 : 0 < T) (tb : T ≤ B) (ha : 0 < a) (hb : 0 < b) : 0 ≤ needM k T B a b := by
  have h := isq_nn (cd (T * a * b) B - 1)
  have p1 : 0 ≤ T * (a + b) := Int.mul_nonneg (by omega) (by omega)
  have p2 : 0 ≤ T * max a b := Int.mul_nonneg (by omega) (by omega)
  have p3 : 0 ≤ T * min a b := Int.mul_nonneg (by omega) (by omega)
  unfold needM cd
  split
  · exact Int.ediv_nonneg (by omega) (by omega)
  · split
    · exact Int.ediv_nonneg (by omega) (by omega)
    · split
      · exact Int.ediv_nonneg (by omega) (by omega)
      · split
        · exact Int.ediv_nonneg (by omega) (by omega)
        · unfold cd at h
          omega
theorem need_le {k : Str} {T B a b : Int} (t0 : 0 < T) (tb : T ≤ B) (ha : 0 < a) (hb : 0 < b) : needM k T B a b ≤ a + b := by
  rw [← need_spec t0 tb ha hb (by omega)]
  unfold reach frac
  rw [decide_eq_true_iff]
  have m1 : T * (a + b) ≤ (a + b) * B := by rw [Int.mul_comm (a + b) B]; exact Int.mul_le_mul_of_nonneg_right tb (by omega)
  have m2 : T * max a b ≤ T * (a + b) := Int.mul_le_mul_of_nonneg_left (by omega) (by omega)
  have m3 : T * min a b ≤ T * (a + b) := Int.mul_le_mul_of_nonneg_left (by omega) (by omega)
  have m5 : 0 ≤ (a + b) * B := Int.mul_nonneg (by omega) (by omega)
  split
  · dsimp only
    rw [Int.sub_self, Int.mul_zero]
    exact m5
  · split
    · dsimp only
      rw [Int.mul_assoc]
      omega
    · split
      · exact Int.le_trans m2 m1
      · split
        · exact Int.le_trans m3 m1
        · dsimp only
          have m6 : a * b ≤ (a + b) * (a + b) := by
            have q1 : a * b ≤ (a + b) * b := Int.mul_le_mul_of_nonneg_right (by omega) (by omega)
            have q2 : (a + b) * b ≤ (a + b) * (a + b) := Int.mul_le_mul_of_nonneg_left (by omega) (by omega)
            omega
          have m7 : T * (a * b) ≤ T * ((a + b) * (a + b)) := Int.mul_le_mul_of_nonneg_left m6 (by omega)
          have m8 : T * ((a + b) * (a + b)) ≤ B * ((a + b) * (a + b)) := Int.mul_le_mul_of_nonneg_right tb (Int.mul_nonneg (by omega) (by omega))
          rw [Int.mul_comm ((a + b) * (a + b)) B]
          omega
theorem max_symm (a b : Int) : max b a = max a b := Int.max_comm b a
theorem needM_symm (k : Str) (T B a b : Int) : needM k T B b a = needM k T B a b := by
  unfold needM
  rw [Int.add_comm b a, Int.max_comm b a, Int.min_comm b a, Int.mul_assoc T b a, Int.mul_comm b a, ← Int.mul_assoc T a b]
/-! ### math.isqrt -/
def rIsqrt : List V → Hp → VK → Prop := fun vs H Q => ∃ n : Int, vs = [.int n] ∧ 0 ≤ n ∧ n.toNat.log2 ≤ 9000 ∧ Q (.int (isq n)) H
theorem cr_isqrt {X : Cx} : CallR X (.builtin "math.isqrt") rIsqrt := by
  intro pins s σ H vs us Q I r h
  obtain ⟨n, rfl, h0, h1, q⟩ := h
  cases r with
  | cons r1 r2 =>
    cases r2
    obtain ⟨t, rfl⟩ := r1
    exact PySem.call_function_meets PySem.W.MGF.kind_isqrt PySem.W.MGF.plain_isqrt PySem.W.MGF.entry_isqrt (PySem.W.MGF.args_isqrt _) (PySem.W.mg_run_isqrt n t (by omega) (by omega) (by omega)).meets ⟨.int _, H, I.tok _, ⟨_, rfl⟩, q⟩
theorem rc_isqrt {H : Hp} {n : Int} (h0 : 0 ≤ n) (h1 : n.toNat.log2 ≤ 9000) : RC rIsqrt [.int n] H (.int (isq n)) := fun H1 _ _ q => ⟨n, rfl, h0, h1, q H1 (Ex.refl H1)⟩
theorem log2_le_of {x : Int} {n : Nat} (h0 : 0 ≤ x) (h : x < (2 : Int) ^ (n + 1)) : x.toNat.log2 ≤ n := by
  have h1 := abs_lt_of h0 h
  have e : x.toNat = x.natAbs := by omega
  rw [e]
  exact PySem.W.mg_log h1
/-- wide numbers -/
theorem cmulW_of {i j : Int} (h1 : 0 ≤ i) (h2 : i < (2 : Int) ^ 900) (h3 : 0 ≤ j) (h4 : j < (2 : Int) ^ 900) : CMulW i j := wide_mul (abs_lt_of h1 h2) (abs_lt_of h3 h4) (by decide) (by decide) (by decide)
theorem cdivW_of {i j : Int} (h3 : 0 < j) (h4 : j < (2 : Int) ^ 900) : CDivW i j := wide_div h3 (abs_lt_of (by omega) h4) (by decide) (by decide)
structure FOk (a b c : Int) : Prop where
  a0 : 0 ≤ a
  a1 : a ≤ 2 ^ 200
  b0 : 0 ≤ b
  b1 : b ≤ 2 ^ 200
  c0 : 0 ≤ c
  cab : c ≤ a + b
structure SOk (a b c : Int) : Prop where
  f : FOk a b c
  ca : c ≤ a
  cb : c ≤ b
theorem frac_bd (k : Str) {a b c : Int} (h : FOk a b c) : 0 ≤ (frac k a b c).1 ∧ (frac k a b c).1 ≤ 2 ^ 402 ∧ 0 ≤ (frac k a b c).2 ∧ (frac k a b c).2 ≤ 2 ^ 402 := by
  obtain ⟨a0, a1, b0, b1, c0, ca⟩ := h
  unfold frac
  split
  · dsimp only
    omega
  · split
    · dsimp only
      omega
    · split
      · dsimp only
        omega
      · split
        · dsimp only
          omega
        · dsimp only
          have h1 := Int.mul_nonneg c0 c0
          have h2 := Int.mul_nonneg a0 b0
          have h3 : c * c ≤ 2 ^ 201 * 2 ^ 201 := Int.mul_le_mul (by omega) (by omega) c0 (by decide)
          have h4 : a * b ≤ 2 ^ 200 * 2 ^ 200 := Int.mul_le_mul a1 b1 b0 (by decide)
          have e3 : (2 : Int) ^ 201 * 2 ^ 201 = 2 ^ 402 := by decide +kernel
          have e4 : (2 : Int) ^ 200 * 2 ^ 200 ≤ 2 ^ 402 := by decide +kernel
          omega
theorem frac_pos (k : Str) {a b c : Int} (ha : 0 < a) (hb : 0 < b) (hc : c < a + b) : 0 < (frac k a b c).2 := by
  unfold frac
  split
  · dsimp only
    omega
  · split
    · dsimp only
      omega
    · split
      · dsimp only
        omega
      · split
        · dsimp only
          omega
        · dsimp only
          exact Int.mul_pos ha hb
/-! ### drawn least shares -/
def lbot (m : Int) : Int := ([1 + m / 5 % 12, 1 + m / 5 % 4, 1 + m / 5 % 1000, 999999999 - m / 5 % 999] : List Int).getD (m % 4).toNat 0
def ltop (m : Int) : Int := if m % 4 = 3 then ([1 + m * 7919 % lbot m, lbot m - m / 56 % 999] : List Int).getD (m / 28 % 2).toNat 0 else 1 + m / 7 % lbot m
def leastM (m : Int) : Int × Int := (ltop m / gcdI (ltop m) (lbot m), lbot m / gcdI (ltop m) (lbot m))
theorem lbot_ok (m : Int) : 1 ≤ lbot m ∧ lbot m ≤ 999999999 ∧ (m % 4 = 3 → 999999001 ≤ lbot m) := by
  have h : m % 4 = 0 ∨ m % 4 = 1 ∨ m % 4 = 2 ∨ m % 4 = 3 := by omega
  unfold lbot
  rcases h with h | h | h | h <;> rw [h]
  · show 1 ≤ 1 + m / 5 % 12 ∧ 1 + m / 5 % 12 ≤ 999999999 ∧ ((0 : Int) = 3 → 999999001 ≤ 1 + m / 5 % 12)
    omega
  · show 1 ≤ 1 + m / 5 % 4 ∧ 1 + m / 5 % 4 ≤ 999999999 ∧ ((1 : Int) = 3 → 999999001 ≤ 1 + m / 5 % 4)
    omega
  · show 1 ≤ 1 + m / 5 % 1000 ∧ 1 + m / 5 % 1000 ≤ 999999999 ∧ ((2 : Int) = 3 → 999999001 ≤ 1 + m / 5 % 1000)
    omega
  · show 1 ≤ 999999999 - m / 5 % 999 ∧ 999999999 - m / 5 % 999 ≤ 999999999 ∧ ((3 : Int) = 3 → 999999001 ≤ 999999999 - m / 5 % 999)
    omega
theorem ltop_ok (m : Int) : 1 ≤ ltop m ∧ ltop m ≤ lbot m := by
  obtain ⟨h1, h2, h3⟩ := lbot_ok m
  unfold ltop
  split
  · rename_i h
    have h3 := h3 h
    have h : m / 28 % 2 = 0 ∨ m / 28 % 2 = 1 := by omega
    have e1 := Int.emod_nonneg (m * 7919) (show lbot m ≠ 0 by omega)
    have e2 := Int.emod_lt_of_pos (m * 7919) (show 0 < lbot m by omega)
    rcases h with h | h <;> rw [h]
    · show 1 ≤ 1 + m * 7919 % lbot m ∧ 1 + m * 7919 % lbot m ≤ lbot m
      omega
    · show 1 ≤ lbot m - m / 56 % 999 ∧ lbot m - m / 56 % 999 ≤ lbot m
      omega
  · have e1 := Int.emod_nonneg (m / 7) (show lbot m ≠ 0 by omega)
    have e2 := Int.emod_lt_of_pos (m / 7) (show 0 < lbot m by omega)
    omega
theorem gcdI_div {a b : Int} (ha : 0 < a) (hb : 0 < b) : 0 < a / gcdI a b ∧ 0 < b / gcdI a b ∧ gcdI (a / gcdI a b) (b / gcdI a b) = 1 := by
  obtain ⟨m, rfl⟩ := Int.eq_ofNat_of_zero_le (show 0 ≤ a by omega)
  obtain ⟨n, rfl⟩ := Int.eq_ofNat_of_zero_le (show 0 ≤ b by omega)
  have hm : 0 < m := by omega
  have hn : 0 < n := by omega
  unfold gcdI
  simp only [Int.natAbs_natCast]
  have g0 : 0 < Nat.gcd m n := Nat.gcd_pos_of_pos_left _ hm
  have d1 : 0 < m / Nat.gcd m n := Nat.div_pos (Nat.gcd_le_left _ hm) g0
  have d2 : 0 < n / Nat.gcd m n := Nat.div_pos (Nat.gcd_le_right _ hn) g0
  have e1 : ((m : Int) / ((Nat.gcd m n : Nat) : Int)) = ((m / Nat.gcd m n : Nat) : Int) := (Int.natCast_ediv _ _).symm
  have e2 : ((n : Int) / ((Nat.gcd m n : Nat) : Int)) = ((n / Nat.gcd m n : Nat) : Int) := (Int.natCast_ediv _ _).symm
  rw [e1, e2]
  simp only [Int.natAbs_natCast]
  refine ⟨by omega, by omega, ?_⟩
  rw [Nat.gcd_div (Nat.gcd_dvd_left m n) (Nat.gcd_dvd_right m n), Nat.div_self g0]
  rfl
theorem div_gcd_le {a b : Int} (ha : 0 < a) (h : a ≤ b) : a / gcdI a b ≤ b / gcdI a b := Int.ediv_le_ediv (gcdI_pos (by omega)) h
theorem div_gcd_le_self {a b : Int} (hb : 0 < b) : b / gcdI a b ≤ b := by
  have := gcdI_pos (a := a) hb
  exact Int.ediv_le_self _ (by omega)
theorem least_ok (m : Int) : LOk (leastM m).1 (leastM m).2 ∧ (leastM m).2 ≤ 999999999 := by
  obtain ⟨h1, h2, h3⟩ := lbot_ok m
  obtain ⟨h4, h5⟩ := ltop_ok m
  obtain ⟨g1, g2, g3⟩ := gcdI_div (show 0 < ltop m by omega) (show 0 < lbot m by omega)
  have g4 := div_gcd_le (show 0 < ltop m by omega) h5
  have g5 := div_gcd_le_self (a := ltop m) (show 0 < lbot m by omega)
  unfold leastM
  exact ⟨⟨g1, g4, g3⟩, by dsimp only; omega⟩
end MuK

/- g: what a reading's expression evaluates to, from the outside in; s: a side condition -/
local macro_rules | `(tactic| walk_at "mu s") => `(tactic| first | assumption | rfl | omega | decide | decide +kernel | skip)
local macro_rules | `(tactic| walk_at "mu g") => `(tactic| first
  | (with_reducible exact Evl.ev_c)
  | exact Evl.ev_var rfl
  | ((with_reducible apply Evl.ev_op) <;> walk_at "mu g")
  | ((with_reducible apply Evl.ev_un) <;> walk_at "mu g")
  | (with_reducible exact Evl.rv_I0)
  | (with_reducible exact MuK.rv_eqI)
  | (with_reducible exact MuK.rv_eqS)
  | (with_reducible exact MuK.rv_neI)
  | (with_reducible exact MuK.rv_neS)
  | ((with_reducible apply Evl.rv_I) <;> walk_at "mu side")
  | (with_reducible exact Evl.ru_neg)
  | (with_reducible exact Evl.ea_nil)
  | ((with_reducible apply Evl.ea_cons) <;> walk_at "mu g")
  | (with_reducible exact MuK.rc_min2)
  | (with_reducible exact MuK.rc_max2)
  | (with_reducible exact MuK.rc_gcdI)
  | (with_reducible exact MuK.rc_intB)
  | ((with_reducible apply Evl.ev_cb) <;> walk_at "mu g")
  | ((with_reducible apply MuK.ev_callV) <;> walk_at "mu g")
  | ((with_reducible apply Evl.et_test) <;> walk_at "mu g")
  | ((with_reducible apply Evl.et_B) <;> walk_at "mu g")
  | ((with_reducible apply Evl.et_not) <;> walk_at "mu g")
  | ((with_reducible refine' Evl.et_and ?_ (fun _ => ?_)) <;> walk_at "mu g")
  | ((with_reducible refine' Evl.et_or ?_ (fun _ => ?_)) <;> walk_at "mu g")
  | ((with_reducible apply Evl.eu_tup) <;> walk_at "mu g")
  | ((with_reducible apply Evl.el_lst) <;> walk_at "mu g")
  | ((with_reducible apply MuK.ev_ixNew) <;> walk_at "mu g")
  | (show List.length _ ≤ (100000 : Nat); simp; done)
  | skip)
local macro_rules | `(tactic| walk_at "mu side") => `(tactic| first
  | (show L2.CDiv _ _; exact ⟨by decide, by decide⟩)
  | (show (0 : Int) < _; decide)
  | (show L2.CPow _ _; exact ⟨by decide, by decide, by decide⟩)
  | skip)

namespace MuK
open PySem PySem.Spec PyProof.Rows L2 Evl
def topS (i : Nat) : Stmt := PySem.Challenge.pw_muchalike_k02_what_two_need.main.body.getD i (.Pass ⟨0, 0, 0, 0⟩)
abbrev s_p_check_kind : Stmt := topS 7
theorem sc_p_check_kind : FnScope ["kind"] ["kind"] (defScope s_p_check_kind) := ⟨rfl, rfl, rfl, by decide +kernel, rfl, by decide +kernel, by decide +kernel⟩
abbrev s_p_check_kind_and_least : Stmt := topS 8
theorem sc_p_check_kind_and_least : FnScope ["kind", "least", "top", "bottom"] ["kind", "least"] (defScope s_p_check_kind_and_least) := ⟨rfl, rfl, rfl, by decide +kernel, rfl, by decide +kernel, by decide +kernel⟩
abbrev s_p_divided_up : Stmt := topS 9
theorem sc_p_divided_up : FnScope ["top", "bottom"] ["top", "bottom"] (defScope s_p_divided_up) := ⟨rfl, rfl, rfl, by decide +kernel, rfl, by decide +kernel, by decide +kernel⟩
abbrev s_p_need : Stmt := topS 10
theorem sc_p_need : FnScope ["kind", "least", "a", "b", "top", "bottom"] ["kind", "least", "a", "b"] (defScope s_p_need) := ⟨rfl, rfl, rfl, by decide +kernel, rfl, by decide +kernel, by decide +kernel⟩
abbrev s_l_mix : Stmt := topS 13
theorem sc_l_mix : FnScope ["_law_cell", "_law_k", "_law_turn", "_law_number"] ["_law_cell", "_law_k"] (defScope s_l_mix) := ⟨rfl, rfl, rfl, by decide +kernel, rfl, by decide +kernel, by decide +kernel⟩
abbrev s_l_divisor : Stmt := topS 15
theorem sc_l_divisor : FnScope ["_law_one", "_law_other"] ["_law_one", "_law_other"] (defScope s_l_divisor) := ⟨rfl, rfl, rfl, by decide +kernel, rfl, by decide +kernel, by decide +kernel⟩
abbrev s_l_kind : Stmt := topS 16
theorem sc_l_kind : FnScope ["_law_pick"] ["_law_pick"] (defScope s_l_kind) := ⟨rfl, rfl, rfl, by decide +kernel, rfl, by decide +kernel, by decide +kernel⟩
abbrev s_l_least : Stmt := topS 17
theorem sc_l_least : FnScope ["_law_pick", "_law_bottom", "_law_top", "_law_by"] ["_law_pick"] (defScope s_l_least) := ⟨rfl, rfl, rfl, by decide +kernel, rfl, by decide +kernel, by decide +kernel⟩
abbrev s_l_parts : Stmt := topS 18
theorem sc_l_parts : FnScope ["_law_kind_here", "_law_a", "_law_b", "_law_c"] ["_law_kind_here", "_law_a", "_law_b", "_law_c"] (defScope s_l_parts) := ⟨rfl, rfl, rfl, by decide +kernel, rfl, by decide +kernel, by decide +kernel⟩
abbrev s_l_reaches : Stmt := topS 21
theorem sc_l_reaches : FnScope ["_law_kind_here", "_law_least_here", "_law_a", "_law_b", "_law_c", "_law_top", "_law_bottom"] ["_law_kind_here", "_law_least_here", "_law_a", "_law_b", "_law_c"] (defScope s_l_reaches) := ⟨rfl, rfl, rfl, by decide +kernel, rfl, by decide +kernel, by decide +kernel⟩
abbrev s_l_need : Stmt := topS 22
theorem sc_l_need : FnScope ["_law_kind_here", "_law_least_here", "_law_a", "_law_b", "_law_low", "_law_high", "_law_middle"] ["_law_kind_here", "_law_least_here", "_law_a", "_law_b"] (defScope s_l_need) := ⟨rfl, rfl, rfl, by decide +kernel, rfl, by decide +kernel, by decide +kernel⟩
abbrev s_l_is : Stmt := topS 23
theorem sc_l_is : FnScope ["_law_given", "_law_due"] ["_law_given", "_law_due"] (defScope s_l_is) := ⟨rfl, rfl, rfl, by decide +kernel, rfl, by decide +kernel, by decide +kernel⟩
abbrev s_l_weight_by : Stmt := topS 24
theorem sc_l_weight_by : FnScope ["_law_pick"] ["_law_pick"] (defScope s_l_weight_by) := ⟨rfl, rfl, rfl, by decide +kernel, rfl, by decide +kernel, by decide +kernel⟩
abbrev s_l_cut : Stmt := topS 25
theorem sc_l_cut : FnScope ["_law_script", "_law_most", "_law_cell"] ["_law_script"] (defScope s_l_cut) := ⟨rfl, rfl, rfl, by decide +kernel, rfl, by decide +kernel, by decide +kernel⟩
abbrev s_p_law : Stmt := topS 26
theorem sc_p_law : FnScope ["_law_script", "_law_cell", "_law_a", "_law_b", "_law_least_here", "_law_k", "_law_kind_here", "_law_due"] ["_law_script"] (defScope s_p_law) := ⟨rfl, rfl, rfl, by decide +kernel, rfl, by decide +kernel, by decide +kernel⟩
structure Txt (K : PySem.W.Frag) (mg : Str → Option Value) (base : Heap) where
  a_p_check_kind : Addr
  d_p_check_kind : FuncData
  F_p_check_kind : Fun K "check_kind" "check_kind" s_p_check_kind a_p_check_kind d_p_check_kind
  b_p_check_kind : Binds K d_p_check_kind ["kind"] []
  g_p_check_kind : mg "check_kind" = some (.ref a_p_check_kind)
  a_p_check_kind_and_least : Addr
  d_p_check_kind_and_least : FuncData
  F_p_check_kind_and_least : Fun K "check_kind_and_least" "check_kind_and_least" s_p_check_kind_and_least a_p_check_kind_and_least d_p_check_kind_and_least
  b_p_check_kind_and_least : Binds K d_p_check_kind_and_least ["kind", "least"] []
  g_p_check_kind_and_least : mg "check_kind_and_least" = some (.ref a_p_check_kind_and_least)
  a_p_divided_up : Addr
  d_p_divided_up : FuncData
  F_p_divided_up : Fun K "_divided_up" "_divided_up" s_p_divided_up a_p_divided_up d_p_divided_up
  b_p_divided_up : Binds K d_p_divided_up ["top", "bottom"] []
  g_p_divided_up : mg "_divided_up" = some (.ref a_p_divided_up)
  a_p_need : Addr
  d_p_need : FuncData
  F_p_need : Fun K "need" "need" s_p_need a_p_need d_p_need
  b_p_need : Binds K d_p_need ["kind", "least", "a", "b"] []
  g_p_need : mg "need" = some (.ref a_p_need)
  a_l_mix : Addr
  d_l_mix : FuncData
  F_l_mix : Fun K "_law_mix" "_law_mix" s_l_mix a_l_mix d_l_mix
  b_l_mix : Binds K d_l_mix ["_law_cell", "_law_k"] []
  g_l_mix : mg "_law_mix" = some (.ref a_l_mix)
  a_l_divisor : Addr
  d_l_divisor : FuncData
  F_l_divisor : Fun K "_law_divisor" "_law_divisor" s_l_divisor a_l_divisor d_l_divisor
  b_l_divisor : Binds K d_l_divisor ["_law_one", "_law_other"] []
  g_l_divisor : mg "_law_divisor" = some (.ref a_l_divisor)
  a_l_kind : Addr
  d_l_kind : FuncData
  F_l_kind : Fun K "_law_kind" "_law_kind" s_l_kind a_l_kind d_l_kind
  b_l_kind : Binds K d_l_kind ["_law_pick"] []
  g_l_kind : mg "_law_kind" = some (.ref a_l_kind)
  a_l_least : Addr
  d_l_least : FuncData
  F_l_least : Fun K "_law_least" "_law_least" s_l_least a_l_least d_l_least
  b_l_least : Binds K d_l_least ["_law_pick"] []
  g_l_least : mg "_law_least" = some (.ref a_l_least)
  a_l_parts : Addr
  d_l_parts : FuncData
  F_l_parts : Fun K "_law_parts" "_law_parts" s_l_parts a_l_parts d_l_parts
  b_l_parts : Binds K d_l_parts ["_law_kind_here", "_law_a", "_law_b", "_law_c"] []
  g_l_parts : mg "_law_parts" = some (.ref a_l_parts)
  a_l_reaches : Addr
  d_l_reaches : FuncData
  F_l_reaches : Fun K "_law_reaches" "_law_reaches" s_l_reaches a_l_reaches d_l_reaches
  b_l_reaches : Binds K d_l_reaches ["_law_kind_here", "_law_least_here", "_law_a", "_law_b", "_law_c"] []
  g_l_reaches : mg "_law_reaches" = some (.ref a_l_reaches)
  a_l_need : Addr
  d_l_need : FuncData
  F_l_need : Fun K "_law_need" "_law_need" s_l_need a_l_need d_l_need
  b_l_need : Binds K d_l_need ["_law_kind_here", "_law_least_here", "_law_a", "_law_b"] []
  g_l_need : mg "_law_need" = some (.ref a_l_need)
  a_l_is : Addr
  d_l_is : FuncData
  F_l_is : Fun K "_law_is" "_law_is" s_l_is a_l_is d_l_is
  b_l_is : Binds K d_l_is ["_law_given", "_law_due"] []
  g_l_is : mg "_law_is" = some (.ref a_l_is)
  a_l_weight_by : Addr
  d_l_weight_by : FuncData
  F_l_weight_by : Fun K "_law_weight_by" "_law_weight_by" s_l_weight_by a_l_weight_by d_l_weight_by
  b_l_weight_by : Binds K d_l_weight_by ["_law_pick"] []
  g_l_weight_by : mg "_law_weight_by" = some (.ref a_l_weight_by)
  a_l_cut : Addr
  d_l_cut : FuncData
  F_l_cut : Fun K "_law_cut" "_law_cut" s_l_cut a_l_cut d_l_cut
  b_l_cut : Binds K d_l_cut ["_law_script"] []
  g_l_cut : mg "_law_cut" = some (.ref a_l_cut)
  a_KINDS : Addr
  g_KINDS : mg "KINDS" = some (.ref a_KINDS)
  c_KINDS : ∀ H : Hp, SqT K H a_KINDS [.str (PySem.Str.ofString "both"), .str (PySem.Str.ofString "mean"), .str (PySem.Str.ofString "greater"), .str (PySem.Str.ofString "lesser"), .str (PySem.Str.ofString "square")]
  g_gcd : mg "gcd" = some (.builtin "math.gcd")
  g_isqrt : mg "isqrt" = some (.builtin "math.isqrt")
  z_bool : mg "bool" = none
  z_int : mg "int" = none
  z_isinstance : mg "isinstance" = none
  z_max : mg "max" = none
  z_min : mg "min" = none
  z_range : mg "range" = none
section
variable {P : Program} {w : World} {K : PySem.W.Frag} {mg : Str → Option Value} {base : Heap}

def D_l_mix : Hp → List V → V → Prop := fun _ vs v => ∃ (c : Int) (k : Nat), vs = [.int c, .int k] ∧ k ≤ 1000 ∧ v = .int (mix c k)
theorem ok_l_mix (T : Txt K mg base) : FnOk P w K mg base CX0 1 T.a_l_mix T.d_l_mix ["_law_cell", "_law_k"] (SpVal D_l_mix) := by
  refine T.F_l_mix.ok sc_l_mix (fun vs H Q E h => ?_) (fun cdv A outer s H vs Q E hr h => ?_)
  · obtain ⟨v, ⟨c, k, rfl, _⟩, _⟩ := h
    rfl
  · obtain ⟨v, ⟨c, k, rfl, hk, rfl⟩, q⟩ := h
    refine ⟨_, (pss_cons (ps_if (pt_cmpR op_ge (pv 0) (pe_op op_pow pe_int pe_int) (nomark _))
      (pss_cons (ps_for PassesOwn.never rfl (pi_range1 (by rfl) T.z_range (pa_cons (pv 1) pa_nil)) (pg_name (i := 2) sc_l_mix.nd rfl (.inl rfl))
      (pss_one (ps_set (i := 0) sc_l_mix.nd rfl (.inl rfl) (pe_op op_fdiv (pv 0) (pe_op op_pow pe_int pe_int)))))
      (pss_one (ps_ret (pe_op op_mod (pv 0) (pe_op op_pow pe_int pe_int)))))
      pss_nil)
      (pss_cons (ps_set (i := 3) sc_l_mix.nd rfl (.inl rfl) (pe_op op_mod (pe_op op_mul (pe_op op_add (pe_op op_add (pe_op op_mod (pv 0) pe_int) (pe_op op_mul (pe_op op_mul (pv 1) (pv 1)) pe_int)) (pv 1)) pe_int) pe_int))
      (pss_cons (ps_set (i := 3) sc_l_mix.nd rfl (.inl rfl) (pe_op op_mod (pe_op op_mul (pv 3) (pv 3)) pe_int))
      (pss_one (ps_ret (pe_op op_fdiv (pe_op op_mod (pe_op op_mul (pv 3) (pe_op op_add (pv 3) pe_int)) pe_int) pe_int)))))), ?_⟩
    refine q_when (b := decide ((10 : Int) ^ (18 : Int).toNat ≤ c)) (by walk_at "mu g") (fun hb H1 e1 => ?_) (fun hb H1 e1 => ?_)
    · refine q_forR1 (n := (k : Int)) (by walk_at "mu g") (by omega) (fun i σ' H' => Ex H H' ∧ ∃ x3 x4, σ' = [some (.int (divs (10 ^ 6) i c)), some (.int k), x3, x4]) (fun H2 e2 => ⟨e1.trans e2, none, none, rfl⟩) (fun i σ' H' hi hp => ?_) (fun σ' H' hp => ?_)
      · obtain ⟨e2, x3, x4, rfl⟩ := hp
        refine s_asg (by walk_at "mu g") fun H3 e3 => ?_
        exact ⟨e2.trans e3, _, _, rfl⟩
      · obtain ⟨e2, x3, x4, rfl⟩ := hp
        refine s_ret (v := .int (mix c k)) ?_ fun H3 e3 => q H3 (e2.trans e3)
        have hb' : c ≥ 10 ^ 18 := of_decide_eq_true hb
        have e : mix c k = divs (10 ^ 6) k c % 10 ^ 6 := by
          unfold mix
          rw [if_pos hb']
        rw [e]
        exact ev_is (by walk_at "mu g") (by first | rfl | simp)
    · have hb' : ¬ c ≥ 10 ^ 18 := of_decide_eq_false hb
      have r1 : ∀ z : Int, 0 ≤ z % 2147483629 ∧ z % 2147483629 < 2147483629 := fun z => ⟨Int.emod_nonneg z (by decide), Int.emod_lt_of_pos z (by decide)⟩
      have r2 : ∀ z : Int, 0 ≤ z % 2147483587 ∧ z % 2147483587 < 2147483587 := fun z => ⟨Int.emod_nonneg z (by decide), Int.emod_lt_of_pos z (by decide)⟩
      have r3 : 0 ≤ c % 1000003 ∧ c % 1000003 < 1000003 := ⟨Int.emod_nonneg c (by decide), Int.emod_lt_of_pos c (by decide)⟩
      refine q_asg (by walk_at "mu g"; all_goals (show CMul _ _; first | exact .inr ⟨by decide, by decide⟩ | exact .inr ⟨by omega, by omega⟩)) fun H2 e2 => ?_
      refine q_asg (by walk_at "mu g"; all_goals (show CMul _ _; have := r1 ((c % 1000003 + k * k * 7919 + k) * 48271); exact .inr ⟨by omega, by omega⟩)) fun H3 e3 => ?_
      refine s_ret (v := .int (mix c k)) ?_ fun H4 e4 => q H4 (((e1.trans e2).trans e3).trans e4)
      unfold mix
      rw [if_neg hb']
      refine ev_is (by walk_at "mu g"; all_goals (show CMul _ _; exact .inr ⟨by have := r2 ((((c % 1000003 + k * k * 7919 + k) * 48271 % 2147483629) * ((c % 1000003 + k * k * 7919 + k) * 48271 % 2147483629))); omega, by have := r2 ((((c % 1000003 + k * k * 7919 + k) * 48271 % 2147483629) * ((c % 1000003 + k * k * 7919 + k) * 48271 % 2147483629))); omega⟩)) rfl

def D_l_divisor : Hp → List V → V → Prop := fun _ vs v => ∃ (a b : Int), vs = [.int a, .int b] ∧ 0 ≤ a ∧ 0 ≤ b ∧ v = .int (gcdI a b)
theorem ok_l_divisor (T : Txt K mg base) : FnOk P w K mg base CX0 1 T.a_l_divisor T.d_l_divisor ["_law_one", "_law_other"] (SpVal D_l_divisor) := by
  refine T.F_l_divisor.ok sc_l_divisor (fun vs H Q E h => ?_) (fun cdv A outer s H vs Q E hr h => ?_)
  · obtain ⟨v, ⟨a, b, rfl, _⟩, _⟩ := h
    rfl
  · obtain ⟨v, ⟨a, b, rfl, ha, hb, rfl⟩, q⟩ := h
    refine ⟨_, (pss_cons (ps_while PassesOwn.never (pt_cmpR op_ne (pv 1) pe_int (nomark _)) (pss_one (ps_par (i := 0) (j := 1) rfl sc_l_divisor.nd rfl rfl (by decide) rfl rfl (pa_cons (pv 1) (pa_cons (pe_op op_mod (pv 0) (pv 1)) pa_nil)) (by rfl))))
      (pss_one (ps_ret (pv 0)))), ?_⟩
    refine q_while (fun m σ' H' => Ex H H' ∧ ∃ x y : Int, σ' = [some (.int x), some (.int y)] ∧ 0 ≤ x ∧ 0 ≤ y ∧ m = y.toNat ∧ gcdI x y = gcdI a b) b.toNat ⟨Ex.refl H, a, b, rfl, ha, hb, rfl, rfl⟩ (fun m σ' H' hw => ?_)
    obtain ⟨e1, x, y, rfl, hx, hy, rfl, hg⟩ := hw
    refine ⟨!decide (y = 0), by walk_at "mu g", fun ht H1 e2 => ?_, fun hf H1 e2 => ?_⟩
    · have y0 : y ≠ 0 := by
        intro z
        rw [decide_eq_true z] at ht
        cases ht
      have m0 := Int.emod_nonneg x y0
      have m1 := Int.emod_lt_of_pos x (show 0 < y by omega)
      refine ⟨fun σ2 H2 => Ex H H2 ∧ σ2 = [some (.int y), some (.int (x % y))], fun σ2 H2 hn => ?_, ?_⟩
      · obtain ⟨e3, rfl⟩ := hn
        refine ⟨(x % y).toNat, by omega, e3, y, x % y, rfl, hy, m0, rfl, ?_⟩
        rw [← hg]
        unfold gcdI
        rw [gcd_step x y hx (by omega)]
      · refine s_par (v := .int y) (w := .int (x % y)) (by walk_at "mu g"; all_goals (show 0 < y; omega)) fun H2 e3 => ?_
        exact ⟨(e1.trans e2).trans e3, rfl⟩
    · have y0 : y = 0 := by
        have : decide (y = 0) = true := by
          cases h : decide (y = 0)
          · rw [h] at hf; cases hf
          · rfl
        exact of_decide_eq_true this
      subst y0
      refine s_ret (v := .int (gcdI a b)) ?_ fun H2 e3 => q H2 ((e1.trans e2).trans e3)
      have e : gcdI a b = x := by
        rw [← hg]
        unfold gcdI
        rw [show (0 : Int).natAbs = 0 from rfl, Nat.gcd_zero_right]
        omega
      rw [e]
      walk_at "mu g"

def D_l_kind : Hp → List V → V → Prop := fun _ vs v => ∃ (i : Int), vs = [.int i] ∧ v = .str (five.getD (i % 5).toNat "both")
theorem ok_l_kind (T : Txt K mg base) : FnOk P w K mg base CX0 1 T.a_l_kind T.d_l_kind ["_law_pick"] (SpVal D_l_kind) := by
  refine T.F_l_kind.ok sc_l_kind (fun vs H Q E h => ?_) (fun cdv A outer s H vs Q E hr h => ?_)
  · obtain ⟨v, ⟨a, rfl, _⟩, _⟩ := h
    rfl
  · obtain ⟨v, ⟨i, rfl, rfl⟩, q⟩ := h
    refine ⟨_, (pss_one (ps_ret (pe_ix ix_list (pe_lst (pa_cons pe_str (pa_cons pe_str (pa_cons pe_str (pa_cons pe_str (pa_cons pe_str pa_nil)))))) (pe_op op_mod (pv 0) pe_int) (fun _ _ => rfl)))), ?_⟩
    refine s_ret (v := .str (five.getD (i % 5).toNat "both")) ?_ fun H2 e3 => q H2 e3
    have h : atI (five.map V.str) (i % 5) = some (.str (five.getD (i % 5).toNat "both")) := by
      have h := atI_mod (xs := five.map V.str) (n := i) (m := 5) (.str "both") (by decide +kernel) (by decide)
      refine h.trans ?_
      congr 1
      rw [List.getD_eq_getElem?_getD, List.getD_eq_getElem?_getD, List.getElem?_map]
      show _ = V.str ((five[(i % 5).toNat]?).getD _)
      cases five[(i % 5).toNat]? <;> rfl
    refine ev_ixNew (K := K) (xs := five.map V.str) (i := i % 5) ?_ (by walk_at "mu g") h
    exact el_lst (vs := [.str "both", .str "mean", .str "greater", .str "lesser", .str "square"]) (by walk_at "mu g") (by decide)

def D_l_least : Hp → List V → List V → Prop := fun _ vs xs => ∃ (m : Int), vs = [.int m] ∧ 0 ≤ m ∧ m < 306783379 ∧ xs = [.int (leastM m).1, .int (leastM m).2]
theorem ok_l_least (T : Txt K mg base) : FnOk P w K mg base CX0 2 T.a_l_least T.d_l_least ["_law_pick"] (SpTup D_l_least) := by
  refine T.F_l_least.ok sc_l_least (fun vs H Q E h => ?_) (fun cdv A outer s H vs Q E hr h => ?_)
  · obtain ⟨v, ⟨m, rfl, _⟩, _⟩ := h
    rfl
  · obtain ⟨v, ⟨m, rfl, h0, h1, rfl⟩, q⟩ := h
    obtain ⟨b0, b1, b3⟩ := lbot_ok m
    obtain ⟨t0, t1⟩ := ltop_ok m
    refine ⟨_, (pss_cons (ps_set (i := 1) sc_l_least.nd rfl (.inl rfl) (pe_ix ix_list (pe_lst (pa_cons (pe_op op_add pe_int (pe_op op_mod (pe_op op_fdiv (pv 0) pe_int) pe_int)) (pa_cons (pe_op op_add pe_int (pe_op op_mod (pe_op op_fdiv (pv 0) pe_int) pe_int)) (pa_cons (pe_op op_add pe_int (pe_op op_mod (pe_op op_fdiv (pv 0) pe_int) pe_int)) (pa_cons (pe_op op_sub pe_int (pe_op op_mod (pe_op op_fdiv (pv 0) pe_int) pe_int)) pa_nil))))) (pe_op op_mod (pv 0) pe_int) (fun _ _ => rfl)))
      (pss_cons (ps_set (i := 2) sc_l_least.nd rfl (.inl rfl) (pe_op op_add pe_int (pe_op op_mod (pe_op op_fdiv (pv 0) pe_int) (pv 1))))
      (pss_cons (ps_if (pt_cmpR op_eq (pe_op op_mod (pv 0) pe_int) pe_int (nomark _))
      (pss_one (ps_set (i := 2) sc_l_least.nd rfl (.inl rfl) (pe_ix ix_list (pe_lst (pa_cons (pe_op op_add pe_int (pe_op op_mod (pe_op op_mul (pv 0) pe_int) (pv 1))) (pa_cons (pe_op op_sub (pv 1) (pe_op op_mod (pe_op op_fdiv (pv 0) pe_int) pe_int)) pa_nil))) (pe_op op_mod (pe_op op_fdiv (pv 0) pe_int) pe_int) (fun _ _ => rfl))))
      pss_nil)
      (pss_cons (ps_set (i := 3) sc_l_least.nd rfl (.inl rfl) (pe_call (ok_l_divisor T) (hr.mono (by decide)) rfl T.g_l_divisor T.F_l_divisor.kp T.b_l_divisor .nil pass0 (pa_cons (pv 2) (pa_cons (pv 1) pa_nil))))
      (pss_one (ps_ret (pe_tup (pa_cons (pe_op op_fdiv (pv 2) (pv 3)) (pa_cons (pe_op op_fdiv (pv 1) (pv 3)) pa_nil))))))))), ?_⟩
    refine q_asg (v := .int (lbot m)) (ev_ixNew (K := K) (xs := [1 + m / 5 % 12, 1 + m / 5 % 4, 1 + m / 5 % 1000, 999999999 - m / 5 % 999].map V.int) (i := m % 4) (el_is (el_lst (by walk_at "mu g") (by simp)) (by rfl)) (by walk_at "mu g") (atI_modI (m := 4) rfl (by decide))) fun H1 e1 => ?_
    refine q_asg (v := .int (1 + m / 7 % lbot m)) (by walk_at "mu g"; exact (show 0 < lbot m by omega)) fun H2 e2 => ?_
    refine q_ifAsg (b := decide (m % 4 = 3)) (v := .int (ltop m)) (by walk_at "mu g") (fun hb => ?_) (fun hb => ?_) fun H3 e3 => ?_
    · have e : ltop m = ([1 + m * 7919 % lbot m, lbot m - m / 56 % 999] : List Int).getD (m / 28 % 2).toNat 0 := by
        unfold ltop; rw [if_pos (of_decide_eq_true hb)]
      rw [e]
      exact ev_ixNew (K := K) (xs := [1 + m * 7919 % lbot m, lbot m - m / 56 % 999].map V.int) (i := m / 28 % 2) (el_is (el_lst (by walk_at "mu g"; all_goals first | (show CMul _ _; exact .inl ⟨by omega, by omega⟩) | (show 0 < lbot m; omega)) (by simp)) (by rfl)) (by walk_at "mu g") (atI_modI (m := 2) rfl (by decide))
    · have e : ltop m = 1 + m / 7 % lbot m := by
        unfold ltop; rw [if_neg (of_decide_eq_false hb)]
      rw [e]
      rfl
    · refine q_asg (v := .int (gcdI (ltop m) (lbot m))) (ev_callV (by walk_at "mu g") fun _ _ => ⟨_, _, rfl, by omega, by omega, rfl⟩) fun H4 e4 => ?_
      have g0 := gcdI_pos (a := ltop m) (show 0 < lbot m by omega)
      have g1 := gcdI_le (a := ltop m) (show 0 < lbot m by omega)
      exact s_retU (eu_tup (vs := [.int (leastM m).1, .int (leastM m).2]) (by walk_at "mu g"; all_goals exact rv_I ⟨g0, by omega⟩) (by simp)) fun p H5 hp e5 h2 => q p H5 (fresh_back (((e1.trans e2).trans e3).trans e4) hp) ((((e1.trans e2).trans e3).trans e4).trans e5) h2

def D_l_parts : Hp → List V → List V → Prop := fun _ vs xs => ∃ (k : Str) (a b c : Int), vs = [.str k, .int a, .int b, .int c] ∧ FOk a b c ∧ xs = [.int (frac k a b c).1, .int (frac k a b c).2]
theorem ok_l_parts (T : Txt K mg base) : FnOk P w K mg base CX0 1 T.a_l_parts T.d_l_parts ["_law_kind_here", "_law_a", "_law_b", "_law_c"] (SpTup D_l_parts) := by
  refine T.F_l_parts.ok sc_l_parts (fun vs H Q E h => ?_) (fun cdv A outer s H vs Q E hr h => ?_)
  · obtain ⟨v, ⟨k, a, b, c, rfl, _⟩, _⟩ := h
    rfl
  · obtain ⟨v, ⟨k, a, b, c, rfl, hc, rfl⟩, q⟩ := h
    obtain ⟨a0, a1, b0, b1, c0, cab⟩ := id hc
    refine ⟨_, (pss_cons (ps_if (pt_cmpR op_eq (pv 0) pe_str (nomark _))
      (pss_one (ps_ret (pe_tup (pa_cons (pv 3) (pa_cons (pe_op op_sub (pe_op op_add (pv 1) (pv 2)) (pv 3)) pa_nil)))))
      pss_nil)
      (pss_cons (ps_if (pt_cmpR op_eq (pv 0) pe_str (nomark _))
      (pss_one (ps_ret (pe_tup (pa_cons (pe_op op_mul pe_int (pv 3)) (pa_cons (pe_op op_add (pv 1) (pv 2)) pa_nil)))))
      pss_nil)
      (pss_cons (ps_if (pt_cmpR op_eq (pv 0) pe_str (nomark _))
      (pss_one (ps_ret (pe_tup (pa_cons (pv 3) (pa_cons (pe_callB (call_max2 rfl) (by rfl) T.z_max (by decide +kernel) (pa_cons (pv 1) (pa_cons (pv 2) pa_nil))) pa_nil)))))
      pss_nil)
      (pss_cons (ps_if (pt_cmpR op_eq (pv 0) pe_str (nomark _))
      (pss_one (ps_ret (pe_tup (pa_cons (pv 3) (pa_cons (pe_callB (call_min2 rfl) (by rfl) T.z_min (by decide +kernel) (pa_cons (pv 1) (pa_cons (pv 2) pa_nil))) pa_nil)))))
      pss_nil)
      (pss_one (ps_ret (pe_tup (pa_cons (pe_op op_mulW (pv 3) (pv 3)) (pa_cons (pe_op op_mulW (pv 1) (pv 2)) pa_nil))))))))), ?_⟩
    refine q_when (b := decide (k = "both")) (by walk_at "mu g") (fun hb H1 e1 => ?_) (fun hb H1 e1 => ?_)
    · refine s_retU (eu_tup (vs := [.int c, .int (a + b - c)]) (by walk_at "mu g") (by simp)) fun p H2 hp e2 h2 => ?_
      refine q p H2 (fresh_back e1 hp) (e1.trans e2) ?_
      rw [h2]; unfold frac; rw [if_pos (of_decide_eq_true hb)]
    have n1 := of_decide_eq_false hb
    refine q_when (b := decide (k = "mean")) (by walk_at "mu g") (fun hb H2 e2 => ?_) (fun hb H2 e2 => ?_)
    · refine s_retU (eu_tup (vs := [.int (2 * c), .int (a + b)]) (by walk_at "mu g"; all_goals (show CMul _ _; exact .inl ⟨by decide, by decide⟩)) (by simp)) fun p H3 hp e3 h2 => ?_
      refine q p H3 (fresh_back (e1.trans e2) hp) ((e1.trans e2).trans e3) ?_
      rw [h2]; unfold frac; rw [if_neg n1, if_pos (of_decide_eq_true hb)]
    have n2 := of_decide_eq_false hb
    refine q_when (b := decide (k = "greater")) (by walk_at "mu g") (fun hb H3 e3 => ?_) (fun hb H3 e3 => ?_)
    · refine s_retU (eu_tup (vs := [.int c, .int (max a b)]) (by walk_at "mu g") (by simp)) fun p H4 hp e4 h2 => ?_
      refine q p H4 (fresh_back ((e1.trans e2).trans e3) hp) (((e1.trans e2).trans e3).trans e4) ?_
      rw [h2]; unfold frac; rw [if_neg n1, if_neg n2, if_pos (of_decide_eq_true hb)]
    have n3 := of_decide_eq_false hb
    refine q_when (b := decide (k = "lesser")) (by walk_at "mu g") (fun hb H4 e4 => ?_) (fun hb H4 e4 => ?_)
    · refine s_retU (eu_tup (vs := [.int c, .int (min a b)]) (by walk_at "mu g") (by simp)) fun p H5 hp e5 h2 => ?_
      refine q p H5 (fresh_back (((e1.trans e2).trans e3).trans e4) hp) ((((e1.trans e2).trans e3).trans e4).trans e5) ?_
      rw [h2]; unfold frac; rw [if_neg n1, if_neg n2, if_neg n3, if_pos (of_decide_eq_true hb)]
    have n4 := of_decide_eq_false hb
    refine s_retU (eu_tup (vs := [.int (c * c), .int (a * b)]) (by walk_at "mu g"; all_goals exact cmulW_of (by omega) (by omega) (by omega) (by omega)) (by simp)) fun p H5 hp e5 h2 => ?_
    refine q p H5 (fresh_back (((e1.trans e2).trans e3).trans e4) hp) ((((e1.trans e2).trans e3).trans e4).trans e5) ?_
    rw [h2]; unfold frac; rw [if_neg n1, if_neg n2, if_neg n3, if_neg n4]

def D_p_check_kind : Hp → List V → V → Prop := fun _ vs v => ∃ (k : Str), vs = [.str k] ∧ k ∈ five ∧ v = .non
theorem ok_p_check_kind (T : Txt K mg base) : FnOk P w K mg base CX0 1 T.a_p_check_kind T.d_p_check_kind ["kind"] (SpVal D_p_check_kind) := by
  refine T.F_p_check_kind.ok sc_p_check_kind (fun vs H Q E h => ?_) (fun cdv A outer s H vs Q E hr h => ?_)
  · obtain ⟨v, ⟨k, rfl, _⟩, _⟩ := h
    rfl
  · obtain ⟨v, ⟨k, rfl, hk, rfl⟩, q⟩ := h
    refine ⟨_, (pss_one (ps_if (pt_cmpR op_notIn_seq (pv 0) (pe_glob (v := .ref T.a_KINDS) rfl T.g_KINDS rfl) (by rfl))
      (pss_one ps_never)
      pss_nil)), ?_⟩
    have hin : inV (.str k) (five.map V.str) = true := by
      simp only [five, List.mem_cons, List.not_mem_nil, or_false] at hk
      rcases hk with rfl | rfl | rfl | rfl | rfl <;> decide +kernel
    refine s_when (b := false) (et_test (ev_op (ev_var rfl) ev_c (Evl.rv_val fun H1 e1 Q q => ?_))) (fun hb => by cases hb) (fun hb H1 e1 => q H1 e1)
    refine ⟨_, _, rfl, .inr (T.c_KINDS H1), rfl, by decide +kernel, ?_⟩
    rw [show inV (.str k) [.str "both", .str "mean", .str "greater", .str "lesser", .str "square"] = true from hin]
    exact q

def D_p_check_kind_and_least (K : PySem.W.Frag) : Hp → List V → V → Prop := fun H vs v => ∃ (k : Str) (p : Addr) (t b : Int), vs = [.str k, .ref p] ∧ k ∈ five ∧ SqT K H p [.int t, .int b] ∧ LOk t b ∧ v = .non
theorem ok_p_check_kind_and_least (T : Txt K mg base) : FnOk P w K mg base CX0 2 T.a_p_check_kind_and_least T.d_p_check_kind_and_least ["kind", "least"] (SpVal (D_p_check_kind_and_least K)) := by
  refine T.F_p_check_kind_and_least.ok sc_p_check_kind_and_least (fun vs H Q E h => ?_) (fun cdv A outer s H vs Q E hr h => ?_)
  · obtain ⟨v, ⟨k, p, t, b, rfl, _⟩, _⟩ := h
    rfl
  · obtain ⟨v, ⟨k, p, t, b, rfl, hk, hp, hl, rfl⟩, q⟩ := h
    obtain ⟨t0, tb, g1⟩ := id hl
    refine ⟨_, (pss_cons (ps_expr (pe_call (ok_p_check_kind T) (hr.mono (by decide)) rfl T.g_p_check_kind T.F_p_check_kind.kp T.b_p_check_kind .nil pass0 (pa_cons (pv 0) pa_nil)))
      (pss_cons (ps_asg (pv 1) (pg_tup (by rfl) (pgs_cons (pg_name (i := 2) sc_p_check_kind_and_least.nd rfl (.inl rfl)) (pgs_cons (pg_name (i := 3) sc_p_check_kind_and_least.nd rfl (.inl rfl)) pgs_nil))))
      (pss_one (ps_if (PW.pt (pw_or (pt_not (pt_chain op_lt op_le pe_int (pv 2) (pv 3))) (pw_or1 (pt_cmpR op_ne (pe_callBfun cr_gcd rfl T.g_gcd (pa_cons (pv 2) (pa_cons (pv 3) pa_nil))) pe_int (nomark _)))))
      (pss_one ps_never)
      pss_nil)))), ?_⟩
    refine q_drop (v := .non) (ev_callV (by walk_at "mu g") fun _ _ => ⟨k, rfl, hk, rfl⟩) fun H1 e1 => ?_
    refine q_unp2V (p := p) (by walk_at "mu g") (ex_t e1 hp) fun H2 e2 => ?_
    refine s_when (b := false) ?_ (fun hb => by cases hb) (fun hb H3 e3 => q H3 ((e1.trans e2).trans e3))
    refine et_or (a := !true) (b := false) (et_not (et_test (ev_is (ev_chain (ev_c) (ev_var rfl) rv_I0 (fun _ => ev_var rfl) (fun _ => rv_I0)) ?_))) fun _ => et_is (et_test (ev_op (ev_cb (by walk_at "mu g") rc_gcdI) ev_c rv_neI)) ?_
    · rw [decide_eq_true t0, decide_eq_true tb]; rfl
    · rw [g1]; rfl

def D_p_divided_up : Hp → List V → V → Prop := fun _ vs v => ∃ (t b : Int), vs = [.int t, .int b] ∧ 0 < b ∧ b < 2 ^ 900 ∧ v = .int (cd t b)
theorem ok_p_divided_up (T : Txt K mg base) : FnOk P w K mg base CX0 1 T.a_p_divided_up T.d_p_divided_up ["top", "bottom"] (SpVal D_p_divided_up) := by
  refine T.F_p_divided_up.ok sc_p_divided_up (fun vs H Q E h => ?_) (fun cdv A outer s H vs Q E hr h => ?_)
  · obtain ⟨v, ⟨t, b, rfl, _⟩, _⟩ := h
    rfl
  · obtain ⟨v, ⟨t, b, rfl, hb, hb2, rfl⟩, q⟩ := h
    refine ⟨_, (pss_one (ps_ret (pe_op op_fdivW (pe_op op_sub (pe_op op_add (pv 0) (pv 1)) pe_int) (pv 1)))), ?_⟩
    exact s_ret (v := .int (cd t b)) (ev_is (by walk_at "mu g"; exact cdivW_of hb hb2) (by rfl)) fun H2 e3 => q H2 e3

structure NOk (T B a b : Int) : Prop where
  l : LOk T B
  b1 : B ≤ 2 ^ 200
  a0 : 0 < a
  a1 : a ≤ 2 ^ 200
  c0 : 0 < b
  c1 : b ≤ 2 ^ 200
def D_p_need (K : PySem.W.Frag) : Hp → List V → V → Prop := fun H vs v => ∃ (k : Str) (p : Addr) (t u a b : Int), vs = [.str k, .ref p, .int a, .int b] ∧ k ∈ five ∧ SqT K H p [.int t, .int u] ∧ NOk t u a b ∧ v = .int (needM k t u a b)
theorem ok_p_need (T : Txt K mg base) : FnOk P w K mg base CX0 3 T.a_p_need T.d_p_need ["kind", "least", "a", "b"] (SpVal (D_p_need K)) := by
  refine T.F_p_need.ok sc_p_need (fun vs H Q E h => ?_) (fun cdv A outer s H vs Q E hr h => ?_)
  · obtain ⟨v, ⟨k, p, t, u, a, b, rfl, _⟩, _⟩ := h
    rfl
  · obtain ⟨v, ⟨k, p, t, u, a, b, rfl, hk, hp, hn, rfl⟩, q⟩ := h
    obtain ⟨⟨t0, tb, g1⟩, u1, a0, a1, b0, b1⟩ := id hn
    refine ⟨_, (pss_cons (ps_expr (pe_call (ok_p_check_kind_and_least T) (hr.mono (by decide)) rfl T.g_p_check_kind_and_least T.F_p_check_kind_and_least.kp T.b_p_check_kind_and_least .nil pass0 (pa_cons (pv 0) (pa_cons (pv 1) pa_nil))))
      (pss_cons (ps_asg (pv 1) (pg_tup (by rfl) (pgs_cons (pg_name (i := 4) sc_p_need.nd rfl (.inl rfl)) (pgs_cons (pg_name (i := 5) sc_p_need.nd rfl (.inl rfl)) pgs_nil))))
      (pss_cons (ps_if (pt_cmpR op_eq (pv 0) pe_str (nomark _))
      (pss_one (ps_ret (pe_call (ok_p_divided_up T) (hr.mono (by decide)) rfl T.g_p_divided_up T.F_p_divided_up.kp T.b_p_divided_up .nil pass0 (pa_cons (pe_op op_mulW (pv 4) (pe_op op_add (pv 2) (pv 3))) (pa_cons (pe_op op_add (pv 4) (pv 5)) pa_nil)))))
      pss_nil)
      (pss_cons (ps_if (pt_cmpR op_eq (pv 0) pe_str (nomark _))
      (pss_one (ps_ret (pe_call (ok_p_divided_up T) (hr.mono (by decide)) rfl T.g_p_divided_up T.F_p_divided_up.kp T.b_p_divided_up .nil pass0 (pa_cons (pe_op op_mulW (pv 4) (pe_op op_add (pv 2) (pv 3))) (pa_cons (pe_op op_mulW pe_int (pv 5)) pa_nil)))))
      pss_nil)
      (pss_cons (ps_if (pt_cmpR op_eq (pv 0) pe_str (nomark _))
      (pss_one (ps_ret (pe_call (ok_p_divided_up T) (hr.mono (by decide)) rfl T.g_p_divided_up T.F_p_divided_up.kp T.b_p_divided_up .nil pass0 (pa_cons (pe_op op_mulW (pv 4) (pe_callB (call_max2 rfl) (by rfl) T.z_max (by decide +kernel) (pa_cons (pv 2) (pa_cons (pv 3) pa_nil)))) (pa_cons (pv 5) pa_nil)))))
      pss_nil)
      (pss_cons (ps_if (pt_cmpR op_eq (pv 0) pe_str (nomark _))
      (pss_one (ps_ret (pe_call (ok_p_divided_up T) (hr.mono (by decide)) rfl T.g_p_divided_up T.F_p_divided_up.kp T.b_p_divided_up .nil pass0 (pa_cons (pe_op op_mulW (pv 4) (pe_callB (call_min2 rfl) (by rfl) T.z_min (by decide +kernel) (pa_cons (pv 2) (pa_cons (pv 3) pa_nil)))) (pa_cons (pv 5) pa_nil)))))
      pss_nil)
      (pss_one (ps_ret (pe_op op_add (pe_callBfun cr_isqrt rfl T.g_isqrt (pa_cons (pe_op op_sub (pe_call (ok_p_divided_up T) (hr.mono (by decide)) rfl T.g_p_divided_up T.F_p_divided_up.kp T.b_p_divided_up .nil pass0 (pa_cons (pe_op op_mulW (pe_op op_mulW (pv 4) (pv 2)) (pv 3)) (pa_cons (pv 5) pa_nil))) pe_int) pa_nil)) pe_int))))))))), ?_⟩
    refine q_drop (v := .non) (ev_callV (by walk_at "mu g") fun _ e => ⟨k, p, t, u, rfl, hk, ex_t e hp, hn.l, rfl⟩) fun H1 e1 => ?_
    refine q_unp2V (p := p) (by walk_at "mu g") (ex_t e1 hp) fun H2 e2 => ?_
    refine q_when (b := decide (k = "both")) (by walk_at "mu g") (fun hb H3 e3 => ?_) (fun hb H3 e3 => ?_)
    · refine s_ret (ev_is (ev_callV (vs := [.int (t * (a + b)), .int (t + u)]) (by walk_at "mu g"; all_goals exact cmulW_of (by omega) (by omega) (by omega) (by omega)) fun _ _ => ⟨_, _, rfl, by omega, by omega, rfl⟩) ?_) fun H4 e4 => q H4 (((e1.trans e2).trans e3).trans e4)
      unfold needM; rw [if_pos (of_decide_eq_true hb)]
    have n1 := of_decide_eq_false hb
    refine q_when (b := decide (k = "mean")) (by walk_at "mu g") (fun hb H4 e4 => ?_) (fun hb H4 e4 => ?_)
    · refine s_ret (ev_is (ev_callV (vs := [.int (t * (a + b)), .int (2 * u)]) (by walk_at "mu g"; all_goals exact cmulW_of (by omega) (by omega) (by omega) (by omega)) fun _ _ => ⟨_, _, rfl, by omega, by omega, rfl⟩) ?_) fun H5 e5 => q H5 ((((e1.trans e2).trans e3).trans e4).trans e5)
      unfold needM; rw [if_neg n1, if_pos (of_decide_eq_true hb)]
    have n2 := of_decide_eq_false hb
    refine q_when (b := decide (k = "greater")) (by walk_at "mu g") (fun hb H5 e5 => ?_) (fun hb H5 e5 => ?_)
    · refine s_ret (ev_is (ev_callV (vs := [.int (t * max a b), .int u]) (by walk_at "mu g"; all_goals exact cmulW_of (by omega) (by omega) (by omega) (by omega)) fun _ _ => ⟨_, _, rfl, by omega, by omega, rfl⟩) ?_) fun H6 e6 => q H6 (((((e1.trans e2).trans e3).trans e4).trans e5).trans e6)
      unfold needM; rw [if_neg n1, if_neg n2, if_pos (of_decide_eq_true hb)]
    have n3 := of_decide_eq_false hb
    refine q_when (b := decide (k = "lesser")) (by walk_at "mu g") (fun hb H6 e6 => ?_) (fun hb H6 e6 => ?_)
    · refine s_ret (ev_is (ev_callV (vs := [.int (t * min a b), .int u]) (by walk_at "mu g"; all_goals exact cmulW_of (by omega) (by omega) (by omega) (by omega)) fun _ _ => ⟨_, _, rfl, by omega, by omega, rfl⟩) ?_) fun H7 e7 => q H7 ((((((e1.trans e2).trans e3).trans e4).trans e5).trans e6).trans e7)
      unfold needM; rw [if_neg n1, if_neg n2, if_neg n3, if_pos (of_decide_eq_true hb)]
    have n4 := of_decide_eq_false hb
    have m1 : 0 < t * a := Int.mul_pos t0 a0
    have m2 : t * a ≤ 2 ^ 200 * 2 ^ 200 := Int.mul_le_mul (by omega) a1 (by omega) (by decide)
    have m3 : (2 : Int) ^ 200 * 2 ^ 200 = 2 ^ 400 := by decide +kernel
    have m4 : 0 < t * a * b := Int.mul_pos m1 b0
    have m5 : t * a * b ≤ 2 ^ 400 * 2 ^ 200 := Int.mul_le_mul (by omega) b1 (by omega) (by decide)
    have m6 : (2 : Int) ^ 400 * 2 ^ 200 = 2 ^ 600 := by decide +kernel
    have q1 : 1 ≤ cd (t * a * b) u := by
      rcases Int.lt_or_le (cd (t * a * b) u) 1 with h | h
      · have := (cd_le (t := t * a * b) (b := u) (c := 0) (by omega)).mp (by omega)
        omega
      · exact h
    have q2 : cd (t * a * b) u ≤ 2 ^ 600 := by
      rw [cd_le (by omega)]
      have : (2 : Int) ^ 600 * 1 ≤ 2 ^ 600 * u := Int.mul_le_mul_of_nonneg_left (by omega) (by decide +kernel)
      omega
    have lg : (cd (t * a * b) u - 1).toNat.log2 ≤ 9000 := Nat.le_trans (log2_le_of (n := 900) (by omega) (by omega)) (by decide)
    refine s_ret (ev_is (ev_op (ev_cb (ea_cons (ev_op (ev_callV (vs := [.int (t * a * b), .int u]) (by walk_at "mu g"; all_goals exact cmulW_of (by omega) (by omega) (by omega) (by omega)) fun _ _ => ⟨t * a * b, u, rfl, by omega, by omega, rfl⟩) ev_c rv_I0) ea_nil) (rc_isqrt (n := cd (t * a * b) u - 1) (by omega) lg)) ev_c rv_I0) ?_) fun H7 e7 => q H7 ((((((e1.trans e2).trans e3).trans e4).trans e5).trans e6).trans e7)
    unfold needM; rw [if_neg n1, if_neg n2, if_neg n3, if_neg n4]

structure ROk (T B a b c : Int) : Prop where
  t0 : 0 < T
  t1 : T ≤ 2 ^ 200
  b0 : 0 < B
  b1 : B ≤ 2 ^ 200
  f : FOk a b c
def D_l_reaches (K : PySem.W.Frag) : Hp → List V → V → Prop := fun H vs v => ∃ (k : Str) (p : Addr) (t u a b c : Int), vs = [.str k, .ref p, .int a, .int b, .int c] ∧ SqT K H p [.int t, .int u] ∧ ROk t u a b c ∧ v = .bl (reach k t u a b c)
theorem ok_l_reaches (T : Txt K mg base) : FnOk P w K mg base CX0 2 T.a_l_reaches T.d_l_reaches ["_law_kind_here", "_law_least_here", "_law_a", "_law_b", "_law_c"] (SpVal (D_l_reaches K)) := by
  refine T.F_l_reaches.ok sc_l_reaches (fun vs H Q E h => ?_) (fun cdv A outer s H vs Q E hr h => ?_)
  · obtain ⟨v, ⟨k, p, t, u, a, b, c, rfl, _⟩, _⟩ := h
    rfl
  · obtain ⟨v, ⟨k, p, t, u, a, b, c, rfl, hp, hn, rfl⟩, q⟩ := h
    obtain ⟨t0, t1, b0, b1, f⟩ := id hn
    have fb := frac_bd k f
    refine ⟨_, (pss_cons (ps_asg (pe_call (ok_l_parts T) (hr.mono (by decide)) rfl T.g_l_parts T.F_l_parts.kp T.b_l_parts .nil pass0 (pa_cons (pv 0) (pa_cons (pv 2) (pa_cons (pv 3) (pa_cons (pv 4) pa_nil))))) (pg_tup (by rfl) (pgs_cons (pg_name (i := 5) sc_l_reaches.nd rfl (.inl rfl)) (pgs_cons (pg_name (i := 6) sc_l_reaches.nd rfl (.inl rfl)) pgs_nil))))
      (pss_one (ps_ret (pe_cmpR op_ge (pe_op op_mulW (pv 5) (pe_ix ix_tup (pv 1) pe_int (fun _ _ => rfl))) (pe_op op_mulW (pe_ix ix_tup (pv 1) pe_int (fun _ _ => rfl)) (pv 6)) (nomark _))))), ?_⟩
    refine q_unp2 (eu_callU (by walk_at "mu g") fun _ _ => ⟨k, a, b, c, rfl, f, rfl⟩) fun H1 e1 => ?_
    refine s_ret (v := .bl (reach k t u a b c)) ?_ fun H2 e2 => q H2 (e1.trans e2)
    have hp1 := ex_t e1 hp
    exact ev_is (ev_op (ev_op (ev_var rfl) (ev_op (ev_var rfl) ev_c (rv_ixT hp1 (atI_nat (j := 1) rfl))) (rv_I (cmulW_of (by omega) (by omega) (by omega) (by omega)))) (ev_op (ev_op (ev_var rfl) ev_c (rv_ixT hp1 (atI_nat (j := 0) rfl))) (ev_var rfl) (rv_I (cmulW_of (by omega) (by omega) (by omega) (by omega)))) rv_I0) rfl

structure LNOk (T B a b : Int) : Prop where
  t0 : 0 < T
  tb : T ≤ B
  b1 : B ≤ 2 ^ 200
  a0 : 0 < a
  a1 : a ≤ 2 ^ 200
  c0 : 0 < b
  c1 : b ≤ 2 ^ 200
def D_l_need (K : PySem.W.Frag) : Hp → List V → V → Prop := fun H vs v => ∃ (k : Str) (p : Addr) (t u a b : Int), vs = [.str k, .ref p, .int a, .int b] ∧ SqT K H p [.int t, .int u] ∧ LNOk t u a b ∧ v = .int (needM k t u a b)
theorem ok_l_need (T : Txt K mg base) : FnOk P w K mg base CX0 3 T.a_l_need T.d_l_need ["_law_kind_here", "_law_least_here", "_law_a", "_law_b"] (SpVal (D_l_need K)) := by
  refine T.F_l_need.ok sc_l_need (fun vs H Q E h => ?_) (fun cdv A outer s H vs Q E hr h => ?_)
  · obtain ⟨v, ⟨k, p, t, u, a, b, rfl, _⟩, _⟩ := h
    rfl
  · obtain ⟨v, ⟨k, p, t, u, a, b, rfl, hp, hn, rfl⟩, q⟩ := h
    obtain ⟨t0, tb, u1, a0, a1, b0, b1⟩ := id hn
    have n0 := need_nn (k := k) t0 tb a0 b0
    have n1 := need_le (k := k) t0 tb a0 b0
    refine ⟨_, (pss_cons (ps_set (i := 4) sc_l_need.nd rfl (.inl rfl) pe_int)
      (pss_cons (ps_set (i := 5) sc_l_need.nd rfl (.inl rfl) (pe_op op_add (pv 2) (pv 3)))
      (pss_cons (ps_while PassesOwn.never (pt_cmpR op_lt (pv 4) (pv 5) (nomark _)) (pss_cons (ps_set (i := 6) sc_l_need.nd rfl (.inl rfl) (pe_op op_fdiv (pe_op op_add (pv 4) (pv 5)) pe_int))
      (pss_one (ps_if (PW.pt (pw_and (pt_cmpR op_lt (pv 6) (pe_op op_add (pv 2) (pv 3)) (nomark _)) (pw_and1 (pt_val (pe_call (ok_l_reaches T) (hr.mono (by decide)) rfl T.g_l_reaches T.F_l_reaches.kp T.b_l_reaches .nil pass0 (pa_cons (pv 0) (pa_cons (pv 1) (pa_cons (pv 2) (pa_cons (pv 3) (pa_cons (pv 6) pa_nil))))))))))
      (pss_one (ps_set (i := 5) sc_l_need.nd rfl (.inl rfl) (pv 6)))
      (pss_one (ps_set (i := 4) sc_l_need.nd rfl (.inl rfl) (pe_op op_add (pv 6) pe_int)))))))
      (pss_one (ps_ret (pv 5)))))), ?_⟩
    refine q_asg (by walk_at "mu g") fun H1 e1 => ?_
    refine q_asg (by walk_at "mu g") fun H2 e2 => ?_
    refine q_while (fun m σ' H' => Ex H H' ∧ ∃ (lo hi : Int) (x6 : Option V), σ' = [some (.str k), some (.ref p), some (.int a), some (.int b), some (.int lo), some (.int hi), x6] ∧ 0 ≤ lo ∧ lo ≤ needM k t u a b ∧ needM k t u a b ≤ hi ∧ hi ≤ a + b ∧ m = (hi - lo).toNat) (a + b - 0).toNat ⟨e1.trans e2, 0, a + b, none, rfl, by omega, n0, n1, by omega, rfl⟩ (fun m σ' H' hw => ?_)
    obtain ⟨e3, lo, hi, x6, rfl, l0, l1, l2, l3, rfl⟩ := hw
    refine ⟨decide (lo < hi), by walk_at "mu g", fun ht H3 e4 => ?_, fun hf H3 e4 => ?_⟩
    · have hlt := of_decide_eq_true ht
      refine ⟨fun σ2 H2 => Ex H H2 ∧ ∃ (lo2 hi2 : Int) (x6 : Option V), σ2 = [some (.str k), some (.ref p), some (.int a), some (.int b), some (.int lo2), some (.int hi2), x6] ∧ 0 ≤ lo2 ∧ lo2 ≤ needM k t u a b ∧ needM k t u a b ≤ hi2 ∧ hi2 ≤ a + b ∧ hi2 - lo2 < hi - lo, fun σ2 H2 hn => ?_, ?_⟩
      · obtain ⟨e5, lo2, hi2, y, rfl, p0, p1, p2, p3, p4⟩ := hn
        exact ⟨(hi2 - lo2).toNat, by omega, e5, lo2, hi2, y, rfl, p0, p1, p2, p3, rfl⟩
      · refine q_asg (v := .int ((lo + hi) / 2)) (by walk_at "mu g") fun H4 e5 => ?_
        have r0 : lo ≤ (lo + hi) / 2 := by omega
        have r1 : (lo + hi) / 2 < hi := by omega
        generalize (lo + hi) / 2 = md at r0 r1
        have sp := need_spec (k := k) (c := md) t0 tb a0 b0 (by omega)
        have ee := (e3.trans e4).trans e5
        refine s_if (b := decide (md < a + b) && reach k t u a b md) (et_and (by walk_at "mu g") fun _ => et_B (ev_callV (vs := [.str k, .ref p, .int a, .int b, .int md]) (by walk_at "mu g") fun _ e => ⟨k, p, t, u, a, b, md, rfl, ex_t (ee.trans e) hp, ⟨t0, by omega, by omega, u1, ⟨by omega, a1, by omega, b1, by omega, by omega⟩⟩, rfl⟩)) (fun hb H5 e6 => ?_) (fun hb H5 e6 => ?_)
        · refine s_asg (by walk_at "mu g") fun H6 e7 => ?_
          rw [Bool.and_eq_true] at hb
          exact ⟨(ee.trans e6).trans e7, lo, md, _, rfl, l0, l1, sp.mp hb.2, by omega, by omega⟩
        · refine s_asg (by walk_at "mu g") fun H6 e7 => ?_
          have hb2 : ¬ reach k t u a b md = true := by
            intro z
            rw [z, decide_eq_true (by omega)] at hb
            cases hb
          rw [sp] at hb2
          exact ⟨(ee.trans e6).trans e7, md + 1, hi, _, rfl, by omega, by omega, l2, l3, by omega⟩
    · have hge := of_decide_eq_false hf
      have e : needM k t u a b = hi := by omega
      refine s_ret (v := .int (needM k t u a b)) ?_ fun H4 e5 => q H4 ((e3.trans e4).trans e5)
      rw [e]
      walk_at "mu g"

def D_l_is : Hp → List V → V → Prop := fun _ vs v => ∃ (a b : Int), vs = [.int a, .int b] ∧ v = .bl (decide (a = b))
theorem ok_l_is (T : Txt K mg base) : FnOk P w K mg base CX0 1 T.a_l_is T.d_l_is ["_law_given", "_law_due"] (SpVal D_l_is) := by
  refine T.F_l_is.ok sc_l_is (fun vs H Q E h => ?_) (fun cdv A outer s H vs Q E hr h => ?_)
  · obtain ⟨v, ⟨a, b, rfl, _⟩, _⟩ := h
    rfl
  · obtain ⟨v, ⟨a, b, rfl, rfl⟩, q⟩ := h
    refine ⟨_, (pss_one (ps_ret (pe_and (pe_callB call_isi (by rfl) T.z_isinstance (by decide +kernel) (pa_cons (pv 0) (pa_cons (pe_bltn (v := .ty "int") (by rfl) T.z_int (by decide +kernel) rfl) pa_nil))) (pe_and (pe_not (pe_callB call_isi (by rfl) T.z_isinstance (by decide +kernel) (pa_cons (pv 0) (pa_cons (pe_bltn (v := .ty "bool") (by rfl) T.z_bool (by decide +kernel) rfl) pa_nil)))) (pe_one (pe_cmpR op_eq (pv 0) (pv 1) (nomark _))))))), ?_⟩
    refine s_ret (v := .bl (decide (a = b))) (ev_is (v := .bl (true && (!false && decide (a = b)))) ?_ rfl) fun H2 e2 => q H2 e2
    refine ev_andV (a := true) (ev_cb (ea_cons (ev_var rfl) (ea_cons ev_c ea_nil)) (rc_isiInt (kit_ty (by decide +kernel)))) fun _ => ?_
    refine ev_andV (a := !false) (ev_notV (ev_cb (ea_cons (ev_var rfl) (ea_cons ev_c ea_nil)) (rc_isiInt (kit_ty (by decide +kernel))))) fun _ => ?_
    exact ev_op (ev_var rfl) (ev_var rfl) rv_eqI

def wby (m : Int) : Int := ([1 + m / 4 % 60, 1 + m / 4 % 9, 10 ^ 18 - m / 4, 1 + m / 4 * 10 ^ 9] : List Int).getD (m % 4).toNat 1
theorem wby_ok {m : Int} (h0 : 0 ≤ m) (h1 : m < 306783379) : 1 ≤ wby m ∧ wby m ≤ 10 ^ 18 := by
  unfold wby
  refine getDP (P := fun z => 1 ≤ z ∧ z ≤ 10 ^ 18) (fun x hx => ?_) (by decide) _
  simp only [List.mem_cons, List.not_mem_nil, or_false] at hx
  rcases hx with rfl | rfl | rfl | rfl <;> omega
def D_l_weight_by : Hp → List V → V → Prop := fun _ vs v => ∃ (m : Int), vs = [.int m] ∧ 0 ≤ m ∧ m < 306783379 ∧ v = .int (wby m)
theorem ok_l_weight_by (T : Txt K mg base) : FnOk P w K mg base CX0 1 T.a_l_weight_by T.d_l_weight_by ["_law_pick"] (SpVal D_l_weight_by) := by
  refine T.F_l_weight_by.ok sc_l_weight_by (fun vs H Q E h => ?_) (fun cdv A outer s H vs Q E hr h => ?_)
  · obtain ⟨v, ⟨a, rfl, _⟩, _⟩ := h
    rfl
  · obtain ⟨v, ⟨m, rfl, h0, h1, rfl⟩, q⟩ := h
    refine ⟨_, (pss_one (ps_ret (pe_ix ix_list (pe_lst (pa_cons (pe_op op_add pe_int (pe_op op_mod (pe_op op_fdiv (pv 0) pe_int) pe_int)) (pa_cons (pe_op op_add pe_int (pe_op op_mod (pe_op op_fdiv (pv 0) pe_int) pe_int)) (pa_cons (pe_op op_sub (pe_op op_pow pe_int pe_int) (pe_op op_fdiv (pv 0) pe_int)) (pa_cons (pe_op op_add pe_int (pe_op op_mul (pe_op op_fdiv (pv 0) pe_int) (pe_op op_pow pe_int pe_int))) pa_nil))))) (pe_op op_mod (pv 0) pe_int) (fun _ _ => rfl)))), ?_⟩
    refine s_ret (v := .int (wby m)) ?_ fun H2 e2 => q H2 e2
    exact ev_ixNew (K := K) (xs := [1 + m / 4 % 60, 1 + m / 4 % 9, 10 ^ 18 - m / 4, 1 + m / 4 * 10 ^ 9].map V.int) (i := m % 4) (el_is (el_lst (by walk_at "mu g"; all_goals (show CMul _ _; exact .inl ⟨by omega, by omega⟩)) (by simp)) (by rfl)) (by walk_at "mu g") (atI_modD (m := 4) rfl (by decide))

def D_l_cut (K : PySem.W.Frag) : Hp → List V → List V → Prop := fun H vs xs => ∃ (a : Addr) (ns : List Int), vs = [.ref a] ∧ SqL K H a (ns.map V.int) ∧ ns.length ≤ 63 ∧ xs = (ns.map cutI).map V.int
theorem bigM_ev {σ : L2.St} {H : Hp} : Ev (tOp (rI CPowW fun i j => V.int (i ^ j.toNat)) (tOp (rI CPow fun i j => V.int (i ^ j.toNat)) (tC (.int 10)) (tC (.int 60))) (tC (.int 60))) σ H (.int bigM) :=
  ev_is (ev_op (ev_op ev_c ev_c (rv_I ⟨by decide, by decide, by decide⟩)) ev_c (rv_I ⟨by decide, by decide +kernel⟩)) rfl
theorem ok_l_cut (T : Txt K mg base) : FnOk P w K mg base CX0 1 T.a_l_cut T.d_l_cut ["_law_script"] (SpLst (D_l_cut K)) := by
  refine T.F_l_cut.ok sc_l_cut (fun vs H Q E h => ?_) (fun cdv A outer s H vs Q E hr h => ?_)
  · obtain ⟨v, ⟨a, ns, rfl, _⟩, _⟩ := h
    rfl
  · obtain ⟨v, ⟨a, ns, rfl, hs, hn, rfl⟩, q⟩ := h
    refine ⟨_, (pss_cons (ps_set (i := 1) sc_l_cut.nd rfl (.inr rfl) (pe_op op_powW (pe_op op_pow pe_int pe_int) pe_int))
      (pss_one (ps_ret (pe_lc (own := [("_law_cell", 2)]) (g := gName 2) (tt := tYes) rfl sc_l_cut.nd (pi_list (pv 0)) (blkOk_by (N := ["_law_script", "_law_most", "_law_cell"]) (sc := defScope s_l_cut) (by decide +kernel)) (fun _ _ _ _ _ => (pg_name (i := 2) sc_l_cut.nd rfl (Or.inl rfl))) (fun _ _ _ _ _ => pts_nil) (fun _ _ _ _ _ => (pe_ix (show IxR _ (rIxL K) from ix_list) (pe_lst (pa_cons (pv 2) (pa_cons (pe_op op_add (pv 1) (pe_op op_mod (pv 2) (pv 1))) pa_nil))) (pe_callTy call_int1 (by rfl) T.z_int (by decide +kernel) (pa_cons (pe_cmpR op_ge (pv 2) (pv 1) (nomark _)) pa_nil)) (fun _ _ => rfl))))))), ?_⟩
    refine q_asg (v := .int bigM) bigM_ev fun H1 e1 => ?_
    refine s_retL (el_is (el_lcL (xs := ns.map V.int) (fun _ => true) (fun i => .int (cutI (ns.getD i 0))) (ev_var rfl) (ex_l e1 hs) (by rw [List.length_map]; omega) (fun x => rfl) (fun i x H2 e2 hi H3 e3 Q q => q H3 (Ex.refl H3)) (fun i x H2 e2 hi _ => ?_)) ?_) fun p H2 hp e2 h2 => q p H2 (fresh_back e1 hp) (e1.trans e2) h2
    · obtain ⟨c, hc, rfl⟩ : ∃ c, ns[i]? = some c ∧ x = .int c := by
        rw [List.getElem?_map] at hi
        cases e : ns[i]? with
        | none => rw [e] at hi; cases hi
        | some z => rw [e] at hi; exact ⟨z, rfl, (Option.some.inj hi).symm⟩
      have hg : ns.getD i 0 = c := by rw [List.getD_eq_getElem?_getD, hc]; rfl
      rw [hg]
      refine ev_ixNew (K := K) (xs := [.int c, .int (bigM + c % bigM)]) (i := if decide (bigM ≤ c) then 1 else 0) (el_lst (by walk_at "mu g") (by simp)) (by walk_at "mu g") ?_
      unfold cutI
      by_cases hc2 : bigM ≤ c
      · rw [if_pos (decide_eq_true hc2), if_pos hc2]
        exact atI_nat (j := 1) rfl
      · rw [if_neg (by rw [decide_eq_false hc2]; decide), if_neg hc2]
        exact atI_nat (j := 0) rfl
    · rw [List.length_map]
      exact given_map ns cutI

def spLaw (K : PySem.W.Frag) : Sp := fun vs H Q _ => ∃ (a : Addr) (ns : List Int), vs = [.ref a] ∧ SqL K H a (ns.map V.int) ∧ ns.length ≤ 63 ∧ ∀ H', Q (.bl true) H'
theorem ok_p_law (T : Txt K mg base) {f : Addr} {fd : FuncData} (F : Fun K "law" "law" s_p_law f fd) : FnOk P w K mg base CX0 4 f fd ["_law_script"] (spLaw K) := by
  refine F.ok sc_p_law (fun vs H Q E h => ?_) (fun cdv A outer s H vs Q E hr h => ?_)
  · obtain ⟨a, ns, rfl, _⟩ := h
    rfl
  · obtain ⟨a, ns, rfl, hs, hn, q⟩ := h
    refine ⟨_, (pss_cons (ps_set (i := 0) sc_p_law.nd rfl (.inl rfl) (pe_call (ok_l_cut T) (hr.mono (by decide)) rfl T.g_l_cut T.F_l_cut.kp T.b_l_cut .nil pass0 (pa_cons (pv 0) pa_nil)))
      (pss_cons (ps_for PassesOwn.never rfl (pi_list (pe_op op_cat (pe_slice sl_list (pv 0) po_none (po_some pe_int)) (pe_lst (pa_cons pe_int (pa_cons (pe_op op_pow pe_int pe_int) pa_nil))))) (pg_name (i := 1) sc_p_law.nd rfl (.inl rfl))
      (pss_cons (ps_set (i := 2) sc_p_law.nd rfl (.inl rfl) (pe_call (ok_l_weight_by T) (hr.mono (by decide)) rfl T.g_l_weight_by T.F_l_weight_by.kp T.b_l_weight_by .nil pass0 (pa_cons (pe_call (ok_l_mix T) (hr.mono (by decide)) rfl T.g_l_mix T.F_l_mix.kp T.b_l_mix .nil pass0 (pa_cons (pv 1) (pa_cons pe_int pa_nil))) pa_nil)))
      (pss_cons (ps_set (i := 3) sc_p_law.nd rfl (.inl rfl) (pe_call (ok_l_weight_by T) (hr.mono (by decide)) rfl T.g_l_weight_by T.F_l_weight_by.kp T.b_l_weight_by .nil pass0 (pa_cons (pe_call (ok_l_mix T) (hr.mono (by decide)) rfl T.g_l_mix T.F_l_mix.kp T.b_l_mix .nil pass0 (pa_cons (pv 1) (pa_cons pe_int pa_nil))) pa_nil)))
      (pss_cons (ps_set (i := 4) sc_p_law.nd rfl (.inl rfl) (pe_call (ok_l_least T) (hr.mono (by decide)) rfl T.g_l_least T.F_l_least.kp T.b_l_least .nil pass0 (pa_cons (pe_call (ok_l_mix T) (hr.mono (by decide)) rfl T.g_l_mix T.F_l_mix.kp T.b_l_mix .nil pass0 (pa_cons (pv 1) (pa_cons pe_int pa_nil))) pa_nil)))
      (pss_one (ps_for PassesOwn.never rfl (pi_range1 (by rfl) T.z_range (pa_cons pe_int pa_nil)) (pg_name (i := 5) sc_p_law.nd rfl (.inl rfl))
      (pss_cons (ps_set (i := 6) sc_p_law.nd rfl (.inl rfl) (pe_call (ok_l_kind T) (hr.mono (by decide)) rfl T.g_l_kind T.F_l_kind.kp T.b_l_kind .nil pass0 (pa_cons (pv 5) pa_nil)))
      (pss_cons (ps_set (i := 7) sc_p_law.nd rfl (.inl rfl) (pe_call (ok_l_need T) (hr.mono (by decide)) rfl T.g_l_need T.F_l_need.kp T.b_l_need .nil pass0 (pa_cons (pv 6) (pa_cons (pv 4) (pa_cons (pv 2) (pa_cons (pv 3) pa_nil))))))
      (pss_one (ps_if (PW.pt (pw_or (pt_not (pt_val (pe_call (ok_l_is T) (hr.mono (by decide)) rfl T.g_l_is T.F_l_is.kp T.b_l_is .nil pass0 (pa_cons (pe_call (ok_p_need T) (hr.mono (by decide)) rfl T.g_p_need T.F_p_need.kp T.b_p_need .nil pass0 (pa_cons (pv 6) (pa_cons (pv 4) (pa_cons (pv 2) (pa_cons (pv 3) pa_nil))))) (pa_cons (pv 7) pa_nil))))) (pw_or1 (pt_not (pt_val (pe_call (ok_l_is T) (hr.mono (by decide)) rfl T.g_l_is T.F_l_is.kp T.b_l_is .nil pass0 (pa_cons (pe_call (ok_p_need T) (hr.mono (by decide)) rfl T.g_p_need T.F_p_need.kp T.b_p_need .nil pass0 (pa_cons (pv 6) (pa_cons (pv 4) (pa_cons (pv 3) (pa_cons (pv 2) pa_nil))))) (pa_cons (pv 7) pa_nil))))))))
      (pss_one (ps_ret pe_bl))
      pss_nil))))))))))
      (pss_one (ps_ret pe_bl)))), ?_⟩
    refine q_asgL (el_callL (by walk_at "mu g") fun H1 e1 => ⟨a, ns, rfl, ex_l e1 hs, hn, rfl⟩) fun p0 H1 hp0 e1 h1 => ?_
    refine q_forNLn (xs := cutV ((ns.map cutI).map V.int) none (some 30) ++ [.int 0, .int (10 ^ 18)]) (el_cat (el_sl (ev_var rfl) eo_none (eo_some ev_c) (sq_of h1)) (el_is (el_lst (by walk_at "mu g") (by simp)) (by rfl)) (by
        have := cutV_length ((ns.map cutI).map V.int) none (some 30)
        simp at this ⊢
        omega))
      (fun l i σ' H' => Ex H1 H' ∧ H' l = some (.lst (cutV ((ns.map cutI).map V.int) none (some 30) ++ [.int 0, .int (10 ^ 18)])) ∧ ∃ x1 x2 x3 x4 x5 x6 x7, σ' = [some (.ref p0), x1, x2, x3, x4, x5, x6, x7])
      (fun l H2 hl e2 h2 => ⟨e2, h2, _, _, _, _, _, _, _, rfl⟩) (fun l i σ' H' _ hp => sq_of hp.2.1) (fun l i x σ' H' hx hp => ?_) (fun l σ' H' hp => ?_)
    · obtain ⟨e2, h2, x1, x2, x3, x4, x5, x6, x7, rfl⟩ := hp
      obtain ⟨c, rfl⟩ := cells_int hx
      have m0 := fun k => mix_nn c k
      have m1 := fun k => mix_lt c k
      obtain ⟨a0, a1⟩ := wby_ok (m0 0) (m1 0)
      obtain ⟨b0, b1⟩ := wby_ok (m0 1) (m1 1)
      refine q_asg (ev_callV (ea_cons (ev_callV (vs := [.int c, .int 0]) (by walk_at "mu g") fun _ _ => ⟨c, 0, rfl, by omega, rfl⟩) ea_nil) fun _ _ => ⟨_, rfl, m0 0, m1 0, rfl⟩) fun H3 e3 => ?_
      refine q_asg (ev_callV (ea_cons (ev_callV (vs := [.int c, .int 1]) (by walk_at "mu g") fun _ _ => ⟨c, 1, rfl, by omega, rfl⟩) ea_nil) fun _ _ => ⟨_, rfl, m0 1, m1 1, rfl⟩) fun H4 e4 => ?_
      refine q_asgU (eu_callU (ea_cons (ev_callV (vs := [.int c, .int 2]) (by walk_at "mu g") fun _ _ => ⟨c, 2, rfl, by omega, rfl⟩) ea_nil) fun _ _ => ⟨_, rfl, m0 2, m1 2, rfl⟩) fun ps H5 hps e5 h5 => ?_
      obtain ⟨lk, lb⟩ := least_ok (mix c 2)
      generalize wby (mix c 0) = wa at a0 a1
      generalize wby (mix c 1) = wb at b0 b1
      generalize (leastM (mix c 2)).1 = t at lk lb h5
      generalize (leastM (mix c 2)).2 = u at lk lb h5
      obtain ⟨t0, tu, tg⟩ := id lk
      have ee : Ex H' H5 := (e3.trans e4).trans e5
      refine s_forR1 (n := 5) (by walk_at "mu g") (by omega) (fun k σ'' H'' => Ex H5 H'' ∧ ∃ y1 y2 y3, σ'' = [some (.ref p0), some (.int c), some (.int wa), some (.int wb), some (.ref ps), y1, y2, y3]) (fun H9 e9 => ⟨e9, _, _, _, rfl⟩) (fun k σ'' H'' hk hp => ?_) (fun σ'' H'' hp => ?_)
      · obtain ⟨e9, y1, y2, y3, rfl⟩ := hp
        have kf : five.getD ((k : Int) % 5).toNat "both" ∈ five := by
          have : k = 0 ∨ k = 1 ∨ k = 2 ∨ k = 3 ∨ k = 4 := by omega
          rcases this with rfl | rfl | rfl | rfl | rfl <;> decide +kernel
        refine q_asg (ev_callV (by walk_at "mu g") fun _ _ => ⟨k, rfl, rfl⟩) fun H10 e10 => ?_
        generalize five.getD ((k : Int) % 5).toNat "both" = kd at kf
        have sp : ∀ H2, Ex H10 H2 → SqT K H2 ps [.int t, .int u] := fun H2 e => st_of (((e9.trans e10).trans e) ps _ h5)
        refine q_asg (v := .int (needM kd t u wa wb)) (ev_callV (by walk_at "mu g") fun _ e => ⟨kd, ps, t, u, wa, wb, rfl, sp _ e, ⟨t0, tu, by omega, by omega, by omega, by omega, by omega⟩, rfl⟩) fun H11 e11 => ?_
        refine s_when (b := false) ?_ (fun hb => by cases hb) (fun hb H12 e12 => ⟨((e9.trans e10).trans e11).trans e12, _, _, _, rfl⟩)
        refine et_or (a := !true) (b := !true) (et_not (et_B (ev_callV (vs := [.int (needM kd t u wa wb), .int (needM kd t u wa wb)]) (ea_cons (ev_callV (by walk_at "mu g") fun _ e => ⟨kd, ps, t, u, wa, wb, rfl, kf, sp _ (e11.trans e), ⟨lk, by omega, by omega, by omega, by omega, by omega⟩, rfl⟩) (by walk_at "mu g")) fun _ _ => ⟨_, _, rfl, by rw [decide_eq_true rfl]⟩))) fun _ => ?_
        refine et_not (et_B (ev_callV (vs := [.int (needM kd t u wb wa), .int (needM kd t u wa wb)]) (ea_cons (ev_callV (by walk_at "mu g") fun _ e => ⟨kd, ps, t, u, wb, wa, rfl, kf, sp _ (e11.trans e), ⟨lk, by omega, by omega, by omega, by omega, by omega⟩, rfl⟩) (by walk_at "mu g")) fun _ _ => ⟨_, _, rfl, by rw [needM_symm, decide_eq_true rfl]⟩))
      · obtain ⟨e9, y1, y2, y3, rfl⟩ := hp
        exact ⟨(e2.trans ee).trans e9, (ee.trans e9) _ _ h2, _, _, _, _, _, _, _, rfl⟩
    · exact s_ret (v := .bl true) (by walk_at "mu g") fun H3 e3 => q H3

end
set_option maxHeartbeats 4000000 in
theorem all_mk {l : PySem.W.OpenLaw} {w : World} {K : PySem.W.Frag} {h : Heap} {mg : Str → Option Value} {fa : Addr} (X : K.In h) (G : h.Ns mainGlobals mg) (hfa : mg "law" = some (.ref fa))
    {oc_p_check_kind kV_p_check_kind dc_p_check_kind pm_p_check_kind cd_p_check_kind ct_p_check_kind : Value} {od_p_check_kind an_p_check_kind : Option Addr} {sl_p_check_kind : Array (Option Value)} {f_p_check_kind : Addr}
    {oc_p_check_kind_and_least kV_p_check_kind_and_least dc_p_check_kind_and_least pm_p_check_kind_and_least cd_p_check_kind_and_least ct_p_check_kind_and_least : Value} {od_p_check_kind_and_least an_p_check_kind_and_least : Option Addr} {sl_p_check_kind_and_least : Array (Option Value)} {f_p_check_kind_and_least : Addr}
    {oc_p_divided_up kV_p_divided_up dc_p_divided_up pm_p_divided_up cd_p_divided_up ct_p_divided_up : Value} {od_p_divided_up an_p_divided_up : Option Addr} {sl_p_divided_up : Array (Option Value)} {f_p_divided_up : Addr}
    {oc_p_need kV_p_need dc_p_need pm_p_need cd_p_need ct_p_need : Value} {od_p_need an_p_need : Option Addr} {sl_p_need : Array (Option Value)} {f_p_need : Addr}
    {oc_l_mix kV_l_mix dc_l_mix pm_l_mix cd_l_mix ct_l_mix : Value} {od_l_mix an_l_mix : Option Addr} {sl_l_mix : Array (Option Value)} {f_l_mix : Addr}
    {oc_l_divisor kV_l_divisor dc_l_divisor pm_l_divisor cd_l_divisor ct_l_divisor : Value} {od_l_divisor an_l_divisor : Option Addr} {sl_l_divisor : Array (Option Value)} {f_l_divisor : Addr}
    {oc_l_kind kV_l_kind dc_l_kind pm_l_kind cd_l_kind ct_l_kind : Value} {od_l_kind an_l_kind : Option Addr} {sl_l_kind : Array (Option Value)} {f_l_kind : Addr}
    {oc_l_least kV_l_least dc_l_least pm_l_least cd_l_least ct_l_least : Value} {od_l_least an_l_least : Option Addr} {sl_l_least : Array (Option Value)} {f_l_least : Addr}
    {oc_l_parts kV_l_parts dc_l_parts pm_l_parts cd_l_parts ct_l_parts : Value} {od_l_parts an_l_parts : Option Addr} {sl_l_parts : Array (Option Value)} {f_l_parts : Addr}
    {oc_l_reaches kV_l_reaches dc_l_reaches pm_l_reaches cd_l_reaches ct_l_reaches : Value} {od_l_reaches an_l_reaches : Option Addr} {sl_l_reaches : Array (Option Value)} {f_l_reaches : Addr}
    {oc_l_need kV_l_need dc_l_need pm_l_need cd_l_need ct_l_need : Value} {od_l_need an_l_need : Option Addr} {sl_l_need : Array (Option Value)} {f_l_need : Addr}
    {oc_l_is kV_l_is dc_l_is pm_l_is cd_l_is ct_l_is : Value} {od_l_is an_l_is : Option Addr} {sl_l_is : Array (Option Value)} {f_l_is : Addr}
    {oc_l_weight_by kV_l_weight_by dc_l_weight_by pm_l_weight_by cd_l_weight_by ct_l_weight_by : Value} {od_l_weight_by an_l_weight_by : Option Addr} {sl_l_weight_by : Array (Option Value)} {f_l_weight_by : Addr}
    {oc_l_cut kV_l_cut dc_l_cut pm_l_cut cd_l_cut ct_l_cut : Value} {od_l_cut an_l_cut : Option Addr} {sl_l_cut : Array (Option Value)} {f_l_cut : Addr}
    {oc_p_law kV_p_law dc_p_law pm_p_law cd_p_law ct_p_law : Value} {od_p_law an_p_law : Option Addr} {sl_p_law : Array (Option Value)} {f_p_law : Addr}
    (A_p_check_kind : PySem.W.nsIn K mainGlobals "check_kind" = some (some (.ref f_p_check_kind))) (L_p_check_kind : K.lookup f_p_check_kind = some ⟨oc_p_check_kind, od_p_check_kind, .func (PySem.W.fnOf "check_kind" "check_kind" (defArgs s_p_check_kind) (defBody s_p_check_kind) (defScope s_p_check_kind) .none kV_p_check_kind dc_p_check_kind pm_p_check_kind an_p_check_kind cd_p_check_kind ct_p_check_kind), sl_p_check_kind⟩) (C_p_check_kind : PySem.W.codeIn K cd_p_check_kind "check_kind" = true) (K_p_check_kind : PySem.W.keepIn K (.ref f_p_check_kind) = true)
    (A_p_check_kind_and_least : PySem.W.nsIn K mainGlobals "check_kind_and_least" = some (some (.ref f_p_check_kind_and_least))) (L_p_check_kind_and_least : K.lookup f_p_check_kind_and_least = some ⟨oc_p_check_kind_and_least, od_p_check_kind_and_least, .func (PySem.W.fnOf "check_kind_and_least" "check_kind_and_least" (defArgs s_p_check_kind_and_least) (defBody s_p_check_kind_and_least) (defScope s_p_check_kind_and_least) .none kV_p_check_kind_and_least dc_p_check_kind_and_least pm_p_check_kind_and_least an_p_check_kind_and_least cd_p_check_kind_and_least ct_p_check_kind_and_least), sl_p_check_kind_and_least⟩) (C_p_check_kind_and_least : PySem.W.codeIn K cd_p_check_kind_and_least "check_kind_and_least" = true) (K_p_check_kind_and_least : PySem.W.keepIn K (.ref f_p_check_kind_and_least) = true)
    (A_p_divided_up : PySem.W.nsIn K mainGlobals "_divided_up" = some (some (.ref f_p_divided_up))) (L_p_divided_up : K.lookup f_p_divided_up = some ⟨oc_p_divided_up, od_p_divided_up, .func (PySem.W.fnOf "_divided_up" "_divided_up" (defArgs s_p_divided_up) (defBody s_p_divided_up) (defScope s_p_divided_up) .none kV_p_divided_up dc_p_divided_up pm_p_divided_up an_p_divided_up cd_p_divided_up ct_p_divided_up), sl_p_divided_up⟩) (C_p_divided_up : PySem.W.codeIn K cd_p_divided_up "_divided_up" = true) (K_p_divided_up : PySem.W.keepIn K (.ref f_p_divided_up) = true)
    (A_p_need : PySem.W.nsIn K mainGlobals "need" = some (some (.ref f_p_need))) (L_p_need : K.lookup f_p_need = some ⟨oc_p_need, od_p_need, .func (PySem.W.fnOf "need" "need" (defArgs s_p_need) (defBody s_p_need) (defScope s_p_need) .none kV_p_need dc_p_need pm_p_need an_p_need cd_p_need ct_p_need), sl_p_need⟩) (C_p_need : PySem.W.codeIn K cd_p_need "need" = true) (K_p_need : PySem.W.keepIn K (.ref f_p_need) = true)
    (A_l_mix : PySem.W.nsIn K mainGlobals "_law_mix" = some (some (.ref f_l_mix))) (L_l_mix : K.lookup f_l_mix = some ⟨oc_l_mix, od_l_mix, .func (PySem.W.fnOf "_law_mix" "_law_mix" (defArgs s_l_mix) (defBody s_l_mix) (defScope s_l_mix) .none kV_l_mix dc_l_mix pm_l_mix an_l_mix cd_l_mix ct_l_mix), sl_l_mix⟩) (C_l_mix : PySem.W.codeIn K cd_l_mix "_law_mix" = true) (K_l_mix : PySem.W.keepIn K (.ref f_l_mix) = true)
    (A_l_divisor : PySem.W.nsIn K mainGlobals "_law_divisor" = some (some (.ref f_l_divisor))) (L_l_divisor : K.lookup f_l_divisor = some ⟨oc_l_divisor, od_l_divisor, .func (PySem.W.fnOf "_law_divisor" "_law_divisor" (defArgs s_l_divisor) (defBody s_l_divisor) (defScope s_l_divisor) .none kV_l_divisor dc_l_divisor pm_l_divisor an_l_divisor cd_l_divisor ct_l_divisor), sl_l_divisor⟩) (C_l_divisor : PySem.W.codeIn K cd_l_divisor "_law_divisor" = true) (K_l_divisor : PySem.W.keepIn K (.ref f_l_divisor) = true)
    (A_l_kind : PySem.W.nsIn K mainGlobals "_law_kind" = some (some (.ref f_l_kind))) (L_l_kind : K.lookup f_l_kind = some ⟨oc_l_kind, od_l_kind, .func (PySem.W.fnOf "_law_kind" "_law_kind" (defArgs s_l_kind) (defBody s_l_kind) (defScope s_l_kind) .none kV_l_kind dc_l_kind pm_l_kind an_l_kind cd_l_kind ct_l_kind), sl_l_kind⟩) (C_l_kind : PySem.W.codeIn K cd_l_kind "_law_kind" = true) (K_l_kind : PySem.W.keepIn K (.ref f_l_kind) = true)
    (A_l_least : PySem.W.nsIn K mainGlobals "_law_least" = some (some (.ref f_l_least))) (L_l_least : K.lookup f_l_least = some ⟨oc_l_least, od_l_least, .func (PySem.W.fnOf "_law_least" "_law_least" (defArgs s_l_least) (defBody s_l_least) (defScope s_l_least) .none kV_l_least dc_l_least pm_l_least an_l_least cd_l_least ct_l_least), sl_l_least⟩) (C_l_least : PySem.W.codeIn K cd_l_least "_law_least" = true) (K_l_least : PySem.W.keepIn K (.ref f_l_least) = true)
    (A_l_parts : PySem.W.nsIn K mainGlobals "_law_parts" = some (some (.ref f_l_parts))) (L_l_parts : K.lookup f_l_parts = some ⟨oc_l_parts, od_l_parts, .func (PySem.W.fnOf "_law_parts" "_law_parts" (defArgs s_l_parts) (defBody s_l_parts) (defScope s_l_parts) .none kV_l_parts dc_l_parts pm_l_parts an_l_parts cd_l_parts ct_l_parts), sl_l_parts⟩) (C_l_parts : PySem.W.codeIn K cd_l_parts "_law_parts" = true) (K_l_parts : PySem.W.keepIn K (.ref f_l_parts) = true)
    (A_l_reaches : PySem.W.nsIn K mainGlobals "_law_reaches" = some (some (.ref f_l_reaches))) (L_l_reaches : K.lookup f_l_reaches = some ⟨oc_l_reaches, od_l_reaches, .func (PySem.W.fnOf "_law_reaches" "_law_reaches" (defArgs s_l_reaches) (defBody s_l_reaches) (defScope s_l_reaches) .none kV_l_reaches dc_l_reaches pm_l_reaches an_l_reaches cd_l_reaches ct_l_reaches), sl_l_reaches⟩) (C_l_reaches : PySem.W.codeIn K cd_l_reaches "_law_reaches" = true) (K_l_reaches : PySem.W.keepIn K (.ref f_l_reaches) = true)
    (A_l_need : PySem.W.nsIn K mainGlobals "_law_need" = some (some (.ref f_l_need))) (L_l_need : K.lookup f_l_need = some ⟨oc_l_need, od_l_need, .func (PySem.W.fnOf "_law_need" "_law_need" (defArgs s_l_need) (defBody s_l_need) (defScope s_l_need) .none kV_l_need dc_l_need pm_l_need an_l_need cd_l_need ct_l_need), sl_l_need⟩) (C_l_need : PySem.W.codeIn K cd_l_need "_law_need" = true) (K_l_need : PySem.W.keepIn K (.ref f_l_need) = true)
    (A_l_is : PySem.W.nsIn K mainGlobals "_law_is" = some (some (.ref f_l_is))) (L_l_is : K.lookup f_l_is = some ⟨oc_l_is, od_l_is, .func (PySem.W.fnOf "_law_is" "_law_is" (defArgs s_l_is) (defBody s_l_is) (defScope s_l_is) .none kV_l_is dc_l_is pm_l_is an_l_is cd_l_is ct_l_is), sl_l_is⟩) (C_l_is : PySem.W.codeIn K cd_l_is "_law_is" = true) (K_l_is : PySem.W.keepIn K (.ref f_l_is) = true)
    (A_l_weight_by : PySem.W.nsIn K mainGlobals "_law_weight_by" = some (some (.ref f_l_weight_by))) (L_l_weight_by : K.lookup f_l_weight_by = some ⟨oc_l_weight_by, od_l_weight_by, .func (PySem.W.fnOf "_law_weight_by" "_law_weight_by" (defArgs s_l_weight_by) (defBody s_l_weight_by) (defScope s_l_weight_by) .none kV_l_weight_by dc_l_weight_by pm_l_weight_by an_l_weight_by cd_l_weight_by ct_l_weight_by), sl_l_weight_by⟩) (C_l_weight_by : PySem.W.codeIn K cd_l_weight_by "_law_weight_by" = true) (K_l_weight_by : PySem.W.keepIn K (.ref f_l_weight_by) = true)
    (A_l_cut : PySem.W.nsIn K mainGlobals "_law_cut" = some (some (.ref f_l_cut))) (L_l_cut : K.lookup f_l_cut = some ⟨oc_l_cut, od_l_cut, .func (PySem.W.fnOf "_law_cut" "_law_cut" (defArgs s_l_cut) (defBody s_l_cut) (defScope s_l_cut) .none kV_l_cut dc_l_cut pm_l_cut an_l_cut cd_l_cut ct_l_cut), sl_l_cut⟩) (C_l_cut : PySem.W.codeIn K cd_l_cut "_law_cut" = true) (K_l_cut : PySem.W.keepIn K (.ref f_l_cut) = true)
    (A_p_law : PySem.W.nsIn K mainGlobals "law" = some (some (.ref f_p_law))) (L_p_law : K.lookup f_p_law = some ⟨oc_p_law, od_p_law, .func (PySem.W.fnOf "law" "law" (defArgs s_p_law) (defBody s_p_law) (defScope s_p_law) .none kV_p_law dc_p_law pm_p_law an_p_law cd_p_law ct_p_law), sl_p_law⟩) (C_p_law : PySem.W.codeIn K cd_p_law "law" = true) (K_p_law : PySem.W.keepIn K (.ref f_p_law) = true)
    {f_KINDS : Addr} {od_KINDS : Option Addr} {n_KINDS : Nat} {sl_KINDS : Array (Option Value)} {u0_KINDS u1_KINDS u2_KINDS u3_KINDS u4_KINDS : Tok} (A_KINDS : PySem.W.nsIn K mainGlobals "KINDS" = some (some (.ref f_KINDS))) (L_KINDS : K.lookup f_KINDS = some ⟨.type "tuple", od_KINDS, .seq [.str (PySem.Str.ofString "both") u0_KINDS, .str (PySem.Str.ofString "mean") u1_KINDS, .str (PySem.Str.ofString "greater") u2_KINDS, .str (PySem.Str.ofString "lesser") u3_KINDS, .str (PySem.Str.ofString "square") u4_KINDS].toArray n_KINDS, sl_KINDS⟩)
    (A_gcd : PySem.W.nsIn K mainGlobals "gcd" = some (some (.builtin "math.gcd")))
    (A_isqrt : PySem.W.nsIn K mainGlobals "isqrt" = some (some (.builtin "math.isqrt")))
    (Z_bool : PySem.W.nsIn K mainGlobals "bool" = some none)
    (Z_int : PySem.W.nsIn K mainGlobals "int" = some none)
    (Z_isinstance : PySem.W.nsIn K mainGlobals "isinstance" = some none)
    (Z_max : PySem.W.nsIn K mainGlobals "max" = some none)
    (Z_min : PySem.W.nsIn K mainGlobals "min" = some none)
    (Z_range : PySem.W.nsIn K mainGlobals "range" = some none)
    : ∃ fd : FuncData, (∀ (s : Shared) (v : Value), BindsTo s fd ⟨[v], []⟩ [("_law_script", v)]) ∧ ∀ base : Heap, K.In base → base.Ns mainGlobals mg → FnOk l.prog w K mg base CX0 4 fa fd ["_law_script"] (spLaw K) := by
  have e := hfa.symm.trans (PySem.W.mg_of X G A_p_law)
  cases e
  refine ⟨(PySem.W.fnOf "law" "law" (defArgs s_p_law) (defBody s_p_law) (defScope s_p_law) .none kV_p_law dc_p_law pm_p_law an_p_law cd_p_law ct_p_law), fun s v => .of_eq rfl, fun base _ _ => ?_⟩
  let T : Txt K mg base := { a_KINDS := f_KINDS, g_KINDS := PySem.W.mg_of X G A_KINDS, c_KINDS := fun H => sqT_written L_KINDS ((.cons ⟨_, rfl⟩ (.cons ⟨_, rfl⟩ (.cons ⟨_, rfl⟩ (.cons ⟨_, rfl⟩ (.cons ⟨_, rfl⟩ .nil)))))) (by simp), g_gcd := PySem.W.mg_of X G A_gcd, g_isqrt := PySem.W.mg_of X G A_isqrt, z_bool := PySem.W.mg_none_of X G Z_bool, z_int := PySem.W.mg_none_of X G Z_int, z_isinstance := PySem.W.mg_none_of X G Z_isinstance, z_max := PySem.W.mg_none_of X G Z_max, z_min := PySem.W.mg_none_of X G Z_min, z_range := PySem.W.mg_none_of X G Z_range, a_p_check_kind := f_p_check_kind, d_p_check_kind := _, F_p_check_kind := fun_mk (st := s_p_check_kind) L_p_check_kind C_p_check_kind K_p_check_kind, b_p_check_kind := (fun_mk (st := s_p_check_kind) L_p_check_kind C_p_check_kind K_p_check_kind).binds (ps := ["kind"]) (fun _ _ _ _ _ _ us hl => match us, hl with | [_], _ => rfl), g_p_check_kind := PySem.W.mg_of X G A_p_check_kind, a_p_check_kind_and_least := f_p_check_kind_and_least, d_p_check_kind_and_least := _, F_p_check_kind_and_least := fun_mk (st := s_p_check_kind_and_least) L_p_check_kind_and_least C_p_check_kind_and_least K_p_check_kind_and_least, b_p_check_kind_and_least := (fun_mk (st := s_p_check_kind_and_least) L_p_check_kind_and_least C_p_check_kind_and_least K_p_check_kind_and_least).binds (ps := ["kind", "least"]) (fun _ _ _ _ _ _ us hl => match us, hl with | [_, _], _ => rfl), g_p_check_kind_and_least := PySem.W.mg_of X G A_p_check_kind_and_least, a_p_divided_up := f_p_divided_up, d_p_divided_up := _, F_p_divided_up := fun_mk (st := s_p_divided_up) L_p_divided_up C_p_divided_up K_p_divided_up, b_p_divided_up := (fun_mk (st := s_p_divided_up) L_p_divided_up C_p_divided_up K_p_divided_up).binds (ps := ["top", "bottom"]) (fun _ _ _ _ _ _ us hl => match us, hl with | [_, _], _ => rfl), g_p_divided_up := PySem.W.mg_of X G A_p_divided_up, a_p_need := f_p_need, d_p_need := _, F_p_need := fun_mk (st := s_p_need) L_p_need C_p_need K_p_need, b_p_need := (fun_mk (st := s_p_need) L_p_need C_p_need K_p_need).binds (ps := ["kind", "least", "a", "b"]) (fun _ _ _ _ _ _ us hl => match us, hl with | [_, _, _, _], _ => rfl), g_p_need := PySem.W.mg_of X G A_p_need, a_l_mix := f_l_mix, d_l_mix := _, F_l_mix := fun_mk (st := s_l_mix) L_l_mix C_l_mix K_l_mix, b_l_mix := (fun_mk (st := s_l_mix) L_l_mix C_l_mix K_l_mix).binds (ps := ["_law_cell", "_law_k"]) (fun _ _ _ _ _ _ us hl => match us, hl with | [_, _], _ => rfl), g_l_mix := PySem.W.mg_of X G A_l_mix, a_l_divisor := f_l_divisor, d_l_divisor := _, F_l_divisor := fun_mk (st := s_l_divisor) L_l_divisor C_l_divisor K_l_divisor, b_l_divisor := (fun_mk (st := s_l_divisor) L_l_divisor C_l_divisor K_l_divisor).binds (ps := ["_law_one", "_law_other"]) (fun _ _ _ _ _ _ us hl => match us, hl with | [_, _], _ => rfl), g_l_divisor := PySem.W.mg_of X G A_l_divisor, a_l_kind := f_l_kind, d_l_kind := _, F_l_kind := fun_mk (st := s_l_kind) L_l_kind C_l_kind K_l_kind, b_l_kind := (fun_mk (st := s_l_kind) L_l_kind C_l_kind K_l_kind).binds (ps := ["_law_pick"]) (fun _ _ _ _ _ _ us hl => match us, hl with | [_], _ => rfl), g_l_kind := PySem.W.mg_of X G A_l_kind, a_l_least := f_l_least, d_l_least := _, F_l_least := fun_mk (st := s_l_least) L_l_least C_l_least K_l_least, b_l_least := (fun_mk (st := s_l_least) L_l_least C_l_least K_l_least).binds (ps := ["_law_pick"]) (fun _ _ _ _ _ _ us hl => match us, hl with | [_], _ => rfl), g_l_least := PySem.W.mg_of X G A_l_least, a_l_parts := f_l_parts, d_l_parts := _, F_l_parts := fun_mk (st := s_l_parts) L_l_parts C_l_parts K_l_parts, b_l_parts := (fun_mk (st := s_l_parts) L_l_parts C_l_parts K_l_parts).binds (ps := ["_law_kind_here", "_law_a", "_law_b", "_law_c"]) (fun _ _ _ _ _ _ us hl => match us, hl with | [_, _, _, _], _ => rfl), g_l_parts := PySem.W.mg_of X G A_l_parts, a_l_reaches := f_l_reaches, d_l_reaches := _, F_l_reaches := fun_mk (st := s_l_reaches) L_l_reaches C_l_reaches K_l_reaches, b_l_reaches := (fun_mk (st := s_l_reaches) L_l_reaches C_l_reaches K_l_reaches).binds (ps := ["_law_kind_here", "_law_least_here", "_law_a", "_law_b", "_law_c"]) (fun _ _ _ _ _ _ us hl => match us, hl with | [_, _, _, _, _], _ => rfl), g_l_reaches := PySem.W.mg_of X G A_l_reaches, a_l_need := f_l_need, d_l_need := _, F_l_need := fun_mk (st := s_l_need) L_l_need C_l_need K_l_need, b_l_need := (fun_mk (st := s_l_need) L_l_need C_l_need K_l_need).binds (ps := ["_law_kind_here", "_law_least_here", "_law_a", "_law_b"]) (fun _ _ _ _ _ _ us hl => match us, hl with | [_, _, _, _], _ => rfl), g_l_need := PySem.W.mg_of X G A_l_need, a_l_is := f_l_is, d_l_is := _, F_l_is := fun_mk (st := s_l_is) L_l_is C_l_is K_l_is, b_l_is := (fun_mk (st := s_l_is) L_l_is C_l_is K_l_is).binds (ps := ["_law_given", "_law_due"]) (fun _ _ _ _ _ _ us hl => match us, hl with | [_, _], _ => rfl), g_l_is := PySem.W.mg_of X G A_l_is, a_l_weight_by := f_l_weight_by, d_l_weight_by := _, F_l_weight_by := fun_mk (st := s_l_weight_by) L_l_weight_by C_l_weight_by K_l_weight_by, b_l_weight_by := (fun_mk (st := s_l_weight_by) L_l_weight_by C_l_weight_by K_l_weight_by).binds (ps := ["_law_pick"]) (fun _ _ _ _ _ _ us hl => match us, hl with | [_], _ => rfl), g_l_weight_by := PySem.W.mg_of X G A_l_weight_by, a_l_cut := f_l_cut, d_l_cut := _, F_l_cut := fun_mk (st := s_l_cut) L_l_cut C_l_cut K_l_cut, b_l_cut := (fun_mk (st := s_l_cut) L_l_cut C_l_cut K_l_cut).binds (ps := ["_law_script"]) (fun _ _ _ _ _ _ us hl => match us, hl with | [_], _ => rfl), g_l_cut := PySem.W.mg_of X G A_l_cut }
  exact ok_p_law T (fun_mk (st := s_p_law) L_p_law C_p_law K_p_law)
end MuK
open PySem PySem.W PyProof.Rows
set_option maxHeartbeats 0 in
theorem PySem.Challenge.cw_muchalike_k02_what_two_need_holds : PySem.Challenge.rw_muchalike_k02_what_two_need.Holds := by
  w_on; o_law; k_head; (case hw => w_witness2)
  k_fill
  refine L2.walk_of (l := PySem.Challenge.rw_muchalike_k02_what_two_need) (n := 63) (k := 4) (x := "_law_script") (CX := fun _ => L2.CX0) (sp := fun w => MuK.spLaw _) rfl (by decide) rfl ⟨rfl, by decide, by decide⟩ (fun w h Y => PySem.W.kIn_of Y) ?F (fun _ _ a ns hl _ hS => ⟨a, ns, rfl, hS, hl, fun _ => rfl⟩) (fun _ _ _ _ _ h => h)
  case F =>
    intro w mg fa h KX G hmg
    refine' MuK.all_mk KX G hmg ?A_p_check_kind ?L_p_check_kind ?C_p_check_kind ?K_p_check_kind ?A_p_check_kind_and_least ?L_p_check_kind_and_least ?C_p_check_kind_and_least ?K_p_check_kind_and_least ?A_p_divided_up ?L_p_divided_up ?C_p_divided_up ?K_p_divided_up ?A_p_need ?L_p_need ?C_p_need ?K_p_need ?A_l_mix ?L_l_mix ?C_l_mix ?K_l_mix ?A_l_divisor ?L_l_divisor ?C_l_divisor ?K_l_divisor ?A_l_kind ?L_l_kind ?C_l_kind ?K_l_kind ?A_l_least ?L_l_least ?C_l_least ?K_l_least ?A_l_parts ?L_l_parts ?C_l_parts ?K_l_parts ?A_l_reaches ?L_l_reaches ?C_l_reaches ?K_l_reaches ?A_l_need ?L_l_need ?C_l_need ?K_l_need ?A_l_is ?L_l_is ?C_l_is ?K_l_is ?A_l_weight_by ?L_l_weight_by ?C_l_weight_by ?K_l_weight_by ?A_l_cut ?L_l_cut ?C_l_cut ?K_l_cut ?A_p_law ?L_p_law ?C_p_law ?K_p_law ?A_KINDS ?L_KINDS ?A_gcd ?A_isqrt ?Z_bool ?Z_int ?Z_isinstance ?Z_max ?Z_min ?Z_range
    (case A_p_check_kind => k_is)
    (case L_p_check_kind => k_is)
    (case C_p_check_kind => k_is)
    (case K_p_check_kind => k_is)
    (case A_p_check_kind_and_least => k_is)
    (case L_p_check_kind_and_least => k_is)
    (case C_p_check_kind_and_least => k_is)
    (case K_p_check_kind_and_least => k_is)
    (case A_p_divided_up => k_is)
    (case L_p_divided_up => k_is)
    (case C_p_divided_up => k_is)
    (case K_p_divided_up => k_is)
    (case A_p_need => k_is)
    (case L_p_need => k_is)
    (case C_p_need => k_is)
    (case K_p_need => k_is)
    (case A_l_mix => k_is)
    (case L_l_mix => k_is)
    (case C_l_mix => k_is)
    (case K_l_mix => k_is)
    (case A_l_divisor => k_is)
    (case L_l_divisor => k_is)
    (case C_l_divisor => k_is)
    (case K_l_divisor => k_is)
    (case A_l_kind => k_is)
    (case L_l_kind => k_is)
    (case C_l_kind => k_is)
    (case K_l_kind => k_is)
    (case A_l_least => k_is)
    (case L_l_least => k_is)
    (case C_l_least => k_is)
    (case K_l_least => k_is)
    (case A_l_parts => k_is)
    (case L_l_parts => k_is)
    (case C_l_parts => k_is)
    (case K_l_parts => k_is)
    (case A_l_reaches => k_is)
    (case L_l_reaches => k_is)
    (case C_l_reaches => k_is)
    (case K_l_reaches => k_is)
    (case A_l_need => k_is)
    (case L_l_need => k_is)
    (case C_l_need => k_is)
    (case K_l_need => k_is)
    (case A_l_is => k_is)
    (case L_l_is => k_is)
    (case C_l_is => k_is)
    (case K_l_is => k_is)
    (case A_l_weight_by => k_is)
    (case L_l_weight_by => k_is)
    (case C_l_weight_by => k_is)
    (case K_l_weight_by => k_is)
    (case A_l_cut => k_is)
    (case L_l_cut => k_is)
    (case C_l_cut => k_is)
    (case K_l_cut => k_is)
    (case A_p_law => k_is)
    (case L_p_law => k_is)
    (case C_p_law => k_is)
    (case K_p_law => k_is)
    (case A_KINDS => k_is)
    (case L_KINDS => k_is)
    (case A_gcd => k_is)
    (case A_isqrt => k_is)
    (case Z_bool => k_is)
    (case Z_int => k_is)
    (case Z_isinstance => k_is)
    (case Z_max => k_is)
    (case Z_min => k_is)
    (case Z_range => k_is)
