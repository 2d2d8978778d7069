import PyProof.Rows.All
import Wide.All
import OpenK.AllK
import Wide.FinOn
import HandS.ForMost
import HandS.ForExc
import HandS.Evl
import HandS.Wide
import HandS.Gcd
import HandS.IsInst
import HandS.SetTxt0
import HandS.SetFor
import HandS.Set
import HandS.Strs
import Wide.More
import PyProof.Rows.SortShellAny
import KE.KNest
import HandS.More
import PyProof.StrBlock2
import HandS.DeepEq
import KE.KDictSum
import HandS.Style
import HandS.Conv
import HandS.DictComp
import PySem.Challenge.RW_muchalike_k21_groups
set_option Elab.async false
set_option linter.all false
set_option maxRecDepth 100000
set_option maxHeartbeats 8000000

namespace MuK
open PySem PySem.Spec PyProof.Rows L2 Evl

/-! ### general rules -/
def CPowW (i j : Int) : Prop := 0 ≤ j ∧ (Builtin.Int.intBits i : Int) * j ≤ 2 ^ 27
theorem op_powW {X : Cx} : OpR X (binaryOp .Pow) (rI CPowW fun i j => .int (i ^ j.toNat)) := opI fun _ _ _ _ _ _ _ hc q => pow_int hc.1 hc.2 q

/-- promises: a value, a new tuple, a new list -/
def SpVal (D : Hp → List V → V → Prop) : Sp := fun vs H Q _ => ∃ v, D H vs v ∧ ∀ H', Ex H H' → Q v H'
def SpTup (D : Hp → List V → List V → Prop) : Sp := fun vs H Q _ => ∃ xs, D H vs xs ∧ ∀ p H', H p = none → Ex H H' → H' p = some (.tup xs) → Q (.ref p) H'
def SpLst (D : Hp → List V → List V → Prop) : Sp := fun vs H Q _ => ∃ xs, D H vs xs ∧ ∀ p H', H p = none → Ex H H' → H' p = some (.lst xs) → Q (.ref p) H'

section
variable {K : PySem.W.Frag} {σ : L2.St} {H H' : Hp} {ta tb te : TE} {t u : TT} {x y z v : V} {D : Ends} {tu tw tz : TS}
def SpU (sp : Sp) (vs : List V) (H : Hp) (xs : List V) : Prop := ∀ H1, Ex H H1 → ∀ Q : VK, (∀ p H2, H1 p = none → Ex H1 H2 → H2 p = some (.tup xs) → Q (.ref p) H2) → ∀ E : XK, sp vs H1 Q E
theorem eu_call {sp : Sp} {dvs vs xs : List V} {E : XK} {ta : TA} (h : EvA ta σ H vs) (hs : SpU sp (vs ++ dvs) H xs) : EvU (tCall sp dvs E ta) σ H xs := fun H1 e Q q =>
  h H1 e _ fun H2 e2 => hs H2 (e.trans e2) Q (fun p H3 hp e3 h3 => q p H3 (fresh_back e2 hp) (e2.trans e3) h3) E
theorem spVal {Dd : Hp → List V → V → Prop} {vs : List V} (h : ∀ H1, Ex H H1 → Dd H1 vs v) : SpV (SpVal Dd) vs H v := fun H1 e _ q _ => ⟨v, h H1 e, q⟩
theorem spTup {Dd : Hp → List V → List V → Prop} {vs xs : List V} (h : ∀ H1, Ex H H1 → Dd H1 vs xs) : SpU (SpTup Dd) vs H xs := fun H1 e _ q _ => ⟨xs, h H1 e, q⟩
theorem spLst {Dd : Hp → List V → List V → Prop} {vs xs : List V} (h : ∀ H1, Ex H H1 → Dd H1 vs xs) : SpL (SpLst Dd) vs H xs := fun H1 e _ q _ => ⟨xs, h H1 e, q⟩
theorem ev_callV {Dd : Hp → List V → V → Prop} {vs : List V} {E : XK} {ta : TA} (h : EvA ta σ H vs) (hs : ∀ H1, Ex H H1 → Dd H1 vs v) : Ev (tCall (SpVal Dd) [] E ta) σ H v :=
  ev_call h (by rw [List.append_nil]; exact spVal hs)
theorem eu_callU {Dd : Hp → List V → List V → Prop} {vs xs : List V} {E : XK} {ta : TA} (h : EvA ta σ H vs) (hs : ∀ H1, Ex H H1 → Dd H1 vs xs) : EvU (tCall (SpTup Dd) [] E ta) σ H xs :=
  eu_call h (by rw [List.append_nil]; exact spTup hs)
theorem el_callL {Dd : Hp → List V → List V → Prop} {vs xs : List V} {E : XK} {ta : TA} (h : EvA ta σ H vs) (hs : ∀ H1, Ex H H1 → Dd H1 vs xs) : EvL (tCall (SpLst Dd) [] E ta) σ H xs :=
  el_call h (by rw [List.append_nil]; exact spLst hs)

/-- built-ins by values -/
theorem rc_min2 {i j : Int} : RC (fun xs H Q => ∃ i j, xs = [.int i, .int j] ∧ Q (.int (if j < i then j else i)) H) [.int i, .int j] H (.int (min i j)) := fun H1 _ Q q =>
  ⟨i, j, rfl, by have e : (if j < i then j else i) = min i j := by (split <;> omega)
                 rw [e]; exact q H1 (Ex.refl H1)⟩
theorem rc_max2 {i j : Int} : RC (fun xs H Q => ∃ i j, xs = [.int i, .int j] ∧ Q (.int (if j > i then j else i)) H) [.int i, .int j] H (.int (max i j)) := fun H1 _ Q q =>
  ⟨i, j, rfl, by have e : (if j > i then j else i) = max i j := by (split <;> omega)
                 rw [e]; exact q H1 (Ex.refl H1)⟩
theorem rc_gcd {a b : Int} : RC rGcd [.int a, .int b] H (.int ((Nat.gcd a.natAbs b.natAbs : Nat) : Int)) := fun H1 _ _ q => ⟨a, b, rfl, q H1 (Ex.refl H1)⟩
theorem rc_lenT {p : Addr} {ys : List V} (h : SqT K H p ys) : RC (fun xs H Q => ∃ p ys, xs = [.ref p] ∧ (SqL K H p ys ∨ SqT K H p ys) ∧ Q (.int ys.length) H) [.ref p] H (.int ys.length) := fun H1 e _ q => ⟨p, ys, rfl, .inr (ex_t e h), q H1 (Ex.refl H1)⟩
theorem rc_lenL {p : Addr} {ys : List V} (h : SqL K H p ys) : RC (fun xs H Q => ∃ p ys, xs = [.ref p] ∧ (SqL K H p ys ∨ SqT K H p ys) ∧ Q (.int ys.length) H) [.ref p] H (.int ys.length) := fun H1 e _ q => ⟨p, ys, rfl, .inl (ex_l e h), q H1 (Ex.refl H1)⟩
theorem rc_intB {k : Bool} : RC (fun xs H Q => (∃ i, xs = [.int i] ∧ Q (.int i) H) ∨ ∃ k, xs = [.bl k] ∧ Q (.int (if k then 1 else 0)) H) [.bl k] H (.int (if k then 1 else 0)) := fun H1 _ _ q => .inr ⟨k, rfl, q H1 (Ex.refl H1)⟩
theorem rc_isiInt {i : Int} {n : String} {b : Bool} (h : PySem.W.kitOne K (.type "int") (.type n) = some b) : RC (rIsi K) [.int i, .ty n] H (.bl b) := fun H1 _ _ q => ⟨_, _, _, _, b, rfl, .ty n, .base (.int i), h, q H1 (Ex.refl H1)⟩
theorem rc_isiBool {i : Bool} {n : String} {b : Bool} (h : PySem.W.kitOne K (.type "bool") (.type n) = some b) : RC (rIsi K) [.bl i, .ty n] H (.bl b) := fun H1 _ _ q => ⟨_, _, _, _, b, rfl, .ty n, .base (.bl i), h, q H1 (Ex.refl H1)⟩
theorem rc_isiNone {n : String} {b : Bool} (h : PySem.W.kitOne K (.type "NoneType") (.type n) = some b) : RC (rIsi K) [.non, .ty n] H (.bl b) := fun H1 _ _ q => ⟨_, _, _, _, b, rfl, .ty n, .base .non, h, q H1 (Ex.refl H1)⟩
theorem rc_isiTup {p : Addr} {xs : List V} {n : String} {b : Bool} (hp : H p = some (.tup xs)) (h : PySem.W.kitOne K (.type "tuple") (.type n) = some b) : RC (rIsi K) [.ref p, .ty n] H (.bl b) := fun H1 e _ q => ⟨_, _, _, _, b, rfl, .ty n, .base (.tup (e p _ hp)), h, q H1 (Ex.refl H1)⟩
theorem rc_isiLst {p : Addr} {xs : List V} {n : String} {b : Bool} (hp : H p = some (.lst xs)) (h : PySem.W.kitOne K (.type "list") (.type n) = some b) : RC (rIsi K) [.ref p, .ty n] H (.bl b) := fun H1 e _ q => ⟨_, _, _, _, b, rfl, .ty n, .base (.lst (e p _ hp)), h, q H1 (Ex.refl H1)⟩
/-- lists joined, both new -/
theorem el_cat {xs ys : List V} (ha : EvL ta σ H xs) (hb : EvL tb σ H ys) (hz : xs.length + ys.length ≤ 100000) : EvL (tOp rCat ta tb) σ H (xs ++ ys) := fun H1 e Q q =>
  ha H1 e _ fun p H2 hp e2 h2 => hb H2 (e.trans e2) _ fun r H3 hr e3 h3 => ⟨p, r, xs, ys, rfl, rfl, e3 p _ h2, h3, sz_of hz, fun l hl => q l _ (fresh_back (e2.trans e3) hl) ((e2.trans e3).trans (Ex.new hl)) upd_same⟩
theorem el_catV {xs ys : List V} {a : Addr} (ha : Ev ta σ H (.ref a)) (h0 : H a = some (.lst xs)) (hb : EvL tb σ H ys) (hz : xs.length + ys.length ≤ 100000) : EvL (tOp rCat ta tb) σ H (xs ++ ys) := fun H1 e Q q =>
  ha H1 e _ fun H2 e2 => hb H2 (e.trans e2) _ fun r H3 hr e3 h3 => ⟨a, r, xs, ys, rfl, rfl, ((e.trans e2).trans e3) a _ h0, h3, sz_of hz, fun l hl => q l _ (fresh_back (e2.trans e3) hl) ((e2.trans e3).trans (Ex.new hl)) upd_same⟩
/-- an item of a new list -/
theorem ev_ixNew {xs : List V} {i : Int} (ha : EvL ta σ H xs) (hb : Ev tb σ H (.int i)) (h : atI xs i = some v) : Ev (tOp (rIxL K) ta tb) σ H v :=
  ev_opL1 ha (fun _ e => hb.mono e) fun _ _ hp _ => rv_ixL (sq_of hp) h
theorem rv_fdW {i j : Int} {b : Nat} (h : 0 < j) (hb : j.natAbs < 2 ^ b) (h0 : 0 < b) (h9 : b ≤ 9000) : RV (rI CDivW fun i j => .int (i / j)) (.int i) (.int j) H (.int (i / j)) := rv_I (wide_div h hb h0 h9)
theorem s_par {i j : Nat} {ta : TA} {v w : V} (h : EvA ta σ H [v, w]) (k : ∀ H1, Ex H H1 → D.nx ((σ.set i (some v)).set j (some w)) H1) : tPar i j ta D σ H := h H (Ex.refl H) _ fun H1 e => ⟨v, w, rfl, k H1 e⟩
theorem q_par {i j : Nat} {ta : TA} {v w : V} (h : EvA ta σ H [v, w]) (k : ∀ H1, Ex H H1 → tz D ((σ.set i (some v)).set j (some w)) H1) : tSeq (tPar i j ta) tz D σ H := s_par (D := { D with nx := tz D }) h k
/-- a, b = e, e a new tuple of two; of any tuple -/
theorem q_unp2 {i j : Nat} {x y : V} (h : EvU te σ H [x, y]) (k : ∀ H1, Ex H H1 → tz D ((σ.set i (some x)).set j (some y)) H1) : tSeq (tAsg te (gTup K 2 (gCons (gName i) (gCons (gName j) gNil)))) tz D σ H :=
  h H (Ex.refl H) _ fun p H1 _ e hp => ⟨p, [x, y], rfl, st_of hp, rfl, x, [y], rfl, y, [], rfl, rfl, k H1 e⟩
theorem q_unp2V {i j : Nat} {p : Addr} {x y : V} (h : Ev te σ H (.ref p)) (h2 : SqT K H p [x, y]) (k : ∀ H1, Ex H H1 → tz D ((σ.set i (some x)).set j (some y)) H1) : tSeq (tAsg te (gTup K 2 (gCons (gName i) (gCons (gName j) gNil)))) tz D σ H :=
  h H (Ex.refl H) _ fun H1 e => ⟨p, [x, y], rfl, ex_t e h2, rfl, x, [y], rfl, y, [], rfl, rfl, k H1 e⟩
theorem decs {a b : Str} : decide (V.str a = V.str b) = decide (a = b) := by
  by_cases h : a = b
  · subst h; simp
  · rw [decide_eq_false h]; exact decide_eq_false fun e => h (V.str.inj e)
theorem deci {a b : Int} : decide (V.int a = V.int b) = decide (a = b) := by
  by_cases h : a = b
  · subst h; simp
  · rw [decide_eq_false h]; exact decide_eq_false fun e => h (V.int.inj e)
theorem rv_eqS {a b : Str} : RV rEq (.str a) (.str b) H (.bl (decide (a = b))) := by rw [← decs]; exact rv_eq rfl
theorem rv_eqI {a b : Int} : RV rEq (.int a) (.int b) H (.bl (decide (a = b))) := by rw [← deci]; exact rv_eq rfl
theorem rv_neS {a b : Str} : RV rNe (.str a) (.str b) H (.bl (!decide (a = b))) := by rw [← decs]; exact rv_ne rfl
theorem rv_neI {a b : Int} : RV rNe (.int a) (.int b) H (.bl (!decide (a = b))) := by rw [← deci]; exact rv_ne rfl
theorem vals_map_str : ∀ {xs : List (Str × Tok)}, Vals (xs.map fun p => V.str p.1) (xs.map fun p => Value.str p.1 p.2)
  | [] => .nil
  | _ :: _ => .cons ⟨_, rfl⟩ vals_map_str
theorem dp_ints : ∀ (ns : List Int), DpAll K H (ns.map V.int) (ns.map PyData.int)
  | [] => .nil
  | n :: ns => .cons (.int n) (dp_ints ns)
/-- an argument that is a new tuple, a new list -/
theorem ev_callU1 {Dd : Hp → List V → V → Prop} {E : XK} {tr : TA} {vs xs : List V} (h : EvU te σ H xs) (hr : EvA tr σ H vs) (hs : ∀ p H1, Ex H H1 → H1 p = some (.tup xs) → Dd H1 (.ref p :: vs) v) : Ev (tCall (SpVal Dd) [] E (tCons te tr)) σ H v := fun H1 e Q q =>
  h H1 e _ fun p H2 _ e2 hp => hr H2 (e.trans e2) _ fun H3 e3 => ⟨v, by rw [List.append_nil]; exact hs p H3 ((e.trans e2).trans e3) (e3 p _ hp), fun H4 e4 => q H4 ((e2.trans e3).trans e4)⟩
theorem atI_mod {α : Type} {xs : List α} {n : Int} {m : Nat} (d : α) (hm : xs.length = m) (h0 : 0 < m) : atI xs (n % (m : Int)) = some (xs.getD (n % (m : Int)).toNat d) := by
  have h1 : 0 ≤ n % (m : Int) := Int.emod_nonneg _ (by omega)
  have h2 : n % (m : Int) < m := Int.emod_lt_of_pos _ (by omega)
  have h3 : (((n % (m : Int)).toNat : Nat) : Int) = n % (m : Int) := Int.toNat_of_nonneg h1
  have h4 : (n % (m : Int)).toNat < xs.length := by omega
  have h5 : xs[(n % (m : Int)).toNat]? = some (xs.getD (n % (m : Int)).toNat d) := by
    rw [List.getD_eq_getElem?_getD, List.getElem?_eq_getElem h4]; rfl
  have h6 := atI_nat h5
  rw [h3] at h6
  exact h6
theorem atI_modI {xs : List Int} {n : Int} {m : Nat} (hm : xs.length = m) (h0 : 0 < m) : atI (xs.map V.int) (n % (m : Int)) = some (.int (xs.getD (n % (m : Int)).toNat 0)) := by
  have h := atI_mod (xs := xs.map V.int) (n := n) (m := m) (.int 0) (by rw [List.length_map]; exact hm) h0
  rw [h]
  congr 1
  rw [List.getD_eq_getElem?_getD, List.getD_eq_getElem?_getD, List.getElem?_map]
  cases xs[(n % (m : Int)).toNat]? <;> rfl
theorem cutV_mem {xs : List V} {lo hi : Option Int} {x : V} (h : x ∈ cutV xs lo hi) : x ∈ xs := List.mem_of_mem_drop (List.mem_of_mem_take h)
theorem sqT_written {f : Addr} {od : Option Addr} {vs : List V} {us : List Value} {n : Nat} {sl : Array (Option Value)} (h : K.lookup f = some ⟨.type "tuple", od, .seq us.toArray n, sl⟩) (r : Vals vs us) (hz : us.length ≤ 1000) : SqT K H f vs :=
  .inr ⟨_, us.toArray, n, h, rfl, rfl, by rw [List.size_toArray]; exact sz_of (by omega), by simpa using r⟩
theorem el_is {xs ys : List V} (h : EvL te σ H xs) (e : xs = ys) : EvL te σ H ys := by
  rw [← e]
  exact h
theorem eu_is {xs ys : List V} (h : EvU te σ H xs) (e : xs = ys) : EvU te σ H ys := by
  rw [← e]
  exact h
theorem given_map (ns : List Int) (f : Int → Int) : given ns.length (fun _ => true) (fun i => .int (f (ns.getD i 0))) = (ns.map f).map V.int := by
  unfold given
  rw [List.filter_eq_self.mpr (fun _ _ => rfl)]
  apply List.ext_getElem
  · simp
  · intro i h1 h2
    simp at h1
    simp [List.getD_eq_getElem?_getD, h1]
theorem ev_chain {r r' : R2} {tc : TE} {a b : Bool} (ha : Ev ta σ H x) (hb : Ev tb σ H y) (hr : RV r x y H (.bl a)) (hc : a = true → Ev tc σ H z) (hr' : a = true → RV r' y z H (.bl b)) : Ev (tChain r r' ta tb tc) σ H (.bl (a && b)) := fun H1 e Q q =>
  ha H1 e _ fun H2 e2 => hb H2 (e.trans e2) _ fun H3 e3 => hr H3 ((e.trans e2).trans e3) _ fun H4 e4 => ⟨a, rfl, by
    have ee := ((e.trans e2).trans e3).trans e4
    cases a with
    | true =>
      show tc σ H4 fun w' H5 => r' y w' H5 Q
      exact hc rfl H4 ee _ fun H5 e5 => hr' rfl H5 (ee.trans e5) Q fun H6 e6 => q H6 ((((e2.trans e3).trans e4).trans e5).trans e6)
    | false =>
      show Q (.bl false) H4
      exact q H4 ((e2.trans e3).trans e4)⟩
theorem atI_modD {xs : List Int} {n : Int} {m : Nat} {d : Int} (hm : xs.length = m) (h0 : 0 < m) : atI (xs.map V.int) (n % (m : Int)) = some (.int (xs.getD (n % (m : Int)).toNat d)) := by
  have h := atI_mod (xs := xs.map V.int) (n := n) (m := m) (.int d) (by rw [List.length_map]; exact hm) h0
  rw [h]
  congr 1
  rw [List.getD_eq_getElem?_getD, List.getD_eq_getElem?_getD, List.getElem?_map]
  cases xs[(n % (m : Int)).toNat]? <;> rfl
theorem getDP {α : Type} {xs : List α} {d : α} {P : α → Prop} (h : ∀ x ∈ xs, P x) (h0 : P d) (i : Nat) : P (xs.getD i d) := by
  rw [List.getD_eq_getElem?_getD]
  cases e : xs[i]? with
  | none => exact h0
  | some x => exact h x (List.mem_of_getElem? e)
theorem cells_int {ns : List Int} {lo hi : Option Int} {a b : Int} {i : Nat} {x : V} (hx : (cutV (ns.map V.int) lo hi ++ [.int a, .int b])[i]? = some x) : ∃ c, x = .int c := by
  have hm := List.mem_of_getElem? hx
  rw [List.mem_append] at hm
  rcases hm with hm | hm
  · have := cutV_mem hm
    rw [List.mem_map] at this
    obtain ⟨z, _, rfl⟩ := this
    exact ⟨z, rfl⟩
  · simp only [List.mem_cons, List.not_mem_nil, or_false] at hm
    rcases hm with rfl | rfl
    · exact ⟨_, rfl⟩
    · exact ⟨_, rfl⟩
/-- two tuples of the same two ints are equal -/
theorem rv_eqT2 {p q : Addr} {x y : Int} (hp : H p = some (.tup [.int x, .int y])) (hq : H q = some (.tup [.int x, .int y])) : RV (rEqD K) (.ref p) (.ref q) H (.bl true) := fun H1 e Q k => by
  refine ⟨.tuple [.int x, .int y], .tuple [.int x, .int y], .tup (st_of (e p _ hp)) (.cons (.int x) (.cons (.int y) .nil)), .tup (st_of (e q _ hq)) (.cons (.int x) (.cons (.int y) .nil)), rfl, rfl, ?_⟩
  rw [SeqAt.eqv_refl]
  all_goals first | exact k H1 (Ex.refl H1) | rfl
theorem rv_neT2 {p q : Addr} {x y : Int} (hp : H p = some (.tup [.int x, .int y])) (hq : H q = some (.tup [.int x, .int y])) : RV (rNeD K) (.ref p) (.ref q) H (.bl false) := fun H1 e Q k => by
  refine ⟨.tuple [.int x, .int y], .tuple [.int x, .int y], .tup (st_of (e p _ hp)) (.cons (.int x) (.cons (.int y) .nil)), .tup (st_of (e q _ hq)) (.cons (.int x) (.cons (.int y) .nil)), rfl, rfl, ?_⟩
  rw [SeqAt.eqv_refl]
  all_goals first | exact k H1 (Ex.refl H1) | rfl
theorem atI_inI {xs : List Int} {n : Int} {d : Int} (h0 : 0 ≤ n) (h1 : n < xs.length) : atI (xs.map V.int) n = some (.int (xs.getD n.toNat d)) := by
  have h3 : ((n.toNat : Nat) : Int) = n := Int.toNat_of_nonneg h0
  have h4 : n.toNat < xs.length := by omega
  have h5 : (xs.map V.int)[n.toNat]? = some (.int (xs.getD n.toNat d)) := by
    rw [List.getElem?_map, List.getD_eq_getElem?_getD, List.getElem?_eq_getElem h4]; rfl
  have h6 := atI_nat h5
  rw [h3] at h6
  exact h6
theorem s_forNLn {xs : List V} {tl : TE} {j : Nat} (h : EvL tl σ H xs) (Pv : Addr → Nat → L2.St → Hp → Prop) (h0 : ∀ p H1, H p = none → Ex H H1 → H1 p = some (.lst xs) → Pv p 0 σ H1) (hl : ∀ p i σ' H', i ≤ xs.length → Pv p i σ' H' → SqL K H' p xs)
    (hs : ∀ p i x σ' H', xs[i]? = some x → Pv p i σ' H' → tu { D with nx := Pv p (i + 1), ct := Pv p (i + 1), bk := D.nx } (σ'.set j (some x)) H') (hd : ∀ p σ' H', Pv p xs.length σ' H' → D.nx σ' H') : tFor (iList K tl) (gName j) tu D σ H :=
  s_forNL h Pv h0 hl hs hd
end
end MuK

namespace MuK
open PySem PySem.Spec PyProof.Rows L2 Evl
/-! ### plain mathematics of the helpers -/
def divs (b : Int) : Nat → Int → Int
  | 0, c => c
  | n + 1, c => divs b n c / b
def mix (c : Int) (k : Nat) : Int :=
  if c ≥ 10 ^ 18 then divs (10 ^ 6) k c % 10 ^ 6 else
  ((((c % 1000003 + k * k * 7919 + k) * 48271 % 2147483629) * ((c % 1000003 + k * k * 7919 + k) * 48271 % 2147483629) % 2147483587) *
   ((((c % 1000003 + k * k * 7919 + k) * 48271 % 2147483629) * ((c % 1000003 + k * k * 7919 + k) * 48271 % 2147483629) % 2147483587) + 2)) % 2147483579 / 7
theorem mix_nn (c : Int) (k : Nat) : 0 ≤ mix c k := by
  unfold mix
  split
  · exact Int.emod_nonneg _ (by decide)
  · exact Int.ediv_nonneg (Int.emod_nonneg _ (by decide)) (by decide)
theorem mix_lt (c : Int) (k : Nat) : mix c k < 306783379 := by
  unfold mix
  split
  · have := Int.emod_lt_of_pos (divs (10 ^ 6) k c) (show (0 : Int) < 10 ^ 6 by decide)
    omega
  · generalize ((((c % 1000003 + k * k * 7919 + k) * 48271 % 2147483629) * ((c % 1000003 + k * k * 7919 + k) * 48271 % 2147483629) % 2147483587) * ((((c % 1000003 + k * k * 7919 + k) * 48271 % 2147483629) * ((c % 1000003 + k * k * 7919 + k) * 48271 % 2147483629) % 2147483587) + 2)) = z
    have := Int.emod_lt_of_pos z (show (0 : Int) < 2147483579 by decide)
    have := Int.emod_nonneg z (show (2147483579 : Int) ≠ 0 by decide)
    omega
theorem gcd_step (a b : Int) (ha : 0 ≤ a) (hb : 0 < b) : Nat.gcd b.natAbs (a % b).natAbs = Nat.gcd a.natAbs b.natAbs := by
  obtain ⟨m, rfl⟩ := Int.eq_ofNat_of_zero_le ha
  obtain ⟨n, rfl⟩ := Int.eq_ofNat_of_zero_le (show (0 : Int) ≤ b by omega)
  rw [show ((m : Int) % (n : Int)) = ((m % n : Nat) : Int) from (Int.natCast_emod m n).symm]
  simp only [Int.natAbs_natCast]
  rw [Nat.gcd_comm m n]
  rw [Nat.gcd_comm n (m % n), ← Nat.gcd_rec]
/-- top and bottom of the fraction of a kind -/
def frac (k : Str) (a b c : Int) : Int × Int :=
  if k = "both" then (c, a + b - c) else if k = "mean" then (2 * c, a + b) else if k = "greater" then (c, max a b) else if k = "lesser" then (c, min a b) else (c * c, a * b)
def five : List Str := ["both", "mean", "greater", "lesser", "square"]
def gcdI (a b : Int) : Int := ((Nat.gcd a.natAbs b.natAbs : Nat) : Int)
def shareM (k : Str) (a b c : Int) : Int × Int :=
  if a = 0 ∨ b = 0 then (0, 1) else ((frac k a b c).1 / gcdI (frac k a b c).1 (frac k a b c).2, (frac k a b c).2 / gcdI (frac k a b c).1 (frac k a b c).2)
/-- weights and what they have in common, as they are handed in -/
structure WOk (a b c : Int) : Prop where
  a0 : 0 ≤ a
  a1 : a ≤ 10 ^ 18
  b0 : 0 ≤ b
  b1 : b ≤ 10 ^ 18
  c0 : 0 ≤ c
  ca : c ≤ a
  cb : c ≤ b
theorem WOk.symm {a b c : Int} (h : WOk a b c) : WOk b a c := ⟨h.b0, h.b1, h.a0, h.a1, h.c0, h.cb, h.ca⟩
theorem mul_le_36 {a b : Int} (a0 : 0 ≤ a) (a1 : a ≤ 10 ^ 18) (b0 : 0 ≤ b) (b1 : b ≤ 10 ^ 18) : 0 ≤ a * b ∧ a * b ≤ 10 ^ 36 := by
  refine ⟨Int.mul_nonneg a0 b0, ?_⟩
  have := Int.mul_le_mul a1 b1 b0 (by decide : (0 : Int) ≤ 10 ^ 18)
  omega
theorem frac_bounds (k : Str) {a b c : Int} (h : WOk a b c) (ha : 0 < a) (hb : 0 < b) : 0 ≤ (frac k a b c).1 ∧ (frac k a b c).1 ≤ 10 ^ 36 ∧ 0 < (frac k a b c).2 ∧ (frac k a b c).2 ≤ 10 ^ 36 := by
  obtain ⟨a0, a1, b0, b1, c0, ca, cb⟩ := h
  unfold frac
  split
  · dsimp only
    omega
  · split
    · dsimp only
      omega
    · split
      · dsimp only
        omega
      · split
        · dsimp only
          omega
        · dsimp only
          have h1 := mul_le_36 c0 (by omega) c0 (by omega : c ≤ 10 ^ 18)
          have h2 := mul_le_36 a0 a1 b0 b1
          have h3 := Int.mul_pos ha hb
          exact ⟨h1.1, h1.2, h3, h2.2⟩
theorem gcdI_pos {a b : Int} (hb : 0 < b) : 0 < gcdI a b := by
  unfold gcdI
  have : 0 < Nat.gcd a.natAbs b.natAbs := Nat.gcd_pos_of_pos_right _ (by omega)
  omega
theorem gcdI_le {a b : Int} (hb : 0 < b) : gcdI a b ≤ b := by
  unfold gcdI
  have : Nat.gcd a.natAbs b.natAbs ≤ b.natAbs := Nat.gcd_le_right _ (by omega)
  omega
theorem abs_lt_of {x : Int} {n : Nat} (h0 : 0 ≤ x) (h : x < (2 : Int) ^ n) : x.natAbs < 2 ^ n := by
  have e : ((x.natAbs : Nat) : Int) = x := Int.natAbs_of_nonneg h0
  have e2 : ((2 ^ n : Nat) : Int) = (2 : Int) ^ n := by rw [Int.natCast_pow]; rfl
  omega
theorem frac_symm (k : Str) (a b c : Int) : frac k b a c = frac k a b c := by
  unfold frac
  split
  · rw [Int.add_comm b a]
  · split
    · rw [Int.add_comm b a]
    · split
      · rw [Int.max_comm b a]
      · split
        · rw [Int.min_comm b a]
        · rw [Int.mul_comm b a]
theorem shareM_symm (k : Str) (a b c : Int) : shareM k b a c = shareM k a b c := by
  unfold shareM
  rw [frac_symm k a b c]
  by_cases h : a = 0 ∨ b = 0
  · rw [if_pos h, if_pos (by omega)]
  · rw [if_neg h, if_neg (by omega)]
def bigM : Int := ((10 : Int) ^ 60) ^ 60
def cutI (c : Int) : Int := if c ≥ bigM then bigM + c % bigM else c
theorem bigM_pos : 0 < bigM := by
  unfold bigM
  exact Int.pow_pos (Int.pow_pos (by decide))
theorem getD5 {xs : List Int} {P : Int → Prop} (h : ∀ x ∈ xs, P x) (h0 : P 0) (i : Nat) : P (xs.getD i 0) := by
  rw [List.getD_eq_getElem?_getD]
  cases e : xs[i]? with
  | none => exact h0
  | some x => exact h x (List.mem_of_getElem? e)
theorem rc_gcdI {H : Hp} {a b : Int} : RC rGcd [.int a, .int b] H (.int (gcdI a b)) := rc_gcd
end MuK

namespace MuK
open PySem PySem.Spec PyProof.Rows L2 Evl
/-! ### values of which only something is known -/
def EvX (te : TE) (σ : L2.St) (H : Hp) (R : V → Hp → Prop) : Prop := ∀ H1, Ex H H1 → ∀ Q : VK, (∀ v H2, Ex H1 H2 → R v H2 → Q v H2) → te σ H1 Q
def SpR (D : Hp → List V → (V → Hp → Prop) → Prop) : Sp := fun vs H Q _ => ∃ R, D H vs R ∧ ∀ v H', Ex H H' → R v H' → Q v H'
section
variable {K : PySem.W.Frag} {σ : L2.St} {H H' : Hp} {ta tb te : TE} {t u : TT} {x y z v : V} {D : Ends} {tu tw tz : TS} {R : V → Hp → Prop}
theorem evx_call {Dd : Hp → List V → (V → Hp → Prop) → Prop} {vs : List V} {E : XK} {ta : TA} (h : EvA ta σ H vs)
    (hs : ∀ H1, Ex H H1 → ∃ R1, Dd H1 vs R1 ∧ ∀ v H2, Ex H1 H2 → R1 v H2 → R v H2) : EvX (tCall (SpR Dd) [] E ta) σ H R := fun H1 e Q q =>
  h H1 e _ fun H2 e2 => by
    obtain ⟨R1, d, k⟩ := hs H2 (e.trans e2)
    exact ⟨R1, by rw [List.append_nil]; exact d, fun v H3 e3 r => q v H3 (e2.trans e3) (k v H3 e3 r)⟩
theorem q_asgX {i : Nat} (h : EvX te σ H R) (k : ∀ v H1, Ex H H1 → R v H1 → tz D (σ.set i (some v)) H1) : tSeq (tAsg te (gName i)) tz D σ H := h H (Ex.refl H) _ k
theorem s_asgX {i : Nat} (h : EvX te σ H R) (k : ∀ v H1, Ex H H1 → R v H1 → D.nx (σ.set i (some v)) H1) : tAsg te (gName i) D σ H := h H (Ex.refl H) _ k
theorem s_retX (h : EvX te σ H R) (k : ∀ v H1, Ex H H1 → R v H1 → D.rt v H1) : tRet te D σ H := h H (Ex.refl H) _ k
theorem evx_of (h : Ev te σ H v) : EvX te σ H (fun z _ => z = v) := fun H1 e Q q => h H1 e Q fun H2 e2 => q v H2 e2 rfl
theorem evx_mono {R' : V → Hp → Prop} (h : EvX te σ H R) (k : ∀ v H1, Ex H H1 → R v H1 → R' v H1) : EvX te σ H R' := fun H1 e Q q => h H1 e Q fun v H2 e2 r => q v H2 e2 (k v H2 (e.trans e2) r)
/-- the texts ws stand in the list p -/
abbrev TxL (H : Hp) (p : Addr) (ws : List Str) : Prop := H p = some (.lst (ws.map V.str))
/-! ### weights -/
def IntD (kvs : List (Key × V)) : Prop := ∀ kv ∈ kvs, ∃ z, kv.2 = V.int z
def wOf (kvs : List (Key × V)) (a : Str) : Int := match valV kvs (.inr a) with
  | some (.int z) => z
  | _ => 1
theorem wOf_is {kvs : List (Key × V)} (h : IntD kvs) (a : Str) : (valV kvs (.inr a)).getD (.int 1) = .int (wOf kvs a) := by
  unfold wOf
  cases e : valV kvs (.inr a) with
  | none => rfl
  | some u =>
    have ⟨kv, m, q⟩ : ∃ kv ∈ kvs, kv.2 = u := by
      unfold valV at e
      cases f : kvs.find? fun kv => decide (kv.1 = Sum.inr a) with
      | none =>
        rw [f] at e
        exact nomatch e
      | some kv =>
        rw [f] at e
        exact ⟨kv, List.mem_of_find?_eq_some f, Option.some.inj e⟩
    obtain ⟨z, y⟩ := h kv m
    rw [← q, y]
    rfl
def heavy (kvs : List (Key × V)) (ws : List Str) : Int := (ws.map (wOf kvs)).sum
theorem str_at {ws : List Str} {i : Nat} {x : V} (h : (ws.map V.str)[i]? = some x) : ∃ a, ws[i]? = some a ∧ x = .str a := by
  rw [List.getElem?_map] at h
  cases e : ws[i]? with
  | none =>
    rw [e] at h
    exact nomatch h
  | some a =>
    rw [e] at h
    exact ⟨a, rfl, (Option.some.inj h).symm⟩
theorem nodup_len {α : Type} [DecidableEq α] : ∀ {l m : List α}, l.Nodup → (∀ j ∈ l, j ∈ m) → l.length ≤ m.length
  | [], m, _, _ => Nat.zero_le _
  | a :: l, m, nd, h => by
    obtain ⟨n1, n2⟩ := List.nodup_cons.mp nd
    have ha := h a List.mem_cons_self
    have k : ∀ j ∈ l, j ∈ m.erase a := fun j hj => by
      have ne : j ≠ a := fun z => n1 (z ▸ hj)
      exact (List.mem_erase_of_ne ne).mpr (h j (List.mem_cons_of_mem _ hj))
    have r := nodup_len n2 k
    have e := (List.perm_cons_erase ha).length_eq
    simp only [List.length_cons] at e ⊢
    omega
/-- d.get(k, y) of a dict of ints and texts -/
theorem ev_dget2 {td ty tx : TE} {d : Addr} {k : Key} {kvs : List (Key × V)} {dv r : V} (ha : Ev td σ H (.ref d)) (hd : Rd H d (.dK kvs)) (hb : Ev ty σ H (kV k)) (hc : Ev tx σ H dv)
    (hr : (valV kvs k).getD dv = r) : Ev (tDGet2 td ty tx) σ H r := fun H1 e Q q =>
  ha H1 e _ fun H2 e2 => ⟨d, rfl, .inl ⟨kvs, ex_rd (e.trans e2) hd⟩, hb H2 (e.trans e2) _ fun H3 e3 => hc H3 ((e.trans e2).trans e3) _ fun H4 e4 =>
    ⟨valV kvs k, .inl ⟨kvs, k, ex_rd (((e.trans e2).trans e3).trans e4) hd, rfl, rfl⟩, by rw [hr]; exact q H4 ((e2.trans e3).trans e4)⟩⟩
end
end MuK

namespace MuK
open PySem PySem.Spec PyProof.Rows L2 Evl
section
variable {X : Cx}
/-- a text, some times -/
def rMulS : R2 := fun x y H Q => ∃ (a : Str) (n : Int), x = .str a ∧ y = .int n ∧ a.length ≤ 1000 ∧ 0 ≤ n ∧ n ≤ 1000 ∧ Q (.str (Txt.mul a n)) H
theorem op_mulS : OpR X (binaryOp .Mult) rMulS := by
  intro pins s σ H x y v u Q I rx ry h
  obtain ⟨a, n, rfl, rfl, ha, h0, h1, q⟩ := h
  obtain ⟨t, rfl⟩ := rx
  obtain ⟨t', rfl⟩ := ry
  exact PySem.SB.mul (mulOk_of 1000 1000 ha (by omega) (by omega) (by omega) (by omega)) fun t'' k => ⟨.str (Txt.mul a n), H, I.tok _, ⟨_, rfl⟩, q⟩
/-- list.remove of a list of texts -/
def eqt (k : Str) (v : Value) : Bool := match v with
  | .str a _ => decide (a = k)
  | _ => false
theorem eqt_gives {k : Str} {t : Tok} : ∀ {us : List Value} {ws : List Str}, StrsAre us ws → ∀ y ∈ us, MeetsSeq.EqGives y (.str k t) (eqt k y)
  | _, _, .nil => fun _ hy => nomatch hy
  | _, _, .cons a u r => fun y hy => by
    rcases List.mem_cons.mp hy with e | e
    · rw [e]
      exact fun prog w A E s Q h => wpAny_eqBool_str h
    · exact eqt_gives r y e
def rRemS : V → List V → Hp → VK → Prop := fun x xs H Q => ∃ (l : Addr) (ws : List Str) (k : Str), x = .ref l ∧ xs = [.str k] ∧ TxL H l ws ∧ k ∈ ws ∧
  Q .non (upd H l (.lst ((ws.erase k).map V.str)))
theorem erase_at (k : Str) : ∀ (ws : List Str), k ∈ ws → ∃ j, ws[j]? = some k ∧ (∀ m, m < j → ws[m]? ≠ some k) ∧ ws.erase k = ws.eraseIdx j
  | [], h => nomatch h
  | a :: r, h => by
    by_cases e : a = k
    · subst e
      exact ⟨0, rfl, fun m hm => absurd hm (Nat.not_lt_zero m), by simp⟩
    · have hr : k ∈ r := by
        rcases List.mem_cons.mp h with z | z
        · exact absurd z.symm e
        · exact z
      obtain ⟨j, h1, h2, h3⟩ := erase_at k r hr
      refine ⟨j + 1, h1, fun m hm => ?_, ?_⟩
      · cases m with
        | zero => exact fun z => e (Option.some.inj z)
        | succ m => exact h2 m (by omega)
      · rw [List.erase_cons_tail (by simpa using e), h3]
        rfl
theorem erase_mapS : ∀ (l : List Str) (j : Nat), (l.map V.str).eraseIdx j = (l.eraseIdx j).map V.str
  | [], j => by simp
  | a :: r, 0 => by simp
  | a :: r, j + 1 => by
    have h := erase_mapS r j
    simp [h]
theorem mtS_remove : MtM X "list.remove" rRemS := by
  intro pins s σ H x xs v us Q I rx rxs h
  obtain ⟨l, ws, k, rfl, rfl, hH, hk, q⟩ := h
  obtain ⟨j, hj, hno, er⟩ := erase_at k ws hk
  cases rx
  obtain ⟨u, rfl, ru⟩ := rxs.one
  obtain ⟨t, rfl⟩ := ru
  obtain ⟨z, its, n, r, hl, e⟩ := I.lstM hH
  have hi := strs_of_vals r
  rw [List.length_map] at hl z
  have jlt : j < ws.length := (List.getElem?_eq_some_iff.mp hj).1
  have jlt2 : j < its.toArray.size := by
    rw [List.size_toArray]
    omega
  have at_ : ∀ (m : Nat) (lt : m < its.toArray.size) (a : Str), ws[m]? = some a → ∃ tm, its.toArray[m] = .str a tm := fun m lt a ea => by
    obtain ⟨tm, hm⟩ := hi.get m a ea
    have := (List.getElem?_eq_some_iff.mp hm).2
    exact ⟨tm, by simpa using this⟩
  refine call_meets PySem.F.slot_list_remove ⟨_, e, rfl⟩ PySem.F.entry_list_remove (PySem.F.args_list_remove_2 _ _)
    (MeetsSeq.list_remove l its.toArray n (.str k t) (eqt k) (fun y hy => eqt_gives hi y (by simpa using hy)) j jlt2 ?_ ?_ ?_) ⟨e, ?_⟩
  · obtain ⟨tm, hm⟩ := at_ j jlt2 k hj
    rw [hm]
    exact decide_eq_true rfl
  · intro m lt mj
    have lt2 : m < ws.length := by omega
    obtain ⟨tm, hm⟩ := at_ m lt _ (List.getElem?_eq_getElem lt2)
    rw [hm]
    exact decide_eq_false fun z => hno m mj (by rw [List.getElem?_eq_getElem lt2, z])
  · rw [List.size_toArray]
    omega
  · have rr := r.eraseIdx j
    have e2 : (ws.map V.str).eraseIdx j = (ws.erase k).map V.str := by
      rw [er]
      exact erase_mapS ws j
    rw [e2] at rr
    refine ⟨.non, _, I.lset (its' := its.eraseIdx j) (t' := s.toks) hH e ?_ rr ?_, rfl, q⟩
    · show its.toArray.eraseIdxIfInBounds j = (its.eraseIdx j).toArray
      rw [List.eraseIdxIfInBounds_toArray]
    · rw [List.length_map]
      have := List.length_erase_le (a := k) (l := ws)
      omega
end
section
variable {K : PySem.W.Frag} {σ : L2.St} {H H' : Hp} {ta tb te : TE} {t u : TT} {x y z v : V} {D : Ends} {tu tw tz : TS} {R : V → Hp → Prop}
/-- for i, x in enumerate(xs) -/
theorem s_forE {ta : TA} {a : Addr} {xs : List V} {i j : Nat} (h : EvA ta σ H [.ref a]) (hx : SqL K H a xs) (Pv : Nat → L2.St → Hp → Prop)
    (h0 : ∀ H1, Ex H H1 → Pv 0 σ H1) (hl : ∀ n σ' H', n ≤ xs.length → Pv n σ' H' → SqL K H' a xs)
    (hs : ∀ n x σ' H' H2, xs[n]? = some x → Pv n σ' H' → Ex H' H2 →
      tu { D with nx := Pv (n + 1), ct := Pv (n + 1), bk := D.nx } ((σ'.set i (some (.int (n : Int)))).set j (some x)) H2)
    (hd : ∀ σ' H', Pv xs.length σ' H' → D.nx σ' H') : tFor (iEnum K ta) (gTup K 2 (gCons (gName i) (gCons (gName j) gNil))) tu D σ H := by
  refine h H (Ex.refl H) _ fun H1 e => ⟨a, xs, rfl, ex_l e hx, ?_⟩
  refine ⟨fun n m σ' H' => m = xs.length - n ∧ n ≤ xs.length ∧ Pv n σ' H', ⟨xs.length, rfl, Nat.zero_le _, h0 H1 e⟩, ?_⟩
  rintro n m σ' H' ⟨rfl, hn, p⟩
  have q := hl n σ' H' hn p
  by_cases lt : n < xs.length
  · refine .inr ⟨⟨xs, xs[n], q, List.getElem?_eq_getElem lt⟩, Pv (n + 1), fun σ2 H2 p2 => ⟨xs.length - (n + 1), by omega, rfl, lt, p2⟩, fun x H2 y => ?_⟩
    obtain ⟨T, x, rfl, hT, rfl, hx2⟩ := y
    exact ⟨T, [.int (n : Int), x], rfl, st_of upd_same, rfl, .int (n : Int), [x], rfl, x, [], rfl, rfl, hs n x σ' H' _ (hx2 xs q) p (Ex.new hT)⟩
  · have e2 : n = xs.length := by omega
    subst e2
    exact .inl ⟨⟨xs, q, Nat.le_refl _⟩, hd σ' H' p⟩
theorem q_forE {ta : TA} {a : Addr} {xs : List V} {i j : Nat} (h : EvA ta σ H [.ref a]) (hx : SqL K H a xs) (Pv : Nat → L2.St → Hp → Prop)
    (h0 : ∀ H1, Ex H H1 → Pv 0 σ H1) (hl : ∀ n σ' H', n ≤ xs.length → Pv n σ' H' → SqL K H' a xs)
    (hs : ∀ n x σ' H' H2, xs[n]? = some x → Pv n σ' H' → Ex H' H2 →
      tu { D with nx := Pv (n + 1), ct := Pv (n + 1), bk := tz D } ((σ'.set i (some (.int (n : Int)))).set j (some x)) H2)
    (hd : ∀ σ' H', Pv xs.length σ' H' → tz D σ' H') : tSeq (tFor (iEnum K ta) (gTup K 2 (gCons (gName i) (gCons (gName j) gNil))) tu) tz D σ H :=
  s_forE (D := { D with nx := tz D }) h hx Pv h0 hl hs hd
/-- for i, x in enumerate(e), e a new list -/
theorem q_forEN {xs : List V} {i j : Nat} (h : EvL te σ H xs) (Pv : Addr → Nat → L2.St → Hp → Prop)
    (h0 : ∀ p H1, H p = none → Ex H H1 → H1 p = some (.lst xs) → Pv p 0 σ H1) (hl : ∀ p n σ' H', n ≤ xs.length → Pv p n σ' H' → SqL K H' p xs)
    (hs : ∀ p n x σ' H' H2, xs[n]? = some x → Pv p n σ' H' → Ex H' H2 →
      tu { D with nx := Pv p (n + 1), ct := Pv p (n + 1), bk := tz D } ((σ'.set i (some (.int (n : Int)))).set j (some x)) H2)
    (hd : ∀ p σ' H', Pv p xs.length σ' H' → tz D σ' H') : tSeq (tFor (iEnum K (tCons te tNil)) (gTup K 2 (gCons (gName i) (gCons (gName j) gNil))) tu) tz D σ H := by
  refine h H (Ex.refl H) _ fun p H1 hp e hx => ?_
  refine ⟨p, xs, rfl, sq_of hx, ?_⟩
  refine ⟨fun n m σ' H' => m = xs.length - n ∧ n ≤ xs.length ∧ Pv p n σ' H', ⟨xs.length, rfl, Nat.zero_le _, h0 p H1 hp e hx⟩, ?_⟩
  rintro n m σ' H' ⟨rfl, hn, pv⟩
  have q := hl p n σ' H' hn pv
  by_cases lt : n < xs.length
  · refine .inr ⟨⟨xs, xs[n], q, List.getElem?_eq_getElem lt⟩, Pv p (n + 1), fun σ2 H2 p2 => ⟨xs.length - (n + 1), by omega, rfl, lt, p2⟩, fun x H2 y => ?_⟩
    obtain ⟨T, x, rfl, hT, rfl, hx2⟩ := y
    exact ⟨T, [.int (n : Int), x], rfl, st_of upd_same, rfl, .int (n : Int), [x], rfl, x, [], rfl, rfl, hs p n x σ' H' _ (hx2 xs q) pv (Ex.new hT)⟩
  · have e2 : n = xs.length := by omega
    subst e2
    exact .inl ⟨⟨xs, q, Nat.le_refl _⟩, hd p σ' H' pv⟩
theorem Cw.later {f : Nat → Bool} {v : Nat → V} {Dl : Addr} {n : Nat} {H2 : Hp} (p : Cw H f v Dl n H') (e : Ex H' H2) : Cw H f v Dl n H2 :=
  ⟨p.1, p.2.1.trans e, e Dl _ p.2.2⟩
/-- [e for i, x in enumerate(xs) if t] -/
theorem el_lcE {ta : TA} {a : Addr} {xs : List V} {i j : Nat} {vs : List Nat} (f : Nat → Bool) (v : Nat → V) (h : EvA ta σ H [.ref a]) (hx : SqL K H a xs) (hz : xs.length ≤ 40000)
    (hw : ∀ x y, wipe (((wipe σ vs).set i (some x)).set j (some y)) vs = wipe σ vs)
    (ht : ∀ (n : Nat) (x : V) H1, Ex H H1 → xs[n]? = some x → EvT t (((wipe σ vs).set i (some (.int (n : Int)))).set j (some x)) H1 (f n))
    (he : ∀ (n : Nat) (x : V) H1, Ex H H1 → xs[n]? = some x → f n = true → Ev te (((wipe σ vs).set i (some (.int (n : Int)))).set j (some x)) H1 (v n)) :
    EvL (tLc (iEnum K ta) (gTup K 2 (gCons (gName i) (gCons (gName j) gNil))) t te vs) σ H (given xs.length f v) := fun H0 e Q q => by
  refine h H0 e _ fun H1 e1 => ⟨a, xs, rfl, ex_l (e.trans e1) hx, fun Dl hD => ?_⟩
  refine ⟨fun n m H' => m = xs.length - n ∧ n ≤ xs.length ∧ Cw H1 f v Dl n H', ⟨xs.length, rfl, Nat.zero_le _, hD, Ex.new hD, upd_same⟩, ?_⟩
  rintro n m H' ⟨rfl, hn, p⟩
  have hq := ex_l ((e.trans e1).trans p.2.1) hx
  by_cases lt : n < xs.length
  · refine .inr ⟨⟨xs, xs[n], hq, List.getElem?_eq_getElem lt⟩, fun H2 => Cw H1 f v Dl (n + 1) H2, fun H2 p2 => ⟨xs.length - (n + 1), by omega, rfl, lt, p2⟩, fun x H2 y => ?_⟩
    obtain ⟨T, x, rfl, hT, rfl, hx2⟩ := y
    have hxn := hx2 xs hq
    refine ⟨T, [.int (n : Int), x], rfl, st_of upd_same, rfl, .int (n : Int), [x], rfl, x, [], rfl, rfl, hw _ _, ?_⟩
    exact cw_turn (MuK.Cw.later p (Ex.new hT)) (by omega) (ht n x H1 (e.trans e1) hxn) fun hf => he n x H1 (e.trans e1) hxn hf
  · have e2 : n = xs.length := by omega
    subst e2
    exact .inl ⟨⟨xs, hq, Nat.le_refl _⟩, q Dl H' (fresh_back e1 p.1) (e1.trans p.2.1) p.2.2⟩
/-- the texts of the lists at ls -/
def LotAt (H : Hp) (ls : List (Addr × List Str)) : Prop := ∀ p ∈ ls, TxL H p.1 p.2
theorem LotAt.later {ls : List (Addr × List Str)} (h : LotAt H ls) (e : Ex H H') : LotAt H' ls := fun p m => e _ _ (h p m)
/-- [list(x) for x in lot] -/
theorem evx_copies {ls : List (Addr × List Str)} {a : Addr} {tl : TE} {j : Nat} {vs : List Nat} (h : Ev tl σ H (.ref a)) (hx : SqL K H a (ls.map fun p => V.ref p.1)) (hz : ls.length ≤ 40000)
    (hl : LotAt H ls) (hj : j < σ.length) (hw : ∀ x, wipe ((wipe σ vs).set j (some x)) vs = wipe σ vs) :
    EvX (tLc (iList K tl) (gName j) tYes (tCB (rListS K) (tCons (tVar j) tNil)) vs) σ H
      (fun v H' => ∃ (p : Addr) (cs : List (Addr × List Str)), v = .ref p ∧ H p = none ∧ H' p = some (.lst (cs.map fun p => V.ref p.1)) ∧ cs.map (·.2) = ls.map (·.2) ∧ LotAt H' cs ∧ ∀ c ∈ cs, H c.1 = none) := fun H0 e Q q => by
  refine h H0 e _ fun H1 e1 => ⟨a, rfl, ⟨_, ex_l (e.trans e1) hx⟩, fun Dl hD => ?_⟩
  have e01 := e.trans e1
  refine lc_list (xs := ls.map fun p => V.ref p.1)
    (fun n H' => Ex H1 H' ∧ ∃ cs : List (Addr × List Str), H' Dl = some (.lst (cs.map fun p => V.ref p.1)) ∧ cs.map (·.2) = (ls.take n).map (·.2) ∧ LotAt H' cs ∧ ∀ c ∈ cs, H1 c.1 = none ∧ c.1 ≠ Dl)
    ⟨Ex.new hD, [], upd_same, rfl, fun _ m => (nomatch m), fun _ m => nomatch m⟩ (fun n H' _ p => ex_l (e01.trans p.1) hx) (fun n x H' hn p => ?_) (fun H' p => ?_)
  · obtain ⟨e2, cs, hDl, hcs, hat, hnew⟩ := p
    obtain ⟨pr, hpr, rfl⟩ : ∃ pr, ls[n]? = some pr ∧ x = .ref pr.1 := by
      rw [List.getElem?_map] at hn
      cases y : ls[n]? with
      | none =>
        rw [y] at hn
        exact nomatch hn
      | some pr =>
        rw [y] at hn
        exact ⟨pr, rfl, (Option.some.inj hn).symm⟩
    have hm := List.mem_of_getElem? hpr
    have lt := (List.getElem?_eq_some_iff.mp hpr).1
    refine ⟨hw _, ?_⟩
    show tCB (rListS K) (tCons (tVar j) tNil) _ H' _
    refine ⟨.ref pr.1, ?_, pr.1, pr.2.map V.str, rfl, .inl (sq_of ((e01.trans e2) _ _ (hl pr hm))), fun c hc => ?_⟩
    · exact List.getElem?_set_self (by rw [wipe_length]; exact hj)
    · have hcD : c ≠ Dl := fun z => by
        rw [z, hDl] at hc
        exact nomatch hc
      have e3 : Ex H' (upd H' c (.lst (pr.2.map V.str))) := Ex.new hc
      have len : cs.length ≤ ls.length := by
        have := congrArg List.length hcs
        simp at this
        omega
      refine ⟨cs.map fun p => V.ref p.1, e3 _ _ hDl, by rw [List.length_map]; exact sz_lt (by omega), Ex.mut (e2.trans e3) hD, cs ++ [(c, pr.2)], ?_, ?_, fun p m => ?_, fun p m => ?_⟩
      · rw [upd_same, List.map_append]
        rfl
      · rw [List.map_append, hcs, List.take_succ_eq_append_getElem lt, List.map_append, (List.getElem?_eq_some_iff.mp hpr).2]
        rfl
      · rcases List.mem_append.mp m with m | m
        · exact (upd_ne (hnew p m).2).trans (e3 _ _ (hat p m))
        · obtain rfl := List.mem_singleton.mp m
          exact (upd_ne hcD).trans upd_same
      · rcases List.mem_append.mp m with m | m
        · exact hnew p m
        · obtain rfl := List.mem_singleton.mp m
          exact ⟨fresh_back e2 hc, hcD⟩
  · obtain ⟨e2, cs, hDl, hcs, hat, hnew⟩ := p
    rw [List.length_map, List.take_length] at hcs
    exact q _ _ (e1.trans e2) ⟨Dl, cs, rfl, fresh_back e01 hD, hDl, hcs, hat, fun c m => fresh_back e01 (hnew c m).1⟩
/-- a list and a new one, joined -/
theorem el_catS {xs ys : List V} {a : Addr} (ha : Ev ta σ H (.ref a)) (h0 : SqL K H a xs) (hb : EvL tb σ H ys) (hz : xs.length + ys.length ≤ 100000)
    (hK : ∀ H1, Ex H H1 → H1 a = some (.lst xs)) : EvL (tOp rCat ta tb) σ H (xs ++ ys) := el_catV ha (hK H (Ex.refl H)) hb hz
/-- the item by a number's rest -/
theorem atI_emod {xs : List V} {n : Int} (h : xs ≠ []) : ∃ x, atI xs (n % (xs.length : Int)) = some x ∧ x ∈ xs := by
  have h0 : 0 < xs.length := List.length_pos_iff.mpr h
  have h1 : 0 ≤ n % (xs.length : Int) := Int.emod_nonneg _ (by omega)
  have h2 : n % (xs.length : Int) < xs.length := Int.emod_lt_of_pos _ (by omega)
  have h3 : (((n % (xs.length : Int)).toNat : Nat) : Int) = n % (xs.length : Int) := Int.toNat_of_nonneg h1
  have h4 : (n % (xs.length : Int)).toNat < xs.length := by omega
  have h6 := atI_nat (List.getElem?_eq_getElem h4)
  rw [h3] at h6
  exact ⟨_, h6, List.getElem_mem h4⟩
theorem s_dputK {td ty tv : TE} {d : Addr} {kvs : List (Key × V)} {k : Key} (hd : H d = some (.dK kvs)) (hz : kvs.length < 100000) (hv : Ev tv σ H v) (ho : Ev td σ H (.ref d)) (hk : Ev ty σ H (kV k))
    (q : ∀ H1, Ex H H1 → D.nx σ (upd H1 d (.dK (putK kvs k v)))) : sDPut td ty tv D σ H := by
  refine hv H (Ex.refl H) _ fun H1 e1 => ho H1 e1 _ fun H2 e2 => hk H2 (e1.trans e2) _ fun H3 e3 => ?_
  have e := (e1.trans e2).trans e3
  exact ⟨d, _, rfl, DPut.k (e d _ hd) (sz_lt hz), q H3 e⟩
theorem inV_str {xs : List Str} {a : Str} : inV (.str a) (xs.map V.str) = decide (a ∈ xs) := by
  unfold inV
  rw [List.any_map, Bool.eq_iff_iff, List.any_eq_true, decide_eq_true_eq]
  constructor
  · rintro ⟨y, hy, e⟩
    have : y = a := by simpa [eqV] using e
    exact this ▸ hy
  · intro h
    exact ⟨a, h, by simp [eqV]⟩
end
end MuK

namespace MuK
open PySem PySem.Spec PyProof.Rows L2 Evl
section
variable {X : Cx}
/-- a list, and a list without items, compared -/
def rNil (K : PySem.W.Frag) (k : Bool) : R2 := fun x y H Q => ∃ (a b : Addr) (xs : List V), x = .ref a ∧ y = .ref b ∧ SqL K H a xs ∧ SqL K H b [] ∧ Q (.bl (k == xs.isEmpty)) H
theorem op_neNil (hu : X.A.units + 64 < cLine) : OpR X (compareOp .NotEq) (rNil X.K false) := by
  intro pins s σ H x y v u Q I rx ry h
  obtain ⟨a, b, xs, rfl, rfl, ha, hb, q⟩ := h
  obtain rfl : v = Value.ref a := rx
  obtain rfl : u = Value.ref b := ry
  obtain ⟨us, r1, p1, _⟩ := I.list ha
  obtain ⟨ws, r2, p2, _⟩ := I.list hb
  cases r2
  have hu2 : X.A.units < cLine := by omega
  cases r1 with
  | nil => exact SeqAt.RcNeAt.lists (e := fun _ => true) p1.isList p2.isList rfl hu2 (fun j h1 _ => absurd h1 (Nat.not_lt_zero j)) _ _ _ _ ⟨.bl false, H, I, rfl, q⟩
  | cons r rr => exact SeqAt.RcNeAt.lists_lengths p1.isList p2.isList (by simp) hu2 _ _ _ _ ⟨.bl true, H, I, rfl, q⟩
end
section
variable {K : PySem.W.Frag} {σ : L2.St} {H H' : Hp} {ta tb te : TE} {t u : TT} {x y z v : V} {D : Ends} {tu tw tz : TS} {R : V → Hp → Prop}
theorem ev_neNil {a : Addr} {xs : List V} (ha : Ev ta σ H (.ref a)) (hx : SqL K H a xs) (hb : EvL tb σ H []) : Ev (tOp (rNil K false) ta tb) σ H (.bl (!xs.isEmpty)) := fun H1 e Q q =>
  ha H1 e _ fun H2 e2 => hb H2 (e.trans e2) _ fun p H3 hp e3 h3 => ⟨a, p, xs, rfl, rfl, ex_l ((e.trans e2).trans e3) hx, sq_of h3, by
    have z : (false == xs.isEmpty) = !xs.isEmpty := by cases xs.isEmpty <;> rfl
    rw [z]
    exact q H3 (e2.trans e3)⟩
theorem el_listN {xs : List V} (ha : EvL ta σ H xs) : EvL (tCB (rListS K) (tCons ta tNil)) σ H xs := fun H1 e Q q =>
  ha H1 e _ fun p H2 hp e2 h2 => ⟨p, xs, rfl, .inl (sq_of h2), fun l hl => q l _ (fresh_back e2 hl) (e2.trans (Ex.new hl)) upd_same⟩
theorem sub_nodup {α : Type} {l m : List α} (h : l.Sublist m) (n : m.Nodup) : l.Nodup := n.sublist h
/-- words[at:] + words[:at] -/
theorem rot_str {us : List Str} {k : Nat} (hk : k ≤ us.length) : ∃ vs : List Str, cutV (us.map V.str) (some (k : Int)) none ++ cutV (us.map V.str) none (some (k : Int)) = vs.map V.str ∧ vs.Perm us := by
  refine ⟨us.drop k ++ us.take k, ?_, ?_⟩
  · unfold cutV
    rw [HT.sIx_nat, HT.sIx_nat, HT.sIx_none, HT.sIx_none, List.length_map, Nat.min_eq_left hk, List.map_append, List.map_drop, List.map_take, Nat.sub_zero, List.drop_zero]
    congr 1
    exact List.take_of_length_le (by simp)
  · exact List.perm_append_comm.trans (by rw [List.take_append_drop])
theorem nodup_bound {us ws : List Str} (nd : us.Nodup) (h : ∀ u ∈ us, u ∈ ws) : us.length ≤ ws.length := nodup_len nd h
theorem s_remS {l : Addr} {ws : List Str} {k : Str} (hl : TxL H l ws) (hk : k ∈ ws) (ha : Ev ta σ H (.ref l)) (h : Ev te σ H (.str k))
    (q : ∀ H1, Ex H H1 → D.nx σ (upd H1 l (.lst ((ws.erase k).map V.str)))) : tDrop (tBM K "list" rRemS ta (tCons te tNil)) D σ H := by
  refine ha H (Ex.refl H) _ fun H1 e1 => ⟨.inl ⟨rfl, _, sq_of (e1 l _ hl)⟩, ?_⟩
  refine h H1 e1 _ fun H2 e2 => ?_
  exact ⟨l, ws, k, rfl, rfl, (e1.trans e2) l _ hl, hk, q H2 (e1.trans e2)⟩
theorem s_appX {l : Addr} {xs : List V} (hl : H l = some (.lst xs)) (ha : Ev ta σ H (.ref l)) (h : EvX te σ H R) (hz : xs.length < 100000)
    (k : ∀ v H1, Ex H H1 → R v H1 → D.nx σ (upd H1 l (.lst (xs ++ [v])))) : tDrop (tBM K "list" rAppend ta (tCons te tNil)) D σ H := by
  refine ha H (Ex.refl H) _ fun H1 e1 => ⟨.inl ⟨rfl, xs, sq_of (e1 l _ hl)⟩, ?_⟩
  refine h H1 e1 _ fun v H2 e2 r => ?_
  exact ⟨l, xs, v, rfl, rfl, (e1.trans e2) l _ hl, sz_lt hz, k v H2 (e1.trans e2) r⟩
end
end MuK

namespace MuEq
open PySem PySem.Spec PyProof.Rows L2 PySem.SeqAt MeetsSeq
section
variable {P : Program} {w : World}
/-- what both tuples are, at the heap -/
def Two (s : Shared) (l b : Addr) (xs ys : Array Value) (n m : Nat) (d e : Option Addr) (sx sy : Array (Option Value)) : Prop :=
  s.heap.get? l = some { cls := .type "tuple", dict := d, data := .seq xs n, slots := sx } ∧
  s.heap.get? b = some { cls := .type "tuple", dict := e, data := .seq ys m, slots := sy }
theorem eq_all (l b : Addr) (xs ys : Array Value) (n m : Nat) (d e : Option Addr) (sx sy : Array (Option Value)) (hz : xs.size = ys.size) :
    MeetsIn P w (Builtin.«tuple.__eq__» ⟨[.ref l, .ref b], []⟩) (fun A R s => Two s l b xs ys n m d e sx sy ∧
      (∀ j (h1 : j < xs.size) (h2 : j < ys.size), EqP P w A.in1 s xs[j] ys[j] true) ∧ R (.ok (.ret (.bool true))) s) := by
  intro A R s h
  obtain ⟨hp, g, dr, tk, os⟩ := s
  obtain ⟨⟨hl, hb⟩, he, h⟩ := h
  have f2 := AutoSeq1.sub_tuple_tuple
  wp_walk using wpAny_loadPart' hl, wpAny_loadPart' hb, wpAny_forIn_list _ (fun rest b s' => b.1 = none ∧ s' = ⟨hp, g, dr, tk, os⟩ ∧ ∃ i, rest = (xs.toList.zip ys.toList).drop i) _
  case turn =>
    rintro ⟨y, x⟩ rest b s' ⟨hb', rfl, i, hr⟩
    have lt : i < (xs.toList.zip ys.toList).length := Nat.lt_of_not_le fun z => by
      rw [List.drop_of_length_le z] at hr
      exact nomatch hr
    have lt1 : i < xs.size := by
      simp at lt
      omega
    have lt2 : i < ys.size := by omega
    rw [List.drop_eq_getElem_cons lt] at hr
    obtain ⟨e1, e2⟩ := List.cons.inj hr
    have ey : y = xs[i] := by simpa using congrArg Prod.fst e1
    have ex : x = ys[i] := by simpa using congrArg Prod.snd e1
    subst ey ex
    refine wpAny_bind (he i lt1 lt2 _ _ ?_)
    wp_walk
    exact ⟨rfl, rfl, i + 1, e2⟩
  case fin =>
    rintro ⟨b1, b2⟩ s' ⟨hb', rfl, i, hr⟩
    obtain rfl : b1 = none := hb'
    wp_walk
    simpa [Builtin.Tuple.tupleCompareSizes, hz, bne] using h
  case h => exact ⟨rfl, rfl, 0, rfl⟩
theorem ne_all (l b : Addr) (xs ys : Array Value) (n m : Nat) (d e : Option Addr) (sx sy : Array (Option Value)) (hz : xs.size = ys.size) :
    MeetsIn P w (Builtin.«tuple.__ne__» ⟨[.ref l, .ref b], []⟩) (fun A R s => Two s l b xs ys n m d e sx sy ∧
      (∀ j (h1 : j < xs.size) (h2 : j < ys.size), EqP P w A.in1 s xs[j] ys[j] true) ∧ R (.ok (.ret (.bool false))) s) := by
  intro A R s h
  obtain ⟨hp, g, dr, tk, os⟩ := s
  obtain ⟨⟨hl, hb⟩, he, h⟩ := h
  have f2 := AutoSeq1.sub_tuple_tuple
  wp_walk using wpAny_loadPart' hl, wpAny_loadPart' hb, wpAny_forIn_list _ (fun rest b s' => b.1 = none ∧ s' = ⟨hp, g, dr, tk, os⟩ ∧ ∃ i, rest = (xs.toList.zip ys.toList).drop i) _
  case turn =>
    rintro ⟨y, x⟩ rest b s' ⟨hb', rfl, i, hr⟩
    have lt : i < (xs.toList.zip ys.toList).length := Nat.lt_of_not_le fun z => by
      rw [List.drop_of_length_le z] at hr
      exact nomatch hr
    have lt1 : i < xs.size := by
      simp at lt
      omega
    have lt2 : i < ys.size := by omega
    rw [List.drop_eq_getElem_cons lt] at hr
    obtain ⟨e1, e2⟩ := List.cons.inj hr
    have ey : y = xs[i] := by simpa using congrArg Prod.fst e1
    have ex : x = ys[i] := by simpa using congrArg Prod.snd e1
    subst ey ex
    refine wpAny_bind (he i lt1 lt2 _ _ ?_)
    wp_walk
    exact ⟨rfl, rfl, i + 1, e2⟩
  case fin =>
    rintro ⟨b1, b2⟩ s' ⟨hb', rfl, i, hr⟩
    obtain rfl : b1 = none := hb'
    wp_walk
    simpa [Builtin.Tuple.tupleCompareSizes, hz, bne] using h
  case h => exact ⟨rfl, rfl, 0, rfl⟩
end
section
variable {X : Cx}
/-- two pairs, their items equal by EqV -/
def rPair (K : PySem.W.Frag) (k : Bool) : R2 := fun x y H Q => ∃ (a b : Addr) (x1 x2 y1 y2 : V) (n : Nat), x = .ref a ∧ y = .ref b ∧ SqT K H a [x1, x2] ∧ SqT K H b [y1, y2] ∧ n ≤ 50 ∧ EqV K H n x1 y1 ∧ EqV K H n x2 y2 ∧ Q (.bl k) H
theorem pair_items {pins : List (Addr × Obj)} {σ : L2.St} {H : Hp} {s : Shared} {x1 x2 y1 y2 : V} {n : Nat} {us ws : List Value} (I : Inv X pins σ H s) {A : Around} (hu : A.units + n < cLine)
    (r1 : Vals [x1, x2] us) (r2 : Vals [y1, y2] ws) (h1 : EqV X.K H n x1 y1) (h2 : EqV X.K H n x2 y2) :
    us.length = ws.length ∧ ∀ j (l1 : j < us.toArray.size) (l2 : j < ws.toArray.size), EqP X.prog X.w A s us.toArray[j] ws.toArray[j] true := by
  cases r1 with
  | cons a1 r1 =>
    cases r1 with
    | cons a2 r1 =>
      cases r1
      cases r2 with
      | cons b1 r2 =>
        cases r2 with
        | cons b2 r2 =>
          cases r2
          refine ⟨rfl, fun j l1 l2 => ?_⟩
          match j, l1, l2 with
          | 0, _, _ => exact eqV_run I n A hu _ _ _ _ h1 a1 b1
          | 1, _, _ => exact eqV_run I n A hu _ _ _ _ h2 a2 b2
          | j + 2, l1, _ => exact absurd l1 (by simp)
theorem op_eqPair (hu : X.A.units + 64 < cLine) : OpR X (compareOp .Eq) (rPair X.K true) := by
  intro pins s σ H x y v u Q I rx ry h
  obtain ⟨a, b, x1, x2, y1, y2, n, rfl, rfl, ha, hb, hn, h1, h2, q⟩ := h
  obtain rfl : v = Value.ref a := rx
  obtain rfl : u = Value.ref b := ry
  obtain ⟨us, r1, ⟨o1, g1, c1, m1, d1⟩, _⟩ := I.tuple ha
  obtain ⟨ws, r2, ⟨o2, g2, c2, m2, d2⟩, _⟩ := I.tuple hb
  obtain ⟨len, items⟩ := pair_items I (A := X.A.in1) (show X.A.units + 1 + n < cLine by omega) r1 r2 h1 h2
  obtain ⟨cls1, dd1, data1, sl1⟩ := o1
  obtain ⟨cls2, dd2, data2, sl2⟩ := o2
  obtain rfl : cls1 = _ := c1
  obtain rfl : cls2 = _ := c2
  obtain rfl : data1 = _ := d1
  obtain rfl : data2 = _ := d2
  have ta : s.TypeIs (.ref a) "tuple" := ⟨_, g1, rfl⟩
  have tb : s.TypeIs (.ref b) "tuple" := ⟨_, g2, rfl⟩
  refine wpAny_richCompare_same_room (op := .Eq) ta tb F.slot_tuple_eq (call_meetsIn F.slot_tuple_eq ta F.entry_tuple_eq (F.args_tuple_eq_2 _ _) (eq_all a b us.toArray ws.toArray _ _ _ _ _ _ (by simpa using len)) ⟨⟨g1, g2⟩, items, ?_⟩) (by omega)
  exact ⟨fun z => (nomatch z), .bl true, H, I, rfl, q⟩
theorem op_nePair (hu : X.A.units + 64 < cLine) : OpR X (compareOp .NotEq) (rPair X.K false) := by
  intro pins s σ H x y v u Q I rx ry h
  obtain ⟨a, b, x1, x2, y1, y2, n, rfl, rfl, ha, hb, hn, h1, h2, q⟩ := h
  obtain rfl : v = Value.ref a := rx
  obtain rfl : u = Value.ref b := ry
  obtain ⟨us, r1, ⟨o1, g1, c1, m1, d1⟩, _⟩ := I.tuple ha
  obtain ⟨ws, r2, ⟨o2, g2, c2, m2, d2⟩, _⟩ := I.tuple hb
  obtain ⟨len, items⟩ := pair_items I (A := X.A.in1) (show X.A.units + 1 + n < cLine by omega) r1 r2 h1 h2
  obtain ⟨cls1, dd1, data1, sl1⟩ := o1
  obtain ⟨cls2, dd2, data2, sl2⟩ := o2
  obtain rfl : cls1 = _ := c1
  obtain rfl : cls2 = _ := c2
  obtain rfl : data1 = _ := d1
  obtain rfl : data2 = _ := d2
  have ta : s.TypeIs (.ref a) "tuple" := ⟨_, g1, rfl⟩
  have tb : s.TypeIs (.ref b) "tuple" := ⟨_, g2, rfl⟩
  refine wpAny_richCompare_same_room (op := .NotEq) ta tb F.slot_tuple_ne (call_meetsIn F.slot_tuple_ne ta F.entry_tuple_ne (F.args_tuple_ne_2 _ _) (ne_all a b us.toArray ws.toArray _ _ _ _ _ _ (by simpa using len)) ⟨⟨g1, g2⟩, items, ?_⟩) (by omega)
  exact ⟨fun z => (nomatch z), .bl false, H, I, rfl, q⟩
end
end MuEq

namespace MuK
open PySem PySem.Spec PyProof.Rows L2 Evl
/-! ### texts in order -/
abbrev leT (a b : Str) : Prop := ltCps b.cps.toList a.cps.toList = false
theorem lt_tri : ∀ a b : List Nat, ltCps a b = false → ltCps b a = false → a = b
  | [], [], _, _ => rfl
  | [], _ :: _, h, _ => by simp [ltCps] at h
  | _ :: _, [], _, h => by simp [ltCps] at h
  | a :: r, b :: t, h, k => by
    simp only [ltCps, Bool.or_eq_false_iff, decide_eq_false_iff_not, Bool.and_eq_false_iff, beq_eq_false_iff_ne] at h k
    have e : a = b := by omega
    subst e
    rw [lt_tri r t (h.2.resolve_left fun z => z rfl) (k.2.resolve_left fun z => z rfl)]
theorem le_tr : ∀ a b c : List Nat, ltCps b a = false → ltCps c b = false → ltCps c a = false
  | [], _, [], _, _ => rfl
  | [], _, _ :: _, _, _ => rfl
  | _ :: _, [], _, h, _ => by simp [ltCps] at h
  | _ :: _, _ :: _, [], _, h => by simp [ltCps] at h
  | a :: r, b :: t, c :: u, h, k => by
    simp only [ltCps, Bool.or_eq_false_iff, decide_eq_false_iff_not, Bool.and_eq_false_iff, beq_eq_false_iff_ne] at h k ⊢
    refine ⟨by omega, ?_⟩
    by_cases e : c = a
    · subst e
      have e2 : b = c := by omega
      subst e2
      exact .inr (le_tr r t u (h.2.resolve_left fun z => z rfl) (k.2.resolve_left fun z => z rfl))
    · exact .inl e
theorem rising_pair : ∀ (l : List Str) (p : Str), risingS p l = true → (p :: l).Pairwise leT
  | [], p, _ => List.pairwise_singleton _ _
  | x :: r, p, h => by
    have h' : (!ltCps x.cps.toList p.cps.toList && risingS x r) = true := h
    rw [Bool.and_eq_true, Bool.not_eq_true'] at h'
    have ih := rising_pair r x h'.2
    refine List.pairwise_cons.mpr ⟨fun y hy => ?_, ih⟩
    rcases List.mem_cons.mp hy with e | e
    · rw [e]
      exact h'.1
    · exact le_tr _ _ _ h'.1 ((List.pairwise_cons.mp ih).1 y e)
theorem sorted_pair {l : List Str} (h : sortedS l = true) : l.Pairwise leT := by
  cases l with
  | nil => exact List.Pairwise.nil
  | cons x r => exact rising_pair r x h
theorem sorted_one : ∀ {l m : List Str}, l.Pairwise leT → m.Pairwise leT → l.Perm m → l = m
  | [], m, _, _, h => h.nil_eq
  | a :: l, [], _, _, h => absurd h.length_eq (by simp)
  | a :: l, b :: m, hl, hm, h => by
    have e : a = b := by
      have ha : a ∈ b :: m := h.mem_iff.mp List.mem_cons_self
      have hb : b ∈ a :: l := h.mem_iff.mpr List.mem_cons_self
      rcases List.mem_cons.mp ha with z | z
      · exact z
      · rcases List.mem_cons.mp hb with y | y
        · exact y.symm
        · have q := lt_tri _ _ ((List.pairwise_cons.mp hm).1 a z) ((List.pairwise_cons.mp hl).1 b y)
          obtain ⟨a⟩ := a
          obtain ⟨b⟩ := b
          exact congrArg Str.mk (Array.ext' q)
    subst e
    rw [sorted_one (List.pairwise_cons.mp hl).2 (List.pairwise_cons.mp hm).2 h.cons_inv]
/-- what is sorted, of the same texts each once, is the same -/
theorem sorted_same {l m : List Str} (hl : sortedS l = true) (hm : sortedS m = true) (n1 : l.Nodup) (n2 : m.Nodup) (h : ∀ j, j ∈ l ↔ j ∈ m) : l = m :=
  sorted_one (sorted_pair hl) (sorted_pair hm) ((List.perm_ext_iff_of_nodup n1 n2).mpr h)
end MuK

namespace MuK
open PySem PySem.Spec PyProof.Rows L2 Evl MuEq
section
variable {X : Cx}
/-- two lists of the same texts -/
def rSame (K : PySem.W.Frag) (k : Bool) : R2 := fun x y H Q => ∃ (a b : Addr) (ws : List Str), x = .ref a ∧ y = .ref b ∧ SqL K H a (ws.map V.str) ∧ SqL K H b (ws.map V.str) ∧ Q (.bl k) H
theorem op_neSame (hu : X.A.units + 64 < cLine) : OpR X (compareOp .NotEq) (rSame X.K false) := by
  intro pins s σ H x y v u Q I rx ry h
  obtain ⟨a, b, ws, rfl, rfl, ha, hb, q⟩ := h
  obtain rfl : v = Value.ref a := rx
  obtain rfl : u = Value.ref b := ry
  obtain ⟨us, r1, p1, _⟩ := I.list ha
  obtain ⟨vs, r2, p2, _⟩ := I.list hb
  have hu2 : X.A.units < cLine := by omega
  have l1 := r1.length
  have l2 := r2.length
  rw [List.length_map] at l1 l2
  refine SeqAt.RcNeAt.lists (e := fun _ => true) p1.isList p2.isList (by simp; omega) hu2 (fun j h1 h2 => ?_) _ _ _ _ ?_
  · have lt : j < ws.length := by
      simp at h1
      omega
    have ej : (ws.map V.str)[j]? = some (V.str ws[j]) := by
      rw [List.getElem?_map, List.getElem?_eq_getElem lt]
      rfl
    obtain ⟨w1, e1, q1⟩ := r1.get ej
    obtain ⟨w2, e2, q2⟩ := r2.get ej
    have g1 : us.toArray[j] = w1 := by simpa using (List.getElem?_eq_some_iff.mp e1).2
    have g2 : vs.toArray[j] = w2 := by simpa using (List.getElem?_eq_some_iff.mp e2).2
    rw [g1, g2]
    exact eqAt_same q1 q2 rfl
  · rw [show ((List.range us.toArray.size).all fun _ => true) = true from List.all_eq_true.mpr fun _ _ => rfl]
    exact ⟨.bl false, H, I, rfl, q⟩
end
section
variable {K : PySem.W.Frag} {σ : L2.St} {H H' : Hp} {ta tb te : TE} {t u : TT} {x y z v : V} {D : Ends} {tu tw tz : TS} {R : V → Hp → Prop}
theorem ev_neSame {a b : Addr} {ws : List Str} (ha : Ev ta σ H (.ref a)) (hb : Ev tb σ H (.ref b)) (h1 : SqL K H a (ws.map V.str)) (h2 : SqL K H b (ws.map V.str)) :
    Ev (tOp (rSame K false) ta tb) σ H (.bl false) := ev_op ha hb fun H1 e Q q => ⟨a, b, ws, rfl, rfl, ex_l e h1, ex_l e h2, q H1 (Ex.refl H1)⟩
theorem ev_pair {k : Bool} {a : Addr} {x1 x2 y1 y2 : V} {n : Nat} (ha : Ev ta σ H (.ref a)) (h1 : SqT K H a [x1, x2]) (hb : EvU tb σ H [y1, y2]) (hn : n ≤ 50)
    (e1 : ∀ H1, Ex H H1 → EqV K H1 n x1 y1) (e2 : ∀ H1, Ex H H1 → EqV K H1 n x2 y2) : Ev (tOp (rPair K k) ta tb) σ H (.bl k) :=
  ev_opU ha hb fun p H1 hp e H2 e3 Q q => ⟨a, p, x1, x2, y1, y2, n, rfl, rfl, ex_t (e.trans e3) h1, st_of (e3 p _ hp), hn, e1 H2 (e.trans e3), e2 H2 (e.trans e3), q H2 (Ex.refl H2)⟩
theorem texts_eq {n : Nat} : ∀ ws : List Str, Paired (EqV K H (n + 1)) (ws.map V.str) (ws.map V.str)
  | [] => .nil
  | a :: r => .cons (.inl ⟨rfl, rfl⟩) (texts_eq r)
theorem refs_eq : ∀ {cs ls : List (Addr × List Str)}, cs.map (·.2) = ls.map (·.2) → LotAt H cs → LotAt H ls →
    Paired (EqV K H 2) (cs.map fun p => V.ref p.1) (ls.map fun p => V.ref p.1)
  | [], [], _, _, _ => .nil
  | [], _ :: _, h, _, _ => nomatch h
  | _ :: _, [], h, _, _ => nomatch h
  | c :: cs, l :: ls, h, hc, hl => by
    obtain ⟨h1, h2⟩ := List.cons.inj h
    refine .cons (.inr (.inr (.inl ⟨c.1, l.1, c.2.map V.str, l.2.map V.str, rfl, rfl, sq_of (hc c List.mem_cons_self), sq_of (hl l List.mem_cons_self), ?_⟩))) (refs_eq h2 (fun p m => hc p (List.mem_cons_of_mem _ m)) fun p m => hl p (List.mem_cons_of_mem _ m))
    rw [show c.2 = l.2 from h1]
    exact texts_eq _
theorem lot_eq {p q : Addr} {cs ls : List (Addr × List Str)} (hp : H p = some (.lst (cs.map fun p => V.ref p.1))) (hq : H q = some (.lst (ls.map fun p => V.ref p.1)))
    (he : cs.map (·.2) = ls.map (·.2)) (hc : LotAt H cs) (hl : LotAt H ls) : EqV K H 3 (.ref p) (.ref q) :=
  .inr (.inr (.inl ⟨p, q, _, _, rfl, rfl, sq_of hp, sq_of hq, refs_eq he hc hl⟩))
theorem dict_eq {p q : Addr} {kvs : List (Key × V)} (hp : H p = some (.dK kvs)) (hq : H q = some (.dK kvs)) (nd : (kvs.map (·.1)).Nodup) (hi : IntD kvs) : EqV K H 3 (.ref p) (.ref q) :=
  .inr (.inr (.inr ⟨p, q, kvs, kvs, rfl, rfl, hp, hq, rfl, fun kv m => ⟨kv.2, val_nodup nd kv m, .inl ⟨rfl, by
    obtain ⟨z, e⟩ := hi kv m
    rw [e]
    rfl⟩⟩⟩))
theorem putK_nd {kvs : List (Key × V)} (h : (kvs.map (·.1)).Nodup) (k : Key) (v : V) : ((putK kvs k v).map (·.1)).Nodup := by
  unfold putK
  split
  · rw [List.map_map]
    have e : kvs.map ((fun x : Key × V => x.1) ∘ fun kv => if kv.1 = k then (kv.1, v) else kv) = kvs.map (·.1) := by
      apply List.map_congr_left
      intro kv _
      show (if kv.1 = k then (kv.1, v) else kv).1 = kv.1
      split <;> rfl
    rw [e]
    exact h
  · rename_i hn
    rw [List.map_append]
    refine List.nodup_append.mpr ⟨h, by simp, fun a ha b hb z => hn ?_⟩
    obtain ⟨kv, m, rfl⟩ := List.mem_map.mp ha
    have hb' : b = k := by simpa using hb
    exact List.any_eq_true.mpr ⟨kv, m, decide_eq_true (z.trans hb')⟩
/-- a pair of two new things -/
theorem evx_tup2 {R1 : V → Hp → Prop} {R2' : V → V → Hp → Prop} (h1 : EvX ta σ H R1) (h2 : ∀ v1 H1, Ex H H1 → R1 v1 H1 → EvX tb σ H1 (R2' v1)) :
    EvX (tTup (tCons ta (tCons tb tNil))) σ H (fun v H' => ∃ (p : Addr) (v1 v2 : V), v = .ref p ∧ H p = none ∧ H' p = some (.tup [v1, v2]) ∧ ∃ H1 H2, Ex H H1 ∧ R1 v1 H1 ∧ Ex H1 H2 ∧ R2' v1 v2 H2 ∧ Ex H2 H') := fun H0 e Q q =>
  h1 H0 e _ fun v1 H1 e1 r1 => h2 v1 H1 (e.trans e1) r1 H1 (Ex.refl H1) _ fun v2 H2 e2 r2 => ⟨sz_of (by simp), fun p hp =>
    q (.ref p) _ ((e1.trans e2).trans (Ex.new hp)) ⟨p, v1, v2, rfl, fresh_back ((e.trans e1).trans e2) hp, upd_same, H1, H2, e.trans e1, r1, e2, r2, Ex.new hp⟩⟩
/-- .. [0].append(None), of something new -/
theorem q_appNew {l : Addr → List V → Prop} (h : EvX ta σ H (fun v H' => ∃ (p : Addr) (xs : List V), v = .ref p ∧ H p = none ∧ H' p = some (.lst xs) ∧ xs.length ≤ 90000)) (hv : ∀ H1, Ex H H1 → Ev te σ H1 v)
    (k : ∀ H1, Ex H H1 → tz D σ H1) : tSeq (tDrop (tBM K "list" rAppend ta (tCons te tNil))) tz D σ H := by
  refine h H (Ex.refl H) _ fun w H1 e1 r => ?_
  obtain ⟨p, xs, rfl, hp, h1, hz⟩ := r
  refine ⟨.inl ⟨rfl, xs, sq_of h1⟩, ?_⟩
  refine hv H1 e1 H1 (Ex.refl H1) _ fun H2 e2 => ?_
  exact ⟨p, xs, _, rfl, rfl, e2 p _ h1, sz_lt (by omega), k _ (Ex.mut (e1.trans e2) hp)⟩
theorem evx_sorted {xs : List Str} (h : EvL te σ H (xs.map V.str)) (hz : xs.length < 64) : EvX (tCB (rSortedS K) (tCons te tNil)) σ H
    (fun v H' => ∃ (p : Addr) (ys : List Str), v = .ref p ∧ H p = none ∧ TxL H' p ys ∧ ys.Perm xs ∧ sortedS ys = true) := fun H0 e Q q =>
  h H0 e _ fun a H1 ha e1 h1 => ⟨a, xs, rfl, sq_of h1, hz, fun ys p pe so hp => q _ _ (e1.trans (Ex.new hp)) ⟨p, ys, rfl, fresh_back (e.trans e1) hp, upd_same, pe, so⟩⟩
theorem ev_callN {Dd : Hp → List V → V → Prop} {E : XK} {tr : TA} {vs xs : List V} (h : EvL te σ H xs) (hr : EvA tr σ H vs) (hs : ∀ p H1, Ex H H1 → H1 p = some (.lst xs) → Dd H1 (.ref p :: vs) v) : Ev (tCall (SpVal Dd) [] E (tCons te tr)) σ H v := fun H1 e Q q =>
  h H1 e _ fun p H2 _ e2 hp => hr H2 (e.trans e2) _ fun H3 e3 => ⟨v, by rw [List.append_nil]; exact hs p H3 ((e.trans e2).trans e3) (e3 p _ hp), fun H4 e4 => q H4 ((e2.trans e3).trans e4)⟩
theorem ev_lenS {a : Str} {r : List V → Hp → VK → Prop} (ha : Ev ta σ H (.str a)) (hz : a.length ≤ 100000) (hr : r = (fun xs H Q => ∃ x, xs = [V.str x] ∧ x.length ≤ sizeLine ∧ Q (.int x.length) H) := by rfl) : Ev (tCB r (tCons ta tNil)) σ H (.int (a.length : Int)) := by
  subst hr
  exact fun H1 e Q q => ha H1 e _ fun H2 e2 => ⟨a, rfl, sz_of hz, q H2 e2⟩
/-- words and their weights -/
def WD (Pw : Str → Prop) (kvs : List (Key × V)) : Prop := ∀ kv ∈ kvs, ∃ u z, kv = (.inr u, .int z) ∧ Pw u ∧ 1 ≤ z ∧ z ≤ 1000000
theorem WD.int {Pw : Str → Prop} {kvs : List (Key × V)} (h : WD Pw kvs) : IntD kvs := fun kv m => by
  obtain ⟨u, z, rfl, _⟩ := h kv m
  exact ⟨z, rfl⟩
theorem lock_back {d : Addr} {o u : HO} (hd : H d = some o) (e : Ex (upd H d u) H') : Ex H (upd H' d o) := fun a x hx => by
  by_cases z : a = d
  · subst z
    rw [hd] at hx
    rw [upd_same]
    exact hx
  · rw [upd_ne z]
    exact e a x ((upd_ne z).trans hx)
/-- for k, v in d.items(), d locked -/
theorem s_forItems {td : TE} {d : Addr} {kvs : List (Key × V)} {i j : Nat} (hd : H d = some (.dK kvs)) (h : ∀ H1, Ev td σ H1 (.ref d)) (Pv : Nat → L2.St → Hp → Prop)
    (h0 : ∀ od H1, Ex (upd H d (.frz od (.dK kvs))) H1 → Pv 0 σ H1) (hl : ∀ od n σ' H', n ≤ kvs.length → Pv n σ' H' → Ex (upd H d (.frz od (.dK kvs))) H' → True)
    (hs : ∀ od n k x σ' H' H2, kvs[n]? = some (k, x) → Pv n σ' H' → Ex (upd H d (.frz od (.dK kvs))) H' → Ex H' H2 →
      tu { D with nx := fun σ3 H3 => Pv (n + 1) σ3 H3 ∧ Ex (upd H d (.frz od (.dK kvs))) H3, ct := fun σ3 H3 => Pv (n + 1) σ3 H3 ∧ Ex (upd H d (.frz od (.dK kvs))) H3, bk := fun σ' H' => H' d = some (.frz od (.dK kvs)) ∧ D.nx σ' (upd H' d (.dK kvs)), rt := fun v H' => H' d = some (.frz od (.dK kvs)) ∧ D.rt v (upd H' d (.dK kvs)) } ((σ'.set i (some (kV k))).set j (some x)) H2)
    (hdn : ∀ σ' H', Pv kvs.length σ' H' → Ex H (upd H' d (.dK kvs)) → D.nx σ' (upd H' d (.dK kvs))) :
    tLock (tFor (iItems td) (gTup K 2 (gCons (gName i) (gCons (gName j) gNil))) tu) D σ H := by
  refine ⟨d, .dK kvs, hd, True.intro, fun od => ?_⟩
  refine h _ _ (Ex.refl _) _ fun H1 e1 => ⟨d, od, kvs, rfl, e1 d _ upd_same, ?_⟩
  refine ⟨fun n m σ' H' => m = kvs.length - n ∧ n ≤ kvs.length ∧ Pv n σ' H' ∧ Ex (upd H d (.frz od (.dK kvs))) H', ⟨kvs.length, rfl, Nat.zero_le _, h0 od H1 e1, e1⟩, ?_⟩
  rintro n m σ' H' ⟨rfl, hn, p, e⟩
  have q := e d _ upd_same
  by_cases lt : n < kvs.length
  · refine .inr ⟨⟨q, lt⟩, fun σ3 H3 => Pv (n + 1) σ3 H3 ∧ Ex (upd H d (.frz od (.dK kvs))) H3, fun σ2 H2 p2 => ⟨kvs.length - (n + 1), by omega, rfl, lt, p2.1, p2.2⟩, fun x H2 y => ?_⟩
    obtain ⟨T, k, v, hk, rfl, hT, rfl⟩ := y
    exact ⟨T, [kV k, v], rfl, st_of upd_same, rfl, kV k, [v], rfl, v, [], rfl, rfl, hs od n k v σ' H' _ hk p e (Ex.new hT)⟩
  · have e2 : n = kvs.length := by omega
    subst e2
    exact .inl ⟨⟨q, Nat.le_refl _⟩, q, hdn σ' H' p (lock_back hd e)⟩
end
end MuK

namespace MuKv
open PySem PySem.Spec PyProof.Rows L2
/-! ### d.keys() as a value, sorted -/
def KvO (P : Program) (w : World) (v d : Addr) : HO := .ext fun h => PySem.W.KdlKeysView h v d
section
variable {X : Cx} {pins : List (Addr × Obj)} {σ : L2.St} {H : Hp} {s : Shared} {a : Addr}
theorem kv_new {P : Program} {w : World} {H : Hp} {h : Heap} {v d : Addr} (R : PySem.W.KdlKeysView h v d) : ObjOk P w H h v (KvO P w v d) := by
  have ⟨o, ho, r⟩ := R
  exact ⟨R, ⟨_, ho⟩, fun h1 h2 ⟨o, p, q⟩ k => ⟨o, k _ p, q⟩⟩
theorem kv_get {v d : Addr} (I : Inv X pins σ H s) (ha : H v = some (KvO X.prog X.w v d)) : PySem.W.KdlKeysView s.heap v d := (I.hok v _ ha).1
def rKeysV (P : Program) (w : World) : V → List V → Hp → VK → Prop := fun x xs H Q => ∃ (d : Addr) (kvs : List (Key × V)), x = .ref d ∧ xs = [] ∧ Rd H d (.dK kvs) ∧
  ∀ v, H v = none → Q (.ref v) (upd H v (KvO P w v d))
theorem mt_keysV : MtR X "dict.keys" (rKeysV X.prog X.w) := by
  intro pins s σ H x xs v us Q I rx rxs h
  obtain ⟨d, kvs, rfl, rfl, hd, q⟩ := h
  cases rx
  cases rxs
  obtain ⟨_, hsys, vs, rel, dd⟩ := dk_rd I.hok hd
  refine call_meetsIn PySem.F.slot_dict_keys dd.typeIs PySem.F.entry_dict_keys (PySem.F.args_dict_keys_1 _) (PySem.W.kdl_meets_keys (mixKind X.prog X.w) d hsys) ⟨⟨_, dd⟩, ?_⟩
  have k : ∀ (b : Addr) (u : Obj), s.heap.get? b = some u → (s.heap.push { cls := .type "dict_keys", data := .fields #[.ref d] }).get? b = some u := fun b u e => Heap.get?_push_of_some _ e
  have R : PySem.W.KdlKeysView (s.heap.push { cls := .type "dict_keys", data := .fields #[.ref d] }) s.heap.objs.size d := ⟨_, Heap.get?_push_size _ rfl, rfl, rfl⟩
  exact ⟨.ref _, upd H s.heap.objs.size (KvO X.prog X.w s.heap.objs.size d), I.laid (t' := s.toks) k (Nat.le_refl _) (kv_new R), rfl, q _ (I.hok.fresh (Nat.le_refl _))⟩
def rSortedKv (P : Program) (w : World) : List V → Hp → VK → Prop := fun vs H Q => ∃ (v d : Addr) (kvs : List (Key × V)) (ks : List Int), vs = [.ref v] ∧ H v = some (KvO P w v d) ∧ Rd H d (.dK kvs) ∧ kvs.map (·.1) = ks.map Sum.inl ∧ ks.length < 64 ∧
  ∀ (ys : List Int) p, ys.Perm ks → ys.Pairwise (· ≤ ·) → H p = none → Q (.ref p) (upd H p (.lst (ys.map V.int)))
theorem intsAre_of : ∀ {vs : List Value} {ns : List Int}, vs.length = ns.length → (∀ (j : Nat) (v : Value), vs[j]? = some v → ∃ n t, ns[j]? = some n ∧ v = .int n t) → IntsAre vs ns
  | [], [], _, _ => .nil
  | v :: vs, n :: ns, hl, h => by
    obtain ⟨n', t, e, rfl⟩ := h 0 v rfl
    obtain rfl : n = n' := Option.some.inj e
    exact .cons _ _ (intsAre_of (by simpa using hl) fun j v e => h (j + 1) v e)
  | [], _ :: _, hl, _ => by simp at hl
  | _ :: _, [], hl, _ => by simp at hl
/-- what is walked, laid as a list; the heap has grown -/
theorem src_collect {P : Program} {w : World} {A : Around} {E : Value → Shared → Prop} {s : Shared} {T : String} {r d : Addr} {n : Nat} {Pv : Nat → Value → Prop} {OK : Heap → Prop} {R : List Value → Shared → Prop}
    (S : PySem.W.KdlSrc P w T r d n Pv OK) (hh : A.handled = none) (ok : OK s.heap) (ok2 : ∀ o, OK (s.heap.push o)) (hr : r < s.heap.objs.size) (hd : d < s.heap.objs.size) (hz : n ≤ sizeLine)
    (q : ∀ (h' : Heap) (tk : Nat) (acc : Array Value), (∀ b o, s.heap.get? b = some o → h'.get? b = some o) → s.heap.objs.size ≤ h'.objs.size → ItemsOf Pv acc n → R acc.toList { s with heap := h', toks := tk }) :
    wpAny (model P w) A (collect (.ref r)) R E s := by
  have inner : ∀ (R1 : Result → Shared → Prop), (∀ (h' : Heap) (tk : Nat) (acc : Array Value) (c : Nat), (∀ b o, s.heap.get? b = some o → h'.get? b = some o) → h'.get? s.heap.objs.size = some { cls := .type "list", data := .seq acc c } → ItemsOf Pv acc n → R1 (.ok (.ret (.ref s.heap.objs.size))) { s with heap := h', toks := tk }) →
      codeAny (model P w) A (.builtin "proto.collect" ⟨[.ref r], []⟩) R1 s := fun R1 fin => by
    refine codeAny_builtin entry_proto_collect' ?_
    rw [Around.under_plainId PySem.F.plain_proto_collect]
    unfold Builtin.«proto.collect»
    refine wpAny_bind (wpAny_newList ?_ (by decide))
    refine wpAny_pure ⟨Code.quiet_builtin _ (by decide +kernel), codeAny_builtin entry_list_iadd' ?_⟩
    rw [Around.under_plainId PySem.F.plain_list_iadd]
    have hS : (s.heap.push (seqObj "list" #[] 0)).get? s.heap.objs.size = some (seqObj "list" #[] 0) := Heap.get?_push_size _ rfl
    unfold Builtin.«list.__iadd__»
    refine wpAny_bind (wpAny_of_eq (a := (.ref s.heap.objs.size, [.ref r])) (by rfl) ?_)
    exact PySem.W.kdl_extend (R := R1) (s := { s with heap := s.heap.push (seqObj "list" #[] 0) }) S hh (ok2 _) s.heap.objs.size (Ne.symm (Nat.ne_of_lt hr)) (Ne.symm (Nat.ne_of_lt hd)) _ 0 hS (fun h' tk acc c k g hi =>
      fin h' tk acc c (fun b o e => k b o (Nat.ne_of_lt (Heap.lt_size e)) (Heap.get?_push_of_some _ e)) g hi) hz
  unfold collect
  refine wpAny_bind (wpAny_runValue (inner _ fun h' tk acc c k g hi => ?_))
  exact wpAny_bind (wpAny_load g (wpAny_pure (q h' tk acc k (Nat.le_of_lt (Heap.lt_size g)) hi)))
theorem cr_sortedKv (hc : X.calm = true) : CallR X (.builtin "sorted") (rSortedKv X.prog X.w) := by
  intro pins s σ H vs us Q I r h
  obtain ⟨v, d, kvs, ks, rfl, hv, hd, hk, h64, q⟩ := h
  have R := kv_get I hv
  rw [Vals.ref1 r]
  obtain ⟨_, hsys, ws, rel, dd⟩ := dk_rd I.hok hd
  have hlen : ws.length = ks.length := by
    have e := rel.length
    have e2 := congrArg List.length hk
    simp only [List.length_map] at e2
    omega
  obtain ⟨ob, es, ep, ho, hx, hat⟩ := id dd
  refine Calls.call_function_entry kind_sorted plain_sorted entry_sorted (args_sorted1 _) ?_
  unfold Builtin.«sorted»
  refine wpAny_bind (m := checkCount "sorted" 1 1 _) (wpAny_pure ?_)
  refine wpAny_bind (src_collect (A := X.A.in1) (PySem.W.kdl_keys (knd := mixKind X.prog X.w) (d := d) (r := v) (kvs := ws) (ep := ep)) (I.ok.hd hc) ⟨R, ⟨ob, es, ho, hx, hat⟩⟩ (fun o => ⟨R.imp fun _ z => ⟨Heap.get?_push_of_some _ z.1, z.2⟩, ⟨ob, es, Heap.get?_push_of_some _ ho, hx, hat⟩⟩) (by have ⟨_, z, _⟩ := R; exact Heap.lt_size z) (Heap.lt_size ho) (by rw [hlen, sizeLine_eq]; omega) fun h1 tk acc k1 hz1 ⟨hz, hit⟩ => ?_)
  have hI : IntsAre acc.toList ks := by
    refine intsAre_of (by rw [Array.length_toList, hz, hlen]) fun j u e => ?_
    obtain ⟨kk, x, e1, e2⟩ := hit j u (by simpa using e)
    have lt1 := (List.getElem?_eq_some_iff.mp e1).1
    have lt2 : j < kvs.length := by
      have := rel.length
      omega
    obtain ⟨y, hy, hyr⟩ := paired_get rel (List.getElem?_eq_getElem lt2)
    rw [e1] at hy
    obtain rfl := Option.some.inj hy
    have e3 := congrArg (fun z => z[j]?) hk
    simp only [List.getElem?_map, List.getElem?_eq_getElem lt2] at e3
    cases e4 : ks[j]? with
    | none =>
      rw [e4] at e3
      exact nomatch e3
    | some n =>
      rw [e4] at e3
      have e5 : (kvs[j]).1 = Sum.inl n := Option.some.inj e3
      have e6 : kk = Sum.inl n := hyr.1.symm.trans e5
      subst e6
      obtain ⟨t, rfl⟩ := Value.isInt_shape (show Value.isInt n u = true from e2)
      exact ⟨n, t, rfl, rfl⟩
  have hvl : acc.toList.length < 64 := by rw [hI.length]; exact h64
  refine wpAny_bind (wpAny_newList ?_ (by rw [sizeLine_eq]; omega))
  have hoL : (h1.push (seqObj "list" acc.toList.toArray 0)).get? h1.objs.size = some (seqObj "list" acc.toList.toArray 0) := Heap.get?_push_size _ rfl
  refine wpAny_bind (wpAny_holding (wpAny_call_entry slot_list_sort ⟨_, hoL, rfl⟩ entry_list_sort (list_sort_tree hoL hI hvl fun out ys h2 h3 h4 => ⟨_, rfl, ?_⟩) (args_list_sort _)))
  obtain ⟨c, hg⟩ := sortedHeap_at (vs := acc.toList) (out := out) hoL
  have hn : H h1.objs.size = none := I.hok.fresh hz1
  have rv : Vals (ys.map V.int) out.toList := vals_of_ints h2
  have hl2 : (ys.map V.int).length ≤ sizeLine := by
    rw [List.length_map, h3.length_eq, sizeLine_eq]
    omega
  have k : ∀ b u, s.heap.get? b = some u → (sortedHeap (h1.push (seqObj "list" acc.toList.toArray 0)) h1.objs.size acc.toList out).get? b = some u := fun b u e => by
    have z := k1 b u e
    have hlt := Heap.lt_size z
    rw [sortedHeap_old (Nat.ne_of_lt hlt) (by rw [size_push']; exact Nat.lt_succ_of_lt hlt)]
    exact Heap.get?_push_of_some _ z
  refine wpAny_pure ⟨_, rfl, .ref _, _, ?_, rfl, q ys _ h3 h4 hn⟩
  exact I.laid (t' := tk) k hz1 ⟨hl2, out.toList, c, rv, hg⟩
end
end MuKv

namespace MuSI
open PySem PySem.Spec PyProof.Rows L2
/-! ### set(xs), xs a list of whole numbers -/
section
variable {P : Program} {w : World} {A : Around} {E : Value → Shared → Prop} {s : Shared} {h h' : Heap} {a : Addr}
/-- the walked numbers go into the set at S, one after another -/
theorem in_update {I S : Addr} {fp wr : List Addr} {G : Array GenState → Array GenState → Prop} {n : Nat} {Pv : Nat → Value → Prop} {St : Nat → Shared → Prop} {R : Result → Shared → Prop} (W : WalksS P w A.in1 I fp wr G n Pv St) (hS : S ∉ fp)
    (xs : List Int) (hv : ∀ i v, Pv i v → ∃ x t, xs[i]? = some x ∧ v = .int x t) (hn : n = xs.length) (hz : n < 4000) : ∀ (k i : Nat) (s : Shared), n - i = k → i ≤ n → St i s → (∃ (l : Int → Bool) (m : Nat), SetR w s.heap S l m ∧ (∀ j, l j = true ↔ j ∈ xs.take i) ∧ m ≤ i) →
    (∀ s', Moved (S :: wr) G s s' → (∃ (l : Int → Bool) (m : Nat), SetR w s'.heap S l m ∧ (∀ j, l j = true ↔ j ∈ xs) ∧ m ≤ n) → R (.ok (.ret .none)) s') → codeAny (model P w) A (.builtin "set.update.loop" ⟨[.ref S, .ref I], []⟩) R s := by
  have hSw : S ∉ wr := fun z => hS (W.sub _ z)
  have up : ∀ b ∈ wr, b ∈ S :: wr := fun b z => List.mem_cons_of_mem _ z
  intro k
  induction k with
  | zero =>
    intro i s hk hi hst ⟨l, z, T, m, ll⟩ fin
    obtain rfl : i = n := by omega
    refine codeAny_builtin PyProof.Rows.F.entry_set_update_loop ?_
    rw [Around.under_plainId PyProof.Rows.F.plain_set_update_loop _]
    show wpAny _ A.in1 (pyNext (.ref I) >>= _) _ _ s
    refine wpAny_bind (W.done s _ _ hst fun s2 mv => ?_)
    rw [hn, List.take_length] at m
    exact wpAny_pure (fin s2 (mv.mono up) ⟨l, z, T.at fun o e => mv.heap S o hSw e, m, ll⟩)
  | succ k ih =>
    intro i s hk hi hst ⟨l, z, T, m, ll⟩ fin
    have hlt : i < n := by omega
    refine codeAny_builtin PyProof.Rows.F.entry_set_update_loop ?_
    rw [Around.under_plainId PyProof.Rows.F.plain_set_update_loop _]
    show wpAny _ A.in1 (pyNext (.ref I) >>= _) _ _ s
    refine wpAny_bind (W.item i s _ _ hlt hst fun v s2 hp hst2 mv => ?_)
    obtain ⟨x, t, hx, rfl⟩ := hv i v hp
    have T2 : SetR w s2.heap S l z := T.at fun o e => mv.heap S o hSw e
    show wpAny _ A.in1 (holding [Value.int x t] (setAdd S (.int x t)) >>= _) _ _ s2
    refine wpAny_bind (wpAny_holding ?_)
    unfold setAdd
    refine wpAny_holding (wpAny_bind ((PySem.intKind P w).pyHash (k := x) (PySem.intKind_is P w x t) ?_))
    refine setR_add_hashed (s := { s2 with toks := s2.toks + 1 }) (k := x) (tk := t) T2 (by show z + 1 < 4096; omega) fun h3 sb T3 => ?_
    have m4 : ∀ j, (l j || decide (j = x)) = true ↔ j ∈ xs.take (i + 1) := fun j => by
      rw [Bool.or_eq_true, m, List.take_add_one, hx, List.mem_append]
      simp
    refine wpAny_pure ⟨plainId_quiet PyProof.Rows.F.plain_set_update_loop _, ih (i + 1) _ (by omega) hlt (W.frame _ s2 _ _ hst2 (Nat.le_succ _) fun c hc o e => ?_) ⟨_, _, T3, m4, by split <;> omega⟩ fun s4 mv4 R4 => ?_⟩
    · rw [sb.2 c fun z => hS (z ▸ hc)]
      exact e
    · refine fin s4 (Moved.trans W.gtrans ((mv.mono up).then_heap (Nat.le_succ _) fun c o hc e => ?_) mv4) R4
      rw [sb.2 c fun z => hc (by rw [z]; exact List.mem_cons_self)]
      exact e
abbrev newSI (w : World) : Obj := { cls := .type "set", dict := none, data := .set #[] 0 (.fresh 0 0 (!w.params.followText "set-order")) }
set_option maxHeartbeats 8000000 in
theorem in_of_list {p : Addr} {its : Array Value} {xs : List Int} {Q : Value → Shared → Prop} (hh : A.handled = none) (hp : s.heap.IsList p its) (hx : ∀ (i : Nat) (v : Value), its[i]? = some v → ∃ (x : Int) (t : Tok), xs[i]? = some x ∧ v = Value.int x t) (hn : its.size = xs.length) (hz : its.size < 4000)
    (q : ∀ h' tk l m, SetR w h' s.heap.objs.size l m → (∀ j, l j = true ↔ j ∈ xs) → m ≤ xs.length → (∀ b o, s.heap.get? b = some o → h'.get? b = some o) → Q (.ref s.heap.objs.size) { s with heap := h', toks := tk }) : wpAny (model P w) A (call (.type "set") [.ref p]) Q E s := by
  obtain ⟨c0, tl0, hmro⟩ := F.called_set.mro
  have f1 := F.called_set.made; have f2 := F.called_set.sub; have f3 := F.called_set.notType; have f4 := F.called_set.canCreate; have f5 := F.typeCall_set_1 (.ref p)
  refine wpAny_call (codeAny_of_tree ?_)
  show wpAny _ _ (callAny (.type "set") _) _ _ _
  refine wpAny_pure ⟨Code.quiet_builtin _ (by decide +kernel), codeAny_builtin F.entry_type_call ?_⟩
  rw [Around.under_plain (weight_type_call_type "set" [.ref p] []) rfl]
  repeat any_goals (first | assumption | wp_step)
  refine codeAny_mono (code_set_led1 (.ref p) (E := E) (Q₁ := fun ob s1 => ob = .ref s.heap.objs.size ∧ s1 = { s with heap := s.heap.push (newSI w) }) ⟨rfl, rfl⟩) fun r s1 hr => ?_
  cases r with
  | error e => exact hr
  | ok fl => cases fl with
    | next => exact hr.elim
    | brk => exact hr.elim
    | cont => exact hr.elim
    | ret ob =>
      obtain ⟨rfl, rfl⟩ := hr
      have hS : (s.heap.push (newSI w)).get? s.heap.objs.size = some (newSI w) := Heap.get?_push_size _ rfl
      have hT : Shared.TypeIs { s with heap := s.heap.push (newSI w) } (.ref s.heap.objs.size) "set" := ⟨_, hS, rfl⟩
      have g1 := F.called_set.init.lookup; have g2 := F.called_set.init.bind (.ref s.heap.objs.size)
      repeat any_goals (first | assumption | wp_step)
      refine codeAny_mono (codeAny_call_builtin (R := wants (fun r s2 => r = .none ∧ ∃ h' tk l m, s2 = { s with heap := h', toks := tk } ∧ SetR w h' s.heap.objs.size l m ∧ (∀ j, l j = true ↔ j ∈ xs) ∧ m ≤ xs.length ∧ (∀ b o, s.heap.get? b = some o → h'.get? b = some o)) E) F.called_set.init.plain F.entry_set_init (check_set_init_1 hT ?_)) fun r2 s2 hr2 => ?_
      · obtain ⟨⟨oc, od, odt, osl⟩, ho, hc, n0, hd⟩ := hp
        simp only at hc hd
        subst hc; subst hd
        have ho' : (s.heap.push (newSI w)).get? p = some { cls := .type "list", dict := od, data := .seq its n0, slots := osl } := Heap.get?_push_of_some _ ho
        have e1 := F.sub_list_set; have e2 := F.sub_list_frozenset
        have e3 : (Value.type "list" == Value.type "dict") = false := by decide
        have hl : (s.heap.push (newSI w)).IsList p its := ⟨_, ho', rfl, n0, rfl⟩
        have hps : p < s.heap.objs.size := Heap.lt_size ho
        have hz1 : (s.heap.push (newSI w)).objs.size = s.heap.objs.size + 1 := Heap.size_push ..
        unfold Builtin.«set.__init__» noKeywords Builtin.Frozenset.updateFrom
        generalize hPI : pyIter = PI
        wp_walk
        subst hPI
        refine wpAny_pyIter_list hl (wpAny_bind (wpAny_runValue ?_))
        have hh3 : A.in1.in1.in1.handled = none := by simp [hh]
        have n1 : p ≠ (s.heap.push (newSI w)).objs.size := by
          rw [hz1]
          exact Nat.ne_of_lt (Nat.lt_succ_of_lt hps)
        have n2 : s.heap.objs.size ∉ [(s.heap.push (newSI w)).objs.size, p] := fun z => by
          rcases List.mem_cons.mp z with z | z
          · rw [hz1] at z
            exact Nat.ne_of_lt (Nat.lt_succ_self _) z
          · exact Nat.ne_of_gt hps (List.mem_singleton.mp z)
        refine in_update ((Walks.list hh3 _ p n1 its).toS) n2 xs hx hn hz (its.size - 0) 0 _ (by omega) (Nat.zero_le _) ⟨⟨_, Heap.get?_push_size _ rfl, rfl, rfl⟩, hl.push _⟩
          ⟨_, 0, (setR_fresh (h := s.heap) w).at fun o e => Heap.get?_push_of_some _ e, fun j => by simp, Nat.le_refl _⟩ fun s3 mv ⟨l, z, T, m, ll⟩ => ?_
        obtain ⟨h3, gg, dd, tk, oo⟩ := s3
        obtain rfl : gg = s.gens := mv.gens
        obtain rfl : dd = s.drawn := mv.drawn
        obtain rfl : oo = s.os := mv.os
        refine wpAny_pure ?_
        show wpAny _ _ (ret Value.none) _ _ _
        refine wpAny_pure ⟨rfl, h3, tk, l, z, rfl, T, m, by omega, fun b o e => ?_⟩
        have hb := Heap.lt_size e
        refine mv.heap b o (fun z => ?_) (Heap.get?_push_of_some _ (Heap.get?_push_of_some _ e))
        rcases List.mem_cons.mp z with z | z
        · exact Nat.ne_of_lt hb z
        · rw [List.mem_singleton.mp z, hz1] at hb
          exact absurd hb (Nat.not_lt_of_le (Nat.le_succ _))
      · cases r2 with
        | error e => exact hr2
        | ok fl2 => cases fl2 with
          | next => exact hr2.elim
          | brk => exact hr2.elim
          | cont => exact hr2.elim
          | ret r =>
            obtain ⟨rfl, h', tk, l, z, rfl, T, m, ll, k⟩ := hr2
            repeat any_goals (first | assumption | wp_step)
            exact q _ _ _ _ T m ll k
end
section
variable {X : Cx}
def rSetIn (K : PySem.W.Frag) (w : World) : List V → Hp → VK → Prop := fun vs H Q => ∃ (p : Addr) (xs : List Int), vs = [.ref p] ∧ SqL K H p (xs.map V.int) ∧ xs.length < 4000 ∧
  ∀ a S m, H a = none → (∀ j, S j = decide (j ∈ xs)) → Q (.ref a) (upd H a (SetO w a S m))
theorem cr_setIn (hc : X.calm = true) : CallR X (.type "set") (rSetIn X.K X.w) := by
  intro pins s σ H vs us Q I r h
  obtain ⟨p, xs, rfl, hs, hz, q⟩ := h
  obtain ⟨its, rv, hl, _⟩ := I.list hs
  rw [Vals.ref1 r]
  have hlen := rv.length
  rw [List.length_map] at hlen
  refine in_of_list (xs := xs) (I.ok.hd hc) hl.isList (fun i v hv => ?_) (by simpa using hlen.symm) (by simpa using (by omega : its.length < 4000)) fun h' tk l z T m ll k => ?_
  · have hi : i < xs.length := by
      have := (Array.getElem?_eq_some_iff.mp hv).1
      simp at this
      omega
    have e1 : (xs.map V.int)[i]? = some (V.int xs[i]) := by
      rw [List.getElem?_map, List.getElem?_eq_getElem hi]
      rfl
    obtain ⟨u, hu, t, rfl⟩ := rv.get e1
    have e2 : its[i]? = some v := by simpa using hv
    rw [hu] at e2
    exact ⟨xs[i], t, List.getElem?_eq_getElem hi, (Option.some.inj e2).symm⟩
  · exact ⟨.ref _, upd H s.heap.objs.size (SetO X.w s.heap.objs.size l z), I.laid (t' := tk) k (Nat.le_refl _) (setO_new T), rfl, q _ l z (I.hok.fresh (Nat.le_refl _)) fun j => by
      rw [Bool.eq_iff_iff, m, decide_eq_true_eq]⟩
end
end MuSI

namespace MuK
open PySem PySem.Spec PyProof.Rows L2 Evl
/-! ### pairs of numbers, and what is reached by them -/
def near (ep : List (Int × Int)) (x : Int) : List Int := ep.flatMap fun p => (if p.1 = x then [p.2] else []) ++ (if p.2 = x then [p.1] else [])
theorem mem_near {ep : List (Int × Int)} {x y : Int} : y ∈ near ep x ↔ (x, y) ∈ ep ∨ (y, x) ∈ ep := by
  unfold near
  rw [List.mem_flatMap]
  constructor
  · rintro ⟨⟨a, b⟩, h, m⟩
    rcases List.mem_append.mp m with m | m
    · by_cases e : a = x
      · rw [if_pos e] at m
        obtain rfl := List.mem_singleton.mp m
        exact .inl (e ▸ h)
      · rw [if_neg e] at m
        exact nomatch m
    · by_cases e : b = x
      · rw [if_pos e] at m
        obtain rfl := List.mem_singleton.mp m
        exact .inr (e ▸ h)
      · rw [if_neg e] at m
        exact nomatch m
  · rintro (h | h)
    · exact ⟨_, h, List.mem_append_left _ (by simp)⟩
    · exact ⟨_, h, List.mem_append_right _ (by simp)⟩
theorem near_symm {ep : List (Int × Int)} {x y : Int} : y ∈ near ep x ↔ x ∈ near ep y := by
  rw [mem_near, mem_near]
  exact Or.comm
theorem near_app (ep fp : List (Int × Int)) (x : Int) : near (ep ++ fp) x = near ep x ++ near fp x := List.flatMap_append
inductive Rch (ep : List (Int × Int)) (x : Int) : Int → Prop
  | refl : Rch ep x x
  | step {y z : Int} : Rch ep x y → z ∈ near ep y → Rch ep x z
theorem Rch.trans {ep : List (Int × Int)} {x y z : Int} (h : Rch ep x y) (k : Rch ep y z) : Rch ep x z := by
  induction k with
  | refl => exact h
  | step _ m ih => exact .step ih m
theorem Rch.symm {ep : List (Int × Int)} {x y : Int} (h : Rch ep x y) : Rch ep y x := by
  induction h with
  | refl => exact .refl
  | step _ m ih => exact (Rch.step .refl (near_symm.mp m)).trans ih
/-- all pairs are of numbers below m -/
def InR (m : Int) (ep : List (Int × Int)) : Prop := ∀ p ∈ ep, (0 ≤ p.1 ∧ p.1 < m) ∧ 0 ≤ p.2 ∧ p.2 < m
theorem InR.near {m : Int} {ep : List (Int × Int)} (h : InR m ep) {x y : Int} (k : y ∈ near ep x) : (0 ≤ x ∧ x < m) ∧ 0 ≤ y ∧ y < m := by
  rcases mem_near.mp k with k | k
  · exact h _ k
  · exact ⟨(h _ k).2, (h _ k).1⟩
theorem InR.rch {m : Int} {ep : List (Int × Int)} (h : InR m ep) {x y : Int} (h0 : 0 ≤ x ∧ x < m) (k : Rch ep x y) : 0 ≤ y ∧ y < m := by
  induction k with
  | refl => exact h0
  | step _ m _ => exact (h.near m).2
theorem ints_few {rs : List Int} {m : Nat} (nd : rs.Nodup) (h : ∀ x ∈ rs, 0 ≤ x ∧ x < (m : Int)) : rs.length ≤ m := by
  have k := nodup_len (m := (List.range m).map Int.ofNat) nd fun x hx => by
    obtain ⟨h0, h1⟩ := h x hx
    refine List.mem_map.mpr ⟨x.toNat, List.mem_range.mpr (by omega), ?_⟩
    show ((x.toNat : Nat) : Int) = x
    omega
  rwa [List.length_map, List.length_range] at k
/-- each pair has both its numbers in the list or none: nothing leads out -/
theorem rch_closed {ep : List (Int × Int)} {some : List Int} (h : ∀ p ∈ ep, p.1 ∈ some ↔ p.2 ∈ some) {x y : Int} (hx : x ∈ some) (k : Rch ep x y) : y ∈ some := by
  induction k with
  | refl => exact hx
  | step _ m ih =>
    rcases mem_near.mp m with m | m
    · exact (h _ m).mp ih
    · exact (h _ m).mpr ih
/-! ### pairs as tuples of two or more -/
def PairT (H : Hp) (p : Addr × Int × Int) : Prop := ∃ r : List V, H p.1 = some (.tup (.int p.2.1 :: .int p.2.2 :: r))
def PairsT (H : Hp) (ps : List (Addr × Int × Int)) : Prop := ∀ p ∈ ps, PairT H p
section
variable {K : PySem.W.Frag} {σ : L2.St} {H H' : Hp}
theorem PairT.later {p : Addr × Int × Int} (h : PairT H p) (e : Ex H H') : PairT H' p := by
  obtain ⟨r, h1⟩ := h
  exact ⟨r, e _ _ h1⟩
theorem PairsT.later {ps : List (Addr × Int × Int)} (h : PairsT H ps) (e : Ex H H') : PairsT H' ps := fun p m => (h p m).later e
theorem refs_same {n : Nat} : ∀ ps : List (Addr × Int × Int), Paired (EqV K H (n + 1)) (ps.map fun p => V.ref p.1) (ps.map fun p => V.ref p.1)
  | [] => .nil
  | p :: r => .cons (.inr (.inl ⟨p.1, rfl, rfl⟩)) (refs_same r)
theorem pairs_eq {a b : Addr} {ps : List (Addr × Int × Int)} (ha : H a = some (.lst (ps.map fun p => V.ref p.1))) (hb : H b = some (.lst (ps.map fun p => V.ref p.1))) : EqV K H 4 (.ref a) (.ref b) :=
  .inr (.inr (.inl ⟨a, b, _, _, rfl, rfl, sq_of ha, sq_of hb, refs_same ps⟩))
theorem ints_paired {n : Nat} : ∀ ns : List Int, Paired (EqV K H (n + 1)) (ns.map V.int) (ns.map V.int)
  | [] => .nil
  | _ :: r => .cons (.inl ⟨rfl, rfl⟩) (ints_paired r)
theorem ints_eq {a b : Addr} {ns : List Int} (ha : H a = some (.lst (ns.map V.int))) (hb : H b = some (.lst (ns.map V.int))) : EqV K H 4 (.ref a) (.ref b) :=
  .inr (.inr (.inl ⟨a, b, _, _, rfl, rfl, sq_of ha, sq_of hb, ints_paired ns⟩))
theorem pair_at {ps : List (Addr × Int × Int)} {n : Nat} {x : V} (hx : (ps.map fun p => V.ref p.1)[n]? = some x) : ∃ p, ps[n]? = some p ∧ p ∈ ps ∧ x = .ref p.1 := by
  rw [List.getElem?_map] at hx
  cases y : ps[n]? with
  | none =>
    rw [y] at hx
    exact nomatch hx
  | some c =>
    rw [y] at hx
    exact ⟨c, rfl, List.mem_of_getElem? y, (Option.some.inj hx).symm⟩
theorem int_at {ns : List Int} {n : Nat} {x : V} (hx : (ns.map V.int)[n]? = some x) : ∃ c, ns[n]? = some c ∧ c ∈ ns ∧ x = .int c := by
  rw [List.getElem?_map] at hx
  cases y : ns[n]? with
  | none =>
    rw [y] at hx
    exact nomatch hx
  | some c =>
    rw [y] at hx
    exact ⟨c, rfl, List.mem_of_getElem? y, (Option.some.inj hx).symm⟩
theorem rv_p0 {p : Addr × Int × Int} (h : PairT H p) : RV (rIxT K) (.ref p.1) (.int 0) H (.int p.2.1) := by
  obtain ⟨r, h1⟩ := h
  exact rv_ixT (st_of h1) (atI_nat (j := 0) rfl)
theorem rv_p1 {p : Addr × Int × Int} (h : PairT H p) : RV (rIxT K) (.ref p.1) (.int 1) H (.int p.2.2) := by
  obtain ⟨r, h1⟩ := h
  exact rv_ixT (st_of h1) (atI_nat (j := 1) rfl)
end
end MuK

namespace MuK
open PySem PySem.Spec PyProof.Rows L2 Evl
section
variable {X : Cx}
theorem op_eqNil (hu : X.A.units + 64 < cLine) : OpR X (compareOp .Eq) (rNil X.K true) := by
  intro pins s σ H x y v u Q I rx ry h
  obtain ⟨a, b, xs, rfl, rfl, ha, hb, q⟩ := h
  obtain rfl : v = Value.ref a := rx
  obtain rfl : u = Value.ref b := ry
  obtain ⟨us, r1, p1, _⟩ := I.list ha
  obtain ⟨ws, r2, p2, _⟩ := I.list hb
  cases r2
  have hu2 : X.A.units < cLine := by omega
  cases r1 with
  | nil => exact SeqAt.RcAt.lists (e := fun _ => true) p1.isList p2.isList rfl hu2 (fun j h1 _ => absurd h1 (Nat.not_lt_zero j)) _ _ _ _ ⟨.bl true, H, I, rfl, q⟩
  | cons r rr => exact SeqAt.RcAt.lists_lengths p1.isList p2.isList (by simp) hu2 _ _ _ _ ⟨.bl false, H, I, rfl, q⟩
end
section
variable {K : PySem.W.Frag} {σ : L2.St} {H H' : Hp} {ta tb te td ty : TE} {t u : TT} {x y z v : V} {D : Ends} {tu tw tz : TS} {R : V → Hp → Prop}
/-- k in d, k not in d, d[k] -/
theorem et_din {d : Addr} {k : Key} {kvs : List (Key × V)} (hk : Ev ty σ H (kV k)) (hd : Ev td σ H (.ref d)) (h : Rd H d (.dK kvs)) : EvT (tB (tDIn ty td)) σ H (valV kvs k).isSome := fun H1 e Q q =>
  hk H1 e _ fun H2 e2 => hd H2 (e.trans e2) _ fun H3 e3 => ⟨d, valV kvs k, rfl, .inl ⟨kvs, k, ex_rd ((e.trans e2).trans e3) h, rfl, rfl⟩, _, rfl, q H3 (e2.trans e3)⟩
theorem et_dnin {d : Addr} {k : Key} {kvs : List (Key × V)} (hk : Ev ty σ H (kV k)) (hd : Ev td σ H (.ref d)) (h : Rd H d (.dK kvs)) : EvT (tB (tDNotIn ty td)) σ H (!(valV kvs k).isSome) := fun H1 e Q q =>
  hk H1 e _ fun H2 e2 => hd H2 (e.trans e2) _ fun H3 e3 => ⟨d, valV kvs k, rfl, .inl ⟨kvs, k, ex_rd ((e.trans e2).trans e3) h, rfl, rfl⟩, _, rfl, q H3 (e2.trans e3)⟩
theorem ev_dgetK {d : Addr} {k : Key} {kvs : List (Key × V)} (hd : Ev td σ H (.ref d)) (h : Rd H d (.dK kvs)) (hk : Ev ty σ H (kV k)) (hv : valV kvs k = some v) : Ev (tDGet td ty) σ H v := fun H1 e Q q =>
  hd H1 e _ fun H2 e2 => hk H2 (e.trans e2) _ fun H3 e3 => ⟨d, v, rfl, .inl ⟨kvs, k, ex_rd ((e.trans e2).trans e3) h, rfl, hv.symm⟩, q H3 (e2.trans e3)⟩
/-- the numbers that are keys -/
def KeysI (kvs : List (Key × V)) (rs : List Int) : Prop := kvs.map (·.1) = rs.map Sum.inl
theorem keysI_val {kvs : List (Key × V)} {rs : List Int} (h : KeysI kvs rs) (x : Int) : (valV kvs (.inl x)).isSome = decide (x ∈ rs) := by
  rw [Bool.eq_iff_iff, decide_eq_true_eq]
  unfold valV
  rw [Option.isSome_map, List.find?_isSome]
  have m : x ∈ rs ↔ (Sum.inl x : Key) ∈ kvs.map (·.1) := by
    rw [h, List.mem_map]
    constructor
    · intro z
      exact ⟨x, z, rfl⟩
    · rintro ⟨y, hy, e⟩
      exact Sum.inl.inj e ▸ hy
  rw [m, List.mem_map]
  constructor
  · rintro ⟨kv, hm, e⟩
    exact ⟨kv, hm, of_decide_eq_true e⟩
  · rintro ⟨kv, hm, e⟩
    exact ⟨kv, hm, decide_eq_true e⟩
theorem keysI_put {kvs : List (Key × V)} {rs : List Int} (h : KeysI kvs rs) {x : Int} (hx : x ∉ rs) (w : V) : putK kvs (.inl x) w = kvs ++ [(.inl x, w)] ∧ KeysI (putK kvs (.inl x) w) (rs ++ [x]) := by
  have n : kvs.any (fun kv => decide (kv.1 = Sum.inl x)) = false := by
    rw [List.any_eq_false]
    intro kv m e
    have e2 : kv.1 = Sum.inl x := of_decide_eq_true e
    have : (Sum.inl x : Key) ∈ rs.map Sum.inl := h ▸ List.mem_map.mpr ⟨kv, m, e2⟩
    obtain ⟨y, hy, e3⟩ := List.mem_map.mp this
    exact hx (Sum.inl.inj e3 ▸ hy)
  have e : putK kvs (.inl x) w = kvs ++ [(.inl x, w)] := by
    unfold putK
    rw [if_neg (by rw [n]; decide)]
  refine ⟨e, ?_⟩
  unfold KeysI
  rw [e, List.map_append, List.map_append, h]
  rfl
theorem keysI_put2 {kvs : List (Key × V)} {rs : List Int} (h : KeysI kvs rs) {x : Int} (hx : x ∈ rs) (w : V) : KeysI (putK kvs (.inl x) w) rs := by
  have m : (Sum.inl x : Key) ∈ kvs.map (·.1) := h ▸ List.mem_map.mpr ⟨x, hx, rfl⟩
  obtain ⟨kv, hm, e⟩ := List.mem_map.mp m
  have n : kvs.any (fun kv => decide (kv.1 = Sum.inl x)) = true := List.any_eq_true.mpr ⟨kv, hm, decide_eq_true e⟩
  unfold KeysI putK
  rw [if_pos n, List.map_map, ← h]
  refine List.map_congr_left fun a _ => ?_
  simp only [Function.comp_apply]
  split <;> rfl
theorem keysI_len {kvs : List (Key × V)} {rs : List Int} (h : KeysI kvs rs) : kvs.length = rs.length := by
  have := congrArg List.length h
  simpa using this
/-- sorted(d), of a dict whose keys are numbers -/
def rSDI : List V → Hp → VK → Prop := fun xs H Q => ∃ (a : Addr) (kvs : List (Key × V)) (ks : List Int), xs = [.ref a] ∧ Rd H a (.dK kvs) ∧ kvs.map (·.1) = ks.map Sum.inl ∧ ks.length < 64 ∧
  ∀ (ys : List Int) (p : Addr), ys.Perm ks → ys.Pairwise (· ≤ ·) → H p = none → Q (.ref p) (upd H p (.lst (ys.map V.int)))
theorem evx_sortedDI {d : Addr} {kvs : List (Key × V)} {ks : List Int} (hd : Ev td σ H (.ref d)) (h : Rd H d (.dK kvs)) (hk : KeysI kvs ks) (hz : ks.length < 64) :
    EvX (tCB rSDI (tCons td tNil)) σ H (fun v H' => ∃ (p : Addr) (ys : List Int), v = .ref p ∧ H p = none ∧ H' p = some (.lst (ys.map V.int)) ∧ ys.Perm ks ∧ ys.Pairwise (· ≤ ·)) := fun H1 e Q q =>
  hd H1 e _ fun H2 e2 => ⟨d, kvs, ks, rfl, ex_rd (e.trans e2) h, hk, hz, fun ys p hp hs hn => q _ _ (e2.trans (Ex.new hn)) ⟨p, ys, rfl, fresh_back (e.trans e2) hn, upd_same, hp, hs⟩⟩
/-- sorted(e.keys()) -/
theorem evx_sortedKv {P : Program} {w : World} {ks : List Int → Prop} (hd : EvX te σ H (fun v H' => ∃ (d : Addr) (kvs : List (Key × V)) (rs : List Int), v = .ref d ∧ H' d = some (.dK kvs) ∧ KeysI kvs rs ∧ rs.length < 64 ∧ ks rs)) :
    EvX (tCB (MuKv.rSortedKv P w) (tCons (tBM0 K "dict" (MuKv.rKeysV P w) te) tNil)) σ H (fun v H' => ∃ (p : Addr) (ys rs : List Int), v = .ref p ∧ H p = none ∧ H' p = some (.lst (ys.map V.int)) ∧ ys.Perm rs ∧ ys.Pairwise (· ≤ ·) ∧ ks rs) := fun H1 e Q q => by
  refine hd H1 e _ fun v H2 e2 r => ?_
  obtain ⟨d, kvs, rs, rfl, h, hk, hz, hr⟩ := r
  refine ⟨.inr (.inr (.inl ⟨rfl, .inl ⟨_, h⟩⟩)), d, kvs, rfl, rfl, .inl h, fun a hw => ?_⟩
  have dw : d ≠ a := fun z => by
    rw [z, hw] at h
    exact nomatch h
  refine ⟨a, d, kvs, rs, rfl, upd_same, .inl ((upd_ne dw).trans h), hk, hz, fun ys p hp hs hn => ?_⟩
  have e3 : Ex H1 (upd H2 a (MuKv.KvO P w a d)) := e2.trans (Ex.new hw)
  exact q _ _ (e3.trans (Ex.new hn)) ⟨p, ys, rs, rfl, fresh_back (e.trans e3) hn, upd_same, hp, hs, hr⟩
/-- set(xs), x in it -/
theorem evx_setIn {w : World} {p : Addr} {ns : List Int} (ha : Ev te σ H (.ref p)) (h : SqL K H p (ns.map V.int)) (hz : ns.length < 4000) :
    EvX (tCB (MuSI.rSetIn K w) (tCons te tNil)) σ H (fun v H' => ∃ (a : Addr) (m : Nat), v = .ref a ∧ H' a = some (SetO w a (fun j => decide (j ∈ ns)) m)) := fun H1 e Q q =>
  ha H1 e _ fun H2 e2 => ⟨p, ns, rfl, ex_l (e.trans e2) h, hz, fun a S m hn hS => q _ _ (e2.trans (Ex.new hn)) ⟨a, m, rfl, by
    rw [upd_same, show S = fun j => decide (j ∈ ns) from funext hS]⟩⟩
theorem rv_sin {w : World} {a : Addr} {S : Int → Bool} {m : Nat} {k : Int} (h : H a = some (SetO w a S m)) : RV (rSIn w) (.int k) (.ref a) H (.bl (S k)) := fun H1 e Q q =>
  ⟨k, a, S, m, rfl, rfl, e _ _ h, q H1 (Ex.refl H1)⟩
/-- while xs -/
theorem et_truL {p : Addr} {xs : List V} (ha : Ev te σ H (.ref p)) (h : SqL K H p xs) : EvT (fun σ H Q => te σ H fun x H' => ∃ k, TruV K x H' k ∧ Q k H') σ H (!xs.isEmpty) := fun H1 e Q q =>
  ha H1 e _ fun H2 e2 => ⟨_, .inl ⟨xs, ex_l (e.trans e2) h, rfl⟩, q H2 e2⟩
/-- {k: v} -/
theorem evx_disp1 {k : Key} (hk : Ev ta σ H (kV k)) (hv : Ev tb σ H v) : EvX (tDisp [(ta, tb)]) σ H (fun u H' => ∃ d : Addr, u = .ref d ∧ H d = none ∧ H' d = some (.dK [(k, v)])) := fun H1 e Q q => by
  intro d hd
  have e1 : Ex H1 (upd H1 d (.dK [])) := Ex.new hd
  refine hk _ (e.trans e1) _ fun H2 e2 => hv _ ((e.trans e1).trans e2) _ fun H3 e3 => ?_
  have h3 := (e2.trans e3) d _ upd_same
  refine ⟨h3, [(k, v)], rfl, by simp, q _ _ (Ex.mut ((e1.trans e2).trans e3) hd) ⟨d, rfl, fresh_back e hd, ?_⟩⟩
  rw [upd_same]
  rfl
/-- list(range(n)) -/
theorem el_listRg {n : Int} (ha : Ev ta σ H (.int n)) (h0 : 0 ≤ n) (h1 : n ≤ 1000) : EvL (tLstRg (tRg1 ta)) σ H (((List.range n.toNat).map Int.ofNat).map V.int) := fun H1 e Q q =>
  ha H1 e _ fun H2 e2 => ⟨n, rfl, ⟨by omega, by omega, by omega, by omega, by omega⟩, fun p hp => q p _ (fresh_back e2 hp) (e2.trans (Ex.new hp)) (by
    rw [upd_same]
    unfold rgV
    rw [show (n - 0).toNat = n.toNat by omega, List.map_map]
    congr 2
    refine List.map_congr_left fun i _ => ?_
    show V.int (0 + (i : Int)) = V.int (Int.ofNat i)
    rw [Int.zero_add]
    rfl)⟩
theorem ev_all {bs : List Bool} (h : EvL te σ H (bs.map V.bl)) : Ev (tCB (rAll K) (tCons te tNil)) σ H (.bl (bs.all id)) := fun H1 e Q q =>
  h H1 e _ fun p H2 hp e2 h2 => ⟨p, bs, rfl, sq_of h2, q H2 e2⟩
theorem inV_int {xs : List Int} {a : Int} : inV (.int a) (xs.map V.int) = decide (a ∈ xs) := by
  unfold inV
  rw [List.any_map, Bool.eq_iff_iff, List.any_eq_true, decide_eq_true_eq]
  constructor
  · rintro ⟨y, hy, e⟩
    have : y = a := by simpa [eqV] using e
    exact this ▸ hy
  · intro h
    exact ⟨a, h, by simp [eqV]⟩
theorem flat_int (xs : List Int) : (xs.map V.int).all flatV = true := by
  rw [List.all_map, List.all_eq_true]
  exact fun _ _ => rfl
theorem rv_inI {p : Addr} {ns : List Int} {k : Int} (h : SqL K H p (ns.map V.int)) : RV (rIn K false) (.int k) (.ref p) H (.bl (decide (k ∈ ns))) := by
  rw [← inV_int]
  exact rv_inL h rfl (flat_int ns)
theorem rv_niI {p : Addr} {ns : List Int} {k : Int} (h : SqL K H p (ns.map V.int)) : RV (rIn K true) (.int k) (.ref p) H (.bl (!decide (k ∈ ns))) := by
  rw [← inV_int]
  exact rv_niL h rfl (flat_int ns)
/-- xs.pop(k) -/
theorem s_popAt {l : Addr} {xs : List V} {n : Int} {k : Nat} (hl : H l = some (.lst xs)) (ha : Ev ta σ H (.ref l)) (hn : Ev te σ H (.int n)) (hk : n = k) (lt : k < xs.length) (hz : xs.length ≤ 1000)
    (q : ∀ H1, Ex H H1 → D.nx σ (upd H1 l (.lst (xs.eraseIdx k)))) : tDrop (tBM K "list" rPopAt ta (tCons te tNil)) D σ H := by
  refine ha H (Ex.refl H) _ fun H1 e1 => ⟨.inl ⟨rfl, xs, sq_of (e1 l _ hl)⟩, ?_⟩
  refine hn H1 e1 _ fun H2 e2 => ?_
  refine ⟨l, xs, n, k, xs[k], rfl, rfl, (e1.trans e2) l _ hl, by omega, by omega, ?_, List.getElem?_eq_getElem lt, q H2 (e1.trans e2)⟩
  rw [hk]
  unfold seqIndex?
  have c : ¬ ((k : Int) < 0) := by omega
  simp only [if_neg c]
  rw [if_pos (by simp; omega)]
  simp
theorem eraseI (l : List Int) (k : Nat) : (l.map V.int).eraseIdx k = (l.eraseIdx k).map V.int := by
  induction l generalizing k with
  | nil => rfl
  | cons a r ih =>
    cases k with
    | zero => rfl
    | succ k => simp [ih]
theorem el_revL {xs : List V} {a : Addr} (ha : Ev te σ H (.ref a)) (h : SqL K H a xs) : EvL (tRevL K te) σ H xs.reverse := fun H1 e Q q =>
  ha H1 e _ fun H2 e2 => ⟨a, xs, rfl, ex_l (e.trans e2) h, fun p hp => q p _ (fresh_back e2 hp) (e2.trans (Ex.new hp)) upd_same⟩
theorem ev_eqNilN {xs : List V} (ha : EvL ta σ H xs) (hb : EvL tb σ H []) : Ev (tOp (rNil K true) ta tb) σ H (.bl xs.isEmpty) := fun H1 e Q q =>
  ha H1 e _ fun p H2 hp e2 h2 => hb H2 (e.trans e2) _ fun r H3 hr e3 h3 => ⟨p, r, xs, rfl, rfl, sq_of (e3 p _ h2), sq_of h3, by
    have z : (true == xs.isEmpty) = xs.isEmpty := by cases xs.isEmpty <;> rfl
    rw [z]
    exact q H3 (e2.trans e3)⟩
theorem q_dputK {tv : TE} {d : Addr} {kvs : List (Key × V)} {k : Key} (hd : H d = some (.dK kvs)) (hz : kvs.length < 100000) (hv : Ev tv σ H v) (ho : Ev td σ H (.ref d)) (hk : Ev ty σ H (kV k))
    (q : ∀ H1, Ex H H1 → tz D σ (upd H1 d (.dK (putK kvs k v)))) : tSeq (sDPut td ty tv) tz D σ H := s_dputK (D := { D with nx := tz D }) hd hz hv ho hk q
theorem q_appX {l : Addr} {xs : List V} (hl : H l = some (.lst xs)) (ha : Ev ta σ H (.ref l)) (h : EvX te σ H R) (hz : xs.length < 100000)
    (k : ∀ v H1, Ex H H1 → R v H1 → tz D σ (upd H1 l (.lst (xs ++ [v])))) : tSeq (tDrop (tBM K "list" rAppend ta (tCons te tNil))) tz D σ H := s_appX (D := { D with nx := tz D }) hl ha h hz k
/-- the lists at the places: the neighbours, rising -/
def NearAt (H : Hp) (ep : List (Int × Int)) (m : Nat) (cs : List (Addr × List Int)) : Prop := cs.length = m ∧ (∀ c ∈ cs, H c.1 = some (.lst (c.2.map V.int))) ∧ ∀ (i : Nat) (c : Addr × List Int), cs[i]? = some c → c.2.Pairwise (· < ·) ∧ ∀ y, y ∈ c.2 ↔ y ∈ near ep i
theorem NearAt.later {H H' : Hp} {ep : List (Int × Int)} {m : Nat} {cs : List (Addr × List Int)} (h : NearAt H ep m cs) (e : Ex H H') : NearAt H' ep m cs := ⟨h.1, fun c hc => e _ _ (h.2.1 c hc), h.2.2⟩
theorem evx_call2X {Dd : Hp → List V → (V → Hp → Prop) → Prop} {E : XK} {v1 : V} {R2' : V → Hp → Prop} (ha : Ev ta σ H v1) (hb : EvX tb σ H R2') (hs : ∀ v2 H1, Ex H H1 → R2' v2 H1 → ∃ R1, Dd H1 [v1, v2] R1 ∧ ∀ v H2, Ex H1 H2 → R1 v H2 → R v H2) :
    EvX (tCall (SpR Dd) [] E (tCons ta (tCons tb tNil))) σ H R := fun H1 e Q q =>
  ha H1 e _ fun H2 e2 => hb H2 (e.trans e2) _ fun v2 H3 e3 r => by
    obtain ⟨R1, d, k⟩ := hs v2 H3 ((e.trans e2).trans e3) r
    exact ⟨R1, by rw [List.append_nil]; exact d, fun v H4 e4 r => q v H4 ((e2.trans e3).trans e4) (k v H4 e4 r)⟩
theorem rv_eqB {a b : Bool} : RV rEq (.bl a) (.bl b) H (.bl (a == b)) := by
  have e : (a == b) = decide (V.bl a = V.bl b) := by cases a <;> cases b <;> rfl
  rw [e]
  exact rv_eq rfl
theorem rv_neB {a b : Bool} : RV rNe (.bl a) (.bl b) H (.bl (a != b)) := by
  have e : (a != b) = !decide (V.bl a = V.bl b) := by cases a <;> cases b <;> rfl
  rw [e]
  exact rv_ne rfl
/-- a tuple, of which but its length nothing is known -/
def TupR : V → Hp → Prop := fun v H' => ∃ (p : Addr) (r : List V), v = .ref p ∧ H' p = some (.tup r) ∧ r.length ≤ 10
theorem TupR.later {v : V} (h : TupR v H) (e : Ex H H') : TupR v H' := by
  obtain ⟨p, r, h1, h2, h3⟩ := h
  exact ⟨p, r, h1, e p _ h2, h3⟩
/-- n arguments of any kind -/
def EvAX (ta : TA) (σ : L2.St) (H : Hp) (n : Nat) : Prop := ∀ H1, Ex H H1 → ∀ Q : List V → Hp → Prop, (∀ vs H2, Ex H1 H2 → vs.length = n → Q vs H2) → ta σ H1 Q
theorem eax_nil : EvAX tNil σ H 0 := fun H1 _ Q q => q [] H1 (Ex.refl H1) rfl
theorem eax_cons {tr : TA} {n : Nat} {R : V → Hp → Prop} (h : EvX te σ H R) (hr : ∀ H1, Ex H H1 → EvAX tr σ H1 n) : EvAX (tCons te tr) σ H (n + 1) := fun H1 e Q q =>
  h H1 e _ fun v H2 e2 _ => hr H2 (e.trans e2) H2 (Ex.refl H2) _ fun vs H3 e3 hl => q (v :: vs) H3 (e2.trans e3) (by rw [List.length_cons, hl])
theorem evx_tupA {tr : TA} {n : Nat} (h : EvAX tr σ H n) (hn : n ≤ 10) : EvX (tTup tr) σ H TupR := fun H1 e Q q =>
  h H1 e _ fun vs H2 e2 hl => ⟨sz_of (by omega), fun p hp => q _ _ (e2.trans (Ex.new hp)) ⟨p, vs, rfl, upd_same, by omega⟩⟩
theorem evx_lstA {tr : TA} {n : Nat} (h : EvAX tr σ H n) (hn : n ≤ 10) : EvX (tLst tr) σ H (fun _ _ => True) := fun H1 e Q q =>
  h H1 e _ fun vs H2 e2 hl => ⟨sz_of (by omega), fun p hp => q _ _ (e2.trans (Ex.new hp)) True.intro⟩
/-- n arguments, each a tuple -/
def EvAT (ta : TA) (σ : L2.St) (H : Hp) (n : Nat) : Prop := ∀ H1, Ex H H1 → ∀ Q : List V → Hp → Prop, (∀ vs H2, Ex H1 H2 → vs.length = n → (∀ v ∈ vs, TupR v H2) → Q vs H2) → ta σ H1 Q
theorem eat_nil : EvAT tNil σ H 0 := fun H1 _ Q q => q [] H1 (Ex.refl H1) rfl fun _ m => nomatch m
theorem eat_cons {tr : TA} {n : Nat} (h : EvX te σ H TupR) (hr : ∀ H1, Ex H H1 → EvAT tr σ H1 n) : EvAT (tCons te tr) σ H (n + 1) := fun H1 e Q q =>
  h H1 e _ fun v H2 e2 r => hr H2 (e.trans e2) H2 (Ex.refl H2) _ fun vs H3 e3 hl ht => q (v :: vs) H3 (e2.trans e3) (by rw [List.length_cons, hl]) fun u m => by
    rcases List.mem_cons.mp m with rfl | m
    · exact r.later e3
    · exact ht u m
/-- [tuples][k] -/
theorem evx_ixT {tr : TA} {n : Nat} {vs : List V} {k : Int} (h : EvAT tr σ H n) (hb : ∀ H1, Ex H H1 → Ev tb σ H1 (.int k)) (h0 : 0 ≤ k) (h1 : k < n) (hz : n ≤ 100 := by decide) : EvX (tOp (rIxL K) (tLst tr) tb) σ H TupR := fun H1 e Q q =>
  h H1 e _ fun vs H2 e2 hl ht => ⟨sz_of (by omega), fun p hp => by
    have e3 : Ex H1 (upd H2 p (.lst vs)) := e2.trans (Ex.new hp)
    refine hb _ (e.trans e3) _ (Ex.refl _) _ fun H4 e4 => ?_
    have lt : k.toNat < vs.length := by omega
    refine ⟨p, vs, k, vs[k.toNat], rfl, rfl, sq_of (e4 p _ upd_same), ?_, q _ _ (e3.trans e4) ((ht _ (List.getElem_mem lt)).later ((Ex.new hp).trans e4))⟩
    have h5 := atI_nat (List.getElem?_eq_getElem lt)
    rwa [show ((k.toNat : Nat) : Int) = k by omega] at h5⟩
/-- [x for x in d if t], d a dict whose keys are numbers, locked -/
theorem el_lcKeys {d : Addr} {kvs : List (Key × V)} {rs : List Int} {j : Nat} {vs : List Nat} (f : Nat → Bool) (hd : H d = some (.dK kvs)) (hk : KeysI kvs rs) (hz : rs.length ≤ 40000) (hv : ∀ H1, Ev ta σ H1 (.ref d))
    (hw : ∀ x, wipe ((wipe σ vs).set j (some x)) vs = wipe σ vs)
    (ht : ∀ (i : Nat) (x : Int) H1, (∀ a o, a ≠ d → H a = some o → H1 a = some o) → rs[i]? = some x → EvT t ((wipe σ vs).set j (some (.int x))) H1 (f i))
    (hj : j < (wipe σ vs).length) :
    EvL (tLockE (tLc (iKeys ta) (gName j) t (tVar j) vs)) σ H (given rs.length f (fun i => .int (rs.getD i 0))) := fun H1 e Q q => by
  have hd1 := e d _ hd
  refine ⟨d, .dK kvs, hd1, True.intro, fun od => ?_⟩
  have off : ∀ H2, Ex (upd H1 d (.frz od (.dK kvs))) H2 → ∀ a o, a ≠ d → H a = some o → H2 a = some o := fun H2 e2 a o na ha => e2 a o ((upd_ne na).trans (e a o ha))
  refine hv _ _ (Ex.refl _) _ fun H2 e2 => ⟨d, od, rfl, .inl ⟨kvs, e2 d _ upd_same, fun Dl hD => ?_⟩⟩
  have Dd : Dl ≠ d := fun z => by
    rw [z, e2 d _ upd_same] at hD
    exact nomatch hD
  have lenK : kvs.length = rs.length := keysI_len hk
  refine ⟨fun n m H' => m = kvs.length - n ∧ n ≤ kvs.length ∧ Cw H2 f (fun i => .int (rs.getD i 0)) Dl n H', ⟨kvs.length, rfl, Nat.zero_le _, hD, Ex.new hD, upd_same⟩, ?_⟩
  rintro n m H' ⟨rfl, hn, p⟩
  have q2 := p.2.1 d _ (e2 d _ upd_same)
  by_cases lt : n < kvs.length
  · refine .inr ⟨⟨q2, lt⟩, fun H3 => Cw H2 f (fun i => .int (rs.getD i 0)) Dl (n + 1) H3, fun H3 p3 => ⟨kvs.length - (n + 1), by omega, rfl, lt, p3⟩, fun x H3 y => ?_⟩
    obtain ⟨rfl, k, v, hkv, rfl⟩ := y
    have lt2 : n < rs.length := by omega
    have ek : k = Sum.inl (rs[n]) := by
      have := congrArg (fun z => z[n]?) hk
      simp only [List.getElem?_map, hkv, List.getElem?_eq_getElem lt2] at this
      exact Option.some.inj this
    subst ek
    have eg : rs.getD n 0 = rs[n] := by simp [List.getD_eq_getElem?_getD, lt2]
    refine ⟨hw _, cw_turn p (by omega) (ht n _ H2 (off H2 e2) (List.getElem?_eq_getElem lt2)) fun hf => ?_⟩
    rw [eg]
    exact ev_var (by rw [List.getElem?_set_self hj]; rfl)
  · have e3 : n = kvs.length := by omega
    subst e3
    refine .inl ⟨⟨q2, Nat.le_refl _⟩, q2, ?_⟩
    obtain ⟨c1, c2, c3⟩ := p
    rw [lenK] at c3
    refine q Dl _ ?_ (lock_back hd1 (e2.trans c2)) ((upd_ne Dd).trans c3)
    have := fresh_back e2 c1
    exact (upd_ne Dd).symm.trans this
end
end MuK

namespace MuK
open PySem PySem.Spec PyProof.Rows L2 Evl
section
variable {X : Cx}
/-- two lists of the same things -/
def rSameR (K : PySem.W.Frag) : R2 := fun x y H Q => ∃ (a b : Addr) (ps : List Addr), x = .ref a ∧ y = .ref b ∧ SqL K H a (ps.map V.ref) ∧ SqL K H b (ps.map V.ref) ∧ Q (.bl false) H
theorem op_neRefs (hu : X.A.units + 64 < cLine) : OpR X (compareOp .NotEq) (rSameR X.K) := by
  intro pins s σ H x y v u Q I rx ry h
  obtain ⟨a, b, ws, rfl, rfl, ha, hb, q⟩ := h
  obtain rfl : v = Value.ref a := rx
  obtain rfl : u = Value.ref b := ry
  obtain ⟨us, r1, p1, _⟩ := I.list ha
  obtain ⟨vs, r2, p2, _⟩ := I.list hb
  have hu2 : X.A.units < cLine := by omega
  have l1 := r1.length
  have l2 := r2.length
  rw [List.length_map] at l1 l2
  refine SeqAt.RcNeAt.lists (e := fun _ => true) p1.isList p2.isList (by simp; omega) hu2 (fun j h1 h2 => ?_) _ _ _ _ ?_
  · have lt : j < ws.length := by
      simp at h1
      omega
    have ej : (ws.map V.ref)[j]? = some (V.ref ws[j]) := by
      rw [List.getElem?_map, List.getElem?_eq_getElem lt]
      rfl
    obtain ⟨w1, e1, q1⟩ := r1.get ej
    obtain ⟨w2, e2, q2⟩ := r2.get ej
    have g1 : us.toArray[j] = w1 := by simpa using (List.getElem?_eq_some_iff.mp e1).2
    have g2 : vs.toArray[j] = w2 := by simpa using (List.getElem?_eq_some_iff.mp e2).2
    obtain rfl : w1 = Value.ref ws[j] := q1
    obtain rfl : w2 = Value.ref ws[j] := q2
    rw [g1, g2]
    exact SeqAt.EqAt.same _
  · rw [show ((List.range us.toArray.size).all fun _ => true) = true from List.all_eq_true.mpr fun _ _ => rfl]
    exact ⟨.bl false, H, I, rfl, q⟩
/-- d.update(e) -/
def rDUpd : V → List V → Hp → VK → Prop := fun x xs H Q => ∃ (a b : Addr) (kvs more : List (Key × V)), x = .ref a ∧ xs = [.ref b] ∧ H a = some (.dK kvs) ∧ H b = some (.dK more) ∧ a ≠ b ∧ kvs.length + more.length ≤ 100000 ∧
  Q .non (upd H a (.dK (mergeK kvs more)))
theorem mergeK_len : ∀ (more kvs : List (Key × V)), (mergeK kvs more).length ≤ kvs.length + more.length
  | [], kvs => Nat.le_refl _
  | kv :: more, kvs => by
    have e : mergeK kvs (kv :: more) = mergeK (putK kvs kv.1 kv.2) more := rfl
    have h := mergeK_len more (putK kvs kv.1 kv.2)
    have h2 : (putK kvs kv.1 kv.2).length ≤ kvs.length + 1 := by
      unfold putK
      split
      · rw [List.length_map]
        omega
      · rw [List.length_append]
        exact Nat.le_refl _
    rw [e, List.length_cons]
    omega
theorem mt_dupd : MtM X "dict.update" rDUpd := by
  intro pins s σ H x xs v us Q I rx rxs h
  obtain ⟨a, b, kvs, more, rfl, rfl, ha, hb, ab, hz, q⟩ := h
  cases rx
  obtain ⟨u, rfl, ru⟩ := rxs.one
  obtain rfl : u = Value.ref b := ru
  obtain ⟨_, sa, va, ra, da⟩ := dk_of I.hok ha
  obtain ⟨_, sb, vb, rb, db⟩ := dk_of I.hok hb
  have la := ra.length
  have lb := rb.length
  have z : va.length + vb.length ≤ sizeLine := by
    rw [← la, ← lb, sizeLine_eq]
    omega
  refine call_meetsIn PySem.F.slot_dict_update da.typeIs PySem.F.entry_dict_update (PySem.F.args_dict_update_2 _ _) (meets_dict_update (mixKind X.prog X.w) a b ab sb) ⟨va, vb, da, db, z, fun h' d1 d2 same => ?_⟩
  have hm := mergeK_len more kvs
  refine ⟨.non, upd H a (.dK (mergeK kvs more)), ?_, rfl, q⟩
  refine I.write (x := a) (e := a) (t' := s.toks) (by rw [ha]; exact True.intro) (.inl rfl) (fun c u n e => by rw [same.2 c n]; exact e) ?_ (dk_new (by rw [sizeLine_eq]; omega) sa (KV.merge rb ra) d1)
  obtain ⟨o, es, ep, ho, _⟩ := d1
  exact ⟨o, ho⟩
end
section
variable {K : PySem.W.Frag} {σ : L2.St} {H H' : Hp} {ta tb te td ty tl : TE} {t u : TT} {x y z v : V} {D : Ends} {tu tw tz : TS} {R : V → Hp → Prop}
theorem ev_neRefs {a b : Addr} {ps : List (Addr × Int × Int)} (ha : Ev ta σ H (.ref a)) (hb : Ev tb σ H (.ref b)) (h1 : H a = some (.lst (ps.map fun p => V.ref p.1))) (h2 : H b = some (.lst (ps.map fun p => V.ref p.1))) :
    Ev (tOp (rSameR K) ta tb) σ H (.bl false) := ev_op ha hb fun H1 e Q q => ⟨a, b, ps.map (·.1), rfl, rfl, by rw [List.map_map]; exact sq_of (e _ _ h1), by rw [List.map_map]; exact sq_of (e _ _ h2), q H1 (Ex.refl H1)⟩
theorem keysI_merge : ∀ {more : List (Key × V)} {ms : List Int} {kvs : List (Key × V)} {rs : List Int}, KeysI kvs rs → rs.Nodup → KeysI more ms → ∃ rs', KeysI (mergeK kvs more) rs' ∧ rs'.Nodup ∧ ∀ x, x ∈ rs' ↔ x ∈ rs ∨ x ∈ ms
  | [], ms, kvs, rs, h, nd, k => by
    have : ms = [] := by
      have e := keysI_len k
      exact List.eq_nil_of_length_eq_zero e.symm
    subst this
    exact ⟨rs, h, nd, fun x => by simp⟩
  | kv :: more, [], kvs, rs, h, nd, k => by
    have e := keysI_len k
    simp at e
  | kv :: more, mx :: ms, kvs, rs, h, nd, k => by
    obtain ⟨e1, e2⟩ := List.cons.inj (show kv.1 :: more.map (·.1) = Sum.inl mx :: ms.map Sum.inl from k)
    have e : mergeK kvs (kv :: more) = mergeK (putK kvs (.inl mx) kv.2) more := by
      show mergeK (putK kvs kv.1 kv.2) more = _
      rw [e1]
    rw [e]
    by_cases m : mx ∈ rs
    · obtain ⟨rs', a1, a2, a3⟩ := keysI_merge (keysI_put2 h m kv.2) nd e2
      exact ⟨rs', a1, a2, fun x => by
        rw [a3, List.mem_cons]
        exact ⟨fun z => z.imp id .inr, fun z => z.elim .inl fun z => z.elim (fun z => .inl (z ▸ m)) .inr⟩⟩
    · have nd2 : (rs ++ [mx]).Nodup := by
        rw [List.nodup_append]
        exact ⟨nd, by simp, fun a ha b hb e => m (by rw [List.mem_singleton] at hb; rw [← hb, ← e]; exact ha)⟩
      obtain ⟨rs', a1, a2, a3⟩ := keysI_merge (keysI_put h m kv.2).2 nd2 e2
      exact ⟨rs', a1, a2, fun x => by
        rw [a3, List.mem_cons, List.mem_append, List.mem_singleton]
        exact or_assoc⟩
/-- {x: True for x in xs} -/
theorem evx_dcYes {a : Addr} {ns : List Int} {j : Nat} {vs : List Nat} {c : V} (h : Ev tl σ H (.ref a)) (hx : SqL K H a (ns.map V.int)) (nd : ns.Nodup) (hz : ns.length ≤ 1000) (hw : ∀ x, wipe ((wipe σ vs).set j (some x)) vs = wipe σ vs) (hj : j < σ.length) :
    EvX (tDc (iList K tl) (gName j) tYes (tVar j) (tC c) vs) σ H (fun v H' => ∃ (d : Addr) (kvs : List (Key × V)), v = .ref d ∧ H d = none ∧ H' d = some (.dK kvs) ∧ KeysI kvs ns) := fun H0 e Q q => by
  refine h H0 e _ fun H1 e1 => ⟨a, rfl, ⟨_, ex_l (e.trans e1) hx⟩, fun Dl hD => ?_⟩
  have e01 := e.trans e1
  refine ⟨fun n m H' => m = ns.length - n ∧ n ≤ ns.length ∧ Ex H1 H' ∧ ∃ kvs, H' Dl = some (.dK kvs) ∧ KeysI kvs (ns.take n), ⟨ns.length, rfl, Nat.zero_le _, Ex.new hD, [], upd_same, rfl⟩, ?_⟩
  rintro n m H' ⟨rfl, hn, e2, kvs, hk, kk⟩
  have hq := ex_l (e01.trans e2) hx
  by_cases lt : n < ns.length
  · have ex : (ns.map V.int)[n]? = some (.int ns[n]) := by rw [List.getElem?_map, List.getElem?_eq_getElem lt]; rfl
    refine .inr ⟨⟨_, _, hq, ex⟩, fun H' => Ex H1 H' ∧ ∃ kvs, H' Dl = some (.dK kvs) ∧ KeysI kvs (ns.take (n + 1)), fun H2 p2 => ⟨ns.length - (n + 1), by omega, rfl, lt, p2.1, p2.2⟩, fun x H2 y => ?_⟩
    obtain ⟨rfl, hy⟩ := y
    have ex2 := hy _ hq
    rw [ex] at ex2
    obtain rfl := Option.some.inj ex2
    have nt : ns[n] ∉ ns.take n := fun m => by
      obtain ⟨i, hi, e⟩ := List.getElem_of_mem m
      rw [List.length_take] at hi
      rw [List.getElem_take] at e
      have := (List.getElem?_inj (i := i) (j := n) (by omega) nd).mp (by rw [List.getElem?_eq_getElem (by omega), List.getElem?_eq_getElem lt, e])
      omega
    refine ⟨hw _, ?_⟩
    simp only [tYes, ↓reduceIte]
    refine (show Ev (tVar j) ((wipe σ vs).set j (some (.int ns[n]))) H2 (.int ns[n]) from ev_var (List.getElem?_set_self (by rw [wipe_length]; exact hj))) H2 (Ex.refl H2) _ fun H3 e3 => ?_
    refine ⟨kvs, .inl ns[n], rfl, e3 _ _ hk, sz_lt (by have := keysI_len kk; rw [List.length_take] at this; omega), Ex.mut (e2.trans e3) hD, _, upd_same, ?_⟩
    rw [List.take_add_one, List.getElem?_eq_getElem lt]
    exact (keysI_put kk nt c).2
  · have e3 : n = ns.length := by omega
    subst e3
    rw [List.take_length] at kk
    exact .inl ⟨⟨_, hq, by rw [List.length_map]; exact Nat.le_refl _⟩, q _ _ (e1.trans e2) ⟨Dl, kvs, rfl, fresh_back e01 hD, hk, kk⟩⟩
theorem q_updD {d : Addr} {kvs : List (Key × V)} {ms : List Int} (hd : H d = some (.dK kvs)) (ha : Ev ta σ H (.ref d)) (h : EvX te σ H (fun v H' => ∃ (c : Addr) (more : List (Key × V)), v = .ref c ∧ H c = none ∧ H' c = some (.dK more) ∧ KeysI more ms)) (hz : kvs.length + ms.length ≤ 100000)
    (k : ∀ H1 more, Ex H H1 → KeysI more ms → tz D σ (upd H1 d (.dK (mergeK kvs more)))) : tSeq (tDrop (tBM K "dict" rDUpd ta (tCons te tNil))) tz D σ H := by
  refine ha H (Ex.refl H) _ fun H1 e1 => ⟨.inr (.inr (.inl ⟨rfl, .inl ⟨_, e1 d _ hd⟩⟩)), ?_⟩
  refine h H1 e1 _ fun v H2 e2 r => ?_
  obtain ⟨c, more, rfl, hc, h2, hk⟩ := r
  refine ⟨d, c, kvs, more, rfl, rfl, (e1.trans e2) d _ hd, h2, fun z => ?_, by rw [keysI_len hk]; exact hz, k H2 more (e1.trans e2) hk⟩
  rw [← z, hd] at hc
  cases hc
theorem el_catVV {xs ys : List V} {a b : Addr} (ha : Ev ta σ H (.ref a)) (h0 : H a = some (.lst xs)) (hb : Ev tb σ H (.ref b)) (h1 : H b = some (.lst ys)) (hz : xs.length + ys.length ≤ 100000) : EvL (tOp rCat ta tb) σ H (xs ++ ys) := fun H1 e Q q =>
  ha H1 e _ fun H2 e2 => hb H2 (e.trans e2) _ fun H3 e3 => ⟨a, b, xs, ys, rfl, rfl, ((e.trans e2).trans e3) a _ h0, ((e.trans e2).trans e3) b _ h1, sz_of hz, fun l hl => q l _ (fresh_back (e2.trans e3) hl) ((e2.trans e3).trans (Ex.new hl)) upd_same⟩
/-- f(e, y), e a new list -/
theorem evx_callN2 {Dd : Hp → List V → (V → Hp → Prop) → Prop} {E : XK} {xs : List V} (ha : EvL ta σ H xs) (hb : ∀ H1, Ex H H1 → Ev tb σ H1 y) (hs : ∀ p H1, Ex H H1 → H1 p = some (.lst xs) → ∃ R1, Dd H1 [.ref p, y] R1 ∧ ∀ v H2, Ex H1 H2 → R1 v H2 → R v H2) :
    EvX (tCall (SpR Dd) [] E (tCons ta (tCons tb tNil))) σ H R := fun H1 e Q q =>
  ha H1 e _ fun p H2 _ e2 h2 => hb H2 (e.trans e2) H2 (Ex.refl H2) _ fun H3 e3 => by
    obtain ⟨R1, d, k⟩ := hs p H3 ((e.trans e2).trans e3) (e3 p _ h2)
    exact ⟨R1, by rw [List.append_nil]; exact d, fun v H4 e4 r => q v H4 ((e2.trans e3).trans e4) (k v H4 e4 r)⟩
theorem ev_eqNilX (ha : EvX ta σ H (fun v H' => ∃ p : Addr, v = .ref p ∧ H' p = some (.lst []))) (hb : EvL tb σ H []) : Ev (tOp (rNil K true) ta tb) σ H (.bl true) := fun H1 e Q q =>
  ha H1 e _ fun v H2 e2 r => by
    obtain ⟨p, rfl, h2⟩ := r
    exact hb H2 (e.trans e2) _ fun r H3 hr e3 h3 => ⟨p, r, [], rfl, rfl, sq_of (e3 p _ h2), sq_of h3, q H3 (e2.trans e3)⟩
/-- sorted(d), d new -/
theorem evx_sortedDX {ks : List Int → Prop} (hd : EvX te σ H (fun v H' => ∃ (d : Addr) (kvs : List (Key × V)) (rs : List Int), v = .ref d ∧ H' d = some (.dK kvs) ∧ KeysI kvs rs ∧ rs.length < 64 ∧ ks rs)) :
    EvX (tCB rSDI (tCons te tNil)) σ H (fun v H' => ∃ (p : Addr) (ys rs : List Int), v = .ref p ∧ H p = none ∧ H' p = some (.lst (ys.map V.int)) ∧ ys.Perm rs ∧ ys.Pairwise (· ≤ ·) ∧ ks rs) := fun H1 e Q q => by
  refine hd H1 e _ fun v H2 e2 r => ?_
  obtain ⟨d, kvs, rs, rfl, h, hk, hz, hr⟩ := r
  exact ⟨d, kvs, rs, rfl, .inl h, hk, hz, fun ys p hp hs hn => q _ _ (e2.trans (Ex.new hn)) ⟨p, ys, rs, rfl, fresh_back (e.trans e2) hn, upd_same, hp, hs, hr⟩⟩
end
/-! ### the groups -/
noncomputable def cls (ep : List (Int × Int)) (m : Nat) (x : Int) : List Int := ((List.range m).map Int.ofNat).filter fun y => @decide (Rch ep x y) (Classical.propDecidable _)
theorem mem_cls {ep : List (Int × Int)} {m : Nat} {x y : Int} : y ∈ cls ep m x ↔ (0 ≤ y ∧ y < (m : Int)) ∧ Rch ep x y := by
  unfold cls
  rw [List.mem_filter, List.mem_map, @decide_eq_true_eq _ (Classical.propDecidable _)]
  refine and_congr ⟨?_, fun h => ⟨y.toNat, List.mem_range.mpr (by omega), by show ((y.toNat : Nat) : Int) = y; omega⟩⟩ Iff.rfl
  rintro ⟨i, hi, rfl⟩
  have := List.mem_range.mp hi
  exact ⟨Int.natCast_nonneg i, by show (i : Int) < m; omega⟩
theorem cls_up {ep : List (Int × Int)} {m : Nat} {x : Int} : (cls ep m x).Pairwise (· < ·) := by
  unfold cls
  refine List.Pairwise.filter _ ?_
  rw [List.pairwise_map]
  exact List.pairwise_lt_range.imp fun h => by show (_ : Int) < _; exact Int.ofNat_lt.mpr h
theorem up_one : ∀ {l m : List Int}, l.Pairwise (· < ·) → m.Pairwise (· < ·) → (∀ x, x ∈ l ↔ x ∈ m) → l = m
  | [], [], _, _, _ => rfl
  | [], b :: m, _, _, h => nomatch (h b).mpr List.mem_cons_self
  | a :: l, [], _, _, h => nomatch (h a).mp List.mem_cons_self
  | a :: l, b :: m, hl, hm, h => by
    obtain ⟨l1, l2⟩ := List.pairwise_cons.mp hl
    obtain ⟨m1, m2⟩ := List.pairwise_cons.mp hm
    have e : a = b := by
      rcases List.mem_cons.mp ((h a).mp List.mem_cons_self) with z | z
      · exact z
      · rcases List.mem_cons.mp ((h b).mpr List.mem_cons_self) with y | y
        · exact y.symm
        · have := m1 a z
          have := l1 b y
          omega
    subst e
    rw [up_one l2 m2 fun x => ?_]
    have hx := h x
    rw [List.mem_cons, List.mem_cons] at hx
    constructor
    · intro z
      rcases hx.mp (.inr z) with rfl | y
      · have := l1 _ z
        omega
      · exact y
    · intro z
      rcases hx.mpr (.inr z) with rfl | y
      · have := m1 _ z
        omega
      · exact y
theorem sorted_cls {ep : List (Int × Int)} {m : Nat} {x : Int} {ys rs : List Int} (hp : ys.Perm rs) (hs : ys.Pairwise (· ≤ ·)) (nd : rs.Nodup) (h : ∀ y, y ∈ rs ↔ Rch ep x y) (hr : ∀ y, Rch ep x y → 0 ≤ y ∧ y < (m : Int)) : ys = cls ep m x :=
  up_one ((List.Pairwise.and hs (hp.nodup_iff.mpr nd)).imp fun h => by have := h.1; have := h.2; omega) cls_up fun y => by
    rw [hp.mem_iff, h, mem_cls]
    exact ⟨fun z => ⟨hr y z, z⟩, fun z => z.2⟩
noncomputable def grpM (ep : List (Int × Int)) (m : Nat) : Nat → List (List Int)
  | 0 => []
  | n + 1 => if (grpM ep m n).any (fun g => decide ((n : Int) ∈ g)) then grpM ep m n else grpM ep m n ++ [cls ep m n]
theorem grpM_skip {ep : List (Int × Int)} {m n : Nat} (h : ∃ g ∈ grpM ep m n, (n : Int) ∈ g) : grpM ep m (n + 1) = grpM ep m n := by
  show (if _ then _ else _) = _
  rw [if_pos]
  obtain ⟨g, hg, hn⟩ := h
  exact List.any_eq_true.mpr ⟨g, hg, decide_eq_true hn⟩
theorem grpM_new {ep : List (Int × Int)} {m n : Nat} (h : ¬ ∃ g ∈ grpM ep m n, (n : Int) ∈ g) : grpM ep m (n + 1) = grpM ep m n ++ [cls ep m n] := by
  show (if _ then _ else _) = _
  rw [if_neg]
  intro z
  obtain ⟨g, hg, hn⟩ := List.any_eq_true.mp z
  exact h ⟨g, hg, of_decide_eq_true hn⟩
theorem grpM_len (ep : List (Int × Int)) (m : Nat) : ∀ n, (grpM ep m n).length ≤ n
  | 0 => Nat.le_refl _
  | n + 1 => by
    have h := grpM_len ep m n
    by_cases c : ∃ g ∈ grpM ep m n, (n : Int) ∈ g
    · rw [grpM_skip c]
      omega
    · rw [grpM_new c, List.length_append, List.length_singleton]
      omega
theorem grpM_in (ep : List (Int × Int)) (m : Nat) : ∀ n, ∀ g ∈ grpM ep m n, g.length ≤ m ∧ ∀ y ∈ g, 0 ≤ y ∧ y < (m : Int)
  | 0 => fun _ h => nomatch h
  | n + 1 => fun g h => by
    by_cases c : ∃ g ∈ grpM ep m n, (n : Int) ∈ g
    · rw [grpM_skip c] at h
      exact grpM_in ep m n g h
    · rw [grpM_new c] at h
      rcases List.mem_append.mp h with h | h
      · exact grpM_in ep m n g h
      · obtain rfl := List.mem_singleton.mp h
        have r : ∀ y ∈ cls ep m n, 0 ≤ y ∧ y < (m : Int) := fun y hy => (mem_cls.mp hy).1
        exact ⟨ints_few (cls_up.imp fun h => by omega) r, r⟩
end MuK

/- g: what a reading's expression evaluates to, from the outside in; s: a side condition -/
local macro_rules | `(tactic| walk_at "mu s") => `(tactic| first | assumption | rfl | omega | decide | decide +kernel | skip)
local macro_rules | `(tactic| walk_at "mu g") => `(tactic| first
  | (with_reducible exact Evl.ev_c)
  | exact Evl.ev_var rfl
  | ((with_reducible apply Evl.ev_op) <;> walk_at "mu g")
  | ((with_reducible apply Evl.ev_un) <;> walk_at "mu g")
  | (with_reducible exact Evl.rv_I0)
  | (with_reducible exact MuK.rv_eqI)
  | (with_reducible exact MuK.rv_eqS)
  | (with_reducible exact MuK.rv_neI)
  | (with_reducible exact MuK.rv_neS)
  | ((with_reducible apply Evl.rv_I) <;> walk_at "mu side")
  | (with_reducible exact Evl.ru_neg)
  | (with_reducible exact Evl.ea_nil)
  | ((with_reducible apply Evl.ea_cons) <;> walk_at "mu g")
  | (with_reducible exact MuK.rc_min2)
  | (with_reducible exact MuK.rc_max2)
  | (with_reducible exact MuK.rc_gcdI)
  | (with_reducible exact MuK.rc_intB)
  | ((with_reducible apply Evl.ev_cb) <;> walk_at "mu g")
  | ((with_reducible apply MuK.ev_callV) <;> walk_at "mu g")
  | ((with_reducible apply Evl.et_test) <;> walk_at "mu g")
  | ((with_reducible apply Evl.et_B) <;> walk_at "mu g")
  | ((with_reducible apply Evl.et_not) <;> walk_at "mu g")
  | ((with_reducible refine' Evl.et_and ?_ (fun _ => ?_)) <;> walk_at "mu g")
  | ((with_reducible refine' Evl.et_or ?_ (fun _ => ?_)) <;> walk_at "mu g")
  | ((with_reducible apply Evl.eu_tup) <;> walk_at "mu g")
  | ((with_reducible apply Evl.el_lst) <;> walk_at "mu g")
  | ((with_reducible apply MuK.ev_ixNew) <;> walk_at "mu g")
  | (show List.length _ ≤ (100000 : Nat); simp; done)
  | skip)
local macro_rules | `(tactic| walk_at "mu side") => `(tactic| first
  | (show L2.CDiv _ _; exact ⟨by decide, by decide⟩)
  | (show (0 : Int) < _; decide)
  | (show L2.CPow _ _; exact ⟨by decide, by decide, by decide⟩)
  | skip)

namespace MuK
open PySem PySem.Spec PyProof.Rows L2 Evl
def topS (i : Nat) : Stmt := PySem.Challenge.pw_muchalike_k21_groups.main.body.getD i (.Pass ⟨0, 0, 0, 0⟩)
abbrev s_p_neighbours : Stmt := topS 1
theorem sc_p_neighbours : FnScope ["pairs", "many", "beside", "_", "pair", "numbers"] ["pairs", "many"] (defScope s_p_neighbours) := ⟨rfl, rfl, rfl, by decide +kernel, rfl, by decide +kernel, by decide +kernel⟩
abbrev s_p_reached_from : Stmt := topS 2
theorem sc_p_reached_from : FnScope ["start", "neighbours", "ahead", "edge", "further", "number", "other"] ["start", "neighbours"] (defScope s_p_reached_from) := ⟨rfl, rfl, rfl, by decide +kernel, rfl, by decide +kernel, by decide +kernel⟩
abbrev s_p_groups : Stmt := topS 3
theorem sc_p_groups : FnScope ["pairs", "many", "neighbours", "grouped", "told", "number", "group", "member"] ["pairs", "many"] (defScope s_p_groups) := ⟨rfl, rfl, rfl, by decide +kernel, rfl, by decide +kernel, by decide +kernel⟩
abbrev s_l_cell_at : Stmt := topS 5
theorem sc_l_cell_at : FnScope ["_law_script", "_law_k"] ["_law_script", "_law_k"] (defScope s_l_cell_at) := ⟨rfl, rfl, rfl, by decide +kernel, rfl, by decide +kernel, by decide +kernel⟩
abbrev s_l_mix : Stmt := topS 6
theorem sc_l_mix : FnScope ["_law_cell", "_law_k", "_law_turn", "_law_number"] ["_law_cell", "_law_k"] (defScope s_l_mix) := ⟨rfl, rfl, rfl, by decide +kernel, rfl, by decide +kernel, by decide +kernel⟩
abbrev s_l_count : Stmt := topS 8
theorem sc_l_count : FnScope ["_law_script"] ["_law_script"] (defScope s_l_count) := ⟨rfl, rfl, rfl, by decide +kernel, rfl, by decide +kernel, by decide +kernel⟩
abbrev s_l_behind : Stmt := topS 9
theorem sc_l_behind : FnScope ["_law_many", "_law_pick", "_law_number"] ["_law_many", "_law_pick"] (defScope s_l_behind) := ⟨rfl, rfl, rfl, by decide +kernel, rfl, by decide +kernel, by decide +kernel⟩
abbrev s_l_some_pairs : Stmt := topS 10
theorem sc_l_some_pairs : FnScope ["_law_script", "_law_many", "_law_told", "_law_k", "_law_pick", "_law_i", "_law_j"] ["_law_script", "_law_many"] (defScope s_l_some_pairs) := ⟨rfl, rfl, rfl, by decide +kernel, rfl, by decide +kernel, by decide +kernel⟩
abbrev s_l_near : Stmt := topS 11
theorem sc_l_near : FnScope ["_law_pairs", "_law_one", "_law_told", "_law_pair"] ["_law_pairs", "_law_one"] (defScope s_l_near) := ⟨rfl, rfl, rfl, by decide +kernel, rfl, by decide +kernel, by decide +kernel⟩
abbrev s_l_steps : Stmt := topS 12
theorem sc_l_steps : FnScope ["_law_pairs", "_law_one", "_law_told", "_law_row", "_law_at", "_law_other"] ["_law_pairs", "_law_one"] (defScope s_l_steps) := ⟨rfl, rfl, rfl, by decide +kernel, rfl, by decide +kernel, by decide +kernel⟩
abbrev s_l_due : Stmt := topS 13
theorem sc_l_due : FnScope ["_law_pairs", "_law_many", "_law_told", "_law_met", "_law_number", "_law_group"] ["_law_pairs", "_law_many"] (defScope s_l_due) := ⟨rfl, rfl, rfl, by decide +kernel, rfl, by decide +kernel, by decide +kernel⟩
abbrev s_l_cut : Stmt := topS 14
theorem sc_l_cut : FnScope ["_law_script", "_law_most", "_law_cell"] ["_law_script"] (defScope s_l_cut) := ⟨rfl, rfl, rfl, by decide +kernel, rfl, by decide +kernel, by decide +kernel⟩
abbrev s_p_law : Stmt := topS 15
theorem sc_p_law : FnScope ["_law_script", "_law_many", "_law_pairs", "_law_handed", "_law_turn", "_law_given", "_law_group", "_law_number"] ["_law_script"] (defScope s_p_law) := ⟨rfl, rfl, rfl, by decide +kernel, rfl, by decide +kernel, by decide +kernel⟩
structure Txt (K : PySem.W.Frag) (mg : Str → Option Value) (base : Heap) where
  a_p_neighbours : Addr
  d_p_neighbours : FuncData
  F_p_neighbours : Fun K "_neighbours" "_neighbours" s_p_neighbours a_p_neighbours d_p_neighbours
  b_p_neighbours : Binds K d_p_neighbours ["pairs", "many"] []
  g_p_neighbours : mg "_neighbours" = some (.ref a_p_neighbours)
  a_p_reached_from : Addr
  d_p_reached_from : FuncData
  F_p_reached_from : Fun K "_reached_from" "_reached_from" s_p_reached_from a_p_reached_from d_p_reached_from
  b_p_reached_from : Binds K d_p_reached_from ["start", "neighbours"] []
  g_p_reached_from : mg "_reached_from" = some (.ref a_p_reached_from)
  a_p_groups : Addr
  d_p_groups : FuncData
  F_p_groups : Fun K "groups" "groups" s_p_groups a_p_groups d_p_groups
  b_p_groups : Binds K d_p_groups ["pairs", "many"] []
  g_p_groups : mg "groups" = some (.ref a_p_groups)
  a_l_cell_at : Addr
  d_l_cell_at : FuncData
  F_l_cell_at : Fun K "_law_cell_at" "_law_cell_at" s_l_cell_at a_l_cell_at d_l_cell_at
  b_l_cell_at : Binds K d_l_cell_at ["_law_script", "_law_k"] []
  g_l_cell_at : mg "_law_cell_at" = some (.ref a_l_cell_at)
  a_l_mix : Addr
  d_l_mix : FuncData
  F_l_mix : Fun K "_law_mix" "_law_mix" s_l_mix a_l_mix d_l_mix
  b_l_mix : Binds K d_l_mix ["_law_cell", "_law_k"] []
  g_l_mix : mg "_law_mix" = some (.ref a_l_mix)
  a_l_count : Addr
  d_l_count : FuncData
  F_l_count : Fun K "_law_count" "_law_count" s_l_count a_l_count d_l_count
  b_l_count : Binds K d_l_count ["_law_script"] []
  g_l_count : mg "_law_count" = some (.ref a_l_count)
  a_l_behind : Addr
  d_l_behind : FuncData
  F_l_behind : Fun K "_law_behind" "_law_behind" s_l_behind a_l_behind d_l_behind
  b_l_behind : Binds K d_l_behind ["_law_many", "_law_pick"] []
  g_l_behind : mg "_law_behind" = some (.ref a_l_behind)
  a_l_some_pairs : Addr
  d_l_some_pairs : FuncData
  F_l_some_pairs : Fun K "_law_some_pairs" "_law_some_pairs" s_l_some_pairs a_l_some_pairs d_l_some_pairs
  b_l_some_pairs : Binds K d_l_some_pairs ["_law_script", "_law_many"] []
  g_l_some_pairs : mg "_law_some_pairs" = some (.ref a_l_some_pairs)
  a_l_near : Addr
  d_l_near : FuncData
  F_l_near : Fun K "_law_near" "_law_near" s_l_near a_l_near d_l_near
  b_l_near : Binds K d_l_near ["_law_pairs", "_law_one"] []
  g_l_near : mg "_law_near" = some (.ref a_l_near)
  a_l_steps : Addr
  d_l_steps : FuncData
  F_l_steps : Fun K "_law_steps" "_law_steps" s_l_steps a_l_steps d_l_steps
  b_l_steps : Binds K d_l_steps ["_law_pairs", "_law_one"] []
  g_l_steps : mg "_law_steps" = some (.ref a_l_steps)
  a_l_due : Addr
  d_l_due : FuncData
  F_l_due : Fun K "_law_due" "_law_due" s_l_due a_l_due d_l_due
  b_l_due : Binds K d_l_due ["_law_pairs", "_law_many"] []
  g_l_due : mg "_law_due" = some (.ref a_l_due)
  a_l_cut : Addr
  d_l_cut : FuncData
  F_l_cut : Fun K "_law_cut" "_law_cut" s_l_cut a_l_cut d_l_cut
  b_l_cut : Binds K d_l_cut ["_law_script"] []
  g_l_cut : mg "_law_cut" = some (.ref a_l_cut)
  z_bool : mg "bool" = none
  z_int : mg "int" = none
  z_isinstance : mg "isinstance" = none
  z_len : mg "len" = none
  z_list : mg "list" = none
  z_min : mg "min" = none
  z_range : mg "range" = none
  z_sorted : mg "sorted" = none
section
variable {P : Program} {w : World} {K : PySem.W.Frag} {mg : Str → Option Value} {base : Heap}

def D_l_mix : Hp → List V → V → Prop := fun _ vs v => ∃ (c : Int) (k : Nat), vs = [.int c, .int k] ∧ k ≤ 1000 ∧ v = .int (mix c k)
theorem ok_l_mix (T : Txt K mg base) : FnOk P w K mg base CX0 1 T.a_l_mix T.d_l_mix ["_law_cell", "_law_k"] (SpVal D_l_mix) := by
  refine T.F_l_mix.ok sc_l_mix (fun vs H Q E h => ?_) (fun cdv A outer s H vs Q E hr h => ?_)
  · obtain ⟨v, ⟨c, k, rfl, _⟩, _⟩ := h
    rfl
  · obtain ⟨v, ⟨c, k, rfl, hk, rfl⟩, q⟩ := h
    refine ⟨_, (pss_cons (ps_if (pt_cmpR op_ge (pv 0) (pe_op op_pow pe_int pe_int) (nomark _))
      (pss_cons (ps_for PassesOwn.never rfl (pi_range1 (by rfl) T.z_range (pa_cons (pv 1) pa_nil)) (pg_name (i := 2) sc_l_mix.nd rfl (.inl rfl))
      (pss_one (ps_set (i := 0) sc_l_mix.nd rfl (.inl rfl) (pe_op op_fdiv (pv 0) (pe_op op_pow pe_int pe_int)))))
      (pss_one (ps_ret (pe_op op_mod (pv 0) (pe_op op_pow pe_int pe_int)))))
      pss_nil)
      (pss_cons (ps_set (i := 3) sc_l_mix.nd rfl (.inl rfl) (pe_op op_mod (pe_op op_mul (pe_op op_add (pe_op op_add (pe_op op_mod (pv 0) pe_int) (pe_op op_mul (pe_op op_mul (pv 1) (pv 1)) pe_int)) (pv 1)) pe_int) pe_int))
      (pss_cons (ps_set (i := 3) sc_l_mix.nd rfl (.inl rfl) (pe_op op_mod (pe_op op_mul (pv 3) (pv 3)) pe_int))
      (pss_one (ps_ret (pe_op op_fdiv (pe_op op_mod (pe_op op_mul (pv 3) (pe_op op_add (pv 3) pe_int)) pe_int) pe_int)))))), ?_⟩
    refine q_when (b := decide ((10 : Int) ^ (18 : Int).toNat ≤ c)) (by walk_at "mu g") (fun hb H1 e1 => ?_) (fun hb H1 e1 => ?_)
    · refine q_forR1 (n := (k : Int)) (by walk_at "mu g") (by omega) (fun i σ' H' => Ex H H' ∧ ∃ x3 x4, σ' = [some (.int (divs (10 ^ 6) i c)), some (.int k), x3, x4]) (fun H2 e2 => ⟨e1.trans e2, none, none, rfl⟩) (fun i σ' H' hi hp => ?_) (fun σ' H' hp => ?_)
      · obtain ⟨e2, x3, x4, rfl⟩ := hp
        refine s_asg (by walk_at "mu g") fun H3 e3 => ?_
        exact ⟨e2.trans e3, _, _, rfl⟩
      · obtain ⟨e2, x3, x4, rfl⟩ := hp
        refine s_ret (v := .int (mix c k)) ?_ fun H3 e3 => q H3 (e2.trans e3)
        have hb' : c ≥ 10 ^ 18 := of_decide_eq_true hb
        have e : mix c k = divs (10 ^ 6) k c % 10 ^ 6 := by
          unfold mix
          rw [if_pos hb']
        rw [e]
        exact ev_is (by walk_at "mu g") (by first | rfl | simp)
    · have hb' : ¬ c ≥ 10 ^ 18 := of_decide_eq_false hb
      have r1 : ∀ z : Int, 0 ≤ z % 2147483629 ∧ z % 2147483629 < 2147483629 := fun z => ⟨Int.emod_nonneg z (by decide), Int.emod_lt_of_pos z (by decide)⟩
      have r2 : ∀ z : Int, 0 ≤ z % 2147483587 ∧ z % 2147483587 < 2147483587 := fun z => ⟨Int.emod_nonneg z (by decide), Int.emod_lt_of_pos z (by decide)⟩
      have r3 : 0 ≤ c % 1000003 ∧ c % 1000003 < 1000003 := ⟨Int.emod_nonneg c (by decide), Int.emod_lt_of_pos c (by decide)⟩
      refine q_asg (by walk_at "mu g"; all_goals (show CMul _ _; first | exact .inr ⟨by decide, by decide⟩ | exact .inr ⟨by omega, by omega⟩)) fun H2 e2 => ?_
      refine q_asg (by walk_at "mu g"; all_goals (show CMul _ _; have := r1 ((c % 1000003 + k * k * 7919 + k) * 48271); exact .inr ⟨by omega, by omega⟩)) fun H3 e3 => ?_
      refine s_ret (v := .int (mix c k)) ?_ fun H4 e4 => q H4 (((e1.trans e2).trans e3).trans e4)
      unfold mix
      rw [if_neg hb']
      refine ev_is (by walk_at "mu g"; all_goals (show CMul _ _; exact .inr ⟨by have := r2 ((((c % 1000003 + k * k * 7919 + k) * 48271 % 2147483629) * ((c % 1000003 + k * k * 7919 + k) * 48271 % 2147483629))); omega, by have := r2 ((((c % 1000003 + k * k * 7919 + k) * 48271 % 2147483629) * ((c % 1000003 + k * k * 7919 + k) * 48271 % 2147483629))); omega⟩)) rfl

def D_l_cell_at (K : PySem.W.Frag) : Hp → List V → V → Prop := fun H vs v => ∃ (a : Addr) (ns : List Int) (k : Nat), vs = [.ref a, .int k] ∧ SqL K H a (ns.map V.int) ∧ v = .int (ns.getD k 0)
theorem ok_l_cell_at (T : Txt K mg base) : FnOk P w K mg base CX0 1 T.a_l_cell_at T.d_l_cell_at ["_law_script", "_law_k"] (SpVal (D_l_cell_at K)) := by
  refine T.F_l_cell_at.ok sc_l_cell_at (fun vs H Q E h => ?_) (fun cdv A outer s H vs Q E hr h => ?_)
  · obtain ⟨v, ⟨a, ns, k, rfl, _⟩, _⟩ := h
    rfl
  · obtain ⟨v, ⟨a, ns, k, rfl, hs, rfl⟩, q⟩ := h
    refine ⟨_, (pss_cons (ps_if (pt_cmpR op_lt (pv 1) (pe_callB call_len_seq (by rfl) T.z_len (by decide +kernel) (pa_cons (pv 0) pa_nil)) (nomark _))
      (pss_one (ps_ret (pe_ix ix_list (pv 0) (pv 1) (fun _ _ => rfl))))
      pss_nil)
      (pss_one (ps_ret pe_int))), ?_⟩
    refine q_when (b := decide ((k : Int) < ((ns.map V.int).length : Int))) (et_test (ev_op (ev_var rfl) (ev_len (ev_var rfl) hs) rv_I0)) (fun hb H1 e1 => ?_) (fun hb H1 e1 => ?_)
    · have hk : k < ns.length := by
        have := of_decide_eq_true hb
        rw [List.length_map] at this
        omega
      refine s_ret (v := .int (ns.getD k 0)) (ev_op (ev_var rfl) (ev_var rfl) (rv_ixL (ex_l e1 hs) (atI_nat (j := k) ?_))) fun H2 e2 => q H2 (e1.trans e2)
      rw [List.getElem?_map, List.getD_eq_getElem?_getD, List.getElem?_eq_getElem hk]
      rfl
    · have hk : ¬ k < ns.length := by
        have := of_decide_eq_false hb
        rw [List.length_map] at this
        omega
      have e0 : ns.getD k 0 = 0 := by
        rw [List.getD_eq_getElem?_getD, List.getElem?_eq_none (by omega)]
        rfl
      rw [e0] at q
      exact s_ret (v := .int 0) (by walk_at "mu g") fun H2 e2 => q H2 (e1.trans e2)

def D_l_cut (K : PySem.W.Frag) : Hp → List V → List V → Prop := fun H vs xs => ∃ (a : Addr) (ns : List Int), vs = [.ref a] ∧ SqL K H a (ns.map V.int) ∧ ns.length ≤ 63 ∧ xs = (ns.map cutI).map V.int
theorem bigM_ev {σ : L2.St} {H : Hp} : Ev (tOp (rI CPowW fun i j => V.int (i ^ j.toNat)) (tOp (rI CPow fun i j => V.int (i ^ j.toNat)) (tC (.int 10)) (tC (.int 60))) (tC (.int 60))) σ H (.int bigM) :=
  ev_is (ev_op (ev_op ev_c ev_c (rv_I ⟨by decide, by decide, by decide⟩)) ev_c (rv_I ⟨by decide, by decide +kernel⟩)) rfl
theorem ok_l_cut (T : Txt K mg base) : FnOk P w K mg base CX0 1 T.a_l_cut T.d_l_cut ["_law_script"] (SpLst (D_l_cut K)) := by
  refine T.F_l_cut.ok sc_l_cut (fun vs H Q E h => ?_) (fun cdv A outer s H vs Q E hr h => ?_)
  · obtain ⟨v, ⟨a, ns, rfl, _⟩, _⟩ := h
    rfl
  · obtain ⟨v, ⟨a, ns, rfl, hs, hn, rfl⟩, q⟩ := h
    refine ⟨_, (pss_cons (ps_set (i := 1) sc_l_cut.nd rfl (.inr rfl) (pe_op op_powW (pe_op op_pow pe_int pe_int) pe_int))
      (pss_one (ps_ret (pe_lc (own := [("_law_cell", 2)]) (g := gName 2) (tt := tYes) rfl sc_l_cut.nd (pi_list (pv 0)) (blkOk_by (N := ["_law_script", "_law_most", "_law_cell"]) (sc := defScope s_l_cut) (by decide +kernel)) (fun _ _ _ _ _ => (pg_name (i := 2) sc_l_cut.nd rfl (Or.inl rfl))) (fun _ _ _ _ _ => pts_nil) (fun _ _ _ _ _ => (pe_ix (show IxR _ (rIxL K) from ix_list) (pe_lst (pa_cons (pv 2) (pa_cons (pe_op op_add (pv 1) (pe_op op_mod (pv 2) (pv 1))) pa_nil))) (pe_callTy call_int1 (by rfl) T.z_int (by decide +kernel) (pa_cons (pe_cmpR op_ge (pv 2) (pv 1) (nomark _)) pa_nil)) (fun _ _ => rfl))))))), ?_⟩
    refine q_asg (v := .int bigM) bigM_ev fun H1 e1 => ?_
    refine s_retL (el_is (el_lcL (xs := ns.map V.int) (fun _ => true) (fun i => .int (cutI (ns.getD i 0))) (ev_var rfl) (ex_l e1 hs) (by rw [List.length_map]; omega) (fun x => rfl) (fun i x H2 e2 hi H3 e3 Q q => q H3 (Ex.refl H3)) (fun i x H2 e2 hi _ => ?_)) ?_) fun p H2 hp e2 h2 => q p H2 (fresh_back e1 hp) (e1.trans e2) h2
    · obtain ⟨c, hc, rfl⟩ : ∃ c, ns[i]? = some c ∧ x = .int c := by
        rw [List.getElem?_map] at hi
        cases e : ns[i]? with
        | none => rw [e] at hi; cases hi
        | some z => rw [e] at hi; exact ⟨z, rfl, (Option.some.inj hi).symm⟩
      have hg : ns.getD i 0 = c := by rw [List.getD_eq_getElem?_getD, hc]; rfl
      rw [hg]
      refine ev_ixNew (K := K) (xs := [.int c, .int (bigM + c % bigM)]) (i := if decide (bigM ≤ c) then 1 else 0) (el_lst (by walk_at "mu g") (by simp)) (by walk_at "mu g") ?_
      unfold cutI
      by_cases hc2 : bigM ≤ c
      · rw [if_pos (decide_eq_true hc2), if_pos hc2]
        exact atI_nat (j := 1) rfl
      · rw [if_neg (by rw [decide_eq_false hc2]; decide), if_neg hc2]
        exact atI_nat (j := 0) rfl
    · rw [List.length_map]
      exact given_map ns cutI

def D_l_count (K : PySem.W.Frag) : Hp → List V → V → Prop := fun H vs v => ∃ (a : Addr) (ns : List Int), vs = [.ref a] ∧ SqL K H a (ns.map V.int) ∧ v = .int (1 + mix (ns.getD 0 0) 0 % 30)
theorem ok_l_count (T : Txt K mg base) : FnOk P w K mg base CX0 2 T.a_l_count T.d_l_count ["_law_script"] (SpVal (D_l_count K)) := by
  refine T.F_l_count.ok sc_l_count (fun vs H Q E h => ?_) (fun cdv A outer s H vs Q E hr h => ?_)
  · obtain ⟨v, ⟨a, ns, rfl, _⟩, _⟩ := h
    rfl
  · obtain ⟨v, ⟨a, ns, rfl, hs, rfl⟩, q⟩ := h
    refine ⟨_, (pss_one (ps_ret (pe_op op_add pe_int (pe_op op_mod (pe_call (ok_l_mix T) (hr.mono (by decide)) rfl T.g_l_mix T.F_l_mix.kp T.b_l_mix .nil pass0 (pa_cons (pe_call (ok_l_cell_at T) (hr.mono (by decide)) rfl T.g_l_cell_at T.F_l_cell_at.kp T.b_l_cell_at .nil pass0 (pa_cons (pv 0) (pa_cons pe_int pa_nil))) (pa_cons pe_int pa_nil))) pe_int)))), ?_⟩
    exact s_ret (v := .int (1 + mix (ns.getD 0 0) 0 % 30)) (ev_op ev_c (ev_op (ev_callV (vs := [.int (ns.getD 0 0), .int 0]) (ea_cons (ev_callV (vs := [.ref a, .int 0]) (by walk_at "mu g") fun _ e => ⟨a, ns, 0, rfl, ex_l e hs, rfl⟩) (ea_cons ev_c ea_nil)) fun _ _ => ⟨_, 0, rfl, by omega, rfl⟩) ev_c (rv_I (by decide))) rv_I0) fun H2 e2 => q H2 e2

def D_l_behind : Hp → List V → (V → Hp → Prop) → Prop := fun _ vs R => ∃ (m pk : Int), vs = [.int m, .int pk] ∧ 1 ≤ m ∧ m ≤ 1000 ∧ 0 ≤ pk ∧ R = TupR
theorem ok_l_behind (T : Txt K mg base) : FnOk P w K mg base CX0 1 T.a_l_behind T.d_l_behind ["_law_many", "_law_pick"] (SpR D_l_behind) := by
  refine T.F_l_behind.ok sc_l_behind (fun vs H Q E h => ?_) (fun cdv A outer s H vs Q E hr h => ?_)
  · obtain ⟨v, ⟨m, pk, rfl, _⟩, _⟩ := h
    rfl
  · obtain ⟨v, ⟨m, pk, rfl, m1, m2, p0, rfl⟩, q⟩ := h
    refine ⟨_, (pss_cons (ps_set (i := 2) sc_l_behind.nd rfl (.inl rfl) (pe_op op_mod (pe_op op_fdiv (pv 1) pe_int) (pe_op op_add (pv 0) pe_int)))
      (pss_one (ps_ret (pe_ix ix_list (pe_lst (pa_cons (pe_tup pa_nil) (pa_cons (pe_tup pa_nil) (pa_cons (pe_tup (pa_cons (pe_tup (pa_cons pe_int (pa_cons pe_int pa_nil))) pa_nil)) (pa_cons (pe_tup (pa_cons (pv 2) pa_nil)) (pa_cons (pe_tup (pa_cons (pv 2) (pa_cons (pe_tup (pa_cons pe_int (pa_cons pe_int pa_nil))) pa_nil))) (pa_cons (pe_tup (pa_cons pe_non (pa_cons (pv 2) pa_nil))) (pa_cons (pe_tup (pa_cons (pe_lst (pa_cons (pv 2) pa_nil)) pa_nil)) pa_nil)))))))) (pe_op op_mod (pv 1) pe_int) (fun _ _ => rfl))))), ?_⟩
    refine q_asg (v := .int (pk / 7 % (m + 2))) (by walk_at "mu g"; all_goals (show (0 : Int) < _; omega)) fun H1 e1 => ?_
    generalize pk / 7 % (m + 2) = nb
    have ev0 : ∀ H2, Ex H1 H2 → EvX (tTup tNil) [some (.int m), some (.int pk), some (.int nb)] H2 TupR := fun H2 _ => evx_tupA eax_nil (by decide)
    have e12 : EvX (tTup (tCons (tC (.int 1)) (tCons (tC (.int 2)) tNil))) [some (.int m), some (.int pk), some (.int nb)] H1 TupR := evx_tupA (eax_cons (evx_of ev_c) fun _ _ => eax_cons (evx_of ev_c) fun _ _ => eax_nil) (by decide)
    refine s_retX (evx_ixT (n := 7) (vs := []) (k := pk % 7) ?_ (fun _ _ => by walk_at "mu g") (by omega) (by omega)) fun v H2 e2 r => q v H2 (e1.trans e2) r
    refine eat_cons (evx_tupA eax_nil (by decide)) fun H2 x2 => ?_
    refine eat_cons (evx_tupA eax_nil (by decide)) fun H3 x3 => ?_
    refine eat_cons (evx_tupA (eax_cons (evx_tupA (eax_cons (evx_of ev_c) fun _ _ => eax_cons (evx_of ev_c) fun _ _ => eax_nil) (by decide)) fun _ _ => eax_nil) (by decide)) fun H4 x4 => ?_
    refine eat_cons (evx_tupA (eax_cons (evx_of (ev_var rfl)) fun _ _ => eax_nil) (by decide)) fun H5 x5 => ?_
    refine eat_cons (evx_tupA (eax_cons (evx_of (ev_var rfl)) fun _ _ => eax_cons (evx_tupA (eax_cons (evx_of ev_c) fun _ _ => eax_cons (evx_of ev_c) fun _ _ => eax_nil) (by decide)) fun _ _ => eax_nil) (by decide)) fun H6 x6 => ?_
    refine eat_cons (evx_tupA (eax_cons (evx_of ev_c) fun _ _ => eax_cons (evx_of (ev_var rfl)) fun _ _ => eax_nil) (by decide)) fun H7 x7 => ?_
    refine eat_cons (evx_tupA (eax_cons (evx_lstA (eax_cons (evx_of (ev_var rfl)) fun _ _ => eax_nil) (by decide)) fun _ _ => eax_nil) (by decide)) fun H8 x8 => ?_
    exact eat_nil

def D_l_some_pairs (K : PySem.W.Frag) : Hp → List V → (V → Hp → Prop) → Prop := fun H vs R => ∃ (a : Addr) (ns : List Int) (m : Nat), vs = [.ref a, .int m] ∧ SqL K H a (ns.map V.int) ∧ 1 ≤ m ∧ m ≤ 200 ∧
  R = fun v H' => ∃ (p : Addr) (ps : List (Addr × Int × Int)), v = .ref p ∧ H p = none ∧ H' p = some (.lst (ps.map fun p => V.ref p.1)) ∧ PairsT H' ps ∧ InR m (ps.map (·.2)) ∧ ps.length ≤ 100
theorem pairsT_app {ps : List (Addr × Int × Int)} {p : Addr × Int × Int} {H : Hp} (h : PairsT H ps) (k : PairT H p) : PairsT H (ps ++ [p]) := fun x m => by
  rcases List.mem_append.mp m with m | m
  · exact h x m
  · obtain rfl := List.mem_singleton.mp m
    exact k
theorem inR_app {m : Int} {ps : List (Addr × Int × Int)} {p : Addr × Int × Int} (h : InR m (ps.map (·.2))) (k : (0 ≤ p.2.1 ∧ p.2.1 < m) ∧ 0 ≤ p.2.2 ∧ p.2.2 < m) : InR m ((ps ++ [p]).map (·.2)) := fun x hm => by
  rw [List.map_append] at hm
  rcases List.mem_append.mp hm with hm | hm
  · exact h x hm
  · obtain rfl := List.mem_singleton.mp hm
    exact k
theorem evx_catP {K : PySem.W.Frag} {σ : L2.St} {H : Hp} {ta tb : TE} {i j : Int} (ha : EvU ta σ H [.int i, .int j]) (hb : ∀ H1, Ex H H1 → EvX tb σ H1 TupR) : EvX (tOp (rCatT K) ta tb) σ H (fun v H' => ∃ p : Addr, v = .ref p ∧ H p = none ∧ PairT H' (p, i, j)) := fun H1 e Q q =>
  ha H1 e _ fun p H2 hp e2 h2 => hb H2 (e.trans e2) H2 (Ex.refl H2) _ fun v H3 e3 r => by
    obtain ⟨b, r, rfl, hr, hl⟩ := r
    have e13 := e2.trans e3
    refine ⟨p, b, _, r, rfl, rfl, st_of (e3 p _ h2), st_of hr, by simp, ?_, fun z => ?_, fun _ c hc => q _ _ (e13.trans (Ex.new hc)) ⟨c, rfl, fresh_back (e.trans e13) hc, r, upd_same⟩⟩
    · have := sz_of (n := 2 + r.length) (by omega)
      exact this
    · exact q _ _ e13 ⟨p, rfl, fresh_back e hp, [], e3 p _ h2⟩
theorem ok_l_some_pairs (T : Txt K mg base) : FnOk P w K mg base CX0 2 T.a_l_some_pairs T.d_l_some_pairs ["_law_script", "_law_many"] (SpR (D_l_some_pairs K)) := by
  refine T.F_l_some_pairs.ok sc_l_some_pairs (fun vs H Q E h => ?_) (fun cdv A outer s H vs Q E hr h => ?_)
  · obtain ⟨v, ⟨a, ns, m, rfl, _⟩, _⟩ := h
    rfl
  · obtain ⟨v, ⟨a, ns, m, rfl, hs, m1, m2, rfl⟩, q⟩ := h
    refine ⟨_, (pss_cons (ps_set (i := 2) sc_l_some_pairs.nd rfl (.inl rfl) (pe_lst pa_nil))
      (pss_cons (ps_for PassesOwn.never rfl (pi_range1 (by rfl) T.z_range (pa_cons (pe_op op_mul (pe_op op_mod (pe_call (ok_l_mix T) (hr.mono (by decide)) rfl T.g_l_mix T.F_l_mix.kp T.b_l_mix .nil pass0 (pa_cons (pe_call (ok_l_cell_at T) (hr.mono (by decide)) rfl T.g_l_cell_at T.F_l_cell_at.kp T.b_l_cell_at .nil pass0 (pa_cons (pv 0) (pa_cons pe_int pa_nil))) (pa_cons pe_int pa_nil))) pe_int) (pe_callTy call_int1 (by rfl) T.z_int (by decide +kernel) (pa_cons (pe_cmpR op_gt (pv 1) pe_int (nomark _)) pa_nil))) pa_nil)) (pg_name (i := 3) sc_l_some_pairs.nd rfl (.inl rfl))
      (pss_cons (ps_set (i := 4) sc_l_some_pairs.nd rfl (.inl rfl) (pe_call (ok_l_mix T) (hr.mono (by decide)) rfl T.g_l_mix T.F_l_mix.kp T.b_l_mix .nil pass0 (pa_cons (pe_call (ok_l_cell_at T) (hr.mono (by decide)) rfl T.g_l_cell_at T.F_l_cell_at.kp T.b_l_cell_at .nil pass0 (pa_cons (pv 0) (pa_cons (pe_op op_add pe_int (pe_op op_mod (pv 3) pe_int)) pa_nil))) (pa_cons (pe_op op_add pe_int (pe_op op_fdiv (pv 3) pe_int)) pa_nil))))
      (pss_cons (ps_set (i := 5) sc_l_some_pairs.nd rfl (.inl rfl) (pe_op op_mod (pv 4) (pv 1)))
      (pss_cons (ps_set (i := 6) sc_l_some_pairs.nd rfl (.inl rfl) (pe_op op_mod (pe_op op_add (pe_op op_add (pv 5) pe_int) (pe_op op_mod (pe_op op_fdiv (pv 4) pe_int) (pe_ix ix_list (pe_lst (pa_cons (pe_op op_sub (pv 1) pe_int) (pa_cons (pe_callB (call_min2 rfl) (by rfl) T.z_min (by decide +kernel) (pa_cons pe_int (pa_cons (pe_op op_sub (pv 1) pe_int) pa_nil))) pa_nil))) (pe_op op_mod (pe_op op_fdiv (pv 4) pe_int) pe_int) (fun _ _ => rfl)))) (pv 1)))
      (pss_cons (ps_expr (pe_bm PySem.F.plainAttrs_list PySem.F.slot_list_append PySem.F.type_list_append mt_append (pv 2) (pa_cons (pe_op op_catT (pe_tup (pa_cons (pv 5) (pa_cons (pv 6) pa_nil))) (pe_call (ok_l_behind T) (hr.mono (by decide)) rfl T.g_l_behind T.F_l_behind.kp T.b_l_behind .nil pass0 (pa_cons (pv 1) (pa_cons (pe_call (ok_l_mix T) (hr.mono (by decide)) rfl T.g_l_mix T.F_l_mix.kp T.b_l_mix .nil pass0 (pa_cons (pe_call (ok_l_cell_at T) (hr.mono (by decide)) rfl T.g_l_cell_at T.F_l_cell_at.kp T.b_l_cell_at .nil pass0 (pa_cons (pv 0) (pa_cons pe_int pa_nil))) (pa_cons (pv 3) pa_nil))) pa_nil)))) pa_nil)))
      (pss_one (ps_if (pt_cmpR op_eq (pe_op op_mod (pe_op op_fdiv (pv 4) pe_int) pe_int) pe_int (nomark _))
      (pss_one (ps_expr (pe_bm PySem.F.plainAttrs_list PySem.F.slot_list_append PySem.F.type_list_append mt_append (pv 2) (pa_cons (pe_tup (pa_cons (pv 6) (pa_cons (pv 5) pa_nil))) pa_nil))))
      pss_nil)))))))
      (pss_one (ps_ret (pv 2))))), ?_⟩
    refine q_asgL (xs := []) (el_lst (by walk_at "mu g") (by decide)) fun p H1 hp e1 h1 => ?_
    have b0 := mix_nn (ns.getD 0 0) 1
    let bk : Int := if decide ((1 : Int) < (m : Int)) = true then 1 else 0
    have bk01 : (bk = 0 ∨ bk = 1) ∧ (bk = 1 → 1 < m) := by
      show ((if _ then (1 : Int) else 0) = 0 ∨ (if _ then (1 : Int) else 0) = 1) ∧ ((if _ then (1 : Int) else 0) = 1 → _)
      split
      · rename_i h
        exact ⟨.inr rfl, fun _ => by have := of_decide_eq_true h; omega⟩
      · exact ⟨.inl rfl, fun h => by omega⟩
    obtain ⟨N, hN, N41, N1⟩ : ∃ N : Nat, mix (ns.getD 0 0) 1 % 41 * bk = N ∧ N ≤ 41 ∧ (0 < N → 1 < m) := by
      obtain ⟨z, y⟩ := bk01
      rcases z with z | z
      · exact ⟨0, by rw [z]; simp, by omega, fun h => by omega⟩
      · refine ⟨(mix (ns.getD 0 0) 1 % 41).toNat, ?_, by omega, fun _ => y z⟩
        rw [z, Int.mul_one]
        omega
    refine q_forR1 (n := (N : Int)) (ea_cons (ev_is (ev_op (ev_op (ev_callV (vs := [.int (ns.getD 0 0), .int 1]) (ea_cons (ev_callV (vs := [.ref a, .int 0]) (by walk_at "mu g") fun _ e => ⟨a, ns, 0, rfl, ex_l (e1.trans e) hs, rfl⟩) (ea_cons ev_c ea_nil)) fun _ _ => ⟨_, 1, rfl, by omega, rfl⟩) ev_c (rv_I (by decide))) (ev_cb (ea_cons (ev_op (ev_var rfl) ev_c rv_I0) ea_nil) rc_intB) (rv_I (show CMul _ _ from .inr ⟨by omega, by
        show bk < 2 ^ 64
        rcases bk01.1 with z | z <;> omega⟩))) (congrArg V.int hN)) ea_nil) (by omega)
      (fun k σ' H' => Ex H H' ∧ ∃ ps : List (Addr × Int × Int), H' p = some (.lst (ps.map fun p => V.ref p.1)) ∧ PairsT H' ps ∧ InR m (ps.map (·.2)) ∧ ps.length ≤ 2 * k ∧ (∀ x ∈ ps, x.1 ≠ p) ∧ ∃ x3 x4 x5 x6, σ' = [some (.ref a), some (.int m), some (.ref p), x3, x4, x5, x6])
      (fun H2 e2 => ⟨e1.trans e2, [], e2 p _ h1, (fun _ y => nomatch y), (fun _ y => nomatch y), Nat.le_refl _, (fun _ y => nomatch y), _, _, _, _, rfl⟩) (fun k σ' H' hk hq => ?_) (fun σ' H' hq => ?_)
    · obtain ⟨e2, ps, h2, hps, hin, hlen, hne, x3, x4, x5, x6, rfl⟩ := hq
      have mm : 1 < m := N1 (by omega)
      have c0 := mix_nn (ns.getD (1 + k % 8) 0) (1 + k / 8)
      refine q_asg (v := .int (mix (ns.getD (1 + k % 8) 0) (1 + k / 8))) (ev_callV (vs := [.int (ns.getD (1 + k % 8) 0), .int (1 + (k : Int) / 8)]) (ea_cons (ev_callV (vs := [.ref a, .int (1 + (k : Int) % 8)]) (by walk_at "mu g") fun _ e => ⟨a, ns, 1 + k % 8, by simp, ex_l (e2.trans e) hs, rfl⟩) (ea_cons (by walk_at "mu g") ea_nil)) fun _ _ => ⟨_, 1 + k / 8, by simp, by omega, rfl⟩) fun H3 e3 => ?_
      generalize mix (ns.getD (1 + k % 8) 0) (1 + k / 8) = pk at c0
      refine q_asg (v := .int (pk % m)) (ev_op (ev_var rfl) (ev_var rfl) (rv_I (by omega))) fun H4 e4 => ?_
      have i0 : 0 ≤ pk % (m : Int) := Int.emod_nonneg _ (by omega)
      have i1 : pk % (m : Int) < m := Int.emod_lt_of_pos _ (by omega)
      generalize pk % (m : Int) = i at i0 i1
      obtain ⟨dv, hdv, d0⟩ : ∃ dv : Int, ([(m : Int) - 1, min 2 ((m : Int) - 1)] : List Int).getD (pk / 1024 % 2).toNat 1 = dv ∧ 0 < dv := by
        refine ⟨_, rfl, getDP (P := fun z : Int => 0 < z) (fun z hz => ?_) (by decide) _⟩
        simp only [List.mem_cons, List.not_mem_nil, or_false] at hz
        rcases hz with rfl | rfl <;> omega
      refine q_asg (v := .int ((i + 1 + pk / 32 % dv) % m)) (ev_op (ev_op (ev_op (ev_var rfl) ev_c rv_I0) (ev_op (ev_op (ev_var rfl) ev_c (rv_I ⟨by decide, by decide⟩)) (ev_is (ev_ixNew (K := K) (xs := ([(m : Int) - 1, min 2 ((m : Int) - 1)] : List Int).map V.int) (i := pk / 1024 % 2) (el_is (xs := [.int ((m : Int) - 1), .int (min 2 ((m : Int) - 1))]) (el_lst (by walk_at "mu g") (by simp)) rfl) (by walk_at "mu g") (atI_modD (d := 1) (m := 2) rfl (by decide))) (congrArg V.int hdv)) (rv_I d0)) rv_I0) (ev_var rfl) (rv_I (by omega))) fun H5 e5 => ?_
      have j0 : 0 ≤ (i + 1 + pk / 32 % dv) % (m : Int) := Int.emod_nonneg _ (by omega)
      have j1 : (i + 1 + pk / 32 % dv) % (m : Int) < m := Int.emod_lt_of_pos _ (by omega)
      generalize (i + 1 + pk / 32 % dv) % (m : Int) = j at j0 j1
      have e25 := (e3.trans e4).trans e5
      have b0 := mix_nn (ns.getD 11 0) k
      refine q_appX (R := fun v H' => ∃ p : Addr, v = .ref p ∧ H5 p = none ∧ PairT H' (p, i, j)) (e25 p _ h2) (ev_var rfl) (evx_catP (eu_tup (by walk_at "mu g") (by simp)) fun H6 e6 => evx_call (vs := [.int m, .int (mix (ns.getD 11 0) k)]) (ea_cons (ev_var rfl) (ea_cons (ev_callV (vs := [.int (ns.getD 11 0), .int k]) (ea_cons (ev_callV (vs := [.ref a, .int 11]) (by walk_at "mu g") fun _ e => ⟨a, ns, 11, rfl, ex_l (((e2.trans e25).trans e6).trans e) hs, rfl⟩) (ea_cons (ev_var rfl) ea_nil)) fun _ _ => ⟨_, k, rfl, by omega, rfl⟩) ea_nil)) fun H7 e7 => ⟨_, ⟨m, _, rfl, by omega, by omega, b0, rfl⟩, fun _ _ _ r => r⟩) (by rw [List.length_map]; omega) fun v H6 e6 r => ?_
      obtain ⟨c, rfl, hc, hcp⟩ := r
      have cp : c ≠ p := fun z => by
        rw [z, e25 p _ h2] at hc
        exact nomatch hc
      have e26 := e25.trans e6
      have hp6 : PairsT (upd H6 p (.lst ((ps.map fun p => V.ref p.1) ++ [.ref c]))) (ps ++ [(c, i, j)]) := pairsT_app (fun x hx => by
        obtain ⟨r, hr⟩ := hps x hx
        exact ⟨r, (upd_ne (hne x hx)).trans (e26 _ _ hr)⟩) (by
        obtain ⟨r, hr⟩ := hcp
        exact ⟨r, (upd_ne cp).trans hr⟩)
      have hin6 : InR m ((ps ++ [(c, i, j)]).map (·.2)) := inR_app hin ⟨⟨i0, i1⟩, j0, j1⟩
      have ne6 : ∀ x ∈ ps ++ [(c, i, j)], x.1 ≠ p := fun x hx => by
        rcases List.mem_append.mp hx with hx | hx
        · exact hne x hx
        · obtain rfl := List.mem_singleton.mp hx
          exact cp
      have h6 : (upd H6 p (.lst ((ps.map fun p => V.ref p.1) ++ [.ref c]))) p = some (.lst ((ps ++ [(c, i, j)]).map fun p => V.ref p.1)) := by
        rw [upd_same, List.map_append]
        rfl
      have e06 : Ex H (upd H6 p (.lst ((ps.map fun p => V.ref p.1) ++ [.ref c]))) := Ex.mut (e2.trans e26) hp
      have z6 : (ps ++ [(c, i, j)]).length ≤ 2 * k + 1 := by
        rw [List.length_append, List.length_singleton]
        omega
      generalize upd H6 p (.lst ((ps.map fun p => V.ref p.1) ++ [.ref c])) = Hc at hp6 h6 e06
      generalize ps ++ [(c, i, j)] = qs at hp6 hin6 ne6 h6 z6
      refine s_when (b := decide (pk / 4096 % 8 = 1)) (by walk_at "mu g") (fun hb H7 e7 => ?_) (fun hb H7 e7 => ⟨e06.trans e7, qs, e7 p _ h6, hp6.later e7, hin6, by omega, ne6, _, _, _, _, rfl⟩)
      refine s_appU (e7 p _ h6) (ev_var rfl) (eu_tup (vs := [.int j, .int i]) (by walk_at "mu g") (by simp)) (by rw [List.length_map]; omega) fun b H8 hb8 e8 h8 => ?_
      have bp : b ≠ p := fun z => by
        rw [z, e7 p _ h6] at hb8
        exact nomatch hb8
      refine ⟨Ex.mut ((e06.trans e7).trans e8) hp, qs ++ [(b, j, i)], by rw [upd_same, List.map_append]; rfl, pairsT_app (fun x hx => by
        obtain ⟨r, hr⟩ := hp6 x hx
        exact ⟨r, (upd_ne (ne6 x hx)).trans ((e7.trans e8) _ _ hr)⟩) ⟨[], (upd_ne bp).trans h8⟩, inR_app hin6 ⟨⟨j0, j1⟩, i0, i1⟩, by rw [List.length_append, List.length_singleton]; omega, fun x hx => ?_, _, _, _, _, rfl⟩
      rcases List.mem_append.mp hx with hx | hx
      · exact ne6 x hx
      · obtain rfl := List.mem_singleton.mp hx
        exact bp
    · obtain ⟨e2, ps, h2, hps, hin, hlen, hne, x3, x4, x5, x6, rfl⟩ := hq
      exact s_ret (v := .ref p) (ev_var rfl) fun H3 e3 => q _ _ (e2.trans e3) ⟨p, ps, rfl, hp, e3 p _ h2, hps.later e3, hin, by omega⟩

def D_l_near : Hp → List V → List V → Prop := fun H vs xs => ∃ (b : Addr) (one : Int) (ps : List (Addr × Int × Int)), vs = [.ref b, .int one] ∧ H b = some (.lst (ps.map fun p => V.ref p.1)) ∧ PairsT H ps ∧ ps.length ≤ 1000 ∧ xs = (near (ps.map (·.2)) one).map V.int
theorem near_len (ep : List (Int × Int)) (x : Int) : (near ep x).length ≤ 2 * ep.length := by
  induction ep with
  | nil => exact Nat.le_refl _
  | cons p r ih =>
    have e : near (p :: r) x = near [p] x ++ near r x := near_app [p] r x
    have e2 : (near [p] x).length ≤ 2 := by
      unfold near
      simp only [List.flatMap_cons, List.flatMap_nil, List.append_nil, List.length_append]
      split <;> split <;> simp
    rw [e, List.length_append, List.length_cons]
    omega
theorem near_one (p : Int × Int) (x : Int) : near [p] x = (if p.1 = x then [p.2] else []) ++ (if p.2 = x then [p.1] else []) := by
  unfold near
  simp
theorem ok_l_near (T : Txt K mg base) : FnOk P w K mg base CX0 1 T.a_l_near T.d_l_near ["_law_pairs", "_law_one"] (SpLst D_l_near) := by
  refine T.F_l_near.ok sc_l_near (fun vs H Q E h => ?_) (fun cdv A outer s H vs Q E hr h => ?_)
  · obtain ⟨v, ⟨b, one, ps, rfl, _⟩, _⟩ := h
    rfl
  · obtain ⟨v, ⟨b, one, ps, rfl, hb, hps, hz, rfl⟩, q⟩ := h
    refine ⟨_, (pss_cons (ps_set (i := 2) sc_l_near.nd rfl (.inl rfl) (pe_lst pa_nil))
      (pss_cons (ps_for PassesOwn.never rfl (pi_list (pv 0)) (pg_name (i := 3) sc_l_near.nd rfl (.inl rfl))
      (pss_cut (ps_if (pt_cmpR op_eq (pe_ix ix_tup (pv 3) pe_int (fun _ _ => rfl)) (pv 1) (nomark _))
      (pss_one (ps_expr (pe_bm PySem.F.plainAttrs_list PySem.F.slot_list_append PySem.F.type_list_append mt_append (pv 2) (pa_cons (pe_ix ix_tup (pv 3) pe_int (fun _ _ => rfl)) pa_nil))))
      pss_nil)
      (pss_one (ps_if (pt_cmpR op_eq (pe_ix ix_tup (pv 3) pe_int (fun _ _ => rfl)) (pv 1) (nomark _))
      (pss_one (ps_expr (pe_bm PySem.F.plainAttrs_list PySem.F.slot_list_append PySem.F.type_list_append mt_append (pv 2) (pa_cons (pe_ix ix_tup (pv 3) pe_int (fun _ _ => rfl)) pa_nil))))
      pss_nil))))
      (pss_one (ps_ret (pv 2))))), ?_⟩
    refine q_asgL (xs := []) (el_lst (by walk_at "mu g") (by decide)) fun p H1 hp e1 h1 => ?_
    refine q_forLn (K := K) (a := b) (xs := ps.map fun p => V.ref p.1) (ev_var rfl) (sq_of (e1 b _ hb)) (fun n σ' H' => Ex H H' ∧ H' p = some (.lst ((near ((ps.take n).map (·.2)) one).map V.int)) ∧ ∃ x3, σ' = [some (.ref b), some (.int one), some (.ref p), x3])
      (fun H2 e2 => ⟨e1.trans e2, e2 p _ h1, _, rfl⟩) (fun n σ' H' _ hq => sq_of (hq.1 b _ hb)) (fun n x σ' H' hx hq => ?_) (fun σ' H' hq => ?_)
    · obtain ⟨e2, h2, x3, rfl⟩ := hq
      obtain ⟨pr, epr, mpr, rfl⟩ := pair_at hx
      have hT : ∀ H3, Ex H' H3 → PairT H3 pr := fun H3 e => (hps pr mpr).later (e2.trans e)
      have lt := (List.getElem?_eq_some_iff.mp epr).1
      have zl : (near ((ps.take n).map (·.2)) one).length ≤ 2 * 1000 := by
        have := near_len ((ps.take n).map (·.2)) one
        rw [List.length_map, List.length_take] at this
        omega
      refine q_cut (M := fun σ' H3 => Ex H' (upd H3 p (.lst ((near ((ps.take n).map (·.2)) one).map V.int))) ∧ Ex H H3 ∧ H3 p = some (.lst ((near ((ps.take n).map (·.2)) one ++ (if pr.2.1 = one then [pr.2.2] else [])).map V.int)) ∧ σ' = [some (.ref b), some (.int one), some (.ref p), some (.ref pr.1)])
        (s_when (b := decide (pr.2.1 = one)) (et_test (ev_op (ev_op (ev_var rfl) ev_c (rv_p0 (hT _ (Ex.refl _)))) (ev_var rfl) rv_eqI)) (fun hb3 H3 e3 => ?_) (fun hb3 H3 e3 => ?_)) fun σ' H3 hM => ?_
      · refine s_app (v := .int pr.2.2) (e3 p _ h2) (ev_var rfl) (ev_op (ev_var rfl) ev_c (rv_p1 (hT _ e3))) (by rw [List.length_map]; omega) fun H4 e4 => ?_
        have e34 := e3.trans e4
        refine ⟨?_, Ex.mut (e2.trans e34) hp, ?_, rfl⟩
        · intro a o ha
          by_cases z : a = p
          · subst z
            rw [upd_same, ← ha, h2]
          · rw [upd_ne z, upd_ne z]
            exact e34 a o ha
        · rw [upd_same, if_pos (of_decide_eq_true hb3), List.map_append]
          rfl
      · refine ⟨?_, e2.trans e3, ?_, rfl⟩
        · intro a o ha
          by_cases z : a = p
          · subst z
            rw [upd_same, ← ha, h2]
          · rw [upd_ne z]
            exact e3 a o ha
        · rw [if_neg (of_decide_eq_false hb3), List.append_nil]
          exact e3 p _ h2
      · obtain ⟨_, e3, h3, rfl⟩ := hM
        have hT3 : ∀ H4, Ex H3 H4 → PairT H4 pr := fun H4 e => (hps pr mpr).later (e3.trans e)
        have en : near ((ps.take (n + 1)).map (·.2)) one = (near ((ps.take n).map (·.2)) one ++ (if pr.2.1 = one then [pr.2.2] else [])) ++ (if pr.2.2 = one then [pr.2.1] else []) := by
          rw [List.take_add_one, epr, List.map_append, near_app, show (some pr).toList.map (·.2) = [pr.2] from rfl, near_one, List.append_assoc]
        have zm : (near ((ps.take n).map (·.2)) one ++ (if pr.2.1 = one then [pr.2.2] else [])).length ≤ 2 * 1000 + 1 := by
          rw [List.length_append]
          have : (if pr.2.1 = one then [pr.2.2] else []).length ≤ 1 := by split <;> simp
          omega
        refine s_when (b := decide (pr.2.2 = one)) (et_test (ev_op (ev_op (ev_var rfl) ev_c (rv_p1 (hT3 _ (Ex.refl _)))) (ev_var rfl) rv_eqI)) (fun hb4 H4 e4 => ?_) (fun hb4 H4 e4 => ?_)
        · refine s_app (v := .int pr.2.1) (e4 p _ h3) (ev_var rfl) (ev_op (ev_var rfl) ev_c (rv_p0 (hT3 _ e4))) (by rw [List.length_map]; omega) fun H5 e5 => ?_
          refine ⟨Ex.mut ((e3.trans e4).trans e5) hp, ?_, _, rfl⟩
          rw [upd_same, en, if_pos (of_decide_eq_true hb4), List.map_append (l₂ := [pr.2.1])]
          rfl
        · refine ⟨e3.trans e4, ?_, _, rfl⟩
          rw [en, if_neg (of_decide_eq_false hb4), List.append_nil]
          exact e4 p _ h3
    · obtain ⟨e2, h2, x3, rfl⟩ := hq
      rw [List.length_map, List.take_length] at h2
      exact s_ret (v := .ref p) (ev_var rfl) fun H3 e3 => q p H3 hp (e2.trans e3) (e3 p _ h2)

def R_l_steps (H : Hp) (ep : List (Int × Int)) (one : Int) : V → Hp → Prop := fun v H' => ∃ (d : Addr) (kvs : List (Key × V)) (rs : List Int), v = .ref d ∧ H d = none ∧ H' d = some (.dK kvs) ∧ KeysI kvs rs ∧ rs.Nodup ∧ ∀ y, y ∈ rs ↔ Rch ep one y
def D_l_steps : Hp → List V → (V → Hp → Prop) → Prop := fun H vs R => ∃ (b : Addr) (one : Int) (m : Nat) (ps : List (Addr × Int × Int)), vs = [.ref b, .int one] ∧ H b = some (.lst (ps.map fun p => V.ref p.1)) ∧ PairsT H ps ∧ ps.length ≤ 1000 ∧ InR m (ps.map (·.2)) ∧ (0 ≤ one ∧ one < m) ∧ m ≤ 200 ∧ R = R_l_steps H (ps.map (·.2)) one
def ValsI (kvs : List (Key × V)) : Prop := ∀ kv ∈ kvs, ∃ n : Nat, kv.2 = V.int n
theorem valsI_get {kvs : List (Key × V)} {rs : List Int} (h : ValsI kvs) (k : KeysI kvs rs) {x : Int} (hx : x ∈ rs) : ∃ n : Nat, valV kvs (.inl x) = some (.int n) := by
  have e := keysI_val k x
  rw [decide_eq_true hx] at e
  cases f : valV kvs (.inl x) with
  | none =>
    rw [f] at e
    cases e
  | some u =>
    unfold valV at f
    cases g : kvs.find? fun kv => decide (kv.1 = Sum.inl x) with
    | none =>
      rw [g] at f
      cases f
    | some kv =>
      rw [g] at f
      obtain rfl : kv.2 = u := Option.some.inj f
      obtain ⟨n, e⟩ := h kv (List.mem_of_find?_eq_some g)
      exact ⟨n, by rw [e]⟩
/-- what is known of the row and the told ones as the row is walked -/
structure StepsAt (ep : List (Int × Int)) (m : Nat) (one : Int) (kvs : List (Key × V)) (rs : List Int) (at_ : Nat) : Prop where
  k : KeysI kvs rs
  nd : rs.Nodup
  at1 : at_ ≤ rs.length
  one_ : one ∈ rs
  rch : ∀ y ∈ rs, Rch ep one y
  done : ∀ (i : Nat) (x : Int), i < at_ → rs[i]? = some x → ∀ y ∈ near ep x, y ∈ rs
theorem StepsAt.end_ {ep : List (Int × Int)} {m : Nat} {one : Int} {kvs : List (Key × V)} {rs : List Int} (h : StepsAt ep m one kvs rs rs.length) (y : Int) : y ∈ rs ↔ Rch ep one y := by
  refine ⟨h.rch y, fun r => ?_⟩
  induction r with
  | refl => exact h.one_
  | step _ mm ih =>
    obtain ⟨i, lt, e⟩ := List.getElem_of_mem ih
    exact h.done i _ lt (by rw [List.getElem?_eq_getElem lt, e]) _ mm
theorem ok_l_steps (T : Txt K mg base) : FnOk P w K mg base CX0 2 T.a_l_steps T.d_l_steps ["_law_pairs", "_law_one"] (SpR D_l_steps) := by
  refine T.F_l_steps.ok sc_l_steps (fun vs H Q E h => ?_) (fun cdv A outer s H vs Q E hr h => ?_)
  · obtain ⟨v, ⟨b, one, m, ps, rfl, _⟩, _⟩ := h
    rfl
  · obtain ⟨v, ⟨b, one, m, ps, rfl, hb, hps, hz, hin, h1m, m200, rfl⟩, q⟩ := h
    refine ⟨_, (pss_cons (ps_set (i := 2) sc_l_steps.nd rfl (.inl rfl) (pe_disp (pps_cons (pv 1) pe_int pps_nil) (by rfl) (by rfl) (fun z => by cases z) (by decide)))
      (pss_cons (ps_set (i := 3) sc_l_steps.nd rfl (.inl rfl) (pe_lst (pa_cons (pv 1) pa_nil)))
      (pss_cons (ps_set (i := 4) sc_l_steps.nd rfl (.inl rfl) pe_int)
      (pss_cons (ps_while PassesOwn.never (pt_cmpR op_lt (pv 4) (pe_callB call_len_seq (by rfl) T.z_len (by decide +kernel) (pa_cons (pv 3) pa_nil)) (nomark _)) (pss_cons (ps_for PassesOwn.never rfl (pi_list (pe_call (ok_l_near T) (hr.mono (by decide)) rfl T.g_l_near T.F_l_near.kp T.b_l_near .nil pass0 (pa_cons (pv 0) (pa_cons (pe_ix ix_list (pv 3) (pv 4) (fun _ _ => rfl)) pa_nil)))) (pg_name (i := 5) sc_l_steps.nd rfl (.inl rfl))
      (pss_one (ps_if (pt_cmp (pc_dnotin (hu_of hr) (pv 5) (pv 2)))
      (pss_cons (ps_dput (hu_of hr) (pv 2) (pv 5) (pe_op op_add (pe_dget (hu_of hr) (pv 2) (pe_ix ix_list (pv 3) (pv 4) (fun _ _ => rfl)) (fun _ _ => rfl)) pe_int) rfl)
      (pss_one (ps_expr (pe_bm PySem.F.plainAttrs_list PySem.F.slot_list_append PySem.F.type_list_append mt_append (pv 3) (pa_cons (pv 5) pa_nil)))))
      pss_nil)))
      (pss_one (ps_set (i := 4) sc_l_steps.nd rfl (.inl rfl) (pe_op op_add (pv 4) pe_int)))))
      (pss_one (ps_ret (pv 2))))))), ?_⟩
    generalize hep : ps.map (·.2) = ep at hin q
    refine q_asgX (evx_disp1 (k := .inl one) (v := .int 0) (ev_var rfl) ev_c) fun v H1 e1 r => ?_
    obtain ⟨d, rfl, hd, h1⟩ := r
    refine q_asgL (xs := [.int one]) (el_lst (by walk_at "mu g") (by simp)) fun p H2 hp e2 h2 => ?_
    have pd : p ≠ d := fun z => by
      rw [z, h1] at hp
      exact nomatch hp
    have hp0 : H p = none := fresh_back e1 hp
    refine q_asg (v := .int 0) ev_c fun H3 e3 => ?_
    have e13 := (e1.trans e2).trans e3
    have few : ∀ (kvs : List (Key × V)) (rs : List Int) (k : Nat), StepsAt ep m one kvs rs k → rs.length ≤ m := fun kvs rs k st => ints_few st.nd fun y hy => hin.rch h1m (st.rch y hy)
    refine q_while (fun z σ' H' => Ex H H' ∧ ∃ (kvs : List (Key × V)) (rs : List Int) (k : Nat), H' d = some (.dK kvs) ∧ H' p = some (.lst (rs.map V.int)) ∧ ValsI kvs ∧ StepsAt ep m one kvs rs k ∧ z = m - k ∧ ∃ x5, σ' = [some (.ref b), some (.int one), some (.ref d), some (.ref p), some (.int k), x5])
      m ⟨e13, [(.inl one, .int 0)], [one], 0, (e2.trans e3) d _ h1, e3 p _ h2, (fun kv hm => by
        obtain rfl := List.mem_singleton.mp hm
        exact ⟨0, rfl⟩), ⟨rfl, by simp, by omega, by simp, fun y hy => by
        obtain rfl := List.mem_singleton.mp hy
        exact .refl, fun i x lt => absurd lt (Nat.not_lt_zero i)⟩, rfl, _, rfl⟩ (fun z σ' H' hw => ?_)
    obtain ⟨e4, kvs, rs, k, hk, hrs, hv, st, rfl, x5, rfl⟩ := hw
    refine ⟨decide ((k : Int) < ((rs.map V.int).length : Int)), et_test (ev_op (ev_var rfl) (ev_len (ev_var rfl) (sq_of hrs)) rv_I0), fun ht H4 e5 => ?_, fun hf H4 e5 => ?_⟩
    · have klt : k < rs.length := by
        have := of_decide_eq_true ht
        rw [List.length_map] at this
        omega
      have e45 := e4.trans e5
      have kat : rs[k]? = some rs[k] := List.getElem?_eq_getElem klt
      have fm := few _ _ _ st
      refine ⟨fun σ' H' => Ex H H' ∧ ∃ (kvs : List (Key × V)) (rs : List Int), H' d = some (.dK kvs) ∧ H' p = some (.lst (rs.map V.int)) ∧ ValsI kvs ∧ StepsAt ep m one kvs rs (k + 1) ∧ ∃ x5, σ' = [some (.ref b), some (.int one), some (.ref d), some (.ref p), some (.int ((k : Int) + 1)), x5], fun σ' H' hq => ?_, ?_⟩
      · obtain ⟨e6, kvs', rs', a1, a2, a3, a4, x5, rfl⟩ := hq
        have := few _ _ _ a4
        have := a4.at1
        exact ⟨m - (k + 1), by omega, e6, kvs', rs', k + 1, a1, a2, a3, a4, rfl, x5, rfl⟩
      generalize hx : rs[k] = x at kat
      have rx : Rch ep one x := st.rch x (List.mem_of_getElem? kat)
      refine q_forNLn (K := K) (xs := (near ep x).map V.int) (el_callL (vs := [.ref b, .int x]) (ea_cons (ev_var rfl) (ea_cons (ev_op (ev_var rfl) (ev_var rfl) (rv_ixL (sq_of (e5 p _ hrs)) (atI_nat (by rw [List.getElem?_map, kat]; rfl)))) ea_nil)) fun H5 e => ⟨b, x, ps, rfl, (e45.trans e) b _ hb, hps.later (e45.trans e), hz, by rw [hep]⟩)
        (fun c n σ' H' => Ex H H' ∧ H' c = some (.lst ((near ep x).map V.int)) ∧ c ≠ d ∧ c ≠ p ∧ ∃ (kvs : List (Key × V)) (rs' : List Int), H' d = some (.dK kvs) ∧ H' p = some (.lst (rs'.map V.int)) ∧ ValsI kvs ∧ StepsAt ep m one kvs rs' k ∧ rs'[k]? = some x ∧ (∀ y ∈ (near ep x).take n, y ∈ rs') ∧ ∃ x5, σ' = [some (.ref b), some (.int one), some (.ref d), some (.ref p), some (.int k), x5])
        (fun c H5 hc e6 h5 => ⟨e45.trans e6, h5, (fun z => by rw [z, e5 d _ hk] at hc; exact nomatch hc), (fun z => by rw [z, e5 p _ hrs] at hc; exact nomatch hc), kvs, rs, (e5.trans e6) d _ hk, (e5.trans e6) p _ hrs, hv, st, kat, (fun y hy => by simp at hy), _, rfl⟩)
        (fun c n σ' H' _ hq => sq_of hq.2.1) (fun c n u σ' H' hu hq => ?_) (fun c σ' H' hq => ?_)
      · obtain ⟨e6, hc, cd, cp, kvs', rs', a1, a2, a3, a4, ax, a5, x5, rfl⟩ := hq
        obtain ⟨y, ey, my, rfl⟩ := int_at hu
        have tk : ∀ z, z ∈ (near ep x).take (n + 1) ↔ z ∈ (near ep x).take n ∨ z = y := fun z => by
          rw [List.take_add_one, ey, List.mem_append]
          simp
        refine s_when (b := !(valV kvs' (.inl y)).isSome) (et_dnin (k := .inl y) (ev_var rfl) (ev_var rfl) (.inl a1)) (fun hb2 H5 e7 => ?_) (fun hb2 H5 e7 => ?_)
        · have ny : y ∉ rs' := fun hy => by
            rw [keysI_val a4.k, decide_eq_true hy] at hb2
            cases hb2
          obtain ⟨n0, hn0⟩ := valsI_get a3 a4.k (List.mem_of_getElem? ax)
          have fm' := few _ _ _ a4
          have kp := keysI_put a4.k ny (.int ((n0 : Int) + 1))
          have st' : StepsAt ep m one (putK kvs' (.inl y) (.int ((n0 : Int) + 1))) (rs' ++ [y]) k := ⟨kp.2, by
            rw [List.nodup_append]
            exact ⟨a4.nd, by simp, fun a ha b hb e => ny (by rw [List.mem_singleton] at hb; rw [← hb, ← e]; exact ha)⟩, by rw [List.length_append]; have := a4.at1; omega, List.mem_append_left _ a4.one_, fun z hz => by
            rcases List.mem_append.mp hz with hz | hz
            · exact a4.rch z hz
            · obtain rfl := List.mem_singleton.mp hz
              exact .step rx my, fun i u lt hu z hz => List.mem_append_left _ (a4.done i u lt (by
                have := a4.at1
                rwa [List.getElem?_append_left (by omega)] at hu) z hz)⟩
          have zk := keysI_len a4.k
          refine q_dputK (k := .inl y) (v := .int ((n0 : Int) + 1)) (e7 d _ a1) (by omega) (ev_op (ev_dgetK (k := .inl x) (ev_var rfl) (.inl (e7 d _ a1)) (ev_op (ev_var rfl) (ev_var rfl) (rv_ixL (sq_of (e7 p _ a2)) (atI_nat (by rw [List.getElem?_map, ax]; rfl)))) hn0) ev_c rv_I0) (ev_var rfl) (ev_var rfl) fun H6 e8 => ?_
          have e78 := e7.trans e8
          have hp6 : (upd H6 d (.dK (putK kvs' (.inl y) (.int ((n0 : Int) + 1))))) p = some (.lst (rs'.map V.int)) := (upd_ne pd).trans (e78 p _ a2)
          refine s_app (v := .int y) hp6 (ev_var rfl) (ev_var rfl) (by rw [List.length_map]; omega) fun H7 e9 => ?_
          have e10 : Ex H H7 := (Ex.mut (e6.trans e78) hd).trans e9
          refine ⟨Ex.mut e10 hp0, (upd_ne cp).trans (e9 c _ ((upd_ne cd).trans (e78 c _ hc))), cd, cp, _, rs' ++ [y], (upd_ne (Ne.symm pd)).trans (e9 d _ upd_same), by rw [upd_same, List.map_append]; rfl, ?_, st', ?_, fun z hz => ((tk z).mp hz).elim (fun w => List.mem_append_left _ (a5 z w)) fun e => by rw [e]; simp, _, rfl⟩
          · rw [kp.1]
            intro kv hm
            rcases List.mem_append.mp hm with hm | hm
            · exact a3 kv hm
            · obtain rfl := List.mem_singleton.mp hm
              exact ⟨n0 + 1, by simp⟩
          · rw [List.getElem?_append_left (List.getElem?_eq_some_iff.mp ax).1]
            exact ax
        · have yy : y ∈ rs' := by
            rw [keysI_val a4.k] at hb2
            by_cases h : y ∈ rs'
            · exact h
            · rw [decide_eq_false h] at hb2
              cases hb2
          exact ⟨e6.trans e7, e7 c _ hc, cd, cp, kvs', rs', e7 d _ a1, e7 p _ a2, a3, a4, ax, (fun z hz => ((tk z).mp hz).elim (a5 z) fun e => e ▸ yy), _, rfl⟩
      · obtain ⟨e6, hc, cd, cp, kvs', rs', a1, a2, a3, a4, ax, a5, x5, rfl⟩ := hq
        rw [List.length_map, List.take_length] at a5
        refine s_asg (v := .int ((k : Int) + 1)) (by walk_at "mu g") fun H5 e7 => ⟨e6.trans e7, kvs', rs', e7 d _ a1, e7 p _ a2, a3, ⟨a4.k, a4.nd, (List.getElem?_eq_some_iff.mp ax).1, a4.one_, a4.rch, fun i u lt hu => ?_⟩, _, rfl⟩
        by_cases c : i < k
        · exact a4.done i u c hu
        · obtain rfl : i = k := by omega
          rw [ax] at hu
          obtain rfl := Option.some.inj hu
          exact a5
    · have kend : k = rs.length := by
        have := of_decide_eq_false hf
        rw [List.length_map] at this
        have := st.at1
        omega
      subst kend
      exact s_ret (v := .ref d) (ev_var rfl) fun H5 e6 => q _ _ ((e4.trans e5).trans e6) ⟨d, kvs, rs, rfl, hd, (e5.trans e6) d _ hk, st.k, st.nd, st.end_⟩

def R_groups (H : Hp) (ep : List (Int × Int)) (m : Nat) : V → Hp → Prop := fun v H' => ∃ (p : Addr) (gs : List (Addr × List Int)), v = .ref p ∧ H p = none ∧ H' p = some (.lst (gs.map fun g => V.ref g.1)) ∧ gs.map (·.2) = grpM ep m m ∧ (gs.map (·.1)).Nodup ∧ ∀ g ∈ gs, H g.1 = none ∧ g.1 ≠ p ∧ H' g.1 = some (.lst (g.2.map V.int))
def D_l_due : Hp → List V → (V → Hp → Prop) → Prop := fun H vs R => ∃ (b : Addr) (m : Nat) (ps : List (Addr × Int × Int)), vs = [.ref b, .int m] ∧ H b = some (.lst (ps.map fun p => V.ref p.1)) ∧ PairsT H ps ∧ ps.length ≤ 1000 ∧ InR m (ps.map (·.2)) ∧ m ≤ 63 ∧ R = R_groups H (ps.map (·.2)) m
theorem ok_l_due (T : Txt K mg base) : FnOk P w K mg base CX0 3 T.a_l_due T.d_l_due ["_law_pairs", "_law_many"] (SpR D_l_due) := by
  refine T.F_l_due.ok sc_l_due (fun vs H Q E h => ?_) (fun cdv A outer s H vs Q E hr h => ?_)
  · obtain ⟨v, ⟨b, m, ps, rfl, _⟩, _⟩ := h
    rfl
  · obtain ⟨v, ⟨b, m, ps, rfl, hb, hps, hz, hin, m63, rfl⟩, q⟩ := h
    refine ⟨_, (pss_cons (ps_set (i := 2) sc_l_due.nd rfl (.inl rfl) (pe_lst pa_nil))
      (pss_cons (ps_set (i := 3) sc_l_due.nd rfl (.inl rfl) (pe_lst pa_nil))
      (pss_cons (ps_for PassesOwn.never rfl (pi_range1 (by rfl) T.z_range (pa_cons (pv 1) pa_nil)) (pg_name (i := 4) sc_l_due.nd rfl (.inl rfl))
      (pss_one (ps_if (pt_cmpR op_notIn_seq (pv 4) (pv 3) (by rfl))
      (pss_cons (ps_set (i := 5) sc_l_due.nd rfl (.inl rfl) (pe_callB (MuKv.cr_sortedKv rfl) (by rfl) T.z_sorted (by decide +kernel) (pa_cons (pe_bm0 PySem.F.plainAttrs_dict PySem.F.slot_dict_keys PySem.F.type_dict_keys MuKv.mt_keysV (pe_call (ok_l_steps T) (hr.mono (by decide)) rfl T.g_l_steps T.F_l_steps.kp T.b_l_steps .nil pass0 (pa_cons (pv 0) (pa_cons (pv 4) pa_nil)))) pa_nil)))
      (pss_cons (ps_expr (pe_bm PySem.F.plainAttrs_list PySem.F.slot_list_append PySem.F.type_list_append mt_append (pv 2) (pa_cons (pv 5) pa_nil)))
      (pss_one (ps_set (i := 3) sc_l_due.nd rfl (.inl rfl) (pe_op op_cat (pv 3) (pv 5))))))
      pss_nil)))
      (pss_one (ps_ret (pv 2)))))), ?_⟩
    generalize hep : ps.map (·.2) = ep at hin q
    refine q_asgL (xs := []) (el_lst (by walk_at "mu g") (by decide)) fun p H1 hp e1 h1 => ?_
    refine q_asgL (xs := []) (el_lst (by walk_at "mu g") (by decide)) fun q0 H2 hq0 e2 h2 => ?_
    refine q_forR1 (n := (m : Int)) (by walk_at "mu g") (by omega) (fun n σ' H' => Ex H H' ∧ n ≤ m ∧ ∃ (gs : List (Addr × List Int)) (c : Addr) (met : List Int), H' p = some (.lst (gs.map fun g => V.ref g.1)) ∧ gs.map (·.2) = grpM ep m n ∧ (gs.map (·.1)).Nodup ∧ (∀ g ∈ gs, H g.1 = none ∧ g.1 ≠ p ∧ H' g.1 = some (.lst (g.2.map V.int))) ∧ H' c = some (.lst (met.map V.int)) ∧ c ≠ p ∧ met = (grpM ep m n).flatten ∧ ∃ x4 x5, σ' = [some (.ref b), some (.int m), some (.ref p), some (.ref c), x4, x5])
      (fun H3 e3 => ⟨(e1.trans e2).trans e3, Nat.zero_le _, [], q0, [], (e2.trans e3) _ _ h1, rfl, List.nodup_nil, (fun _ y => nomatch y), e3 _ _ h2, (fun z => by rw [z, h1] at hq0; cases hq0), rfl, _, _, rfl⟩) (fun n σ' H' hn hq => ?_) (fun σ' H' hq => ?_)
    · obtain ⟨e3, _, gs, c, met, hg, hgs, nd, hnew, hc, cp, rfl, x4, x5, rfl⟩ := hq
      have nm : n < m := by omega
      have zg := grpM_len ep m n
      have zgs : gs.length ≤ n := by
        have := congrArg List.length hgs
        rw [List.length_map] at this
        omega
      have zf : (grpM ep m n).flatten.length ≤ 63 * 63 := by
        have a1 : (grpM ep m n).flatten.length ≤ (grpM ep m n).length * m := by
          rw [List.length_flatten]
          have h := grpM_in ep m n
          generalize grpM ep m n = l at h
          induction l with
          | nil => simp
          | cons a l ih =>
            have h1 := (h a List.mem_cons_self).1
            have h2 := ih fun g hg => h g (List.mem_cons_of_mem _ hg)
            rw [List.map_cons, List.sum_cons, List.length_cons, Nat.succ_mul]
            omega
        have a2 : (grpM ep m n).length * m ≤ 63 * 63 := Nat.mul_le_mul (by omega) (by omega)
        omega
      have mm : (n : Int) ∈ (grpM ep m n).flatten ↔ ∃ g ∈ grpM ep m n, (n : Int) ∈ g := List.mem_flatten
      refine s_when (b := !decide ((n : Int) ∈ (grpM ep m n).flatten)) (et_test (ev_op (ev_var rfl) (ev_var rfl) (rv_niI (sq_of hc)))) (fun hb2 H4 e4 => ?_) (fun hb2 H4 e4 => ?_)
      · have nin : ¬ ∃ g ∈ grpM ep m n, (n : Int) ∈ g := fun z => by
          rw [decide_eq_true (mm.mpr z)] at hb2
          cases hb2
        have e34 := e3.trans e4
        refine q_asgX (evx_sortedKv (ks := fun rs => rs.Nodup ∧ ∀ y, y ∈ rs ↔ Rch ep (n : Int) y) (evx_call (vs := [.ref b, .int n]) (by walk_at "mu g") fun H5 e5 => ⟨_, ⟨b, n, m, ps, rfl, (e34.trans e5) b _ hb, hps.later (e34.trans e5), hz, by rw [hep]; exact hin, by omega, by omega, rfl⟩, fun v H6 _ r => by
          rw [hep] at r
          obtain ⟨d, kvs, rs, rfl, _, hd, k, nd, hr⟩ := r
          have z := ints_few nd fun y hy => hin.rch (by omega) ((hr y).mp hy)
          exact ⟨d, kvs, rs, rfl, hd, k, by omega, nd, hr⟩⟩)) fun v H5 e5 r => ?_
        obtain ⟨a, ys, rs, rfl, ha, h5, pm, sr, ndr, hrs⟩ := r
        obtain rfl := sorted_cls (m := m) pm sr ndr hrs fun y hy => hin.rch (by omega) hy
        have e45 := e4.trans e5
        have ap : a ≠ p := fun z => by
          rw [z, e4 _ _ hg] at ha
          cases ha
        have hg5 := e45 _ _ hg
        refine q_app (v := .ref a) hg5 (ev_var rfl) (ev_var rfl) (by rw [List.length_map]; omega) fun H6 e6 => ?_
        have e36 : Ex H (upd H6 p (.lst ((gs.map fun g => V.ref g.1) ++ [.ref a]))) := Ex.mut ((e3.trans e45).trans e6) hp
        have cc : c ≠ p := cp
        have zc : (cls ep m n).length ≤ m := (grpM_in ep m (n + 1) _ (by rw [grpM_new nin]; simp)).1
        have h6a : (upd H6 p (.lst ((gs.map fun g => V.ref g.1) ++ [.ref a]))) a = some (.lst ((cls ep m n).map V.int)) := (upd_ne ap).trans (e6 _ _ h5)
        have h6g : (upd H6 p (.lst ((gs.map fun g => V.ref g.1) ++ [.ref a]))) p = some (.lst ((gs ++ [(a, cls ep m n)]).map fun g => V.ref g.1)) := by
          rw [upd_same, List.map_append]
          rfl
        have hn6 : ∀ g ∈ gs ++ [(a, cls ep m n)], H g.1 = none ∧ g.1 ≠ p ∧ (upd H6 p (.lst ((gs.map fun g => V.ref g.1) ++ [.ref a]))) g.1 = some (.lst (g.2.map V.int)) := fun g hg => by
          rcases List.mem_append.mp hg with hg | hg
          · exact ⟨(hnew g hg).1, (hnew g hg).2.1, (upd_ne (hnew g hg).2.1).trans ((e45.trans e6) _ _ (hnew g hg).2.2)⟩
          · obtain rfl := List.mem_singleton.mp hg
            exact ⟨fresh_back e34 ha, ap, h6a⟩
        have an : a ∉ gs.map (·.1) := fun z => by
          obtain ⟨g, hg, rfl⟩ := List.mem_map.mp z
          rw [e4 _ _ (hnew g hg).2.2] at ha
          cases ha
        refine s_asgL (el_catVV (ev_var rfl) ((upd_ne cp).trans ((e45.trans e6) _ _ hc)) (ev_var rfl) h6a (by rw [List.length_map, List.length_map]; omega)) fun c' H7 hc' e7 h7 => ?_
        refine ⟨e36.trans e7, nm, gs ++ [(a, cls ep m n)], c', (grpM ep m (n + 1)).flatten, e7 _ _ h6g, by rw [List.map_append, hgs, grpM_new nin]; rfl, ?_, fun g hg => ⟨(hn6 g hg).1, (hn6 g hg).2.1, e7 _ _ (hn6 g hg).2.2⟩, ?_, (fun z => by rw [z, h6g] at hc'; cases hc'), rfl, _, _, rfl⟩
        · rw [List.map_append, List.nodup_append]
          exact ⟨nd, by simp, fun x hx y hy e => an (by
            have hy2 : y = a := by simpa using hy
            rw [← hy2, ← e]
            exact hx)⟩
        · rw [h7, grpM_new nin, List.flatten_append, List.map_append]
          simp
      · have yin : ∃ g ∈ grpM ep m n, (n : Int) ∈ g := mm.mp (by
          by_cases z : (n : Int) ∈ (grpM ep m n).flatten
          · exact z
          · rw [decide_eq_false z] at hb2
            cases hb2)
        rw [← grpM_skip yin] at hgs
        exact ⟨e3.trans e4, nm, gs, c, _, e4 _ _ hg, hgs, nd, fun g hg => ⟨(hnew g hg).1, (hnew g hg).2.1, e4 _ _ (hnew g hg).2.2⟩, e4 _ _ hc, cp, by rw [grpM_skip yin], _, _, rfl⟩
    · obtain ⟨e3, _, gs, c, met, hg, hgs, nd, hnew, hc, cp, rfl, x4, x5, rfl⟩ := hq
      exact s_ret (v := .ref p) (ev_var rfl) fun H4 e4 => q _ _ (e3.trans e4) ⟨p, gs, rfl, hp, e4 _ _ hg, by simpa using hgs, nd, fun g hg => ⟨(hnew g hg).1, (hnew g hg).2.1, e4 _ _ (hnew g hg).2.2⟩⟩

/-- the dicts at ds have these keys: those that stand in a pair with the number -/
def BesideAt (H : Hp) (M : Nat → Int → Prop) (ds : List Addr) : Prop := ∀ (i : Nat) (d : Addr), ds[i]? = some d → ∃ (kvs : List (Key × V)) (rs : List Int), H d = some (.dK kvs) ∧ KeysI kvs rs ∧ rs.Nodup ∧ ∀ y, y ∈ rs ↔ M i y
def D_p_neighbours : Hp → List V → (V → Hp → Prop) → Prop := fun H vs R => ∃ (b : Addr) (m : Nat) (ps : List (Addr × Int × Int)), vs = [.ref b, .int m] ∧ H b = some (.lst (ps.map fun p => V.ref p.1)) ∧ PairsT H ps ∧ ps.length ≤ 2000 ∧ InR m (ps.map (·.2)) ∧ m ≤ 200 ∧
  (∀ (x : Int) (rs : List Int), rs.Nodup → (∀ y ∈ rs, y ∈ near (ps.map (·.2)) x) → rs.length < 64) ∧
  R = fun v H' => ∃ (p : Addr) (cs : List (Addr × List Int)), v = .ref p ∧ H' p = some (.lst (cs.map fun c => V.ref c.1)) ∧ NearAt H' (ps.map (·.2)) m cs
/-- [{} for _ in range(m)] -/
theorem evx_dicts {K : PySem.W.Frag} {σ : L2.St} {H : Hp} {ta : TA} {m : Nat} {j : Nat} {vs : List Nat} (h : EvA ta σ H [.int m]) (hz : m ≤ 1000) (hw : ∀ x, wipe ((wipe σ vs).set j (some x)) vs = wipe σ vs) :
    EvX (tLc (iRng1 ta) (gName j) tYes tDNewK vs) σ H (fun v H' => ∃ (p : Addr) (ds : List Addr), v = .ref p ∧ H p = none ∧ H' p = some (.lst (ds.map V.ref)) ∧ ds.length = m ∧ ds.Nodup ∧ (∀ d ∈ ds, H d = none ∧ d ≠ p ∧ H' d = some (.dK []))) := fun H0 e Q q => by
  refine h H0 e _ fun H1 e1 => ⟨m, rfl, by omega, by omega, fun Dl hD => ?_⟩
  refine lc_range (lo := 0) (n := (m : Int).toNat) (fun n H' => Ex H1 H' ∧ ∃ ds : List Addr, H' Dl = some (.lst (ds.map V.ref)) ∧ ds.length = n ∧ ds.Nodup ∧ ∀ d ∈ ds, H1 d = none ∧ d ≠ Dl ∧ H' d = some (.dK []))
    ⟨Ex.new hD, [], upd_same, rfl, List.nodup_nil, fun _ y => nomatch y⟩ (fun n H' hn hq => ?_) (fun H' hq => ?_)
  · obtain ⟨e2, ds, h2, hl, nd, hds⟩ := hq
    refine ⟨hw _, fun d hd => ?_⟩
    have dD : d ≠ Dl := fun z => by
      rw [z, h2] at hd
      exact nomatch hd
    have dn : d ∉ ds := fun z => by
      rw [(hds d z).2.2] at hd
      exact nomatch hd
    refine ⟨ds.map V.ref, (upd_ne (Ne.symm dD)).trans h2, sz_lt (by rw [List.length_map]; omega), Ex.mut (e2.trans (Ex.new hd)) hD, ds ++ [d], by rw [upd_same, List.map_append]; rfl, by simp [hl], ?_, fun x hx => ?_⟩
    · rw [List.nodup_append]
      exact ⟨nd, by simp, fun a ha b hb z => dn (by rw [List.mem_singleton] at hb; rw [← hb, ← z]; exact ha)⟩
    · rcases List.mem_append.mp hx with hx | hx
      · obtain ⟨c1, c2, c3⟩ := hds x hx
        exact ⟨c1, c2, (upd_ne c2).trans ((upd_ne fun z : x = d => dn (z ▸ hx)).trans c3)⟩
      · obtain rfl := List.mem_singleton.mp hx
        exact ⟨fresh_back e2 hd, dD, (upd_ne dD).trans upd_same⟩
  · obtain ⟨e2, ds, h2, hl, nd, hds⟩ := hq
    exact q _ _ (e1.trans e2) ⟨Dl, ds, rfl, fresh_back (e.trans e1) hD, h2, by omega, nd, fun d hd => ⟨fresh_back (e.trans e1) (hds d hd).1, (hds d hd).2⟩⟩
theorem near_one' (p : Int × Int) (x : Int) : near [p] x = (if p.1 = x then [p.2] else []) ++ (if p.2 = x then [p.1] else []) := by
  unfold near
  simp
/-- [sorted(numbers) for numbers in beside] -/
theorem evx_nears {K : PySem.W.Frag} {σ : L2.St} {H : Hp} {tl : TE} {a : Addr} {ds : List Addr} {j : Nat} {vs : List Nat} {ep : List (Int × Int)} (h : Ev tl σ H (.ref a)) (hx : SqL K H a (ds.map V.ref)) (hz : ds.length ≤ 1000) (hw : ∀ x, wipe ((wipe σ vs).set j (some x)) vs = wipe σ vs)
    (hB : BesideAt H (fun k y => y ∈ near ep k) ds) (hfew : ∀ (x : Int) (rs : List Int), rs.Nodup → (∀ y ∈ rs, y ∈ near ep x) → rs.length < 64) (hj : j < σ.length) :
    EvX (tLc (iList K tl) (gName j) tYes (tCB rSDI (tCons (tVar j) tNil)) vs) σ H (fun v H' => ∃ (p : Addr) (cs : List (Addr × List Int)), v = .ref p ∧ H' p = some (.lst (cs.map fun c => V.ref c.1)) ∧ NearAt H' ep ds.length cs) := fun H0 e Q q => by
  refine h H0 e _ fun H1 e1 => ⟨a, rfl, ⟨_, ex_l (e.trans e1) hx⟩, fun Dl hD => ?_⟩
  have e01 := e.trans e1
  refine lc_list (xs := ds.map V.ref)
    (fun n H' => Ex H1 H' ∧ ∃ cs : List (Addr × List Int), H' Dl = some (.lst (cs.map fun c => V.ref c.1)) ∧ cs.length = n ∧ (∀ c ∈ cs, c.1 ≠ Dl ∧ H' c.1 = some (.lst (c.2.map V.int))) ∧ ∀ (i : Nat) (c : Addr × List Int), cs[i]? = some c → c.2.Pairwise (· < ·) ∧ ∀ y, y ∈ c.2 ↔ y ∈ near ep i)
    ⟨Ex.new hD, [], upd_same, rfl, (fun _ y => nomatch y), fun i c hc => by simp at hc⟩ (fun n H' _ p => ex_l (e01.trans p.1) hx) (fun n x H' hn p => ?_) (fun H' p => ?_)
  · obtain ⟨e2, cs, h2, hl, hcs, hat⟩ := p
    obtain ⟨d, hd, rfl⟩ : ∃ d, ds[n]? = some d ∧ x = .ref d := by
      rw [List.getElem?_map] at hn
      cases y : ds[n]? with
      | none =>
        rw [y] at hn
        exact nomatch hn
      | some c =>
        rw [y] at hn
        exact ⟨c, rfl, (Option.some.inj hn).symm⟩
    obtain ⟨kvs, rs, g1, g2, g3, g4⟩ := hB n d hd
    refine ⟨hw _, evx_sortedDI (ev_var (by rw [List.getElem?_set_self (by rw [wipe_length]; exact hj)])) (.inl ((e01.trans e2) _ _ g1)) g2 (hfew n rs g3 fun y hy => (g4 y).mp hy) H' (Ex.refl H') _ fun v H2 e3 r => ?_⟩
    obtain ⟨p, ys, rfl, hp, hys, pm, sr⟩ := r
    have pD : p ≠ Dl := fun z => by
      rw [z, h2] at hp
      exact nomatch hp
    have ndy : ys.Nodup := pm.nodup_iff.mpr g3
    refine ⟨_, e3 _ _ h2, sz_lt (by rw [List.length_map]; have := (List.getElem?_eq_some_iff.mp hd).1; omega), Ex.mut (e2.trans e3) hD, cs ++ [(p, ys)], by rw [upd_same, List.map_append]; rfl, by simp [hl], fun c hc => ?_, fun i c hc => ?_⟩
    · rcases List.mem_append.mp hc with hc | hc
      · exact ⟨(hcs c hc).1, (upd_ne (hcs c hc).1).trans (e3 _ _ (hcs c hc).2)⟩
      · obtain rfl := List.mem_singleton.mp hc
        exact ⟨pD, (upd_ne pD).trans hys⟩
    · by_cases lt : i < cs.length
      · rw [List.getElem?_append_left lt] at hc
        exact hat i c hc
      · rw [List.getElem?_append_right (by omega)] at hc
        have z : i - cs.length = 0 := by
          have := (List.getElem?_eq_some_iff.mp hc).1
          simp at this
          omega
        rw [z] at hc
        obtain rfl := Option.some.inj hc
        obtain rfl : i = n := by omega
        refine ⟨?_, fun y => pm.mem_iff.trans (g4 y)⟩
        exact (List.Pairwise.and sr ndy).imp fun h => by have := h.1; have := h.2; omega
  · obtain ⟨e2, cs, h2, hl, hcs, hat⟩ := p
    rw [List.length_map] at hl
    exact q _ _ (e1.trans e2) ⟨Dl, cs, rfl, h2, hl, fun c hc => (hcs c hc).2, hat⟩
theorem ok_p_neighbours (T : Txt K mg base) : FnOk P w K mg base CX0 1 T.a_p_neighbours T.d_p_neighbours ["pairs", "many"] (SpR D_p_neighbours) := by
  refine T.F_p_neighbours.ok sc_p_neighbours (fun vs H Q E h => ?_) (fun cdv A outer s H vs Q E hr h => ?_)
  · obtain ⟨v, ⟨b, m, ps, rfl, _⟩, _⟩ := h
    rfl
  · obtain ⟨v, ⟨b, m, ps, rfl, hb, hps, hz, hin, m200, hfew, rfl⟩, q⟩ := h
    refine ⟨_, (pss_cons (ps_setLc (i := 2) (own := [("_", 3)]) (g := gName 3) (tt := tYes) rfl sc_p_neighbours.nd rfl rfl (sw_true rfl rfl rfl (by decide +kernel)) (pi_range1 (by rfl) T.z_range (pa_cons (pv 1) pa_nil)) (blkOk_by (N := ["pairs", "many", "beside", "_", "pair", "numbers"]) (sc := defScope s_p_neighbours) (by decide +kernel)) (fun _ _ _ _ _ => (pg_name (i := 3) sc_p_neighbours.nd rfl (Or.inl rfl))) (fun _ _ _ _ _ => pts_nil) (fun _ _ _ _ _ => pe_dnewK))
      (pss_cons (ps_for PassesOwn.never rfl (pi_list (pv 0)) (pg_name (i := 4) sc_p_neighbours.nd rfl (.inl rfl))
      (pss_cons (ps_dput (hu_of hr) (pe_ix ix_list (pv 2) (pe_ix ix_tup (pv 4) pe_int (fun _ _ => rfl)) (fun _ _ => rfl)) (pe_ix ix_tup (pv 4) pe_int (fun _ _ => rfl)) pe_bl rfl)
      (pss_one (ps_dput (hu_of hr) (pe_ix ix_list (pv 2) (pe_ix ix_tup (pv 4) pe_int (fun _ _ => rfl)) (fun _ _ => rfl)) (pe_ix ix_tup (pv 4) pe_int (fun _ _ => rfl)) pe_bl rfl))))
      (pss_one (ps_ret (pe_lc (own := [("numbers", 5)]) (g := gName 5) (tt := tYes) rfl sc_p_neighbours.nd (pi_list (pv 2)) (blkOk_by (N := ["pairs", "many", "beside", "_", "pair", "numbers"]) (sc := defScope s_p_neighbours) (by decide +kernel)) (fun _ _ _ _ _ => (pg_name (i := 5) sc_p_neighbours.nd rfl (Or.inl rfl))) (fun _ _ _ _ _ => pts_nil) (fun _ _ _ _ _ => (pe_callB (show CallR _ (.builtin "sorted") MuK.rSDI from call_sortedDI rfl) (by rfl) T.z_sorted (by decide +kernel) (pa_cons (pv 5) pa_nil)))))))), ?_⟩
    refine q_asgX (evx_dicts (K := K) (by walk_at "mu g") (by omega) fun _ => rfl) fun v H1 e1 r => ?_
    obtain ⟨p, ds, rfl, hp, h1, hl, nd, hds⟩ := r
    have dAt : ∀ {H' : Hp} {M : Nat → Int → Prop} {i : Nat}, BesideAt H' M ds → i < m → ∃ (d : Addr) (kvs : List (Key × V)) (rs : List Int), ds[i]? = some d ∧ d ∈ ds ∧ H' d = some (.dK kvs) ∧ KeysI kvs rs ∧ rs.Nodup ∧ ∀ y, y ∈ rs ↔ M i y := fun h lt => by
      have lt2 : _ < ds.length := hl ▸ lt
      obtain ⟨kvs, rs, r⟩ := h _ _ (List.getElem?_eq_getElem lt2)
      exact ⟨_, kvs, rs, List.getElem?_eq_getElem lt2, List.getElem_mem lt2, r⟩
    have put : ∀ {H' : Hp} {M : Nat → Int → Prop} {i : Nat} {d : Addr} {kvs : List (Key × V)} {j : Int} {M2 : Nat → Int → Prop} (w : V), BesideAt H' M ds → ds[i]? = some d → H' d = some (.dK kvs) → (∀ (k : Nat) y, M2 k y ↔ M k y ∨ (k = i ∧ y = j)) →
        BesideAt (upd H' d (.dK (putK kvs (.inl j) w))) M2 ds := fun {H' M i d kvs j M2} w h hi hd hep k c hc => by
      obtain ⟨kv2, rs, a1, a2, a3, a4⟩ := h k c hc
      by_cases z : k = i
      · subst z
        rw [hi] at hc
        obtain rfl := Option.some.inj hc
        rw [hd] at a1
        obtain rfl : kvs = kv2 := by injection (Option.some.inj a1)
        by_cases jm : j ∈ rs
        · exact ⟨_, rs, upd_same, keysI_put2 a2 jm w, a3, fun y => by
            rw [hep, ← a4]
            exact ⟨.inl, fun o => o.elim id fun o => o.2 ▸ jm⟩⟩
        · refine ⟨_, rs ++ [j], upd_same, (keysI_put a2 jm w).2, ?_, fun y => ?_⟩
          · rw [List.nodup_append]
            exact ⟨a3, by simp, fun a ha b hb e => jm (by rw [List.mem_singleton] at hb; rw [← hb, ← e]; exact ha)⟩
          · rw [hep, ← a4, List.mem_append, List.mem_singleton]
            exact ⟨fun o => o.imp id fun o => ⟨rfl, o⟩, fun o => o.imp id fun o => o.2⟩
      · have cd : c ≠ d := fun y => by
          rw [y] at hc
          exact z ((List.getElem?_inj (List.getElem?_eq_some_iff.mp hc).1 nd).mp (hc.trans hi.symm))
        exact ⟨kv2, rs, (upd_ne cd).trans a1, a2, a3, fun y => by
          rw [hep, ← a4]
          exact ⟨.inl, fun o => o.elim id fun o => absurd o.1 z⟩⟩
    have later : ∀ {H' H2 : Hp} {M : Nat → Int → Prop}, BesideAt H' M ds → Ex H' H2 → BesideAt H2 M ds := fun h e i d hd => by
      obtain ⟨kvs, rs, a1, r⟩ := h i d hd
      exact ⟨kvs, rs, e _ _ a1, r⟩
    refine q_forLn (K := K) (a := b) (xs := ps.map fun p => V.ref p.1) (ev_var rfl) (sq_of (e1 b _ hb)) (fun n σ' H' => Ex H H' ∧ H' p = some (.lst (ds.map V.ref)) ∧ BesideAt H' (fun k y => y ∈ near ((ps.take n).map (·.2)) k) ds ∧ ∃ x3 x4 x5, σ' = [some (.ref b), some (.int m), some (.ref p), x3, x4, x5])
      (fun H2 e2 => ⟨e1.trans e2, e2 p _ h1, fun i d hd => ⟨[], [], e2 _ _ (hds d (List.mem_of_getElem? hd)).2.2, rfl, List.nodup_nil, fun y => by
        rw [List.take_zero]
        exact ⟨fun z => (nomatch z), fun z => (nomatch z)⟩⟩, _, _, _, rfl⟩) (fun n σ' H' _ hq => sq_of (hq.1 b _ hb)) (fun n x σ' H' hx hq => ?_) (fun σ' H' hq => ?_)
    · obtain ⟨e2, h2, hB, x3, x4, x5, rfl⟩ := hq
      obtain ⟨pr, epr, mpr, rfl⟩ := pair_at hx
      have hT : ∀ H3, Ex H H3 → PairT H3 pr := fun H3 e => (hps pr mpr).later e
      obtain ⟨⟨i0, i1⟩, j0, j1⟩ := hin pr.2 (List.mem_map.mpr ⟨pr, mpr, rfl⟩)
      generalize hi : pr.2.1 = i at i0 i1
      generalize hj : pr.2.2 = j at j0 j1
      have q0 : ∀ {H3 : Hp}, PairT H3 pr → RV (rIxT K) (.ref pr.1) (.int 0) H3 (.int i) := fun h => hi ▸ rv_p0 h
      have q1 : ∀ {H3 : Hp}, PairT H3 pr → RV (rIxT K) (.ref pr.1) (.int 1) H3 (.int j) := fun h => hj ▸ rv_p1 h
      obtain ⟨iN, rfl⟩ : ∃ iN : Nat, i = iN := ⟨i.toNat, by omega⟩
      obtain ⟨jN, rfl⟩ : ∃ jN : Nat, j = jN := ⟨j.toNat, by omega⟩
      obtain ⟨d, kvs, rs, hd, md, g1, g2, g3, g4⟩ := dAt hB (i := iN) (by omega)
      have at_ : ∀ {H3 : Hp} {k : Nat} {d : Addr}, H3 p = some (.lst (ds.map V.ref)) → ds[k]? = some d → RV (rIxL K) (.ref p) (.int (k : Int)) H3 (.ref d) := fun h e => rv_ixL (sq_of h) (atI_nat (by rw [List.getElem?_map, e]; rfl))
      have small : ∀ {kvs : List (Key × V)} {rs : List Int}, KeysI kvs rs → rs.Nodup → (∀ y ∈ rs, 0 ≤ y ∧ y < (m : Int)) → kvs.length < 100000 := fun k n h => by
        have := ints_few n h
        have := keysI_len k
        omega
      have hinT : InR m ((ps.take n).map (·.2)) := fun x hx => by
        obtain ⟨z, hz, e⟩ := List.mem_map.mp hx
        exact hin x (List.mem_map.mpr ⟨z, List.mem_of_mem_take hz, e⟩)
      refine q_dputK (k := .inl (jN : Int)) (v := .bl true) g1 (small g2 g3 fun y hy => (hinT.near ((g4 y).mp hy)).2) ev_c (ev_op (ev_var rfl) (ev_op (ev_var rfl) ev_c (q0 (hT _ e2))) (at_ h2 hd)) (ev_op (ev_var rfl) ev_c (q1 (hT _ e2))) fun H3 e3 => ?_
      have hB2 := put (i := iN) (d := d) (kvs := kvs) (j := (jN : Int)) (M2 := fun k y => y ∈ near ((ps.take n).map (·.2)) k ∨ (k = iN ∧ y = (jN : Int))) (.bl true) (later hB e3) hd (e3 _ _ g1) (fun _ _ => Iff.rfl)
      have dp : ∀ c ∈ ds, p ≠ c := fun c hc => Ne.symm (hds c hc).2.1
      have e4 : Ex H (upd H3 d (.dK (putK kvs (.inl (jN : Int)) (.bl true)))) := Ex.mut (e2.trans e3) (hds d md).1
      have h4 : (upd H3 d (.dK (putK kvs (.inl (jN : Int)) (.bl true)))) p = some (.lst (ds.map V.ref)) := (upd_ne (dp d md)).trans (e3 _ _ h2)
      generalize upd H3 d (.dK (putK kvs (.inl (jN : Int)) (.bl true))) = H4 at hB2 e4 h4
      obtain ⟨d2, kv2, rs2, hd2, md2, f1, f2, f3, f4⟩ := dAt hB2 (i := jN) (by omega)
      refine s_dputK (k := .inl (iN : Int)) (v := .bl true) f1 (small f2 f3 fun y hy => ?_) ev_c (ev_op (ev_var rfl) (ev_op (ev_var rfl) ev_c (q1 (hT _ e4))) (at_ h4 hd2)) (ev_op (ev_var rfl) ev_c (q0 (hT _ e4))) fun H5 e5 => ?_
      · rcases (f4 y).mp hy with z | z
        · exact (hinT.near z).2
        · rw [z.2]
          exact ⟨j0, j1⟩
      have hB3 := put (i := jN) (d := d2) (kvs := kv2) (j := (iN : Int)) (M2 := fun (k : Nat) y => y ∈ near ((ps.take (n + 1)).map (·.2)) (k : Int)) (.bl true) (later hB2 e5) hd2 (e5 _ _ f1) (fun k y => by
        rw [List.take_add_one, epr, List.map_append, near_app, show (some pr).toList.map (·.2) = [pr.2] from rfl, near_one', hi, hj, List.mem_append, List.mem_append, or_assoc]
        refine or_congr Iff.rfl (or_congr ?_ ?_)
        · by_cases c : (iN : Int) = (k : Int)
          · rw [if_pos c, List.mem_singleton]
            exact ⟨fun z => ⟨by omega, z⟩, fun z => z.2⟩
          · rw [if_neg c]
            exact ⟨fun z => (nomatch z), fun z => absurd (by omega) c⟩
        · by_cases c : (jN : Int) = (k : Int)
          · rw [if_pos c, List.mem_singleton]
            exact ⟨fun z => ⟨by omega, z⟩, fun z => z.2⟩
          · rw [if_neg c]
            exact ⟨fun z => (nomatch z), fun z => absurd (by omega) c⟩)
      exact ⟨Ex.mut (e4.trans e5) (hds d2 md2).1, (upd_ne (dp d2 md2)).trans (e5 _ _ h4), hB3, _, _, _, rfl⟩
    · obtain ⟨e2, h2, hB, x3, x4, x5, rfl⟩ := hq
      rw [List.length_map, List.take_length] at hB
      refine s_retX (evx_nears (K := K) (ev_var rfl) (sq_of h2) (by omega) (fun _ => rfl) (ep := ps.map (·.2)) hB hfew (by simp)) fun v H3 e3 r => q v H3 (e2.trans e3) ?_
      obtain ⟨c, cs, rfl, hc, hn⟩ := r
      exact ⟨c, cs, rfl, hc, hl ▸ hn⟩

def R_p_reached (H : Hp) (ep : List (Int × Int)) (one : Int) : V → Hp → Prop := fun v H' => ∃ (d : Addr) (kvs : List (Key × V)) (rs : List Int), v = .ref d ∧ H d = none ∧ H' d = some (.dK kvs) ∧ KeysI kvs rs ∧ rs.Nodup ∧ (∀ y, y ∈ rs ↔ Rch ep one y)
def D_p_reached_from : Hp → List V → (V → Hp → Prop) → Prop := fun H vs R => ∃ (b : Addr) (one : Int) (m : Nat) (ep : List (Int × Int)) (cs : List (Addr × List Int)), vs = [.int one, .ref b] ∧ H b = some (.lst (cs.map fun c => V.ref c.1)) ∧ NearAt H ep m cs ∧ InR m ep ∧ (0 ≤ one ∧ one < m) ∧ m ≤ 200 ∧ R = R_p_reached H ep one
/-- what is known as the numbers of the edge are walked: the first k of the edge are done -/
structure ReachAt (ep : List (Int × Int)) (one : Int) (kvs : List (Key × V)) (rs edge more : List Int) (k : Nat) : Prop where
  keys : KeysI kvs rs
  nd : rs.Nodup
  one_ : one ∈ rs
  rch : ∀ y ∈ rs, Rch ep one y
  sub : ∀ y ∈ edge, y ∈ rs
  subm : ∀ y ∈ more, y ∈ rs
  done : ∀ x ∈ rs, x ∉ edge.drop k → x ∉ more → ∀ y ∈ near ep x, y ∈ rs
theorem ok_p_reached_from (T : Txt K mg base) : FnOk P w K mg base CX0 1 T.a_p_reached_from T.d_p_reached_from ["start", "neighbours"] (SpR D_p_reached_from) := by
  refine T.F_p_reached_from.ok sc_p_reached_from (fun vs H Q E h => ?_) (fun cdv A outer s H vs Q E hr h => ?_)
  · obtain ⟨v, ⟨b, one, m, ep, cs, rfl, _⟩, _⟩ := h
    rfl
  · obtain ⟨v, ⟨b, one, m, ep, cs, rfl, hb, hcs, hin, h1m, m200, rfl⟩, q⟩ := h
    refine ⟨_, (pss_cons (ps_set (i := 2) sc_p_reached_from.nd rfl (.inl rfl) (pe_disp (pps_cons (pv 0) pe_non pps_nil) (by rfl) (by rfl) (fun z => by cases z) (by decide)))
      (pss_cons (ps_set (i := 3) sc_p_reached_from.nd rfl (.inl rfl) (pe_lst (pa_cons (pv 0) pa_nil)))
      (pss_cons (ps_while PassesOwn.never (pt_truth (pv 3) (by intro _; rfl)) (pss_cons (ps_set (i := 4) sc_p_reached_from.nd rfl (.inl rfl) (pe_lst pa_nil))
      (pss_cons (ps_for PassesOwn.never rfl (pi_list (pv 3)) (pg_name (i := 5) sc_p_reached_from.nd rfl (.inl rfl))
      (pss_one (ps_for PassesOwn.never rfl (pi_list (pe_ix ix_list (pv 1) (pv 5) (fun _ _ => rfl))) (pg_name (i := 6) sc_p_reached_from.nd rfl (.inl rfl))
      (pss_one (ps_if (pt_cmp (pc_dnotin (hu_of hr) (pv 6) (pv 2)))
      (pss_cons (ps_dput (hu_of hr) (pv 2) (pv 6) (pv 5) rfl)
      (pss_one (ps_expr (pe_bm PySem.F.plainAttrs_list PySem.F.slot_list_append PySem.F.type_list_append mt_append (pv 4) (pa_cons (pv 6) pa_nil)))))
      pss_nil)))))
      (pss_one (ps_set (i := 3) sc_p_reached_from.nd rfl (.inl rfl) (pv 4))))))
      (pss_one (ps_ret (pv 2)))))), ?_⟩
    refine q_asgX (evx_disp1 (k := .inl one) (v := .non) (ev_var rfl) ev_c) fun v H1 e1 r => ?_
    obtain ⟨d, rfl, hd, h1⟩ := r
    refine q_asgL (xs := [.int one]) (el_lst (by walk_at "mu g") (by simp)) fun p H2 hp e2 h2 => ?_
    have pd : p ≠ d := fun z => by
      rw [z, h1] at hp
      exact nomatch hp
    have e12 := e1.trans e2
    have few : ∀ {kvs : List (Key × V)} {rs eg mr : List Int} {k : Nat}, ReachAt ep one kvs rs eg mr k → rs.length ≤ m := fun st => ints_few st.nd fun y hy => hin.rch h1m (st.rch y hy)
    refine q_while (fun z σ' H' => Ex H H' ∧ ∃ (kvs : List (Key × V)) (rs eg : List Int) (c : Addr), H' d = some (.dK kvs) ∧ H' c = some (.lst (eg.map V.int)) ∧ c ≠ d ∧ H c = none ∧ ReachAt ep one kvs rs eg [] 0 ∧ z = 2 * (m - rs.length) + (if eg = [] then 0 else 1) ∧ ∃ x4 x5 x6, σ' = [some (.int one), some (.ref b), some (.ref d), some (.ref c), x4, x5, x6])
      (2 * (m - 1) + 1) ⟨e12, [(.inl one, .non)], [one], [one], p, e2 d _ h1, h2, pd, fresh_back e1 hp, ⟨rfl, by simp, by simp, fun y hy => by
        obtain rfl := List.mem_singleton.mp hy
        exact .refl, fun y hy => hy, fun y hy => (nomatch hy), fun x hx nx _ => absurd hx nx⟩, by simp, _, _, _, rfl⟩ (fun z σ' H' hw => ?_)
    obtain ⟨e4, kvs, rs, eg, c, hk, hc, cd, hcn, st, rfl, x4, x5, x6, rfl⟩ := hw
    refine ⟨!(eg.map V.int).isEmpty, et_truL (K := K) (ev_var rfl) (sq_of hc), fun ht H4 e5 => ?_, fun hf H4 e5 => ?_⟩
    · have ne : eg ≠ [] := fun z => by
        rw [z] at ht
        cases ht
      have e45 := e4.trans e5
      refine ⟨fun σ' H' => Ex H H' ∧ ∃ (kvs : List (Key × V)) (rs' mr : List Int) (c' : Addr), H' d = some (.dK kvs) ∧ H' c' = some (.lst (mr.map V.int)) ∧ c' ≠ d ∧ H c' = none ∧ ReachAt ep one kvs rs' mr [] 0 ∧ rs'.length = rs.length + mr.length ∧ ∃ x4 x5 x6, σ' = [some (.int one), some (.ref b), some (.ref d), some (.ref c'), x4, x5, x6], fun σ' H' hq => ?_, ?_⟩
      · obtain ⟨e6, kvs', rs', mr, c', a1, a2, a3, a4, a5, a6, x4, x5, x6, rfl⟩ := hq
        have := few a5
        refine ⟨2 * (m - rs'.length) + (if mr = [] then 0 else 1), ?_, e6, kvs', rs', mr, c', a1, a2, a3, a4, a5, rfl, _, _, _, rfl⟩
        rw [if_neg ne]
        by_cases z : mr = []
        · rw [if_pos z]
          rw [z] at a6
          simp at a6
          omega
        · rw [if_neg z]
          have : 0 < mr.length := List.length_pos_iff.mpr z
          omega
      refine q_asgL (xs := []) (el_lst (by walk_at "mu g") (by decide)) fun f H5 hf e6 h5 => ?_
      have fd : f ≠ d := fun z => by
        rw [z, e5 d _ hk] at hf
        exact nomatch hf
      have fc : f ≠ c := fun z => by
        rw [z, e5 c _ hc] at hf
        exact nomatch hf
      have hf0 : H f = none := fresh_back e45 hf
      refine q_forLn (K := K) (a := c) (xs := eg.map V.int) (ev_var rfl) (sq_of ((e5.trans e6) c _ hc)) (fun n σ' H' => Ex H H' ∧ H' c = some (.lst (eg.map V.int)) ∧ ∃ (kvs : List (Key × V)) (rs' mr : List Int), H' d = some (.dK kvs) ∧ H' f = some (.lst (mr.map V.int)) ∧ ReachAt ep one kvs rs' eg mr n ∧ rs'.length = rs.length + mr.length ∧ ∃ x5 x6, σ' = [some (.int one), some (.ref b), some (.ref d), some (.ref c), some (.ref f), x5, x6])
        (fun H6 e7 => ⟨(e45.trans e6).trans e7, ((e5.trans e6).trans e7) c _ hc, kvs, rs, [], ((e5.trans e6).trans e7) d _ hk, e7 f _ h5, st, by simp, _, _, rfl⟩) (fun n σ' H' _ hq => sq_of hq.2.1) (fun n u σ' H' hu hq => ?_) (fun σ' H' hq => ?_)
      · obtain ⟨e7, hc', kvs', rs', mr, a1, a2, a3, a4, x5, x6, rfl⟩ := hq
        obtain ⟨x, ex, mx, rfl⟩ := int_at hu
        have xr : 0 ≤ x ∧ x < (m : Int) := hin.rch h1m (a3.rch x (a3.sub x mx))
        obtain ⟨xN, rfl⟩ : ∃ xN : Nat, x = xN := ⟨x.toNat, by omega⟩
        have xlt : xN < cs.length := by
          rw [hcs.1]
          omega
        have hcx : cs[xN]? = some cs[xN] := List.getElem?_eq_getElem xlt
        have mcx : cs[xN] ∈ cs := List.getElem_mem xlt
        obtain ⟨_, hnx⟩ := hcs.2.2 _ _ hcx
        have hox := hcs.2.1 _ mcx
        generalize cs[xN] = o at hcx mcx hnx hox
        have o_d : o.1 ≠ d := fun z => by
          rw [z, fresh_back (Ex.refl H) hd] at hox
          exact nomatch hox
        refine s_forLn (K := K) (a := o.1) (xs := o.2.map V.int) (ev_op (ev_var rfl) (ev_var rfl) (rv_ixL (sq_of (e7 b _ hb)) (atI_nat (by rw [List.getElem?_map, hcx]; rfl)))) (sq_of (e7 _ _ hox))
          (fun j σ' H' => Ex H H' ∧ H' c = some (.lst (eg.map V.int)) ∧ ∃ (kvs : List (Key × V)) (rs' mr : List Int), H' d = some (.dK kvs) ∧ H' f = some (.lst (mr.map V.int)) ∧ ReachAt ep one kvs rs' eg mr n ∧ rs'.length = rs.length + mr.length ∧ (∀ y ∈ o.2.take j, y ∈ rs') ∧ ∃ x6, σ' = [some (.int one), some (.ref b), some (.ref d), some (.ref c), some (.ref f), some (.int (xN : Int)), x6])
          (fun H6 e8 => ⟨e7.trans e8, e8 c _ hc', kvs', rs', mr, e8 d _ a1, e8 f _ a2, a3, a4, (fun y hy => by simp at hy), _, rfl⟩) (fun j σ' H' _ hq => sq_of (hq.1 _ _ hox)) (fun j u σ' H' hu hq => ?_) (fun σ' H' hq => ?_)
        · obtain ⟨e8, hc8, kv8, rs8, mr8, b1, b2, b3, b4, b5, x6, rfl⟩ := hq
          obtain ⟨y, ey, my, rfl⟩ := int_at hu
          have tk : ∀ z, z ∈ o.2.take (j + 1) ↔ z ∈ o.2.take j ∨ z = y := fun z => by
            rw [List.take_add_one, ey, List.mem_append]
            simp
          refine s_when (b := !(valV kv8 (.inl y)).isSome) (et_dnin (k := .inl y) (ev_var rfl) (ev_var rfl) (.inl b1)) (fun hb2 H6 e9 => ?_) (fun hb2 H6 e9 => ?_)
          · have ny : y ∉ rs8 := fun hy => by
              rw [keysI_val b3.keys, decide_eq_true hy] at hb2
              cases hb2
            have kp := keysI_put b3.keys ny (.int (xN : Int))
            have zk := keysI_len b3.keys
            have fm := few b3
            have st' : ReachAt ep one (putK kv8 (.inl y) (.int (xN : Int))) (rs8 ++ [y]) eg (mr8 ++ [y]) n := ⟨kp.2, by
              rw [List.nodup_append]
              exact ⟨b3.nd, by simp, fun a ha b hb e => ny (by rw [List.mem_singleton] at hb; rw [← hb, ← e]; exact ha)⟩, List.mem_append_left _ b3.one_, fun z hz => by
              rcases List.mem_append.mp hz with hz | hz
              · exact b3.rch z hz
              · obtain rfl := List.mem_singleton.mp hz
                exact .step (b3.rch _ (b3.sub _ mx)) ((hnx z).mp my), fun z hz => List.mem_append_left _ (b3.sub z hz), fun z hz => by
              rcases List.mem_append.mp hz with hz | hz
              · exact List.mem_append_left _ (b3.subm z hz)
              · exact List.mem_append_right _ hz, fun z hz n1 n2 t ht => by
              rcases List.mem_append.mp hz with hz | hz
              · exact List.mem_append_left _ (b3.done z hz n1 (fun k => n2 (List.mem_append_left _ k)) t ht)
              · exact absurd (List.mem_append_right _ hz) n2⟩
            refine q_dputK (k := .inl y) (v := .int (xN : Int)) (e9 d _ b1) (by omega) (ev_var rfl) (ev_var rfl) (ev_var rfl) fun H7 e10 => ?_
            have e90 := e9.trans e10
            have zm : mr8.length ≤ m := by omega
            refine s_app (v := .int y) ((upd_ne fd).trans (e90 f _ b2)) (ev_var rfl) (ev_var rfl) (by rw [List.length_map]; omega) fun H8 e11 => ?_
            refine ⟨Ex.mut ((Ex.mut (e8.trans e90) hd).trans e11) hf0, (upd_ne (Ne.symm fc)).trans (e11 c _ ((upd_ne cd).trans (e90 c _ hc8))), _, _, mr8 ++ [y], (upd_ne (Ne.symm fd)).trans (e11 d _ upd_same), by rw [upd_same, List.map_append]; rfl, st', by simp only [List.length_append, List.length_singleton]; omega, fun z hz => ((tk z).mp hz).elim (fun w => List.mem_append_left _ (b5 z w)) fun e => by rw [e]; simp, _, rfl⟩
          · have yy : y ∈ rs8 := by
              rw [keysI_val b3.keys] at hb2
              by_cases h : y ∈ rs8
              · exact h
              · rw [decide_eq_false h] at hb2
                cases hb2
            exact ⟨e8.trans e9, e9 c _ hc8, kv8, rs8, mr8, e9 d _ b1, e9 f _ b2, b3, b4, (fun z hz => ((tk z).mp hz).elim (b5 z) fun e => e ▸ yy), _, rfl⟩
        · obtain ⟨e8, hc8, kv8, rs8, mr8, b1, b2, b3, b4, b5, x6, rfl⟩ := hq
          rw [List.length_map, List.take_length] at b5
          refine ⟨e8, hc8, kv8, rs8, mr8, b1, b2, ⟨b3.keys, b3.nd, b3.one_, b3.rch, b3.sub, b3.subm, fun z hz n1 n2 t ht => ?_⟩, b4, _, _, rfl⟩
          by_cases zx : z = xN
          · subst zx
            exact b5 t ((hnx t).mpr ht)
          · refine b3.done z hz (fun k => ?_) n2 t ht
            have lt := (List.getElem?_eq_some_iff.mp ex).1
            rw [List.drop_eq_getElem_cons lt, (List.getElem?_eq_some_iff.mp ex).2] at k
            rcases List.mem_cons.mp k with k | k
            · exact zx k
            · exact n1 k
      · obtain ⟨e7, hc', kvs', rs', mr, a1, a2, a3, a4, x5, x6, rfl⟩ := hq
        rw [List.length_map, ] at a3
        refine s_asg (v := .ref f) (ev_var rfl) fun H6 e8 => ⟨e7.trans e8, kvs', rs', mr, f, e8 d _ a1, e8 f _ a2, fd, hf0, ⟨a3.keys, a3.nd, a3.one_, a3.rch, a3.subm, (fun y hy => (nomatch hy)), fun z hz n1 n2 t ht => a3.done z hz (by simp) n1 t ht⟩, a4, _, _, _, rfl⟩
    · have eg0 : eg = [] := by
        cases eg with
        | nil => rfl
        | cons a r => cases hf
      refine s_ret (v := .ref d) (ev_var rfl) fun H5 e6 => q _ _ ((e4.trans e5).trans e6) ⟨d, kvs, rs, rfl, hd, (e5.trans e6) d _ hk, st.keys, st.nd, fun y => ⟨st.rch y, fun r => ?_⟩⟩
      induction r with
      | refl => exact st.one_
      | step _ mm ih => exact st.done _ ih (by rw [eg0]; simp) (fun k => (nomatch k)) _ mm

def R_groupsP (H : Hp) (ep : List (Int × Int)) (m : Nat) : V → Hp → Prop := fun v H' => ∃ (p : Addr) (gs : List (Addr × List Int)), v = .ref p ∧ H p = none ∧ H' p = some (.lst (gs.map fun g => V.ref g.1)) ∧ gs.map (·.2) = grpM ep m m ∧ (gs.map (·.1)).Nodup ∧ ∀ g ∈ gs, H g.1 = none ∧ g.1 ≠ p ∧ H' g.1 = some (.lst (g.2.map V.int))
def D_p_groups : Hp → List V → (V → Hp → Prop) → Prop := fun H vs R => ∃ (b : Addr) (m : Nat) (ps : List (Addr × Int × Int)), vs = [.ref b, .int m] ∧ H b = some (.lst (ps.map fun p => V.ref p.1)) ∧ PairsT H ps ∧ ps.length ≤ 1000 ∧ InR m (ps.map (·.2)) ∧ m ≤ 63 ∧ R = R_groupsP H (ps.map (·.2)) m
theorem ok_p_groups (T : Txt K mg base) : FnOk P w K mg base CX0 2 T.a_p_groups T.d_p_groups ["pairs", "many"] (SpR D_p_groups) := by
  refine T.F_p_groups.ok sc_p_groups (fun vs H Q E h => ?_) (fun cdv A outer s H vs Q E hr h => ?_)
  · obtain ⟨v, ⟨b, m, ps, rfl, _⟩, _⟩ := h
    rfl
  · obtain ⟨v, ⟨b, m, ps, rfl, hb, hps, hz, hin, m63, rfl⟩, q⟩ := h
    refine ⟨_, (pss_cons (ps_set (i := 2) sc_p_groups.nd rfl (.inl rfl) (pe_call (ok_p_neighbours T) (hr.mono (by decide)) rfl T.g_p_neighbours T.F_p_neighbours.kp T.b_p_neighbours .nil pass0 (pa_cons (pv 0) (pa_cons (pv 1) pa_nil))))
      (pss_cons (ps_set (i := 3) sc_p_groups.nd rfl (.inl rfl) pe_dnewK)
      (pss_cons (ps_set (i := 4) sc_p_groups.nd rfl (.inl rfl) (pe_lst pa_nil))
      (pss_cons (ps_for PassesOwn.never rfl (pi_range1 (by rfl) T.z_range (pa_cons (pv 1) pa_nil)) (pg_name (i := 5) sc_p_groups.nd rfl (.inl rfl))
      (pss_one (ps_if (pt_cmp (pc_dnotin (hu_of hr) (pv 5) (pv 3)))
      (pss_cons (ps_set (i := 6) sc_p_groups.nd rfl (.inl rfl) (pe_callB (show CallR _ (.builtin "sorted") MuK.rSDI from call_sortedDI rfl) (by rfl) T.z_sorted (by decide +kernel) (pa_cons (pe_call (ok_p_reached_from T) (hr.mono (by decide)) rfl T.g_p_reached_from T.F_p_reached_from.kp T.b_p_reached_from .nil pass0 (pa_cons (pv 5) (pa_cons (pv 2) pa_nil))) pa_nil)))
      (pss_cons (ps_expr (pe_bm PySem.F.plainAttrs_dict PySem.F.slot_dict_update PySem.F.type_dict_update MuK.mt_dupd (pv 3) (pa_cons (pe_dc (own := [("member", 7)]) (g := gName 7) (tt := tYes) rfl sc_p_groups.nd (pi_list (pv 6)) (blkOk_by (N := ["pairs", "many", "neighbours", "grouped", "told", "number", "group", "member"]) (sc := defScope s_p_groups) (by decide +kernel)) (fun _ _ _ _ _ => (pg_name (i := 7) sc_p_groups.nd rfl (Or.inl rfl))) (fun _ _ _ _ _ => pts_nil) (fun _ _ _ _ _ => (pv 7)) (fun _ _ _ _ _ => pe_bl)) pa_nil)))
      (pss_one (ps_expr (pe_bm PySem.F.plainAttrs_list PySem.F.slot_list_append PySem.F.type_list_append mt_append (pv 4) (pa_cons (pv 6) pa_nil))))))
      pss_nil)))
      (pss_one (ps_ret (pv 4))))))), ?_⟩
    generalize hep : ps.map (·.2) = ep at hin q
    refine q_asgX (evx_call (R := fun v H' => ∃ (p : Addr) (cs : List (Addr × List Int)), v = .ref p ∧ H' p = some (.lst (cs.map fun c => V.ref c.1)) ∧ NearAt H' ep m cs) (vs := [.ref b, .int m]) (by walk_at "mu g") fun H1 e1 => ⟨_, ⟨b, m, ps, rfl, e1 b _ hb, hps.later e1, by omega, by rw [hep]; exact hin, by omega, fun x rs nd h => ?_, rfl⟩, fun v H2 _ r => by rw [hep] at r; exact r⟩) fun v H0 e0 r => ?_
    · rw [hep] at h
      have := ints_few (m := m) nd fun y hy => (hin.near (h y hy)).2
      omega
    obtain ⟨nb, cs, rfl, hnb, hcs⟩ := r
    refine q_asgX (R := fun v H' => ∃ d, v = .ref d ∧ H0 d = none ∧ H' d = some (.dK [])) (fun H1 e1 Q q d hd => q _ _ (Ex.new hd) ⟨d, rfl, fresh_back e1 hd, upd_same⟩) fun v H1 e1 r => ?_
    obtain ⟨d, rfl, hd, hd1⟩ := r
    refine q_asgL (xs := []) (el_lst (by walk_at "mu g") (by decide)) fun p H2 hp e2 h2 => ?_
    have pd : p ≠ d := fun z => by
      rw [z, hd1] at hp
      cases hp
    have hp0 : H0 p = none := fresh_back e1 hp
    have hpH : H p = none := fresh_back e0 hp0
    refine q_forR1 (n := (m : Int)) (by walk_at "mu g") (by omega) (fun n σ' H' => Ex H0 H' ∧ n ≤ m ∧ ∃ (gs : List (Addr × List Int)) (kvs : List (Key × V)) (rs : List Int), H' p = some (.lst (gs.map fun g => V.ref g.1)) ∧ gs.map (·.2) = grpM ep m n ∧ (gs.map (·.1)).Nodup ∧ (∀ g ∈ gs, H g.1 = none ∧ g.1 ≠ p ∧ g.1 ≠ d ∧ H' g.1 = some (.lst (g.2.map V.int))) ∧ H' d = some (.dK kvs) ∧ KeysI kvs rs ∧ rs.Nodup ∧ (∀ x, x ∈ rs ↔ ∃ g ∈ grpM ep m n, x ∈ g) ∧ ∃ x5 x6 x7, σ' = [some (.ref b), some (.int m), some (.ref nb), some (.ref d), some (.ref p), x5, x6, x7])
      (fun H3 e3 => ⟨(e1.trans e2).trans e3, Nat.zero_le _, [], [], [], e3 _ _ h2, rfl, List.nodup_nil, (fun _ y => nomatch y), (e2.trans e3) _ _ hd1, rfl, List.nodup_nil, fun x => ⟨fun z => (nomatch z), fun ⟨g, z, _⟩ => (nomatch z)⟩, _, _, _, rfl⟩) (fun n σ' H' hn hq => ?_) (fun σ' H' hq => ?_)
    · obtain ⟨e3, _, gs, kvs, rs, hg, hgs, nd, hnew, hk, kk, ndk, hrs, x5, x6, x7, rfl⟩ := hq
      have nm : n < m := by omega
      have zg := grpM_len ep m n
      have zgs : gs.length ≤ n := by
        have := congrArg List.length hgs
        rw [List.length_map] at this
        omega
      have zk : kvs.length ≤ m := by
        rw [keysI_len kk]
        exact ints_few ndk fun y hy => by
          obtain ⟨g, hg, hy⟩ := (hrs y).mp hy
          exact (grpM_in ep m n g hg).2 y hy
      refine s_when (b := !(valV kvs (.inl (n : Int))).isSome) (et_dnin (k := .inl (n : Int)) (ev_var rfl) (ev_var rfl) (.inl hk)) (fun hb2 H4 e4 => ?_) (fun hb2 H4 e4 => ?_)
      · have nin : ¬ ∃ g ∈ grpM ep m n, (n : Int) ∈ g := fun z => by
          rw [keysI_val kk, decide_eq_true ((hrs _).mpr z)] at hb2
          cases hb2
        have e34 := e3.trans e4
        refine q_asgX (evx_sortedDX (ks := fun rs => rs.Nodup ∧ ∀ y, y ∈ rs ↔ Rch ep (n : Int) y) (evx_call (vs := [.int n, .ref nb]) (by walk_at "mu g") fun H5 e5 => ⟨_, ⟨nb, n, m, ep, cs, rfl, (e34.trans e5) _ _ hnb, hcs.later (e34.trans e5), hin, by omega, by omega, rfl⟩, fun v H6 _ r => by
          obtain ⟨d, kvs, rs, rfl, _, hd, k, nd, hr⟩ := r
          have z := ints_few nd fun y hy => hin.rch (by omega) ((hr y).mp hy)
          exact ⟨d, kvs, rs, rfl, hd, k, by omega, nd, hr⟩⟩)) fun v H5 e5 r => ?_
        obtain ⟨a, ys, rs2, rfl, ha, h5, pm, sr, ndr, hrs2⟩ := r
        obtain rfl := sorted_cls (m := m) pm sr ndr hrs2 fun y hy => hin.rch (by omega) hy
        have e45 := e4.trans e5
        have ap : a ≠ p := fun z => by
          rw [z, e4 _ _ hg] at ha
          cases ha
        have ad : a ≠ d := fun z => by
          rw [z, e4 _ _ hk] at ha
          cases ha
        have zc : (cls ep m n).length ≤ m := (grpM_in ep m (n + 1) _ (by rw [grpM_new nin]; simp)).1
        have ndc : (cls ep m n).Nodup := cls_up.imp fun h => by omega
        refine q_updD (kvs := kvs) (ms := cls ep m n) (e45 _ _ hk) (ev_var rfl) (evx_mono (evx_dcYes (K := K) (a := a) (ev_var rfl) (sq_of h5) ndc (by omega) (fun _ => rfl) (by simp)) fun v H6 _ r => r) (by omega) fun H6 more e6 km => ?_
        obtain ⟨rs3, k3, nd3, hrs3⟩ := keysI_merge kk ndk km
        have hd0 : H0 d = none := hd
        have e07 : Ex H0 (upd H6 d (.dK (mergeK kvs more))) := Ex.mut ((e3.trans e45).trans e6) hd0
        have h7p : (upd H6 d (.dK (mergeK kvs more))) p = some (.lst (gs.map fun g => V.ref g.1)) := (upd_ne pd).trans ((e45.trans e6) _ _ hg)
        have h7a : (upd H6 d (.dK (mergeK kvs more))) a = some (.lst ((cls ep m n).map V.int)) := (upd_ne ad).trans (e6 _ _ h5)
        have an : a ∉ gs.map (·.1) := fun z => by
          obtain ⟨g, hg, rfl⟩ := List.mem_map.mp z
          rw [e4 _ _ (hnew g hg).2.2.2] at ha
          cases ha
        refine s_app (v := .ref a) h7p (ev_var rfl) (ev_var rfl) (by rw [List.length_map]; omega) fun H8 e8 => ?_
        refine ⟨Ex.mut (e07.trans e8) hp0, nm, gs ++ [(a, cls ep m n)], mergeK kvs more, rs3, by rw [upd_same, List.map_append]; rfl, by rw [List.map_append, hgs, grpM_new nin]; rfl, ?_, fun g hg => ?_, (upd_ne (Ne.symm pd)).trans (e8 _ _ upd_same), k3, nd3, fun x => ?_, _, _, _, rfl⟩
        · rw [List.map_append, List.nodup_append]
          exact ⟨nd, by simp, fun x hx y hy e => an (by
            have hy2 : y = a := by simpa using hy
            rw [← hy2, ← e]
            exact hx)⟩
        · rcases List.mem_append.mp hg with hg | hg
          · obtain ⟨g1, g2, g3, g4⟩ := hnew g hg
            exact ⟨g1, g2, g3, (upd_ne g2).trans (e8 _ _ ((upd_ne g3).trans ((e45.trans e6) _ _ g4)))⟩
          · obtain rfl := List.mem_singleton.mp hg
            exact ⟨fresh_back e0 (fresh_back e34 ha), ap, ad, (upd_ne ap).trans (e8 _ _ h7a)⟩
        · rw [hrs3, hrs, grpM_new nin]
          constructor
          · rintro (⟨g, hg, hx⟩ | hx)
            · exact ⟨g, List.mem_append_left _ hg, hx⟩
            · exact ⟨_, List.mem_append_right _ (List.mem_singleton.mpr rfl), hx⟩
          · rintro ⟨g, hg, hx⟩
            rcases List.mem_append.mp hg with hg | hg
            · exact .inl ⟨g, hg, hx⟩
            · obtain rfl := List.mem_singleton.mp hg
              exact .inr hx
      · have yin : ∃ g ∈ grpM ep m n, (n : Int) ∈ g := (hrs _).mp (by
          by_cases z : (n : Int) ∈ rs
          · exact z
          · rw [keysI_val kk, decide_eq_false z] at hb2
            cases hb2)
        rw [← grpM_skip yin] at hgs
        exact ⟨e3.trans e4, nm, gs, kvs, rs, e4 _ _ hg, hgs, nd, fun g hg => ⟨(hnew g hg).1, (hnew g hg).2.1, (hnew g hg).2.2.1, e4 _ _ (hnew g hg).2.2.2⟩, e4 _ _ hk, kk, ndk, fun x => by rw [grpM_skip yin]; exact hrs x, _, _, _, rfl⟩
    · obtain ⟨e3, _, gs, kvs, rs, hg, hgs, nd, hnew, hk, kk, ndk, hrs, x5, x6, x7, rfl⟩ := hq
      exact s_ret (v := .ref p) (ev_var rfl) fun H4 e4 => q _ _ ((e0.trans e3).trans e4) ⟨p, gs, rfl, hpH, e4 _ _ hg, by simpa using hgs, nd, fun g hg => ⟨(hnew g hg).1, (hnew g hg).2.1, e4 _ _ (hnew g hg).2.2.2⟩⟩

def gD (l : List (List Int)) : PyData := .list (l.map fun g => .list (g.map .int))
theorem ints_lay : ∀ g : List Int, PyData.canLayAll0 (g.map PyData.int) = true ∧ PyData.depthAll (g.map PyData.int) ≤ 0
  | [] => ⟨rfl, by show 0 ≤ 0; decide⟩
  | x :: r => by
    have ih := ints_lay r
    refine ⟨?_, ?_⟩
    · show PyData.canLayAll0 (PyData.int x :: r.map PyData.int) = true
      rw [PyData.canLayAll0, ih.1]
      rfl
    · show PyData.depthAll (PyData.int x :: r.map PyData.int) ≤ 0
      rw [PyData.depthAll]
      have : (PyData.int x).depth = 0 := rfl
      omega
theorem gD_lay : ∀ l : List (List Int), PyData.canLayAll0 (l.map fun g => PyData.list (g.map PyData.int)) = true ∧ PyData.depthAll (l.map fun g => PyData.list (g.map PyData.int)) ≤ 1
  | [] => ⟨rfl, by show 0 ≤ 1; decide⟩
  | g :: r => by
    have ih := gD_lay r
    have e1 : (PyData.list (g.map PyData.int)).canLay0 = true := by
      rw [PyData.canLay0]
      exact (ints_lay g).1
    have e2 : (PyData.list (g.map PyData.int)).depth ≤ 1 := by
      rw [PyData.depth]
      have := (ints_lay g).2
      omega
    refine ⟨?_, ?_⟩
    · show PyData.canLayAll0 (PyData.list (g.map PyData.int) :: r.map fun g => PyData.list (g.map PyData.int)) = true
      rw [PyData.canLayAll0, e1, ih.1]
      rfl
    · show PyData.depthAll (PyData.list (g.map PyData.int) :: r.map fun g => PyData.list (g.map PyData.int)) ≤ 1
      rw [PyData.depthAll]
      omega
theorem given_dp {K : PySem.W.Frag} {H : Hp} {p : Addr} {gs : List (Addr × List Int)} (hp : H p = some (.lst (gs.map fun g => V.ref g.1))) (h : ∀ g ∈ gs, H g.1 = some (.lst (g.2.map V.int))) : Dp K H (.ref p) (gD (gs.map (·.2))) := by
  unfold gD
  rw [List.map_map]
  refine .lst (sq_of hp) ?_
  clear hp
  induction gs with
  | nil => exact .nil
  | cons g r ih => exact .cons (.lst (sq_of (h g List.mem_cons_self)) (dp_ints g.2)) (ih fun x hx => h x (List.mem_cons_of_mem _ hx))
theorem gD_can (l : List (List Int)) : (gD l).canLay0 = true := by
  unfold gD
  rw [PyData.canLay0]
  exact (gD_lay l).1
theorem gD_shaped (l : List (List Int)) : SeqAt.shaped (gD l) = true := by
  have h := (gD_lay l).2
  unfold SeqAt.shaped
  rw [gD_can]
  unfold gD
  rw [PyData.depth]
  simp
  omega
theorem ev_neGr {K : PySem.W.Frag} {σ : L2.St} {H : Hp} {ta tb : TE} {p : Addr} {gs : List (Addr × List Int)} {l : List (List Int)} (ha : Ev ta σ H (.ref p)) (hb : EvX tb σ H (fun v H' => ∃ (q : Addr) (hs : List (Addr × List Int)), v = .ref q ∧ H' q = some (.lst (hs.map fun g => V.ref g.1)) ∧ hs.map (·.2) = l ∧ ∀ g ∈ hs, H' g.1 = some (.lst (g.2.map V.int))))
    (hp : H p = some (.lst (gs.map fun g => V.ref g.1))) (h : ∀ g ∈ gs, H g.1 = some (.lst (g.2.map V.int))) (hl : gs.map (·.2) = l) : Ev (tOp (rNeD K) ta tb) σ H (.bl false) := fun H1 e Q k =>
  ha H1 e _ fun H2 e2 => hb H2 (e.trans e2) _ fun v H3 e3 r => by
    obtain ⟨q, hs, rfl, g1, g2, g3⟩ := r
    have e13 := (e.trans e2).trans e3
    have d1 : Dp K H3 (.ref p) (gD l) := hl ▸ given_dp (e13 _ _ hp) fun g hg => e13 _ _ (h g hg)
    have d2 : Dp K H3 (.ref q) (gD l) := g2 ▸ given_dp g1 g3
    refine ⟨_, _, d1, d2, gD_shaped l, gD_shaped l, ?_⟩
    rw [SeqAt.eqv_refl _ (gD_can l)]
    exact k H3 (e2.trans e3)
def spLaw (K : PySem.W.Frag) : Sp := fun vs H Q _ => ∃ (a : Addr) (ns : List Int), vs = [.ref a] ∧ SqL K H a (ns.map V.int) ∧ ns.length ≤ 63 ∧ ∀ H', Q (.bl true) H'
theorem ok_p_law (T : Txt K mg base) {f : Addr} {fd : FuncData} (F : Fun K "law" "law" s_p_law f fd) : FnOk P w K mg base CX0 4 f fd ["_law_script"] (spLaw K) := by
  refine F.ok sc_p_law (fun vs H Q E h => ?_) (fun cdv A outer s H vs Q E hr h => ?_)
  · obtain ⟨a, ns, rfl, _⟩ := h
    rfl
  · obtain ⟨a, ns, rfl, hs, hn, q⟩ := h
    refine ⟨_, (pss_cons (ps_set (i := 0) sc_p_law.nd rfl (.inl rfl) (pe_call (ok_l_cut T) (hr.mono (by decide)) rfl T.g_l_cut T.F_l_cut.kp T.b_l_cut .nil pass0 (pa_cons (pv 0) pa_nil)))
      (pss_cons (ps_set (i := 1) sc_p_law.nd rfl (.inl rfl) (pe_call (ok_l_count T) (hr.mono (by decide)) rfl T.g_l_count T.F_l_count.kp T.b_l_count .nil pass0 (pa_cons (pv 0) pa_nil)))
      (pss_cons (ps_set (i := 2) sc_p_law.nd rfl (.inl rfl) (pe_call (ok_l_some_pairs T) (hr.mono (by decide)) rfl T.g_l_some_pairs T.F_l_some_pairs.kp T.b_l_some_pairs .nil pass0 (pa_cons (pv 0) (pa_cons (pv 1) pa_nil))))
      (pss_cons (ps_set (i := 3) sc_p_law.nd rfl (.inl rfl) (pe_callTy call_list_of (by rfl) T.z_list (by decide +kernel) (pa_cons (pv 2) pa_nil)))
      (pss_cons (ps_for PassesOwn.never rfl (pi_range1 (by rfl) T.z_range (pa_cons pe_int pa_nil)) (pg_name (i := 4) sc_p_law.nd rfl (.inl rfl))
      (pss_cons (ps_set (i := 5) sc_p_law.nd rfl (.inl rfl) (pe_call (ok_p_groups T) (hr.mono (by decide)) rfl T.g_p_groups T.F_p_groups.kp T.b_p_groups .nil pass0 (pa_cons (pv 3) (pa_cons (pv 1) pa_nil))))
      (pss_cons (ps_if (PW.pt (pw_or (pt_not (pt_val (pe_callB call_isi (by rfl) T.z_isinstance (by decide +kernel) (pa_cons (pv 5) (pa_cons (pe_bltn (v := .ty "list") (by rfl) T.z_list (by decide +kernel) rfl) pa_nil))))) (pw_or (pt_cmpR (op_neD hr.units) (pv 5) (pe_call (ok_l_due T) (hr.mono (by decide)) rfl T.g_l_due T.F_l_due.kp T.b_l_due .nil pass0 (pa_cons (pv 2) (pa_cons (pv 1) pa_nil))) (nomark _)) (pw_or1 (pt_cmpR (op_neRefs hr.units) (pv 3) (pv 2) (nomark _))))))
      (pss_one (ps_ret pe_bl))
      pss_nil)
      (pss_cons (ps_for PassesOwn.never rfl (pi_list (pv 5)) (pg_name (i := 6) sc_p_law.nd rfl (.inl rfl))
      (pss_cons (ps_for PassesOwn.never rfl (pi_list (pv 6)) (pg_name (i := 7) sc_p_law.nd rfl (.inl rfl))
      (pss_one (ps_if (pt_val (pe_callB call_isi (by rfl) T.z_isinstance (by decide +kernel) (pa_cons (pv 7) (pa_cons (pe_bltn (v := .ty "bool") (by rfl) T.z_bool (by decide +kernel) rfl) pa_nil))))
      (pss_one (ps_ret pe_bl))
      pss_nil)))
      (pss_one (ps_expr (pe_bm PySem.F.plainAttrs_list PySem.F.slot_list_append PySem.F.type_list_append mt_append (pv 6) (pa_cons pe_non pa_nil))))))
      (pss_one (ps_expr (pe_bm PySem.F.plainAttrs_list PySem.F.slot_list_append PySem.F.type_list_append mt_append (pv 5) (pa_cons pe_non pa_nil))))))))
      (pss_one (ps_ret (pe_cmpR (op_eqNil hr.units) (pe_call (ok_p_groups T) (hr.mono (by decide)) rfl T.g_p_groups T.F_p_groups.kp T.b_p_groups .nil pass0 (pa_cons (pe_lst pa_nil) (pa_cons pe_int pa_nil))) (pe_lst pa_nil) (nomark _))))))))), ?_⟩
    refine q_asgL (el_callL (by walk_at "mu g") fun H1 e1 => ⟨a, ns, rfl, ex_l e1 hs, hn, rfl⟩) fun p0 H1 hp0 e1 h1 => ?_
    generalize ns.map cutI = cs at h1
    have c0 := mix_nn (cs.getD 0 0) 0
    obtain ⟨m, hm, m1, m30⟩ : ∃ m : Nat, 1 + mix (cs.getD 0 0) 0 % 30 = (m : Int) ∧ 1 ≤ m ∧ m ≤ 30 := ⟨(1 + mix (cs.getD 0 0) 0 % 30).toNat, by omega, by omega, by omega⟩
    refine q_asg (v := .int m) (ev_is (ev_callV (vs := [.ref p0]) (by walk_at "mu g") fun _ e => ⟨p0, cs, rfl, sq_of (e p0 _ h1), rfl⟩) (congrArg V.int hm)) fun H2 e2 => ?_
    refine q_asgX (R := fun v H' => ∃ (p : Addr) (ps : List (Addr × Int × Int)), v = .ref p ∧ H' p = some (.lst (ps.map fun p => V.ref p.1)) ∧ PairsT H' ps ∧ InR m (ps.map (·.2)) ∧ ps.length ≤ 100) (evx_call (vs := [.ref p0, .int m]) (by walk_at "mu g") fun H3 e3 => ⟨_, ⟨p0, cs, m, rfl, sq_of ((e2.trans e3) p0 _ h1), m1, by omega, rfl⟩, fun v H4 _ r => by
      obtain ⟨p, ps, rfl, _, r⟩ := r
      exact ⟨p, ps, rfl, r⟩⟩) fun v H3 e3 r => ?_
    obtain ⟨pp, ps, rfl, hpp, hps, hin, zps⟩ := r
    refine q_asgL (el_list (ev_var rfl) (sq_of hpp)) fun ph H4 _ e4 h4 => ?_
    have kPP : ∀ H', Ex H4 H' → H' pp = some (.lst (ps.map fun p => V.ref p.1)) := fun H' e => (e4.trans e) pp _ hpp
    have kPH : ∀ H', Ex H4 H' → H' ph = some (.lst (ps.map fun p => V.ref p.1)) := fun H' e => e ph _ h4
    have kPT : ∀ H', Ex H4 H' → PairsT H' ps := fun H' e => hps.later (e4.trans e)
    have grp : ∀ (H' : Hp) (σ' : L2.St) (i : Nat) (b : Addr), Ex H4 H' → σ'[i]? = some (some (.ref b)) → σ'[1]? = some (some (.int m)) → (∀ H2, Ex H' H2 → H2 b = some (.lst (ps.map fun p => V.ref p.1))) →
        EvX (tCall (SpR D_p_groups) [] E0 (tCons (tVar i) (tCons (tVar 1) tNil))) σ' H' (R_groupsP H' (ps.map (·.2)) m) := fun H' σ' i b e hi h1 hb =>
      evx_call (vs := [.ref b, .int m]) (ea_cons (ev_var hi) (ea_cons (ev_var h1) ea_nil)) fun H2 e2 => ⟨_, ⟨b, m, ps, rfl, hb _ e2, kPT _ (e.trans e2), by omega, hin, by omega, rfl⟩, fun v H3 _ r => by
        obtain ⟨p, gs, rfl, hp, g1, g2, g3, g4⟩ := r
        exact ⟨p, gs, rfl, fresh_back e2 hp, g1, g2, g3, fun g hg => ⟨fresh_back e2 (g4 g hg).1, (g4 g hg).2⟩⟩⟩
    refine q_forR1 (n := 2) (by walk_at "mu g") (by omega) (fun k σ' H' => Ex H4 H' ∧ ∃ x4 x5 x6 x7, σ' = [some (.ref p0), some (.int m), some (.ref pp), some (.ref ph), x4, x5, x6, x7])
      (fun H5 e5 => ⟨e5, _, _, _, _, rfl⟩) (fun k σ' H5 hk hq => ?_) (fun σ' H5 hq => ?_)
    · obtain ⟨e5, x4, x5, x6, x7, rfl⟩ := hq
      refine q_asgX (grp H5 _ 3 ph e5 rfl rfl (fun H2 e => kPH _ (e5.trans e))) fun v H6 e6 r => ?_
      obtain ⟨gp, gs, rfl, hgp, hg, hgs, nd, hnew⟩ := r
      have zgs : gs.length ≤ m := by
        have := congrArg List.length hgs
        rw [List.length_map] at this
        have := grpM_len (ps.map (·.2)) m m
        omega
      have e56 := e5.trans e6
      have gin : ∀ g ∈ gs, g.2.length ≤ m := fun g hg => (grpM_in (ps.map (·.2)) m m g.2 (by rw [← hgs]; exact List.mem_map.mpr ⟨g, hg, rfl⟩)).1
      refine q_when (b := !true || (false || false)) (et_or (et_not (et_B (ev_cb (ea_cons (ev_var rfl) (ea_cons ev_c ea_nil)) (rc_isiLst hg (by rfl))))) fun _ => et_or (et_test (ev_neGr (gs := gs) (ev_var rfl) (evx_call (vs := [.ref pp, .int m]) (by walk_at "mu g") fun H2 e2 => ⟨_, ⟨pp, m, ps, rfl, kPP _ (e56.trans e2), kPT _ (e56.trans e2), by omega, hin, by omega, rfl⟩, fun v H3 _ r => ?_⟩) hg (fun g hg => (hnew g hg).2.2) hgs)) fun _ => et_test (ev_neRefs (ev_var rfl) (ev_var rfl) (kPH _ e56) (kPP _ e56))) (fun hb => by cases hb) (fun _ H7 e7 => ?_)
      · obtain ⟨p, gs', rfl, _, g1, g2, _, g4⟩ := r
        exact ⟨p, gs', rfl, g1, g2, fun g hg => (g4 g hg).2.2⟩
      have e57 := e56.trans e7
      have hgp0 : H4 gp = none := fresh_back e5 hgp
      refine q_forLn (K := K) (a := gp) (xs := gs.map fun g => V.ref g.1) (ev_var rfl) (sq_of (e7 _ _ hg)) (fun n σ' H' => Ex H5 H' ∧ H' gp = some (.lst (gs.map fun g => V.ref g.1)) ∧ (∀ (i : Nat) (g : Addr × List Int), n ≤ i → gs[i]? = some g → H' g.1 = some (.lst (g.2.map V.int))) ∧ ∃ x6 x7, σ' = [some (.ref p0), some (.int m), some (.ref pp), some (.ref ph), some (.int k), some (.ref gp), x6, x7])
        (fun H8 e8 => ⟨(e6.trans e7).trans e8, (e7.trans e8) _ _ hg, fun i g _ hgi => (e7.trans e8) _ _ (hnew g (List.mem_of_getElem? hgi)).2.2, _, _, rfl⟩) (fun n σ' H' _ hq => sq_of hq.2.1) (fun n x σ' H8 hx hq => ?_) (fun σ' H8 hq => ?_)
      · obtain ⟨e8, h8, hr8, x6, x7, rfl⟩ := hq
        obtain ⟨g, eg, mg_, rfl⟩ : ∃ c, gs[n]? = some c ∧ c ∈ gs ∧ x = .ref c.1 := by
          rw [List.getElem?_map] at hx
          cases y : gs[n]? with
          | none =>
            rw [y] at hx
            exact nomatch hx
          | some c =>
            rw [y] at hx
            exact ⟨c, rfl, List.mem_of_getElem? y, (Option.some.inj hx).symm⟩
        have hg8 := hr8 n g (Nat.le_refl _) eg
        refine q_forLn (K := K) (a := g.1) (xs := g.2.map V.int) (ev_var rfl) (sq_of hg8) (fun j σ' H' => Ex H8 H' ∧ ∃ x7, σ' = [some (.ref p0), some (.int m), some (.ref pp), some (.ref ph), some (.int k), some (.ref gp), some (.ref g.1), x7])
          (fun H9 e9 => ⟨e9, _, rfl⟩) (fun j σ' H' _ hq => sq_of (hq.1 _ _ hg8)) (fun j u σ' H9 hu hq => ?_) (fun σ' H9 hq => ?_)
        · obtain ⟨e9, x7, rfl⟩ := hq
          obtain ⟨y, _, _, rfl⟩ := int_at hu
          exact s_when (b := false) (et_B (ev_cb (ea_cons (ev_var rfl) (ea_cons ev_c ea_nil)) (rc_isiInt (by rfl)))) (fun hb => by cases hb) (fun _ H10 e10 => ⟨e9.trans e10, _, rfl⟩)
        · obtain ⟨e9, x7, rfl⟩ := hq
          refine s_app (v := .non) (e9 _ _ hg8) (ev_var rfl) ev_c (by rw [List.length_map]; have := gin g mg_; omega) fun H10 e10 => ?_
          have e80 := e9.trans e10
          refine ⟨Ex.mut (e8.trans e80) (hnew g mg_).1, (upd_ne (Ne.symm (hnew g mg_).2.1)).trans (e80 _ _ h8), fun i g' hi hgi => ?_, _, _, rfl⟩
          have ne : g'.1 ≠ g.1 := fun z => by
            have i1 := (List.getElem?_eq_some_iff.mp hgi).1
            have h1 : (gs.map (·.1))[i]? = some g'.1 := by rw [List.getElem?_map, hgi]; rfl
            have h2 : (gs.map (·.1))[n]? = some g.1 := by rw [List.getElem?_map, eg]; rfl
            rw [z, ← h2] at h1
            have := (List.getElem?_inj (by rw [List.length_map]; exact i1) nd).mp h1
            omega
          exact (upd_ne ne).trans (e80 _ _ (hr8 i g' (by omega) hgi))
      · obtain ⟨e8, h8, _, x6, x7, rfl⟩ := hq
        refine s_app (v := .non) h8 (ev_var rfl) ev_c (by rw [List.length_map]; omega) fun H9 e9 => ?_
        exact ⟨e5.trans (Ex.mut (e8.trans e9) hgp), _, _, _, _, rfl⟩
    · obtain ⟨e5, x4, x5, x6, x7, rfl⟩ := hq
      refine s_ret (v := .bl true) (ev_eqNilX (evx_callN2 (xs := []) (el_lst (by walk_at "mu g") (by decide)) (fun _ _ => ev_c) fun b H6 e6 hb => ⟨_, ⟨b, 0, [], rfl, hb, (fun _ y => nomatch y), by simp, (fun _ y => nomatch y), by omega, rfl⟩, fun v H7 _ r => ?_⟩) (el_lst (by walk_at "mu g") (by decide))) fun H6 _ => q _
      obtain ⟨p, gs, rfl, _, g1, g2, _⟩ := r
      have : gs = [] := List.map_eq_nil_iff.mp g2
      subst this
      exact ⟨p, rfl, g1⟩

end
set_option maxHeartbeats 4000000 in
theorem all_mk {l : PySem.W.OpenLaw} {w : World} {K : PySem.W.Frag} {h : Heap} {mg : Str → Option Value} {fa : Addr} (X : K.In h) (G : h.Ns mainGlobals mg) (hfa : mg "law" = some (.ref fa))
    {oc_p_neighbours kV_p_neighbours dc_p_neighbours pm_p_neighbours cd_p_neighbours ct_p_neighbours : Value} {od_p_neighbours an_p_neighbours : Option Addr} {sl_p_neighbours : Array (Option Value)} {f_p_neighbours : Addr}
    {oc_p_reached_from kV_p_reached_from dc_p_reached_from pm_p_reached_from cd_p_reached_from ct_p_reached_from : Value} {od_p_reached_from an_p_reached_from : Option Addr} {sl_p_reached_from : Array (Option Value)} {f_p_reached_from : Addr}
    {oc_p_groups kV_p_groups dc_p_groups pm_p_groups cd_p_groups ct_p_groups : Value} {od_p_groups an_p_groups : Option Addr} {sl_p_groups : Array (Option Value)} {f_p_groups : Addr}
    {oc_l_cell_at kV_l_cell_at dc_l_cell_at pm_l_cell_at cd_l_cell_at ct_l_cell_at : Value} {od_l_cell_at an_l_cell_at : Option Addr} {sl_l_cell_at : Array (Option Value)} {f_l_cell_at : Addr}
    {oc_l_mix kV_l_mix dc_l_mix pm_l_mix cd_l_mix ct_l_mix : Value} {od_l_mix an_l_mix : Option Addr} {sl_l_mix : Array (Option Value)} {f_l_mix : Addr}
    {oc_l_count kV_l_count dc_l_count pm_l_count cd_l_count ct_l_count : Value} {od_l_count an_l_count : Option Addr} {sl_l_count : Array (Option Value)} {f_l_count : Addr}
    {oc_l_behind kV_l_behind dc_l_behind pm_l_behind cd_l_behind ct_l_behind : Value} {od_l_behind an_l_behind : Option Addr} {sl_l_behind : Array (Option Value)} {f_l_behind : Addr}
    {oc_l_some_pairs kV_l_some_pairs dc_l_some_pairs pm_l_some_pairs cd_l_some_pairs ct_l_some_pairs : Value} {od_l_some_pairs an_l_some_pairs : Option Addr} {sl_l_some_pairs : Array (Option Value)} {f_l_some_pairs : Addr}
    {oc_l_near kV_l_near dc_l_near pm_l_near cd_l_near ct_l_near : Value} {od_l_near an_l_near : Option Addr} {sl_l_near : Array (Option Value)} {f_l_near : Addr}
    {oc_l_steps kV_l_steps dc_l_steps pm_l_steps cd_l_steps ct_l_steps : Value} {od_l_steps an_l_steps : Option Addr} {sl_l_steps : Array (Option Value)} {f_l_steps : Addr}
    {oc_l_due kV_l_due dc_l_due pm_l_due cd_l_due ct_l_due : Value} {od_l_due an_l_due : Option Addr} {sl_l_due : Array (Option Value)} {f_l_due : Addr}
    {oc_l_cut kV_l_cut dc_l_cut pm_l_cut cd_l_cut ct_l_cut : Value} {od_l_cut an_l_cut : Option Addr} {sl_l_cut : Array (Option Value)} {f_l_cut : Addr}
    {oc_p_law kV_p_law dc_p_law pm_p_law cd_p_law ct_p_law : Value} {od_p_law an_p_law : Option Addr} {sl_p_law : Array (Option Value)} {f_p_law : Addr}
    (A_p_neighbours : PySem.W.nsIn K mainGlobals "_neighbours" = some (some (.ref f_p_neighbours))) (L_p_neighbours : K.lookup f_p_neighbours = some ⟨oc_p_neighbours, od_p_neighbours, .func (PySem.W.fnOf "_neighbours" "_neighbours" (defArgs s_p_neighbours) (defBody s_p_neighbours) (defScope s_p_neighbours) .none kV_p_neighbours dc_p_neighbours pm_p_neighbours an_p_neighbours cd_p_neighbours ct_p_neighbours), sl_p_neighbours⟩) (C_p_neighbours : PySem.W.codeIn K cd_p_neighbours "_neighbours" = true) (K_p_neighbours : PySem.W.keepIn K (.ref f_p_neighbours) = true)
    (A_p_reached_from : PySem.W.nsIn K mainGlobals "_reached_from" = some (some (.ref f_p_reached_from))) (L_p_reached_from : K.lookup f_p_reached_from = some ⟨oc_p_reached_from, od_p_reached_from, .func (PySem.W.fnOf "_reached_from" "_reached_from" (defArgs s_p_reached_from) (defBody s_p_reached_from) (defScope s_p_reached_from) .none kV_p_reached_from dc_p_reached_from pm_p_reached_from an_p_reached_from cd_p_reached_from ct_p_reached_from), sl_p_reached_from⟩) (C_p_reached_from : PySem.W.codeIn K cd_p_reached_from "_reached_from" = true) (K_p_reached_from : PySem.W.keepIn K (.ref f_p_reached_from) = true)
    (A_p_groups : PySem.W.nsIn K mainGlobals "groups" = some (some (.ref f_p_groups))) (L_p_groups : K.lookup f_p_groups = some ⟨oc_p_groups, od_p_groups, .func (PySem.W.fnOf "groups" "groups" (defArgs s_p_groups) (defBody s_p_groups) (defScope s_p_groups) .none kV_p_groups dc_p_groups pm_p_groups an_p_groups cd_p_groups ct_p_groups), sl_p_groups⟩) (C_p_groups : PySem.W.codeIn K cd_p_groups "groups" = true) (K_p_groups : PySem.W.keepIn K (.ref f_p_groups) = true)
    (A_l_cell_at : PySem.W.nsIn K mainGlobals "_law_cell_at" = some (some (.ref f_l_cell_at))) (L_l_cell_at : K.lookup f_l_cell_at = some ⟨oc_l_cell_at, od_l_cell_at, .func (PySem.W.fnOf "_law_cell_at" "_law_cell_at" (defArgs s_l_cell_at) (defBody s_l_cell_at) (defScope s_l_cell_at) .none kV_l_cell_at dc_l_cell_at pm_l_cell_at an_l_cell_at cd_l_cell_at ct_l_cell_at), sl_l_cell_at⟩) (C_l_cell_at : PySem.W.codeIn K cd_l_cell_at "_law_cell_at" = true) (K_l_cell_at : PySem.W.keepIn K (.ref f_l_cell_at) = true)
    (A_l_mix : PySem.W.nsIn K mainGlobals "_law_mix" = some (some (.ref f_l_mix))) (L_l_mix : K.lookup f_l_mix = some ⟨oc_l_mix, od_l_mix, .func (PySem.W.fnOf "_law_mix" "_law_mix" (defArgs s_l_mix) (defBody s_l_mix) (defScope s_l_mix) .none kV_l_mix dc_l_mix pm_l_mix an_l_mix cd_l_mix ct_l_mix), sl_l_mix⟩) (C_l_mix : PySem.W.codeIn K cd_l_mix "_law_mix" = true) (K_l_mix : PySem.W.keepIn K (.ref f_l_mix) = true)
    (A_l_count : PySem.W.nsIn K mainGlobals "_law_count" = some (some (.ref f_l_count))) (L_l_count : K.lookup f_l_count = some ⟨oc_l_count, od_l_count, .func (PySem.W.fnOf "_law_count" "_law_count" (defArgs s_l_count) (defBody s_l_count) (defScope s_l_count) .none kV_l_count dc_l_count pm_l_count an_l_count cd_l_count ct_l_count), sl_l_count⟩) (C_l_count : PySem.W.codeIn K cd_l_count "_law_count" = true) (K_l_count : PySem.W.keepIn K (.ref f_l_count) = true)
    (A_l_behind : PySem.W.nsIn K mainGlobals "_law_behind" = some (some (.ref f_l_behind))) (L_l_behind : K.lookup f_l_behind = some ⟨oc_l_behind, od_l_behind, .func (PySem.W.fnOf "_law_behind" "_law_behind" (defArgs s_l_behind) (defBody s_l_behind) (defScope s_l_behind) .none kV_l_behind dc_l_behind pm_l_behind an_l_behind cd_l_behind ct_l_behind), sl_l_behind⟩) (C_l_behind : PySem.W.codeIn K cd_l_behind "_law_behind" = true) (K_l_behind : PySem.W.keepIn K (.ref f_l_behind) = true)
    (A_l_some_pairs : PySem.W.nsIn K mainGlobals "_law_some_pairs" = some (some (.ref f_l_some_pairs))) (L_l_some_pairs : K.lookup f_l_some_pairs = some ⟨oc_l_some_pairs, od_l_some_pairs, .func (PySem.W.fnOf "_law_some_pairs" "_law_some_pairs" (defArgs s_l_some_pairs) (defBody s_l_some_pairs) (defScope s_l_some_pairs) .none kV_l_some_pairs dc_l_some_pairs pm_l_some_pairs an_l_some_pairs cd_l_some_pairs ct_l_some_pairs), sl_l_some_pairs⟩) (C_l_some_pairs : PySem.W.codeIn K cd_l_some_pairs "_law_some_pairs" = true) (K_l_some_pairs : PySem.W.keepIn K (.ref f_l_some_pairs) = true)
    (A_l_near : PySem.W.nsIn K mainGlobals "_law_near" = some (some (.ref f_l_near))) (L_l_near : K.lookup f_l_near = some ⟨oc_l_near, od_l_near, .func (PySem.W.fnOf "_law_near" "_law_near" (defArgs s_l_near) (defBody s_l_near) (defScope s_l_near) .none kV_l_near dc_l_near pm_l_near an_l_near cd_l_near ct_l_near), sl_l_near⟩) (C_l_near : PySem.W.codeIn K cd_l_near "_law_near" = true) (K_l_near : PySem.W.keepIn K (.ref f_l_near) = true)
    (A_l_steps : PySem.W.nsIn K mainGlobals "_law_steps" = some (some (.ref f_l_steps))) (L_l_steps : K.lookup f_l_steps = some ⟨oc_l_steps, od_l_steps, .func (PySem.W.fnOf "_law_steps" "_law_steps" (defArgs s_l_steps) (defBody s_l_steps) (defScope s_l_steps) .none kV_l_steps dc_l_steps pm_l_steps an_l_steps cd_l_steps ct_l_steps), sl_l_steps⟩) (C_l_steps : PySem.W.codeIn K cd_l_steps "_law_steps" = true) (K_l_steps : PySem.W.keepIn K (.ref f_l_steps) = true)
    (A_l_due : PySem.W.nsIn K mainGlobals "_law_due" = some (some (.ref f_l_due))) (L_l_due : K.lookup f_l_due = some ⟨oc_l_due, od_l_due, .func (PySem.W.fnOf "_law_due" "_law_due" (defArgs s_l_due) (defBody s_l_due) (defScope s_l_due) .none kV_l_due dc_l_due pm_l_due an_l_due cd_l_due ct_l_due), sl_l_due⟩) (C_l_due : PySem.W.codeIn K cd_l_due "_law_due" = true) (K_l_due : PySem.W.keepIn K (.ref f_l_due) = true)
    (A_l_cut : PySem.W.nsIn K mainGlobals "_law_cut" = some (some (.ref f_l_cut))) (L_l_cut : K.lookup f_l_cut = some ⟨oc_l_cut, od_l_cut, .func (PySem.W.fnOf "_law_cut" "_law_cut" (defArgs s_l_cut) (defBody s_l_cut) (defScope s_l_cut) .none kV_l_cut dc_l_cut pm_l_cut an_l_cut cd_l_cut ct_l_cut), sl_l_cut⟩) (C_l_cut : PySem.W.codeIn K cd_l_cut "_law_cut" = true) (K_l_cut : PySem.W.keepIn K (.ref f_l_cut) = true)
    (A_p_law : PySem.W.nsIn K mainGlobals "law" = some (some (.ref f_p_law))) (L_p_law : K.lookup f_p_law = some ⟨oc_p_law, od_p_law, .func (PySem.W.fnOf "law" "law" (defArgs s_p_law) (defBody s_p_law) (defScope s_p_law) .none kV_p_law dc_p_law pm_p_law an_p_law cd_p_law ct_p_law), sl_p_law⟩) (C_p_law : PySem.W.codeIn K cd_p_law "law" = true) (K_p_law : PySem.W.keepIn K (.ref f_p_law) = true)
    (Z_bool : PySem.W.nsIn K mainGlobals "bool" = some none)
    (Z_int : PySem.W.nsIn K mainGlobals "int" = some none)
    (Z_isinstance : PySem.W.nsIn K mainGlobals "isinstance" = some none)
    (Z_len : PySem.W.nsIn K mainGlobals "len" = some none)
    (Z_list : PySem.W.nsIn K mainGlobals "list" = some none)
    (Z_min : PySem.W.nsIn K mainGlobals "min" = some none)
    (Z_range : PySem.W.nsIn K mainGlobals "range" = some none)
    (Z_sorted : PySem.W.nsIn K mainGlobals "sorted" = some none)
    : ∃ fd : FuncData, (∀ (s : Shared) (v : Value), BindsTo s fd ⟨[v], []⟩ [("_law_script", v)]) ∧ ∀ base : Heap, K.In base → base.Ns mainGlobals mg → FnOk l.prog w K mg base CX0 4 fa fd ["_law_script"] (spLaw K) := by
  have e := hfa.symm.trans (PySem.W.mg_of X G A_p_law)
  cases e
  refine ⟨(PySem.W.fnOf "law" "law" (defArgs s_p_law) (defBody s_p_law) (defScope s_p_law) .none kV_p_law dc_p_law pm_p_law an_p_law cd_p_law ct_p_law), fun s v => .of_eq rfl, fun base _ _ => ?_⟩
  let T : Txt K mg base := { z_bool := PySem.W.mg_none_of X G Z_bool, z_int := PySem.W.mg_none_of X G Z_int, z_isinstance := PySem.W.mg_none_of X G Z_isinstance, z_len := PySem.W.mg_none_of X G Z_len, z_list := PySem.W.mg_none_of X G Z_list, z_min := PySem.W.mg_none_of X G Z_min, z_range := PySem.W.mg_none_of X G Z_range, z_sorted := PySem.W.mg_none_of X G Z_sorted, a_p_neighbours := f_p_neighbours, d_p_neighbours := _, F_p_neighbours := fun_mk (st := s_p_neighbours) L_p_neighbours C_p_neighbours K_p_neighbours, b_p_neighbours := (fun_mk (st := s_p_neighbours) L_p_neighbours C_p_neighbours K_p_neighbours).binds (ps := ["pairs", "many"]) (fun _ _ _ _ _ _ us hl => match us, hl with | [_, _], _ => rfl), g_p_neighbours := PySem.W.mg_of X G A_p_neighbours, a_p_reached_from := f_p_reached_from, d_p_reached_from := _, F_p_reached_from := fun_mk (st := s_p_reached_from) L_p_reached_from C_p_reached_from K_p_reached_from, b_p_reached_from := (fun_mk (st := s_p_reached_from) L_p_reached_from C_p_reached_from K_p_reached_from).binds (ps := ["start", "neighbours"]) (fun _ _ _ _ _ _ us hl => match us, hl with | [_, _], _ => rfl), g_p_reached_from := PySem.W.mg_of X G A_p_reached_from, a_p_groups := f_p_groups, d_p_groups := _, F_p_groups := fun_mk (st := s_p_groups) L_p_groups C_p_groups K_p_groups, b_p_groups := (fun_mk (st := s_p_groups) L_p_groups C_p_groups K_p_groups).binds (ps := ["pairs", "many"]) (fun _ _ _ _ _ _ us hl => match us, hl with | [_, _], _ => rfl), g_p_groups := PySem.W.mg_of X G A_p_groups, a_l_cell_at := f_l_cell_at, d_l_cell_at := _, F_l_cell_at := fun_mk (st := s_l_cell_at) L_l_cell_at C_l_cell_at K_l_cell_at, b_l_cell_at := (fun_mk (st := s_l_cell_at) L_l_cell_at C_l_cell_at K_l_cell_at).binds (ps := ["_law_script", "_law_k"]) (fun _ _ _ _ _ _ us hl => match us, hl with | [_, _], _ => rfl), g_l_cell_at := PySem.W.mg_of X G A_l_cell_at, a_l_mix := f_l_mix, d_l_mix := _, F_l_mix := fun_mk (st := s_l_mix) L_l_mix C_l_mix K_l_mix, b_l_mix := (fun_mk (st := s_l_mix) L_l_mix C_l_mix K_l_mix).binds (ps := ["_law_cell", "_law_k"]) (fun _ _ _ _ _ _ us hl => match us, hl with | [_, _], _ => rfl), g_l_mix := PySem.W.mg_of X G A_l_mix, a_l_count := f_l_count, d_l_count := _, F_l_count := fun_mk (st := s_l_count) L_l_count C_l_count K_l_count, b_l_count := (fun_mk (st := s_l_count) L_l_count C_l_count K_l_count).binds (ps := ["_law_script"]) (fun _ _ _ _ _ _ us hl => match us, hl with | [_], _ => rfl), g_l_count := PySem.W.mg_of X G A_l_count, a_l_behind := f_l_behind, d_l_behind := _, F_l_behind := fun_mk (st := s_l_behind) L_l_behind C_l_behind K_l_behind, b_l_behind := (fun_mk (st := s_l_behind) L_l_behind C_l_behind K_l_behind).binds (ps := ["_law_many", "_law_pick"]) (fun _ _ _ _ _ _ us hl => match us, hl with | [_, _], _ => rfl), g_l_behind := PySem.W.mg_of X G A_l_behind, a_l_some_pairs := f_l_some_pairs, d_l_some_pairs := _, F_l_some_pairs := fun_mk (st := s_l_some_pairs) L_l_some_pairs C_l_some_pairs K_l_some_pairs, b_l_some_pairs := (fun_mk (st := s_l_some_pairs) L_l_some_pairs C_l_some_pairs K_l_some_pairs).binds (ps := ["_law_script", "_law_many"]) (fun _ _ _ _ _ _ us hl => match us, hl with | [_, _], _ => rfl), g_l_some_pairs := PySem.W.mg_of X G A_l_some_pairs, a_l_near := f_l_near, d_l_near := _, F_l_near := fun_mk (st := s_l_near) L_l_near C_l_near K_l_near, b_l_near := (fun_mk (st := s_l_near) L_l_near C_l_near K_l_near).binds (ps := ["_law_pairs", "_law_one"]) (fun _ _ _ _ _ _ us hl => match us, hl with | [_, _], _ => rfl), g_l_near := PySem.W.mg_of X G A_l_near, a_l_steps := f_l_steps, d_l_steps := _, F_l_steps := fun_mk (st := s_l_steps) L_l_steps C_l_steps K_l_steps, b_l_steps := (fun_mk (st := s_l_steps) L_l_steps C_l_steps K_l_steps).binds (ps := ["_law_pairs", "_law_one"]) (fun _ _ _ _ _ _ us hl => match us, hl with | [_, _], _ => rfl), g_l_steps := PySem.W.mg_of X G A_l_steps, a_l_due := f_l_due, d_l_due := _, F_l_due := fun_mk (st := s_l_due) L_l_due C_l_due K_l_due, b_l_due := (fun_mk (st := s_l_due) L_l_due C_l_due K_l_due).binds (ps := ["_law_pairs", "_law_many"]) (fun _ _ _ _ _ _ us hl => match us, hl with | [_, _], _ => rfl), g_l_due := PySem.W.mg_of X G A_l_due, a_l_cut := f_l_cut, d_l_cut := _, F_l_cut := fun_mk (st := s_l_cut) L_l_cut C_l_cut K_l_cut, b_l_cut := (fun_mk (st := s_l_cut) L_l_cut C_l_cut K_l_cut).binds (ps := ["_law_script"]) (fun _ _ _ _ _ _ us hl => match us, hl with | [_], _ => rfl), g_l_cut := PySem.W.mg_of X G A_l_cut }
  exact ok_p_law T (fun_mk (st := s_p_law) L_p_law C_p_law K_p_law)
end MuK
open PySem PySem.W PyProof.Rows
set_option maxHeartbeats 0 in
theorem PySem.Challenge.cw_muchalike_k21_groups_holds : PySem.Challenge.rw_muchalike_k21_groups.Holds := by
  w_on; o_law; k_head; (case hw => w_witness2)
  k_fill
  refine L2.walk_of (l := PySem.Challenge.rw_muchalike_k21_groups) (n := 63) (k := 4) (x := "_law_script") (CX := fun _ => L2.CX0) (sp := fun w => MuK.spLaw _) rfl (by decide) rfl ⟨rfl, by decide, by decide⟩ (fun w h Y => PySem.W.kIn_of Y) ?F (fun _ _ a ns hl _ hS => ⟨a, ns, rfl, hS, hl, fun _ => rfl⟩) (fun _ _ _ _ _ h => h)
  case F =>
    intro w mg fa h KX G hmg
    refine' MuK.all_mk KX G hmg ?A_p_neighbours ?L_p_neighbours ?C_p_neighbours ?K_p_neighbours ?A_p_reached_from ?L_p_reached_from ?C_p_reached_from ?K_p_reached_from ?A_p_groups ?L_p_groups ?C_p_groups ?K_p_groups ?A_l_cell_at ?L_l_cell_at ?C_l_cell_at ?K_l_cell_at ?A_l_mix ?L_l_mix ?C_l_mix ?K_l_mix ?A_l_count ?L_l_count ?C_l_count ?K_l_count ?A_l_behind ?L_l_behind ?C_l_behind ?K_l_behind ?A_l_some_pairs ?L_l_some_pairs ?C_l_some_pairs ?K_l_some_pairs ?A_l_near ?L_l_near ?C_l_near ?K_l_near ?A_l_steps ?L_l_steps ?C_l_steps ?K_l_steps ?A_l_due ?L_l_due ?C_l_due ?K_l_due ?A_l_cut ?L_l_cut ?C_l_cut ?K_l_cut ?A_p_law ?L_p_law ?C_p_law ?K_p_law ?Z_bool ?Z_int ?Z_isinstance ?Z_len ?Z_list ?Z_min ?Z_range ?Z_sorted
    (case A_p_neighbours => k_is)
    (case L_p_neighbours => k_is)
    (case C_p_neighbours => k_is)
    (case K_p_neighbours => k_is)
    (case A_p_reached_from => k_is)
    (case L_p_reached_from => k_is)
    (case C_p_reached_from => k_is)
    (case K_p_reached_from => k_is)
    (case A_p_groups => k_is)
    (case L_p_groups => k_is)
    (case C_p_groups => k_is)
    (case K_p_groups => k_is)
    (case A_l_cell_at => k_is)
    (case L_l_cell_at => k_is)
    (case C_l_cell_at => k_is)
    (case K_l_cell_at => k_is)
    (case A_l_mix => k_is)
    (case L_l_mix => k_is)
    (case C_l_mix => k_is)
    (case K_l_mix => k_is)
    (case A_l_count => k_is)
    (case L_l_count => k_is)
    (case C_l_count => k_is)
    (case K_l_count => k_is)
    (case A_l_behind => k_is)
    (case L_l_behind => k_is)
    (case C_l_behind => k_is)
    (case K_l_behind => k_is)
    (case A_l_some_pairs => k_is)
    (case L_l_some_pairs => k_is)
    (case C_l_some_pairs => k_is)
    (case K_l_some_pairs => k_is)
    (case A_l_near => k_is)
    (case L_l_near => k_is)
    (case C_l_near => k_is)
    (case K_l_near => k_is)
    (case A_l_steps => k_is)
    (case L_l_steps => k_is)
    (case C_l_steps => k_is)
    (case K_l_steps => k_is)
    (case A_l_due => k_is)
    (case L_l_due => k_is)
    (case C_l_due => k_is)
    (case K_l_due => k_is)
    (case A_l_cut => k_is)
    (case L_l_cut => k_is)
    (case C_l_cut => k_is)
    (case K_l_cut => k_is)
    (case A_p_law => k_is)
    (case L_p_law => k_is)
    (case C_p_law => k_is)
    (case K_p_law => k_is)
    (case Z_bool => k_is)
    (case Z_int => k_is)
    (case Z_isinstance => k_is)
    (case Z_len => k_is)
    (case Z_list => k_is)
    (case Z_min => k_is)
    (case Z_range => k_is)
    (case Z_sorted => k_is)
