import PyProof.Rows.All
import Wide.All
import OpenK.AllK
import Wide.FinOn
import HandS.Base
import HandS.Call
import HandS.List
import HandS.Comp
import HandS.Ends
import HandS.Dict
import HandS.Iter
import HandS.Text
import HandS.Words
import HandS.Codes
import HandS.IsInst
import HandS.Walk
import HandS.Wide
import KE.KxText
import HandS.TupAny
import HandS.Zip
import HandS.Style
import HandS.Deep
import KE.KEqSeq
import HandS.NoneIn
import HandS.Set
import HandS.SetFor
import HandS.TupSets
import HandS.SortOrd
import HandS.SortRule
import PyProof.P3In
import PySem.Challenge.RW_postedbag_k03_whole_greatest_and_least
set_option Elab.async false
set_option linter.all false
set_option maxRecDepth 100000
set_option maxHeartbeats 4000000
/-! the law's own draws, over any row -/
namespace Sh
open PySem PySem.Spec PyProof.Rows L2

/-! ### rules -/
section
variable {X : Cx}
/-- ** of two numbers, the first one below 2 ^ 64 or both named by a bound -/
def CPowB (i j : Int) : Prop := 0 ≤ j ∧ (Builtin.Int.intBits i : Int) * j ≤ 2 ^ 27
theorem op_powB : OpR X (binaryOp .Pow) (rI CPowB fun i j => .int (i ^ j.toNat)) := opI fun _ _ _ _ _ _ _ hc q => pow_int hc.1 hc.2 q
theorem call_repr_bl : CallR X (.builtin "repr") (fun xs H Q => ∃ b : Bool, xs = [.bl b] ∧ Q (.str (if b then "True" else "False")) H) := by
  intro pins s σ H xs us Q I r h
  obtain ⟨b, rfl, q⟩ := h
  obtain ⟨u, rfl, rfl⟩ := vals1 r
  exact PySem.P.repr_of_bool ⟨.str _, H, I.tok _, ⟨_, rfl⟩, q⟩
/-- a list == [] -/
def rEqNil (K : PySem.W.Frag) : V → V → Hp → VK → Prop := fun x y H Q => ∃ a b xs, x = .ref a ∧ y = .ref b ∧ SqL K H a xs ∧ SqL K H b [] ∧ Q (.bl xs.isEmpty) H
theorem op_eqNil (hu : X.A.units + 64 < cLine) : OpR X (compareOp .Eq) (rEqNil X.K) := by
  intro pins s σ H x y v u Q I rx ry h
  obtain ⟨a, b, xs, rfl, rfl, h1, h2, q⟩ := h
  cases xs with
  | nil => exact op_eqD hu pins s σ H _ _ v u Q I rx ry ⟨.list [], .list [], .lst h1 .nil, .lst h2 .nil, by decide, by decide, q⟩
  | cons z zs =>
    cases (show v = Value.ref a from rx)
    cases (show u = Value.ref b from ry)
    obtain ⟨us, r1, l1, _⟩ := I.list h1
    obtain ⟨ws, r2, l2, _⟩ := I.list h2
    cases r1
    cases r2
    obtain ⟨o1, n1, e1, c1, d1, k1⟩ := l1
    obtain ⟨o2, n2, e2, c2, d2, k2⟩ := l2
    exact SeqAt.eq_list_lengthsAt ⟨o1, e1, c1, n1, k1⟩ ⟨o2, e2, c2, n2, k2⟩ rfl (by omega) ⟨.bl false, H, I, rfl, q⟩
end

/-! ### the die -/
def DieAt (H : Hp) (d : Addr) : Prop := ∃ a b c : Int, H d = some (.lst [.int a, .int b, .int c])
def NewDie (H : Hp) (d : Addr) (H' : Hp) : Prop := ∃ a b c : Int, H' = upd H d (.lst [.int a, .int b, .int c])
theorem NewDie.die {H H' : Hp} {d : Addr} (h : NewDie H d H') : DieAt H' d := by
  obtain ⟨a, b, c, rfl⟩ := h
  exact ⟨a, b, c, upd_same⟩
theorem NewDie.ne {H H' : Hp} {d p : Addr} (h : NewDie H d H') (hp : p ≠ d) : H' p = H p := by
  obtain ⟨a, b, c, rfl⟩ := h
  exact upd_ne hp
/-- all but the die as it was -/
def But (d : Addr) (H H' : Hp) : Prop := ∀ b o, b ≠ d → H b = some o → H' b = some o
theorem But.refl (d : Addr) (H : Hp) : But d H H := fun _ _ _ h => h
theorem But.trans {d : Addr} {H H1 H2 : Hp} (a : But d H H1) (b : But d H1 H2) : But d H H2 := fun c o n h => b c o n (a c o n h)
theorem But.same {d : Addr} {H H1 H2 : Hp} (a : But d H H1) (b : Same H1 H2) : But d H H2 := fun c o n h => b c o (a c o n h)
theorem NewDie.but {H H' : Hp} {d : Addr} (h : NewDie H d H') : But d H H' := fun _ _ n e => by
  rw [h.ne n]
  exact e
theorem But.new {d : Addr} {H H1 : Hp} {p : Addr} {o : HO} (a : But d H H1) (h : H1 p = none) : But d H (upd H1 p o) := fun c u n e => by
  rw [upd_ne (ne_of_none (a c u n e) h)]
  exact a c u n e
theorem But.seq {K : PySem.W.Frag} {d : Addr} {H H' : Hp} {a : Addr} {xs : List V} (e : But d H H') (n : a ≠ d) (h : SqL K H a xs) : SqL K H' a xs := by
  rcases h with (h | ⟨o, h⟩) | h
  · exact .inl (.inl (e _ _ n h))
  · exact .inl (.inr ⟨o, e _ _ n h⟩)
  · exact .inr h
theorem But.seqT {K : PySem.W.Frag} {d : Addr} {H H' : Hp} {a : Addr} {xs : List V} (e : But d H H') (n : a ≠ d) (h : SqT K H a xs) : SqT K H' a xs := by
  rcases h with (h | ⟨o, h⟩) | h
  · exact .inl (.inl (e _ _ n h))
  · exact .inl (.inr ⟨o, e _ _ n h⟩)
  · exact .inr h
theorem DieAt.new {H : Hp} {d p : Addr} {o : HO} (h : DieAt H d) (n : H p = none) : DieAt (upd H p o) d := by
  obtain ⟨a, b, c, h⟩ := h
  exact ⟨a, b, c, by rw [upd_ne (ne_of_none h n)]; exact h⟩

theorem upd_keep {H : Hp} {a p : Addr} {o u : HO} (h : H a = some u) (n : H p = none) : upd H p o a = some u := (upd_ne (ne_of_none h n)).trans h
theorem same_new {H H1 : Hp} {p : Addr} {o : HO} (s : Same H H1) (h : H1 p = none) : Same H (upd H1 p o) := fun b u e => upd_keep (s b u e) h
theorem same_put {H H1 : Hp} {p : Addr} {o : HO} (s : Same H H1) (h : H p = none) : Same H (upd H1 p o) := fun b u e => by
  rw [upd_ne (ne_of_none e h)]
  exact s b u e
theorem all_nil {P : V → Prop} : ∀ v ∈ ([] : List V), P v := fun _ h => by cases h
theorem all_cons {P : V → Prop} {a : V} {l : List V} (h : P a) (t : ∀ v ∈ l, P v) : ∀ v ∈ a :: l, P v := fun v hv => by
  rcases List.mem_cons.mp hv with rfl | hv
  · exact h
  · exact t v hv

theorem DieAt.free {H : Hp} {d p : Addr} (h : DieAt H d) (n : H p = none) : p ≠ d := fun e => by
  obtain ⟨a, b, c, h⟩ := h
  rw [e, h] at n
  cases n
theorem But.put {d : Addr} {H H2 : Hp} {D : Addr} {o : HO} (b : But d H H2) (n : H D = none) : But d H (upd H2 D o) := fun c u hc e => by
  rw [upd_ne (ne_of_none e n)]
  exact b c u hc e
theorem DieAt.put {H : Hp} {d p : Addr} {o : HO} (h : DieAt H d) (n : p ≠ d) : DieAt (upd H p o) d := by
  obtain ⟨a, b, c, h⟩ := h
  exact ⟨a, b, c, by rw [upd_ne n.symm]; exact h⟩
theorem DieAt.same {H H' : Hp} {d : Addr} (h : DieAt H d) (s : Same H H') : DieAt H' d := by
  obtain ⟨a, b, c, h⟩ := h
  exact ⟨a, b, c, s _ _ h⟩
theorem But.free {d : Addr} {H H' : Hp} {p : Addr} (b : But d H H') (hp : p ≠ d) (n : H' p = none) : H p = none := by
  cases e : H p with
  | none => rfl
  | some o =>
    rw [b p o hp e] at n
    cases n
/-- a die that was laid since: nothing of before is changed -/
theorem Same.but {d : Addr} {H0 H H' : Hp} (s : Same H0 H) (n : H0 d = none) (b : But d H H') : Same H0 H' := fun p o e => b p o (fun z => by subst z; rw [n] at e; cases e) (s p o e)
theorem sum_ones (ys : List Str) (h : ∀ y ∈ ys, y.length = 1) : (ys.map (·.length)).sum = ys.length := by
  induction ys with
  | nil => rfl
  | cons y r ih =>
    rw [List.map_cons, List.sum_cons, h y List.mem_cons_self, ih fun z hz => h z (List.mem_cons_of_mem _ hz), List.length_cons]
    omega
theorem len_ok {xs : List V} (h : Nat.ble xs.length 1000 = true := by rfl) : xs.length ≤ sizeLine := Nat.le_of_lt (small1000 (Nat.le_of_ble_eq_true h))
/-! ### the odd ones -/
def Flat (v : V) : Prop := v = .non ∨ (∃ i : Int, v = .int i) ∨ (∃ b, v = .bl b) ∨ ∃ z : Str, v = .str z ∧ z.length ≤ 9
def Flat2 (H : Hp) (v : V) : Prop := Flat v ∨ ∃ q ys, v = .ref q ∧ H q = some (.tup ys) ∧ ys.length ≤ 2 ∧ ∀ y ∈ ys, Flat y
def Odd (H : Hp) (v : V) : Prop := Flat v ∨ (∃ p xs, v = .ref p ∧ H p = some (.tup xs) ∧ xs.length ≤ 2 ∧ ∀ x ∈ xs, Flat2 H x) ∨ (∃ p, v = .ref p ∧ H p = some (.lst [.int 0])) ∨ ∃ p, v = .ref p ∧ H p = some (.dK [])
theorem DieAt.ne {H : Hp} {d p : Addr} {o : HO} (h : DieAt H d) (hp : H p = some o) (ho : ∀ a b c : Int, o ≠ .lst [.int a, .int b, .int c]) : p ≠ d := fun e => by
  obtain ⟨a, b, c, h⟩ := h
  subst e
  rw [h] at hp
  exact ho a b c (Option.some.inj hp).symm
theorem Flat2.but {d : Addr} {H H' : Hp} {v : V} (b : But d H H') (hd : DieAt H d) (h : Flat2 H v) : Flat2 H' v := by
  rcases h with h | ⟨q, ys, e, hq, hl, hy⟩
  · exact .inl h
  · exact .inr ⟨q, ys, e, b _ _ (hd.ne hq fun _ _ _ z => by cases z) hq, hl, hy⟩
theorem Odd.but {d : Addr} {H H' : Hp} {v : V} (b : But d H H') (hd : DieAt H d) (h : Odd H v) : Odd H' v := by
  rcases h with h | ⟨q, ys, e, hq, hl, hy⟩ | ⟨q, e, hq⟩ | ⟨q, e, hq⟩
  · exact .inl h
  · exact .inr (.inl ⟨q, ys, e, b _ _ (hd.ne hq fun _ _ _ z => by cases z) hq, hl, fun x hx => (hy x hx).but b hd⟩)
  · exact .inr (.inr (.inl ⟨q, e, b _ _ (hd.ne hq fun _ _ _ z => by cases z) hq⟩))
  · exact .inr (.inr (.inr ⟨q, e, b _ _ (hd.ne hq fun _ _ _ z => by cases z) hq⟩))
theorem flat_non : Flat .non := .inl rfl
theorem flat_int (i : Int) : Flat (.int i) := .inr (.inl ⟨i, rfl⟩)
theorem flat_bl (b : Bool) : Flat (.bl b) := .inr (.inr (.inl ⟨b, rfl⟩))
theorem flat_str {z : Str} (h : z.length ≤ 9) : Flat (.str z) := .inr (.inr (.inr ⟨z, rfl, h⟩))

/-! ### the promises of the three that draw -/
def spNumbers (K : PySem.W.Frag) : Sp := fun vs H Q _ => ∃ (a : Addr) (ns : List Int) (i : Int), vs = [.ref a, .int i] ∧ 0 ≤ i ∧ SqL K H a (ns.map V.int) ∧
  ∀ p x y, H p = none → Q (.ref p) (upd H p (.lst [.int x, .int y, .int 0]))
def spCast : Sp := fun vs H Q _ => ∃ (d : Addr) (n : Int), vs = [.ref d, .int n] ∧ DieAt H d ∧ 0 < n ∧ n < 1073741824 ∧
  ∀ (r : Nat) H', (r : Int) < n → NewDie H d H' → Q (.int r) H'
def spPick (K : PySem.W.Frag) : Sp := fun vs H Q _ => ∃ (d : Addr), DieAt H d ∧
  ((∃ p xs, vs = [.ref d, .ref p] ∧ p ≠ d ∧ (SqL K H p xs ∨ SqT K H p xs) ∧ xs ≠ [] ∧ xs.length < 1073741824 ∧ ∀ (j : Nat) v H', xs[j]? = some v → NewDie H d H' → Q v H')
  ∨ (∃ z : Str, vs = [.ref d, .str z] ∧ 0 < z.length ∧ z.length ≤ 1000 ∧ ∀ (j : Nat) c H', z.cps.toList[j]? = some c → NewDie H d H' → Q (.str ⟨#[c]⟩) H'))
theorem turns_ok {c : Int} {n : Nat} (h : n ≤ 63) (h0 : 0 ≤ c) (h1 : c ≤ 1000) : -(2 ^ 62) ≤ (if (if (n : Int) < c then (n : Int) else c) > 1 then (if (n : Int) < c then (n : Int) else c) else 1) ∧ (if (if (n : Int) < c then (n : Int) else c) > 1 then (if (n : Int) < c then (n : Int) else c) else 1) < 2 ^ 62 := by
  split <;> split <;> omega
/-- the law itself -/
def spLaw (K : PySem.W.Frag) : Sp := fun vs H Q _ => ∃ (a : Addr) (ns : List Int), vs = [.ref a] ∧ SqL K H a (ns.map V.int) ∧ ns.length ≤ 63 ∧ ∀ H', Q (.bl true) H'
/-- one round of the law -/
def spRight : Sp := fun vs H Q _ => ∃ (d : Addr), vs = [.ref d] ∧ DieAt H d ∧ ∀ H', But d H H' → DieAt H' d → Q (.bl true) H'
/-- one of the odd values, at an address that did not hold anything -/
def spOdd : Sp := fun vs H Q _ => ∃ (d : Addr), vs = [.ref d] ∧ DieAt H d ∧ ∀ v H', Odd H' v → But d H H' → DieAt H' d → Q v H'
end Sh

/-! tuples: a reversed copy, the sum; walks over two tuples -/
namespace HT
open PySem PySem.Spec PyProof.Rows
section
variable {prog : Program} {w : World} {A : Around} {E : Value → Shared → Prop} {s : Shared}
theorem back_adjust (n : Nat) : Builtin.Slice.sliceAdjust none none (-1) (n : Int) = ((n : Int) - 1, -1) := by
  unfold Builtin.Slice.sliceAdjust
  rfl
theorem back_places (n : Nat) : Builtin.Slice.slicePlaces ((n : Int) - 1) (-1) (-1) = n := by
  unfold Builtin.Slice.slicePlaces
  rw [if_neg (by decide)]
  have e : (-(-1 : Int)) = 1 := by decide
  rw [e, Int.ediv_one]
  split <;> omega
theorem fm_congr {α β : Type} {f g : α → Option β} : ∀ (l : List α), (∀ x ∈ l, f x = g x) → l.filterMap f = l.filterMap g
  | [], _ => rfl
  | x :: r, h => by rw [List.filterMap_cons, List.filterMap_cons, h x List.mem_cons_self, fm_congr r fun y hy => h y (List.mem_cons_of_mem _ hy)]
theorem back_pick (xs : Array Value) : ((List.range xs.size).filterMap fun (k : Nat) => xs[(((xs.size : Nat) : Int) - 1 + (k : Int) * (-1)).toNat]?).toArray = xs.toList.reverse.toArray := by
  have e : (List.range xs.size).filterMap (fun (k : Nat) => xs[(((xs.size : Nat) : Int) - 1 + (k : Int) * (-1)).toNat]?) = ((List.range xs.size).map fun k => xs.size - 1 - k).filterMap (xs[·]?) := by
    rw [List.filterMap_map]
    refine fm_congr _ fun k hk => ?_
    have h := List.mem_range.mp hk
    show xs[_]? = xs[xs.size - 1 - k]?
    congr 1
    omega
  rw [e, PySem.W.krv_range, List.filterMap_reverse, PySem.W.krv_all]
theorem sliceApplied_back {sl : Addr} {vs : Value} {n : Nat} {Q : Int × Int × Nat → Shared → Prop} (hs : s.heap.IsSliceOf sl .none .none vs) (ps : IsPart vs (some (-1)))
    (h : Q ((n : Int) - 1, -1, n) s) : wpAny (model prog w) A (Builtin.Slice.sliceApplied (.ref sl) (pure (n : Int))) Q E s := by
  obtain ⟨os, hos, hcs, hds⟩ := id hs
  unfold Builtin.Slice.sliceApplied Builtin.Slice.sliceFields
  refine wpAny_bind (wpAny_bind (wpAny_field hos hds (x := .none) rfl (wpAny_bind (wpAny_field hos hds (x := .none) rfl (wpAny_bind (wpAny_field hos hds (x := vs) rfl (wpAny_pure ?_)))))))
  refine wpAny_bind (slicePart_ ps ?_)
  show wpAny _ _ (if ((-1 : Int) == 0) = true then _ else _) _ _ s
  rw [if_neg (by decide)]
  refine wpAny_bind (slicePart_none (wpAny_bind (slicePart_none (wpAny_bind (wpAny_pure ?_)))))
  show wpAny _ _ (match Builtin.Slice.sliceAdjust none none (-1) (n : Int) with | (lo, hi) => pure (lo, (-1 : Int), Builtin.Slice.slicePlaces lo hi (-1))) _ _ s
  rw [back_adjust]
  show wpAny _ _ (pure ((n : Int) - 1, (-1 : Int), Builtin.Slice.slicePlaces ((n : Int) - 1) (-1) (-1))) _ _ s
  rw [back_places]
  exact wpAny_pure h
theorem getItem_tuple_back {t sl : Addr} {items : Array Value} {vs : Value} {Q : Value → Shared → Prop} (ht : IsTup s.heap t items) (hs : s.heap.IsSliceOf sl .none .none vs) (ps : IsPart vs (some (-1)))
    (h : Q (.ref s.heap.objs.size) { s with heap := s.heap.push { cls := .type "tuple", data := .seq items.toList.reverse.toArray } })
    (hsz : items.size ≤ sizeLine) : wpAny (model prog w) A (getItem (.ref t) (.ref sl)) Q E s := by
  have htake : sizeOk (.seq items.toList.reverse.toArray) := by
    show items.toList.reverse.toArray.size ≤ sizeLine
    rw [List.size_toArray, List.length_reverse, Array.length_toList]
    exact hsz
  obtain ⟨os, hos, hcs, hds⟩ := id hs
  have hTs : s.TypeIs (.ref sl) "slice" := ⟨os, hos, hcs⟩
  unfold getItem
  try with_reducible refine wpAny_holding ?_
  first | refine wpAny_bind (wpAny_pure ?_) | skip
  refine wpAny_bind (wpAny_sequenceKey ht.typeIs (by decide) ?_)
  refine wpAny_bind (wpAny_callSpecial?_slot (name := Str.ofString "__getitem__") ht.typeIs PyProof.Rows.slot_tuple_getitem
    (wpAny_call_entry PyProof.Rows.slot_tuple_getitem ht.typeIs entry_tuple_getitem ?_ (args_tuple_getitem _ _)))
  show wpAny _ _ (Builtin.Tuple.tupleItemsOf (.ref t) >>= _) _ _ s
  refine wpAny_bind (tupleItemsOf_ ht ?_)
  refine wpAny_bind (wpAny_typeOf hTs ?_)
  rw [if_pos (by decide)]
  refine wpAny_bind (sliceApplied_back hs ps ?_)
  have hno : ¬ ((((items.size : Nat) : Int) - 1 == 0 && (-1 : Int) == 1 && items.size == items.size) = true) := by
    rw [show ((-1 : Int) == 1) = false from rfl, Bool.and_false, Bool.false_and]
    exact Bool.false_ne_true
  show wpAny _ _ (if (((items.size : Nat) : Int) - 1 == 0 && (-1 : Int) == 1 && items.size == items.size) = true then _ else _) _ _ s
  rw [if_neg hno, back_pick]
  first
    | exact wpAny_bind (m := Builtin.Tuple.tupleExact _) (wpAny_newObj_type (wpAny_pure ⟨_, rfl, wpAny_pure h⟩) htake)
    | exact wpAny_bind (m := Builtin.Tuple.tupleExact _) (wpAny_newObj_type (wpAny_bind (wpAny_pure (wpAny_pure ⟨_, rfl, wpAny_pure h⟩))) htake)
    | exact wpAny_bind (wpAny_bind (m := Builtin.Tuple.tupleExact _) (wpAny_newObj_type (wpAny_pure (wpAny_pure ⟨_, rfl, wpAny_pure h⟩)) htake))
    | exact wpAny_bind (wpAny_bind (m := Builtin.Tuple.tupleExact _) (wpAny_newObj_type (wpAny_pure ⟨_, rfl, wpAny_pure h⟩) htake))
end
end HT
namespace Sh
open PySem PySem.Spec PyProof.Rows L2 RZ
section
variable {X : Cx}
/-- t[::-1] -/
def tRevT (K : PySem.W.Frag) (te : TE) : TE := fun σ H Q => te σ H fun x H1 => ∃ a xs, x = .ref a ∧ SqT K H1 a xs ∧ ∀ p, H1 p = none → Q (.ref p) (upd H1 p (.tup xs.reverse))
theorem pe_revT {e : Expr} {te : TE} {k : Nat} {p1 p2 p3 pos : Pos} (he : PE X e te) : PE X (.Subscript e (.Slice none none (some (.UnaryOp .USub (.Constant (.int 1) k p1) p2)) p3) pos) (tRevT X.K te) := by
  refine ⟨fun pins s σ H Q I h => ?_⟩
  refine Subscript_ (thn (he.run pins s σ H _ I h) fun v s1 ⟨x, H1, I1, r1, q1⟩ => ?_)
  obtain ⟨a, xs, ex, hx, q⟩ := q1
  subst ex
  cases r1
  have hst : PO X (some (.UnaryOp .USub (.Constant (.int 1) k p1) p2)) (tPart (tUn (rU fun i => .int (-i)) (tC (.int 1)))) := po_some (pe_un un_neg pe_int)
  refine wpAny_Slice (thn (po_none.run pins s1 σ H1 (fun o H2 => o = none ∧ H2 = H1) I1 ⟨rfl, rfl⟩) fun vl s2 ⟨l, H2, I2, pl, el, e2⟩ => ?_)
  subst el e2
  refine thn (po_none.run pins s2 σ H2 (fun o H3 => o = none ∧ H3 = H2) I2 ⟨rfl, rfl⟩) fun vu s3 ⟨u, H3, I3, pu, eu, e3⟩ => ?_
  subst eu e3
  refine thn (hst.run pins s3 σ H3 (fun o H4 => o = some (-1) ∧ H4 = H3) I3 ⟨1, rfl, -1, rfl, rfl, rfl⟩) fun vs s4 ⟨o, H4, I4, ps, eo, e4⟩ => ?_
  subst eo e4
  cases pl
  cases pu
  have I5 : Inv X pins σ H4 { s4 with heap := s4.heap.push { cls := .type "slice", data := .fields #[.none, .none, vs] } } := I4.kept (t' := s4.toks) fun b ob q => Heap.get?_push_of_some _ q
  obtain ⟨its, r, ht, hz⟩ := I5.tuple hx
  have hlen := r.length
  show wpAny (model X.prog X.w) X.A (subscriptTail e (.Slice none none (some (.UnaryOp .USub (.Constant (.int 1) k p1) p2)) p3) (.ref a) (.ref s4.heap.objs.size)) (EP X pins σ Q) X.xe { s4 with heap := s4.heap.push { cls := .type "slice", data := .fields #[.none, .none, vs] } }
  refine tail_any (ops := [.ref a, .ref s4.heap.objs.size]) ht.typeIs (PyProof.Rows.slot_tuple_getitem.lookup) ?_ (by with_unfolding_all rfl)
  refine HT.getItem_tuple_back ht (Heap.IsSliceOf.new _ .none .none vs) ps ?_ (by rw [List.size_toArray]; omega)
  refine ⟨.ref _, _, I5.laid (t' := s4.toks) (o := .tup xs.reverse) (fun b ob q => Heap.get?_push_of_some _ q) (Nat.le_refl _) ?_, rfl, q _ (I5.hok.fresh (Nat.le_refl _))⟩
  exact ⟨by rw [List.length_reverse]; exact hz, its.reverse, r.reverse, ⟨_, Heap.get?_push_size _ rfl, rfl, 0, by simp⟩⟩
/-- sum of a tuple -/
def rSumT (K : PySem.W.Frag) : List V → Hp → VK → Prop := fun vs H Q => ∃ (a : Addr) (ns : List Int), vs = [V.ref a] ∧ SqT K H a (ns.map V.int) ∧ Q (.int ns.sum) H
theorem sumT_raw {prog : Program} {w : World} {A : Around} {E : Value → Shared → Prop} {s : Shared} {l : Addr} {its : List Value} {ns : List Int} {Q : Value → Shared → Prop} (hh : A.handled = none) (hl : IsTup s.heap l its.toArray) (hi : IntsAre its ns)
    (h : ∀ h' tk t', (∀ b o, s.heap.get? b = some o → h'.get? b = some o) → Q (.int ns.sum t') { s with heap := h', toks := tk }) : wpAny (model prog w) A (call (.builtin "sum") [.ref l]) Q E s := by
  obtain ⟨xs, e⟩ := hi.allInts.items
  have hn : numsOf (intItems xs).toList = ns := by rw [← e]; exact hi.numsOf
  rw [nums_intItems] at hn
  rw [e] at hl
  obtain ⟨o, h1, h2, h3⟩ := hl
  have hT : s.heap.IsTuple l (intItems xs) := ⟨o, h1, h2, h3⟩
  have hlt : l < s.heap.objs.size := Heap.lt_size h1
  refine PySem.call_sum_walkG (PySem.wpAny_pyIter_tuple hT ?_)
  refine ⟨_, _, _, _, _, _, numAt xs, rfl, Walks.tuple (A := A.in1) hh _ l (Nat.ne_of_lt hlt) (intItems xs), ⟨⟨_, Heap.get?_push_size _ rfl, rfl, rfl⟩, hT.at fun o e => Heap.get?_push_of_some _ e⟩, fun b hb => ?_, (fun _ _ => intItems_at), fun h' tk t' hk => ?_⟩
  · show b < (s.heap.push _).objs.size
    rw [Heap.size_push]
    rcases List.mem_cons.mp hb with rfl | hb
    · exact Nat.lt_succ_self _
    · rcases List.mem_cons.mp hb with rfl | hb
      · exact Nat.lt_succ_of_lt hlt
      · cases hb
  · have := h h' tk t' fun b o e => by
      refine hk b o (fun hm => ?_) (Heap.get?_push_of_some _ e)
      rcases List.mem_cons.mp hm with e1 | hm
      · exact absurd (e1 ▸ Heap.lt_size e) (Nat.lt_irrefl _)
      · cases hm
    rw [preSum_eq, List.take_of_length_le (by simp [intItems]), hn]
    exact this
theorem cr_sumT (hc : X.calm = true) : CallR X (.builtin "sum") (rSumT X.K) := by
  intro pins s σ H vs us Q I r h
  obtain ⟨a, ns, rfl, hs, q⟩ := h
  obtain ⟨its, rv, hl, _⟩ := I.tuple hs
  rw [Vals.ref1 r]
  exact sumT_raw (I.ok.hd hc) hl rv.ints fun h' tk t' hk => ⟨.int _, H, I.kept hk, ⟨_, rfl⟩, q⟩
/-- a list != [] -/
def rNeNil (K : PySem.W.Frag) : V → V → Hp → VK → Prop := fun x y H Q => ∃ a b xs, x = .ref a ∧ y = .ref b ∧ SqL K H a xs ∧ SqL K H b [] ∧ Q (.bl (!xs.isEmpty)) H
theorem op_neNil (hu : X.A.units + 64 < cLine) : OpR X (compareOp .NotEq) (rNeNil X.K) := by
  intro pins s σ H x y v u Q I rx ry h
  obtain ⟨a, b, xs, rfl, rfl, h1, h2, q⟩ := h
  cases xs with
  | nil => exact op_neD hu pins s σ H _ _ v u Q I rx ry ⟨.list [], .list [], .lst h1 .nil, .lst h2 .nil, by decide, by decide, q⟩
  | cons z zs =>
    cases (show v = Value.ref a from rx)
    cases (show u = Value.ref b from ry)
    obtain ⟨us, r1, l1, _⟩ := I.list h1
    obtain ⟨ws, r2, l2, _⟩ := I.list h2
    cases r1
    cases r2
    obtain ⟨o1, n1, e1, c1, d1, k1⟩ := l1
    obtain ⟨o2, n2, e2, c2, d2, k2⟩ := l2
    exact SeqAt.RcNeAt.lists_lengths ⟨o1, e1, c1, n1, k1⟩ ⟨o2, e2, c2, n2, k2⟩ rfl (by omega) X.prog X.w X.xe _ ⟨.bl true, H, I, rfl, q⟩
/-- tuples of ints -/
def rNeTI (K : PySem.W.Frag) : V → V → Hp → VK → Prop := fun x y H Q => ∃ a b, ∃ xs ys : List Int, x = .ref a ∧ y = .ref b ∧ SqT K H a (xs.map V.int) ∧ SqT K H b (ys.map V.int) ∧ Q (.bl (!decide (xs = ys))) H
theorem dps_ints {K : PySem.W.Frag} {H : Hp} : ∀ ns : List Int, DpAll K H (ns.map V.int) (ns.map PyData.int)
  | [] => .nil
  | n :: r => .cons (.int n) (dps_ints r)
theorem eqvAll_ints : ∀ xs ys : List Int, PyData.eqvAll (xs.map PyData.int) (ys.map PyData.int) = decide (xs = ys)
  | [], [] => by simp [PyData.eqvAll]
  | [], _ :: _ => by simp [PyData.eqvAll]
  | _ :: _, [] => by simp [PyData.eqvAll]
  | x :: xs, y :: ys => by
    rw [List.map_cons, List.map_cons, PyData.eqvAll, eqvAll_ints xs ys, PyData.eqv]
    by_cases h : x = y
    · subst h
      simp
    · simp [h]
theorem shaped_tints (ns : List Int) : SeqAt.shaped (.tuple (ns.map PyData.int)) = true := PySem.W.ke_shaped_ints ns
theorem op_neTI (hu : X.A.units + 64 < cLine) : OpR X (compareOp .NotEq) (rNeTI X.K) := by
  intro pins s σ H x y v u Q I rx ry h
  obtain ⟨a, b, xs, ys, rfl, rfl, h1, h2, q⟩ := h
  refine op_neD hu pins s σ H _ _ v u Q I rx ry ⟨.tuple (xs.map PyData.int), .tuple (ys.map PyData.int), .tup h1 (dps_ints xs), .tup h2 (dps_ints ys), shaped_tints xs, shaped_tints ys, ?_⟩
  show Q (.bl (!PyData.eqvAll (xs.map PyData.int) (ys.map PyData.int))) H
  rw [eqvAll_ints]
  exact q
end
section
variable {K : PySem.W.Frag} {a b d : Addr} {xs ys : List V}
theorem walk_zipT {n : Nat} (hn : n = min xs.length ys.length) : Walk (ItzT K a b) n (fun H => SqT K H a xs ∧ SqT K H b ys) (YPair (fun i => xs[i]?) (fun i => ys[i]?)) := by
  subst hn
  refine ⟨fun i _ hi q => ?_, fun _ q => ⟨xs, ys, q.1, q.2, by omega⟩, fun i H v H' _ q y => ?_⟩
  · have h1 : i < xs.length := by omega
    have h2 : i < ys.length := by omega
    exact ⟨xs, ys, xs[i], ys[i], q.1, q.2, by simp [h1], by simp [h2]⟩
  · obtain ⟨T, x, z, h1, h2, h3, h4, h5⟩ := y
    exact ⟨T, x, z, h1, h2, h3, h4 xs q.1, h5 ys q.2⟩
end
end Sh

/-! a walk over zip of two tuples whose pairs are held by a name: the iterator keeps the pair that it gave -/
namespace ZN
open PySem PySem.Spec PyProof.Rows L2 RZ
/-- the iterator at z: what it keeps, and the flag beside it -/
abbrev ZAt (h : Heap) (z TI TO : Addr) (kept : Value) (flag : Bool) : Prop := h.get? z = some { cls := .type "zip", data := .fields #[kept, .bool flag, .bool false, .ref TI, .ref TO] }
section
variable {prog : Program} {w : World} {A : Around} {E : Value → Shared → Prop} {s : Shared}
theorem alive_ {M : Model} {a : Addr} {Q : Option Obj → Shared → Prop} (h : Q (s.heap.get? a) s) : wpAny M A (PySem.loadIfAlive a) Q E s := fun _ _ _ => by
  unfold PySem.loadIfAlive
  rw [Sem.wp_loadIfAlive]
  simpa using h
variable {z TI TO i1 i2 l1 l2 T : Addr} {k1 k2 : Nat} {xs ys : Array Value} {x y a b : Value} {flag : Bool}
/-- what is the same, whoever holds the pair: the state behind a turn -/
def Behind (s : Shared) (z TI TO i1 i2 l1 l2 : Addr) (k1 k2 : Nat) (x y : Value) (Q : Value → Shared → Prop) : Prop :=
  ∀ h' N T' f', N = s.heap.objs.size → ZAt h' z TI TO (rawInt (T' : Nat)) f' → (∃ u v, IsPair h' TO u v) → h'.IsTupleIter i1 l1 (k1 + 1) → h'.IsTupleIter i2 l2 (k2 + 1) → IsPair h' N x y →
    (∀ c o, c ≠ z → c ≠ TO → c ≠ i1 → c ≠ i2 → s.heap.get? c = some o → h'.get? c = some o) → Q (.ref N) { s with heap := h' }
/-- nobody else holds it -/
theorem free_item (D : ZipApart z TI TO i1 i2 l1 l2) {kept : Value} (hz : ZAt s.heap z TI TO kept flag) (hTI : IsPair s.heap TI (.ref i1) (.ref i2)) (hTO : IsPair s.heap TO a b)
    (hfree : ∀ (Q : Bool → Shared → Prop) (E : Value → Shared → Prop) (B : Around), Q true s → wpAny (model prog w) B (Builtin.SmallTypes.ownedTupleIsFree (.ref z)) Q E s)
    (h1 : s.heap.IsTupleIter i1 l1 k1) (h2 : s.heap.IsTupleIter i2 l2 k2) (hl1 : s.heap.IsTuple l1 xs) (hl2 : s.heap.IsTuple l2 ys) (hx : xs[k1]? = some x) (hy : ys[k2]? = some y) {Q : Value → Shared → Prop}
    (hQ : Behind s z TI TO i1 i2 l1 l2 k1 k2 x y Q) : wpAny (model prog w) A (Builtin.«zip.__next__» ⟨[.ref z], []⟩) (fun fin s' => ∃ v, fin = .done (.ret v) ∧ Q v s') E s := by
  show wpAny _ _ (field (.ref z) 2 >>= _) _ _ _; refine wpAny_bind (wpAny_field hz rfl (x := .bool false) rfl ?_)
  show wpAny _ _ (field (.ref z) 3 >>= _) _ _ _; refine wpAny_bind (wpAny_field hz rfl (x := .ref TI) rfl ?_); refine wpAny_bind (wpAny_seqItems hTI rfl ?_)
  show wpAny _ _ (Builtin.SmallTypes.ownedTupleIsFree (.ref z) >>= _) _ _ _; refine wpAny_bind (hfree _ _ _ ?_)
  simp only [if_true]; refine wpAny_bind (wpAny_rule ?_); refine wpAny_bind (wpAny_field hz rfl (x := .ref TO) rfl ?_)
  refine wpAny_bind (wpAny_setField_rec hz (by simp) fun m1 z1 b1 => ?_); replace z1 : ZAt m1 z TI TO .ellipsis flag := z1
  refine wpAny_bind ?_; simp only [List.zipIdx_cons, List.zipIdx_nil, List.forIn_cons, List.forIn_nil]
  refine wpAny_bind (wpAny_bind (wpAny_onRaise ?_)); show wpAny _ _ (Builtin.SmallTypes.nextOf (.ref i1) >>= _) _ _ _
  refine wpAny_bind (nextOf_tuple_item (h1.extBut b1.extBut D.i1z) (hl1.extBut b1.extBut D.l1z) hx fun m2 g1 b2 => wpAny_pure ?_)
  have o2 : IsPair m2 TO a b := b2.extBut _ _ D.TOi1 (b1.extBut _ _ D.TOz hTO)
  refine wpAny_bind (wpAny_seqItems o2 rfl ?_); refine wpAny_bind (wpAny_updateSeq_pair o2 fun m3 o3 b3 => ?_); replace o3 : IsPair m3 TO x b := o3
  refine wpAny_bind (wpAny_letGo (wpAny_pure ?_)); refine wpAny_bind (wpAny_bind (wpAny_onRaise ?_))
  show wpAny _ _ (Builtin.SmallTypes.nextOf (.ref i2) >>= _) _ _ _
  refine wpAny_bind (nextOf_tuple_item (((h2.extBut b1.extBut D.i2z).extBut b2.extBut D.i12.symm).extBut b3.extBut D.TOi2.symm) (((hl2.extBut b1.extBut D.l2z).extBut b2.extBut D.l2i1).extBut b3.extBut D.l2TO) hy fun m4 g2 b4 => wpAny_pure ?_)
  have o4 : IsPair m4 TO x b := b4.extBut _ _ D.TOi2 o3
  refine wpAny_bind (wpAny_seqItems o4 rfl ?_); refine wpAny_bind (wpAny_updateSeq_pair o4 fun m5 o5 b5 => ?_); replace o5 : IsPair m5 TO x y := o5
  refine wpAny_bind (wpAny_letGo (wpAny_pure (wpAny_pure ?_))); refine wpAny_bind (wpAny_seqItems o5 rfl ?_); refine wpAny_bind (wpAny_newTuple ?_)
  have size5 : m5.objs.size = s.heap.objs.size := by rw [b5.1, b4.1, b3.1, b2.1, b1.1]
  have z5 : ZAt m5 z TI TO .ellipsis flag := b5.extBut _ _ D.TOz.symm (b4.extBut _ _ D.i2z.symm (b3.extBut _ _ D.TOz.symm (b2.extBut _ _ D.i1z.symm z1)))
  have keep5 : ∀ c o, c ≠ z → c ≠ TO → c ≠ i1 → c ≠ i2 → s.heap.get? c = some o → m5.get? c = some o := fun c o c1 c2 c3 c4 e => b5.extBut _ _ c2 (b4.extBut _ _ c4 (b3.extBut _ _ c2 (b2.extBut _ _ c3 (b1.extBut _ _ c1 e))))
  have g15 : m5.IsTupleIter i1 l1 (k1 + 1) := ((g1.extBut b3.extBut D.TOi1.symm).extBut b4.extBut D.i12).extBut b5.extBut D.TOi1.symm
  have g25 : m5.IsTupleIter i2 l2 (k2 + 1) := g2.extBut b5.extBut D.TOi2.symm
  have zlt : z < m5.objs.size := Heap.lt_size z5
  show wpAny _ _ (Builtin.SmallTypes.ownedTupleHandOut (.ref z) (.ref m5.objs.size) >>= _) _ _ _
  refine wpAny_bind ?_; unfold Builtin.SmallTypes.ownedTupleHandOut
  have z6 : ZAt (m5.push { cls := .type "tuple", data := .seq #[x, y] }) z TI TO .ellipsis flag := Heap.get?_push_of_some _ z5
  refine wpAny_bind (wpAny_setField_rec z6 (by simp) fun m7 z7 b7 => ?_); replace z7 : ZAt m7 z TI TO (rawInt m5.objs.size) flag := z7
  refine wpAny_setField_rec z7 (by simp) fun m8 z8 b8 => ?_; replace z8 : ZAt m8 z TI TO (rawInt m5.objs.size) false := z8
  have up : ∀ c o, c ≠ z → m5.get? c = some o → m8.get? c = some o := fun c o c1 e => b8.extBut _ _ c1 (b7.extBut _ _ c1 (Heap.get?_push_of_some _ e))
  have T8 : IsPair m8 m5.objs.size x y := b8.extBut _ _ (Nat.ne_of_gt zlt) (b7.extBut _ _ (Nat.ne_of_gt zlt) (Heap.get?_push_size _ rfl))
  refine wpAny_pure ⟨_, rfl, ?_⟩; show Q (.ref m5.objs.size) _
  exact hQ m8 m5.objs.size m5.objs.size false size5 z8 ⟨_, _, up _ _ D.TOz o5⟩ (g15.at fun o e => up _ o D.i1z e) (g25.at fun o e => up _ o D.i2z e) T8 fun c o c1 c2 c3 c4 e => up c o c1 (keep5 c o c1 c2 c3 c4 e)
theorem not_free {ob : Obj} {B : Around} (hz : ZAt s.heap z TI TO (rawInt (T : Nat)) flag) (hal : s.heap.get? T = some ob) {Q : Bool → Shared → Prop}
    (h : ∀ m1 : Heap, ZAt m1 z TI TO (rawInt (T : Nat)) true → m1.objs.size = s.heap.objs.size → (∀ c o, c ≠ z → s.heap.get? c = some o → m1.get? c = some o) → Q false { s with heap := m1 }) :
    wpAny (model prog w) B (Builtin.SmallTypes.ownedTupleIsFree (.ref z)) Q E s := by
  unfold Builtin.SmallTypes.ownedTupleIsFree
  refine wpAny_bind (wpAny_field hz rfl (x := rawInt T) rfl ?_)
  show wpAny _ _ (PySem.loadIfAlive ((T : Int).toNat) >>= _) _ _ _
  refine wpAny_bind (alive_ ?_)
  rw [show ((T : Nat) : Int).toNat = T from rfl, hal]
  show wpAny _ _ (field (.ref z) 1 >>= _) _ _ _
  refine wpAny_bind (wpAny_field hz rfl (x := .bool flag) rfl ?_)
  cases flag with
  | true =>
    show wpAny _ _ (pure false) _ _ _
    exact wpAny_pure (h s.heap hz rfl fun _ _ _ e => e)
  | false =>
    show wpAny _ _ (setField (.ref z) 1 (.bool true) >>= _) _ _ _
    exact wpAny_bind (wpAny_setField_rec hz (by simp) fun m1 z1 b1 => wpAny_pure (h m1 z1 b1.1 fun c o c1 e => b1.extBut _ _ c1 e))
theorem gone_free {B : Around} (hz : ZAt s.heap z TI TO (rawInt (T : Nat)) flag) (hal : s.heap.get? T = none) {Q : Bool → Shared → Prop} (h : Q true s) :
    wpAny (model prog w) B (Builtin.SmallTypes.ownedTupleIsFree (.ref z)) Q E s := by
  unfold Builtin.SmallTypes.ownedTupleIsFree
  refine wpAny_bind (wpAny_field hz rfl (x := rawInt T) rfl ?_)
  show wpAny _ _ (PySem.loadIfAlive ((T : Int).toNat) >>= _) _ _ _
  refine wpAny_bind (alive_ ?_)
  rw [show ((T : Nat) : Int).toNat = T from rfl, hal]
  exact wpAny_pure h
theorem none_free {B : Around} (hz : ZAt s.heap z TI TO .none flag) {Q : Bool → Shared → Prop} (h : Q true s) : wpAny (model prog w) B (Builtin.SmallTypes.ownedTupleIsFree (.ref z)) Q E s := by
  unfold Builtin.SmallTypes.ownedTupleIsFree
  exact wpAny_bind (wpAny_field hz rfl (x := .none) rfl (wpAny_pure h))
/-- the name holds it still: a new pair, the old one stays with the iterator -/
theorem held_item (D : ZipApart z TI TO i1 i2 l1 l2) {ob : Obj} (hz : ZAt s.heap z TI TO (rawInt (T : Nat)) flag) (hal : s.heap.get? T = some ob) (hTI : IsPair s.heap TI (.ref i1) (.ref i2)) (hTO : IsPair s.heap TO a b)
    (h1 : s.heap.IsTupleIter i1 l1 k1) (h2 : s.heap.IsTupleIter i2 l2 k2) (hl1 : s.heap.IsTuple l1 xs) (hl2 : s.heap.IsTuple l2 ys) (hx : xs[k1]? = some x) (hy : ys[k2]? = some y) {Q : Value → Shared → Prop}
    (hQ : Behind s z TI TO i1 i2 l1 l2 k1 k2 x y Q) : wpAny (model prog w) A (Builtin.«zip.__next__» ⟨[.ref z], []⟩) (fun fin s' => ∃ v, fin = .done (.ret v) ∧ Q v s') E s := by
  show wpAny _ _ (field (.ref z) 2 >>= _) _ _ _; refine wpAny_bind (wpAny_field hz rfl (x := .bool false) rfl ?_)
  show wpAny _ _ (field (.ref z) 3 >>= _) _ _ _; refine wpAny_bind (wpAny_field hz rfl (x := .ref TI) rfl ?_); refine wpAny_bind (wpAny_seqItems hTI rfl ?_)
  show wpAny _ _ (Builtin.SmallTypes.ownedTupleIsFree (.ref z) >>= _) _ _ _
  refine wpAny_bind (not_free hz hal fun m1 z1 sz1 kp1 => ?_)
  have t1 : m1.IsTupleIter i1 l1 k1 := h1.at fun o e => kp1 _ o D.i1z e
  have t2 : m1.IsTupleIter i2 l2 k2 := h2.at fun o e => kp1 _ o D.i2z e
  have u1 : m1.IsTuple l1 xs := hl1.at fun o e => kp1 _ o D.l1z e
  have u2 : m1.IsTuple l2 ys := hl2.at fun o e => kp1 _ o D.l2z e
  simp only [Bool.false_eq_true, if_false]
  refine wpAny_bind ?_
  simp only [List.forIn_toArray, List.forIn_cons, List.forIn_nil]
  refine wpAny_bind (wpAny_bind (wpAny_holding ?_))
  show wpAny _ _ (Builtin.SmallTypes.nextOf (.ref i1) >>= _) _ _ _
  refine wpAny_bind (nextOf_tuple_item t1 u1 hx fun m2 g1 b2 => wpAny_pure ?_)
  refine wpAny_pure ?_
  refine wpAny_bind (wpAny_bind (wpAny_holding ?_))
  show wpAny _ _ (Builtin.SmallTypes.nextOf (.ref i2) >>= _) _ _ _
  refine wpAny_bind (nextOf_tuple_item (t2.extBut b2.extBut D.i12.symm) (u2.extBut b2.extBut D.l2i1) hy fun m3 g2 b3 => wpAny_pure ?_)
  refine wpAny_pure (wpAny_pure ?_)
  show wpAny _ _ (newTuple [x, y] >>= _) _ _ _
  refine wpAny_bind (wpAny_newTuple ?_)
  refine wpAny_pure ⟨_, rfl, ?_⟩
  have sz3 : m3.objs.size = s.heap.objs.size := by rw [b3.1, b2.1, sz1]
  have z3 : ZAt m3 z TI TO (rawInt (T : Nat)) true := b3.extBut _ _ D.i2z.symm (b2.extBut _ _ D.i1z.symm z1)
  have k3 : ∀ c o, c ≠ z → c ≠ TO → c ≠ i1 → c ≠ i2 → s.heap.get? c = some o → m3.get? c = some o := fun c o c1 _ c3 c4 e => b3.extBut _ _ c4 (b2.extBut _ _ c3 (kp1 _ _ c1 e))
  have o3 : IsPair m3 TO a b := b3.extBut _ _ D.TOi2 (b2.extBut _ _ D.TOi1 (kp1 _ _ D.TOz hTO))
  have g13 : m3.IsTupleIter i1 l1 (k1 + 1) := g1.extBut b3.extBut D.i12
  exact hQ (m3.push { cls := .type "tuple", data := .seq #[x, y] }) m3.objs.size T true sz3 (Heap.get?_push_of_some _ z3) ⟨_, _, Heap.get?_push_of_some _ o3⟩ (g13.at fun o e => Heap.get?_push_of_some _ e) (g2.at fun o e => Heap.get?_push_of_some _ e)
    (Heap.get?_push_size _ rfl) fun c o c1 c2 c3 c4 e => Heap.get?_push_of_some _ (k3 c o c1 c2 c3 c4 e)
/-- what an end leaves -/
def Ended (s : Shared) (z TO i1 i2 : Addr) (E : Value → Shared → Prop) : Prop :=
  ∀ h' e, (∀ c o, c ≠ z → c ≠ TO → c ≠ i1 → c ≠ i2 → s.heap.get? c = some o → h'.get? c = some o) → (∃ o, h'.get? e = some o ∧ o.cls = .type "StopIteration") → E (.ref e) { s with heap := h' }
theorem free_end (hh : A.handled = none) (D : ZipApart z TI TO i1 i2 l1 l2) {kept : Value} (hz : ZAt s.heap z TI TO kept flag) (hTI : IsPair s.heap TI (.ref i1) (.ref i2)) (hTO : IsPair s.heap TO a b)
    (hfree : ∀ (Q : Bool → Shared → Prop) (E : Value → Shared → Prop) (B : Around), Q true s → wpAny (model prog w) B (Builtin.SmallTypes.ownedTupleIsFree (.ref z)) Q E s)
    (h1 : s.heap.IsTupleIter i1 l1 k1) (h2 : s.heap.IsTupleIter i2 l2 k2) (hl1 : s.heap.IsTuple l1 xs) (hl2 : s.heap.IsTuple l2 ys) (hend : xs[k1]? = none ∨ ys[k2]? = none) {Q : Fin → Shared → Prop}
    (hE : Ended s z TO i1 i2 E) : wpAny (model prog w) A (Builtin.«zip.__next__» ⟨[.ref z], []⟩) Q E s := by
  show wpAny _ _ (field (.ref z) 2 >>= _) _ _ _; refine wpAny_bind (wpAny_field hz rfl (x := .bool false) rfl ?_)
  show wpAny _ _ (field (.ref z) 3 >>= _) _ _ _; refine wpAny_bind (wpAny_field hz rfl (x := .ref TI) rfl ?_); refine wpAny_bind (wpAny_seqItems hTI rfl ?_)
  show wpAny _ _ (Builtin.SmallTypes.ownedTupleIsFree (.ref z) >>= _) _ _ _; refine wpAny_bind (hfree _ _ _ ?_)
  simp only [if_true]; refine wpAny_bind (wpAny_rule ?_); refine wpAny_bind (wpAny_field hz rfl (x := .ref TO) rfl ?_)
  refine wpAny_bind (wpAny_setField_rec hz (by simp) fun m1 z1 b1 => ?_); replace z1 : ZAt m1 z TI TO .ellipsis flag := z1
  refine wpAny_bind ?_; simp only [List.zipIdx_cons, List.zipIdx_nil, List.forIn_cons, List.forIn_nil]
  refine wpAny_bind (wpAny_bind (wpAny_onRaise ?_)); show wpAny _ _ (Builtin.SmallTypes.nextOf (.ref i1) >>= _) _ _ _
  cases hx : xs[k1]? with
  | none =>
    refine wpAny_bind (nextOf_tuple_end hh (h1.extBut b1.extBut D.i1z) (hl1.extBut b1.extBut D.l1z) hx fun m2 e b2 he => ?_)
    obtain ⟨oe, hoe, hce⟩ := he
    have z2 : ZAt m2 z TI TO .ellipsis flag := b2 _ _ D.i1z.symm z1
    have hez : e ≠ z := fun q => by subst q; rw [z2] at hoe; cases hoe; simp at hce
    exact wpAny_setField_rec z2 (by simp) fun m3 _ b3 => hE m3 e (fun c o c1 _ c3 _ q => b3.extBut _ _ c1 (b2 _ _ c3 (b1.extBut _ _ c1 q))) ⟨oe, b3.extBut _ _ hez hoe, hce⟩
  | some x =>
    have hy : ys[k2]? = none := by rcases hend with h | h; rw [hx] at h; cases h; exact h
    refine wpAny_bind (nextOf_tuple_item (h1.extBut b1.extBut D.i1z) (hl1.extBut b1.extBut D.l1z) hx fun m2 g1 b2 => wpAny_pure ?_)
    have o2 : IsPair m2 TO a b := b2.extBut _ _ D.TOi1 (b1.extBut _ _ D.TOz hTO)
    refine wpAny_bind (wpAny_seqItems o2 rfl ?_); refine wpAny_bind (wpAny_updateSeq_pair o2 fun m3 o3 b3 => ?_)
    refine wpAny_bind (wpAny_letGo (wpAny_pure ?_)); refine wpAny_bind (wpAny_bind (wpAny_onRaise ?_))
    show wpAny _ _ (Builtin.SmallTypes.nextOf (.ref i2) >>= _) _ _ _
    refine wpAny_bind (nextOf_tuple_end hh (((h2.extBut b1.extBut D.i2z).extBut b2.extBut D.i12.symm).extBut b3.extBut D.TOi2.symm) (((hl2.extBut b1.extBut D.l2z).extBut b2.extBut D.l2i1).extBut b3.extBut D.l2TO) hy fun m4 e b4 he => ?_)
    obtain ⟨oe, hoe, hce⟩ := he
    have z4 : ZAt m4 z TI TO .ellipsis flag := b4 _ _ D.i2z.symm (b3.extBut _ _ D.TOz.symm (b2.extBut _ _ D.i1z.symm z1))
    have hez : e ≠ z := fun q => by subst q; rw [z4] at hoe; cases hoe; simp at hce
    exact wpAny_setField_rec z4 (by simp) fun m5 _ b5 => hE m5 e (fun c o c1 c2 c3 c4 q => b5.extBut _ _ c1 (b4 _ _ c4 (b3.extBut _ _ c2 (b2.extBut _ _ c3 (b1.extBut _ _ c1 q))))) ⟨oe, b5.extBut _ _ hez hoe, hce⟩
theorem held_end (hh : A.handled = none) (D : ZipApart z TI TO i1 i2 l1 l2) {ob : Obj} (hz : ZAt s.heap z TI TO (rawInt (T : Nat)) flag) (hal : s.heap.get? T = some ob) (hTI : IsPair s.heap TI (.ref i1) (.ref i2))
    (h1 : s.heap.IsTupleIter i1 l1 k1) (h2 : s.heap.IsTupleIter i2 l2 k2) (hl1 : s.heap.IsTuple l1 xs) (hl2 : s.heap.IsTuple l2 ys) (hend : xs[k1]? = none ∨ ys[k2]? = none) {Q : Fin → Shared → Prop}
    (hE : Ended s z TO i1 i2 E) : wpAny (model prog w) A (Builtin.«zip.__next__» ⟨[.ref z], []⟩) Q E s := by
  show wpAny _ _ (field (.ref z) 2 >>= _) _ _ _; refine wpAny_bind (wpAny_field hz rfl (x := .bool false) rfl ?_)
  show wpAny _ _ (field (.ref z) 3 >>= _) _ _ _; refine wpAny_bind (wpAny_field hz rfl (x := .ref TI) rfl ?_); refine wpAny_bind (wpAny_seqItems hTI rfl ?_)
  show wpAny _ _ (Builtin.SmallTypes.ownedTupleIsFree (.ref z) >>= _) _ _ _
  refine wpAny_bind (not_free hz hal fun m1 z1 sz1 kp1 => ?_)
  have t1 : m1.IsTupleIter i1 l1 k1 := h1.at fun o e => kp1 _ o D.i1z e
  have t2 : m1.IsTupleIter i2 l2 k2 := h2.at fun o e => kp1 _ o D.i2z e
  have u1 : m1.IsTuple l1 xs := hl1.at fun o e => kp1 _ o D.l1z e
  have u2 : m1.IsTuple l2 ys := hl2.at fun o e => kp1 _ o D.l2z e
  simp only [Bool.false_eq_true, if_false]
  refine wpAny_bind ?_
  simp only [List.forIn_toArray, List.forIn_cons, List.forIn_nil]
  refine wpAny_bind (wpAny_bind (wpAny_holding ?_))
  show wpAny _ _ (Builtin.SmallTypes.nextOf (.ref i1) >>= _) _ _ _
  cases hx : xs[k1]? with
  | none =>
    refine wpAny_bind (nextOf_tuple_end hh t1 u1 hx fun m2 e b2 he => ?_)
    exact hE m2 e (fun c o c1 _ c3 _ q => b2 _ _ c3 (kp1 _ _ c1 q)) he
  | some x =>
    have hy : ys[k2]? = none := by rcases hend with h | h; rw [hx] at h; cases h; exact h
    refine wpAny_bind (nextOf_tuple_item t1 u1 hx fun m2 g1 b2 => wpAny_pure ?_)
    refine wpAny_pure ?_
    refine wpAny_bind (wpAny_bind (wpAny_holding ?_))
    show wpAny _ _ (Builtin.SmallTypes.nextOf (.ref i2) >>= _) _ _ _
    refine wpAny_bind (nextOf_tuple_end hh (t2.extBut b2.extBut D.i12.symm) (u2.extBut b2.extBut D.l2i1) hy fun m3 e b3 he => ?_)
    exact hE m3 e (fun c o c1 _ c3 c4 q => b3 _ _ c4 (b2.extBut _ _ c3 (kp1 _ _ c1 q))) he
/-- what the iterator keeps between two turns -/
def Keeps (h : Heap) (z TI TO : Addr) : Prop := (∃ f, ZAt h z TI TO .none f) ∨ ∃ (T : Nat) (f : Bool), ZAt h z TI TO (rawInt T) f
theorem Keeps.at {h : Heap} (k : Keeps h z TI TO) : ∃ v f, ZAt h z TI TO v f := by
  rcases k with ⟨f, k⟩ | ⟨T, f, k⟩
  · exact ⟨_, f, k⟩
  · exact ⟨_, f, k⟩
theorem next_item (D : ZipApart z TI TO i1 i2 l1 l2) (hz : Keeps s.heap z TI TO) (hTI : IsPair s.heap TI (.ref i1) (.ref i2)) (hTO : IsPair s.heap TO a b)
    (h1 : s.heap.IsTupleIter i1 l1 k1) (h2 : s.heap.IsTupleIter i2 l2 k2) (hl1 : s.heap.IsTuple l1 xs) (hl2 : s.heap.IsTuple l2 ys) (hx : xs[k1]? = some x) (hy : ys[k2]? = some y) {Q : Option Value → Shared → Prop}
    (hQ : Behind s z TI TO i1 i2 l1 l2 k1 k2 x y fun v s' => Q (some v) s') : wpAny (model prog w) A (pyNext (.ref z)) Q E s := by
  obtain ⟨v, f, za⟩ := hz.at
  have hT : s.TypeIs (.ref z) "zip" := ⟨_, za, rfl⟩
  unfold pyNext
  refine wpAny_bind (wpAny_attempt (wpAny_callSpecial?_slot (name := Str.ofString "__next__") hT F.slot_zip_next (wpAny_call_entry F.slot_zip_next hT F.entry_zip_next ?_ (F.args_zip_next_1 _))))
  have hQ' : Behind s z TI TO i1 i2 l1 l2 k1 k2 x y fun v s' => wpAny (model prog w) A (pure (some v)) Q E s' := fun h' N T' f' e1 e2 e3 e4 e5 e6 e7 => wpAny_pure (hQ h' N T' f' e1 e2 e3 e4 e5 e6 e7)
  rcases hz with ⟨f, k⟩ | ⟨T, f, k⟩
  · exact free_item D k hTI hTO (fun Q E B h => none_free k h) h1 h2 hl1 hl2 hx hy hQ'
  · cases hal : s.heap.get? T with
    | none => exact free_item D k hTI hTO (fun Q E B h => gone_free k hal h) h1 h2 hl1 hl2 hx hy hQ'
    | some ob => exact held_item D k hal hTI hTO h1 h2 hl1 hl2 hx hy hQ'
theorem next_end (hh : A.handled = none) (D : ZipApart z TI TO i1 i2 l1 l2) (hz : Keeps s.heap z TI TO) (hTI : IsPair s.heap TI (.ref i1) (.ref i2)) (hTO : IsPair s.heap TO a b)
    (h1 : s.heap.IsTupleIter i1 l1 k1) (h2 : s.heap.IsTupleIter i2 l2 k2) (hl1 : s.heap.IsTuple l1 xs) (hl2 : s.heap.IsTuple l2 ys) (hend : xs[k1]? = none ∨ ys[k2]? = none) {Q : Option Value → Shared → Prop}
    (hQ : ∀ h', (∀ c o, c ≠ z → c ≠ TO → c ≠ i1 → c ≠ i2 → s.heap.get? c = some o → h'.get? c = some o) → Q none { s with heap := h' }) : wpAny (model prog w) A (pyNext (.ref z)) Q E s := by
  obtain ⟨v, f, za⟩ := hz.at
  have hT : s.TypeIs (.ref z) "zip" := ⟨_, za, rfl⟩
  have fin : ∀ h' e, (∀ c o, c ≠ z → c ≠ TO → c ≠ i1 → c ≠ i2 → s.heap.get? c = some o → h'.get? c = some o) → (∃ o, h'.get? e = some o ∧ o.cls = .type "StopIteration") →
      wpAny (model prog w) A (isInstance (.ref e) (.type "StopIteration")) (fun r s' => r = true ∧ Q none s') E { s with heap := h' } := fun h' e hk ⟨o, ho, hc⟩ =>
    wpAny_isInstance (T := "StopIteration") (b := true) ⟨o, ho, hc⟩ isSubtype_stop ⟨rfl, hQ _ hk⟩
  unfold pyNext
  refine wpAny_bind (wpAny_attempt (wpAny_callSpecial?_slot (name := Str.ofString "__next__") hT F.slot_zip_next (wpAny_call_entry F.slot_zip_next hT F.entry_zip_next ?_ (F.args_zip_next_1 _))))
  have go : Ended s z TO i1 i2 fun e s' => wpAny (model prog w) A (do if ← isInstance e (.type "StopIteration") then pure none else throw e) Q E s' := fun h' e hk he => wpAny_bind (wpAny_mono (fin h' e hk he) (fun r s' hr => by obtain ⟨rfl, q⟩ := hr; exact wpAny_pure q) fun _ _ q => q)
  rcases hz with ⟨f, k⟩ | ⟨T, f, k⟩
  · exact free_end (A := A.in1) hh D k hTI hTO (fun Q E B h => none_free k h) h1 h2 hl1 hl2 hend go
  · cases hal : s.heap.get? T with
    | none => exact free_end (A := A.in1) hh D k hTI hTO (fun Q E B h => gone_free k hal h) h1 h2 hl1 hl2 hend go
    | some ob => exact held_end (A := A.in1) hh D k hal hTI h1 h2 hl1 hl2 hend go
end
theorem turn_zipTN {P : Program} {w : World} {K : PySem.W.Frag} {x : Str} {tpos : Pos} {a b z TI TO i1 i2 : Addr} (D : ZipApart z TI TO i1 i2 a b) :
    Turn P w K (.Name x tpos) (ItzT K a b) [z, TI, TO, i1, i2] z (fun i h => Keeps h z TI TO ∧ IsPair h TI (.ref i1) (.ref i2) ∧ (∃ x y, IsPair h TO x y) ∧ h.IsTupleIter i1 a i ∧ h.IsTupleIter i2 b i) := by
  have five : ∀ c, c ∈ [z, TI, TO, i1, i2] → c = z ∨ c = TI ∨ c = TO ∨ c = i1 ∨ c = i2 := fun c hc => by simpa using hc
  refine ⟨by simp, fun i h st c hc => ?_, fun i h h' st k => ?_, ?_, ?_, ?_⟩
  · obtain ⟨hz, hTI, ⟨x, y, hTO⟩, ⟨o1, e1, _, d1⟩, ⟨o2, e2, _, d2⟩⟩ := st
    obtain ⟨v, f, za⟩ := hz.at
    rcases five c hc with q | q | q | q | q
    · rw [q]; exact ⟨_, za, fun v q => nomatch q⟩
    · rw [q]; exact ⟨_, hTI, fun v q => nomatch q⟩
    · rw [q]; exact ⟨_, hTO, fun v q => nomatch q⟩
    · rw [q]; exact ⟨o1, e1, fun v q => by rw [d1] at q; cases q⟩
    · rw [q]; exact ⟨o2, e2, fun v q => by rw [d2] at q; cases q⟩
  · obtain ⟨hz, hTI, ⟨x, y, hTO⟩, h1, h2⟩ := st
    refine ⟨?_, k TI (by simp) _ hTI, ⟨x, y, k TO (by simp) _ hTO⟩, h1.at fun o q => k i1 (by simp) o q, h2.at fun o q => k i2 (by simp) o q⟩
    rcases hz with ⟨f, za⟩ | ⟨T, f, za⟩
    · exact .inl ⟨f, k z (by simp) _ za⟩
    · exact .inr ⟨T, f, k z (by simp) _ za⟩
  · intro X hP hw hK hc i pins s σ H E I hf st hg
    subst hP hw hK
    obtain ⟨hz, hTI, ⟨x0, y0, hTO⟩, h1, h2⟩ := st
    obtain ⟨xs, ys, x, y, hqx, hqy, hx, hy⟩ := hg
    obtain ⟨its, rv, p, _⟩ := I.tuple hqx
    obtain ⟨its2, rv2, p2, _⟩ := I.tuple hqy
    obtain ⟨u, hu, ru⟩ := rv.get hx
    obtain ⟨u2, hu2, ru2⟩ := rv2.get hy
    obtain ⟨v0, f0, za⟩ := hz.at
    have zl : z < s.heap.objs.size := Heap.lt_size za
    refine next_item D hz hTI hTO h1 h2 p p2 (x := u) (y := u2) (by simpa using hu) (by simpa using hu2) fun h' N T' f' eN z' TO' h1' h2' hT hk => ?_
    subst eN
    refine ⟨_, rfl, ?_⟩
    show wpAny _ _ (pure ()) _ _ _
    have new : ObjOk X.prog X.w (upd H s.heap.objs.size (.tup [x, y])) h' s.heap.objs.size (.tup [x, y]) := ⟨by show 2 ≤ sizeLine; decide, [u, u2], .cons ru (.cons ru2 .nil), ⟨_, hT, rfl, _, rfl⟩⟩
    have I1 : Inv X pins σ (upd H s.heap.objs.size (.tup [x, y])) { s with heap := h' } :=
      I.turnedNew (t' := s.toks) (ch := [z, TI, TO, i1, i2]) (fun c o hb q => hk c o (fun e => hb (by simp [e])) (fun e => hb (by simp [e])) (fun e => hb (by simp [e])) (fun e => hb (by simp [e])) q) hf (Nat.le_refl _) new
    refine wpAny_pure ⟨.ref s.heap.objs.size, _, I1, rfl, ⟨_, x, y, rfl, I.hok.fresh (Nat.le_refl _), rfl, fun l hl => by rw [I.tuple_inj hl hqx]; exact hx, fun l hl => by rw [I.tuple_inj hl hqy]; exact hy⟩, ⟨.inr ⟨T', f', z'⟩, ?_, TO', h1', h2'⟩, fun c hcm => ?_⟩
    · exact hk _ _ D.TIz D.TITO D.TIi1 D.TIi2 hTI
    · have hlt : c < s.heap.objs.size := by
        rcases five c hcm with q | q | q | q | q
        · rw [q]; exact zl
        · rw [q]; exact Heap.lt_size hTI
        · rw [q]; exact Heap.lt_size hTO
        · rw [q]; obtain ⟨_, e1, _⟩ := h1; exact Heap.lt_size e1
        · rw [q]; obtain ⟨_, e2, _⟩ := h2; exact Heap.lt_size e2
      rw [upd_ne (Nat.ne_of_lt hlt)]
      exact (hf c hcm).1
  · intro X hP hw hK hc i pins s σ H E I hf st hg
    subst hP hw hK
    obtain ⟨hz, hTI, ⟨x0, y0, hTO⟩, h1, h2⟩ := st
    obtain ⟨xs, ys, hqx, hqy, hend⟩ := hg
    obtain ⟨its, rv, p, _⟩ := I.tuple hqx
    obtain ⟨its2, rv2, p2, _⟩ := I.tuple hqy
    have l1 := rv.length
    have l2 := rv2.length
    have he : its.toArray[i]? = none ∨ its2.toArray[i]? = none := by
      rcases hend with q | q
      · exact .inl (by simp; omega)
      · exact .inr (by simp; omega)
    exact next_end (I.ok.hd hc) D hz hTI hTO h1 h2 p p2 he fun h' hk => ⟨rfl, I.turnedL (t' := s.toks) (ch := [z, TI, TO, i1, i2]) (fun c o hb q => hk c o (fun e => hb (by simp [e])) (fun e => hb (by simp [e])) (fun e => hb (by simp [e])) (fun e => hb (by simp [e])) q) hf⟩
  · intro A i s Q E st h
    obtain ⟨hz, _⟩ := st
    obtain ⟨v, f, za⟩ := hz.at
    have hT : s.TypeIs (.ref z) "zip" := ⟨_, za, rfl⟩
    refine wpAny_pyIter_slot hT F.slot_zip_iter (wpAny_call_entry F.slot_zip_iter hT F.entry_zip_iter ?_ (F.args_zip_iter_1 _))
    show wpAny _ _ (ret (.ref z)) _ _ s
    exact wpAny_pure ⟨_, rfl, "zip", _, hT, F.slot_zip_next.lookup, h⟩
def iZipTN (K : PySem.W.Frag) (ta : TA) : TI := fun σ H R => ta σ H fun vs H1 => ∃ a b xs ys, vs = [.ref a, .ref b] ∧ SqT K H1 a xs ∧ SqT K H1 b ys ∧ R (ItzT K a b) H1
/-- for pair in zip(t, u) -/
theorem pi_zipTN {X : Cx} {e e2 : Expr} {ta : TA} {x : Str} {p pos tpos : Pos} (hg : Gl X "zip") (hm : X.mg "zip" = none) (ha : PA X [e, e2] ta)
    (hs : starEach [e, e2] X.env = (false, eval e X.env) :: starEach [e2] X.env := by rfl) (hpl : (backTo pos (starEach [e2] X.env)).any (·.1) = false := by rfl) :
    PI X (.Name x tpos) (.Call (.Name "zip" p) [e, e2] [] pos) (iZipTN X.K ta) := by
  refine ⟨fun pins s σ H R I h => ?_⟩
  refine Call_ (ld_blt I hg hm PyProof.Rows.boot_zip (PyProof.Rows.callWith_type1 (thn (ha.run pos pins s σ H _ I h) fun us s1 ⟨vs, H1, I1, r1, q1⟩ => ?_) hs hpl))
  obtain ⟨a, b, xs, ys, ex, hqx, hqy, q⟩ := q1
  subst ex
  obtain ⟨u1, u2, rfl, r1, r2⟩ := vals2 r1
  cases r1
  cases r2
  have fresh5 : ∀ c, c ∈ [s1.heap.objs.size + 4, s1.heap.objs.size + 2, s1.heap.objs.size + 3, s1.heap.objs.size, s1.heap.objs.size + 1] → FpOk X pins H1 c := fun c hcm => by
    have hle : s1.heap.objs.size ≤ c := by
      simp only [List.mem_cons, List.not_mem_nil, or_false] at hcm
      omega
    exact I1.fpOk hle (I1.hok.fresh hle)
  obtain ⟨its, rv, p1, _⟩ := I1.tuple hqx
  obtain ⟨its2, rv2, p2, _⟩ := I1.tuple hqy
  obtain ⟨o1, ho1, _⟩ := id p1
  obtain ⟨o2, ho2, _⟩ := id p2
  refine call_zipT p1 p2 fun h' hz hTI hTO h1 h2 hsz hk => wpAny_pyIter_zip hz ?_
  have I2 : Inv X pins σ H1 { s1 with heap := h' } := I1.kept (t' := s1.toks) hk
  exact ⟨s1.heap.objs.size + 4, [s1.heap.objs.size + 4, s1.heap.objs.size + 2, s1.heap.objs.size + 3, s1.heap.objs.size, s1.heap.objs.size + 1], _, _, H1, rfl, I2, turn_zipTN (PySem.W.ktu_apart s1.heap.objs.size a b (Heap.lt_size ho1) (Heap.lt_size ho2)), ⟨.inl ⟨_, hz⟩, hTI, ⟨_, _, hTO⟩, h1, h2⟩, fresh5, q⟩
end ZN

/-! bags: values that are judged, and the sums over pairs -/
namespace Sh
open PySem PySem.Spec PyProof.Rows L2 RZ
section
variable {X : Cx}
def rLenS (K : PySem.W.Frag) : List V → Hp → VK → Prop := fun xs H Q => ∃ p ys, xs = [.ref p] ∧ (SqL K H p ys ∨ SqT K H p ys) ∧ Q (.int ys.length) H
def rTupOf (K : PySem.W.Frag) : List V → Hp → VK → Prop := fun xs H Q => ∃ p ys, xs = [.ref p] ∧ ((SqL K H p ys ∧ ∀ l, H l = none → Q (.ref l) (upd H l (.tup ys))) ∨ (SqT K H p ys ∧ Q (.ref p) H))
def rLstOf (K : PySem.W.Frag) : List V → Hp → VK → Prop := fun xs H Q => ∃ p ys, xs = [.ref p] ∧ (SqL K H p ys ∨ SqT K H p ys) ∧ ∀ l, H l = none → Q (.ref l) (upd H l (.lst ys))
theorem cutV_all (xs : List V) {lo hi : Option Int} (hw : HT.sIx xs.length 0 lo = 0 ∧ HT.sIx xs.length xs.length hi = xs.length) : cutV xs lo hi = xs := by
  unfold cutV
  rw [hw.1, hw.2]
  simp
/-- a slice of a tuple, whichever object it is -/
def rSlW : V → Option Int → Option Int → Hp → VK → Prop := fun x lo hi H Q => ∃ a xs, x = .ref a ∧ H a = some (.tup xs) ∧ ∀ p H', Same H H' → H' p = some (.tup (cutV xs lo hi)) → Q (.ref p) H'
theorem sl_tupW : SlR X rSlW := by
  intro pins s σ H x v vl vu lo hi sl Q I rx hs pl pu h
  obtain ⟨a, xs, rfl, hx, q⟩ := h
  refine sl_tupA pins s σ H _ v vl vu lo hi sl Q I rx hs pl pu ⟨a, xs, rfl, .inl (.inl hx), fun hw => q a H (Same.refl H) ?_, fun _ p hp => q p _ (same_new (Same.refl H) hp) upd_same⟩
  rw [cutV_all xs hw]
  exact hx
/-- two tuples glued, whichever object it is -/
def rCatW : V → V → Hp → VK → Prop := fun x y H Q => ∃ a b xs ys, x = .ref a ∧ y = .ref b ∧ H a = some (.tup xs) ∧ H b = some (.tup ys) ∧ xs.length + ys.length ≤ sizeLine ∧ ∀ p H', Same H H' → H' p = some (.tup (xs ++ ys)) → Q (.ref p) H'
theorem op_catW : OpR X (binaryOp .Add) rCatW := by
  intro pins s σ H x y v u Q I rx ry h
  obtain ⟨a, b, xs, ys, rfl, rfl, ha, hb, hz, q⟩ := h
  refine op_catA pins s σ H _ _ v u Q I rx ry ⟨a, b, xs, ys, rfl, rfl, .inl (.inl ha), .inl (.inl hb), hz, fun e => q b H (Same.refl H) ?_, fun _ e => q a H (Same.refl H) ?_, fun _ _ p hp => q p _ (same_new (Same.refl H) hp) upd_same⟩
  · rw [e, List.nil_append]
    exact hb
  · rw [e, List.append_nil]
    exact ha
end
/-! ### values that are judged -/
def NoTup (H : Hp) (v : V) : Prop := v = .non ∨ (∃ i : Int, v = .int i) ∨ (∃ b, v = .bl b) ∨ (∃ z, v = .str z) ∨ (∃ p xs, v = .ref p ∧ H p = some (.lst xs)) ∨ ∃ p xs, v = .ref p ∧ H p = some (.dK xs)
def Kn (H : Hp) (v : V) : Prop := NoTup H v ∨ ∃ p xs, v = .ref p ∧ H p = some (.tup xs)
def Val (H : Hp) (v : V) : Prop := NoTup H v ∨ ∃ p xs, v = .ref p ∧ H p = some (.tup xs) ∧ xs.length ≤ 1000 ∧ ∀ x ∈ xs, Kn H x
def isB : V → Bool
  | .bl _ => true
  | _ => false
def isI : V → Bool
  | .int _ => true
  | _ => false
theorem NoTup.ty {K : PySem.W.Frag} {H : Hp} {v : V} (h : NoTup H v) : ∃ T, TyX K H v (.type T) ∧ kitB T "tuple" = some false ∧ kitB T "int" = some (isB v || isI v) ∧ kitB T "bool" = some (isB v) := by
  rcases h with rfl | ⟨i, rfl⟩ | ⟨b, rfl⟩ | ⟨z, rfl⟩ | ⟨p, xs, rfl, h⟩ | ⟨p, xs, rfl, h⟩
  · exact ⟨_, .base .non, by decide +kernel, by decide +kernel, by decide +kernel⟩
  · exact ⟨_, .base (.int i), by decide +kernel, (show kitB "int" "int" = some true by decide +kernel), (show kitB "int" "bool" = some false by decide +kernel)⟩
  · exact ⟨_, .base (.bl b), by decide +kernel, (show kitB "bool" "int" = some true by decide +kernel), (show kitB "bool" "bool" = some true by decide +kernel)⟩
  · exact ⟨_, .base (.str z), by decide +kernel, (show kitB "str" "int" = some false by decide +kernel), (show kitB "str" "bool" = some false by decide +kernel)⟩
  · exact ⟨_, .base (.lst h), by decide +kernel, (show kitB "list" "int" = some false by decide +kernel), (show kitB "list" "bool" = some false by decide +kernel)⟩
  · exact ⟨_, .base (.dK h), by decide +kernel, (show kitB "dict" "int" = some false by decide +kernel), (show kitB "dict" "bool" = some false by decide +kernel)⟩
theorem Kn.ty {K : PySem.W.Frag} {H : Hp} {v : V} (h : Kn H v) : ∃ T, TyX K H v (.type T) ∧ kitB T "int" = some (isB v || isI v) ∧ kitB T "bool" = some (isB v) := by
  rcases h with h | ⟨p, xs, rfl, h⟩
  · obtain ⟨T, a, _, b, c⟩ := h.ty (K := K)
    exact ⟨T, a, b, c⟩
  · exact ⟨_, .base (.tup h), (show kitB "tuple" "int" = some false by decide +kernel), (show kitB "tuple" "bool" = some false by decide +kernel)⟩
theorem NoTup.same {H H' : Hp} {v : V} (s : Same H H') (h : NoTup H v) : NoTup H' v := by
  rcases h with h | h | h | h | ⟨p, xs, e, h⟩ | ⟨p, xs, e, h⟩
  · exact .inl h
  · exact .inr (.inl h)
  · exact .inr (.inr (.inl h))
  · exact .inr (.inr (.inr (.inl h)))
  · exact .inr (.inr (.inr (.inr (.inl ⟨p, xs, e, s _ _ h⟩))))
  · exact .inr (.inr (.inr (.inr (.inr ⟨p, xs, e, s _ _ h⟩))))
theorem Kn.same {H H' : Hp} {v : V} (s : Same H H') (h : Kn H v) : Kn H' v := by
  rcases h with h | ⟨p, xs, e, h⟩
  · exact .inl (h.same s)
  · exact .inr ⟨p, xs, e, s _ _ h⟩
theorem Val.same {H H' : Hp} {v : V} (s : Same H H') (h : Val H v) : Val H' v := by
  rcases h with h | ⟨p, xs, e, h, l, k⟩
  · exact .inl (h.same s)
  · exact .inr ⟨p, xs, e, s _ _ h, l, fun x hx => (k x hx).same s⟩
theorem Val.kn {H : Hp} {v : V} (h : Val H v) : Kn H v := by
  rcases h with h | ⟨p, xs, e, h, _⟩
  · exact .inl h
  · exact .inr ⟨p, xs, e, h⟩
theorem kn_int (H : Hp) (i : Int) : Kn H (.int i) := .inl (.inr (.inl ⟨i, rfl⟩))
theorem Flat.no {H : Hp} {v : V} (h : Flat v) : NoTup H v := by
  rcases h with h | h | h | ⟨z, h, _⟩
  · exact .inl h
  · exact .inr (.inl h)
  · exact .inr (.inr (.inl h))
  · exact .inr (.inr (.inr (.inl ⟨z, h⟩)))
theorem Odd.val {H : Hp} {v : V} (h : Odd H v) : Val H v := by
  rcases h with h | ⟨p, xs, e, h, l, k⟩ | ⟨p, e, h⟩ | ⟨p, e, h⟩
  · exact .inl (Flat.no h)
  · refine .inr ⟨p, xs, e, h, by omega, fun x hx => ?_⟩
    rcases k x hx with f | ⟨q, ys, e, hq, _⟩
    · exact .inl (Flat.no f)
    · exact .inr ⟨q, ys, e, hq⟩
  · exact .inl (.inr (.inr (.inr (.inr (.inl ⟨p, _, e, h⟩)))))
  · exact .inl (.inr (.inr (.inr (.inr (.inr ⟨p, _, e, h⟩)))))
theorem not_kept {v : V} (h : (isB v || isI v) = true) : (!isB v) = isI v := by
  cases v <;> first | rfl | exact absurd h Bool.false_ne_true
theorem none_kept {v : V} (h : ¬ (isB v || isI v) = true) : false = isI v := by
  cases v <;> first | rfl | exact absurd rfl h
/-- an entry from low on -/
def entB (low : Int) : V → Bool
  | .int i => decide (low ≤ i)
  | _ => false
def entOk (low : Int) (xs : List V) : Bool := decide (1 ≤ xs.length) && decide (xs.length ≤ 5) && (xs.map (entB low)).all id
/-- has_entries, is_bag, is_wide: what is told of a value -/
def Told (low : Int) (H : Hp) (v : V) (Q : VK) : Prop :=
  (NoTup H v ∧ ∀ H', Same H H' → Q (.bl false) H') ∨ ∃ p xs, v = .ref p ∧ H p = some (.tup xs) ∧ xs.length ≤ 1000 ∧ (∀ x ∈ xs, Kn H x) ∧ ∀ H', Same H H' → Q (.bl (entOk low xs)) H'
def spInt : Sp := fun vs H Q _ => ∃ v, vs = [v] ∧ Kn H v ∧ Q (.bl (isI v)) H
def spEnt : Sp := fun vs H Q _ => ∃ v low, vs = [v, .int low] ∧ Told low H v Q
def spEnt1 (low : Int) : Sp := fun vs H Q _ => ∃ v, vs = [v] ∧ Told low H v Q
/-! ### wide bags -/
def Wide (ns : List Int) : Prop := 1 ≤ ns.length ∧ ns.length ≤ 5 ∧ ∀ n ∈ ns, -1 ≤ n
def fitE (e m : Int) : Bool := decide (m = -1) || (decide (0 ≤ e) && decide (e ≤ m))
def fitsB (ns ms : List Int) : Bool := ((ns.zip ms).map fun p => fitE p.1 p.2).all id
def addE (e m : Int) : Int := if e = -1 ∨ m = -1 then -1 else e + m
def addB (ns ms : List Int) : List Int := (ns.zip ms).map fun p => addE p.1 p.2
theorem ent_ints {low : Int} (ns : List Int) : ((ns.map V.int).map (entB low)).all id = ns.all fun n => decide (low ≤ n) := by
  induction ns with
  | nil => rfl
  | cons n r ih =>
    rw [List.map_cons, List.map_cons, List.all_cons, List.all_cons, ih]
    rfl
theorem Wide.ok {ns : List Int} (h : Wide ns) : entOk (-1) (ns.map V.int) = true := by
  unfold entOk
  rw [ent_ints, List.length_map, decide_eq_true h.1, decide_eq_true h.2.1, Bool.true_and, Bool.true_and, List.all_eq_true]
  exact fun n hn => decide_eq_true (h.2.2 n hn)
/-- two wide bags of one length, and what comes of them -/
def Pair (H : Hp) (vs : List V) (ns ms : List Int) : Prop := ∃ p q, vs = [.ref p, .ref q] ∧ H p = some (.tup (ns.map V.int)) ∧ H q = some (.tup (ms.map V.int)) ∧ Wide ns ∧ Wide ms ∧ ns.length = ms.length
def spPair : Sp := fun vs H Q _ => ∃ ns ms, Pair H vs ns ms ∧ ∀ H', Same H H' → Q .non H'
def spFits : Sp := fun vs H Q _ => ∃ ns ms, Pair H vs ns ms ∧ ∀ H', Same H H' → Q (.bl (fitsB ns ms)) H'
def spAdded : Sp := fun vs H Q _ => ∃ ns ms, Pair H vs ns ms ∧ ∀ p H', Same H H' → H' p = some (.tup ((addB ns ms).map V.int)) → Q (.ref p) H'
theorem ints_kn {H : Hp} {ns : List Int} : ∀ x ∈ ns.map V.int, Kn H x := fun x hx => by
  obtain ⟨n, _, rfl⟩ := List.mem_map.mp hx
  exact kn_int H n
theorem Wide.len {ns : List Int} (h : Wide ns) : (ns.map V.int).length ≤ 1000 := by
  rw [List.length_map]
  have := h.2.1
  omega
end Sh

/-! the law's own looks at bags: what they promise -/
namespace Sh
open PySem PySem.Spec PyProof.Rows L2 RZ
theorem NoTup.die {H H' : Hp} {d : Addr} {v : V} (hd : DieAt H d) (n : NewDie H d H') (h : NoTup H v) : NoTup H' v := by
  rcases h with h | h | h | h | ⟨p, xs, e, h⟩ | ⟨p, xs, e, h⟩
  · exact .inl h
  · exact .inr (.inl h)
  · exact .inr (.inr (.inl h))
  · exact .inr (.inr (.inr (.inl h)))
  · by_cases hp : p = d
    · obtain ⟨a, b, c, rfl⟩ := n
      subst hp
      exact .inr (.inr (.inr (.inr (.inl ⟨_, _, e, upd_same⟩))))
    · exact .inr (.inr (.inr (.inr (.inl ⟨p, xs, e, (n.ne hp).trans h⟩))))
  · have hp : p ≠ d := hd.ne h fun _ _ _ z => by cases z
    exact .inr (.inr (.inr (.inr (.inr ⟨p, xs, e, (n.ne hp).trans h⟩))))
theorem NewDie.tup {H H' : Hp} {d p : Addr} {xs : List V} (hd : DieAt H d) (n : NewDie H d H') (h : H p = some (.tup xs)) : H' p = some (.tup xs) := (n.ne (hd.ne h fun _ _ _ z => by cases z)).trans h
theorem But.tup {H H' : Hp} {d p : Addr} {xs : List V} (hd : DieAt H d) (b : But d H H') (h : H p = some (.tup xs)) : H' p = some (.tup xs) := b _ _ (hd.ne h fun _ _ _ z => by cases z) h
theorem Kn.die {H H' : Hp} {d : Addr} {v : V} (hd : DieAt H d) (n : NewDie H d H') (h : Kn H v) : Kn H' v := by
  rcases h with h | ⟨p, xs, e, h⟩
  · exact .inl (h.die hd n)
  · exact .inr ⟨p, xs, e, n.tup hd h⟩
theorem Val.die {H H' : Hp} {d : Addr} {v : V} (hd : DieAt H d) (n : NewDie H d H') (h : Val H v) : Val H' v := by
  rcases h with h | ⟨p, xs, e, h, l, k⟩
  · exact .inl (h.die hd n)
  · exact .inr ⟨p, xs, e, n.tup hd h, l, fun x hx => (k x hx).die hd n⟩
/-- a list changed in place -/
theorem NoTup.upl {H : Hp} {S : Addr} {ys zs : List V} {v : V} (hs : H S = some (.lst ys)) (h : NoTup H v) : NoTup (upd H S (.lst zs)) v := by
  rcases h with h | h | h | h | ⟨p, xs, e, h⟩ | ⟨p, xs, e, h⟩
  · exact .inl h
  · exact .inr (.inl h)
  · exact .inr (.inr (.inl h))
  · exact .inr (.inr (.inr (.inl h)))
  · by_cases hp : p = S
    · subst hp
      exact .inr (.inr (.inr (.inr (.inl ⟨_, _, e, upd_same⟩))))
    · exact .inr (.inr (.inr (.inr (.inl ⟨p, xs, e, (upd_ne hp).trans h⟩))))
  · exact .inr (.inr (.inr (.inr (.inr ⟨p, xs, e, (upd_ne (ne_of h hs fun z => by cases z)).trans h⟩))))
theorem Kn.upl {H : Hp} {S : Addr} {ys zs : List V} {v : V} (hs : H S = some (.lst ys)) (h : Kn H v) : Kn (upd H S (.lst zs)) v := by
  rcases h with h | ⟨p, xs, e, h⟩
  · exact .inl (h.upl hs)
  · exact .inr ⟨p, xs, e, (upd_ne (ne_of h hs fun z => by cases z)).trans h⟩
theorem Val.upl {H : Hp} {S : Addr} {ys zs : List V} {v : V} (hs : H S = some (.lst ys)) (h : Val H v) : Val (upd H S (.lst zs)) v := by
  rcases h with h | ⟨p, xs, e, h, l, k⟩
  · exact .inl (h.upl hs)
  · exact .inr ⟨p, xs, e, (upd_ne (ne_of h hs fun z => by cases z)).trans h, l, fun x hx => (k x hx).upl hs⟩
theorem tup_upl {H : Hp} {S p : Addr} {ys zs xs : List V} (hs : H S = some (.lst ys)) (h : H p = some (.tup xs)) : upd H S (.lst zs) p = some (.tup xs) := (upd_ne (ne_of h hs fun z => by cases z)).trans h
theorem NoTup.but {H H' : Hp} {d : Addr} {v : V} (hd : DieAt H d) (b : But d H H') (h' : DieAt H' d) (h : NoTup H v) : NoTup H' v := by
  rcases h with h | h | h | h | ⟨p, xs, e, h⟩ | ⟨p, xs, e, h⟩
  · exact .inl h
  · exact .inr (.inl h)
  · exact .inr (.inr (.inl h))
  · exact .inr (.inr (.inr (.inl h)))
  · by_cases hp : p = d
    · obtain ⟨x, y, z, hz⟩ := h'
      subst hp
      exact .inr (.inr (.inr (.inr (.inl ⟨_, _, e, hz⟩))))
    · exact .inr (.inr (.inr (.inr (.inl ⟨p, xs, e, b _ _ hp h⟩))))
  · have hp : p ≠ d := hd.ne h fun _ _ _ z => by cases z
    exact .inr (.inr (.inr (.inr (.inr ⟨p, xs, e, b _ _ hp h⟩))))
theorem Val.but {H H' : Hp} {d : Addr} {v : V} (h : Val H v) (hd : DieAt H d) (b : But d H H') (h' : DieAt H' d) : Val H' v := by
  rcases h with h | ⟨p, xs, e, h, l, k⟩
  · exact .inl (h.but hd b h')
  · refine .inr ⟨p, xs, e, But.tup hd b h, l, fun x hx => ?_⟩
    rcases k x hx with c | ⟨q, ys, e, c⟩
    · exact .inl (c.but hd b h')
    · exact .inr ⟨q, ys, e, But.tup hd b c⟩
theorem val_tup {H : Hp} {p : Addr} {xs : List V} (h : H p = some (.tup xs)) (l : xs.length ≤ 1000) (k : ∀ x ∈ xs, Kn H x) : Val H (.ref p) := .inr ⟨p, xs, rfl, h, l, k⟩
theorem val_lst {H : Hp} {p : Addr} {xs : List V} (h : H p = some (.lst xs)) : Val H (.ref p) := .inl (.inr (.inr (.inr (.inr (.inl ⟨p, xs, rfl, h⟩)))))
theorem cutV_sub {xs : List V} {lo hi : Option Int} {x : V} (h : x ∈ cutV xs lo hi) : x ∈ xs := List.mem_of_mem_drop (List.mem_of_mem_take h)
/-- a tuple bent -/
def spBent : Sp := fun vs H Q _ => ∃ d p odd, ∃ ns : List Int, vs = [.ref d, .ref p, odd] ∧ DieAt H d ∧ H p = some (.tup (ns.map V.int)) ∧ ns ≠ [] ∧ ns.length ≤ 100 ∧ Val H odd ∧
  ∀ v H', Val H' v → But d H H' → DieAt H' d → Q v H'
/-- the law's own look at a bag -/
def spBagOf : Sp := fun vs H Q _ => ∃ v, ∃ n : Nat, ∃ low : Int, vs = [v, .int n, .int low] ∧
  ((NoTup H v ∧ ∀ H', Same H H' → Q (.bl false) H') ∨ ∃ p xs, v = .ref p ∧ H p = some (.tup xs) ∧ xs.length ≤ 1000 ∧ (∀ x ∈ xs, Kn H x) ∧ ∀ H', Same H H' → Q (.bl (decide (xs.length = n) && (xs.map (entB low)).all id)) H')
/-- a drawn wide bag -/
def Drawn (ns : List Int) : Prop := ∀ e ∈ ns, -1 ≤ e ∧ e ≤ 10 ^ 38
def spAnyWide : Sp := fun vs H Q _ => ∃ d, ∃ n : Nat, vs = [.ref d, .int n] ∧ DieAt H d ∧ n ≤ 5 ∧
  ∀ p H', ∀ ns : List Int, ns.length = n → Drawn ns → H' p = some (.tup (ns.map V.int)) → But d H H' → DieAt H' d → Q (.ref p) H'
/-- the law's own order of wide bags -/
def spWider : Sp := fun vs H Q _ => ∃ p q, ∃ ns ms : List Int, vs = [.ref p, .ref q] ∧ H p = some (.tup (ns.map V.int)) ∧ H q = some (.tup (ms.map V.int)) ∧ ns.length = ms.length ∧ ns.length ≤ 100 ∧ (∀ n ∈ ns, -1 ≤ n) ∧ Q (.bl (fitsB ns ms)) H
theorem entB_wrong {low : Int} {xs : List V} : (xs.filter fun x => !entB low x).isEmpty = (xs.map (entB low)).all id := by
  induction xs with
  | nil => rfl
  | cons c r ih =>
    rw [List.map_cons, List.all_cons, List.filter_cons]
    cases e : entB low c with
    | true => rw [if_neg (by decide)]; simpa using ih
    | false => rw [if_pos (by decide)]; rfl
theorem fits_at {ns ms : List Int} : fitsB ns ms = true ↔ ∀ (i : Nat) e m, ns[i]? = some e → ms[i]? = some m → fitE e m = true := by
  unfold fitsB
  rw [List.all_eq_true]
  constructor
  · intro h i e m h1 h2
    have hz : (ns.zip ms)[i]? = some (e, m) := List.getElem?_zip_eq_some.mpr ⟨h1, h2⟩
    exact h (fitE e m) (List.mem_map.mpr ⟨(e, m), List.mem_of_getElem? hz, rfl⟩)
  · intro h b hb
    obtain ⟨⟨e, m⟩, hp, rfl⟩ := List.mem_map.mp hb
    obtain ⟨i, hi⟩ := List.mem_iff_getElem?.mp hp
    obtain ⟨h1, h2⟩ := List.getElem?_zip_eq_some.mp hi
    exact h i e m h1 h2
theorem fitE_iff {e m : Int} : fitE e m = true ↔ m = -1 ∨ (0 ≤ e ∧ e ≤ m) := by
  unfold fitE
  rw [Bool.or_eq_true, Bool.and_eq_true, decide_eq_true_iff, decide_eq_true_iff, decide_eq_true_iff]
theorem cut_to (xs : List V) {k : Nat} (h : k ≤ xs.length) : cutV xs none (some (k : Int)) = xs.take k := by
  unfold cutV
  rw [HT.sIx_none, HT.sIx_nat, Nat.min_eq_left h, Nat.sub_zero, List.drop_zero]
theorem cut_from (xs : List V) {k : Nat} (h : k ≤ xs.length) : cutV xs (some (k : Int)) none = xs.drop k := by
  unfold cutV
  rw [HT.sIx_none, HT.sIx_nat, Nat.min_eq_left h]
  exact List.take_of_length_le (by rw [List.length_drop]; omega)
/-- the great bag within -/
def topE (e : Int) : Int := if e = -1 then 10 ^ (39 : Int).toNat else e
def topOf (ns : List Int) : List Int := ns.map topE
def BagIn (b ns : List Int) : Prop := b.length = ns.length ∧ (∀ e ∈ b, 0 ≤ e) ∧ fitsB b ns = true
theorem topE_nn {e : Int} (h : -1 ≤ e) : 0 ≤ topE e := by
  unfold topE
  split
  · decide +kernel
  · omega
theorem top_fit {e : Int} (h : -1 ≤ e) : fitE (topE e) e = true := by
  refine fitE_iff.mpr ?_
  by_cases c : e = -1
  · exact .inl c
  · refine .inr ⟨topE_nn h, ?_⟩
    unfold topE
    rw [if_neg c]
    exact Int.le_refl _
theorem set_glue (xs : List Int) {k : Nat} (m : Int) (h : k < xs.length) : (xs.take k).map V.int ++ [V.int m] ++ (xs.drop (k + 1)).map V.int = (xs.set k m).map V.int := by
  rw [List.set_eq_take_append_cons_drop, if_pos h, List.map_append, List.map_cons, List.append_assoc]
  rfl
theorem bag_set {ns : List Int} (hn : ∀ n ∈ ns, -1 ≤ n) {k : Nat} {w m : Int} (hw : ns[k]? = some w) (hm : 0 ≤ m) (hf : w = -1 ∨ m ≤ w) : BagIn ((topOf ns).set k m) ns := by
  refine ⟨by rw [List.length_set]; exact List.length_map _, fun e he => ?_, fits_at.mpr fun i e w' h1 h2 => ?_⟩
  · rcases List.mem_or_eq_of_mem_set he with he | rfl
    · obtain ⟨n, hn', rfl⟩ := List.mem_map.mp he
      exact topE_nn (hn n hn')
    · exact hm
  · rw [List.getElem?_set] at h1
    by_cases c : k = i
    · subst c
      rw [if_pos rfl] at h1
      split at h1
      · cases h1
        rw [hw] at h2
        cases h2
        rcases hf with hf | hf
        · exact fitE_iff.mpr (.inl hf)
        · exact fitE_iff.mpr (.inr ⟨hm, hf⟩)
      · cases h1
    · rw [if_neg c] at h1
      have h3 : (topOf ns)[i]? = some (topE w') := by
        unfold topOf
        rw [List.getElem?_map, h2]
        rfl
      rw [h3] at h1
      cases h1
      exact top_fit (hn w' (List.mem_of_getElem? h2))
theorem top_set {ns : List Int} {k : Nat} {w : Int} (hw : ns[k]? = some w) : (topOf ns).set k (topE w) = topOf ns := by
  refine List.ext_getElem? fun i => ?_
  rw [List.getElem?_set]
  by_cases c : k = i
  · subst c
    have h3 : (topOf ns)[k]? = some (topE w) := by
      unfold topOf
      rw [List.getElem?_map, hw]
      rfl
    rw [if_pos rfl, h3, if_pos (List.getElem?_eq_some_iff.mp h3).1]
  · rw [if_neg c]
/-- what is known of the bags that were found -/
def Found (H : Hp) (F0 : Addr) (ns : List Int) (L : List (Addr × List Int)) : Prop := H F0 = some (.lst (L.map fun x => V.ref x.1)) ∧ ∀ x ∈ L, H x.1 = some (.tup (x.2.map V.int)) ∧ BagIn x.2 ns
theorem Found.same {H H' : Hp} {F0 : Addr} {ns : List Int} {L : List (Addr × List Int)} (h : Found H F0 ns L) (s : Same H H') : Found H' F0 ns L := ⟨s _ _ h.1, fun x hx => ⟨s _ _ (h.2 x hx).1, (h.2 x hx).2⟩⟩
def spBagsIn : Sp := fun vs H Q _ => ∃ p, ∃ ns : List Int, ∃ entry : Int, vs = [.ref p, .int entry] ∧ H p = some (.tup (ns.map V.int)) ∧ Wide ns ∧ 0 ≤ entry ∧
  ∀ l L H', Found H' l ns L → (∃ x ∈ L, x.2 = topOf ns) → L.length ≤ 20 → Same H H' → Q (.ref l) H'
end Sh

/-! order and sums of wide bags -/
namespace Sh
open PySem PySem.Spec PyProof.Rows L2 RZ
theorem Drawn.wide {ns : List Int} (h : Drawn ns) (l1 : 1 ≤ ns.length) (l5 : ns.length ≤ 5) : Wide ns := ⟨l1, l5, fun n hn => (h n hn).1⟩
theorem BagIn.wide {b ns : List Int} (h : BagIn b ns) (w : Wide ns) : Wide b := ⟨by rw [h.1]; exact w.1, by rw [h.1]; exact w.2.1, fun n hn => by have := h.2.1 n hn; omega⟩
theorem fits_self {ns : List Int} (h : ∀ n ∈ ns, -1 ≤ n) : fitsB ns ns = true := fits_at.mpr fun i e m h1 h2 => by
  rw [h1] at h2
  cases h2
  have := h e (List.mem_of_getElem? h1)
  by_cases c : e = -1
  · exact fitE_iff.mpr (.inl c)
  · exact fitE_iff.mpr (.inr ⟨by omega, Int.le_refl _⟩)
theorem fits_trans {a b c : List Int} (hl : a.length = b.length) (h1 : fitsB a b = true) (h2 : fitsB b c = true) : fitsB a c = true := fits_at.mpr fun i e m he hm => by
  have hi : i < b.length := by rw [← hl]; exact (List.getElem?_eq_some_iff.mp he).1
  have hb : b[i]? = some b[i] := List.getElem?_eq_getElem hi
  have x := fitE_iff.mp (fits_at.mp h1 i e _ he hb)
  have y := fitE_iff.mp (fits_at.mp h2 i _ m hb hm)
  refine fitE_iff.mpr ?_
  rcases y with y | y
  · exact .inl y
  · rcases x with x | x
    · omega
    · exact .inr ⟨x.1, by omega⟩
/-- if the great bag is within, all is -/
theorem top_fits {ns ms : List Int} (hn : ∀ n ∈ ns, -1 ≤ n) (hm : Drawn ms) (h : fitsB (topOf ns) ms = true) : fitsB ns ms = true := fits_at.mpr fun i e m h1 h2 => by
  have h3 : (topOf ns)[i]? = some (topE e) := by
    unfold topOf
    rw [List.getElem?_map, h1]
    rfl
  have x := fitE_iff.mp (fits_at.mp h i _ m h3 h2)
  have he := hn e (List.mem_of_getElem? h1)
  have h4 := (hm m (List.mem_of_getElem? h2)).2
  refine fitE_iff.mpr ?_
  rcases x with x | x
  · exact .inl x
  · by_cases c : e = -1
    · exfalso
      unfold topE at x
      rw [if_pos c] at x
      have h5 : (10 : Int) ^ (39 : Int).toNat = 10 * 10 ^ 38 := by decide +kernel
      rw [h5] at x
      have h6 : (0 : Int) < 10 ^ 38 := by decide +kernel
      omega
    · unfold topE at x
      rw [if_neg c] at x
      exact .inr x
theorem all_within {ns ms : List Int} {L : List (Addr × List Int)} (hn : ∀ n ∈ ns, -1 ≤ n) (hm : Drawn ms) (hL : ∀ x ∈ L, BagIn x.2 ns) (ht : ∃ x ∈ L, x.2 = topOf ns) :
    ((L.filter fun x => !fitsB x.2 ms).map fun x => V.ref x.1).isEmpty = fitsB ns ms := by
  rw [List.isEmpty_map]
  cases h : fitsB ns ms with
  | true =>
    rw [List.isEmpty_iff, List.filter_eq_nil_iff]
    intro x hx
    have := hL x hx
    rw [fits_trans this.1 this.2.2 h]
    decide
  | false =>
    obtain ⟨x, hx, e⟩ := ht
    cases h2 : fitsB x.2 ms with
    | true =>
      rw [e] at h2
      rw [top_fits hn hm h2] at h
      cases h
    | false =>
      rw [Bool.eq_false_iff]
      intro c
      rw [List.isEmpty_iff, List.filter_eq_nil_iff] at c
      exact c x hx (by rw [h2]; rfl)
theorem none_out {ns : List Int} {L : List (Addr × List Int)} (hL : ∀ x ∈ L, BagIn x.2 ns) : ((L.filter fun x => !fitsB x.2 ns).map fun x => V.ref x.1) = [] := by
  rw [List.map_eq_nil_iff, List.filter_eq_nil_iff]
  intro x hx
  rw [(hL x hx).2.2]
  decide
theorem add_at {ns ms : List Int} {i : Nat} {e m : Int} (h1 : ns[i]? = some e) (h2 : ms[i]? = some m) : (addB ns ms)[i]? = some (addE e m) := by
  unfold addB
  rw [List.getElem?_map, show (ns.zip ms)[i]? = some (e, m) from List.getElem?_zip_eq_some.mpr ⟨h1, h2⟩]
  rfl
theorem add_len {ns ms : List Int} (h : ns.length = ms.length) : (addB ns ms).length = ns.length := by
  unfold addB
  rw [List.length_map, List.length_zip, h, Nat.min_self]
theorem addE_comm (e m : Int) : addE e m = addE m e := by
  unfold addE
  by_cases h : e = -1 ∨ m = -1
  · rw [if_pos h, if_pos h.symm]
  · rw [if_neg h, if_neg (fun c => h c.symm), Int.add_comm]
theorem addE_low {e m : Int} (h1 : -1 ≤ e) (h2 : -1 ≤ m) : -1 ≤ addE e m := by
  unfold addE
  split
  · omega
  · omega
theorem addE_any {e m : Int} (h1 : -1 ≤ e) (h2 : -1 ≤ m) : addE e m = -1 ↔ (e = -1 ∨ m = -1) := by
  unfold addE
  split
  · exact ⟨fun _ => by assumption, fun _ => rfl⟩
  · constructor
    · intro h
      omega
    · intro h
      exact absurd h (by assumption)
theorem addE_assoc {a b c : Int} (ha : -1 ≤ a) (hb : -1 ≤ b) (hc : -1 ≤ c) : addE (addE a b) c = addE a (addE b c) := by
  by_cases h1 : a = -1 ∨ b = -1
  · have : addE a b = -1 := (addE_any ha hb).mpr h1
    have h2 : addE (addE a b) c = -1 := (addE_any (addE_low ha hb) hc).mpr (.inl this)
    have h3 : addE a (addE b c) = -1 := (addE_any ha (addE_low hb hc)).mpr (h1.imp id fun z => (addE_any hb hc).mpr (.inl z))
    rw [h2, h3]
  · by_cases h2 : c = -1
    · have h3 : addE (addE a b) c = -1 := (addE_any (addE_low ha hb) hc).mpr (.inr h2)
      have h4 : addE a (addE b c) = -1 := (addE_any ha (addE_low hb hc)).mpr (.inr ((addE_any hb hc).mpr (.inr h2)))
      rw [h3, h4]
    · have h5 : ¬ (b = -1 ∨ c = -1) := fun z => z.elim (fun z => h1 (.inr z)) h2
      have e1 : addE a b = a + b := if_neg h1
      have e2 : addE b c = b + c := if_neg h5
      rw [e1, e2]
      unfold addE
      rw [if_neg (show ¬ (a + b = -1 ∨ c = -1) by omega), if_neg (show ¬ (a = -1 ∨ b + c = -1) by omega)]
      omega
theorem addB_comm {ns ms : List Int} (h : ns.length = ms.length) : addB ms ns = addB ns ms := by
  refine List.ext_getElem? fun i => ?_
  by_cases hi : i < ns.length
  · have z1 : ns[i]? = some ns[i] := List.getElem?_eq_getElem hi
    have z2 : ms[i]? = some (ms[i]'(by omega)) := List.getElem?_eq_getElem (by omega)
    rw [add_at z1 z2, add_at z2 z1, addE_comm]
  · rw [List.getElem?_eq_none (by rw [add_len h.symm]; omega), List.getElem?_eq_none (by rw [add_len h]; omega)]
theorem addB_assoc {a b c : List Int} (ha : ∀ n ∈ a, -1 ≤ n) (hb : ∀ n ∈ b, -1 ≤ n) (hc : ∀ n ∈ c, -1 ≤ n) (h1 : a.length = b.length) (h2 : b.length = c.length) : addB (addB a b) c = addB a (addB b c) := by
  refine List.ext_getElem? fun i => ?_
  by_cases hi : i < a.length
  · have z1 : a[i]? = some a[i] := List.getElem?_eq_getElem hi
    have z2 : b[i]? = some (b[i]'(by omega)) := List.getElem?_eq_getElem (by omega)
    have z3 : c[i]? = some (c[i]'(by omega)) := List.getElem?_eq_getElem (by omega)
    rw [add_at (add_at z1 z2) z3, add_at z1 (add_at z2 z3), addE_assoc (ha _ (List.mem_of_getElem? z1)) (hb _ (List.mem_of_getElem? z2)) (hc _ (List.mem_of_getElem? z3))]
  · have l1 := add_len h1
    have l2 := add_len h2
    rw [List.getElem?_eq_none (by rw [add_len (by omega)]; omega), List.getElem?_eq_none (by rw [add_len (by omega)]; omega)]
theorem add_low {ns ms : List Int} (h1 : ∀ n ∈ ns, -1 ≤ n) (h2 : ∀ n ∈ ms, -1 ≤ n) : ∀ n ∈ addB ns ms, -1 ≤ n := fun n hn => by
  unfold addB at hn
  obtain ⟨⟨e, m⟩, hp, rfl⟩ := List.mem_map.mp hn
  exact addE_low (h1 e (List.of_mem_zip hp).1) (h2 m (List.of_mem_zip hp).2)
theorem add_wide {ns ms : List Int} (h1 : Wide ns) (h2 : Wide ms) (h : ns.length = ms.length) : Wide (addB ns ms) := ⟨by rw [add_len h]; exact h1.1, by rw [add_len h]; exact h1.2.1, add_low h1.2.2 h2.2.2⟩
theorem fits_add {ns ms : List Int} (h1 : ∀ n ∈ ns, -1 ≤ n) (h2 : ∀ n ∈ ms, -1 ≤ n) (h : ns.length = ms.length) : fitsB ns (addB ns ms) = true := fits_at.mpr fun i e s he hs => by
  have hi : i < ms.length := by rw [← h]; exact (List.getElem?_eq_some_iff.mp he).1
  have z2 : ms[i]? = some ms[i] := List.getElem?_eq_getElem hi
  rw [add_at he z2] at hs
  cases hs
  have a := h1 e (List.mem_of_getElem? he)
  have b := h2 _ (List.mem_of_getElem? z2)
  refine fitE_iff.mpr ?_
  by_cases c : e = -1 ∨ ms[i] = -1
  · exact .inl ((addE_any a b).mpr c)
  · refine .inr ⟨by omega, ?_⟩
    unfold addE
    rw [if_neg c]
    omega
theorem ent_short {low : Int} {xs : List V} (h1 : 1 ≤ xs.length) (h5 : xs.length ≤ 5) : entOk low xs = (xs.map (entB low)).all id := by
  unfold entOk
  rw [decide_eq_true h1, decide_eq_true h5, Bool.true_and, Bool.true_and]
theorem ent_long {low : Int} {xs : List V} (h : ¬ (1 ≤ xs.length ∧ xs.length ≤ 5)) : entOk low xs = false := by
  unfold entOk
  by_cases h1 : 1 ≤ xs.length
  · rw [decide_eq_false (show ¬ xs.length ≤ 5 from fun c => h ⟨h1, c⟩), Bool.and_false, Bool.false_and]
  · rw [decide_eq_false h1, Bool.false_and, Bool.false_and]
end Sh

/-! sets and rows of tuples of whole numbers of any sign -/
namespace Zt
open PySem PyProof.Rows
section
variable {P : Program} {w : World} {A : Around} {E : Value → Shared → Prop} {s : Shared}
abbrev nilSet (w : World) : Obj := { cls := .type "set", dict := none, data := .set #[] 0 (.fresh 0 0 (!w.params.followText "set-order")) }
abbrev runner (l : Addr) : Obj := { cls := .type "tuple_iterator", data := .fields #[.ref l, .int 0 0] }
abbrev twoOf (w : World) (s : Shared) (l : Addr) : Heap := (s.heap.push (nilSet w)).push (runner l)

set_option maxHeartbeats 6400000 in
/-- set(t) of a tuple: what the filling does, whatever it is -/
theorem set_of {l : Addr} {items : Array Value} {Q : Value → Shared → Prop} {Z : Shared → Prop} (hl : s.heap.IsTuple l items)
    (fill : ∀ R : Result → Shared → Prop, (∀ s1, Z s1 → R (.ok (.ret .none)) s1) → codeAny (model P w) A.in1.in1 (.builtin "set.update.loop" ⟨[.ref s.heap.objs.size, .ref (s.heap.objs.size + 1)], []⟩) R { s with heap := twoOf w s l })
    (h : ∀ s1, Z s1 → Q (.ref s.heap.objs.size) s1) : wpAny (model P w) A (call (.type "set") [.ref l]) Q E s := by
  have ⟨_, _, m0⟩ := F.called_set.mro
  have m1 := F.called_set.made
  have m2 := F.called_set.sub
  have m3 := F.called_set.notType
  have m4 := F.called_set.canCreate
  have m5 := F.typeCall_set_1 (.ref l)
  refine wpAny_call (codeAny_of_tree ?_)
  show wpAny _ _ (callAny (.type "set") _) _ _ _
  refine wpAny_pure ⟨Code.quiet_builtin _ (by decide +kernel), codeAny_builtin F.entry_type_call ?_⟩
  rw [Around.under_plain (weight_type_call_type "set" [.ref l] []) rfl]
  repeat (any_goals (first | assumption | wp_step))
  refine codeAny_mono (L2.code_set_led1 (.ref l) (E := E) (Q₁ := fun v s1 => v = .ref s.heap.objs.size ∧ s1 = { s with heap := s.heap.push (nilSet w) }) ⟨rfl, rfl⟩) ?_
  rintro (e | (_ | _ | _ | _)) s1 hr
  all_goals first | exact hr | exact hr.elim | skip
  all_goals try (exact hr)
  rename_i obj
  obtain ⟨rfl, rfl⟩ := hr
  have at0 : (s.heap.push (nilSet w)).get? s.heap.objs.size = some (nilSet w) := Heap.get?_push_size _ rfl
  have ty0 : Shared.TypeIs { s with heap := s.heap.push (nilSet w) } (.ref s.heap.objs.size) "set" := ⟨_, at0, rfl⟩
  have m6 := F.called_set.init.lookup
  have m7 := F.called_set.init.bind (.ref s.heap.objs.size)
  repeat (any_goals (first | assumption | wp_step))
  refine codeAny_mono (codeAny_call_builtin (R := wants (fun r s2 => r = .none ∧ Z s2) E) F.called_set.init.plain F.entry_set_init (check_set_init_1 ty0 ?_)) ?_
  · obtain ⟨⟨c0, d0, t0, k0⟩, hol, hc, nl, hd⟩ := hl
    obtain rfl : c0 = .type "tuple" := hc
    obtain rfl : t0 = .seq items nl := hd
    have hol' := Heap.get?_push_of_some (nilSet w) hol
    have z1 := F.sub_tuple_set
    have z2 := F.sub_tuple_frozenset
    have z3 : (Value.type "tuple" == Value.type "dict") = false := by decide
    have z4 : (s.heap.push (nilSet w)).IsTuple l items := ⟨_, hol', rfl, nl, rfl⟩
    unfold Builtin.«set.__init__» noKeywords Builtin.Frozenset.updateFrom
    generalize hI : pyIter = pI
    wp_walk
    subst hI
    refine wpAny_pyIter_tuple z4 (wpAny_bind (wpAny_runValue ?_))
    have sz : (s.heap.push (nilSet w)).objs.size = s.heap.objs.size + 1 := Heap.size_push ..
    show codeAny _ _ (.builtin _ ⟨[_, .ref (s.heap.push (nilSet w)).objs.size], []⟩) _ _
    rw [sz]
    refine fill _ fun s2 hz => ?_
    show wpAny _ _ _ _ _ _
    refine wpAny_pure ?_
    show wpAny _ _ (ret Value.none) _ _ _
    exact wpAny_pure ⟨rfl, hz⟩
  · rintro (e | (r | _ | _ | _)) s2 hr
    all_goals first | exact hr | exact hr.elim | skip
    obtain ⟨rfl, hz⟩ := hr
    repeat (any_goals (first | assumption | wp_step))
    exact h _ hz
end
end Zt

namespace Zt
open PySem PyProof.Rows L2
/-! ### the order of rows of whole numbers -/
def lx : List Int → List Int → Bool
  | [], [] => false
  | [], _ :: _ => true
  | _ :: _, [] => false
  | a :: r, b :: q => if a = b then lx r q else decide (a < b)
theorem lx_irr : ∀ r : List Int, lx r r = false
  | [] => rfl
  | a :: r => by
    show (if a = a then lx r r else decide (a < a)) = false
    rw [if_pos rfl]
    exact lx_irr r
theorem lx_asym : ∀ r q : List Int, lx r q = true → lx q r = false
  | [], [], h => rfl
  | [], _ :: _, h => rfl
  | _ :: _, [], h => nomatch h
  | a :: r, b :: q, h => by
    have h' : (if a = b then lx r q else decide (a < b)) = true := h
    show (if b = a then lx q r else decide (b < a)) = false
    by_cases e : a = b
    · rw [if_pos e] at h'
      rw [if_pos e.symm]
      exact lx_asym r q h'
    · rw [if_neg e, decide_eq_true_eq] at h'
      rw [if_neg (fun z => e z.symm)]
      exact decide_eq_false (by omega)
theorem lx_tot : ∀ r q : List Int, lx r q = false → lx q r = false → r = q
  | [], [], _, _ => rfl
  | [], _ :: _, h, _ => nomatch h
  | _ :: _, [], _, h => nomatch h
  | a :: r, b :: q, h1, h2 => by
    have h1' : (if a = b then lx r q else decide (a < b)) = false := h1
    have h2' : (if b = a then lx q r else decide (b < a)) = false := h2
    by_cases e : a = b
    · rw [if_pos e] at h1'
      rw [if_pos e.symm] at h2'
      rw [e, lx_tot r q h1' h2']
    · rw [if_neg e, decide_eq_false_iff_not] at h1'
      rw [if_neg (fun z => e z.symm), decide_eq_false_iff_not] at h2'
      omega
theorem lx_tr : ∀ r q p : List Int, lx q r = false → lx p q = false → lx p r = false
  | [], [], p, _, h => h
  | [], _ :: _, [], _, _ => rfl
  | [], _ :: _, _ :: _, _, _ => rfl
  | _ :: _, [], _, h, _ => nomatch h
  | _ :: _, _ :: _, [], _, h => nomatch h
  | a :: r, b :: q, c :: p, h1, h2 => by
    have h1' : (if b = a then lx q r else decide (b < a)) = false := h1
    have h2' : (if c = b then lx p q else decide (c < b)) = false := h2
    show (if c = a then lx p r else decide (c < a)) = false
    by_cases e : b = a
    · by_cases f : c = b
      · rw [if_pos e] at h1'
        rw [if_pos f] at h2'
        rw [if_pos (f.trans e)]
        exact lx_tr r q p h1' h2'
      · rw [if_neg f] at h2'
        rw [if_neg (fun z => f (z.trans e.symm)), ← e]
        exact h2'
    · rw [if_neg e, decide_eq_false_iff_not] at h1'
      by_cases f : c = b
      · rw [if_neg (fun z => e (f.symm.trans z)), f]
        exact decide_eq_false h1'
      · rw [if_neg f, decide_eq_false_iff_not] at h2'
        rw [if_neg (by omega)]
        exact decide_eq_false (by omega)
theorem lx_swo : SrtO.Swo lx := ⟨lx_asym, lx_tr⟩
section
variable {P : Program} {w : World} {A : Around} {E : Value → Shared → Prop} {s : Shared}

/-! ### two rows compared -/
theorem one_lt (c : Bool) {p q : Int} {t u : Tok} {C : Bool → Shared → Prop} (h : C (decide (p < q)) s) : wpAny (model P w) A (oneLt' c (.int p t) (.int q u)) C E s := by
  cases c
  · exact PySem.W.kat_one _ _ (PyProof.Rows.lt_int (Q := PySem.W.BoolBack C) h)
  · exact oneLt_int h
theorem lx_run {c : Bool} {C : Bool → Shared → Prop} : ∀ {xs ys : List Value} {ns ms : List Int} (i : Nat), IntsAre xs ns → IntsAre ys ms → C (lx ns ms) s → PySem.W.KatLex P w A c (decide (ns.length < ms.length)) C (xs.zip ys) i s
  | _, _, _, _, i, .nil, .nil, h => PySem.W.kat_nil h
  | _, _, _, _, i, .nil, .cons q u hy, h => PySem.W.kat_nil h
  | _, _, _, _, i, .cons p t hx, .nil, h => PySem.W.kat_nil h
  | _, _, _, _, i, .cons (ns := ns) (vs := xs) p t hx, .cons (ns := ms) (vs := ys) q u hy, h => by
    have e0 : decide ((p :: ns).length < (q :: ms).length) = decide (ns.length < ms.length) := by simp
    rw [e0]
    have h' : C (if p = q then lx ns ms else decide (p < q)) s := h
    refine PySem.W.kat_cons (wpAny_eqBool_int (PySem.W.kat_go (fun e => ?_) fun e => ?_))
    · rw [if_pos (by simpa using e)] at h'
      exact PySem.W.kat_yes (lx_run (i + 1) hx hy h')
    · rw [if_neg (by simpa using e)] at h'
      exact PySem.W.kat_no (one_lt _ h')

/-- each of them is a row with something in it -/
def Rows (h : Heap) (vs : List Value) : Prop := ∀ v, v ∈ vs → ∃ ns, TS.TupInts h v ns ∧ ns ≠ []
theorem Rows.keeps {h h' : Heap} {vs : List Value} (x : Rows h vs) (k : ∀ b o, h.get? b = some o → o.cls = .type "tuple" → h'.get? b = some o) : Rows h' vs := fun v hv => (x v hv).imp fun _ y => ⟨y.1.keeps k, y.2⟩
theorem heads {h : Heap} : ∀ {vs : List Value}, Rows h vs → ∃ fs, PySem.W.KatTups h vs fs ∧ fs.length = vs.length ∧ ∀ f, f ∈ fs → ∃ n t, f = Value.int n t
  | [], _ => ⟨[], .nil, rfl, fun f hf => nomatch hf⟩
  | v :: vs, x => by
    obtain ⟨fs, k, hl, hi⟩ := heads (vs := vs) fun u hu => x u (.tail _ hu)
    obtain ⟨ns, ⟨a, xs, rfl, ⟨o, ho, hc, n, hd⟩, i⟩, hn⟩ := x v (.head _)
    generalize hq : xs.toList = ys at i
    cases i with
    | nil => exact absurd rfl hn
    | cons m t r =>
      refine ⟨.int m t :: fs, .cons ho hc hd ?_ k, congrArg (· + 1) hl, fun f hf => ?_⟩
      · have := congrArg (·[0]?) hq
        simpa using this
      · rcases List.mem_cons.mp hf with e | hf
        · exact ⟨m, t, e⟩
        · exact hi f hf
abbrev ltH (h : Heap) (v u : Value) : Bool := lx (TS.intsOf h v) (TS.intsOf h u)
theorem ltH_swo (h : Heap) : SrtO.Swo (ltH h) := ⟨fun x y => lx_asym _ _, fun x y z => lx_tr _ _ _⟩
theorem rows_sortable {a : Addr} {vs : List Value} {h0 : Heap} (l0 : 0 < vs.length) (x : Rows h0 vs) (keep : ∀ b o, h0.get? b = some o → o.cls = .type "tuple" → b ≠ a ∧ s.heap.get? b = some o) : SrtO.SortableO P w A s a vs (ltH h0) := by
  intro h' kp
  have k2 : ∀ b o, h0.get? b = some o → o.cls = .type "tuple" → h'.get? b = some o := fun b o e c => kp b o (keep b o e c).1 (keep b o e c).2
  obtain ⟨fs, f1, f2, f3⟩ := heads (x.keeps k2)
  refine ⟨_, fun C E' hC => PySem.W.kat_kind (T := .type "int") f1 (by omega) (fun f hf => ?_) rfl hC, ?_⟩
  · obtain ⟨n, t, rfl⟩ := f3 f hf
    exact PySem.W.Looks.of_pure rfl
  · intro p q hp hq
    obtain ⟨ns, tp, _⟩ := x _ hp
    obtain ⟨ms, tq, _⟩ := x _ hq
    have e1 : TS.intsOf h0 p.1 = ns := tp.ints
    have e2 : TS.intsOf h0 q.1 = ms := tq.ints
    show wpAny _ _ _ (fun r s' => s' = _ ∧ r = lx (TS.intsOf h0 p.1) (TS.intsOf h0 q.1)) _ _
    rw [e1, e2]
    obtain ⟨a1, xs, g1, ⟨o, ho, hc, n, hd⟩, i⟩ := tp.keeps k2
    obtain ⟨a2, ys, g2, ⟨o', ho', hc', n', hd'⟩, i'⟩ := tq.keeps k2
    rw [g1, g2]
    refine PySem.W.kat_lt ho hd ho' hd' ?_
    have sz : decide (xs.size < ys.size) = decide (ns.length < ms.length) := by
      rw [← i.length, ← i'.length, Array.length_toList, Array.length_toList]
    rw [sz]
    exact lx_run 0 i i' ⟨rfl, rfl⟩
end
end Zt

namespace Zt
open PySem PyProof.Rows L2
section
variable {P : Program} {w : World} {A : Around} {E : Value → Shared → Prop} {s : Shared}
theorem nowhere {h : Heap} {b : Addr} (hb : h.objs.size ≤ b) : h.get? b = none := by
  cases q : h.get? b with
  | none => rfl
  | some o => exact absurd (Nat.lt_of_lt_of_le (Heap.lt_size q) hb) (Nat.lt_irrefl _)
/-- set(t), t a tuple of rows -/
theorem set_rows {l : Addr} {items : Array Value} (ks : List (Addr × List Int)) {Q : Value → Shared → Prop} (hh : A.handled = none) (hl : s.heap.IsTuple l items) (hit : items.toList = ks.map fun p => Value.ref p.1)
    (hk : ∀ p ∈ ks, IsT P w s.heap p.2 p.1) (hf : ks.length < 64) (hu : A.units + 3 < cLine)
    (h : ∀ (h' : Heap) (tk : Nat) L es ep t, SetTR P w h' s.heap.objs.size L es ep t → Got ks ks.length L → (∀ b o, s.heap.get? b = some o → h'.get? b = some o) → Q (.ref s.heap.objs.size) { s with heap := h', toks := tk }) :
    wpAny (model P w) A (call (.type "set") [.ref l]) Q E s := by
  have n0 : items.size = ks.length := by simpa using congrArg List.length hit
  have lt : l < s.heap.objs.size := have ⟨_, z, _⟩ := hl; Heap.lt_size z
  refine set_of (Z := fun s1 => ∃ h' tk L es ep t, s1 = { s with heap := h', toks := tk } ∧ SetTR P w h' s.heap.objs.size L es ep t ∧ Got ks ks.length L ∧ ∀ b o, s.heap.get? b = some o → h'.get? b = some o) hl (fun R hR => ?_) ?_
  · have at0 : (twoOf w s l).get? s.heap.objs.size = some (nilSet w) := Heap.get?_push_of_some _ (Heap.get?_push_size _ rfl)
    have sz : (s.heap.push (nilSet w)).objs.size = s.heap.objs.size + 1 := Heap.size_push ..
    have keep : ∀ b o, s.heap.get? b = some o → (twoOf w s l).get? b = some o := fun b o e => Heap.get?_push_of_some _ (Heap.get?_push_of_some _ e)
    have tu : (twoOf w s l).IsTuple l items := by
      obtain ⟨o, ho, r⟩ := hl
      exact ⟨o, keep _ _ ho, r⟩
    have itr : (twoOf w s l).IsTupleIter (s.heap.objs.size + 1) l 0 := by
      rw [← sz]
      exact ⟨_, Heap.get?_push_size _ rfl, rfl, rfl⟩
    have hne : l ≠ s.heap.objs.size + 1 := Nat.ne_of_lt (Nat.lt_succ_of_lt lt)
    have apart : s.heap.objs.size ∉ [s.heap.objs.size + 1, l] := fun z => by
      rcases List.mem_cons.mp z with z | z
      · exact Nat.ne_of_lt (Nat.lt_succ_self _) z
      · exact Nat.ne_of_gt lt (List.mem_singleton.mp z)
    refine set_update_tups (Walks.tuple (by simp [hh]) _ l hne items).toS s.heap.objs.size apart ks n0 hf (fun i v hv => ?_) s.heap hk (nowhere (Nat.le_refl _)) (fun b hb => nowhere (by rw [List.mem_singleton.mp hb]; exact Nat.le_succ _)) (by show A.units + 1 + 1 + 1 < _; omega)
      (items.size - 0) 0 _ rfl (Nat.zero_le _) ⟨itr, tu⟩ keep ⟨[], #[], 0, _, setTR_fresh at0, Got.zero ks⟩ fun s' L es ep t hm hS g k => hR s' ?_
    · have q : items.toList[i]? = some v := by rw [Array.getElem?_toList]; exact hv
      rw [hit, List.getElem?_map, Option.map_eq_some_iff] at q
      exact q.imp fun p hp => ⟨hp.1, hp.2.symm⟩
    · obtain ⟨h', g0, d0, tk, o0⟩ := s'
      obtain rfl : g0 = s.gens := hm.gens
      obtain rfl : d0 = s.drawn := hm.drawn
      obtain rfl : o0 = s.os := hm.os
      rw [n0] at g
      exact ⟨h', tk, L, es, ep, t, rfl, hS, g, k⟩
  · rintro _ ⟨h', tk, L, es, ep, t, rfl, hS, g, k⟩
    exact h h' tk L es ep t hS g k

/-- sorted(s), s a set of rows -/
theorem sorted_rows {a : Addr} {L : List (Addr × List Int)} {es : Array (Int × Value)} {ep : Nat} {t : SetTable} {Q : Value → Shared → Prop} (R : SetTR P w s.heap a L es ep t) (hh : A.handled = none) (hB : ∀ p ∈ L, p.2 ≠ [])
    (hQ : ∀ s' p (out : Array Value) (c : Nat) (L' : List (Addr × List Int)), (∀ b o, s.heap.get? b = some o → s'.heap.get? b = some o) → s'.gens = s.gens → s'.os = s.os → s.heap.objs.size ≤ p →
      s'.heap.get? p = some (seqObj "list" out c) → out.toList = L'.map (fun q => Value.ref q.1) → L'.Perm L → L'.Pairwise (fun q r => lx r.2 q.2 = false) → Q (.ref p) s') :
    wpAny (model P w) A (call (.builtin "sorted") [.ref a]) Q E s := by
  obtain ⟨o, ho, hex, hd⟩ := R.ob
  have few := R.few
  have sz := R.size
  refine Calls.call_function_entry kind_sorted plain_sorted entry_sorted (args_sorted1 _) ?_
  unfold Builtin.«sorted»
  refine wpAny_bind (m := checkCount "sorted" 1 1 _) (wpAny_pure (wpAny_bind (collect_set (A := A.in1) hh ⟨o, ho, hex.1, hd⟩ R.fits (by unfold scanBound; omega) R.tab.ris R.led fun s1 vs k1 z1 g1 o1 pm => ?_)))
  have em : es.toList.map (·.2) = L.map fun q => Value.ref q.1 := by
    rw [R.rows]
    simp [rowsOf]
  rw [em] at pm
  have vl : vs.length = L.length := by simpa using pm.length_eq
  have mem : ∀ v, v ∈ vs → ∃ q ∈ L, Value.ref q.1 = v := fun v hv => List.mem_map.mp (pm.mem_iff.mp hv)
  refine wpAny_bind (wpAny_newList ?_ (by rw [sizeLine_eq]; omega))
  generalize hH : s1.heap.push (seqObj "list" vs.toArray 0) = H1
  have kp1 : ∀ b o, s.heap.get? b = some o → H1.get? b = some o := fun b o e => by
    rw [← hH]
    exact Heap.get?_push_of_some _ (k1 b o e)
  have top : H1.get? s1.heap.objs.size = some (seqObj "list" vs.toArray 0) := by
    rw [← hH]
    exact Heap.get?_push_size _ rfl
  have small : ∀ b o, s.heap.get? b = some o → b ≠ s1.heap.objs.size := fun b o e => Nat.ne_of_lt (Nat.lt_of_lt_of_le (Heap.lt_size e) z1)
  have tk : ∀ q ∈ L, TS.TupInts s.heap (.ref q.1) q.2 := fun q hq => tupInts_of (P := P) (w := w) (R.tup q hq)
  have rs : Rows s.heap vs := fun v hv => by
    obtain ⟨q, hq, rfl⟩ := mem v hv
    exact ⟨q.2, tk q hq, hB q hq⟩
  refine wpAny_bind (wpAny_holding (wpAny_call_entry slot_list_sort ⟨_, top, rfl⟩ entry_list_sort (SrtO.list_sort_ord (s := { s1 with heap := H1 }) (ltH_swo s.heap) top (by rw [sizeLine_eq]; omega)
    (fun h2 => rows_sortable (by omega) rs fun b o e c => ⟨small b o e, kp1 b o e⟩) fun out hs hb => ⟨_, rfl, ?_⟩) (args_list_sort _)))
  obtain ⟨c, hc⟩ := sortedHeap_at (vs := vs) (out := out.toArray) top
  have back : ∀ us : List Value, (∀ v ∈ us, v ∈ vs) → ∃ L1 : List (Addr × List Int), us = L1.map (fun q => Value.ref q.1) ∧ ∀ q ∈ L1, q ∈ L := fun us => by
    induction us with
    | nil => exact fun _ => ⟨[], rfl, fun q hq => nomatch hq⟩
    | cons v us ih =>
      intro hv
      obtain ⟨q, hq, e⟩ := mem v (hv v (.head _))
      obtain ⟨L1, e1, h1⟩ := ih fun u hu => hv u (.tail _ hu)
      exact ⟨q :: L1, by rw [List.map_cons, e, e1], fun r hr => (List.mem_cons.mp hr).elim (fun z => z ▸ hq) (h1 r)⟩
  obtain ⟨L', e', hs'⟩ := back out fun v hv => hb.perm.mem_iff.mp hv
  have inj : ∀ q ∈ L, ∀ r ∈ L, Value.ref q.1 = Value.ref r.1 → q = r := fun q hq r hr e => by
    have e1 : q.1 = r.1 := by injection e
    have a1 := R.tup q hq
    rw [e1] at a1
    exact Prod.ext e1 (a1.inj (R.tup r hr))
  have pL : L'.Perm L := by
    have nL : L.Nodup := nodup_of_map R.nd
    have pm2 : (L'.map fun q => Value.ref q.1).Perm (L.map fun q => Value.ref q.1) := by
      rw [← e']
      exact hb.perm.trans pm
    have nv : (L.map fun q => Value.ref q.1).Nodup := List.pairwise_map.mpr (nL.imp_of_mem fun hq hr hne e => hne (inj _ hq _ hr e))
    have n1 : L'.Nodup := nodup_of_map (pm2.nodup_iff.mpr nv)
    refine (List.perm_ext_iff_of_nodup n1 nL).mpr fun q => ⟨hs' q, fun hq => ?_⟩
    obtain ⟨r, hr, e⟩ := List.mem_map.mp (pm2.mem_iff.mpr (List.mem_map.mpr ⟨q, hq, rfl⟩))
    rw [← inj r (hs' r hr) q hq e]
    exact hr
  refine wpAny_pure ⟨_, rfl, hQ _ s1.heap.objs.size out.toArray c L' (fun b u e => ?_) g1 o1 z1 hc (by simpa using e') pL ?_⟩
  · show (sortedHeap H1 s1.heap.objs.size vs out.toArray).get? b = some u
    rw [sortedHeap_old (small b u e) (Heap.lt_size (kp1 b u e))]
    exact kp1 b u e
  · rw [e'] at hs
    refine (List.pairwise_map.mp hs).imp_of_mem fun {q r} hq hr z => ?_
    rw [← (tk q (hs' q hq)).ints, ← (tk r (hs' r hr)).ints]
    exact z
end

/-! ### the rules -/
section
variable {X : Cx}
/-- set(t), t a tuple of rows -/
def rSetT (K : PySem.W.Frag) (P : Program) (w : World) : List V → Hp → VK → Prop := fun xs H Q => ∃ (l : Addr) (ks : List (Addr × List Int)), xs = [V.ref l] ∧ SqT K H l (ks.map fun p => V.ref p.1) ∧ (∀ p ∈ ks, SqT K H p.1 (p.2.map V.int)) ∧ ks.length < 64 ∧
  ∀ a L, H a = none → (∀ p ∈ L, p ∈ ks) → (∀ p ∈ ks, p.2 ∈ L.map (·.2)) → Q (.ref a) (upd H a (SetTO P w a L))
theorem cr_setT (hc : X.calm = true) (hu : X.A.units + 64 < cLine) : CallR X (.type "set") (rSetT X.K X.prog X.w) := by
  intro pins s σ H xs us Q I r h
  obtain ⟨l, ks, rfl, hl, hk, hf, q⟩ := h
  rw [Vals.ref1 r]
  obtain ⟨its, rv, pl, hz⟩ := I.tuple hl
  refine set_rows (P := X.prog) (w := X.w) ks (I.ok.hd hc) pl (by simpa using refs_of_vals rv) (fun p hp => I.isT (hk p hp)) hf (by omega) fun h' tk L es ep t R g k =>
    ⟨.ref s.heap.objs.size, upd H s.heap.objs.size (SetTO X.prog X.w s.heap.objs.size L), I.laid (t' := tk) k (Nat.le_refl _) (setTO_new R.t0), rfl, q _ L (I.hok.fresh (Nat.le_refl _)) (fun p hp => List.mem_of_mem_take (g.sub p hp)) fun p hp => g.all p (by rw [List.take_length]; exact hp)⟩
/-- sorted(s), s a set of rows -/
def rSrtS (K : PySem.W.Frag) (P : Program) (w : World) : List V → Hp → VK → Prop := fun vs H Q => ∃ (a : Addr) (L : List (Addr × List Int)), vs = [V.ref a] ∧ H a = some (SetTO P w a L) ∧ (∀ p ∈ L, SqT K H p.1 (p.2.map V.int)) ∧ (∀ p ∈ L, p.2 ≠ []) ∧
  ∀ (L' : List (Addr × List Int)) (p : Addr), L'.Perm L → (L'.map (·.2)).Pairwise (fun q r => lx q r = true) → L'.length < 64 → H p = none → Q (.ref p) (upd H p (.lst (L'.map fun q => V.ref q.1)))
theorem cr_srtS (hc : X.calm = true) : CallR X (.builtin "sorted") (rSrtS X.K X.prog X.w) := by
  intro pins s σ H vs us Q I r h
  obtain ⟨a, L, rfl, ha, hk, hB, q⟩ := h
  have R0 : SetT0 X.prog X.w s.heap a L := (I.hok a _ ha).1
  obtain ⟨es, ep, t, R⟩ := R0.full fun p hp => I.isT (hk p hp)
  rw [Vals.ref1 r]
  refine sorted_rows R (I.ok.hd hc) hB fun s' p out c L' k g o hp hg hout pm pw => ?_
  have l1 : L'.length < 64 := by rw [pm.length_eq]; exact R.few
  have l2 : (L'.map fun q => V.ref q.1).length ≤ sizeLine := by rw [List.length_map, sizeLine_eq]; omega
  have hn : H p = none := I.hok.fresh hp
  obtain ⟨h1, g1, d1, t1, o1⟩ := s'
  obtain rfl : o1 = s.os := o
  have J : Inv X pins σ (upd H p (.lst (L'.map fun q => V.ref q.1))) { s with heap := h1, gens := g1, drawn := d1, toks := t1 } :=
    I.call (ch := []) (Un.laid k hp hn) (I.hok.laid k hp ⟨l2, out.toList, c, by rw [hout]; exact vals_of_refs L', hg⟩) (by rw [show g1 = s.gens from g]; exact I.bare) (fun _ z => nomatch z)
  refine ⟨.ref p, _, J, rfl, q L' p pm ?_ l1 hn⟩
  have nd : (L'.map (·.2)).Nodup := (pm.map (·.2)).nodup_iff.mpr R.nd
  have pw2 : (L'.map (·.2)).Pairwise (fun x y => lx y x = false) := List.pairwise_map.mpr pw
  refine List.Pairwise.imp ?_ (nd.and pw2)
  rintro x y ⟨h1, h2⟩
  cases h3 : lx x y with
  | true => rfl
  | false => exact absurd (lx_tot x y h3 h2) h1

/-- x is the row of these numbers -/
abbrev RowAt (K : PySem.W.Frag) (H : Hp) (x : V) (ns : List Int) : Prop := TupI K H x ns
/-- sorted(l), l a list of rows -/
def rSrtL (K : PySem.W.Frag) : List V → Hp → VK → Prop := fun vs H Q => ∃ (a : Addr) (ks : List (Addr × List Int)), vs = [V.ref a] ∧ SqL K H a (ks.map fun p => V.ref p.1) ∧ (∀ p ∈ ks, SqT K H p.1 (p.2.map V.int)) ∧ (∀ p ∈ ks, p.2 ≠ []) ∧
  ∀ (L : List (Addr × List Int)) (p : Addr), L.Perm ks → (L.map (·.2)).Pairwise (fun q r => lx r q = false) → H p = none → Q (.ref p) (upd H p (.lst (L.map fun q => V.ref q.1)))
theorem cr_srtL : CallR X (.builtin "sorted") (rSrtL X.K) := by
  intro pins s σ H vs us Q I r h
  obtain ⟨a, ks, rfl, hs, hk, hB, q⟩ := h
  rw [Vals.ref1 r]
  obtain ⟨its, rv, hl, hz⟩ := I.list hs
  obtain rfl := refs_of_vals rv
  have raw : ∀ p ∈ ks, TS.TupInts s.heap (.ref p.1) p.2 := fun p hp => tupI_raw I (hk p hp)
  have rs : Rows s.heap (ks.map fun p => Value.ref p.1) := fun v hv => by
    obtain ⟨p, hp, rfl⟩ := List.mem_map.mp hv
    exact ⟨p.2, raw p hp, hB p hp⟩
  have l0 : (ks.map fun p => Value.ref p.1).length ≤ sizeLine := by simpa using hz
  refine SrtO.sorted_ord (ltH_swo s.heap) hl.isList l0 (fun h2 h1 b hb kk => rows_sortable (by omega) rs fun c o e _ => kk c o e) fun out h1 h2 => ?_
  obtain ⟨L, pm, rfl⟩ := perm_lift (fun q : Addr × List Int => Value.ref q.1) h2.perm ks rfl
  obtain ⟨ep, he⟩ := PyProof.Rows.sortedAll_at s.heap (ks.map fun p => Value.ref p.1) (L.map fun p => Value.ref p.1).toArray
  have l2 : (L.map fun q => V.ref q.1).length ≤ sizeLine := by
    rw [List.length_map, pm.length_eq]
    simpa using l0
  refine ⟨.ref (s.heap.objs.size + 1), upd H (s.heap.objs.size + 1) (.lst (L.map fun q => V.ref q.1)), I.laid (t' := s.toks) (fun _ _ => PyProof.Rows.sortedAll_old) (Nat.le_succ _) ⟨l2, _, ep, vals_of_refs L, he⟩, rfl, q L _ pm ?_ (I.hok.fresh (Nat.le_succ _))⟩
  refine List.pairwise_map.mpr ((List.pairwise_map.mp h1).imp_of_mem fun {x y} hx hy z => ?_)
  rw [← (raw x (pm.mem_iff.mp hx)).ints, ← (raw y (pm.mem_iff.mp hy)).ints]
  exact z
end
end Zt

namespace Zt
open PySem PySem.Spec PyProof.Rows L2 Sh
/-! ### rows as data -/
abbrev rowD (k : List Int) : PyData := .tuple (k.map PyData.int)
theorem canRow (k : List Int) : (rowD k).canLay0 = true := by simp [rowD, PyData.canLay0, PySem.W.ke_canLayAll0]
theorem depRow (k : List Int) : (rowD k).depth = 1 := by simp [rowD, PyData.depth, PySem.W.ke_depthAll]
theorem canRows : ∀ ks : List (List Int), PyData.canLayAll0 (ks.map rowD) = true
  | [] => rfl
  | k :: ks => by
    rw [List.map_cons, PyData.canLayAll0, canRow, canRows ks]
    rfl
theorem depRows : ∀ ks : List (List Int), PyData.depthAll (ks.map rowD) ≤ 1
  | [] => Nat.zero_le _
  | k :: ks => by
    rw [List.map_cons, PyData.depthAll, depRow]
    exact Nat.max_le.mpr ⟨Nat.le_refl _, depRows ks⟩
theorem eqRow (k m : List Int) : PyData.eqv (rowD k) (rowD m) = decide (k = m) := by
  show PyData.eqvAll _ _ = _
  exact eqvAll_ints k m
theorem eqRows : ∀ ks ms : List (List Int), PyData.eqvAll (ks.map rowD) (ms.map rowD) = decide (ks = ms)
  | [], [] => by simp [PyData.eqvAll]
  | [], _ :: _ => by simp [PyData.eqvAll]
  | _ :: _, [] => by simp [PyData.eqvAll]
  | k :: ks, m :: ms => by
    rw [List.map_cons, List.map_cons, PyData.eqvAll, eqRows ks ms, eqRow]
    by_cases h : k = m
    · subst h
      simp
    · simp [h]
theorem inRows (k : List Int) : ∀ ks : List (List Int), ((ks.map rowD).any fun y => PyData.eqv y (rowD k)) = decide (k ∈ ks)
  | [] => by simp
  | m :: ks => by
    rw [List.map_cons, List.any_cons, inRows k ks, eqRow]
    by_cases h : m = k
    · subst h
      simp
    · simp [h, Ne.symm h]
/-- each of them stands in the heap -/
def RowsIn (K : PySem.W.Frag) (H : Hp) (ks : List (Addr × List Int)) : Prop := ∀ p ∈ ks, SqT K H p.1 (p.2.map V.int)
abbrev refs (ks : List (Addr × List Int)) : List V := ks.map fun p => V.ref p.1
abbrev keys (ks : List (Addr × List Int)) : List (List Int) := ks.map fun p => p.2
theorem dpRows {K : PySem.W.Frag} {H : Hp} : ∀ {ks : List (Addr × List Int)}, RowsIn K H ks → DpAll K H (refs ks) ((keys ks).map rowD)
  | [], _ => .nil
  | p :: ks, h => .cons (.tup (h p (.head _)) (dps_ints p.2)) (dpRows fun q hq => h q (.tail _ hq))
theorem shRows (b : Bool) (ks : List (List Int)) : SeqAt.shaped (if b then .list (ks.map rowD) else .tuple (ks.map rowD)) = true := by
  have := depRows ks
  cases b
  · simp [SeqAt.shaped, PyData.canLay0, PyData.depth, canRows]
    omega
  · simp [SeqAt.shaped, PyData.canLay0, PyData.depth, canRows]
    omega
section
variable {X : Cx}
/-- two rows of rows, of one kind -/
def rEqR (K : PySem.W.Frag) (neg : Bool) : V → V → Hp → VK → Prop := fun x y H Q => ∃ a b ks ms, x = .ref a ∧ y = .ref b ∧ ((SqT K H a (refs ks) ∧ SqT K H b (refs ms)) ∨ (SqL K H a (refs ks) ∧ SqL K H b (refs ms))) ∧ RowsIn K H ks ∧ RowsIn K H ms ∧
  Q (.bl (if neg then !decide (keys ks = keys ms) else decide (keys ks = keys ms))) H
theorem op_eqR (hu : X.A.units + 64 < cLine) : OpR X (compareOp .Eq) (rEqR X.K false) := by
  intro pins s σ H x y v u Q I rx ry h
  obtain ⟨a, b, ks, ms, rfl, rfl, h | h, h1, h2, q⟩ := h
  · refine op_eqD hu pins s σ H _ _ v u Q I rx ry ⟨.tuple ((keys ks).map rowD), .tuple ((keys ms).map rowD), .tup h.1 (dpRows h1), .tup h.2 (dpRows h2), shRows false _, shRows false _, ?_⟩
    show Q (.bl (PyData.eqvAll _ _)) H
    rw [eqRows]
    exact q
  · refine op_eqD hu pins s σ H _ _ v u Q I rx ry ⟨.list ((keys ks).map rowD), .list ((keys ms).map rowD), .lst h.1 (dpRows h1), .lst h.2 (dpRows h2), shRows true _, shRows true _, ?_⟩
    show Q (.bl (PyData.eqvAll _ _)) H
    rw [eqRows]
    exact q
theorem op_neR (hu : X.A.units + 64 < cLine) : OpR X (compareOp .NotEq) (rEqR X.K true) := by
  intro pins s σ H x y v u Q I rx ry h
  obtain ⟨a, b, ks, ms, rfl, rfl, h | h, h1, h2, q⟩ := h
  · refine op_neD hu pins s σ H _ _ v u Q I rx ry ⟨.tuple ((keys ks).map rowD), .tuple ((keys ms).map rowD), .tup h.1 (dpRows h1), .tup h.2 (dpRows h2), shRows false _, shRows false _, ?_⟩
    show Q (.bl (!PyData.eqvAll _ _)) H
    rw [eqRows]
    exact q
  · refine op_neD hu pins s σ H _ _ v u Q I rx ry ⟨.list ((keys ks).map rowD), .list ((keys ms).map rowD), .lst h.1 (dpRows h1), .lst h.2 (dpRows h2), shRows true _, shRows true _, ?_⟩
    show Q (.bl (!PyData.eqvAll _ _)) H
    rw [eqRows]
    exact q
/-- a row that is not in a tuple of rows -/
def rNinR (K : PySem.W.Frag) : V → V → Hp → VK → Prop := fun x y H Q => ∃ t a k ks, x = .ref t ∧ y = .ref a ∧ SqT K H t (k.map V.int) ∧ SqT K H a (refs ks) ∧ RowsIn K H ks ∧ Q (.bl (!decide (k ∈ keys ks))) H
theorem op_ninR (hu : X.A.units + 64 < cLine) : OpR X (compareOp .NotIn) (rNinR X.K) := by
  intro pins s σ H x y v u Q I rx ry h
  obtain ⟨t, a, k, ks, rfl, rfl, h1, h2, h3, q⟩ := h
  obtain ⟨as, r1⟩ := Dp.reads I (rowD k) _ v (.tup h1 (dps_ints k)) rx
  obtain ⟨bs, r2⟩ := Dp.reads I (.tuple ((keys ks).map rowD)) _ u (.tup h2 (dpRows h3)) ry
  refine SeqAt.notIn_tuple_reads r2 r1 (canRows _) (canRow k) (by rw [depRow]; omega) ⟨.bl _, H, I, rfl, ?_⟩
  rw [inRows]
  exact q
end

/-! ### the greatest ones of an order -/
section
variable {α : Type} [DecidableEq α] (le : α → α → Bool)
def tops (S : List α) : List α := S.filter fun x => !(S.any fun y => !decide (y = x) && le x y)
def keep (kept : List α) (b : α) : List α := if kept.any (fun o => le b o) then kept else kept.filter (fun o => !le o b) ++ [b]
variable {le}
theorem mem_tops {S : List α} {x : α} : x ∈ tops le S ↔ x ∈ S ∧ ∀ y ∈ S, y ≠ x → le x y = false := by
  unfold tops
  simp only [List.mem_filter, Bool.not_eq_true', List.any_eq_false, Bool.and_eq_true, Bool.not_eq_true', decide_eq_false_iff_not, not_and, Bool.not_eq_true]
/-- what is asked of the order, over the things of D -/
structure Ord (le : α → α → Bool) (D : α → Prop) : Prop where
  refl : ∀ x, D x → le x x = true
  tr : ∀ x y z, D x → D y → D z → le x y = true → le y z = true → le x z = true
  anti : ∀ x y, D x → D y → le x y = true → le y x = true → x = y
theorem keep_ok {D : α → Prop} (O : Ord le D) {pre : List α} {b : α} (hD : ∀ x ∈ pre, D x) (hb : D b) (nb : b ∉ pre) (cov : ∀ y ∈ pre, ∃ o ∈ tops le pre, le y o = true) :
    keep le (tops le pre) b = tops le (pre ++ [b]) ∧ ∀ y ∈ pre ++ [b], ∃ o ∈ tops le (pre ++ [b]), le y o = true := by
  have lr : ∀ x, x ∈ pre → ((pre ++ [b]).any fun y => !decide (y = x) && le x y) = ((pre.any fun y => !decide (y = x) && le x y) || le x b) := fun x hx => by
    have hne : b ≠ x := fun e => nb (e ▸ hx)
    simp [List.any_append, hne]
  have bb : ((pre ++ [b]).any fun y => !decide (y = b) && le b y) = pre.any fun y => le b y := by
    rw [List.any_append]
    simp only [List.any_cons, List.any_nil, decide_true, Bool.not_true, Bool.false_and, Bool.or_false]
    rw [Bool.eq_iff_iff, List.any_eq_true, List.any_eq_true]
    constructor
    · rintro ⟨y, hy, h⟩
      exact ⟨y, hy, (Bool.and_eq_true_iff.mp h).2⟩
    · rintro ⟨y, hy, h⟩
      have hne : y ≠ b := fun e => nb (e ▸ hy)
      exact ⟨y, hy, by simp [hne, h]⟩
  have step : tops le (pre ++ [b]) = (tops le pre).filter (fun o => !le o b) ++ (if pre.any (fun y => le b y) then [] else [b]) := by
    unfold tops
    rw [List.filter_append, List.filter_filter]
    congr 1
    · refine List.filter_congr fun x hx => ?_
      rw [lr x hx, Bool.not_or, Bool.and_comm]
    · rw [List.filter_cons, bb]
      cases pre.any (fun y => le b y) <;> simp
  have main : keep le (tops le pre) b = tops le (pre ++ [b]) := by
    unfold keep
    rw [step]
    by_cases c : (tops le pre).any (fun o => le b o) = true
    · rw [if_pos c]
      obtain ⟨o, ho, hbo⟩ := List.any_eq_true.mp c
      have hop := (mem_tops.mp ho).1
      rw [if_pos (List.any_eq_true.mpr ⟨o, hop, hbo⟩), List.append_nil]
      refine (List.filter_eq_self.mpr fun x hx => ?_).symm
      obtain ⟨hx1, hx2⟩ := mem_tops.mp hx
      cases e : le x b with
      | false => rfl
      | true =>
        have xo := O.tr x b o (hD x hx1) hb (hD o hop) e hbo
        by_cases z : o = x
        · subst z
          exact absurd (O.anti b o hb (hD o hop) hbo e) (fun e => nb (e ▸ hop))
        · rw [hx2 o hop z] at xo
          cases xo
    · rw [if_neg c]
      have c2 : ¬ pre.any (fun y => le b y) = true := fun h => by
        obtain ⟨y, hy, hby⟩ := List.any_eq_true.mp h
        obtain ⟨o, ho, hyo⟩ := cov y hy
        exact c (List.any_eq_true.mpr ⟨o, ho, O.tr b y o hb (hD y hy) (hD o (mem_tops.mp ho).1) hby hyo⟩)
      rw [if_neg c2]
  refine ⟨main, fun y hy => ?_⟩
  by_cases c : (tops le pre).any (fun o => le b o) = true
  · have e : tops le (pre ++ [b]) = tops le pre := by
      rw [← main]
      unfold keep
      rw [if_pos c]
    rw [e]
    rcases List.mem_append.mp hy with hy | hy
    · exact cov y hy
    · rw [List.mem_singleton.mp hy]
      exact List.any_eq_true.mp c
  · have e : tops le (pre ++ [b]) = (tops le pre).filter (fun o => !le o b) ++ [b] := by
      rw [← main]
      unfold keep
      rw [if_neg c]
    rw [e]
    rcases List.mem_append.mp hy with hy | hy
    · obtain ⟨o, ho, hyo⟩ := cov y hy
      cases z : le o b with
      | false => exact ⟨o, List.mem_append_left _ (List.mem_filter.mpr ⟨ho, by rw [z]; rfl⟩), hyo⟩
      | true => exact ⟨b, List.mem_append_right _ (List.mem_singleton.mpr rfl), O.tr y o b (hD y hy) (hD o (mem_tops.mp ho).1) hb hyo z⟩
    · rw [List.mem_singleton.mp hy]
      exact ⟨b, List.mem_append_right _ (List.mem_singleton.mpr rfl), O.refl b hb⟩
theorem keep_all {D : α → Prop} (O : Ord le D) (S : List α) (hD : ∀ x ∈ S, D x) (nd : S.Nodup) : ∀ i, i ≤ S.length → (∀ y ∈ S.take i, ∃ o ∈ tops le (S.take i), le y o = true) ∧ ∀ b, S[i]? = some b → keep le (tops le (S.take i)) b = tops le (S.take (i + 1))
  | 0, _ => ⟨fun y hy => (by simp at hy), fun b hb => by
      rw [List.take_add_one, hb]
      exact (keep_ok O (pre := S.take 0) (b := b) (fun x hx => hD x (List.mem_of_mem_take hx)) (hD b (List.mem_of_getElem? hb)) (by simp) (fun y hy => (by simp at hy))).1⟩
  | i + 1, hi => by
    have hlt : i < S.length := hi
    have ih := keep_all O S hD nd i (Nat.le_of_lt hlt)
    have dj : ∀ j b, S[j]? = some b → b ∉ S.take j := fun j b hb hm => by
      obtain ⟨k, hk, e⟩ := List.getElem_of_mem hm
      have hj := (List.getElem?_eq_some_iff.mp hb)
      have kj : k < j := by
        rw [List.length_take] at hk
        omega
      rw [List.getElem_take] at e
      obtain ⟨hj1, hj2⟩ := hj
      exact absurd (e.trans hj2.symm) (List.pairwise_iff_getElem.mp nd k j (by omega) hj1 kj)
    have hb := List.getElem?_eq_getElem hlt
    generalize S[i] = b at hb
    have ok := keep_ok O (pre := S.take i) (b := b) (fun x hx => hD x (List.mem_of_mem_take hx)) (hD b (List.mem_of_getElem? hb)) (dj i b hb) ih.1
    have e : S.take (i + 1) = S.take i ++ [b] := by
      rw [List.take_add_one, hb]
      rfl
    rw [← e] at ok
    refine ⟨ok.2, fun c hc => ?_⟩
    rw [List.take_add_one (i := i + 1), hc]
    exact (keep_ok O (pre := S.take (i + 1)) (b := c) (fun x hx => hD x (List.mem_of_mem_take hx)) (hD c (List.mem_of_getElem? hc)) (dj _ _ hc) ok.2).1
theorem tops_cov {D : α → Prop} (O : Ord le D) {S : List α} (hD : ∀ x ∈ S, D x) (nd : S.Nodup) : ∀ y ∈ S, ∃ o ∈ tops le S, le y o = true := by
  have h := (keep_all O S hD nd S.length (Nat.le_refl _)).1
  rw [List.take_length] at h
  exact h
theorem tops_self {S : List α} (h : ∀ x ∈ S, ∀ y ∈ S, y ≠ x → le x y = false) : tops le S = S := List.filter_eq_self.mpr fun x hx => by
  rw [Bool.not_eq_true', List.any_eq_false]
  intro y hy
  by_cases e : y = x
  · simp [e]
  · simp [e, h x hx y hy e]
theorem tops_tops {S : List α} : tops le (tops le S) = tops le S := tops_self fun x hx y hy => (mem_tops.mp hx).2 y (mem_tops.mp hy).1
end

/-! ### ascending rows -/
abbrev Asc (S : List (List Int)) : Prop := S.Pairwise fun q r => lx q r = true
theorem Asc.nd {S : List (List Int)} (h : Asc S) : S.Nodup := h.imp fun {x y} z e => by
  rw [e, lx_irr] at z
  cases z
theorem asc_uniq : ∀ {S T : List (List Int)}, Asc S → Asc T → (∀ k, k ∈ S ↔ k ∈ T) → S = T
  | [], [], _, _, _ => rfl
  | [], t :: T, _, _, h => absurd ((h t).mpr (.head _)) (by simp)
  | s :: S, [], _, _, h => absurd ((h s).mp (.head _)) (by simp)
  | s :: S, t :: T, h1, h2, h => by
    obtain ⟨a1, a2⟩ := List.pairwise_cons.mp h1
    obtain ⟨b1, b2⟩ := List.pairwise_cons.mp h2
    have e : s = t := by
      rcases List.mem_cons.mp ((h s).mp (.head _)) with e | m1
      · exact e
      · rcases List.mem_cons.mp ((h t).mpr (.head _)) with e | m2
        · exact e.symm
        · have := lx_asym _ _ (a1 t m2)
          rw [b1 s m1] at this
          cases this
    subst e
    rw [asc_uniq a2 b2 fun k => ?_]
    constructor
    · intro hk
      rcases List.mem_cons.mp ((h k).mp (.tail _ hk)) with e | m
      · subst e
        have := a1 k hk
        rw [lx_irr] at this
        cases this
      · exact m
    · intro hk
      rcases List.mem_cons.mp ((h k).mpr (.tail _ hk)) with e | m
      · subst e
        have := b1 k hk
        rw [lx_irr] at this
        cases this
      · exact m
theorem Asc.tops {le : List Int → List Int → Bool} {S : List (List Int)} (h : Asc S) : Asc (tops le S) := List.Pairwise.filter _ h
theorem asc_of {S : List (List Int)} (h : S.Pairwise fun q r => lx r q = false) (nd : S.Nodup) : Asc S := by
  refine List.Pairwise.imp ?_ (nd.and h)
  rintro x y ⟨h1, h2⟩
  cases h3 : lx x y with
  | true => rfl
  | false => exact absurd (lx_tot x y h3 h2) h1
end Zt

namespace Zt
open PySem PySem.Spec PyProof.Rows L2 Sh
/-- a name that a comprehension holds in a cell: nothing is exchanged -/
theorem sw_cell {elt : Expr} {gs : List Comprehension} {scope : Scope} {pos py : Pos} {y : Str} {l : Nat} {env : Env} (hy : env.scope.names.lookup y = some .cell) : swapsWith (.ListComp elt gs scope pos) (some (.Name y py)) l env = pure false := by
  have ky : env.kindOf y = some .cell := hy
  unfold swapsWith
  simp only [ky]
  have e : ((some NameKind.cell : Option NameKind) == some .local) = false := by decide
  rw [e]
  simp
/-! ### wide bags of one length -/
def OfLen (n : Nat) (k : List Int) : Prop := Wide k ∧ k.length = n
theorem fits_anti {a b : List Int} (hl : a.length = b.length) (h1 : fitsB a b = true) (h2 : fitsB b a = true) : a = b := List.ext_getElem? fun i => by
  by_cases hi : i < a.length
  · have z1 := List.getElem?_eq_getElem hi
    have z2 := List.getElem?_eq_getElem (show i < b.length by omega)
    have e1 := fitE_iff.mp (fits_at.mp h1 i _ _ z1 z2)
    have e2 := fitE_iff.mp (fits_at.mp h2 i _ _ z2 z1)
    rw [z1, z2]
    congr 1
    omega
  · rw [List.getElem?_eq_none (by omega), List.getElem?_eq_none (by omega)]
abbrev under (a b : List Int) : Bool := fitsB b a
theorem ord_fits (n : Nat) : Ord fitsB (OfLen n) := ⟨fun x h => fits_self h.1.2.2, fun x y z hx hy hz h1 h2 => fits_trans (by rw [hx.2, hy.2]) h1 h2, fun x y hx hy h1 h2 => fits_anti (by rw [hx.2, hy.2]) h1 h2⟩
theorem ord_under (n : Nat) : Ord under (OfLen n) := ⟨fun x h => fits_self h.1.2.2, fun x y z hx hy hz h1 h2 => fits_trans (by rw [hz.2, hy.2]) h2 h1, fun x y hx hy h1 h2 => (fits_anti (by rw [hx.2, hy.2]) h2 h1)⟩
/-- a sum with numbers from 0 on keeps the order -/
def NonNeg (m : List Int) : Prop := ∀ e ∈ m, 0 ≤ e
theorem fit_sums {x y m : List Int} {n : Nat} (hx : OfLen n x) (hy : OfLen n y) (hm : NonNeg m) (lm : m.length = n) : fitsB (addB x m) (addB y m) = fitsB x y := by
  have key : ∀ i e f g, x[i]? = some e → y[i]? = some f → m[i]? = some g → fitE (addE e g) (addE f g) = fitE e f := fun i e f g h1 h2 h3 => by
    have a1 := hx.1.2.2 e (List.mem_of_getElem? h1)
    have a2 := hy.1.2.2 f (List.mem_of_getElem? h2)
    have a3 := hm g (List.mem_of_getElem? h3)
    rw [Bool.eq_iff_iff, fitE_iff, fitE_iff]
    unfold addE
    split <;> split <;> omega
  rw [Bool.eq_iff_iff, fits_at, fits_at]
  have l1 := hx.2
  have l2 := hy.2
  constructor
  · intro h i e f h1 h2
    have hi := (List.getElem?_eq_some_iff.mp h1).1
    have h3 := List.getElem?_eq_getElem (show i < m.length by omega)
    rw [← key i e f _ h1 h2 h3]
    exact h i _ _ (add_at h1 h3) (add_at h2 h3)
  · intro h i e f h1 h2
    have hi := (List.getElem?_eq_some_iff.mp h1).1
    rw [add_len (by omega)] at hi
    have z1 := List.getElem?_eq_getElem hi
    have z2 := List.getElem?_eq_getElem (show i < y.length by omega)
    have h3 := List.getElem?_eq_getElem (show i < m.length by omega)
    rw [add_at z1 h3] at h1
    rw [add_at z2 h3] at h2
    cases h1
    cases h2
    rw [key i _ _ _ z1 z2 h3]
    exact h i _ _ z1 z2
theorem sums_inj {x y m : List Int} {n : Nat} (hx : OfLen n x) (hy : OfLen n y) (hm : NonNeg m) (lm : m.length = n) (h : addB x m = addB y m) : x = y := by
  have h1 := fit_sums hx hy hm lm
  have h2 := fit_sums hy hx hm lm
  have sx : OfLen n (addB x m) := by
    have wm : ∀ e ∈ m, -1 ≤ e := fun e he => by have := hm e he; omega
    have l := add_len (ns := x) (ms := m) (by rw [hx.2, lm])
    exact ⟨⟨by rw [l]; exact hx.1.1, by rw [l]; exact hx.1.2.1, add_low hx.1.2.2 wm⟩, by rw [l]; exact hx.2⟩
  rw [← h, fits_self sx.1.2.2] at h1 h2
  exact fits_anti (by rw [hx.2, hy.2]) h1.symm h2.symm
theorem sum_len {x m : List Int} {n : Nat} (hx : OfLen n x) (hm : NonNeg m) (lm : m.length = n) : OfLen n (addB x m) := by
  have wm : ∀ e ∈ m, -1 ≤ e := fun e he => by have := hm e he; omega
  have l := add_len (ns := x) (ms := m) (by rw [hx.2, lm])
  exact ⟨⟨by rw [l]; exact hx.1.1, by rw [l]; exact hx.1.2.1, add_low hx.1.2.2 wm⟩, by rw [l]; exact hx.2⟩
/-- what is added to all keeps the greatest ones -/
theorem tops_sums {n : Nat} {S T U : List (List Int)} {m : List Int} (hS : ∀ x ∈ S, OfLen n x) (hm : NonNeg m) (lm : m.length = n) (aT : Asc T) (mT : ∀ k, k ∈ T ↔ ∃ x ∈ S, k = addB x m) (aU : U.Pairwise fun q r => lx r q = false)
    (pU : U.Perm ((tops fitsB S).map fun x => addB x m)) (nd : S.Nodup) : tops fitsB T = U := by
  have sub : ∀ x ∈ tops fitsB S, OfLen n x := fun x hx => hS x (mem_tops.mp hx).1
  have ndU : U.Nodup := by
    refine pU.nodup_iff.mpr (List.pairwise_map.mpr ?_)
    exact (List.Pairwise.filter _ nd).imp_of_mem fun hx hy ne e => ne (sums_inj (sub _ hx) (sub _ hy) hm lm e)
  refine asc_uniq aT.tops (asc_of aU ndU) fun k => ?_
  rw [mem_tops, pU.mem_iff, List.mem_map, mT]
  constructor
  · rintro ⟨⟨x, hx, rfl⟩, h⟩
    refine ⟨x, mem_tops.mpr ⟨hx, fun y hy ne => ?_⟩, rfl⟩
    rw [← fit_sums (hS x hx) (hS y hy) hm lm]
    exact h _ ((mT _).mpr ⟨y, hy, rfl⟩) fun e => ne (sums_inj (hS y hy) (hS x hx) hm lm e)
  · rintro ⟨x, hx, rfl⟩
    obtain ⟨hx1, hx2⟩ := mem_tops.mp hx
    refine ⟨⟨x, hx1, rfl⟩, fun y hy ne => ?_⟩
    obtain ⟨z, hz, rfl⟩ := (mT y).mp hy
    rw [fit_sums (hS x hx1) (hS z hz) hm lm]
    exact hx2 z hz fun e => ne (by rw [e])

/-! ### what is told of the functions -/
def BagsOf (n : Nat) (ks : List (Addr × List Int)) : Prop := (∀ q ∈ ks, OfLen n q.2) ∧ ks.length < 64
structure BagsAt (H : Hp) (p : Addr) (n : Nat) (ks : List (Addr × List Int)) : Prop where
  tup : H p = some (.tup (refs ks))
  row : ∀ q ∈ ks, H q.1 = some (.tup (q.2.map V.int))
  all : ∀ q ∈ ks, OfLen n q.2
  few : ks.length < 64
theorem BagsAt.same {H H' : Hp} {p : Addr} {n : Nat} {ks : List (Addr × List Int)} (h : BagsAt H p n ks) (s : Same H H') : BagsAt H' p n ks := ⟨s _ _ h.tup, fun q hq => s _ _ (h.row q hq), h.all, h.few⟩
theorem BagsAt.but {H H' : Hp} {d p : Addr} {n : Nat} {ks : List (Addr × List Int)} (h : BagsAt H p n ks) (hd : DieAt H d) (b : But d H H') : BagsAt H' p n ks := ⟨b.tup hd h.tup, fun q hq => b.tup hd (h.row q hq), h.all, h.few⟩
def spChk : Sp := fun vs H Q _ => ∃ p n ks, vs = [.ref p] ∧ BagsAt H p n ks ∧ ∀ H', Same H H' → Q .non H'
def spTops (le : List Int → List Int → Bool) : Sp := fun vs H Q _ => ∃ p n ks, vs = [.ref p] ∧ BagsAt H p n ks ∧
  ∀ r H' L S, Same H H' → BagsAt H' r n L → Asc S → (∀ k, k ∈ S ↔ k ∈ keys ks) → keys L = tops le S → (∀ q ∈ L, q ∈ ks) → Q (.ref r) H'
theorem ref_at {ks : List (Addr × List Int)} {i : Nat} {x : V} (h : (refs ks)[i]? = some x) : ∃ q, ks[i]? = some q ∧ x = .ref q.1 ∧ q ∈ ks := by
  rw [List.getElem?_map, Option.map_eq_some_iff] at h
  obtain ⟨q, hq, rfl⟩ := h
  exact ⟨q, hq, rfl, List.mem_of_getElem? hq⟩
theorem rowsIn_of {K : PySem.W.Frag} {H : Hp} {ks : List (Addr × List Int)} (h : ∀ q ∈ ks, H q.1 = some (.tup (q.2.map V.int))) : RowsIn K H ks := fun q hq => .inl (.inl (h q hq))
theorem take_keys {α : Type} {l : List α} {i : Nat} {x : α} (h : l[i]? = some x) : l.take (i + 1) = l.take i ++ [x] := by
  rw [List.take_add_one, h]
  rfl
/-- the greatest or the least ones, as they are told -/
structure Told1 (H : Hp) (t : Addr) (n : Nat) (ks M : List (Addr × List Int)) : Prop where
  at_ : BagsAt H t n M
  asc : Asc (keys M)
  sub : ∀ q ∈ M, q ∈ ks
  quiet : ∀ x ∈ keys M, ∀ y ∈ keys M, y ≠ x → fitsB x y = false
theorem Told1.same {H H' : Hp} {t : Addr} {n : Nat} {ks M : List (Addr × List Int)} (h : Told1 H t n ks M) (s : Same H H') : Told1 H' t n ks M := ⟨h.at_.same s, h.asc, h.sub, h.quiet⟩
theorem keys_mem {ks : List (Addr × List Int)} {q : Addr × List Int} (h : q ∈ ks) : q.2 ∈ keys ks := List.mem_map.mpr ⟨q, h, rfl⟩
theorem OfLen.ne {n : Nat} {k : List Int} (h : OfLen n k) : k ≠ [] := fun e => by
  have := h.1.1
  rw [e] at this
  simp at this
theorem allC {α : Type} {p : α → Prop} {x : α} {l : List α} (h : p x) (r : ∀ y ∈ l, p y) : ∀ y ∈ x :: l, p y := fun y hy => by
  rcases List.mem_cons.mp hy with rfl | hy
  · exact h
  · exact r y hy
theorem allN {α : Type} {p : α → Prop} : ∀ y ∈ ([] : List α), p y := fun y hy => nomatch hy
end Zt

namespace My
open PySem PySem.Spec PyProof.Rows L2 RZ Sh

abbrev topS (i : Nat) : Stmt := PySem.Challenge.pw_postedbag_k03_whole_greatest_and_least.main.body.getD i (.Pass ⟨0, 0, 0, 0⟩)
abbrev s_law_numbers : Stmt := topS 19
abbrev Nlaw_numbers : List Str := ["script", "at", "cell", "whole", "mixed"]
theorem sc_law_numbers : FnScope Nlaw_numbers ["script", "at"] (defScope s_law_numbers) := ⟨rfl, rfl, rfl, by decide +kernel, rfl, by decide +kernel, by decide +kernel⟩
abbrev s_law_cast : Stmt := topS 20
abbrev Nlaw_cast : List Str := ["die", "total", "found", "one", "two"]
theorem sc_law_cast : FnScope Nlaw_cast ["die", "total"] (defScope s_law_cast) := ⟨rfl, rfl, rfl, by decide +kernel, rfl, by decide +kernel, by decide +kernel⟩
abbrev s_law_pick : Stmt := topS 21
abbrev Nlaw_pick : List Str := ["die", "items"]
theorem sc_law_pick : FnScope Nlaw_pick ["die", "items"] (defScope s_law_pick) := ⟨rfl, rfl, rfl, by decide +kernel, rfl, by decide +kernel, by decide +kernel⟩
section
variable {P : Program} {w : World} {K : PySem.W.Frag} {mg : Str → Option Value} {base : Heap}
theorem ok_numbers {f : Addr} {fd : FuncData} {k : Nat} (F : Fun K "_law_numbers" "_law_numbers" s_law_numbers f fd) (m_len : mg "len" = none) (m_int : mg "int" = none) (m_abs : mg "abs" = none) (m_max : mg "max" = none) :
    FnOk P w K mg base CX0 (k + 1) f fd ["script", "at"] (spNumbers K) := by
  refine F.ok sc_law_numbers (fun vs H Q E h => ?_) (fun cdv A outer s H vs Q E hr h => ?_)
  · obtain ⟨a, ns, i, rfl, _⟩ := h
    rfl
  · obtain ⟨a, ns, i, rfl, hi0, hS, q⟩ := h
    obtain ⟨i, rfl⟩ := Int.eq_ofNat_of_zero_le hi0
    refine ⟨_, (C8.pss_cut (ps_set (i := 2) sc_law_numbers.nd rfl (by first | exact Or.inl rfl | exact Or.inr rfl) (pe_ifExp (pt_cmpR op_lt (pv 1) (pe_callB call_len_seq (by rfl) m_len (by decide +kernel) (pa_cons (pv 0) pa_nil)) (nomark _)) (pe_ix ix_list (pv 0) (pv 1) (fun _ _ => rfl)) (pe_op op_add (pe_op op_mul pe_int (pv 1)) pe_int)))
      (pss_cons (ps_set (i := 3) sc_law_numbers.nd rfl (by first | exact Or.inl rfl | exact Or.inr rfl) (pe_op op_mod (pe_callTy call_int1 (by rfl) m_int (by decide +kernel) (pa_cons (pe_callB call_abs (by rfl) m_abs (by decide +kernel) (pa_cons (pv 2) pa_nil)) pa_nil)) (pe_op op_powB (pe_op op_powB pe_int pe_int) pe_int)))
      (pss_cons (ps_set (i := 4) sc_law_numbers.nd rfl (by first | exact Or.inl rfl | exact Or.inr rfl) (pe_op op_add (pe_op op_add (pe_op op_add (pe_op op_mul (pv 3) pe_int) (pe_op op_mul pe_int (pv 1))) (pe_op op_mul pe_int (pe_callTy call_int1 (by rfl) m_int (by decide +kernel) (pa_cons (pe_cmpR op_lt (pv 2) pe_int (nomark _)) pa_nil)))) pe_int))
      (pss_one (ps_ret (pe_lst (pa_cons (pe_callB (call_max2 rfl) (by rfl) m_max (by decide +kernel) (pa_cons pe_int (pa_cons (pe_op op_sub (pv 3) (pe_op op_powB pe_int pe_int)) pa_nil))) (pa_cons (pe_op op_mod (pe_callTy call_int1 (by rfl) m_int (by decide +kernel) (pa_cons (pv 4) pa_nil)) pe_int) (pa_cons pe_int pa_nil))))))))), ?_⟩
    refine ⟨fun σ' H' => ∃ c : Int, σ' = [some (.ref a), some (.int i), some (.int c), none, none] ∧ H' = H, ?_, fun σ' H' hM => ?_⟩
    · refine ⟨.int i, rfl, .ref a, rfl, a, ns.map V.int, rfl, .inl hS, i, _, rfl, rfl, _, rfl, ite2 (fun e => ?_) (fun e => ?_)⟩
      · have hi : i < ns.length := by
          have := of_decide_eq_true e
          rw [List.length_map] at this
          omega
        refine ⟨.ref a, rfl, .int i, rfl, a, _, i, .int ns[i], rfl, rfl, hS, atI_nat (by rw [List.getElem?_map, List.getElem?_eq_getElem hi]; rfl), ?_⟩
        exact ⟨_, rfl, rfl⟩
      · refine ⟨.int i, rfl, 67, i, rfl, rfl, .inl ⟨by decide, by decide⟩, 67 * i, 23, rfl, rfl, ?_⟩
        exact ⟨_, rfl, rfl⟩
    · obtain ⟨c, rfl, rfl⟩ := hM
      refine ⟨.int c, rfl, c, rfl, .inl ⟨_, rfl, 10, 57, rfl, rfl, ⟨by decide, by decide +kernel⟩, _, 11, rfl, rfl, ⟨by decide, by decide +kernel⟩, _, _, rfl, rfl, (by show (0 : Int) < (10 ^ (57 : Int).toNat) ^ (11 : Int).toNat; decide +kernel), ?_⟩⟩
      show tSeq _ _ _ [_, _, _, some (.int ((if c < 0 then -c else c) % (10 ^ (57 : Int).toNat) ^ (11 : Int).toNat)), _] _
      generalize (if c < 0 then -c else c) % (10 ^ (57 : Int).toNat) ^ (11 : Int).toNat = wh
      refine ⟨.int wh, rfl, wh, 1000151, rfl, rfl, .inr ⟨by decide, by decide⟩, .int i, rfl, 8243, i, rfl, rfl, .inl ⟨by decide, by decide⟩, _, _, rfl, rfl, .int c, rfl, c, 0, rfl, rfl, .inr ⟨_, rfl, 43, _, rfl, rfl, .inl ⟨by decide, by decide⟩, _, _, rfl, rfl, _, 9, rfl, rfl, ?_⟩⟩
      refine ⟨.int wh, rfl, 10, 16, rfl, rfl, ⟨by decide, by decide +kernel⟩, _, _, rfl, rfl, 0, _, rfl, _, rfl, .inl ⟨_, rfl, _, _, rfl, rfl, (by show (0 : Int) < 1152921504606846877; decide), by show 3 ≤ sizeLine; decide, fun p hp => ?_⟩⟩
      exact q p _ _ hp
theorem ok_cast {f : Addr} {fd : FuncData} {k : Nat} (F : Fun K "_law_cast" "_law_cast" s_law_cast f fd) (m_int : mg "int" = none) :
    FnOk P w K mg base CX0 (k + 1) f fd ["die", "total"] spCast := by
  refine F.ok sc_law_cast (fun vs H Q E h => ?_) (fun cdv A outer s H vs Q E hr h => ?_)
  · obtain ⟨d, n, rfl, _⟩ := h
    rfl
  · obtain ⟨d, n, rfl, ⟨a, b, c, hD⟩, n0, n1, q⟩ := h
    have sq : SqL K H d [.int a, .int b, .int c] := .inl (.inl hD)
    refine ⟨_, (pss_cons (ps_if (pt_cmpR op_gt (pe_ix ix_list (pv 0) pe_int (fun _ _ => rfl)) pe_int (nomark _))
        (pss_cons (ps_set (i := 2) sc_law_cast.nd rfl (by first | exact Or.inl rfl | exact Or.inr rfl) (pe_op op_mod (pe_callTy call_int1 (by rfl) m_int (by decide +kernel) (pa_cons (pe_ix ix_list (pv 0) pe_int (fun _ _ => rfl)) pa_nil)) (pv 1)))
        (pss_cons (ps_asg (pe_op op_fdiv (pe_ix ix_list (pv 0) pe_int (fun _ _ => rfl)) (pv 1)) (pg_sub (pv 0) pe_int set_list))
        (pss_one (ps_ret (pv 2)))))
        pss_nil)
      (pss_cons (ps_asg (pe_op op_add (pe_ix ix_list (pv 0) pe_int (fun _ _ => rfl)) pe_int) (pg_sub (pv 0) pe_int set_list))
      (pss_cons (ps_set (i := 3) sc_law_cast.nd rfl (by first | exact Or.inl rfl | exact Or.inr rfl) (pe_op op_mod (pe_callTy call_int1 (by rfl) m_int (by decide +kernel) (pa_cons (pe_op op_add (pe_ix ix_list (pv 0) pe_int (fun _ _ => rfl)) (pe_op op_mul pe_int (pe_ix ix_list (pv 0) pe_int (fun _ _ => rfl)))) pa_nil)) pe_int))
      (pss_cons (ps_set (i := 4) sc_law_cast.nd rfl (by first | exact Or.inl rfl | exact Or.inr rfl) (pe_op op_add (pe_op op_mul (pe_op op_mod (pe_callTy call_int1 (by rfl) m_int (by decide +kernel) (pa_cons (pe_op op_mul (pv 3) (pv 3)) pa_nil)) pe_int) (pv 3)) (pe_op op_mul pe_int (pe_ix ix_list (pv 0) pe_int (fun _ _ => rfl)))))
      (pss_one (ps_ret (pe_op op_mod (pe_callTy call_int1 (by rfl) m_int (by decide +kernel) (pa_cons (pe_op op_fdiv (pe_op op_mod (pe_callTy call_int1 (by rfl) m_int (by decide +kernel) (pa_cons (pe_op op_add (pv 4) (pe_ix ix_list (pv 0) pe_int (fun _ _ => rfl))) pa_nil)) pe_int) pe_int) pa_nil)) (pv 1)))))))), ?_⟩
    refine ⟨.ref d, rfl, d, _, 0, .int a, rfl, rfl, sq, rfl, _, 0, rfl, rfl, _, rfl, ite2 (fun e => ?_) (fun e => ?_)⟩
    · refine ⟨.ref d, rfl, d, _, 0, .int a, rfl, rfl, sq, rfl, .inl ⟨a, rfl, .int n, rfl, a, n, rfl, rfl, n0, ?_⟩⟩
      refine ⟨.ref d, rfl, d, _, 0, .int a, rfl, rfl, sq, rfl, .int n, rfl, a, n, rfl, rfl, ⟨n0, n1⟩, .ref d, rfl, d, _, 0, 0, rfl, rfl, hD, rfl, ?_⟩
      refine ⟨_, rfl, ?_⟩
      have h1 : 0 ≤ a % n := Int.emod_nonneg _ (by omega)
      have h2 : a % n < n := Int.emod_lt_of_pos _ n0
      have h3 := q (a % n).toNat (upd H d (.lst [.int (a / n), .int b, .int c])) (by omega) ⟨_, _, _, rfl⟩
      rw [Int.toNat_of_nonneg h1] at h3
      exact h3
    · refine ⟨.ref d, rfl, d, _, 2, .int c, rfl, rfl, sq, rfl, c, 1, rfl, rfl, .ref d, rfl, d, _, 2, 2, rfl, rfl, hD, rfl, ?_⟩
      have sq2 : SqL K (upd H d (.lst [.int a, .int b, .int (c + 1)])) d [.int a, .int b, .int (c + 1)] := .inl (.inl upd_same)
      refine ⟨.ref d, rfl, d, _, 1, .int b, rfl, rfl, sq2, rfl, .ref d, rfl, d, _, 2, .int (c + 1), rfl, rfl, sq2, rfl, 654188429, c + 1, rfl, rfl, .inl ⟨by decide, by decide⟩, b, _, rfl, rfl, .inl ⟨_, rfl, _, _, rfl, rfl, (by show (0 : Int) < 2305843009213693913; decide), ?_⟩⟩
      have one0 : 0 ≤ (b + 654188429 * (c + 1)) % 2305843009213693913 := Int.emod_nonneg _ (by decide)
      have one1 : (b + 654188429 * (c + 1)) % 2305843009213693913 < 2305843009213693913 := Int.emod_lt_of_pos _ (by decide)
      show tSeq _ _ _ [_, _, _, some (.int ((b + 654188429 * (c + 1)) % 2305843009213693913)), _] _
      generalize (b + 654188429 * (c + 1)) % 2305843009213693913 = one at one0 one1
      refine ⟨.int one, rfl, .int one, rfl, one, one, rfl, rfl, .inl ⟨by omega, by omega⟩, .inl ⟨_, rfl, _, _, rfl, rfl, (by show (0 : Int) < 1152921504606846689; decide), .int one, rfl, _, one, rfl, rfl, .inr ⟨by omega, by omega⟩, .ref d, rfl, d, _, 2, .int (c + 1), rfl, rfl, sq2, rfl, 7213, c + 1, rfl, rfl, .inl ⟨by decide, by decide⟩, _, _, rfl, rfl, ?_⟩⟩
      refine ⟨_, rfl, .ref d, rfl, d, _, 1, .int b, rfl, rfl, sq2, rfl, _, b, rfl, rfl, .inl ⟨_, rfl, _, _, rfl, rfl, (by show (0 : Int) < 8796093022121; decide), _, 64, rfl, rfl, ⟨by decide, by decide⟩, .inl ⟨_, rfl, .int n, rfl, _, n, rfl, rfl, n0, ?_⟩⟩⟩
      show Q (.int ((one * one % 1152921504606846689 * one + 7213 * (c + 1) + b) % 8796093022121 / 64 % n)) _
      generalize (one * one % 1152921504606846689 * one + 7213 * (c + 1) + b) % 8796093022121 / 64 = x
      have h1 : 0 ≤ x % n := Int.emod_nonneg _ (by omega)
      have h2 : x % n < n := Int.emod_lt_of_pos _ n0
      have h3 := q (x % n).toNat (upd H d (.lst [.int a, .int b, .int (c + 1)])) (by omega) ⟨_, _, _, rfl⟩
      rw [Int.toNat_of_nonneg h1] at h3
      exact h3
theorem ok_pick {f fC : Addr} {fd fdC : FuncData} (F : Fun K "_law_pick" "_law_pick" s_law_pick f fd) (F__law_cast : Fun K "_law_cast" "_law_cast" s_law_cast fC fdC) (b__law_cast : Binds K fdC ["die", "total"] []) (g__law_cast : mg "_law_cast" = some (.ref fC)) (m_len : mg "len" = none) (m_int : mg "int" = none) :
    FnOk P w K mg base CX0 2 f fd ["die", "items"] (spPick K) := by
  have G__law_cast : FnOk P w K mg base CX0 1 fC fdC ["die", "total"] spCast := ok_cast F__law_cast m_int
  refine F.ok sc_law_pick (fun vs H Q E h => ?_) (fun cdv A outer s H vs Q E hr h => ?_)
  · obtain ⟨d, _, h⟩ := h
    rcases h with ⟨p, xs, rfl, _⟩ | ⟨z, rfl, _⟩ <;> rfl
  · obtain ⟨d, hD, h⟩ := h
    refine ⟨_, (pss_one (ps_ret (pe_ix ix_seq (pv 1) (pe_call G__law_cast (hr.mono (by decide)) (by rfl) g__law_cast F__law_cast.kp b__law_cast .nil pass0 (pa_cons (pv 0) (pa_cons (pe_callB (call_len_seq.or call_len_str) (by rfl) m_len (by decide +kernel) (pa_cons (pv 1) pa_nil)) pa_nil))) (fun _ _ => rfl)))), ?_⟩
    rcases h with ⟨p, xs, rfl, np, hS, h0, h1, q⟩ | ⟨z, rfl, h0, h1, q⟩
    · have h2 : 0 < xs.length := List.length_pos_iff.mpr h0
      refine ⟨.ref p, rfl, .ref d, rfl, .ref p, rfl, .inl ⟨p, xs, rfl, hS, d, _, rfl, hD, by omega, by omega, fun r H' hr' hN => ?_⟩⟩
      have hj : r < xs.length := by omega
      rcases hS with hS | hS
      · exact .inl ⟨p, xs, r, xs[r], rfl, rfl, hN.but.seq np hS, atI_nat (List.getElem?_eq_getElem hj), q r _ H' (List.getElem?_eq_getElem hj) hN⟩
      · exact .inr (.inl ⟨p, xs, r, xs[r], rfl, rfl, hN.but.seqT np hS, atI_nat (List.getElem?_eq_getElem hj), q r _ H' (List.getElem?_eq_getElem hj) hN⟩)
    · refine ⟨.str z, rfl, .ref d, rfl, .str z, rfl, .inr ⟨z, rfl, Nat.le_of_lt (small1000 h1), d, _, rfl, hD, by omega, by omega, fun r H' hr' hN => ?_⟩⟩
      have hj : r < z.cps.toList.length := by
        show r < z.cps.toList.length
        have : z.cps.toList.length = z.length := by simp [Str.length]
        omega
      exact .inr (.inr ⟨z, r, z.cps.toList[r], rfl, rfl, Nat.le_of_lt (small1000 h1), atI_nat (List.getElem?_eq_getElem hj), q r _ H' (List.getElem?_eq_getElem hj) hN⟩)
end
abbrev s_is_integer : Stmt := topS 1
abbrev Nis_integer : List Str := ["value"]
theorem sc_is_integer : FnScope Nis_integer ["value"] (defScope s_is_integer) := ⟨rfl, rfl, rfl, by decide +kernel, rfl, by decide +kernel, by decide +kernel⟩
abbrev s_has_entries : Stmt := topS 8
abbrev Nhas_entries : List Str := ["value", "low", "entry"]
theorem sc_has_entries : FnScope Nhas_entries ["value", "low"] (defScope s_has_entries) := ⟨rfl, rfl, rfl, by decide +kernel, rfl, by decide +kernel, by decide +kernel⟩
abbrev s_is_wide : Stmt := topS 9
abbrev Nis_wide : List Str := ["value"]
theorem sc_is_wide : FnScope Nis_wide ["value"] (defScope s_is_wide) := ⟨rfl, rfl, rfl, by decide +kernel, rfl, by decide +kernel, by decide +kernel⟩
abbrev s_check_pair : Stmt := topS 10
abbrev Ncheck_pair : List Str := ["one", "other"]
theorem sc_check_pair : FnScope Ncheck_pair ["one", "other"] (defScope s_check_pair) := ⟨rfl, rfl, rfl, by decide +kernel, rfl, by decide +kernel, by decide +kernel⟩
abbrev s_fits : Stmt := topS 12
abbrev Nfits : List Str := ["one", "other", "entry", "most"]
theorem sc_fits : FnScope Nfits ["one", "other"] (defScope s_fits) := ⟨rfl, rfl, rfl, by decide +kernel, rfl, by decide +kernel, by decide +kernel⟩
abbrev s_summed : Stmt := topS 13
abbrev Nsummed : List Str := ["one", "other", "pair"]
theorem sc_summed : FnScope Nsummed ["one", "other"] (defScope s_summed) := ⟨rfl, rfl, rfl, by decide +kernel, rfl, by decide +kernel, by decide +kernel⟩
abbrev s_within : Stmt := topS 14
abbrev Nwithin : List Str := ["one", "other"]
theorem sc_within : FnScope Nwithin ["one", "other"] (defScope s_within) := ⟨rfl, rfl, rfl, by decide +kernel, rfl, by decide +kernel, by decide +kernel⟩
abbrev s_added : Stmt := topS 15
abbrev Nadded : List Str := ["one", "other"]
theorem sc_added : FnScope Nadded ["one", "other"] (defScope s_added) := ⟨rfl, rfl, rfl, by decide +kernel, rfl, by decide +kernel, by decide +kernel⟩
section
variable {P : Program} {w : World} {K : PySem.W.Frag} {mg : Str → Option Value} {base : Heap}
theorem ok_is_integer {f : Addr} {fd : FuncData} {k : Nat} (F : Fun K "is_integer" "is_integer" s_is_integer f fd) (m_isinstance : mg "isinstance" = none) (m_int : mg "int" = none) (m_bool : mg "bool" = none) :
    FnOk P w K mg base CX0 (k + 1) f fd ["value"] spInt := by
  refine F.ok sc_is_integer (fun vs H Q E h => ?_) (fun cdv A outer s H vs Q E hr h => ?_)
  · obtain ⟨v, rfl, _⟩ := h
    rfl
  · obtain ⟨v, rfl, hK, q⟩ := h
    refine ⟨_, (pss_one (ps_ret (pe_and (pe_callB call_isi (by rfl) m_isinstance (by decide +kernel) (pa_cons (pv 0) (pa_cons (pe_bltn (v := .ty "int") (by rfl) m_int (by decide +kernel) rfl) pa_nil))) (pe_one (pe_not (pe_callB call_isi (by rfl) m_isinstance (by decide +kernel) (pa_cons (pv 0) (pa_cons (pe_bltn (v := .ty "bool") (by rfl) m_bool (by decide +kernel) rfl) pa_nil)))))))), ?_⟩
    obtain ⟨T, hT, h1, h2⟩ := hK.ty (K := K)
    refine ⟨_, rfl, _, _, _, _, _, rfl, .ty "int", hT, kit_ty h1, _, rfl, ite2 (fun e => ?_) (fun e => ?_)⟩
    · refine ⟨_, rfl, _, _, _, _, _, rfl, .ty "bool", hT, kit_ty h2, _, rfl, ?_⟩
      rw [not_kept e]
      exact q
    · rw [none_kept e]
      exact q
theorem ok_has_entries {f fI : Addr} {fd fdI : FuncData} (F : Fun K "has_entries" "has_entries" s_has_entries f fd) (F_is_integer : Fun K "is_integer" "is_integer" s_is_integer fI fdI) (b_is_integer : Binds K fdI ["value"] []) (g_is_integer : mg "is_integer" = some (.ref fI))
    {tk : Tok} (g_MOST_PROCEDURES : mg "MOST_PROCEDURES" = some (.int 5 tk)) (m_isinstance : mg "isinstance" = none) (m_tuple : mg "tuple" = none) (m_len : mg "len" = none) (m_all : mg "all" = none) (m_int : mg "int" = none) (m_bool : mg "bool" = none) :
    FnOk P w K mg base CX0 2 f fd ["value", "low"] spEnt := by
  have G_is_integer : FnOk P w K mg base CX0 1 fI fdI ["value"] spInt := ok_is_integer F_is_integer m_isinstance m_int m_bool
  refine F.ok sc_has_entries (fun vs H Q E h => ?_) (fun cdv A outer s H vs Q E hr h => ?_)
  · obtain ⟨v, low, rfl, _⟩ := h
    rfl
  · obtain ⟨v, low, rfl, h⟩ := h
    refine ⟨_, (pss_cons (ps_if (PW.pt (pw_or (pt_not (pt_val (pe_callB call_isi (by rfl) m_isinstance (by decide +kernel) (pa_cons (pv 0) (pa_cons (pe_bltn (v := .ty "tuple") (by rfl) m_tuple (by decide +kernel) rfl) pa_nil))))) (pw_or1 (pt_not (pt_chain op_le op_le pe_int (pe_callB call_len_seq (by rfl) m_len (by decide +kernel) (pa_cons (pv 0) pa_nil)) (pe_glob (v := .int 5) rfl g_MOST_PROCEDURES ⟨_, rfl⟩))))))
        (pss_one (ps_ret pe_bl))
        pss_nil)
      (pss_one (ps_ret (pe_callB (cr_all rfl) (by rfl) m_all (by decide +kernel) (pa_cons (pe_lc (own := [("entry", 2)]) (g := (gName 2)) (tt := tYes) rfl sc_has_entries.nd (pi_tup (pv 0)) (blkOk_by (N := Nhas_entries) (sc := defScope s_has_entries) (by decide +kernel))
      (fun _ _ _ _ _ => (pg_name (i := 2) sc_has_entries.nd rfl (Or.inl rfl))) (fun _ _ _ _ _ => pts_nil) (fun _ _ _ _ _ => (pe_and (pe_call G_is_integer (hr.mono (by decide)) (by rfl) g_is_integer F_is_integer.kp b_is_integer .nil pass0 (pa_cons (pv 2) pa_nil)) (pe_one (pe_cmpR op_ge (pv 2) (pv 1) (nomark _)))))) pa_nil))))), ?_⟩
    rcases h with ⟨hN, q⟩ | ⟨p, xs, rfl, hp, hl, hK, q⟩
    · obtain ⟨T, hT, h1, _⟩ := hN.ty (K := K)
      exact ⟨_, rfl, _, _, _, _, false, rfl, .ty "tuple", hT, kit_ty h1, false, rfl, iteT (iteT (q H (Same.refl H)))⟩
    · refine ⟨_, rfl, _, _, _, _, true, rfl, .ty "tuple", .base (.tup hp), kit_ty (by decide +kernel), true, rfl, iteF ?_⟩
      refine ⟨_, rfl, p, xs, rfl, .inr (.inl (.inl hp)), 1, _, rfl, rfl, _, rfl, ite2 (fun e1 => ?_) (fun e1 => ?_)⟩
      · refine ⟨_, 5, rfl, rfl, _, rfl, ?_⟩
        have l1 : 1 ≤ xs.length := by have := of_decide_eq_true e1; omega
        by_cases e2 : ((xs.length : Nat) : Int) ≤ 5
        · have l2 : xs.length ≤ 5 := by omega
          rw [decide_eq_true e2]
          refine iteF ?_
          refine ⟨_, rfl, p, rfl, ⟨xs, .inl (.inl hp)⟩, fun D hD => lc_tup (xs := xs) (fun i H1 => Same H H1 ∧ H1 D = some (.lst ((xs.take i).map fun x => V.bl (entB low x)))) ⟨same_new (Same.refl H) hD, upd_same⟩ (fun i H1 _ hp1 => .inl (.inl (hp1.1 _ _ hp))) (fun i x H1 hx hp1 => ?_) (fun H1 hp1 => ?_)⟩
          · obtain ⟨sm, hD1⟩ := hp1
            have hi : i < xs.length := (List.getElem?_eq_some_iff.mp hx).1
            have hk : Kn H1 x := (hK x (List.mem_of_getElem? hx)).same sm
            have fin : ∀ b, b = entB low x → ∃ acc, H1 D = some (.lst acc) ∧ acc.length < sizeLine ∧ (Same H (upd H1 D (.lst (acc ++ [V.bl b]))) ∧ (upd H1 D (.lst (acc ++ [V.bl b]))) D = some (.lst ((xs.take (i + 1)).map fun x => V.bl (entB low x)))) := fun b hb => by
              refine ⟨_, hD1, ?_, same_put sm hD, ?_⟩
              · rw [List.length_map, List.length_take]
                exact small1000 (Nat.le_trans (Nat.min_le_left _ _) (by omega))
              · rw [upd_same, hb, List.take_add_one, hx, List.map_append]
                rfl
            refine ⟨rfl, x, rfl, x, rfl, hk, _, rfl, ?_⟩
            cases x with
            | int i => exact iteT ⟨_, rfl, _, rfl, i, low, rfl, rfl, fin _ rfl⟩
            | _ => exact iteF (fin _ rfl)
          · obtain ⟨sm, hD1⟩ := hp1
            refine ⟨D, xs.map (entB low), rfl, .inl (.inl ?_), ?_⟩
            · rw [hD1, List.take_of_length_le (Nat.le_refl _), List.map_map]
              rfl
            · have e3 : entOk low xs = (xs.map (entB low)).all id := by
                unfold entOk
                rw [decide_eq_true l1, decide_eq_true l2, Bool.true_and, Bool.true_and]
              rw [e3] at q
              exact q H1 sm
        · rw [decide_eq_false e2]
          refine iteT ?_
          have e3 : entOk low xs = false := by
            unfold entOk
            rw [decide_eq_false (show ¬ xs.length ≤ 5 by omega), Bool.and_false, Bool.false_and]
          rw [e3] at q
          exact q H (Same.refl H)
      · have e2 : entOk low xs = false := by
          have : ¬ (1 ≤ xs.length) := fun c => e1 (decide_eq_true (by omega))
          unfold entOk
          rw [decide_eq_false this, Bool.false_and, Bool.false_and]
        rw [e2] at q
        exact ⟨false, rfl, iteT (q H (Same.refl H))⟩
theorem ok_is_wide {f fE : Addr} {fd fdE : FuncData} (F : Fun K "is_wide" "is_wide" s_is_wide f fd) (G_has_entries : FnOk P w K mg base CX0 2 fE fdE ["value", "low"] spEnt) (F_has_entries : Fun K "has_entries" "has_entries" s_has_entries fE fdE) (b_has_entries : Binds K fdE ["value", "low"] []) (g_has_entries : mg "has_entries" = some (.ref fE))
    {tk : Tok} (g_ANY : mg "ANY" = some (.int (-1) tk)) : FnOk P w K mg base CX0 3 f fd ["value"] (spEnt1 (-1)) := by
  refine F.ok sc_is_wide (fun vs H Q E h => ?_) (fun cdv A outer s H vs Q E hr h => ?_)
  · obtain ⟨v, rfl, _⟩ := h
    rfl
  · obtain ⟨v, rfl, h⟩ := h
    refine ⟨_, (pss_one (ps_ret (pe_call G_has_entries (hr.mono (by decide)) (by rfl) g_has_entries F_has_entries.kp b_has_entries .nil pass0 (pa_cons (pv 0) (pa_cons (pe_glob (v := .int (-1)) rfl g_ANY ⟨_, rfl⟩) pa_nil))))), ?_⟩
    exact ⟨_, rfl, v, (-1), rfl, h⟩
theorem ok_check_pair {f fW : Addr} {fd fdW : FuncData} (F : Fun K "check_pair" "check_pair" s_check_pair f fd) (G_is_wide : FnOk P w K mg base CX0 3 fW fdW ["value"] (spEnt1 (-1))) (F_is_wide : Fun K "is_wide" "is_wide" s_is_wide fW fdW) (b_is_wide : Binds K fdW ["value"] []) (g_is_wide : mg "is_wide" = some (.ref fW)) (m_len : mg "len" = none) :
    FnOk P w K mg base CX0 4 f fd ["one", "other"] spPair := by
  refine F.ok sc_check_pair (fun vs H Q E h => ?_) (fun cdv A outer s H vs Q E hr h => ?_)
  · obtain ⟨ns, ms, ⟨p, q, rfl, _⟩, _⟩ := h
    rfl
  · obtain ⟨ns, ms, ⟨p, q, rfl, hp, hq, wn, wm, hl⟩, kq⟩ := h
    refine ⟨_, (pss_cons (ps_if (PW.pt (pw_or (pt_not (pt_val (pe_call G_is_wide (hr.mono (by decide)) (by rfl) g_is_wide F_is_wide.kp b_is_wide .nil pass0 (pa_cons (pv 0) pa_nil)))) (pw_or1 (pt_not (pt_val (pe_call G_is_wide (hr.mono (by decide)) (by rfl) g_is_wide F_is_wide.kp b_is_wide .nil pass0 (pa_cons (pv 1) pa_nil)))))))
        (pss_one ps_never)
        pss_nil)
      (pss_one (ps_if (pt_cmpR op_ne (pe_callB call_len_seq (by rfl) m_len (by decide +kernel) (pa_cons (pv 0) pa_nil)) (pe_callB call_len_seq (by rfl) m_len (by decide +kernel) (pa_cons (pv 1) pa_nil)) (nomark _))
        (pss_one ps_never)
        pss_nil))), ?_⟩
    refine ⟨_, rfl, _, rfl, .inr ⟨p, _, rfl, hp, wn.len, ints_kn, fun H1 s1 => ⟨_, rfl, ?_⟩⟩⟩
    rw [wn.ok]
    refine iteF ⟨_, rfl, _, rfl, .inr ⟨q, _, rfl, s1 _ _ hq, wm.len, ints_kn, fun H2 s2 => ⟨_, rfl, ?_⟩⟩⟩
    rw [wm.ok]
    refine iteF ⟨_, rfl, p, _, rfl, .inr (.inl (.inl (s2 _ _ (s1 _ _ hp)))), _, rfl, q, _, rfl, .inr (.inl (.inl (s2 _ _ (s1 _ _ hq)))), rfl, _, rfl, ?_⟩
    have e : decide (V.int (((ns.map V.int).length : Nat) : Int) = V.int (((ms.map V.int).length : Nat) : Int)) = true := decide_eq_true (by rw [List.length_map, List.length_map, hl])
    rw [e]
    exact iteF (kq H2 (s1.trans s2))
theorem ok_fits {f : Addr} {fd : FuncData} {k : Nat} (F : Fun K "fits" "fits" s_fits f fd) {tk : Tok} (g_ANY : mg "ANY" = some (.int (-1) tk)) (m_all : mg "all" = none) (m_zip : mg "zip" = none) :
    FnOk P w K mg base CX0 (k + 1) f fd ["one", "other"] spFits := by
  refine F.ok sc_fits (fun vs H Q E h => ?_) (fun cdv A outer s H vs Q E hr h => ?_)
  · obtain ⟨ns, ms, ⟨p, q, rfl, _⟩, _⟩ := h
    rfl
  · obtain ⟨ns, ms, ⟨p, q, rfl, hp, hq, wn, wm, hl⟩, kq⟩ := h
    refine ⟨_, (pss_one (ps_ret (pe_callB (cr_all rfl) (by rfl) m_all (by decide +kernel) (pa_cons (pe_lc (own := [("entry", 2), ("most", 3)]) (g := (gTup K 2 (gCons (gName 2) (gCons (gName 3) gNil)))) (tt := tYes) rfl sc_fits.nd (pi_zipA (by rfl) m_zip (pa_cons (pv 0) (pa_cons (pv 1) pa_nil))) (blkOk_by (N := Nfits) (sc := defScope s_fits) (by decide +kernel))
      (fun _ _ _ _ _ => (pg_tup rfl (pgs_cons (pg_name (i := 2) sc_fits.nd rfl (Or.inl rfl)) (pgs_cons (pg_name (i := 3) sc_fits.nd rfl (Or.inl rfl)) pgs_nil)))) (fun _ _ _ _ _ => pts_nil) (fun _ _ _ _ _ => (pe_or (pe_cmpR op_eq (pv 3) (pe_glob (v := .int (-1)) rfl g_ANY ⟨_, rfl⟩) (nomark _)) (pe_one (pe_chain op_le op_le pe_int (pv 2) (pv 3)))))) pa_nil)))), ?_⟩
    refine ⟨_, rfl, _, rfl, p, q, ns.map V.int, ms.map V.int, rfl, .inr ⟨.inl (.inl hp), .inl (.inl hq), fun D hD => ?_⟩⟩
    refine lc_it (walk_zipT (n := (ns.zip ms).length) (xs := ns.map V.int) (ys := ms.map V.int) (by rw [List.length_zip, List.length_map, List.length_map])) (fun i H1 => Same H H1 ∧ H1 D = some (.lst (((ns.zip ms).take i).map fun p => V.bl (fitE p.1 p.2)))) ⟨same_new (Same.refl H) hD, upd_same⟩
      (fun i H1 _ hp1 => ⟨.inl (.inl (hp1.1 _ _ hp)), .inl (.inl (hp1.1 _ _ hq))⟩) (fun i v H1 H2 hi hp1 hy => ?_) (fun H1 hp1 => ?_)
    · obtain ⟨sm, hD1⟩ := hp1
      obtain ⟨T, x, y, rfl, nT, rfl, hx, hy⟩ := hy
      have hz : (ns.zip ms)[i]? = some (ns.zip ms)[i] := List.getElem?_eq_getElem hi
      generalize ez : (ns.zip ms)[i] = em at hz
      obtain ⟨e, m⟩ := em
      obtain ⟨z1, z2⟩ := List.getElem?_zip_eq_some.mp hz
      have hx : (ns.map V.int)[i]? = some x := hx
      have hy : (ms.map V.int)[i]? = some y := hy
      rw [List.getElem?_map, z1] at hx
      rw [List.getElem?_map, z2] at hy
      cases hx
      cases hy
      have hi5 : i < 5 := by
        rw [List.length_zip] at hi
        have := wn.2.1
        omega
      have hD2 : (upd H1 T (.tup [.int e, .int m])) D = some (.lst (((ns.zip ms).take i).map fun p => V.bl (fitE p.1 p.2))) := upd_keep hD1 nT
      have s2 : Same H (upd H1 T (.tup [.int e, .int m])) := same_new sm nT
      have fin : ∀ b, b = fitE e m → ∃ acc, (upd H1 T (.tup [.int e, .int m])) D = some (.lst acc) ∧ acc.length < sizeLine ∧ (Same H (upd (upd H1 T (.tup [.int e, .int m])) D (.lst (acc ++ [V.bl b]))) ∧ (upd (upd H1 T (.tup [.int e, .int m])) D (.lst (acc ++ [V.bl b]))) D = some (.lst (((ns.zip ms).take (i + 1)).map fun p => V.bl (fitE p.1 p.2)))) := fun b hb => by
        refine ⟨_, hD2, ?_, same_put s2 hD, ?_⟩
        · rw [List.length_map, List.length_take]
          exact small1000 (Nat.le_trans (Nat.min_le_left _ _) (by omega))
        · rw [upd_same, hb, List.take_add_one, hz, List.map_append]
          rfl
      refine ⟨T, _, rfl, .inl (.inl upd_same), rfl, .int e, [.int m], rfl, .int m, [], rfl, rfl, rfl, ?_⟩
      refine ⟨.int m, rfl, rfl, _, rfl, ite2 (fun e1 => fin _ ?_) (fun e1 => ⟨_, rfl, 0, e, rfl, rfl, _, rfl, ite2 (fun e2 => ⟨_, rfl, e, m, rfl, rfl, fin _ ?_⟩) (fun e2 => fin _ ?_)⟩)⟩
      · have h1 : m = -1 := V.int.inj (of_decide_eq_true e1)
        show true = (decide (m = -1) || _)
        rw [decide_eq_true h1, Bool.true_or]
      · have h1 : ¬ m = -1 := fun c => e1 (decide_eq_true (by rw [c]))
        have h2 : 0 ≤ e := of_decide_eq_true e2
        show decide (e ≤ m) = (decide (m = -1) || (decide (0 ≤ e) && decide (e ≤ m)))
        rw [decide_eq_false h1, decide_eq_true h2, Bool.false_or, Bool.true_and]
      · have h1 : ¬ m = -1 := fun c => e1 (decide_eq_true (by rw [c]))
        have h2 : ¬ 0 ≤ e := fun c => e2 (decide_eq_true c)
        show false = (decide (m = -1) || (decide (0 ≤ e) && decide (e ≤ m)))
        rw [decide_eq_false h1, decide_eq_false h2, Bool.false_or, Bool.false_and]
    · obtain ⟨sm, hD1⟩ := hp1
      refine ⟨D, (ns.zip ms).map fun e : Int × Int => fitE e.1 e.2, rfl, .inl (.inl ?_), kq H1 sm⟩
      rw [hD1, List.take_of_length_le (Nat.le_refl _), List.map_map]
      rfl
theorem ok_within {f fC fF : Addr} {fd fdC fdF : FuncData} (F : Fun K "within" "within" s_within f fd) (G_check_pair : FnOk P w K mg base CX0 4 fC fdC ["one", "other"] spPair) (F_check_pair : Fun K "check_pair" "check_pair" s_check_pair fC fdC) (b_check_pair : Binds K fdC ["one", "other"] []) (g_check_pair : mg "check_pair" = some (.ref fC))
    (G_fits : FnOk P w K mg base CX0 1 fF fdF ["one", "other"] spFits) (F_fits : Fun K "fits" "fits" s_fits fF fdF) (b_fits : Binds K fdF ["one", "other"] []) (g_fits : mg "fits" = some (.ref fF)) :
    FnOk P w K mg base CX0 5 f fd ["one", "other"] spFits := by
  refine F.ok sc_within (fun vs H Q E h => ?_) (fun cdv A outer s H vs Q E hr h => ?_)
  · obtain ⟨ns, ms, ⟨p, q, rfl, _⟩, _⟩ := h
    rfl
  · obtain ⟨ns, ms, ⟨p, q, rfl, hp, hq, wn, wm, hl⟩, kq⟩ := h
    refine ⟨_, (pss_cons (ps_expr (pe_call G_check_pair (hr.mono (by decide)) (by rfl) g_check_pair F_check_pair.kp b_check_pair .nil pass0 (pa_cons (pv 0) (pa_cons (pv 1) pa_nil))))
      (pss_one (ps_ret (pe_call G_fits (hr.mono (by decide)) (by rfl) g_fits F_fits.kp b_fits .nil pass0 (pa_cons (pv 0) (pa_cons (pv 1) pa_nil)))))), ?_⟩
    exact ⟨_, rfl, _, rfl, ns, ms, ⟨p, q, rfl, hp, hq, wn, wm, hl⟩, fun H1 s1 => ⟨_, rfl, _, rfl, ns, ms, ⟨p, q, rfl, s1 _ _ hp, s1 _ _ hq, wn, wm, hl⟩, fun H2 s2 => kq H2 (s1.trans s2)⟩⟩
theorem ok_summed {f : Addr} {fd : FuncData} {k : Nat} (F : Fun K "summed" "summed" s_summed f fd)
    {tk : Tok} (g_ANY : mg "ANY" = some (.int (-1) tk)) (m_zip : mg "zip" = none) (m_tuple : mg "tuple" = none) (m_sum : mg "sum" = none) :
    FnOk P w K mg base CX0 (k + 1) f fd ["one", "other"] spAdded := by
  refine F.ok sc_summed (fun vs H0 Q E h => ?_) (fun cdv A outer s H0 vs Q E hr h => ?_)
  · obtain ⟨ns, ms, ⟨p, q, rfl, _⟩, _⟩ := h
    rfl
  · obtain ⟨ns, ms, ⟨p, q, rfl, hp, hq, wn, wm, hl⟩, kq⟩ := h
    have s0 : Same H0 H0 := Same.refl H0
    refine ⟨_, (pss_one (ps_ret (pe_callTy call_tuple_of (by rfl) m_tuple (by decide +kernel) (pa_cons (pe_lc (own := [("pair", 2)]) (g := (gName 2)) (tt := tYes) rfl sc_summed.nd (ZN.pi_zipTN (by rfl) m_zip (pa_cons (pv 0) (pa_cons (pv 1) pa_nil))) (blkOk_by (N := Nsummed) (sc := defScope s_summed) (by decide +kernel))
      (fun _ _ _ _ _ => (pg_name (i := 2) sc_summed.nd rfl (Or.inl rfl))) (fun _ _ _ _ _ => pts_nil) (fun _ _ _ _ _ => (pe_ifExp (pt_cmpR (r := rIn K false) op_in_seq (pe_glob (v := .int (-1)) rfl g_ANY ⟨_, rfl⟩) (pv 2) (by with_unfolding_all rfl)) (pe_glob (v := .int (-1)) rfl g_ANY ⟨_, rfl⟩) (pe_callB (id := "sum") (r := rSumT K) (cr_sumT rfl) (by rfl) m_sum (by decide +kernel) (pa_cons (pv 2) pa_nil))))) pa_nil)))), ?_⟩
    refine ⟨_, rfl, _, rfl, p, q, ns.map V.int, ms.map V.int, rfl, .inl (.inl (s0 _ _ hp)), .inl (.inl (s0 _ _ hq)), fun D hD => ?_⟩
    refine lc_it (walk_zipT (n := (ns.zip ms).length) (xs := ns.map V.int) (ys := ms.map V.int) (by rw [List.length_zip, List.length_map, List.length_map])) (fun i H1 => Same H0 H1 ∧ H1 D = some (.lst (((ns.zip ms).take i).map fun p => V.int (addE p.1 p.2)))) ⟨same_new (Same.refl H0) hD, upd_same⟩
      (fun i H1 _ hp1 => ⟨.inl (.inl (hp1.1 _ _ (s0 _ _ hp))), .inl (.inl (hp1.1 _ _ (s0 _ _ hq)))⟩) (fun i v H1 H2 hi hp1 hy => ?_) (fun H1 hp1 => ?_)
    · obtain ⟨sm, hD1⟩ := hp1
      obtain ⟨T, x, y, rfl, nT, rfl, hx, hy⟩ := hy
      have hz : (ns.zip ms)[i]? = some (ns.zip ms)[i] := List.getElem?_eq_getElem hi
      generalize ez : (ns.zip ms)[i] = em at hz
      obtain ⟨e, m⟩ := em
      obtain ⟨z1, z2⟩ := List.getElem?_zip_eq_some.mp hz
      have hx : (ns.map V.int)[i]? = some x := hx
      have hy : (ms.map V.int)[i]? = some y := hy
      rw [List.getElem?_map, z1] at hx
      rw [List.getElem?_map, z2] at hy
      cases hx
      cases hy
      have hi5 : i < 5 := by
        rw [List.length_zip] at hi
        have := wn.2.1
        omega
      have hD2 : (upd H1 T (.tup [.int e, .int m])) D = some (.lst (((ns.zip ms).take i).map fun p => V.int (addE p.1 p.2))) := upd_keep hD1 nT
      have s2 : Same H0 (upd H1 T (.tup [.int e, .int m])) := same_new sm nT
      have fin : ∀ b, b = addE e m → ∃ acc, (upd H1 T (.tup [.int e, .int m])) D = some (.lst acc) ∧ acc.length < sizeLine ∧ (Same H0 (upd (upd H1 T (.tup [.int e, .int m])) D (.lst (acc ++ [V.int b]))) ∧ (upd (upd H1 T (.tup [.int e, .int m])) D (.lst (acc ++ [V.int b]))) D = some (.lst (((ns.zip ms).take (i + 1)).map fun p => V.int (addE p.1 p.2)))) := fun b hb => by
        refine ⟨_, hD2, ?_, same_put s2 hD, ?_⟩
        · rw [List.length_map, List.length_take]
          exact small1000 (Nat.le_trans (Nat.min_le_left _ _) (by omega))
        · rw [upd_same, hb, List.take_add_one, hz, List.map_append]
          rfl
      refine ⟨rfl, .ref T, rfl, T, _, rfl, .inr (.inl (.inl upd_same)), rfl, rfl, _, rfl, ite2 (fun e1 => fin _ ?_) (fun e1 => ⟨.ref T, rfl, T, [e, m], rfl, .inl (.inl upd_same), fin _ ?_⟩)⟩
      · have h1 : e = -1 ∨ m = -1 := by
          have := (show (eqV (.int e) (.int (-1)) || (eqV (.int m) (.int (-1)) || false)) = true from e1)
          rw [Bool.or_false, Bool.or_eq_true] at this
          exact this.imp eq_of_beq eq_of_beq
        unfold addE
        rw [if_pos h1]
      · have h1 : ¬ (e = -1 ∨ m = -1) := fun c => e1 (by
          show (eqV (.int e) (.int (-1)) || (eqV (.int m) (.int (-1)) || false)) = true
          rw [Bool.or_false, Bool.or_eq_true]
          rcases c with rfl | rfl
          · exact .inl (by decide)
          · exact .inr (by decide))
        unfold addE
        rw [if_neg h1]
        show e + (m + 0) = e + m
        omega
    · obtain ⟨sm, hD1⟩ := hp1
      refine ⟨D, (ns.zip ms).map fun e : Int × Int => V.int (addE e.1 e.2), rfl, .inl ⟨.inl (.inl ?_), fun R hR => ?_⟩⟩
      · rw [hD1, List.take_of_length_le (Nat.le_refl _)]
      · refine kq R _ (s0.trans (same_new sm hR)) ?_
        rw [upd_same]
        show some (HO.tup _) = some (HO.tup _)
        unfold addB
        rw [List.map_map]
        rfl
theorem ok_added {f fC fS : Addr} {fd fdC fdS : FuncData} (F : Fun K "added" "added" s_added f fd) (G_check_pair : FnOk P w K mg base CX0 4 fC fdC ["one", "other"] spPair) (F_check_pair : Fun K "check_pair" "check_pair" s_check_pair fC fdC) (b_check_pair : Binds K fdC ["one", "other"] []) (g_check_pair : mg "check_pair" = some (.ref fC))
    (G_summed : FnOk P w K mg base CX0 1 fS fdS ["one", "other"] spAdded) (F_summed : Fun K "summed" "summed" s_summed fS fdS) (b_summed : Binds K fdS ["one", "other"] []) (g_summed : mg "summed" = some (.ref fS)) :
    FnOk P w K mg base CX0 5 f fd ["one", "other"] spAdded := by
  refine F.ok sc_added (fun vs H Q E h => ?_) (fun cdv A outer s H vs Q E hr h => ?_)
  · obtain ⟨ns, ms, ⟨p, q, rfl, _⟩, _⟩ := h
    rfl
  · obtain ⟨ns, ms, ⟨p, q, rfl, hp, hq, wn, wm, hl⟩, kq⟩ := h
    refine ⟨_, (pss_cons (ps_expr (pe_call G_check_pair (hr.mono (by decide)) (by rfl) g_check_pair F_check_pair.kp b_check_pair .nil pass0 (pa_cons (pv 0) (pa_cons (pv 1) pa_nil))))
      (pss_one (ps_ret (pe_call G_summed (hr.mono (by decide)) (by rfl) g_summed F_summed.kp b_summed .nil pass0 (pa_cons (pv 0) (pa_cons (pv 1) pa_nil)))))), ?_⟩
    exact ⟨_, rfl, _, rfl, ns, ms, ⟨p, q, rfl, hp, hq, wn, wm, hl⟩, fun H1 s1 => ⟨_, rfl, _, rfl, ns, ms, ⟨p, q, rfl, s1 _ _ hp, s1 _ _ hq, wn, wm, hl⟩, fun r H2 s2 g => kq r H2 (s1.trans s2) g⟩⟩
end
end My

namespace My
open PySem PySem.Spec PyProof.Rows L2 RZ Sh Zt
abbrev s_check_bags : Stmt := topS 11
abbrev Ncheck_bags : List Str := ["bags", "bag"]
theorem sc_check_bags : FnScope Ncheck_bags ["bags"] (defScope s_check_bags) := ⟨rfl, rfl, rfl, by decide +kernel, rfl, by decide +kernel, by decide +kernel⟩
abbrev s_greatest : Stmt := topS 16
abbrev Ngreatest : List Str := ["bags", "kept", "bag", "other"]
theorem sc_greatest : FnScope Ngreatest ["bags"] (defScope s_greatest) := ⟨rfl, rfl, rfl, by decide +kernel, rfl, by decide +kernel, by decide +kernel⟩
abbrev s_least : Stmt := topS 17
abbrev Nleast : List Str := ["bags", "kept", "bag", "other"]
theorem sc_least : FnScope Nleast ["bags"] (defScope s_least) := ⟨rfl, rfl, rfl, by decide +kernel, rfl, by decide +kernel, by decide +kernel⟩
section
variable {P : Program} {w : World} {K : PySem.W.Frag} {mg : Str → Option Value} {base : Heap}
theorem ok_check_bags {f fW : Addr} {fd fdW : FuncData} (F : Fun K "check_bags" "check_bags" s_check_bags f fd) (G_is_wide : FnOk P w K mg base CX0 3 fW fdW ["value"] (spEnt1 (-1))) (F_is_wide : Fun K "is_wide" "is_wide" s_is_wide fW fdW) (b_is_wide : Binds K fdW ["value"] []) (g_is_wide : mg "is_wide" = some (.ref fW)) (m_len : mg "len" = none) (m_isinstance : mg "isinstance" = none) (m_tuple : mg "tuple" = none) (m_all : mg "all" = none) :
    FnOk P w K mg base CX0 4 f fd ["bags"] spChk := by
  refine F.ok sc_check_bags (fun vs H Q E h => ?_) (fun cdv A outer s H vs Q E hr h => ?_)
  · obtain ⟨p, n, ks, rfl, _⟩ := h
    rfl
  · obtain ⟨p, n, ks, rfl, hB, q⟩ := h
    refine ⟨_, (pss_cons (ps_if (PW.pt (pw_or (pt_not (pt_val (pe_callB call_isi (by rfl) m_isinstance (by decide +kernel) (pa_cons (pv 0) (pa_cons (pe_bltn (v := .ty "tuple") (by rfl) m_tuple (by decide +kernel) rfl) pa_nil))))) (pw_or1 (pt_not (pt_val (pe_callB (cr_all rfl) (by rfl) m_all (by decide +kernel) (pa_cons (pe_lc (own := [("bag", 1)]) (g := (gName 1)) (tt := tYes) rfl sc_check_bags.nd (pi_tup (pv 0)) (blkOk_by (N := Ncheck_bags) (sc := defScope s_check_bags) (by decide +kernel))
      (fun _ _ _ _ _ => (pg_name (i := 1) sc_check_bags.nd rfl (Or.inl rfl))) (fun _ _ _ _ _ => pts_nil) (fun _ _ _ _ _ => (pe_call G_is_wide (hr.mono (by decide)) (by rfl) g_is_wide F_is_wide.kp b_is_wide .nil pass0 (pa_cons (pv 1) pa_nil)))) pa_nil)))))))
        (pss_one ps_never)
        pss_nil)
      (pss_one (ps_if (pt_not (pt_val (pe_callB (cr_all rfl) (by rfl) m_all (by decide +kernel) (pa_cons (pe_lc (own := [("bag", 1)]) (g := (gName 1)) (tt := tYes) rfl sc_check_bags.nd (pi_tup (pv 0)) (blkOk_by (N := Ncheck_bags) (sc := defScope s_check_bags) (by decide +kernel))
      (fun _ _ _ _ _ => (pg_name (i := 1) sc_check_bags.nd rfl (Or.inl rfl))) (fun _ _ _ _ _ => pts_nil) (fun _ _ _ _ _ => (pe_cmpR op_eq (pe_callB (id := "len") (r := rLenS K) call_len_seq (by rfl) m_len (by decide +kernel) (pa_cons (pv 1) pa_nil)) (pe_callB (id := "len") (r := rLenS K) call_len_seq (by rfl) m_len (by decide +kernel) (pa_cons (pe_ix (r := rIxT K) ix_tup (pv 0) pe_int (fun _ _ => rfl)) pa_nil)) (nomark _)))) pa_nil))))
        (pss_one ps_never)
        pss_nil))), ?_⟩
    refine ⟨_, rfl, _, _, _, _, true, rfl, .ty "tuple", .base (.tup hB.tup), kit_ty (by decide +kernel), _, rfl, iteF ?_⟩
    refine ⟨_, rfl, p, rfl, ⟨_, .inl (.inl hB.tup)⟩, fun D nD => ?_⟩
    refine lc_tup (xs := refs ks) (fun i H1 => Same H H1 ∧ H1 D = some (.lst ((ks.take i).map fun _ => V.bl true))) ⟨same_new (Same.refl H) nD, upd_same⟩ (fun i H1 _ hp => .inl (.inl (hp.1 _ _ hB.tup))) (fun i x H1 hx hp => ?_) (fun H1 hp => ?_)
    · obtain ⟨s1, l1⟩ := hp
      obtain ⟨o, ho, rfl, hom⟩ := ref_at hx
      have wo := (hB.all o hom).1
      refine ⟨rfl, _, rfl, _, rfl, .inr ⟨o.1, _, rfl, s1 _ _ (hB.row o hom), wo.len, ints_kn, fun H2 s2 => ⟨_, s2 _ _ l1, ?_, same_put (s1.trans s2) nD, ?_⟩⟩⟩
      · rw [List.length_map, List.length_take]
        exact small1000 (Nat.le_trans (Nat.min_le_left _ _) (by have := hB.few; have := (List.getElem?_eq_some_iff.mp ho).1; omega))
      · rw [upd_same, take_keys ho, List.map_append, wo.ok]
        rfl
    · obtain ⟨s1, l1⟩ := hp
      rw [List.take_of_length_le (by rw [List.length_map]; exact Nat.le_refl _)] at l1
      have e1 : (ks.map fun _ => true).all id = true := by simp
      refine ⟨D, ks.map fun _ => true, rfl, .inl (.inl (by rw [l1, List.map_map]; rfl)), _, rfl, ?_⟩
      rw [e1]
      refine iteF ?_
      have hB1 := hB.same s1
      refine ⟨_, rfl, p, rfl, ⟨_, .inl (.inl hB1.tup)⟩, fun E0 nE => ?_⟩
      refine lc_tup (xs := refs ks) (fun i H2 => Same H1 H2 ∧ H2 E0 = some (.lst ((ks.take i).map fun _ => V.bl true))) ⟨same_new (Same.refl H1) nE, upd_same⟩ (fun i H2 _ hp => .inl (.inl (hp.1 _ _ hB1.tup))) (fun i x H2 hx hp => ?_) (fun H2 hp => ?_)
      · obtain ⟨s2, l2⟩ := hp
        obtain ⟨o, ho, rfl, hom⟩ := ref_at hx
        have hp2 := hB1.same s2
        obtain ⟨z, hz⟩ : ∃ z, ks[0]? = some z := by
          cases ks with
          | nil => simp at ho
          | cons z r => exact ⟨z, rfl⟩
        have hzm : z ∈ ks := List.mem_of_getElem? hz
        refine ⟨rfl, _, rfl, o.1, _, rfl, .inr (.inl (.inl (hp2.row o hom))), _, rfl, p, _, 0, .ref z.1, rfl, rfl, .inl (.inl hp2.tup), atI_nat (by rw [List.getElem?_map, hz]; rfl), z.1, _, rfl, .inr (.inl (.inl (hp2.row z hzm))), ?_⟩
        refine ⟨rfl, _, l2, ?_, same_put s2 nE, ?_⟩
        · rw [List.length_map, List.length_take]
          exact small1000 (Nat.le_trans (Nat.min_le_left _ _) (by have := hB.few; have := (List.getElem?_eq_some_iff.mp ho).1; omega))
        · rw [upd_same, take_keys ho, List.map_append, List.length_map, List.length_map, (hB.all o hom).2, (hB.all z hzm).2]
          simp
      · obtain ⟨s2, l2⟩ := hp
        rw [List.take_of_length_le (by rw [List.length_map]; exact Nat.le_refl _)] at l2
        refine ⟨E0, ks.map fun _ => true, rfl, .inl (.inl (by rw [l2, List.map_map]; rfl)), _, rfl, ?_⟩
        rw [e1]
        exact iteF (q H2 (s1.trans s2))
theorem ok_greatest {f fC fF : Addr} {fd fdC fdF : FuncData} (F : Fun K "greatest" "greatest" s_greatest f fd)
    (G_check_bags : FnOk P w K mg base CX0 4 fC fdC ["bags"] spChk) (F_check_bags : Fun K "check_bags" "check_bags" s_check_bags fC fdC) (b_check_bags : Binds K fdC ["bags"] []) (g_check_bags : mg "check_bags" = some (.ref fC))
    (G_fits : FnOk P w K mg base CX0 1 fF fdF ["one", "other"] spFits) (F_fits : Fun K "fits" "fits" s_fits fF fdF) (b_fits : Binds K fdF ["one", "other"] []) (g_fits : mg "fits" = some (.ref fF))
    (m_sorted : mg "sorted" = none) (m_set : mg "set" = none) (m_any : mg "any" = none) (m_tuple : mg "tuple" = none) : FnOk P w K mg base CX0 5 f fd ["bags"] (spTops fitsB) := by
  refine F.ok sc_greatest (fun vs H Q E h => ?_) (fun cdv A outer s H vs Q E hr h => ?_)
  · obtain ⟨p, n, ks, rfl, _⟩ := h
    rfl
  · obtain ⟨p, n, ks, rfl, hB, q⟩ := h
    refine ⟨_, (pss_cons (ps_expr (pe_call G_check_bags (hr.mono (by decide)) (by rfl) g_check_bags F_check_bags.kp b_check_bags .nil pass0 (pa_cons (pv 0) pa_nil)))
      (pss_cons (ps_set (i := 1) sc_greatest.nd rfl (by first | exact Or.inl rfl | exact Or.inr rfl) (pe_lst pa_nil))
      (pss_cons (ps_for PassesOwn.never rfl (pi_list (pe_callB (id := "sorted") (r := Zt.rSrtS K P w) (Zt.cr_srtS rfl) (by rfl) m_sorted (by decide +kernel) (pa_cons (pe_callTy (T := "set") (r := Zt.rSetT K P w) (Zt.cr_setT rfl hr.units) (by rfl) m_set (by decide +kernel) (pa_cons (pv 0) pa_nil)) pa_nil))) (pg_name (i := 2) sc_greatest.nd rfl (by first | exact Or.inl rfl | exact Or.inr rfl))
        (pss_one (ps_if (pt_not (pt_val (pe_callB (cr_any rfl) (by rfl) m_any (by decide +kernel) (pa_cons (pe_lc (own := [("other", 3)]) (g := (gName 3)) (tt := tYes) rfl sc_greatest.nd (pi_list (pv 1)) (blkOk_by (N := Ngreatest) (sc := defScope s_greatest) (by decide +kernel))
      (fun _ _ _ _ _ => (pg_name (i := 3) sc_greatest.nd rfl (Or.inl rfl))) (fun _ _ _ _ _ => pts_nil) (fun _ _ _ _ _ => (pe_call G_fits (hr.mono (by decide)) (by rfl) g_fits F_fits.kp b_fits .nil pass0 (pa_cons (pv 2) (pa_cons (pv 3) pa_nil))))) pa_nil))))
          (pss_one (ps_set (i := 1) sc_greatest.nd rfl (by first | exact Or.inl rfl | exact Or.inr rfl) (pe_op op_cat (pe_lc (own := [("other", 3)]) (g := (gName 3)) rfl sc_greatest.nd (pi_list (pv 1)) (blkOk_by (N := Ngreatest) (sc := defScope s_greatest) (by decide +kernel))
      (fun _ _ _ _ _ => (pg_name (i := 3) sc_greatest.nd rfl (Or.inl rfl))) (fun _ _ _ _ _ => (pts_one (pt_not (pt_val (pe_call G_fits (hr.mono (by decide)) (by rfl) g_fits F_fits.kp b_fits .nil pass0 (pa_cons (pv 3) (pa_cons (pv 2) pa_nil))))))) (fun _ _ _ _ _ => (pv 3))) (pe_lst (pa_cons (pv 2) pa_nil)))))
          pss_nil)))
      (pss_one (ps_ret (pe_callTy call_tuple_of (by rfl) m_tuple (by decide +kernel) (pa_cons (pv 1) pa_nil))))))), ?_⟩
    refine ⟨_, rfl, p, n, ks, rfl, hB, fun H1 s1 => ⟨len_ok, fun D0 nD0 => ?_⟩⟩
    have hB1 := hB.same s1
    have l0 : (upd H1 D0 (.lst [])) D0 = some (.lst (refs ([] : List (Addr × List Int)))) := upd_same
    have s2 : Same H (upd H1 D0 (.lst [])) := same_new s1 nD0
    have hB2 := hB.same s2
    refine ⟨_, rfl, p, ks, rfl, .inl (.inl hB2.tup), fun r hr => .inl (.inl (hB2.row r hr)), hB.few, fun A L nA hL1 hL2 => ⟨A, L, rfl, upd_same, fun r hr => .inl (.inl (upd_keep (hB2.row r (hL1 r hr)) nA)), fun r hr e => ?_, fun L' B pm asc few nB => ⟨B, rfl, ⟨_, .inl (.inl upd_same)⟩, ?_⟩⟩⟩
    · have := (hB.all r (hL1 r hr)).1.1
      rw [e] at this
      simp at this
    have s3 : Same H (upd (upd (upd H1 D0 (.lst [])) A (SetTO P w A L)) B (.lst (L'.map fun r => V.ref r.1))) := same_new (same_new s2 nA) nB
    have l3 : (upd (upd (upd H1 D0 (.lst [])) A (SetTO P w A L)) B (.lst (L'.map fun r => V.ref r.1))) D0 = some (.lst (refs ([] : List (Addr × List Int)))) := upd_keep (upd_keep l0 nA) nB
    have lB : (upd (upd (upd H1 D0 (.lst [])) A (SetTO P w A L)) B (.lst (L'.map fun r => V.ref r.1))) B = some (.lst (refs L')) := upd_same
    generalize (upd (upd (upd H1 D0 (.lst [])) A (SetTO P w A L)) B (.lst (L'.map fun r => V.ref r.1))) = H3 at s3 l3 lB
    have sub : ∀ r ∈ L', r ∈ ks := fun r hr => hL1 r (pm.mem_iff.mp hr)
    have mem : ∀ k, k ∈ keys L' ↔ k ∈ keys ks := fun k => by
      constructor
      · intro hk
        obtain ⟨r, hr, rfl⟩ := List.mem_map.mp hk
        exact List.mem_map.mpr ⟨r, sub r hr, rfl⟩
      · intro hk
        obtain ⟨r, hr, rfl⟩ := List.mem_map.mp hk
        exact ((pm.map (·.2)).mem_iff).mpr (hL2 r hr)
    have dall : ∀ x ∈ keys L', OfLen n x := fun x hx => by
      obtain ⟨r, hr, rfl⟩ := List.mem_map.mp hx
      exact hB.all r (sub r hr)
    have lk : (keys L').length = L'.length := List.length_map _
    have KA := keep_all (ord_fits n) (keys L') dall (Asc.nd asc)
    have row3 : ∀ r ∈ ks, H3 r.1 = some (.tup (r.2.map V.int)) := (hB.same s3).row
    clear nB nA nD0 hL2 hB2 hB1 s2 s1
    refine for_list (xs := refs L') (fun i σ H' => ∃ D M u2 u3, σ = [some (.ref p), some (.ref D), u2, u3] ∧ Same H3 H' ∧ H' D = some (.lst (refs M)) ∧ (∀ r ∈ M, r ∈ L') ∧ keys M = tops fitsB ((keys L').take i) ∧ M.length ≤ i) ⟨D0, [], _, _, rfl, Same.refl H3, l3, (fun r hr => by cases hr), by simp [tops], Nat.le_refl _⟩ (fun i σ H' _ hp => ?_) (fun i x σ H' hx hp => ?_) (fun σ H' hp => ?_)
    · obtain ⟨D, M, u2, u3, rfl, sm, hl, hM, hk, hz⟩ := hp
      exact .inl (.inl (sm _ _ lB))
    · obtain ⟨D, M, u2, u3, rfl, sm, hl, hM, hk, hz⟩ := hp
      obtain ⟨b, hb, rfl, hbm⟩ := ref_at hx
      have hbk : (keys L')[i]? = some b.2 := by rw [List.getElem?_map, hb]; rfl
      have step := (KA i (by have := (List.getElem?_eq_some_iff.mp hb).1; rw [lk]; omega)).2 _ hbk
      have hi : i < 64 := by have := (List.getElem?_eq_some_iff.mp hb).1; omega
      have wb := hB.all b (sub b hbm)
      have rb := sm _ _ (row3 b (sub b hbm))
      refine ⟨_, rfl, D, rfl, ⟨_, .inl (.inl hl)⟩, fun E0 nE0 => ?_⟩
      refine lc_list (xs := refs M) (fun j H5 => Same H' H5 ∧ H5 E0 = some (.lst ((M.take j).map fun o => V.bl (fitsB b.2 o.2)))) ⟨same_new (Same.refl H') nE0, upd_same⟩ (fun j H5 _ hp => .inl (.inl (hp.1 _ _ hl))) (fun j x H5 hx hp => ?_) (fun H5 hp => ?_)
      · obtain ⟨s5, l5⟩ := hp
        obtain ⟨o, ho, rfl, hom⟩ := ref_at hx
        have wo := hB.all o (sub o (hM o hom))
        have ro := (sm.trans s5) _ _ (row3 o (sub o (hM o hom)))
        have rb5 := s5 _ _ rb
        refine ⟨rfl, _, rfl, _, rfl, b.2, o.2, ⟨b.1, o.1, rfl, rb5, ro, wb.1, wo.1, by rw [wb.2, wo.2]⟩, fun H6 s6 => ⟨_, s6 _ _ l5, ?_, same_put (s5.trans s6) nE0, ?_⟩⟩
        · rw [List.length_map, List.length_take]
          exact small1000 (Nat.le_trans (Nat.min_le_left _ _) (by have := (List.getElem?_eq_some_iff.mp ho).1; omega))
        · rw [upd_same, take_keys ho, List.map_append]
          rfl
      · obtain ⟨s5, l5⟩ := hp
        rw [List.take_of_length_le (by rw [List.length_map]; exact Nat.le_refl _)] at l5
        have ev : (M.map fun o => fitsB b.2 o.2).any id = (tops fitsB ((keys L').take i)).any fun o => fitsB b.2 o := by
          rw [← hk, List.any_map, List.any_map]
          rfl
        refine ⟨E0, M.map fun o => fitsB b.2 o.2, rfl, .inl (.inl (by rw [l5, List.map_map]; rfl)), _, rfl, ?_⟩
        rw [ev]
        have hl5 : H5 D = some (.lst (refs M)) := s5 _ _ hl
        cases c : (tops fitsB ((keys L').take i)).any fun o => fitsB b.2 o with
        | true =>
          refine iteF ⟨D, M, _, _, rfl, sm.trans s5, hl5, hM, ?_, by omega⟩
          rw [hk, ← step]
          unfold keep
          rw [if_pos c]
        | false =>
          refine iteT ⟨_, rfl, D, rfl, ⟨_, .inl (.inl hl5)⟩, fun G nG => ?_⟩
          refine lc_list (xs := refs M) (fun j H6 => Same H5 H6 ∧ H6 G = some (.lst (refs ((M.take j).filter fun o => !fitsB o.2 b.2)))) ⟨same_new (Same.refl H5) nG, upd_same⟩ (fun j H6 _ hp => .inl (.inl (hp.1 _ _ hl5))) (fun j x H6 hx hp => ?_) (fun H6 hp => ?_)
          · obtain ⟨s6, l6⟩ := hp
            obtain ⟨o, ho, rfl, hom⟩ := ref_at hx
            have wo := hB.all o (sub o (hM o hom))
            have ro := ((sm.trans s5).trans s6) _ _ (row3 o (sub o (hM o hom)))
            have rb6 := (s5.trans s6) _ _ rb
            have tk : (M.take (j + 1)).filter (fun o => !fitsB o.2 b.2) = (M.take j).filter (fun o => !fitsB o.2 b.2) ++ [o].filter (fun o => !fitsB o.2 b.2) := by
              rw [take_keys ho, List.filter_append]
            refine ⟨rfl, _, rfl, _, rfl, o.2, b.2, ⟨o.1, b.1, rfl, ro, rb6, wo.1, wb.1, by rw [wb.2, wo.2]⟩, fun H7 s7 => ⟨_, rfl, ?_⟩⟩
            cases hf : fitsB o.2 b.2 with
            | true =>
              refine iteF ⟨s6.trans s7, ?_⟩
              rw [s7 _ _ l6, tk, List.filter_cons, show fitsB o.2 b.2 = true from hf]
              simp
            | false =>
              refine iteT ⟨_, rfl, _, s7 _ _ l6, ?_, same_put (s6.trans s7) nG, ?_⟩
              · rw [List.length_map]
                refine Nat.lt_of_le_of_lt (List.length_filter_le _ _) ?_
                rw [List.length_take]
                exact small1000 (Nat.le_trans (Nat.min_le_left _ _) (by have := (List.getElem?_eq_some_iff.mp ho).1; omega))
              · rw [upd_same, tk, List.filter_cons, show fitsB o.2 b.2 = false from hf]
                simp
          · obtain ⟨s6, l6⟩ := hp
            rw [List.take_of_length_le (by rw [List.length_map]; exact Nat.le_refl _)] at l6
            refine ⟨_, rfl, len_ok, fun T nT => ⟨G, T, _, _, rfl, rfl, upd_keep l6 nT, upd_same, ?_, fun U nU => ?_⟩⟩
            · rw [List.length_map]
              exact Nat.le_of_lt (small1000 (by have := List.length_filter_le (fun o : Addr × List Int => !fitsB o.2 b.2) M; show _ + 1 ≤ 1000; omega))
            · refine ⟨U, (M.filter fun o => !fitsB o.2 b.2) ++ [b], _, _, rfl, same_new (same_new ((sm.trans s5).trans s6) nT) nU, ?_, fun r hr => ?_, ?_, ?_⟩
              · rw [upd_same]
                simp [refs]
              · rcases List.mem_append.mp hr with hr | hr
                · exact hM r (List.mem_filter.mp hr).1
                · rw [List.mem_singleton.mp hr]
                  exact hbm
              · rw [← step]
                unfold keep
                rw [if_neg (by rw [c]; exact Bool.false_ne_true), ← hk]
                simp [keys, List.filter_map]
                rfl
              · rw [List.length_append]
                have := List.length_filter_le (fun o : Addr × List Int => !fitsB o.2 b.2) M
                show _ + 1 ≤ _
                omega
    · obtain ⟨D, M, u2, u3, rfl, sm, hl, hM, hk, hz⟩ := hp
      rw [List.take_of_length_le (by rw [lk, List.length_map]; exact Nat.le_refl _)] at hk
      refine ⟨_, rfl, D, _, rfl, .inl ⟨.inl (.inl hl), fun R nR => ?_⟩⟩
      have s9 : Same H3 (upd H' R (.tup (refs M))) := same_new sm nR
      refine q R _ M (keys L') (s3.trans s9) ⟨upd_same, fun r hr => s9 _ _ (row3 r (sub r (hM r hr))), fun r hr => hB.all r (sub r (hM r hr)), ?_⟩ asc mem hk (fun r hr => sub r (hM r hr))
      have : M.length ≤ L'.length := by simpa using hz
      omega
theorem ok_least {f fC fF : Addr} {fd fdC fdF : FuncData} (F : Fun K "least" "least" s_least f fd)
    (G_check_bags : FnOk P w K mg base CX0 4 fC fdC ["bags"] spChk) (F_check_bags : Fun K "check_bags" "check_bags" s_check_bags fC fdC) (b_check_bags : Binds K fdC ["bags"] []) (g_check_bags : mg "check_bags" = some (.ref fC))
    (G_fits : FnOk P w K mg base CX0 1 fF fdF ["one", "other"] spFits) (F_fits : Fun K "fits" "fits" s_fits fF fdF) (b_fits : Binds K fdF ["one", "other"] []) (g_fits : mg "fits" = some (.ref fF))
    (m_sorted : mg "sorted" = none) (m_set : mg "set" = none) (m_any : mg "any" = none) (m_tuple : mg "tuple" = none) : FnOk P w K mg base CX0 5 f fd ["bags"] (spTops under) := by
  refine F.ok sc_least (fun vs H Q E h => ?_) (fun cdv A outer s H vs Q E hr h => ?_)
  · obtain ⟨p, n, ks, rfl, _⟩ := h
    rfl
  · obtain ⟨p, n, ks, rfl, hB, q⟩ := h
    refine ⟨_, (pss_cons (ps_expr (pe_call G_check_bags (hr.mono (by decide)) (by rfl) g_check_bags F_check_bags.kp b_check_bags .nil pass0 (pa_cons (pv 0) pa_nil)))
      (pss_cons (ps_set (i := 1) sc_least.nd rfl (by first | exact Or.inl rfl | exact Or.inr rfl) (pe_lst pa_nil))
      (pss_cons (ps_for PassesOwn.never rfl (pi_list (pe_callB (id := "sorted") (r := Zt.rSrtS K P w) (Zt.cr_srtS rfl) (by rfl) m_sorted (by decide +kernel) (pa_cons (pe_callTy (T := "set") (r := Zt.rSetT K P w) (Zt.cr_setT rfl hr.units) (by rfl) m_set (by decide +kernel) (pa_cons (pv 0) pa_nil)) pa_nil))) (pg_name (i := 2) sc_least.nd rfl (by first | exact Or.inl rfl | exact Or.inr rfl))
        (pss_one (ps_if (pt_not (pt_val (pe_callB (cr_any rfl) (by rfl) m_any (by decide +kernel) (pa_cons (pe_lc (own := [("other", 3)]) (g := (gName 3)) (tt := tYes) rfl sc_least.nd (pi_list (pv 1)) (blkOk_by (N := Nleast) (sc := defScope s_least) (by decide +kernel))
      (fun _ _ _ _ _ => (pg_name (i := 3) sc_least.nd rfl (Or.inl rfl))) (fun _ _ _ _ _ => pts_nil) (fun _ _ _ _ _ => (pe_call G_fits (hr.mono (by decide)) (by rfl) g_fits F_fits.kp b_fits .nil pass0 (pa_cons (pv 3) (pa_cons (pv 2) pa_nil))))) pa_nil))))
          (pss_one (ps_set (i := 1) sc_least.nd rfl (by first | exact Or.inl rfl | exact Or.inr rfl) (pe_op op_cat (pe_lc (own := [("other", 3)]) (g := (gName 3)) rfl sc_least.nd (pi_list (pv 1)) (blkOk_by (N := Nleast) (sc := defScope s_least) (by decide +kernel))
      (fun _ _ _ _ _ => (pg_name (i := 3) sc_least.nd rfl (Or.inl rfl))) (fun _ _ _ _ _ => (pts_one (pt_not (pt_val (pe_call G_fits (hr.mono (by decide)) (by rfl) g_fits F_fits.kp b_fits .nil pass0 (pa_cons (pv 2) (pa_cons (pv 3) pa_nil))))))) (fun _ _ _ _ _ => (pv 3))) (pe_lst (pa_cons (pv 2) pa_nil)))))
          pss_nil)))
      (pss_one (ps_ret (pe_callTy call_tuple_of (by rfl) m_tuple (by decide +kernel) (pa_cons (pv 1) pa_nil))))))), ?_⟩
    refine ⟨_, rfl, p, n, ks, rfl, hB, fun H1 s1 => ⟨len_ok, fun D0 nD0 => ?_⟩⟩
    have hB1 := hB.same s1
    have l0 : (upd H1 D0 (.lst [])) D0 = some (.lst (refs ([] : List (Addr × List Int)))) := upd_same
    have s2 : Same H (upd H1 D0 (.lst [])) := same_new s1 nD0
    have hB2 := hB.same s2
    refine ⟨_, rfl, p, ks, rfl, .inl (.inl hB2.tup), fun r hr => .inl (.inl (hB2.row r hr)), hB.few, fun A L nA hL1 hL2 => ⟨A, L, rfl, upd_same, fun r hr => .inl (.inl (upd_keep (hB2.row r (hL1 r hr)) nA)), fun r hr e => ?_, fun L' B pm asc few nB => ⟨B, rfl, ⟨_, .inl (.inl upd_same)⟩, ?_⟩⟩⟩
    · have := (hB.all r (hL1 r hr)).1.1
      rw [e] at this
      simp at this
    have s3 : Same H (upd (upd (upd H1 D0 (.lst [])) A (SetTO P w A L)) B (.lst (L'.map fun r => V.ref r.1))) := same_new (same_new s2 nA) nB
    have l3 : (upd (upd (upd H1 D0 (.lst [])) A (SetTO P w A L)) B (.lst (L'.map fun r => V.ref r.1))) D0 = some (.lst (refs ([] : List (Addr × List Int)))) := upd_keep (upd_keep l0 nA) nB
    have lB : (upd (upd (upd H1 D0 (.lst [])) A (SetTO P w A L)) B (.lst (L'.map fun r => V.ref r.1))) B = some (.lst (refs L')) := upd_same
    generalize (upd (upd (upd H1 D0 (.lst [])) A (SetTO P w A L)) B (.lst (L'.map fun r => V.ref r.1))) = H3 at s3 l3 lB
    have sub : ∀ r ∈ L', r ∈ ks := fun r hr => hL1 r (pm.mem_iff.mp hr)
    have mem : ∀ k, k ∈ keys L' ↔ k ∈ keys ks := fun k => by
      constructor
      · intro hk
        obtain ⟨r, hr, rfl⟩ := List.mem_map.mp hk
        exact List.mem_map.mpr ⟨r, sub r hr, rfl⟩
      · intro hk
        obtain ⟨r, hr, rfl⟩ := List.mem_map.mp hk
        exact ((pm.map (·.2)).mem_iff).mpr (hL2 r hr)
    have dall : ∀ x ∈ keys L', OfLen n x := fun x hx => by
      obtain ⟨r, hr, rfl⟩ := List.mem_map.mp hx
      exact hB.all r (sub r hr)
    have lk : (keys L').length = L'.length := List.length_map _
    have KA := keep_all (ord_under n) (keys L') dall (Asc.nd asc)
    have row3 : ∀ r ∈ ks, H3 r.1 = some (.tup (r.2.map V.int)) := (hB.same s3).row
    clear nB nA nD0 hL2 hB2 hB1 s2 s1
    refine for_list (xs := refs L') (fun i σ H' => ∃ D M u2 u3, σ = [some (.ref p), some (.ref D), u2, u3] ∧ Same H3 H' ∧ H' D = some (.lst (refs M)) ∧ (∀ r ∈ M, r ∈ L') ∧ keys M = tops under ((keys L').take i) ∧ M.length ≤ i) ⟨D0, [], _, _, rfl, Same.refl H3, l3, (fun r hr => by cases hr), by simp [tops], Nat.le_refl _⟩ (fun i σ H' _ hp => ?_) (fun i x σ H' hx hp => ?_) (fun σ H' hp => ?_)
    · obtain ⟨D, M, u2, u3, rfl, sm, hl, hM, hk, hz⟩ := hp
      exact .inl (.inl (sm _ _ lB))
    · obtain ⟨D, M, u2, u3, rfl, sm, hl, hM, hk, hz⟩ := hp
      obtain ⟨b, hb, rfl, hbm⟩ := ref_at hx
      have hbk : (keys L')[i]? = some b.2 := by rw [List.getElem?_map, hb]; rfl
      have step := (KA i (by have := (List.getElem?_eq_some_iff.mp hb).1; rw [lk]; omega)).2 _ hbk
      have hi : i < 64 := by have := (List.getElem?_eq_some_iff.mp hb).1; omega
      have wb := hB.all b (sub b hbm)
      have rb := sm _ _ (row3 b (sub b hbm))
      refine ⟨_, rfl, D, rfl, ⟨_, .inl (.inl hl)⟩, fun E0 nE0 => ?_⟩
      refine lc_list (xs := refs M) (fun j H5 => Same H' H5 ∧ H5 E0 = some (.lst ((M.take j).map fun o => V.bl (under b.2 o.2)))) ⟨same_new (Same.refl H') nE0, upd_same⟩ (fun j H5 _ hp => .inl (.inl (hp.1 _ _ hl))) (fun j x H5 hx hp => ?_) (fun H5 hp => ?_)
      · obtain ⟨s5, l5⟩ := hp
        obtain ⟨o, ho, rfl, hom⟩ := ref_at hx
        have wo := hB.all o (sub o (hM o hom))
        have ro := (sm.trans s5) _ _ (row3 o (sub o (hM o hom)))
        have rb5 := s5 _ _ rb
        refine ⟨rfl, _, rfl, _, rfl, o.2, b.2, ⟨o.1, b.1, rfl, ro, rb5, wo.1, wb.1, by rw [wb.2, wo.2]⟩, fun H6 s6 => ⟨_, s6 _ _ l5, ?_, same_put (s5.trans s6) nE0, ?_⟩⟩
        · rw [List.length_map, List.length_take]
          exact small1000 (Nat.le_trans (Nat.min_le_left _ _) (by have := (List.getElem?_eq_some_iff.mp ho).1; omega))
        · rw [upd_same, take_keys ho, List.map_append]
          rfl
      · obtain ⟨s5, l5⟩ := hp
        rw [List.take_of_length_le (by rw [List.length_map]; exact Nat.le_refl _)] at l5
        have ev : (M.map fun o => under b.2 o.2).any id = (tops under ((keys L').take i)).any fun o => under b.2 o := by
          rw [← hk, List.any_map, List.any_map]
          rfl
        refine ⟨E0, M.map fun o => under b.2 o.2, rfl, .inl (.inl (by rw [l5, List.map_map]; rfl)), _, rfl, ?_⟩
        rw [ev]
        have hl5 : H5 D = some (.lst (refs M)) := s5 _ _ hl
        cases c : (tops under ((keys L').take i)).any fun o => under b.2 o with
        | true =>
          refine iteF ⟨D, M, _, _, rfl, sm.trans s5, hl5, hM, ?_, by omega⟩
          rw [hk, ← step]
          unfold keep
          rw [if_pos c]
        | false =>
          refine iteT ⟨_, rfl, D, rfl, ⟨_, .inl (.inl hl5)⟩, fun G nG => ?_⟩
          refine lc_list (xs := refs M) (fun j H6 => Same H5 H6 ∧ H6 G = some (.lst (refs ((M.take j).filter fun o => !under o.2 b.2)))) ⟨same_new (Same.refl H5) nG, upd_same⟩ (fun j H6 _ hp => .inl (.inl (hp.1 _ _ hl5))) (fun j x H6 hx hp => ?_) (fun H6 hp => ?_)
          · obtain ⟨s6, l6⟩ := hp
            obtain ⟨o, ho, rfl, hom⟩ := ref_at hx
            have wo := hB.all o (sub o (hM o hom))
            have ro := ((sm.trans s5).trans s6) _ _ (row3 o (sub o (hM o hom)))
            have rb6 := (s5.trans s6) _ _ rb
            have tk : (M.take (j + 1)).filter (fun o => !under o.2 b.2) = (M.take j).filter (fun o => !under o.2 b.2) ++ [o].filter (fun o => !under o.2 b.2) := by
              rw [take_keys ho, List.filter_append]
            refine ⟨rfl, _, rfl, _, rfl, b.2, o.2, ⟨b.1, o.1, rfl, rb6, ro, wb.1, wo.1, by rw [wb.2, wo.2]⟩, fun H7 s7 => ⟨_, rfl, ?_⟩⟩
            cases hf : fitsB b.2 o.2 with
            | true =>
              refine iteF ⟨s6.trans s7, ?_⟩
              rw [s7 _ _ l6, tk, List.filter_cons, show under o.2 b.2 = true from hf]
              simp
            | false =>
              refine iteT ⟨_, rfl, _, s7 _ _ l6, ?_, same_put (s6.trans s7) nG, ?_⟩
              · rw [List.length_map]
                refine Nat.lt_of_le_of_lt (List.length_filter_le _ _) ?_
                rw [List.length_take]
                exact small1000 (Nat.le_trans (Nat.min_le_left _ _) (by have := (List.getElem?_eq_some_iff.mp ho).1; omega))
              · rw [upd_same, tk, List.filter_cons, show under o.2 b.2 = false from hf]
                simp
          · obtain ⟨s6, l6⟩ := hp
            rw [List.take_of_length_le (by rw [List.length_map]; exact Nat.le_refl _)] at l6
            refine ⟨_, rfl, len_ok, fun T nT => ⟨G, T, _, _, rfl, rfl, upd_keep l6 nT, upd_same, ?_, fun U nU => ?_⟩⟩
            · rw [List.length_map]
              exact Nat.le_of_lt (small1000 (by have := List.length_filter_le (fun o : Addr × List Int => !under o.2 b.2) M; show _ + 1 ≤ 1000; omega))
            · refine ⟨U, (M.filter fun o => !under o.2 b.2) ++ [b], _, _, rfl, same_new (same_new ((sm.trans s5).trans s6) nT) nU, ?_, fun r hr => ?_, ?_, ?_⟩
              · rw [upd_same]
                simp [refs]
              · rcases List.mem_append.mp hr with hr | hr
                · exact hM r (List.mem_filter.mp hr).1
                · rw [List.mem_singleton.mp hr]
                  exact hbm
              · rw [← step]
                unfold keep
                rw [if_neg (by rw [c]; exact Bool.false_ne_true), ← hk]
                simp [keys, List.filter_map]
                rfl
              · rw [List.length_append]
                have := List.length_filter_le (fun o : Addr × List Int => !under o.2 b.2) M
                show _ + 1 ≤ _
                omega
    · obtain ⟨D, M, u2, u3, rfl, sm, hl, hM, hk, hz⟩ := hp
      rw [List.take_of_length_le (by rw [lk, List.length_map]; exact Nat.le_refl _)] at hk
      refine ⟨_, rfl, D, _, rfl, .inl ⟨.inl (.inl hl), fun R nR => ?_⟩⟩
      have s9 : Same H3 (upd H' R (.tup (refs M))) := same_new sm nR
      refine q R _ M (keys L') (s3.trans s9) ⟨upd_same, fun r hr => s9 _ _ (row3 r (sub r (hM r hr))), fun r hr => hB.all r (sub r (hM r hr)), ?_⟩ asc mem hk (fun r hr => sub r (hM r hr))
      have : M.length ≤ L'.length := by simpa using hz
      omega
end
end My

namespace My
open PySem PySem.Spec PyProof.Rows L2 RZ Sh Zt
abbrev s_law_any_wide : Stmt := topS 22
abbrev Nlaw_any_wide : List Str := ["die", "size", "turn"]
theorem sc_law_any_wide : FnScope Nlaw_any_wide ["die", "size"] (defScope s_law_any_wide) := ⟨rfl, rfl, rfl, by decide +kernel, rfl, by decide +kernel, by decide +kernel⟩
section
variable {P : Program} {w : World} {K : PySem.W.Frag} {mg : Str → Option Value} {base : Heap}
theorem ok_any_wide {f fP : Addr} {fd fdP : FuncData} (F : Fun K "_law_any_wide" "_law_any_wide" s_law_any_wide f fd)
    (G__law_pick : FnOk P w K mg base CX0 2 fP fdP ["die", "items"] (spPick K)) (F__law_pick : Fun K "_law_pick" "_law_pick" s_law_pick fP fdP) (b__law_pick : Binds K fdP ["die", "items"] []) (g__law_pick : mg "_law_pick" = some (.ref fP))
    (m_tuple : mg "tuple" = none) (m_range : mg "range" = none) : FnOk P w K mg base CX0 3 f fd ["die", "size"] spAnyWide := by
  refine F.ok sc_law_any_wide (fun vs H Q E h => ?_) (fun cdv A outer s H vs Q E hr h => ?_)
  · obtain ⟨d, n, rfl, _⟩ := h
    rfl
  · obtain ⟨d, n, rfl, hD0, hn, q⟩ := h
    refine ⟨_, (pss_one (ps_ret (pe_callTy call_tuple_of (by rfl) m_tuple (by decide +kernel) (pa_cons (pe_lc (own := [("turn", 2)]) (g := (gName 2)) (tt := tYes) rfl sc_law_any_wide.nd (pi_range1 rfl m_range (pa_cons (pv 1) pa_nil)) (blkOk_by (N := Nlaw_any_wide) (sc := defScope s_law_any_wide) (by decide +kernel))
      (fun _ _ _ _ _ => (pg_name (i := 2) sc_law_any_wide.nd rfl (Or.inl rfl))) (fun _ _ _ _ _ => pts_nil) (fun _ _ _ _ _ => (pe_call G__law_pick (hr.mono (by decide)) (by rfl) g__law_pick F__law_pick.kp b__law_pick .nil pass0 (pa_cons (pv 0) (pa_cons (pe_lst (pa_cons pe_int (pa_cons pe_int (pa_cons (pe_un un_neg pe_int) (pa_cons pe_int (pa_cons pe_int (pa_cons (pe_un un_neg pe_int) (pa_cons (pe_op op_powB pe_int pe_int) pa_nil)))))))) pa_nil))))) pa_nil)))), ?_⟩
    refine ⟨_, rfl, (n : Int), rfl, by omega, by omega, fun D hD => ?_⟩
    have nD : D ≠ d := hD0.free hD
    refine lc_range (lo := 0) (n := n) (fun i H2 => ∃ ns : List Int, ns.length = i ∧ Drawn ns ∧ H2 D = some (.lst (ns.map V.int)) ∧ DieAt H2 d ∧ But d H H2) ⟨[], rfl, (fun _ h => by cases h), upd_same, hD0.new hD, (But.refl d H).new hD⟩ (fun i H2 hi hp => ?_) (fun H2 hp => ?_)
    · obtain ⟨ns, hlen, hdr, hl, hDe, hb⟩ := hp
      refine ⟨rfl, _, rfl, 1, rfl, 1, rfl, 10, 38, rfl, rfl, ⟨by decide, by decide +kernel⟩, len_ok, fun M mM => ⟨d, hDe.new mM, .inl ⟨M, _, rfl, hDe.free mM, .inl (.inl (.inl upd_same)), List.cons_ne_nil _ _, Nat.lt_of_le_of_lt (Nat.le_of_ble_eq_true (show Nat.ble _ 1000 = true from rfl)) (by decide), fun j v H3 hj hN => ?_⟩⟩⟩
      have ho : ∃ e : Int, v = .int e ∧ -1 ≤ e ∧ e ≤ 10 ^ 38 := by
        have hm := List.mem_of_getElem? hj
        clear hj
        revert v
        exact all_cons ⟨0, rfl, by decide, by decide⟩ (all_cons ⟨1, rfl, by decide, by decide⟩ (all_cons ⟨-1, rfl, by decide, by decide⟩ (all_cons ⟨2, rfl, by decide, by decide⟩ (all_cons ⟨3, rfl, by decide, by decide⟩ (all_cons ⟨-1, rfl, by decide, by decide⟩ (all_cons ⟨10 ^ (38 : Int).toNat, rfl, by decide +kernel, by decide +kernel⟩ all_nil))))))
      obtain ⟨e, rfl, he⟩ := ho
      have hMD : M ≠ D := fun c => by rw [c, hl] at mM; cases mM
      refine ⟨ns.map V.int, (hN.ne nD).trans (upd_keep hl mM), ?_, ns ++ [e], ?_, ?_, ?_, hN.die.put nD, ((hb.new mM).trans hN.but).put hD⟩
      · rw [List.length_map, hlen]
        exact small1000 (by omega)
      · rw [List.length_append, hlen]
        rfl
      · intro y hy
        rcases List.mem_append.mp hy with hy | hy
        · exact hdr y hy
        · rw [List.mem_singleton.mp hy]
          exact he
      · rw [upd_same, List.map_append]
        rfl
    · obtain ⟨ns, hlen, hdr, hl, hDe, hb⟩ := hp
      exact ⟨D, _, rfl, .inl ⟨.inl (.inl hl), fun R hR => q R _ ns hlen hdr upd_same (hb.new hR) (hDe.new hR)⟩⟩
end
end My

namespace My
open PySem PySem.Spec PyProof.Rows L2 RZ Sh Zt
abbrev s_law_right : Stmt := topS 23
abbrev Nlaw_right : List Str := ["die", "size", "some", "upper", "lower", "told", "one", "others", "more", "moved", "turn", "other"]
theorem sc_law_right : FnScope Nlaw_right ["die"] (defScope s_law_right) := ⟨rfl, rfl, rfl, by decide +kernel, rfl, by decide +kernel, by decide +kernel⟩
section
variable {P : Program} {w : World} {K : PySem.W.Frag} {mg : Str → Option Value} {base : Heap}
theorem ok_right {f f0 f1 f2 f3 f4 f5 f6 : Addr} {fd fd0 fd1 fd2 fd3 fd4 fd5 fd6 : FuncData} (F : Fun K "_law_right" "_law_right" s_law_right f fd)
    (G__law_cast : FnOk P w K mg base CX0 1 f0 fd0 ["die", "total"] spCast) (F__law_cast : Fun K "_law_cast" "_law_cast" s_law_cast f0 fd0) (b__law_cast : Binds K fd0 ["die", "total"] []) (g__law_cast : mg "_law_cast" = some (.ref f0))
    (G__law_pick : FnOk P w K mg base CX0 2 f1 fd1 ["die", "items"] (spPick K)) (F__law_pick : Fun K "_law_pick" "_law_pick" s_law_pick f1 fd1) (b__law_pick : Binds K fd1 ["die", "items"] []) (g__law_pick : mg "_law_pick" = some (.ref f1))
    (G__law_any_wide : FnOk P w K mg base CX0 3 f2 fd2 ["die", "size"] spAnyWide) (F__law_any_wide : Fun K "_law_any_wide" "_law_any_wide" s_law_any_wide f2 fd2) (b__law_any_wide : Binds K fd2 ["die", "size"] []) (g__law_any_wide : mg "_law_any_wide" = some (.ref f2))
    (G_within : FnOk P w K mg base CX0 5 f3 fd3 ["one", "other"] spFits) (F_within : Fun K "within" "within" s_within f3 fd3) (b_within : Binds K fd3 ["one", "other"] []) (g_within : mg "within" = some (.ref f3))
    (G_added : FnOk P w K mg base CX0 5 f4 fd4 ["one", "other"] spAdded) (F_added : Fun K "added" "added" s_added f4 fd4) (b_added : Binds K fd4 ["one", "other"] []) (g_added : mg "added" = some (.ref f4))
    (G_greatest : FnOk P w K mg base CX0 5 f5 fd5 ["bags"] (spTops fitsB)) (F_greatest : Fun K "greatest" "greatest" s_greatest f5 fd5) (b_greatest : Binds K fd5 ["bags"] []) (g_greatest : mg "greatest" = some (.ref f5))
    (G_least : FnOk P w K mg base CX0 5 f6 fd6 ["bags"] (spTops under)) (F_least : Fun K "least" "least" s_least f6 fd6) (b_least : Binds K fd6 ["bags"] []) (g_least : mg "least" = some (.ref f6))
    (m_range : mg "range" = none) (m_tuple : mg "tuple" = none) (m_list : mg "list" = none) (m_sorted : mg "sorted" = none) (m_set : mg "set" = none) :
    FnOk P w K mg base CX0 6 f fd ["die"] spRight := by
  refine F.ok sc_law_right (fun vs H Q E h => ?_) (fun cdv A outer s H vs Q E hr h => ?_)
  · obtain ⟨d, rfl, _⟩ := h
    rfl
  · obtain ⟨d, rfl, hD0, q⟩ := h
    refine ⟨_, (pss_cons (ps_set (i := 1) sc_law_right.nd rfl (by first | exact Or.inl rfl | exact Or.inr rfl) (pe_call G__law_pick (hr.mono (by decide)) (by rfl) g__law_pick F__law_pick.kp b__law_pick .nil pass0 (pa_cons (pv 0) (pa_cons (pe_lst (pa_cons pe_int (pa_cons pe_int (pa_cons pe_int (pa_cons pe_int (pa_cons pe_int pa_nil)))))) pa_nil))))
      (pss_cons (ps_set (i := 2) sc_law_right.nd rfl (by first | exact Or.inl rfl | exact Or.inr rfl) (pe_lc (own := [("turn", 10)]) (g := (gName 10)) (tt := tYes) rfl sc_law_right.nd (pi_range1 rfl m_range (pa_cons (pe_call G__law_cast (hr.mono (by decide)) (by rfl) g__law_cast F__law_cast.kp b__law_cast .nil pass0 (pa_cons (pv 0) (pa_cons pe_int pa_nil))) pa_nil)) (blkOk_by (N := Nlaw_right) (sc := defScope s_law_right) (by decide +kernel))
      (fun _ _ _ _ _ => (pg_name (i := 10) sc_law_right.nd rfl (Or.inl rfl))) (fun _ _ _ _ _ => pts_nil) (fun _ _ _ _ _ => (pe_call G__law_any_wide (hr.mono (by decide)) (by rfl) g__law_any_wide F__law_any_wide.kp b__law_any_wide .nil pass0 (pa_cons (pv 0) (pa_cons (pv 1) pa_nil))))) (Zt.sw_cell rfl))
      (pss_cons (ps_set (i := 2) sc_law_right.nd rfl (by first | exact Or.inl rfl | exact Or.inr rfl) (pe_callTy call_tuple_of (by rfl) m_tuple (by decide +kernel) (pa_cons (pe_op op_cat (pv 2) (pe_lc (own := [("turn", 10)]) (g := (gName 10)) rfl sc_law_right.nd (pi_range1 rfl m_range (pa_cons (pe_call G__law_cast (hr.mono (by decide)) (by rfl) g__law_cast F__law_cast.kp b__law_cast .nil pass0 (pa_cons (pv 0) (pa_cons pe_int pa_nil))) pa_nil)) (blkOk_by (N := Nlaw_right) (sc := defScope s_law_right) (by decide +kernel))
      (fun _ _ _ _ _ => (pg_name (i := 10) sc_law_right.nd rfl (Or.inl rfl))) (fun _ _ _ _ _ => (pts_one (pt_cmpR (r := rNeNil K) (op_neNil hr.units) (pv 2) (pe_lst pa_nil) (nomark _)))) (fun _ _ _ _ _ => (pe_call G__law_pick (hr.mono (by decide)) (by rfl) g__law_pick F__law_pick.kp b__law_pick .nil pass0 (pa_cons (pv 0) (pa_cons (pv 2) pa_nil)))))) pa_nil)))
      (pss_cons (ps_par (i := 3) (j := 4) rfl sc_law_right.nd rfl rfl (by decide) rfl rfl (pa_cons (pe_call G_greatest (hr.mono (by decide)) (by rfl) g_greatest F_greatest.kp b_greatest .nil pass0 (pa_cons (pv 2) pa_nil)) (pa_cons (pe_call G_least (hr.mono (by decide)) (by rfl) g_least F_least.kp b_least .nil pass0 (pa_cons (pv 2) pa_nil)) pa_nil)) rfl)
      (pss_cons (ps_for PassesOwn.never rfl (pi_tup (pe_tup (pa_cons (pv 3) (pa_cons (pv 4) pa_nil)))) (pg_name (i := 5) sc_law_right.nd rfl (by first | exact Or.inl rfl | exact Or.inr rfl))
        (pss_cons (ps_if (pt_cmpR (Zt.op_neR hr.units) (pe_callTy call_list_of (by rfl) m_list (by decide +kernel) (pa_cons (pv 5) pa_nil)) (pe_callB (id := "sorted") (r := Zt.rSrtS K P w) (Zt.cr_srtS rfl) (by rfl) m_sorted (by decide +kernel) (pa_cons (pe_callTy (T := "set") (r := Zt.rSetT K P w) (Zt.cr_setT rfl hr.units) (by rfl) m_set (by decide +kernel) (pa_cons (pv 5) pa_nil)) pa_nil)) (nomark _))
          (pss_one (ps_ret pe_bl))
          pss_nil)
        (pss_cons (ps_if (pt_cmpR (op_neNil hr.units) (pe_lc (own := [("one", 6)]) (g := (gName 6)) rfl sc_law_right.nd (pi_tup (pv 5)) (blkOk_by (N := Nlaw_right) (sc := defScope s_law_right) (by decide +kernel))
      (fun _ _ _ _ _ => (pg_name (i := 6) sc_law_right.nd rfl (Or.inl rfl))) (fun _ _ _ _ _ => (pts_one (pt_cmpR (r := Zt.rNinR K) (Zt.op_ninR hr.units) (pv 6) (pv 2) (by with_unfolding_all rfl)))) (fun _ _ _ _ _ => (pv 6))) (pe_lst pa_nil) (nomark _))
          (pss_one (ps_ret pe_bl))
          pss_nil)
        (pss_one (ps_for PassesOwn.never rfl (pi_tup (pv 5)) (pg_name (i := 6) sc_law_right.nd rfl (by first | exact Or.inl rfl | exact Or.inr rfl))
          (pss_cons (ps_setLc (i := 7) (own := [("other", 11)]) (g := (gName 11)) rfl sc_law_right.nd rfl rfl (sw_true rfl rfl rfl (by decide +kernel)) (pi_tup (pv 5)) (blkOk_by (N := Nlaw_right) (sc := defScope s_law_right) (by decide +kernel))
      (fun _ _ _ _ _ => (pg_name (i := 11) sc_law_right.nd rfl (Or.inl rfl))) (fun _ _ _ _ _ => (pts_one (pt_cmpR (r := rNeTI K) (op_neTI hr.units) (pv 11) (pv 6) (nomark _)))) (fun _ _ _ _ _ => (pv 11)))
          (pss_one (ps_if (pt_cmpR (op_neNil hr.units) (pe_lc (own := [("other", 11)]) (g := (gName 11)) rfl sc_law_right.nd (pi_list (pv 7)) (blkOk_by (N := Nlaw_right) (sc := defScope s_law_right) (by decide +kernel))
      (fun _ _ _ _ _ => (pg_name (i := 11) sc_law_right.nd rfl (Or.inl rfl))) (fun _ _ _ _ _ => (pts_one (pt_val (pe_call G_within (hr.mono (by decide)) (by rfl) g_within F_within.kp b_within .nil pass0 (pa_cons (pv 6) (pa_cons (pv 11) pa_nil)))))) (fun _ _ _ _ _ => (pv 11))) (pe_lst pa_nil) (nomark _))
            (pss_one (ps_ret pe_bl))
            pss_nil))))))))
      (pss_cons (ps_for PassesOwn.never rfl (pi_tup (pv 2)) (pg_name (i := 6) sc_law_right.nd rfl (by first | exact Or.inl rfl | exact Or.inr rfl))
        (pss_cons (ps_if (pt_cmpR (op_eqNil hr.units) (pe_lc (own := [("other", 11)]) (g := (gName 11)) rfl sc_law_right.nd (pi_tup (pv 3)) (blkOk_by (N := Nlaw_right) (sc := defScope s_law_right) (by decide +kernel))
      (fun _ _ _ _ _ => (pg_name (i := 11) sc_law_right.nd rfl (Or.inl rfl))) (fun _ _ _ _ _ => (pts_one (pt_val (pe_call G_within (hr.mono (by decide)) (by rfl) g_within F_within.kp b_within .nil pass0 (pa_cons (pv 6) (pa_cons (pv 11) pa_nil)))))) (fun _ _ _ _ _ => (pv 11))) (pe_lst pa_nil) (nomark _))
          (pss_one (ps_ret pe_bl))
          pss_nil)
        (pss_one (ps_if (pt_cmpR (op_eqNil hr.units) (pe_lc (own := [("other", 11)]) (g := (gName 11)) rfl sc_law_right.nd (pi_tup (pv 4)) (blkOk_by (N := Nlaw_right) (sc := defScope s_law_right) (by decide +kernel))
      (fun _ _ _ _ _ => (pg_name (i := 11) sc_law_right.nd rfl (Or.inl rfl))) (fun _ _ _ _ _ => (pts_one (pt_val (pe_call G_within (hr.mono (by decide)) (by rfl) g_within F_within.kp b_within .nil pass0 (pa_cons (pv 11) (pa_cons (pv 6) pa_nil)))))) (fun _ _ _ _ _ => (pv 11))) (pe_lst pa_nil) (nomark _))
          (pss_one (ps_ret pe_bl))
          pss_nil))))
      (pss_cons (ps_set (i := 8) sc_law_right.nd rfl (by first | exact Or.inl rfl | exact Or.inr rfl) (pe_callTy call_tuple_of (by rfl) m_tuple (by decide +kernel) (pa_cons (pe_lc (own := [("turn", 10)]) (g := (gName 10)) (tt := tYes) rfl sc_law_right.nd (pi_range1 rfl m_range (pa_cons (pv 1) pa_nil)) (blkOk_by (N := Nlaw_right) (sc := defScope s_law_right) (by decide +kernel))
      (fun _ _ _ _ _ => (pg_name (i := 10) sc_law_right.nd rfl (Or.inl rfl))) (fun _ _ _ _ _ => pts_nil) (fun _ _ _ _ _ => (pe_call G__law_pick (hr.mono (by decide)) (by rfl) g__law_pick F__law_pick.kp b__law_pick .nil pass0 (pa_cons (pv 0) (pa_cons (pe_lst (pa_cons pe_int (pa_cons pe_int (pa_cons pe_int pa_nil)))) pa_nil))))) pa_nil)))
      (pss_cons (ps_set (i := 9) sc_law_right.nd rfl (by first | exact Or.inl rfl | exact Or.inr rfl) (pe_callTy call_tuple_of (by rfl) m_tuple (by decide +kernel) (pa_cons (pe_lc (own := [("one", 6)]) (g := (gName 6)) (tt := tYes) rfl sc_law_right.nd (pi_tup (pv 2)) (blkOk_by (N := Nlaw_right) (sc := defScope s_law_right) (by decide +kernel))
      (fun _ _ _ _ _ => (pg_name (i := 6) sc_law_right.nd rfl (Or.inl rfl))) (fun _ _ _ _ _ => pts_nil) (fun _ _ _ _ _ => (pe_call G_added (hr.mono (by decide)) (by rfl) g_added F_added.kp b_added .nil pass0 (pa_cons (pv 6) (pa_cons (pv 8) pa_nil))))) pa_nil)))
      (pss_cons (ps_if (pt_cmpR (Zt.op_neR hr.units) (pe_call G_greatest (hr.mono (by decide)) (by rfl) g_greatest F_greatest.kp b_greatest .nil pass0 (pa_cons (pv 9) pa_nil)) (pe_callTy call_tuple_of (by rfl) m_tuple (by decide +kernel) (pa_cons (pe_callB (id := "sorted") (r := Zt.rSrtL K) Zt.cr_srtL (by rfl) m_sorted (by decide +kernel) (pa_cons (pe_lc (own := [("one", 6)]) (g := (gName 6)) (tt := tYes) rfl sc_law_right.nd (pi_tup (pv 3)) (blkOk_by (N := Nlaw_right) (sc := defScope s_law_right) (by decide +kernel))
      (fun _ _ _ _ _ => (pg_name (i := 6) sc_law_right.nd rfl (Or.inl rfl))) (fun _ _ _ _ _ => pts_nil) (fun _ _ _ _ _ => (pe_call G_added (hr.mono (by decide)) (by rfl) g_added F_added.kp b_added .nil pass0 (pa_cons (pv 6) (pa_cons (pv 8) pa_nil))))) pa_nil)) pa_nil)) (nomark _))
        (pss_one (ps_ret pe_bl))
        pss_nil)
      (pss_cons (ps_if (pt_cmpR (Zt.op_neR hr.units) (pe_call G_greatest (hr.mono (by decide)) (by rfl) g_greatest F_greatest.kp b_greatest .nil pass0 (pa_cons (pv 3) pa_nil)) (pv 3) (nomark _))
        (pss_one (ps_ret pe_bl))
        pss_nil)
      (pss_cons (ps_if (pt_cmpR (Zt.op_neR hr.units) (pe_call G_least (hr.mono (by decide)) (by rfl) g_least F_least.kp b_least .nil pass0 (pa_cons (pv 4) pa_nil)) (pv 4) (nomark _))
        (pss_one (ps_ret pe_bl))
        pss_nil)
      (pss_one (ps_ret (pe_cmpR (Zt.op_eqR hr.units) (pe_call G_greatest (hr.mono (by decide)) (by rfl) g_greatest F_greatest.kp b_greatest .nil pass0 (pa_cons (pe_revT (pv 2)) pa_nil)) (pv 3) (nomark _))))))))))))))), ?_⟩
    -- size
    refine ⟨_, rfl, len_ok, fun M mM => ⟨d, hD0.new mM, .inl ⟨M, _, rfl, hD0.free mM, .inl (.inl (.inl upd_same)), List.cons_ne_nil _ _, Nat.lt_of_le_of_lt (Nat.le_of_ble_eq_true (show Nat.ble _ 1000 = true from rfl)) (by decide), fun j v H1 hj hN1 => ?_⟩⟩⟩
    have hv : ∃ n : Nat, v = .int n ∧ 1 ≤ n ∧ n ≤ 5 := by
      have hm := List.mem_of_getElem? hj
      clear hj
      revert v
      exact all_cons ⟨2, rfl, by decide, by decide⟩ (all_cons ⟨1, rfl, by decide, by decide⟩ (all_cons ⟨3, rfl, by decide, by decide⟩ (all_cons ⟨4, rfl, by decide, by decide⟩ (all_cons ⟨5, rfl, by decide, by decide⟩ all_nil))))
    obtain ⟨n, rfl, n1, n5⟩ := hv
    have b1 : But d H H1 := ((But.refl d H).new mM).trans hN1.but
    have hD1 : DieAt H1 d := hN1.die
    clear hN1 hj mM hD0
    -- some
    refine ⟨_, rfl, d, 9, rfl, hD1, by decide, by decide, fun r H2 hr9 hN2 => ⟨(r : Int), rfl, by omega, by omega, fun S nS => ?_⟩⟩
    have b2 : But d H H2 := b1.trans hN2.but
    have hD2 : DieAt H2 d := hN2.die
    have nSd : S ≠ d := hD2.free nS
    refine lc_range (lo := 0) (n := r) (fun i H3 => ∃ Ls : List (Addr × List Int), Ls.length = i ∧ (∀ x ∈ Ls, H3 x.1 = some (.tup (x.2.map V.int)) ∧ x.2.length = n ∧ Drawn x.2) ∧ H3 S = some (.lst (refs Ls)) ∧ DieAt H3 d ∧ But d H2 H3) ⟨[], rfl, (fun _ h => by cases h), upd_same, hD2.new nS, (But.refl d H2).new nS⟩ (fun i H3 hi hp => ?_) (fun H3 hp => ?_)
    · obtain ⟨Ls, hlen, hx, hl, hDe, hb⟩ := hp
      refine ⟨rfl, _, rfl, _, rfl, d, n, rfl, hDe, n5, fun p H4 ns hns hdr hp hb3 hD3 => ⟨_, hb3 _ _ nSd hl, ?_, Ls ++ [(p, ns)], ?_, fun x hx' => ?_, ?_, hD3.put nSd, (hb.trans hb3).put nS⟩⟩
      · rw [List.length_map, hlen]
        exact small1000 (by omega)
      · rw [List.length_append, hlen]
        rfl
      · have up : ∀ r xs, H4 r = some (.tup xs) → upd H4 S (.lst (refs Ls ++ [.ref p])) r = some (.tup xs) := fun r xs hr => tup_upl (hb3 _ _ nSd hl) hr
        rcases List.mem_append.mp hx' with hx' | hx'
        · exact ⟨up _ _ (But.tup hDe hb3 (hx x hx').1), (hx x hx').2⟩
        · rw [List.mem_singleton.mp hx']
          exact ⟨up _ _ hp, hns, hdr⟩
      · rw [upd_same]
        simp [refs]
    · obtain ⟨Ls, hlen, hx, hl, hDe, hb⟩ := hp
      have b3 : But d H H3 := b2.trans hb
      clear hb b2 b1 nS hD1 hD2 hN2
      have lS : Ls.length ≤ 8 := by omega
      have row : ∀ x ∈ Ls, H3 x.1 = some (.tup (x.2.map V.int)) := fun x hx' => (hx x hx').1
      have len : ∀ x ∈ Ls, OfLen n x.2 := fun x hx' => ⟨(hx x hx').2.2.wide (by rw [(hx x hx').2.1]; exact n1) (by rw [(hx x hx').2.1]; exact n5), (hx x hx').2.1⟩
      clear hx
      -- some = tuple(some + [..])
      refine ⟨_, rfl, _, rfl, d, 3, rfl, hDe, by decide, by decide, fun r2 H4 hr3 hN4 => ⟨(r2 : Int), rfl, by omega, by omega, fun D nD => ?_⟩⟩
      have b4 : But d H H4 := b3.trans hN4.but
      have hD4 : DieAt H4 d := hN4.die
      have nDd : D ≠ d := hD4.free nD
      have row4 : ∀ x ∈ Ls, H4 x.1 = some (.tup (x.2.map V.int)) := fun x hx => hN4.tup hDe (row x hx)
      have l4 : H4 S = some (.lst (refs Ls)) := hN4.but _ _ nSd hl
      clear hN4 hDe b3 row hl
      refine lc_range (lo := 0) (n := r2) (fun i H5 => ∃ Ms : List (Addr × List Int), Ms.length ≤ i ∧ (∀ x ∈ Ms, x ∈ Ls) ∧ H5 D = some (.lst (refs Ms)) ∧ DieAt H5 d ∧ But d H4 H5) ⟨[], Nat.le_refl _, (fun _ h => by cases h), upd_same, hD4.new nD, (But.refl d H4).new nD⟩ (fun i H5 hi hp => ?_) (fun H5 hp => ?_)
      · obtain ⟨Ms, hlen, hM, lM, hDe, hb⟩ := hp
        refine ⟨rfl, _, rfl, len_ok, fun N nN => ⟨S, N, _, rfl, rfl, .inl (.inl (upd_keep (hb _ _ nSd l4) nN)), .inl (.inl upd_same), ?_⟩⟩
        have hb6 : But d H4 (upd H5 N (.lst [])) := hb.new nN
        have hD6 : DieAt (upd H5 N (.lst [])) d := hDe.new nN
        have lM6 : upd H5 N (.lst []) D = some (.lst (refs Ms)) := upd_keep lM nN
        generalize upd H5 N (.lst []) = H6 at hb6 hD6 lM6
        have l6 : H6 S = some (.lst (refs Ls)) := hb6 _ _ nSd l4
        cases e : (refs Ls).isEmpty with
        | true => exact ⟨_, rfl, iteF ⟨Ms, by omega, hM, lM6, hD6, hb6⟩⟩
        | false =>
          have ne : refs Ls ≠ [] := fun z => by rw [z] at e; cases e
          refine ⟨_, rfl, iteT ⟨_, rfl, _, rfl, d, hD6, .inl ⟨S, refs Ls, rfl, nSd, .inl (.inl (.inl l6)), ne, Nat.lt_of_le_of_lt (show _ ≤ 8 by rw [List.length_map]; exact lS) (by decide), fun j v H7 hj hN7 => ?_⟩⟩⟩
          obtain ⟨x, hxj, rfl, hxm⟩ := ref_at hj
          refine ⟨_, hN7.but _ _ nDd lM6, ?_, Ms ++ [x], ?_, fun y hy => ?_, ?_, (hN7.die).put nDd, (hb6.trans hN7.but).put nD⟩
          · rw [List.length_map]
            exact small1000 (by omega)
          · rw [List.length_append]
            show _ + 1 ≤ _
            omega
          · rcases List.mem_append.mp hy with hy | hy
            · exact hM y hy
            · rw [List.mem_singleton.mp hy]
              exact hxm
          · rw [upd_same]
            simp [refs]
      · obtain ⟨Ms, hlen, hM, lM, hD5, hb5⟩ := hp
        refine ⟨S, D, _, _, rfl, rfl, hb5 _ _ nSd l4, lM, Nat.le_of_lt (small1000 (show _ ≤ 1000 by rw [List.length_map, List.length_map]; omega)), fun L0 nL => ⟨L0, _, rfl, .inl ⟨.inl (.inl upd_same), fun T nT => ?_⟩⟩⟩
        have s7 : Same H5 (upd (upd H5 L0 (.lst (refs Ls ++ refs Ms))) T (.tup (refs Ls ++ refs Ms))) := same_new (same_new (Same.refl H5) nL) nT
        have hD7 := hD5.same s7
        have b7 : But d H _ := (b4.trans hb5).same s7
        have row7 : ∀ x ∈ Ls, (upd (upd H5 L0 (.lst (refs Ls ++ refs Ms))) T (.tup (refs Ls ++ refs Ms))) x.1 = some (.tup (x.2.map V.int)) := fun x hx => s7 _ _ (But.tup hD4 hb5 (row4 x hx))
        have hT : (upd (upd H5 L0 (.lst (refs Ls ++ refs Ms))) T (.tup (refs Ls ++ refs Ms))) T = some (.tup (refs (Ls ++ Ms))) := by
          rw [upd_same]
          simp [refs]
        generalize (upd (upd H5 L0 (.lst (refs Ls ++ refs Ms))) T (.tup (refs Ls ++ refs Ms))) = H7 at hD7 b7 row7 hT
        have sub : ∀ x ∈ Ls ++ Ms, x ∈ Ls := fun x hx => (List.mem_append.mp hx).elim id (hM x)
        have hB : BagsAt H7 T n (Ls ++ Ms) := ⟨hT, fun x hx => row7 x (sub x hx), fun x hx => len x (sub x hx), by rw [List.length_append]; omega⟩
        have few : (Ls ++ Ms).length ≤ 16 := by rw [List.length_append]; omega
        clear s7 nT nL hD5 hb5 lM hM hlen row7 hT sub row4 l4 nDd nD b4 hD4 len lS nSd
        generalize Ls ++ Ms = ks at hB few
        -- upper, lower
        refine ⟨_, rfl, T, n, ks, rfl, hB, fun U H8 us S0 s8 hU aS mS kU subU => ⟨_, rfl, T, n, ks, rfl, hB.same s8, fun W H9 ws S1 s9 hW aS1 mS1 kW subW => ?_⟩⟩
        have eS : S1 = S0 := asc_uniq aS1 aS fun k => (mS1 k).trans (mS k).symm
        subst eS
        clear mS1 aS1
        have hB9 := (hB.same s8).same s9
        have hU9 := hU.same s9
        have hD9 : DieAt H9 d := (hD7.same s8).same s9
        have b9 : But d H H9 := (b7.same s8).same s9
        clear hB hU hD7 b7 s8 s9
        have t1 : Told1 H9 U n ks us := ⟨hU9, by rw [kU]; exact aS.tops, subU, fun x hx y hy ne => by
          rw [kU] at hx hy
          exact (mem_tops.mp hx).2 y (mem_tops.mp hy).1 ne⟩
        have t2 : Told1 H9 W n ks ws := ⟨hW, by rw [kW]; exact aS.tops, subW, fun x hx y hy ne => by
          rw [kW] at hx hy
          exact (mem_tops.mp hy).2 x (mem_tops.mp hx).1 (Ne.symm ne)⟩
        refine ⟨_, _, rfl, ?_⟩
        -- for told in (upper, lower)
        refine ⟨_, rfl, _, rfl, len_ok, fun A0 nA0 => ⟨A0, rfl, ⟨_, .inl (.inl upd_same)⟩, ?_⟩⟩
        have t1' := t1.same (same_new (Same.refl H9) nA0 (o := .tup [.ref U, .ref W]))
        have t2' := t2.same (same_new (Same.refl H9) nA0 (o := .tup [.ref U, .ref W]))
        have hB10 := hB9.same (same_new (Same.refl H9) nA0 (o := .tup [.ref U, .ref W]))
        have hD10 := hD9.new nA0 (o := .tup [.ref U, .ref W])
        have b10 := b9.new nA0 (o := .tup [.ref U, .ref W])
        have gA : upd H9 A0 (.tup [.ref U, .ref W]) A0 = some (.tup [.ref U, .ref W]) := upd_same
        generalize upd H9 A0 (.tup [.ref U, .ref W]) = HA at t1' t2' hB10 hD10 b10 gA
        clear t1 t2 hB9 hD9 b9 nA0 hU9 hW H1
        refine for_tup (xs := [.ref U, .ref W]) (fun i σ H' => (∃ u5 u6 u7 u8 u9 u10 u11, σ = [some (.ref d), some (.int n), some (.ref T), some (.ref U), some (.ref W), u5, u6, u7, u8, u9, u10, u11]) ∧ Same HA H') ⟨⟨_, _, _, _, _, _, _, rfl⟩, Same.refl HA⟩ (fun i σ H' _ hp => .inl (.inl (hp.2 _ _ gA))) (fun i x σ H' hx hp => ?_) (fun σ H' hp => ?_)
        · obtain ⟨⟨u5, u6, u7, u8, u9, u10, u11, rfl⟩, sA⟩ := hp
          obtain ⟨t, M, rfl, hM⟩ : ∃ t M, x = .ref t ∧ Told1 H' t n ks M := by
            have hm := List.mem_of_getElem? hx
            simp only [List.mem_cons, List.mem_singleton, List.not_mem_nil, or_false] at hm
            rcases hm with rfl | rfl
            · exact ⟨U, us, rfl, t1'.same sA⟩
            · exact ⟨W, ws, rfl, t2'.same sA⟩
          clear hx
          have hB' := hB10.same sA
          -- list(told) != sorted(set(told))
          refine ⟨_, rfl, t, _, rfl, .inr (.inl (.inl hM.at_.tup)), fun l nl => ⟨_, rfl, t, M, rfl, .inl (.inl (upd_keep hM.at_.tup nl)), fun q hq => .inl (.inl (upd_keep (hM.at_.row q hq) nl)), hM.at_.few, fun A1 L1 nA1 hL1 hL2 => ?_⟩⟩
          refine ⟨A1, L1, rfl, upd_same, fun q hq => .inl (.inl (upd_keep (upd_keep (hM.at_.row q (hL1 q hq)) nl) nA1)), fun q hq => (hM.at_.all q (hL1 q hq)).ne, fun L2 B1 pm ascL few2 nB1 => ?_⟩
          have row2 : ∀ q ∈ L2, q ∈ M := fun q hq => hL1 q (pm.mem_iff.mp hq)
          have s3 : Same H' (upd (upd (upd H' l (.lst (refs M))) A1 (SetTO P w A1 L1)) B1 (.lst (L2.map fun q => V.ref q.1))) := same_new (same_new (same_new (Same.refl H') nl) nA1) nB1
          have gl : (upd (upd (upd H' l (.lst (refs M))) A1 (SetTO P w A1 L1)) B1 (.lst (L2.map fun q => V.ref q.1))) l = some (.lst (refs M)) := upd_keep (upd_keep upd_same nA1) nB1
          have eM : keys M = keys L2 := asc_uniq hM.asc ascL fun k => by
            constructor
            · intro hk
              obtain ⟨q, hq, rfl⟩ := List.mem_map.mp hk
              exact ((pm.map (·.2)).mem_iff).mpr (hL2 q hq)
            · intro hk
              obtain ⟨q, hq, rfl⟩ := List.mem_map.mp hk
              exact keys_mem (row2 q hq)
          refine ⟨l, B1, M, L2, rfl, rfl, .inr ⟨.inl (.inl gl), .inl (.inl upd_same)⟩, fun q hq => .inl (.inl (s3 _ _ (hM.at_.row q hq))), fun q hq => .inl (.inl (s3 _ _ (hM.at_.row q (row2 q hq)))), ?_⟩
          rw [if_pos rfl, eM, decide_eq_true rfl]
          refine ⟨_, rfl, iteF ?_⟩
          generalize (upd (upd (upd H' l (.lst (refs M))) A1 (SetTO P w A1 L1)) B1 (.lst (L2.map fun q => V.ref q.1))) = H11 at s3
          clear gl nB1 nA1 nl pm ascL few2 row2 hL1 hL2 eM
          have hM11 := hM.same s3
          have hB11 := hB'.same s3
          have sA11 := sA.trans s3
          clear hM hB' sA s3
          -- [one for one in told if one not in some] != []
          refine ⟨_, rfl, t, rfl, ⟨_, .inl (.inl hM11.at_.tup)⟩, fun D2 nD2 => ?_⟩
          refine lc_tup (xs := refs M) (fun j H5 => Same H11 H5 ∧ H5 D2 = some (.lst [])) ⟨same_new (Same.refl H11) nD2, upd_same⟩ (fun j H5 _ hp => .inl (.inl (hp.1 _ _ hM11.at_.tup))) (fun j x H5 hx hp => ?_) (fun H5 hp => ?_)
          · obtain ⟨s5, l5⟩ := hp
            obtain ⟨o, ho, rfl, hom⟩ := ref_at hx
            refine ⟨rfl, _, rfl, _, rfl, o.1, T, o.2, ks, rfl, rfl, .inl (.inl (s5 _ _ (hM11.at_.row o hom))), .inl (.inl (s5 _ _ hB11.tup)), rowsIn_of (hB11.same s5).row, ?_⟩
            rw [decide_eq_true (keys_mem (hM11.sub o hom))]
            exact ⟨_, rfl, iteF ⟨s5, l5⟩⟩
          · obtain ⟨s5, l5⟩ := hp
            refine ⟨Nat.zero_le _, fun N2 nN2 => ⟨D2, N2, [], rfl, rfl, .inl (.inl (upd_keep l5 nN2)), .inl (.inl upd_same), _, rfl, iteF ?_⟩⟩
            have s6 : Same H11 (upd H5 N2 (.lst [])) := same_new s5 nN2
            generalize upd H5 N2 (.lst []) = H12 at s6
            have hM12 := hM11.same s6
            have s12 := sA11.trans s6
            clear hM11 hB11 s6 s5 l5 nN2 nD2 sA11
            -- for one in told
            refine ⟨_, rfl, t, rfl, ⟨_, .inl (.inl hM12.at_.tup)⟩, for_tup (xs := refs M) (fun i σ H' => (∃ u6 u7 u8 u9 u10 u11, σ = [some (.ref d), some (.int n), some (.ref T), some (.ref U), some (.ref W), some (.ref t), u6, u7, u8, u9, u10, u11]) ∧ Same H12 H') ⟨⟨_, _, _, _, _, _, rfl⟩, Same.refl H12⟩ (fun i σ H' _ hp => .inl (.inl (hp.2 _ _ hM12.at_.tup))) (fun i x σ H' hx hp => ?_) (fun σ H' hp => ?_)⟩
            · obtain ⟨⟨u6, u7, u8, u9, u10, u11, rfl⟩, sm⟩ := hp
              obtain ⟨o, ho, rfl, hom⟩ := ref_at hx
              have hM13 := hM12.same sm
              -- others
              refine ⟨_, rfl, t, rfl, ⟨_, .inl (.inl hM13.at_.tup)⟩, fun D3 nD3 => ?_⟩
              refine lc_tup (xs := refs M) (fun j H5 => Same H' H5 ∧ H5 D3 = some (.lst (refs ((M.take j).filter fun z => !decide (z.2 = o.2))))) ⟨same_new (Same.refl H') nD3, upd_same⟩ (fun j H5 _ hp => .inl (.inl (hp.1 _ _ hM13.at_.tup))) (fun j x H5 hx hp => ?_) (fun H5 hp => ?_)
              · obtain ⟨s5, l5⟩ := hp
                obtain ⟨z, hz, rfl, hzm⟩ := ref_at hx
                have tk : (M.take (j + 1)).filter (fun z => !decide (z.2 = o.2)) = (M.take j).filter (fun z => !decide (z.2 = o.2)) ++ [z].filter (fun z => !decide (z.2 = o.2)) := by
                  rw [take_keys hz, List.filter_append]
                refine ⟨rfl, _, rfl, _, rfl, z.1, o.1, z.2, o.2, rfl, rfl, .inl (.inl (s5 _ _ (hM13.at_.row z hzm))), .inl (.inl (s5 _ _ (hM13.at_.row o hom))), ?_⟩
                by_cases e : z.2 = o.2
                · rw [decide_eq_true e]
                  refine ⟨_, rfl, iteF ⟨s5, ?_⟩⟩
                  rw [l5, tk, List.filter_cons, decide_eq_true e]
                  simp
                · rw [decide_eq_false e]
                  refine ⟨_, rfl, iteT ⟨_, rfl, _, l5, ?_, same_put s5 nD3, ?_⟩⟩
                  · rw [List.length_map]
                    refine Nat.lt_of_le_of_lt (List.length_filter_le _ _) ?_
                    rw [List.length_take]
                    exact small1000 (Nat.le_trans (Nat.min_le_left _ _) (by have := hM13.at_.few; have := (List.getElem?_eq_some_iff.mp hz).1; omega))
                  · rw [upd_same, tk, List.filter_cons, decide_eq_false e]
                    simp
              · obtain ⟨s5, l5⟩ := hp
                rw [List.take_of_length_le (by rw [List.length_map]; exact Nat.le_refl _)] at l5
                have hM14 := hM13.same s5
                -- [other for other in others if within(one, other)] != []
                refine ⟨_, rfl, D3, rfl, ⟨_, .inl (.inl l5)⟩, fun D4 nD4 => ?_⟩
                refine lc_list (xs := refs (M.filter fun z => !decide (z.2 = o.2))) (fun j H6 => Same H5 H6 ∧ H6 D4 = some (.lst [])) ⟨same_new (Same.refl H5) nD4, upd_same⟩ (fun j H6 _ hp => .inl (.inl (hp.1 _ _ l5))) (fun j x H6 hx hp => ?_) (fun H6 hp => ?_)
                · obtain ⟨s6, l6⟩ := hp
                  obtain ⟨z, hz, rfl, hzm⟩ := ref_at hx
                  obtain ⟨hzM, hne⟩ := List.mem_filter.mp hzm
                  have hM15 := hM14.same s6
                  have wz := hM15.at_.all z hzM
                  have wo := hM15.at_.all o hom
                  refine ⟨rfl, _, rfl, _, rfl, o.2, z.2, ⟨o.1, z.1, rfl, hM15.at_.row o hom, hM15.at_.row z hzM, wo.1, wz.1, by rw [wo.2, wz.2]⟩, fun H7 s7 => ⟨_, rfl, ?_⟩⟩
                  rw [hM15.quiet o.2 (keys_mem hom) z.2 (keys_mem hzM) (by simpa using hne)]
                  exact iteF ⟨s6.trans s7, s7 _ _ l6⟩
                · obtain ⟨s6, l6⟩ := hp
                  refine ⟨Nat.zero_le _, fun N2 nN2 => ⟨D4, N2, [], rfl, rfl, .inl (.inl (upd_keep l6 nN2)), .inl (.inl upd_same), _, rfl, iteF ?_⟩⟩
                  exact ⟨⟨_, _, _, _, _, _, rfl⟩, ((sm.trans s5).trans s6).trans (same_new (Same.refl H6) nN2)⟩
            · obtain ⟨⟨u6, u7, u8, u9, u10, u11, rfl⟩, sm⟩ := hp
              exact ⟨⟨_, _, _, _, _, _, _, rfl⟩, s12.trans sm⟩
        · obtain ⟨⟨u5, u6, u7, u8, u9, u10, u11, rfl⟩, sA⟩ := hp
          have t1 := t1'.same sA
          have t2 := t2'.same sA
          have hB := hB10.same sA
          have hD := hD10.same sA
          have bb := b10.same sA
          clear t1' t2' hB10 hD10 b10 gA sA
          have dS : ∀ x ∈ S1, OfLen n x := fun x hx => by
            obtain ⟨z, hz, rfl⟩ := List.mem_map.mp ((mS x).mp hx)
            exact hB.all z hz
          have covU : ∀ z ∈ ks, ∃ y ∈ us, fitsB z.2 y.2 = true := fun z hz => by
            obtain ⟨k, hk, hf⟩ := tops_cov (ord_fits n) dS (Asc.nd aS) z.2 ((mS _).mpr (keys_mem hz))
            rw [← kU] at hk
            obtain ⟨y, hy, rfl⟩ := List.mem_map.mp hk
            exact ⟨y, hy, hf⟩
          have covW : ∀ z ∈ ks, ∃ y ∈ ws, fitsB y.2 z.2 = true := fun z hz => by
            obtain ⟨k, hk, hf⟩ := tops_cov (ord_under n) dS (Asc.nd aS) z.2 ((mS _).mpr (keys_mem hz))
            rw [← kW] at hk
            obtain ⟨y, hy, rfl⟩ := List.mem_map.mp hk
            exact ⟨y, hy, hf⟩
          -- for one in some
          refine ⟨_, rfl, T, rfl, ⟨_, .inl (.inl hB.tup)⟩, for_tup (xs := refs ks) (fun i σ H'' => (∃ u5 u6 u7 u8 u9 u10 u11, σ = [some (.ref d), some (.int n), some (.ref T), some (.ref U), some (.ref W), u5, u6, u7, u8, u9, u10, u11]) ∧ Same H' H'') ⟨⟨_, _, _, _, _, _, _, rfl⟩, Same.refl H'⟩ (fun i σ H'' _ hp => .inl (.inl (hp.2 _ _ hB.tup))) (fun i x σ H'' hx hp => ?_) (fun σ H'' hp => ?_)⟩
          · obtain ⟨⟨u5, u6, u7, u8, u9, u10, u11, rfl⟩, sm⟩ := hp
            obtain ⟨o, ho, rfl, hom⟩ := ref_at hx
            have wo := hB.all o hom
            have ro := sm _ _ (hB.row o hom)
            have t1a := t1.same sm
            refine ⟨_, rfl, U, rfl, ⟨_, .inl (.inl t1a.at_.tup)⟩, fun D nD => ?_⟩
            refine lc_tup (xs := refs us) (fun j H5 => Same H'' H5 ∧ H5 D = some (.lst (refs ((us.take j).filter fun z => fitsB o.2 z.2)))) ⟨same_new (Same.refl H'') nD, upd_same⟩ (fun j H5 _ hp => .inl (.inl (hp.1 _ _ t1a.at_.tup))) (fun j x H5 hx hp => ?_) (fun H5 hp => ?_)
            · obtain ⟨s5, l5⟩ := hp
              obtain ⟨z, hz, rfl, hzm⟩ := ref_at hx
              have wz := t1a.at_.all z hzm
              have rz := s5 _ _ (t1a.at_.row z hzm)
              have ro5 := s5 _ _ ro
              have tk : (us.take (j + 1)).filter (fun z => fitsB o.2 z.2) = (us.take j).filter (fun z => fitsB o.2 z.2) ++ [z].filter (fun z => fitsB o.2 z.2) := by
                rw [take_keys hz, List.filter_append]
              refine ⟨rfl, _, rfl, _, rfl, o.2, z.2, ⟨o.1, z.1, rfl, ro5, rz, wo.1, wz.1, by rw [wo.2, wz.2]⟩, fun H7 s7 => ⟨_, rfl, ?_⟩⟩
              cases hf : fitsB o.2 z.2 with
              | false =>
                refine iteF ⟨s5.trans s7, ?_⟩
                rw [s7 _ _ l5, tk, List.filter_cons, hf]
                simp
              | true =>
                refine iteT ⟨_, rfl, _, s7 _ _ l5, ?_, same_put (s5.trans s7) nD, ?_⟩
                · rw [List.length_map]
                  refine Nat.lt_of_le_of_lt (List.length_filter_le _ _) ?_
                  rw [List.length_take]
                  exact small1000 (Nat.le_trans (Nat.min_le_left _ _) (by have := t1a.at_.few; have := (List.getElem?_eq_some_iff.mp hz).1; omega))
                · rw [upd_same, tk, List.filter_cons, hf]
                  simp
            · obtain ⟨s5, l5⟩ := hp
              rw [List.take_of_length_le (by rw [List.length_map]; exact Nat.le_refl _)] at l5
              have some_ : (refs (us.filter fun z => fitsB o.2 z.2)).isEmpty = false := by
                obtain ⟨y, hy, hf⟩ := covU o hom
                have hm : y ∈ us.filter fun z => fitsB o.2 z.2 := List.mem_filter.mpr ⟨hy, hf⟩
                cases e : us.filter fun z => fitsB o.2 z.2 with
                | nil => rw [e] at hm; cases hm
                | cons a r => rfl
              refine ⟨Nat.zero_le _, fun N nN => ⟨D, N, _, rfl, rfl, .inl (.inl (upd_keep l5 nN)), .inl (.inl upd_same), _, rfl, ?_⟩⟩
              rw [some_]
              refine iteF ?_
              have t2a := (t2.same sm).same (s5.trans (same_new (Same.refl H5) nN (o := .lst [])))
              have ro2 := (same_new s5 nN (o := .lst [])) _ _ ro
              have sm2 := sm.trans (same_new s5 nN (o := .lst []))
              generalize upd H5 N (.lst []) = H6 at t2a ro2 sm2
              clear l5 s5 nN nD t1a
              refine ⟨_, rfl, W, rfl, ⟨_, .inl (.inl t2a.at_.tup)⟩, fun D nD => ?_⟩
              refine lc_tup (xs := refs ws) (fun j H5 => Same H6 H5 ∧ H5 D = some (.lst (refs ((ws.take j).filter fun z => fitsB z.2 o.2)))) ⟨same_new (Same.refl H6) nD, upd_same⟩ (fun j H5 _ hp => .inl (.inl (hp.1 _ _ t2a.at_.tup))) (fun j x H5 hx hp => ?_) (fun H5 hp => ?_)
              · obtain ⟨s5, l5⟩ := hp
                obtain ⟨z, hz, rfl, hzm⟩ := ref_at hx
                have wz := t2a.at_.all z hzm
                have rz := s5 _ _ (t2a.at_.row z hzm)
                have ro5 := s5 _ _ ro2
                have tk : (ws.take (j + 1)).filter (fun z => fitsB z.2 o.2) = (ws.take j).filter (fun z => fitsB z.2 o.2) ++ [z].filter (fun z => fitsB z.2 o.2) := by
                  rw [take_keys hz, List.filter_append]
                refine ⟨rfl, _, rfl, _, rfl, z.2, o.2, ⟨z.1, o.1, rfl, rz, ro5, wz.1, wo.1, by rw [wo.2, wz.2]⟩, fun H7 s7 => ⟨_, rfl, ?_⟩⟩
                cases hf : fitsB z.2 o.2 with
                | false =>
                  refine iteF ⟨s5.trans s7, ?_⟩
                  rw [s7 _ _ l5, tk, List.filter_cons, hf]
                  simp
                | true =>
                  refine iteT ⟨_, rfl, _, s7 _ _ l5, ?_, same_put (s5.trans s7) nD, ?_⟩
                  · rw [List.length_map]
                    refine Nat.lt_of_le_of_lt (List.length_filter_le _ _) ?_
                    rw [List.length_take]
                    exact small1000 (Nat.le_trans (Nat.min_le_left _ _) (by have := t2a.at_.few; have := (List.getElem?_eq_some_iff.mp hz).1; omega))
                  · rw [upd_same, tk, List.filter_cons, hf]
                    simp
              · obtain ⟨s5, l5⟩ := hp
                rw [List.take_of_length_le (by rw [List.length_map]; exact Nat.le_refl _)] at l5
                have some_ : (refs (ws.filter fun z => fitsB z.2 o.2)).isEmpty = false := by
                  obtain ⟨y, hy, hf⟩ := covW o hom
                  have hm : y ∈ ws.filter fun z => fitsB z.2 o.2 := List.mem_filter.mpr ⟨hy, hf⟩
                  cases e : ws.filter fun z => fitsB z.2 o.2 with
                  | nil => rw [e] at hm; cases hm
                  | cons a r => rfl
                refine ⟨Nat.zero_le _, fun N nN => ⟨D, N, _, rfl, rfl, .inl (.inl (upd_keep l5 nN)), .inl (.inl upd_same), _, rfl, ?_⟩⟩
                rw [some_]
                refine iteF ?_
                exact ⟨⟨_, _, _, _, _, _, _, rfl⟩, (sm2.trans s5).trans (same_new (Same.refl H5) nN)⟩
          · obtain ⟨⟨u5, u6, u7, u8, u9, u10, u11, rfl⟩, sm⟩ := hp
            have t1b := t1.same sm
            have t2b := t2.same sm
            have hBb := hB.same sm
            have hDb := hD.same sm
            have bbb := bb.same sm
            clear t1 t2 hB hD bb sm covU covW
            -- more
            refine ⟨_, rfl, (n : Int), rfl, by omega, by omega, fun D nD => ?_⟩
            have nDd : D ≠ d := hDb.free nD
            refine lc_range (lo := 0) (n := n) (fun i H5 => ∃ ms : List Int, ms.length = i ∧ NonNeg ms ∧ H5 D = some (.lst (ms.map V.int)) ∧ DieAt H5 d ∧ But d H'' H5) ⟨[], rfl, (fun _ h => by cases h), upd_same, hDb.new nD, (But.refl d H'').new nD⟩ (fun i H5 hi hp => ?_) (fun H5 hp => ?_)
            · obtain ⟨ms, hlen, hM, lM, hDe, hb⟩ := hp
              refine ⟨rfl, _, rfl, len_ok, fun N nN => ⟨d, hDe.new nN, .inl ⟨N, _, rfl, hDe.free nN, .inl (.inl (.inl upd_same)), List.cons_ne_nil _ _, Nat.lt_of_le_of_lt (Nat.le_of_ble_eq_true (show Nat.ble _ 1000 = true from rfl)) (by decide), fun j v H7 hj hN7 => ?_⟩⟩⟩
              have hv : ∃ e : Int, v = .int e ∧ 0 ≤ e := by
                have hm := List.mem_of_getElem? hj
                clear hj hN7
                revert v
                exact all_cons ⟨0, rfl, by decide⟩ (all_cons ⟨1, rfl, by decide⟩ (all_cons ⟨7, rfl, by decide⟩ all_nil))
              obtain ⟨e, rfl, he⟩ := hv
              refine ⟨_, hN7.but _ _ nDd (upd_keep lM nN), ?_, ms ++ [e], ?_, fun y hy => ?_, ?_, (hN7.die).put nDd, ((hb.new nN).trans hN7.but).put nD⟩
              · rw [List.length_map]
                exact small1000 (by omega)
              · rw [List.length_append, hlen]
                rfl
              · rcases List.mem_append.mp hy with hy | hy
                · exact hM y hy
                · rw [List.mem_singleton.mp hy]
                  exact he
              · rw [upd_same]
                simp
            · obtain ⟨ms, hlen, hM, lM, hDe, hb⟩ := hp
              refine ⟨D, _, rfl, .inl ⟨.inl (.inl lM), fun R nR => ?_⟩⟩
              have sR : Same H5 (upd H5 R (.tup (ms.map V.int))) := same_new (Same.refl H5) nR
              have gR : upd H5 R (.tup (ms.map V.int)) R = some (.tup (ms.map V.int)) := upd_same
              have ht1 : BagsAt (upd H5 R (.tup (ms.map V.int))) U n us := (t1b.at_.but hDb hb).same sR
              have ht2 : BagsAt (upd H5 R (.tup (ms.map V.int))) W n ws := (t2b.at_.but hDb hb).same sR
              have hk : BagsAt (upd H5 R (.tup (ms.map V.int))) T n ks := (hBb.but hDb hb).same sR
              have hd6 : DieAt (upd H5 R (.tup (ms.map V.int))) d := hDe.same sR
              have b6 : But d H (upd H5 R (.tup (ms.map V.int))) := (bbb.trans hb).same sR
              have asU := t1b.asc
              have asW := t2b.asc
              show tSeq _ _ _ [_, _, _, _, _, _, _, _, some (.ref R), _, _, _] (upd H5 R (.tup (ms.map V.int)))
              generalize upd H5 R (.tup (ms.map V.int)) = H6 at gR ht1 ht2 hk hd6 b6
              clear sR nR lM hDe hb nD nDd t1b t2b hBb hDb bbb
              have wm : Wide ms := ⟨by omega, by omega, fun e he => by have := hM e he; omega⟩
              -- moved
              refine ⟨_, rfl, T, rfl, ⟨_, .inl (.inl hk.tup)⟩, fun D nD => ?_⟩
              refine lc_tup (xs := refs ks) (fun j H5 => Same H6 H5 ∧ ∃ As : List (Addr × List Int), H5 D = some (.lst (refs As)) ∧ (∀ x ∈ As, H5 x.1 = some (.tup (x.2.map V.int))) ∧ keys As = (keys (ks.take j)).map fun k => addB k ms) ⟨same_new (Same.refl H6) nD, [], upd_same, (fun _ h => by cases h), rfl⟩ (fun j H5 _ hp => .inl (.inl (hp.1 _ _ hk.tup))) (fun j x H5 hx hp => ?_) (fun H5 hp => ?_)
              · obtain ⟨s5, As, lA, rA, kA⟩ := hp
                obtain ⟨o, ho, rfl, hom⟩ := ref_at hx
                have wo := hk.all o hom
                refine ⟨rfl, _, rfl, _, rfl, o.2, ms, ⟨o.1, R, rfl, s5 _ _ (hk.row o hom), s5 _ _ gR, wo.1, wm, by rw [wo.2, hlen]⟩, fun p H7 s7 g7 => ⟨_, s7 _ _ lA, ?_, same_put (s5.trans s7) nD, As ++ [(p, addB o.2 ms)], ?_, fun y hy => ?_, ?_⟩⟩
                · have e1 : As.length = (ks.take j).length := by
                    have := congrArg List.length kA
                    simpa using this
                  rw [List.length_map, e1, List.length_take]
                  exact small1000 (Nat.le_trans (Nat.min_le_left _ _) (by have := (List.getElem?_eq_some_iff.mp ho).1; omega))
                · rw [upd_same]
                  simp [refs]
                · have up : ∀ r xs, H7 r = some (.tup xs) → upd H7 D (.lst (refs As ++ [.ref p])) r = some (.tup xs) := fun r xs hr => tup_upl (s7 _ _ lA) hr
                  rcases List.mem_append.mp hy with hy | hy
                  · exact up _ _ (s7 _ _ (rA y hy))
                  · rw [List.mem_singleton.mp hy]
                    exact up _ _ g7
                · rw [take_keys ho]
                  simp only [keys, List.map_append, List.map_cons, List.map_nil] at kA ⊢
                  rw [kA]
              · obtain ⟨s5, As, lA, rA, kA⟩ := hp
                rw [List.take_of_length_le (by rw [List.length_map]; exact Nat.le_refl _)] at kA
                have lnA : As.length = ks.length := by
                  have := congrArg List.length kA
                  simpa using this
                have key : ∀ k, k ∈ keys As ↔ ∃ x ∈ keys ks, k = addB x ms := fun k => by
                  rw [kA, List.mem_map]
                  constructor
                  · rintro ⟨x, hx, e⟩
                    exact ⟨x, hx, e.symm⟩
                  · rintro ⟨x, hx, e⟩
                    exact ⟨x, hx, e.symm⟩
                refine ⟨D, _, rfl, .inl ⟨.inl (.inl lA), fun V0 nV => ?_⟩⟩
                have s7 : Same H6 (upd H5 V0 (.tup (refs As))) := same_new s5 nV
                have hA : BagsAt (upd H5 V0 (.tup (refs As))) V0 n As := ⟨upd_same, fun x hx => upd_keep (rA x hx) nV, fun x hx => by
                  obtain ⟨k, hk', e⟩ := (key x.2).mp (keys_mem hx)
                  obtain ⟨o, ho, rfl⟩ := List.mem_map.mp hk'
                  rw [e]
                  exact sum_len (hk.all o ho) hM hlen, by omega⟩
                show tSeq _ _ _ [_, _, _, _, _, _, _, _, _, some (.ref V0), _, _] (upd H5 V0 (.tup (refs As)))
                generalize upd H5 V0 (.tup (refs As)) = H7 at s7 hA
                clear nV lA rA s5 nD
                -- greatest(moved) != ..
                refine ⟨_, rfl, V0, n, As, rfl, hA, fun G H8 gs S2 s8 hG aS2 mS2 kG _ => ?_⟩
                have s68 := s7.trans s8
                have ht8 := ht1.same s68
                refine ⟨_, rfl, U, rfl, ⟨_, .inl (.inl ht8.tup)⟩, fun D5 nD5 => ?_⟩
                refine lc_tup (xs := refs us) (fun j H5 => Same H8 H5 ∧ ∃ Bs : List (Addr × List Int), H5 D5 = some (.lst (refs Bs)) ∧ (∀ x ∈ Bs, H5 x.1 = some (.tup (x.2.map V.int))) ∧ keys Bs = (keys (us.take j)).map fun k => addB k ms) ⟨same_new (Same.refl H8) nD5, [], upd_same, (fun _ h => by cases h), rfl⟩ (fun j H5 _ hp => .inl (.inl (hp.1 _ _ ht8.tup))) (fun j x H5 hx hp => ?_) (fun H5 hp => ?_)
                · obtain ⟨s5, Bs, lA, rA, kB⟩ := hp
                  obtain ⟨o, ho, rfl, hom⟩ := ref_at hx
                  have wo := ht8.all o hom
                  refine ⟨rfl, _, rfl, _, rfl, o.2, ms, ⟨o.1, R, rfl, s5 _ _ (ht8.row o hom), s5 _ _ (s68 _ _ gR), wo.1, wm, by rw [wo.2, hlen]⟩, fun p H7 s7 g7 => ⟨_, s7 _ _ lA, ?_, same_put (s5.trans s7) nD5, Bs ++ [(p, addB o.2 ms)], ?_, fun y hy => ?_, ?_⟩⟩
                  · have e1 : Bs.length = (us.take j).length := by
                      have := congrArg List.length kB
                      simpa using this
                    rw [List.length_map, e1, List.length_take]
                    exact small1000 (Nat.le_trans (Nat.min_le_left _ _) (by have := ht8.few; have := (List.getElem?_eq_some_iff.mp ho).1; omega))
                  · rw [upd_same]
                    simp [refs]
                  · have up : ∀ r xs, H7 r = some (.tup xs) → upd H7 D5 (.lst (refs Bs ++ [.ref p])) r = some (.tup xs) := fun r xs hr => tup_upl (s7 _ _ lA) hr
                    rcases List.mem_append.mp hy with hy | hy
                    · exact up _ _ (s7 _ _ (rA y hy))
                    · rw [List.mem_singleton.mp hy]
                      exact up _ _ g7
                  · rw [take_keys ho]
                    simp only [keys, List.map_append, List.map_cons, List.map_nil] at kB ⊢
                    rw [kB]
                · obtain ⟨s5, Bs, lA, rA, kB⟩ := hp
                  rw [List.take_of_length_le (by rw [List.length_map]; exact Nat.le_refl _)] at kB
                  have ofl : ∀ x ∈ Bs, OfLen n x.2 := fun x hx => by
                    have hx2 := keys_mem hx
                    rw [kB] at hx2
                    obtain ⟨k, hk', e⟩ := List.mem_map.mp hx2
                    obtain ⟨o, ho, rfl⟩ := List.mem_map.mp hk'
                    rw [← e]
                    exact sum_len (ht8.all o ho) hM hlen
                  refine ⟨D5, Bs, rfl, .inl (.inl lA), rowsIn_of rA, fun x hx => (ofl x hx).ne, fun L p pm pw np => ⟨p, _, rfl, .inl ⟨.inl (.inl upd_same), fun X nX => ?_⟩⟩⟩
                  have s9 : Same H8 (upd (upd H5 p (.lst (L.map fun q => V.ref q.1))) X (.tup (L.map fun q => V.ref q.1))) := same_new (same_new s5 np) nX
                  refine ⟨G, X, gs, L, rfl, rfl, .inl ⟨.inl (.inl (s9 _ _ hG.tup)), .inl (.inl upd_same)⟩, rowsIn_of fun x hx => s9 _ _ (hG.row x hx), rowsIn_of fun x hx => upd_keep (upd_keep (rA x (pm.mem_iff.mp hx)) np) nX, ?_⟩
                  have eK : keys gs = keys L := by
                    rw [kG]
                    refine tops_sums (S := S1) dS hM hlen aS2 (fun k => ?_) pw ?_ (Asc.nd aS)
                    · rw [mS2, key]
                      constructor
                      · rintro ⟨x, hx, e⟩
                        exact ⟨x, (mS x).mpr hx, e⟩
                      · rintro ⟨x, hx, e⟩
                        exact ⟨x, (mS x).mp hx, e⟩
                    · rw [← kU, ← kB]
                      exact pm.map _
                  rw [if_pos rfl, eK, decide_eq_true rfl]
                  refine ⟨_, rfl, iteF ?_⟩
                  generalize (upd (upd H5 p (.lst (L.map fun q => V.ref q.1))) X (.tup (L.map fun q => V.ref q.1))) = H10 at s9
                  have s610 := s68.trans s9
                  clear s9 np nX pm pw eK lA rA s5 nD5 ht8 s68 hG s8
                  -- greatest(upper) != upper
                  have hu := ht1.same s610
                  refine ⟨_, rfl, U, n, us, rfl, hu, fun G2 H11 g2 S3 s11 hG2 aS3 mS3 kG2 _ => ⟨_, rfl, G2, U, g2, us, rfl, rfl, .inl ⟨.inl (.inl hG2.tup), .inl (.inl (s11 _ _ hu.tup))⟩, rowsIn_of hG2.row, rowsIn_of (hu.same s11).row, ?_⟩⟩
                  have e2 : keys g2 = keys us := by
                    rw [kG2, asc_uniq aS3 asU mS3, kU, tops_tops]
                  rw [if_pos rfl, e2, decide_eq_true rfl]
                  refine ⟨_, rfl, iteF ?_⟩
                  have hw := (ht2.same s610).same s11
                  refine ⟨_, rfl, W, n, ws, rfl, hw, fun G3 H12 g3 S4 s12 hG3 aS4 mS4 kG3 _ => ⟨_, rfl, G3, W, g3, ws, rfl, rfl, .inl ⟨.inl (.inl hG3.tup), .inl (.inl (s12 _ _ hw.tup))⟩, rowsIn_of hG3.row, rowsIn_of (hw.same s12).row, ?_⟩⟩
                  have e3 : keys g3 = keys ws := by
                    rw [kG3, asc_uniq aS4 asW mS4, kW, tops_tops]
                  rw [if_pos rfl, e3, decide_eq_true rfl]
                  refine ⟨_, rfl, iteF ?_⟩
                  have hk2 := ((hk.same s610).same s11).same s12
                  have hu2 := (hu.same s11).same s12
                  refine ⟨_, rfl, T, _, rfl, .inl (.inl hk2.tup), fun X nX => ⟨X, n, ks.reverse, rfl, ⟨?_, fun x hx => upd_keep (hk2.row x (List.mem_reverse.mp hx)) nX, fun x hx => hk2.all x (List.mem_reverse.mp hx), by rw [List.length_reverse]; exact hk2.few⟩, fun G4 H13 g4 S5 s13 hG4 aS5 mS5 kG4 _ => ?_⟩⟩
                  · rw [upd_same]
                    simp [refs]
                  have s14 := (same_new (Same.refl H12) nX (o := .tup (refs ks).reverse)).trans s13
                  refine ⟨_, rfl, G4, U, g4, us, rfl, rfl, .inl ⟨.inl (.inl hG4.tup), .inl (.inl (s14 _ _ hu2.tup))⟩, rowsIn_of hG4.row, rowsIn_of (hu2.same s14).row, ?_⟩
                  have e4 : keys g4 = keys us := by
                    rw [kG4, kU, asc_uniq aS5 aS fun k => ?_]
                    rw [mS5, mS]
                    simp [keys]
                  rw [if_neg Bool.false_ne_true, e4, decide_eq_true rfl]
                  have send := ((s610.trans s11).trans s12).trans s14
                  exact q H13 (b6.same send) (hd6.same send)
end
end My

namespace My
open PySem PySem.Spec PyProof.Rows L2 RZ Sh Zt
abbrev s_law : Stmt := topS 24
abbrev Nlaw : List Str := ["script", "at", "die", "turn", "some"]
theorem sc_law : FnScope Nlaw ["script"] (defScope s_law) := ⟨rfl, rfl, rfl, by decide +kernel, rfl, by decide +kernel, by decide +kernel⟩
section
variable {P : Program} {w : World} {K : PySem.W.Frag} {mg : Str → Option Value} {base : Heap}
theorem asc_dec (S : List (List Int)) (h : (decide (S.Pairwise fun q r => lx q r = true)) = true) : Asc S := of_decide_eq_true h
theorem ok_law {f f0 f1 f2 f3 : Addr} {fd fd0 fd1 fd2 fd3 : FuncData} (F : Fun K "law" "law" s_law f fd)
    (G__law_numbers : FnOk P w K mg base CX0 1 f0 fd0 ["script", "at"] (spNumbers K)) (F__law_numbers : Fun K "_law_numbers" "_law_numbers" s_law_numbers f0 fd0) (b__law_numbers : Binds K fd0 ["script", "at"] []) (g__law_numbers : mg "_law_numbers" = some (.ref f0))
    (G__law_right : FnOk P w K mg base CX0 6 f1 fd1 ["die"] spRight) (F__law_right : Fun K "_law_right" "_law_right" s_law_right f1 fd1) (b__law_right : Binds K fd1 ["die"] []) (g__law_right : mg "_law_right" = some (.ref f1))
    (G_greatest : FnOk P w K mg base CX0 5 f2 fd2 ["bags"] (spTops fitsB)) (F_greatest : Fun K "greatest" "greatest" s_greatest f2 fd2) (b_greatest : Binds K fd2 ["bags"] []) (g_greatest : mg "greatest" = some (.ref f2))
    (G_least : FnOk P w K mg base CX0 5 f3 fd3 ["bags"] (spTops under)) (F_least : Fun K "least" "least" s_least f3 fd3) (b_least : Binds K fd3 ["bags"] []) (g_least : mg "least" = some (.ref f3))
    (m_range : mg "range" = none) (m_len : mg "len" = none) (m_max : mg "max" = none) (m_min : mg "min" = none) :
    FnOk P w K mg base CX0 7 f fd ["script"] (spLaw K) := by
  refine F.ok sc_law (fun vs H Q E h => ?_) (fun cdv A outer s H vs Q E hr h => ?_)
  · obtain ⟨a, ns, rfl, _⟩ := h
    rfl
  · obtain ⟨a, ns, rfl, hS, h63, q⟩ := h
    refine ⟨_, (pss_cons (ps_for PassesOwn.never rfl (pi_range1 rfl m_range (pa_cons (pe_callB (call_max2 rfl) (by rfl) m_max (by decide +kernel) (pa_cons pe_int (pa_cons (pe_callB (call_min2 rfl) (by rfl) m_min (by decide +kernel) (pa_cons pe_int (pa_cons (pe_callB call_len_seq (by rfl) m_len (by decide +kernel) (pa_cons (pv 0) pa_nil)) pa_nil))) pa_nil))) pa_nil)) (pg_name (i := 1) sc_law.nd rfl (by first | exact Or.inl rfl | exact Or.inr rfl))
        (pss_cons (ps_set (i := 2) sc_law.nd rfl (by first | exact Or.inl rfl | exact Or.inr rfl) (pe_call G__law_numbers (hr.mono (by decide)) (by rfl) g__law_numbers F__law_numbers.kp b__law_numbers .nil pass0 (pa_cons (pv 0) (pa_cons (pv 1) pa_nil))))
        (pss_one (ps_for PassesOwn.never rfl (pi_range1 rfl m_range (pa_cons pe_int pa_nil)) (pg_name (i := 3) sc_law.nd rfl (by first | exact Or.inl rfl | exact Or.inr rfl))
          (pss_one (ps_if (pt_not (pt_val (pe_call G__law_right (hr.mono (by decide)) (by rfl) g__law_right F__law_right.kp b__law_right .nil pass0 (pa_cons (pv 2) pa_nil))))
            (pss_one (ps_ret pe_bl))
            pss_nil))))))
      (pss_cons (ps_set (i := 4) sc_law.nd rfl (by first | exact Or.inl rfl | exact Or.inr rfl) (pe_tup (pa_cons (pe_tup (pa_cons pe_int (pa_cons pe_int pa_nil))) (pa_cons (pe_tup (pa_cons pe_int (pa_cons pe_int pa_nil))) (pa_cons (pe_tup (pa_cons (pe_un un_neg pe_int) (pa_cons pe_int pa_nil))) (pa_cons (pe_tup (pa_cons pe_int (pa_cons pe_int pa_nil))) (pa_cons (pe_tup (pa_cons pe_int (pa_cons pe_int pa_nil))) (pa_cons (pe_tup (pa_cons pe_int (pa_cons (pe_un un_neg pe_int) pa_nil))) pa_nil))))))))
      (pss_cons (ps_if (pt_cmpR (op_neD hr.units) (pe_lst (pa_cons (pe_call G_greatest (hr.mono (by decide)) (by rfl) g_greatest F_greatest.kp b_greatest .nil pass0 (pa_cons (pv 4) pa_nil)) (pa_cons (pe_call G_least (hr.mono (by decide)) (by rfl) g_least F_least.kp b_least .nil pass0 (pa_cons (pv 4) pa_nil)) pa_nil))) (pe_lst (pa_cons (pe_tup (pa_cons (pe_tup (pa_cons (pe_un un_neg pe_int) (pa_cons pe_int pa_nil))) (pa_cons (pe_tup (pa_cons pe_int (pa_cons (pe_un un_neg pe_int) pa_nil))) (pa_cons (pe_tup (pa_cons pe_int (pa_cons pe_int pa_nil))) pa_nil)))) (pa_cons (pe_tup (pa_cons (pe_tup (pa_cons pe_int (pa_cons pe_int pa_nil))) (pa_cons (pe_tup (pa_cons pe_int (pa_cons pe_int pa_nil))) pa_nil))) pa_nil))) (nomark _))
        (pss_one (ps_ret pe_bl))
        pss_nil)
      (pss_one (ps_ret (pe_cmpR (op_eqD hr.units) (pe_lst (pa_cons (pe_call G_greatest (hr.mono (by decide)) (by rfl) g_greatest F_greatest.kp b_greatest .nil pass0 (pa_cons (pe_tup pa_nil) pa_nil)) (pa_cons (pe_call G_least (hr.mono (by decide)) (by rfl) g_least F_least.kp b_least .nil pass0 (pa_cons (pe_tup pa_nil) pa_nil)) (pa_cons (pe_call G_greatest (hr.mono (by decide)) (by rfl) g_greatest F_greatest.kp b_greatest .nil pass0 (pa_cons (pe_tup (pa_cons (pe_tup (pa_cons pe_int pa_nil)) (pa_cons (pe_tup (pa_cons pe_int pa_nil)) pa_nil))) pa_nil)) pa_nil)))) (pe_lst (pa_cons (pe_tup pa_nil) (pa_cons (pe_tup pa_nil) (pa_cons (pe_tup (pa_cons (pe_tup (pa_cons pe_int pa_nil)) pa_nil)) pa_nil)))) (nomark _))))))), ?_⟩
    have hb := turns_ok (c := 8) (n := (ns.map V.int).length) (by rw [List.length_map]; exact h63) (by decide) (by decide)
    refine ⟨.ref a, rfl, a, ns.map V.int, rfl, .inl hS, 8, _, rfl, 1, _, rfl, _, rfl, hb.1, hb.2, for_range (lo := 0)
      (fun k σ H' => (∃ y1 y2 y3 y4, σ = [some (.ref a), y1, y2, y3, y4]) ∧ Same H H') ⟨⟨_, _, _, _, rfl⟩, Same.refl H⟩ (fun k σ H' _ hp => ?_) (fun σ H' hp => ?_)⟩
    · obtain ⟨⟨y1, y2, y3, y4, rfl⟩, sm⟩ := hp
      refine ⟨.ref a, rfl, _, rfl, a, ns, 0 + (k : Int), rfl, by omega, sm.seq hS, fun p x y np => ?_⟩
      have np0 : H p = none := sm.free np
      refine ⟨3, rfl, by decide, by decide, for_range (lo := 0) (n := 3) (fun j σ H2 => (∃ y3 y4, σ = [some (.ref a), some (.int (0 + (k : Int))), some (.ref p), y3, y4]) ∧ But p (upd H' p (.lst [.int x, .int y, .int 0])) H2 ∧ DieAt H2 p) ⟨⟨_, _, rfl⟩, But.refl p _, ⟨_, _, _, upd_same⟩⟩ (fun j σ H2 _ hp => ?_) (fun σ H2 hp => ?_)⟩
      · obtain ⟨⟨y3, y4, rfl⟩, b2, d2⟩ := hp
        exact ⟨.ref p, rfl, p, rfl, d2, fun H3 hb3 hD3 => ⟨true, rfl, iteF ⟨⟨_, _, rfl⟩, b2.trans hb3, hD3⟩⟩⟩
      · obtain ⟨⟨y3, y4, rfl⟩, b2, d2⟩ := hp
        exact ⟨⟨_, _, _, _, rfl⟩, Same.but (same_new sm np) np0 b2⟩
    · obtain ⟨⟨y1, y2, y3, y4, rfl⟩, sm⟩ := hp
      clear hb sm hS
      have wd : ∀ (n : Nat) (ns : List Int), (decide (1 ≤ ns.length) && decide (ns.length ≤ 5) && (ns.all fun n => decide (-1 ≤ n)) && decide (ns.length = n)) = true → OfLen n ns := fun n ns h => by
        rw [Bool.and_eq_true, Bool.and_eq_true, Bool.and_eq_true, decide_eq_true_iff, decide_eq_true_iff, List.all_eq_true, decide_eq_true_iff] at h
        exact ⟨⟨h.1.1.1, h.1.1.2, fun n hn => of_decide_eq_true (h.1.2 n hn)⟩, h.2⟩
      refine ⟨len_ok, fun a1 n1 => ⟨len_ok, fun a2 n2 => ⟨1, rfl, len_ok, fun a3 n3 => ⟨len_ok, fun a4 n4 => ⟨len_ok, fun a5 n5 => ⟨1, rfl, len_ok, fun a6 n6 => ⟨len_ok, fun T nT => ?_⟩⟩⟩⟩⟩⟩⟩
      have hB : BagsAt (upd (upd (upd (upd (upd (upd (upd H' a1 (.tup [.int 2, .int 0])) a2 (.tup [.int 1, .int 1])) a3 (.tup [.int (-1), .int 0])) a4 (.tup [.int 0, .int 1])) a5 (.tup [.int 1, .int 1])) a6 (.tup [.int 0, .int (-1)])) T (.tup [.ref a1, .ref a2, .ref a3, .ref a4, .ref a5, .ref a6])) T 2
          [(a1, [2, 0]), (a2, [1, 1]), (a3, [-1, 0]), (a4, [0, 1]), (a5, [1, 1]), (a6, [0, -1])] := by
        refine ⟨upd_same, ?_, ?_, (by decide : 6 < 64)⟩
        · refine allC ?_ (allC ?_ (allC ?_ (allC ?_ (allC ?_ (allC ?_ allN)))))
          all_goals (repeat (first | exact upd_same | refine upd_keep ?_ (by assumption)))
        · exact allC (wd 2 [2, 0] (by decide)) (allC (wd 2 [1, 1] (by decide)) (allC (wd 2 [-1, 0] (by decide)) (allC (wd 2 [0, 1] (by decide)) (allC (wd 2 [1, 1] (by decide)) (allC (wd 2 [0, -1] (by decide)) allN)))))
      show tSeq _ _ _ [_, _, _, _, some (.ref T)] (upd (upd (upd (upd (upd (upd (upd H' a1 (.tup [.int 2, .int 0])) a2 (.tup [.int 1, .int 1])) a3 (.tup [.int (-1), .int 0])) a4 (.tup [.int 0, .int 1])) a5 (.tup [.int 1, .int 1])) a6 (.tup [.int 0, .int (-1)])) T (.tup [.ref a1, .ref a2, .ref a3, .ref a4, .ref a5, .ref a6]))
      generalize (upd (upd (upd (upd (upd (upd (upd H' a1 (.tup [.int 2, .int 0])) a2 (.tup [.int 1, .int 1])) a3 (.tup [.int (-1), .int 0])) a4 (.tup [.int 0, .int 1])) a5 (.tup [.int 1, .int 1])) a6 (.tup [.int 0, .int (-1)])) T (.tup [.ref a1, .ref a2, .ref a3, .ref a4, .ref a5, .ref a6])) = H1 at hB
      clear nT n1 n2 n3 n4 n5 n6
      have sx : ∀ S : List (List Int), Asc S → (∀ k, k ∈ S ↔ k ∈ keys [(a1, [2, 0]), (a2, [1, 1]), (a3, [-1, 0]), (a4, [0, 1]), (a5, [1, 1]), (a6, [0, -1])]) → S = [[-1, 0], [0, -1], [0, 1], [1, 1], [2, 0]] := fun S h1 h2 => asc_uniq h1 (asc_dec _ (by decide)) fun k => by
        rw [h2]
        simp only [keys, List.map_cons, List.map_nil, List.mem_cons, List.not_mem_nil, or_false]
        constructor
        · rintro (h | h | h | h | h | h) <;> simp [h]
        · rintro (h | h | h | h | h) <;> simp [h]
      refine ⟨_, rfl, T, 2, _, rfl, hB, fun G H2 gs S1 s2 hG aS1 mS1 kG _ => ⟨_, rfl, T, 2, _, rfl, hB.same s2, fun W H3 ws S2 s3 hW aS2 mS2 kW _ => ?_⟩⟩
      have e1 : keys gs = [[-1, 0], [0, -1], [1, 1]] := by
        rw [kG, sx S1 aS1 mS1]
        decide
      have e2 : keys ws = [[0, 1], [2, 0]] := by
        rw [kW, sx S2 aS2 mS2]
        decide
      have hG3 := hG.same s3
      clear hG
      refine ⟨len_ok, fun L1 nL1 => ⟨1, rfl, len_ok, fun b1 m1 => ⟨1, rfl, len_ok, fun b2 m2 => ⟨len_ok, fun b3 m3 => ⟨len_ok, fun b4 m4 => ⟨len_ok, fun b5 m5 => ⟨len_ok, fun b6 m6 => ⟨len_ok, fun b7 m7 => ⟨len_ok, fun b8 m8 => ?_⟩⟩⟩⟩⟩⟩⟩⟩⟩
      have hG4 : BagsAt (upd H3 L1 (.lst [.ref G, .ref W])) G 2 gs := hG3.same (same_new (Same.refl H3) nL1)
      have hW4 : BagsAt (upd H3 L1 (.lst [.ref G, .ref W])) W 2 ws := hW.same (same_new (Same.refl H3) nL1)
      have gL : upd H3 L1 (.lst [.ref G, .ref W]) L1 = some (.lst [.ref G, .ref W]) := upd_same
      generalize upd H3 L1 (.lst [.ref G, .ref W]) = H4 at hG4 hW4 gL m1 m2 m3 m4 m5 m6 m7 m8 ⊢
      refine ⟨.list [.tuple ((keys gs).map rowD), .tuple ((keys ws).map rowD)], .list [.tuple ((keys [(b1, [-1, 0]), (b2, [0, -1]), (b3, [1, 1])]).map rowD), .tuple ((keys [(b5, [0, 1]), (b6, [2, 0])]).map rowD)],
        .lst (.inl (.inl (by (repeat (first | exact gL | exact upd_same | refine upd_keep ?_ (by assumption)))))) (.cons (.tup (.inl (.inl ?_)) (dpRows fun x hx => .inl (.inl ?_))) (.cons (.tup (.inl (.inl ?_)) (dpRows fun x hx => .inl (.inl ?_))) .nil)),
        .lst (.inl (.inl upd_same)) (.cons (.tup (.inl (.inl (by (repeat (first | exact gL | exact upd_same | refine upd_keep ?_ (by assumption)))))) (dpRows ?_)) (.cons (.tup (.inl (.inl (by (repeat (first | exact gL | exact upd_same | refine upd_keep ?_ (by assumption)))))) (dpRows ?_)) .nil)), ?_, (show SeqAt.shaped (.list [.tuple ([[-1, 0], [0, -1], [1, 1]].map rowD), .tuple ([[0, 1], [2, 0]].map rowD)]) = true by decide +kernel), ?_⟩
      · have g := hG4.tup
        (repeat (first | exact g | refine upd_keep ?_ (by assumption)))
      · have g := hG4.row x hx
        (repeat (first | exact g | refine upd_keep ?_ (by assumption)))
      · have g := hW4.tup
        (repeat (first | exact g | refine upd_keep ?_ (by assumption)))
      · have g := hW4.row x hx
        (repeat (first | exact g | refine upd_keep ?_ (by assumption)))
      · refine allC (.inl (.inl (by (repeat (first | exact gL | exact upd_same | refine upd_keep ?_ (by assumption)))))) (allC (.inl (.inl (by (repeat (first | exact gL | exact upd_same | refine upd_keep ?_ (by assumption)))))) (allC (.inl (.inl (by (repeat (first | exact gL | exact upd_same | refine upd_keep ?_ (by assumption)))))) allN))
      · refine allC (.inl (.inl (by (repeat (first | exact gL | exact upd_same | refine upd_keep ?_ (by assumption)))))) (allC (.inl (.inl (by (repeat (first | exact gL | exact upd_same | refine upd_keep ?_ (by assumption)))))) allN)
      · rw [e1, e2]
        decide +kernel
      · rw [e1, e2]
        have e : PyData.eqv (.list [.tuple ([[-1, 0], [0, -1], [1, 1]].map rowD), .tuple ([[0, 1], [2, 0]].map rowD)]) (.list [.tuple ((keys [(b1, [-1, 0]), (b2, [0, -1]), (b3, [1, 1])]).map rowD), .tuple ((keys [(b5, [0, 1]), (b6, [2, 0])]).map rowD)]) = true := by
          show PyData.eqv (.list [.tuple ([[-1, 0], [0, -1], [1, 1]].map rowD), .tuple ([[0, 1], [2, 0]].map rowD)]) (.list [.tuple ([[-1, 0], [0, -1], [1, 1]].map rowD), .tuple ([[0, 1], [2, 0]].map rowD)]) = true
          decide +kernel
        rw [e]
        refine ⟨_, rfl, iteF ?_⟩
        clear e gL hW4 hG4 hG3 hW hB sx mS1 mS2 aS1 aS2 kG kW e1 e2
        refine ⟨len_ok, fun E1 x1 => ⟨E1, 1, [], rfl, ⟨upd_same, allN, allN, (by decide : 0 < 64)⟩, fun G5 H5 g5 S5 s5 hG5 aS5 mS5 kG5 _ => ?_⟩⟩
        refine ⟨len_ok, fun E2 x2 => ⟨E2, 1, [], rfl, ⟨upd_same, allN, allN, (by decide : 0 < 64)⟩, fun G6 H6 g6 S6 s6 hG6 aS6 mS6 kG6 _ => ?_⟩⟩
        refine ⟨len_ok, fun c1 x3 => ⟨len_ok, fun c2 x4 => ⟨len_ok, fun C x5 => ⟨C, 1, [(c1, [0]), (c2, [0])], rfl, ⟨upd_same, ?_, allC (wd 1 [0] (by decide)) (allC (wd 1 [0] (by decide)) allN), (by decide : 2 < 64)⟩, fun G7 H7 g7 S7 s7 hG7 aS7 mS7 kG7 _ => ?_⟩⟩⟩⟩
        · refine allC ?_ (allC ?_ allN)
          all_goals (repeat (first | exact upd_same | refine upd_keep ?_ (by assumption)))
        have f5 : keys g5 = [] := by
          rw [kG5, asc_uniq aS5 (asc_dec [] (by decide)) fun k => by rw [mS5]; simp [keys]]
          rfl
        have f6 : keys g6 = [] := by
          rw [kG6, asc_uniq aS6 (asc_dec [] (by decide)) fun k => by rw [mS6]; simp [keys]]
          rfl
        have f7 : keys g7 = [[0]] := by
          rw [kG7, asc_uniq aS7 (asc_dec [[0]] (by decide)) fun k => by rw [mS7]; simp [keys]]
          decide
        have t5 := ((hG5.same (same_new (Same.refl H5) x2 (o := .tup []))).same s6).same ((same_new (same_new (same_new (Same.refl H6) x3 (o := .tup [.int 0])) x4 (o := .tup [.int 0])) x5 (o := .tup [.ref c1, .ref c2])).trans s7)
        have t6 := hG6.same ((same_new (same_new (same_new (Same.refl H6) x3 (o := .tup [.int 0])) x4 (o := .tup [.int 0])) x5 (o := .tup [.ref c1, .ref c2])).trans s7)
        clear mS5 mS6 mS7 aS5 aS6 aS7 kG5 kG6 kG7 hG5 hG6 s5 s6 s7 x1 x2 x3 x4 x5
        refine ⟨len_ok, fun L2 y1 => ⟨len_ok, fun r1 y2 => ⟨len_ok, fun r2 y3 => ⟨len_ok, fun r3 y4 => ⟨len_ok, fun r4 y5 => ⟨len_ok, fun r5 y6 => ?_⟩⟩⟩⟩⟩⟩
        refine ⟨.list [.tuple ((keys g5).map rowD), .tuple ((keys g6).map rowD), .tuple ((keys g7).map rowD)], .list [.tuple ((keys []).map rowD), .tuple ((keys []).map rowD), .tuple ((keys [(r3, [0])]).map rowD)],
          .lst (.inl (.inl (by (repeat (first | exact upd_same | refine upd_keep ?_ (by assumption)))))) (.cons (.tup (.inl (.inl ?_)) (dpRows fun x hx => .inl (.inl ?_))) (.cons (.tup (.inl (.inl ?_)) (dpRows fun x hx => .inl (.inl ?_))) (.cons (.tup (.inl (.inl ?_)) (dpRows fun x hx => .inl (.inl ?_))) .nil))),
          .lst (.inl (.inl upd_same)) (.cons (.tup (.inl (.inl (by (repeat (first | exact upd_same | refine upd_keep ?_ (by assumption)))))) (dpRows allN)) (.cons (.tup (.inl (.inl (by (repeat (first | exact upd_same | refine upd_keep ?_ (by assumption)))))) (dpRows allN)) (.cons (.tup (.inl (.inl (by (repeat (first | exact upd_same | refine upd_keep ?_ (by assumption)))))) (dpRows ?_)) .nil))), ?_, (show SeqAt.shaped (.list [.tuple (([] : List (List Int)).map rowD), .tuple (([] : List (List Int)).map rowD), .tuple ([[0]].map rowD)]) = true by decide +kernel), ?_⟩
        · have g := t5.tup
          (repeat (first | exact g | refine upd_keep ?_ (by assumption)))
        · have g := t5.row x hx
          (repeat (first | exact g | refine upd_keep ?_ (by assumption)))
        · have g := t6.tup
          (repeat (first | exact g | refine upd_keep ?_ (by assumption)))
        · have g := t6.row x hx
          (repeat (first | exact g | refine upd_keep ?_ (by assumption)))
        · have g := hG7.tup
          (repeat (first | exact g | refine upd_keep ?_ (by assumption)))
        · have g := hG7.row x hx
          (repeat (first | exact g | refine upd_keep ?_ (by assumption)))
        · exact allC (.inl (.inl (by (repeat (first | exact upd_same | refine upd_keep ?_ (by assumption)))))) allN
        · rw [f5, f6, f7]
          decide +kernel
        · rw [f5, f6, f7]
          have e : PyData.eqv (.list [.tuple (([] : List (List Int)).map rowD), .tuple (([] : List (List Int)).map rowD), .tuple ([[0]].map rowD)]) (.list [.tuple ((keys []).map rowD), .tuple ((keys []).map rowD), .tuple ((keys [(r3, [0])]).map rowD)]) = true := by
            show PyData.eqv (.list [.tuple (([] : List (List Int)).map rowD), .tuple (([] : List (List Int)).map rowD), .tuple ([[0]].map rowD)]) (.list [.tuple (([] : List (List Int)).map rowD), .tuple (([] : List (List Int)).map rowD), .tuple ([[0]].map rowD)]) = true
            decide +kernel
          rw [e]
          exact q _
end
end My

namespace My
open PySem PySem.Spec PyProof.Rows L2 RZ Sh Zt
theorem all_mk {l : PySem.W.OpenLaw} {w : World} {K : PySem.W.Frag} {h : Heap} {mg : Str → Option Value} {fa f0 f1 f2 f3 f4 f5 f6 f7 f8 f9 f10 f11 f12 f13 f14 f15 f16 : Addr} (X : K.In h) (G : h.Ns mainGlobals mg) (hfa : mg "law" = some (.ref fa))
    {od0 an0 od1 an1 od2 an2 od3 an3 od4 an4 od5 an5 od6 an6 od7 an7 od8 an8 od9 an9 od10 an10 od11 an11 od12 an12 od13 an13 od14 an14 od15 an15 od16 an16 : Option Addr} {sl0 sl1 sl2 sl3 sl4 sl5 sl6 sl7 sl8 sl9 sl10 sl11 sl12 sl13 sl14 sl15 sl16 : Array (Option Value)} {oc0 kV0 dc0 pm0 cd0 ct0 oc1 kV1 dc1 pm1 cd1 ct1 oc2 kV2 dc2 pm2 cd2 ct2 oc3 kV3 dc3 pm3 cd3 ct3 oc4 kV4 dc4 pm4 cd4 ct4 oc5 kV5 dc5 pm5 cd5 ct5 oc6 kV6 dc6 pm6 cd6 ct6 oc7 kV7 dc7 pm7 cd7 ct7 oc8 kV8 dc8 pm8 cd8 ct8 oc9 kV9 dc9 pm9 cd9 ct9 oc10 kV10 dc10 pm10 cd10 ct10 oc11 kV11 dc11 pm11 cd11 ct11 oc12 kV12 dc12 pm12 cd12 ct12 oc13 kV13 dc13 pm13 cd13 ct13 oc14 kV14 dc14 pm14 cd14 ct14 oc15 kV15 dc15 pm15 cd15 ct15 oc16 kV16 dc16 pm16 cd16 ct16 : Value}
    {tk_ANY tk_MOST_PROCEDURES : Tok}
    (a0 : PySem.W.nsIn K mainGlobals "is_integer" = some (some (.ref f0))) (l0 : K.lookup f0 = some ⟨oc0, od0, .func (PySem.W.fnOf "is_integer" "is_integer" (defArgs s_is_integer) (defBody s_is_integer) (defScope s_is_integer) .none kV0 dc0 pm0 an0 cd0 ct0), sl0⟩) (c0 : PySem.W.codeIn K cd0 "is_integer" = true) (k0 : PySem.W.keepIn K (.ref f0) = true)
    (a1 : PySem.W.nsIn K mainGlobals "has_entries" = some (some (.ref f1))) (l1 : K.lookup f1 = some ⟨oc1, od1, .func (PySem.W.fnOf "has_entries" "has_entries" (defArgs s_has_entries) (defBody s_has_entries) (defScope s_has_entries) .none kV1 dc1 pm1 an1 cd1 ct1), sl1⟩) (c1 : PySem.W.codeIn K cd1 "has_entries" = true) (k1 : PySem.W.keepIn K (.ref f1) = true)
    (a2 : PySem.W.nsIn K mainGlobals "is_wide" = some (some (.ref f2))) (l2 : K.lookup f2 = some ⟨oc2, od2, .func (PySem.W.fnOf "is_wide" "is_wide" (defArgs s_is_wide) (defBody s_is_wide) (defScope s_is_wide) .none kV2 dc2 pm2 an2 cd2 ct2), sl2⟩) (c2 : PySem.W.codeIn K cd2 "is_wide" = true) (k2 : PySem.W.keepIn K (.ref f2) = true)
    (a3 : PySem.W.nsIn K mainGlobals "check_pair" = some (some (.ref f3))) (l3 : K.lookup f3 = some ⟨oc3, od3, .func (PySem.W.fnOf "check_pair" "check_pair" (defArgs s_check_pair) (defBody s_check_pair) (defScope s_check_pair) .none kV3 dc3 pm3 an3 cd3 ct3), sl3⟩) (c3 : PySem.W.codeIn K cd3 "check_pair" = true) (k3 : PySem.W.keepIn K (.ref f3) = true)
    (a4 : PySem.W.nsIn K mainGlobals "check_bags" = some (some (.ref f4))) (l4 : K.lookup f4 = some ⟨oc4, od4, .func (PySem.W.fnOf "check_bags" "check_bags" (defArgs s_check_bags) (defBody s_check_bags) (defScope s_check_bags) .none kV4 dc4 pm4 an4 cd4 ct4), sl4⟩) (c4 : PySem.W.codeIn K cd4 "check_bags" = true) (k4 : PySem.W.keepIn K (.ref f4) = true)
    (a5 : PySem.W.nsIn K mainGlobals "fits" = some (some (.ref f5))) (l5 : K.lookup f5 = some ⟨oc5, od5, .func (PySem.W.fnOf "fits" "fits" (defArgs s_fits) (defBody s_fits) (defScope s_fits) .none kV5 dc5 pm5 an5 cd5 ct5), sl5⟩) (c5 : PySem.W.codeIn K cd5 "fits" = true) (k5 : PySem.W.keepIn K (.ref f5) = true)
    (a6 : PySem.W.nsIn K mainGlobals "summed" = some (some (.ref f6))) (l6 : K.lookup f6 = some ⟨oc6, od6, .func (PySem.W.fnOf "summed" "summed" (defArgs s_summed) (defBody s_summed) (defScope s_summed) .none kV6 dc6 pm6 an6 cd6 ct6), sl6⟩) (c6 : PySem.W.codeIn K cd6 "summed" = true) (k6 : PySem.W.keepIn K (.ref f6) = true)
    (a7 : PySem.W.nsIn K mainGlobals "within" = some (some (.ref f7))) (l7 : K.lookup f7 = some ⟨oc7, od7, .func (PySem.W.fnOf "within" "within" (defArgs s_within) (defBody s_within) (defScope s_within) .none kV7 dc7 pm7 an7 cd7 ct7), sl7⟩) (c7 : PySem.W.codeIn K cd7 "within" = true) (k7 : PySem.W.keepIn K (.ref f7) = true)
    (a8 : PySem.W.nsIn K mainGlobals "added" = some (some (.ref f8))) (l8 : K.lookup f8 = some ⟨oc8, od8, .func (PySem.W.fnOf "added" "added" (defArgs s_added) (defBody s_added) (defScope s_added) .none kV8 dc8 pm8 an8 cd8 ct8), sl8⟩) (c8 : PySem.W.codeIn K cd8 "added" = true) (k8 : PySem.W.keepIn K (.ref f8) = true)
    (a9 : PySem.W.nsIn K mainGlobals "greatest" = some (some (.ref f9))) (l9 : K.lookup f9 = some ⟨oc9, od9, .func (PySem.W.fnOf "greatest" "greatest" (defArgs s_greatest) (defBody s_greatest) (defScope s_greatest) .none kV9 dc9 pm9 an9 cd9 ct9), sl9⟩) (c9 : PySem.W.codeIn K cd9 "greatest" = true) (k9 : PySem.W.keepIn K (.ref f9) = true)
    (a10 : PySem.W.nsIn K mainGlobals "least" = some (some (.ref f10))) (l10 : K.lookup f10 = some ⟨oc10, od10, .func (PySem.W.fnOf "least" "least" (defArgs s_least) (defBody s_least) (defScope s_least) .none kV10 dc10 pm10 an10 cd10 ct10), sl10⟩) (c10 : PySem.W.codeIn K cd10 "least" = true) (k10 : PySem.W.keepIn K (.ref f10) = true)
    (a11 : PySem.W.nsIn K mainGlobals "_law_numbers" = some (some (.ref f11))) (l11 : K.lookup f11 = some ⟨oc11, od11, .func (PySem.W.fnOf "_law_numbers" "_law_numbers" (defArgs s_law_numbers) (defBody s_law_numbers) (defScope s_law_numbers) .none kV11 dc11 pm11 an11 cd11 ct11), sl11⟩) (c11 : PySem.W.codeIn K cd11 "_law_numbers" = true) (k11 : PySem.W.keepIn K (.ref f11) = true)
    (a12 : PySem.W.nsIn K mainGlobals "_law_cast" = some (some (.ref f12))) (l12 : K.lookup f12 = some ⟨oc12, od12, .func (PySem.W.fnOf "_law_cast" "_law_cast" (defArgs s_law_cast) (defBody s_law_cast) (defScope s_law_cast) .none kV12 dc12 pm12 an12 cd12 ct12), sl12⟩) (c12 : PySem.W.codeIn K cd12 "_law_cast" = true) (k12 : PySem.W.keepIn K (.ref f12) = true)
    (a13 : PySem.W.nsIn K mainGlobals "_law_pick" = some (some (.ref f13))) (l13 : K.lookup f13 = some ⟨oc13, od13, .func (PySem.W.fnOf "_law_pick" "_law_pick" (defArgs s_law_pick) (defBody s_law_pick) (defScope s_law_pick) .none kV13 dc13 pm13 an13 cd13 ct13), sl13⟩) (c13 : PySem.W.codeIn K cd13 "_law_pick" = true) (k13 : PySem.W.keepIn K (.ref f13) = true)
    (a14 : PySem.W.nsIn K mainGlobals "_law_any_wide" = some (some (.ref f14))) (l14 : K.lookup f14 = some ⟨oc14, od14, .func (PySem.W.fnOf "_law_any_wide" "_law_any_wide" (defArgs s_law_any_wide) (defBody s_law_any_wide) (defScope s_law_any_wide) .none kV14 dc14 pm14 an14 cd14 ct14), sl14⟩) (c14 : PySem.W.codeIn K cd14 "_law_any_wide" = true) (k14 : PySem.W.keepIn K (.ref f14) = true)
    (a15 : PySem.W.nsIn K mainGlobals "_law_right" = some (some (.ref f15))) (l15 : K.lookup f15 = some ⟨oc15, od15, .func (PySem.W.fnOf "_law_right" "_law_right" (defArgs s_law_right) (defBody s_law_right) (defScope s_law_right) .none kV15 dc15 pm15 an15 cd15 ct15), sl15⟩) (c15 : PySem.W.codeIn K cd15 "_law_right" = true) (k15 : PySem.W.keepIn K (.ref f15) = true)
    (a16 : PySem.W.nsIn K mainGlobals "law" = some (some (.ref f16))) (l16 : K.lookup f16 = some ⟨oc16, od16, .func (PySem.W.fnOf "law" "law" (defArgs s_law) (defBody s_law) (defScope s_law) .none kV16 dc16 pm16 an16 cd16 ct16), sl16⟩) (c16 : PySem.W.codeIn K cd16 "law" = true) (k16 : PySem.W.keepIn K (.ref f16) = true)
    (z_isinstance : PySem.W.nsIn K mainGlobals "isinstance" = some none)
    (z_int : PySem.W.nsIn K mainGlobals "int" = some none)
    (z_bool : PySem.W.nsIn K mainGlobals "bool" = some none)
    (z_tuple : PySem.W.nsIn K mainGlobals "tuple" = some none)
    (z_len : PySem.W.nsIn K mainGlobals "len" = some none)
    (z_all : PySem.W.nsIn K mainGlobals "all" = some none)
    (z_any : PySem.W.nsIn K mainGlobals "any" = some none)
    (z_zip : PySem.W.nsIn K mainGlobals "zip" = some none)
    (z_sum : PySem.W.nsIn K mainGlobals "sum" = some none)
    (z_abs : PySem.W.nsIn K mainGlobals "abs" = some none)
    (z_max : PySem.W.nsIn K mainGlobals "max" = some none)
    (z_min : PySem.W.nsIn K mainGlobals "min" = some none)
    (z_list : PySem.W.nsIn K mainGlobals "list" = some none)
    (z_range : PySem.W.nsIn K mainGlobals "range" = some none)
    (z_sorted : PySem.W.nsIn K mainGlobals "sorted" = some none)
    (z_set : PySem.W.nsIn K mainGlobals "set" = some none)
    (y_ANY : PySem.W.nsIn K mainGlobals "ANY" = some (some (.int (-1) tk_ANY)))
    (y_MOST_PROCEDURES : PySem.W.nsIn K mainGlobals "MOST_PROCEDURES" = some (some (.int 5 tk_MOST_PROCEDURES)))
    : ∃ fd : FuncData, (∀ (s : Shared) (v : Value), BindsTo s fd ⟨[v], []⟩ [("script", v)]) ∧ ∀ base : Heap, K.In base → base.Ns mainGlobals mg → FnOk l.prog w K mg base CX0 7 fa fd ["script"] (spLaw K) := by
  have e := hfa.symm.trans (PySem.W.mg_of X G a16)
  cases e
  have F_is_integer := fun_mk (st := s_is_integer) l0 c0 k0
  have b_is_integer := F_is_integer.binds (ps := ["value"]) fun _ _ _ _ _ _ us hl => match us, hl with | [_], _ => rfl
  have g_is_integer := PySem.W.mg_of X G a0
  have F_has_entries := fun_mk (st := s_has_entries) l1 c1 k1
  have b_has_entries := F_has_entries.binds (ps := ["value", "low"]) fun _ _ _ _ _ _ us hl => match us, hl with | [_, _], _ => rfl
  have g_has_entries := PySem.W.mg_of X G a1
  have F_is_wide := fun_mk (st := s_is_wide) l2 c2 k2
  have b_is_wide := F_is_wide.binds (ps := ["value"]) fun _ _ _ _ _ _ us hl => match us, hl with | [_], _ => rfl
  have g_is_wide := PySem.W.mg_of X G a2
  have F_check_pair := fun_mk (st := s_check_pair) l3 c3 k3
  have b_check_pair := F_check_pair.binds (ps := ["one", "other"]) fun _ _ _ _ _ _ us hl => match us, hl with | [_, _], _ => rfl
  have g_check_pair := PySem.W.mg_of X G a3
  have F_check_bags := fun_mk (st := s_check_bags) l4 c4 k4
  have b_check_bags := F_check_bags.binds (ps := ["bags"]) fun _ _ _ _ _ _ us hl => match us, hl with | [_], _ => rfl
  have g_check_bags := PySem.W.mg_of X G a4
  have F_fits := fun_mk (st := s_fits) l5 c5 k5
  have b_fits := F_fits.binds (ps := ["one", "other"]) fun _ _ _ _ _ _ us hl => match us, hl with | [_, _], _ => rfl
  have g_fits := PySem.W.mg_of X G a5
  have F_summed := fun_mk (st := s_summed) l6 c6 k6
  have b_summed := F_summed.binds (ps := ["one", "other"]) fun _ _ _ _ _ _ us hl => match us, hl with | [_, _], _ => rfl
  have g_summed := PySem.W.mg_of X G a6
  have F_within := fun_mk (st := s_within) l7 c7 k7
  have b_within := F_within.binds (ps := ["one", "other"]) fun _ _ _ _ _ _ us hl => match us, hl with | [_, _], _ => rfl
  have g_within := PySem.W.mg_of X G a7
  have F_added := fun_mk (st := s_added) l8 c8 k8
  have b_added := F_added.binds (ps := ["one", "other"]) fun _ _ _ _ _ _ us hl => match us, hl with | [_, _], _ => rfl
  have g_added := PySem.W.mg_of X G a8
  have F_greatest := fun_mk (st := s_greatest) l9 c9 k9
  have b_greatest := F_greatest.binds (ps := ["bags"]) fun _ _ _ _ _ _ us hl => match us, hl with | [_], _ => rfl
  have g_greatest := PySem.W.mg_of X G a9
  have F_least := fun_mk (st := s_least) l10 c10 k10
  have b_least := F_least.binds (ps := ["bags"]) fun _ _ _ _ _ _ us hl => match us, hl with | [_], _ => rfl
  have g_least := PySem.W.mg_of X G a10
  have F__law_numbers := fun_mk (st := s_law_numbers) l11 c11 k11
  have b__law_numbers := F__law_numbers.binds (ps := ["script", "at"]) fun _ _ _ _ _ _ us hl => match us, hl with | [_, _], _ => rfl
  have g__law_numbers := PySem.W.mg_of X G a11
  have F__law_cast := fun_mk (st := s_law_cast) l12 c12 k12
  have b__law_cast := F__law_cast.binds (ps := ["die", "total"]) fun _ _ _ _ _ _ us hl => match us, hl with | [_, _], _ => rfl
  have g__law_cast := PySem.W.mg_of X G a12
  have F__law_pick := fun_mk (st := s_law_pick) l13 c13 k13
  have b__law_pick := F__law_pick.binds (ps := ["die", "items"]) fun _ _ _ _ _ _ us hl => match us, hl with | [_, _], _ => rfl
  have g__law_pick := PySem.W.mg_of X G a13
  have F__law_any_wide := fun_mk (st := s_law_any_wide) l14 c14 k14
  have b__law_any_wide := F__law_any_wide.binds (ps := ["die", "size"]) fun _ _ _ _ _ _ us hl => match us, hl with | [_, _], _ => rfl
  have g__law_any_wide := PySem.W.mg_of X G a14
  have F__law_right := fun_mk (st := s_law_right) l15 c15 k15
  have b__law_right := F__law_right.binds (ps := ["die"]) fun _ _ _ _ _ _ us hl => match us, hl with | [_], _ => rfl
  have g__law_right := PySem.W.mg_of X G a15
  have F_law := fun_mk (st := s_law) l16 c16 k16
  have b_law := F_law.binds (ps := ["script"]) fun _ _ _ _ _ _ us hl => match us, hl with | [_], _ => rfl
  have g_law := PySem.W.mg_of X G a16
  have m_isinstance := PySem.W.mg_none_of X G z_isinstance
  have m_int := PySem.W.mg_none_of X G z_int
  have m_bool := PySem.W.mg_none_of X G z_bool
  have m_tuple := PySem.W.mg_none_of X G z_tuple
  have m_len := PySem.W.mg_none_of X G z_len
  have m_all := PySem.W.mg_none_of X G z_all
  have m_any := PySem.W.mg_none_of X G z_any
  have m_zip := PySem.W.mg_none_of X G z_zip
  have m_sum := PySem.W.mg_none_of X G z_sum
  have m_abs := PySem.W.mg_none_of X G z_abs
  have m_max := PySem.W.mg_none_of X G z_max
  have m_min := PySem.W.mg_none_of X G z_min
  have m_list := PySem.W.mg_none_of X G z_list
  have m_range := PySem.W.mg_none_of X G z_range
  have m_sorted := PySem.W.mg_none_of X G z_sorted
  have m_set := PySem.W.mg_none_of X G z_set
  have g_ANY := PySem.W.mg_of X G y_ANY
  have g_MOST_PROCEDURES := PySem.W.mg_of X G y_MOST_PROCEDURES
  refine ⟨PySem.W.fnOf "law" "law" (defArgs s_law) (defBody s_law) (defScope s_law) .none kV16 dc16 pm16 an16 cd16 ct16, fun s v => .of_eq rfl, fun base _ _ => ?_⟩
  have G__law_numbers : FnOk l.prog w K mg base CX0 1 _ _ ["script", "at"] (spNumbers K) := ok_numbers F__law_numbers m_len m_int m_abs m_max
  have G__law_cast : FnOk l.prog w K mg base CX0 1 _ _ ["die", "total"] spCast := ok_cast F__law_cast m_int
  have G__law_pick : FnOk l.prog w K mg base CX0 2 _ _ ["die", "items"] (spPick K) := ok_pick F__law_pick F__law_cast b__law_cast g__law_cast m_len m_int
  have G_has_entries : FnOk l.prog w K mg base CX0 2 _ _ ["value", "low"] spEnt := ok_has_entries F_has_entries F_is_integer b_is_integer g_is_integer g_MOST_PROCEDURES m_isinstance m_tuple m_len m_all m_int m_bool
  have G_is_wide : FnOk l.prog w K mg base CX0 3 _ _ ["value"] (spEnt1 (-1)) := ok_is_wide F_is_wide G_has_entries F_has_entries b_has_entries g_has_entries g_ANY
  have G_check_pair : FnOk l.prog w K mg base CX0 4 _ _ ["one", "other"] spPair := ok_check_pair F_check_pair G_is_wide F_is_wide b_is_wide g_is_wide m_len
  have G_check_bags : FnOk l.prog w K mg base CX0 4 _ _ ["bags"] spChk := ok_check_bags F_check_bags G_is_wide F_is_wide b_is_wide g_is_wide m_len m_isinstance m_tuple m_all
  have G_fits : FnOk l.prog w K mg base CX0 1 _ _ ["one", "other"] spFits := ok_fits F_fits g_ANY m_all m_zip
  have G_summed : FnOk l.prog w K mg base CX0 1 _ _ ["one", "other"] spAdded := ok_summed F_summed g_ANY m_zip m_tuple m_sum
  have G_within : FnOk l.prog w K mg base CX0 5 _ _ ["one", "other"] spFits := ok_within F_within G_check_pair F_check_pair b_check_pair g_check_pair G_fits F_fits b_fits g_fits
  have G_added : FnOk l.prog w K mg base CX0 5 _ _ ["one", "other"] spAdded := ok_added F_added G_check_pair F_check_pair b_check_pair g_check_pair G_summed F_summed b_summed g_summed
  have G_greatest : FnOk l.prog w K mg base CX0 5 _ _ ["bags"] (spTops fitsB) := ok_greatest F_greatest G_check_bags F_check_bags b_check_bags g_check_bags G_fits F_fits b_fits g_fits m_sorted m_set m_any m_tuple
  have G_least : FnOk l.prog w K mg base CX0 5 _ _ ["bags"] (spTops under) := ok_least F_least G_check_bags F_check_bags b_check_bags g_check_bags G_fits F_fits b_fits g_fits m_sorted m_set m_any m_tuple
  have G__law_any_wide : FnOk l.prog w K mg base CX0 3 _ _ ["die", "size"] spAnyWide := ok_any_wide F__law_any_wide G__law_pick F__law_pick b__law_pick g__law_pick m_tuple m_range
  have G__law_right : FnOk l.prog w K mg base CX0 6 _ _ ["die"] spRight := ok_right F__law_right G__law_cast F__law_cast b__law_cast g__law_cast G__law_pick F__law_pick b__law_pick g__law_pick G__law_any_wide F__law_any_wide b__law_any_wide g__law_any_wide G_within F_within b_within g_within G_added F_added b_added g_added G_greatest F_greatest b_greatest g_greatest G_least F_least b_least g_least m_range m_tuple m_list m_sorted m_set
  exact ok_law F_law G__law_numbers F__law_numbers b__law_numbers g__law_numbers G__law_right F__law_right b__law_right g__law_right G_greatest F_greatest b_greatest g_greatest G_least F_least b_least g_least m_range m_len m_max m_min
end My
open PySem PySem.W PyProof.Rows
set_option maxHeartbeats 0 in
theorem PySem.Challenge.cw_postedbag_k03_whole_greatest_and_least_holds : PySem.Challenge.rw_postedbag_k03_whole_greatest_and_least.Holds := by
  w_on; o_law; k_head; (case hw => w_witness2)
  k_fill
  refine L2.walk_of (l := PySem.Challenge.rw_postedbag_k03_whole_greatest_and_least) (n := 63) (k := 7) (x := "script") (CX := fun _ => L2.CX0) (sp := fun w => Sh.spLaw _) rfl (by decide) rfl ⟨rfl, by decide, by decide⟩ (fun w h Y => PySem.W.kIn_of Y) ?F (fun _ _ a ns hl _ hS => ⟨a, ns, rfl, hS, hl, fun _ => rfl⟩) (fun _ _ _ _ _ h => h)
  case F =>
    intro w mg fa h KX G hmg
    refine' My.all_mk KX G hmg ?a0 ?l0 ?c0 ?k0 ?a1 ?l1 ?c1 ?k1 ?a2 ?l2 ?c2 ?k2 ?a3 ?l3 ?c3 ?k3 ?a4 ?l4 ?c4 ?k4 ?a5 ?l5 ?c5 ?k5 ?a6 ?l6 ?c6 ?k6 ?a7 ?l7 ?c7 ?k7 ?a8 ?l8 ?c8 ?k8 ?a9 ?l9 ?c9 ?k9 ?a10 ?l10 ?c10 ?k10 ?a11 ?l11 ?c11 ?k11 ?a12 ?l12 ?c12 ?k12 ?a13 ?l13 ?c13 ?k13 ?a14 ?l14 ?c14 ?k14 ?a15 ?l15 ?c15 ?k15 ?a16 ?l16 ?c16 ?k16 ?z_isinstance ?z_int ?z_bool ?z_tuple ?z_len ?z_all ?z_any ?z_zip ?z_sum ?z_abs ?z_max ?z_min ?z_list ?z_range ?z_sorted ?z_set ?y_ANY ?y_MOST_PROCEDURES
    (case a0 => k_is); (case l0 => k_is); (case c0 => k_is); (case k0 => k_is); (case a1 => k_is); (case l1 => k_is); (case c1 => k_is); (case k1 => k_is); (case a2 => k_is); (case l2 => k_is); (case c2 => k_is); (case k2 => k_is); (case a3 => k_is); (case l3 => k_is); (case c3 => k_is); (case k3 => k_is); (case a4 => k_is); (case l4 => k_is); (case c4 => k_is); (case k4 => k_is); (case a5 => k_is); (case l5 => k_is); (case c5 => k_is); (case k5 => k_is); (case a6 => k_is); (case l6 => k_is); (case c6 => k_is); (case k6 => k_is); (case a7 => k_is); (case l7 => k_is); (case c7 => k_is); (case k7 => k_is); (case a8 => k_is); (case l8 => k_is); (case c8 => k_is); (case k8 => k_is); (case a9 => k_is); (case l9 => k_is); (case c9 => k_is); (case k9 => k_is); (case a10 => k_is); (case l10 => k_is); (case c10 => k_is); (case k10 => k_is); (case a11 => k_is); (case l11 => k_is); (case c11 => k_is); (case k11 => k_is); (case a12 => k_is); (case l12 => k_is); (case c12 => k_is); (case k12 => k_is); (case a13 => k_is); (case l13 => k_is); (case c13 => k_is); (case k13 => k_is); (case a14 => k_is); (case l14 => k_is); (case c14 => k_is); (case k14 => k_is); (case a15 => k_is); (case l15 => k_is); (case c15 => k_is); (case k15 => k_is); (case a16 => k_is); (case l16 => k_is); (case c16 => k_is); (case k16 => k_is); (case z_isinstance => k_is); (case z_int => k_is); (case z_bool => k_is); (case z_tuple => k_is); (case z_len => k_is); (case z_all => k_is); (case z_any => k_is); (case z_zip => k_is); (case z_sum => k_is); (case z_abs => k_is); (case z_max => k_is); (case z_min => k_is); (case z_list => k_is); (case z_range => k_is); (case z_sorted => k_is); (case z_set => k_is); (case y_ANY => k_is); (case y_MOST_PROCEDURES => k_is)
