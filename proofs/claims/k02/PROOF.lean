import PyProof.Rows.All
import Wide.All
import OpenK.AllK
import Wide.FinOn
import HandS.Base
import HandS.Call
import HandS.List
import HandS.Comp
import HandS.Ends
import HandS.Dict
import HandS.Iter
import HandS.Text
import HandS.Words
import HandS.Codes
import HandS.IsInst
import HandS.Walk
import HandS.Wide
import KE.KxText
import HandS.TupAny
import HandS.Zip
import HandS.Style
import HandS.Deep
import KE.KEqSeq
import HandS.NoneIn
import HandS.TupMul
import PySem.Challenge.RW_postedbag_k02_wide_bags
set_option Elab.async false
set_option linter.all false
set_option maxRecDepth 100000
set_option maxHeartbeats 4000000
/-! the law's own draws, over any row -/
namespace Sh
open PySem PySem.Spec PyProof.Rows L2

/-! ### rules -/
section
variable {X : Cx}
/-- ** of two numbers, the first one below 2 ^ 64 or both named by a bound -/
def CPowB (i j : Int) : Prop := 0 ≤ j ∧ (Builtin.Int.intBits i : Int) * j ≤ 2 ^ 27
theorem op_powB : OpR X (binaryOp .Pow) (rI CPowB fun i j => .int (i ^ j.toNat)) := opI fun _ _ _ _ _ _ _ hc q => pow_int hc.1 hc.2 q
theorem call_repr_bl : CallR X (.builtin "repr") (fun xs H Q => ∃ b : Bool, xs = [.bl b] ∧ Q (.str (if b then "True" else "False")) H) := by
  intro pins s σ H xs us Q I r h
  obtain ⟨b, rfl, q⟩ := h
  obtain ⟨u, rfl, rfl⟩ := vals1 r
  exact PySem.P.repr_of_bool ⟨.str _, H, I.tok _, ⟨_, rfl⟩, q⟩
/-- a list == [] -/
def rEqNil (K : PySem.W.Frag) : V → V → Hp → VK → Prop := fun x y H Q => ∃ a b xs, x = .ref a ∧ y = .ref b ∧ SqL K H a xs ∧ SqL K H b [] ∧ Q (.bl xs.isEmpty) H
theorem op_eqNil (hu : X.A.units + 64 < cLine) : OpR X (compareOp .Eq) (rEqNil X.K) := by
  intro pins s σ H x y v u Q I rx ry h
  obtain ⟨a, b, xs, rfl, rfl, h1, h2, q⟩ := h
  cases xs with
  | nil => exact op_eqD hu pins s σ H _ _ v u Q I rx ry ⟨.list [], .list [], .lst h1 .nil, .lst h2 .nil, by decide, by decide, q⟩
  | cons z zs =>
    cases (show v = Value.ref a from rx)
    cases (show u = Value.ref b from ry)
    obtain ⟨us, r1, l1, _⟩ := I.list h1
    obtain ⟨ws, r2, l2, _⟩ := I.list h2
    cases r1
    cases r2
    obtain ⟨o1, n1, e1, c1, d1, k1⟩ := l1
    obtain ⟨o2, n2, e2, c2, d2, k2⟩ := l2
    exact SeqAt.eq_list_lengthsAt ⟨o1, e1, c1, n1, k1⟩ ⟨o2, e2, c2, n2, k2⟩ rfl (by omega) ⟨.bl false, H, I, rfl, q⟩
end

/-! ### the die -/
def DieAt (H : Hp) (d : Addr) : Prop := ∃ a b c : Int, H d = some (.lst [.int a, .int b, .int c])
def NewDie (H : Hp) (d : Addr) (H' : Hp) : Prop := ∃ a b c : Int, H' = upd H d (.lst [.int a, .int b, .int c])
theorem NewDie.die {H H' : Hp} {d : Addr} (h : NewDie H d H') : DieAt H' d := by
  obtain ⟨a, b, c, rfl⟩ := h
  exact ⟨a, b, c, upd_same⟩
theorem NewDie.ne {H H' : Hp} {d p : Addr} (h : NewDie H d H') (hp : p ≠ d) : H' p = H p := by
  obtain ⟨a, b, c, rfl⟩ := h
  exact upd_ne hp
/-- all but the die as it was -/
def But (d : Addr) (H H' : Hp) : Prop := ∀ b o, b ≠ d → H b = some o → H' b = some o
theorem But.refl (d : Addr) (H : Hp) : But d H H := fun _ _ _ h => h
theorem But.trans {d : Addr} {H H1 H2 : Hp} (a : But d H H1) (b : But d H1 H2) : But d H H2 := fun c o n h => b c o n (a c o n h)
theorem But.same {d : Addr} {H H1 H2 : Hp} (a : But d H H1) (b : Same H1 H2) : But d H H2 := fun c o n h => b c o (a c o n h)
theorem NewDie.but {H H' : Hp} {d : Addr} (h : NewDie H d H') : But d H H' := fun _ _ n e => by
  rw [h.ne n]
  exact e
theorem But.new {d : Addr} {H H1 : Hp} {p : Addr} {o : HO} (a : But d H H1) (h : H1 p = none) : But d H (upd H1 p o) := fun c u n e => by
  rw [upd_ne (ne_of_none (a c u n e) h)]
  exact a c u n e
theorem But.seq {K : PySem.W.Frag} {d : Addr} {H H' : Hp} {a : Addr} {xs : List V} (e : But d H H') (n : a ≠ d) (h : SqL K H a xs) : SqL K H' a xs := by
  rcases h with (h | ⟨o, h⟩) | h
  · exact .inl (.inl (e _ _ n h))
  · exact .inl (.inr ⟨o, e _ _ n h⟩)
  · exact .inr h
theorem But.seqT {K : PySem.W.Frag} {d : Addr} {H H' : Hp} {a : Addr} {xs : List V} (e : But d H H') (n : a ≠ d) (h : SqT K H a xs) : SqT K H' a xs := by
  rcases h with (h | ⟨o, h⟩) | h
  · exact .inl (.inl (e _ _ n h))
  · exact .inl (.inr ⟨o, e _ _ n h⟩)
  · exact .inr h
theorem DieAt.new {H : Hp} {d p : Addr} {o : HO} (h : DieAt H d) (n : H p = none) : DieAt (upd H p o) d := by
  obtain ⟨a, b, c, h⟩ := h
  exact ⟨a, b, c, by rw [upd_ne (ne_of_none h n)]; exact h⟩

theorem upd_keep {H : Hp} {a p : Addr} {o u : HO} (h : H a = some u) (n : H p = none) : upd H p o a = some u := (upd_ne (ne_of_none h n)).trans h
theorem same_new {H H1 : Hp} {p : Addr} {o : HO} (s : Same H H1) (h : H1 p = none) : Same H (upd H1 p o) := fun b u e => upd_keep (s b u e) h
theorem same_put {H H1 : Hp} {p : Addr} {o : HO} (s : Same H H1) (h : H p = none) : Same H (upd H1 p o) := fun b u e => by
  rw [upd_ne (ne_of_none e h)]
  exact s b u e
theorem all_nil {P : V → Prop} : ∀ v ∈ ([] : List V), P v := fun _ h => by cases h
theorem all_cons {P : V → Prop} {a : V} {l : List V} (h : P a) (t : ∀ v ∈ l, P v) : ∀ v ∈ a :: l, P v := fun v hv => by
  rcases List.mem_cons.mp hv with rfl | hv
  · exact h
  · exact t v hv

theorem DieAt.free {H : Hp} {d p : Addr} (h : DieAt H d) (n : H p = none) : p ≠ d := fun e => by
  obtain ⟨a, b, c, h⟩ := h
  rw [e, h] at n
  cases n
theorem But.put {d : Addr} {H H2 : Hp} {D : Addr} {o : HO} (b : But d H H2) (n : H D = none) : But d H (upd H2 D o) := fun c u hc e => by
  rw [upd_ne (ne_of_none e n)]
  exact b c u hc e
theorem DieAt.put {H : Hp} {d p : Addr} {o : HO} (h : DieAt H d) (n : p ≠ d) : DieAt (upd H p o) d := by
  obtain ⟨a, b, c, h⟩ := h
  exact ⟨a, b, c, by rw [upd_ne n.symm]; exact h⟩
theorem DieAt.same {H H' : Hp} {d : Addr} (h : DieAt H d) (s : Same H H') : DieAt H' d := by
  obtain ⟨a, b, c, h⟩ := h
  exact ⟨a, b, c, s _ _ h⟩
theorem But.free {d : Addr} {H H' : Hp} {p : Addr} (b : But d H H') (hp : p ≠ d) (n : H' p = none) : H p = none := by
  cases e : H p with
  | none => rfl
  | some o =>
    rw [b p o hp e] at n
    cases n
/-- a die that was laid since: nothing of before is changed -/
theorem Same.but {d : Addr} {H0 H H' : Hp} (s : Same H0 H) (n : H0 d = none) (b : But d H H') : Same H0 H' := fun p o e => b p o (fun z => by subst z; rw [n] at e; cases e) (s p o e)
theorem sum_ones (ys : List Str) (h : ∀ y ∈ ys, y.length = 1) : (ys.map (·.length)).sum = ys.length := by
  induction ys with
  | nil => rfl
  | cons y r ih =>
    rw [List.map_cons, List.sum_cons, h y List.mem_cons_self, ih fun z hz => h z (List.mem_cons_of_mem _ hz), List.length_cons]
    omega
theorem len_ok {xs : List V} (h : Nat.ble xs.length 1000 = true := by rfl) : xs.length ≤ sizeLine := Nat.le_of_lt (small1000 (Nat.le_of_ble_eq_true h))
/-! ### the odd ones -/
def Flat (v : V) : Prop := v = .non ∨ (∃ i : Int, v = .int i) ∨ (∃ b, v = .bl b) ∨ ∃ z : Str, v = .str z ∧ z.length ≤ 9
def Flat2 (H : Hp) (v : V) : Prop := Flat v ∨ ∃ q ys, v = .ref q ∧ H q = some (.tup ys) ∧ ys.length ≤ 2 ∧ ∀ y ∈ ys, Flat y
def Odd (H : Hp) (v : V) : Prop := Flat v ∨ (∃ p xs, v = .ref p ∧ H p = some (.tup xs) ∧ xs.length ≤ 2 ∧ ∀ x ∈ xs, Flat2 H x) ∨ (∃ p, v = .ref p ∧ H p = some (.lst [.int 0])) ∨ ∃ p, v = .ref p ∧ H p = some (.dK [])
theorem DieAt.ne {H : Hp} {d p : Addr} {o : HO} (h : DieAt H d) (hp : H p = some o) (ho : ∀ a b c : Int, o ≠ .lst [.int a, .int b, .int c]) : p ≠ d := fun e => by
  obtain ⟨a, b, c, h⟩ := h
  subst e
  rw [h] at hp
  exact ho a b c (Option.some.inj hp).symm
theorem Flat2.but {d : Addr} {H H' : Hp} {v : V} (b : But d H H') (hd : DieAt H d) (h : Flat2 H v) : Flat2 H' v := by
  rcases h with h | ⟨q, ys, e, hq, hl, hy⟩
  · exact .inl h
  · exact .inr ⟨q, ys, e, b _ _ (hd.ne hq fun _ _ _ z => by cases z) hq, hl, hy⟩
theorem Odd.but {d : Addr} {H H' : Hp} {v : V} (b : But d H H') (hd : DieAt H d) (h : Odd H v) : Odd H' v := by
  rcases h with h | ⟨q, ys, e, hq, hl, hy⟩ | ⟨q, e, hq⟩ | ⟨q, e, hq⟩
  · exact .inl h
  · exact .inr (.inl ⟨q, ys, e, b _ _ (hd.ne hq fun _ _ _ z => by cases z) hq, hl, fun x hx => (hy x hx).but b hd⟩)
  · exact .inr (.inr (.inl ⟨q, e, b _ _ (hd.ne hq fun _ _ _ z => by cases z) hq⟩))
  · exact .inr (.inr (.inr ⟨q, e, b _ _ (hd.ne hq fun _ _ _ z => by cases z) hq⟩))
theorem flat_non : Flat .non := .inl rfl
theorem flat_int (i : Int) : Flat (.int i) := .inr (.inl ⟨i, rfl⟩)
theorem flat_bl (b : Bool) : Flat (.bl b) := .inr (.inr (.inl ⟨b, rfl⟩))
theorem flat_str {z : Str} (h : z.length ≤ 9) : Flat (.str z) := .inr (.inr (.inr ⟨z, rfl, h⟩))

/-! ### the promises of the three that draw -/
def spNumbers (K : PySem.W.Frag) : Sp := fun vs H Q _ => ∃ (a : Addr) (ns : List Int) (i : Int), vs = [.ref a, .int i] ∧ 0 ≤ i ∧ SqL K H a (ns.map V.int) ∧
  ∀ p x y, H p = none → Q (.ref p) (upd H p (.lst [.int x, .int y, .int 0]))
def spCast : Sp := fun vs H Q _ => ∃ (d : Addr) (n : Int), vs = [.ref d, .int n] ∧ DieAt H d ∧ 0 < n ∧ n < 1073741824 ∧
  ∀ (r : Nat) H', (r : Int) < n → NewDie H d H' → Q (.int r) H'
def spPick (K : PySem.W.Frag) : Sp := fun vs H Q _ => ∃ (d : Addr), DieAt H d ∧
  ((∃ p xs, vs = [.ref d, .ref p] ∧ p ≠ d ∧ (SqL K H p xs ∨ SqT K H p xs) ∧ xs ≠ [] ∧ xs.length < 1073741824 ∧ ∀ (j : Nat) v H', xs[j]? = some v → NewDie H d H' → Q v H')
  ∨ (∃ z : Str, vs = [.ref d, .str z] ∧ 0 < z.length ∧ z.length ≤ 1000 ∧ ∀ (j : Nat) c H', z.cps.toList[j]? = some c → NewDie H d H' → Q (.str ⟨#[c]⟩) H'))
theorem turns_ok {c : Int} {n : Nat} (h : n ≤ 63) (h0 : 0 ≤ c) (h1 : c ≤ 1000) : -(2 ^ 62) ≤ (if (if (n : Int) < c then (n : Int) else c) > 1 then (if (n : Int) < c then (n : Int) else c) else 1) ∧ (if (if (n : Int) < c then (n : Int) else c) > 1 then (if (n : Int) < c then (n : Int) else c) else 1) < 2 ^ 62 := by
  split <;> split <;> omega
/-- the law itself -/
def spLaw (K : PySem.W.Frag) : Sp := fun vs H Q _ => ∃ (a : Addr) (ns : List Int), vs = [.ref a] ∧ SqL K H a (ns.map V.int) ∧ ns.length ≤ 63 ∧ ∀ H', Q (.bl true) H'
/-- one round of the law -/
def spRight : Sp := fun vs H Q _ => ∃ (d : Addr), vs = [.ref d] ∧ DieAt H d ∧ ∀ H', But d H H' → DieAt H' d → Q (.bl true) H'
/-- one of the odd values, at an address that did not hold anything -/
def spOdd : Sp := fun vs H Q _ => ∃ (d : Addr), vs = [.ref d] ∧ DieAt H d ∧ ∀ v H', Odd H' v → But d H H' → DieAt H' d → Q v H'
end Sh

/-! tuples: a reversed copy, the sum; walks over two tuples -/
namespace HT
open PySem PySem.Spec PyProof.Rows
section
variable {prog : Program} {w : World} {A : Around} {E : Value → Shared → Prop} {s : Shared}
theorem back_adjust (n : Nat) : Builtin.Slice.sliceAdjust none none (-1) (n : Int) = ((n : Int) - 1, -1) := by
  unfold Builtin.Slice.sliceAdjust
  rfl
theorem back_places (n : Nat) : Builtin.Slice.slicePlaces ((n : Int) - 1) (-1) (-1) = n := by
  unfold Builtin.Slice.slicePlaces
  rw [if_neg (by decide)]
  have e : (-(-1 : Int)) = 1 := by decide
  rw [e, Int.ediv_one]
  split <;> omega
theorem fm_congr {α β : Type} {f g : α → Option β} : ∀ (l : List α), (∀ x ∈ l, f x = g x) → l.filterMap f = l.filterMap g
  | [], _ => rfl
  | x :: r, h => by rw [List.filterMap_cons, List.filterMap_cons, h x List.mem_cons_self, fm_congr r fun y hy => h y (List.mem_cons_of_mem _ hy)]
theorem back_pick (xs : Array Value) : ((List.range xs.size).filterMap fun (k : Nat) => xs[(((xs.size : Nat) : Int) - 1 + (k : Int) * (-1)).toNat]?).toArray = xs.toList.reverse.toArray := by
  have e : (List.range xs.size).filterMap (fun (k : Nat) => xs[(((xs.size : Nat) : Int) - 1 + (k : Int) * (-1)).toNat]?) = ((List.range xs.size).map fun k => xs.size - 1 - k).filterMap (xs[·]?) := by
    rw [List.filterMap_map]
    refine fm_congr _ fun k hk => ?_
    have h := List.mem_range.mp hk
    show xs[_]? = xs[xs.size - 1 - k]?
    congr 1
    omega
  rw [e, PySem.W.krv_range, List.filterMap_reverse, PySem.W.krv_all]
theorem sliceApplied_back {sl : Addr} {vs : Value} {n : Nat} {Q : Int × Int × Nat → Shared → Prop} (hs : s.heap.IsSliceOf sl .none .none vs) (ps : IsPart vs (some (-1)))
    (h : Q ((n : Int) - 1, -1, n) s) : wpAny (model prog w) A (Builtin.Slice.sliceApplied (.ref sl) (pure (n : Int))) Q E s := by
  obtain ⟨os, hos, hcs, hds⟩ := id hs
  unfold Builtin.Slice.sliceApplied Builtin.Slice.sliceFields
  refine wpAny_bind (wpAny_bind (wpAny_field hos hds (x := .none) rfl (wpAny_bind (wpAny_field hos hds (x := .none) rfl (wpAny_bind (wpAny_field hos hds (x := vs) rfl (wpAny_pure ?_)))))))
  refine wpAny_bind (slicePart_ ps ?_)
  show wpAny _ _ (if ((-1 : Int) == 0) = true then _ else _) _ _ s
  rw [if_neg (by decide)]
  refine wpAny_bind (slicePart_none (wpAny_bind (slicePart_none (wpAny_bind (wpAny_pure ?_)))))
  show wpAny _ _ (match Builtin.Slice.sliceAdjust none none (-1) (n : Int) with | (lo, hi) => pure (lo, (-1 : Int), Builtin.Slice.slicePlaces lo hi (-1))) _ _ s
  rw [back_adjust]
  show wpAny _ _ (pure ((n : Int) - 1, (-1 : Int), Builtin.Slice.slicePlaces ((n : Int) - 1) (-1) (-1))) _ _ s
  rw [back_places]
  exact wpAny_pure h
theorem getItem_tuple_back {t sl : Addr} {items : Array Value} {vs : Value} {Q : Value → Shared → Prop} (ht : IsTup s.heap t items) (hs : s.heap.IsSliceOf sl .none .none vs) (ps : IsPart vs (some (-1)))
    (h : Q (.ref s.heap.objs.size) { s with heap := s.heap.push { cls := .type "tuple", data := .seq items.toList.reverse.toArray } })
    (hsz : items.size ≤ sizeLine) : wpAny (model prog w) A (getItem (.ref t) (.ref sl)) Q E s := by
  have htake : sizeOk (.seq items.toList.reverse.toArray) := by
    show items.toList.reverse.toArray.size ≤ sizeLine
    rw [List.size_toArray, List.length_reverse, Array.length_toList]
    exact hsz
  obtain ⟨os, hos, hcs, hds⟩ := id hs
  have hTs : s.TypeIs (.ref sl) "slice" := ⟨os, hos, hcs⟩
  unfold getItem
  try with_reducible refine wpAny_holding ?_
  first | refine wpAny_bind (wpAny_pure ?_) | skip
  refine wpAny_bind (wpAny_sequenceKey ht.typeIs (by decide) ?_)
  refine wpAny_bind (wpAny_callSpecial?_slot (name := Str.ofString "__getitem__") ht.typeIs PyProof.Rows.slot_tuple_getitem
    (wpAny_call_entry PyProof.Rows.slot_tuple_getitem ht.typeIs entry_tuple_getitem ?_ (args_tuple_getitem _ _)))
  show wpAny _ _ (Builtin.Tuple.tupleItemsOf (.ref t) >>= _) _ _ s
  refine wpAny_bind (tupleItemsOf_ ht ?_)
  refine wpAny_bind (wpAny_typeOf hTs ?_)
  rw [if_pos (by decide)]
  refine wpAny_bind (sliceApplied_back hs ps ?_)
  have hno : ¬ ((((items.size : Nat) : Int) - 1 == 0 && (-1 : Int) == 1 && items.size == items.size) = true) := by
    rw [show ((-1 : Int) == 1) = false from rfl, Bool.and_false, Bool.false_and]
    exact Bool.false_ne_true
  show wpAny _ _ (if (((items.size : Nat) : Int) - 1 == 0 && (-1 : Int) == 1 && items.size == items.size) = true then _ else _) _ _ s
  rw [if_neg hno, back_pick]
  first
    | exact wpAny_bind (m := Builtin.Tuple.tupleExact _) (wpAny_newObj_type (wpAny_pure ⟨_, rfl, wpAny_pure h⟩) htake)
    | exact wpAny_bind (m := Builtin.Tuple.tupleExact _) (wpAny_newObj_type (wpAny_bind (wpAny_pure (wpAny_pure ⟨_, rfl, wpAny_pure h⟩))) htake)
    | exact wpAny_bind (wpAny_bind (m := Builtin.Tuple.tupleExact _) (wpAny_newObj_type (wpAny_pure (wpAny_pure ⟨_, rfl, wpAny_pure h⟩)) htake))
    | exact wpAny_bind (wpAny_bind (m := Builtin.Tuple.tupleExact _) (wpAny_newObj_type (wpAny_pure ⟨_, rfl, wpAny_pure h⟩) htake))
end
end HT
namespace Sh
open PySem PySem.Spec PyProof.Rows L2 RZ
section
variable {X : Cx}
/-- t[::-1] -/
def tRevT (K : PySem.W.Frag) (te : TE) : TE := fun σ H Q => te σ H fun x H1 => ∃ a xs, x = .ref a ∧ SqT K H1 a xs ∧ ∀ p, H1 p = none → Q (.ref p) (upd H1 p (.tup xs.reverse))
theorem pe_revT {e : Expr} {te : TE} {k : Nat} {p1 p2 p3 pos : Pos} (he : PE X e te) : PE X (.Subscript e (.Slice none none (some (.UnaryOp .USub (.Constant (.int 1) k p1) p2)) p3) pos) (tRevT X.K te) := by
  refine ⟨fun pins s σ H Q I h => ?_⟩
  refine Subscript_ (thn (he.run pins s σ H _ I h) fun v s1 ⟨x, H1, I1, r1, q1⟩ => ?_)
  obtain ⟨a, xs, ex, hx, q⟩ := q1
  subst ex
  cases r1
  have hst : PO X (some (.UnaryOp .USub (.Constant (.int 1) k p1) p2)) (tPart (tUn (rU fun i => .int (-i)) (tC (.int 1)))) := po_some (pe_un un_neg pe_int)
  refine wpAny_Slice (thn (po_none.run pins s1 σ H1 (fun o H2 => o = none ∧ H2 = H1) I1 ⟨rfl, rfl⟩) fun vl s2 ⟨l, H2, I2, pl, el, e2⟩ => ?_)
  subst el e2
  refine thn (po_none.run pins s2 σ H2 (fun o H3 => o = none ∧ H3 = H2) I2 ⟨rfl, rfl⟩) fun vu s3 ⟨u, H3, I3, pu, eu, e3⟩ => ?_
  subst eu e3
  refine thn (hst.run pins s3 σ H3 (fun o H4 => o = some (-1) ∧ H4 = H3) I3 ⟨1, rfl, -1, rfl, rfl, rfl⟩) fun vs s4 ⟨o, H4, I4, ps, eo, e4⟩ => ?_
  subst eo e4
  cases pl
  cases pu
  have I5 : Inv X pins σ H4 { s4 with heap := s4.heap.push { cls := .type "slice", data := .fields #[.none, .none, vs] } } := I4.kept (t' := s4.toks) fun b ob q => Heap.get?_push_of_some _ q
  obtain ⟨its, r, ht, hz⟩ := I5.tuple hx
  have hlen := r.length
  show wpAny (model X.prog X.w) X.A (subscriptTail e (.Slice none none (some (.UnaryOp .USub (.Constant (.int 1) k p1) p2)) p3) (.ref a) (.ref s4.heap.objs.size)) (EP X pins σ Q) X.xe { s4 with heap := s4.heap.push { cls := .type "slice", data := .fields #[.none, .none, vs] } }
  refine tail_any (ops := [.ref a, .ref s4.heap.objs.size]) ht.typeIs (PyProof.Rows.slot_tuple_getitem.lookup) ?_ (by with_unfolding_all rfl)
  refine HT.getItem_tuple_back ht (Heap.IsSliceOf.new _ .none .none vs) ps ?_ (by rw [List.size_toArray]; omega)
  refine ⟨.ref _, _, I5.laid (t' := s4.toks) (o := .tup xs.reverse) (fun b ob q => Heap.get?_push_of_some _ q) (Nat.le_refl _) ?_, rfl, q _ (I5.hok.fresh (Nat.le_refl _))⟩
  exact ⟨by rw [List.length_reverse]; exact hz, its.reverse, r.reverse, ⟨_, Heap.get?_push_size _ rfl, rfl, 0, by simp⟩⟩
/-- sum of a tuple -/
def rSumT (K : PySem.W.Frag) : List V → Hp → VK → Prop := fun vs H Q => ∃ (a : Addr) (ns : List Int), vs = [V.ref a] ∧ SqT K H a (ns.map V.int) ∧ Q (.int ns.sum) H
theorem sumT_raw {prog : Program} {w : World} {A : Around} {E : Value → Shared → Prop} {s : Shared} {l : Addr} {its : List Value} {ns : List Int} {Q : Value → Shared → Prop} (hh : A.handled = none) (hl : IsTup s.heap l its.toArray) (hi : IntsAre its ns)
    (h : ∀ h' tk t', (∀ b o, s.heap.get? b = some o → h'.get? b = some o) → Q (.int ns.sum t') { s with heap := h', toks := tk }) : wpAny (model prog w) A (call (.builtin "sum") [.ref l]) Q E s := by
  obtain ⟨xs, e⟩ := hi.allInts.items
  have hn : numsOf (intItems xs).toList = ns := by rw [← e]; exact hi.numsOf
  rw [nums_intItems] at hn
  rw [e] at hl
  obtain ⟨o, h1, h2, h3⟩ := hl
  have hT : s.heap.IsTuple l (intItems xs) := ⟨o, h1, h2, h3⟩
  have hlt : l < s.heap.objs.size := Heap.lt_size h1
  refine PySem.call_sum_walkG (PySem.wpAny_pyIter_tuple hT ?_)
  refine ⟨_, _, _, _, _, _, numAt xs, rfl, Walks.tuple (A := A.in1) hh _ l (Nat.ne_of_lt hlt) (intItems xs), ⟨⟨_, Heap.get?_push_size _ rfl, rfl, rfl⟩, hT.at fun o e => Heap.get?_push_of_some _ e⟩, fun b hb => ?_, (fun _ _ => intItems_at), fun h' tk t' hk => ?_⟩
  · show b < (s.heap.push _).objs.size
    rw [Heap.size_push]
    rcases List.mem_cons.mp hb with rfl | hb
    · exact Nat.lt_succ_self _
    · rcases List.mem_cons.mp hb with rfl | hb
      · exact Nat.lt_succ_of_lt hlt
      · cases hb
  · have := h h' tk t' fun b o e => by
      refine hk b o (fun hm => ?_) (Heap.get?_push_of_some _ e)
      rcases List.mem_cons.mp hm with e1 | hm
      · exact absurd (e1 ▸ Heap.lt_size e) (Nat.lt_irrefl _)
      · cases hm
    rw [preSum_eq, List.take_of_length_le (by simp [intItems]), hn]
    exact this
theorem cr_sumT (hc : X.calm = true) : CallR X (.builtin "sum") (rSumT X.K) := by
  intro pins s σ H vs us Q I r h
  obtain ⟨a, ns, rfl, hs, q⟩ := h
  obtain ⟨its, rv, hl, _⟩ := I.tuple hs
  rw [Vals.ref1 r]
  exact sumT_raw (I.ok.hd hc) hl rv.ints fun h' tk t' hk => ⟨.int _, H, I.kept hk, ⟨_, rfl⟩, q⟩
/-- a list != [] -/
def rNeNil (K : PySem.W.Frag) : V → V → Hp → VK → Prop := fun x y H Q => ∃ a b xs, x = .ref a ∧ y = .ref b ∧ SqL K H a xs ∧ SqL K H b [] ∧ Q (.bl (!xs.isEmpty)) H
theorem op_neNil (hu : X.A.units + 64 < cLine) : OpR X (compareOp .NotEq) (rNeNil X.K) := by
  intro pins s σ H x y v u Q I rx ry h
  obtain ⟨a, b, xs, rfl, rfl, h1, h2, q⟩ := h
  cases xs with
  | nil => exact op_neD hu pins s σ H _ _ v u Q I rx ry ⟨.list [], .list [], .lst h1 .nil, .lst h2 .nil, by decide, by decide, q⟩
  | cons z zs =>
    cases (show v = Value.ref a from rx)
    cases (show u = Value.ref b from ry)
    obtain ⟨us, r1, l1, _⟩ := I.list h1
    obtain ⟨ws, r2, l2, _⟩ := I.list h2
    cases r1
    cases r2
    obtain ⟨o1, n1, e1, c1, d1, k1⟩ := l1
    obtain ⟨o2, n2, e2, c2, d2, k2⟩ := l2
    exact SeqAt.RcNeAt.lists_lengths ⟨o1, e1, c1, n1, k1⟩ ⟨o2, e2, c2, n2, k2⟩ rfl (by omega) X.prog X.w X.xe _ ⟨.bl true, H, I, rfl, q⟩
/-- tuples of ints -/
def rNeTI (K : PySem.W.Frag) : V → V → Hp → VK → Prop := fun x y H Q => ∃ a b, ∃ xs ys : List Int, x = .ref a ∧ y = .ref b ∧ SqT K H a (xs.map V.int) ∧ SqT K H b (ys.map V.int) ∧ Q (.bl (!decide (xs = ys))) H
theorem dps_ints {K : PySem.W.Frag} {H : Hp} : ∀ ns : List Int, DpAll K H (ns.map V.int) (ns.map PyData.int)
  | [] => .nil
  | n :: r => .cons (.int n) (dps_ints r)
theorem eqvAll_ints : ∀ xs ys : List Int, PyData.eqvAll (xs.map PyData.int) (ys.map PyData.int) = decide (xs = ys)
  | [], [] => by simp [PyData.eqvAll]
  | [], _ :: _ => by simp [PyData.eqvAll]
  | _ :: _, [] => by simp [PyData.eqvAll]
  | x :: xs, y :: ys => by
    rw [List.map_cons, List.map_cons, PyData.eqvAll, eqvAll_ints xs ys, PyData.eqv]
    by_cases h : x = y
    · subst h
      simp
    · simp [h]
theorem shaped_tints (ns : List Int) : SeqAt.shaped (.tuple (ns.map PyData.int)) = true := PySem.W.ke_shaped_ints ns
theorem op_neTI (hu : X.A.units + 64 < cLine) : OpR X (compareOp .NotEq) (rNeTI X.K) := by
  intro pins s σ H x y v u Q I rx ry h
  obtain ⟨a, b, xs, ys, rfl, rfl, h1, h2, q⟩ := h
  refine op_neD hu pins s σ H _ _ v u Q I rx ry ⟨.tuple (xs.map PyData.int), .tuple (ys.map PyData.int), .tup h1 (dps_ints xs), .tup h2 (dps_ints ys), shaped_tints xs, shaped_tints ys, ?_⟩
  show Q (.bl (!PyData.eqvAll (xs.map PyData.int) (ys.map PyData.int))) H
  rw [eqvAll_ints]
  exact q
end
section
variable {K : PySem.W.Frag} {a b d : Addr} {xs ys : List V}
theorem walk_zipT {n : Nat} (hn : n = min xs.length ys.length) : Walk (ItzT K a b) n (fun H => SqT K H a xs ∧ SqT K H b ys) (YPair (fun i => xs[i]?) (fun i => ys[i]?)) := by
  subst hn
  refine ⟨fun i _ hi q => ?_, fun _ q => ⟨xs, ys, q.1, q.2, by omega⟩, fun i H v H' _ q y => ?_⟩
  · have h1 : i < xs.length := by omega
    have h2 : i < ys.length := by omega
    exact ⟨xs, ys, xs[i], ys[i], q.1, q.2, by simp [h1], by simp [h2]⟩
  · obtain ⟨T, x, z, h1, h2, h3, h4, h5⟩ := y
    exact ⟨T, x, z, h1, h2, h3, h4 xs q.1, h5 ys q.2⟩
end
end Sh

/-! a walk over zip of two tuples whose pairs are held by a name: the iterator keeps the pair that it gave -/
namespace ZN
open PySem PySem.Spec PyProof.Rows L2 RZ
/-- the iterator at z: what it keeps, and the flag beside it -/
abbrev ZAt (h : Heap) (z TI TO : Addr) (kept : Value) (flag : Bool) : Prop := h.get? z = some { cls := .type "zip", data := .fields #[kept, .bool flag, .bool false, .ref TI, .ref TO] }
section
variable {prog : Program} {w : World} {A : Around} {E : Value → Shared → Prop} {s : Shared}
theorem alive_ {M : Model} {a : Addr} {Q : Option Obj → Shared → Prop} (h : Q (s.heap.get? a) s) : wpAny M A (PySem.loadIfAlive a) Q E s := fun _ _ _ => by
  unfold PySem.loadIfAlive
  rw [Sem.wp_loadIfAlive]
  simpa using h
variable {z TI TO i1 i2 l1 l2 T : Addr} {k1 k2 : Nat} {xs ys : Array Value} {x y a b : Value} {flag : Bool}
/-- what is the same, whoever holds the pair: the state behind a turn -/
def Behind (s : Shared) (z TI TO i1 i2 l1 l2 : Addr) (k1 k2 : Nat) (x y : Value) (Q : Value → Shared → Prop) : Prop :=
  ∀ h' N T' f', N = s.heap.objs.size → ZAt h' z TI TO (rawInt (T' : Nat)) f' → (∃ u v, IsPair h' TO u v) → h'.IsTupleIter i1 l1 (k1 + 1) → h'.IsTupleIter i2 l2 (k2 + 1) → IsPair h' N x y →
    (∀ c o, c ≠ z → c ≠ TO → c ≠ i1 → c ≠ i2 → s.heap.get? c = some o → h'.get? c = some o) → Q (.ref N) { s with heap := h' }
/-- nobody else holds it -/
theorem free_item (D : ZipApart z TI TO i1 i2 l1 l2) {kept : Value} (hz : ZAt s.heap z TI TO kept flag) (hTI : IsPair s.heap TI (.ref i1) (.ref i2)) (hTO : IsPair s.heap TO a b)
    (hfree : ∀ (Q : Bool → Shared → Prop) (E : Value → Shared → Prop) (B : Around), Q true s → wpAny (model prog w) B (Builtin.SmallTypes.ownedTupleIsFree (.ref z)) Q E s)
    (h1 : s.heap.IsTupleIter i1 l1 k1) (h2 : s.heap.IsTupleIter i2 l2 k2) (hl1 : s.heap.IsTuple l1 xs) (hl2 : s.heap.IsTuple l2 ys) (hx : xs[k1]? = some x) (hy : ys[k2]? = some y) {Q : Value → Shared → Prop}
    (hQ : Behind s z TI TO i1 i2 l1 l2 k1 k2 x y Q) : wpAny (model prog w) A (Builtin.«zip.__next__» ⟨[.ref z], []⟩) (fun fin s' => ∃ v, fin = .done (.ret v) ∧ Q v s') E s := by
  show wpAny _ _ (field (.ref z) 2 >>= _) _ _ _; refine wpAny_bind (wpAny_field hz rfl (x := .bool false) rfl ?_)
  show wpAny _ _ (field (.ref z) 3 >>= _) _ _ _; refine wpAny_bind (wpAny_field hz rfl (x := .ref TI) rfl ?_); refine wpAny_bind (wpAny_seqItems hTI rfl ?_)
  show wpAny _ _ (Builtin.SmallTypes.ownedTupleIsFree (.ref z) >>= _) _ _ _; refine wpAny_bind (hfree _ _ _ ?_)
  simp only [if_true]; refine wpAny_bind (wpAny_rule ?_); refine wpAny_bind (wpAny_field hz rfl (x := .ref TO) rfl ?_)
  refine wpAny_bind (wpAny_setField_rec hz (by simp) fun m1 z1 b1 => ?_); replace z1 : ZAt m1 z TI TO .ellipsis flag := z1
  refine wpAny_bind ?_; simp only [List.zipIdx_cons, List.zipIdx_nil, List.forIn_cons, List.forIn_nil]
  refine wpAny_bind (wpAny_bind (wpAny_onRaise ?_)); show wpAny _ _ (Builtin.SmallTypes.nextOf (.ref i1) >>= _) _ _ _
  refine wpAny_bind (nextOf_tuple_item (h1.extBut b1.extBut D.i1z) (hl1.extBut b1.extBut D.l1z) hx fun m2 g1 b2 => wpAny_pure ?_)
  have o2 : IsPair m2 TO a b := b2.extBut _ _ D.TOi1 (b1.extBut _ _ D.TOz hTO)
  refine wpAny_bind (wpAny_seqItems o2 rfl ?_); refine wpAny_bind (wpAny_updateSeq_pair o2 fun m3 o3 b3 => ?_); replace o3 : IsPair m3 TO x b := o3
  refine wpAny_bind (wpAny_letGo (wpAny_pure ?_)); refine wpAny_bind (wpAny_bind (wpAny_onRaise ?_))
  show wpAny _ _ (Builtin.SmallTypes.nextOf (.ref i2) >>= _) _ _ _
  refine wpAny_bind (nextOf_tuple_item (((h2.extBut b1.extBut D.i2z).extBut b2.extBut D.i12.symm).extBut b3.extBut D.TOi2.symm) (((hl2.extBut b1.extBut D.l2z).extBut b2.extBut D.l2i1).extBut b3.extBut D.l2TO) hy fun m4 g2 b4 => wpAny_pure ?_)
  have o4 : IsPair m4 TO x b := b4.extBut _ _ D.TOi2 o3
  refine wpAny_bind (wpAny_seqItems o4 rfl ?_); refine wpAny_bind (wpAny_updateSeq_pair o4 fun m5 o5 b5 => ?_); replace o5 : IsPair m5 TO x y := o5
  refine wpAny_bind (wpAny_letGo (wpAny_pure (wpAny_pure ?_))); refine wpAny_bind (wpAny_seqItems o5 rfl ?_); refine wpAny_bind (wpAny_newTuple ?_)
  have size5 : m5.objs.size = s.heap.objs.size := by rw [b5.1, b4.1, b3.1, b2.1, b1.1]
  have z5 : ZAt m5 z TI TO .ellipsis flag := b5.extBut _ _ D.TOz.symm (b4.extBut _ _ D.i2z.symm (b3.extBut _ _ D.TOz.symm (b2.extBut _ _ D.i1z.symm z1)))
  have keep5 : ∀ c o, c ≠ z → c ≠ TO → c ≠ i1 → c ≠ i2 → s.heap.get? c = some o → m5.get? c = some o := fun c o c1 c2 c3 c4 e => b5.extBut _ _ c2 (b4.extBut _ _ c4 (b3.extBut _ _ c2 (b2.extBut _ _ c3 (b1.extBut _ _ c1 e))))
  have g15 : m5.IsTupleIter i1 l1 (k1 + 1) := ((g1.extBut b3.extBut D.TOi1.symm).extBut b4.extBut D.i12).extBut b5.extBut D.TOi1.symm
  have g25 : m5.IsTupleIter i2 l2 (k2 + 1) := g2.extBut b5.extBut D.TOi2.symm
  have zlt : z < m5.objs.size := Heap.lt_size z5
  show wpAny _ _ (Builtin.SmallTypes.ownedTupleHandOut (.ref z) (.ref m5.objs.size) >>= _) _ _ _
  refine wpAny_bind ?_; unfold Builtin.SmallTypes.ownedTupleHandOut
  have z6 : ZAt (m5.push { cls := .type "tuple", data := .seq #[x, y] }) z TI TO .ellipsis flag := Heap.get?_push_of_some _ z5
  refine wpAny_bind (wpAny_setField_rec z6 (by simp) fun m7 z7 b7 => ?_); replace z7 : ZAt m7 z TI TO (rawInt m5.objs.size) flag := z7
  refine wpAny_setField_rec z7 (by simp) fun m8 z8 b8 => ?_; replace z8 : ZAt m8 z TI TO (rawInt m5.objs.size) false := z8
  have up : ∀ c o, c ≠ z → m5.get? c = some o → m8.get? c = some o := fun c o c1 e => b8.extBut _ _ c1 (b7.extBut _ _ c1 (Heap.get?_push_of_some _ e))
  have T8 : IsPair m8 m5.objs.size x y := b8.extBut _ _ (Nat.ne_of_gt zlt) (b7.extBut _ _ (Nat.ne_of_gt zlt) (Heap.get?_push_size _ rfl))
  refine wpAny_pure ⟨_, rfl, ?_⟩; show Q (.ref m5.objs.size) _
  exact hQ m8 m5.objs.size m5.objs.size false size5 z8 ⟨_, _, up _ _ D.TOz o5⟩ (g15.at fun o e => up _ o D.i1z e) (g25.at fun o e => up _ o D.i2z e) T8 fun c o c1 c2 c3 c4 e => up c o c1 (keep5 c o c1 c2 c3 c4 e)
theorem not_free {ob : Obj} {B : Around} (hz : ZAt s.heap z TI TO (rawInt (T : Nat)) flag) (hal : s.heap.get? T = some ob) {Q : Bool → Shared → Prop}
    (h : ∀ m1 : Heap, ZAt m1 z TI TO (rawInt (T : Nat)) true → m1.objs.size = s.heap.objs.size → (∀ c o, c ≠ z → s.heap.get? c = some o → m1.get? c = some o) → Q false { s with heap := m1 }) :
    wpAny (model prog w) B (Builtin.SmallTypes.ownedTupleIsFree (.ref z)) Q E s := by
  unfold Builtin.SmallTypes.ownedTupleIsFree
  refine wpAny_bind (wpAny_field hz rfl (x := rawInt T) rfl ?_)
  show wpAny _ _ (PySem.loadIfAlive ((T : Int).toNat) >>= _) _ _ _
  refine wpAny_bind (alive_ ?_)
  rw [show ((T : Nat) : Int).toNat = T from rfl, hal]
  show wpAny _ _ (field (.ref z) 1 >>= _) _ _ _
  refine wpAny_bind (wpAny_field hz rfl (x := .bool flag) rfl ?_)
  cases flag with
  | true =>
    show wpAny _ _ (pure false) _ _ _
    exact wpAny_pure (h s.heap hz rfl fun _ _ _ e => e)
  | false =>
    show wpAny _ _ (setField (.ref z) 1 (.bool true) >>= _) _ _ _
    exact wpAny_bind (wpAny_setField_rec hz (by simp) fun m1 z1 b1 => wpAny_pure (h m1 z1 b1.1 fun c o c1 e => b1.extBut _ _ c1 e))
theorem gone_free {B : Around} (hz : ZAt s.heap z TI TO (rawInt (T : Nat)) flag) (hal : s.heap.get? T = none) {Q : Bool → Shared → Prop} (h : Q true s) :
    wpAny (model prog w) B (Builtin.SmallTypes.ownedTupleIsFree (.ref z)) Q E s := by
  unfold Builtin.SmallTypes.ownedTupleIsFree
  refine wpAny_bind (wpAny_field hz rfl (x := rawInt T) rfl ?_)
  show wpAny _ _ (PySem.loadIfAlive ((T : Int).toNat) >>= _) _ _ _
  refine wpAny_bind (alive_ ?_)
  rw [show ((T : Nat) : Int).toNat = T from rfl, hal]
  exact wpAny_pure h
theorem none_free {B : Around} (hz : ZAt s.heap z TI TO .none flag) {Q : Bool → Shared → Prop} (h : Q true s) : wpAny (model prog w) B (Builtin.SmallTypes.ownedTupleIsFree (.ref z)) Q E s := by
  unfold Builtin.SmallTypes.ownedTupleIsFree
  exact wpAny_bind (wpAny_field hz rfl (x := .none) rfl (wpAny_pure h))
/-- the name holds it still: a new pair, the old one stays with the iterator -/
theorem held_item (D : ZipApart z TI TO i1 i2 l1 l2) {ob : Obj} (hz : ZAt s.heap z TI TO (rawInt (T : Nat)) flag) (hal : s.heap.get? T = some ob) (hTI : IsPair s.heap TI (.ref i1) (.ref i2)) (hTO : IsPair s.heap TO a b)
    (h1 : s.heap.IsTupleIter i1 l1 k1) (h2 : s.heap.IsTupleIter i2 l2 k2) (hl1 : s.heap.IsTuple l1 xs) (hl2 : s.heap.IsTuple l2 ys) (hx : xs[k1]? = some x) (hy : ys[k2]? = some y) {Q : Value → Shared → Prop}
    (hQ : Behind s z TI TO i1 i2 l1 l2 k1 k2 x y Q) : wpAny (model prog w) A (Builtin.«zip.__next__» ⟨[.ref z], []⟩) (fun fin s' => ∃ v, fin = .done (.ret v) ∧ Q v s') E s := by
  show wpAny _ _ (field (.ref z) 2 >>= _) _ _ _; refine wpAny_bind (wpAny_field hz rfl (x := .bool false) rfl ?_)
  show wpAny _ _ (field (.ref z) 3 >>= _) _ _ _; refine wpAny_bind (wpAny_field hz rfl (x := .ref TI) rfl ?_); refine wpAny_bind (wpAny_seqItems hTI rfl ?_)
  show wpAny _ _ (Builtin.SmallTypes.ownedTupleIsFree (.ref z) >>= _) _ _ _
  refine wpAny_bind (not_free hz hal fun m1 z1 sz1 kp1 => ?_)
  have t1 : m1.IsTupleIter i1 l1 k1 := h1.at fun o e => kp1 _ o D.i1z e
  have t2 : m1.IsTupleIter i2 l2 k2 := h2.at fun o e => kp1 _ o D.i2z e
  have u1 : m1.IsTuple l1 xs := hl1.at fun o e => kp1 _ o D.l1z e
  have u2 : m1.IsTuple l2 ys := hl2.at fun o e => kp1 _ o D.l2z e
  simp only [Bool.false_eq_true, if_false]
  refine wpAny_bind ?_
  simp only [List.forIn_toArray, List.forIn_cons, List.forIn_nil]
  refine wpAny_bind (wpAny_bind (wpAny_holding ?_))
  show wpAny _ _ (Builtin.SmallTypes.nextOf (.ref i1) >>= _) _ _ _
  refine wpAny_bind (nextOf_tuple_item t1 u1 hx fun m2 g1 b2 => wpAny_pure ?_)
  refine wpAny_pure ?_
  refine wpAny_bind (wpAny_bind (wpAny_holding ?_))
  show wpAny _ _ (Builtin.SmallTypes.nextOf (.ref i2) >>= _) _ _ _
  refine wpAny_bind (nextOf_tuple_item (t2.extBut b2.extBut D.i12.symm) (u2.extBut b2.extBut D.l2i1) hy fun m3 g2 b3 => wpAny_pure ?_)
  refine wpAny_pure (wpAny_pure ?_)
  show wpAny _ _ (newTuple [x, y] >>= _) _ _ _
  refine wpAny_bind (wpAny_newTuple ?_)
  refine wpAny_pure ⟨_, rfl, ?_⟩
  have sz3 : m3.objs.size = s.heap.objs.size := by rw [b3.1, b2.1, sz1]
  have z3 : ZAt m3 z TI TO (rawInt (T : Nat)) true := b3.extBut _ _ D.i2z.symm (b2.extBut _ _ D.i1z.symm z1)
  have k3 : ∀ c o, c ≠ z → c ≠ TO → c ≠ i1 → c ≠ i2 → s.heap.get? c = some o → m3.get? c = some o := fun c o c1 _ c3 c4 e => b3.extBut _ _ c4 (b2.extBut _ _ c3 (kp1 _ _ c1 e))
  have o3 : IsPair m3 TO a b := b3.extBut _ _ D.TOi2 (b2.extBut _ _ D.TOi1 (kp1 _ _ D.TOz hTO))
  have g13 : m3.IsTupleIter i1 l1 (k1 + 1) := g1.extBut b3.extBut D.i12
  exact hQ (m3.push { cls := .type "tuple", data := .seq #[x, y] }) m3.objs.size T true sz3 (Heap.get?_push_of_some _ z3) ⟨_, _, Heap.get?_push_of_some _ o3⟩ (g13.at fun o e => Heap.get?_push_of_some _ e) (g2.at fun o e => Heap.get?_push_of_some _ e)
    (Heap.get?_push_size _ rfl) fun c o c1 c2 c3 c4 e => Heap.get?_push_of_some _ (k3 c o c1 c2 c3 c4 e)
/-- what an end leaves -/
def Ended (s : Shared) (z TO i1 i2 : Addr) (E : Value → Shared → Prop) : Prop :=
  ∀ h' e, (∀ c o, c ≠ z → c ≠ TO → c ≠ i1 → c ≠ i2 → s.heap.get? c = some o → h'.get? c = some o) → (∃ o, h'.get? e = some o ∧ o.cls = .type "StopIteration") → E (.ref e) { s with heap := h' }
theorem free_end (hh : A.handled = none) (D : ZipApart z TI TO i1 i2 l1 l2) {kept : Value} (hz : ZAt s.heap z TI TO kept flag) (hTI : IsPair s.heap TI (.ref i1) (.ref i2)) (hTO : IsPair s.heap TO a b)
    (hfree : ∀ (Q : Bool → Shared → Prop) (E : Value → Shared → Prop) (B : Around), Q true s → wpAny (model prog w) B (Builtin.SmallTypes.ownedTupleIsFree (.ref z)) Q E s)
    (h1 : s.heap.IsTupleIter i1 l1 k1) (h2 : s.heap.IsTupleIter i2 l2 k2) (hl1 : s.heap.IsTuple l1 xs) (hl2 : s.heap.IsTuple l2 ys) (hend : xs[k1]? = none ∨ ys[k2]? = none) {Q : Fin → Shared → Prop}
    (hE : Ended s z TO i1 i2 E) : wpAny (model prog w) A (Builtin.«zip.__next__» ⟨[.ref z], []⟩) Q E s := by
  show wpAny _ _ (field (.ref z) 2 >>= _) _ _ _; refine wpAny_bind (wpAny_field hz rfl (x := .bool false) rfl ?_)
  show wpAny _ _ (field (.ref z) 3 >>= _) _ _ _; refine wpAny_bind (wpAny_field hz rfl (x := .ref TI) rfl ?_); refine wpAny_bind (wpAny_seqItems hTI rfl ?_)
  show wpAny _ _ (Builtin.SmallTypes.ownedTupleIsFree (.ref z) >>= _) _ _ _; refine wpAny_bind (hfree _ _ _ ?_)
  simp only [if_true]; refine wpAny_bind (wpAny_rule ?_); refine wpAny_bind (wpAny_field hz rfl (x := .ref TO) rfl ?_)
  refine wpAny_bind (wpAny_setField_rec hz (by simp) fun m1 z1 b1 => ?_); replace z1 : ZAt m1 z TI TO .ellipsis flag := z1
  refine wpAny_bind ?_; simp only [List.zipIdx_cons, List.zipIdx_nil, List.forIn_cons, List.forIn_nil]
  refine wpAny_bind (wpAny_bind (wpAny_onRaise ?_)); show wpAny _ _ (Builtin.SmallTypes.nextOf (.ref i1) >>= _) _ _ _
  cases hx : xs[k1]? with
  | none =>
    refine wpAny_bind (nextOf_tuple_end hh (h1.extBut b1.extBut D.i1z) (hl1.extBut b1.extBut D.l1z) hx fun m2 e b2 he => ?_)
    obtain ⟨oe, hoe, hce⟩ := he
    have z2 : ZAt m2 z TI TO .ellipsis flag := b2 _ _ D.i1z.symm z1
    have hez : e ≠ z := fun q => by subst q; rw [z2] at hoe; cases hoe; simp at hce
    exact wpAny_setField_rec z2 (by simp) fun m3 _ b3 => hE m3 e (fun c o c1 _ c3 _ q => b3.extBut _ _ c1 (b2 _ _ c3 (b1.extBut _ _ c1 q))) ⟨oe, b3.extBut _ _ hez hoe, hce⟩
  | some x =>
    have hy : ys[k2]? = none := by rcases hend with h | h; rw [hx] at h; cases h; exact h
    refine wpAny_bind (nextOf_tuple_item (h1.extBut b1.extBut D.i1z) (hl1.extBut b1.extBut D.l1z) hx fun m2 g1 b2 => wpAny_pure ?_)
    have o2 : IsPair m2 TO a b := b2.extBut _ _ D.TOi1 (b1.extBut _ _ D.TOz hTO)
    refine wpAny_bind (wpAny_seqItems o2 rfl ?_); refine wpAny_bind (wpAny_updateSeq_pair o2 fun m3 o3 b3 => ?_)
    refine wpAny_bind (wpAny_letGo (wpAny_pure ?_)); refine wpAny_bind (wpAny_bind (wpAny_onRaise ?_))
    show wpAny _ _ (Builtin.SmallTypes.nextOf (.ref i2) >>= _) _ _ _
    refine wpAny_bind (nextOf_tuple_end hh (((h2.extBut b1.extBut D.i2z).extBut b2.extBut D.i12.symm).extBut b3.extBut D.TOi2.symm) (((hl2.extBut b1.extBut D.l2z).extBut b2.extBut D.l2i1).extBut b3.extBut D.l2TO) hy fun m4 e b4 he => ?_)
    obtain ⟨oe, hoe, hce⟩ := he
    have z4 : ZAt m4 z TI TO .ellipsis flag := b4 _ _ D.i2z.symm (b3.extBut _ _ D.TOz.symm (b2.extBut _ _ D.i1z.symm z1))
    have hez : e ≠ z := fun q => by subst q; rw [z4] at hoe; cases hoe; simp at hce
    exact wpAny_setField_rec z4 (by simp) fun m5 _ b5 => hE m5 e (fun c o c1 c2 c3 c4 q => b5.extBut _ _ c1 (b4 _ _ c4 (b3.extBut _ _ c2 (b2.extBut _ _ c3 (b1.extBut _ _ c1 q))))) ⟨oe, b5.extBut _ _ hez hoe, hce⟩
theorem held_end (hh : A.handled = none) (D : ZipApart z TI TO i1 i2 l1 l2) {ob : Obj} (hz : ZAt s.heap z TI TO (rawInt (T : Nat)) flag) (hal : s.heap.get? T = some ob) (hTI : IsPair s.heap TI (.ref i1) (.ref i2))
    (h1 : s.heap.IsTupleIter i1 l1 k1) (h2 : s.heap.IsTupleIter i2 l2 k2) (hl1 : s.heap.IsTuple l1 xs) (hl2 : s.heap.IsTuple l2 ys) (hend : xs[k1]? = none ∨ ys[k2]? = none) {Q : Fin → Shared → Prop}
    (hE : Ended s z TO i1 i2 E) : wpAny (model prog w) A (Builtin.«zip.__next__» ⟨[.ref z], []⟩) Q E s := by
  show wpAny _ _ (field (.ref z) 2 >>= _) _ _ _; refine wpAny_bind (wpAny_field hz rfl (x := .bool false) rfl ?_)
  show wpAny _ _ (field (.ref z) 3 >>= _) _ _ _; refine wpAny_bind (wpAny_field hz rfl (x := .ref TI) rfl ?_); refine wpAny_bind (wpAny_seqItems hTI rfl ?_)
  show wpAny _ _ (Builtin.SmallTypes.ownedTupleIsFree (.ref z) >>= _) _ _ _
  refine wpAny_bind (not_free hz hal fun m1 z1 sz1 kp1 => ?_)
  have t1 : m1.IsTupleIter i1 l1 k1 := h1.at fun o e => kp1 _ o D.i1z e
  have t2 : m1.IsTupleIter i2 l2 k2 := h2.at fun o e => kp1 _ o D.i2z e
  have u1 : m1.IsTuple l1 xs := hl1.at fun o e => kp1 _ o D.l1z e
  have u2 : m1.IsTuple l2 ys := hl2.at fun o e => kp1 _ o D.l2z e
  simp only [Bool.false_eq_true, if_false]
  refine wpAny_bind ?_
  simp only [List.forIn_toArray, List.forIn_cons, List.forIn_nil]
  refine wpAny_bind (wpAny_bind (wpAny_holding ?_))
  show wpAny _ _ (Builtin.SmallTypes.nextOf (.ref i1) >>= _) _ _ _
  cases hx : xs[k1]? with
  | none =>
    refine wpAny_bind (nextOf_tuple_end hh t1 u1 hx fun m2 e b2 he => ?_)
    exact hE m2 e (fun c o c1 _ c3 _ q => b2 _ _ c3 (kp1 _ _ c1 q)) he
  | some x =>
    have hy : ys[k2]? = none := by rcases hend with h | h; rw [hx] at h; cases h; exact h
    refine wpAny_bind (nextOf_tuple_item t1 u1 hx fun m2 g1 b2 => wpAny_pure ?_)
    refine wpAny_pure ?_
    refine wpAny_bind (wpAny_bind (wpAny_holding ?_))
    show wpAny _ _ (Builtin.SmallTypes.nextOf (.ref i2) >>= _) _ _ _
    refine wpAny_bind (nextOf_tuple_end hh (t2.extBut b2.extBut D.i12.symm) (u2.extBut b2.extBut D.l2i1) hy fun m3 e b3 he => ?_)
    exact hE m3 e (fun c o c1 _ c3 c4 q => b3 _ _ c4 (b2.extBut _ _ c3 (kp1 _ _ c1 q))) he
/-- what the iterator keeps between two turns -/
def Keeps (h : Heap) (z TI TO : Addr) : Prop := (∃ f, ZAt h z TI TO .none f) ∨ ∃ (T : Nat) (f : Bool), ZAt h z TI TO (rawInt T) f
theorem Keeps.at {h : Heap} (k : Keeps h z TI TO) : ∃ v f, ZAt h z TI TO v f := by
  rcases k with ⟨f, k⟩ | ⟨T, f, k⟩
  · exact ⟨_, f, k⟩
  · exact ⟨_, f, k⟩
theorem next_item (D : ZipApart z TI TO i1 i2 l1 l2) (hz : Keeps s.heap z TI TO) (hTI : IsPair s.heap TI (.ref i1) (.ref i2)) (hTO : IsPair s.heap TO a b)
    (h1 : s.heap.IsTupleIter i1 l1 k1) (h2 : s.heap.IsTupleIter i2 l2 k2) (hl1 : s.heap.IsTuple l1 xs) (hl2 : s.heap.IsTuple l2 ys) (hx : xs[k1]? = some x) (hy : ys[k2]? = some y) {Q : Option Value → Shared → Prop}
    (hQ : Behind s z TI TO i1 i2 l1 l2 k1 k2 x y fun v s' => Q (some v) s') : wpAny (model prog w) A (pyNext (.ref z)) Q E s := by
  obtain ⟨v, f, za⟩ := hz.at
  have hT : s.TypeIs (.ref z) "zip" := ⟨_, za, rfl⟩
  unfold pyNext
  refine wpAny_bind (wpAny_attempt (wpAny_callSpecial?_slot (name := Str.ofString "__next__") hT F.slot_zip_next (wpAny_call_entry F.slot_zip_next hT F.entry_zip_next ?_ (F.args_zip_next_1 _))))
  have hQ' : Behind s z TI TO i1 i2 l1 l2 k1 k2 x y fun v s' => wpAny (model prog w) A (pure (some v)) Q E s' := fun h' N T' f' e1 e2 e3 e4 e5 e6 e7 => wpAny_pure (hQ h' N T' f' e1 e2 e3 e4 e5 e6 e7)
  rcases hz with ⟨f, k⟩ | ⟨T, f, k⟩
  · exact free_item D k hTI hTO (fun Q E B h => none_free k h) h1 h2 hl1 hl2 hx hy hQ'
  · cases hal : s.heap.get? T with
    | none => exact free_item D k hTI hTO (fun Q E B h => gone_free k hal h) h1 h2 hl1 hl2 hx hy hQ'
    | some ob => exact held_item D k hal hTI hTO h1 h2 hl1 hl2 hx hy hQ'
theorem next_end (hh : A.handled = none) (D : ZipApart z TI TO i1 i2 l1 l2) (hz : Keeps s.heap z TI TO) (hTI : IsPair s.heap TI (.ref i1) (.ref i2)) (hTO : IsPair s.heap TO a b)
    (h1 : s.heap.IsTupleIter i1 l1 k1) (h2 : s.heap.IsTupleIter i2 l2 k2) (hl1 : s.heap.IsTuple l1 xs) (hl2 : s.heap.IsTuple l2 ys) (hend : xs[k1]? = none ∨ ys[k2]? = none) {Q : Option Value → Shared → Prop}
    (hQ : ∀ h', (∀ c o, c ≠ z → c ≠ TO → c ≠ i1 → c ≠ i2 → s.heap.get? c = some o → h'.get? c = some o) → Q none { s with heap := h' }) : wpAny (model prog w) A (pyNext (.ref z)) Q E s := by
  obtain ⟨v, f, za⟩ := hz.at
  have hT : s.TypeIs (.ref z) "zip" := ⟨_, za, rfl⟩
  have fin : ∀ h' e, (∀ c o, c ≠ z → c ≠ TO → c ≠ i1 → c ≠ i2 → s.heap.get? c = some o → h'.get? c = some o) → (∃ o, h'.get? e = some o ∧ o.cls = .type "StopIteration") →
      wpAny (model prog w) A (isInstance (.ref e) (.type "StopIteration")) (fun r s' => r = true ∧ Q none s') E { s with heap := h' } := fun h' e hk ⟨o, ho, hc⟩ =>
    wpAny_isInstance (T := "StopIteration") (b := true) ⟨o, ho, hc⟩ isSubtype_stop ⟨rfl, hQ _ hk⟩
  unfold pyNext
  refine wpAny_bind (wpAny_attempt (wpAny_callSpecial?_slot (name := Str.ofString "__next__") hT F.slot_zip_next (wpAny_call_entry F.slot_zip_next hT F.entry_zip_next ?_ (F.args_zip_next_1 _))))
  have go : Ended s z TO i1 i2 fun e s' => wpAny (model prog w) A (do if ← isInstance e (.type "StopIteration") then pure none else throw e) Q E s' := fun h' e hk he => wpAny_bind (wpAny_mono (fin h' e hk he) (fun r s' hr => by obtain ⟨rfl, q⟩ := hr; exact wpAny_pure q) fun _ _ q => q)
  rcases hz with ⟨f, k⟩ | ⟨T, f, k⟩
  · exact free_end (A := A.in1) hh D k hTI hTO (fun Q E B h => none_free k h) h1 h2 hl1 hl2 hend go
  · cases hal : s.heap.get? T with
    | none => exact free_end (A := A.in1) hh D k hTI hTO (fun Q E B h => gone_free k hal h) h1 h2 hl1 hl2 hend go
    | some ob => exact held_end (A := A.in1) hh D k hal hTI h1 h2 hl1 hl2 hend go
end
theorem turn_zipTN {P : Program} {w : World} {K : PySem.W.Frag} {x : Str} {tpos : Pos} {a b z TI TO i1 i2 : Addr} (D : ZipApart z TI TO i1 i2 a b) :
    Turn P w K (.Name x tpos) (ItzT K a b) [z, TI, TO, i1, i2] z (fun i h => Keeps h z TI TO ∧ IsPair h TI (.ref i1) (.ref i2) ∧ (∃ x y, IsPair h TO x y) ∧ h.IsTupleIter i1 a i ∧ h.IsTupleIter i2 b i) := by
  have five : ∀ c, c ∈ [z, TI, TO, i1, i2] → c = z ∨ c = TI ∨ c = TO ∨ c = i1 ∨ c = i2 := fun c hc => by simpa using hc
  refine ⟨by simp, fun i h st c hc => ?_, fun i h h' st k => ?_, ?_, ?_, ?_⟩
  · obtain ⟨hz, hTI, ⟨x, y, hTO⟩, ⟨o1, e1, _, d1⟩, ⟨o2, e2, _, d2⟩⟩ := st
    obtain ⟨v, f, za⟩ := hz.at
    rcases five c hc with q | q | q | q | q
    · rw [q]; exact ⟨_, za, fun v q => nomatch q⟩
    · rw [q]; exact ⟨_, hTI, fun v q => nomatch q⟩
    · rw [q]; exact ⟨_, hTO, fun v q => nomatch q⟩
    · rw [q]; exact ⟨o1, e1, fun v q => by rw [d1] at q; cases q⟩
    · rw [q]; exact ⟨o2, e2, fun v q => by rw [d2] at q; cases q⟩
  · obtain ⟨hz, hTI, ⟨x, y, hTO⟩, h1, h2⟩ := st
    refine ⟨?_, k TI (by simp) _ hTI, ⟨x, y, k TO (by simp) _ hTO⟩, h1.at fun o q => k i1 (by simp) o q, h2.at fun o q => k i2 (by simp) o q⟩
    rcases hz with ⟨f, za⟩ | ⟨T, f, za⟩
    · exact .inl ⟨f, k z (by simp) _ za⟩
    · exact .inr ⟨T, f, k z (by simp) _ za⟩
  · intro X hP hw hK hc i pins s σ H E I hf st hg
    subst hP hw hK
    obtain ⟨hz, hTI, ⟨x0, y0, hTO⟩, h1, h2⟩ := st
    obtain ⟨xs, ys, x, y, hqx, hqy, hx, hy⟩ := hg
    obtain ⟨its, rv, p, _⟩ := I.tuple hqx
    obtain ⟨its2, rv2, p2, _⟩ := I.tuple hqy
    obtain ⟨u, hu, ru⟩ := rv.get hx
    obtain ⟨u2, hu2, ru2⟩ := rv2.get hy
    obtain ⟨v0, f0, za⟩ := hz.at
    have zl : z < s.heap.objs.size := Heap.lt_size za
    refine next_item D hz hTI hTO h1 h2 p p2 (x := u) (y := u2) (by simpa using hu) (by simpa using hu2) fun h' N T' f' eN z' TO' h1' h2' hT hk => ?_
    subst eN
    refine ⟨_, rfl, ?_⟩
    show wpAny _ _ (pure ()) _ _ _
    have new : ObjOk X.prog X.w (upd H s.heap.objs.size (.tup [x, y])) h' s.heap.objs.size (.tup [x, y]) := ⟨by show 2 ≤ sizeLine; decide, [u, u2], .cons ru (.cons ru2 .nil), ⟨_, hT, rfl, _, rfl⟩⟩
    have I1 : Inv X pins σ (upd H s.heap.objs.size (.tup [x, y])) { s with heap := h' } :=
      I.turnedNew (t' := s.toks) (ch := [z, TI, TO, i1, i2]) (fun c o hb q => hk c o (fun e => hb (by simp [e])) (fun e => hb (by simp [e])) (fun e => hb (by simp [e])) (fun e => hb (by simp [e])) q) hf (Nat.le_refl _) new
    refine wpAny_pure ⟨.ref s.heap.objs.size, _, I1, rfl, ⟨_, x, y, rfl, I.hok.fresh (Nat.le_refl _), rfl, fun l hl => by rw [I.tuple_inj hl hqx]; exact hx, fun l hl => by rw [I.tuple_inj hl hqy]; exact hy⟩, ⟨.inr ⟨T', f', z'⟩, ?_, TO', h1', h2'⟩, fun c hcm => ?_⟩
    · exact hk _ _ D.TIz D.TITO D.TIi1 D.TIi2 hTI
    · have hlt : c < s.heap.objs.size := by
        rcases five c hcm with q | q | q | q | q
        · rw [q]; exact zl
        · rw [q]; exact Heap.lt_size hTI
        · rw [q]; exact Heap.lt_size hTO
        · rw [q]; obtain ⟨_, e1, _⟩ := h1; exact Heap.lt_size e1
        · rw [q]; obtain ⟨_, e2, _⟩ := h2; exact Heap.lt_size e2
      rw [upd_ne (Nat.ne_of_lt hlt)]
      exact (hf c hcm).1
  · intro X hP hw hK hc i pins s σ H E I hf st hg
    subst hP hw hK
    obtain ⟨hz, hTI, ⟨x0, y0, hTO⟩, h1, h2⟩ := st
    obtain ⟨xs, ys, hqx, hqy, hend⟩ := hg
    obtain ⟨its, rv, p, _⟩ := I.tuple hqx
    obtain ⟨its2, rv2, p2, _⟩ := I.tuple hqy
    have l1 := rv.length
    have l2 := rv2.length
    have he : its.toArray[i]? = none ∨ its2.toArray[i]? = none := by
      rcases hend with q | q
      · exact .inl (by simp; omega)
      · exact .inr (by simp; omega)
    exact next_end (I.ok.hd hc) D hz hTI hTO h1 h2 p p2 he fun h' hk => ⟨rfl, I.turnedL (t' := s.toks) (ch := [z, TI, TO, i1, i2]) (fun c o hb q => hk c o (fun e => hb (by simp [e])) (fun e => hb (by simp [e])) (fun e => hb (by simp [e])) (fun e => hb (by simp [e])) q) hf⟩
  · intro A i s Q E st h
    obtain ⟨hz, _⟩ := st
    obtain ⟨v, f, za⟩ := hz.at
    have hT : s.TypeIs (.ref z) "zip" := ⟨_, za, rfl⟩
    refine wpAny_pyIter_slot hT F.slot_zip_iter (wpAny_call_entry F.slot_zip_iter hT F.entry_zip_iter ?_ (F.args_zip_iter_1 _))
    show wpAny _ _ (ret (.ref z)) _ _ s
    exact wpAny_pure ⟨_, rfl, "zip", _, hT, F.slot_zip_next.lookup, h⟩
def iZipTN (K : PySem.W.Frag) (ta : TA) : TI := fun σ H R => ta σ H fun vs H1 => ∃ a b xs ys, vs = [.ref a, .ref b] ∧ SqT K H1 a xs ∧ SqT K H1 b ys ∧ R (ItzT K a b) H1
/-- for pair in zip(t, u) -/
theorem pi_zipTN {X : Cx} {e e2 : Expr} {ta : TA} {x : Str} {p pos tpos : Pos} (hg : Gl X "zip") (hm : X.mg "zip" = none) (ha : PA X [e, e2] ta)
    (hs : starEach [e, e2] X.env = (false, eval e X.env) :: starEach [e2] X.env := by rfl) (hpl : (backTo pos (starEach [e2] X.env)).any (·.1) = false := by rfl) :
    PI X (.Name x tpos) (.Call (.Name "zip" p) [e, e2] [] pos) (iZipTN X.K ta) := by
  refine ⟨fun pins s σ H R I h => ?_⟩
  refine Call_ (ld_blt I hg hm PyProof.Rows.boot_zip (PyProof.Rows.callWith_type1 (thn (ha.run pos pins s σ H _ I h) fun us s1 ⟨vs, H1, I1, r1, q1⟩ => ?_) hs hpl))
  obtain ⟨a, b, xs, ys, ex, hqx, hqy, q⟩ := q1
  subst ex
  obtain ⟨u1, u2, rfl, r1, r2⟩ := vals2 r1
  cases r1
  cases r2
  have fresh5 : ∀ c, c ∈ [s1.heap.objs.size + 4, s1.heap.objs.size + 2, s1.heap.objs.size + 3, s1.heap.objs.size, s1.heap.objs.size + 1] → FpOk X pins H1 c := fun c hcm => by
    have hle : s1.heap.objs.size ≤ c := by
      simp only [List.mem_cons, List.not_mem_nil, or_false] at hcm
      omega
    exact I1.fpOk hle (I1.hok.fresh hle)
  obtain ⟨its, rv, p1, _⟩ := I1.tuple hqx
  obtain ⟨its2, rv2, p2, _⟩ := I1.tuple hqy
  obtain ⟨o1, ho1, _⟩ := id p1
  obtain ⟨o2, ho2, _⟩ := id p2
  refine call_zipT p1 p2 fun h' hz hTI hTO h1 h2 hsz hk => wpAny_pyIter_zip hz ?_
  have I2 : Inv X pins σ H1 { s1 with heap := h' } := I1.kept (t' := s1.toks) hk
  exact ⟨s1.heap.objs.size + 4, [s1.heap.objs.size + 4, s1.heap.objs.size + 2, s1.heap.objs.size + 3, s1.heap.objs.size, s1.heap.objs.size + 1], _, _, H1, rfl, I2, turn_zipTN (PySem.W.ktu_apart s1.heap.objs.size a b (Heap.lt_size ho1) (Heap.lt_size ho2)), ⟨.inl ⟨_, hz⟩, hTI, ⟨_, _, hTO⟩, h1, h2⟩, fresh5, q⟩
end ZN

/-! bags: values that are judged, and the sums over pairs -/
namespace Sh
open PySem PySem.Spec PyProof.Rows L2 RZ
section
variable {X : Cx}
def rLenS (K : PySem.W.Frag) : List V → Hp → VK → Prop := fun xs H Q => ∃ p ys, xs = [.ref p] ∧ (SqL K H p ys ∨ SqT K H p ys) ∧ Q (.int ys.length) H
def rTupOf (K : PySem.W.Frag) : List V → Hp → VK → Prop := fun xs H Q => ∃ p ys, xs = [.ref p] ∧ ((SqL K H p ys ∧ ∀ l, H l = none → Q (.ref l) (upd H l (.tup ys))) ∨ (SqT K H p ys ∧ Q (.ref p) H))
def rLstOf (K : PySem.W.Frag) : List V → Hp → VK → Prop := fun xs H Q => ∃ p ys, xs = [.ref p] ∧ (SqL K H p ys ∨ SqT K H p ys) ∧ ∀ l, H l = none → Q (.ref l) (upd H l (.lst ys))
theorem cutV_all (xs : List V) {lo hi : Option Int} (hw : HT.sIx xs.length 0 lo = 0 ∧ HT.sIx xs.length xs.length hi = xs.length) : cutV xs lo hi = xs := by
  unfold cutV
  rw [hw.1, hw.2]
  simp
/-- a slice of a tuple, whichever object it is -/
def rSlW : V → Option Int → Option Int → Hp → VK → Prop := fun x lo hi H Q => ∃ a xs, x = .ref a ∧ H a = some (.tup xs) ∧ ∀ p H', Same H H' → H' p = some (.tup (cutV xs lo hi)) → Q (.ref p) H'
theorem sl_tupW : SlR X rSlW := by
  intro pins s σ H x v vl vu lo hi sl Q I rx hs pl pu h
  obtain ⟨a, xs, rfl, hx, q⟩ := h
  refine sl_tupA pins s σ H _ v vl vu lo hi sl Q I rx hs pl pu ⟨a, xs, rfl, .inl (.inl hx), fun hw => q a H (Same.refl H) ?_, fun _ p hp => q p _ (same_new (Same.refl H) hp) upd_same⟩
  rw [cutV_all xs hw]
  exact hx
/-- two tuples glued, whichever object it is -/
def rCatW : V → V → Hp → VK → Prop := fun x y H Q => ∃ a b xs ys, x = .ref a ∧ y = .ref b ∧ H a = some (.tup xs) ∧ H b = some (.tup ys) ∧ xs.length + ys.length ≤ sizeLine ∧ ∀ p H', Same H H' → H' p = some (.tup (xs ++ ys)) → Q (.ref p) H'
theorem op_catW : OpR X (binaryOp .Add) rCatW := by
  intro pins s σ H x y v u Q I rx ry h
  obtain ⟨a, b, xs, ys, rfl, rfl, ha, hb, hz, q⟩ := h
  refine op_catA pins s σ H _ _ v u Q I rx ry ⟨a, b, xs, ys, rfl, rfl, .inl (.inl ha), .inl (.inl hb), hz, fun e => q b H (Same.refl H) ?_, fun _ e => q a H (Same.refl H) ?_, fun _ _ p hp => q p _ (same_new (Same.refl H) hp) upd_same⟩
  · rw [e, List.nil_append]
    exact hb
  · rw [e, List.append_nil]
    exact ha
end
/-! ### values that are judged -/
def NoTup (H : Hp) (v : V) : Prop := v = .non ∨ (∃ i : Int, v = .int i) ∨ (∃ b, v = .bl b) ∨ (∃ z, v = .str z) ∨ (∃ p xs, v = .ref p ∧ H p = some (.lst xs)) ∨ ∃ p xs, v = .ref p ∧ H p = some (.dK xs)
def Kn (H : Hp) (v : V) : Prop := NoTup H v ∨ ∃ p xs, v = .ref p ∧ H p = some (.tup xs)
def Val (H : Hp) (v : V) : Prop := NoTup H v ∨ ∃ p xs, v = .ref p ∧ H p = some (.tup xs) ∧ xs.length ≤ 1000 ∧ ∀ x ∈ xs, Kn H x
def isB : V → Bool
  | .bl _ => true
  | _ => false
def isI : V → Bool
  | .int _ => true
  | _ => false
theorem NoTup.ty {K : PySem.W.Frag} {H : Hp} {v : V} (h : NoTup H v) : ∃ T, TyX K H v (.type T) ∧ kitB T "tuple" = some false ∧ kitB T "int" = some (isB v || isI v) ∧ kitB T "bool" = some (isB v) := by
  rcases h with rfl | ⟨i, rfl⟩ | ⟨b, rfl⟩ | ⟨z, rfl⟩ | ⟨p, xs, rfl, h⟩ | ⟨p, xs, rfl, h⟩
  · exact ⟨_, .base .non, by decide +kernel, by decide +kernel, by decide +kernel⟩
  · exact ⟨_, .base (.int i), by decide +kernel, (show kitB "int" "int" = some true by decide +kernel), (show kitB "int" "bool" = some false by decide +kernel)⟩
  · exact ⟨_, .base (.bl b), by decide +kernel, (show kitB "bool" "int" = some true by decide +kernel), (show kitB "bool" "bool" = some true by decide +kernel)⟩
  · exact ⟨_, .base (.str z), by decide +kernel, (show kitB "str" "int" = some false by decide +kernel), (show kitB "str" "bool" = some false by decide +kernel)⟩
  · exact ⟨_, .base (.lst h), by decide +kernel, (show kitB "list" "int" = some false by decide +kernel), (show kitB "list" "bool" = some false by decide +kernel)⟩
  · exact ⟨_, .base (.dK h), by decide +kernel, (show kitB "dict" "int" = some false by decide +kernel), (show kitB "dict" "bool" = some false by decide +kernel)⟩
theorem Kn.ty {K : PySem.W.Frag} {H : Hp} {v : V} (h : Kn H v) : ∃ T, TyX K H v (.type T) ∧ kitB T "int" = some (isB v || isI v) ∧ kitB T "bool" = some (isB v) := by
  rcases h with h | ⟨p, xs, rfl, h⟩
  · obtain ⟨T, a, _, b, c⟩ := h.ty (K := K)
    exact ⟨T, a, b, c⟩
  · exact ⟨_, .base (.tup h), (show kitB "tuple" "int" = some false by decide +kernel), (show kitB "tuple" "bool" = some false by decide +kernel)⟩
theorem NoTup.same {H H' : Hp} {v : V} (s : Same H H') (h : NoTup H v) : NoTup H' v := by
  rcases h with h | h | h | h | ⟨p, xs, e, h⟩ | ⟨p, xs, e, h⟩
  · exact .inl h
  · exact .inr (.inl h)
  · exact .inr (.inr (.inl h))
  · exact .inr (.inr (.inr (.inl h)))
  · exact .inr (.inr (.inr (.inr (.inl ⟨p, xs, e, s _ _ h⟩))))
  · exact .inr (.inr (.inr (.inr (.inr ⟨p, xs, e, s _ _ h⟩))))
theorem Kn.same {H H' : Hp} {v : V} (s : Same H H') (h : Kn H v) : Kn H' v := by
  rcases h with h | ⟨p, xs, e, h⟩
  · exact .inl (h.same s)
  · exact .inr ⟨p, xs, e, s _ _ h⟩
theorem Val.same {H H' : Hp} {v : V} (s : Same H H') (h : Val H v) : Val H' v := by
  rcases h with h | ⟨p, xs, e, h, l, k⟩
  · exact .inl (h.same s)
  · exact .inr ⟨p, xs, e, s _ _ h, l, fun x hx => (k x hx).same s⟩
theorem Val.kn {H : Hp} {v : V} (h : Val H v) : Kn H v := by
  rcases h with h | ⟨p, xs, e, h, _⟩
  · exact .inl h
  · exact .inr ⟨p, xs, e, h⟩
theorem kn_int (H : Hp) (i : Int) : Kn H (.int i) := .inl (.inr (.inl ⟨i, rfl⟩))
theorem Flat.no {H : Hp} {v : V} (h : Flat v) : NoTup H v := by
  rcases h with h | h | h | ⟨z, h, _⟩
  · exact .inl h
  · exact .inr (.inl h)
  · exact .inr (.inr (.inl h))
  · exact .inr (.inr (.inr (.inl ⟨z, h⟩)))
theorem Odd.val {H : Hp} {v : V} (h : Odd H v) : Val H v := by
  rcases h with h | ⟨p, xs, e, h, l, k⟩ | ⟨p, e, h⟩ | ⟨p, e, h⟩
  · exact .inl (Flat.no h)
  · refine .inr ⟨p, xs, e, h, by omega, fun x hx => ?_⟩
    rcases k x hx with f | ⟨q, ys, e, hq, _⟩
    · exact .inl (Flat.no f)
    · exact .inr ⟨q, ys, e, hq⟩
  · exact .inl (.inr (.inr (.inr (.inr (.inl ⟨p, _, e, h⟩)))))
  · exact .inl (.inr (.inr (.inr (.inr (.inr ⟨p, _, e, h⟩)))))
theorem not_kept {v : V} (h : (isB v || isI v) = true) : (!isB v) = isI v := by
  cases v <;> first | rfl | exact absurd h Bool.false_ne_true
theorem none_kept {v : V} (h : ¬ (isB v || isI v) = true) : false = isI v := by
  cases v <;> first | rfl | exact absurd rfl h
/-- an entry from low on -/
def entB (low : Int) : V → Bool
  | .int i => decide (low ≤ i)
  | _ => false
def entOk (low : Int) (xs : List V) : Bool := decide (1 ≤ xs.length) && decide (xs.length ≤ 5) && (xs.map (entB low)).all id
/-- has_entries, is_bag, is_wide: what is told of a value -/
def Told (low : Int) (H : Hp) (v : V) (Q : VK) : Prop :=
  (NoTup H v ∧ ∀ H', Same H H' → Q (.bl false) H') ∨ ∃ p xs, v = .ref p ∧ H p = some (.tup xs) ∧ xs.length ≤ 1000 ∧ (∀ x ∈ xs, Kn H x) ∧ ∀ H', Same H H' → Q (.bl (entOk low xs)) H'
def spInt : Sp := fun vs H Q _ => ∃ v, vs = [v] ∧ Kn H v ∧ Q (.bl (isI v)) H
def spEnt : Sp := fun vs H Q _ => ∃ v low, vs = [v, .int low] ∧ Told low H v Q
def spEnt1 (low : Int) : Sp := fun vs H Q _ => ∃ v, vs = [v] ∧ Told low H v Q
/-! ### wide bags -/
def Wide (ns : List Int) : Prop := 1 ≤ ns.length ∧ ns.length ≤ 5 ∧ ∀ n ∈ ns, -1 ≤ n
def fitE (e m : Int) : Bool := decide (m = -1) || (decide (0 ≤ e) && decide (e ≤ m))
def fitsB (ns ms : List Int) : Bool := ((ns.zip ms).map fun p => fitE p.1 p.2).all id
def addE (e m : Int) : Int := if e = -1 ∨ m = -1 then -1 else e + m
def addB (ns ms : List Int) : List Int := (ns.zip ms).map fun p => addE p.1 p.2
theorem ent_ints {low : Int} (ns : List Int) : ((ns.map V.int).map (entB low)).all id = ns.all fun n => decide (low ≤ n) := by
  induction ns with
  | nil => rfl
  | cons n r ih =>
    rw [List.map_cons, List.map_cons, List.all_cons, List.all_cons, ih]
    rfl
theorem Wide.ok {ns : List Int} (h : Wide ns) : entOk (-1) (ns.map V.int) = true := by
  unfold entOk
  rw [ent_ints, List.length_map, decide_eq_true h.1, decide_eq_true h.2.1, Bool.true_and, Bool.true_and, List.all_eq_true]
  exact fun n hn => decide_eq_true (h.2.2 n hn)
/-- two wide bags of one length, and what comes of them -/
def Pair (H : Hp) (vs : List V) (ns ms : List Int) : Prop := ∃ p q, vs = [.ref p, .ref q] ∧ H p = some (.tup (ns.map V.int)) ∧ H q = some (.tup (ms.map V.int)) ∧ Wide ns ∧ Wide ms ∧ ns.length = ms.length
def spPair : Sp := fun vs H Q _ => ∃ ns ms, Pair H vs ns ms ∧ ∀ H', Same H H' → Q .non H'
def spFits : Sp := fun vs H Q _ => ∃ ns ms, Pair H vs ns ms ∧ ∀ H', Same H H' → Q (.bl (fitsB ns ms)) H'
def spAdded : Sp := fun vs H Q _ => ∃ ns ms, Pair H vs ns ms ∧ ∀ p H', Same H H' → H' p = some (.tup ((addB ns ms).map V.int)) → Q (.ref p) H'
theorem ints_kn {H : Hp} {ns : List Int} : ∀ x ∈ ns.map V.int, Kn H x := fun x hx => by
  obtain ⟨n, _, rfl⟩ := List.mem_map.mp hx
  exact kn_int H n
theorem Wide.len {ns : List Int} (h : Wide ns) : (ns.map V.int).length ≤ 1000 := by
  rw [List.length_map]
  have := h.2.1
  omega
end Sh

namespace My
open PySem PySem.Spec PyProof.Rows L2 RZ Sh

abbrev topS (i : Nat) : Stmt := PySem.Challenge.pw_postedbag_k02_wide_bags.main.body.getD i (.Pass ⟨0, 0, 0, 0⟩)
abbrev s_law_numbers : Stmt := topS 17
abbrev Nlaw_numbers : List Str := ["script", "at", "cell", "whole", "mixed"]
theorem sc_law_numbers : FnScope Nlaw_numbers ["script", "at"] (defScope s_law_numbers) := ⟨rfl, rfl, rfl, by decide +kernel, rfl, by decide +kernel, by decide +kernel⟩
abbrev s_law_cast : Stmt := topS 18
abbrev Nlaw_cast : List Str := ["die", "total", "found", "one", "two"]
theorem sc_law_cast : FnScope Nlaw_cast ["die", "total"] (defScope s_law_cast) := ⟨rfl, rfl, rfl, by decide +kernel, rfl, by decide +kernel, by decide +kernel⟩
abbrev s_law_pick : Stmt := topS 19
abbrev Nlaw_pick : List Str := ["die", "items"]
theorem sc_law_pick : FnScope Nlaw_pick ["die", "items"] (defScope s_law_pick) := ⟨rfl, rfl, rfl, by decide +kernel, rfl, by decide +kernel, by decide +kernel⟩
section
variable {P : Program} {w : World} {K : PySem.W.Frag} {mg : Str → Option Value} {base : Heap}
theorem ok_numbers {f : Addr} {fd : FuncData} {k : Nat} (F : Fun K "_law_numbers" "_law_numbers" s_law_numbers f fd) (m_len : mg "len" = none) (m_int : mg "int" = none) (m_abs : mg "abs" = none) (m_max : mg "max" = none) :
    FnOk P w K mg base CX0 (k + 1) f fd ["script", "at"] (spNumbers K) := by
  refine F.ok sc_law_numbers (fun vs H Q E h => ?_) (fun cdv A outer s H vs Q E hr h => ?_)
  · obtain ⟨a, ns, i, rfl, _⟩ := h
    rfl
  · obtain ⟨a, ns, i, rfl, hi0, hS, q⟩ := h
    obtain ⟨i, rfl⟩ := Int.eq_ofNat_of_zero_le hi0
    refine ⟨_, (C8.pss_cut (ps_set (i := 2) sc_law_numbers.nd rfl (by first | exact Or.inl rfl | exact Or.inr rfl) (pe_ifExp (pt_cmpR op_lt (pv 1) (pe_callB call_len_seq (by rfl) m_len (by decide +kernel) (pa_cons (pv 0) pa_nil)) (nomark _)) (pe_ix ix_list (pv 0) (pv 1) (fun _ _ => rfl)) (pe_op op_add (pe_op op_mul pe_int (pv 1)) pe_int)))
      (pss_cons (ps_set (i := 3) sc_law_numbers.nd rfl (by first | exact Or.inl rfl | exact Or.inr rfl) (pe_op op_mod (pe_callTy call_int1 (by rfl) m_int (by decide +kernel) (pa_cons (pe_callB call_abs (by rfl) m_abs (by decide +kernel) (pa_cons (pv 2) pa_nil)) pa_nil)) (pe_op op_powB (pe_op op_powB pe_int pe_int) pe_int)))
      (pss_cons (ps_set (i := 4) sc_law_numbers.nd rfl (by first | exact Or.inl rfl | exact Or.inr rfl) (pe_op op_add (pe_op op_add (pe_op op_add (pe_op op_mul (pv 3) pe_int) (pe_op op_mul pe_int (pv 1))) (pe_op op_mul pe_int (pe_callTy call_int1 (by rfl) m_int (by decide +kernel) (pa_cons (pe_cmpR op_lt (pv 2) pe_int (nomark _)) pa_nil)))) pe_int))
      (pss_one (ps_ret (pe_lst (pa_cons (pe_callB (call_max2 rfl) (by rfl) m_max (by decide +kernel) (pa_cons pe_int (pa_cons (pe_op op_sub (pv 3) (pe_op op_powB pe_int pe_int)) pa_nil))) (pa_cons (pe_op op_mod (pe_callTy call_int1 (by rfl) m_int (by decide +kernel) (pa_cons (pv 4) pa_nil)) pe_int) (pa_cons pe_int pa_nil))))))))), ?_⟩
    refine ⟨fun σ' H' => ∃ c : Int, σ' = [some (.ref a), some (.int i), some (.int c), none, none] ∧ H' = H, ?_, fun σ' H' hM => ?_⟩
    · refine ⟨.int i, rfl, .ref a, rfl, a, ns.map V.int, rfl, .inl hS, i, _, rfl, rfl, _, rfl, ite2 (fun e => ?_) (fun e => ?_)⟩
      · have hi : i < ns.length := by
          have := of_decide_eq_true e
          rw [List.length_map] at this
          omega
        refine ⟨.ref a, rfl, .int i, rfl, a, _, i, .int ns[i], rfl, rfl, hS, atI_nat (by rw [List.getElem?_map, List.getElem?_eq_getElem hi]; rfl), ?_⟩
        exact ⟨_, rfl, rfl⟩
      · refine ⟨.int i, rfl, 67, i, rfl, rfl, .inl ⟨by decide, by decide⟩, 67 * i, 23, rfl, rfl, ?_⟩
        exact ⟨_, rfl, rfl⟩
    · obtain ⟨c, rfl, rfl⟩ := hM
      refine ⟨.int c, rfl, c, rfl, .inl ⟨_, rfl, 10, 57, rfl, rfl, ⟨by decide, by decide +kernel⟩, _, 11, rfl, rfl, ⟨by decide, by decide +kernel⟩, _, _, rfl, rfl, (by show (0 : Int) < (10 ^ (57 : Int).toNat) ^ (11 : Int).toNat; decide +kernel), ?_⟩⟩
      show tSeq _ _ _ [_, _, _, some (.int ((if c < 0 then -c else c) % (10 ^ (57 : Int).toNat) ^ (11 : Int).toNat)), _] _
      generalize (if c < 0 then -c else c) % (10 ^ (57 : Int).toNat) ^ (11 : Int).toNat = wh
      refine ⟨.int wh, rfl, wh, 1000151, rfl, rfl, .inr ⟨by decide, by decide⟩, .int i, rfl, 8243, i, rfl, rfl, .inl ⟨by decide, by decide⟩, _, _, rfl, rfl, .int c, rfl, c, 0, rfl, rfl, .inr ⟨_, rfl, 43, _, rfl, rfl, .inl ⟨by decide, by decide⟩, _, _, rfl, rfl, _, 9, rfl, rfl, ?_⟩⟩
      refine ⟨.int wh, rfl, 10, 16, rfl, rfl, ⟨by decide, by decide +kernel⟩, _, _, rfl, rfl, 0, _, rfl, _, rfl, .inl ⟨_, rfl, _, _, rfl, rfl, (by show (0 : Int) < 1152921504606846877; decide), by show 3 ≤ sizeLine; decide, fun p hp => ?_⟩⟩
      exact q p _ _ hp
theorem ok_cast {f : Addr} {fd : FuncData} {k : Nat} (F : Fun K "_law_cast" "_law_cast" s_law_cast f fd) (m_int : mg "int" = none) :
    FnOk P w K mg base CX0 (k + 1) f fd ["die", "total"] spCast := by
  refine F.ok sc_law_cast (fun vs H Q E h => ?_) (fun cdv A outer s H vs Q E hr h => ?_)
  · obtain ⟨d, n, rfl, _⟩ := h
    rfl
  · obtain ⟨d, n, rfl, ⟨a, b, c, hD⟩, n0, n1, q⟩ := h
    have sq : SqL K H d [.int a, .int b, .int c] := .inl (.inl hD)
    refine ⟨_, (pss_cons (ps_if (pt_cmpR op_gt (pe_ix ix_list (pv 0) pe_int (fun _ _ => rfl)) pe_int (nomark _))
        (pss_cons (ps_set (i := 2) sc_law_cast.nd rfl (by first | exact Or.inl rfl | exact Or.inr rfl) (pe_op op_mod (pe_callTy call_int1 (by rfl) m_int (by decide +kernel) (pa_cons (pe_ix ix_list (pv 0) pe_int (fun _ _ => rfl)) pa_nil)) (pv 1)))
        (pss_cons (ps_asg (pe_op op_fdiv (pe_ix ix_list (pv 0) pe_int (fun _ _ => rfl)) (pv 1)) (pg_sub (pv 0) pe_int set_list))
        (pss_one (ps_ret (pv 2)))))
        pss_nil)
      (pss_cons (ps_asg (pe_op op_add (pe_ix ix_list (pv 0) pe_int (fun _ _ => rfl)) pe_int) (pg_sub (pv 0) pe_int set_list))
      (pss_cons (ps_set (i := 3) sc_law_cast.nd rfl (by first | exact Or.inl rfl | exact Or.inr rfl) (pe_op op_mod (pe_callTy call_int1 (by rfl) m_int (by decide +kernel) (pa_cons (pe_op op_add (pe_ix ix_list (pv 0) pe_int (fun _ _ => rfl)) (pe_op op_mul pe_int (pe_ix ix_list (pv 0) pe_int (fun _ _ => rfl)))) pa_nil)) pe_int))
      (pss_cons (ps_set (i := 4) sc_law_cast.nd rfl (by first | exact Or.inl rfl | exact Or.inr rfl) (pe_op op_add (pe_op op_mul (pe_op op_mod (pe_callTy call_int1 (by rfl) m_int (by decide +kernel) (pa_cons (pe_op op_mul (pv 3) (pv 3)) pa_nil)) pe_int) (pv 3)) (pe_op op_mul pe_int (pe_ix ix_list (pv 0) pe_int (fun _ _ => rfl)))))
      (pss_one (ps_ret (pe_op op_mod (pe_callTy call_int1 (by rfl) m_int (by decide +kernel) (pa_cons (pe_op op_fdiv (pe_op op_mod (pe_callTy call_int1 (by rfl) m_int (by decide +kernel) (pa_cons (pe_op op_add (pv 4) (pe_ix ix_list (pv 0) pe_int (fun _ _ => rfl))) pa_nil)) pe_int) pe_int) pa_nil)) (pv 1)))))))), ?_⟩
    refine ⟨.ref d, rfl, d, _, 0, .int a, rfl, rfl, sq, rfl, _, 0, rfl, rfl, _, rfl, ite2 (fun e => ?_) (fun e => ?_)⟩
    · refine ⟨.ref d, rfl, d, _, 0, .int a, rfl, rfl, sq, rfl, .inl ⟨a, rfl, .int n, rfl, a, n, rfl, rfl, n0, ?_⟩⟩
      refine ⟨.ref d, rfl, d, _, 0, .int a, rfl, rfl, sq, rfl, .int n, rfl, a, n, rfl, rfl, ⟨n0, n1⟩, .ref d, rfl, d, _, 0, 0, rfl, rfl, hD, rfl, ?_⟩
      refine ⟨_, rfl, ?_⟩
      have h1 : 0 ≤ a % n := Int.emod_nonneg _ (by omega)
      have h2 : a % n < n := Int.emod_lt_of_pos _ n0
      have h3 := q (a % n).toNat (upd H d (.lst [.int (a / n), .int b, .int c])) (by omega) ⟨_, _, _, rfl⟩
      rw [Int.toNat_of_nonneg h1] at h3
      exact h3
    · refine ⟨.ref d, rfl, d, _, 2, .int c, rfl, rfl, sq, rfl, c, 1, rfl, rfl, .ref d, rfl, d, _, 2, 2, rfl, rfl, hD, rfl, ?_⟩
      have sq2 : SqL K (upd H d (.lst [.int a, .int b, .int (c + 1)])) d [.int a, .int b, .int (c + 1)] := .inl (.inl upd_same)
      refine ⟨.ref d, rfl, d, _, 1, .int b, rfl, rfl, sq2, rfl, .ref d, rfl, d, _, 2, .int (c + 1), rfl, rfl, sq2, rfl, 654188429, c + 1, rfl, rfl, .inl ⟨by decide, by decide⟩, b, _, rfl, rfl, .inl ⟨_, rfl, _, _, rfl, rfl, (by show (0 : Int) < 2305843009213693913; decide), ?_⟩⟩
      have one0 : 0 ≤ (b + 654188429 * (c + 1)) % 2305843009213693913 := Int.emod_nonneg _ (by decide)
      have one1 : (b + 654188429 * (c + 1)) % 2305843009213693913 < 2305843009213693913 := Int.emod_lt_of_pos _ (by decide)
      show tSeq _ _ _ [_, _, _, some (.int ((b + 654188429 * (c + 1)) % 2305843009213693913)), _] _
      generalize (b + 654188429 * (c + 1)) % 2305843009213693913 = one at one0 one1
      refine ⟨.int one, rfl, .int one, rfl, one, one, rfl, rfl, .inl ⟨by omega, by omega⟩, .inl ⟨_, rfl, _, _, rfl, rfl, (by show (0 : Int) < 1152921504606846689; decide), .int one, rfl, _, one, rfl, rfl, .inr ⟨by omega, by omega⟩, .ref d, rfl, d, _, 2, .int (c + 1), rfl, rfl, sq2, rfl, 7213, c + 1, rfl, rfl, .inl ⟨by decide, by decide⟩, _, _, rfl, rfl, ?_⟩⟩
      refine ⟨_, rfl, .ref d, rfl, d, _, 1, .int b, rfl, rfl, sq2, rfl, _, b, rfl, rfl, .inl ⟨_, rfl, _, _, rfl, rfl, (by show (0 : Int) < 8796093022121; decide), _, 64, rfl, rfl, ⟨by decide, by decide⟩, .inl ⟨_, rfl, .int n, rfl, _, n, rfl, rfl, n0, ?_⟩⟩⟩
      show Q (.int ((one * one % 1152921504606846689 * one + 7213 * (c + 1) + b) % 8796093022121 / 64 % n)) _
      generalize (one * one % 1152921504606846689 * one + 7213 * (c + 1) + b) % 8796093022121 / 64 = x
      have h1 : 0 ≤ x % n := Int.emod_nonneg _ (by omega)
      have h2 : x % n < n := Int.emod_lt_of_pos _ n0
      have h3 := q (x % n).toNat (upd H d (.lst [.int a, .int b, .int (c + 1)])) (by omega) ⟨_, _, _, rfl⟩
      rw [Int.toNat_of_nonneg h1] at h3
      exact h3
theorem ok_pick {f fC : Addr} {fd fdC : FuncData} (F : Fun K "_law_pick" "_law_pick" s_law_pick f fd) (F__law_cast : Fun K "_law_cast" "_law_cast" s_law_cast fC fdC) (b__law_cast : Binds K fdC ["die", "total"] []) (g__law_cast : mg "_law_cast" = some (.ref fC)) (m_len : mg "len" = none) (m_int : mg "int" = none) :
    FnOk P w K mg base CX0 2 f fd ["die", "items"] (spPick K) := by
  have G__law_cast : FnOk P w K mg base CX0 1 fC fdC ["die", "total"] spCast := ok_cast F__law_cast m_int
  refine F.ok sc_law_pick (fun vs H Q E h => ?_) (fun cdv A outer s H vs Q E hr h => ?_)
  · obtain ⟨d, _, h⟩ := h
    rcases h with ⟨p, xs, rfl, _⟩ | ⟨z, rfl, _⟩ <;> rfl
  · obtain ⟨d, hD, h⟩ := h
    refine ⟨_, (pss_one (ps_ret (pe_ix ix_seq (pv 1) (pe_call G__law_cast (hr.mono (by decide)) (by rfl) g__law_cast F__law_cast.kp b__law_cast .nil pass0 (pa_cons (pv 0) (pa_cons (pe_callB (call_len_seq.or call_len_str) (by rfl) m_len (by decide +kernel) (pa_cons (pv 1) pa_nil)) pa_nil))) (fun _ _ => rfl)))), ?_⟩
    rcases h with ⟨p, xs, rfl, np, hS, h0, h1, q⟩ | ⟨z, rfl, h0, h1, q⟩
    · have h2 : 0 < xs.length := List.length_pos_iff.mpr h0
      refine ⟨.ref p, rfl, .ref d, rfl, .ref p, rfl, .inl ⟨p, xs, rfl, hS, d, _, rfl, hD, by omega, by omega, fun r H' hr' hN => ?_⟩⟩
      have hj : r < xs.length := by omega
      rcases hS with hS | hS
      · exact .inl ⟨p, xs, r, xs[r], rfl, rfl, hN.but.seq np hS, atI_nat (List.getElem?_eq_getElem hj), q r _ H' (List.getElem?_eq_getElem hj) hN⟩
      · exact .inr (.inl ⟨p, xs, r, xs[r], rfl, rfl, hN.but.seqT np hS, atI_nat (List.getElem?_eq_getElem hj), q r _ H' (List.getElem?_eq_getElem hj) hN⟩)
    · refine ⟨.str z, rfl, .ref d, rfl, .str z, rfl, .inr ⟨z, rfl, Nat.le_of_lt (small1000 h1), d, _, rfl, hD, by omega, by omega, fun r H' hr' hN => ?_⟩⟩
      have hj : r < z.cps.toList.length := by
        show r < z.cps.toList.length
        have : z.cps.toList.length = z.length := by simp [Str.length]
        omega
      exact .inr (.inr ⟨z, r, z.cps.toList[r], rfl, rfl, Nat.le_of_lt (small1000 h1), atI_nat (List.getElem?_eq_getElem hj), q r _ H' (List.getElem?_eq_getElem hj) hN⟩)
end

abbrev s_law_odd_one : Stmt := topS 21
abbrev Nlaw_odd_one : List Str := ["die", "some"]
theorem sc_law_odd_one : FnScope Nlaw_odd_one ["die"] (defScope s_law_odd_one) := ⟨rfl, rfl, rfl, by decide +kernel, rfl, by decide +kernel, by decide +kernel⟩
section
variable {P : Program} {w : World} {K : PySem.W.Frag} {mg : Str → Option Value} {base : Heap}
theorem ok_odd_one {f fP : Addr} {fd fdP : FuncData} (F : Fun K "_law_odd_one" "_law_odd_one" s_law_odd_one f fd) (G__law_pick : FnOk P w K mg base CX0 2 fP fdP ["die", "items"] (spPick K)) (F__law_pick : Fun K "_law_pick" "_law_pick" s_law_pick fP fdP) (b__law_pick : Binds K fdP ["die", "items"] []) (g__law_pick : mg "_law_pick" = some (.ref fP)) :
    FnOk P w K mg base CX0 3 f fd ["die"] spOdd := by
  refine F.ok sc_law_odd_one (fun vs H Q E h => ?_) (fun cdv A outer s H vs Q E hr h => ?_)
  · obtain ⟨d, rfl, _⟩ := h
    rfl
  · obtain ⟨d, rfl, hD, q⟩ := h
    refine ⟨_, (pss_cons (ps_set (i := 1) sc_law_odd_one.nd rfl (by first | exact Or.inl rfl | exact Or.inr rfl) (pe_lst (pa_cons pe_non (pa_cons pe_int (pa_cons pe_int (pa_cons pe_int (pa_cons pe_int (pa_cons (pe_un un_neg pe_int) (pa_cons pe_bl (pa_cons pe_bl (pa_cons pe_str (pa_cons pe_str (pa_cons pe_str (pa_cons pe_str (pa_cons (pe_tup pa_nil) (pa_cons (pe_tup (pa_cons pe_int pa_nil)) (pa_cons (pe_tup (pa_cons pe_int (pa_cons pe_int pa_nil))) (pa_cons (pe_tup (pa_cons pe_int (pa_cons pe_int pa_nil))) (pa_cons (pe_lst (pa_cons pe_int pa_nil)) (pa_cons pe_dnewK (pa_cons pe_str pa_nil)))))))))))))))))))))
      (pss_cons (ps_set (i := 1) sc_law_odd_one.nd rfl (by first | exact Or.inl rfl | exact Or.inr rfl) (pe_op op_cat (pv 1) (pe_lst (pa_cons (pe_op op_powB pe_int pe_int) (pa_cons (pe_tup (pa_cons pe_non pa_nil)) (pa_cons (pe_tup (pa_cons (pe_tup (pa_cons pe_int (pa_cons pe_int pa_nil))) pa_nil)) (pa_cons (pe_tup (pa_cons (pe_tup (pa_cons pe_int (pa_cons pe_int pa_nil))) (pa_cons (pe_tup (pa_cons pe_int (pa_cons pe_int pa_nil))) pa_nil))) (pa_cons (pe_tup (pa_cons pe_str pa_nil)) (pa_cons (pe_tup (pa_cons pe_str (pa_cons pe_int pa_nil))) (pa_cons pe_str (pa_cons pe_str (pa_cons pe_str pa_nil))))))))))))
      (pss_one (ps_ret (pe_call G__law_pick (hr.mono (by decide)) (by rfl) g__law_pick F__law_pick.kp b__law_pick .nil pass0 (pa_cons (pv 0) (pa_cons (pv 1) pa_nil))))))), ?_⟩
    refine ⟨1, rfl, len_ok, fun t0 n0 => ⟨len_ok, fun t1 n1 => ⟨len_ok, fun t2 n2 => ⟨len_ok, fun t3 n3 => ⟨len_ok, fun l0 n4 => fun d0 n5 => ⟨len_ok, fun L nL => ?_⟩⟩⟩⟩⟩⟩
    refine ⟨_, rfl, 10, 39, rfl, rfl, ⟨by decide, by decide +kernel⟩, len_ok, fun u0 m0 => ⟨len_ok, fun u1 m1 => ⟨len_ok, fun u2 m2 => ⟨len_ok, fun u3 m3 => ⟨len_ok, fun u4 m4 => ⟨len_ok, fun u5 m5 => ⟨len_ok, fun u6 m6 => ⟨len_ok, fun u7 m7 => ⟨len_ok, fun M mM => ?_⟩⟩⟩⟩⟩⟩⟩⟩⟩
    refine ⟨L, M, _, _, rfl, rfl, (by (repeat (first | exact upd_same | refine upd_keep ?_ (by assumption)))), upd_same, Nat.le_of_lt (small1000 (Nat.le_of_ble_eq_true rfl)), fun R nR => ?_⟩
    refine ⟨.ref d, rfl, .ref R, rfl, d, (by (repeat (refine DieAt.new ?_ (by assumption))); exact hD), .inl ⟨R, _, rfl, DieAt.free (by (repeat (refine DieAt.new ?_ (by assumption))); exact hD) nR, .inl (.inl (.inl upd_same)), List.cons_ne_nil _ _, Nat.lt_of_le_of_lt (Nat.le_of_ble_eq_true (show Nat.ble _ 1000 = true from rfl)) (by decide), fun j v H' hj hN => ?_⟩⟩
    refine q v H' (Odd.but hN.but (by (repeat (refine DieAt.new ?_ (by assumption))); exact hD) ?_) (But.trans (by (repeat (refine But.new ?_ (by assumption))); exact But.refl d H) hN.but) hN.die
    have hm := List.mem_of_getElem? hj
    clear hj q hN
    revert v
    show ∀ v ∈ [_, _, _, _, _, _, _, _, _, _, _, _, _, _, _, _, _, _, _, _, _, _, _, _, _, _, _, _], Odd _ v
    have tp : ∀ (Hh : Hp) (p : Addr) (xs : List V), Hh p = some (.tup xs) → xs.length ≤ 2 → (∀ x ∈ xs, Flat2 Hh x) → Odd Hh (.ref p) := fun Hh p xs h1 h2 h3 => .inr (.inl ⟨p, xs, rfl, h1, h2, h3⟩)
    have t2 : ∀ (Hh : Hp) (p : Addr) (xs : List V), Hh p = some (.tup xs) → xs.length ≤ 2 → (∀ x ∈ xs, Flat x) → Flat2 Hh (.ref p) := fun Hh p xs h1 h2 h3 => .inr ⟨p, xs, rfl, h1, h2, h3⟩
    have f : ∀ {v : V} {Hh : Hp}, Flat v → Odd Hh v := .inl
    have f2 : ∀ {v : V} {Hh : Hp}, Flat v → Flat2 Hh v := .inl
    refine all_cons (f flat_non) (all_cons (f (flat_int _)) (all_cons (f (flat_int _)) (all_cons (f (flat_int _)) (all_cons (f (flat_int _)) (all_cons (f (flat_int _)) (all_cons (f (flat_bl _)) (all_cons (f (flat_bl _)) (all_cons (f (flat_str (by decide))) (all_cons (f (flat_str (by decide))) (all_cons (f (flat_str (by decide))) (all_cons (f (flat_str (by decide))) ?_)))))))))))
    refine all_cons (tp _ _ [] ?_ (by decide) all_nil) ?_
    · (repeat (first | exact upd_same | refine upd_keep ?_ (by assumption)))
    refine all_cons (tp _ _ [_] ?_ (by decide) (all_cons (f2 (flat_int 0)) all_nil)) ?_
    · (repeat (first | exact upd_same | refine upd_keep ?_ (by assumption)))
    refine all_cons (tp _ _ [_, _] ?_ (by decide) (all_cons (f2 (flat_int 1)) (all_cons (f2 (flat_int 0)) all_nil))) ?_
    · (repeat (first | exact upd_same | refine upd_keep ?_ (by assumption)))
    refine all_cons (tp _ _ [_, _] ?_ (by decide) (all_cons (f2 (flat_int 0)) (all_cons (f2 (flat_int 0)) all_nil))) ?_
    · (repeat (first | exact upd_same | refine upd_keep ?_ (by assumption)))
    refine all_cons (.inr (.inr (.inl ⟨_, rfl, ?_⟩))) ?_
    · (repeat (first | exact upd_same | refine upd_keep ?_ (by assumption)))
    refine all_cons (.inr (.inr (.inr ⟨_, rfl, ?_⟩))) ?_
    · (repeat (first | exact upd_same | refine upd_keep ?_ (by assumption)))
    refine all_cons (f (flat_str (by decide))) (all_cons (f (flat_int _)) ?_)
    refine all_cons (tp _ _ [_] ?_ (by decide) (all_cons (f2 flat_non) all_nil)) ?_
    · (repeat (first | exact upd_same | refine upd_keep ?_ (by assumption)))
    refine all_cons (tp _ _ [.ref u1] ?_ (Nat.le_of_ble_eq_true rfl) (all_cons (t2 _ _ [_, _] ?_ (by decide) (all_cons (flat_int 0) (all_cons (flat_int 0) all_nil))) all_nil)) ?_
    · (repeat (first | exact upd_same | refine upd_keep ?_ (by assumption)))
    · (repeat (first | exact upd_same | refine upd_keep ?_ (by assumption)))
    refine all_cons (tp _ _ [.ref u3, .ref u4] ?_ (Nat.le_of_ble_eq_true rfl) (all_cons (t2 _ _ [_, _] ?_ (by decide) (all_cons (flat_int 0) (all_cons (flat_int 0) all_nil))) (all_cons (t2 _ _ [_, _] ?_ (by decide) (all_cons (flat_int 0) (all_cons (flat_int 0) all_nil))) all_nil))) ?_
    · (repeat (first | exact upd_same | refine upd_keep ?_ (by assumption)))
    · (repeat (first | exact upd_same | refine upd_keep ?_ (by assumption)))
    · (repeat (first | exact upd_same | refine upd_keep ?_ (by assumption)))
    refine all_cons (tp _ _ [_] ?_ (by decide) (all_cons (f2 (flat_str (z := "a") (by decide))) all_nil)) ?_
    · (repeat (first | exact upd_same | refine upd_keep ?_ (by assumption)))
    refine all_cons (tp _ _ [_, _] ?_ (by decide) (all_cons (f2 (flat_str (z := "p") (by decide))) (all_cons (f2 (flat_int 0)) all_nil))) ?_
    · (repeat (first | exact upd_same | refine upd_keep ?_ (by assumption)))
    exact all_cons (f (flat_str (by decide))) (all_cons (f (flat_str (by decide))) (all_cons (f (flat_str (by decide))) all_nil))
end
abbrev s_is_integer : Stmt := topS 1
abbrev Nis_integer : List Str := ["value"]
theorem sc_is_integer : FnScope Nis_integer ["value"] (defScope s_is_integer) := ⟨rfl, rfl, rfl, by decide +kernel, rfl, by decide +kernel, by decide +kernel⟩
abbrev s_has_entries : Stmt := topS 8
abbrev Nhas_entries : List Str := ["value", "low", "entry"]
theorem sc_has_entries : FnScope Nhas_entries ["value", "low"] (defScope s_has_entries) := ⟨rfl, rfl, rfl, by decide +kernel, rfl, by decide +kernel, by decide +kernel⟩
abbrev s_is_bag : Stmt := topS 9
abbrev Nis_bag : List Str := ["value"]
theorem sc_is_bag : FnScope Nis_bag ["value"] (defScope s_is_bag) := ⟨rfl, rfl, rfl, by decide +kernel, rfl, by decide +kernel, by decide +kernel⟩
abbrev s_is_wide : Stmt := topS 10
abbrev Nis_wide : List Str := ["value"]
theorem sc_is_wide : FnScope Nis_wide ["value"] (defScope s_is_wide) := ⟨rfl, rfl, rfl, by decide +kernel, rfl, by decide +kernel, by decide +kernel⟩
abbrev s_check_pair : Stmt := topS 11
abbrev Ncheck_pair : List Str := ["one", "other"]
theorem sc_check_pair : FnScope Ncheck_pair ["one", "other"] (defScope s_check_pair) := ⟨rfl, rfl, rfl, by decide +kernel, rfl, by decide +kernel, by decide +kernel⟩
abbrev s_fits : Stmt := topS 12
abbrev Nfits : List Str := ["one", "other", "entry", "most"]
theorem sc_fits : FnScope Nfits ["one", "other"] (defScope s_fits) := ⟨rfl, rfl, rfl, by decide +kernel, rfl, by decide +kernel, by decide +kernel⟩
abbrev s_summed : Stmt := topS 13
abbrev Nsummed : List Str := ["one", "other", "pair"]
theorem sc_summed : FnScope Nsummed ["one", "other"] (defScope s_summed) := ⟨rfl, rfl, rfl, by decide +kernel, rfl, by decide +kernel, by decide +kernel⟩
abbrev s_within : Stmt := topS 14
abbrev Nwithin : List Str := ["one", "other"]
theorem sc_within : FnScope Nwithin ["one", "other"] (defScope s_within) := ⟨rfl, rfl, rfl, by decide +kernel, rfl, by decide +kernel, by decide +kernel⟩
abbrev s_added : Stmt := topS 15
abbrev Nadded : List Str := ["one", "other"]
theorem sc_added : FnScope Nadded ["one", "other"] (defScope s_added) := ⟨rfl, rfl, rfl, by decide +kernel, rfl, by decide +kernel, by decide +kernel⟩
section
variable {P : Program} {w : World} {K : PySem.W.Frag} {mg : Str → Option Value} {base : Heap}
theorem ok_is_integer {f : Addr} {fd : FuncData} {k : Nat} (F : Fun K "is_integer" "is_integer" s_is_integer f fd) (m_isinstance : mg "isinstance" = none) (m_int : mg "int" = none) (m_bool : mg "bool" = none) :
    FnOk P w K mg base CX0 (k + 1) f fd ["value"] spInt := by
  refine F.ok sc_is_integer (fun vs H Q E h => ?_) (fun cdv A outer s H vs Q E hr h => ?_)
  · obtain ⟨v, rfl, _⟩ := h
    rfl
  · obtain ⟨v, rfl, hK, q⟩ := h
    refine ⟨_, (pss_one (ps_ret (pe_and (pe_callB call_isi (by rfl) m_isinstance (by decide +kernel) (pa_cons (pv 0) (pa_cons (pe_bltn (v := .ty "int") (by rfl) m_int (by decide +kernel) rfl) pa_nil))) (pe_one (pe_not (pe_callB call_isi (by rfl) m_isinstance (by decide +kernel) (pa_cons (pv 0) (pa_cons (pe_bltn (v := .ty "bool") (by rfl) m_bool (by decide +kernel) rfl) pa_nil)))))))), ?_⟩
    obtain ⟨T, hT, h1, h2⟩ := hK.ty (K := K)
    refine ⟨_, rfl, _, _, _, _, _, rfl, .ty "int", hT, kit_ty h1, _, rfl, ite2 (fun e => ?_) (fun e => ?_)⟩
    · refine ⟨_, rfl, _, _, _, _, _, rfl, .ty "bool", hT, kit_ty h2, _, rfl, ?_⟩
      rw [not_kept e]
      exact q
    · rw [none_kept e]
      exact q
theorem ok_has_entries {f fI : Addr} {fd fdI : FuncData} (F : Fun K "has_entries" "has_entries" s_has_entries f fd) (F_is_integer : Fun K "is_integer" "is_integer" s_is_integer fI fdI) (b_is_integer : Binds K fdI ["value"] []) (g_is_integer : mg "is_integer" = some (.ref fI))
    {tk : Tok} (g_MOST_PROCEDURES : mg "MOST_PROCEDURES" = some (.int 5 tk)) (m_isinstance : mg "isinstance" = none) (m_tuple : mg "tuple" = none) (m_len : mg "len" = none) (m_all : mg "all" = none) (m_int : mg "int" = none) (m_bool : mg "bool" = none) :
    FnOk P w K mg base CX0 2 f fd ["value", "low"] spEnt := by
  have G_is_integer : FnOk P w K mg base CX0 1 fI fdI ["value"] spInt := ok_is_integer F_is_integer m_isinstance m_int m_bool
  refine F.ok sc_has_entries (fun vs H Q E h => ?_) (fun cdv A outer s H vs Q E hr h => ?_)
  · obtain ⟨v, low, rfl, _⟩ := h
    rfl
  · obtain ⟨v, low, rfl, h⟩ := h
    refine ⟨_, (pss_cons (ps_if (PW.pt (pw_or (pt_not (pt_val (pe_callB call_isi (by rfl) m_isinstance (by decide +kernel) (pa_cons (pv 0) (pa_cons (pe_bltn (v := .ty "tuple") (by rfl) m_tuple (by decide +kernel) rfl) pa_nil))))) (pw_or1 (pt_not (pt_chain op_le op_le pe_int (pe_callB call_len_seq (by rfl) m_len (by decide +kernel) (pa_cons (pv 0) pa_nil)) (pe_glob (v := .int 5) rfl g_MOST_PROCEDURES ⟨_, rfl⟩))))))
        (pss_one (ps_ret pe_bl))
        pss_nil)
      (pss_one (ps_ret (pe_callB (cr_all rfl) (by rfl) m_all (by decide +kernel) (pa_cons (pe_lc (own := [("entry", 2)]) (g := (gName 2)) (tt := tYes) rfl sc_has_entries.nd (pi_tup (pv 0)) (blkOk_by (N := Nhas_entries) (sc := defScope s_has_entries) (by decide +kernel))
      (fun _ _ _ _ _ => (pg_name (i := 2) sc_has_entries.nd rfl (Or.inl rfl))) (fun _ _ _ _ _ => pts_nil) (fun _ _ _ _ _ => (pe_and (pe_call G_is_integer (hr.mono (by decide)) (by rfl) g_is_integer F_is_integer.kp b_is_integer .nil pass0 (pa_cons (pv 2) pa_nil)) (pe_one (pe_cmpR op_ge (pv 2) (pv 1) (nomark _)))))) pa_nil))))), ?_⟩
    rcases h with ⟨hN, q⟩ | ⟨p, xs, rfl, hp, hl, hK, q⟩
    · obtain ⟨T, hT, h1, _⟩ := hN.ty (K := K)
      exact ⟨_, rfl, _, _, _, _, false, rfl, .ty "tuple", hT, kit_ty h1, false, rfl, iteT (iteT (q H (Same.refl H)))⟩
    · refine ⟨_, rfl, _, _, _, _, true, rfl, .ty "tuple", .base (.tup hp), kit_ty (by decide +kernel), true, rfl, iteF ?_⟩
      refine ⟨_, rfl, p, xs, rfl, .inr (.inl (.inl hp)), 1, _, rfl, rfl, _, rfl, ite2 (fun e1 => ?_) (fun e1 => ?_)⟩
      · refine ⟨_, 5, rfl, rfl, _, rfl, ?_⟩
        have l1 : 1 ≤ xs.length := by have := of_decide_eq_true e1; omega
        by_cases e2 : ((xs.length : Nat) : Int) ≤ 5
        · have l2 : xs.length ≤ 5 := by omega
          rw [decide_eq_true e2]
          refine iteF ?_
          refine ⟨_, rfl, p, rfl, ⟨xs, .inl (.inl hp)⟩, fun D hD => lc_tup (xs := xs) (fun i H1 => Same H H1 ∧ H1 D = some (.lst ((xs.take i).map fun x => V.bl (entB low x)))) ⟨same_new (Same.refl H) hD, upd_same⟩ (fun i H1 _ hp1 => .inl (.inl (hp1.1 _ _ hp))) (fun i x H1 hx hp1 => ?_) (fun H1 hp1 => ?_)⟩
          · obtain ⟨sm, hD1⟩ := hp1
            have hi : i < xs.length := (List.getElem?_eq_some_iff.mp hx).1
            have hk : Kn H1 x := (hK x (List.mem_of_getElem? hx)).same sm
            have fin : ∀ b, b = entB low x → ∃ acc, H1 D = some (.lst acc) ∧ acc.length < sizeLine ∧ (Same H (upd H1 D (.lst (acc ++ [V.bl b]))) ∧ (upd H1 D (.lst (acc ++ [V.bl b]))) D = some (.lst ((xs.take (i + 1)).map fun x => V.bl (entB low x)))) := fun b hb => by
              refine ⟨_, hD1, ?_, same_put sm hD, ?_⟩
              · rw [List.length_map, List.length_take]
                exact small1000 (Nat.le_trans (Nat.min_le_left _ _) (by omega))
              · rw [upd_same, hb, List.take_add_one, hx, List.map_append]
                rfl
            refine ⟨rfl, x, rfl, x, rfl, hk, _, rfl, ?_⟩
            cases x with
            | int i => exact iteT ⟨_, rfl, _, rfl, i, low, rfl, rfl, fin _ rfl⟩
            | _ => exact iteF (fin _ rfl)
          · obtain ⟨sm, hD1⟩ := hp1
            refine ⟨D, xs.map (entB low), rfl, .inl (.inl ?_), ?_⟩
            · rw [hD1, List.take_of_length_le (Nat.le_refl _), List.map_map]
              rfl
            · have e3 : entOk low xs = (xs.map (entB low)).all id := by
                unfold entOk
                rw [decide_eq_true l1, decide_eq_true l2, Bool.true_and, Bool.true_and]
              rw [e3] at q
              exact q H1 sm
        · rw [decide_eq_false e2]
          refine iteT ?_
          have e3 : entOk low xs = false := by
            unfold entOk
            rw [decide_eq_false (show ¬ xs.length ≤ 5 by omega), Bool.and_false, Bool.false_and]
          rw [e3] at q
          exact q H (Same.refl H)
      · have e2 : entOk low xs = false := by
          have : ¬ (1 ≤ xs.length) := fun c => e1 (decide_eq_true (by omega))
          unfold entOk
          rw [decide_eq_false this, Bool.false_and, Bool.false_and]
        rw [e2] at q
        exact ⟨false, rfl, iteT (q H (Same.refl H))⟩
theorem ok_is_bag {f fE : Addr} {fd fdE : FuncData} (F : Fun K "is_bag" "is_bag" s_is_bag f fd) (G_has_entries : FnOk P w K mg base CX0 2 fE fdE ["value", "low"] spEnt) (F_has_entries : Fun K "has_entries" "has_entries" s_has_entries fE fdE) (b_has_entries : Binds K fdE ["value", "low"] []) (g_has_entries : mg "has_entries" = some (.ref fE))
    {tk : Tok} (g_ANY : mg "ANY" = some (.int (-1) tk)) : FnOk P w K mg base CX0 3 f fd ["value"] (spEnt1 0) := by
  refine F.ok sc_is_bag (fun vs H Q E h => ?_) (fun cdv A outer s H vs Q E hr h => ?_)
  · obtain ⟨v, rfl, _⟩ := h
    rfl
  · obtain ⟨v, rfl, h⟩ := h
    refine ⟨_, (pss_one (ps_ret (pe_call G_has_entries (hr.mono (by decide)) (by rfl) g_has_entries F_has_entries.kp b_has_entries .nil pass0 (pa_cons (pv 0) (pa_cons pe_int pa_nil))))), ?_⟩
    exact ⟨_, rfl, v, 0, rfl, h⟩
theorem ok_is_wide {f fE : Addr} {fd fdE : FuncData} (F : Fun K "is_wide" "is_wide" s_is_wide f fd) (G_has_entries : FnOk P w K mg base CX0 2 fE fdE ["value", "low"] spEnt) (F_has_entries : Fun K "has_entries" "has_entries" s_has_entries fE fdE) (b_has_entries : Binds K fdE ["value", "low"] []) (g_has_entries : mg "has_entries" = some (.ref fE))
    {tk : Tok} (g_ANY : mg "ANY" = some (.int (-1) tk)) : FnOk P w K mg base CX0 3 f fd ["value"] (spEnt1 (-1)) := by
  refine F.ok sc_is_wide (fun vs H Q E h => ?_) (fun cdv A outer s H vs Q E hr h => ?_)
  · obtain ⟨v, rfl, _⟩ := h
    rfl
  · obtain ⟨v, rfl, h⟩ := h
    refine ⟨_, (pss_one (ps_ret (pe_call G_has_entries (hr.mono (by decide)) (by rfl) g_has_entries F_has_entries.kp b_has_entries .nil pass0 (pa_cons (pv 0) (pa_cons (pe_glob (v := .int (-1)) rfl g_ANY ⟨_, rfl⟩) pa_nil))))), ?_⟩
    exact ⟨_, rfl, v, (-1), rfl, h⟩
theorem ok_check_pair {f fW : Addr} {fd fdW : FuncData} (F : Fun K "check_pair" "check_pair" s_check_pair f fd) (G_is_wide : FnOk P w K mg base CX0 3 fW fdW ["value"] (spEnt1 (-1))) (F_is_wide : Fun K "is_wide" "is_wide" s_is_wide fW fdW) (b_is_wide : Binds K fdW ["value"] []) (g_is_wide : mg "is_wide" = some (.ref fW)) (m_len : mg "len" = none) :
    FnOk P w K mg base CX0 4 f fd ["one", "other"] spPair := by
  refine F.ok sc_check_pair (fun vs H Q E h => ?_) (fun cdv A outer s H vs Q E hr h => ?_)
  · obtain ⟨ns, ms, ⟨p, q, rfl, _⟩, _⟩ := h
    rfl
  · obtain ⟨ns, ms, ⟨p, q, rfl, hp, hq, wn, wm, hl⟩, kq⟩ := h
    refine ⟨_, (pss_cons (ps_if (PW.pt (pw_or (pt_not (pt_val (pe_call G_is_wide (hr.mono (by decide)) (by rfl) g_is_wide F_is_wide.kp b_is_wide .nil pass0 (pa_cons (pv 0) pa_nil)))) (pw_or1 (pt_not (pt_val (pe_call G_is_wide (hr.mono (by decide)) (by rfl) g_is_wide F_is_wide.kp b_is_wide .nil pass0 (pa_cons (pv 1) pa_nil)))))))
        (pss_one ps_never)
        pss_nil)
      (pss_one (ps_if (pt_cmpR op_ne (pe_callB call_len_seq (by rfl) m_len (by decide +kernel) (pa_cons (pv 0) pa_nil)) (pe_callB call_len_seq (by rfl) m_len (by decide +kernel) (pa_cons (pv 1) pa_nil)) (nomark _))
        (pss_one ps_never)
        pss_nil))), ?_⟩
    refine ⟨_, rfl, _, rfl, .inr ⟨p, _, rfl, hp, wn.len, ints_kn, fun H1 s1 => ⟨_, rfl, ?_⟩⟩⟩
    rw [wn.ok]
    refine iteF ⟨_, rfl, _, rfl, .inr ⟨q, _, rfl, s1 _ _ hq, wm.len, ints_kn, fun H2 s2 => ⟨_, rfl, ?_⟩⟩⟩
    rw [wm.ok]
    refine iteF ⟨_, rfl, p, _, rfl, .inr (.inl (.inl (s2 _ _ (s1 _ _ hp)))), _, rfl, q, _, rfl, .inr (.inl (.inl (s2 _ _ (s1 _ _ hq)))), rfl, _, rfl, ?_⟩
    have e : decide (V.int (((ns.map V.int).length : Nat) : Int) = V.int (((ms.map V.int).length : Nat) : Int)) = true := decide_eq_true (by rw [List.length_map, List.length_map, hl])
    rw [e]
    exact iteF (kq H2 (s1.trans s2))
theorem ok_fits {f : Addr} {fd : FuncData} {k : Nat} (F : Fun K "fits" "fits" s_fits f fd) {tk : Tok} (g_ANY : mg "ANY" = some (.int (-1) tk)) (m_all : mg "all" = none) (m_zip : mg "zip" = none) :
    FnOk P w K mg base CX0 (k + 1) f fd ["one", "other"] spFits := by
  refine F.ok sc_fits (fun vs H Q E h => ?_) (fun cdv A outer s H vs Q E hr h => ?_)
  · obtain ⟨ns, ms, ⟨p, q, rfl, _⟩, _⟩ := h
    rfl
  · obtain ⟨ns, ms, ⟨p, q, rfl, hp, hq, wn, wm, hl⟩, kq⟩ := h
    refine ⟨_, (pss_one (ps_ret (pe_callB (cr_all rfl) (by rfl) m_all (by decide +kernel) (pa_cons (pe_lc (own := [("entry", 2), ("most", 3)]) (g := (gTup K 2 (gCons (gName 2) (gCons (gName 3) gNil)))) (tt := tYes) rfl sc_fits.nd (pi_zipA (by rfl) m_zip (pa_cons (pv 0) (pa_cons (pv 1) pa_nil))) (blkOk_by (N := Nfits) (sc := defScope s_fits) (by decide +kernel))
      (fun _ _ _ _ _ => (pg_tup rfl (pgs_cons (pg_name (i := 2) sc_fits.nd rfl (Or.inl rfl)) (pgs_cons (pg_name (i := 3) sc_fits.nd rfl (Or.inl rfl)) pgs_nil)))) (fun _ _ _ _ _ => pts_nil) (fun _ _ _ _ _ => (pe_or (pe_cmpR op_eq (pv 3) (pe_glob (v := .int (-1)) rfl g_ANY ⟨_, rfl⟩) (nomark _)) (pe_one (pe_chain op_le op_le pe_int (pv 2) (pv 3)))))) pa_nil)))), ?_⟩
    refine ⟨_, rfl, _, rfl, p, q, ns.map V.int, ms.map V.int, rfl, .inr ⟨.inl (.inl hp), .inl (.inl hq), fun D hD => ?_⟩⟩
    refine lc_it (walk_zipT (n := (ns.zip ms).length) (xs := ns.map V.int) (ys := ms.map V.int) (by rw [List.length_zip, List.length_map, List.length_map])) (fun i H1 => Same H H1 ∧ H1 D = some (.lst (((ns.zip ms).take i).map fun p => V.bl (fitE p.1 p.2)))) ⟨same_new (Same.refl H) hD, upd_same⟩
      (fun i H1 _ hp1 => ⟨.inl (.inl (hp1.1 _ _ hp)), .inl (.inl (hp1.1 _ _ hq))⟩) (fun i v H1 H2 hi hp1 hy => ?_) (fun H1 hp1 => ?_)
    · obtain ⟨sm, hD1⟩ := hp1
      obtain ⟨T, x, y, rfl, nT, rfl, hx, hy⟩ := hy
      have hz : (ns.zip ms)[i]? = some (ns.zip ms)[i] := List.getElem?_eq_getElem hi
      generalize ez : (ns.zip ms)[i] = em at hz
      obtain ⟨e, m⟩ := em
      obtain ⟨z1, z2⟩ := List.getElem?_zip_eq_some.mp hz
      have hx : (ns.map V.int)[i]? = some x := hx
      have hy : (ms.map V.int)[i]? = some y := hy
      rw [List.getElem?_map, z1] at hx
      rw [List.getElem?_map, z2] at hy
      cases hx
      cases hy
      have hi5 : i < 5 := by
        rw [List.length_zip] at hi
        have := wn.2.1
        omega
      have hD2 : (upd H1 T (.tup [.int e, .int m])) D = some (.lst (((ns.zip ms).take i).map fun p => V.bl (fitE p.1 p.2))) := upd_keep hD1 nT
      have s2 : Same H (upd H1 T (.tup [.int e, .int m])) := same_new sm nT
      have fin : ∀ b, b = fitE e m → ∃ acc, (upd H1 T (.tup [.int e, .int m])) D = some (.lst acc) ∧ acc.length < sizeLine ∧ (Same H (upd (upd H1 T (.tup [.int e, .int m])) D (.lst (acc ++ [V.bl b]))) ∧ (upd (upd H1 T (.tup [.int e, .int m])) D (.lst (acc ++ [V.bl b]))) D = some (.lst (((ns.zip ms).take (i + 1)).map fun p => V.bl (fitE p.1 p.2)))) := fun b hb => by
        refine ⟨_, hD2, ?_, same_put s2 hD, ?_⟩
        · rw [List.length_map, List.length_take]
          exact small1000 (Nat.le_trans (Nat.min_le_left _ _) (by omega))
        · rw [upd_same, hb, List.take_add_one, hz, List.map_append]
          rfl
      refine ⟨T, _, rfl, .inl (.inl upd_same), rfl, .int e, [.int m], rfl, .int m, [], rfl, rfl, rfl, ?_⟩
      refine ⟨.int m, rfl, rfl, _, rfl, ite2 (fun e1 => fin _ ?_) (fun e1 => ⟨_, rfl, 0, e, rfl, rfl, _, rfl, ite2 (fun e2 => ⟨_, rfl, e, m, rfl, rfl, fin _ ?_⟩) (fun e2 => fin _ ?_)⟩)⟩
      · have h1 : m = -1 := V.int.inj (of_decide_eq_true e1)
        show true = (decide (m = -1) || _)
        rw [decide_eq_true h1, Bool.true_or]
      · have h1 : ¬ m = -1 := fun c => e1 (decide_eq_true (by rw [c]))
        have h2 : 0 ≤ e := of_decide_eq_true e2
        show decide (e ≤ m) = (decide (m = -1) || (decide (0 ≤ e) && decide (e ≤ m)))
        rw [decide_eq_false h1, decide_eq_true h2, Bool.false_or, Bool.true_and]
      · have h1 : ¬ m = -1 := fun c => e1 (decide_eq_true (by rw [c]))
        have h2 : ¬ 0 ≤ e := fun c => e2 (decide_eq_true c)
        show false = (decide (m = -1) || (decide (0 ≤ e) && decide (e ≤ m)))
        rw [decide_eq_false h1, decide_eq_false h2, Bool.false_or, Bool.false_and]
    · obtain ⟨sm, hD1⟩ := hp1
      refine ⟨D, (ns.zip ms).map fun e : Int × Int => fitE e.1 e.2, rfl, .inl (.inl ?_), kq H1 sm⟩
      rw [hD1, List.take_of_length_le (Nat.le_refl _), List.map_map]
      rfl
theorem ok_within {f fC fF : Addr} {fd fdC fdF : FuncData} (F : Fun K "within" "within" s_within f fd) (G_check_pair : FnOk P w K mg base CX0 4 fC fdC ["one", "other"] spPair) (F_check_pair : Fun K "check_pair" "check_pair" s_check_pair fC fdC) (b_check_pair : Binds K fdC ["one", "other"] []) (g_check_pair : mg "check_pair" = some (.ref fC))
    (G_fits : FnOk P w K mg base CX0 1 fF fdF ["one", "other"] spFits) (F_fits : Fun K "fits" "fits" s_fits fF fdF) (b_fits : Binds K fdF ["one", "other"] []) (g_fits : mg "fits" = some (.ref fF)) :
    FnOk P w K mg base CX0 5 f fd ["one", "other"] spFits := by
  refine F.ok sc_within (fun vs H Q E h => ?_) (fun cdv A outer s H vs Q E hr h => ?_)
  · obtain ⟨ns, ms, ⟨p, q, rfl, _⟩, _⟩ := h
    rfl
  · obtain ⟨ns, ms, ⟨p, q, rfl, hp, hq, wn, wm, hl⟩, kq⟩ := h
    refine ⟨_, (pss_cons (ps_expr (pe_call G_check_pair (hr.mono (by decide)) (by rfl) g_check_pair F_check_pair.kp b_check_pair .nil pass0 (pa_cons (pv 0) (pa_cons (pv 1) pa_nil))))
      (pss_one (ps_ret (pe_call G_fits (hr.mono (by decide)) (by rfl) g_fits F_fits.kp b_fits .nil pass0 (pa_cons (pv 0) (pa_cons (pv 1) pa_nil)))))), ?_⟩
    exact ⟨_, rfl, _, rfl, ns, ms, ⟨p, q, rfl, hp, hq, wn, wm, hl⟩, fun H1 s1 => ⟨_, rfl, _, rfl, ns, ms, ⟨p, q, rfl, s1 _ _ hp, s1 _ _ hq, wn, wm, hl⟩, fun H2 s2 => kq H2 (s1.trans s2)⟩⟩
theorem ok_summed {f : Addr} {fd : FuncData} {k : Nat} (F : Fun K "summed" "summed" s_summed f fd)
    {tk : Tok} (g_ANY : mg "ANY" = some (.int (-1) tk)) (m_zip : mg "zip" = none) (m_tuple : mg "tuple" = none) (m_sum : mg "sum" = none) :
    FnOk P w K mg base CX0 (k + 1) f fd ["one", "other"] spAdded := by
  refine F.ok sc_summed (fun vs H0 Q E h => ?_) (fun cdv A outer s H0 vs Q E hr h => ?_)
  · obtain ⟨ns, ms, ⟨p, q, rfl, _⟩, _⟩ := h
    rfl
  · obtain ⟨ns, ms, ⟨p, q, rfl, hp, hq, wn, wm, hl⟩, kq⟩ := h
    have s0 : Same H0 H0 := Same.refl H0
    refine ⟨_, (pss_one (ps_ret (pe_callTy call_tuple_of (by rfl) m_tuple (by decide +kernel) (pa_cons (pe_lc (own := [("pair", 2)]) (g := (gName 2)) (tt := tYes) rfl sc_summed.nd (ZN.pi_zipTN (by rfl) m_zip (pa_cons (pv 0) (pa_cons (pv 1) pa_nil))) (blkOk_by (N := Nsummed) (sc := defScope s_summed) (by decide +kernel))
      (fun _ _ _ _ _ => (pg_name (i := 2) sc_summed.nd rfl (Or.inl rfl))) (fun _ _ _ _ _ => pts_nil) (fun _ _ _ _ _ => (pe_ifExp (pt_cmpR (r := rIn K false) op_in_seq (pe_glob (v := .int (-1)) rfl g_ANY ⟨_, rfl⟩) (pv 2) (by with_unfolding_all rfl)) (pe_glob (v := .int (-1)) rfl g_ANY ⟨_, rfl⟩) (pe_callB (id := "sum") (r := rSumT K) (cr_sumT rfl) (by rfl) m_sum (by decide +kernel) (pa_cons (pv 2) pa_nil))))) pa_nil)))), ?_⟩
    refine ⟨_, rfl, _, rfl, p, q, ns.map V.int, ms.map V.int, rfl, .inl (.inl (s0 _ _ hp)), .inl (.inl (s0 _ _ hq)), fun D hD => ?_⟩
    refine lc_it (walk_zipT (n := (ns.zip ms).length) (xs := ns.map V.int) (ys := ms.map V.int) (by rw [List.length_zip, List.length_map, List.length_map])) (fun i H1 => Same H0 H1 ∧ H1 D = some (.lst (((ns.zip ms).take i).map fun p => V.int (addE p.1 p.2)))) ⟨same_new (Same.refl H0) hD, upd_same⟩
      (fun i H1 _ hp1 => ⟨.inl (.inl (hp1.1 _ _ (s0 _ _ hp))), .inl (.inl (hp1.1 _ _ (s0 _ _ hq)))⟩) (fun i v H1 H2 hi hp1 hy => ?_) (fun H1 hp1 => ?_)
    · obtain ⟨sm, hD1⟩ := hp1
      obtain ⟨T, x, y, rfl, nT, rfl, hx, hy⟩ := hy
      have hz : (ns.zip ms)[i]? = some (ns.zip ms)[i] := List.getElem?_eq_getElem hi
      generalize ez : (ns.zip ms)[i] = em at hz
      obtain ⟨e, m⟩ := em
      obtain ⟨z1, z2⟩ := List.getElem?_zip_eq_some.mp hz
      have hx : (ns.map V.int)[i]? = some x := hx
      have hy : (ms.map V.int)[i]? = some y := hy
      rw [List.getElem?_map, z1] at hx
      rw [List.getElem?_map, z2] at hy
      cases hx
      cases hy
      have hi5 : i < 5 := by
        rw [List.length_zip] at hi
        have := wn.2.1
        omega
      have hD2 : (upd H1 T (.tup [.int e, .int m])) D = some (.lst (((ns.zip ms).take i).map fun p => V.int (addE p.1 p.2))) := upd_keep hD1 nT
      have s2 : Same H0 (upd H1 T (.tup [.int e, .int m])) := same_new sm nT
      have fin : ∀ b, b = addE e m → ∃ acc, (upd H1 T (.tup [.int e, .int m])) D = some (.lst acc) ∧ acc.length < sizeLine ∧ (Same H0 (upd (upd H1 T (.tup [.int e, .int m])) D (.lst (acc ++ [V.int b]))) ∧ (upd (upd H1 T (.tup [.int e, .int m])) D (.lst (acc ++ [V.int b]))) D = some (.lst (((ns.zip ms).take (i + 1)).map fun p => V.int (addE p.1 p.2)))) := fun b hb => by
        refine ⟨_, hD2, ?_, same_put s2 hD, ?_⟩
        · rw [List.length_map, List.length_take]
          exact small1000 (Nat.le_trans (Nat.min_le_left _ _) (by omega))
        · rw [upd_same, hb, List.take_add_one, hz, List.map_append]
          rfl
      refine ⟨rfl, .ref T, rfl, T, _, rfl, .inr (.inl (.inl upd_same)), rfl, rfl, _, rfl, ite2 (fun e1 => fin _ ?_) (fun e1 => ⟨.ref T, rfl, T, [e, m], rfl, .inl (.inl upd_same), fin _ ?_⟩)⟩
      · have h1 : e = -1 ∨ m = -1 := by
          have := (show (eqV (.int e) (.int (-1)) || (eqV (.int m) (.int (-1)) || false)) = true from e1)
          rw [Bool.or_false, Bool.or_eq_true] at this
          exact this.imp eq_of_beq eq_of_beq
        unfold addE
        rw [if_pos h1]
      · have h1 : ¬ (e = -1 ∨ m = -1) := fun c => e1 (by
          show (eqV (.int e) (.int (-1)) || (eqV (.int m) (.int (-1)) || false)) = true
          rw [Bool.or_false, Bool.or_eq_true]
          rcases c with rfl | rfl
          · exact .inl (by decide)
          · exact .inr (by decide))
        unfold addE
        rw [if_neg h1]
        show e + (m + 0) = e + m
        omega
    · obtain ⟨sm, hD1⟩ := hp1
      refine ⟨D, (ns.zip ms).map fun e : Int × Int => V.int (addE e.1 e.2), rfl, .inl ⟨.inl (.inl ?_), fun R hR => ?_⟩⟩
      · rw [hD1, List.take_of_length_le (Nat.le_refl _)]
      · refine kq R _ (s0.trans (same_new sm hR)) ?_
        rw [upd_same]
        show some (HO.tup _) = some (HO.tup _)
        unfold addB
        rw [List.map_map]
        rfl
theorem ok_added {f fC fS : Addr} {fd fdC fdS : FuncData} (F : Fun K "added" "added" s_added f fd) (G_check_pair : FnOk P w K mg base CX0 4 fC fdC ["one", "other"] spPair) (F_check_pair : Fun K "check_pair" "check_pair" s_check_pair fC fdC) (b_check_pair : Binds K fdC ["one", "other"] []) (g_check_pair : mg "check_pair" = some (.ref fC))
    (G_summed : FnOk P w K mg base CX0 1 fS fdS ["one", "other"] spAdded) (F_summed : Fun K "summed" "summed" s_summed fS fdS) (b_summed : Binds K fdS ["one", "other"] []) (g_summed : mg "summed" = some (.ref fS)) :
    FnOk P w K mg base CX0 5 f fd ["one", "other"] spAdded := by
  refine F.ok sc_added (fun vs H Q E h => ?_) (fun cdv A outer s H vs Q E hr h => ?_)
  · obtain ⟨ns, ms, ⟨p, q, rfl, _⟩, _⟩ := h
    rfl
  · obtain ⟨ns, ms, ⟨p, q, rfl, hp, hq, wn, wm, hl⟩, kq⟩ := h
    refine ⟨_, (pss_cons (ps_expr (pe_call G_check_pair (hr.mono (by decide)) (by rfl) g_check_pair F_check_pair.kp b_check_pair .nil pass0 (pa_cons (pv 0) (pa_cons (pv 1) pa_nil))))
      (pss_one (ps_ret (pe_call G_summed (hr.mono (by decide)) (by rfl) g_summed F_summed.kp b_summed .nil pass0 (pa_cons (pv 0) (pa_cons (pv 1) pa_nil)))))), ?_⟩
    exact ⟨_, rfl, _, rfl, ns, ms, ⟨p, q, rfl, hp, hq, wn, wm, hl⟩, fun H1 s1 => ⟨_, rfl, _, rfl, ns, ms, ⟨p, q, rfl, s1 _ _ hp, s1 _ _ hq, wn, wm, hl⟩, fun r H2 s2 g => kq r H2 (s1.trans s2) g⟩⟩
end
end My

/-! the law's own looks at bags: what they promise -/
namespace Sh
open PySem PySem.Spec PyProof.Rows L2 RZ
theorem NoTup.die {H H' : Hp} {d : Addr} {v : V} (hd : DieAt H d) (n : NewDie H d H') (h : NoTup H v) : NoTup H' v := by
  rcases h with h | h | h | h | ⟨p, xs, e, h⟩ | ⟨p, xs, e, h⟩
  · exact .inl h
  · exact .inr (.inl h)
  · exact .inr (.inr (.inl h))
  · exact .inr (.inr (.inr (.inl h)))
  · by_cases hp : p = d
    · obtain ⟨a, b, c, rfl⟩ := n
      subst hp
      exact .inr (.inr (.inr (.inr (.inl ⟨_, _, e, upd_same⟩))))
    · exact .inr (.inr (.inr (.inr (.inl ⟨p, xs, e, (n.ne hp).trans h⟩))))
  · have hp : p ≠ d := hd.ne h fun _ _ _ z => by cases z
    exact .inr (.inr (.inr (.inr (.inr ⟨p, xs, e, (n.ne hp).trans h⟩))))
theorem NewDie.tup {H H' : Hp} {d p : Addr} {xs : List V} (hd : DieAt H d) (n : NewDie H d H') (h : H p = some (.tup xs)) : H' p = some (.tup xs) := (n.ne (hd.ne h fun _ _ _ z => by cases z)).trans h
theorem But.tup {H H' : Hp} {d p : Addr} {xs : List V} (hd : DieAt H d) (b : But d H H') (h : H p = some (.tup xs)) : H' p = some (.tup xs) := b _ _ (hd.ne h fun _ _ _ z => by cases z) h
theorem Kn.die {H H' : Hp} {d : Addr} {v : V} (hd : DieAt H d) (n : NewDie H d H') (h : Kn H v) : Kn H' v := by
  rcases h with h | ⟨p, xs, e, h⟩
  · exact .inl (h.die hd n)
  · exact .inr ⟨p, xs, e, n.tup hd h⟩
theorem Val.die {H H' : Hp} {d : Addr} {v : V} (hd : DieAt H d) (n : NewDie H d H') (h : Val H v) : Val H' v := by
  rcases h with h | ⟨p, xs, e, h, l, k⟩
  · exact .inl (h.die hd n)
  · exact .inr ⟨p, xs, e, n.tup hd h, l, fun x hx => (k x hx).die hd n⟩
/-- a list changed in place -/
theorem NoTup.upl {H : Hp} {S : Addr} {ys zs : List V} {v : V} (hs : H S = some (.lst ys)) (h : NoTup H v) : NoTup (upd H S (.lst zs)) v := by
  rcases h with h | h | h | h | ⟨p, xs, e, h⟩ | ⟨p, xs, e, h⟩
  · exact .inl h
  · exact .inr (.inl h)
  · exact .inr (.inr (.inl h))
  · exact .inr (.inr (.inr (.inl h)))
  · by_cases hp : p = S
    · subst hp
      exact .inr (.inr (.inr (.inr (.inl ⟨_, _, e, upd_same⟩))))
    · exact .inr (.inr (.inr (.inr (.inl ⟨p, xs, e, (upd_ne hp).trans h⟩))))
  · exact .inr (.inr (.inr (.inr (.inr ⟨p, xs, e, (upd_ne (ne_of h hs fun z => by cases z)).trans h⟩))))
theorem Kn.upl {H : Hp} {S : Addr} {ys zs : List V} {v : V} (hs : H S = some (.lst ys)) (h : Kn H v) : Kn (upd H S (.lst zs)) v := by
  rcases h with h | ⟨p, xs, e, h⟩
  · exact .inl (h.upl hs)
  · exact .inr ⟨p, xs, e, (upd_ne (ne_of h hs fun z => by cases z)).trans h⟩
theorem Val.upl {H : Hp} {S : Addr} {ys zs : List V} {v : V} (hs : H S = some (.lst ys)) (h : Val H v) : Val (upd H S (.lst zs)) v := by
  rcases h with h | ⟨p, xs, e, h, l, k⟩
  · exact .inl (h.upl hs)
  · exact .inr ⟨p, xs, e, (upd_ne (ne_of h hs fun z => by cases z)).trans h, l, fun x hx => (k x hx).upl hs⟩
theorem tup_upl {H : Hp} {S p : Addr} {ys zs xs : List V} (hs : H S = some (.lst ys)) (h : H p = some (.tup xs)) : upd H S (.lst zs) p = some (.tup xs) := (upd_ne (ne_of h hs fun z => by cases z)).trans h
theorem NoTup.but {H H' : Hp} {d : Addr} {v : V} (hd : DieAt H d) (b : But d H H') (h' : DieAt H' d) (h : NoTup H v) : NoTup H' v := by
  rcases h with h | h | h | h | ⟨p, xs, e, h⟩ | ⟨p, xs, e, h⟩
  · exact .inl h
  · exact .inr (.inl h)
  · exact .inr (.inr (.inl h))
  · exact .inr (.inr (.inr (.inl h)))
  · by_cases hp : p = d
    · obtain ⟨x, y, z, hz⟩ := h'
      subst hp
      exact .inr (.inr (.inr (.inr (.inl ⟨_, _, e, hz⟩))))
    · exact .inr (.inr (.inr (.inr (.inl ⟨p, xs, e, b _ _ hp h⟩))))
  · have hp : p ≠ d := hd.ne h fun _ _ _ z => by cases z
    exact .inr (.inr (.inr (.inr (.inr ⟨p, xs, e, b _ _ hp h⟩))))
theorem Val.but {H H' : Hp} {d : Addr} {v : V} (h : Val H v) (hd : DieAt H d) (b : But d H H') (h' : DieAt H' d) : Val H' v := by
  rcases h with h | ⟨p, xs, e, h, l, k⟩
  · exact .inl (h.but hd b h')
  · refine .inr ⟨p, xs, e, But.tup hd b h, l, fun x hx => ?_⟩
    rcases k x hx with c | ⟨q, ys, e, c⟩
    · exact .inl (c.but hd b h')
    · exact .inr ⟨q, ys, e, But.tup hd b c⟩
theorem val_tup {H : Hp} {p : Addr} {xs : List V} (h : H p = some (.tup xs)) (l : xs.length ≤ 1000) (k : ∀ x ∈ xs, Kn H x) : Val H (.ref p) := .inr ⟨p, xs, rfl, h, l, k⟩
theorem val_lst {H : Hp} {p : Addr} {xs : List V} (h : H p = some (.lst xs)) : Val H (.ref p) := .inl (.inr (.inr (.inr (.inr (.inl ⟨p, xs, rfl, h⟩)))))
theorem cutV_sub {xs : List V} {lo hi : Option Int} {x : V} (h : x ∈ cutV xs lo hi) : x ∈ xs := List.mem_of_mem_drop (List.mem_of_mem_take h)
/-- a tuple bent -/
def spBent : Sp := fun vs H Q _ => ∃ d p odd, ∃ ns : List Int, vs = [.ref d, .ref p, odd] ∧ DieAt H d ∧ H p = some (.tup (ns.map V.int)) ∧ ns ≠ [] ∧ ns.length ≤ 100 ∧ Val H odd ∧
  ∀ v H', Val H' v → But d H H' → DieAt H' d → Q v H'
/-- the law's own look at a bag -/
def spBagOf : Sp := fun vs H Q _ => ∃ v, ∃ n : Nat, ∃ low : Int, vs = [v, .int n, .int low] ∧
  ((NoTup H v ∧ ∀ H', Same H H' → Q (.bl false) H') ∨ ∃ p xs, v = .ref p ∧ H p = some (.tup xs) ∧ xs.length ≤ 1000 ∧ (∀ x ∈ xs, Kn H x) ∧ ∀ H', Same H H' → Q (.bl (decide (xs.length = n) && (xs.map (entB low)).all id)) H')
/-- a drawn wide bag -/
def Drawn (ns : List Int) : Prop := ∀ e ∈ ns, -1 ≤ e ∧ e ≤ 10 ^ 38
def spAnyWide : Sp := fun vs H Q _ => ∃ d, ∃ n : Nat, vs = [.ref d, .int n] ∧ DieAt H d ∧ n ≤ 5 ∧
  ∀ p H', ∀ ns : List Int, ns.length = n → Drawn ns → H' p = some (.tup (ns.map V.int)) → But d H H' → DieAt H' d → Q (.ref p) H'
/-- the law's own order of wide bags -/
def spWider : Sp := fun vs H Q _ => ∃ p q, ∃ ns ms : List Int, vs = [.ref p, .ref q] ∧ H p = some (.tup (ns.map V.int)) ∧ H q = some (.tup (ms.map V.int)) ∧ ns.length = ms.length ∧ ns.length ≤ 100 ∧ (∀ n ∈ ns, -1 ≤ n) ∧ Q (.bl (fitsB ns ms)) H
theorem entB_wrong {low : Int} {xs : List V} : (xs.filter fun x => !entB low x).isEmpty = (xs.map (entB low)).all id := by
  induction xs with
  | nil => rfl
  | cons c r ih =>
    rw [List.map_cons, List.all_cons, List.filter_cons]
    cases e : entB low c with
    | true => rw [if_neg (by decide)]; simpa using ih
    | false => rw [if_pos (by decide)]; rfl
theorem fits_at {ns ms : List Int} : fitsB ns ms = true ↔ ∀ (i : Nat) e m, ns[i]? = some e → ms[i]? = some m → fitE e m = true := by
  unfold fitsB
  rw [List.all_eq_true]
  constructor
  · intro h i e m h1 h2
    have hz : (ns.zip ms)[i]? = some (e, m) := List.getElem?_zip_eq_some.mpr ⟨h1, h2⟩
    exact h (fitE e m) (List.mem_map.mpr ⟨(e, m), List.mem_of_getElem? hz, rfl⟩)
  · intro h b hb
    obtain ⟨⟨e, m⟩, hp, rfl⟩ := List.mem_map.mp hb
    obtain ⟨i, hi⟩ := List.mem_iff_getElem?.mp hp
    obtain ⟨h1, h2⟩ := List.getElem?_zip_eq_some.mp hi
    exact h i e m h1 h2
theorem fitE_iff {e m : Int} : fitE e m = true ↔ m = -1 ∨ (0 ≤ e ∧ e ≤ m) := by
  unfold fitE
  rw [Bool.or_eq_true, Bool.and_eq_true, decide_eq_true_iff, decide_eq_true_iff, decide_eq_true_iff]
theorem cut_to (xs : List V) {k : Nat} (h : k ≤ xs.length) : cutV xs none (some (k : Int)) = xs.take k := by
  unfold cutV
  rw [HT.sIx_none, HT.sIx_nat, Nat.min_eq_left h, Nat.sub_zero, List.drop_zero]
theorem cut_from (xs : List V) {k : Nat} (h : k ≤ xs.length) : cutV xs (some (k : Int)) none = xs.drop k := by
  unfold cutV
  rw [HT.sIx_none, HT.sIx_nat, Nat.min_eq_left h]
  exact List.take_of_length_le (by rw [List.length_drop]; omega)
/-- the great bag within -/
def topE (e : Int) : Int := if e = -1 then 10 ^ (39 : Int).toNat else e
def topOf (ns : List Int) : List Int := ns.map topE
def BagIn (b ns : List Int) : Prop := b.length = ns.length ∧ (∀ e ∈ b, 0 ≤ e) ∧ fitsB b ns = true
theorem topE_nn {e : Int} (h : -1 ≤ e) : 0 ≤ topE e := by
  unfold topE
  split
  · decide +kernel
  · omega
theorem top_fit {e : Int} (h : -1 ≤ e) : fitE (topE e) e = true := by
  refine fitE_iff.mpr ?_
  by_cases c : e = -1
  · exact .inl c
  · refine .inr ⟨topE_nn h, ?_⟩
    unfold topE
    rw [if_neg c]
    exact Int.le_refl _
theorem set_glue (xs : List Int) {k : Nat} (m : Int) (h : k < xs.length) : (xs.take k).map V.int ++ [V.int m] ++ (xs.drop (k + 1)).map V.int = (xs.set k m).map V.int := by
  rw [List.set_eq_take_append_cons_drop, if_pos h, List.map_append, List.map_cons, List.append_assoc]
  rfl
theorem bag_set {ns : List Int} (hn : ∀ n ∈ ns, -1 ≤ n) {k : Nat} {w m : Int} (hw : ns[k]? = some w) (hm : 0 ≤ m) (hf : w = -1 ∨ m ≤ w) : BagIn ((topOf ns).set k m) ns := by
  refine ⟨by rw [List.length_set]; exact List.length_map _, fun e he => ?_, fits_at.mpr fun i e w' h1 h2 => ?_⟩
  · rcases List.mem_or_eq_of_mem_set he with he | rfl
    · obtain ⟨n, hn', rfl⟩ := List.mem_map.mp he
      exact topE_nn (hn n hn')
    · exact hm
  · rw [List.getElem?_set] at h1
    by_cases c : k = i
    · subst c
      rw [if_pos rfl] at h1
      split at h1
      · cases h1
        rw [hw] at h2
        cases h2
        rcases hf with hf | hf
        · exact fitE_iff.mpr (.inl hf)
        · exact fitE_iff.mpr (.inr ⟨hm, hf⟩)
      · cases h1
    · rw [if_neg c] at h1
      have h3 : (topOf ns)[i]? = some (topE w') := by
        unfold topOf
        rw [List.getElem?_map, h2]
        rfl
      rw [h3] at h1
      cases h1
      exact top_fit (hn w' (List.mem_of_getElem? h2))
theorem top_set {ns : List Int} {k : Nat} {w : Int} (hw : ns[k]? = some w) : (topOf ns).set k (topE w) = topOf ns := by
  refine List.ext_getElem? fun i => ?_
  rw [List.getElem?_set]
  by_cases c : k = i
  · subst c
    have h3 : (topOf ns)[k]? = some (topE w) := by
      unfold topOf
      rw [List.getElem?_map, hw]
      rfl
    rw [if_pos rfl, h3, if_pos (List.getElem?_eq_some_iff.mp h3).1]
  · rw [if_neg c]
/-- what is known of the bags that were found -/
def Found (H : Hp) (F0 : Addr) (ns : List Int) (L : List (Addr × List Int)) : Prop := H F0 = some (.lst (L.map fun x => V.ref x.1)) ∧ ∀ x ∈ L, H x.1 = some (.tup (x.2.map V.int)) ∧ BagIn x.2 ns
theorem Found.same {H H' : Hp} {F0 : Addr} {ns : List Int} {L : List (Addr × List Int)} (h : Found H F0 ns L) (s : Same H H') : Found H' F0 ns L := ⟨s _ _ h.1, fun x hx => ⟨s _ _ (h.2 x hx).1, (h.2 x hx).2⟩⟩
def spBagsIn : Sp := fun vs H Q _ => ∃ p, ∃ ns : List Int, ∃ entry : Int, vs = [.ref p, .int entry] ∧ H p = some (.tup (ns.map V.int)) ∧ Wide ns ∧ 0 ≤ entry ∧
  ∀ l L H', Found H' l ns L → (∃ x ∈ L, x.2 = topOf ns) → L.length ≤ 20 → Same H H' → Q (.ref l) H'
end Sh

namespace My
open PySem PySem.Spec PyProof.Rows L2 RZ Sh
abbrev s_law_bent_tuple : Stmt := topS 20
abbrev Nlaw_bent_tuple : List Str := ["die", "items", "odd", "at", "some"]
theorem sc_law_bent_tuple : FnScope Nlaw_bent_tuple ["die", "items", "odd"] (defScope s_law_bent_tuple) := ⟨rfl, rfl, rfl, by decide +kernel, rfl, by decide +kernel, by decide +kernel⟩
section
variable {P : Program} {w : World} {K : PySem.W.Frag} {mg : Str → Option Value} {base : Heap}
theorem ok_bent_tuple {f fC fP : Addr} {fd fdC fdP : FuncData} (F : Fun K "_law_bent_tuple" "_law_bent_tuple" s_law_bent_tuple f fd)
    (G__law_cast : FnOk P w K mg base CX0 1 fC fdC ["die", "total"] spCast) (F__law_cast : Fun K "_law_cast" "_law_cast" s_law_cast fC fdC) (b__law_cast : Binds K fdC ["die", "total"] []) (g__law_cast : mg "_law_cast" = some (.ref fC))
    (G__law_pick : FnOk P w K mg base CX0 2 fP fdP ["die", "items"] (spPick K)) (F__law_pick : Fun K "_law_pick" "_law_pick" s_law_pick fP fdP) (b__law_pick : Binds K fdP ["die", "items"] []) (g__law_pick : mg "_law_pick" = some (.ref fP))
    (m_len : mg "len" = none) (m_list : mg "list" = none) : FnOk P w K mg base CX0 3 f fd ["die", "items", "odd"] spBent := by
  refine F.ok sc_law_bent_tuple (fun vs H Q E h => ?_) (fun cdv A outer s H vs Q E hr h => ?_)
  · obtain ⟨d, p, odd, ns, rfl, _⟩ := h
    rfl
  · obtain ⟨d, p, odd, ns, rfl, hD, hp, n0, nl, hO, q⟩ := h
    refine ⟨_, (pss_cons (ps_set (i := 3) sc_law_bent_tuple.nd rfl (by first | exact Or.inl rfl | exact Or.inr rfl) (pe_ifExp (pt_cmpR (op_neTI hr.units) (pv 1) (pe_tup pa_nil) (nomark _)) (pe_call G__law_cast (hr.mono (by decide)) (by rfl) g__law_cast F__law_cast.kp b__law_cast .nil pass0 (pa_cons (pv 0) (pa_cons (pe_callB call_len_seq (by rfl) m_len (by decide +kernel) (pa_cons (pv 1) pa_nil)) pa_nil))) pe_int))
      (pss_cons (ps_set (i := 4) sc_law_bent_tuple.nd rfl (by first | exact Or.inl rfl | exact Or.inr rfl) (pe_lst (pa_cons (pe_op op_catW (pe_op op_catW (pe_slice sl_tupW (pv 1) po_none (po_some (pv 3))) (pe_tup (pa_cons (pv 2) pa_nil))) (pe_slice sl_tupW (pv 1) (po_some (pe_op op_add (pv 3) pe_int)) po_none)) pa_nil)))
      (pss_cons (ps_expr (pe_bm PySem.F.plainAttrs_list PySem.F.slot_list_append PySem.F.type_list_append mt_append (pv 4) (pa_cons (pe_op op_catW (pe_slice sl_tupW (pv 1) po_none (po_some (pv 3))) (pe_slice sl_tupW (pv 1) (po_some (pe_op op_add (pv 3) pe_int)) po_none)) pa_nil)))
      (pss_cons (ps_set (i := 4) sc_law_bent_tuple.nd rfl (by first | exact Or.inl rfl | exact Or.inr rfl) (pe_op op_cat (pv 4) (pe_lst (pa_cons (pe_op op_catW (pe_slice sl_tupW (pv 1) po_none (po_some (pe_op op_add (pv 3) pe_int))) (pe_slice sl_tupW (pv 1) (po_some (pv 3)) po_none)) (pa_cons (pe_revT (pv 1)) (pa_cons (pe_callTy call_list_of (by rfl) m_list (by decide +kernel) (pa_cons (pv 1) pa_nil)) pa_nil))))))
      (pss_cons (ps_set (i := 4) sc_law_bent_tuple.nd rfl (by first | exact Or.inl rfl | exact Or.inr rfl) (pe_op op_cat (pv 4) (pe_lst (pa_cons (pe_op op_catW (pv 1) (pe_tup (pa_cons (pv 2) pa_nil))) (pa_cons (pe_op op_catW (pe_tup (pa_cons (pv 2) pa_nil)) (pv 1)) (pa_cons (pv 2) pa_nil))))))
      (pss_one (ps_ret (pe_call G__law_pick (hr.mono (by decide)) (by rfl) g__law_pick F__law_pick.kp b__law_pick .nil pass0 (pa_cons (pv 0) (pa_cons (pv 4) pa_nil)))))))))), ?_⟩
    have ne0 : (!decide (ns = [])) = true := by rw [decide_eq_false n0]; rfl
    have lpos : 0 < ns.length := List.length_pos_iff.mpr n0
    have ml : (ns.map V.int).length = ns.length := List.length_map _
    refine ⟨_, rfl, len_ok, fun e0 ne => ⟨p, e0, ns, [], rfl, rfl, .inl (.inl (upd_keep hp ne)), .inl (.inl upd_same), _, rfl, ite2 (fun _ => ?_) (fun c => absurd ne0 c)⟩⟩
    refine ⟨_, rfl, _, rfl, p, _, rfl, .inr (.inl (.inl (upd_keep hp ne))), d, _, rfl, hD.new ne, by rw [ml]; omega, by rw [ml]; omega, fun at_ H1 hat hN => ?_⟩
    have hD1 : DieAt H1 d := hN.die
    have b1 : But d H H1 := ((But.refl d H).new ne).trans hN.but
    have hp1 : H1 p = some (.tup (ns.map V.int)) := hN.tup (hD.new ne) (upd_keep hp ne)
    have hO1 : Val H1 odd := (hO.same (same_new (Same.refl H) ne)).die (hD.new ne) hN
    have cl : ∀ lo hi, (cutV (ns.map V.int) lo hi).length ≤ 100 := fun lo hi => by
      have := cutV_length (ns.map V.int) lo hi
      omega
    have sz : ∀ {n : Nat}, n ≤ 400 → n ≤ sizeLine := fun h => Nat.le_of_lt (small1000 (by omega))
    have key : ∀ (Hh : Hp) (ys : List V) (r : Addr), Val Hh odd → Hh r = some (.tup ys) → ys.length ≤ 400 → (∀ x ∈ ys, x ∈ ns.map V.int ∨ x = odd) → Val Hh (.ref r) := fun Hh ys r ho hr hl hx => val_tup hr (by omega) fun x hm => by
      rcases hx x hm with hx | rfl
      · exact ints_kn x hx
      · exact ho.kn
    -- some = [items[:at] + (odd,) + items[at + 1:]]
    refine ⟨_, rfl, _, rfl, (at_ : Int), rfl, p, _, rfl, hp1, fun p1 H2 s2 g1 => ⟨_, rfl, len_ok, fun t1 nt1 => ⟨p1, t1, _, _, rfl, rfl, upd_keep g1 nt1, upd_same, sz (by have := cl none (some (at_ : Int)); show _ + 1 ≤ 400; omega), fun p2 H3 s3 g2 => ?_⟩⟩⟩
    have s13 : Same H1 H3 := (s2.trans (same_new (Same.refl H2) nt1)).trans s3
    refine ⟨_, rfl, _, rfl, _, _, rfl, rfl, (at_ : Int) + 1, rfl, p, _, rfl, s13 _ _ hp1, fun p3 H4 s4 g3 => ⟨p2, p3, _, _, rfl, rfl, s4 _ _ g2, g3, sz (by have := cl none (some (at_ : Int)); have := cl (some ((at_ : Int) + 1)) none; rw [List.length_append]; show (_ + 1) + _ ≤ 400; omega), fun p4 H5 s5 g4 => ⟨len_ok, fun S nS => ?_⟩⟩⟩
    have s15 : Same H1 H5 := (s13.trans s4).trans s5
    have V4 : Val H5 (.ref p4) := key H5 _ p4 (hO1.same s15) g4 (by have := cl none (some (at_ : Int)); have := cl (some ((at_ : Int) + 1)) none; rw [List.length_append, List.length_append]; show (_ + 1) + _ ≤ 400; omega) fun x hx => by
      simp only [List.mem_append, List.mem_singleton] at hx
      rcases hx with (hx | hx) | hx
      · exact .inl (cutV_sub hx)
      · exact .inr hx
      · exact .inl (cutV_sub hx)
    have s6 : Same H1 (upd H5 S (.lst [.ref p4])) := s15.trans (same_new (Same.refl H5) nS)
    -- some.append(items[:at] + items[at + 1:])
    refine ⟨_, rfl, .inl ⟨rfl, _, .inl (.inl upd_same)⟩, _, rfl, _, rfl, (at_ : Int), rfl, p, _, rfl, s6 _ _ hp1, fun p5 H7 s7 g5 => ⟨_, rfl, _, rfl, _, _, rfl, rfl, (at_ : Int) + 1, rfl, p, _, rfl, s7 _ _ (s6 _ _ hp1), fun p6 H8 s8 g6 => ⟨p5, p6, _, _, rfl, rfl, s8 _ _ g5, g6, sz (by have := cl none (some (at_ : Int)); have := cl (some ((at_ : Int) + 1)) none; omega), fun p7 H9 s9 g7 => ?_⟩⟩⟩
    have s69 : Same (upd H5 S (.lst [.ref p4])) H9 := (s7.trans s8).trans s9
    have hS9 : H9 S = some (.lst [.ref p4]) := s69 _ _ upd_same
    have V4' : Val H9 (.ref p4) := (V4.same (same_new (Same.refl H5) nS)).same s69
    have V7 : Val H9 (.ref p7) := key H9 _ p7 (hO1.same (s6.trans s69)) g7 (by have := cl none (some (at_ : Int)); have := cl (some ((at_ : Int) + 1)) none; rw [List.length_append]; omega) fun x hx => by
      rcases List.mem_append.mp hx with hx | hx
      · exact .inl (cutV_sub hx)
      · exact .inl (cutV_sub hx)
    refine ⟨S, _, _, rfl, rfl, hS9, small1000 (Nat.le_of_ble_eq_true rfl), ?_⟩
    have nSd : S ≠ d := (hD1.same s15).free nS
    have hpA : upd H9 S (.lst ([.ref p4] ++ [.ref p7])) p = some (.tup (ns.map V.int)) := tup_upl hS9 (s69 _ _ (s6 _ _ hp1))
    have hOA : Val (upd H9 S (.lst ([.ref p4] ++ [.ref p7]))) odd := (hO1.same (s6.trans s69)).upl hS9
    have V4A := V4'.upl (zs := [.ref p4] ++ [.ref p7]) hS9
    have V7A := V7.upl (zs := [.ref p4] ++ [.ref p7]) hS9
    have hDA : DieAt (upd H9 S (.lst ([.ref p4] ++ [.ref p7]))) d := (hD1.same (s6.trans s69)).put nSd
    have hSA : upd H9 S (.lst ([.ref p4] ++ [.ref p7])) S = some (.lst [.ref p4, .ref p7]) := upd_same
    have bA : But d H (upd H9 S (.lst ([.ref p4] ++ [.ref p7]))) := by
      refine But.put (((((But.refl d H).new ne).trans hN.but).same (s6.trans s69))) ?_
      have h1 : H1 S = none := s15.free nS
      have h2 : upd H e0 (.tup []) S = none := (hN.ne nSd).symm.trans h1
      exact ((same_new (Same.refl H) ne).free h2)
    generalize upd H9 S (.lst ([.ref p4] ++ [.ref p7])) = HA at *
    -- some = some + [items[:at + 1] + items[at:], items[::-1], list(items)]
    refine ⟨_, rfl, _, rfl, _, rfl, _, _, rfl, rfl, (at_ : Int) + 1, rfl, p, _, rfl, hpA, fun a1 I1 r1 x1 => ⟨_, rfl, _, rfl, (at_ : Int), rfl, p, _, rfl, r1 _ _ hpA, fun a2 I2 r2 x2 => ⟨a1, a2, _, _, rfl, rfl, r2 _ _ x1, x2, sz (by have := cl none (some ((at_ : Int) + 1)); have := cl (some (at_ : Int)) none; omega), fun a3 I3 r3 x3 => ?_⟩⟩⟩
    have rA3 : Same HA I3 := (r1.trans r2).trans r3
    refine ⟨_, rfl, p, _, rfl, .inl (.inl (rA3 _ _ hpA)), fun a4 m4 => ⟨_, rfl, p, _, rfl, .inr (.inl (.inl (upd_keep (rA3 _ _ hpA) m4))), fun a5 m5 => ⟨len_ok, fun M mM => ?_⟩⟩⟩
    have rM : Same HA (upd (upd (upd I3 a4 (.tup (ns.map V.int).reverse)) a5 (.lst (ns.map V.int))) M (.lst [.ref a3, .ref a4, .ref a5])) := same_new (same_new (same_new rA3 m4) m5) mM
    refine ⟨S, M, _, _, rfl, rfl, rM _ _ hSA, upd_same, Nat.le_of_lt (small1000 (Nat.le_of_ble_eq_true rfl)), fun S2 nS2 => ?_⟩
    have V3 : Val I3 (.ref a3) := key I3 _ a3 (hOA.same rA3) x3 (by have := cl none (some ((at_ : Int) + 1)); have := cl (some (at_ : Int)) none; rw [List.length_append]; omega) fun x hx => by
      rcases List.mem_append.mp hx with hx | hx
      · exact .inl (cutV_sub hx)
      · exact .inl (cutV_sub hx)
    have Va4 : Val (upd I3 a4 (.tup (ns.map V.int).reverse)) (.ref a4) := key _ _ a4 (hOA.same (same_new rA3 m4)) upd_same (by rw [List.length_reverse]; omega) fun x hx => .inl (List.mem_reverse.mp hx)
    have Va5 : Val (upd (upd I3 a4 (.tup (ns.map V.int).reverse)) a5 (.lst (ns.map V.int))) (.ref a5) := val_lst upd_same
    have V3' := ((V3.same (same_new (Same.refl _) m4)).same (same_new (Same.refl _) m5)).same (same_new (o := .lst [.ref a3, .ref a4, .ref a5]) (Same.refl _) mM)
    have V4'' := (Va4.same (same_new (Same.refl _) m5)).same (same_new (o := .lst [.ref a3, .ref a4, .ref a5]) (Same.refl _) mM)
    have V5'' := Va5.same (same_new (o := .lst [.ref a3, .ref a4, .ref a5]) (Same.refl _) mM)
    generalize upd (upd (upd I3 a4 (.tup (ns.map V.int).reverse)) a5 (.lst (ns.map V.int))) M (.lst [.ref a3, .ref a4, .ref a5]) = HB at *
    have rS2 : Same HB (upd HB S2 (.lst ([.ref p4, .ref p7] ++ [.ref a3, .ref a4, .ref a5]))) := same_new (Same.refl HB) nS2
    have hS2 : upd HB S2 (.lst ([.ref p4, .ref p7] ++ [.ref a3, .ref a4, .ref a5])) S2 = some (.lst [.ref p4, .ref p7, .ref a3, .ref a4, .ref a5]) := upd_same
    have rC : Same HA (upd HB S2 (.lst ([.ref p4, .ref p7] ++ [.ref a3, .ref a4, .ref a5]))) := rM.trans rS2
    show tSeq _ _ _ [_, _, _, _, some (.ref S2)] (upd HB S2 (.lst ([.ref p4, .ref p7] ++ [.ref a3, .ref a4, .ref a5])))
    generalize upd HB S2 (.lst ([.ref p4, .ref p7] ++ [.ref a3, .ref a4, .ref a5])) = HC at *
    have hpC := rC _ _ hpA
    -- some = some + [items + (odd,), (odd,) + items, odd]
    refine ⟨_, rfl, _, rfl, _, rfl, len_ok, fun t2 nt2 => ⟨p, t2, _, _, rfl, rfl, upd_keep hpC nt2, upd_same, sz (by rw [ml]; show _ + 1 ≤ 400; omega), fun b1 J1 u1 y1 => ?_⟩⟩
    have uJ1 : Same HC J1 := (same_new (Same.refl HC) nt2).trans u1
    refine ⟨_, rfl, len_ok, fun t3 nt3 => ⟨_, rfl, t3, p, _, _, rfl, rfl, upd_same, upd_keep (uJ1 _ _ hpC) nt3, sz (by rw [ml]; show 1 + _ ≤ 400; omega), fun b2 J2 u2 y2 => ⟨_, rfl, len_ok, fun M2 nM2 => ?_⟩⟩⟩
    have uJ2 : Same HC J2 := (uJ1.trans (same_new (Same.refl J1) nt3)).trans u2
    have uM : Same HC (upd J2 M2 (.lst [.ref b1, .ref b2, odd])) := same_new uJ2 nM2
    have Vb1 : Val J1 (.ref b1) := key J1 _ b1 (hOA.same (rC.trans uJ1)) y1 (by rw [List.length_append, ml]; show _ + 1 ≤ 400; omega) fun x hx => by
      rcases List.mem_append.mp hx with hx | hx
      · exact .inl hx
      · exact .inr (List.mem_singleton.mp hx)
    have Vb2 : Val J2 (.ref b2) := key J2 _ b2 (hOA.same (rC.trans uJ2)) y2 (by rw [List.length_append, ml]; show 1 + _ ≤ 400; omega) fun x hx => by
      rcases List.mem_append.mp hx with hx | hx
      · exact .inr (List.mem_singleton.mp hx)
      · exact .inl hx
    have u12 : Same J1 (upd J2 M2 (.lst [.ref b1, .ref b2, odd])) := same_new ((same_new (Same.refl J1) nt3).trans u2) nM2
    have u22 : Same J2 (upd J2 M2 (.lst [.ref b1, .ref b2, odd])) := same_new (Same.refl J2) nM2
    refine ⟨S2, M2, _, _, rfl, rfl, uM _ _ hS2, upd_same, Nat.le_of_lt (small1000 (Nat.le_of_ble_eq_true rfl)), fun S3 nS3 => ?_⟩
    generalize upd J2 M2 (.lst [.ref b1, .ref b2, odd]) = HD at *
    have uS3 : Same HD (upd HD S3 (.lst ([.ref p4, .ref p7, .ref a3, .ref a4, .ref a5] ++ [.ref b1, .ref b2, odd]))) := same_new (Same.refl HD) nS3
    have hDD : DieAt HD d := (hDA.same rC).same uM
    refine ⟨_, rfl, _, rfl, d, hDD.new nS3, .inl ⟨S3, _, rfl, hDD.free nS3, .inl (.inl (.inl upd_same)), List.cons_ne_nil _ _, Nat.lt_of_le_of_lt (Nat.le_of_ble_eq_true (show Nat.ble _ 1000 = true from rfl)) (by decide), fun j v H' hj hN' => ?_⟩⟩
    refine q v H' (Val.die (hDD.new nS3) hN' (Val.same uS3 ?_)) (((bA.same rC).same (uM.trans uS3)).trans hN'.but) hN'.die
    have hm := List.mem_of_getElem? hj
    clear hj q hN'
    revert v
    exact all_cons ((V4A.same rC).same uM) (all_cons ((V7A.same rC).same uM) (all_cons ((V3'.same rS2).same uM) (all_cons ((V4''.same rS2).same uM) (all_cons ((V5''.same rS2).same uM) (all_cons (Vb1.same u12) (all_cons (Vb2.same u22) (all_cons (hOA.same (rC.trans uM)) all_nil)))))))
end
end My

namespace My
open PySem PySem.Spec PyProof.Rows L2 RZ Sh
abbrev s_law_is_bag_of : Stmt := topS 22
abbrev Nlaw_is_bag_of : List Str := ["value", "size", "low", "wrong", "one"]
theorem sc_law_is_bag_of : FnScope Nlaw_is_bag_of ["value", "size", "low"] (defScope s_law_is_bag_of) := ⟨rfl, rfl, rfl, by decide +kernel, rfl, by decide +kernel, by decide +kernel⟩
abbrev s_law_any_wide : Stmt := topS 23
abbrev Nlaw_any_wide : List Str := ["die", "size", "turn"]
theorem sc_law_any_wide : FnScope Nlaw_any_wide ["die", "size"] (defScope s_law_any_wide) := ⟨rfl, rfl, rfl, by decide +kernel, rfl, by decide +kernel, by decide +kernel⟩
abbrev s_law_is_wider : Stmt := topS 24
abbrev Nlaw_is_wider : List Str := ["one", "other", "at"]
theorem sc_law_is_wider : FnScope Nlaw_is_wider ["one", "other"] (defScope s_law_is_wider) := ⟨rfl, rfl, rfl, by decide +kernel, rfl, by decide +kernel, by decide +kernel⟩
section
variable {P : Program} {w : World} {K : PySem.W.Frag} {mg : Str → Option Value} {base : Heap}
theorem ok_is_bag_of {f : Addr} {fd : FuncData} {k : Nat} (F : Fun K "_law_is_bag_of" "_law_is_bag_of" s_law_is_bag_of f fd) (m_isinstance : mg "isinstance" = none) (m_tuple : mg "tuple" = none) (m_len : mg "len" = none) (m_int : mg "int" = none) (m_bool : mg "bool" = none) :
    FnOk P w K mg base CX0 (k + 1) f fd ["value", "size", "low"] spBagOf := by
  refine F.ok sc_law_is_bag_of (fun vs H Q E h => ?_) (fun cdv A outer s H vs Q E hr h => ?_)
  · obtain ⟨v, n, low, rfl, _⟩ := h
    rfl
  · obtain ⟨v, n, low, rfl, h⟩ := h
    refine ⟨_, (pss_cons (ps_if (PW.pt (pw_or (pt_not (pt_val (pe_callB call_isi (by rfl) m_isinstance (by decide +kernel) (pa_cons (pv 0) (pa_cons (pe_bltn (v := .ty "tuple") (by rfl) m_tuple (by decide +kernel) rfl) pa_nil))))) (pw_or1 (pt_cmpR op_ne (pe_callB call_len_seq (by rfl) m_len (by decide +kernel) (pa_cons (pv 0) pa_nil)) (pv 1) (nomark _)))))
        (pss_one (ps_ret pe_bl))
        pss_nil)
      (pss_cons (ps_setLc (i := 3) (own := [("one", 4)]) (g := (gName 4)) rfl sc_law_is_bag_of.nd rfl rfl (sw_true rfl rfl rfl (by decide +kernel)) (pi_tup (pv 0)) (blkOk_by (N := Nlaw_is_bag_of) (sc := defScope s_law_is_bag_of) (by decide +kernel))
      (fun _ _ _ _ _ => (pg_name (i := 4) sc_law_is_bag_of.nd rfl (Or.inl rfl))) (fun _ _ _ _ _ => (pts_one (PW.pt (pw_or (pt_not (pt_val (pe_callB (id := "isinstance") (r := rIsi K) call_isi (by rfl) m_isinstance (by decide +kernel) (pa_cons (pv 4) (pa_cons (pe_bltn (v := .ty "int") (by rfl) m_int (by decide +kernel) rfl) pa_nil))))) (pw_or (pt_val (pe_callB (id := "isinstance") (r := rIsi K) call_isi (by rfl) m_isinstance (by decide +kernel) (pa_cons (pv 4) (pa_cons (pe_bltn (v := .ty "bool") (by rfl) m_bool (by decide +kernel) rfl) pa_nil)))) (pw_or1 (pt_cmpR op_lt (pv 4) (pv 2) (nomark _)))))))) (fun _ _ _ _ _ => (pv 4)))
      (pss_one (ps_ret (pe_cmpR (op_eqNil hr.units) (pv 3) (pe_lst pa_nil) (nomark _)))))), ?_⟩
    rcases h with ⟨hN, q⟩ | ⟨p, xs, rfl, hp, hl, hK, q⟩
    · obtain ⟨T, hT, h1, _⟩ := hN.ty (K := K)
      exact ⟨_, rfl, _, _, _, _, false, rfl, .ty "tuple", hT, kit_ty h1, false, rfl, iteT (iteT (q H (Same.refl H)))⟩
    · refine ⟨_, rfl, _, _, _, _, true, rfl, .ty "tuple", .base (.tup hp), kit_ty (by decide +kernel), true, rfl, iteF ?_⟩
      refine ⟨_, rfl, p, xs, rfl, .inr (.inl (.inl hp)), _, rfl, rfl, _, rfl, ?_⟩
      by_cases e : xs.length = n
      · have e1 : (!decide (V.int ((xs.length : Nat) : Int) = V.int ((n : Nat) : Int))) = false := by rw [decide_eq_true (by rw [e])]; rfl
        rw [e1]
        rw [decide_eq_true e, Bool.true_and, ← entB_wrong] at q
        refine iteF ⟨_, rfl, p, rfl, ⟨xs, .inl (.inl hp)⟩, fun D hD => lc_tup (xs := xs) (fun i H1 => Same H H1 ∧ H1 D = some (.lst ((xs.take i).filter fun x => !entB low x))) ⟨same_new (Same.refl H) hD, upd_same⟩ (fun i H1 _ hp1 => .inl (.inl (hp1.1 _ _ hp))) (fun i x H1 hx hp1 => ?_) (fun H1 hp1 => ?_)⟩
        · obtain ⟨sm, hD1⟩ := hp1
          have hi : i < xs.length := (List.getElem?_eq_some_iff.mp hx).1
          have hk : Kn H1 x := (hK x (List.mem_of_getElem? hx)).same sm
          have tk : (xs.take (i + 1)).filter (fun x => !entB low x) = (xs.take i).filter (fun x => !entB low x) ++ [x].filter (fun x => !entB low x) := by
            rw [List.take_add_one, hx, List.filter_append]
            rfl
          have fin : entB low x = false → ∃ acc, H1 D = some (.lst acc) ∧ acc.length < sizeLine ∧ (Same H (upd H1 D (.lst (acc ++ [x]))) ∧ (upd H1 D (.lst (acc ++ [x]))) D = some (.lst ((xs.take (i + 1)).filter fun x => !entB low x))) := fun hb => by
            refine ⟨_, hD1, ?_, same_put sm hD, ?_⟩
            · refine Nat.lt_of_le_of_lt (List.length_filter_le _ _) ?_
              rw [List.length_take]
              exact small1000 (Nat.le_trans (Nat.min_le_left _ _) (by omega))
            · rw [upd_same, tk, List.filter_cons, hb]
              rfl
          have nofin : entB low x = true → (Same H H1 ∧ H1 D = some (.lst ((xs.take (i + 1)).filter fun x => !entB low x))) := fun hb => by
            refine ⟨sm, ?_⟩
            rw [hD1, tk, List.filter_cons, hb]
            simp
          obtain ⟨T, hT, h1, h2⟩ := hk.ty (K := K)
          refine ⟨rfl, _, rfl, _, _, _, _, _, rfl, .ty "int", hT, kit_ty h1, _, rfl, ?_⟩
          cases x with
          | int i =>
            refine iteF ⟨_, rfl, _, _, _, _, _, rfl, .ty "bool", hT, kit_ty h2, _, rfl, ?_⟩
            refine iteF ⟨_, rfl, _, rfl, i, low, rfl, rfl, _, rfl, ite2 (fun e2 => ⟨_, rfl, fin ?_⟩) (fun e2 => nofin ?_)⟩
            · have e2 := of_decide_eq_true e2
              exact decide_eq_false (by omega)
            · have e2 : ¬ i < low := fun c => e2 (decide_eq_true c)
              exact decide_eq_true (by omega)
          | bl b => exact iteF ⟨_, rfl, _, _, _, _, _, rfl, .ty "bool", hT, kit_ty h2, _, rfl, iteT (iteT ⟨_, rfl, fin rfl⟩)⟩
          | _ => exact iteT (iteT ⟨_, rfl, fin rfl⟩)
        · obtain ⟨sm, hD1⟩ := hp1
          rw [List.take_of_length_le (Nat.le_refl _)] at hD1
          refine ⟨_, rfl, Nat.zero_le _, fun N hN => ⟨D, N, _, rfl, rfl, .inl (.inl (upd_keep hD1 hN)), .inl (.inl upd_same), q _ (same_new sm hN)⟩⟩
      · have e1 : (!decide (V.int ((xs.length : Nat) : Int) = V.int ((n : Nat) : Int))) = true := by rw [decide_eq_false (fun c => e (by have := V.int.inj c; omega))]; rfl
        rw [e1]
        rw [decide_eq_false e, Bool.false_and] at q
        exact iteT (q H (Same.refl H))
theorem ok_any_wide {f fP : Addr} {fd fdP : FuncData} (F : Fun K "_law_any_wide" "_law_any_wide" s_law_any_wide f fd)
    (G__law_pick : FnOk P w K mg base CX0 2 fP fdP ["die", "items"] (spPick K)) (F__law_pick : Fun K "_law_pick" "_law_pick" s_law_pick fP fdP) (b__law_pick : Binds K fdP ["die", "items"] []) (g__law_pick : mg "_law_pick" = some (.ref fP))
    (m_tuple : mg "tuple" = none) (m_range : mg "range" = none) : FnOk P w K mg base CX0 3 f fd ["die", "size"] spAnyWide := by
  refine F.ok sc_law_any_wide (fun vs H Q E h => ?_) (fun cdv A outer s H vs Q E hr h => ?_)
  · obtain ⟨d, n, rfl, _⟩ := h
    rfl
  · obtain ⟨d, n, rfl, hD0, hn, q⟩ := h
    refine ⟨_, (pss_one (ps_ret (pe_callTy call_tuple_of (by rfl) m_tuple (by decide +kernel) (pa_cons (pe_lc (own := [("turn", 2)]) (g := (gName 2)) (tt := tYes) rfl sc_law_any_wide.nd (pi_range1 rfl m_range (pa_cons (pv 1) pa_nil)) (blkOk_by (N := Nlaw_any_wide) (sc := defScope s_law_any_wide) (by decide +kernel))
      (fun _ _ _ _ _ => (pg_name (i := 2) sc_law_any_wide.nd rfl (Or.inl rfl))) (fun _ _ _ _ _ => pts_nil) (fun _ _ _ _ _ => (pe_call G__law_pick (hr.mono (by decide)) (by rfl) g__law_pick F__law_pick.kp b__law_pick .nil pass0 (pa_cons (pv 0) (pa_cons (pe_lst (pa_cons pe_int (pa_cons pe_int (pa_cons (pe_un un_neg pe_int) (pa_cons pe_int (pa_cons pe_int (pa_cons (pe_un un_neg pe_int) (pa_cons (pe_op op_powB pe_int pe_int) pa_nil)))))))) pa_nil))))) pa_nil)))), ?_⟩
    refine ⟨_, rfl, (n : Int), rfl, by omega, by omega, fun D hD => ?_⟩
    have nD : D ≠ d := hD0.free hD
    refine lc_range (lo := 0) (n := n) (fun i H2 => ∃ ns : List Int, ns.length = i ∧ Drawn ns ∧ H2 D = some (.lst (ns.map V.int)) ∧ DieAt H2 d ∧ But d H H2) ⟨[], rfl, (fun _ h => by cases h), upd_same, hD0.new hD, (But.refl d H).new hD⟩ (fun i H2 hi hp => ?_) (fun H2 hp => ?_)
    · obtain ⟨ns, hlen, hdr, hl, hDe, hb⟩ := hp
      refine ⟨rfl, _, rfl, 1, rfl, 1, rfl, 10, 38, rfl, rfl, ⟨by decide, by decide +kernel⟩, len_ok, fun M mM => ⟨d, hDe.new mM, .inl ⟨M, _, rfl, hDe.free mM, .inl (.inl (.inl upd_same)), List.cons_ne_nil _ _, Nat.lt_of_le_of_lt (Nat.le_of_ble_eq_true (show Nat.ble _ 1000 = true from rfl)) (by decide), fun j v H3 hj hN => ?_⟩⟩⟩
      have ho : ∃ e : Int, v = .int e ∧ -1 ≤ e ∧ e ≤ 10 ^ 38 := by
        have hm := List.mem_of_getElem? hj
        clear hj
        revert v
        exact all_cons ⟨0, rfl, by decide, by decide⟩ (all_cons ⟨1, rfl, by decide, by decide⟩ (all_cons ⟨-1, rfl, by decide, by decide⟩ (all_cons ⟨2, rfl, by decide, by decide⟩ (all_cons ⟨3, rfl, by decide, by decide⟩ (all_cons ⟨-1, rfl, by decide, by decide⟩ (all_cons ⟨10 ^ (38 : Int).toNat, rfl, by decide +kernel, by decide +kernel⟩ all_nil))))))
      obtain ⟨e, rfl, he⟩ := ho
      have hMD : M ≠ D := fun c => by rw [c, hl] at mM; cases mM
      refine ⟨ns.map V.int, (hN.ne nD).trans (upd_keep hl mM), ?_, ns ++ [e], ?_, ?_, ?_, hN.die.put nD, ((hb.new mM).trans hN.but).put hD⟩
      · rw [List.length_map, hlen]
        exact small1000 (by omega)
      · rw [List.length_append, hlen]
        rfl
      · intro y hy
        rcases List.mem_append.mp hy with hy | hy
        · exact hdr y hy
        · rw [List.mem_singleton.mp hy]
          exact he
      · rw [upd_same, List.map_append]
        rfl
    · obtain ⟨ns, hlen, hdr, hl, hDe, hb⟩ := hp
      exact ⟨D, _, rfl, .inl ⟨.inl (.inl hl), fun R hR => q R _ ns hlen hdr upd_same (hb.new hR) (hDe.new hR)⟩⟩
theorem ok_is_wider {f : Addr} {fd : FuncData} {k : Nat} (F : Fun K "_law_is_wider" "_law_is_wider" s_law_is_wider f fd) (m_range : mg "range" = none) (m_len : mg "len" = none) :
    FnOk P w K mg base CX0 (k + 1) f fd ["one", "other"] spWider := by
  refine F.ok sc_law_is_wider (fun vs H Q E h => ?_) (fun cdv A outer s H vs Q E hr h => ?_)
  · obtain ⟨p, q, ns, ms, rfl, _⟩ := h
    rfl
  · obtain ⟨p, q, ns, ms, rfl, hp, hq, hl, h100, hn, kq⟩ := h
    refine ⟨_, (pss_cons (ps_for PassesOwn.never rfl (pi_range1 rfl m_range (pa_cons (pe_callB call_len_seq (by rfl) m_len (by decide +kernel) (pa_cons (pv 0) pa_nil)) pa_nil)) (pg_name (i := 2) sc_law_is_wider.nd rfl (by first | exact Or.inl rfl | exact Or.inr rfl))
        (pss_one (ps_if (PW.pt (pw_and (pt_cmpR op_ne (pe_ix ix_tup (pv 1) (pv 2) (fun _ _ => rfl)) (pe_un un_neg pe_int) (nomark _)) (pw_and1 (PW.pt (pw_or (pt_cmpR op_eq (pe_ix ix_tup (pv 0) (pv 2) (fun _ _ => rfl)) (pe_un un_neg pe_int) (nomark _)) (pw_or1 (pt_cmpR op_gt (pe_ix ix_tup (pv 0) (pv 2) (fun _ _ => rfl)) (pe_ix ix_tup (pv 1) (pv 2) (fun _ _ => rfl)) (nomark _))))))))
          (pss_one (ps_ret pe_bl))
          pss_nil)))
      (pss_one (ps_ret pe_bl))), ?_⟩
    have e1 : (ns.map V.int).length = ns.length := List.length_map _
    refine ⟨_, rfl, p, _, rfl, .inr (.inl (.inl hp)), _, rfl, by rw [e1]; omega, by rw [e1]; omega, ?_⟩
    rw [e1]
    refine for_range (lo := 0) (n := ns.length) (fun i σ H1 => (∃ y, σ = [some (.ref p), some (.ref q), y]) ∧ H1 = H ∧ ∀ (j : Nat) e m, j < i → ns[j]? = some e → ms[j]? = some m → fitE e m = true) ⟨⟨_, rfl⟩, rfl, fun _ _ _ h => absurd h (Nat.not_lt_zero _)⟩ (fun i σ H1 hi hpv => ?_) (fun σ H1 hpv => ?_)
    · obtain ⟨⟨y, rfl⟩, rfl, ih⟩ := hpv
      have z1 : ns[i]? = some ns[i] := List.getElem?_eq_getElem hi
      have z2 : ms[i]? = some (ms[i]'(by omega)) := List.getElem?_eq_getElem (by omega)
      generalize ns[i] = e at z1
      generalize ms[i]'(by omega) = m at z2
      have a1 : atI (ns.map V.int) (0 + (i : Int)) = some (.int e) := by rw [Int.zero_add]; exact atI_nat (by rw [List.getElem?_map, z1]; rfl)
      have a2 : atI (ms.map V.int) (0 + (i : Int)) = some (.int m) := by rw [Int.zero_add]; exact atI_nat (by rw [List.getElem?_map, z2]; rfl)
      have he : -1 ≤ e := hn e (List.mem_of_getElem? z1)
      have next : fitE e m = true → (∃ y, [some (V.ref p), some (V.ref q), some (V.int (0 + (i : Int)))] = [some (V.ref p), some (V.ref q), y]) ∧ H1 = H1 ∧ ∀ (j : Nat) e m, j < i + 1 → ns[j]? = some e → ms[j]? = some m → fitE e m = true := fun hf => ⟨⟨_, rfl⟩, rfl, fun j e' m' hj h1 h2 => by
        rcases Nat.lt_succ_iff_lt_or_eq.mp hj with hj | rfl
        · exact ih j e' m' hj h1 h2
        · rw [z1] at h1
          rw [z2] at h2
          cases h1
          cases h2
          exact hf⟩
      have stop : fitE e m = false → Q (.bl false) H1 := fun hf => by
        have : fitsB ns ms = false := by
          cases hb : fitsB ns ms with
          | false => rfl
          | true =>
            have := fits_at.mp hb i e m z1 z2
            rw [hf] at this
            cases this
        rw [this] at kq
        exact kq
      refine ⟨_, rfl, _, rfl, q, _, _, _, rfl, rfl, .inl (.inl hq), a2, 1, rfl, rfl, _, rfl, ?_⟩
      by_cases em : m = -1
      · have : (!decide (V.int m = V.int (-1))) = false := by rw [em]; rfl
        rw [this]
        exact iteF (iteF (next (fitE_iff.mpr (.inl em))))
      · have : (!decide (V.int m = V.int (-1))) = true := by rw [decide_eq_false (fun c => em (V.int.inj c))]; rfl
        rw [this]
        refine iteT ⟨_, rfl, _, rfl, p, _, _, _, rfl, rfl, .inl (.inl hp), a1, 1, rfl, rfl, _, rfl, ?_⟩
        by_cases ee : e = -1
        · have : decide (V.int e = V.int (-1)) = true := by rw [ee]; rfl
          rw [this]
          refine iteT (iteT (stop ?_))
          rw [Bool.eq_false_iff]
          exact fun c => by rcases fitE_iff.mp c with c | c <;> omega
        · have : decide (V.int e = V.int (-1)) = false := decide_eq_false fun c => ee (V.int.inj c)
          rw [this]
          refine iteF ⟨_, rfl, _, rfl, p, _, _, _, rfl, rfl, .inl (.inl hp), a1, _, rfl, _, rfl, q, _, _, _, rfl, rfl, .inl (.inl hq), a2, e, m, rfl, rfl, _, rfl, ite2 (fun c => ?_) (fun c => ?_)⟩
          · have c := of_decide_eq_true c
            refine stop ?_
            rw [Bool.eq_false_iff]
            exact fun c => by rcases fitE_iff.mp c with c | c <;> omega
          · have c : ¬ m < e := fun x => c (decide_eq_true x)
            exact next (fitE_iff.mpr (.inr ⟨by omega, by omega⟩))
    · obtain ⟨⟨y, rfl⟩, rfl, ih⟩ := hpv
      have : fitsB ns ms = true := fits_at.mpr fun i e m h1 h2 => ih i e m (List.getElem?_eq_some_iff.mp h1).1 h1 h2
      rw [this] at kq
      exact kq
end
end My

namespace My
open PySem PySem.Spec PyProof.Rows L2 RZ Sh
abbrev s_law_bags_in : Stmt := topS 25
abbrev Nlaw_bags_in : List Str := ["wide", "entry", "found", "top", "at", "many", "one"]
theorem sc_law_bags_in : FnScope Nlaw_bags_in ["wide", "entry"] (defScope s_law_bags_in) := ⟨rfl, rfl, rfl, by decide +kernel, rfl, by decide +kernel, by decide +kernel⟩
section
variable {P : Program} {w : World} {K : PySem.W.Frag} {mg : Str → Option Value} {base : Heap}
theorem ok_bags_in {f : Addr} {fd : FuncData} {k : Nat} (F : Fun K "_law_bags_in" "_law_bags_in" s_law_bags_in f fd) (m_range : mg "range" = none) (m_len : mg "len" = none) (m_tuple : mg "tuple" = none) :
    FnOk P w K mg base CX0 (k + 1) f fd ["wide", "entry"] spBagsIn := by
  refine F.ok sc_law_bags_in (fun vs H Q E h => ?_) (fun cdv A outer s H vs Q E hr h => ?_)
  · obtain ⟨p, ns, entry, rfl, _⟩ := h
    rfl
  · obtain ⟨p, ns, entry, rfl, hp, hw, he0, q⟩ := h
    refine ⟨_, (pss_cons (ps_par (i := 2) (j := 3) rfl sc_law_bags_in.nd rfl rfl (by decide) rfl rfl (pa_cons (pe_lst pa_nil) (pa_cons (pe_lc (own := [("one", 6)]) (g := (gName 6)) (tt := tYes) rfl sc_law_bags_in.nd (pi_tup (pv 0)) (blkOk_by (N := Nlaw_bags_in) (sc := defScope s_law_bags_in) (by decide +kernel))
      (fun _ _ _ _ _ => (pg_name (i := 6) sc_law_bags_in.nd rfl (Or.inl rfl))) (fun _ _ _ _ _ => pts_nil) (fun _ _ _ _ _ => (pe_ifExp (pt_cmpR op_eq (pv 6) (pe_un un_neg pe_int) (nomark _)) (pe_op op_powB pe_int pe_int) (pv 6)))) pa_nil)) rfl)
      (pss_cons (ps_for PassesOwn.never rfl (pi_range1 rfl m_range (pa_cons (pe_callB call_len_seq (by rfl) m_len (by decide +kernel) (pa_cons (pv 0) pa_nil)) pa_nil)) (pg_name (i := 4) sc_law_bags_in.nd rfl (by first | exact Or.inl rfl | exact Or.inr rfl))
        (pss_one (ps_for PassesOwn.never rfl (pi_tup (pe_tup (pa_cons pe_int (pa_cons pe_int (pa_cons (pv 1) (pa_cons (pe_ix ix_list (pv 3) (pv 4) (fun _ _ => rfl)) pa_nil)))))) (pg_name (i := 5) sc_law_bags_in.nd rfl (by first | exact Or.inl rfl | exact Or.inr rfl))
          (pss_one (ps_if (PW.pt (pw_or (pt_cmpR op_eq (pe_ix ix_tup (pv 0) (pv 4) (fun _ _ => rfl)) (pe_un un_neg pe_int) (nomark _)) (pw_or1 (pt_cmpR op_le (pv 5) (pe_ix ix_tup (pv 0) (pv 4) (fun _ _ => rfl)) (nomark _)))))
            (pss_one (ps_expr (pe_bm PySem.F.plainAttrs_list PySem.F.slot_list_append PySem.F.type_list_append mt_append (pv 2) (pa_cons (pe_callTy call_tuple_of (by rfl) m_tuple (by decide +kernel) (pa_cons (pe_op op_cat (pe_op op_cat (pe_slice sl_list (pv 3) po_none (po_some (pv 4))) (pe_lst (pa_cons (pv 5) pa_nil))) (pe_slice sl_list (pv 3) (po_some (pe_op op_add (pv 4) pe_int)) po_none)) pa_nil)) pa_nil))))
            pss_nil)))))
      (pss_one (ps_ret (pv 2))))), ?_⟩
    have tl : (topOf ns).length = ns.length := List.length_map _
    have ml : (ns.map V.int).length = ns.length := List.length_map _
    have h5 := hw.2.1
    refine ⟨Nat.zero_le _, fun F0 nF => ⟨_, rfl, p, rfl, ⟨_, .inl (.inl (upd_keep hp nF))⟩, fun D hD => ?_⟩⟩
    refine lc_tup (xs := ns.map V.int) (fun i H1 => Same (upd H F0 (.lst [])) H1 ∧ H1 D = some (.lst (((topOf ns).take i).map V.int))) ⟨same_new (Same.refl _) hD, upd_same⟩ (fun i H1 _ hp1 => .inl (.inl (hp1.1 _ _ (upd_keep hp nF)))) (fun i x H1 hx hp1 => ?_) (fun H1 hp1 => ?_)
    · obtain ⟨sm, hD1⟩ := hp1
      have hi : i < ns.length := by rw [← ml]; exact (List.getElem?_eq_some_iff.mp hx).1
      have z1 : ns[i]? = some ns[i] := List.getElem?_eq_getElem hi
      generalize ns[i] = e at z1
      rw [List.getElem?_map, z1] at hx
      cases hx
      have z2 : (topOf ns)[i]? = some (topE e) := by
        unfold topOf
        rw [List.getElem?_map, z1]
        rfl
      have fin : ∀ b, b = topE e → ∃ acc, H1 D = some (.lst acc) ∧ acc.length < sizeLine ∧ (Same (upd H F0 (.lst [])) (upd H1 D (.lst (acc ++ [V.int b]))) ∧ (upd H1 D (.lst (acc ++ [V.int b]))) D = some (.lst (((topOf ns).take (i + 1)).map V.int))) := fun b hb => by
        refine ⟨_, hD1, ?_, same_put sm hD, ?_⟩
        · rw [List.length_map, List.length_take]
          exact small1000 (Nat.le_trans (Nat.min_le_left _ _) (by omega))
        · rw [upd_same, hb, List.take_add_one, z2, List.map_append]
          rfl
      refine ⟨rfl, _, rfl, 1, rfl, rfl, _, rfl, ite2 (fun c => ⟨10, 39, rfl, rfl, ⟨by decide, by decide +kernel⟩, fin _ ?_⟩) (fun c => ⟨_, rfl, fin _ ?_⟩)⟩
      · have c : e = -1 := V.int.inj (of_decide_eq_true c)
        unfold topE
        rw [if_pos c]
      · have c : ¬ e = -1 := fun z => c (decide_eq_true (by rw [z]))
        unfold topE
        rw [if_neg c]
    · obtain ⟨sm, hD1⟩ := hp1
      rw [List.take_of_length_le (by rw [ml, tl]; exact Nat.le_refl _)] at hD1
      have nFD : F0 ≠ D := fun c => by rw [← c, upd_same] at hD; cases hD
      have hD0 : H D = none := (same_new (Same.refl H) nF).free hD
      refine ⟨_, _, rfl, ?_⟩
      refine ⟨_, rfl, p, _, rfl, .inr (.inl (.inl (sm _ _ (upd_keep hp nF)))), _, rfl, by rw [ml]; omega, by rw [ml]; omega, ?_⟩
      rw [ml]
      refine for_range (lo := 0) (n := ns.length) (fun i σ H2 => (∃ y4 y5 y6, σ = [some (.ref p), some (.int entry), some (.ref F0), some (.ref D), y4, y5, y6]) ∧ Same H H2 ∧ H2 D = some (.lst ((topOf ns).map V.int)) ∧
        ∃ L, Found H2 F0 ns L ∧ L.length ≤ 4 * i ∧ (0 < i → ∃ x ∈ L, x.2 = topOf ns)) ⟨⟨_, _, _, rfl⟩, (same_new (Same.refl H) nF).trans sm, hD1, [], ⟨sm _ _ upd_same, fun _ h => by cases h⟩, Nat.le_refl _, fun h => absurd h (Nat.lt_irrefl _)⟩ (fun i σ H2 hi hpv => ?_) (fun σ H2 hpv => ?_)
      · obtain ⟨⟨y4, y5, y6, rfl⟩, s2, hD2, L, hF, hL, hT⟩ := hpv
        have z1 : ns[i]? = some ns[i] := List.getElem?_eq_getElem hi
        generalize ns[i] = e at z1
        have he : -1 ≤ e := hw.2.2 e (List.mem_of_getElem? z1)
        have z2 : (topOf ns)[i]? = some (topE e) := by
          unfold topOf
          rw [List.getElem?_map, z1]
          rfl
        have a1 : atI (ns.map V.int) (0 + (i : Int)) = some (.int e) := by rw [Int.zero_add]; exact atI_nat (by rw [List.getElem?_map, z1]; rfl)
        have a2 : atI ((topOf ns).map V.int) (0 + (i : Int)) = some (.int (topE e)) := by rw [Int.zero_add]; exact atI_nat (by rw [List.getElem?_map, z2]; rfl)
        refine ⟨_, rfl, _, rfl, _, rfl, D, _, _, _, rfl, rfl, .inl (.inl hD2), a2, len_ok, fun t nt => ⟨t, rfl, ⟨_, .inl (.inl upd_same)⟩, ?_⟩⟩
        refine for_tup (xs := [.int 0, .int 1, .int entry, .int (topE e)]) (fun j σ H3 => (∃ y5 y6, σ = [some (.ref p), some (.int entry), some (.ref F0), some (.ref D), some (.int (0 + (i : Int))), y5, y6]) ∧ H3 t = some (.tup [.int 0, .int 1, .int entry, .int (topE e)]) ∧ Same H H3 ∧ H3 D = some (.lst ((topOf ns).map V.int)) ∧
          ∃ L, Found H3 F0 ns L ∧ L.length ≤ 4 * i + j ∧ (3 < j → ∃ x ∈ L, x.2 = topOf ns)) ⟨⟨_, _, rfl⟩, upd_same, same_new s2 nt, upd_keep hD2 nt, L, hF.same (same_new (Same.refl _) nt), by omega, fun h => by omega⟩ (fun j σ H3 _ hpv => .inl (.inl hpv.2.1)) (fun j x σ H3 hx hpv => ?_) (fun σ H3 hpv => ?_)
        · obtain ⟨⟨y5, y6, rfl⟩, ht, s3, hD3, L, hF, hL, hT⟩ := hpv
          obtain ⟨m, rfl, hm0, hm3⟩ : ∃ m : Int, x = .int m ∧ 0 ≤ m ∧ (3 ≤ j → m = topE e) := by
            match j, hx with
            | 0, hx => cases hx; exact ⟨_, rfl, by decide, fun h => by omega⟩
            | 1, hx => cases hx; exact ⟨_, rfl, by decide, fun h => by omega⟩
            | 2, hx => cases hx; exact ⟨_, rfl, he0, fun h => by omega⟩
            | 3, hx => cases hx; exact ⟨_, rfl, topE_nn he, fun _ => rfl⟩
            | j + 4, hx => simp at hx
          have hj : j < 4 := (List.getElem?_eq_some_iff.mp hx).1
          have hp3 := s3 _ _ hp
          -- the bag is found
          have put : e = -1 ∨ m ≤ e → ∀ H4 R, Same H3 H4 → H4 R = none → Found H4 F0 ns L → H4 F0 = some (.lst (L.map fun x => V.ref x.1)) →
              (∃ u5 u6, [some (V.ref p), some (V.int entry), some (V.ref F0), some (V.ref D), some (V.int (0 + (i : Int))), some (V.int m), y6] = [some (.ref p), some (.int entry), some (.ref F0), some (.ref D), some (.int (0 + (i : Int))), u5, u6]) ∧
                (upd (upd H4 R (.tup (((topOf ns).set i m).map V.int))) F0 (.lst ((L.map fun x => V.ref x.1) ++ [.ref R]))) t = some (.tup [.int 0, .int 1, .int entry, .int (topE e)]) ∧ Same H (upd (upd H4 R (.tup (((topOf ns).set i m).map V.int))) F0 (.lst ((L.map fun x => V.ref x.1) ++ [.ref R]))) ∧
                (upd (upd H4 R (.tup (((topOf ns).set i m).map V.int))) F0 (.lst ((L.map fun x => V.ref x.1) ++ [.ref R]))) D = some (.lst ((topOf ns).map V.int)) ∧
                ∃ L', Found (upd (upd H4 R (.tup (((topOf ns).set i m).map V.int))) F0 (.lst ((L.map fun x => V.ref x.1) ++ [.ref R]))) F0 ns L' ∧ L'.length ≤ 4 * i + (j + 1) ∧ (3 < j + 1 → ∃ x ∈ L', x.2 = topOf ns) := fun hc H4 R s4 nR hF4 hF0 => by
            refine ⟨⟨_, _, rfl⟩, tup_upl (upd_keep hF0 nR) (upd_keep (s4 _ _ ht) nR), same_put (same_new (s3.trans s4) nR) nF, (upd_ne nFD.symm).trans (upd_keep (s4 _ _ hD3) nR), L ++ [(R, (topOf ns).set i m)], ⟨?_, fun x hx => ?_⟩, ?_, fun h3 => ?_⟩
            · rw [upd_same, List.map_append]
              rfl
            · rcases List.mem_append.mp hx with hx | hx
              · exact ⟨tup_upl (upd_keep hF0 nR) (upd_keep (hF4.2 x hx).1 nR), (hF4.2 x hx).2⟩
              · rw [List.mem_singleton.mp hx]
                exact ⟨tup_upl (upd_keep hF0 nR) upd_same, bag_set hw.2.2 z1 hm0 hc⟩
            · rw [List.length_append]
              show _ + 1 ≤ _
              omega
            · refine ⟨_, List.mem_append_right _ (List.mem_singleton.mpr rfl), ?_⟩
              show (topOf ns).set i m = topOf ns
              rw [hm3 (by omega)]
              exact top_set z1
          have skip : ¬ (e = -1 ∨ m ≤ e) → (∃ u5 u6, [some (V.ref p), some (V.int entry), some (V.ref F0), some (V.ref D), some (V.int (0 + (i : Int))), some (V.int m), y6] = [some (.ref p), some (.int entry), some (.ref F0), some (.ref D), some (.int (0 + (i : Int))), u5, u6]) ∧ H3 t = some (.tup [.int 0, .int 1, .int entry, .int (topE e)]) ∧ Same H H3 ∧ H3 D = some (.lst ((topOf ns).map V.int)) ∧
                ∃ L', Found H3 F0 ns L' ∧ L'.length ≤ 4 * i + (j + 1) ∧ (3 < j + 1 → ∃ x ∈ L', x.2 = topOf ns) := fun hc => ⟨⟨_, _, rfl⟩, ht, s3, hD3, L, hF, by omega, fun h3 => by
            exfalso
            refine hc ?_
            rw [hm3 (by omega)]
            rcases fitE_iff.mp (top_fit he) with c | c
            · exact .inl c
            · exact .inr c.2⟩
          have li : i ≤ ((topOf ns).map V.int).length := by rw [List.length_map, tl]; omega
          have li1 : i + 1 ≤ ((topOf ns).map V.int).length := by rw [List.length_map, tl]; omega
          have c1 : cutV ((topOf ns).map V.int) none (some (0 + (i : Int))) = ((topOf ns).take i).map V.int := by rw [Int.zero_add, cut_to _ li, List.map_take]
          have c2 : cutV ((topOf ns).map V.int) (some (0 + (i : Int) + 1)) none = ((topOf ns).drop (i + 1)).map V.int := by
            rw [Int.zero_add, show ((i : Int) + 1) = ((i + 1 : Nat) : Int) from rfl, cut_from _ li1, List.map_drop]
          have glue := set_glue (topOf ns) m (show i < (topOf ns).length by rw [tl]; exact hi)
          refine ⟨_, rfl, _, rfl, p, _, _, _, rfl, rfl, .inl (.inl hp3), a1, 1, rfl, rfl, _, rfl, ?_⟩
          by_cases ce : e = -1
          · have : decide (V.int e = V.int (-1)) = true := by rw [ce]; rfl
            rw [this]
            refine iteT (iteT ?_)
            refine ⟨_, rfl, .inl ⟨rfl, _, .inl (.inl hF.1)⟩, _, rfl, _, rfl, 0 + (i : Int), rfl, D, _, rfl, .inl (.inl hD3), fun q1 n1 => ⟨_, rfl, len_ok, fun q2 n2 => ⟨q1, q2, _, _, rfl, rfl, upd_keep upd_same n2, upd_same, ?_, fun q3 n3 => ?_⟩⟩⟩
            · have := cutV_length ((topOf ns).map V.int) none (some (0 + (i : Int)))
              rw [List.length_map, tl] at this
              exact Nat.le_of_lt (small1000 (by show _ + 1 ≤ 1000; omega))
            rw [c1]
            have s4 : Same H3 (upd (upd (upd H3 q1 (.lst (((topOf ns).take i).map V.int))) q2 (.lst [.int m])) q3 (.lst (((topOf ns).take i).map V.int ++ [.int m]))) := by
              rw [c1] at n2 n3
              exact same_new (same_new (same_new (Same.refl H3) n1) n2) n3
            have g3 : (upd (upd (upd H3 q1 (.lst (((topOf ns).take i).map V.int))) q2 (.lst [.int m])) q3 (.lst (((topOf ns).take i).map V.int ++ [.int m]))) q3 = some (.lst (((topOf ns).take i).map V.int ++ [.int m])) := upd_same
            generalize (upd (upd (upd H3 q1 (.lst (((topOf ns).take i).map V.int))) q2 (.lst [.int m])) q3 (.lst (((topOf ns).take i).map V.int ++ [.int m]))) = H4 at s4 g3
            refine ⟨_, rfl, _, rfl, _, _, rfl, rfl, 0 + (i : Int) + 1, rfl, D, _, rfl, .inl (.inl (s4 _ _ hD3)), fun q4 n4 => ⟨q3, q4, _, _, rfl, rfl, upd_keep g3 n4, upd_same, ?_, fun q5 n5 => ?_⟩⟩
            · have := cutV_length ((topOf ns).map V.int) (some (0 + (i : Int) + 1)) none
              rw [List.length_map, tl] at this
              rw [List.length_append, List.length_map, List.length_take]
              exact Nat.le_of_lt (small1000 (by show (_ + 1) + _ ≤ 1000; omega))
            rw [c2] at n5
            rw [c2, glue]
            have s5 : Same H3 (upd (upd H4 q4 (.lst (((topOf ns).drop (i + 1)).map V.int))) q5 (.lst (((topOf ns).set i m).map V.int))) := same_new (same_new s4 n4) n5
            refine ⟨q5, _, rfl, .inl ⟨.inl (.inl upd_same), fun R nR => ?_⟩⟩
            generalize (upd (upd H4 q4 (.lst (((topOf ns).drop (i + 1)).map V.int))) q5 (.lst (((topOf ns).set i m).map V.int))) = H5 at s5 nR
            refine ⟨F0, _, _, rfl, rfl, upd_keep (s5 _ _ hF.1) nR, small1000 (by rw [List.length_map]; omega), ?_⟩
            exact put (.inl ce) H5 R s5 nR (hF.same s5) (s5 _ _ hF.1)
          · have : decide (V.int e = V.int (-1)) = false := decide_eq_false fun c => ce (V.int.inj c)
            rw [this]
            refine iteF ⟨_, rfl, _, rfl, _, rfl, p, _, _, _, rfl, rfl, .inl (.inl hp3), a1, m, e, rfl, rfl, _, rfl, ite2 (fun c => ?_) (fun c => ?_)⟩
            · have c := of_decide_eq_true c
              refine ⟨_, rfl, .inl ⟨rfl, _, .inl (.inl hF.1)⟩, _, rfl, _, rfl, 0 + (i : Int), rfl, D, _, rfl, .inl (.inl hD3), fun q1 n1 => ⟨_, rfl, len_ok, fun q2 n2 => ⟨q1, q2, _, _, rfl, rfl, upd_keep upd_same n2, upd_same, ?_, fun q3 n3 => ?_⟩⟩⟩
              · have := cutV_length ((topOf ns).map V.int) none (some (0 + (i : Int)))
                rw [List.length_map, tl] at this
                exact Nat.le_of_lt (small1000 (by show _ + 1 ≤ 1000; omega))
              rw [c1]
              have s4 : Same H3 (upd (upd (upd H3 q1 (.lst (((topOf ns).take i).map V.int))) q2 (.lst [.int m])) q3 (.lst (((topOf ns).take i).map V.int ++ [.int m]))) := by
                rw [c1] at n2 n3
                exact same_new (same_new (same_new (Same.refl H3) n1) n2) n3
              have g3 : (upd (upd (upd H3 q1 (.lst (((topOf ns).take i).map V.int))) q2 (.lst [.int m])) q3 (.lst (((topOf ns).take i).map V.int ++ [.int m]))) q3 = some (.lst (((topOf ns).take i).map V.int ++ [.int m])) := upd_same
              generalize (upd (upd (upd H3 q1 (.lst (((topOf ns).take i).map V.int))) q2 (.lst [.int m])) q3 (.lst (((topOf ns).take i).map V.int ++ [.int m]))) = H4 at s4 g3
              refine ⟨_, rfl, _, rfl, _, _, rfl, rfl, 0 + (i : Int) + 1, rfl, D, _, rfl, .inl (.inl (s4 _ _ hD3)), fun q4 n4 => ⟨q3, q4, _, _, rfl, rfl, upd_keep g3 n4, upd_same, ?_, fun q5 n5 => ?_⟩⟩
              · have := cutV_length ((topOf ns).map V.int) (some (0 + (i : Int) + 1)) none
                rw [List.length_map, tl] at this
                rw [List.length_append, List.length_map, List.length_take]
                exact Nat.le_of_lt (small1000 (by show (_ + 1) + _ ≤ 1000; omega))
              rw [c2] at n5
              rw [c2, glue]
              have s5 : Same H3 (upd (upd H4 q4 (.lst (((topOf ns).drop (i + 1)).map V.int))) q5 (.lst (((topOf ns).set i m).map V.int))) := same_new (same_new s4 n4) n5
              refine ⟨q5, _, rfl, .inl ⟨.inl (.inl upd_same), fun R nR => ?_⟩⟩
              generalize (upd (upd H4 q4 (.lst (((topOf ns).drop (i + 1)).map V.int))) q5 (.lst (((topOf ns).set i m).map V.int))) = H5 at s5 nR
              refine ⟨F0, _, _, rfl, rfl, upd_keep (s5 _ _ hF.1) nR, small1000 (by rw [List.length_map]; omega), ?_⟩
              exact put (.inr c) H5 R s5 nR (hF.same s5) (s5 _ _ hF.1)
            · have c : ¬ m ≤ e := fun x => c (decide_eq_true x)
              exact skip (fun z => z.elim ce c)
        · obtain ⟨⟨y5, y6, rfl⟩, ht, s3, hD3, L, hF, hL, hT⟩ := hpv
          exact ⟨⟨_, _, _, rfl⟩, s3, hD3, L, hF, by show _ ≤ 4 * (i + 1); have : L.length ≤ 4 * i + 4 := hL; omega, fun _ => hT (by show 3 < 4; omega)⟩
      · obtain ⟨⟨y4, y5, y6, rfl⟩, s2, hD2, L, hF, hL, hT⟩ := hpv
        exact ⟨_, rfl, q F0 L H2 hF (hT hw.1) (by omega) s2⟩
end
end My

/-! order and sums of wide bags -/
namespace Sh
open PySem PySem.Spec PyProof.Rows L2 RZ
theorem Drawn.wide {ns : List Int} (h : Drawn ns) (l1 : 1 ≤ ns.length) (l5 : ns.length ≤ 5) : Wide ns := ⟨l1, l5, fun n hn => (h n hn).1⟩
theorem BagIn.wide {b ns : List Int} (h : BagIn b ns) (w : Wide ns) : Wide b := ⟨by rw [h.1]; exact w.1, by rw [h.1]; exact w.2.1, fun n hn => by have := h.2.1 n hn; omega⟩
theorem fits_self {ns : List Int} (h : ∀ n ∈ ns, -1 ≤ n) : fitsB ns ns = true := fits_at.mpr fun i e m h1 h2 => by
  rw [h1] at h2
  cases h2
  have := h e (List.mem_of_getElem? h1)
  by_cases c : e = -1
  · exact fitE_iff.mpr (.inl c)
  · exact fitE_iff.mpr (.inr ⟨by omega, Int.le_refl _⟩)
theorem fits_trans {a b c : List Int} (hl : a.length = b.length) (h1 : fitsB a b = true) (h2 : fitsB b c = true) : fitsB a c = true := fits_at.mpr fun i e m he hm => by
  have hi : i < b.length := by rw [← hl]; exact (List.getElem?_eq_some_iff.mp he).1
  have hb : b[i]? = some b[i] := List.getElem?_eq_getElem hi
  have x := fitE_iff.mp (fits_at.mp h1 i e _ he hb)
  have y := fitE_iff.mp (fits_at.mp h2 i _ m hb hm)
  refine fitE_iff.mpr ?_
  rcases y with y | y
  · exact .inl y
  · rcases x with x | x
    · omega
    · exact .inr ⟨x.1, by omega⟩
/-- if the great bag is within, all is -/
theorem top_fits {ns ms : List Int} (hn : ∀ n ∈ ns, -1 ≤ n) (hm : Drawn ms) (h : fitsB (topOf ns) ms = true) : fitsB ns ms = true := fits_at.mpr fun i e m h1 h2 => by
  have h3 : (topOf ns)[i]? = some (topE e) := by
    unfold topOf
    rw [List.getElem?_map, h1]
    rfl
  have x := fitE_iff.mp (fits_at.mp h i _ m h3 h2)
  have he := hn e (List.mem_of_getElem? h1)
  have h4 := (hm m (List.mem_of_getElem? h2)).2
  refine fitE_iff.mpr ?_
  rcases x with x | x
  · exact .inl x
  · by_cases c : e = -1
    · exfalso
      unfold topE at x
      rw [if_pos c] at x
      have h5 : (10 : Int) ^ (39 : Int).toNat = 10 * 10 ^ 38 := by decide +kernel
      rw [h5] at x
      have h6 : (0 : Int) < 10 ^ 38 := by decide +kernel
      omega
    · unfold topE at x
      rw [if_neg c] at x
      exact .inr x
theorem all_within {ns ms : List Int} {L : List (Addr × List Int)} (hn : ∀ n ∈ ns, -1 ≤ n) (hm : Drawn ms) (hL : ∀ x ∈ L, BagIn x.2 ns) (ht : ∃ x ∈ L, x.2 = topOf ns) :
    ((L.filter fun x => !fitsB x.2 ms).map fun x => V.ref x.1).isEmpty = fitsB ns ms := by
  rw [List.isEmpty_map]
  cases h : fitsB ns ms with
  | true =>
    rw [List.isEmpty_iff, List.filter_eq_nil_iff]
    intro x hx
    have := hL x hx
    rw [fits_trans this.1 this.2.2 h]
    decide
  | false =>
    obtain ⟨x, hx, e⟩ := ht
    cases h2 : fitsB x.2 ms with
    | true =>
      rw [e] at h2
      rw [top_fits hn hm h2] at h
      cases h
    | false =>
      rw [Bool.eq_false_iff]
      intro c
      rw [List.isEmpty_iff, List.filter_eq_nil_iff] at c
      exact c x hx (by rw [h2]; rfl)
theorem none_out {ns : List Int} {L : List (Addr × List Int)} (hL : ∀ x ∈ L, BagIn x.2 ns) : ((L.filter fun x => !fitsB x.2 ns).map fun x => V.ref x.1) = [] := by
  rw [List.map_eq_nil_iff, List.filter_eq_nil_iff]
  intro x hx
  rw [(hL x hx).2.2]
  decide
theorem add_at {ns ms : List Int} {i : Nat} {e m : Int} (h1 : ns[i]? = some e) (h2 : ms[i]? = some m) : (addB ns ms)[i]? = some (addE e m) := by
  unfold addB
  rw [List.getElem?_map, show (ns.zip ms)[i]? = some (e, m) from List.getElem?_zip_eq_some.mpr ⟨h1, h2⟩]
  rfl
theorem add_len {ns ms : List Int} (h : ns.length = ms.length) : (addB ns ms).length = ns.length := by
  unfold addB
  rw [List.length_map, List.length_zip, h, Nat.min_self]
theorem addE_comm (e m : Int) : addE e m = addE m e := by
  unfold addE
  by_cases h : e = -1 ∨ m = -1
  · rw [if_pos h, if_pos h.symm]
  · rw [if_neg h, if_neg (fun c => h c.symm), Int.add_comm]
theorem addE_low {e m : Int} (h1 : -1 ≤ e) (h2 : -1 ≤ m) : -1 ≤ addE e m := by
  unfold addE
  split
  · omega
  · omega
theorem addE_any {e m : Int} (h1 : -1 ≤ e) (h2 : -1 ≤ m) : addE e m = -1 ↔ (e = -1 ∨ m = -1) := by
  unfold addE
  split
  · exact ⟨fun _ => by assumption, fun _ => rfl⟩
  · constructor
    · intro h
      omega
    · intro h
      exact absurd h (by assumption)
theorem addE_assoc {a b c : Int} (ha : -1 ≤ a) (hb : -1 ≤ b) (hc : -1 ≤ c) : addE (addE a b) c = addE a (addE b c) := by
  by_cases h1 : a = -1 ∨ b = -1
  · have : addE a b = -1 := (addE_any ha hb).mpr h1
    have h2 : addE (addE a b) c = -1 := (addE_any (addE_low ha hb) hc).mpr (.inl this)
    have h3 : addE a (addE b c) = -1 := (addE_any ha (addE_low hb hc)).mpr (h1.imp id fun z => (addE_any hb hc).mpr (.inl z))
    rw [h2, h3]
  · by_cases h2 : c = -1
    · have h3 : addE (addE a b) c = -1 := (addE_any (addE_low ha hb) hc).mpr (.inr h2)
      have h4 : addE a (addE b c) = -1 := (addE_any ha (addE_low hb hc)).mpr (.inr ((addE_any hb hc).mpr (.inr h2)))
      rw [h3, h4]
    · have h5 : ¬ (b = -1 ∨ c = -1) := fun z => z.elim (fun z => h1 (.inr z)) h2
      have e1 : addE a b = a + b := if_neg h1
      have e2 : addE b c = b + c := if_neg h5
      rw [e1, e2]
      unfold addE
      rw [if_neg (show ¬ (a + b = -1 ∨ c = -1) by omega), if_neg (show ¬ (a = -1 ∨ b + c = -1) by omega)]
      omega
theorem addB_comm {ns ms : List Int} (h : ns.length = ms.length) : addB ms ns = addB ns ms := by
  refine List.ext_getElem? fun i => ?_
  by_cases hi : i < ns.length
  · have z1 : ns[i]? = some ns[i] := List.getElem?_eq_getElem hi
    have z2 : ms[i]? = some (ms[i]'(by omega)) := List.getElem?_eq_getElem (by omega)
    rw [add_at z1 z2, add_at z2 z1, addE_comm]
  · rw [List.getElem?_eq_none (by rw [add_len h.symm]; omega), List.getElem?_eq_none (by rw [add_len h]; omega)]
theorem addB_assoc {a b c : List Int} (ha : ∀ n ∈ a, -1 ≤ n) (hb : ∀ n ∈ b, -1 ≤ n) (hc : ∀ n ∈ c, -1 ≤ n) (h1 : a.length = b.length) (h2 : b.length = c.length) : addB (addB a b) c = addB a (addB b c) := by
  refine List.ext_getElem? fun i => ?_
  by_cases hi : i < a.length
  · have z1 : a[i]? = some a[i] := List.getElem?_eq_getElem hi
    have z2 : b[i]? = some (b[i]'(by omega)) := List.getElem?_eq_getElem (by omega)
    have z3 : c[i]? = some (c[i]'(by omega)) := List.getElem?_eq_getElem (by omega)
    rw [add_at (add_at z1 z2) z3, add_at z1 (add_at z2 z3), addE_assoc (ha _ (List.mem_of_getElem? z1)) (hb _ (List.mem_of_getElem? z2)) (hc _ (List.mem_of_getElem? z3))]
  · have l1 := add_len h1
    have l2 := add_len h2
    rw [List.getElem?_eq_none (by rw [add_len (by omega)]; omega), List.getElem?_eq_none (by rw [add_len (by omega)]; omega)]
theorem add_low {ns ms : List Int} (h1 : ∀ n ∈ ns, -1 ≤ n) (h2 : ∀ n ∈ ms, -1 ≤ n) : ∀ n ∈ addB ns ms, -1 ≤ n := fun n hn => by
  unfold addB at hn
  obtain ⟨⟨e, m⟩, hp, rfl⟩ := List.mem_map.mp hn
  exact addE_low (h1 e (List.of_mem_zip hp).1) (h2 m (List.of_mem_zip hp).2)
theorem add_wide {ns ms : List Int} (h1 : Wide ns) (h2 : Wide ms) (h : ns.length = ms.length) : Wide (addB ns ms) := ⟨by rw [add_len h]; exact h1.1, by rw [add_len h]; exact h1.2.1, add_low h1.2.2 h2.2.2⟩
theorem fits_add {ns ms : List Int} (h1 : ∀ n ∈ ns, -1 ≤ n) (h2 : ∀ n ∈ ms, -1 ≤ n) (h : ns.length = ms.length) : fitsB ns (addB ns ms) = true := fits_at.mpr fun i e s he hs => by
  have hi : i < ms.length := by rw [← h]; exact (List.getElem?_eq_some_iff.mp he).1
  have z2 : ms[i]? = some ms[i] := List.getElem?_eq_getElem hi
  rw [add_at he z2] at hs
  cases hs
  have a := h1 e (List.mem_of_getElem? he)
  have b := h2 _ (List.mem_of_getElem? z2)
  refine fitE_iff.mpr ?_
  by_cases c : e = -1 ∨ ms[i] = -1
  · exact .inl ((addE_any a b).mpr c)
  · refine .inr ⟨by omega, ?_⟩
    unfold addE
    rw [if_neg c]
    omega
theorem ent_short {low : Int} {xs : List V} (h1 : 1 ≤ xs.length) (h5 : xs.length ≤ 5) : entOk low xs = (xs.map (entB low)).all id := by
  unfold entOk
  rw [decide_eq_true h1, decide_eq_true h5, Bool.true_and, Bool.true_and]
theorem ent_long {low : Int} {xs : List V} (h : ¬ (1 ≤ xs.length ∧ xs.length ≤ 5)) : entOk low xs = false := by
  unfold entOk
  by_cases h1 : 1 ≤ xs.length
  · rw [decide_eq_false (show ¬ xs.length ≤ 5 from fun c => h ⟨h1, c⟩), Bool.and_false, Bool.false_and]
  · rw [decide_eq_false h1, Bool.false_and, Bool.false_and]
end Sh

namespace My
open PySem PySem.Spec PyProof.Rows L2 RZ Sh
abbrev s_law_right : Stmt := topS 26
abbrev Nlaw_right : List Str := ["die", "size", "one", "other", "third", "some", "are_all", "due", "odd", "at", "bent", "value", "length", "is_short", "turn", "bag"]
theorem sc_law_right : FnScope Nlaw_right ["die"] (defScope s_law_right) := ⟨rfl, rfl, rfl, by decide +kernel, rfl, by decide +kernel, by decide +kernel⟩
section
variable {P : Program} {w : World} {K : PySem.W.Frag} {mg : Str → Option Value} {base : Heap}
theorem ok_right {f f0 f1 f2 f3 f4 f5 f6 f7 f8 f9 f10 f11 : Addr} {fd fd0 fd1 fd2 fd3 fd4 fd5 fd6 fd7 fd8 fd9 fd10 fd11 : FuncData} (F : Fun K "_law_right" "_law_right" s_law_right f fd)
    (G__law_cast : FnOk P w K mg base CX0 1 f0 fd0 ["die", "total"] spCast) (F__law_cast : Fun K "_law_cast" "_law_cast" s_law_cast f0 fd0) (b__law_cast : Binds K fd0 ["die", "total"] []) (g__law_cast : mg "_law_cast" = some (.ref f0))
    (G__law_pick : FnOk P w K mg base CX0 2 f1 fd1 ["die", "items"] (spPick K)) (F__law_pick : Fun K "_law_pick" "_law_pick" s_law_pick f1 fd1) (b__law_pick : Binds K fd1 ["die", "items"] []) (g__law_pick : mg "_law_pick" = some (.ref f1))
    (G__law_odd_one : FnOk P w K mg base CX0 3 f2 fd2 ["die"] spOdd) (F__law_odd_one : Fun K "_law_odd_one" "_law_odd_one" s_law_odd_one f2 fd2) (b__law_odd_one : Binds K fd2 ["die"] []) (g__law_odd_one : mg "_law_odd_one" = some (.ref f2))
    (G__law_any_wide : FnOk P w K mg base CX0 3 f3 fd3 ["die", "size"] spAnyWide) (F__law_any_wide : Fun K "_law_any_wide" "_law_any_wide" s_law_any_wide f3 fd3) (b__law_any_wide : Binds K fd3 ["die", "size"] []) (g__law_any_wide : mg "_law_any_wide" = some (.ref f3))
    (G__law_bags_in : FnOk P w K mg base CX0 1 f4 fd4 ["wide", "entry"] spBagsIn) (F__law_bags_in : Fun K "_law_bags_in" "_law_bags_in" s_law_bags_in f4 fd4) (b__law_bags_in : Binds K fd4 ["wide", "entry"] []) (g__law_bags_in : mg "_law_bags_in" = some (.ref f4))
    (G_within : FnOk P w K mg base CX0 5 f5 fd5 ["one", "other"] spFits) (F_within : Fun K "within" "within" s_within f5 fd5) (b_within : Binds K fd5 ["one", "other"] []) (g_within : mg "within" = some (.ref f5))
    (G_added : FnOk P w K mg base CX0 5 f6 fd6 ["one", "other"] spAdded) (F_added : Fun K "added" "added" s_added f6 fd6) (b_added : Binds K fd6 ["one", "other"] []) (g_added : mg "added" = some (.ref f6))
    (G__law_is_wider : FnOk P w K mg base CX0 1 f7 fd7 ["one", "other"] spWider) (F__law_is_wider : Fun K "_law_is_wider" "_law_is_wider" s_law_is_wider f7 fd7) (b__law_is_wider : Binds K fd7 ["one", "other"] []) (g__law_is_wider : mg "_law_is_wider" = some (.ref f7))
    (G__law_bent_tuple : FnOk P w K mg base CX0 3 f8 fd8 ["die", "items", "odd"] spBent) (F__law_bent_tuple : Fun K "_law_bent_tuple" "_law_bent_tuple" s_law_bent_tuple f8 fd8) (b__law_bent_tuple : Binds K fd8 ["die", "items", "odd"] []) (g__law_bent_tuple : mg "_law_bent_tuple" = some (.ref f8))
    (G_is_wide : FnOk P w K mg base CX0 3 f9 fd9 ["value"] (spEnt1 (-1))) (F_is_wide : Fun K "is_wide" "is_wide" s_is_wide f9 fd9) (b_is_wide : Binds K fd9 ["value"] []) (g_is_wide : mg "is_wide" = some (.ref f9))
    (G_is_bag : FnOk P w K mg base CX0 3 f10 fd10 ["value"] (spEnt1 0)) (F_is_bag : Fun K "is_bag" "is_bag" s_is_bag f10 fd10) (b_is_bag : Binds K fd10 ["value"] []) (g_is_bag : mg "is_bag" = some (.ref f10))
    (G__law_is_bag_of : FnOk P w K mg base CX0 1 f11 fd11 ["value", "size", "low"] spBagOf) (F__law_is_bag_of : Fun K "_law_is_bag_of" "_law_is_bag_of" s_law_is_bag_of f11 fd11) (b__law_is_bag_of : Binds K fd11 ["value", "size", "low"] []) (g__law_is_bag_of : mg "_law_is_bag_of" = some (.ref f11))
    (m_range : mg "range" = none) (m_isinstance : mg "isinstance" = none) (m_len : mg "len" = none) (m_tuple : mg "tuple" = none) :
    FnOk P w K mg base CX0 6 f fd ["die"] spRight := by
  refine F.ok sc_law_right (fun vs H Q E h => ?_) (fun cdv A outer s H vs Q E hr h => ?_)
  · obtain ⟨d, rfl, _⟩ := h
    rfl
  · obtain ⟨d, rfl, hD0, q⟩ := h
    refine ⟨_, (pss_cons (ps_set (i := 1) sc_law_right.nd rfl (by first | exact Or.inl rfl | exact Or.inr rfl) (pe_call G__law_pick (hr.mono (by decide)) (by rfl) g__law_pick F__law_pick.kp b__law_pick .nil pass0 (pa_cons (pv 0) (pa_cons (pe_lst (pa_cons pe_int (pa_cons pe_int (pa_cons pe_int (pa_cons pe_int (pa_cons pe_int pa_nil)))))) pa_nil))))
      (pss_cons (ps_asg (pe_lc (own := [("turn", 14)]) (g := (gName 14)) (tt := tYes) rfl sc_law_right.nd (pi_range1 rfl m_range (pa_cons pe_int pa_nil)) (blkOk_by (N := Nlaw_right) (sc := defScope s_law_right) (by decide +kernel))
      (fun _ _ _ _ _ => (pg_name (i := 14) sc_law_right.nd rfl (Or.inl rfl))) (fun _ _ _ _ _ => pts_nil) (fun _ _ _ _ _ => (pe_call G__law_any_wide (hr.mono (by decide)) (by rfl) g__law_any_wide F__law_any_wide.kp b__law_any_wide .nil pass0 (pa_cons (pv 0) (pa_cons (pv 1) pa_nil))))) (pg_unl rfl (pgs_cons (pg_name (i := 2) sc_law_right.nd rfl (by first | exact Or.inl rfl | exact Or.inr rfl)) (pgs_cons (pg_name (i := 3) sc_law_right.nd rfl (by first | exact Or.inl rfl | exact Or.inr rfl)) (pgs_cons (pg_name (i := 4) sc_law_right.nd rfl (by first | exact Or.inl rfl | exact Or.inr rfl)) pgs_nil)))))
      (pss_cons (ps_set (i := 5) sc_law_right.nd rfl (by first | exact Or.inl rfl | exact Or.inr rfl) (pe_call G__law_bags_in (hr.mono (by decide)) (by rfl) g__law_bags_in F__law_bags_in.kp b__law_bags_in .nil pass0 (pa_cons (pv 2) (pa_cons (pe_call G__law_cast (hr.mono (by decide)) (by rfl) g__law_cast F__law_cast.kp b__law_cast .nil pass0 (pa_cons (pv 0) (pa_cons pe_int pa_nil))) pa_nil))))
      (pss_cons (ps_if (PW.pt (pw_or (pt_cmpR (op_neNil hr.units) (pe_lc (own := [("bag", 15)]) (g := (gName 15)) rfl sc_law_right.nd (pi_list (pv 5)) (blkOk_by (N := Nlaw_right) (sc := defScope s_law_right) (by decide +kernel))
      (fun _ _ _ _ _ => (pg_name (i := 15) sc_law_right.nd rfl (Or.inl rfl))) (fun _ _ _ _ _ => (pts_one (pt_not (pt_val (pe_call G_within (hr.mono (by decide)) (by rfl) g_within F_within.kp b_within .nil pass0 (pa_cons (pv 15) (pa_cons (pv 2) pa_nil))))))) (fun _ _ _ _ _ => (pv 15))) (pe_lst pa_nil) (nomark _)) (pw_or1 (pt_not (pt_val (pe_call G_within (hr.mono (by decide)) (by rfl) g_within F_within.kp b_within .nil pass0 (pa_cons (pv 2) (pa_cons (pv 2) pa_nil))))))))
        (pss_one (ps_ret pe_bl))
        pss_nil)
      (pss_cons (ps_set (i := 6) sc_law_right.nd rfl (by first | exact Or.inl rfl | exact Or.inr rfl) (pe_cmpR (op_eqNil hr.units) (pe_lc (own := [("bag", 15)]) (g := (gName 15)) rfl sc_law_right.nd (pi_list (pv 5)) (blkOk_by (N := Nlaw_right) (sc := defScope s_law_right) (by decide +kernel))
      (fun _ _ _ _ _ => (pg_name (i := 15) sc_law_right.nd rfl (Or.inl rfl))) (fun _ _ _ _ _ => (pts_one (pt_not (pt_val (pe_call G_within (hr.mono (by decide)) (by rfl) g_within F_within.kp b_within .nil pass0 (pa_cons (pv 15) (pa_cons (pv 3) pa_nil))))))) (fun _ _ _ _ _ => (pv 15))) (pe_lst pa_nil) (nomark _)))
      (pss_cons (ps_if (PW.pt (pw_or (pt_cmpR op_ne (pe_call G_within (hr.mono (by decide)) (by rfl) g_within F_within.kp b_within .nil pass0 (pa_cons (pv 2) (pa_cons (pv 3) pa_nil))) (pv 6) (nomark _)) (pw_or1 (pt_cmpR op_ne (pv 6) (pe_call G__law_is_wider (hr.mono (by decide)) (by rfl) g__law_is_wider F__law_is_wider.kp b__law_is_wider .nil pass0 (pa_cons (pv 2) (pa_cons (pv 3) pa_nil))) (nomark _)))))
        (pss_one (ps_ret pe_bl))
        pss_nil)
      (C8.pss_cut (ps_if (PW.pt (pw_and (pt_val (pe_call G_within (hr.mono (by decide)) (by rfl) g_within F_within.kp b_within .nil pass0 (pa_cons (pv 2) (pa_cons (pv 3) pa_nil)))) (pw_and (pt_val (pe_call G_within (hr.mono (by decide)) (by rfl) g_within F_within.kp b_within .nil pass0 (pa_cons (pv 3) (pa_cons (pv 4) pa_nil)))) (pw_and1 (pt_not (pt_val (pe_call G_within (hr.mono (by decide)) (by rfl) g_within F_within.kp b_within .nil pass0 (pa_cons (pv 2) (pa_cons (pv 4) pa_nil)))))))))
        (pss_one (ps_ret pe_bl))
        pss_nil)
      (pss_cons (ps_set (i := 7) sc_law_right.nd rfl (by first | exact Or.inl rfl | exact Or.inr rfl) (pe_callTy call_tuple_of (by rfl) m_tuple (by decide +kernel) (pa_cons (pe_lc (own := [("at", 9)]) (g := (gName 9)) (tt := tYes) rfl sc_law_right.nd (pi_range1 rfl m_range (pa_cons (pv 1) pa_nil)) (blkOk_by (N := Nlaw_right) (sc := defScope s_law_right) (by decide +kernel))
      (fun _ _ _ _ _ => (pg_name (i := 9) sc_law_right.nd rfl (Or.inl rfl))) (fun _ _ _ _ _ => pts_nil) (fun _ _ _ _ _ => (pe_ifExp (pt_cmpR (r := rIn K false) op_in_seq (pe_un un_neg pe_int) (pe_tup (pa_cons (pe_ix (r := rIxT K) ix_tup (pv 2) (pv 9) (fun _ _ => rfl)) (pa_cons (pe_ix (r := rIxT K) ix_tup (pv 3) (pv 9) (fun _ _ => rfl)) pa_nil))) (by with_unfolding_all rfl)) (pe_un un_neg pe_int) (pe_op op_add (pe_ix (r := rIxT K) ix_tup (pv 2) (pv 9) (fun _ _ => rfl)) (pe_ix (r := rIxT K) ix_tup (pv 3) (pv 9) (fun _ _ => rfl)))))) pa_nil)))
      (pss_cons (ps_if (pt_cmpR (op_neTI hr.units) (pe_call G_added (hr.mono (by decide)) (by rfl) g_added F_added.kp b_added .nil pass0 (pa_cons (pv 2) (pa_cons (pv 3) pa_nil))) (pv 7) (nomark _))
        (pss_one (ps_ret pe_bl))
        pss_nil)
      (pss_cons (ps_if (pt_cmpR (op_neTI hr.units) (pe_call G_added (hr.mono (by decide)) (by rfl) g_added F_added.kp b_added .nil pass0 (pa_cons (pv 3) (pa_cons (pv 2) pa_nil))) (pv 7) (nomark _))
        (pss_one (ps_ret pe_bl))
        pss_nil)
      (pss_cons (ps_if (pt_not (pt_val (pe_call G_within (hr.mono (by decide)) (by rfl) g_within F_within.kp b_within .nil pass0 (pa_cons (pv 2) (pa_cons (pv 7) pa_nil)))))
        (pss_one (ps_ret pe_bl))
        pss_nil)
      (pss_cons (ps_if (pt_cmpR (op_neTI hr.units) (pe_call G_added (hr.mono (by decide)) (by rfl) g_added F_added.kp b_added .nil pass0 (pa_cons (pe_call G_added (hr.mono (by decide)) (by rfl) g_added F_added.kp b_added .nil pass0 (pa_cons (pv 2) (pa_cons (pv 3) pa_nil))) (pa_cons (pv 4) pa_nil))) (pe_call G_added (hr.mono (by decide)) (by rfl) g_added F_added.kp b_added .nil pass0 (pa_cons (pv 2) (pa_cons (pe_call G_added (hr.mono (by decide)) (by rfl) g_added F_added.kp b_added .nil pass0 (pa_cons (pv 3) (pa_cons (pv 4) pa_nil))) pa_nil))) (nomark _))
        (pss_one (ps_ret pe_bl))
        pss_nil)
      (pss_cons (ps_par (i := 8) (j := 9) rfl sc_law_right.nd rfl rfl (by decide) rfl rfl (pa_cons (pe_call G__law_odd_one (hr.mono (by decide)) (by rfl) g__law_odd_one F__law_odd_one.kp b__law_odd_one .nil pass0 (pa_cons (pv 0) pa_nil)) (pa_cons (pe_call G__law_cast (hr.mono (by decide)) (by rfl) g__law_cast F__law_cast.kp b__law_cast .nil pass0 (pa_cons (pv 0) (pa_cons (pv 1) pa_nil))) pa_nil)) rfl)
      (pss_cons (ps_set (i := 10) sc_law_right.nd rfl (by first | exact Or.inl rfl | exact Or.inr rfl) (pe_call G__law_bent_tuple (hr.mono (by decide)) (by rfl) g__law_bent_tuple F__law_bent_tuple.kp b__law_bent_tuple .nil pass0 (pa_cons (pv 0) (pa_cons (pv 2) (pa_cons (pv 8) pa_nil)))))
      (pss_cons (ps_for PassesOwn.never rfl (pi_list (pe_lst (pa_cons (pv 2) (pa_cons (pv 10) (pa_cons (pe_op op_catW (pv 2) (pv 3)) (pa_cons (pe_tup pa_nil) (pa_cons (pe_lst (pa_cons pe_int pa_nil)) (pa_cons (pe_call G__law_odd_one (hr.mono (by decide)) (by rfl) g__law_odd_one F__law_odd_one.kp b__law_odd_one .nil pass0 (pa_cons (pv 0) pa_nil)) (pa_cons (pe_op op_catW (pe_op op_catW (pe_slice sl_tupW (pv 2) po_none (po_some (pv 9))) (pe_tup (pa_cons (pe_un un_neg pe_int) pa_nil))) (pe_slice sl_tupW (pv 2) (po_some (pe_op op_add (pv 9) pe_int)) po_none)) pa_nil))))))))) (pg_name (i := 11) sc_law_right.nd rfl (by first | exact Or.inl rfl | exact Or.inr rfl))
        (pss_cons (ps_set (i := 12) sc_law_right.nd rfl (by first | exact Or.inl rfl | exact Or.inr rfl) (pe_ifExp (pt_val (pe_callB call_isi (by rfl) m_isinstance (by decide +kernel) (pa_cons (pv 11) (pa_cons (pe_bltn (v := .ty "tuple") (by rfl) m_tuple (by decide +kernel) rfl) pa_nil)))) (pe_callB call_len_seq (by rfl) m_len (by decide +kernel) (pa_cons (pv 11) pa_nil)) pe_int))
        (pss_cons (ps_set (i := 13) sc_law_right.nd rfl (by first | exact Or.inl rfl | exact Or.inr rfl) (pe_chain op_lt op_lt pe_int (pv 12) pe_int))
        (pss_cons (ps_if (pt_cmpR op_ne (pe_call G_is_wide (hr.mono (by decide)) (by rfl) g_is_wide F_is_wide.kp b_is_wide .nil pass0 (pa_cons (pv 11) pa_nil)) (pe_and (pv 13) (pe_one (pe_call G__law_is_bag_of (hr.mono (by decide)) (by rfl) g__law_is_bag_of F__law_is_bag_of.kp b__law_is_bag_of .nil pass0 (pa_cons (pv 11) (pa_cons (pv 12) (pa_cons (pe_un un_neg pe_int) pa_nil)))))) (nomark _))
          (pss_one (ps_ret pe_bl))
          pss_nil)
        (pss_one (ps_if (pt_cmpR op_ne (pe_call G_is_bag (hr.mono (by decide)) (by rfl) g_is_bag F_is_bag.kp b_is_bag .nil pass0 (pa_cons (pv 11) pa_nil)) (pe_and (pv 13) (pe_one (pe_call G__law_is_bag_of (hr.mono (by decide)) (by rfl) g__law_is_bag_of F__law_is_bag_of.kp b__law_is_bag_of .nil pass0 (pa_cons (pv 11) (pa_cons (pv 12) (pa_cons pe_int pa_nil)))))) (nomark _))
          (pss_one (ps_ret pe_bl))
          pss_nil))))))
      (pss_one (ps_ret pe_bl))))))))))))))))), ?_⟩
    -- size
    refine ⟨_, rfl, len_ok, fun M mM => ⟨d, hD0.new mM, .inl ⟨M, _, rfl, hD0.free mM, .inl (.inl (.inl upd_same)), List.cons_ne_nil _ _, Nat.lt_of_le_of_lt (Nat.le_of_ble_eq_true (show Nat.ble _ 1000 = true from rfl)) (by decide), fun j v H1 hj hN1 => ?_⟩⟩⟩
    have hv : ∃ n : Nat, v = .int n ∧ 1 ≤ n ∧ n ≤ 5 := by
      have hm := List.mem_of_getElem? hj
      clear hj
      revert v
      exact all_cons ⟨2, rfl, by decide, by decide⟩ (all_cons ⟨3, rfl, by decide, by decide⟩ (all_cons ⟨1, rfl, by decide, by decide⟩ (all_cons ⟨5, rfl, by decide, by decide⟩ (all_cons ⟨4, rfl, by decide, by decide⟩ all_nil))))
    obtain ⟨n, rfl, n1, n5⟩ := hv
    have b1 : But d H H1 := ((But.refl d H).new mM).trans hN1.but
    have hD1 : DieAt H1 d := hN1.die
    clear hN1 hj mM hD0
    -- one, other, third
    refine ⟨3, rfl, by decide, by decide, fun D hD => ?_⟩
    have nD : D ≠ d := hD1.free hD
    refine lc_range (lo := 0) (n := 3) (fun i H2 => ∃ Ls : List (Addr × List Int), Ls.length = i ∧ (∀ x ∈ Ls, H2 x.1 = some (.tup (x.2.map V.int)) ∧ x.2.length = n ∧ Drawn x.2) ∧ H2 D = some (.lst (Ls.map fun x => V.ref x.1)) ∧ DieAt H2 d ∧ But d H1 H2) ⟨[], rfl, (fun _ h => by cases h), upd_same, hD1.new hD, (But.refl d H1).new hD⟩ (fun i H2 hi hp => ?_) (fun H2 hp => ?_)
    · obtain ⟨Ls, hlen, hx, hl, hDe, hb⟩ := hp
      refine ⟨rfl, _, rfl, _, rfl, d, n, rfl, hDe, n5, fun p H3 ns hns hdr hp hb3 hD3 => ⟨_, hb3 _ _ nD hl, ?_, Ls ++ [(p, ns)], ?_, fun x hx' => ?_, ?_, hD3.put nD, (hb.trans hb3).put hD⟩⟩
      · rw [List.length_map, hlen]
        exact small1000 (by omega)
      · rw [List.length_append, hlen]
        rfl
      · have up : ∀ r xs, H3 r = some (.tup xs) → upd H3 D (.lst ((Ls.map fun x => V.ref x.1) ++ [.ref p])) r = some (.tup xs) := fun r xs hr => tup_upl (hb3 _ _ nD hl) hr
        rcases List.mem_append.mp hx' with hx' | hx'
        · exact ⟨up _ _ (But.tup hDe hb3 (hx x hx').1), (hx x hx').2⟩
        · rw [List.mem_singleton.mp hx']
          exact ⟨up _ _ hp, hns, hdr⟩
      · rw [upd_same, List.map_append]
        rfl
    · obtain ⟨Ls, hlen, hx, hl, hDe, hb⟩ := hp
      obtain ⟨⟨p1, a⟩, ⟨p2, b⟩, ⟨p3, c⟩, rfl⟩ : ∃ x y z, Ls = [x, y, z] := by
        match Ls, hlen with
        | [x, y, z], _ => exact ⟨x, y, z, rfl⟩
      obtain ⟨g1, la, da⟩ := hx _ List.mem_cons_self
      obtain ⟨g2, lb, db⟩ := hx _ (List.mem_cons_of_mem _ List.mem_cons_self)
      obtain ⟨g3, lc', dc⟩ := hx _ (List.mem_cons_of_mem _ (List.mem_cons_of_mem _ List.mem_cons_self))
      simp only at g1 la da g2 lb db g3 lc' dc
      have wa : Wide a := da.wide (by omega) (by omega)
      have wb : Wide b := db.wide (by omega) (by omega)
      have wc : Wide c := dc.wide (by omega) (by omega)
      have b2 : But d H H2 := b1.trans hb
      clear hb b1 hx hD
      refine ⟨D, _, rfl, .inl (.inl hl), rfl, _, _, rfl, _, _, rfl, _, _, rfl, rfl, ?_⟩
      clear hl
      -- some = _law_bags_in(one, _law_cast(die, 5))
      refine ⟨_, rfl, _, rfl, d, 5, rfl, hDe, by decide, by decide, fun r H3 hr1 hN3 => ?_⟩
      have e1 := hN3.tup hDe g1
      have e2 := hN3.tup hDe g2
      have e3 := hN3.tup hDe g3
      have b3 : But d H H3 := b2.trans hN3.but
      have hD3 : DieAt H3 d := hN3.die
      clear hN3 g1 g2 g3 b2 hDe
      refine ⟨p1, a, r, rfl, e1, wa, by omega, fun S Lb H4 hF hT hL20 s4 => ?_⟩
      have k1 := s4 _ _ e1
      have k2 := s4 _ _ e2
      have k3 := s4 _ _ e3
      have b4 : But d H H4 := b3.same s4
      have hD4 : DieAt H4 d := hD3.same s4
      clear s4 b3 hD3 e1 e2 e3
      have wbag : ∀ x ∈ Lb, Wide x.2 := fun x hx => ((hF.2 x hx).2).wide wa
      -- bags that are not within another one
      refine ⟨_, rfl, S, rfl, ⟨_, .inl (.inl hF.1)⟩, fun D5 hD5 => ?_⟩
      refine lc_list (xs := Lb.map fun x => V.ref x.1) (fun i H5 => Same H4 H5 ∧ H5 D5 = some (.lst (((Lb.take i).filter fun x => !fitsB x.2 a).map fun x => V.ref x.1))) ⟨same_new (Same.refl H4) hD5, upd_same⟩ (fun i H5 _ hp => .inl (.inl (hp.1 _ _ hF.1))) (fun i x H5 hx hp => ?_) (fun H5 hp => ?_)
      · obtain ⟨s5, hl5⟩ := hp
        have hi : i < Lb.length := by
          have := (List.getElem?_eq_some_iff.mp hx).1
          rw [List.length_map] at this
          exact this
        have z1 : Lb[i]? = some Lb[i] := List.getElem?_eq_getElem hi
        generalize Lb[i] = y at z1
        rw [List.getElem?_map, z1] at hx
        cases hx
        have hy : y ∈ Lb := List.mem_of_getElem? z1
        have tk : (Lb.take (i + 1)).filter (fun x => !fitsB x.2 a) = (Lb.take i).filter (fun x => !fitsB x.2 a) ++ [y].filter (fun x => !fitsB x.2 a) := by
          rw [List.take_add_one, z1, List.filter_append]
          rfl
        refine ⟨rfl, _, rfl, _, rfl, y.2, a, ⟨y.1, p1, rfl, s5 _ _ (hF.2 y hy).1, s5 _ _ k1, wbag y hy, wa, by have := (hF.2 y hy).2.1; omega⟩, fun H6 s6 => ⟨_, rfl, ?_⟩⟩
        cases hf : fitsB y.2 a with
        | true =>
          refine ⟨s5.trans s6, ?_⟩
          rw [s6 _ _ hl5, tk, List.filter_cons, hf]
          simp
        | false =>
          refine ⟨_, rfl, _, s6 _ _ hl5, ?_, same_put (s5.trans s6) hD5, ?_⟩
          · rw [List.length_map]
            refine Nat.lt_of_le_of_lt (List.length_filter_le _ _) ?_
            rw [List.length_take]
            exact small1000 (Nat.le_trans (Nat.min_le_left _ _) (by omega))
          · rw [upd_same, tk, List.map_append, List.filter_cons, hf]
            rfl
      · obtain ⟨s5, hl5⟩ := hp
        rw [List.take_of_length_le (by rw [List.length_map]; exact Nat.le_refl _), none_out fun x hx => (hF.2 x hx).2] at hl5
        refine ⟨Nat.zero_le _, fun N5 hN5 => ⟨D5, N5, [], rfl, rfl, .inl (.inl (upd_keep hl5 hN5)), .inl (.inl upd_same), _, rfl, iteF ?_⟩⟩
        have s6 : Same H4 (upd H5 N5 (.lst [])) := same_new s5 hN5
        generalize upd H5 N5 (.lst []) = H6 at s6
        refine ⟨_, rfl, _, rfl, a, a, ⟨p1, p1, rfl, s6 _ _ k1, s6 _ _ k1, wa, wa, rfl⟩, fun H7 s7 => ⟨_, rfl, ?_⟩⟩
        rw [fits_self wa.2.2]
        refine iteF ?_
        have s47 : Same H4 H7 := s6.trans s7
        clear s6 s7 hN5 hl5 hD5 s5
        -- are_all
        refine ⟨_, rfl, S, rfl, ⟨_, .inl (.inl (s47 _ _ hF.1))⟩, fun D5 hD5 => ?_⟩
        refine lc_list (xs := Lb.map fun x => V.ref x.1) (fun i H5 => Same H4 H5 ∧ H5 D5 = some (.lst (((Lb.take i).filter fun x => !fitsB x.2 b).map fun x => V.ref x.1))) ⟨same_new s47 hD5, upd_same⟩ (fun i H5 _ hp => .inl (.inl (hp.1 _ _ hF.1))) (fun i x H5 hx hp => ?_) (fun H5 hp => ?_)
        · have hD5 : H4 D5 = none := s47.free hD5
          obtain ⟨s5, hl5⟩ := hp
          have hi : i < Lb.length := by
            have := (List.getElem?_eq_some_iff.mp hx).1
            rw [List.length_map] at this
            exact this
          have z1 : Lb[i]? = some Lb[i] := List.getElem?_eq_getElem hi
          generalize Lb[i] = y at z1
          rw [List.getElem?_map, z1] at hx
          cases hx
          have hy : y ∈ Lb := List.mem_of_getElem? z1
          have tk : (Lb.take (i + 1)).filter (fun x => !fitsB x.2 b) = (Lb.take i).filter (fun x => !fitsB x.2 b) ++ [y].filter (fun x => !fitsB x.2 b) := by
            rw [List.take_add_one, z1, List.filter_append]
            rfl
          refine ⟨rfl, _, rfl, _, rfl, y.2, b, ⟨y.1, p2, rfl, s5 _ _ (hF.2 y hy).1, s5 _ _ k2, wbag y hy, wb, by have := (hF.2 y hy).2.1; omega⟩, fun H6 s6 => ⟨_, rfl, ?_⟩⟩
          cases hf : fitsB y.2 b with
          | true =>
            refine ⟨s5.trans s6, ?_⟩
            rw [s6 _ _ hl5, tk, List.filter_cons, hf]
            simp
          | false =>
            refine ⟨_, rfl, _, s6 _ _ hl5, ?_, same_put (s5.trans s6) hD5, ?_⟩
            · rw [List.length_map]
              refine Nat.lt_of_le_of_lt (List.length_filter_le _ _) ?_
              rw [List.length_take]
              exact small1000 (Nat.le_trans (Nat.min_le_left _ _) (by omega))
            · rw [upd_same, tk, List.map_append, List.filter_cons, hf]
              rfl
        · obtain ⟨s5, hl5⟩ := hp
          rw [List.take_of_length_le (by rw [List.length_map]; exact Nat.le_refl _)] at hl5
          have hall := all_within wa.2.2 db (fun x hx => (hF.2 x hx).2) hT
          refine ⟨Nat.zero_le _, fun N5 hN5 => ⟨D5, N5, _, rfl, rfl, .inl (.inl (upd_keep hl5 hN5)), .inl (.inl upd_same), ?_⟩⟩
          rw [hall]
          have s6 : Same H4 (upd H5 N5 (.lst [])) := same_new s5 hN5
          generalize upd H5 N5 (.lst []) = H6 at s6
          clear hl5 hN5 s5 hD5 s47
          -- within(one, other) != are_all or ..
          refine ⟨_, rfl, _, rfl, a, b, ⟨p1, p2, rfl, s6 _ _ k1, s6 _ _ k2, wa, wb, by omega⟩, fun H8 s8 => ⟨_, rfl, rfl, _, rfl, ?_⟩⟩
          have z1 : (!decide (V.bl (fitsB a b) = V.bl (fitsB a b))) = false := by simp
          rw [z1]
          refine iteF ⟨_, rfl, _, rfl, _, rfl, p1, p2, a, b, rfl, (s6.trans s8) _ _ k1, (s6.trans s8) _ _ k2, by omega, by omega, wa.2.2, rfl, _, rfl, ?_⟩
          rw [z1]
          refine iteF ?_
          have s48 : Same H4 H8 := s6.trans s8
          clear s6 s8 z1
          -- within(one, other) and within(other, third) and not within(one, third)
          refine ⟨fun σ' H' => σ' = [some (.ref d), some (.int n), some (.ref p1), some (.ref p2), some (.ref p3), some (.ref S), some (.bl (fitsB a b)), none, none, none, none, none, none, none, none, none] ∧ Same H4 H', ?_, fun σ' H9 hM => ?_⟩
          · refine ⟨_, rfl, _, rfl, a, b, ⟨p1, p2, rfl, s48 _ _ k1, s48 _ _ k2, wa, wb, by omega⟩, fun H9 s9 => ⟨_, rfl, ?_⟩⟩
            cases fab : fitsB a b with
            | false => exact iteF ⟨rfl, s48.trans s9⟩
            | true =>
              refine iteT ⟨_, rfl, _, rfl, b, c, ⟨p2, p3, rfl, (s48.trans s9) _ _ k2, (s48.trans s9) _ _ k3, wb, wc, by omega⟩, fun H10 s10 => ⟨_, rfl, ?_⟩⟩
              cases fbc : fitsB b c with
              | false => exact iteF ⟨rfl, (s48.trans s9).trans s10⟩
              | true =>
                refine iteT ⟨_, rfl, _, rfl, a, c, ⟨p1, p3, rfl, ((s48.trans s9).trans s10) _ _ k1, ((s48.trans s9).trans s10) _ _ k3, wa, wc, by omega⟩, fun H11 s11 => ⟨_, rfl, ?_⟩⟩
                rw [fits_trans (by omega) fab fbc]
                exact iteF ⟨rfl, ((s48.trans s9).trans s10).trans s11⟩
          obtain ⟨rfl, s49⟩ := hM
          clear s48
          have hD9 : DieAt H9 d := hD4.same s49
          have zz : ∀ xs : List Int, (!decide (xs = xs)) = false := fun xs => by simp
          have lab : (addB a b).length = a.length := add_len (by omega)
          have lbc : (addB b c).length = b.length := add_len (by omega)
          have wab : Wide (addB a b) := add_wide wa wb (by omega)
          have wbc : Wide (addB b c) := add_wide wb wc (by omega)
          -- due
          refine ⟨_, rfl, (n : Int), rfl, by omega, by omega, fun D6 hD6 => ?_⟩
          refine lc_range (lo := 0) (n := n) (fun i H5 => Same H9 H5 ∧ H5 D6 = some (.lst (((addB a b).take i).map V.int))) ⟨same_new (Same.refl H9) hD6, upd_same⟩ (fun i H5 hi hp => ?_) (fun H5 hp => ?_)
          · obtain ⟨s5, hl5⟩ := hp
            have z1 : a[i]? = some (a[i]'(by omega)) := List.getElem?_eq_getElem (by omega)
            have z2 : b[i]? = some (b[i]'(by omega)) := List.getElem?_eq_getElem (by omega)
            generalize a[i]'(by omega) = e at z1
            generalize b[i]'(by omega) = m at z2
            have z3 := add_at z1 z2
            have a1 : atI (a.map V.int) (0 + (i : Int)) = some (.int e) := by rw [Int.zero_add]; exact atI_nat (by rw [List.getElem?_map, z1]; rfl)
            have a2 : atI (b.map V.int) (0 + (i : Int)) = some (.int m) := by rw [Int.zero_add]; exact atI_nat (by rw [List.getElem?_map, z2]; rfl)
            have h1 := (s49.trans s5) _ _ k1
            have h2 := (s49.trans s5) _ _ k2
            refine ⟨rfl, 1, rfl, _, rfl, _, rfl, p1, _, _, _, rfl, rfl, .inl (.inl h1), a1, _, rfl, _, rfl, p2, _, _, _, rfl, rfl, .inl (.inl h2), a2, len_ok, fun T nT => ?_⟩
            have hl6 := upd_keep (o := .tup [.int e, .int m]) hl5 nT
            have s6 : Same H9 (upd H5 T (.tup [.int e, .int m])) := same_new s5 nT
            have fin : ∀ y, y = addE e m → ∃ acc, (upd H5 T (.tup [.int e, .int m])) D6 = some (.lst acc) ∧ acc.length < sizeLine ∧ (Same H9 (upd (upd H5 T (.tup [.int e, .int m])) D6 (.lst (acc ++ [V.int y]))) ∧ (upd (upd H5 T (.tup [.int e, .int m])) D6 (.lst (acc ++ [V.int y]))) D6 = some (.lst (((addB a b).take (i + 1)).map V.int))) := fun y hy => by
              refine ⟨_, hl6, ?_, same_put s6 hD6, ?_⟩
              · rw [List.length_map, List.length_take]
                exact small1000 (Nat.le_trans (Nat.min_le_left _ _) (by omega))
              · rw [upd_same, hy, List.take_add_one, z3, List.map_append]
                rfl
            refine ⟨T, _, rfl, .inr (.inl (.inl upd_same)), rfl, rfl, _, rfl, ite2 (fun e1 => ⟨1, rfl, fin _ ?_⟩) (fun e1 => ⟨_, rfl, _, rfl, p1, _, _, _, rfl, rfl, .inl (.inl (upd_keep h1 nT)), a1, _, rfl, _, rfl, p2, _, _, _, rfl, rfl, .inl (.inl (upd_keep h2 nT)), a2, e, m, rfl, rfl, fin _ ?_⟩)⟩
            · have h1 : e = -1 ∨ m = -1 := by
                have := (show (eqV (.int e) (.int (-1)) || (eqV (.int m) (.int (-1)) || false)) = true from e1)
                rw [Bool.or_false, Bool.or_eq_true] at this
                exact this.imp eq_of_beq eq_of_beq
              unfold addE
              rw [if_pos h1]
            · have h1 : ¬ (e = -1 ∨ m = -1) := fun c => e1 (by
                show (eqV (.int e) (.int (-1)) || (eqV (.int m) (.int (-1)) || false)) = true
                rw [Bool.or_false, Bool.or_eq_true]
                rcases c with rfl | rfl
                · exact .inl (by decide)
                · exact .inr (by decide))
              unfold addE
              rw [if_neg h1]
          · obtain ⟨s5, hl5⟩ := hp
            rw [List.take_of_length_le (by omega)] at hl5
            refine ⟨D6, _, rfl, .inl ⟨.inl (.inl hl5), fun U nU => ?_⟩⟩
            have gU : upd H5 U (.tup ((addB a b).map V.int)) U = some (.tup ((addB a b).map V.int)) := upd_same
            have s9 : Same H9 (upd H5 U (.tup ((addB a b).map V.int))) := same_new s5 nU
            show tSeq _ _ _ [_, _, _, _, _, _, _, some (.ref U), _, _, _, _, _, _, _, _] (upd H5 U (.tup ((addB a b).map V.int)))
            generalize upd H5 U (.tup ((addB a b).map V.int)) = H10 at s9 gU
            have t1 : Same H4 H10 := s49.trans s9
            have hD10 : DieAt H10 d := hD9.same s9
            clear nU hl5 s5 hD6 s9 hD9
            -- added(one, other) != due
            refine ⟨_, rfl, _, rfl, a, b, ⟨p1, p2, rfl, t1 _ _ k1, t1 _ _ k2, wa, wb, by omega⟩, fun r1 H11 s11 g11 => ⟨_, rfl, r1, U, _, _, rfl, rfl, .inl (.inl g11), .inl (.inl (s11 _ _ gU)), _, rfl, ?_⟩⟩
            rw [zz]
            refine iteF ?_
            have t2 := t1.trans s11
            have gU1 := s11 _ _ gU
            -- added(other, one) != due
            refine ⟨_, rfl, _, rfl, b, a, ⟨p2, p1, rfl, t2 _ _ k2, t2 _ _ k1, wb, wa, by omega⟩, fun r2 H12 s12 g12 => ⟨_, rfl, r2, U, _, _, rfl, rfl, .inl (.inl g12), .inl (.inl (s12 _ _ gU1)), _, rfl, ?_⟩⟩
            rw [addB_comm (show a.length = b.length by omega), zz]
            refine iteF ?_
            have t3 := t2.trans s12
            have gU2 := s12 _ _ gU1
            -- within(one, due)
            refine ⟨_, rfl, _, rfl, a, addB a b, ⟨p1, U, rfl, t3 _ _ k1, gU2, wa, wab, by omega⟩, fun H13 s13 => ⟨_, rfl, ?_⟩⟩
            rw [fits_add wa.2.2 wb.2.2 (by omega)]
            refine iteF ?_
            have t4 := t3.trans s13
            -- the sums of three
            refine ⟨_, rfl, _, rfl, a, b, ⟨p1, p2, rfl, t4 _ _ k1, t4 _ _ k2, wa, wb, by omega⟩, fun r3 H14 s14 g14 => ⟨_, rfl, addB a b, c, ⟨r3, p3, rfl, g14, (t4.trans s14) _ _ k3, wab, wc, by omega⟩, fun r4 H15 s15 g15 => ?_⟩⟩
            have t5 := (t4.trans s14).trans s15
            refine ⟨_, rfl, _, rfl, _, rfl, b, c, ⟨p2, p3, rfl, t5 _ _ k2, t5 _ _ k3, wb, wc, by omega⟩, fun r5 H16 s16 g16 => ⟨a, addB b c, ⟨p1, r5, rfl, (t5.trans s16) _ _ k1, g16, wa, wbc, by omega⟩, fun r6 H17 s17 g17 => ⟨r4, r6, _, _, rfl, rfl, .inl (.inl ((s16.trans s17) _ _ g15)), .inl (.inl g17), _, rfl, ?_⟩⟩⟩
            rw [addB_assoc wa.2.2 wb.2.2 wc.2.2 (by omega) (by omega), zz]
            refine iteF ?_
            have t6 : Same H4 H17 := (t5.trans s16).trans s17
            have hD17 : DieAt H17 d := hD4.same t6
            have b17 : But d H H17 := b4.same t6
            have m1 := t6 _ _ k1
            have m2 := t6 _ _ k2
            clear s11 s12 s13 s14 s15 s16 s17 g11 g12 g14 g15 g16 g17 gU gU1 gU2 t1 t2 t3 t4 t5 t6 hD10 s49 k1 k2 k3 hD4 b4 hF
            -- odd, at
            refine ⟨_, rfl, d, rfl, hD17, fun ov H18 hO18 bb18 hD18 => ⟨_, rfl, _, rfl, d, n, rfl, hD18, by omega, by omega, fun at_ H19 hat hN19 => ⟨_, _, rfl, ?_⟩⟩⟩
            have m1' := hN19.tup hD18 (But.tup hD17 bb18 m1)
            have m2' := hN19.tup hD18 (But.tup hD17 bb18 m2)
            have hO19 : Val H19 ov := (Odd.val hO18).die hD18 hN19
            have hD19 := hN19.die
            have b19 : But d H H19 := (b17.trans bb18).trans hN19.but
            clear hO18 bb18 hD18 hN19 hD17 b17 m1 m2
            -- bent
            refine ⟨_, rfl, _, rfl, _, rfl, d, p1, ov, a, rfl, hD19, m1', (fun z => by rw [z] at la; simp at la; omega), by omega, hO19, fun bv H20 hV20 bb20 hD20 => ?_⟩
            have q1 := But.tup hD19 bb20 m1'
            have q2 := But.tup hD19 bb20 m2'
            have b20 : But d H H20 := b19.trans bb20
            clear m1' m2' bb20 b19 hD19 hO19
            have sz : ∀ {n : Nat}, n ≤ 900 → n ≤ sizeLine := fun h => Nat.le_of_lt (small1000 (by omega))
            have la' : (a.map V.int).length = a.length := List.length_map _
            have lb' : (b.map V.int).length = b.length := List.length_map _
            have cl : ∀ lo hi, (cutV (a.map V.int) lo hi).length ≤ 5 := fun lo hi => by
              have := cutV_length (a.map V.int) lo hi
              omega
            -- the seven values
            refine ⟨_, rfl, _, rfl, _, rfl, _, rfl, p1, p2, _, _, rfl, rfl, q1, q2, sz (by omega), fun c1 H21 s21 g21 => ⟨len_ok, fun t0 n0 => ⟨len_ok, fun l0 nl0 => ⟨_, rfl, d, rfl, ((hD20.same s21).new n0).new nl0, fun w2 H22 hO22 bb22 hD22 => ?_⟩⟩⟩⟩
            have s20 : Same H20 (upd (upd H21 t0 (.tup [])) l0 (.lst [.int 0])) := same_new (same_new s21 n0) nl0
            have hd21 : DieAt (upd (upd H21 t0 (.tup [])) l0 (.lst [.int 0])) d := hD20.same s20
            have x1 := But.tup hd21 bb22 (s20 _ _ q1)
            have xc := But.tup hd21 bb22 (upd_keep (upd_keep g21 n0) nl0)
            have xt := But.tup hd21 bb22 (upd_keep (o := .lst [.int 0]) (upd_same (H := H21) (a := t0) (o := .tup [])) nl0)
            have xl : H22 l0 = some (.lst [.int 0]) := bb22 _ _ (((hD20.same s21).new n0).free nl0) upd_same
            have xb : Val H22 bv := (hV20.same s20).but hd21 bb22 hD22
            have b22 : But d H H22 := (b20.same s20).trans bb22
            clear s20 hd21 bb22 q1 q2 hV20 g21 n0 nl0 s21 hD20 b20
            refine ⟨_, rfl, _, rfl, (at_ : Int), rfl, p1, _, rfl, x1, fun e1 E1 r1 y1 => ⟨2, rfl, len_ok, fun t2 n2 => ⟨e1, t2, _, _, rfl, rfl, upd_keep y1 n2, upd_same, sz (by have := cl none (some (at_ : Int)); show _ + 1 ≤ 900; omega), fun e2 E2 r2 y2 => ?_⟩⟩⟩
            have rE2 : Same H22 E2 := (r1.trans (same_new (Same.refl E1) n2)).trans r2
            refine ⟨_, rfl, _, rfl, _, _, rfl, rfl, (at_ : Int) + 1, rfl, p1, _, rfl, rE2 _ _ x1, fun e3 E3 r3 y3 => ⟨e2, e3, _, _, rfl, rfl, r3 _ _ y2, y3, sz (by have := cl none (some (at_ : Int)); have := cl (some ((at_ : Int) + 1)) none; rw [List.length_append]; show (_ + 1) + _ ≤ 900; omega), fun e4 E4 r4 y4 => ⟨len_ok, fun S7 nS7 => ?_⟩⟩⟩
            have rE4 : Same H22 E4 := (rE2.trans r3).trans r4
            have v1 : Val E4 (.ref p1) := val_tup (rE4 _ _ x1) wa.len ints_kn
            have v2 : Val E4 bv := xb.same rE4
            have v3 : Val E4 (.ref c1) := val_tup (rE4 _ _ xc) (by rw [List.length_append]; omega) fun x hx => by
              rcases List.mem_append.mp hx with hx | hx
              · exact ints_kn x hx
              · exact ints_kn x hx
            have v4 : Val E4 (.ref t0) := val_tup (rE4 _ _ xt) (Nat.zero_le _) fun x hx => by cases hx
            have v5 : Val E4 (.ref l0) := val_lst (rE4 _ _ xl)
            have v6 : Val E4 w2 := (Odd.val hO22).same rE4
            have v7 : Val E4 (.ref e4) := val_tup y4 (by have := cl none (some (at_ : Int)); have := cl (some ((at_ : Int) + 1)) none; rw [List.length_append, List.length_append]; show (_ + 1) + _ ≤ 1000; omega) fun x hx => by
              simp only [List.mem_append, List.mem_singleton] at hx
              rcases hx with (hx | hx) | hx
              · exact ints_kn x (cutV_sub hx)
              · rw [hx]
                exact kn_int _ _
              · exact ints_kn x (cutV_sub hx)
            have hJ : ∀ x ∈ [.ref p1, bv, .ref c1, .ref t0, .ref l0, w2, .ref e4], Val E4 x := all_cons v1 (all_cons v2 (all_cons v3 (all_cons v4 (all_cons v5 (all_cons v6 (all_cons v7 all_nil))))))
            have sS : Same E4 (upd E4 S7 (.lst [.ref p1, bv, .ref c1, .ref t0, .ref l0, w2, .ref e4])) := same_new (Same.refl E4) nS7
            have bS : But d H (upd E4 S7 (.lst [.ref p1, bv, .ref c1, .ref t0, .ref l0, w2, .ref e4])) := (b22.same rE4).same sS
            have dS : DieAt (upd E4 S7 (.lst [.ref p1, bv, .ref c1, .ref t0, .ref l0, w2, .ref e4])) d := (hD22.same rE4).same sS
            have gS : upd E4 S7 (.lst [.ref p1, bv, .ref c1, .ref t0, .ref l0, w2, .ref e4]) S7 = some (.lst [.ref p1, bv, .ref c1, .ref t0, .ref l0, w2, .ref e4]) := upd_same
            generalize upd E4 S7 (.lst [.ref p1, bv, .ref c1, .ref t0, .ref l0, w2, .ref e4]) = HS at sS bS dS gS
            clear v1 v2 v3 v4 v5 v6 v7 rE4 rE2 r1 r2 r3 r4 y1 y2 y3 y4 n2 x1 xc xt xl xb hO22 hD22 b22
            refine ⟨S7, rfl, ⟨_, .inl (.inl gS)⟩, for_list (xs := [.ref p1, bv, .ref c1, .ref t0, .ref l0, w2, .ref e4]) (fun i σ H' => (∃ u1 u2 u3 u4 u5 u6 u7 u8 u9 u10 u11 u12 u13 u14 u15, σ = [some (.ref d), u1, u2, u3, u4, u5, u6, u7, u8, u9, u10, u11, u12, u13, u14, u15]) ∧ Same HS H') ⟨⟨_, _, _, _, _, _, _, _, _, _, _, _, _, _, _, rfl⟩, Same.refl HS⟩ (fun i σ H' _ hp => .inl (.inl (hp.2 _ _ gS))) (fun i x σ H' hx hp => ?_) (fun σ H' hp => ?_)⟩
            · obtain ⟨⟨u1, u2, u3, u4, u5, u6, u7, u8, u9, u10, u11, u12, u13, u14, u15, rfl⟩, sm⟩ := hp
              have hv : Val H' x := (hJ x (List.mem_of_getElem? hx)).same (sS.trans sm)
              rcases hv with hN | ⟨px, xs, rfl, hpx, hlx, hkx⟩
              · obtain ⟨T, hT', h1, _⟩ := hN.ty (K := K)
                refine ⟨_, rfl, _, _, _, _, false, rfl, .ty "tuple", hT', kit_ty h1, _, rfl, iteF ?_⟩
                refine ⟨_, rfl, 0, 0, rfl, rfl, _, rfl, iteF ?_⟩
                refine ⟨_, rfl, x, rfl, .inl ⟨hN, fun H30 s30 => ⟨_, rfl, _, rfl, iteF ⟨rfl, _, rfl, iteF ?_⟩⟩⟩⟩
                refine ⟨_, rfl, x, rfl, .inl ⟨hN.same s30, fun H31 s31 => ⟨_, rfl, _, rfl, iteF ⟨rfl, _, rfl, iteF ?_⟩⟩⟩⟩
                exact ⟨⟨_, _, _, _, _, _, _, _, _, _, _, _, _, _, _, rfl⟩, (sm.trans s30).trans s31⟩
              · refine ⟨_, rfl, _, _, _, _, true, rfl, .ty "tuple", .base (.tup hpx), kit_ty (by decide +kernel), _, rfl, iteT ?_⟩
                refine ⟨_, rfl, px, xs, rfl, .inr (.inl (.inl hpx)), ?_⟩
                by_cases hl : 1 ≤ xs.length ∧ xs.length ≤ 5
                · refine ⟨_, rfl, 0, _, rfl, rfl, _, rfl, ?_⟩
                  have d1 : decide ((0 : Int) < ((xs.length : Nat) : Int)) = true := decide_eq_true (by omega)
                  have d2 : decide (((xs.length : Nat) : Int) < 6) = true := decide_eq_true (by omega)
                  rw [d1]
                  refine iteT ⟨_, 6, rfl, rfl, ?_⟩
                  show gName 13 (.bl (decide (((xs.length : Nat) : Int) < 6))) _ _ _
                  rw [d2]
                  have same : ∀ low, (decide (xs.length = xs.length) && (xs.map (entB low)).all id) = entOk low xs := fun low => by rw [decide_eq_true rfl, Bool.true_and, ent_short hl.1 hl.2]
                  refine ⟨_, rfl, .ref px, rfl, .inr ⟨px, xs, rfl, hpx, hlx, hkx, fun H30 s30 => ⟨_, rfl, _, rfl, iteT ⟨_, rfl, _, rfl, 1, rfl, .ref px, xs.length, -1, rfl, .inr ⟨px, xs, rfl, s30 _ _ hpx, hlx, fun y hy => (hkx y hy).same s30, fun H31 s31 => ?_⟩⟩⟩⟩⟩
                  rw [same]
                  refine ⟨rfl, _, rfl, ?_⟩
                  rw [decide_eq_true rfl]
                  refine iteF ?_
                  have s3 := s30.trans s31
                  refine ⟨_, rfl, .ref px, rfl, .inr ⟨px, xs, rfl, s3 _ _ hpx, hlx, fun y hy => (hkx y hy).same s3, fun H32 s32 => ⟨_, rfl, _, rfl, iteT ⟨_, rfl, _, rfl, .ref px, xs.length, 0, rfl, .inr ⟨px, xs, rfl, (s3.trans s32) _ _ hpx, hlx, fun y hy => (hkx y hy).same (s3.trans s32), fun H33 s33 => ?_⟩⟩⟩⟩⟩
                  rw [same]
                  refine ⟨rfl, _, rfl, ?_⟩
                  rw [decide_eq_true rfl]
                  refine iteF ?_
                  exact ⟨⟨_, _, _, _, _, _, _, _, _, _, _, _, _, _, _, rfl⟩, (sm.trans s3).trans (s32.trans s33)⟩
                · have long : ∀ low, entOk low xs = false := fun low => ent_long hl
                  by_cases h0 : 1 ≤ xs.length
                  · refine ⟨_, rfl, 0, _, rfl, rfl, _, rfl, ?_⟩
                    have d1 : decide ((0 : Int) < ((xs.length : Nat) : Int)) = true := decide_eq_true (by omega)
                    have d2 : decide (((xs.length : Nat) : Int) < 6) = false := decide_eq_false (by omega)
                    rw [d1]
                    refine iteT ⟨_, 6, rfl, rfl, ?_⟩
                    show gName 13 (.bl (decide (((xs.length : Nat) : Int) < 6))) _ _ _
                    rw [d2]
                    refine ⟨_, rfl, .ref px, rfl, .inr ⟨px, xs, rfl, hpx, hlx, hkx, fun H30 s30 => ⟨_, rfl, _, rfl, iteF ⟨rfl, _, rfl, ?_⟩⟩⟩⟩
                    rw [long (-1)]
                    refine iteF ?_
                    refine ⟨_, rfl, .ref px, rfl, .inr ⟨px, xs, rfl, s30 _ _ hpx, hlx, fun y hy => (hkx y hy).same s30, fun H31 s31 => ⟨_, rfl, _, rfl, iteF ⟨rfl, _, rfl, ?_⟩⟩⟩⟩
                    rw [long 0]
                    refine iteF ?_
                    exact ⟨⟨_, _, _, _, _, _, _, _, _, _, _, _, _, _, _, rfl⟩, (sm.trans s30).trans s31⟩
                  · refine ⟨_, rfl, 0, _, rfl, rfl, _, rfl, ?_⟩
                    have d1 : decide ((0 : Int) < ((xs.length : Nat) : Int)) = false := decide_eq_false (by omega)
                    rw [d1]
                    refine iteF ?_
                    refine ⟨_, rfl, .ref px, rfl, .inr ⟨px, xs, rfl, hpx, hlx, hkx, fun H30 s30 => ⟨_, rfl, _, rfl, iteF ⟨rfl, _, rfl, ?_⟩⟩⟩⟩
                    rw [long (-1)]
                    refine iteF ?_
                    refine ⟨_, rfl, .ref px, rfl, .inr ⟨px, xs, rfl, s30 _ _ hpx, hlx, fun y hy => (hkx y hy).same s30, fun H31 s31 => ⟨_, rfl, _, rfl, iteF ⟨rfl, _, rfl, ?_⟩⟩⟩⟩
                    rw [long 0]
                    refine iteF ?_
                    exact ⟨⟨_, _, _, _, _, _, _, _, _, _, _, _, _, _, _, rfl⟩, (sm.trans s30).trans s31⟩
            · obtain ⟨⟨u1, u2, u3, u4, u5, u6, u7, u8, u9, u10, u11, u12, u13, u14, u15, rfl⟩, sm⟩ := hp
              exact q H' (bS.same sm) (dS.same sm)
end
end My

namespace My
open PySem PySem.Spec PyProof.Rows L2 RZ Sh
abbrev s_law : Stmt := topS 27
abbrev Nlaw : List Str := ["script", "at", "die", "told"]
theorem sc_law : FnScope Nlaw ["script"] (defScope s_law) := ⟨rfl, rfl, rfl, by decide +kernel, rfl, by decide +kernel, by decide +kernel⟩
section
variable {P : Program} {w : World} {K : PySem.W.Frag} {mg : Str → Option Value} {base : Heap}
theorem ok_law {f f0 f1 f2 f3 f4 f5 : Addr} {fd fd0 fd1 fd2 fd3 fd4 fd5 : FuncData} (F : Fun K "law" "law" s_law f fd)
    (G__law_numbers : FnOk P w K mg base CX0 1 f0 fd0 ["script", "at"] (spNumbers K)) (F__law_numbers : Fun K "_law_numbers" "_law_numbers" s_law_numbers f0 fd0) (b__law_numbers : Binds K fd0 ["script", "at"] []) (g__law_numbers : mg "_law_numbers" = some (.ref f0))
    (G__law_right : FnOk P w K mg base CX0 6 f1 fd1 ["die"] spRight) (F__law_right : Fun K "_law_right" "_law_right" s_law_right f1 fd1) (b__law_right : Binds K fd1 ["die"] []) (g__law_right : mg "_law_right" = some (.ref f1))
    (G_within : FnOk P w K mg base CX0 5 f2 fd2 ["one", "other"] spFits) (F_within : Fun K "within" "within" s_within f2 fd2) (b_within : Binds K fd2 ["one", "other"] []) (g_within : mg "within" = some (.ref f2))
    (G_added : FnOk P w K mg base CX0 5 f3 fd3 ["one", "other"] spAdded) (F_added : Fun K "added" "added" s_added f3 fd3) (b_added : Binds K fd3 ["one", "other"] []) (g_added : mg "added" = some (.ref f3))
    (G_is_wide : FnOk P w K mg base CX0 3 f4 fd4 ["value"] (spEnt1 (-1))) (F_is_wide : Fun K "is_wide" "is_wide" s_is_wide f4 fd4) (b_is_wide : Binds K fd4 ["value"] []) (g_is_wide : mg "is_wide" = some (.ref f4))
    (G_is_bag : FnOk P w K mg base CX0 3 f5 fd5 ["value"] (spEnt1 0)) (F_is_bag : Fun K "is_bag" "is_bag" s_is_bag f5 fd5) (b_is_bag : Binds K fd5 ["value"] []) (g_is_bag : mg "is_bag" = some (.ref f5))
    {tk : Tok} (g_ANY : mg "ANY" = some (.int (-1) tk)) (m_range : mg "range" = none) (m_len : mg "len" = none) (m_max : mg "max" = none) (m_min : mg "min" = none) :
    FnOk P w K mg base CX0 7 f fd ["script"] (spLaw K) := by
  refine F.ok sc_law (fun vs H Q E h => ?_) (fun cdv A outer s H vs Q E hr h => ?_)
  · obtain ⟨a, ns, rfl, _⟩ := h
    rfl
  · obtain ⟨a, ns, rfl, hS, h63, q⟩ := h
    refine ⟨_, (pss_cons (ps_for PassesOwn.never rfl (pi_range1 rfl m_range (pa_cons (pe_callB (call_max2 rfl) (by rfl) m_max (by decide +kernel) (pa_cons pe_int (pa_cons (pe_callB (call_min2 rfl) (by rfl) m_min (by decide +kernel) (pa_cons pe_int (pa_cons (pe_callB call_len_seq (by rfl) m_len (by decide +kernel) (pa_cons (pv 0) pa_nil)) pa_nil))) pa_nil))) pa_nil)) (pg_name (i := 1) sc_law.nd rfl (by first | exact Or.inl rfl | exact Or.inr rfl))
        (pss_cons (ps_set (i := 2) sc_law.nd rfl (by first | exact Or.inl rfl | exact Or.inr rfl) (pe_call G__law_numbers (hr.mono (by decide)) (by rfl) g__law_numbers F__law_numbers.kp b__law_numbers .nil pass0 (pa_cons (pv 0) (pa_cons (pv 1) pa_nil))))
        (pss_one (ps_if (PW.pt (pw_or (pt_not (pt_val (pe_call G__law_right (hr.mono (by decide)) (by rfl) g__law_right F__law_right.kp b__law_right .nil pass0 (pa_cons (pv 2) pa_nil)))) (pw_or1 (pt_not (pt_val (pe_call G__law_right (hr.mono (by decide)) (by rfl) g__law_right F__law_right.kp b__law_right .nil pass0 (pa_cons (pv 2) pa_nil)))))))
          (pss_one (ps_ret pe_bl))
          pss_nil))))
      (pss_cons (ps_set (i := 3) sc_law.nd rfl (by first | exact Or.inl rfl | exact Or.inr rfl) (pe_lst (pa_cons (pe_glob (v := .int (-1)) rfl g_ANY ⟨_, rfl⟩) (pa_cons (pe_call G_within (hr.mono (by decide)) (by rfl) g_within F_within.kp b_within .nil pass0 (pa_cons (pe_tup (pa_cons pe_int (pa_cons (pe_un un_neg pe_int) pa_nil))) (pa_cons (pe_tup (pa_cons (pe_un un_neg pe_int) (pa_cons (pe_un un_neg pe_int) pa_nil))) pa_nil))) (pa_cons (pe_call G_within (hr.mono (by decide)) (by rfl) g_within F_within.kp b_within .nil pass0 (pa_cons (pe_tup (pa_cons (pe_un un_neg pe_int) pa_nil)) (pa_cons (pe_tup (pa_cons (pe_op op_powB pe_int pe_int) pa_nil)) pa_nil))) (pa_cons (pe_call G_within (hr.mono (by decide)) (by rfl) g_within F_within.kp b_within .nil pass0 (pa_cons (pe_tup (pa_cons pe_int (pa_cons pe_int pa_nil))) (pa_cons (pe_tup (pa_cons pe_int (pa_cons pe_int pa_nil))) pa_nil))) (pa_cons (pe_call G_added (hr.mono (by decide)) (by rfl) g_added F_added.kp b_added .nil pass0 (pa_cons (pe_tup (pa_cons (pe_un un_neg pe_int) pa_nil)) (pa_cons (pe_tup (pa_cons pe_int pa_nil)) pa_nil))) pa_nil)))))))
      (pss_cons (ps_set (i := 3) sc_law.nd rfl (by first | exact Or.inl rfl | exact Or.inr rfl) (pe_op op_cat (pv 3) (pe_lst (pa_cons (pe_call G_is_bag (hr.mono (by decide)) (by rfl) g_is_bag F_is_bag.kp b_is_bag .nil pass0 (pa_cons (pe_op (r := rRepT K) op_repT (pe_tup (pa_cons pe_int pa_nil)) pe_int) pa_nil)) (pa_cons (pe_call G_is_bag (hr.mono (by decide)) (by rfl) g_is_bag F_is_bag.kp b_is_bag .nil pass0 (pa_cons (pe_op (r := rRepT K) op_repT (pe_tup (pa_cons pe_int pa_nil)) pe_int) pa_nil)) (pa_cons (pe_call G_is_wide (hr.mono (by decide)) (by rfl) g_is_wide F_is_wide.kp b_is_wide .nil pass0 (pa_cons (pe_tup (pa_cons pe_bl pa_nil)) pa_nil)) (pa_cons (pe_call G_is_wide (hr.mono (by decide)) (by rfl) g_is_wide F_is_wide.kp b_is_wide .nil pass0 (pa_cons (pe_tup (pa_cons (pe_un un_neg pe_int) pa_nil)) pa_nil)) (pa_cons (pe_call G_is_bag (hr.mono (by decide)) (by rfl) g_is_bag F_is_bag.kp b_is_bag .nil pass0 (pa_cons (pe_tup (pa_cons (pe_un un_neg pe_int) (pa_cons pe_int pa_nil))) pa_nil)) pa_nil))))))))
      (pss_one (ps_ret (pe_cmpR (op_eqD hr.units) (pv 3) (pe_lst (pa_cons (pe_un un_neg pe_int) (pa_cons pe_bl (pa_cons pe_bl (pa_cons pe_bl (pa_cons (pe_tup (pa_cons (pe_un un_neg pe_int) pa_nil)) (pa_cons pe_bl (pa_cons pe_bl (pa_cons pe_bl (pa_cons pe_bl (pa_cons pe_bl pa_nil))))))))))) (nomark _))))))), ?_⟩
    have hb := turns_ok (c := 10) (n := (ns.map V.int).length) (by rw [List.length_map]; exact h63) (by decide) (by decide)
    refine ⟨.ref a, rfl, a, ns.map V.int, rfl, .inl hS, 10, _, rfl, 1, _, rfl, _, rfl, hb.1, hb.2, for_range (lo := 0)
      (fun k σ H' => (∃ y1 y2 y3, σ = [some (.ref a), y1, y2, y3]) ∧ Same H H') ⟨⟨_, _, _, rfl⟩, Same.refl H⟩ (fun k σ H' _ hp => ?_) (fun σ H' hp => ?_)⟩
    · obtain ⟨⟨y1, y2, y3, rfl⟩, sm⟩ := hp
      refine ⟨.ref a, rfl, _, rfl, a, ns, 0 + (k : Int), rfl, by omega, sm.seq hS, fun p x y np => ?_⟩
      have np0 : H p = none := sm.free np
      refine ⟨.ref p, rfl, p, rfl, ⟨_, _, _, upd_same⟩, fun H3 hb3 hD3 => ⟨true, rfl, iteF ⟨.ref p, rfl, p, rfl, hD3, fun H4 hb4 hD4 => ⟨true, rfl, iteF ?_⟩⟩⟩⟩
      exact ⟨⟨_, _, _, rfl⟩, Same.but (same_new sm np) np0 (hb3.trans hb4)⟩
    · obtain ⟨⟨y1, y2, y3, rfl⟩, sm⟩ := hp
      clear hb sm hS
      have wd : ∀ ns : List Int, (decide (1 ≤ ns.length) && decide (ns.length ≤ 5) && ns.all fun n => decide (-1 ≤ n)) = true → Wide ns := fun ns h => by
        rw [Bool.and_eq_true, Bool.and_eq_true, decide_eq_true_iff, decide_eq_true_iff, List.all_eq_true] at h
        exact ⟨h.1.1, h.1.2, fun n hn => of_decide_eq_true (h.2 n hn)⟩
      refine ⟨1, rfl, len_ok, fun a1 n1 => ⟨1, rfl, 1, rfl, len_ok, fun a2 n2 => ⟨[0, -1], [-1, -1], ⟨a1, a2, rfl, upd_keep upd_same n2, upd_same, wd _ (by decide), wd _ (by decide), rfl⟩, fun H1 s1 => ?_⟩⟩⟩
      refine ⟨1, rfl, len_ok, fun a3 n3 => ⟨10, 39, rfl, rfl, ⟨by decide, by decide +kernel⟩, len_ok, fun a4 n4 => ⟨[-1], [10 ^ (39 : Int).toNat], ⟨a3, a4, rfl, upd_keep upd_same n4, upd_same, wd _ (by decide), wd _ (by decide +kernel), rfl⟩, fun H2 s2 => ?_⟩⟩⟩
      refine ⟨len_ok, fun a5 n5 => ⟨len_ok, fun a6 n6 => ⟨[5, 0], [5, 0], ⟨a5, a6, rfl, upd_keep upd_same n6, upd_same, wd _ (by decide), wd _ (by decide), rfl⟩, fun H3 s3 => ?_⟩⟩⟩
      refine ⟨1, rfl, len_ok, fun a7 n7 => ⟨len_ok, fun a8 n8 => ⟨[-1], [0], ⟨a7, a8, rfl, upd_keep upd_same n8, upd_same, wd _ (by decide), wd _ (by decide), rfl⟩, fun r H4 s4 gr => ⟨len_ok, fun T1 nT1 => ?_⟩⟩⟩⟩
      have gr1 := upd_keep (o := .lst [.int (-1), .bl (fitsB [0, -1] [-1, -1]), .bl (fitsB [-1] [10 ^ (39 : Int).toNat]), .bl (fitsB [5, 0] [5, 0]), .ref r]) gr nT1
      have gT1 : upd H4 T1 (.lst [.int (-1), .bl (fitsB [0, -1] [-1, -1]), .bl (fitsB [-1] [10 ^ (39 : Int).toNat]), .bl (fitsB [5, 0] [5, 0]), .ref r]) T1 = some (.lst [.int (-1), .bl (fitsB [0, -1] [-1, -1]), .bl (fitsB [-1] [10 ^ (39 : Int).toNat]), .bl (fitsB [5, 0] [5, 0]), .ref r]) := upd_same
      show tSeq _ _ _ [_, _, _, some (.ref T1)] (upd H4 T1 (.lst [.int (-1), .bl (fitsB [0, -1] [-1, -1]), .bl (fitsB [-1] [10 ^ (39 : Int).toNat]), .bl (fitsB [5, 0] [5, 0]), .ref r]))
      generalize upd H4 T1 (.lst [.int (-1), .bl (fitsB [0, -1] [-1, -1]), .bl (fitsB [-1] [10 ^ (39 : Int).toNat]), .bl (fitsB [5, 0] [5, 0]), .ref r]) = H5 at gr1 gT1
      clear gr s4 s3 s2 s1 nT1 n1 n2 n3 n4 n5 n6 n7 n8
      refine ⟨_, rfl, len_ok, fun b1 m1 => ⟨b1, 5, [.int 0], rfl, rfl, .inl (.inl upd_same), List.cons_ne_nil _ _, by decide, by decide, by decide, fun b2 m2 => ⟨.ref b2, rfl, .inr ⟨b2, [.int 0, .int 0, .int 0, .int 0, .int 0], rfl, upd_same, by decide, ints_kn (ns := [0, 0, 0, 0, 0]), fun H6 s6 => ?_⟩⟩⟩⟩
      have u6 : Same H5 H6 := (same_new (same_new (Same.refl H5) m1) m2).trans s6
      refine ⟨len_ok, fun b3 m3 => ⟨b3, 6, [.int 0], rfl, rfl, .inl (.inl upd_same), List.cons_ne_nil _ _, by decide, by decide, by decide, fun b4 m4 => ⟨.ref b4, rfl, .inr ⟨b4, [.int 0, .int 0, .int 0, .int 0, .int 0, .int 0], rfl, upd_same, by decide, ints_kn (ns := [0, 0, 0, 0, 0, 0]), fun H7 s7 => ?_⟩⟩⟩⟩
      have u7 : Same H5 H7 := u6.trans ((same_new (same_new (Same.refl H6) m3) m4).trans s7)
      refine ⟨len_ok, fun b5 m5 => ⟨.ref b5, rfl, .inr ⟨b5, [.bl true], rfl, upd_same, by decide, all_cons (.inl (.inr (.inr (.inl ⟨true, rfl⟩)))) all_nil, fun H8 s8 => ?_⟩⟩⟩
      have u8 : Same H5 H8 := u7.trans ((same_new (Same.refl H7) m5).trans s8)
      refine ⟨2, rfl, len_ok, fun b6 m6 => ⟨.ref b6, rfl, .inr ⟨b6, [.int (-2)], rfl, upd_same, by decide, ints_kn (ns := [-2]), fun H9 s9 => ?_⟩⟩⟩
      have u9 : Same H5 H9 := u8.trans ((same_new (Same.refl H8) m6).trans s9)
      refine ⟨1, rfl, len_ok, fun b7 m7 => ⟨.ref b7, rfl, .inr ⟨b7, [.int (-1), .int 0], rfl, upd_same, by decide, ints_kn (ns := [-1, 0]), fun H10 s10 => ?_⟩⟩⟩
      have u10 : Same H5 H10 := u9.trans ((same_new (Same.refl H9) m7).trans s10)
      refine ⟨len_ok, fun T2 nT2 => ⟨T1, T2, _, _, rfl, rfl, upd_keep (u10 _ _ gT1) nT2, upd_same, Nat.le_of_lt (small1000 (Nat.le_of_ble_eq_true rfl)), fun T3 nT3 => ?_⟩⟩
      refine ⟨_, rfl, 1, rfl, 1, rfl, len_ok, fun t nt => ⟨len_ok, fun M nM => ?_⟩⟩
      refine ⟨.list [.int (-1), .bool (fitsB [0, -1] [-1, -1]), .bool (fitsB [-1] [10 ^ (39 : Int).toNat]), .bool (fitsB [5, 0] [5, 0]), .tuple [.int (-1)], .bool (entOk 0 [.int 0, .int 0, .int 0, .int 0, .int 0]), .bool (entOk 0 [.int 0, .int 0, .int 0, .int 0, .int 0, .int 0]), .bool (entOk (-1) [.bl true]), .bool (entOk (-1) [.int (-2)]), .bool (entOk 0 [.int (-1), .int 0])],
        .list [.int (-1), .bool true, .bool false, .bool true, .tuple [.int (-1)], .bool true, .bool false, .bool false, .bool false, .bool false], .lst (.inl (.inl (upd_keep (upd_keep upd_same nt) nM))) ?_, .lst (.inl (.inl upd_same)) ?_, by decide +kernel, by decide +kernel, ?_⟩
      · exact .cons (.int _) (.cons (.bl _) (.cons (.bl _) (.cons (.bl _) (.cons (.tup (.inl (.inl (upd_keep (upd_keep (upd_keep (upd_keep (u10 _ _ gr1) nT2) nT3) nt) nM))) (.cons (.int (-1)) .nil)) (.cons (.bl _) (.cons (.bl _) (.cons (.bl _) (.cons (.bl _) (.cons (.bl _) .nil)))))))))
      · exact .cons (.int _) (.cons (.bl _) (.cons (.bl _) (.cons (.bl _) (.cons (.tup (.inl (.inl (upd_keep upd_same nM))) (.cons (.int (-1)) .nil)) (.cons (.bl _) (.cons (.bl _) (.cons (.bl _) (.cons (.bl _) (.cons (.bl _) .nil)))))))))
      · have e : PyData.eqv (.list [.int (-1), .bool (fitsB [0, -1] [-1, -1]), .bool (fitsB [-1] [10 ^ (39 : Int).toNat]), .bool (fitsB [5, 0] [5, 0]), .tuple [.int (-1)], .bool (entOk 0 [.int 0, .int 0, .int 0, .int 0, .int 0]), .bool (entOk 0 [.int 0, .int 0, .int 0, .int 0, .int 0, .int 0]), .bool (entOk (-1) [.bl true]), .bool (entOk (-1) [.int (-2)]), .bool (entOk 0 [.int (-1), .int 0])])
          (.list [.int (-1), .bool true, .bool false, .bool true, .tuple [.int (-1)], .bool true, .bool false, .bool false, .bool false, .bool false]) = true := by decide +kernel
        rw [e]
        exact q _
end
end My

namespace My
open PySem PySem.Spec PyProof.Rows L2 RZ Sh
theorem all_mk {l : PySem.W.OpenLaw} {w : World} {K : PySem.W.Frag} {h : Heap} {mg : Str → Option Value} {fa f0 f1 f2 f3 f4 f5 f6 f7 f8 f9 f10 f11 f12 f13 f14 f15 f16 f17 f18 f19 : Addr} (X : K.In h) (G : h.Ns mainGlobals mg) (hfa : mg "law" = some (.ref fa))
    {od0 an0 od1 an1 od2 an2 od3 an3 od4 an4 od5 an5 od6 an6 od7 an7 od8 an8 od9 an9 od10 an10 od11 an11 od12 an12 od13 an13 od14 an14 od15 an15 od16 an16 od17 an17 od18 an18 od19 an19 : Option Addr} {sl0 sl1 sl2 sl3 sl4 sl5 sl6 sl7 sl8 sl9 sl10 sl11 sl12 sl13 sl14 sl15 sl16 sl17 sl18 sl19 : Array (Option Value)} {oc0 kV0 dc0 pm0 cd0 ct0 oc1 kV1 dc1 pm1 cd1 ct1 oc2 kV2 dc2 pm2 cd2 ct2 oc3 kV3 dc3 pm3 cd3 ct3 oc4 kV4 dc4 pm4 cd4 ct4 oc5 kV5 dc5 pm5 cd5 ct5 oc6 kV6 dc6 pm6 cd6 ct6 oc7 kV7 dc7 pm7 cd7 ct7 oc8 kV8 dc8 pm8 cd8 ct8 oc9 kV9 dc9 pm9 cd9 ct9 oc10 kV10 dc10 pm10 cd10 ct10 oc11 kV11 dc11 pm11 cd11 ct11 oc12 kV12 dc12 pm12 cd12 ct12 oc13 kV13 dc13 pm13 cd13 ct13 oc14 kV14 dc14 pm14 cd14 ct14 oc15 kV15 dc15 pm15 cd15 ct15 oc16 kV16 dc16 pm16 cd16 ct16 oc17 kV17 dc17 pm17 cd17 ct17 oc18 kV18 dc18 pm18 cd18 ct18 oc19 kV19 dc19 pm19 cd19 ct19 : Value}
    {tk_ANY tk_MOST_PROCEDURES : Tok}
    (a0 : PySem.W.nsIn K mainGlobals "is_integer" = some (some (.ref f0))) (l0 : K.lookup f0 = some ⟨oc0, od0, .func (PySem.W.fnOf "is_integer" "is_integer" (defArgs s_is_integer) (defBody s_is_integer) (defScope s_is_integer) .none kV0 dc0 pm0 an0 cd0 ct0), sl0⟩) (c0 : PySem.W.codeIn K cd0 "is_integer" = true) (k0 : PySem.W.keepIn K (.ref f0) = true)
    (a1 : PySem.W.nsIn K mainGlobals "has_entries" = some (some (.ref f1))) (l1 : K.lookup f1 = some ⟨oc1, od1, .func (PySem.W.fnOf "has_entries" "has_entries" (defArgs s_has_entries) (defBody s_has_entries) (defScope s_has_entries) .none kV1 dc1 pm1 an1 cd1 ct1), sl1⟩) (c1 : PySem.W.codeIn K cd1 "has_entries" = true) (k1 : PySem.W.keepIn K (.ref f1) = true)
    (a2 : PySem.W.nsIn K mainGlobals "is_bag" = some (some (.ref f2))) (l2 : K.lookup f2 = some ⟨oc2, od2, .func (PySem.W.fnOf "is_bag" "is_bag" (defArgs s_is_bag) (defBody s_is_bag) (defScope s_is_bag) .none kV2 dc2 pm2 an2 cd2 ct2), sl2⟩) (c2 : PySem.W.codeIn K cd2 "is_bag" = true) (k2 : PySem.W.keepIn K (.ref f2) = true)
    (a3 : PySem.W.nsIn K mainGlobals "is_wide" = some (some (.ref f3))) (l3 : K.lookup f3 = some ⟨oc3, od3, .func (PySem.W.fnOf "is_wide" "is_wide" (defArgs s_is_wide) (defBody s_is_wide) (defScope s_is_wide) .none kV3 dc3 pm3 an3 cd3 ct3), sl3⟩) (c3 : PySem.W.codeIn K cd3 "is_wide" = true) (k3 : PySem.W.keepIn K (.ref f3) = true)
    (a4 : PySem.W.nsIn K mainGlobals "check_pair" = some (some (.ref f4))) (l4 : K.lookup f4 = some ⟨oc4, od4, .func (PySem.W.fnOf "check_pair" "check_pair" (defArgs s_check_pair) (defBody s_check_pair) (defScope s_check_pair) .none kV4 dc4 pm4 an4 cd4 ct4), sl4⟩) (c4 : PySem.W.codeIn K cd4 "check_pair" = true) (k4 : PySem.W.keepIn K (.ref f4) = true)
    (a5 : PySem.W.nsIn K mainGlobals "fits" = some (some (.ref f5))) (l5 : K.lookup f5 = some ⟨oc5, od5, .func (PySem.W.fnOf "fits" "fits" (defArgs s_fits) (defBody s_fits) (defScope s_fits) .none kV5 dc5 pm5 an5 cd5 ct5), sl5⟩) (c5 : PySem.W.codeIn K cd5 "fits" = true) (k5 : PySem.W.keepIn K (.ref f5) = true)
    (a6 : PySem.W.nsIn K mainGlobals "summed" = some (some (.ref f6))) (l6 : K.lookup f6 = some ⟨oc6, od6, .func (PySem.W.fnOf "summed" "summed" (defArgs s_summed) (defBody s_summed) (defScope s_summed) .none kV6 dc6 pm6 an6 cd6 ct6), sl6⟩) (c6 : PySem.W.codeIn K cd6 "summed" = true) (k6 : PySem.W.keepIn K (.ref f6) = true)
    (a7 : PySem.W.nsIn K mainGlobals "within" = some (some (.ref f7))) (l7 : K.lookup f7 = some ⟨oc7, od7, .func (PySem.W.fnOf "within" "within" (defArgs s_within) (defBody s_within) (defScope s_within) .none kV7 dc7 pm7 an7 cd7 ct7), sl7⟩) (c7 : PySem.W.codeIn K cd7 "within" = true) (k7 : PySem.W.keepIn K (.ref f7) = true)
    (a8 : PySem.W.nsIn K mainGlobals "added" = some (some (.ref f8))) (l8 : K.lookup f8 = some ⟨oc8, od8, .func (PySem.W.fnOf "added" "added" (defArgs s_added) (defBody s_added) (defScope s_added) .none kV8 dc8 pm8 an8 cd8 ct8), sl8⟩) (c8 : PySem.W.codeIn K cd8 "added" = true) (k8 : PySem.W.keepIn K (.ref f8) = true)
    (a9 : PySem.W.nsIn K mainGlobals "_law_numbers" = some (some (.ref f9))) (l9 : K.lookup f9 = some ⟨oc9, od9, .func (PySem.W.fnOf "_law_numbers" "_law_numbers" (defArgs s_law_numbers) (defBody s_law_numbers) (defScope s_law_numbers) .none kV9 dc9 pm9 an9 cd9 ct9), sl9⟩) (c9 : PySem.W.codeIn K cd9 "_law_numbers" = true) (k9 : PySem.W.keepIn K (.ref f9) = true)
    (a10 : PySem.W.nsIn K mainGlobals "_law_cast" = some (some (.ref f10))) (l10 : K.lookup f10 = some ⟨oc10, od10, .func (PySem.W.fnOf "_law_cast" "_law_cast" (defArgs s_law_cast) (defBody s_law_cast) (defScope s_law_cast) .none kV10 dc10 pm10 an10 cd10 ct10), sl10⟩) (c10 : PySem.W.codeIn K cd10 "_law_cast" = true) (k10 : PySem.W.keepIn K (.ref f10) = true)
    (a11 : PySem.W.nsIn K mainGlobals "_law_pick" = some (some (.ref f11))) (l11 : K.lookup f11 = some ⟨oc11, od11, .func (PySem.W.fnOf "_law_pick" "_law_pick" (defArgs s_law_pick) (defBody s_law_pick) (defScope s_law_pick) .none kV11 dc11 pm11 an11 cd11 ct11), sl11⟩) (c11 : PySem.W.codeIn K cd11 "_law_pick" = true) (k11 : PySem.W.keepIn K (.ref f11) = true)
    (a12 : PySem.W.nsIn K mainGlobals "_law_bent_tuple" = some (some (.ref f12))) (l12 : K.lookup f12 = some ⟨oc12, od12, .func (PySem.W.fnOf "_law_bent_tuple" "_law_bent_tuple" (defArgs s_law_bent_tuple) (defBody s_law_bent_tuple) (defScope s_law_bent_tuple) .none kV12 dc12 pm12 an12 cd12 ct12), sl12⟩) (c12 : PySem.W.codeIn K cd12 "_law_bent_tuple" = true) (k12 : PySem.W.keepIn K (.ref f12) = true)
    (a13 : PySem.W.nsIn K mainGlobals "_law_odd_one" = some (some (.ref f13))) (l13 : K.lookup f13 = some ⟨oc13, od13, .func (PySem.W.fnOf "_law_odd_one" "_law_odd_one" (defArgs s_law_odd_one) (defBody s_law_odd_one) (defScope s_law_odd_one) .none kV13 dc13 pm13 an13 cd13 ct13), sl13⟩) (c13 : PySem.W.codeIn K cd13 "_law_odd_one" = true) (k13 : PySem.W.keepIn K (.ref f13) = true)
    (a14 : PySem.W.nsIn K mainGlobals "_law_is_bag_of" = some (some (.ref f14))) (l14 : K.lookup f14 = some ⟨oc14, od14, .func (PySem.W.fnOf "_law_is_bag_of" "_law_is_bag_of" (defArgs s_law_is_bag_of) (defBody s_law_is_bag_of) (defScope s_law_is_bag_of) .none kV14 dc14 pm14 an14 cd14 ct14), sl14⟩) (c14 : PySem.W.codeIn K cd14 "_law_is_bag_of" = true) (k14 : PySem.W.keepIn K (.ref f14) = true)
    (a15 : PySem.W.nsIn K mainGlobals "_law_any_wide" = some (some (.ref f15))) (l15 : K.lookup f15 = some ⟨oc15, od15, .func (PySem.W.fnOf "_law_any_wide" "_law_any_wide" (defArgs s_law_any_wide) (defBody s_law_any_wide) (defScope s_law_any_wide) .none kV15 dc15 pm15 an15 cd15 ct15), sl15⟩) (c15 : PySem.W.codeIn K cd15 "_law_any_wide" = true) (k15 : PySem.W.keepIn K (.ref f15) = true)
    (a16 : PySem.W.nsIn K mainGlobals "_law_is_wider" = some (some (.ref f16))) (l16 : K.lookup f16 = some ⟨oc16, od16, .func (PySem.W.fnOf "_law_is_wider" "_law_is_wider" (defArgs s_law_is_wider) (defBody s_law_is_wider) (defScope s_law_is_wider) .none kV16 dc16 pm16 an16 cd16 ct16), sl16⟩) (c16 : PySem.W.codeIn K cd16 "_law_is_wider" = true) (k16 : PySem.W.keepIn K (.ref f16) = true)
    (a17 : PySem.W.nsIn K mainGlobals "_law_bags_in" = some (some (.ref f17))) (l17 : K.lookup f17 = some ⟨oc17, od17, .func (PySem.W.fnOf "_law_bags_in" "_law_bags_in" (defArgs s_law_bags_in) (defBody s_law_bags_in) (defScope s_law_bags_in) .none kV17 dc17 pm17 an17 cd17 ct17), sl17⟩) (c17 : PySem.W.codeIn K cd17 "_law_bags_in" = true) (k17 : PySem.W.keepIn K (.ref f17) = true)
    (a18 : PySem.W.nsIn K mainGlobals "_law_right" = some (some (.ref f18))) (l18 : K.lookup f18 = some ⟨oc18, od18, .func (PySem.W.fnOf "_law_right" "_law_right" (defArgs s_law_right) (defBody s_law_right) (defScope s_law_right) .none kV18 dc18 pm18 an18 cd18 ct18), sl18⟩) (c18 : PySem.W.codeIn K cd18 "_law_right" = true) (k18 : PySem.W.keepIn K (.ref f18) = true)
    (a19 : PySem.W.nsIn K mainGlobals "law" = some (some (.ref f19))) (l19 : K.lookup f19 = some ⟨oc19, od19, .func (PySem.W.fnOf "law" "law" (defArgs s_law) (defBody s_law) (defScope s_law) .none kV19 dc19 pm19 an19 cd19 ct19), sl19⟩) (c19 : PySem.W.codeIn K cd19 "law" = true) (k19 : PySem.W.keepIn K (.ref f19) = true)
    (z_isinstance : PySem.W.nsIn K mainGlobals "isinstance" = some none)
    (z_int : PySem.W.nsIn K mainGlobals "int" = some none)
    (z_bool : PySem.W.nsIn K mainGlobals "bool" = some none)
    (z_tuple : PySem.W.nsIn K mainGlobals "tuple" = some none)
    (z_len : PySem.W.nsIn K mainGlobals "len" = some none)
    (z_all : PySem.W.nsIn K mainGlobals "all" = some none)
    (z_zip : PySem.W.nsIn K mainGlobals "zip" = some none)
    (z_sum : PySem.W.nsIn K mainGlobals "sum" = some none)
    (z_abs : PySem.W.nsIn K mainGlobals "abs" = some none)
    (z_max : PySem.W.nsIn K mainGlobals "max" = some none)
    (z_min : PySem.W.nsIn K mainGlobals "min" = some none)
    (z_list : PySem.W.nsIn K mainGlobals "list" = some none)
    (z_range : PySem.W.nsIn K mainGlobals "range" = some none)
    (y_ANY : PySem.W.nsIn K mainGlobals "ANY" = some (some (.int (-1) tk_ANY)))
    (y_MOST_PROCEDURES : PySem.W.nsIn K mainGlobals "MOST_PROCEDURES" = some (some (.int 5 tk_MOST_PROCEDURES)))
    : ∃ fd : FuncData, (∀ (s : Shared) (v : Value), BindsTo s fd ⟨[v], []⟩ [("script", v)]) ∧ ∀ base : Heap, K.In base → base.Ns mainGlobals mg → FnOk l.prog w K mg base CX0 7 fa fd ["script"] (spLaw K) := by
  have e := hfa.symm.trans (PySem.W.mg_of X G a19)
  cases e
  have F_is_integer := fun_mk (st := s_is_integer) l0 c0 k0
  have b_is_integer := F_is_integer.binds (ps := ["value"]) fun _ _ _ _ _ _ us hl => match us, hl with | [_], _ => rfl
  have g_is_integer := PySem.W.mg_of X G a0
  have F_has_entries := fun_mk (st := s_has_entries) l1 c1 k1
  have b_has_entries := F_has_entries.binds (ps := ["value", "low"]) fun _ _ _ _ _ _ us hl => match us, hl with | [_, _], _ => rfl
  have g_has_entries := PySem.W.mg_of X G a1
  have F_is_bag := fun_mk (st := s_is_bag) l2 c2 k2
  have b_is_bag := F_is_bag.binds (ps := ["value"]) fun _ _ _ _ _ _ us hl => match us, hl with | [_], _ => rfl
  have g_is_bag := PySem.W.mg_of X G a2
  have F_is_wide := fun_mk (st := s_is_wide) l3 c3 k3
  have b_is_wide := F_is_wide.binds (ps := ["value"]) fun _ _ _ _ _ _ us hl => match us, hl with | [_], _ => rfl
  have g_is_wide := PySem.W.mg_of X G a3
  have F_check_pair := fun_mk (st := s_check_pair) l4 c4 k4
  have b_check_pair := F_check_pair.binds (ps := ["one", "other"]) fun _ _ _ _ _ _ us hl => match us, hl with | [_, _], _ => rfl
  have g_check_pair := PySem.W.mg_of X G a4
  have F_fits := fun_mk (st := s_fits) l5 c5 k5
  have b_fits := F_fits.binds (ps := ["one", "other"]) fun _ _ _ _ _ _ us hl => match us, hl with | [_, _], _ => rfl
  have g_fits := PySem.W.mg_of X G a5
  have F_summed := fun_mk (st := s_summed) l6 c6 k6
  have b_summed := F_summed.binds (ps := ["one", "other"]) fun _ _ _ _ _ _ us hl => match us, hl with | [_, _], _ => rfl
  have g_summed := PySem.W.mg_of X G a6
  have F_within := fun_mk (st := s_within) l7 c7 k7
  have b_within := F_within.binds (ps := ["one", "other"]) fun _ _ _ _ _ _ us hl => match us, hl with | [_, _], _ => rfl
  have g_within := PySem.W.mg_of X G a7
  have F_added := fun_mk (st := s_added) l8 c8 k8
  have b_added := F_added.binds (ps := ["one", "other"]) fun _ _ _ _ _ _ us hl => match us, hl with | [_, _], _ => rfl
  have g_added := PySem.W.mg_of X G a8
  have F__law_numbers := fun_mk (st := s_law_numbers) l9 c9 k9
  have b__law_numbers := F__law_numbers.binds (ps := ["script", "at"]) fun _ _ _ _ _ _ us hl => match us, hl with | [_, _], _ => rfl
  have g__law_numbers := PySem.W.mg_of X G a9
  have F__law_cast := fun_mk (st := s_law_cast) l10 c10 k10
  have b__law_cast := F__law_cast.binds (ps := ["die", "total"]) fun _ _ _ _ _ _ us hl => match us, hl with | [_, _], _ => rfl
  have g__law_cast := PySem.W.mg_of X G a10
  have F__law_pick := fun_mk (st := s_law_pick) l11 c11 k11
  have b__law_pick := F__law_pick.binds (ps := ["die", "items"]) fun _ _ _ _ _ _ us hl => match us, hl with | [_, _], _ => rfl
  have g__law_pick := PySem.W.mg_of X G a11
  have F__law_bent_tuple := fun_mk (st := s_law_bent_tuple) l12 c12 k12
  have b__law_bent_tuple := F__law_bent_tuple.binds (ps := ["die", "items", "odd"]) fun _ _ _ _ _ _ us hl => match us, hl with | [_, _, _], _ => rfl
  have g__law_bent_tuple := PySem.W.mg_of X G a12
  have F__law_odd_one := fun_mk (st := s_law_odd_one) l13 c13 k13
  have b__law_odd_one := F__law_odd_one.binds (ps := ["die"]) fun _ _ _ _ _ _ us hl => match us, hl with | [_], _ => rfl
  have g__law_odd_one := PySem.W.mg_of X G a13
  have F__law_is_bag_of := fun_mk (st := s_law_is_bag_of) l14 c14 k14
  have b__law_is_bag_of := F__law_is_bag_of.binds (ps := ["value", "size", "low"]) fun _ _ _ _ _ _ us hl => match us, hl with | [_, _, _], _ => rfl
  have g__law_is_bag_of := PySem.W.mg_of X G a14
  have F__law_any_wide := fun_mk (st := s_law_any_wide) l15 c15 k15
  have b__law_any_wide := F__law_any_wide.binds (ps := ["die", "size"]) fun _ _ _ _ _ _ us hl => match us, hl with | [_, _], _ => rfl
  have g__law_any_wide := PySem.W.mg_of X G a15
  have F__law_is_wider := fun_mk (st := s_law_is_wider) l16 c16 k16
  have b__law_is_wider := F__law_is_wider.binds (ps := ["one", "other"]) fun _ _ _ _ _ _ us hl => match us, hl with | [_, _], _ => rfl
  have g__law_is_wider := PySem.W.mg_of X G a16
  have F__law_bags_in := fun_mk (st := s_law_bags_in) l17 c17 k17
  have b__law_bags_in := F__law_bags_in.binds (ps := ["wide", "entry"]) fun _ _ _ _ _ _ us hl => match us, hl with | [_, _], _ => rfl
  have g__law_bags_in := PySem.W.mg_of X G a17
  have F__law_right := fun_mk (st := s_law_right) l18 c18 k18
  have b__law_right := F__law_right.binds (ps := ["die"]) fun _ _ _ _ _ _ us hl => match us, hl with | [_], _ => rfl
  have g__law_right := PySem.W.mg_of X G a18
  have F_law := fun_mk (st := s_law) l19 c19 k19
  have b_law := F_law.binds (ps := ["script"]) fun _ _ _ _ _ _ us hl => match us, hl with | [_], _ => rfl
  have g_law := PySem.W.mg_of X G a19
  have m_isinstance := PySem.W.mg_none_of X G z_isinstance
  have m_int := PySem.W.mg_none_of X G z_int
  have m_bool := PySem.W.mg_none_of X G z_bool
  have m_tuple := PySem.W.mg_none_of X G z_tuple
  have m_len := PySem.W.mg_none_of X G z_len
  have m_all := PySem.W.mg_none_of X G z_all
  have m_zip := PySem.W.mg_none_of X G z_zip
  have m_sum := PySem.W.mg_none_of X G z_sum
  have m_abs := PySem.W.mg_none_of X G z_abs
  have m_max := PySem.W.mg_none_of X G z_max
  have m_min := PySem.W.mg_none_of X G z_min
  have m_list := PySem.W.mg_none_of X G z_list
  have m_range := PySem.W.mg_none_of X G z_range
  have g_ANY := PySem.W.mg_of X G y_ANY
  have g_MOST_PROCEDURES := PySem.W.mg_of X G y_MOST_PROCEDURES
  refine ⟨PySem.W.fnOf "law" "law" (defArgs s_law) (defBody s_law) (defScope s_law) .none kV19 dc19 pm19 an19 cd19 ct19, fun s v => .of_eq rfl, fun base _ _ => ?_⟩
  have G__law_numbers : FnOk l.prog w K mg base CX0 1 _ _ ["script", "at"] (spNumbers K) := ok_numbers F__law_numbers m_len m_int m_abs m_max
  have G__law_cast : FnOk l.prog w K mg base CX0 1 _ _ ["die", "total"] spCast := ok_cast F__law_cast m_int
  have G__law_pick : FnOk l.prog w K mg base CX0 2 _ _ ["die", "items"] (spPick K) := ok_pick F__law_pick F__law_cast b__law_cast g__law_cast m_len m_int
  have G__law_odd_one : FnOk l.prog w K mg base CX0 3 _ _ ["die"] spOdd := ok_odd_one F__law_odd_one G__law_pick F__law_pick b__law_pick g__law_pick
  have G_has_entries : FnOk l.prog w K mg base CX0 2 _ _ ["value", "low"] spEnt := ok_has_entries F_has_entries F_is_integer b_is_integer g_is_integer g_MOST_PROCEDURES m_isinstance m_tuple m_len m_all m_int m_bool
  have G_is_bag : FnOk l.prog w K mg base CX0 3 _ _ ["value"] (spEnt1 0) := ok_is_bag F_is_bag G_has_entries F_has_entries b_has_entries g_has_entries g_ANY
  have G_is_wide : FnOk l.prog w K mg base CX0 3 _ _ ["value"] (spEnt1 (-1)) := ok_is_wide F_is_wide G_has_entries F_has_entries b_has_entries g_has_entries g_ANY
  have G_check_pair : FnOk l.prog w K mg base CX0 4 _ _ ["one", "other"] spPair := ok_check_pair F_check_pair G_is_wide F_is_wide b_is_wide g_is_wide m_len
  have G_fits : FnOk l.prog w K mg base CX0 1 _ _ ["one", "other"] spFits := ok_fits F_fits g_ANY m_all m_zip
  have G_summed : FnOk l.prog w K mg base CX0 1 _ _ ["one", "other"] spAdded := ok_summed F_summed g_ANY m_zip m_tuple m_sum
  have G_within : FnOk l.prog w K mg base CX0 5 _ _ ["one", "other"] spFits := ok_within F_within G_check_pair F_check_pair b_check_pair g_check_pair G_fits F_fits b_fits g_fits
  have G_added : FnOk l.prog w K mg base CX0 5 _ _ ["one", "other"] spAdded := ok_added F_added G_check_pair F_check_pair b_check_pair g_check_pair G_summed F_summed b_summed g_summed
  have G__law_bent_tuple : FnOk l.prog w K mg base CX0 3 _ _ ["die", "items", "odd"] spBent := ok_bent_tuple F__law_bent_tuple G__law_cast F__law_cast b__law_cast g__law_cast G__law_pick F__law_pick b__law_pick g__law_pick m_len m_list
  have G__law_is_bag_of : FnOk l.prog w K mg base CX0 1 _ _ ["value", "size", "low"] spBagOf := ok_is_bag_of F__law_is_bag_of m_isinstance m_tuple m_len m_int m_bool
  have G__law_any_wide : FnOk l.prog w K mg base CX0 3 _ _ ["die", "size"] spAnyWide := ok_any_wide F__law_any_wide G__law_pick F__law_pick b__law_pick g__law_pick m_tuple m_range
  have G__law_is_wider : FnOk l.prog w K mg base CX0 1 _ _ ["one", "other"] spWider := ok_is_wider F__law_is_wider m_range m_len
  have G__law_bags_in : FnOk l.prog w K mg base CX0 1 _ _ ["wide", "entry"] spBagsIn := ok_bags_in F__law_bags_in m_range m_len m_tuple
  have G__law_right : FnOk l.prog w K mg base CX0 6 _ _ ["die"] spRight := ok_right F__law_right G__law_cast F__law_cast b__law_cast g__law_cast G__law_pick F__law_pick b__law_pick g__law_pick G__law_odd_one F__law_odd_one b__law_odd_one g__law_odd_one G__law_any_wide F__law_any_wide b__law_any_wide g__law_any_wide G__law_bags_in F__law_bags_in b__law_bags_in g__law_bags_in G_within F_within b_within g_within G_added F_added b_added g_added G__law_is_wider F__law_is_wider b__law_is_wider g__law_is_wider G__law_bent_tuple F__law_bent_tuple b__law_bent_tuple g__law_bent_tuple G_is_wide F_is_wide b_is_wide g_is_wide G_is_bag F_is_bag b_is_bag g_is_bag G__law_is_bag_of F__law_is_bag_of b__law_is_bag_of g__law_is_bag_of m_range m_isinstance m_len m_tuple
  exact ok_law F_law G__law_numbers F__law_numbers b__law_numbers g__law_numbers G__law_right F__law_right b__law_right g__law_right G_within F_within b_within g_within G_added F_added b_added g_added G_is_wide F_is_wide b_is_wide g_is_wide G_is_bag F_is_bag b_is_bag g_is_bag g_ANY m_range m_len m_max m_min
end My
open PySem PySem.W PyProof.Rows
set_option maxHeartbeats 0 in
theorem PySem.Challenge.cw_postedbag_k02_wide_bags_holds : PySem.Challenge.rw_postedbag_k02_wide_bags.Holds := by
  w_on; o_law; k_head; (case hw => w_witness2)
  k_fill
  refine L2.walk_of (l := PySem.Challenge.rw_postedbag_k02_wide_bags) (n := 63) (k := 7) (x := "script") (CX := fun _ => L2.CX0) (sp := fun w => Sh.spLaw _) rfl (by decide) rfl ⟨rfl, by decide, by decide⟩ (fun w h Y => PySem.W.kIn_of Y) ?F (fun _ _ a ns hl _ hS => ⟨a, ns, rfl, hS, hl, fun _ => rfl⟩) (fun _ _ _ _ _ h => h)
  case F =>
    intro w mg fa h KX G hmg
    refine' My.all_mk KX G hmg ?a0 ?l0 ?c0 ?k0 ?a1 ?l1 ?c1 ?k1 ?a2 ?l2 ?c2 ?k2 ?a3 ?l3 ?c3 ?k3 ?a4 ?l4 ?c4 ?k4 ?a5 ?l5 ?c5 ?k5 ?a6 ?l6 ?c6 ?k6 ?a7 ?l7 ?c7 ?k7 ?a8 ?l8 ?c8 ?k8 ?a9 ?l9 ?c9 ?k9 ?a10 ?l10 ?c10 ?k10 ?a11 ?l11 ?c11 ?k11 ?a12 ?l12 ?c12 ?k12 ?a13 ?l13 ?c13 ?k13 ?a14 ?l14 ?c14 ?k14 ?a15 ?l15 ?c15 ?k15 ?a16 ?l16 ?c16 ?k16 ?a17 ?l17 ?c17 ?k17 ?a18 ?l18 ?c18 ?k18 ?a19 ?l19 ?c19 ?k19 ?z_isinstance ?z_int ?z_bool ?z_tuple ?z_len ?z_all ?z_zip ?z_sum ?z_abs ?z_max ?z_min ?z_list ?z_range ?y_ANY ?y_MOST_PROCEDURES
    (case a0 => k_is); (case l0 => k_is); (case c0 => k_is); (case k0 => k_is); (case a1 => k_is); (case l1 => k_is); (case c1 => k_is); (case k1 => k_is); (case a2 => k_is); (case l2 => k_is); (case c2 => k_is); (case k2 => k_is); (case a3 => k_is); (case l3 => k_is); (case c3 => k_is); (case k3 => k_is); (case a4 => k_is); (case l4 => k_is); (case c4 => k_is); (case k4 => k_is); (case a5 => k_is); (case l5 => k_is); (case c5 => k_is); (case k5 => k_is); (case a6 => k_is); (case l6 => k_is); (case c6 => k_is); (case k6 => k_is); (case a7 => k_is); (case l7 => k_is); (case c7 => k_is); (case k7 => k_is); (case a8 => k_is); (case l8 => k_is); (case c8 => k_is); (case k8 => k_is); (case a9 => k_is); (case l9 => k_is); (case c9 => k_is); (case k9 => k_is); (case a10 => k_is); (case l10 => k_is); (case c10 => k_is); (case k10 => k_is); (case a11 => k_is); (case l11 => k_is); (case c11 => k_is); (case k11 => k_is); (case a12 => k_is); (case l12 => k_is); (case c12 => k_is); (case k12 => k_is); (case a13 => k_is); (case l13 => k_is); (case c13 => k_is); (case k13 => k_is); (case a14 => k_is); (case l14 => k_is); (case c14 => k_is); (case k14 => k_is); (case a15 => k_is); (case l15 => k_is); (case c15 => k_is); (case k15 => k_is); (case a16 => k_is); (case l16 => k_is); (case c16 => k_is); (case k16 => k_is); (case a17 => k_is); (case l17 => k_is); (case c17 => k_is); (case k17 => k_is); (case a18 => k_is); (case l18 => k_is); (case c18 => k_is); (case k18 => k_is); (case a19 => k_is); (case l19 => k_is); (case c19 => k_is); (case k19 => k_is); (case z_isinstance => k_is); (case z_int => k_is); (case z_bool => k_is); (case z_tuple => k_is); (case z_len => k_is); (case z_all => k_is); (case z_zip => k_is); (case z_sum => k_is); (case z_abs => k_is); (case z_max => k_is); (case z_min => k_is); (case z_list => k_is); (case z_range => k_is); (case y_ANY => k_is); (case y_MOST_PROCEDURES => k_is)
