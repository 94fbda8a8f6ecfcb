import PyProof.Rows.All
import Wide.All
import OpenK.AllK
import Wide.FinOn
import HandS.Base
import HandS.Call
import HandS.List
import HandS.Comp
import HandS.Ends
import HandS.Dict
import HandS.Iter
import HandS.Text
import HandS.Words
import HandS.Codes
import HandS.IsInst
import HandS.Walk
import HandS.Wide
import KE.KxText
import HandS.TupAny
import HandS.Zip
import HandS.Style
import HandS.Deep
import KE.KEqSeq
import HandS.NoneIn
import HandS.Set
import HandS.SetFor
import HandS.TupSets
import HandS.SortOrd
import HandS.SortRule
import PyProof.P3In
import HandS.Exc
import HandS.ExcOwn
import HandS.ExcIs
import HandS.WordsExc
import HandS.Lambda
import HandS.EndBits
import HandS.EndTab
import HandS.TupMul
import KE.KDictDisplayH
import PyProof.EqAt
import PyProof.EqKinds
import KE.KEqNest
import KE.KEqDict
import PyProof.FactsAll.dict_1
import PyProof.ReprRoads
import PyProof.ReprLen
import KE.DataEq
import HandS.Strs
import HandS.ExcInit
import HandS.ExcValue
import HandS.ExcField
import KE.KExcInit
import KE.KExcIs
import HandS.SlotsOwn
import HandS.Star
import HandS.ClsMeth
import HandS.Property
import HandS.FStr
import HandS.TryOnly
import HandS.ForMost
import PySem.Challenge.RW_postedbag_k10_procedures_by_form
set_option Elab.async false
set_option linter.all false
set_option maxRecDepth 100000
set_option maxHeartbeats 4000000
/-! the law's own draws, over any row -/
namespace Sh
open PySem PySem.Spec PyProof.Rows L2

/-! ### rules -/
section
variable {X : Cx}
/-- ** of two numbers, the first one below 2 ^ 64 or both named by a bound -/
def CPowB (i j : Int) : Prop := 0 ≤ j ∧ (Builtin.Int.intBits i : Int) * j ≤ 2 ^ 27
theorem op_powB : OpR X (binaryOp .Pow) (rI CPowB fun i j => .int (i ^ j.toNat)) := opI fun _ _ _ _ _ _ _ hc q => pow_int hc.1 hc.2 q
theorem call_repr_bl : CallR X (.builtin "repr") (fun xs H Q => ∃ b : Bool, xs = [.bl b] ∧ Q (.str (if b then "True" else "False")) H) := by
  intro pins s σ H xs us Q I r h
  obtain ⟨b, rfl, q⟩ := h
  obtain ⟨u, rfl, rfl⟩ := vals1 r
  exact PySem.P.repr_of_bool ⟨.str _, H, I.tok _, ⟨_, rfl⟩, q⟩
/-- a list == [] -/
def rEqNil (K : PySem.W.Frag) : V → V → Hp → VK → Prop := fun x y H Q => ∃ a b xs, x = .ref a ∧ y = .ref b ∧ SqL K H a xs ∧ SqL K H b [] ∧ Q (.bl xs.isEmpty) H
theorem op_eqNil (hu : X.A.units + 64 < cLine) : OpR X (compareOp .Eq) (rEqNil X.K) := by
  intro pins s σ H x y v u Q I rx ry h
  obtain ⟨a, b, xs, rfl, rfl, h1, h2, q⟩ := h
  cases xs with
  | nil => exact op_eqD hu pins s σ H _ _ v u Q I rx ry ⟨.list [], .list [], .lst h1 .nil, .lst h2 .nil, by decide, by decide, q⟩
  | cons z zs =>
    cases (show v = Value.ref a from rx)
    cases (show u = Value.ref b from ry)
    obtain ⟨us, r1, l1, _⟩ := I.list h1
    obtain ⟨ws, r2, l2, _⟩ := I.list h2
    cases r1
    cases r2
    obtain ⟨o1, n1, e1, c1, d1, k1⟩ := l1
    obtain ⟨o2, n2, e2, c2, d2, k2⟩ := l2
    exact SeqAt.eq_list_lengthsAt ⟨o1, e1, c1, n1, k1⟩ ⟨o2, e2, c2, n2, k2⟩ rfl (by omega) ⟨.bl false, H, I, rfl, q⟩
end

/-! ### the die -/
def DieAt (H : Hp) (d : Addr) : Prop := ∃ a b c : Int, H d = some (.lst [.int a, .int b, .int c])
def NewDie (H : Hp) (d : Addr) (H' : Hp) : Prop := ∃ a b c : Int, H' = upd H d (.lst [.int a, .int b, .int c])
theorem NewDie.die {H H' : Hp} {d : Addr} (h : NewDie H d H') : DieAt H' d := by
  obtain ⟨a, b, c, rfl⟩ := h
  exact ⟨a, b, c, upd_same⟩
theorem NewDie.ne {H H' : Hp} {d p : Addr} (h : NewDie H d H') (hp : p ≠ d) : H' p = H p := by
  obtain ⟨a, b, c, rfl⟩ := h
  exact upd_ne hp
/-- all but the die as it was -/
def But (d : Addr) (H H' : Hp) : Prop := ∀ b o, b ≠ d → H b = some o → H' b = some o
theorem But.refl (d : Addr) (H : Hp) : But d H H := fun _ _ _ h => h
theorem But.trans {d : Addr} {H H1 H2 : Hp} (a : But d H H1) (b : But d H1 H2) : But d H H2 := fun c o n h => b c o n (a c o n h)
theorem But.same {d : Addr} {H H1 H2 : Hp} (a : But d H H1) (b : Same H1 H2) : But d H H2 := fun c o n h => b c o (a c o n h)
theorem NewDie.but {H H' : Hp} {d : Addr} (h : NewDie H d H') : But d H H' := fun _ _ n e => by
  rw [h.ne n]
  exact e
theorem But.new {d : Addr} {H H1 : Hp} {p : Addr} {o : HO} (a : But d H H1) (h : H1 p = none) : But d H (upd H1 p o) := fun c u n e => by
  rw [upd_ne (ne_of_none (a c u n e) h)]
  exact a c u n e
theorem But.seq {K : PySem.W.Frag} {d : Addr} {H H' : Hp} {a : Addr} {xs : List V} (e : But d H H') (n : a ≠ d) (h : SqL K H a xs) : SqL K H' a xs := by
  rcases h with (h | ⟨o, h⟩) | h
  · exact .inl (.inl (e _ _ n h))
  · exact .inl (.inr ⟨o, e _ _ n h⟩)
  · exact .inr h
theorem But.seqT {K : PySem.W.Frag} {d : Addr} {H H' : Hp} {a : Addr} {xs : List V} (e : But d H H') (n : a ≠ d) (h : SqT K H a xs) : SqT K H' a xs := by
  rcases h with (h | ⟨o, h⟩) | h
  · exact .inl (.inl (e _ _ n h))
  · exact .inl (.inr ⟨o, e _ _ n h⟩)
  · exact .inr h
theorem DieAt.new {H : Hp} {d p : Addr} {o : HO} (h : DieAt H d) (n : H p = none) : DieAt (upd H p o) d := by
  obtain ⟨a, b, c, h⟩ := h
  exact ⟨a, b, c, by rw [upd_ne (ne_of_none h n)]; exact h⟩

theorem upd_keep {H : Hp} {a p : Addr} {o u : HO} (h : H a = some u) (n : H p = none) : upd H p o a = some u := (upd_ne (ne_of_none h n)).trans h
theorem same_new {H H1 : Hp} {p : Addr} {o : HO} (s : Same H H1) (h : H1 p = none) : Same H (upd H1 p o) := fun b u e => upd_keep (s b u e) h
theorem same_put {H H1 : Hp} {p : Addr} {o : HO} (s : Same H H1) (h : H p = none) : Same H (upd H1 p o) := fun b u e => by
  rw [upd_ne (ne_of_none e h)]
  exact s b u e
theorem all_nil {P : V → Prop} : ∀ v ∈ ([] : List V), P v := fun _ h => by cases h
theorem all_cons {P : V → Prop} {a : V} {l : List V} (h : P a) (t : ∀ v ∈ l, P v) : ∀ v ∈ a :: l, P v := fun v hv => by
  rcases List.mem_cons.mp hv with rfl | hv
  · exact h
  · exact t v hv

theorem DieAt.free {H : Hp} {d p : Addr} (h : DieAt H d) (n : H p = none) : p ≠ d := fun e => by
  obtain ⟨a, b, c, h⟩ := h
  rw [e, h] at n
  cases n
theorem But.put {d : Addr} {H H2 : Hp} {D : Addr} {o : HO} (b : But d H H2) (n : H D = none) : But d H (upd H2 D o) := fun c u hc e => by
  rw [upd_ne (ne_of_none e n)]
  exact b c u hc e
theorem DieAt.put {H : Hp} {d p : Addr} {o : HO} (h : DieAt H d) (n : p ≠ d) : DieAt (upd H p o) d := by
  obtain ⟨a, b, c, h⟩ := h
  exact ⟨a, b, c, by rw [upd_ne n.symm]; exact h⟩
theorem DieAt.same {H H' : Hp} {d : Addr} (h : DieAt H d) (s : Same H H') : DieAt H' d := by
  obtain ⟨a, b, c, h⟩ := h
  exact ⟨a, b, c, s _ _ h⟩
theorem But.free {d : Addr} {H H' : Hp} {p : Addr} (b : But d H H') (hp : p ≠ d) (n : H' p = none) : H p = none := by
  cases e : H p with
  | none => rfl
  | some o =>
    rw [b p o hp e] at n
    cases n
/-- a die that was laid since: nothing of before is changed -/
theorem Same.but {d : Addr} {H0 H H' : Hp} (s : Same H0 H) (n : H0 d = none) (b : But d H H') : Same H0 H' := fun p o e => b p o (fun z => by subst z; rw [n] at e; cases e) (s p o e)
theorem sum_ones (ys : List Str) (h : ∀ y ∈ ys, y.length = 1) : (ys.map (·.length)).sum = ys.length := by
  induction ys with
  | nil => rfl
  | cons y r ih =>
    rw [List.map_cons, List.sum_cons, h y List.mem_cons_self, ih fun z hz => h z (List.mem_cons_of_mem _ hz), List.length_cons]
    omega
theorem len_ok {xs : List V} (h : Nat.ble xs.length 1000 = true := by rfl) : xs.length ≤ sizeLine := Nat.le_of_lt (small1000 (Nat.le_of_ble_eq_true h))
/-! ### the odd ones -/
def Flat (v : V) : Prop := v = .non ∨ (∃ i : Int, v = .int i) ∨ (∃ b, v = .bl b) ∨ ∃ z : Str, v = .str z ∧ z.length ≤ 9
def Flat2 (H : Hp) (v : V) : Prop := Flat v ∨ ∃ q ys, v = .ref q ∧ H q = some (.tup ys) ∧ ys.length ≤ 2 ∧ ∀ y ∈ ys, Flat y
def Odd (H : Hp) (v : V) : Prop := Flat v ∨ (∃ p xs, v = .ref p ∧ H p = some (.tup xs) ∧ xs.length ≤ 2 ∧ ∀ x ∈ xs, Flat2 H x) ∨ (∃ p, v = .ref p ∧ H p = some (.lst [.int 0])) ∨ ∃ p, v = .ref p ∧ H p = some (.dK [])
theorem DieAt.ne {H : Hp} {d p : Addr} {o : HO} (h : DieAt H d) (hp : H p = some o) (ho : ∀ a b c : Int, o ≠ .lst [.int a, .int b, .int c]) : p ≠ d := fun e => by
  obtain ⟨a, b, c, h⟩ := h
  subst e
  rw [h] at hp
  exact ho a b c (Option.some.inj hp).symm
theorem Flat2.but {d : Addr} {H H' : Hp} {v : V} (b : But d H H') (hd : DieAt H d) (h : Flat2 H v) : Flat2 H' v := by
  rcases h with h | ⟨q, ys, e, hq, hl, hy⟩
  · exact .inl h
  · exact .inr ⟨q, ys, e, b _ _ (hd.ne hq fun _ _ _ z => by cases z) hq, hl, hy⟩
theorem Odd.but {d : Addr} {H H' : Hp} {v : V} (b : But d H H') (hd : DieAt H d) (h : Odd H v) : Odd H' v := by
  rcases h with h | ⟨q, ys, e, hq, hl, hy⟩ | ⟨q, e, hq⟩ | ⟨q, e, hq⟩
  · exact .inl h
  · exact .inr (.inl ⟨q, ys, e, b _ _ (hd.ne hq fun _ _ _ z => by cases z) hq, hl, fun x hx => (hy x hx).but b hd⟩)
  · exact .inr (.inr (.inl ⟨q, e, b _ _ (hd.ne hq fun _ _ _ z => by cases z) hq⟩))
  · exact .inr (.inr (.inr ⟨q, e, b _ _ (hd.ne hq fun _ _ _ z => by cases z) hq⟩))
theorem flat_non : Flat .non := .inl rfl
theorem flat_int (i : Int) : Flat (.int i) := .inr (.inl ⟨i, rfl⟩)
theorem flat_bl (b : Bool) : Flat (.bl b) := .inr (.inr (.inl ⟨b, rfl⟩))
theorem flat_str {z : Str} (h : z.length ≤ 9) : Flat (.str z) := .inr (.inr (.inr ⟨z, rfl, h⟩))

/-! ### the promises of the three that draw -/
def spNumbers (K : PySem.W.Frag) : Sp := fun vs H Q _ => ∃ (a : Addr) (ns : List Int) (i : Int), vs = [.ref a, .int i] ∧ 0 ≤ i ∧ SqL K H a (ns.map V.int) ∧
  ∀ p x y, H p = none → Q (.ref p) (upd H p (.lst [.int x, .int y, .int 0]))
def spCast : Sp := fun vs H Q _ => ∃ (d : Addr) (n : Int), vs = [.ref d, .int n] ∧ DieAt H d ∧ 0 < n ∧ n < 1073741824 ∧
  ∀ (r : Nat) H', (r : Int) < n → NewDie H d H' → Q (.int r) H'
def spPick (K : PySem.W.Frag) : Sp := fun vs H Q _ => ∃ (d : Addr), DieAt H d ∧
  ((∃ p xs, vs = [.ref d, .ref p] ∧ p ≠ d ∧ (SqL K H p xs ∨ SqT K H p xs) ∧ xs ≠ [] ∧ xs.length < 1073741824 ∧ ∀ (j : Nat) v H', xs[j]? = some v → NewDie H d H' → Q v H')
  ∨ (∃ z : Str, vs = [.ref d, .str z] ∧ 0 < z.length ∧ z.length ≤ 1000 ∧ ∀ (j : Nat) c H', z.cps.toList[j]? = some c → NewDie H d H' → Q (.str ⟨#[c]⟩) H'))
theorem turns_ok {c : Int} {n : Nat} (h : n ≤ 63) (h0 : 0 ≤ c) (h1 : c ≤ 1000) : -(2 ^ 62) ≤ (if (if (n : Int) < c then (n : Int) else c) > 1 then (if (n : Int) < c then (n : Int) else c) else 1) ∧ (if (if (n : Int) < c then (n : Int) else c) > 1 then (if (n : Int) < c then (n : Int) else c) else 1) < 2 ^ 62 := by
  split <;> split <;> omega
/-- the law itself -/
def spLaw (K : PySem.W.Frag) : Sp := fun vs H Q _ => ∃ (a : Addr) (ns : List Int), vs = [.ref a] ∧ SqL K H a (ns.map V.int) ∧ ns.length ≤ 63 ∧ ∀ H', Q (.bl true) H'
/-- one round of the law -/
def spRight : Sp := fun vs H Q _ => ∃ (d : Addr), vs = [.ref d] ∧ DieAt H d ∧ ∀ H', But d H H' → DieAt H' d → Q (.bl true) H'
/-- one of the odd values, at an address that did not hold anything -/
def spOdd : Sp := fun vs H Q _ => ∃ (d : Addr), vs = [.ref d] ∧ DieAt H d ∧ ∀ v H', Odd H' v → But d H H' → DieAt H' d → Q v H'
end Sh

/-! tuples: a reversed copy, the sum; walks over two tuples -/
namespace HT
open PySem PySem.Spec PyProof.Rows
section
variable {prog : Program} {w : World} {A : Around} {E : Value → Shared → Prop} {s : Shared}
theorem back_adjust (n : Nat) : Builtin.Slice.sliceAdjust none none (-1) (n : Int) = ((n : Int) - 1, -1) := by
  unfold Builtin.Slice.sliceAdjust
  rfl
theorem back_places (n : Nat) : Builtin.Slice.slicePlaces ((n : Int) - 1) (-1) (-1) = n := by
  unfold Builtin.Slice.slicePlaces
  rw [if_neg (by decide)]
  have e : (-(-1 : Int)) = 1 := by decide
  rw [e, Int.ediv_one]
  split <;> omega
theorem fm_congr {α β : Type} {f g : α → Option β} : ∀ (l : List α), (∀ x ∈ l, f x = g x) → l.filterMap f = l.filterMap g
  | [], _ => rfl
  | x :: r, h => by rw [List.filterMap_cons, List.filterMap_cons, h x List.mem_cons_self, fm_congr r fun y hy => h y (List.mem_cons_of_mem _ hy)]
theorem back_pick (xs : Array Value) : ((List.range xs.size).filterMap fun (k : Nat) => xs[(((xs.size : Nat) : Int) - 1 + (k : Int) * (-1)).toNat]?).toArray = xs.toList.reverse.toArray := by
  have e : (List.range xs.size).filterMap (fun (k : Nat) => xs[(((xs.size : Nat) : Int) - 1 + (k : Int) * (-1)).toNat]?) = ((List.range xs.size).map fun k => xs.size - 1 - k).filterMap (xs[·]?) := by
    rw [List.filterMap_map]
    refine fm_congr _ fun k hk => ?_
    have h := List.mem_range.mp hk
    show xs[_]? = xs[xs.size - 1 - k]?
    congr 1
    omega
  rw [e, PySem.W.krv_range, List.filterMap_reverse, PySem.W.krv_all]
theorem sliceApplied_back {sl : Addr} {vs : Value} {n : Nat} {Q : Int × Int × Nat → Shared → Prop} (hs : s.heap.IsSliceOf sl .none .none vs) (ps : IsPart vs (some (-1)))
    (h : Q ((n : Int) - 1, -1, n) s) : wpAny (model prog w) A (Builtin.Slice.sliceApplied (.ref sl) (pure (n : Int))) Q E s := by
  obtain ⟨os, hos, hcs, hds⟩ := id hs
  unfold Builtin.Slice.sliceApplied Builtin.Slice.sliceFields
  refine wpAny_bind (wpAny_bind (wpAny_field hos hds (x := .none) rfl (wpAny_bind (wpAny_field hos hds (x := .none) rfl (wpAny_bind (wpAny_field hos hds (x := vs) rfl (wpAny_pure ?_)))))))
  refine wpAny_bind (slicePart_ ps ?_)
  show wpAny _ _ (if ((-1 : Int) == 0) = true then _ else _) _ _ s
  rw [if_neg (by decide)]
  refine wpAny_bind (slicePart_none (wpAny_bind (slicePart_none (wpAny_bind (wpAny_pure ?_)))))
  show wpAny _ _ (match Builtin.Slice.sliceAdjust none none (-1) (n : Int) with | (lo, hi) => pure (lo, (-1 : Int), Builtin.Slice.slicePlaces lo hi (-1))) _ _ s
  rw [back_adjust]
  show wpAny _ _ (pure ((n : Int) - 1, (-1 : Int), Builtin.Slice.slicePlaces ((n : Int) - 1) (-1) (-1))) _ _ s
  rw [back_places]
  exact wpAny_pure h
theorem getItem_tuple_back {t sl : Addr} {items : Array Value} {vs : Value} {Q : Value → Shared → Prop} (ht : IsTup s.heap t items) (hs : s.heap.IsSliceOf sl .none .none vs) (ps : IsPart vs (some (-1)))
    (h : Q (.ref s.heap.objs.size) { s with heap := s.heap.push { cls := .type "tuple", data := .seq items.toList.reverse.toArray } })
    (hsz : items.size ≤ sizeLine) : wpAny (model prog w) A (getItem (.ref t) (.ref sl)) Q E s := by
  have htake : sizeOk (.seq items.toList.reverse.toArray) := by
    show items.toList.reverse.toArray.size ≤ sizeLine
    rw [List.size_toArray, List.length_reverse, Array.length_toList]
    exact hsz
  obtain ⟨os, hos, hcs, hds⟩ := id hs
  have hTs : s.TypeIs (.ref sl) "slice" := ⟨os, hos, hcs⟩
  unfold getItem
  try with_reducible refine wpAny_holding ?_
  first | refine wpAny_bind (wpAny_pure ?_) | skip
  refine wpAny_bind (wpAny_sequenceKey ht.typeIs (by decide) ?_)
  refine wpAny_bind (wpAny_callSpecial?_slot (name := Str.ofString "__getitem__") ht.typeIs PyProof.Rows.slot_tuple_getitem
    (wpAny_call_entry PyProof.Rows.slot_tuple_getitem ht.typeIs entry_tuple_getitem ?_ (args_tuple_getitem _ _)))
  show wpAny _ _ (Builtin.Tuple.tupleItemsOf (.ref t) >>= _) _ _ s
  refine wpAny_bind (tupleItemsOf_ ht ?_)
  refine wpAny_bind (wpAny_typeOf hTs ?_)
  rw [if_pos (by decide)]
  refine wpAny_bind (sliceApplied_back hs ps ?_)
  have hno : ¬ ((((items.size : Nat) : Int) - 1 == 0 && (-1 : Int) == 1 && items.size == items.size) = true) := by
    rw [show ((-1 : Int) == 1) = false from rfl, Bool.and_false, Bool.false_and]
    exact Bool.false_ne_true
  show wpAny _ _ (if (((items.size : Nat) : Int) - 1 == 0 && (-1 : Int) == 1 && items.size == items.size) = true then _ else _) _ _ s
  rw [if_neg hno, back_pick]
  first
    | exact wpAny_bind (m := Builtin.Tuple.tupleExact _) (wpAny_newObj_type (wpAny_pure ⟨_, rfl, wpAny_pure h⟩) htake)
    | exact wpAny_bind (m := Builtin.Tuple.tupleExact _) (wpAny_newObj_type (wpAny_bind (wpAny_pure (wpAny_pure ⟨_, rfl, wpAny_pure h⟩))) htake)
    | exact wpAny_bind (wpAny_bind (m := Builtin.Tuple.tupleExact _) (wpAny_newObj_type (wpAny_pure (wpAny_pure ⟨_, rfl, wpAny_pure h⟩)) htake))
    | exact wpAny_bind (wpAny_bind (m := Builtin.Tuple.tupleExact _) (wpAny_newObj_type (wpAny_pure ⟨_, rfl, wpAny_pure h⟩) htake))
end
end HT
namespace Sh
open PySem PySem.Spec PyProof.Rows L2 RZ
section
variable {X : Cx}
/-- t[::-1] -/
def tRevT (K : PySem.W.Frag) (te : TE) : TE := fun σ H Q => te σ H fun x H1 => ∃ a xs, x = .ref a ∧ SqT K H1 a xs ∧ ∀ p, H1 p = none → Q (.ref p) (upd H1 p (.tup xs.reverse))
theorem pe_revT {e : Expr} {te : TE} {k : Nat} {p1 p2 p3 pos : Pos} (he : PE X e te) : PE X (.Subscript e (.Slice none none (some (.UnaryOp .USub (.Constant (.int 1) k p1) p2)) p3) pos) (tRevT X.K te) := by
  refine ⟨fun pins s σ H Q I h => ?_⟩
  refine Subscript_ (thn (he.run pins s σ H _ I h) fun v s1 ⟨x, H1, I1, r1, q1⟩ => ?_)
  obtain ⟨a, xs, ex, hx, q⟩ := q1
  subst ex
  cases r1
  have hst : PO X (some (.UnaryOp .USub (.Constant (.int 1) k p1) p2)) (tPart (tUn (rU fun i => .int (-i)) (tC (.int 1)))) := po_some (pe_un un_neg pe_int)
  refine wpAny_Slice (thn (po_none.run pins s1 σ H1 (fun o H2 => o = none ∧ H2 = H1) I1 ⟨rfl, rfl⟩) fun vl s2 ⟨l, H2, I2, pl, el, e2⟩ => ?_)
  subst el e2
  refine thn (po_none.run pins s2 σ H2 (fun o H3 => o = none ∧ H3 = H2) I2 ⟨rfl, rfl⟩) fun vu s3 ⟨u, H3, I3, pu, eu, e3⟩ => ?_
  subst eu e3
  refine thn (hst.run pins s3 σ H3 (fun o H4 => o = some (-1) ∧ H4 = H3) I3 ⟨1, rfl, -1, rfl, rfl, rfl⟩) fun vs s4 ⟨o, H4, I4, ps, eo, e4⟩ => ?_
  subst eo e4
  cases pl
  cases pu
  have I5 : Inv X pins σ H4 { s4 with heap := s4.heap.push { cls := .type "slice", data := .fields #[.none, .none, vs] } } := I4.kept (t' := s4.toks) fun b ob q => Heap.get?_push_of_some _ q
  obtain ⟨its, r, ht, hz⟩ := I5.tuple hx
  have hlen := r.length
  show wpAny (model X.prog X.w) X.A (subscriptTail e (.Slice none none (some (.UnaryOp .USub (.Constant (.int 1) k p1) p2)) p3) (.ref a) (.ref s4.heap.objs.size)) (EP X pins σ Q) X.xe { s4 with heap := s4.heap.push { cls := .type "slice", data := .fields #[.none, .none, vs] } }
  refine tail_any (ops := [.ref a, .ref s4.heap.objs.size]) ht.typeIs (PyProof.Rows.slot_tuple_getitem.lookup) ?_ (by with_unfolding_all rfl)
  refine HT.getItem_tuple_back ht (Heap.IsSliceOf.new _ .none .none vs) ps ?_ (by rw [List.size_toArray]; omega)
  refine ⟨.ref _, _, I5.laid (t' := s4.toks) (o := .tup xs.reverse) (fun b ob q => Heap.get?_push_of_some _ q) (Nat.le_refl _) ?_, rfl, q _ (I5.hok.fresh (Nat.le_refl _))⟩
  exact ⟨by rw [List.length_reverse]; exact hz, its.reverse, r.reverse, ⟨_, Heap.get?_push_size _ rfl, rfl, 0, by simp⟩⟩
/-- sum of a tuple -/
def rSumT (K : PySem.W.Frag) : List V → Hp → VK → Prop := fun vs H Q => ∃ (a : Addr) (ns : List Int), vs = [V.ref a] ∧ SqT K H a (ns.map V.int) ∧ Q (.int ns.sum) H
theorem sumT_raw {prog : Program} {w : World} {A : Around} {E : Value → Shared → Prop} {s : Shared} {l : Addr} {its : List Value} {ns : List Int} {Q : Value → Shared → Prop} (hh : A.handled = none) (hl : IsTup s.heap l its.toArray) (hi : IntsAre its ns)
    (h : ∀ h' tk t', (∀ b o, s.heap.get? b = some o → h'.get? b = some o) → Q (.int ns.sum t') { s with heap := h', toks := tk }) : wpAny (model prog w) A (call (.builtin "sum") [.ref l]) Q E s := by
  obtain ⟨xs, e⟩ := hi.allInts.items
  have hn : numsOf (intItems xs).toList = ns := by rw [← e]; exact hi.numsOf
  rw [nums_intItems] at hn
  rw [e] at hl
  obtain ⟨o, h1, h2, h3⟩ := hl
  have hT : s.heap.IsTuple l (intItems xs) := ⟨o, h1, h2, h3⟩
  have hlt : l < s.heap.objs.size := Heap.lt_size h1
  refine PySem.call_sum_walkG (PySem.wpAny_pyIter_tuple hT ?_)
  refine ⟨_, _, _, _, _, _, numAt xs, rfl, Walks.tuple (A := A.in1) hh _ l (Nat.ne_of_lt hlt) (intItems xs), ⟨⟨_, Heap.get?_push_size _ rfl, rfl, rfl⟩, hT.at fun o e => Heap.get?_push_of_some _ e⟩, fun b hb => ?_, (fun _ _ => intItems_at), fun h' tk t' hk => ?_⟩
  · show b < (s.heap.push _).objs.size
    rw [Heap.size_push]
    rcases List.mem_cons.mp hb with rfl | hb
    · exact Nat.lt_succ_self _
    · rcases List.mem_cons.mp hb with rfl | hb
      · exact Nat.lt_succ_of_lt hlt
      · cases hb
  · have := h h' tk t' fun b o e => by
      refine hk b o (fun hm => ?_) (Heap.get?_push_of_some _ e)
      rcases List.mem_cons.mp hm with e1 | hm
      · exact absurd (e1 ▸ Heap.lt_size e) (Nat.lt_irrefl _)
      · cases hm
    rw [preSum_eq, List.take_of_length_le (by simp [intItems]), hn]
    exact this
theorem cr_sumT (hc : X.calm = true) : CallR X (.builtin "sum") (rSumT X.K) := by
  intro pins s σ H vs us Q I r h
  obtain ⟨a, ns, rfl, hs, q⟩ := h
  obtain ⟨its, rv, hl, _⟩ := I.tuple hs
  rw [Vals.ref1 r]
  exact sumT_raw (I.ok.hd hc) hl rv.ints fun h' tk t' hk => ⟨.int _, H, I.kept hk, ⟨_, rfl⟩, q⟩
/-- a list != [] -/
def rNeNil (K : PySem.W.Frag) : V → V → Hp → VK → Prop := fun x y H Q => ∃ a b xs, x = .ref a ∧ y = .ref b ∧ SqL K H a xs ∧ SqL K H b [] ∧ Q (.bl (!xs.isEmpty)) H
theorem op_neNil (hu : X.A.units + 64 < cLine) : OpR X (compareOp .NotEq) (rNeNil X.K) := by
  intro pins s σ H x y v u Q I rx ry h
  obtain ⟨a, b, xs, rfl, rfl, h1, h2, q⟩ := h
  cases xs with
  | nil => exact op_neD hu pins s σ H _ _ v u Q I rx ry ⟨.list [], .list [], .lst h1 .nil, .lst h2 .nil, by decide, by decide, q⟩
  | cons z zs =>
    cases (show v = Value.ref a from rx)
    cases (show u = Value.ref b from ry)
    obtain ⟨us, r1, l1, _⟩ := I.list h1
    obtain ⟨ws, r2, l2, _⟩ := I.list h2
    cases r1
    cases r2
    obtain ⟨o1, n1, e1, c1, d1, k1⟩ := l1
    obtain ⟨o2, n2, e2, c2, d2, k2⟩ := l2
    exact SeqAt.RcNeAt.lists_lengths ⟨o1, e1, c1, n1, k1⟩ ⟨o2, e2, c2, n2, k2⟩ rfl (by omega) X.prog X.w X.xe _ ⟨.bl true, H, I, rfl, q⟩
/-- tuples of ints -/
def rNeTI (K : PySem.W.Frag) : V → V → Hp → VK → Prop := fun x y H Q => ∃ a b, ∃ xs ys : List Int, x = .ref a ∧ y = .ref b ∧ SqT K H a (xs.map V.int) ∧ SqT K H b (ys.map V.int) ∧ Q (.bl (!decide (xs = ys))) H
theorem dps_ints {K : PySem.W.Frag} {H : Hp} : ∀ ns : List Int, DpAll K H (ns.map V.int) (ns.map PyData.int)
  | [] => .nil
  | n :: r => .cons (.int n) (dps_ints r)
theorem eqvAll_ints : ∀ xs ys : List Int, PyData.eqvAll (xs.map PyData.int) (ys.map PyData.int) = decide (xs = ys)
  | [], [] => by simp [PyData.eqvAll]
  | [], _ :: _ => by simp [PyData.eqvAll]
  | _ :: _, [] => by simp [PyData.eqvAll]
  | x :: xs, y :: ys => by
    rw [List.map_cons, List.map_cons, PyData.eqvAll, eqvAll_ints xs ys, PyData.eqv]
    by_cases h : x = y
    · subst h
      simp
    · simp [h]
theorem shaped_tints (ns : List Int) : SeqAt.shaped (.tuple (ns.map PyData.int)) = true := PySem.W.ke_shaped_ints ns
theorem op_neTI (hu : X.A.units + 64 < cLine) : OpR X (compareOp .NotEq) (rNeTI X.K) := by
  intro pins s σ H x y v u Q I rx ry h
  obtain ⟨a, b, xs, ys, rfl, rfl, h1, h2, q⟩ := h
  refine op_neD hu pins s σ H _ _ v u Q I rx ry ⟨.tuple (xs.map PyData.int), .tuple (ys.map PyData.int), .tup h1 (dps_ints xs), .tup h2 (dps_ints ys), shaped_tints xs, shaped_tints ys, ?_⟩
  show Q (.bl (!PyData.eqvAll (xs.map PyData.int) (ys.map PyData.int))) H
  rw [eqvAll_ints]
  exact q
end
section
variable {K : PySem.W.Frag} {a b d : Addr} {xs ys : List V}
theorem walk_zipT {n : Nat} (hn : n = min xs.length ys.length) : Walk (ItzT K a b) n (fun H => SqT K H a xs ∧ SqT K H b ys) (YPair (fun i => xs[i]?) (fun i => ys[i]?)) := by
  subst hn
  refine ⟨fun i _ hi q => ?_, fun _ q => ⟨xs, ys, q.1, q.2, by omega⟩, fun i H v H' _ q y => ?_⟩
  · have h1 : i < xs.length := by omega
    have h2 : i < ys.length := by omega
    exact ⟨xs, ys, xs[i], ys[i], q.1, q.2, by simp [h1], by simp [h2]⟩
  · obtain ⟨T, x, z, h1, h2, h3, h4, h5⟩ := y
    exact ⟨T, x, z, h1, h2, h3, h4 xs q.1, h5 ys q.2⟩
end
end Sh

/-! a walk over zip of two tuples whose pairs are held by a name: the iterator keeps the pair that it gave -/
namespace ZN
open PySem PySem.Spec PyProof.Rows L2 RZ
/-- the iterator at z: what it keeps, and the flag beside it -/
abbrev ZAt (h : Heap) (z TI TO : Addr) (kept : Value) (flag : Bool) : Prop := h.get? z = some { cls := .type "zip", data := .fields #[kept, .bool flag, .bool false, .ref TI, .ref TO] }
section
variable {prog : Program} {w : World} {A : Around} {E : Value → Shared → Prop} {s : Shared}
theorem alive_ {M : Model} {a : Addr} {Q : Option Obj → Shared → Prop} (h : Q (s.heap.get? a) s) : wpAny M A (PySem.loadIfAlive a) Q E s := fun _ _ _ => by
  unfold PySem.loadIfAlive
  rw [Sem.wp_loadIfAlive]
  simpa using h
variable {z TI TO i1 i2 l1 l2 T : Addr} {k1 k2 : Nat} {xs ys : Array Value} {x y a b : Value} {flag : Bool}
/-- what is the same, whoever holds the pair: the state behind a turn -/
def Behind (s : Shared) (z TI TO i1 i2 l1 l2 : Addr) (k1 k2 : Nat) (x y : Value) (Q : Value → Shared → Prop) : Prop :=
  ∀ h' N T' f', N = s.heap.objs.size → ZAt h' z TI TO (rawInt (T' : Nat)) f' → (∃ u v, IsPair h' TO u v) → h'.IsTupleIter i1 l1 (k1 + 1) → h'.IsTupleIter i2 l2 (k2 + 1) → IsPair h' N x y →
    (∀ c o, c ≠ z → c ≠ TO → c ≠ i1 → c ≠ i2 → s.heap.get? c = some o → h'.get? c = some o) → Q (.ref N) { s with heap := h' }
/-- nobody else holds it -/
theorem free_item (D : ZipApart z TI TO i1 i2 l1 l2) {kept : Value} (hz : ZAt s.heap z TI TO kept flag) (hTI : IsPair s.heap TI (.ref i1) (.ref i2)) (hTO : IsPair s.heap TO a b)
    (hfree : ∀ (Q : Bool → Shared → Prop) (E : Value → Shared → Prop) (B : Around), Q true s → wpAny (model prog w) B (Builtin.SmallTypes.ownedTupleIsFree (.ref z)) Q E s)
    (h1 : s.heap.IsTupleIter i1 l1 k1) (h2 : s.heap.IsTupleIter i2 l2 k2) (hl1 : s.heap.IsTuple l1 xs) (hl2 : s.heap.IsTuple l2 ys) (hx : xs[k1]? = some x) (hy : ys[k2]? = some y) {Q : Value → Shared → Prop}
    (hQ : Behind s z TI TO i1 i2 l1 l2 k1 k2 x y Q) : wpAny (model prog w) A (Builtin.«zip.__next__» ⟨[.ref z], []⟩) (fun fin s' => ∃ v, fin = .done (.ret v) ∧ Q v s') E s := by
  show wpAny _ _ (field (.ref z) 2 >>= _) _ _ _; refine wpAny_bind (wpAny_field hz rfl (x := .bool false) rfl ?_)
  show wpAny _ _ (field (.ref z) 3 >>= _) _ _ _; refine wpAny_bind (wpAny_field hz rfl (x := .ref TI) rfl ?_); refine wpAny_bind (wpAny_seqItems hTI rfl ?_)
  show wpAny _ _ (Builtin.SmallTypes.ownedTupleIsFree (.ref z) >>= _) _ _ _; refine wpAny_bind (hfree _ _ _ ?_)
  simp only [if_true]; refine wpAny_bind (wpAny_rule ?_); refine wpAny_bind (wpAny_field hz rfl (x := .ref TO) rfl ?_)
  refine wpAny_bind (wpAny_setField_rec hz (by simp) fun m1 z1 b1 => ?_); replace z1 : ZAt m1 z TI TO .ellipsis flag := z1
  refine wpAny_bind ?_; simp only [List.zipIdx_cons, List.zipIdx_nil, List.forIn_cons, List.forIn_nil]
  refine wpAny_bind (wpAny_bind (wpAny_onRaise ?_)); show wpAny _ _ (Builtin.SmallTypes.nextOf (.ref i1) >>= _) _ _ _
  refine wpAny_bind (nextOf_tuple_item (h1.extBut b1.extBut D.i1z) (hl1.extBut b1.extBut D.l1z) hx fun m2 g1 b2 => wpAny_pure ?_)
  have o2 : IsPair m2 TO a b := b2.extBut _ _ D.TOi1 (b1.extBut _ _ D.TOz hTO)
  refine wpAny_bind (wpAny_seqItems o2 rfl ?_); refine wpAny_bind (wpAny_updateSeq_pair o2 fun m3 o3 b3 => ?_); replace o3 : IsPair m3 TO x b := o3
  refine wpAny_bind (wpAny_letGo (wpAny_pure ?_)); refine wpAny_bind (wpAny_bind (wpAny_onRaise ?_))
  show wpAny _ _ (Builtin.SmallTypes.nextOf (.ref i2) >>= _) _ _ _
  refine wpAny_bind (nextOf_tuple_item (((h2.extBut b1.extBut D.i2z).extBut b2.extBut D.i12.symm).extBut b3.extBut D.TOi2.symm) (((hl2.extBut b1.extBut D.l2z).extBut b2.extBut D.l2i1).extBut b3.extBut D.l2TO) hy fun m4 g2 b4 => wpAny_pure ?_)
  have o4 : IsPair m4 TO x b := b4.extBut _ _ D.TOi2 o3
  refine wpAny_bind (wpAny_seqItems o4 rfl ?_); refine wpAny_bind (wpAny_updateSeq_pair o4 fun m5 o5 b5 => ?_); replace o5 : IsPair m5 TO x y := o5
  refine wpAny_bind (wpAny_letGo (wpAny_pure (wpAny_pure ?_))); refine wpAny_bind (wpAny_seqItems o5 rfl ?_); refine wpAny_bind (wpAny_newTuple ?_)
  have size5 : m5.objs.size = s.heap.objs.size := by rw [b5.1, b4.1, b3.1, b2.1, b1.1]
  have z5 : ZAt m5 z TI TO .ellipsis flag := b5.extBut _ _ D.TOz.symm (b4.extBut _ _ D.i2z.symm (b3.extBut _ _ D.TOz.symm (b2.extBut _ _ D.i1z.symm z1)))
  have keep5 : ∀ c o, c ≠ z → c ≠ TO → c ≠ i1 → c ≠ i2 → s.heap.get? c = some o → m5.get? c = some o := fun c o c1 c2 c3 c4 e => b5.extBut _ _ c2 (b4.extBut _ _ c4 (b3.extBut _ _ c2 (b2.extBut _ _ c3 (b1.extBut _ _ c1 e))))
  have g15 : m5.IsTupleIter i1 l1 (k1 + 1) := ((g1.extBut b3.extBut D.TOi1.symm).extBut b4.extBut D.i12).extBut b5.extBut D.TOi1.symm
  have g25 : m5.IsTupleIter i2 l2 (k2 + 1) := g2.extBut b5.extBut D.TOi2.symm
  have zlt : z < m5.objs.size := Heap.lt_size z5
  show wpAny _ _ (Builtin.SmallTypes.ownedTupleHandOut (.ref z) (.ref m5.objs.size) >>= _) _ _ _
  refine wpAny_bind ?_; unfold Builtin.SmallTypes.ownedTupleHandOut
  have z6 : ZAt (m5.push { cls := .type "tuple", data := .seq #[x, y] }) z TI TO .ellipsis flag := Heap.get?_push_of_some _ z5
  refine wpAny_bind (wpAny_setField_rec z6 (by simp) fun m7 z7 b7 => ?_); replace z7 : ZAt m7 z TI TO (rawInt m5.objs.size) flag := z7
  refine wpAny_setField_rec z7 (by simp) fun m8 z8 b8 => ?_; replace z8 : ZAt m8 z TI TO (rawInt m5.objs.size) false := z8
  have up : ∀ c o, c ≠ z → m5.get? c = some o → m8.get? c = some o := fun c o c1 e => b8.extBut _ _ c1 (b7.extBut _ _ c1 (Heap.get?_push_of_some _ e))
  have T8 : IsPair m8 m5.objs.size x y := b8.extBut _ _ (Nat.ne_of_gt zlt) (b7.extBut _ _ (Nat.ne_of_gt zlt) (Heap.get?_push_size _ rfl))
  refine wpAny_pure ⟨_, rfl, ?_⟩; show Q (.ref m5.objs.size) _
  exact hQ m8 m5.objs.size m5.objs.size false size5 z8 ⟨_, _, up _ _ D.TOz o5⟩ (g15.at fun o e => up _ o D.i1z e) (g25.at fun o e => up _ o D.i2z e) T8 fun c o c1 c2 c3 c4 e => up c o c1 (keep5 c o c1 c2 c3 c4 e)
theorem not_free {ob : Obj} {B : Around} (hz : ZAt s.heap z TI TO (rawInt (T : Nat)) flag) (hal : s.heap.get? T = some ob) {Q : Bool → Shared → Prop}
    (h : ∀ m1 : Heap, ZAt m1 z TI TO (rawInt (T : Nat)) true → m1.objs.size = s.heap.objs.size → (∀ c o, c ≠ z → s.heap.get? c = some o → m1.get? c = some o) → Q false { s with heap := m1 }) :
    wpAny (model prog w) B (Builtin.SmallTypes.ownedTupleIsFree (.ref z)) Q E s := by
  unfold Builtin.SmallTypes.ownedTupleIsFree
  refine wpAny_bind (wpAny_field hz rfl (x := rawInt T) rfl ?_)
  show wpAny _ _ (PySem.loadIfAlive ((T : Int).toNat) >>= _) _ _ _
  refine wpAny_bind (alive_ ?_)
  rw [show ((T : Nat) : Int).toNat = T from rfl, hal]
  show wpAny _ _ (field (.ref z) 1 >>= _) _ _ _
  refine wpAny_bind (wpAny_field hz rfl (x := .bool flag) rfl ?_)
  cases flag with
  | true =>
    show wpAny _ _ (pure false) _ _ _
    exact wpAny_pure (h s.heap hz rfl fun _ _ _ e => e)
  | false =>
    show wpAny _ _ (setField (.ref z) 1 (.bool true) >>= _) _ _ _
    exact wpAny_bind (wpAny_setField_rec hz (by simp) fun m1 z1 b1 => wpAny_pure (h m1 z1 b1.1 fun c o c1 e => b1.extBut _ _ c1 e))
theorem gone_free {B : Around} (hz : ZAt s.heap z TI TO (rawInt (T : Nat)) flag) (hal : s.heap.get? T = none) {Q : Bool → Shared → Prop} (h : Q true s) :
    wpAny (model prog w) B (Builtin.SmallTypes.ownedTupleIsFree (.ref z)) Q E s := by
  unfold Builtin.SmallTypes.ownedTupleIsFree
  refine wpAny_bind (wpAny_field hz rfl (x := rawInt T) rfl ?_)
  show wpAny _ _ (PySem.loadIfAlive ((T : Int).toNat) >>= _) _ _ _
  refine wpAny_bind (alive_ ?_)
  rw [show ((T : Nat) : Int).toNat = T from rfl, hal]
  exact wpAny_pure h
theorem none_free {B : Around} (hz : ZAt s.heap z TI TO .none flag) {Q : Bool → Shared → Prop} (h : Q true s) : wpAny (model prog w) B (Builtin.SmallTypes.ownedTupleIsFree (.ref z)) Q E s := by
  unfold Builtin.SmallTypes.ownedTupleIsFree
  exact wpAny_bind (wpAny_field hz rfl (x := .none) rfl (wpAny_pure h))
/-- the name holds it still: a new pair, the old one stays with the iterator -/
theorem held_item (D : ZipApart z TI TO i1 i2 l1 l2) {ob : Obj} (hz : ZAt s.heap z TI TO (rawInt (T : Nat)) flag) (hal : s.heap.get? T = some ob) (hTI : IsPair s.heap TI (.ref i1) (.ref i2)) (hTO : IsPair s.heap TO a b)
    (h1 : s.heap.IsTupleIter i1 l1 k1) (h2 : s.heap.IsTupleIter i2 l2 k2) (hl1 : s.heap.IsTuple l1 xs) (hl2 : s.heap.IsTuple l2 ys) (hx : xs[k1]? = some x) (hy : ys[k2]? = some y) {Q : Value → Shared → Prop}
    (hQ : Behind s z TI TO i1 i2 l1 l2 k1 k2 x y Q) : wpAny (model prog w) A (Builtin.«zip.__next__» ⟨[.ref z], []⟩) (fun fin s' => ∃ v, fin = .done (.ret v) ∧ Q v s') E s := by
  show wpAny _ _ (field (.ref z) 2 >>= _) _ _ _; refine wpAny_bind (wpAny_field hz rfl (x := .bool false) rfl ?_)
  show wpAny _ _ (field (.ref z) 3 >>= _) _ _ _; refine wpAny_bind (wpAny_field hz rfl (x := .ref TI) rfl ?_); refine wpAny_bind (wpAny_seqItems hTI rfl ?_)
  show wpAny _ _ (Builtin.SmallTypes.ownedTupleIsFree (.ref z) >>= _) _ _ _
  refine wpAny_bind (not_free hz hal fun m1 z1 sz1 kp1 => ?_)
  have t1 : m1.IsTupleIter i1 l1 k1 := h1.at fun o e => kp1 _ o D.i1z e
  have t2 : m1.IsTupleIter i2 l2 k2 := h2.at fun o e => kp1 _ o D.i2z e
  have u1 : m1.IsTuple l1 xs := hl1.at fun o e => kp1 _ o D.l1z e
  have u2 : m1.IsTuple l2 ys := hl2.at fun o e => kp1 _ o D.l2z e
  simp only [Bool.false_eq_true, if_false]
  refine wpAny_bind ?_
  simp only [List.forIn_toArray, List.forIn_cons, List.forIn_nil]
  refine wpAny_bind (wpAny_bind (wpAny_holding ?_))
  show wpAny _ _ (Builtin.SmallTypes.nextOf (.ref i1) >>= _) _ _ _
  refine wpAny_bind (nextOf_tuple_item t1 u1 hx fun m2 g1 b2 => wpAny_pure ?_)
  refine wpAny_pure ?_
  refine wpAny_bind (wpAny_bind (wpAny_holding ?_))
  show wpAny _ _ (Builtin.SmallTypes.nextOf (.ref i2) >>= _) _ _ _
  refine wpAny_bind (nextOf_tuple_item (t2.extBut b2.extBut D.i12.symm) (u2.extBut b2.extBut D.l2i1) hy fun m3 g2 b3 => wpAny_pure ?_)
  refine wpAny_pure (wpAny_pure ?_)
  show wpAny _ _ (newTuple [x, y] >>= _) _ _ _
  refine wpAny_bind (wpAny_newTuple ?_)
  refine wpAny_pure ⟨_, rfl, ?_⟩
  have sz3 : m3.objs.size = s.heap.objs.size := by rw [b3.1, b2.1, sz1]
  have z3 : ZAt m3 z TI TO (rawInt (T : Nat)) true := b3.extBut _ _ D.i2z.symm (b2.extBut _ _ D.i1z.symm z1)
  have k3 : ∀ c o, c ≠ z → c ≠ TO → c ≠ i1 → c ≠ i2 → s.heap.get? c = some o → m3.get? c = some o := fun c o c1 _ c3 c4 e => b3.extBut _ _ c4 (b2.extBut _ _ c3 (kp1 _ _ c1 e))
  have o3 : IsPair m3 TO a b := b3.extBut _ _ D.TOi2 (b2.extBut _ _ D.TOi1 (kp1 _ _ D.TOz hTO))
  have g13 : m3.IsTupleIter i1 l1 (k1 + 1) := g1.extBut b3.extBut D.i12
  exact hQ (m3.push { cls := .type "tuple", data := .seq #[x, y] }) m3.objs.size T true sz3 (Heap.get?_push_of_some _ z3) ⟨_, _, Heap.get?_push_of_some _ o3⟩ (g13.at fun o e => Heap.get?_push_of_some _ e) (g2.at fun o e => Heap.get?_push_of_some _ e)
    (Heap.get?_push_size _ rfl) fun c o c1 c2 c3 c4 e => Heap.get?_push_of_some _ (k3 c o c1 c2 c3 c4 e)
/-- what an end leaves -/
def Ended (s : Shared) (z TO i1 i2 : Addr) (E : Value → Shared → Prop) : Prop :=
  ∀ h' e, (∀ c o, c ≠ z → c ≠ TO → c ≠ i1 → c ≠ i2 → s.heap.get? c = some o → h'.get? c = some o) → (∃ o, h'.get? e = some o ∧ o.cls = .type "StopIteration") → E (.ref e) { s with heap := h' }
theorem free_end (hh : A.handled = none) (D : ZipApart z TI TO i1 i2 l1 l2) {kept : Value} (hz : ZAt s.heap z TI TO kept flag) (hTI : IsPair s.heap TI (.ref i1) (.ref i2)) (hTO : IsPair s.heap TO a b)
    (hfree : ∀ (Q : Bool → Shared → Prop) (E : Value → Shared → Prop) (B : Around), Q true s → wpAny (model prog w) B (Builtin.SmallTypes.ownedTupleIsFree (.ref z)) Q E s)
    (h1 : s.heap.IsTupleIter i1 l1 k1) (h2 : s.heap.IsTupleIter i2 l2 k2) (hl1 : s.heap.IsTuple l1 xs) (hl2 : s.heap.IsTuple l2 ys) (hend : xs[k1]? = none ∨ ys[k2]? = none) {Q : Fin → Shared → Prop}
    (hE : Ended s z TO i1 i2 E) : wpAny (model prog w) A (Builtin.«zip.__next__» ⟨[.ref z], []⟩) Q E s := by
  show wpAny _ _ (field (.ref z) 2 >>= _) _ _ _; refine wpAny_bind (wpAny_field hz rfl (x := .bool false) rfl ?_)
  show wpAny _ _ (field (.ref z) 3 >>= _) _ _ _; refine wpAny_bind (wpAny_field hz rfl (x := .ref TI) rfl ?_); refine wpAny_bind (wpAny_seqItems hTI rfl ?_)
  show wpAny _ _ (Builtin.SmallTypes.ownedTupleIsFree (.ref z) >>= _) _ _ _; refine wpAny_bind (hfree _ _ _ ?_)
  simp only [if_true]; refine wpAny_bind (wpAny_rule ?_); refine wpAny_bind (wpAny_field hz rfl (x := .ref TO) rfl ?_)
  refine wpAny_bind (wpAny_setField_rec hz (by simp) fun m1 z1 b1 => ?_); replace z1 : ZAt m1 z TI TO .ellipsis flag := z1
  refine wpAny_bind ?_; simp only [List.zipIdx_cons, List.zipIdx_nil, List.forIn_cons, List.forIn_nil]
  refine wpAny_bind (wpAny_bind (wpAny_onRaise ?_)); show wpAny _ _ (Builtin.SmallTypes.nextOf (.ref i1) >>= _) _ _ _
  cases hx : xs[k1]? with
  | none =>
    refine wpAny_bind (nextOf_tuple_end hh (h1.extBut b1.extBut D.i1z) (hl1.extBut b1.extBut D.l1z) hx fun m2 e b2 he => ?_)
    obtain ⟨oe, hoe, hce⟩ := he
    have z2 : ZAt m2 z TI TO .ellipsis flag := b2 _ _ D.i1z.symm z1
    have hez : e ≠ z := fun q => by subst q; rw [z2] at hoe; cases hoe; simp at hce
    exact wpAny_setField_rec z2 (by simp) fun m3 _ b3 => hE m3 e (fun c o c1 _ c3 _ q => b3.extBut _ _ c1 (b2 _ _ c3 (b1.extBut _ _ c1 q))) ⟨oe, b3.extBut _ _ hez hoe, hce⟩
  | some x =>
    have hy : ys[k2]? = none := by rcases hend with h | h; rw [hx] at h; cases h; exact h
    refine wpAny_bind (nextOf_tuple_item (h1.extBut b1.extBut D.i1z) (hl1.extBut b1.extBut D.l1z) hx fun m2 g1 b2 => wpAny_pure ?_)
    have o2 : IsPair m2 TO a b := b2.extBut _ _ D.TOi1 (b1.extBut _ _ D.TOz hTO)
    refine wpAny_bind (wpAny_seqItems o2 rfl ?_); refine wpAny_bind (wpAny_updateSeq_pair o2 fun m3 o3 b3 => ?_)
    refine wpAny_bind (wpAny_letGo (wpAny_pure ?_)); refine wpAny_bind (wpAny_bind (wpAny_onRaise ?_))
    show wpAny _ _ (Builtin.SmallTypes.nextOf (.ref i2) >>= _) _ _ _
    refine wpAny_bind (nextOf_tuple_end hh (((h2.extBut b1.extBut D.i2z).extBut b2.extBut D.i12.symm).extBut b3.extBut D.TOi2.symm) (((hl2.extBut b1.extBut D.l2z).extBut b2.extBut D.l2i1).extBut b3.extBut D.l2TO) hy fun m4 e b4 he => ?_)
    obtain ⟨oe, hoe, hce⟩ := he
    have z4 : ZAt m4 z TI TO .ellipsis flag := b4 _ _ D.i2z.symm (b3.extBut _ _ D.TOz.symm (b2.extBut _ _ D.i1z.symm z1))
    have hez : e ≠ z := fun q => by subst q; rw [z4] at hoe; cases hoe; simp at hce
    exact wpAny_setField_rec z4 (by simp) fun m5 _ b5 => hE m5 e (fun c o c1 c2 c3 c4 q => b5.extBut _ _ c1 (b4 _ _ c4 (b3.extBut _ _ c2 (b2.extBut _ _ c3 (b1.extBut _ _ c1 q))))) ⟨oe, b5.extBut _ _ hez hoe, hce⟩
theorem held_end (hh : A.handled = none) (D : ZipApart z TI TO i1 i2 l1 l2) {ob : Obj} (hz : ZAt s.heap z TI TO (rawInt (T : Nat)) flag) (hal : s.heap.get? T = some ob) (hTI : IsPair s.heap TI (.ref i1) (.ref i2))
    (h1 : s.heap.IsTupleIter i1 l1 k1) (h2 : s.heap.IsTupleIter i2 l2 k2) (hl1 : s.heap.IsTuple l1 xs) (hl2 : s.heap.IsTuple l2 ys) (hend : xs[k1]? = none ∨ ys[k2]? = none) {Q : Fin → Shared → Prop}
    (hE : Ended s z TO i1 i2 E) : wpAny (model prog w) A (Builtin.«zip.__next__» ⟨[.ref z], []⟩) Q E s := by
  show wpAny _ _ (field (.ref z) 2 >>= _) _ _ _; refine wpAny_bind (wpAny_field hz rfl (x := .bool false) rfl ?_)
  show wpAny _ _ (field (.ref z) 3 >>= _) _ _ _; refine wpAny_bind (wpAny_field hz rfl (x := .ref TI) rfl ?_); refine wpAny_bind (wpAny_seqItems hTI rfl ?_)
  show wpAny _ _ (Builtin.SmallTypes.ownedTupleIsFree (.ref z) >>= _) _ _ _
  refine wpAny_bind (not_free hz hal fun m1 z1 sz1 kp1 => ?_)
  have t1 : m1.IsTupleIter i1 l1 k1 := h1.at fun o e => kp1 _ o D.i1z e
  have t2 : m1.IsTupleIter i2 l2 k2 := h2.at fun o e => kp1 _ o D.i2z e
  have u1 : m1.IsTuple l1 xs := hl1.at fun o e => kp1 _ o D.l1z e
  have u2 : m1.IsTuple l2 ys := hl2.at fun o e => kp1 _ o D.l2z e
  simp only [Bool.false_eq_true, if_false]
  refine wpAny_bind ?_
  simp only [List.forIn_toArray, List.forIn_cons, List.forIn_nil]
  refine wpAny_bind (wpAny_bind (wpAny_holding ?_))
  show wpAny _ _ (Builtin.SmallTypes.nextOf (.ref i1) >>= _) _ _ _
  cases hx : xs[k1]? with
  | none =>
    refine wpAny_bind (nextOf_tuple_end hh t1 u1 hx fun m2 e b2 he => ?_)
    exact hE m2 e (fun c o c1 _ c3 _ q => b2 _ _ c3 (kp1 _ _ c1 q)) he
  | some x =>
    have hy : ys[k2]? = none := by rcases hend with h | h; rw [hx] at h; cases h; exact h
    refine wpAny_bind (nextOf_tuple_item t1 u1 hx fun m2 g1 b2 => wpAny_pure ?_)
    refine wpAny_pure ?_
    refine wpAny_bind (wpAny_bind (wpAny_holding ?_))
    show wpAny _ _ (Builtin.SmallTypes.nextOf (.ref i2) >>= _) _ _ _
    refine wpAny_bind (nextOf_tuple_end hh (t2.extBut b2.extBut D.i12.symm) (u2.extBut b2.extBut D.l2i1) hy fun m3 e b3 he => ?_)
    exact hE m3 e (fun c o c1 _ c3 c4 q => b3 _ _ c4 (b2.extBut _ _ c3 (kp1 _ _ c1 q))) he
/-- what the iterator keeps between two turns -/
def Keeps (h : Heap) (z TI TO : Addr) : Prop := (∃ f, ZAt h z TI TO .none f) ∨ ∃ (T : Nat) (f : Bool), ZAt h z TI TO (rawInt T) f
theorem Keeps.at {h : Heap} (k : Keeps h z TI TO) : ∃ v f, ZAt h z TI TO v f := by
  rcases k with ⟨f, k⟩ | ⟨T, f, k⟩
  · exact ⟨_, f, k⟩
  · exact ⟨_, f, k⟩
theorem next_item (D : ZipApart z TI TO i1 i2 l1 l2) (hz : Keeps s.heap z TI TO) (hTI : IsPair s.heap TI (.ref i1) (.ref i2)) (hTO : IsPair s.heap TO a b)
    (h1 : s.heap.IsTupleIter i1 l1 k1) (h2 : s.heap.IsTupleIter i2 l2 k2) (hl1 : s.heap.IsTuple l1 xs) (hl2 : s.heap.IsTuple l2 ys) (hx : xs[k1]? = some x) (hy : ys[k2]? = some y) {Q : Option Value → Shared → Prop}
    (hQ : Behind s z TI TO i1 i2 l1 l2 k1 k2 x y fun v s' => Q (some v) s') : wpAny (model prog w) A (pyNext (.ref z)) Q E s := by
  obtain ⟨v, f, za⟩ := hz.at
  have hT : s.TypeIs (.ref z) "zip" := ⟨_, za, rfl⟩
  unfold pyNext
  refine wpAny_bind (wpAny_attempt (wpAny_callSpecial?_slot (name := Str.ofString "__next__") hT F.slot_zip_next (wpAny_call_entry F.slot_zip_next hT F.entry_zip_next ?_ (F.args_zip_next_1 _))))
  have hQ' : Behind s z TI TO i1 i2 l1 l2 k1 k2 x y fun v s' => wpAny (model prog w) A (pure (some v)) Q E s' := fun h' N T' f' e1 e2 e3 e4 e5 e6 e7 => wpAny_pure (hQ h' N T' f' e1 e2 e3 e4 e5 e6 e7)
  rcases hz with ⟨f, k⟩ | ⟨T, f, k⟩
  · exact free_item D k hTI hTO (fun Q E B h => none_free k h) h1 h2 hl1 hl2 hx hy hQ'
  · cases hal : s.heap.get? T with
    | none => exact free_item D k hTI hTO (fun Q E B h => gone_free k hal h) h1 h2 hl1 hl2 hx hy hQ'
    | some ob => exact held_item D k hal hTI hTO h1 h2 hl1 hl2 hx hy hQ'
theorem next_end (hh : A.handled = none) (D : ZipApart z TI TO i1 i2 l1 l2) (hz : Keeps s.heap z TI TO) (hTI : IsPair s.heap TI (.ref i1) (.ref i2)) (hTO : IsPair s.heap TO a b)
    (h1 : s.heap.IsTupleIter i1 l1 k1) (h2 : s.heap.IsTupleIter i2 l2 k2) (hl1 : s.heap.IsTuple l1 xs) (hl2 : s.heap.IsTuple l2 ys) (hend : xs[k1]? = none ∨ ys[k2]? = none) {Q : Option Value → Shared → Prop}
    (hQ : ∀ h', (∀ c o, c ≠ z → c ≠ TO → c ≠ i1 → c ≠ i2 → s.heap.get? c = some o → h'.get? c = some o) → Q none { s with heap := h' }) : wpAny (model prog w) A (pyNext (.ref z)) Q E s := by
  obtain ⟨v, f, za⟩ := hz.at
  have hT : s.TypeIs (.ref z) "zip" := ⟨_, za, rfl⟩
  have fin : ∀ h' e, (∀ c o, c ≠ z → c ≠ TO → c ≠ i1 → c ≠ i2 → s.heap.get? c = some o → h'.get? c = some o) → (∃ o, h'.get? e = some o ∧ o.cls = .type "StopIteration") →
      wpAny (model prog w) A (isInstance (.ref e) (.type "StopIteration")) (fun r s' => r = true ∧ Q none s') E { s with heap := h' } := fun h' e hk ⟨o, ho, hc⟩ =>
    wpAny_isInstance (T := "StopIteration") (b := true) ⟨o, ho, hc⟩ isSubtype_stop ⟨rfl, hQ _ hk⟩
  unfold pyNext
  refine wpAny_bind (wpAny_attempt (wpAny_callSpecial?_slot (name := Str.ofString "__next__") hT F.slot_zip_next (wpAny_call_entry F.slot_zip_next hT F.entry_zip_next ?_ (F.args_zip_next_1 _))))
  have go : Ended s z TO i1 i2 fun e s' => wpAny (model prog w) A (do if ← isInstance e (.type "StopIteration") then pure none else throw e) Q E s' := fun h' e hk he => wpAny_bind (wpAny_mono (fin h' e hk he) (fun r s' hr => by obtain ⟨rfl, q⟩ := hr; exact wpAny_pure q) fun _ _ q => q)
  rcases hz with ⟨f, k⟩ | ⟨T, f, k⟩
  · exact free_end (A := A.in1) hh D k hTI hTO (fun Q E B h => none_free k h) h1 h2 hl1 hl2 hend go
  · cases hal : s.heap.get? T with
    | none => exact free_end (A := A.in1) hh D k hTI hTO (fun Q E B h => gone_free k hal h) h1 h2 hl1 hl2 hend go
    | some ob => exact held_end (A := A.in1) hh D k hal hTI h1 h2 hl1 hl2 hend go
end
theorem turn_zipTN {P : Program} {w : World} {K : PySem.W.Frag} {x : Str} {tpos : Pos} {a b z TI TO i1 i2 : Addr} (D : ZipApart z TI TO i1 i2 a b) :
    Turn P w K (.Name x tpos) (ItzT K a b) [z, TI, TO, i1, i2] z (fun i h => Keeps h z TI TO ∧ IsPair h TI (.ref i1) (.ref i2) ∧ (∃ x y, IsPair h TO x y) ∧ h.IsTupleIter i1 a i ∧ h.IsTupleIter i2 b i) := by
  have five : ∀ c, c ∈ [z, TI, TO, i1, i2] → c = z ∨ c = TI ∨ c = TO ∨ c = i1 ∨ c = i2 := fun c hc => by simpa using hc
  refine ⟨by simp, fun i h st c hc => ?_, fun i h h' st k => ?_, ?_, ?_, ?_⟩
  · obtain ⟨hz, hTI, ⟨x, y, hTO⟩, ⟨o1, e1, _, d1⟩, ⟨o2, e2, _, d2⟩⟩ := st
    obtain ⟨v, f, za⟩ := hz.at
    rcases five c hc with q | q | q | q | q
    · rw [q]; exact ⟨_, za, fun v q => nomatch q⟩
    · rw [q]; exact ⟨_, hTI, fun v q => nomatch q⟩
    · rw [q]; exact ⟨_, hTO, fun v q => nomatch q⟩
    · rw [q]; exact ⟨o1, e1, fun v q => by rw [d1] at q; cases q⟩
    · rw [q]; exact ⟨o2, e2, fun v q => by rw [d2] at q; cases q⟩
  · obtain ⟨hz, hTI, ⟨x, y, hTO⟩, h1, h2⟩ := st
    refine ⟨?_, k TI (by simp) _ hTI, ⟨x, y, k TO (by simp) _ hTO⟩, h1.at fun o q => k i1 (by simp) o q, h2.at fun o q => k i2 (by simp) o q⟩
    rcases hz with ⟨f, za⟩ | ⟨T, f, za⟩
    · exact .inl ⟨f, k z (by simp) _ za⟩
    · exact .inr ⟨T, f, k z (by simp) _ za⟩
  · intro X hP hw hK hc i pins s σ H E I hf st hg
    subst hP hw hK
    obtain ⟨hz, hTI, ⟨x0, y0, hTO⟩, h1, h2⟩ := st
    obtain ⟨xs, ys, x, y, hqx, hqy, hx, hy⟩ := hg
    obtain ⟨its, rv, p, _⟩ := I.tuple hqx
    obtain ⟨its2, rv2, p2, _⟩ := I.tuple hqy
    obtain ⟨u, hu, ru⟩ := rv.get hx
    obtain ⟨u2, hu2, ru2⟩ := rv2.get hy
    obtain ⟨v0, f0, za⟩ := hz.at
    have zl : z < s.heap.objs.size := Heap.lt_size za
    refine next_item D hz hTI hTO h1 h2 p p2 (x := u) (y := u2) (by simpa using hu) (by simpa using hu2) fun h' N T' f' eN z' TO' h1' h2' hT hk => ?_
    subst eN
    refine ⟨_, rfl, ?_⟩
    show wpAny _ _ (pure ()) _ _ _
    have new : ObjOk X.prog X.w (upd H s.heap.objs.size (.tup [x, y])) h' s.heap.objs.size (.tup [x, y]) := ⟨by show 2 ≤ sizeLine; decide, [u, u2], .cons ru (.cons ru2 .nil), ⟨_, hT, rfl, _, rfl⟩⟩
    have I1 : Inv X pins σ (upd H s.heap.objs.size (.tup [x, y])) { s with heap := h' } :=
      I.turnedNew (t' := s.toks) (ch := [z, TI, TO, i1, i2]) (fun c o hb q => hk c o (fun e => hb (by simp [e])) (fun e => hb (by simp [e])) (fun e => hb (by simp [e])) (fun e => hb (by simp [e])) q) hf (Nat.le_refl _) new
    refine wpAny_pure ⟨.ref s.heap.objs.size, _, I1, rfl, ⟨_, x, y, rfl, I.hok.fresh (Nat.le_refl _), rfl, fun l hl => by rw [I.tuple_inj hl hqx]; exact hx, fun l hl => by rw [I.tuple_inj hl hqy]; exact hy⟩, ⟨.inr ⟨T', f', z'⟩, ?_, TO', h1', h2'⟩, fun c hcm => ?_⟩
    · exact hk _ _ D.TIz D.TITO D.TIi1 D.TIi2 hTI
    · have hlt : c < s.heap.objs.size := by
        rcases five c hcm with q | q | q | q | q
        · rw [q]; exact zl
        · rw [q]; exact Heap.lt_size hTI
        · rw [q]; exact Heap.lt_size hTO
        · rw [q]; obtain ⟨_, e1, _⟩ := h1; exact Heap.lt_size e1
        · rw [q]; obtain ⟨_, e2, _⟩ := h2; exact Heap.lt_size e2
      rw [upd_ne (Nat.ne_of_lt hlt)]
      exact (hf c hcm).1
  · intro X hP hw hK hc i pins s σ H E I hf st hg
    subst hP hw hK
    obtain ⟨hz, hTI, ⟨x0, y0, hTO⟩, h1, h2⟩ := st
    obtain ⟨xs, ys, hqx, hqy, hend⟩ := hg
    obtain ⟨its, rv, p, _⟩ := I.tuple hqx
    obtain ⟨its2, rv2, p2, _⟩ := I.tuple hqy
    have l1 := rv.length
    have l2 := rv2.length
    have he : its.toArray[i]? = none ∨ its2.toArray[i]? = none := by
      rcases hend with q | q
      · exact .inl (by simp; omega)
      · exact .inr (by simp; omega)
    exact next_end (I.ok.hd hc) D hz hTI hTO h1 h2 p p2 he fun h' hk => ⟨rfl, I.turnedL (t' := s.toks) (ch := [z, TI, TO, i1, i2]) (fun c o hb q => hk c o (fun e => hb (by simp [e])) (fun e => hb (by simp [e])) (fun e => hb (by simp [e])) (fun e => hb (by simp [e])) q) hf⟩
  · intro A i s Q E st h
    obtain ⟨hz, _⟩ := st
    obtain ⟨v, f, za⟩ := hz.at
    have hT : s.TypeIs (.ref z) "zip" := ⟨_, za, rfl⟩
    refine wpAny_pyIter_slot hT F.slot_zip_iter (wpAny_call_entry F.slot_zip_iter hT F.entry_zip_iter ?_ (F.args_zip_iter_1 _))
    show wpAny _ _ (ret (.ref z)) _ _ s
    exact wpAny_pure ⟨_, rfl, "zip", _, hT, F.slot_zip_next.lookup, h⟩
def iZipTN (K : PySem.W.Frag) (ta : TA) : TI := fun σ H R => ta σ H fun vs H1 => ∃ a b xs ys, vs = [.ref a, .ref b] ∧ SqT K H1 a xs ∧ SqT K H1 b ys ∧ R (ItzT K a b) H1
/-- for pair in zip(t, u) -/
theorem pi_zipTN {X : Cx} {e e2 : Expr} {ta : TA} {x : Str} {p pos tpos : Pos} (hg : Gl X "zip") (hm : X.mg "zip" = none) (ha : PA X [e, e2] ta)
    (hs : starEach [e, e2] X.env = (false, eval e X.env) :: starEach [e2] X.env := by rfl) (hpl : (backTo pos (starEach [e2] X.env)).any (·.1) = false := by rfl) :
    PI X (.Name x tpos) (.Call (.Name "zip" p) [e, e2] [] pos) (iZipTN X.K ta) := by
  refine ⟨fun pins s σ H R I h => ?_⟩
  refine Call_ (ld_blt I hg hm PyProof.Rows.boot_zip (PyProof.Rows.callWith_type1 (thn (ha.run pos pins s σ H _ I h) fun us s1 ⟨vs, H1, I1, r1, q1⟩ => ?_) hs hpl))
  obtain ⟨a, b, xs, ys, ex, hqx, hqy, q⟩ := q1
  subst ex
  obtain ⟨u1, u2, rfl, r1, r2⟩ := vals2 r1
  cases r1
  cases r2
  have fresh5 : ∀ c, c ∈ [s1.heap.objs.size + 4, s1.heap.objs.size + 2, s1.heap.objs.size + 3, s1.heap.objs.size, s1.heap.objs.size + 1] → FpOk X pins H1 c := fun c hcm => by
    have hle : s1.heap.objs.size ≤ c := by
      simp only [List.mem_cons, List.not_mem_nil, or_false] at hcm
      omega
    exact I1.fpOk hle (I1.hok.fresh hle)
  obtain ⟨its, rv, p1, _⟩ := I1.tuple hqx
  obtain ⟨its2, rv2, p2, _⟩ := I1.tuple hqy
  obtain ⟨o1, ho1, _⟩ := id p1
  obtain ⟨o2, ho2, _⟩ := id p2
  refine call_zipT p1 p2 fun h' hz hTI hTO h1 h2 hsz hk => wpAny_pyIter_zip hz ?_
  have I2 : Inv X pins σ H1 { s1 with heap := h' } := I1.kept (t' := s1.toks) hk
  exact ⟨s1.heap.objs.size + 4, [s1.heap.objs.size + 4, s1.heap.objs.size + 2, s1.heap.objs.size + 3, s1.heap.objs.size, s1.heap.objs.size + 1], _, _, H1, rfl, I2, turn_zipTN (PySem.W.ktu_apart s1.heap.objs.size a b (Heap.lt_size ho1) (Heap.lt_size ho2)), ⟨.inl ⟨_, hz⟩, hTI, ⟨_, _, hTO⟩, h1, h2⟩, fresh5, q⟩
end ZN

/-! bags: values that are judged, and the sums over pairs -/
namespace Sh
open PySem PySem.Spec PyProof.Rows L2 RZ
section
variable {X : Cx}
def rLenS (K : PySem.W.Frag) : List V → Hp → VK → Prop := fun xs H Q => ∃ p ys, xs = [.ref p] ∧ (SqL K H p ys ∨ SqT K H p ys) ∧ Q (.int ys.length) H
def rTupOf (K : PySem.W.Frag) : List V → Hp → VK → Prop := fun xs H Q => ∃ p ys, xs = [.ref p] ∧ ((SqL K H p ys ∧ ∀ l, H l = none → Q (.ref l) (upd H l (.tup ys))) ∨ (SqT K H p ys ∧ Q (.ref p) H))
def rLstOf (K : PySem.W.Frag) : List V → Hp → VK → Prop := fun xs H Q => ∃ p ys, xs = [.ref p] ∧ (SqL K H p ys ∨ SqT K H p ys) ∧ ∀ l, H l = none → Q (.ref l) (upd H l (.lst ys))
theorem cutV_all (xs : List V) {lo hi : Option Int} (hw : HT.sIx xs.length 0 lo = 0 ∧ HT.sIx xs.length xs.length hi = xs.length) : cutV xs lo hi = xs := by
  unfold cutV
  rw [hw.1, hw.2]
  simp
/-- a slice of a tuple, whichever object it is -/
def rSlW : V → Option Int → Option Int → Hp → VK → Prop := fun x lo hi H Q => ∃ a xs, x = .ref a ∧ H a = some (.tup xs) ∧ ∀ p H', Same H H' → H' p = some (.tup (cutV xs lo hi)) → Q (.ref p) H'
theorem sl_tupW : SlR X rSlW := by
  intro pins s σ H x v vl vu lo hi sl Q I rx hs pl pu h
  obtain ⟨a, xs, rfl, hx, q⟩ := h
  refine sl_tupA pins s σ H _ v vl vu lo hi sl Q I rx hs pl pu ⟨a, xs, rfl, .inl (.inl hx), fun hw => q a H (Same.refl H) ?_, fun _ p hp => q p _ (same_new (Same.refl H) hp) upd_same⟩
  rw [cutV_all xs hw]
  exact hx
/-- two tuples glued, whichever object it is -/
def rCatW : V → V → Hp → VK → Prop := fun x y H Q => ∃ a b xs ys, x = .ref a ∧ y = .ref b ∧ H a = some (.tup xs) ∧ H b = some (.tup ys) ∧ xs.length + ys.length ≤ sizeLine ∧ ∀ p H', Same H H' → H' p = some (.tup (xs ++ ys)) → Q (.ref p) H'
theorem op_catW : OpR X (binaryOp .Add) rCatW := by
  intro pins s σ H x y v u Q I rx ry h
  obtain ⟨a, b, xs, ys, rfl, rfl, ha, hb, hz, q⟩ := h
  refine op_catA pins s σ H _ _ v u Q I rx ry ⟨a, b, xs, ys, rfl, rfl, .inl (.inl ha), .inl (.inl hb), hz, fun e => q b H (Same.refl H) ?_, fun _ e => q a H (Same.refl H) ?_, fun _ _ p hp => q p _ (same_new (Same.refl H) hp) upd_same⟩
  · rw [e, List.nil_append]
    exact hb
  · rw [e, List.append_nil]
    exact ha
end
/-! ### values that are judged -/
def NoTup (H : Hp) (v : V) : Prop := v = .non ∨ (∃ i : Int, v = .int i) ∨ (∃ b, v = .bl b) ∨ (∃ z, v = .str z) ∨ (∃ p xs, v = .ref p ∧ H p = some (.lst xs)) ∨ ∃ p xs, v = .ref p ∧ H p = some (.dK xs)
def Kn (H : Hp) (v : V) : Prop := NoTup H v ∨ ∃ p xs, v = .ref p ∧ H p = some (.tup xs)
def Val (H : Hp) (v : V) : Prop := NoTup H v ∨ ∃ p xs, v = .ref p ∧ H p = some (.tup xs) ∧ xs.length ≤ 1000 ∧ ∀ x ∈ xs, Kn H x
def isB : V → Bool
  | .bl _ => true
  | _ => false
def isI : V → Bool
  | .int _ => true
  | _ => false
theorem NoTup.ty {K : PySem.W.Frag} {H : Hp} {v : V} (h : NoTup H v) : ∃ T, TyX K H v (.type T) ∧ kitB T "tuple" = some false ∧ kitB T "int" = some (isB v || isI v) ∧ kitB T "bool" = some (isB v) := by
  rcases h with rfl | ⟨i, rfl⟩ | ⟨b, rfl⟩ | ⟨z, rfl⟩ | ⟨p, xs, rfl, h⟩ | ⟨p, xs, rfl, h⟩
  · exact ⟨_, .base .non, by decide +kernel, by decide +kernel, by decide +kernel⟩
  · exact ⟨_, .base (.int i), by decide +kernel, (show kitB "int" "int" = some true by decide +kernel), (show kitB "int" "bool" = some false by decide +kernel)⟩
  · exact ⟨_, .base (.bl b), by decide +kernel, (show kitB "bool" "int" = some true by decide +kernel), (show kitB "bool" "bool" = some true by decide +kernel)⟩
  · exact ⟨_, .base (.str z), by decide +kernel, (show kitB "str" "int" = some false by decide +kernel), (show kitB "str" "bool" = some false by decide +kernel)⟩
  · exact ⟨_, .base (.lst h), by decide +kernel, (show kitB "list" "int" = some false by decide +kernel), (show kitB "list" "bool" = some false by decide +kernel)⟩
  · exact ⟨_, .base (.dK h), by decide +kernel, (show kitB "dict" "int" = some false by decide +kernel), (show kitB "dict" "bool" = some false by decide +kernel)⟩
theorem Kn.ty {K : PySem.W.Frag} {H : Hp} {v : V} (h : Kn H v) : ∃ T, TyX K H v (.type T) ∧ kitB T "int" = some (isB v || isI v) ∧ kitB T "bool" = some (isB v) := by
  rcases h with h | ⟨p, xs, rfl, h⟩
  · obtain ⟨T, a, _, b, c⟩ := h.ty (K := K)
    exact ⟨T, a, b, c⟩
  · exact ⟨_, .base (.tup h), (show kitB "tuple" "int" = some false by decide +kernel), (show kitB "tuple" "bool" = some false by decide +kernel)⟩
theorem NoTup.same {H H' : Hp} {v : V} (s : Same H H') (h : NoTup H v) : NoTup H' v := by
  rcases h with h | h | h | h | ⟨p, xs, e, h⟩ | ⟨p, xs, e, h⟩
  · exact .inl h
  · exact .inr (.inl h)
  · exact .inr (.inr (.inl h))
  · exact .inr (.inr (.inr (.inl h)))
  · exact .inr (.inr (.inr (.inr (.inl ⟨p, xs, e, s _ _ h⟩))))
  · exact .inr (.inr (.inr (.inr (.inr ⟨p, xs, e, s _ _ h⟩))))
theorem Kn.same {H H' : Hp} {v : V} (s : Same H H') (h : Kn H v) : Kn H' v := by
  rcases h with h | ⟨p, xs, e, h⟩
  · exact .inl (h.same s)
  · exact .inr ⟨p, xs, e, s _ _ h⟩
theorem Val.same {H H' : Hp} {v : V} (s : Same H H') (h : Val H v) : Val H' v := by
  rcases h with h | ⟨p, xs, e, h, l, k⟩
  · exact .inl (h.same s)
  · exact .inr ⟨p, xs, e, s _ _ h, l, fun x hx => (k x hx).same s⟩
theorem Val.kn {H : Hp} {v : V} (h : Val H v) : Kn H v := by
  rcases h with h | ⟨p, xs, e, h, _⟩
  · exact .inl h
  · exact .inr ⟨p, xs, e, h⟩
theorem kn_int (H : Hp) (i : Int) : Kn H (.int i) := .inl (.inr (.inl ⟨i, rfl⟩))
theorem Flat.no {H : Hp} {v : V} (h : Flat v) : NoTup H v := by
  rcases h with h | h | h | ⟨z, h, _⟩
  · exact .inl h
  · exact .inr (.inl h)
  · exact .inr (.inr (.inl h))
  · exact .inr (.inr (.inr (.inl ⟨z, h⟩)))
theorem Odd.val {H : Hp} {v : V} (h : Odd H v) : Val H v := by
  rcases h with h | ⟨p, xs, e, h, l, k⟩ | ⟨p, e, h⟩ | ⟨p, e, h⟩
  · exact .inl (Flat.no h)
  · refine .inr ⟨p, xs, e, h, by omega, fun x hx => ?_⟩
    rcases k x hx with f | ⟨q, ys, e, hq, _⟩
    · exact .inl (Flat.no f)
    · exact .inr ⟨q, ys, e, hq⟩
  · exact .inl (.inr (.inr (.inr (.inr (.inl ⟨p, _, e, h⟩)))))
  · exact .inl (.inr (.inr (.inr (.inr (.inr ⟨p, _, e, h⟩)))))
theorem not_kept {v : V} (h : (isB v || isI v) = true) : (!isB v) = isI v := by
  cases v <;> first | rfl | exact absurd h Bool.false_ne_true
theorem none_kept {v : V} (h : ¬ (isB v || isI v) = true) : false = isI v := by
  cases v <;> first | rfl | exact absurd rfl h
/-- an entry from low on -/
def entB (low : Int) : V → Bool
  | .int i => decide (low ≤ i)
  | _ => false
def entOk (low : Int) (xs : List V) : Bool := decide (1 ≤ xs.length) && decide (xs.length ≤ 5) && (xs.map (entB low)).all id
/-- has_entries, is_bag, is_wide: what is told of a value -/
def Told (low : Int) (H : Hp) (v : V) (Q : VK) : Prop :=
  (NoTup H v ∧ ∀ H', Same H H' → Q (.bl false) H') ∨ ∃ p xs, v = .ref p ∧ H p = some (.tup xs) ∧ xs.length ≤ 1000 ∧ (∀ x ∈ xs, Kn H x) ∧ ∀ H', Same H H' → Q (.bl (entOk low xs)) H'
def spInt : Sp := fun vs H Q _ => ∃ v, vs = [v] ∧ Kn H v ∧ Q (.bl (isI v)) H
def spEnt : Sp := fun vs H Q _ => ∃ v low, vs = [v, .int low] ∧ Told low H v Q
def spEnt1 (low : Int) : Sp := fun vs H Q _ => ∃ v, vs = [v] ∧ Told low H v Q
/-! ### wide bags -/
def Wide (ns : List Int) : Prop := 1 ≤ ns.length ∧ ns.length ≤ 5 ∧ ∀ n ∈ ns, -1 ≤ n
def fitE (e m : Int) : Bool := decide (m = -1) || (decide (0 ≤ e) && decide (e ≤ m))
def fitsB (ns ms : List Int) : Bool := ((ns.zip ms).map fun p => fitE p.1 p.2).all id
def addE (e m : Int) : Int := if e = -1 ∨ m = -1 then -1 else e + m
def addB (ns ms : List Int) : List Int := (ns.zip ms).map fun p => addE p.1 p.2
theorem ent_ints {low : Int} (ns : List Int) : ((ns.map V.int).map (entB low)).all id = ns.all fun n => decide (low ≤ n) := by
  induction ns with
  | nil => rfl
  | cons n r ih =>
    rw [List.map_cons, List.map_cons, List.all_cons, List.all_cons, ih]
    rfl
theorem Wide.ok {ns : List Int} (h : Wide ns) : entOk (-1) (ns.map V.int) = true := by
  unfold entOk
  rw [ent_ints, List.length_map, decide_eq_true h.1, decide_eq_true h.2.1, Bool.true_and, Bool.true_and, List.all_eq_true]
  exact fun n hn => decide_eq_true (h.2.2 n hn)
/-- two wide bags of one length, and what comes of them -/
def Pair (H : Hp) (vs : List V) (ns ms : List Int) : Prop := ∃ p q, vs = [.ref p, .ref q] ∧ H p = some (.tup (ns.map V.int)) ∧ H q = some (.tup (ms.map V.int)) ∧ Wide ns ∧ Wide ms ∧ ns.length = ms.length
def spPair : Sp := fun vs H Q _ => ∃ ns ms, Pair H vs ns ms ∧ ∀ H', Same H H' → Q .non H'
def spFits : Sp := fun vs H Q _ => ∃ ns ms, Pair H vs ns ms ∧ ∀ H', Same H H' → Q (.bl (fitsB ns ms)) H'
def spAdded : Sp := fun vs H Q _ => ∃ ns ms, Pair H vs ns ms ∧ ∀ p H', Same H H' → H' p = some (.tup ((addB ns ms).map V.int)) → Q (.ref p) H'
theorem ints_kn {H : Hp} {ns : List Int} : ∀ x ∈ ns.map V.int, Kn H x := fun x hx => by
  obtain ⟨n, _, rfl⟩ := List.mem_map.mp hx
  exact kn_int H n
theorem Wide.len {ns : List Int} (h : Wide ns) : (ns.map V.int).length ≤ 1000 := by
  rw [List.length_map]
  have := h.2.1
  omega
end Sh

/-! the law's own looks at bags: what they promise -/
namespace Sh
open PySem PySem.Spec PyProof.Rows L2 RZ
theorem NoTup.die {H H' : Hp} {d : Addr} {v : V} (hd : DieAt H d) (n : NewDie H d H') (h : NoTup H v) : NoTup H' v := by
  rcases h with h | h | h | h | ⟨p, xs, e, h⟩ | ⟨p, xs, e, h⟩
  · exact .inl h
  · exact .inr (.inl h)
  · exact .inr (.inr (.inl h))
  · exact .inr (.inr (.inr (.inl h)))
  · by_cases hp : p = d
    · obtain ⟨a, b, c, rfl⟩ := n
      subst hp
      exact .inr (.inr (.inr (.inr (.inl ⟨_, _, e, upd_same⟩))))
    · exact .inr (.inr (.inr (.inr (.inl ⟨p, xs, e, (n.ne hp).trans h⟩))))
  · have hp : p ≠ d := hd.ne h fun _ _ _ z => by cases z
    exact .inr (.inr (.inr (.inr (.inr ⟨p, xs, e, (n.ne hp).trans h⟩))))
theorem NewDie.tup {H H' : Hp} {d p : Addr} {xs : List V} (hd : DieAt H d) (n : NewDie H d H') (h : H p = some (.tup xs)) : H' p = some (.tup xs) := (n.ne (hd.ne h fun _ _ _ z => by cases z)).trans h
theorem But.tup {H H' : Hp} {d p : Addr} {xs : List V} (hd : DieAt H d) (b : But d H H') (h : H p = some (.tup xs)) : H' p = some (.tup xs) := b _ _ (hd.ne h fun _ _ _ z => by cases z) h
theorem Kn.die {H H' : Hp} {d : Addr} {v : V} (hd : DieAt H d) (n : NewDie H d H') (h : Kn H v) : Kn H' v := by
  rcases h with h | ⟨p, xs, e, h⟩
  · exact .inl (h.die hd n)
  · exact .inr ⟨p, xs, e, n.tup hd h⟩
theorem Val.die {H H' : Hp} {d : Addr} {v : V} (hd : DieAt H d) (n : NewDie H d H') (h : Val H v) : Val H' v := by
  rcases h with h | ⟨p, xs, e, h, l, k⟩
  · exact .inl (h.die hd n)
  · exact .inr ⟨p, xs, e, n.tup hd h, l, fun x hx => (k x hx).die hd n⟩
/-- a list changed in place -/
theorem NoTup.upl {H : Hp} {S : Addr} {ys zs : List V} {v : V} (hs : H S = some (.lst ys)) (h : NoTup H v) : NoTup (upd H S (.lst zs)) v := by
  rcases h with h | h | h | h | ⟨p, xs, e, h⟩ | ⟨p, xs, e, h⟩
  · exact .inl h
  · exact .inr (.inl h)
  · exact .inr (.inr (.inl h))
  · exact .inr (.inr (.inr (.inl h)))
  · by_cases hp : p = S
    · subst hp
      exact .inr (.inr (.inr (.inr (.inl ⟨_, _, e, upd_same⟩))))
    · exact .inr (.inr (.inr (.inr (.inl ⟨p, xs, e, (upd_ne hp).trans h⟩))))
  · exact .inr (.inr (.inr (.inr (.inr ⟨p, xs, e, (upd_ne (ne_of h hs fun z => by cases z)).trans h⟩))))
theorem Kn.upl {H : Hp} {S : Addr} {ys zs : List V} {v : V} (hs : H S = some (.lst ys)) (h : Kn H v) : Kn (upd H S (.lst zs)) v := by
  rcases h with h | ⟨p, xs, e, h⟩
  · exact .inl (h.upl hs)
  · exact .inr ⟨p, xs, e, (upd_ne (ne_of h hs fun z => by cases z)).trans h⟩
theorem Val.upl {H : Hp} {S : Addr} {ys zs : List V} {v : V} (hs : H S = some (.lst ys)) (h : Val H v) : Val (upd H S (.lst zs)) v := by
  rcases h with h | ⟨p, xs, e, h, l, k⟩
  · exact .inl (h.upl hs)
  · exact .inr ⟨p, xs, e, (upd_ne (ne_of h hs fun z => by cases z)).trans h, l, fun x hx => (k x hx).upl hs⟩
theorem tup_upl {H : Hp} {S p : Addr} {ys zs xs : List V} (hs : H S = some (.lst ys)) (h : H p = some (.tup xs)) : upd H S (.lst zs) p = some (.tup xs) := (upd_ne (ne_of h hs fun z => by cases z)).trans h
theorem NoTup.but {H H' : Hp} {d : Addr} {v : V} (hd : DieAt H d) (b : But d H H') (h' : DieAt H' d) (h : NoTup H v) : NoTup H' v := by
  rcases h with h | h | h | h | ⟨p, xs, e, h⟩ | ⟨p, xs, e, h⟩
  · exact .inl h
  · exact .inr (.inl h)
  · exact .inr (.inr (.inl h))
  · exact .inr (.inr (.inr (.inl h)))
  · by_cases hp : p = d
    · obtain ⟨x, y, z, hz⟩ := h'
      subst hp
      exact .inr (.inr (.inr (.inr (.inl ⟨_, _, e, hz⟩))))
    · exact .inr (.inr (.inr (.inr (.inl ⟨p, xs, e, b _ _ hp h⟩))))
  · have hp : p ≠ d := hd.ne h fun _ _ _ z => by cases z
    exact .inr (.inr (.inr (.inr (.inr ⟨p, xs, e, b _ _ hp h⟩))))
theorem Val.but {H H' : Hp} {d : Addr} {v : V} (h : Val H v) (hd : DieAt H d) (b : But d H H') (h' : DieAt H' d) : Val H' v := by
  rcases h with h | ⟨p, xs, e, h, l, k⟩
  · exact .inl (h.but hd b h')
  · refine .inr ⟨p, xs, e, But.tup hd b h, l, fun x hx => ?_⟩
    rcases k x hx with c | ⟨q, ys, e, c⟩
    · exact .inl (c.but hd b h')
    · exact .inr ⟨q, ys, e, But.tup hd b c⟩
theorem val_tup {H : Hp} {p : Addr} {xs : List V} (h : H p = some (.tup xs)) (l : xs.length ≤ 1000) (k : ∀ x ∈ xs, Kn H x) : Val H (.ref p) := .inr ⟨p, xs, rfl, h, l, k⟩
theorem val_lst {H : Hp} {p : Addr} {xs : List V} (h : H p = some (.lst xs)) : Val H (.ref p) := .inl (.inr (.inr (.inr (.inr (.inl ⟨p, xs, rfl, h⟩)))))
theorem cutV_sub {xs : List V} {lo hi : Option Int} {x : V} (h : x ∈ cutV xs lo hi) : x ∈ xs := List.mem_of_mem_drop (List.mem_of_mem_take h)
/-- a tuple bent -/
def spBent : Sp := fun vs H Q _ => ∃ d p odd, ∃ ns : List Int, vs = [.ref d, .ref p, odd] ∧ DieAt H d ∧ H p = some (.tup (ns.map V.int)) ∧ ns ≠ [] ∧ ns.length ≤ 100 ∧ Val H odd ∧
  ∀ v H', Val H' v → But d H H' → DieAt H' d → Q v H'
/-- the law's own look at a bag -/
def spBagOf : Sp := fun vs H Q _ => ∃ v, ∃ n : Nat, ∃ low : Int, vs = [v, .int n, .int low] ∧
  ((NoTup H v ∧ ∀ H', Same H H' → Q (.bl false) H') ∨ ∃ p xs, v = .ref p ∧ H p = some (.tup xs) ∧ xs.length ≤ 1000 ∧ (∀ x ∈ xs, Kn H x) ∧ ∀ H', Same H H' → Q (.bl (decide (xs.length = n) && (xs.map (entB low)).all id)) H')
/-- a drawn wide bag -/
def Drawn (ns : List Int) : Prop := ∀ e ∈ ns, -1 ≤ e ∧ e ≤ 10 ^ 38
def spAnyWide : Sp := fun vs H Q _ => ∃ d, ∃ n : Nat, vs = [.ref d, .int n] ∧ DieAt H d ∧ n ≤ 5 ∧
  ∀ p H', ∀ ns : List Int, ns.length = n → Drawn ns → H' p = some (.tup (ns.map V.int)) → But d H H' → DieAt H' d → Q (.ref p) H'
/-- the law's own order of wide bags -/
def spWider : Sp := fun vs H Q _ => ∃ p q, ∃ ns ms : List Int, vs = [.ref p, .ref q] ∧ H p = some (.tup (ns.map V.int)) ∧ H q = some (.tup (ms.map V.int)) ∧ ns.length = ms.length ∧ ns.length ≤ 100 ∧ (∀ n ∈ ns, -1 ≤ n) ∧ Q (.bl (fitsB ns ms)) H
theorem entB_wrong {low : Int} {xs : List V} : (xs.filter fun x => !entB low x).isEmpty = (xs.map (entB low)).all id := by
  induction xs with
  | nil => rfl
  | cons c r ih =>
    rw [List.map_cons, List.all_cons, List.filter_cons]
    cases e : entB low c with
    | true => rw [if_neg (by decide)]; simpa using ih
    | false => rw [if_pos (by decide)]; rfl
theorem fits_at {ns ms : List Int} : fitsB ns ms = true ↔ ∀ (i : Nat) e m, ns[i]? = some e → ms[i]? = some m → fitE e m = true := by
  unfold fitsB
  rw [List.all_eq_true]
  constructor
  · intro h i e m h1 h2
    have hz : (ns.zip ms)[i]? = some (e, m) := List.getElem?_zip_eq_some.mpr ⟨h1, h2⟩
    exact h (fitE e m) (List.mem_map.mpr ⟨(e, m), List.mem_of_getElem? hz, rfl⟩)
  · intro h b hb
    obtain ⟨⟨e, m⟩, hp, rfl⟩ := List.mem_map.mp hb
    obtain ⟨i, hi⟩ := List.mem_iff_getElem?.mp hp
    obtain ⟨h1, h2⟩ := List.getElem?_zip_eq_some.mp hi
    exact h i e m h1 h2
theorem fitE_iff {e m : Int} : fitE e m = true ↔ m = -1 ∨ (0 ≤ e ∧ e ≤ m) := by
  unfold fitE
  rw [Bool.or_eq_true, Bool.and_eq_true, decide_eq_true_iff, decide_eq_true_iff, decide_eq_true_iff]
theorem cut_to (xs : List V) {k : Nat} (h : k ≤ xs.length) : cutV xs none (some (k : Int)) = xs.take k := by
  unfold cutV
  rw [HT.sIx_none, HT.sIx_nat, Nat.min_eq_left h, Nat.sub_zero, List.drop_zero]
theorem cut_from (xs : List V) {k : Nat} (h : k ≤ xs.length) : cutV xs (some (k : Int)) none = xs.drop k := by
  unfold cutV
  rw [HT.sIx_none, HT.sIx_nat, Nat.min_eq_left h]
  exact List.take_of_length_le (by rw [List.length_drop]; omega)
/-- the great bag within -/
def topE (e : Int) : Int := if e = -1 then 10 ^ (39 : Int).toNat else e
def topOf (ns : List Int) : List Int := ns.map topE
def BagIn (b ns : List Int) : Prop := b.length = ns.length ∧ (∀ e ∈ b, 0 ≤ e) ∧ fitsB b ns = true
theorem topE_nn {e : Int} (h : -1 ≤ e) : 0 ≤ topE e := by
  unfold topE
  split
  · decide +kernel
  · omega
theorem top_fit {e : Int} (h : -1 ≤ e) : fitE (topE e) e = true := by
  refine fitE_iff.mpr ?_
  by_cases c : e = -1
  · exact .inl c
  · refine .inr ⟨topE_nn h, ?_⟩
    unfold topE
    rw [if_neg c]
    exact Int.le_refl _
theorem set_glue (xs : List Int) {k : Nat} (m : Int) (h : k < xs.length) : (xs.take k).map V.int ++ [V.int m] ++ (xs.drop (k + 1)).map V.int = (xs.set k m).map V.int := by
  rw [List.set_eq_take_append_cons_drop, if_pos h, List.map_append, List.map_cons, List.append_assoc]
  rfl
theorem bag_set {ns : List Int} (hn : ∀ n ∈ ns, -1 ≤ n) {k : Nat} {w m : Int} (hw : ns[k]? = some w) (hm : 0 ≤ m) (hf : w = -1 ∨ m ≤ w) : BagIn ((topOf ns).set k m) ns := by
  refine ⟨by rw [List.length_set]; exact List.length_map _, fun e he => ?_, fits_at.mpr fun i e w' h1 h2 => ?_⟩
  · rcases List.mem_or_eq_of_mem_set he with he | rfl
    · obtain ⟨n, hn', rfl⟩ := List.mem_map.mp he
      exact topE_nn (hn n hn')
    · exact hm
  · rw [List.getElem?_set] at h1
    by_cases c : k = i
    · subst c
      rw [if_pos rfl] at h1
      split at h1
      · cases h1
        rw [hw] at h2
        cases h2
        rcases hf with hf | hf
        · exact fitE_iff.mpr (.inl hf)
        · exact fitE_iff.mpr (.inr ⟨hm, hf⟩)
      · cases h1
    · rw [if_neg c] at h1
      have h3 : (topOf ns)[i]? = some (topE w') := by
        unfold topOf
        rw [List.getElem?_map, h2]
        rfl
      rw [h3] at h1
      cases h1
      exact top_fit (hn w' (List.mem_of_getElem? h2))
theorem top_set {ns : List Int} {k : Nat} {w : Int} (hw : ns[k]? = some w) : (topOf ns).set k (topE w) = topOf ns := by
  refine List.ext_getElem? fun i => ?_
  rw [List.getElem?_set]
  by_cases c : k = i
  · subst c
    have h3 : (topOf ns)[k]? = some (topE w) := by
      unfold topOf
      rw [List.getElem?_map, hw]
      rfl
    rw [if_pos rfl, h3, if_pos (List.getElem?_eq_some_iff.mp h3).1]
  · rw [if_neg c]
/-- what is known of the bags that were found -/
def Found (H : Hp) (F0 : Addr) (ns : List Int) (L : List (Addr × List Int)) : Prop := H F0 = some (.lst (L.map fun x => V.ref x.1)) ∧ ∀ x ∈ L, H x.1 = some (.tup (x.2.map V.int)) ∧ BagIn x.2 ns
theorem Found.same {H H' : Hp} {F0 : Addr} {ns : List Int} {L : List (Addr × List Int)} (h : Found H F0 ns L) (s : Same H H') : Found H' F0 ns L := ⟨s _ _ h.1, fun x hx => ⟨s _ _ (h.2 x hx).1, (h.2 x hx).2⟩⟩
def spBagsIn : Sp := fun vs H Q _ => ∃ p, ∃ ns : List Int, ∃ entry : Int, vs = [.ref p, .int entry] ∧ H p = some (.tup (ns.map V.int)) ∧ Wide ns ∧ 0 ≤ entry ∧
  ∀ l L H', Found H' l ns L → (∃ x ∈ L, x.2 = topOf ns) → L.length ≤ 20 → Same H H' → Q (.ref l) H'
end Sh

/-! order and sums of wide bags -/
namespace Sh
open PySem PySem.Spec PyProof.Rows L2 RZ
theorem Drawn.wide {ns : List Int} (h : Drawn ns) (l1 : 1 ≤ ns.length) (l5 : ns.length ≤ 5) : Wide ns := ⟨l1, l5, fun n hn => (h n hn).1⟩
theorem BagIn.wide {b ns : List Int} (h : BagIn b ns) (w : Wide ns) : Wide b := ⟨by rw [h.1]; exact w.1, by rw [h.1]; exact w.2.1, fun n hn => by have := h.2.1 n hn; omega⟩
theorem fits_self {ns : List Int} (h : ∀ n ∈ ns, -1 ≤ n) : fitsB ns ns = true := fits_at.mpr fun i e m h1 h2 => by
  rw [h1] at h2
  cases h2
  have := h e (List.mem_of_getElem? h1)
  by_cases c : e = -1
  · exact fitE_iff.mpr (.inl c)
  · exact fitE_iff.mpr (.inr ⟨by omega, Int.le_refl _⟩)
theorem fits_trans {a b c : List Int} (hl : a.length = b.length) (h1 : fitsB a b = true) (h2 : fitsB b c = true) : fitsB a c = true := fits_at.mpr fun i e m he hm => by
  have hi : i < b.length := by rw [← hl]; exact (List.getElem?_eq_some_iff.mp he).1
  have hb : b[i]? = some b[i] := List.getElem?_eq_getElem hi
  have x := fitE_iff.mp (fits_at.mp h1 i e _ he hb)
  have y := fitE_iff.mp (fits_at.mp h2 i _ m hb hm)
  refine fitE_iff.mpr ?_
  rcases y with y | y
  · exact .inl y
  · rcases x with x | x
    · omega
    · exact .inr ⟨x.1, by omega⟩
/-- if the great bag is within, all is -/
theorem top_fits {ns ms : List Int} (hn : ∀ n ∈ ns, -1 ≤ n) (hm : Drawn ms) (h : fitsB (topOf ns) ms = true) : fitsB ns ms = true := fits_at.mpr fun i e m h1 h2 => by
  have h3 : (topOf ns)[i]? = some (topE e) := by
    unfold topOf
    rw [List.getElem?_map, h1]
    rfl
  have x := fitE_iff.mp (fits_at.mp h i _ m h3 h2)
  have he := hn e (List.mem_of_getElem? h1)
  have h4 := (hm m (List.mem_of_getElem? h2)).2
  refine fitE_iff.mpr ?_
  rcases x with x | x
  · exact .inl x
  · by_cases c : e = -1
    · exfalso
      unfold topE at x
      rw [if_pos c] at x
      have h5 : (10 : Int) ^ (39 : Int).toNat = 10 * 10 ^ 38 := by decide +kernel
      rw [h5] at x
      have h6 : (0 : Int) < 10 ^ 38 := by decide +kernel
      omega
    · unfold topE at x
      rw [if_neg c] at x
      exact .inr x
theorem all_within {ns ms : List Int} {L : List (Addr × List Int)} (hn : ∀ n ∈ ns, -1 ≤ n) (hm : Drawn ms) (hL : ∀ x ∈ L, BagIn x.2 ns) (ht : ∃ x ∈ L, x.2 = topOf ns) :
    ((L.filter fun x => !fitsB x.2 ms).map fun x => V.ref x.1).isEmpty = fitsB ns ms := by
  rw [List.isEmpty_map]
  cases h : fitsB ns ms with
  | true =>
    rw [List.isEmpty_iff, List.filter_eq_nil_iff]
    intro x hx
    have := hL x hx
    rw [fits_trans this.1 this.2.2 h]
    decide
  | false =>
    obtain ⟨x, hx, e⟩ := ht
    cases h2 : fitsB x.2 ms with
    | true =>
      rw [e] at h2
      rw [top_fits hn hm h2] at h
      cases h
    | false =>
      rw [Bool.eq_false_iff]
      intro c
      rw [List.isEmpty_iff, List.filter_eq_nil_iff] at c
      exact c x hx (by rw [h2]; rfl)
theorem none_out {ns : List Int} {L : List (Addr × List Int)} (hL : ∀ x ∈ L, BagIn x.2 ns) : ((L.filter fun x => !fitsB x.2 ns).map fun x => V.ref x.1) = [] := by
  rw [List.map_eq_nil_iff, List.filter_eq_nil_iff]
  intro x hx
  rw [(hL x hx).2.2]
  decide
theorem add_at {ns ms : List Int} {i : Nat} {e m : Int} (h1 : ns[i]? = some e) (h2 : ms[i]? = some m) : (addB ns ms)[i]? = some (addE e m) := by
  unfold addB
  rw [List.getElem?_map, show (ns.zip ms)[i]? = some (e, m) from List.getElem?_zip_eq_some.mpr ⟨h1, h2⟩]
  rfl
theorem add_len {ns ms : List Int} (h : ns.length = ms.length) : (addB ns ms).length = ns.length := by
  unfold addB
  rw [List.length_map, List.length_zip, h, Nat.min_self]
theorem addE_comm (e m : Int) : addE e m = addE m e := by
  unfold addE
  by_cases h : e = -1 ∨ m = -1
  · rw [if_pos h, if_pos h.symm]
  · rw [if_neg h, if_neg (fun c => h c.symm), Int.add_comm]
theorem addE_low {e m : Int} (h1 : -1 ≤ e) (h2 : -1 ≤ m) : -1 ≤ addE e m := by
  unfold addE
  split
  · omega
  · omega
theorem addE_any {e m : Int} (h1 : -1 ≤ e) (h2 : -1 ≤ m) : addE e m = -1 ↔ (e = -1 ∨ m = -1) := by
  unfold addE
  split
  · exact ⟨fun _ => by assumption, fun _ => rfl⟩
  · constructor
    · intro h
      omega
    · intro h
      exact absurd h (by assumption)
theorem addE_assoc {a b c : Int} (ha : -1 ≤ a) (hb : -1 ≤ b) (hc : -1 ≤ c) : addE (addE a b) c = addE a (addE b c) := by
  by_cases h1 : a = -1 ∨ b = -1
  · have : addE a b = -1 := (addE_any ha hb).mpr h1
    have h2 : addE (addE a b) c = -1 := (addE_any (addE_low ha hb) hc).mpr (.inl this)
    have h3 : addE a (addE b c) = -1 := (addE_any ha (addE_low hb hc)).mpr (h1.imp id fun z => (addE_any hb hc).mpr (.inl z))
    rw [h2, h3]
  · by_cases h2 : c = -1
    · have h3 : addE (addE a b) c = -1 := (addE_any (addE_low ha hb) hc).mpr (.inr h2)
      have h4 : addE a (addE b c) = -1 := (addE_any ha (addE_low hb hc)).mpr (.inr ((addE_any hb hc).mpr (.inr h2)))
      rw [h3, h4]
    · have h5 : ¬ (b = -1 ∨ c = -1) := fun z => z.elim (fun z => h1 (.inr z)) h2
      have e1 : addE a b = a + b := if_neg h1
      have e2 : addE b c = b + c := if_neg h5
      rw [e1, e2]
      unfold addE
      rw [if_neg (show ¬ (a + b = -1 ∨ c = -1) by omega), if_neg (show ¬ (a = -1 ∨ b + c = -1) by omega)]
      omega
theorem addB_comm {ns ms : List Int} (h : ns.length = ms.length) : addB ms ns = addB ns ms := by
  refine List.ext_getElem? fun i => ?_
  by_cases hi : i < ns.length
  · have z1 : ns[i]? = some ns[i] := List.getElem?_eq_getElem hi
    have z2 : ms[i]? = some (ms[i]'(by omega)) := List.getElem?_eq_getElem (by omega)
    rw [add_at z1 z2, add_at z2 z1, addE_comm]
  · rw [List.getElem?_eq_none (by rw [add_len h.symm]; omega), List.getElem?_eq_none (by rw [add_len h]; omega)]
theorem addB_assoc {a b c : List Int} (ha : ∀ n ∈ a, -1 ≤ n) (hb : ∀ n ∈ b, -1 ≤ n) (hc : ∀ n ∈ c, -1 ≤ n) (h1 : a.length = b.length) (h2 : b.length = c.length) : addB (addB a b) c = addB a (addB b c) := by
  refine List.ext_getElem? fun i => ?_
  by_cases hi : i < a.length
  · have z1 : a[i]? = some a[i] := List.getElem?_eq_getElem hi
    have z2 : b[i]? = some (b[i]'(by omega)) := List.getElem?_eq_getElem (by omega)
    have z3 : c[i]? = some (c[i]'(by omega)) := List.getElem?_eq_getElem (by omega)
    rw [add_at (add_at z1 z2) z3, add_at z1 (add_at z2 z3), addE_assoc (ha _ (List.mem_of_getElem? z1)) (hb _ (List.mem_of_getElem? z2)) (hc _ (List.mem_of_getElem? z3))]
  · have l1 := add_len h1
    have l2 := add_len h2
    rw [List.getElem?_eq_none (by rw [add_len (by omega)]; omega), List.getElem?_eq_none (by rw [add_len (by omega)]; omega)]
theorem add_low {ns ms : List Int} (h1 : ∀ n ∈ ns, -1 ≤ n) (h2 : ∀ n ∈ ms, -1 ≤ n) : ∀ n ∈ addB ns ms, -1 ≤ n := fun n hn => by
  unfold addB at hn
  obtain ⟨⟨e, m⟩, hp, rfl⟩ := List.mem_map.mp hn
  exact addE_low (h1 e (List.of_mem_zip hp).1) (h2 m (List.of_mem_zip hp).2)
theorem add_wide {ns ms : List Int} (h1 : Wide ns) (h2 : Wide ms) (h : ns.length = ms.length) : Wide (addB ns ms) := ⟨by rw [add_len h]; exact h1.1, by rw [add_len h]; exact h1.2.1, add_low h1.2.2 h2.2.2⟩
theorem fits_add {ns ms : List Int} (h1 : ∀ n ∈ ns, -1 ≤ n) (h2 : ∀ n ∈ ms, -1 ≤ n) (h : ns.length = ms.length) : fitsB ns (addB ns ms) = true := fits_at.mpr fun i e s he hs => by
  have hi : i < ms.length := by rw [← h]; exact (List.getElem?_eq_some_iff.mp he).1
  have z2 : ms[i]? = some ms[i] := List.getElem?_eq_getElem hi
  rw [add_at he z2] at hs
  cases hs
  have a := h1 e (List.mem_of_getElem? he)
  have b := h2 _ (List.mem_of_getElem? z2)
  refine fitE_iff.mpr ?_
  by_cases c : e = -1 ∨ ms[i] = -1
  · exact .inl ((addE_any a b).mpr c)
  · refine .inr ⟨by omega, ?_⟩
    unfold addE
    rw [if_neg c]
    omega
theorem ent_short {low : Int} {xs : List V} (h1 : 1 ≤ xs.length) (h5 : xs.length ≤ 5) : entOk low xs = (xs.map (entB low)).all id := by
  unfold entOk
  rw [decide_eq_true h1, decide_eq_true h5, Bool.true_and, Bool.true_and]
theorem ent_long {low : Int} {xs : List V} (h : ¬ (1 ≤ xs.length ∧ xs.length ≤ 5)) : entOk low xs = false := by
  unfold entOk
  by_cases h1 : 1 ≤ xs.length
  · rw [decide_eq_false (show ¬ xs.length ≤ 5 from fun c => h ⟨h1, c⟩), Bool.and_false, Bool.false_and]
  · rw [decide_eq_false h1, Bool.false_and, Bool.false_and]
end Sh

/-! sets and rows of tuples of whole numbers of any sign -/
namespace Zt
open PySem PyProof.Rows
section
variable {P : Program} {w : World} {A : Around} {E : Value → Shared → Prop} {s : Shared}
abbrev nilSet (w : World) : Obj := { cls := .type "set", dict := none, data := .set #[] 0 (.fresh 0 0 (!w.params.followText "set-order")) }
abbrev runner (l : Addr) : Obj := { cls := .type "tuple_iterator", data := .fields #[.ref l, .int 0 0] }
abbrev twoOf (w : World) (s : Shared) (l : Addr) : Heap := (s.heap.push (nilSet w)).push (runner l)

set_option maxHeartbeats 6400000 in
/-- set(t) of a tuple: what the filling does, whatever it is -/
theorem set_of {l : Addr} {items : Array Value} {Q : Value → Shared → Prop} {Z : Shared → Prop} (hl : s.heap.IsTuple l items)
    (fill : ∀ R : Result → Shared → Prop, (∀ s1, Z s1 → R (.ok (.ret .none)) s1) → codeAny (model P w) A.in1.in1 (.builtin "set.update.loop" ⟨[.ref s.heap.objs.size, .ref (s.heap.objs.size + 1)], []⟩) R { s with heap := twoOf w s l })
    (h : ∀ s1, Z s1 → Q (.ref s.heap.objs.size) s1) : wpAny (model P w) A (call (.type "set") [.ref l]) Q E s := by
  have ⟨_, _, m0⟩ := F.called_set.mro
  have m1 := F.called_set.made
  have m2 := F.called_set.sub
  have m3 := F.called_set.notType
  have m4 := F.called_set.canCreate
  have m5 := F.typeCall_set_1 (.ref l)
  refine wpAny_call (codeAny_of_tree ?_)
  show wpAny _ _ (callAny (.type "set") _) _ _ _
  refine wpAny_pure ⟨Code.quiet_builtin _ (by decide +kernel), codeAny_builtin F.entry_type_call ?_⟩
  rw [Around.under_plain (weight_type_call_type "set" [.ref l] []) rfl]
  repeat (any_goals (first | assumption | wp_step))
  refine codeAny_mono (L2.code_set_led1 (.ref l) (E := E) (Q₁ := fun v s1 => v = .ref s.heap.objs.size ∧ s1 = { s with heap := s.heap.push (nilSet w) }) ⟨rfl, rfl⟩) ?_
  rintro (e | (_ | _ | _ | _)) s1 hr
  all_goals first | exact hr | exact hr.elim | skip
  all_goals try (exact hr)
  rename_i obj
  obtain ⟨rfl, rfl⟩ := hr
  have at0 : (s.heap.push (nilSet w)).get? s.heap.objs.size = some (nilSet w) := Heap.get?_push_size _ rfl
  have ty0 : Shared.TypeIs { s with heap := s.heap.push (nilSet w) } (.ref s.heap.objs.size) "set" := ⟨_, at0, rfl⟩
  have m6 := F.called_set.init.lookup
  have m7 := F.called_set.init.bind (.ref s.heap.objs.size)
  repeat (any_goals (first | assumption | wp_step))
  refine codeAny_mono (codeAny_call_builtin (R := wants (fun r s2 => r = .none ∧ Z s2) E) F.called_set.init.plain F.entry_set_init (check_set_init_1 ty0 ?_)) ?_
  · obtain ⟨⟨c0, d0, t0, k0⟩, hol, hc, nl, hd⟩ := hl
    obtain rfl : c0 = .type "tuple" := hc
    obtain rfl : t0 = .seq items nl := hd
    have hol' := Heap.get?_push_of_some (nilSet w) hol
    have z1 := F.sub_tuple_set
    have z2 := F.sub_tuple_frozenset
    have z3 : (Value.type "tuple" == Value.type "dict") = false := by decide
    have z4 : (s.heap.push (nilSet w)).IsTuple l items := ⟨_, hol', rfl, nl, rfl⟩
    unfold Builtin.«set.__init__» noKeywords Builtin.Frozenset.updateFrom
    generalize hI : pyIter = pI
    wp_walk
    subst hI
    refine wpAny_pyIter_tuple z4 (wpAny_bind (wpAny_runValue ?_))
    have sz : (s.heap.push (nilSet w)).objs.size = s.heap.objs.size + 1 := Heap.size_push ..
    show codeAny _ _ (.builtin _ ⟨[_, .ref (s.heap.push (nilSet w)).objs.size], []⟩) _ _
    rw [sz]
    refine fill _ fun s2 hz => ?_
    show wpAny _ _ _ _ _ _
    refine wpAny_pure ?_
    show wpAny _ _ (ret Value.none) _ _ _
    exact wpAny_pure ⟨rfl, hz⟩
  · rintro (e | (r | _ | _ | _)) s2 hr
    all_goals first | exact hr | exact hr.elim | skip
    obtain ⟨rfl, hz⟩ := hr
    repeat (any_goals (first | assumption | wp_step))
    exact h _ hz
end
end Zt

namespace Zt
open PySem PyProof.Rows L2
/-! ### the order of rows of whole numbers -/
def lx : List Int → List Int → Bool
  | [], [] => false
  | [], _ :: _ => true
  | _ :: _, [] => false
  | a :: r, b :: q => if a = b then lx r q else decide (a < b)
theorem lx_irr : ∀ r : List Int, lx r r = false
  | [] => rfl
  | a :: r => by
    show (if a = a then lx r r else decide (a < a)) = false
    rw [if_pos rfl]
    exact lx_irr r
theorem lx_asym : ∀ r q : List Int, lx r q = true → lx q r = false
  | [], [], h => rfl
  | [], _ :: _, h => rfl
  | _ :: _, [], h => nomatch h
  | a :: r, b :: q, h => by
    have h' : (if a = b then lx r q else decide (a < b)) = true := h
    show (if b = a then lx q r else decide (b < a)) = false
    by_cases e : a = b
    · rw [if_pos e] at h'
      rw [if_pos e.symm]
      exact lx_asym r q h'
    · rw [if_neg e, decide_eq_true_eq] at h'
      rw [if_neg (fun z => e z.symm)]
      exact decide_eq_false (by omega)
theorem lx_tot : ∀ r q : List Int, lx r q = false → lx q r = false → r = q
  | [], [], _, _ => rfl
  | [], _ :: _, h, _ => nomatch h
  | _ :: _, [], _, h => nomatch h
  | a :: r, b :: q, h1, h2 => by
    have h1' : (if a = b then lx r q else decide (a < b)) = false := h1
    have h2' : (if b = a then lx q r else decide (b < a)) = false := h2
    by_cases e : a = b
    · rw [if_pos e] at h1'
      rw [if_pos e.symm] at h2'
      rw [e, lx_tot r q h1' h2']
    · rw [if_neg e, decide_eq_false_iff_not] at h1'
      rw [if_neg (fun z => e z.symm), decide_eq_false_iff_not] at h2'
      omega
theorem lx_tr : ∀ r q p : List Int, lx q r = false → lx p q = false → lx p r = false
  | [], [], p, _, h => h
  | [], _ :: _, [], _, _ => rfl
  | [], _ :: _, _ :: _, _, _ => rfl
  | _ :: _, [], _, h, _ => nomatch h
  | _ :: _, _ :: _, [], _, h => nomatch h
  | a :: r, b :: q, c :: p, h1, h2 => by
    have h1' : (if b = a then lx q r else decide (b < a)) = false := h1
    have h2' : (if c = b then lx p q else decide (c < b)) = false := h2
    show (if c = a then lx p r else decide (c < a)) = false
    by_cases e : b = a
    · by_cases f : c = b
      · rw [if_pos e] at h1'
        rw [if_pos f] at h2'
        rw [if_pos (f.trans e)]
        exact lx_tr r q p h1' h2'
      · rw [if_neg f] at h2'
        rw [if_neg (fun z => f (z.trans e.symm)), ← e]
        exact h2'
    · rw [if_neg e, decide_eq_false_iff_not] at h1'
      by_cases f : c = b
      · rw [if_neg (fun z => e (f.symm.trans z)), f]
        exact decide_eq_false h1'
      · rw [if_neg f, decide_eq_false_iff_not] at h2'
        rw [if_neg (by omega)]
        exact decide_eq_false (by omega)
theorem lx_swo : SrtO.Swo lx := ⟨lx_asym, lx_tr⟩
section
variable {P : Program} {w : World} {A : Around} {E : Value → Shared → Prop} {s : Shared}

/-! ### two rows compared -/
theorem one_lt (c : Bool) {p q : Int} {t u : Tok} {C : Bool → Shared → Prop} (h : C (decide (p < q)) s) : wpAny (model P w) A (oneLt' c (.int p t) (.int q u)) C E s := by
  cases c
  · exact PySem.W.kat_one _ _ (PyProof.Rows.lt_int (Q := PySem.W.BoolBack C) h)
  · exact oneLt_int h
theorem lx_run {c : Bool} {C : Bool → Shared → Prop} : ∀ {xs ys : List Value} {ns ms : List Int} (i : Nat), IntsAre xs ns → IntsAre ys ms → C (lx ns ms) s → PySem.W.KatLex P w A c (decide (ns.length < ms.length)) C (xs.zip ys) i s
  | _, _, _, _, i, .nil, .nil, h => PySem.W.kat_nil h
  | _, _, _, _, i, .nil, .cons q u hy, h => PySem.W.kat_nil h
  | _, _, _, _, i, .cons p t hx, .nil, h => PySem.W.kat_nil h
  | _, _, _, _, i, .cons (ns := ns) (vs := xs) p t hx, .cons (ns := ms) (vs := ys) q u hy, h => by
    have e0 : decide ((p :: ns).length < (q :: ms).length) = decide (ns.length < ms.length) := by simp
    rw [e0]
    have h' : C (if p = q then lx ns ms else decide (p < q)) s := h
    refine PySem.W.kat_cons (wpAny_eqBool_int (PySem.W.kat_go (fun e => ?_) fun e => ?_))
    · rw [if_pos (by simpa using e)] at h'
      exact PySem.W.kat_yes (lx_run (i + 1) hx hy h')
    · rw [if_neg (by simpa using e)] at h'
      exact PySem.W.kat_no (one_lt _ h')

/-- each of them is a row with something in it -/
def Rows (h : Heap) (vs : List Value) : Prop := ∀ v, v ∈ vs → ∃ ns, TS.TupInts h v ns ∧ ns ≠ []
theorem Rows.keeps {h h' : Heap} {vs : List Value} (x : Rows h vs) (k : ∀ b o, h.get? b = some o → o.cls = .type "tuple" → h'.get? b = some o) : Rows h' vs := fun v hv => (x v hv).imp fun _ y => ⟨y.1.keeps k, y.2⟩
theorem heads {h : Heap} : ∀ {vs : List Value}, Rows h vs → ∃ fs, PySem.W.KatTups h vs fs ∧ fs.length = vs.length ∧ ∀ f, f ∈ fs → ∃ n t, f = Value.int n t
  | [], _ => ⟨[], .nil, rfl, fun f hf => nomatch hf⟩
  | v :: vs, x => by
    obtain ⟨fs, k, hl, hi⟩ := heads (vs := vs) fun u hu => x u (.tail _ hu)
    obtain ⟨ns, ⟨a, xs, rfl, ⟨o, ho, hc, n, hd⟩, i⟩, hn⟩ := x v (.head _)
    generalize hq : xs.toList = ys at i
    cases i with
    | nil => exact absurd rfl hn
    | cons m t r =>
      refine ⟨.int m t :: fs, .cons ho hc hd ?_ k, congrArg (· + 1) hl, fun f hf => ?_⟩
      · have := congrArg (·[0]?) hq
        simpa using this
      · rcases List.mem_cons.mp hf with e | hf
        · exact ⟨m, t, e⟩
        · exact hi f hf
abbrev ltH (h : Heap) (v u : Value) : Bool := lx (TS.intsOf h v) (TS.intsOf h u)
theorem ltH_swo (h : Heap) : SrtO.Swo (ltH h) := ⟨fun x y => lx_asym _ _, fun x y z => lx_tr _ _ _⟩
theorem rows_sortable {a : Addr} {vs : List Value} {h0 : Heap} (l0 : 0 < vs.length) (x : Rows h0 vs) (keep : ∀ b o, h0.get? b = some o → o.cls = .type "tuple" → b ≠ a ∧ s.heap.get? b = some o) : SrtO.SortableO P w A s a vs (ltH h0) := by
  intro h' kp
  have k2 : ∀ b o, h0.get? b = some o → o.cls = .type "tuple" → h'.get? b = some o := fun b o e c => kp b o (keep b o e c).1 (keep b o e c).2
  obtain ⟨fs, f1, f2, f3⟩ := heads (x.keeps k2)
  refine ⟨_, fun C E' hC => PySem.W.kat_kind (T := .type "int") f1 (by omega) (fun f hf => ?_) rfl hC, ?_⟩
  · obtain ⟨n, t, rfl⟩ := f3 f hf
    exact PySem.W.Looks.of_pure rfl
  · intro p q hp hq
    obtain ⟨ns, tp, _⟩ := x _ hp
    obtain ⟨ms, tq, _⟩ := x _ hq
    have e1 : TS.intsOf h0 p.1 = ns := tp.ints
    have e2 : TS.intsOf h0 q.1 = ms := tq.ints
    show wpAny _ _ _ (fun r s' => s' = _ ∧ r = lx (TS.intsOf h0 p.1) (TS.intsOf h0 q.1)) _ _
    rw [e1, e2]
    obtain ⟨a1, xs, g1, ⟨o, ho, hc, n, hd⟩, i⟩ := tp.keeps k2
    obtain ⟨a2, ys, g2, ⟨o', ho', hc', n', hd'⟩, i'⟩ := tq.keeps k2
    rw [g1, g2]
    refine PySem.W.kat_lt ho hd ho' hd' ?_
    have sz : decide (xs.size < ys.size) = decide (ns.length < ms.length) := by
      rw [← i.length, ← i'.length, Array.length_toList, Array.length_toList]
    rw [sz]
    exact lx_run 0 i i' ⟨rfl, rfl⟩
end
end Zt

namespace Zt
open PySem PyProof.Rows L2
section
variable {P : Program} {w : World} {A : Around} {E : Value → Shared → Prop} {s : Shared}
theorem nowhere {h : Heap} {b : Addr} (hb : h.objs.size ≤ b) : h.get? b = none := by
  cases q : h.get? b with
  | none => rfl
  | some o => exact absurd (Nat.lt_of_lt_of_le (Heap.lt_size q) hb) (Nat.lt_irrefl _)
/-- set(t), t a tuple of rows -/
theorem set_rows {l : Addr} {items : Array Value} (ks : List (Addr × List Int)) {Q : Value → Shared → Prop} (hh : A.handled = none) (hl : s.heap.IsTuple l items) (hit : items.toList = ks.map fun p => Value.ref p.1)
    (hk : ∀ p ∈ ks, IsT P w s.heap p.2 p.1) (hf : ks.length < 64) (hu : A.units + 3 < cLine)
    (h : ∀ (h' : Heap) (tk : Nat) L es ep t, SetTR P w h' s.heap.objs.size L es ep t → Got ks ks.length L → (∀ b o, s.heap.get? b = some o → h'.get? b = some o) → Q (.ref s.heap.objs.size) { s with heap := h', toks := tk }) :
    wpAny (model P w) A (call (.type "set") [.ref l]) Q E s := by
  have n0 : items.size = ks.length := by simpa using congrArg List.length hit
  have lt : l < s.heap.objs.size := have ⟨_, z, _⟩ := hl; Heap.lt_size z
  refine set_of (Z := fun s1 => ∃ h' tk L es ep t, s1 = { s with heap := h', toks := tk } ∧ SetTR P w h' s.heap.objs.size L es ep t ∧ Got ks ks.length L ∧ ∀ b o, s.heap.get? b = some o → h'.get? b = some o) hl (fun R hR => ?_) ?_
  · have at0 : (twoOf w s l).get? s.heap.objs.size = some (nilSet w) := Heap.get?_push_of_some _ (Heap.get?_push_size _ rfl)
    have sz : (s.heap.push (nilSet w)).objs.size = s.heap.objs.size + 1 := Heap.size_push ..
    have keep : ∀ b o, s.heap.get? b = some o → (twoOf w s l).get? b = some o := fun b o e => Heap.get?_push_of_some _ (Heap.get?_push_of_some _ e)
    have tu : (twoOf w s l).IsTuple l items := by
      obtain ⟨o, ho, r⟩ := hl
      exact ⟨o, keep _ _ ho, r⟩
    have itr : (twoOf w s l).IsTupleIter (s.heap.objs.size + 1) l 0 := by
      rw [← sz]
      exact ⟨_, Heap.get?_push_size _ rfl, rfl, rfl⟩
    have hne : l ≠ s.heap.objs.size + 1 := Nat.ne_of_lt (Nat.lt_succ_of_lt lt)
    have apart : s.heap.objs.size ∉ [s.heap.objs.size + 1, l] := fun z => by
      rcases List.mem_cons.mp z with z | z
      · exact Nat.ne_of_lt (Nat.lt_succ_self _) z
      · exact Nat.ne_of_gt lt (List.mem_singleton.mp z)
    refine set_update_tups (Walks.tuple (by simp [hh]) _ l hne items).toS s.heap.objs.size apart ks n0 hf (fun i v hv => ?_) s.heap hk (nowhere (Nat.le_refl _)) (fun b hb => nowhere (by rw [List.mem_singleton.mp hb]; exact Nat.le_succ _)) (by show A.units + 1 + 1 + 1 < _; omega)
      (items.size - 0) 0 _ rfl (Nat.zero_le _) ⟨itr, tu⟩ keep ⟨[], #[], 0, _, setTR_fresh at0, Got.zero ks⟩ fun s' L es ep t hm hS g k => hR s' ?_
    · have q : items.toList[i]? = some v := by rw [Array.getElem?_toList]; exact hv
      rw [hit, List.getElem?_map, Option.map_eq_some_iff] at q
      exact q.imp fun p hp => ⟨hp.1, hp.2.symm⟩
    · obtain ⟨h', g0, d0, tk, o0⟩ := s'
      obtain rfl : g0 = s.gens := hm.gens
      obtain rfl : d0 = s.drawn := hm.drawn
      obtain rfl : o0 = s.os := hm.os
      rw [n0] at g
      exact ⟨h', tk, L, es, ep, t, rfl, hS, g, k⟩
  · rintro _ ⟨h', tk, L, es, ep, t, rfl, hS, g, k⟩
    exact h h' tk L es ep t hS g k

/-- sorted(s), s a set of rows -/
theorem sorted_rows {a : Addr} {L : List (Addr × List Int)} {es : Array (Int × Value)} {ep : Nat} {t : SetTable} {Q : Value → Shared → Prop} (R : SetTR P w s.heap a L es ep t) (hh : A.handled = none) (hB : ∀ p ∈ L, p.2 ≠ [])
    (hQ : ∀ s' p (out : Array Value) (c : Nat) (L' : List (Addr × List Int)), (∀ b o, s.heap.get? b = some o → s'.heap.get? b = some o) → s'.gens = s.gens → s'.os = s.os → s.heap.objs.size ≤ p →
      s'.heap.get? p = some (seqObj "list" out c) → out.toList = L'.map (fun q => Value.ref q.1) → L'.Perm L → L'.Pairwise (fun q r => lx r.2 q.2 = false) → Q (.ref p) s') :
    wpAny (model P w) A (call (.builtin "sorted") [.ref a]) Q E s := by
  obtain ⟨o, ho, hex, hd⟩ := R.ob
  have few := R.few
  have sz := R.size
  refine Calls.call_function_entry kind_sorted plain_sorted entry_sorted (args_sorted1 _) ?_
  unfold Builtin.«sorted»
  refine wpAny_bind (m := checkCount "sorted" 1 1 _) (wpAny_pure (wpAny_bind (collect_set (A := A.in1) hh ⟨o, ho, hex.1, hd⟩ R.fits (by unfold scanBound; omega) R.tab.ris R.led fun s1 vs k1 z1 g1 o1 pm => ?_)))
  have em : es.toList.map (·.2) = L.map fun q => Value.ref q.1 := by
    rw [R.rows]
    simp [rowsOf]
  rw [em] at pm
  have vl : vs.length = L.length := by simpa using pm.length_eq
  have mem : ∀ v, v ∈ vs → ∃ q ∈ L, Value.ref q.1 = v := fun v hv => List.mem_map.mp (pm.mem_iff.mp hv)
  refine wpAny_bind (wpAny_newList ?_ (by rw [sizeLine_eq]; omega))
  generalize hH : s1.heap.push (seqObj "list" vs.toArray 0) = H1
  have kp1 : ∀ b o, s.heap.get? b = some o → H1.get? b = some o := fun b o e => by
    rw [← hH]
    exact Heap.get?_push_of_some _ (k1 b o e)
  have top : H1.get? s1.heap.objs.size = some (seqObj "list" vs.toArray 0) := by
    rw [← hH]
    exact Heap.get?_push_size _ rfl
  have small : ∀ b o, s.heap.get? b = some o → b ≠ s1.heap.objs.size := fun b o e => Nat.ne_of_lt (Nat.lt_of_lt_of_le (Heap.lt_size e) z1)
  have tk : ∀ q ∈ L, TS.TupInts s.heap (.ref q.1) q.2 := fun q hq => tupInts_of (P := P) (w := w) (R.tup q hq)
  have rs : Rows s.heap vs := fun v hv => by
    obtain ⟨q, hq, rfl⟩ := mem v hv
    exact ⟨q.2, tk q hq, hB q hq⟩
  refine wpAny_bind (wpAny_holding (wpAny_call_entry slot_list_sort ⟨_, top, rfl⟩ entry_list_sort (SrtO.list_sort_ord (s := { s1 with heap := H1 }) (ltH_swo s.heap) top (by rw [sizeLine_eq]; omega)
    (fun h2 => rows_sortable (by omega) rs fun b o e c => ⟨small b o e, kp1 b o e⟩) fun out hs hb => ⟨_, rfl, ?_⟩) (args_list_sort _)))
  obtain ⟨c, hc⟩ := sortedHeap_at (vs := vs) (out := out.toArray) top
  have back : ∀ us : List Value, (∀ v ∈ us, v ∈ vs) → ∃ L1 : List (Addr × List Int), us = L1.map (fun q => Value.ref q.1) ∧ ∀ q ∈ L1, q ∈ L := fun us => by
    induction us with
    | nil => exact fun _ => ⟨[], rfl, fun q hq => nomatch hq⟩
    | cons v us ih =>
      intro hv
      obtain ⟨q, hq, e⟩ := mem v (hv v (.head _))
      obtain ⟨L1, e1, h1⟩ := ih fun u hu => hv u (.tail _ hu)
      exact ⟨q :: L1, by rw [List.map_cons, e, e1], fun r hr => (List.mem_cons.mp hr).elim (fun z => z ▸ hq) (h1 r)⟩
  obtain ⟨L', e', hs'⟩ := back out fun v hv => hb.perm.mem_iff.mp hv
  have inj : ∀ q ∈ L, ∀ r ∈ L, Value.ref q.1 = Value.ref r.1 → q = r := fun q hq r hr e => by
    have e1 : q.1 = r.1 := by injection e
    have a1 := R.tup q hq
    rw [e1] at a1
    exact Prod.ext e1 (a1.inj (R.tup r hr))
  have pL : L'.Perm L := by
    have nL : L.Nodup := nodup_of_map R.nd
    have pm2 : (L'.map fun q => Value.ref q.1).Perm (L.map fun q => Value.ref q.1) := by
      rw [← e']
      exact hb.perm.trans pm
    have nv : (L.map fun q => Value.ref q.1).Nodup := List.pairwise_map.mpr (nL.imp_of_mem fun hq hr hne e => hne (inj _ hq _ hr e))
    have n1 : L'.Nodup := nodup_of_map (pm2.nodup_iff.mpr nv)
    refine (List.perm_ext_iff_of_nodup n1 nL).mpr fun q => ⟨hs' q, fun hq => ?_⟩
    obtain ⟨r, hr, e⟩ := List.mem_map.mp (pm2.mem_iff.mpr (List.mem_map.mpr ⟨q, hq, rfl⟩))
    rw [← inj r (hs' r hr) q hq e]
    exact hr
  refine wpAny_pure ⟨_, rfl, hQ _ s1.heap.objs.size out.toArray c L' (fun b u e => ?_) g1 o1 z1 hc (by simpa using e') pL ?_⟩
  · show (sortedHeap H1 s1.heap.objs.size vs out.toArray).get? b = some u
    rw [sortedHeap_old (small b u e) (Heap.lt_size (kp1 b u e))]
    exact kp1 b u e
  · rw [e'] at hs
    refine (List.pairwise_map.mp hs).imp_of_mem fun {q r} hq hr z => ?_
    rw [← (tk q (hs' q hq)).ints, ← (tk r (hs' r hr)).ints]
    exact z
end

/-! ### the rules -/
section
variable {X : Cx}
/-- set(t), t a tuple of rows -/
def rSetT (K : PySem.W.Frag) (P : Program) (w : World) : List V → Hp → VK → Prop := fun xs H Q => ∃ (l : Addr) (ks : List (Addr × List Int)), xs = [V.ref l] ∧ SqT K H l (ks.map fun p => V.ref p.1) ∧ (∀ p ∈ ks, SqT K H p.1 (p.2.map V.int)) ∧ ks.length < 64 ∧
  ∀ a L, H a = none → (∀ p ∈ L, p ∈ ks) → (∀ p ∈ ks, p.2 ∈ L.map (·.2)) → Q (.ref a) (upd H a (SetTO P w a L))
theorem cr_setT (hc : X.calm = true) (hu : X.A.units + 64 < cLine) : CallR X (.type "set") (rSetT X.K X.prog X.w) := by
  intro pins s σ H xs us Q I r h
  obtain ⟨l, ks, rfl, hl, hk, hf, q⟩ := h
  rw [Vals.ref1 r]
  obtain ⟨its, rv, pl, hz⟩ := I.tuple hl
  refine set_rows (P := X.prog) (w := X.w) ks (I.ok.hd hc) pl (by simpa using refs_of_vals rv) (fun p hp => I.isT (hk p hp)) hf (by omega) fun h' tk L es ep t R g k =>
    ⟨.ref s.heap.objs.size, upd H s.heap.objs.size (SetTO X.prog X.w s.heap.objs.size L), I.laid (t' := tk) k (Nat.le_refl _) (setTO_new R.t0), rfl, q _ L (I.hok.fresh (Nat.le_refl _)) (fun p hp => List.mem_of_mem_take (g.sub p hp)) fun p hp => g.all p (by rw [List.take_length]; exact hp)⟩
/-- sorted(s), s a set of rows -/
def rSrtS (K : PySem.W.Frag) (P : Program) (w : World) : List V → Hp → VK → Prop := fun vs H Q => ∃ (a : Addr) (L : List (Addr × List Int)), vs = [V.ref a] ∧ H a = some (SetTO P w a L) ∧ (∀ p ∈ L, SqT K H p.1 (p.2.map V.int)) ∧ (∀ p ∈ L, p.2 ≠ []) ∧
  ∀ (L' : List (Addr × List Int)) (p : Addr), L'.Perm L → (L'.map (·.2)).Pairwise (fun q r => lx q r = true) → L'.length < 64 → H p = none → Q (.ref p) (upd H p (.lst (L'.map fun q => V.ref q.1)))
theorem cr_srtS (hc : X.calm = true) : CallR X (.builtin "sorted") (rSrtS X.K X.prog X.w) := by
  intro pins s σ H vs us Q I r h
  obtain ⟨a, L, rfl, ha, hk, hB, q⟩ := h
  have R0 : SetT0 X.prog X.w s.heap a L := (I.hok a _ ha).1
  obtain ⟨es, ep, t, R⟩ := R0.full fun p hp => I.isT (hk p hp)
  rw [Vals.ref1 r]
  refine sorted_rows R (I.ok.hd hc) hB fun s' p out c L' k g o hp hg hout pm pw => ?_
  have l1 : L'.length < 64 := by rw [pm.length_eq]; exact R.few
  have l2 : (L'.map fun q => V.ref q.1).length ≤ sizeLine := by rw [List.length_map, sizeLine_eq]; omega
  have hn : H p = none := I.hok.fresh hp
  obtain ⟨h1, g1, d1, t1, o1⟩ := s'
  obtain rfl : o1 = s.os := o
  have J : Inv X pins σ (upd H p (.lst (L'.map fun q => V.ref q.1))) { s with heap := h1, gens := g1, drawn := d1, toks := t1 } :=
    I.call (ch := []) (Un.laid k hp hn) (I.hok.laid k hp ⟨l2, out.toList, c, by rw [hout]; exact vals_of_refs L', hg⟩) (by rw [show g1 = s.gens from g]; exact I.bare) (fun _ z => nomatch z)
  refine ⟨.ref p, _, J, rfl, q L' p pm ?_ l1 hn⟩
  have nd : (L'.map (·.2)).Nodup := (pm.map (·.2)).nodup_iff.mpr R.nd
  have pw2 : (L'.map (·.2)).Pairwise (fun x y => lx y x = false) := List.pairwise_map.mpr pw
  refine List.Pairwise.imp ?_ (nd.and pw2)
  rintro x y ⟨h1, h2⟩
  cases h3 : lx x y with
  | true => rfl
  | false => exact absurd (lx_tot x y h3 h2) h1

/-- x is the row of these numbers -/
abbrev RowAt (K : PySem.W.Frag) (H : Hp) (x : V) (ns : List Int) : Prop := TupI K H x ns
/-- sorted(l), l a list of rows -/
def rSrtL (K : PySem.W.Frag) : List V → Hp → VK → Prop := fun vs H Q => ∃ (a : Addr) (ks : List (Addr × List Int)), vs = [V.ref a] ∧ SqL K H a (ks.map fun p => V.ref p.1) ∧ (∀ p ∈ ks, SqT K H p.1 (p.2.map V.int)) ∧ (∀ p ∈ ks, p.2 ≠ []) ∧
  ∀ (L : List (Addr × List Int)) (p : Addr), L.Perm ks → (L.map (·.2)).Pairwise (fun q r => lx r q = false) → H p = none → Q (.ref p) (upd H p (.lst (L.map fun q => V.ref q.1)))
theorem cr_srtL : CallR X (.builtin "sorted") (rSrtL X.K) := by
  intro pins s σ H vs us Q I r h
  obtain ⟨a, ks, rfl, hs, hk, hB, q⟩ := h
  rw [Vals.ref1 r]
  obtain ⟨its, rv, hl, hz⟩ := I.list hs
  obtain rfl := refs_of_vals rv
  have raw : ∀ p ∈ ks, TS.TupInts s.heap (.ref p.1) p.2 := fun p hp => tupI_raw I (hk p hp)
  have rs : Rows s.heap (ks.map fun p => Value.ref p.1) := fun v hv => by
    obtain ⟨p, hp, rfl⟩ := List.mem_map.mp hv
    exact ⟨p.2, raw p hp, hB p hp⟩
  have l0 : (ks.map fun p => Value.ref p.1).length ≤ sizeLine := by simpa using hz
  refine SrtO.sorted_ord (ltH_swo s.heap) hl.isList l0 (fun h2 h1 b hb kk => rows_sortable (by omega) rs fun c o e _ => kk c o e) fun out h1 h2 => ?_
  obtain ⟨L, pm, rfl⟩ := perm_lift (fun q : Addr × List Int => Value.ref q.1) h2.perm ks rfl
  obtain ⟨ep, he⟩ := PyProof.Rows.sortedAll_at s.heap (ks.map fun p => Value.ref p.1) (L.map fun p => Value.ref p.1).toArray
  have l2 : (L.map fun q => V.ref q.1).length ≤ sizeLine := by
    rw [List.length_map, pm.length_eq]
    simpa using l0
  refine ⟨.ref (s.heap.objs.size + 1), upd H (s.heap.objs.size + 1) (.lst (L.map fun q => V.ref q.1)), I.laid (t' := s.toks) (fun _ _ => PyProof.Rows.sortedAll_old) (Nat.le_succ _) ⟨l2, _, ep, vals_of_refs L, he⟩, rfl, q L _ pm ?_ (I.hok.fresh (Nat.le_succ _))⟩
  refine List.pairwise_map.mpr ((List.pairwise_map.mp h1).imp_of_mem fun {x y} hx hy z => ?_)
  rw [← (raw x (pm.mem_iff.mp hx)).ints, ← (raw y (pm.mem_iff.mp hy)).ints]
  exact z
end
end Zt

namespace Zt
open PySem PySem.Spec PyProof.Rows L2 Sh
/-! ### rows as data -/
abbrev rowD (k : List Int) : PyData := .tuple (k.map PyData.int)
theorem canRow (k : List Int) : (rowD k).canLay0 = true := by simp [rowD, PyData.canLay0, PySem.W.ke_canLayAll0]
theorem depRow (k : List Int) : (rowD k).depth = 1 := by simp [rowD, PyData.depth, PySem.W.ke_depthAll]
theorem canRows : ∀ ks : List (List Int), PyData.canLayAll0 (ks.map rowD) = true
  | [] => rfl
  | k :: ks => by
    rw [List.map_cons, PyData.canLayAll0, canRow, canRows ks]
    rfl
theorem depRows : ∀ ks : List (List Int), PyData.depthAll (ks.map rowD) ≤ 1
  | [] => Nat.zero_le _
  | k :: ks => by
    rw [List.map_cons, PyData.depthAll, depRow]
    exact Nat.max_le.mpr ⟨Nat.le_refl _, depRows ks⟩
theorem eqRow (k m : List Int) : PyData.eqv (rowD k) (rowD m) = decide (k = m) := by
  show PyData.eqvAll _ _ = _
  exact eqvAll_ints k m
theorem eqRows : ∀ ks ms : List (List Int), PyData.eqvAll (ks.map rowD) (ms.map rowD) = decide (ks = ms)
  | [], [] => by simp [PyData.eqvAll]
  | [], _ :: _ => by simp [PyData.eqvAll]
  | _ :: _, [] => by simp [PyData.eqvAll]
  | k :: ks, m :: ms => by
    rw [List.map_cons, List.map_cons, PyData.eqvAll, eqRows ks ms, eqRow]
    by_cases h : k = m
    · subst h
      simp
    · simp [h]
theorem inRows (k : List Int) : ∀ ks : List (List Int), ((ks.map rowD).any fun y => PyData.eqv y (rowD k)) = decide (k ∈ ks)
  | [] => by simp
  | m :: ks => by
    rw [List.map_cons, List.any_cons, inRows k ks, eqRow]
    by_cases h : m = k
    · subst h
      simp
    · simp [h, Ne.symm h]
/-- each of them stands in the heap -/
def RowsIn (K : PySem.W.Frag) (H : Hp) (ks : List (Addr × List Int)) : Prop := ∀ p ∈ ks, SqT K H p.1 (p.2.map V.int)
abbrev refs (ks : List (Addr × List Int)) : List V := ks.map fun p => V.ref p.1
abbrev keys (ks : List (Addr × List Int)) : List (List Int) := ks.map fun p => p.2
theorem dpRows {K : PySem.W.Frag} {H : Hp} : ∀ {ks : List (Addr × List Int)}, RowsIn K H ks → DpAll K H (refs ks) ((keys ks).map rowD)
  | [], _ => .nil
  | p :: ks, h => .cons (.tup (h p (.head _)) (dps_ints p.2)) (dpRows fun q hq => h q (.tail _ hq))
theorem shRows (b : Bool) (ks : List (List Int)) : SeqAt.shaped (if b then .list (ks.map rowD) else .tuple (ks.map rowD)) = true := by
  have := depRows ks
  cases b
  · simp [SeqAt.shaped, PyData.canLay0, PyData.depth, canRows]
    omega
  · simp [SeqAt.shaped, PyData.canLay0, PyData.depth, canRows]
    omega
section
variable {X : Cx}
/-- two rows of rows, of one kind -/
def rEqR (K : PySem.W.Frag) (neg : Bool) : V → V → Hp → VK → Prop := fun x y H Q => ∃ a b ks ms, x = .ref a ∧ y = .ref b ∧ ((SqT K H a (refs ks) ∧ SqT K H b (refs ms)) ∨ (SqL K H a (refs ks) ∧ SqL K H b (refs ms))) ∧ RowsIn K H ks ∧ RowsIn K H ms ∧
  Q (.bl (if neg then !decide (keys ks = keys ms) else decide (keys ks = keys ms))) H
theorem op_eqR (hu : X.A.units + 64 < cLine) : OpR X (compareOp .Eq) (rEqR X.K false) := by
  intro pins s σ H x y v u Q I rx ry h
  obtain ⟨a, b, ks, ms, rfl, rfl, h | h, h1, h2, q⟩ := h
  · refine op_eqD hu pins s σ H _ _ v u Q I rx ry ⟨.tuple ((keys ks).map rowD), .tuple ((keys ms).map rowD), .tup h.1 (dpRows h1), .tup h.2 (dpRows h2), shRows false _, shRows false _, ?_⟩
    show Q (.bl (PyData.eqvAll _ _)) H
    rw [eqRows]
    exact q
  · refine op_eqD hu pins s σ H _ _ v u Q I rx ry ⟨.list ((keys ks).map rowD), .list ((keys ms).map rowD), .lst h.1 (dpRows h1), .lst h.2 (dpRows h2), shRows true _, shRows true _, ?_⟩
    show Q (.bl (PyData.eqvAll _ _)) H
    rw [eqRows]
    exact q
theorem op_neR (hu : X.A.units + 64 < cLine) : OpR X (compareOp .NotEq) (rEqR X.K true) := by
  intro pins s σ H x y v u Q I rx ry h
  obtain ⟨a, b, ks, ms, rfl, rfl, h | h, h1, h2, q⟩ := h
  · refine op_neD hu pins s σ H _ _ v u Q I rx ry ⟨.tuple ((keys ks).map rowD), .tuple ((keys ms).map rowD), .tup h.1 (dpRows h1), .tup h.2 (dpRows h2), shRows false _, shRows false _, ?_⟩
    show Q (.bl (!PyData.eqvAll _ _)) H
    rw [eqRows]
    exact q
  · refine op_neD hu pins s σ H _ _ v u Q I rx ry ⟨.list ((keys ks).map rowD), .list ((keys ms).map rowD), .lst h.1 (dpRows h1), .lst h.2 (dpRows h2), shRows true _, shRows true _, ?_⟩
    show Q (.bl (!PyData.eqvAll _ _)) H
    rw [eqRows]
    exact q
/-- a row that is not in a tuple of rows -/
def rNinR (K : PySem.W.Frag) : V → V → Hp → VK → Prop := fun x y H Q => ∃ t a k ks, x = .ref t ∧ y = .ref a ∧ SqT K H t (k.map V.int) ∧ SqT K H a (refs ks) ∧ RowsIn K H ks ∧ Q (.bl (!decide (k ∈ keys ks))) H
theorem op_ninR (hu : X.A.units + 64 < cLine) : OpR X (compareOp .NotIn) (rNinR X.K) := by
  intro pins s σ H x y v u Q I rx ry h
  obtain ⟨t, a, k, ks, rfl, rfl, h1, h2, h3, q⟩ := h
  obtain ⟨as, r1⟩ := Dp.reads I (rowD k) _ v (.tup h1 (dps_ints k)) rx
  obtain ⟨bs, r2⟩ := Dp.reads I (.tuple ((keys ks).map rowD)) _ u (.tup h2 (dpRows h3)) ry
  refine SeqAt.notIn_tuple_reads r2 r1 (canRows _) (canRow k) (by rw [depRow]; omega) ⟨.bl _, H, I, rfl, ?_⟩
  rw [inRows]
  exact q
end

/-! ### the greatest ones of an order -/
section
variable {α : Type} [DecidableEq α] (le : α → α → Bool)
def tops (S : List α) : List α := S.filter fun x => !(S.any fun y => !decide (y = x) && le x y)
def keep (kept : List α) (b : α) : List α := if kept.any (fun o => le b o) then kept else kept.filter (fun o => !le o b) ++ [b]
variable {le}
theorem mem_tops {S : List α} {x : α} : x ∈ tops le S ↔ x ∈ S ∧ ∀ y ∈ S, y ≠ x → le x y = false := by
  unfold tops
  simp only [List.mem_filter, Bool.not_eq_true', List.any_eq_false, Bool.and_eq_true, Bool.not_eq_true', decide_eq_false_iff_not, not_and, Bool.not_eq_true]
/-- what is asked of the order, over the things of D -/
structure Ord (le : α → α → Bool) (D : α → Prop) : Prop where
  refl : ∀ x, D x → le x x = true
  tr : ∀ x y z, D x → D y → D z → le x y = true → le y z = true → le x z = true
  anti : ∀ x y, D x → D y → le x y = true → le y x = true → x = y
theorem keep_ok {D : α → Prop} (O : Ord le D) {pre : List α} {b : α} (hD : ∀ x ∈ pre, D x) (hb : D b) (nb : b ∉ pre) (cov : ∀ y ∈ pre, ∃ o ∈ tops le pre, le y o = true) :
    keep le (tops le pre) b = tops le (pre ++ [b]) ∧ ∀ y ∈ pre ++ [b], ∃ o ∈ tops le (pre ++ [b]), le y o = true := by
  have lr : ∀ x, x ∈ pre → ((pre ++ [b]).any fun y => !decide (y = x) && le x y) = ((pre.any fun y => !decide (y = x) && le x y) || le x b) := fun x hx => by
    have hne : b ≠ x := fun e => nb (e ▸ hx)
    simp [List.any_append, hne]
  have bb : ((pre ++ [b]).any fun y => !decide (y = b) && le b y) = pre.any fun y => le b y := by
    rw [List.any_append]
    simp only [List.any_cons, List.any_nil, decide_true, Bool.not_true, Bool.false_and, Bool.or_false]
    rw [Bool.eq_iff_iff, List.any_eq_true, List.any_eq_true]
    constructor
    · rintro ⟨y, hy, h⟩
      exact ⟨y, hy, (Bool.and_eq_true_iff.mp h).2⟩
    · rintro ⟨y, hy, h⟩
      have hne : y ≠ b := fun e => nb (e ▸ hy)
      exact ⟨y, hy, by simp [hne, h]⟩
  have step : tops le (pre ++ [b]) = (tops le pre).filter (fun o => !le o b) ++ (if pre.any (fun y => le b y) then [] else [b]) := by
    unfold tops
    rw [List.filter_append, List.filter_filter]
    congr 1
    · refine List.filter_congr fun x hx => ?_
      rw [lr x hx, Bool.not_or, Bool.and_comm]
    · rw [List.filter_cons, bb]
      cases pre.any (fun y => le b y) <;> simp
  have main : keep le (tops le pre) b = tops le (pre ++ [b]) := by
    unfold keep
    rw [step]
    by_cases c : (tops le pre).any (fun o => le b o) = true
    · rw [if_pos c]
      obtain ⟨o, ho, hbo⟩ := List.any_eq_true.mp c
      have hop := (mem_tops.mp ho).1
      rw [if_pos (List.any_eq_true.mpr ⟨o, hop, hbo⟩), List.append_nil]
      refine (List.filter_eq_self.mpr fun x hx => ?_).symm
      obtain ⟨hx1, hx2⟩ := mem_tops.mp hx
      cases e : le x b with
      | false => rfl
      | true =>
        have xo := O.tr x b o (hD x hx1) hb (hD o hop) e hbo
        by_cases z : o = x
        · subst z
          exact absurd (O.anti b o hb (hD o hop) hbo e) (fun e => nb (e ▸ hop))
        · rw [hx2 o hop z] at xo
          cases xo
    · rw [if_neg c]
      have c2 : ¬ pre.any (fun y => le b y) = true := fun h => by
        obtain ⟨y, hy, hby⟩ := List.any_eq_true.mp h
        obtain ⟨o, ho, hyo⟩ := cov y hy
        exact c (List.any_eq_true.mpr ⟨o, ho, O.tr b y o hb (hD y hy) (hD o (mem_tops.mp ho).1) hby hyo⟩)
      rw [if_neg c2]
  refine ⟨main, fun y hy => ?_⟩
  by_cases c : (tops le pre).any (fun o => le b o) = true
  · have e : tops le (pre ++ [b]) = tops le pre := by
      rw [← main]
      unfold keep
      rw [if_pos c]
    rw [e]
    rcases List.mem_append.mp hy with hy | hy
    · exact cov y hy
    · rw [List.mem_singleton.mp hy]
      exact List.any_eq_true.mp c
  · have e : tops le (pre ++ [b]) = (tops le pre).filter (fun o => !le o b) ++ [b] := by
      rw [← main]
      unfold keep
      rw [if_neg c]
    rw [e]
    rcases List.mem_append.mp hy with hy | hy
    · obtain ⟨o, ho, hyo⟩ := cov y hy
      cases z : le o b with
      | false => exact ⟨o, List.mem_append_left _ (List.mem_filter.mpr ⟨ho, by rw [z]; rfl⟩), hyo⟩
      | true => exact ⟨b, List.mem_append_right _ (List.mem_singleton.mpr rfl), O.tr y o b (hD y hy) (hD o (mem_tops.mp ho).1) hb hyo z⟩
    · rw [List.mem_singleton.mp hy]
      exact ⟨b, List.mem_append_right _ (List.mem_singleton.mpr rfl), O.refl b hb⟩
theorem keep_all {D : α → Prop} (O : Ord le D) (S : List α) (hD : ∀ x ∈ S, D x) (nd : S.Nodup) : ∀ i, i ≤ S.length → (∀ y ∈ S.take i, ∃ o ∈ tops le (S.take i), le y o = true) ∧ ∀ b, S[i]? = some b → keep le (tops le (S.take i)) b = tops le (S.take (i + 1))
  | 0, _ => ⟨fun y hy => (by simp at hy), fun b hb => by
      rw [List.take_add_one, hb]
      exact (keep_ok O (pre := S.take 0) (b := b) (fun x hx => hD x (List.mem_of_mem_take hx)) (hD b (List.mem_of_getElem? hb)) (by simp) (fun y hy => (by simp at hy))).1⟩
  | i + 1, hi => by
    have hlt : i < S.length := hi
    have ih := keep_all O S hD nd i (Nat.le_of_lt hlt)
    have dj : ∀ j b, S[j]? = some b → b ∉ S.take j := fun j b hb hm => by
      obtain ⟨k, hk, e⟩ := List.getElem_of_mem hm
      have hj := (List.getElem?_eq_some_iff.mp hb)
      have kj : k < j := by
        rw [List.length_take] at hk
        omega
      rw [List.getElem_take] at e
      obtain ⟨hj1, hj2⟩ := hj
      exact absurd (e.trans hj2.symm) (List.pairwise_iff_getElem.mp nd k j (by omega) hj1 kj)
    have hb := List.getElem?_eq_getElem hlt
    generalize S[i] = b at hb
    have ok := keep_ok O (pre := S.take i) (b := b) (fun x hx => hD x (List.mem_of_mem_take hx)) (hD b (List.mem_of_getElem? hb)) (dj i b hb) ih.1
    have e : S.take (i + 1) = S.take i ++ [b] := by
      rw [List.take_add_one, hb]
      rfl
    rw [← e] at ok
    refine ⟨ok.2, fun c hc => ?_⟩
    rw [List.take_add_one (i := i + 1), hc]
    exact (keep_ok O (pre := S.take (i + 1)) (b := c) (fun x hx => hD x (List.mem_of_mem_take hx)) (hD c (List.mem_of_getElem? hc)) (dj _ _ hc) ok.2).1
theorem tops_cov {D : α → Prop} (O : Ord le D) {S : List α} (hD : ∀ x ∈ S, D x) (nd : S.Nodup) : ∀ y ∈ S, ∃ o ∈ tops le S, le y o = true := by
  have h := (keep_all O S hD nd S.length (Nat.le_refl _)).1
  rw [List.take_length] at h
  exact h
theorem tops_self {S : List α} (h : ∀ x ∈ S, ∀ y ∈ S, y ≠ x → le x y = false) : tops le S = S := List.filter_eq_self.mpr fun x hx => by
  rw [Bool.not_eq_true', List.any_eq_false]
  intro y hy
  by_cases e : y = x
  · simp [e]
  · simp [e, h x hx y hy e]
theorem tops_tops {S : List α} : tops le (tops le S) = tops le S := tops_self fun x hx y hy => (mem_tops.mp hx).2 y (mem_tops.mp hy).1
end

/-! ### ascending rows -/
abbrev Asc (S : List (List Int)) : Prop := S.Pairwise fun q r => lx q r = true
theorem Asc.nd {S : List (List Int)} (h : Asc S) : S.Nodup := h.imp fun {x y} z e => by
  rw [e, lx_irr] at z
  cases z
theorem asc_uniq : ∀ {S T : List (List Int)}, Asc S → Asc T → (∀ k, k ∈ S ↔ k ∈ T) → S = T
  | [], [], _, _, _ => rfl
  | [], t :: T, _, _, h => absurd ((h t).mpr (.head _)) (by simp)
  | s :: S, [], _, _, h => absurd ((h s).mp (.head _)) (by simp)
  | s :: S, t :: T, h1, h2, h => by
    obtain ⟨a1, a2⟩ := List.pairwise_cons.mp h1
    obtain ⟨b1, b2⟩ := List.pairwise_cons.mp h2
    have e : s = t := by
      rcases List.mem_cons.mp ((h s).mp (.head _)) with e | m1
      · exact e
      · rcases List.mem_cons.mp ((h t).mpr (.head _)) with e | m2
        · exact e.symm
        · have := lx_asym _ _ (a1 t m2)
          rw [b1 s m1] at this
          cases this
    subst e
    rw [asc_uniq a2 b2 fun k => ?_]
    constructor
    · intro hk
      rcases List.mem_cons.mp ((h k).mp (.tail _ hk)) with e | m
      · subst e
        have := a1 k hk
        rw [lx_irr] at this
        cases this
      · exact m
    · intro hk
      rcases List.mem_cons.mp ((h k).mpr (.tail _ hk)) with e | m
      · subst e
        have := b1 k hk
        rw [lx_irr] at this
        cases this
      · exact m
theorem Asc.tops {le : List Int → List Int → Bool} {S : List (List Int)} (h : Asc S) : Asc (tops le S) := List.Pairwise.filter _ h
theorem asc_of {S : List (List Int)} (h : S.Pairwise fun q r => lx r q = false) (nd : S.Nodup) : Asc S := by
  refine List.Pairwise.imp ?_ (nd.and h)
  rintro x y ⟨h1, h2⟩
  cases h3 : lx x y with
  | true => rfl
  | false => exact absurd (lx_tot x y h3 h2) h1
end Zt

namespace Zt
open PySem PySem.Spec PyProof.Rows L2 Sh
/-- a name that a comprehension holds in a cell: nothing is exchanged -/
theorem sw_cell {elt : Expr} {gs : List Comprehension} {scope : Scope} {pos py : Pos} {y : Str} {l : Nat} {env : Env} (hy : env.scope.names.lookup y = some .cell) : swapsWith (.ListComp elt gs scope pos) (some (.Name y py)) l env = pure false := by
  have ky : env.kindOf y = some .cell := hy
  unfold swapsWith
  simp only [ky]
  have e : ((some NameKind.cell : Option NameKind) == some .local) = false := by decide
  rw [e]
  simp
/-! ### wide bags of one length -/
def OfLen (n : Nat) (k : List Int) : Prop := Wide k ∧ k.length = n
theorem fits_anti {a b : List Int} (hl : a.length = b.length) (h1 : fitsB a b = true) (h2 : fitsB b a = true) : a = b := List.ext_getElem? fun i => by
  by_cases hi : i < a.length
  · have z1 := List.getElem?_eq_getElem hi
    have z2 := List.getElem?_eq_getElem (show i < b.length by omega)
    have e1 := fitE_iff.mp (fits_at.mp h1 i _ _ z1 z2)
    have e2 := fitE_iff.mp (fits_at.mp h2 i _ _ z2 z1)
    rw [z1, z2]
    congr 1
    omega
  · rw [List.getElem?_eq_none (by omega), List.getElem?_eq_none (by omega)]
abbrev under (a b : List Int) : Bool := fitsB b a
theorem ord_fits (n : Nat) : Ord fitsB (OfLen n) := ⟨fun x h => fits_self h.1.2.2, fun x y z hx hy hz h1 h2 => fits_trans (by rw [hx.2, hy.2]) h1 h2, fun x y hx hy h1 h2 => fits_anti (by rw [hx.2, hy.2]) h1 h2⟩
theorem ord_under (n : Nat) : Ord under (OfLen n) := ⟨fun x h => fits_self h.1.2.2, fun x y z hx hy hz h1 h2 => fits_trans (by rw [hz.2, hy.2]) h2 h1, fun x y hx hy h1 h2 => (fits_anti (by rw [hx.2, hy.2]) h2 h1)⟩
/-- a sum with numbers from 0 on keeps the order -/
def NonNeg (m : List Int) : Prop := ∀ e ∈ m, 0 ≤ e
theorem fit_sums {x y m : List Int} {n : Nat} (hx : OfLen n x) (hy : OfLen n y) (hm : NonNeg m) (lm : m.length = n) : fitsB (addB x m) (addB y m) = fitsB x y := by
  have key : ∀ i e f g, x[i]? = some e → y[i]? = some f → m[i]? = some g → fitE (addE e g) (addE f g) = fitE e f := fun i e f g h1 h2 h3 => by
    have a1 := hx.1.2.2 e (List.mem_of_getElem? h1)
    have a2 := hy.1.2.2 f (List.mem_of_getElem? h2)
    have a3 := hm g (List.mem_of_getElem? h3)
    rw [Bool.eq_iff_iff, fitE_iff, fitE_iff]
    unfold addE
    split <;> split <;> omega
  rw [Bool.eq_iff_iff, fits_at, fits_at]
  have l1 := hx.2
  have l2 := hy.2
  constructor
  · intro h i e f h1 h2
    have hi := (List.getElem?_eq_some_iff.mp h1).1
    have h3 := List.getElem?_eq_getElem (show i < m.length by omega)
    rw [← key i e f _ h1 h2 h3]
    exact h i _ _ (add_at h1 h3) (add_at h2 h3)
  · intro h i e f h1 h2
    have hi := (List.getElem?_eq_some_iff.mp h1).1
    rw [add_len (by omega)] at hi
    have z1 := List.getElem?_eq_getElem hi
    have z2 := List.getElem?_eq_getElem (show i < y.length by omega)
    have h3 := List.getElem?_eq_getElem (show i < m.length by omega)
    rw [add_at z1 h3] at h1
    rw [add_at z2 h3] at h2
    cases h1
    cases h2
    rw [key i _ _ _ z1 z2 h3]
    exact h i _ _ z1 z2
theorem sums_inj {x y m : List Int} {n : Nat} (hx : OfLen n x) (hy : OfLen n y) (hm : NonNeg m) (lm : m.length = n) (h : addB x m = addB y m) : x = y := by
  have h1 := fit_sums hx hy hm lm
  have h2 := fit_sums hy hx hm lm
  have sx : OfLen n (addB x m) := by
    have wm : ∀ e ∈ m, -1 ≤ e := fun e he => by have := hm e he; omega
    have l := add_len (ns := x) (ms := m) (by rw [hx.2, lm])
    exact ⟨⟨by rw [l]; exact hx.1.1, by rw [l]; exact hx.1.2.1, add_low hx.1.2.2 wm⟩, by rw [l]; exact hx.2⟩
  rw [← h, fits_self sx.1.2.2] at h1 h2
  exact fits_anti (by rw [hx.2, hy.2]) h1.symm h2.symm
theorem sum_len {x m : List Int} {n : Nat} (hx : OfLen n x) (hm : NonNeg m) (lm : m.length = n) : OfLen n (addB x m) := by
  have wm : ∀ e ∈ m, -1 ≤ e := fun e he => by have := hm e he; omega
  have l := add_len (ns := x) (ms := m) (by rw [hx.2, lm])
  exact ⟨⟨by rw [l]; exact hx.1.1, by rw [l]; exact hx.1.2.1, add_low hx.1.2.2 wm⟩, by rw [l]; exact hx.2⟩
/-- what is added to all keeps the greatest ones -/
theorem tops_sums {n : Nat} {S T U : List (List Int)} {m : List Int} (hS : ∀ x ∈ S, OfLen n x) (hm : NonNeg m) (lm : m.length = n) (aT : Asc T) (mT : ∀ k, k ∈ T ↔ ∃ x ∈ S, k = addB x m) (aU : U.Pairwise fun q r => lx r q = false)
    (pU : U.Perm ((tops fitsB S).map fun x => addB x m)) (nd : S.Nodup) : tops fitsB T = U := by
  have sub : ∀ x ∈ tops fitsB S, OfLen n x := fun x hx => hS x (mem_tops.mp hx).1
  have ndU : U.Nodup := by
    refine pU.nodup_iff.mpr (List.pairwise_map.mpr ?_)
    exact (List.Pairwise.filter _ nd).imp_of_mem fun hx hy ne e => ne (sums_inj (sub _ hx) (sub _ hy) hm lm e)
  refine asc_uniq aT.tops (asc_of aU ndU) fun k => ?_
  rw [mem_tops, pU.mem_iff, List.mem_map, mT]
  constructor
  · rintro ⟨⟨x, hx, rfl⟩, h⟩
    refine ⟨x, mem_tops.mpr ⟨hx, fun y hy ne => ?_⟩, rfl⟩
    rw [← fit_sums (hS x hx) (hS y hy) hm lm]
    exact h _ ((mT _).mpr ⟨y, hy, rfl⟩) fun e => ne (sums_inj (hS y hy) (hS x hx) hm lm e)
  · rintro ⟨x, hx, rfl⟩
    obtain ⟨hx1, hx2⟩ := mem_tops.mp hx
    refine ⟨⟨x, hx1, rfl⟩, fun y hy ne => ?_⟩
    obtain ⟨z, hz, rfl⟩ := (mT y).mp hy
    rw [fit_sums (hS x hx1) (hS z hz) hm lm]
    exact hx2 z hz fun e => ne (by rw [e])

/-! ### what is told of the functions -/
def BagsOf (n : Nat) (ks : List (Addr × List Int)) : Prop := (∀ q ∈ ks, OfLen n q.2) ∧ ks.length < 64
structure BagsAt (H : Hp) (p : Addr) (n : Nat) (ks : List (Addr × List Int)) : Prop where
  tup : H p = some (.tup (refs ks))
  row : ∀ q ∈ ks, H q.1 = some (.tup (q.2.map V.int))
  all : ∀ q ∈ ks, OfLen n q.2
  few : ks.length < 64
theorem BagsAt.same {H H' : Hp} {p : Addr} {n : Nat} {ks : List (Addr × List Int)} (h : BagsAt H p n ks) (s : Same H H') : BagsAt H' p n ks := ⟨s _ _ h.tup, fun q hq => s _ _ (h.row q hq), h.all, h.few⟩
theorem BagsAt.but {H H' : Hp} {d p : Addr} {n : Nat} {ks : List (Addr × List Int)} (h : BagsAt H p n ks) (hd : DieAt H d) (b : But d H H') : BagsAt H' p n ks := ⟨b.tup hd h.tup, fun q hq => b.tup hd (h.row q hq), h.all, h.few⟩
def spChk : Sp := fun vs H Q _ => ∃ p n ks, vs = [.ref p] ∧ BagsAt H p n ks ∧ ∀ H', Same H H' → Q .non H'
def spTops (le : List Int → List Int → Bool) : Sp := fun vs H Q _ => ∃ p n ks, vs = [.ref p] ∧ BagsAt H p n ks ∧
  ∀ r H' L S, Same H H' → BagsAt H' r n L → Asc S → (∀ k, k ∈ S ↔ k ∈ keys ks) → keys L = tops le S → (∀ q ∈ L, q ∈ ks) → Q (.ref r) H'
theorem ref_at {ks : List (Addr × List Int)} {i : Nat} {x : V} (h : (refs ks)[i]? = some x) : ∃ q, ks[i]? = some q ∧ x = .ref q.1 ∧ q ∈ ks := by
  rw [List.getElem?_map, Option.map_eq_some_iff] at h
  obtain ⟨q, hq, rfl⟩ := h
  exact ⟨q, hq, rfl, List.mem_of_getElem? hq⟩
theorem rowsIn_of {K : PySem.W.Frag} {H : Hp} {ks : List (Addr × List Int)} (h : ∀ q ∈ ks, H q.1 = some (.tup (q.2.map V.int))) : RowsIn K H ks := fun q hq => .inl (.inl (h q hq))
theorem take_keys {α : Type} {l : List α} {i : Nat} {x : α} (h : l[i]? = some x) : l.take (i + 1) = l.take i ++ [x] := by
  rw [List.take_add_one, h]
  rfl
/-- the greatest or the least ones, as they are told -/
structure Told1 (H : Hp) (t : Addr) (n : Nat) (ks M : List (Addr × List Int)) : Prop where
  at_ : BagsAt H t n M
  asc : Asc (keys M)
  sub : ∀ q ∈ M, q ∈ ks
  quiet : ∀ x ∈ keys M, ∀ y ∈ keys M, y ≠ x → fitsB x y = false
theorem Told1.same {H H' : Hp} {t : Addr} {n : Nat} {ks M : List (Addr × List Int)} (h : Told1 H t n ks M) (s : Same H H') : Told1 H' t n ks M := ⟨h.at_.same s, h.asc, h.sub, h.quiet⟩
theorem keys_mem {ks : List (Addr × List Int)} {q : Addr × List Int} (h : q ∈ ks) : q.2 ∈ keys ks := List.mem_map.mpr ⟨q, h, rfl⟩
theorem OfLen.ne {n : Nat} {k : List Int} (h : OfLen n k) : k ≠ [] := fun e => by
  have := h.1.1
  rw [e] at this
  simp at this
theorem allC {α : Type} {p : α → Prop} {x : α} {l : List α} (h : p x) (r : ∀ y ∈ l, p y) : ∀ y ∈ x :: l, p y := fun y hy => by
  rcases List.mem_cons.mp hy with rfl | hy
  · exact h
  · exact r y hy
theorem allN {α : Type} {p : α → Prop} : ∀ y ∈ ([] : List α), p y := fun y hy => nomatch hy
end Zt

/-! errors that leave a def, lambdas that a helper calls, the end with tables -/
namespace Xc
open PySem PySem.Spec PyProof.Rows L2 LamX Sh Zt
/-! ### the end: the tables of the defs that make lambdas -/
theorem walk_tabs {l : PySem.W.OpenLaw} {n k : Nat} {q : Program} {loose : List Str} {XP : (Str → Option Value) → Heap → Prop} {YP : World → Heap → Prop} {d : DefRec} {K : Params → PySem.W.Frag} {CX : World → CXT} {x : Str}
    (names : List Str) (hrec : ∀ y ∈ names, ((recsOf q).find? fun e => e.name == y).isSome = true) (hn : l.most = some n) (hn2 : n ≤ sizeLine) (hdf : d.params.defaults = []) (hr : Room k callerA) (hY : ∀ (w : World) (h : Heap), YP w h → (K w.params).In h)
    (F : ∀ (w : World) (mg : Str → Option Value) (fa : Addr) (h : Heap), (K w.params).In h → h.Ns mainGlobals mg → mg d.name = some (.ref fa) →
      (∀ y ∈ names, ∀ c P, PySem.W.tabIn (K w.params) y = some (c, P) → PySem.W.CodeHd h c P ∧ h.get? P = some (PySem.W.tabObj #[])) → LawAtS l w (K w.params) (CX w) k n x mg fa h)
    (hCX : ∀ (w : World) (H : Hp) (s : Shared) (e : Value) (s' : Shared), CX w [] H s (fun _ _ _ => False) e s' → False) :
    PySem.W.WalkO q loose XP YP l.row.toRowW d [] (fun f vs => PySem.call f vs) := by
  refine Att.attach_callB hn hdf fun w s0 s1 mg mb fa o pm cd doc a vs ns G Y ho hd hcd hmg hobj hints hlen hbits hg => ?_
  have KX := hY w _ Y
  have tabs : ∀ y ∈ names, ∀ c P, PySem.W.tabIn (K w.params) y = some (c, P) → PySem.W.CodeHd s1.heap c P ∧ s1.heap.get? P = some (PySem.W.tabObj #[]) := fun y hy c P ht => by
    obtain ⟨dd, hdd⟩ := Option.isSome_iff_exists.mp (hrec y hy)
    exact PySem.W.tab_of G.T KX hdd ht
  obtain ⟨fd, cs, sp, hT, nT, C, hb, hsp, hF⟩ := F w mg fa _ KX G.T.g hmg tabs
  exact law_callTs KX G.T.g G.T.b G.T.builtins G.T.nolimit hg hT nT C G.T.bmain hobj hints (Nat.le_trans hlen hn2) hr hF hb (fun H hH hS => hsp H a ns hlen hbits hH hS) fun H e s' => hCX w H s1 e s'
theorem tab_in {K : PySem.W.Frag} {x : Str} {f c P : Addr} {oc : Value} {od : Option Addr} {fd : FuncData} {sl sl2 : Array (Option Value)} {e : Value} {dd : Option Addr} {vs : Array Value} (a : PySem.W.nsIn K mainGlobals x = some (some (.ref f))) (l : K.lookup f = some ⟨oc, od, .func fd, sl⟩) (hc : fd.code = .ref c)
    (lc : K.lookup c = some ⟨e, dd, .fields vs, sl2⟩) (hv : vs[11]? = some (.ref P)) : PySem.W.tabIn K x = some (c, P) := by
  unfold PySem.W.tabIn
  simp only [a, l, hc, lc, hv]

/-! ### all but the tables stay -/
theorem ExtN.tup {H H' : Hp} (e : ExtN H H') {p : Addr} {xs : List V} (h : H p = some (.tup xs)) : H' p = some (.tup xs) := e _ _ h fun _ z => by cases z
theorem ExtN.lst {H H' : Hp} (e : ExtN H H') {p : Addr} {xs : List V} (h : H p = some (.lst xs)) : H' p = some (.lst xs) := e _ _ h fun _ z => by cases z
theorem ExtN.same {H H' H2 : Hp} (e : ExtN H H') (s : Same H' H2) : ExtN H H2 := e.trans (ExtN.of s)
theorem ExtN.die {H H' : Hp} (e : ExtN H H') {d : Addr} (h : DieAt H d) : DieAt H' d := by
  obtain ⟨a, b, c, h⟩ := h
  exact ⟨a, b, c, ExtN.lst e h⟩
theorem ExtN.notup {H H' : Hp} (e : ExtN H H') {v : V} (h : NoTup H v) : NoTup H' v := by
  rcases h with h | h | h | h | ⟨p, xs, e1, h⟩ | ⟨p, xs, e1, h⟩
  · exact .inl h
  · exact .inr (.inl h)
  · exact .inr (.inr (.inl h))
  · exact .inr (.inr (.inr (.inl h)))
  · exact .inr (.inr (.inr (.inr (.inl ⟨p, xs, e1, ExtN.lst e h⟩))))
  · exact .inr (.inr (.inr (.inr (.inr ⟨p, xs, e1, e _ _ h fun _ z => by cases z⟩))))
theorem ExtN.kn {H H' : Hp} (e : ExtN H H') {v : V} (h : Kn H v) : Kn H' v := by
  rcases h with h | ⟨p, xs, e1, h⟩
  · exact .inl (ExtN.notup e h)
  · exact .inr ⟨p, xs, e1, ExtN.tup e h⟩
theorem tabs_but {T : List (Addr × Str)} {H H' : Hp} {d : Addr} (hd : DieAt H d) (b : But d H H') (t : Tabs T H) : Tabs T H' := fun p hp => by
  obtain ⟨ps, h1, h2, h3⟩ := t p hp
  refine ⟨ps, b _ _ (hd.ne h1 fun _ _ _ z => by cases z) h1, h2, fun pos cv hc => ?_⟩
  obtain ⟨c, e1, e2⟩ := h3 pos cv hc
  exact ⟨c, e1, b _ _ (hd.ne e2 fun _ _ _ z => by unfold CodeO at z; cases z) e2⟩
theorem tabs_same {T : List (Addr × Str)} {H H' : Hp} (s : Same H H') (t : Tabs T H) : Tabs T H' := t.ext s

/-! ### what is seen of a value -/
/-- no tuple, or a tuple of these -/
def Sees (H : Hp) (v : V) : Option (List V) → Prop
  | none => NoTup H v
  | some xs => ∃ p, v = .ref p ∧ H p = some (.tup xs) ∧ xs.length ≤ 1000 ∧ ∀ x ∈ xs, Kn H x
theorem sees_of {H : Hp} {v : V} (h : Val H v) : ∃ o, Sees H v o := by
  rcases h with h | ⟨p, xs, e, h, l, k⟩
  · exact ⟨none, h⟩
  · exact ⟨some xs, p, e, h, l, k⟩
theorem Sees.same {H H' : Hp} {v : V} (s : Same H H') : ∀ {o : Option (List V)}, Sees H v o → Sees H' v o
  | none, h => NoTup.same s h
  | some xs, ⟨p, e, h, l, k⟩ => ⟨p, e, s _ _ h, l, fun x hx => (k x hx).same s⟩
theorem Sees.ext {H H' : Hp} {v : V} (s : ExtN H H') : ∀ {o : Option (List V)}, Sees H v o → Sees H' v o
  | none, h => ExtN.notup s h
  | some xs, ⟨p, e, h, l, k⟩ => ⟨p, e, ExtN.tup s h, l, fun x hx => ExtN.kn s (k x hx)⟩
def wideO : Option (List V) → Bool
  | none => false
  | some xs => entOk (-1) xs
def lenO : Option (List V) → Nat
  | none => 0
  | some xs => xs.length
theorem told_of {H : Hp} {v : V} {o : Option (List V)} {Q : VK} (h : Sees H v o) (q : ∀ H', Same H H' → Q (.bl (wideO o)) H') : Told (-1) H v Q := by
  cases o with
  | none => exact .inl ⟨h, q⟩
  | some xs =>
    obtain ⟨p, e, h1, h2, h3⟩ := h
    exact .inr ⟨p, xs, e, h1, h2, h3, q⟩
theorem ints_of {xs : List V} (h : (xs.map (entB (-1))).all id = true) : ∃ ns : List Int, xs = ns.map V.int ∧ ∀ n ∈ ns, -1 ≤ n := by
  induction xs with
  | nil => exact ⟨[], rfl, fun n hn => nomatch hn⟩
  | cons x r ih =>
    rw [List.map_cons, List.all_cons, Bool.and_eq_true] at h
    obtain ⟨ns, e, hn⟩ := ih h.2
    cases x with
    | int i =>
      refine ⟨i :: ns, by rw [e]; rfl, fun n hm => ?_⟩
      rcases List.mem_cons.mp hm with rfl | hm
      · exact of_decide_eq_true h.1
      · exact hn n hm
    | _ => exact absurd h.1 (by intro z; cases z)
/-- a wide bag is seen as what it is -/
theorem wide_of {H : Hp} {v : V} {o : Option (List V)} (h : Sees H v o) (w : wideO o = true) : ∃ p ns, v = .ref p ∧ H p = some (.tup (ns.map V.int)) ∧ OfLen (lenO o) ns := by
  cases o with
  | none => cases w
  | some xs =>
    obtain ⟨p, e, h1, _, _⟩ := h
    have w' : entOk (-1) xs = true := w
    unfold entOk at w'
    rw [Bool.and_eq_true, Bool.and_eq_true, decide_eq_true_iff, decide_eq_true_iff] at w'
    obtain ⟨ns, rfl, hn⟩ := ints_of w'.2
    rw [List.length_map] at w'
    exact ⟨p, ns, e, h1, ⟨w'.1.1, w'.1.2, hn⟩, (List.length_map _).symm⟩
theorem sees_wide {H : Hp} {p : Addr} {ns : List Int} (h : H p = some (.tup (ns.map V.int))) (w : Wide ns) : Sees H (.ref p) (some (ns.map V.int)) := ⟨p, rfl, h, w.len, ints_kn⟩
theorem wideO_wide {ns : List Int} (w : Wide ns) : wideO (some (ns.map V.int)) = true := w.ok
def pairOk (o1 o2 : Option (List V)) : Bool := wideO o1 && wideO o2 && decide (lenO o1 = lenO o2)
/-- all of them wide and of one length -/
def allOk (os : List (Option (List V))) : Bool := os.all wideO && os.all fun o => decide (lenO o = lenO (os.headD none))
/-- each of the values is seen so -/
inductive SeesAll (H : Hp) : List V → List (Option (List V)) → Prop
  | nil : SeesAll H [] []
  | cons {v : V} {o : Option (List V)} {vs : List V} {os : List (Option (List V))} : Sees H v o → SeesAll H vs os → SeesAll H (v :: vs) (o :: os)
theorem SeesAll.same {H H' : Hp} (s : Same H H') {vs : List V} {os : List (Option (List V))} (h : SeesAll H vs os) : SeesAll H' vs os := by
  induction h with
  | nil => exact .nil
  | cons h _ ih => exact .cons (h.same s) ih
theorem SeesAll.len {H : Hp} {vs : List V} {os : List (Option (List V))} (h : SeesAll H vs os) : vs.length = os.length := by
  induction h with
  | nil => rfl
  | cons _ _ ih => rw [List.length_cons, List.length_cons, ih]
theorem SeesAll.at_ {H : Hp} {vs : List V} {os : List (Option (List V))} (h : SeesAll H vs os) : ∀ {i : Nat} {v : V}, vs[i]? = some v → ∃ o, os[i]? = some o ∧ Sees H v o := by
  induction h with
  | nil => intro i v e; simp at e
  | cons h _ ih =>
    intro i v e
    cases i with
    | zero =>
      cases e
      exact ⟨_, rfl, h⟩
    | succ i => exact ih e
/-- they are bags -/
theorem SeesAll.bags {H : Hp} {n : Nat} {vs : List V} {os : List (Option (List V))} (h : SeesAll H vs os) (w : os.all wideO = true) (l : ∀ o ∈ os, lenO o = n) : ∃ ks : List (Addr × List Int), vs = refs ks ∧ (∀ q ∈ ks, H q.1 = some (.tup (q.2.map V.int))) ∧ (∀ q ∈ ks, OfLen n q.2) ∧ ks.length = os.length := by
  induction h with
  | nil => exact ⟨[], rfl, (fun q hq => nomatch hq), (fun q hq => nomatch hq), rfl⟩
  | @cons v o vs os h _ ih =>
    rw [List.all_cons, Bool.and_eq_true] at w
    obtain ⟨ks, e, h1, h2, h3⟩ := ih w.2 fun o ho => l o (.tail _ ho)
    obtain ⟨p, ns, rfl, hp, hn⟩ := wide_of h w.1
    rw [l o (.head _)] at hn
    refine ⟨(p, ns) :: ks, by rw [e]; rfl, allC hp h1, allC hn h2, by rw [List.length_cons, List.length_cons, h3]⟩

/-! ### what is told of defs that may raise InvalidBag, whose class is C -/
def spTwo (C : Addr) : Sp := fun vs H Q E => ∃ u v o1 o2, vs = [u, v] ∧ Sees H u o1 ∧ Sees H v o2 ∧ (pairOk o1 o2 = true → ∀ r H', Same H H' → Q r H') ∧ (pairOk o1 o2 = false → ∀ H', Same H H' → E (.ref C) none H')
/-- of no tuple at all, or a tuple of values -/
def spRow (C : Addr) : Sp := fun vs H Q E => ∃ u, vs = [u] ∧
  ((((NoTup H u ∨ ∃ p xs, u = .ref p ∧ H p = some (.dT xs))) ∧ ∀ H', Same H H' → E (.ref C) none H') ∨
    ∃ p xs os, u = .ref p ∧ H p = some (.tup xs) ∧ SeesAll H xs os ∧ xs.length < 64 ∧ (allOk os = true → ∀ r H', Same H H' → Q r H') ∧ (allOk os = false → ∀ H', Same H H' → E (.ref C) none H'))
/-- the facts of the two classes -/
structure ClsE (K : PySem.W.Frag) (mg : Str → Option Value) (C D : Addr) : Prop where
  gC : mg "InvalidBag" = some (.ref C)
  gD : mg "BagError" = some (.ref D)
  ex : PySem.W.excIn K C [.type "ValueError", .type "Exception", .type "BaseException", .type "object"] "ValueError.__new__" = true
  kC : PySem.W.keepIn K (.ref C) = true
  bC : PySem.W.subIn K (.ref C) (.type "BaseException") = some true
  tC : PySem.W.typeIn K (.ref C) = some (.type "type")
  ss : PySem.W.subIn K (.ref C) (.ref C) = some true
  sd : PySem.W.subIn K (.ref C) (.ref D) = some true
  iD : PySem.W.isClsIn K D = true
  tD : PySem.W.typeIn K (.ref D) = some (.type "type")
  ec : ExcC K C
theorem ClsE.exm {K : PySem.W.Frag} {mg : Str → Option Value} {C D : Addr} (T : ClsE K mg C D) : PySem.W.exmOne K (.ref C) (.ref C) = some true := PySem.W.exm_ref T.bC T.ec.hd T.tC T.ss
theorem ClsE.kit {K : PySem.W.Frag} {mg : Str → Option Value} {C D : Addr} (T : ClsE K mg C D) : PySem.W.kitOne K (.ref C) (.ref D) = some true := by
  unfold PySem.W.kitOne
  split
  · rfl
  · unfold PySem.W.kitCls
    have h1 := T.iD
    unfold PySem.W.isClsIn at h1
    simp only
    rw [if_pos]
    · exact T.sd
    · rw [T.tD]
      first
        | simpa using h1
        | (simp; simpa using h1)
end Xc

namespace Xc
open PySem PySem.Spec PyProof.Rows L2 LamX Sh Zt
/-- whether a call is refused with the class at C -/
def TMet (C : Addr) : (XK → Hp → VK → Prop) → Hp → VK → Prop := fun tl H Q => tl (fun cls d H' => cls = .ref C ∧ d = none ∧ Q (.bl true) H') H (fun _ H' => Q (.bl false) H')
theorem boot_isi : bootBuiltins "isinstance" = some (.builtin "isinstance") := by decide +kernel
section
variable {X : Cx}
theorem met_gives {Ng : List Str} {nm a e q : Str} {sg : Scope} {g C DB : Addr} {cdg : Value} {j : Nat} {p1 p2 p3 p4 p5 p6 p7 p8 p9 p10 p11 p12 p13 : Pos} (T : ClsE X.K X.mg C DB) (mI : X.mg "isinstance" = none)
    (h1 : sg.names.lookup ("InvalidBag" : Str) = some .globalImplicit) (h2 : sg.names.lookup ("BagError" : Str) = some .globalImplicit) (h3 : sg.names.lookup ("isinstance" : Str) = some .globalImplicit)
    (nd : Ng.Nodup) (hi : Ng[1]? = some e) (hle : sg.names.lookup e = some .local) (h0 : ∀ f : Addr, (L2.start Ng [V.ref f])[0]? = some (some (V.ref f)))
    (he1 : (e == ("__debug__" : Str)) = false) (he2 : (e == ("__classdict__" : Str)) = false) (hne : Ng.length = 2) :
    GivesTo X Ng nm sg g cdg [.Try [.Expr (.Call (.Name a p1) [] [] p2) p3] [.ExceptHandler (some (.Name "InvalidBag" p4)) (some e) [.Return (some (.Call (.Name "isinstance" p5) [.Name e p6, .Name "BagError" p7] [] p8)) p9] p10] [] [] p11, .Return (some (.Constant (.bool false) j p12)) p13] a q (TMet C) := by
  intro f c' s H Q tl act hc h
  let Z : Cx := (cxOf C8.CX0 X.prog X.w X.K X.mg X.base Ng nm sg g cdg X.A X.stack s H C8.E0).nox
  have g1 : Gl Z "InvalidBag" := h1
  refine ⟨_, pss_cons (ps_try_as (X := Z) (i := 1) (c := .ref C) (Wout := fun _ _ _ _ => False)
      (tb := fun W D σ H => ∃ Ech : XK, (∀ cls d σ' H', Ech cls d H' → W cls d σ' H') ∧ σ[0]? = some (some (.ref f)) ∧ H c' = some (CodeO c' q) ∧ tl Ech H fun _ H' => D.nx σ H')
      (ts := fun a cls d D σ H => cls = .ref C ∧ d = none ∧ (1 < σ.length → σ[1]? = some (some (.ref a))) ∧ D.rt (.bl true) H)
      rfl rfl nd hi hle ⟨g1, by decide, .inl T.gC⟩ L2.takes0 (fun W pn xe tk _ => ?_) (fun a oe cls d pn hz hf => ?_)) (pss_one (ps_ret pe_bl)), ?_⟩
  · refine ⟨fun pins s' σ H' D I h' => ?_⟩
    obtain ⟨Ech, hW, k1, k2, k3⟩ := h'
    have hp := act W pn xe Ech p1 p2 tk hW
    exact (pss_one (ps_expr (pos := p3) hp)).run pins s' σ H' D I ⟨k1, k2, k3⟩
  · refine ⟨fun pins s' σ H' D I h' => ?_⟩
    obtain ⟨rfl, rfl, k1, k2⟩ := h'
    have ln : 1 < σ.length := by
      have := I.len
      have e1 : σ.length = Ng.length := this
      omega
    have gi : Gl (Z.suite a ((a, oe) :: pn)) "isinstance" := h3
    have gd : Gl (Z.suite a ((a, oe) :: pn)) "BagError" := h2
    have hcall : PE (Z.suite a ((a, oe) :: pn)) (.Call (.Name "isinstance" p5) [.Name e p6, .Name "BagError" p7] [] p8) _ :=
      pe_callB (call_isE (X := Z) (pn := pn) T.ec hz hf) gi mI boot_isi (pa_cons (pe_var (i := 1) hi (.inl hle) he1 he2) (pa_cons (pe_glob (v := .ref DB) gd T.gD rfl) pa_nil))
    refine (pss_one (ps_ret (pos := p9) hcall)).run pins s' σ H' D I ?_
    exact ⟨.ref a, k1 ln, .ref DB, .ref DB, true, rfl, fun u r => r, T.kit, k2⟩
  · refine ⟨fun cls d H' => cls = .ref C ∧ d = none ∧ Q (.bl true) H', fun cls d σ' H' hw => ?_, h0 f, hc, h⟩
    obtain ⟨rfl, rfl, hq⟩ := hw
    exact ⟨true, T.exm, fun _ a ha => ⟨rfl, rfl, fun hl => List.getElem?_set_self (by rw [List.length_set] at hl; exact hl), hq⟩, fun z => nomatch z⟩
end
end Xc

namespace Xc
open PySem PySem.Spec PyProof.Rows L2 LamX Sh Zt
section
variable {X : Cx}
/-- {t: v}, t a tuple of whole numbers -/
def tDisp1 (tk tv : TE) : TE := fun σ H Q => ∀ p, H p = none → tPairs [(tk, tv)] σ (upd H p (.dT [])) fun ps H2 => ∃ (b : Addr) (ns : List Int) (y : V), H2 p = some (.dT []) ∧ ps = [(.ref b, y)] ∧ H2 b = some (.tup (ns.map V.int)) ∧ Q (.ref p) (upd H2 p (.dT [(ns.map Sum.inl, y)]))
theorem pe_disp1 {k v : Expr} {tk tv : TE} {pos : Pos} (hu : X.A.units + 64 < cLine) (hk : PE X k tk) (hv : PE X v tv) : PE X (.Dict [some k] [v] pos) (tDisp1 tk tv) := by
  refine ⟨fun pins s σ H Q I q => ?_⟩
  have hn := I.hok.fresh (Nat.le_refl s.heap.objs.size)
  have I1 := I.laid (a := s.heap.objs.size) (o := .dT []) (h' := s.heap.push { cls := .type "dict", data := .dict #[] }) (t' := s.toks) (fun _ _ q => Heap.get?_push_of_some _ q) (Nat.le_refl _) (dt_empty s.heap I.big)
  have h := pps_cons (pos := pos) hk hv (pps_nil (X := X) (pos := pos))
  rw [arm_eval_Dict, zip_pairTrees [some k] [v] X.env pos rfl rfl, dictDisplay_pairs (pairTrees [some k] [v] X.env pos) (by intro z; cases z) (by show 1 < 17; decide)]
  refine wpAny_bind (wpAny_standAt (wpAny_bind (wpAny_subDictH (knd := tupleKind (mixKind X.prog X.w)) (by show X.A.units < cLine; omega) (by show 1 ≤ 15; decide) ?_)))
  refine wpAny_mono (h.run pins _ σ _ _ I1 (q _ hn)) (fun ws s2 hw => ?_) fun _ _ e => e
  obtain ⟨ps, H2, I2, rel, b, ns, y, e, rfl, hb, q2⟩ := hw
  cases rel with
  | @cons _ kv _ rest r1 rel =>
    cases rel
    obtain ⟨ku, vu⟩ := kv
    obtain ⟨rk, rv⟩ := r1
    obtain rfl : ku = Value.ref b := rk
    obtain ⟨z, hd, xs, kt, dd⟩ := dt_of I2.hok e
    cases kt
    have ek : (ns.map V.int) = ((ns.map Sum.inl : List Key).map kV) := by
      rw [List.map_map]
      rfl
    have key := key_of (P := X.prog) (w := X.w) I2.hok (show H2 b = some (.tup ((ns.map Sum.inl : List Key).map kV)) by rw [← ek]; exact hb)
    refine ⟨[(ns.map Sum.inl, b, vu)], ⟨rfl, rfl, key, True.intro⟩, dd, fun h' tk2 dd' hs => wpAny_pure ⟨.ref s.heap.objs.size, _, ?_, rfl, q2⟩⟩
    obtain ⟨o, es, ep, ho, hx, hdat, hes, his, hnd⟩ := dd'
    have ne : b ≠ s.heap.objs.size := ne_of hb e fun z => by cases z
    refine d_write I2 (by rw [e]; exact True.intro) hs ⟨o, ho⟩ ⟨by rw [sizeLine_eq]; exact (by decide : 1 ≤ 16777216), hd, [(ns.map Sum.inl, b, vu)], .cons ⟨rfl, ?_, rv⟩ .nil, o, es, ep, ho, hx, hdat, hes, hnd⟩
    rw [← ek]
    exact (upd_ne ne).trans hb
end
/-! ### a call that the helper makes -/
theorem two_met {C : Addr} {u v : V} {o1 o2 : Option (List V)} {H : Hp} {Q : VK} (h1 : Sees H u o1) (h2 : Sees H v o2) (q : ∀ H', Same H H' → Q (.bl (!pairOk o1 o2)) H') : spTwo C [u, v] H (fun _ H' => Q (.bl false) H') (fun cls d H' => cls = .ref C ∧ d = none ∧ Q (.bl true) H') :=
  ⟨u, v, o1, o2, rfl, h1, h2, fun e r H' s => by
    have := q H' s
    rw [e] at this
    exact this, fun e H' s => ⟨rfl, rfl, by
    have := q H' s
    rw [e] at this
    exact this⟩⟩
theorem row_met {C p : Addr} {xs : List V} {os : List (Option (List V))} {H : Hp} {Q : VK} (hp : H p = some (.tup xs)) (hs : SeesAll H xs os) (few : xs.length < 64) (q : ∀ H', Same H H' → Q (.bl (!allOk os)) H') : spRow C [.ref p] H (fun _ H' => Q (.bl false) H') (fun cls d H' => cls = .ref C ∧ d = none ∧ Q (.bl true) H') :=
  ⟨.ref p, rfl, .inr ⟨p, xs, os, rfl, hp, hs, few, fun e r H' s => by
    have := q H' s
    rw [e] at this
    exact this, fun e H' s => ⟨rfl, rfl, by
    have := q H' s
    rw [e] at this
    exact this⟩⟩⟩
theorem non_met {C : Addr} {u : V} {H : Hp} {Q : VK} (h : NoTup H u ∨ ∃ p xs, u = .ref p ∧ H p = some (.dT xs)) (q : ∀ H', Same H H' → Q (.bl true) H') : spRow C [u] H (fun _ H' => Q (.bl false) H') (fun cls d H' => cls = .ref C ∧ d = none ∧ Q (.bl true) H') :=
  ⟨u, rfl, .inl ⟨h, fun H' s => ⟨rfl, rfl, q H' s⟩⟩⟩
def ExtD (d : Addr) (H H' : Hp) : Prop := ∀ b o, b ≠ d → H b = some o → (∀ ps, o ≠ .tbl ps) → H' b = some o
theorem ExtD.of {d : Addr} {H H' : Hp} (h : ExtN H H') : ExtD d H H' := fun b o _ e n => h b o e n
theorem ExtD.but {d : Addr} {H H' : Hp} (h : But d H H') : ExtD d H H' := fun b o hb e _ => h b o hb e
theorem ExtD.trans {d : Addr} {H H1 H2 : Hp} (a : ExtD d H H1) (b : ExtD d H1 H2) : ExtD d H H2 := fun c o n e z => b c o n (a c o n e z) z
def spRightT (TS : List (Addr × Str)) : Sp := fun vs H Q _ => ∃ d, vs = [.ref d] ∧ DieAt H d ∧ Tabs TS H ∧ ∀ H', ExtD d H H' → DieAt H' d → Tabs TS H' → Q (.bl true) H'
def fine (n : Nat) (o : Option (List V)) : Bool := wideO o && decide (lenO o = n)
theorem fine1 {ns : List Int} (w : Wide ns) (o : Option (List V)) : pairOk (some (ns.map V.int)) o = fine ns.length o := by
  unfold pairOk fine
  rw [wideO_wide w, Bool.true_and]
  congr 1
  exact decide_eq_decide.mpr ⟨fun z => by rw [← z]; exact List.length_map _, fun z => by rw [z]; exact List.length_map _⟩
theorem fine2 {ns : List Int} (w : Wide ns) (o : Option (List V)) : pairOk o (some (ns.map V.int)) = fine ns.length o := by
  unfold pairOk fine
  rw [wideO_wide w, Bool.and_true]
  congr 1
  exact decide_eq_decide.mpr ⟨fun z => by rw [z]; exact List.length_map _, fun z => by rw [z]; exact (List.length_map _).symm⟩
theorem fine3 {ns : List Int} (w : Wide ns) (o : Option (List V)) : allOk [some (ns.map V.int), o] = fine ns.length o := by
  rw [← fine1 w]
  unfold allOk pairOk
  simp only [List.all_cons, List.all_nil, List.headD_cons, Bool.and_true, decide_true, Bool.true_and, wideO_wide w]
  congr 1
  exact decide_eq_decide.mpr ⟨fun z => z.symm, fun z => z.symm⟩
theorem fine4 {ns : List Int} (w : Wide ns) (o : Option (List V)) : allOk [o, some (ns.map V.int), some (ns.map V.int)] = fine ns.length o := by
  rw [← fine2 w]
  unfold allOk pairOk
  simp only [List.all_cons, List.all_nil, List.headD_cons, Bool.and_true, decide_true, Bool.true_and, wideO_wide w, Bool.and_self]
  congr 1
  exact decide_eq_decide.mpr ⟨fun z => z.symm, fun z => z.symm⟩
/-! ### the lambdas' readings -/
section
variable {TS : List (Addr × Str)} {C : Addr} {σ : L2.St} {H : Hp} {Q : VK}
theorem lam_two {i j : Nat} {u v : V} {o1 o2 : Option (List V)} {b : Bool} (hi : σ[i]? = some (some u)) (hj : σ[j]? = some (some v)) (hT : Tabs TS H) (h1 : Sees H u o1) (h2 : Sees H v o2) (hb : (!pairOk o1 o2) = b) (q : ∀ H', ExtN H H' → Tabs TS H' → Q (.bl b) H') :
    LamX.tLam TS (TMet C) (fun E => tCallS (spTwo C) (fun σ => WE (fun cls d x H => E cls d H) σ) (tCons (tVar i) (tCons (tVar j) tNil))) σ H Q := by
  subst hb
  exact ⟨hT, fun G1 e1 T1 => ⟨u, hi, v, hj, two_met (h1.ext e1) (h2.ext e1) fun G2 s2 => q G2 (ExtN.same e1 s2) (tabs_same s2 T1)⟩⟩
theorem lam_two2 {ta tb : TE} {o1 o2 : Option (List V)} {b : Bool} (hT : Tabs TS H) (ha : ∀ H1, ExtN H H1 → Tabs TS H1 → ∀ R : VK, (∀ u H2, Same H1 H2 → Sees H2 u o1 → R u H2) → ta σ H1 R) (hb' : ∀ H1, ExtN H H1 → Tabs TS H1 → ∀ R : VK, (∀ v H2, Same H1 H2 → Sees H2 v o2 → R v H2) → tb σ H1 R)
    (hb : (!pairOk o1 o2) = b) (q : ∀ H', ExtN H H' → Tabs TS H' → Q (.bl b) H') :
    LamX.tLam TS (TMet C) (fun E => tCallS (spTwo C) (fun σ => WE (fun cls d x H => E cls d H) σ) (tCons ta (tCons tb tNil))) σ H Q := by
  subst hb
  refine ⟨hT, fun G1 e1 T1 => ha G1 e1 T1 _ fun u G2 s2 h1 => hb' G2 (ExtN.same e1 s2) (tabs_same s2 T1) _ fun v G3 s3 h2 => ?_⟩
  exact two_met (h1.same s3) h2 fun G4 s4 => q G4 (ExtN.same (ExtN.same (ExtN.same e1 s2) s3) s4) (tabs_same s4 (tabs_same s3 (tabs_same s2 T1)))
/-- over a tuple of the maker's names -/
theorem lam_row {ta : TE} {xs : List V} {os : List (Option (List V))} {b : Bool} (hT : Tabs TS H) (ha : ∀ H1, ExtN H H1 → Tabs TS H1 → ∀ R : VK, (∀ p H2, Same H1 H2 → H2 p = some (.tup xs) → SeesAll H2 xs os → R (.ref p) H2) → ta σ H1 R) (few : xs.length < 64) (hb : (!allOk os) = b) (q : ∀ H', ExtN H H' → Tabs TS H' → Q (.bl b) H') :
    LamX.tLam TS (TMet C) (fun E => tCallS (spRow C) (fun σ => WE (fun cls d x H => E cls d H) σ) (tCons ta tNil)) σ H Q := by
  subst hb
  refine ⟨hT, fun G1 e1 T1 => ha G1 e1 T1 _ fun p G2 s2 hp hs => ?_⟩
  exact row_met hp hs few fun G3 s3 => q G3 (ExtN.same (ExtN.same e1 s2) s3) (tabs_same s3 (tabs_same s2 T1))
theorem lam_row2 {ta : TE} {os : List (Option (List V))} {b : Bool} (hT : Tabs TS H) (ha : ∀ H1, ExtN H H1 → Tabs TS H1 → ∀ R : VK, (∀ xs p H2, Same H1 H2 → H2 p = some (.tup xs) → SeesAll H2 xs os → R (.ref p) H2) → ta σ H1 R) (few : os.length < 64) (hb : (!allOk os) = b) (q : ∀ H', ExtN H H' → Tabs TS H' → Q (.bl b) H') :
    LamX.tLam TS (TMet C) (fun E => tCallS (spRow C) (fun σ => WE (fun cls d x H => E cls d H) σ) (tCons ta tNil)) σ H Q := by
  subst hb
  refine ⟨hT, fun G1 e1 T1 => ha G1 e1 T1 _ fun xs p G2 s2 hp hs => ?_⟩
  exact row_met hp hs (by rw [hs.len]; exact few) fun G3 s3 => q G3 (ExtN.same (ExtN.same e1 s2) s3) (tabs_same s3 (tabs_same s2 T1))
theorem lam_non {i : Nat} {u : V} (hi : σ[i]? = some (some u)) (hT : Tabs TS H) (h : ∀ H1, ExtN H H1 → NoTup H1 u ∨ ∃ p xs, u = .ref p ∧ H1 p = some (.dT xs)) (q : ∀ H', ExtN H H' → Tabs TS H' → Q (.bl true) H') :
    LamX.tLam TS (TMet C) (fun E => tCallS (spRow C) (fun σ => WE (fun cls d x H => E cls d H) σ) (tCons (tVar i) tNil)) σ H Q := by
  refine ⟨hT, fun G1 e1 T1 => ⟨u, hi, ?_⟩⟩
  exact non_met (h G1 e1) fun G2 s2 => q G2 (ExtN.same e1 s2) (tabs_same s2 T1)
end
theorem tabs_upl {T : List (Addr × Str)} {H : Hp} {L : Addr} {xs ys : List V} (hL : H L = some (.lst xs)) (t : Tabs T H) : Tabs T (upd H L (.lst ys)) := fun p hp => by
  obtain ⟨ps, h1, h2, h3⟩ := t p hp
  refine ⟨ps, (upd_ne (ne_of h1 hL fun z => by cases z)).trans h1, h2, fun pos cv hc => ?_⟩
  obtain ⟨c, e1, e2⟩ := h3 pos cv hc
  exact ⟨c, e1, (upd_ne (ne_of e2 hL fun z => by unfold CodeO at z; cases z)).trans e2⟩
theorem Sees.upl {H : Hp} {L : Addr} {xs ys : List V} {v : V} (hL : H L = some (.lst xs)) : ∀ {o : Option (List V)}, Sees H v o → Sees (upd H L (.lst ys)) v o
  | none, h => NoTup.upl hL h
  | some zs, ⟨p, e, h, l, k⟩ => ⟨p, e, tup_upl hL h, l, fun x hx => (k x hx).upl hL⟩
/-- what is held while the row of answers grows -/
structure Box (TS : List (Addr × Str)) (H0 H : Hp) (d p : Addr) (near : V) (o : Option (List V)) (ns : List Int) (L : Addr) (xs : List V) : Prop where
  hp : H p = some (.tup (ns.map V.int))
  hS : Sees H near o
  hD : DieAt H d
  hT : Tabs TS H
  ex : ExtD d H0 H
  hL : H L = some (.lst xs)
  n0 : ∀ u, H0 L = some u → ¬ ∀ ps, u ≠ .tbl ps
  n1 : L ≠ d
section
variable {TS : List (Addr × Str)} {H0 H H' : Hp} {d p L : Addr} {near : V} {o : Option (List V)} {ns : List Int} {xs : List V}
theorem Box.ext (b : Box TS H0 H d p near o ns L xs) (x : ExtN H H') (t : Tabs TS H') : Box TS H0 H' d p near o ns L xs := ⟨ExtN.tup x b.hp, b.hS.ext x, ExtN.die x b.hD, t, b.ex.trans (ExtD.of x), ExtN.lst x b.hL, b.n0, b.n1⟩
theorem Box.put (b : Box TS H0 H d p near o ns L xs) (ys : List V) : Box TS H0 (upd H L (.lst ys)) d p near o ns L ys :=
  ⟨tup_upl b.hL b.hp, b.hS.upl b.hL, b.hD.put b.n1, tabs_upl b.hL b.hT, fun c u hc e n => by
    have ne : c ≠ L := fun z => b.n0 u (by rw [← z]; exact e) n
    exact (upd_ne ne).trans (b.ex c u hc e n), upd_same, b.n0, b.n1⟩
end
theorem fine5 {ns : List Int} (w : Wide ns) : (!allOk [some (ns.map V.int)]) = false := by
  unfold allOk
  simp only [List.all_cons, List.all_nil, List.headD_cons, Bool.and_true, decide_true, Bool.true_and, wideO_wide w, Bool.and_self]
  rfl
/-- no tuple at all -/
def Non (H : Hp) (v : V) : Prop := NoTup H v ∨ ∃ p xs, v = .ref p ∧ H p = some (.dT xs)
theorem Non.die {H H' : Hp} {d : Addr} {v : V} (hd : DieAt H d) (n : NewDie H d H') (h : Non H v) : Non H' v := by
  rcases h with h | ⟨p, xs, e, h⟩
  · exact .inl (NoTup.die hd n h)
  · exact .inr ⟨p, xs, e, n.but _ _ (hd.ne h fun _ _ _ z => by cases z) h⟩
theorem Non.ext {H H' : Hp} {v : V} (x : ExtN H H') (h : Non H v) : Non H' v := by
  rcases h with h | ⟨p, xs, e, h⟩
  · exact .inl (ExtN.notup x h)
  · exact .inr ⟨p, xs, e, x _ _ h fun _ z => by cases z⟩
theorem Non.upl {H : Hp} {L : Addr} {xs ys : List V} {v : V} (hL : H L = some (.lst xs)) (h : Non H v) : Non (upd H L (.lst ys)) v := by
  rcases h with h | ⟨p, zs, e, h⟩
  · exact .inl (NoTup.upl hL h)
  · exact .inr ⟨p, zs, e, (upd_ne (ne_of h hL fun z => by cases z)).trans h⟩
theorem extn_seq {K : PySem.W.Frag} {H H' : Hp} {a : Addr} {xs : List V} (x : ExtN H H') (h : SqL K H a xs) : SqL K H' a xs := by
  rcases h with (h | ⟨o, h⟩) | h
  · exact .inl (.inl (x _ _ h fun _ z => by cases z))
  · exact .inl (.inr ⟨o, x _ _ h fun _ z => by cases z⟩)
  · exact .inr h
theorem extd_new {H H' : Hp} {p : Addr} {o : HO} (hp : H p = none) (x : ExtD p (upd H p o) H') : ExtN H H' := fun b u e n => by
  have ne : b ≠ p := fun z => by rw [z, hp] at e; cases e
  exact x b u ne ((upd_ne ne).trans e) n
def spLawT (K : PySem.W.Frag) (TS : List (Addr × Str)) : Sp := fun vs H Q _ => ∃ a, ∃ ns : List Int, vs = [.ref a] ∧ SqL K H a (ns.map V.int) ∧ ns.length ≤ 63 ∧ Tabs TS H ∧ ∀ H', Q (.bl true) H'
end Xc

/-! a dict beside values of other kinds -/
namespace Dq
open PySem PySem.SeqAt
open AutoSeq1 (wpAny_loadPart')
theorem sub_none : isSubtype (.type "NoneType") (.type "dict") = pure false := by rw [isSubtype_type]; kernel_rfl
theorem bus_none : isSubtype (.type "dict") (.type "NoneType") = pure false := by rw [isSubtype_type]; kernel_rfl
theorem d_none (l : Addr) (es : Array DictEntry) (n : Nat) (dd : Option Addr) (sl : Array (Option Value))  :
    Meets (Builtin.«dict.__eq__» ⟨[.ref l, .none], []⟩) (fun _ R s => s.heap.get? l = some ⟨.type "dict", dd, .dict es n, sl⟩ ∧ R (.ok (.ret .notImplemented)) s) :=
  .of_wp fun prog w A R s h => by
    obtain ⟨hp, g, d, tk, os⟩ := s
    obtain ⟨hl, h⟩ := h
    have f1 := sub_none
    wp_walk using wpAny_loadPart' hl
    exact ⟨_, rfl, h⟩
theorem e_none  (l : Addr) (es : Array DictEntry) (n : Nat) (dd : Option Addr) (sl : Array (Option Value)) :
    Meets (Builtin.«NoneType.__eq__» ⟨[.none, .ref l], []⟩) (fun _ R s => s.heap.get? l = some ⟨.type "dict", dd, .dict es n, sl⟩ ∧ R (.ok (.ret .notImplemented)) s) :=
  .of_wp fun prog w A R s h => by
    obtain ⟨hp, g, d, tk, os⟩ := s
    obtain ⟨hl, h⟩ := h
    wp_walk using wpAny_loadPart' hl, wpAny_load hl
    exact ⟨_, rfl, h⟩
theorem sub_bool : isSubtype (.type "bool") (.type "dict") = pure false := by rw [isSubtype_type]; kernel_rfl
theorem bus_bool : isSubtype (.type "dict") (.type "bool") = pure false := by rw [isSubtype_type]; kernel_rfl
theorem d_bool (l : Addr) (es : Array DictEntry) (n : Nat) (dd : Option Addr) (sl : Array (Option Value)) (b : Bool) :
    Meets (Builtin.«dict.__eq__» ⟨[.ref l, .bool b], []⟩) (fun _ R s => s.heap.get? l = some ⟨.type "dict", dd, .dict es n, sl⟩ ∧ R (.ok (.ret .notImplemented)) s) :=
  .of_wp fun prog w A R s h => by
    obtain ⟨hp, g, d, tk, os⟩ := s
    obtain ⟨hl, h⟩ := h
    have f1 := sub_bool
    wp_walk using wpAny_loadPart' hl
    exact ⟨_, rfl, h⟩
theorem e_bool (b : Bool) (l : Addr) (es : Array DictEntry) (n : Nat) (dd : Option Addr) (sl : Array (Option Value)) :
    Meets (Builtin.«int.__eq__» ⟨[.bool b, .ref l], []⟩) (fun _ R s => s.heap.get? l = some ⟨.type "dict", dd, .dict es n, sl⟩ ∧ R (.ok (.ret .notImplemented)) s) :=
  .of_wp fun prog w A R s h => by
    obtain ⟨hp, g, d, tk, os⟩ := s
    obtain ⟨hl, h⟩ := h
    wp_walk using wpAny_loadPart' hl, wpAny_load hl
    exact ⟨_, rfl, h⟩
theorem sub_int : isSubtype (.type "int") (.type "dict") = pure false := by rw [isSubtype_type]; kernel_rfl
theorem bus_int : isSubtype (.type "dict") (.type "int") = pure false := by rw [isSubtype_type]; kernel_rfl
theorem d_int (l : Addr) (es : Array DictEntry) (n : Nat) (dd : Option Addr) (sl : Array (Option Value)) (b : Int) (u : Tok) :
    Meets (Builtin.«dict.__eq__» ⟨[.ref l, .int b u], []⟩) (fun _ R s => s.heap.get? l = some ⟨.type "dict", dd, .dict es n, sl⟩ ∧ R (.ok (.ret .notImplemented)) s) :=
  .of_wp fun prog w A R s h => by
    obtain ⟨hp, g, d, tk, os⟩ := s
    obtain ⟨hl, h⟩ := h
    have f1 := sub_int
    wp_walk using wpAny_loadPart' hl
    exact ⟨_, rfl, h⟩
theorem e_int (b : Int) (u : Tok) (l : Addr) (es : Array DictEntry) (n : Nat) (dd : Option Addr) (sl : Array (Option Value)) :
    Meets (Builtin.«int.__eq__» ⟨[.int b u, .ref l], []⟩) (fun _ R s => s.heap.get? l = some ⟨.type "dict", dd, .dict es n, sl⟩ ∧ R (.ok (.ret .notImplemented)) s) :=
  .of_wp fun prog w A R s h => by
    obtain ⟨hp, g, d, tk, os⟩ := s
    obtain ⟨hl, h⟩ := h
    wp_walk using wpAny_loadPart' hl, wpAny_load hl
    exact ⟨_, rfl, h⟩
theorem sub_str : isSubtype (.type "str") (.type "dict") = pure false := by rw [isSubtype_type]; kernel_rfl
theorem bus_str : isSubtype (.type "dict") (.type "str") = pure false := by rw [isSubtype_type]; kernel_rfl
theorem d_str (l : Addr) (es : Array DictEntry) (n : Nat) (dd : Option Addr) (sl : Array (Option Value)) (b : Str) (u : Tok) :
    Meets (Builtin.«dict.__eq__» ⟨[.ref l, .str b u], []⟩) (fun _ R s => s.heap.get? l = some ⟨.type "dict", dd, .dict es n, sl⟩ ∧ R (.ok (.ret .notImplemented)) s) :=
  .of_wp fun prog w A R s h => by
    obtain ⟨hp, g, d, tk, os⟩ := s
    obtain ⟨hl, h⟩ := h
    have f1 := sub_str
    wp_walk using wpAny_loadPart' hl
    exact ⟨_, rfl, h⟩
theorem e_str (b : Str) (u : Tok) (l : Addr) (es : Array DictEntry) (n : Nat) (dd : Option Addr) (sl : Array (Option Value)) :
    Meets (Builtin.«str.__eq__» ⟨[.str b u, .ref l], []⟩) (fun _ R s => s.heap.get? l = some ⟨.type "dict", dd, .dict es n, sl⟩ ∧ R (.ok (.ret .notImplemented)) s) :=
  .of_wp fun prog w A R s h => by
    obtain ⟨hp, g, d, tk, os⟩ := s
    obtain ⟨hl, h⟩ := h
    wp_walk using wpAny_loadPart' hl, wpAny_load hl
    exact ⟨_, rfl, h⟩
theorem sub_list : isSubtype (.type "list") (.type "dict") = pure false := by rw [isSubtype_type]; kernel_rfl
theorem bus_list : isSubtype (.type "dict") (.type "list") = pure false := by rw [isSubtype_type]; kernel_rfl
theorem d_list (l p : Addr) (es : Array DictEntry) (n : Nat) (dd : Option Addr) (sl : Array (Option Value)) (its : Array Value) (m : Nat) (dd2 : Option Addr) (sl2 : Array (Option Value)) :
    Meets (Builtin.«dict.__eq__» ⟨[.ref l, .ref p], []⟩) (fun _ R s => s.heap.get? l = some ⟨.type "dict", dd, .dict es n, sl⟩ ∧ s.heap.get? p = some ⟨.type "list", dd2, .seq its m, sl2⟩ ∧ R (.ok (.ret .notImplemented)) s) :=
  .of_wp fun prog w A R s h => by
    obtain ⟨hp, g, d, tk, os⟩ := s
    obtain ⟨hl, hb, h⟩ := h
    have f1 := sub_list
    wp_walk using wpAny_loadPart' hl, wpAny_loadPart' hb
    exact ⟨_, rfl, h⟩
theorem e_list (p l : Addr) (es : Array DictEntry) (n : Nat) (dd : Option Addr) (sl : Array (Option Value)) (its : Array Value) (m : Nat) (dd2 : Option Addr) (sl2 : Array (Option Value)) :
    Meets (Builtin.«list.__eq__» ⟨[.ref p, .ref l], []⟩) (fun _ R s => s.heap.get? l = some ⟨.type "dict", dd, .dict es n, sl⟩ ∧ s.heap.get? p = some ⟨.type "list", dd2, .seq its m, sl2⟩ ∧ R (.ok (.ret .notImplemented)) s) :=
  .of_wp fun prog w A R s h => by
    obtain ⟨hp, g, d, tk, os⟩ := s
    obtain ⟨hl, hb, h⟩ := h
    have f1 := bus_list
    wp_walk using wpAny_loadPart' hl, wpAny_loadPart' hb
    exact ⟨_, rfl, h⟩
theorem sub_tuple : isSubtype (.type "tuple") (.type "dict") = pure false := by rw [isSubtype_type]; kernel_rfl
theorem bus_tuple : isSubtype (.type "dict") (.type "tuple") = pure false := by rw [isSubtype_type]; kernel_rfl
theorem d_tuple (l p : Addr) (es : Array DictEntry) (n : Nat) (dd : Option Addr) (sl : Array (Option Value)) (its : Array Value) (m : Nat) (dd2 : Option Addr) (sl2 : Array (Option Value)) :
    Meets (Builtin.«dict.__eq__» ⟨[.ref l, .ref p], []⟩) (fun _ R s => s.heap.get? l = some ⟨.type "dict", dd, .dict es n, sl⟩ ∧ s.heap.get? p = some ⟨.type "tuple", dd2, .seq its m, sl2⟩ ∧ R (.ok (.ret .notImplemented)) s) :=
  .of_wp fun prog w A R s h => by
    obtain ⟨hp, g, d, tk, os⟩ := s
    obtain ⟨hl, hb, h⟩ := h
    have f1 := sub_tuple
    wp_walk using wpAny_loadPart' hl, wpAny_loadPart' hb
    exact ⟨_, rfl, h⟩
theorem e_tuple (p l : Addr) (es : Array DictEntry) (n : Nat) (dd : Option Addr) (sl : Array (Option Value)) (its : Array Value) (m : Nat) (dd2 : Option Addr) (sl2 : Array (Option Value)) :
    Meets (Builtin.«tuple.__eq__» ⟨[.ref p, .ref l], []⟩) (fun _ R s => s.heap.get? l = some ⟨.type "dict", dd, .dict es n, sl⟩ ∧ s.heap.get? p = some ⟨.type "tuple", dd2, .seq its m, sl2⟩ ∧ R (.ok (.ret .notImplemented)) s) :=
  .of_wp fun prog w A R s h => by
    obtain ⟨hp, g, d, tk, os⟩ := s
    obtain ⟨hl, hb, h⟩ := h
    have f1 := bus_tuple
    wp_walk using wpAny_loadPart' hl, wpAny_loadPart' hb
    exact ⟨_, rfl, h⟩
section
variable {A : Around} {s : Shared} {l p : Addr} {es : Array DictEntry} {n : Nat} {dd : Option Addr} {sl : Array (Option Value)}
/-- the comparison as items of a sequence are compared -/
theorem item {a b : Value} (hne : (a == b) = false) (hf : ∀ x t, a ≠ .float x t) (h : RcAt A s a b false) : EqAt A s a b false := fun prog w E Q hq => by
  unfold eqBool
  refine wpAny_holding (wpAny_ite_split (fun e => ?_) fun _ => ?_)
  · rw [hne] at e
    exact absurd e Bool.false_ne_true
  · cases a with
    | float x t => exact absurd rfl (hf x t)
    | _ => exact wpAny_bind (h prog w E _ (wpAny_truthy_bool hq))
theorem dict_none  (ho : s.heap.get? l = some ⟨.type "dict", dd, .dict es n, sl⟩) (hu : A.units < cLine) : RcAt A s (.ref l) (.none) false := fun prog w E Q h =>
  rc_eq_decline_or (k := false) ⟨_, ho, rfl⟩ rfl (by decide) sub_none F.slot_dict_eq F.slot_NoneType_eq_refl
    (fun _ hq => call_meets F.slot_dict_eq ⟨_, ho, rfl⟩ F.entry_dict_eq (F.args_dict_eq_2 _ _) (d_none l es n dd sl ) ⟨ho, hq⟩)
    (fun _ hq => call_meets F.slot_NoneType_eq_refl rfl F.entry_NoneType_eq (F.args_NoneType_eq_2 _ _) (e_none  l es n dd sl) ⟨ho, hq⟩)
    (fun _ hq => wpAny_of_eq (rfl : isSame (.ref l) (.none) = pure false) hq) (.inr hu) h
theorem none_dict  (ho : s.heap.get? l = some ⟨.type "dict", dd, .dict es n, sl⟩) (hu : A.units < cLine) : RcAt A s (.none) (.ref l) false := fun prog w E Q h =>
  rc_eq_decline_or (k := false) rfl ⟨_, ho, rfl⟩ (by decide) bus_none F.slot_NoneType_eq F.slot_dict_eq_refl
    (fun _ hq => call_meets F.slot_NoneType_eq rfl F.entry_NoneType_eq (F.args_NoneType_eq_2 _ _) (e_none  l es n dd sl) ⟨ho, hq⟩)
    (fun _ hq => call_meets F.slot_dict_eq_refl ⟨_, ho, rfl⟩ F.entry_dict_eq (F.args_dict_eq_2 _ _) (d_none l es n dd sl ) ⟨ho, hq⟩)
    (fun _ hq => wpAny_of_eq (rfl : isSame (.none) (.ref l) = pure false) hq) (.inr hu) h
theorem dict_bool (b : Bool) (ho : s.heap.get? l = some ⟨.type "dict", dd, .dict es n, sl⟩) (hu : A.units < cLine) : RcAt A s (.ref l) (.bool b) false := fun prog w E Q h =>
  rc_eq_decline_or (k := false) ⟨_, ho, rfl⟩ rfl (by decide) sub_bool F.slot_dict_eq F.slot_bool_eq_refl
    (fun _ hq => call_meets F.slot_dict_eq ⟨_, ho, rfl⟩ F.entry_dict_eq (F.args_dict_eq_2 _ _) (d_bool l es n dd sl b) ⟨ho, hq⟩)
    (fun _ hq => call_meets F.slot_bool_eq_refl rfl F.entry_int_eq (F.args_int_eq_2 _ _) (e_bool b l es n dd sl) ⟨ho, hq⟩)
    (fun _ hq => wpAny_of_eq (rfl : isSame (.ref l) (.bool b) = pure false) hq) (.inr hu) h
theorem bool_dict (b : Bool) (ho : s.heap.get? l = some ⟨.type "dict", dd, .dict es n, sl⟩) (hu : A.units < cLine) : RcAt A s (.bool b) (.ref l) false := fun prog w E Q h =>
  rc_eq_decline_or (k := false) rfl ⟨_, ho, rfl⟩ (by decide) bus_bool F.slot_bool_eq F.slot_dict_eq_refl
    (fun _ hq => call_meets F.slot_bool_eq rfl F.entry_int_eq (F.args_int_eq_2 _ _) (e_bool b l es n dd sl) ⟨ho, hq⟩)
    (fun _ hq => call_meets F.slot_dict_eq_refl ⟨_, ho, rfl⟩ F.entry_dict_eq (F.args_dict_eq_2 _ _) (d_bool l es n dd sl b) ⟨ho, hq⟩)
    (fun _ hq => wpAny_of_eq (rfl : isSame (.bool b) (.ref l) = pure false) hq) (.inr hu) h
theorem dict_int (b : Int) (u : Tok) (ho : s.heap.get? l = some ⟨.type "dict", dd, .dict es n, sl⟩) (hu : A.units < cLine) : RcAt A s (.ref l) (.int b u) false := fun prog w E Q h =>
  rc_eq_decline_or (k := false) ⟨_, ho, rfl⟩ (typeIs_int s b u) (by decide) sub_int F.slot_dict_eq F.slot_int_eq_refl
    (fun _ hq => call_meets F.slot_dict_eq ⟨_, ho, rfl⟩ F.entry_dict_eq (F.args_dict_eq_2 _ _) (d_int l es n dd sl b u) ⟨ho, hq⟩)
    (fun _ hq => call_meets F.slot_int_eq_refl (typeIs_int s b u) F.entry_int_eq (F.args_int_eq_2 _ _) (e_int b u l es n dd sl) ⟨ho, hq⟩)
    (fun _ hq => wpAny_of_eq (rfl : isSame (.ref l) (.int b u) = pure false) hq) (.inr hu) h
theorem int_dict (b : Int) (u : Tok) (ho : s.heap.get? l = some ⟨.type "dict", dd, .dict es n, sl⟩) (hu : A.units < cLine) : RcAt A s (.int b u) (.ref l) false := fun prog w E Q h =>
  rc_eq_decline_or (k := false) (typeIs_int s b u) ⟨_, ho, rfl⟩ (by decide) bus_int F.slot_int_eq F.slot_dict_eq_refl
    (fun _ hq => call_meets F.slot_int_eq (typeIs_int s b u) F.entry_int_eq (F.args_int_eq_2 _ _) (e_int b u l es n dd sl) ⟨ho, hq⟩)
    (fun _ hq => call_meets F.slot_dict_eq_refl ⟨_, ho, rfl⟩ F.entry_dict_eq (F.args_dict_eq_2 _ _) (d_int l es n dd sl b u) ⟨ho, hq⟩)
    (fun _ hq => wpAny_of_eq (rfl : isSame (.int b u) (.ref l) = pure false) hq) (.inr hu) h
theorem dict_str (b : Str) (u : Tok) (ho : s.heap.get? l = some ⟨.type "dict", dd, .dict es n, sl⟩) (hu : A.units < cLine) : RcAt A s (.ref l) (.str b u) false := fun prog w E Q h =>
  rc_eq_decline_or (k := false) ⟨_, ho, rfl⟩ (typeIs_str s b u) (by decide) sub_str F.slot_dict_eq F.slot_str_eq_refl
    (fun _ hq => call_meets F.slot_dict_eq ⟨_, ho, rfl⟩ F.entry_dict_eq (F.args_dict_eq_2 _ _) (d_str l es n dd sl b u) ⟨ho, hq⟩)
    (fun _ hq => call_meets F.slot_str_eq_refl (typeIs_str s b u) F.entry_str_eq (F.args_str_eq_2 _ _) (e_str b u l es n dd sl) ⟨ho, hq⟩)
    (fun _ hq => wpAny_of_eq (rfl : isSame (.ref l) (.str b u) = pure false) hq) (.inr hu) h
theorem str_dict (b : Str) (u : Tok) (ho : s.heap.get? l = some ⟨.type "dict", dd, .dict es n, sl⟩) (hu : A.units < cLine) : RcAt A s (.str b u) (.ref l) false := fun prog w E Q h =>
  rc_eq_decline_or (k := false) (typeIs_str s b u) ⟨_, ho, rfl⟩ (by decide) bus_str F.slot_str_eq F.slot_dict_eq_refl
    (fun _ hq => call_meets F.slot_str_eq (typeIs_str s b u) F.entry_str_eq (F.args_str_eq_2 _ _) (e_str b u l es n dd sl) ⟨ho, hq⟩)
    (fun _ hq => call_meets F.slot_dict_eq_refl ⟨_, ho, rfl⟩ F.entry_dict_eq (F.args_dict_eq_2 _ _) (d_str l es n dd sl b u) ⟨ho, hq⟩)
    (fun _ hq => wpAny_of_eq (rfl : isSame (.str b u) (.ref l) = pure false) hq) (.inr hu) h
theorem ne_list {its : Array Value} (ho : s.heap.get? l = some ⟨.type "dict", dd, .dict es n, sl⟩) (hl : s.heap.IsList p its) : l ≠ p := fun e => by
  obtain ⟨o, h1, h2, m, h3⟩ := hl
  rw [← e, ho] at h1
  cases h1
  cases h3
theorem dict_list {its : Array Value} (ho : s.heap.get? l = some ⟨.type "dict", dd, .dict es n, sl⟩) (hl : s.heap.IsList p its) (hu : A.units < cLine) : RcAt A s (.ref l) (.ref p) false := fun prog w E Q h => by
  have hne := ne_list ho hl
  obtain ⟨⟨c2, dd2, dt2, sl2⟩, h1, h2, m, h3⟩ := id hl
  simp only at h2 h3
  subst h2 h3
  exact rc_eq_decline_or (k := false) ⟨_, ho, rfl⟩ ⟨_, h1, rfl⟩ (by decide) sub_list F.slot_dict_eq F.slot_list_eq_refl
    (fun _ hq => call_meets F.slot_dict_eq ⟨_, ho, rfl⟩ F.entry_dict_eq (F.args_dict_eq_2 _ _) (d_list l p es n dd sl its m dd2 sl2) ⟨ho, h1, hq⟩)
    (fun _ hq => call_meets F.slot_list_eq_refl ⟨_, h1, rfl⟩ F.entry_list_eq (F.args_list_eq_2 _ _) (e_list p l es n dd sl its m dd2 sl2) ⟨ho, h1, hq⟩)
    (fun _ hq => wpAny_isSame_ref_other' hne ho h1 (by simp) hq) (.inr hu) h
theorem list_dict {its : Array Value} (ho : s.heap.get? l = some ⟨.type "dict", dd, .dict es n, sl⟩) (hl : s.heap.IsList p its) (hu : A.units < cLine) : RcAt A s (.ref p) (.ref l) false := fun prog w E Q h => by
  have hne := (ne_list ho hl).symm
  obtain ⟨⟨c2, dd2, dt2, sl2⟩, h1, h2, m, h3⟩ := id hl
  simp only at h2 h3
  subst h2 h3
  exact rc_eq_decline_or (k := false) ⟨_, h1, rfl⟩ ⟨_, ho, rfl⟩ (by decide) bus_list F.slot_list_eq F.slot_dict_eq_refl
    (fun _ hq => call_meets F.slot_list_eq ⟨_, h1, rfl⟩ F.entry_list_eq (F.args_list_eq_2 _ _) (e_list p l es n dd sl its m dd2 sl2) ⟨ho, h1, hq⟩)
    (fun _ hq => call_meets F.slot_dict_eq_refl ⟨_, ho, rfl⟩ F.entry_dict_eq (F.args_dict_eq_2 _ _) (d_list l p es n dd sl its m dd2 sl2) ⟨ho, h1, hq⟩)
    (fun _ hq => wpAny_isSame_ref_other' hne h1 ho (by simp) hq) (.inr hu) h
theorem ne_tuple {its : Array Value} (ho : s.heap.get? l = some ⟨.type "dict", dd, .dict es n, sl⟩) (hl : s.heap.IsTuple p its) : l ≠ p := fun e => by
  obtain ⟨o, h1, h2, m, h3⟩ := hl
  rw [← e, ho] at h1
  cases h1
  cases h3
theorem dict_tuple {its : Array Value} (ho : s.heap.get? l = some ⟨.type "dict", dd, .dict es n, sl⟩) (hl : s.heap.IsTuple p its) (hu : A.units < cLine) : RcAt A s (.ref l) (.ref p) false := fun prog w E Q h => by
  have hne := ne_tuple ho hl
  obtain ⟨⟨c2, dd2, dt2, sl2⟩, h1, h2, m, h3⟩ := id hl
  simp only at h2 h3
  subst h2 h3
  exact rc_eq_decline_or (k := false) ⟨_, ho, rfl⟩ ⟨_, h1, rfl⟩ (by decide) sub_tuple F.slot_dict_eq F.slot_tuple_eq_refl
    (fun _ hq => call_meets F.slot_dict_eq ⟨_, ho, rfl⟩ F.entry_dict_eq (F.args_dict_eq_2 _ _) (d_tuple l p es n dd sl its m dd2 sl2) ⟨ho, h1, hq⟩)
    (fun _ hq => call_meets F.slot_tuple_eq_refl ⟨_, h1, rfl⟩ F.entry_tuple_eq (F.args_tuple_eq_2 _ _) (e_tuple p l es n dd sl its m dd2 sl2) ⟨ho, h1, hq⟩)
    (fun _ hq => wpAny_isSame_ref_other hne ho h1 (by simp) hq) (.inr hu) h
theorem tuple_dict {its : Array Value} (ho : s.heap.get? l = some ⟨.type "dict", dd, .dict es n, sl⟩) (hl : s.heap.IsTuple p its) (hu : A.units < cLine) : RcAt A s (.ref p) (.ref l) false := fun prog w E Q h => by
  have hne := (ne_tuple ho hl).symm
  obtain ⟨⟨c2, dd2, dt2, sl2⟩, h1, h2, m, h3⟩ := id hl
  simp only at h2 h3
  subst h2 h3
  exact rc_eq_decline_or (k := false) ⟨_, h1, rfl⟩ ⟨_, ho, rfl⟩ (by decide) bus_tuple F.slot_tuple_eq F.slot_dict_eq_refl
    (fun _ hq => call_meets F.slot_tuple_eq ⟨_, h1, rfl⟩ F.entry_tuple_eq (F.args_tuple_eq_2 _ _) (e_tuple p l es n dd sl its m dd2 sl2) ⟨ho, h1, hq⟩)
    (fun _ hq => call_meets F.slot_dict_eq_refl ⟨_, ho, rfl⟩ F.entry_dict_eq (F.args_dict_eq_2 _ _) (d_tuple l p es n dd sl its m dd2 sl2) ⟨ho, h1, hq⟩)
    (fun _ hq => wpAny_isSame_ref_other' hne h1 ho (by simp) hq) (.inr hu) h
end
end Dq

/-! data of any depth, with empty dicts in it: compared, shown -/
namespace Dq
open PySem PySem.SeqAt P3
variable {A : Around} {s : Shared}
theorem dict_plain {l : Addr} {o : Obj} {es : Array DictEntry} {n : Nat} (h1 : s.heap.get? l = some o) (h2 : o.cls = .type "dict") (h3 : o.data = .dict es n) {b : Value} {db : PyData} {bs : List Addr} (rb : Reads s.heap b db bs) (hb : db.plain = true) (hu : A.units < cLine) :
    EqAt A s (.ref l) b false := by
  obtain ⟨oc, od, dt, sl⟩ := o
  simp only at h2 h3
  subst h2 h3
  have fl : ∀ x t, Value.ref l ≠ .float x t := fun _ _ z => nomatch z
  cases rb with
  | none => exact item rfl fl (dict_none h1 hu)
  | bool y => exact item rfl fl (dict_bool y h1 hu)
  | int y u => exact item rfl fl (dict_int y u h1 hu)
  | str y u => exact item rfl fl (dict_str y u h1 hu)
  | list q1 q2 q3 q4 =>
    have il : s.heap.IsList _ _ := ⟨_, q1, q2, _, q3⟩
    exact EqAt.of_refs (ne_list h1 il) (dict_list h1 il hu)
  | tuple q1 q2 q3 q4 =>
    have il : s.heap.IsTuple _ _ := ⟨_, q1, q2, _, q3⟩
    exact EqAt.of_refs (ne_tuple h1 il) (dict_tuple h1 il hu)
  | dict => cases hb
mutual
/-- the second one without dicts -/
theorem eq_half : ∀ (da db : PyData) (A : Around) (s : Shared) (a b : Value) (as bs : List Addr), Reads s.heap a da as → Reads s.heap b db bs → db.plain = true → A.units + db.depth < cLine → EqAt A s a b (PyData.eqv da db)
  | .none, db, A, s, a, b, as, bs, ra, rb, hb, hu => eqAt_plain .none db A s a b as bs ra rb rfl hb (by have := Nat.min_le_right (PyData.depth .none) db.depth; omega)
  | .bool x, db, A, s, a, b, as, bs, ra, rb, hb, hu => eqAt_plain (.bool x) db A s a b as bs ra rb rfl hb (by have := Nat.min_le_right (PyData.depth (.bool x)) db.depth; omega)
  | .int x, db, A, s, a, b, as, bs, ra, rb, hb, hu => eqAt_plain (.int x) db A s a b as bs ra rb rfl hb (by have := Nat.min_le_right (PyData.depth (.int x)) db.depth; omega)
  | .str x, db, A, s, a, b, as, bs, ra, rb, hb, hu => eqAt_plain (.str x) db A s a b as bs ra rb rfl hb (by have := Nat.min_le_right (PyData.depth (.str x)) db.depth; omega)
  | .dict ks, db, A, s, a, b, as, bs, ra, rb, hb, hu => by
    cases ra with
    | dict h1 h2 h3 h4 h5 =>
      have z := dict_plain (A := A) h1 h2 h3 rb hb (by omega)
      cases db with
      | dict => cases hb
      | _ => exact z
  | .list xs, db, A, s, a, b, as, bs, ra, rb, hb, hu => by
    cases ra with
    | @list l o vs n _ as1 h1 h2 h3 h4 =>
      have il : s.heap.IsList l vs := ⟨_, h1, h2, _, h3⟩
      have hu0 : A.units < cLine := by omega
      cases rb with
      | none => exact EqAt.list_none il hu0
      | bool y => exact EqAt.list_bool y il hu0
      | int y u => exact EqAt.list_int y u il hu0
      | str y u => exact EqAt.list_str y u il hu0
      | tuple q1 q2 q3 q4 => exact EqAt.list_tuple il ⟨_, q1, q2, _, q3⟩ hu0
      | dict => cases hb
      | @list l2 o2 ws m ys bs1 q1 q2 q3 q4 =>
        have jl : s.heap.IsList l2 ws := ⟨_, q1, q2, _, q3⟩
        have n1 : vs.size = xs.length := by simpa using ReadsAll.length _ _ _ h4
        have n2 : ws.size = ys.length := by simpa using ReadsAll.length _ _ _ q4
        have hb' : PyData.plainAll ys = true := by simpa [PyData.plain] using hb
        show EqAt A s (.ref l) (.ref l2) (PyData.eqvAll xs ys)
        by_cases hll : l = l2
        · subst hll
          have e := (PyProof.Rows.reads_det (fun _ _ z _ => z) (Reads.list h1 h2 h3 h4) (Reads.list q1 q2 q3 q4)).1
          injection e with e
          subst e
          rw [eqvAll_refl_plain _ hb']
          exact EqAt.same _
        · simp only [PyData.depth] at hu
          by_cases hsz : vs.size = ws.size
          · rw [← eqvAll_same_length (by omega : xs.length = ys.length), ← n1]
            refine EqAt.of_refs hll (RcAt.lists il jl hsz hu0 fun j j1 j2 => ?_)
            have := eq_halves xs ys A.in1 s vs.toList ws.toList _ _ h4 q4 hb' (by show A.units + 1 + _ < cLine; omega) j (by simpa using j1) (by simpa using j2)
            simpa using this
          · rw [eqvAll_other_length (by omega : xs.length ≠ ys.length)]
            exact EqAt.of_refs hll (RcAt.lists_lengths il jl (by simpa using hsz) hu0)
  | .tuple xs, db, A, s, a, b, as, bs, ra, rb, hb, hu => by
    cases ra with
    | @tuple l o vs n _ as1 h1 h2 h3 h4 =>
      have il : s.heap.IsTuple l vs := ⟨_, h1, h2, _, h3⟩
      have hu0 : A.units < cLine := by omega
      cases rb with
      | none => exact EqAt.tuple_none il hu0
      | bool y => exact EqAt.tuple_bool y il hu0
      | int y u => exact EqAt.tuple_int y u il hu0
      | str y u => exact EqAt.tuple_str y u il hu0
      | list q1 q2 q3 q4 => exact EqAt.tuple_list il ⟨_, q1, q2, _, q3⟩ hu0
      | dict => cases hb
      | @tuple l2 o2 ws m ys bs1 q1 q2 q3 q4 =>
        have jl : s.heap.IsTuple l2 ws := ⟨_, q1, q2, _, q3⟩
        have n1 : vs.size = xs.length := by simpa using ReadsAll.length _ _ _ h4
        have n2 : ws.size = ys.length := by simpa using ReadsAll.length _ _ _ q4
        have hb' : PyData.plainAll ys = true := by simpa [PyData.plain] using hb
        show EqAt A s (.ref l) (.ref l2) (PyData.eqvAll xs ys)
        by_cases hll : l = l2
        · subst hll
          have e := (PyProof.Rows.reads_det (fun _ _ z _ => z) (Reads.tuple h1 h2 h3 h4) (Reads.tuple q1 q2 q3 q4)).1
          injection e with e
          subst e
          rw [eqvAll_refl_plain _ hb']
          exact EqAt.same _
        · simp only [PyData.depth] at hu
          rw [← eqvAll_eq xs ys, ← n1, ← n2]
          refine EqAt.of_refs hll (RcAt.tuples il jl hu0 fun j j1 j2 => ?_)
          have := eq_halves xs ys A.in1 s vs.toList ws.toList _ _ h4 q4 hb' (by show A.units + 1 + _ < cLine; omega) j (by simpa using j1) (by simpa using j2)
          simpa using this
theorem eq_halves : ∀ (xs ys : List PyData) (A : Around) (s : Shared) (vs ws : List Value) (as bs : List Addr), ReadsAll s.heap vs xs as → ReadsAll s.heap ws ys bs → PyData.plainAll ys = true → A.units + PyData.depthAll ys < cLine →
    ∀ j (h1 : j < vs.length) (h2 : j < ws.length), EqAt A s vs[j] ws[j] (pairEq xs ys j)
  | [], _, _, _, _, _, _, _, ra, _, _, _, j, h1, _ => by
    cases ra
    exact absurd h1 (Nat.not_lt_zero _)
  | _ :: _, [], _, _, _, _, _, _, _, rb, _, _, j, _, h2 => by
    cases rb
    exact absurd h2 (Nat.not_lt_zero _)
  | x :: xs, y :: ys, A, s, _, _, _, _, ra, rb, hb, hu, j, h1, h2 => by
    have hb' : y.plain = true ∧ PyData.plainAll ys = true := by simpa [PyData.plainAll] using hb
    simp only [PyData.depthAll] at hu
    have m1 := Nat.le_max_left y.depth (PyData.depthAll ys)
    have m2 := Nat.le_max_right y.depth (PyData.depthAll ys)
    cases ra with
    | cons r rs =>
      cases rb with
      | cons p ps =>
        cases j with
        | zero => exact eq_half x y A s _ _ _ _ r p hb'.1 (by omega)
        | succ j => exact eq_halves xs ys A s _ _ _ _ rs ps hb'.2 (by omega) j (Nat.lt_of_succ_lt_succ h1) (Nat.lt_of_succ_lt_succ h2)
end
/-- a text beside any of them -/
theorem str_half {z : Str} {t : Tok} {a : Value} {da : PyData} {as : List Addr} (ra : Reads s.heap a da as) (hu : A.units < cLine) : EqAt A s (.str z t) a (PyData.eqv (.str z) da) := by
  have fl : ∀ x u, Value.str z t ≠ .float x u := fun _ _ y => nomatch y
  cases ra with
  | none => exact EqAt.str_none z t
  | bool y => exact EqAt.str_bool z t y
  | int y u => exact EqAt.str_int z t y u
  | str y u => exact EqAt.str_str z t y u
  | list q1 q2 q3 q4 => exact EqAt.str_list z t ⟨_, q1, q2, _, q3⟩ hu
  | tuple q1 q2 q3 q4 => exact EqAt.str_tuple z t ⟨_, q1, q2, _, q3⟩ hu
  | @dict l o es n kvs as1 bs1 h1 h2 h3 h4 h5 =>
    obtain ⟨oc, od, dt, sl⟩ := o
    simp only at h2 h3
    subst h2 h3
    exact item rfl fl (str_dict z t h1 hu)
/-- the comparison itself, the second one without dicts -/
theorem rc_half {a b : Value} {da db : PyData} {as bs : List Addr} (ra : Reads s.heap a da as) (rb : Reads s.heap b db bs) (hb : db.plain = true) (hu : A.units + db.depth < cLine) : RcAt A s a b (PyData.eqv da db) := by
  have hu0 : A.units < cLine := by omega
  have sc : da.plain = true → da.depth = 0 → RcAt A s a b (PyData.eqv da db) := fun h1 h2 => rcAt_plain ra rb h1 hb (by rw [h2]; omega)
  cases ra with
  | none => exact sc rfl (by simp only [PyData.depth])
  | bool x => exact sc rfl (by simp only [PyData.depth])
  | int x t => exact sc rfl (by simp only [PyData.depth])
  | str x t => exact sc rfl (by simp only [PyData.depth])
  | @dict l o es n kvs as1 bs1 h1 h2 h3 h4 h5 =>
    obtain ⟨oc, od, dt, sl⟩ := o
    simp only at h2 h3
    subst h2 h3
    cases rb with
    | none => exact dict_none h1 hu0
    | bool y => exact dict_bool y h1 hu0
    | int y u => exact dict_int y u h1 hu0
    | str y u => exact dict_str y u h1 hu0
    | list q1 q2 q3 q4 => exact dict_list h1 ⟨_, q1, q2, _, q3⟩ hu0
    | tuple q1 q2 q3 q4 => exact dict_tuple h1 ⟨_, q1, q2, _, q3⟩ hu0
    | dict => cases hb
  | @list l o vs n xs as1 h1 h2 h3 h4 =>
    have il : s.heap.IsList l vs := ⟨_, h1, h2, _, h3⟩
    cases rb with
    | none => exact RcAt.list_none il hu0
    | bool y => exact RcAt.list_bool y il hu0
    | int y u => exact RcAt.list_int y u il hu0
    | str y u => exact RcAt.list_str y u il hu0
    | tuple q1 q2 q3 q4 => exact RcAt.list_tuple il ⟨_, q1, q2, _, q3⟩ hu0
    | dict => cases hb
    | @list l2 o2 ws m ys bs1 q1 q2 q3 q4 =>
      have jl : s.heap.IsList l2 ws := ⟨_, q1, q2, _, q3⟩
      have n1 : vs.size = xs.length := by simpa using ReadsAll.length _ _ _ h4
      have n2 : ws.size = ys.length := by simpa using ReadsAll.length _ _ _ q4
      have hb' : PyData.plainAll ys = true := by simpa [PyData.plain] using hb
      simp only [PyData.depth] at hu
      show RcAt A s (.ref l) (.ref l2) (PyData.eqvAll xs ys)
      by_cases hsz : vs.size = ws.size
      · rw [← eqvAll_same_length (by omega : xs.length = ys.length), ← n1]
        refine RcAt.lists il jl hsz hu0 fun j j1 j2 => ?_
        have := eq_halves xs ys A.in1 s vs.toList ws.toList _ _ h4 q4 hb' (by show A.units + 1 + _ < cLine; omega) j (by simpa using j1) (by simpa using j2)
        simpa using this
      · rw [eqvAll_other_length (by omega : xs.length ≠ ys.length)]
        exact RcAt.lists_lengths il jl (by simpa using hsz) hu0
  | @tuple l o vs n xs as1 h1 h2 h3 h4 =>
    have il : s.heap.IsTuple l vs := ⟨_, h1, h2, _, h3⟩
    cases rb with
    | none => exact RcAt.tuple_none il hu0
    | bool y => exact RcAt.tuple_bool y il hu0
    | int y u => exact RcAt.tuple_int y u il hu0
    | str y u => exact RcAt.tuple_str y u il hu0
    | list q1 q2 q3 q4 => exact RcAt.tuple_list il ⟨_, q1, q2, _, q3⟩ hu0
    | dict => cases hb
    | @tuple l2 o2 ws m ys bs1 q1 q2 q3 q4 =>
      have jl : s.heap.IsTuple l2 ws := ⟨_, q1, q2, _, q3⟩
      have n1 : vs.size = xs.length := by simpa using ReadsAll.length _ _ _ h4
      have n2 : ws.size = ys.length := by simpa using ReadsAll.length _ _ _ q4
      have hb' : PyData.plainAll ys = true := by simpa [PyData.plain] using hb
      simp only [PyData.depth] at hu
      show RcAt A s (.ref l) (.ref l2) (PyData.eqvAll xs ys)
      rw [← eqvAll_eq xs ys, ← n1, ← n2]
      refine RcAt.tuples il jl hu0 fun j j1 j2 => ?_
      have := eq_halves xs ys A.in1 s vs.toList ws.toList _ _ h4 q4 hb' (by show A.units + 1 + _ < cLine; omega) j (by simpa using j1) (by simpa using j2)
      simpa using this
end Dq

/-! ### data in the abstract heap -/
namespace Dt
open PySem PySem.Spec PyProof.Rows L2 Sh
mutual
inductive D (H : Hp) : V → PyData → Prop
  | non : D H .non .none
  | bl (b : Bool) : D H (.bl b) (.bool b)
  | int (i : Int) : D H (.int i) (.int i)
  | str (z : Str) : D H (.str z) (.str z)
  | lst {p : Addr} {xs : List V} {ds : List PyData} : H p = some (.lst xs) → DAll H xs ds → D H (.ref p) (.list ds)
  | tup {p : Addr} {xs : List V} {ds : List PyData} : H p = some (.tup xs) → DAll H xs ds → D H (.ref p) (.tuple ds)
  | dic {p : Addr} : H p = some (.dK []) → D H (.ref p) (.dict [])
inductive DAll (H : Hp) : List V → List PyData → Prop
  | nil : DAll H [] []
  | cons {v : V} {d : PyData} {vs : List V} {ds : List PyData} : D H v d → DAll H vs ds → DAll H (v :: vs) (d :: ds)
end
mutual
theorem D.same {H H' : Hp} (s : Same H H') : ∀ {v : V} {d : PyData}, D H v d → D H' v d
  | _, _, .non => .non
  | _, _, .bl b => .bl b
  | _, _, .int i => .int i
  | _, _, .str z => .str z
  | _, _, .lst h a => .lst (s _ _ h) (DAll.same s a)
  | _, _, .tup h a => .tup (s _ _ h) (DAll.same s a)
  | _, _, .dic h => .dic (s _ _ h)
theorem DAll.same {H H' : Hp} (s : Same H H') : ∀ {vs : List V} {ds : List PyData}, DAll H vs ds → DAll H' vs ds
  | _, _, .nil => .nil
  | _, _, .cons h a => .cons (D.same s h) (DAll.same s a)
end
theorem DAll.len {H : Hp} : ∀ {vs : List V} {ds : List PyData}, DAll H vs ds → vs.length = ds.length
  | _, _, .nil => rfl
  | _, _, .cons _ a => by rw [List.length_cons, List.length_cons, DAll.len a]
theorem DAll.get {H : Hp} : ∀ {vs : List V} {ds : List PyData} {i : Nat} {v : V}, DAll H vs ds → vs[i]? = some v → ∃ d, ds[i]? = some d ∧ D H v d
  | _, _, _, _, .nil, e => by cases e
  | _, _, 0, _, .cons h _, e => by
    cases e
    exact ⟨_, rfl, h⟩
  | _, _, i + 1, _, .cons _ a, e => DAll.get (i := i) a e
theorem DAll.get' {H : Hp} : ∀ {vs : List V} {ds : List PyData} {i : Nat} {d : PyData}, DAll H vs ds → ds[i]? = some d → ∃ v, vs[i]? = some v ∧ D H v d
  | _, _, _, _, .nil, e => by cases e
  | _, _, 0, _, .cons h _, e => by
    cases e
    exact ⟨_, rfl, h⟩
  | _, _, i + 1, _, .cons _ a, e => DAll.get' (i := i) a e
theorem DAll.app {H : Hp} {ws : List V} {es : List PyData} (b : DAll H ws es) : ∀ {vs : List V} {ds : List PyData}, DAll H vs ds → DAll H (vs ++ ws) (ds ++ es)
  | _, _, .nil => b
  | _, _, .cons h a => .cons h (DAll.app b a)
theorem DAll.take {H : Hp} : ∀ {vs : List V} {ds : List PyData} (n : Nat), DAll H vs ds → DAll H (vs.take n) (ds.take n)
  | _, _, 0, _ => .nil
  | _, _, _ + 1, .nil => .nil
  | _, _, n + 1, .cons h a => .cons h (DAll.take n a)
theorem DAll.drop {H : Hp} : ∀ {vs : List V} {ds : List PyData} (n : Nat), DAll H vs ds → DAll H (vs.drop n) (ds.drop n)
  | _, _, 0, a => a
  | _, _, _ + 1, .nil => .nil
  | _, _, n + 1, .cons _ a => DAll.drop n a
theorem DAll.rev {H : Hp} : ∀ {vs : List V} {ds : List PyData}, DAll H vs ds → DAll H vs.reverse ds.reverse
  | _, _, .nil => .nil
  | _, _, .cons h a => by
    rw [List.reverse_cons, List.reverse_cons]
    exact DAll.app (.cons h .nil) (DAll.rev a)
mutual
theorem D.reads {P : Program} {w : World} {H : Hp} {h : Heap} (ok : HOk P w H h) : ∀ {v : V} {d : PyData} {u : Value}, D H v d → RelV v u → ∃ as, Reads h u d as
  | _, _, _, .non, r => by
    cases r
    exact ⟨_, .none⟩
  | _, _, _, .bl b, r => by
    cases r
    exact ⟨_, .bool b⟩
  | _, _, _, .int i, r => by
    obtain ⟨t, rfl⟩ := r
    exact ⟨_, .int i t⟩
  | _, _, _, .str z, r => by
    obtain ⟨t, rfl⟩ := r
    exact ⟨_, .str z t⟩
  | _, _, _, .lst (p := p) (xs := xs) e a, r => by
    cases r
    obtain ⟨_, us, n, rv, h1⟩ := ok p _ e
    obtain ⟨as, ra⟩ := DAll.reads ok a rv
    exact ⟨_, .list h1 rfl rfl ra⟩
  | _, _, _, .tup (p := p) (xs := xs) e a, r => by
    cases r
    obtain ⟨_, us, rv, o, h1, h2, n, h3⟩ := ok p _ e
    obtain ⟨as, ra⟩ := DAll.reads ok a rv
    exact ⟨_, .tuple h1 h2 h3 ra⟩
  | _, _, _, .dic (p := p) e, r => by
    cases r
    obtain ⟨_, lo, vs, kv, o, es, ep, h1, h2, h3, h4, h5, h6⟩ := ok p _ e
    cases kv
    have e0 : es = #[] := by
      apply Array.toList_inj.mp
      generalize es.toList = l at h5
      cases h5
      rfl
    subst e0
    exact ⟨_, .dict h1 h2.1 h3 .nil .nil⟩
theorem DAll.reads {P : Program} {w : World} {H : Hp} {h : Heap} (ok : HOk P w H h) : ∀ {vs : List V} {ds : List PyData} {us : List Value}, DAll H vs ds → Vals vs us → ∃ as, ReadsAll h us ds as
  | _, _, _, .nil, .nil => ⟨_, .nil⟩
  | _, _, _, .cons h a, .cons r t => by
    obtain ⟨as, x⟩ := D.reads ok h r
    obtain ⟨bs, y⟩ := DAll.reads ok a t
    exact ⟨_, .cons x y⟩
end
section
variable {X : Cx}
/-- x == y, y without dicts -/
def rEqH : R2 := fun x y H Q => ∃ d e, D H x d ∧ D H y e ∧ e.plain = true ∧ e.depth ≤ 60 ∧ Q (.bl (PyData.eqv d e)) H
theorem op_eqH (hu : X.A.units + 64 < cLine) : OpR X (compareOp .Eq) rEqH := by
  intro pins s σ H x y v u Q I rx ry h
  obtain ⟨d, e, hd, he, hp, hk, q⟩ := h
  obtain ⟨as, r1⟩ := D.reads I.hok hd rx
  obtain ⟨bs, r2⟩ := D.reads I.hok he ry
  exact Dq.rc_half r1 r2 hp (by omega) X.prog X.w _ _ ⟨.bl _, H, I, rfl, q⟩
end
end Dt

namespace Dt
open PySem PySem.Spec PyProof.Rows L2 Sh
/-! ### what kind a value is of -/
def tyOf : PyData → String
  | .none => "NoneType"
  | .bool _ => "bool"
  | .int _ => "int"
  | .str _ => "str"
  | .list _ => "list"
  | .tuple _ => "tuple"
  | .dict _ => "dict"
theorem D.ty {K : PySem.W.Frag} {H : Hp} {v : V} {d : PyData} (h : D H v d) : TyX K H v (.type (tyOf d)) := by
  cases h with
  | non => exact .base .non
  | bl b => exact .base (.bl b)
  | int i => exact .base (.int i)
  | str z => exact .base (.str z)
  | lst e a => exact .base (.lst e)
  | tup e a => exact .base (.tup e)
  | dic e => exact .base (.dK e)
def isI : PyData → Bool
  | .int _ => true
  | .bool _ => true
  | _ => false
def isB : PyData → Bool
  | .bool _ => true
  | _ => false
def isS : PyData → Bool
  | .str _ => true
  | _ => false
def isT : PyData → Bool
  | .tuple _ => true
  | _ => false
theorem kI (d : PyData) : kitB (tyOf d) "int" = some (isI d) := by cases d <;> simp only [tyOf, isI, isB, isS, isT] <;> decide +kernel
theorem kB (d : PyData) : kitB (tyOf d) "bool" = some (isB d) := by cases d <;> simp only [tyOf, isI, isB, isS, isT] <;> decide +kernel
theorem kS (d : PyData) : kitB (tyOf d) "str" = some (isS d) := by cases d <;> simp only [tyOf, isI, isB, isS, isT] <;> decide +kernel
theorem kT (d : PyData) : kitB (tyOf d) "tuple" = some (isT d) := by cases d <;> simp only [tyOf, isI, isB, isS, isT] <;> decide +kernel
section
variable {X : Cx}
/-- isinstance(x, a built-in class) -/
def rIsD : List V → Hp → VK → Prop := fun xs H Q => ∃ x d T b, xs = [x, .ty T] ∧ D H x d ∧ kitB (tyOf d) T = some b ∧ Q (.bl b) H
theorem call_isD : CallR X (.builtin "isinstance") rIsD := by
  intro pins s σ H xs us Q I r h
  obtain ⟨x, d, T, b, rfl, hd, k, q⟩ := h
  exact call_isi pins s σ H _ us Q I r ⟨x, .ty T, .type (tyOf d), .type T, b, rfl, .ty T, hd.ty, kit_ty k, q⟩
/-- x in a tuple of texts -/
def strIn (d : PyData) (zs : List Str) : Bool := zs.any fun z => PyData.eqv (.str z) d
def rInS (K : PySem.W.Frag) (neg : Bool) : R2 := fun x y H Q => ∃ d a zs, D H x d ∧ y = .ref a ∧ SqT K H a (zs.map V.str) ∧ Q (.bl (if neg then !strIn d zs else strIn d zs)) H
def beside (d : PyData) (v : Value) : Bool := match v with
  | .str z _ => PyData.eqv (.str z) d
  | _ => false
theorem any_beside {d : PyData} : ∀ {zs : List Str} {us : List Value}, Vals (zs.map V.str) us → us.any (beside d) = strIn d zs
  | [], _, r => by
    cases r
    rfl
  | z :: zs, _, r => by
    cases r with
    | cons a b =>
      obtain ⟨t, rfl⟩ := a
      have := any_beside (d := d) b
      show (beside d (.str z t) || _) = _
      rw [this]
      rfl
theorem mem_beside {A : Around} {s : Shared} {d : PyData} {x : Value} {as : List Addr} (rd : Reads s.heap x d as) (hu : A.units < cLine) : ∀ {zs : List Str} {us : List Value}, Vals (zs.map V.str) us → ∀ y ∈ us, SeqAt.EqAt A s y x (beside d y)
  | [], _, r, y, hy => by
    cases r
    cases hy
  | z :: zs, _, r, y, hy => by
    cases r with
    | cons a b =>
      obtain ⟨t, rfl⟩ := a
      rcases List.mem_cons.mp hy with rfl | hy
      · exact Dq.str_half rd hu
      · exact mem_beside rd hu b y hy
theorem op_inS (hu : X.A.units + 64 < cLine) : OpR X (compareOp .In) (rInS X.K false) := by
  intro pins s σ H x y v u Q I rx ry h
  obtain ⟨d, a, zs, hd, rfl, hq, q⟩ := h
  cases ry
  obtain ⟨its, r, pl, hz⟩ := I.tuple hq
  obtain ⟨as, rd⟩ := D.reads I.hok hd rx
  refine SeqAt.in_tupleAt (beside d) pl (fun w hw => mem_beside rd (by show X.A.units + 1 < _; omega) r w (by simpa using hw)) ⟨.bl _, H, I, rfl, ?_⟩
  rw [show its.toArray.any (beside d) = its.any (beside d) by simp, any_beside r]
  exact q
theorem op_ninS (hu : X.A.units + 64 < cLine) : OpR X (compareOp .NotIn) (rInS X.K true) := by
  intro pins s σ H x y v u Q I rx ry h
  obtain ⟨d, a, zs, hd, rfl, hq, q⟩ := h
  cases ry
  obtain ⟨its, r, pl, hz⟩ := I.tuple hq
  obtain ⟨as, rd⟩ := D.reads I.hok hd rx
  refine SeqAt.notIn_tupleAt (beside d) pl (fun w hw => mem_beside rd (by show X.A.units + 1 < _; omega) r w (by simpa using hw)) ⟨.bl _, H, I, rfl, ?_⟩
  rw [show its.toArray.any (beside d) = its.any (beside d) by simp, any_beside r]
  exact q
/-! ### sets of whole numbers -/
theorem ints_of_vals {ns : List Int} {us : List Value} (r : Vals (ns.map V.int) us) : IntsAre us ns := by
  induction ns generalizing us with
  | nil =>
    cases r
    exact .nil
  | cons n ns ih =>
    cases r with
    | cons a b =>
      obtain ⟨t, rfl⟩ := a
      exact .cons _ _ (ih b)
def rSetTI (K : PySem.W.Frag) (w : World) : List V → Hp → VK → Prop := fun vs H Q => ∃ (l : Addr) (ns : List Int), vs = [.ref l] ∧ SqT K H l (ns.map V.int) ∧ ns.length ≤ 60 ∧ ∀ a c, H a = none → c ≤ ns.length → Q (.ref a) (upd H a (SetO w a (fun j => decide (j ∈ ns)) c))
theorem cr_setTI (hc : X.calm = true) : CallR X (.type "set") (rSetTI X.K X.w) := by
  intro pins s σ H vs us Q I r h
  obtain ⟨l, ns, rfl, hl, hn, q⟩ := h
  rw [Vals.ref1 r]
  obtain ⟨its, rv, pl, hz⟩ := I.tuple hl
  refine call_set_tupI ns (I.ok.hd hc) pl (by simpa using ints_of_vals rv) (by unfold scanBound; omega) fun h' tk c R hcl kp => ?_
  have fr : H s.heap.objs.size = none := I.hok.fresh (Nat.le_refl _)
  exact ⟨.ref s.heap.objs.size, upd H s.heap.objs.size (SetO X.w s.heap.objs.size (fun j => decide (j ∈ ns)) c), I.laid (t' := tk) kp (Nat.le_refl _) (setO_new R), rfl, q _ c fr hcl⟩
end
end Dt

/-! errors of own classes as values: made, asked, their field read -/
namespace PySem.F
theorem keS : StoreFacts "KeyError" [.type "KeyError", .type "LookupError", .type "Exception", .type "BaseException", .type "object"] "object.__setattr__" "object" := by
  refine ⟨by kernel_rfl, ?_, entry_object_sa, by decide +kernel, by decide +kernel, by decide +kernel, (fun a b c => by unfold argsOk; kernel_rfl), (fun self => by kernel_rfl)⟩
  refine .of (owner := "object") (n := "__setattr__") (by rw [typeLookup_type, builtinLookup_eq_fast]; kernel_rfl) (by decide +kernel) (by decide +kernel) (by decide +kernel) ?_ (by rw [isSubtype_type]; kernel_rfl)
  first
    | exact .inl (by decide +kernel)
    | exact .inr (by decide +kernel)
end PySem.F

namespace PySem
namespace Eo
open PySem.W PySem.Calls PyProof.Rows PySem.HandSPX
section
open Builtin Builtin.ObjectAttr
variable {prog : Program} {w : World} {A : Around} {R : Result → Shared → Prop} {hp : Heap} {g : Array GenState} {d : Drawn} {t : Nat} {os : OsState} {B : String} {bmB : List Value}
/-- the first store into an exception of an own class, whatever it is derived from -/
theorem osaG {K : W.Frag} {name : Str} {tk : Tok} {v : Value} {x C : Addr} {fv : Array Value} (SF : StoreFacts B bmB "object.__setattr__" "object")
    (X : K.In hp) (hx : hp.get? x = some { cls := .ref C, data := .fields fv }) (ov : excOver K C bmB = true) (hh : hasDictIn K C = true) (ha : findIn K (.ref C) name = some none)
    (hq : ∀ h' tk' dx, (∀ b o, b ≠ x → hp.get? b = some o → h'.get? b = some o) → hp.objs.size ≤ dx → dx ≠ x →
      h'.get? x = some { cls := .ref C, dict := some dx, data := .fields fv } → h'.Ns1 dx (fun y => if y = name then some v else none) → R (.ok (.ret .none)) ⟨h', g, d, tk', os⟩) :
    codeAny (model prog w) A (.call (.builtin "object.__setattr__") ⟨[.ref x, .str name tk, v], []⟩) R ⟨hp, g, d, t, os⟩ := by
  have tkr : takerIn K C name = some none := by
    unfold takerIn
    rw [ha]
    rfl
  obtain ⟨cd, hc, hd⟩ := any_some hh
  have lc : W.Looks (model prog w) hp (classData C) cd := W.looks_clsIn X hc
  have nx : x ≠ hp.objs.size := Nat.ne_of_lt (Heap.lt_size hx)
  refine osa_openX (s := ⟨hp, g, d, t, os⟩) (od := none) SF X ⟨hx, rfl, rfl, trivial⟩ ov tkr fun b => ?_
  obtain ⟨nm, bs, mro, ns, qn, hdd, sn, sb, ab, col, del⟩ := cd
  dsimp only at hd
  subst hd
  show wpAny _ _ (storeInOwnDict (.ref x) (.ref C) (.str name tk) name v b) _ _ _
  unfold storeInOwnDict ownDictForStores
  repeat (first
    | with_reducible refine store_in_new ?_ ?_
    | with_reducible refine wpAny_loadPart_at hx ?_
    | with_reducible refine lc.at ?_
    | wp_step)
  · refine ⟨_, #[], _, (Heap.get?_update_ne _ _ _ _ nx.symm).trans (Heap.get?_push_at rfl rfl), rfl, (fun e he => absurd he (by simp)), fun _ => rfl⟩
  · intro h' tk' hn' hs
    refine hq h' tk' hp.objs.size (fun c o hb ho => ?_) (Nat.le_refl _) nx.symm ?_ hn'
    · refine (hs.2 c (Nat.ne_of_lt (Heap.lt_size ho))).trans ?_
      exact (Heap.get?_update_ne _ _ _ _ hb).trans (Heap.get?_push_of_some _ ho)
    · exact (hs.2 x nx).trans (Heap.get?_update_self _ (Heap.get?_push_of_some _ hx) rfl)
end

section
variable {M : Model} {A : Around} {E : Value → Shared → Prop} {h : Heap} {g : Array GenState} {d : Drawn} {t : Nat} {os : OsState}
variable {nm q : Str} {C N : Addr} {bs bm bm0 : List Value} {hdct : Bool} {sn : List Str} {sub : List Value} {ab : Bool} {col : Option Bool} {dd : Option Addr} {k0 k1 k2 k3 k5 : Option Value} {B newId initId : String}
/-- what must be known of the mro of an own class whose maker is B's -/
structure Tail (B : String) (bm : List Value) : Prop where
  b : bm.contains (.type B) = true
  a : bm.contains (.type "AttributeError") = false
  n : bm.contains (.type "NameError") = false
theorem Tail.of {B : String} {bm bmB : List Value} (hT : ∀ X : String, bm.contains (.type X) = bmB.contains (.type X)) (t : Tail B bmB) : Tail B bm := ⟨(hT _).trans t.b, (hT _).trans t.a, (hT _).trans t.n⟩
theorem own_has {C : Addr} {bm : List Value} {X : String} {r : Bool} (e : bm.contains (.type X) = r) : (Value.ref C :: bm).contains (.type X) = r := by
  rw [List.contains_cons, e]
  cases r <;> rfl
theorem new_check (F : ExcBaseFacts B newId initId bm0) (T : Tail B bm) {rest : List Value} {Q : Unit → Shared → Prop}
    (ho : h.get? C = some (excClassObj nm q C N bs bm hdct sn sub ab col dd k0 k1 k2 k3 k5 newId)) (hq : Q () ⟨h, g, d, t, os⟩) : wpAny M A (checkBuiltinCall newId ⟨.ref C :: rest, []⟩) Q E ⟨h, g, d, t, os⟩ := by
  have c1 := own_has (C := C) T.b
  have c2 := F.noStar
  simp only [checkBuiltinCall, F.newKind, F.newSplit, F.newRow]
  repeat (first
    | refine wpAny_loadPart_at ho ?_
    | (refine wpAny_isSubtype_exc ho ?_
       rw [c1])
    | refine wpAny_staticBase_exc ho ?_
    | refine wpAny_madeBy_exc ho ?_
    | simp only [bne_self_eq_false, Bool.false_eq_true, if_false]
    | wp_step)
  exact hq
end
section
variable {prog : Program} {w : World} {A : Around} {E : Value → Shared → Prop} {R : Result → Shared → Prop} {h : Heap} {g : Array GenState} {d : Drawn} {t : Nat} {os : OsState}
variable {nm q : Str} {C N : Addr} {bs bm bm0 : List Value} {hdct : Bool} {sn : List Str} {sub : List Value} {ab : Bool} {col : Option Bool} {dd : Option Addr} {k0 k1 k2 k3 k5 : Option Value} {B newId initId : String}
theorem new_made (F : ExcBaseFacts B newId initId bm0) (T : Tail B bm) {rest : List Value} (ho : h.get? C = some (excClassObj nm q C N bs bm hdct sn sub ab col dd k0 k1 k2 k3 k5 newId))
    (hq : R (.ok (.ret (.ref (h.objs.size + 1)))) ⟨(h.push (W.kdv_tup rest)).push (excO C h.objs.size), g, d, t, os⟩) (hz : rest.length ≤ sizeLine) :
    codeAny (model prog w) A (.builtin newId ⟨.ref C :: rest, []⟩) R ⟨h, g, d, t, os⟩ := by
  have e0 := F.ends
  have c1 := own_has (C := C) T.b
  have c2 := own_has (C := C) T.a
  have c3 := own_has (C := C) T.n
  refine codeAny_builtinAt F.entry ?_
  unfold Builtin.«BaseException.__new__»
  refine wpAt_bind (show wpAt _ _ _ (stack >>= _) _ _ _ from wpAt_bind (wpAt_stack fun p below => wpAt_of_wpAny ?_))
  wp_walk
  refine wpAt_of_wpAny ?_
  rw [F.owner]
  repeat (first
    | with_reducible refine wpAny_madeHere_exc F.canon ho ?_
    | with_reducible refine wpAny_loadPart_at ho ?_
    | (with_reducible refine wpAny_isSubtype_exc ho ?_
       first
         | rw [c1]
         | rw [c2]
         | rw [c3])
    | wp_step)
  show R _ _
  rw [Heap.size_push]
  exact hq
theorem type_made (F : ExcBaseFacts B newId initId bm0) (T : Tail B bm) {rest : List Value} {fI : Addr} {Q : Fin → Shared → Prop}
    (ho : h.get? C = some (excClassObj nm q C N bs bm hdct sn sub ab col dd k0 k1 k2 k3 k5 newId))
    (hi : W.Looks (model prog w) h (typeLookup (.ref C) "__init__") (some (.ref fI))) (hb : ∀ self, W.Looks (model prog w) h (bindSpecial (.ref fI) self) (.ref fI, [self])) (hz : rest.length ≤ sizeLine)
    (hq : codeAny (model prog w) A (.call (.ref fI) ⟨.ref (h.objs.size + 1) :: rest, []⟩)
      (fun r s' => match r with | .ok (.ret v) => v = .none ∧ Q (.done (.ret (.ref (h.objs.size + 1)))) s' | .ok _ => False | .error e => E e s') ⟨(h.push (W.kdv_tup rest)).push (excO C h.objs.size), g, d, t, os⟩) :
    wpAny (model prog w) A (Builtin.«type.__call__» ⟨.ref C :: rest, []⟩) Q E ⟨h, g, d, t, os⟩ := by
  repeat (first
    | with_reducible refine wpAny_loadPart_at ho ?_
    | with_reducible refine wpAny_madeBy_exc ho ?_
    | wp_step)
  refine codeAny_call_builtin_code (Code.quiet_builtin _ F.quiet) (new_check F T ho (new_made F T ho ?_ hz))
  show wpAny _ _ _ _ _ _
  have kk : ∀ b o, h.get? b = some o → ((h.push (W.kdv_tup rest)).push (excO C h.objs.size)).get? b = some o := fun b o z => Heap.get?_push_of_some _ (Heap.get?_push_of_some _ z)
  have ho2 := kk _ _ ho
  have got : ((h.push (W.kdv_tup rest)).push (excO C h.objs.size)).get? (h.objs.size + 1) = some (excO C h.objs.size) := by heap_get
  have own : (Value.ref C :: bm).contains (.ref C) = true := by simp
  have i1 := hi.keeps kk
  have b1 := (hb (.ref (h.objs.size + 1))).keeps kk
  unfold isInstance
  repeat (first
    | with_reducible refine wpAny_loadPart_at got ?_
    | (with_reducible refine wpAny_isSubtype_exc ho2 ?_
       rw [own])
    | wp_step)
  show wpAny _ _ (typeLookup (.ref C) _) _ _ _
  refine i1.at (wpAny_holding (wpAny_bind (b1.at (wpAny_bind (wpAny_call (codeAny_mono hq fun r s' z => ?_))))))
  cases r with
  | error e => exact z
  | ok fl =>
    cases fl with
    | next => exact z.elim
    | brk => exact z.elim
    | cont => exact z.elim
    | ret v =>
      obtain ⟨rfl, z⟩ := z
      first
        | exact wpAny_pure (wpAny_pure z)
        | (wp_walk
           exact z)
theorem call_made (F : ExcBaseFacts B newId initId bm0) (T : Tail B bm) {rest : List Value} {fI : Addr} (ho : h.get? C = some (excClassObj nm q C N bs bm hdct sn sub ab col dd k0 k1 k2 k3 k5 newId))
    (hi : W.Looks (model prog w) h (typeLookup (.ref C) "__init__") (some (.ref fI))) (hb : ∀ self, W.Looks (model prog w) h (bindSpecial (.ref fI) self) (.ref fI, [self])) (hz : rest.length ≤ sizeLine)
    (hq : codeAny (model prog w) (A.under (.builtin "type.__call__" ⟨.ref C :: rest, []⟩)) (.call (.ref fI) ⟨.ref (h.objs.size + 1) :: rest, []⟩) (W.InitBack (h.objs.size + 1) R) ⟨(h.push (W.kdv_tup rest)).push (excO C h.objs.size), g, d, t, os⟩) :
    codeAny (model prog w) A (.call (.ref C) ⟨rest, []⟩) R ⟨h, g, d, t, os⟩ := by
  have l1 := tc_lookup
  have l2 := tc_bind (.ref C)
  have ty : (⟨h, g, d, t, os⟩ : Shared).TypeIs (.ref C) "type" := ⟨_, ho, rfl⟩
  refine codeAny_of_tree (show wpAny _ _ (callAny (.ref C) _) _ _ _ from ?_)
  repeat (any_goals (first
    | assumption
    | with_reducible refine wpAny_loadPart_at ho ?_
    | wp_step))
  refine ⟨rfl, codeAny_call_builtin_at (Code.quiet_builtin _ (by decide +kernel)) entry_typeCall (wpAny_check_type_call_sub ho (type_made F T ho hi hb hz (codeAny_mono hq fun r s' z => ?_)))⟩
  rcases r with e | (v | _ | _ | _) <;> exact z
end
end Eo
end PySem

namespace Eo
open PySem PySem.Spec PyProof.Rows L2 Sh
/-- what the written part says of an own error class over the class of bmB -/
structure OexG (K : PySem.W.Frag) (C : Addr) (bmB : List Value) (newId : String) : Prop where
  q : PySem.W.excInitIn K C bmB newId = true
  ov : PySem.W.excOver K C bmB = true
  sa : PySem.W.findIn K (.ref C) "__setattr__" = some (some (.builtin "object.__setattr__"))
  kC : PySem.W.keepIn K (.ref C) = true
  ec : ExcC K C
def XfC.of {K : PySem.W.Frag} {C : Addr} (e : ExcC K C) : XfC K C := ⟨e.hg, e.hk, e.hs, e.hd⟩
section
variable {X : Cx} {pins : List (Addr × Obj)} {σ : L2.St} {H : Hp} {s : Shared} {a C dx : Addr} {f : Str} {y : V} {u : Value} {Q : Unit → Shared → Prop} {E : Value → Shared → Prop} {A : Around} {B newId : String} {bmB : List Value}
/-- self.f = y, the first one -/
theorem ostG (SF : StoreFacts B bmB "object.__setattr__" "object") (T : OexG X.K C bmB newId) (I : Inv X pins σ H s) (e : H a = some (exo a C none)) (hno : PySem.W.findIn X.K (.ref C) f = some none) (ry : RelV y u)
    (h : ∀ dx s', H dx = none → dx ≠ a → Inv X pins σ (upd (upd H dx (exd dx [(f, y)])) a (exo a C (some dx))) s' → Q () s') :
    wpAny (model X.prog X.w) A (setAttr (.ref a) f u) Q E s := by
  obtain ⟨t1, ho⟩ := exo_at I.hok e
  obtain ⟨hp, g, d, t, os⟩ := s
  refine PySem.W.set_plain I.kIn (ox := { cls := .ref C, dict := none, data := .fields #[.ref t1, .none, .none, .none, .bool false, .none] }) (od := none) ⟨ho, rfl, rfl, trivial⟩ T.sa ?_
  refine PySem.Eo.osaG SF I.kIn ho T.ov T.ec.hd hno fun h' tk' dx k dn dne hx hn => ?_
  have fresh : H dx = none := I.hok.fresh dn
  have old : ∀ {b : Addr} {o : Obj}, hp.get? b = some o → b ≠ dx := fun {b o} z => Nat.ne_of_lt (Nat.lt_of_lt_of_le (Heap.lt_size z) dn)
  have na : ∀ {b : Addr}, H b = none → b ≠ a := fun {b} n z => by
    rw [z, e] at n
    cases n
  have far : ∀ {b : Addr} {o : HO}, H b = some o → b ≠ a → upd (upd H dx (exd dx [(f, y)])) a (exo a C (some dx)) b = some o := fun {b o} q n => by
    rw [upd_ne n, upd_ne (ne_of_none q fresh)]
    exact q
  have U : Un X.fs [] H (upd (upd H dx (exd dx [(f, y)])) a (exo a C (some dx))) hp h' := by
    refine ⟨fun b o q n _ _ => k b o (na n) q, fun b o q n _ _ => ⟨o.slots, k b o (na n) q⟩, fun b o q n _ => ?_, fun b o q _ => ?_, fun b xs q => far q (at_ne e q exo_tup), fun b o v q => far q (at_ne e q exo_frz), fun b ps q => ⟨#[], ?_⟩⟩
    · rw [upd_ne (na n), upd_ne (old q)]
      exact n
    · by_cases hb : b = a
      · exact ⟨_, by rw [hb]; exact hx⟩
      · exact ⟨o, k b o hb q⟩
    · rw [Array.append_empty]
      exact far q (at_ne e q exo_tbl)
  refine h dx _ fresh dne (I.un (t' := tk') U fun b o q => ?_)
  by_cases hb : b = a
  · subst hb
    rw [upd_same] at q
    cases q
    exact exo_ok hx
  · rw [upd_ne hb] at q
    by_cases hd : b = dx
    · subst hd
      rw [upd_same] at q
      cases q
      exact exd_ok hn (relO_put (fs := []) ry fun g => True.intro)
    · rw [upd_ne hd] at q
      refine (I.hok b o q).stay (fun c v hc z => k c v ?_ z) (fun c hc => far hc (at_ne e hc exo_own)) fun c xs hc => far hc (at_ne e hc exo_tup)
      rcases hc with rfl | hc
      · exact hb
      · exact at_ne e hc exo_own
end
/-! ### rules -/
/-- self.f = e in an own __init__ -/
def tOstG (K : PySem.W.Frag) (C : Addr) (f : Str) (to te : TE) : TS := fun D σ H => te σ H fun y H1 => to σ H1 fun x H2 => ∃ a : Addr, x = .ref a ∧ PySem.W.findIn K (.ref C) f = some none ∧
  H2 a = some (exo a C none) ∧ ∀ dx, H2 dx = none → dx ≠ a → D.nx σ (upd (upd H2 dx (exd dx [(f, y)])) a (exo a C (some dx)))
/-- C(e, ..) of an own error class whose __init__ keeps sp, as a value -/
def tMkV (C : Addr) (sp : Sp) (ta : TA) : TE := fun σ H Q => ta σ H fun vs H1 => vs.length ≤ 1000 ∧ ∀ a, H1 a = none → sp (.ref a :: vs) (upd H1 a (exo a C none)) (fun v H2 => v = .non ∧ Q (.ref a) H2) fun _ _ _ => False
/-- o.f of such an error -/
def tExg (K : PySem.W.Frag) (f : Str) (te : TE) : TE := fun σ H Q => te σ H fun x H1 => ∃ (a C dd : Addr) (fs : List (Str × V)) (v : V), x = .ref a ∧ XfC K C ∧ PySem.W.findIn K (.ref C) f = some none ∧
  H1 a = some (exo a C (some dd)) ∧ H1 dd = some (exd dd fs) ∧ fs.lookup f = some v ∧ Q v H1
/-- an error of the class at D stands at a -/
def IsE (H : Hp) (a D : Addr) : Prop := H a = some (ExO (.ref D) a) ∨ ∃ dd fs, H a = some (exo a D (some dd)) ∧ H dd = some (exd dd fs)
theorem IsE.same {H H' : Hp} {a D : Addr} (s : Same H H') (h : IsE H a D) : IsE H' a D := by
  rcases h with h | ⟨dd, fs, h1, h2⟩
  · exact .inl (s _ _ h)
  · exact .inr ⟨dd, fs, s _ _ h1, s _ _ h2⟩
/-- isinstance(error, class) -/
def rIsG (K : PySem.W.Frag) : List V → Hp → VK → Prop := fun xs H Q => ∃ (a D : Addr) (c : V) (cv : Value) (b : Bool), xs = [.ref a, c] ∧ ClsV c cv ∧ ExcC K D ∧ IsE H a D ∧ PySem.W.kitOne K (.ref D) cv = some b ∧ Q (.bl b) H
section
variable {X : Cx} {o e : Expr} {es : List Expr} {to te : TE} {ta : TA} {f : Str} {p p' pos : Pos} {C : Addr} {B newId initId : String} {bmB bm0 : List Value}
theorem ps_ostG (SF : StoreFacts B bmB "object.__setattr__" "object") (T : OexG X.K C bmB newId) (ho : PE X o to) (he : PE X e te) (hs : swapsWith e (some (.Attribute o f p')) pos.line X.env = pure false := by rfl) :
    PS X (.Assign [.Attribute o f p'] e pos) (tOstG X.K C f to te) := by
  refine ⟨fun pins s σ H D I h => plainObj_wpAny_Assign_Attribute (thn (he.run pins s σ H _ I h) fun v s1 ⟨y, H1, I1, r1, q1⟩ => thn (ho.run pins s1 σ H1 _ I1 q1) fun u s2 h2 => ?_) hs⟩
  obtain ⟨x, H2, I2, r2, a, rfl, hno, ea, q⟩ := h2
  cases r2
  exact ostG SF T I2 ea hno r1 fun dx s' n ne J => ⟨σ, _, J, q dx n ne⟩
theorem pe_oexG {x : Str} {fI : Addr} {k : Nat} {fd : FuncData} {ps : List Str} {sp : Sp} (FB : ExcBaseFacts B newId initId bm0) (tl : PySem.Eo.Tail B bmB) (T : OexG X.K C bmB newId) (iC : PySem.W.findIn X.K (.ref C) "__init__" = some (some (.ref fI))) (tI : PySem.W.typeIn X.K (.ref fI) = some (.type "function"))
    (F1 : FnOk X.prog X.w X.K X.mg X.base CX0 k fI fd ps sp) (hr : Room (k + 1) X.A) (hb : Binds X.K fd ps []) (hg : Gl X x) (hm : X.mg x = some (.ref C)) (ha : PA X (e :: es) ta)
    (hdb : (x == ("__debug__" : Str)) = false := by decide) (he : starEach (e :: es) X.env = (false, eval e X.env) :: starEach es X.env := by rfl) (hpl : (backTo pos (starEach es X.env)).any (·.1) = false := by rfl) :
    PE X (.Call (.Name x p) (e :: es) [] pos) (tMkV C sp ta) := by
  refine ⟨fun pins s σ H Q I h => wpAny_Call_Name_kw (ld_glob I hg hm ?_ hdb)⟩
  refine PySem.W.callWith_K (h₀ := X.base) I.ok.mod.kin T.kC (thn (ha.run pos pins s σ H _ I h) fun us s1 ⟨vs, H1, I1, r1, hz, q1⟩ => ⟨I1.kIn, ?_⟩) he hpl
  show wpAny _ _ (call (.ref C) us) _ _ _
  obtain ⟨hp, g, dr, tk, os⟩ := s1
  obtain ⟨nm, N, q, bs, bm, hdct, sn, sub, ab, col, dd, k0, k1, k2, k3, k5, hC, hT⟩ := PySem.W.excInit_of I1.kIn T.q
  have more : hp.objs.size ≤ hp.objs.size + 1 := Nat.le_succ _
  have hn : H1 (hp.objs.size + 1) = none := I1.hok.fresh more
  have kk : ∀ b o, hp.get? b = some o → ((hp.push (PySem.W.kdv_tup us)).push (PySem.HandSPX.excO C hp.objs.size)).get? b = some o := fun b o z => Heap.get?_push_of_some _ (Heap.get?_push_of_some _ z)
  have got : ((hp.push (PySem.W.kdv_tup us)).push (PySem.HandSPX.excO C hp.objs.size)).get? (hp.objs.size + 1) = some (PySem.HandSPX.excO C hp.objs.size) := by heap_get
  have I2 : Inv X pins σ (upd H1 (hp.objs.size + 1) (exo (hp.objs.size + 1) C none)) ⟨(hp.push (PySem.W.kdv_tup us)).push (PySem.HandSPX.excO C hp.objs.size), g, dr, tk, os⟩ :=
    I1.laid (t' := tk) (a := hp.objs.size + 1) (o := exo (hp.objs.size + 1) C none) kk more (exo_ok got)
  have hq := q1 _ hn
  have r2 : Vals (V.ref (hp.objs.size + 1) :: vs) (Value.ref (hp.objs.size + 1) :: us) := .cons rfl r1
  have hl : (Value.ref (hp.objs.size + 1) :: us).length = ps.length := r2.length.symm.trans (F1.len _ _ _ _ hq)
  have b2 := hb _ (Value.ref (hp.objs.size + 1) :: us) I2.kIn (by rw [List.append_nil]; exact hl)
  rw [List.append_nil] at b2
  have hus : us.length ≤ sizeLine := by
    have := r1.length
    rw [sizeLine_eq]
    omega
  refine wpAny_call (PySem.Eo.call_made FB (.of hT tl) hC (PySem.W.looks_findIn I1.kIn iC) (fun self => PySem.W.bind_fn I1.kIn self tI) hus
    (codeAny_mono (F1.run _ X.stack _ _ ⟨Value.ref (hp.objs.size + 1) :: us, []⟩ _ _ _ (fun _ _ _ => False) (hr.make C us []) (I2.env0.make C us []) b2 r2 hq) fun r s' hq' => ?_))
  cases r with
  | error er => exact hq'.elim
  | ok fl =>
    cases fl with
    | ret u =>
      obtain ⟨v, H3, I3, rv, rfl, q3⟩ := I2.after hq'
      exact ⟨rv, ⟨V.ref (hp.objs.size + 1), H3, I3, rfl, q3⟩⟩
    | next => exact hq'.elim
    | brk => exact hq'.elim
    | cont => exact hq'.elim
theorem pe_exg (he : PE X e te) (hb : attributeBase e f X.env (eval e X.env) = eval e X.env := by rfl) : PE X (.Attribute e f pos) (tExg X.K f te) := by
  refine ⟨fun pins s σ H Q I h => attr_of hb (thn (he.run pins s σ H _ I h) fun u s1 hh => ?_)⟩
  obtain ⟨x, H1, I1, rx, a, C, dd, fs, v, rfl, T, hno, ea, ed, l, q⟩ := hh
  cases rx
  obtain ⟨t1, ho⟩ := exo_at I1.hok ea
  obtain ⟨mA, hns, rel⟩ := exd_at I1.hok ed
  obtain ⟨od, hod, hl⟩ := lookIn_ns hns
  obtain ⟨u, hu, ru⟩ := RelO.some_of (v := v) (o := mA f) (by rw [← l]; exact rel f)
  have J : PySem.W.InstAt s1.heap a { cls := .ref C, dict := some dd, data := .fields #[.ref t1, .none, .none, .none, .bool false, .none] } C (some od) := ⟨ho, rfl, rfl, hod⟩
  exact HandSPX.exc_get I1.kIn J T.ga T.gg T.exC (PySem.W.findObj_own T.hdC hno rfl (by rw [hl, hu])) (handed_of ru) ⟨v, H1, I1.tok _, ru, q⟩
theorem call_isG : CallR X (.builtin "isinstance") (rIsG X.K) := by
  intro pins s σ H xs us Q I r h
  obtain ⟨a, D, c, cv, b, rfl, k, T, hE, e, q⟩ := h
  obtain ⟨u1, u2, rfl, r1, r2⟩ := vals2 r
  cases (show u1 = Value.ref a from r1)
  have e2 := k.eq r2
  subst e2
  have at_ : ∃ ox od, PySem.W.InstAt s.heap a ox D od := by
    rcases hE with hE | ⟨dd, fs, ea, ed⟩
    · obtain ⟨⟨oe, vs, ho, hz, hd, _⟩, _, _⟩ := I.hok a _ hE
      exact ⟨oe, none, ho, hz.1, by unfold PySem.W.notCls; rw [hd] <;> rfl, by rw [hz.2]; trivial⟩
    · obtain ⟨t1, ho⟩ := exo_at I.hok ea
      obtain ⟨mA, hns, rel⟩ := exd_at I.hok ed
      obtain ⟨od, hod, hl⟩ := lookIn_ns hns
      exact ⟨_, some od, ho, rfl, rfl, hod⟩
  obtain ⟨ox, od, J⟩ := at_
  have hcl : (PySem.W.clsIn X.K D).isSome = true := by
    obtain ⟨cd, hc, _⟩ := PySem.W.any_some T.hd
    rw [hc]
    rfl
  exact PySem.W.kia_one (PySem.W.kitx_exc hcl T.hg T.hk T.hs T.ha T.hn T.ht T.hm) I.kIn J e (fun z => nomatch z) fun tk => ⟨.bl b, H, I.tok tk, rfl, q⟩
end
end Eo

/-! repr of lists of data, in defs that are called where no guard stands -/
namespace Eo
open PySem PySem.Spec PyProof.Rows L2 Sh
/-- a value of data, as it stands in the heap -/
inductive Rp (H : Hp) : V → PyData → Prop
  | non : Rp H .non .none
  | bl (b : Bool) : Rp H (.bl b) (.bool b)
  | int (i : Int) : Rp H (.int i) (.int i)
  | str (z : Str) : Rp H (.str z) (.str z)
  | one {p : Addr} {i : Int} (h : H p = some (.lst [.int i])) : Rp H (.ref p) (.list [.int i])
  | tup0 {p : Addr} (h : H p = some (.tup [])) : Rp H (.ref p) (.tuple [])
  | tup2 {p : Addr} {z : Str} {i : Int} (h : H p = some (.tup [.str z, .int i])) : Rp H (.ref p) (.tuple [.str z, .int i])
  | dic {p : Addr} (h : H p = some (.dK [])) : Rp H (.ref p) (.dict [])
inductive RpAll (H : Hp) : List V → List PyData → Prop
  | nil : RpAll H [] []
  | cons {v : V} {d : PyData} {vs : List V} {ds : List PyData} : Rp H v d → RpAll H vs ds → RpAll H (v :: vs) (d :: ds)
theorem Rp.mono {H H' : Hp} {v : V} {d : PyData} (q : Rp H v d) (k : ∀ p o, H p = some o → (∃ xs, o = .tup xs) ∨ o = .dK [] ∨ (∃ i, o = .lst [.int i]) → H' p = some o) : Rp H' v d := by
  cases q with
  | non => exact .non
  | bl b => exact .bl b
  | int i => exact .int i
  | str z => exact .str z
  | one h => exact .one (k _ _ h (.inr (.inr ⟨_, rfl⟩)))
  | tup0 h => exact .tup0 (k _ _ h (.inl ⟨_, rfl⟩))
  | tup2 h => exact .tup2 (k _ _ h (.inl ⟨_, rfl⟩))
  | dic h => exact .dic (k _ _ h (.inr (.inl rfl)))
theorem RpAll.mono {H H' : Hp} {vs : List V} {ds : List PyData} (q : RpAll H vs ds) (k : ∀ p o, H p = some o → (∃ xs, o = .tup xs) ∨ o = .dK [] ∨ (∃ i, o = .lst [.int i]) → H' p = some o) : RpAll H' vs ds := by
  induction q with
  | nil => exact .nil
  | cons a _ ih => exact .cons (a.mono k) ih
theorem RpAll.same {H H' : Hp} {vs : List V} {ds : List PyData} (q : RpAll H vs ds) (s : Same H H') : RpAll H' vs ds := q.mono fun _ _ h _ => s _ _ h
theorem RpAll.snoc {H : Hp} {vs : List V} {ds : List PyData} {v : V} {d : PyData} (q : RpAll H vs ds) (r : Rp H v d) : RpAll H (vs ++ [v]) (ds ++ [d]) := by
  induction q with
  | nil => exact .cons r .nil
  | cons a _ ih => exact .cons a ih
theorem RpAll.len {H : Hp} {vs : List V} {ds : List PyData} (q : RpAll H vs ds) : vs.length = ds.length := by
  induction q with
  | nil => rfl
  | cons _ _ ih => rw [List.length_cons, List.length_cons, ih]

theorem rp_reads {P : Program} {w : World} {H : Hp} {h : Heap} {v : V} {u : Value} {d : PyData} (ok : HOk P w H h) (r : RelV v u) (q : Rp H v d) : ∃ as, Reads h u d as ∧ (d.hasDict = true → sysModules ∉ as) := by
  cases q with
  | non =>
    cases r
    exact ⟨_, .none, fun z => by cases z⟩
  | bl b =>
    cases r
    exact ⟨_, .bool b, fun z => by cases z⟩
  | int i =>
    obtain ⟨t, rfl⟩ := r
    exact ⟨_, .int i t, fun z => by cases z⟩
  | str z =>
    obtain ⟨t, rfl⟩ := r
    exact ⟨_, .str z t, fun z => by cases z⟩
  | @one p i e =>
    cases r
    obtain ⟨_, us, n, rv, h1⟩ := ok p _ e
    cases rv with
    | cons a b =>
      cases b
      obtain ⟨t, rfl⟩ := a
      exact ⟨_, .list h1 rfl rfl (.cons (.int i t) .nil), fun z => by cases z⟩
  | @tup0 p e =>
    cases r
    obtain ⟨_, us, rv, o, h1, h2, n, h3⟩ := ok p _ e
    cases rv
    exact ⟨_, .tuple h1 h2 h3 .nil, fun z => by cases z⟩
  | @tup2 p z i e =>
    cases r
    obtain ⟨_, us, rv, o, h1, h2, n, h3⟩ := ok p _ e
    cases rv with
    | cons a b =>
      cases b with
      | cons b c =>
        cases c
        obtain ⟨t, rfl⟩ := a
        obtain ⟨t2, rfl⟩ := b
        exact ⟨_, .tuple h1 h2 h3 (.cons (.str z t) (.cons (.int i t2) .nil)), fun z => by cases z⟩
  | @dic p e =>
    cases r
    obtain ⟨_, lo, vs, kv, o, es, ep, h1, h2, h3, h4, h5, h6⟩ := ok p _ e
    cases kv
    have e0 : es = #[] := by
      apply Array.toList_inj.mp
      generalize es.toList = l at h5
      cases h5
      rfl
    subst e0
    exact ⟨_, .dict h1 h2.1 h3 .nil .nil, fun _ z => by
      rw [show ((p :: [] ++ [] : List Addr)) = [p] from rfl, List.mem_singleton] at z
      rw [← z] at lo
      exact absurd lo (by decide)⟩
/-- what repr of an item wants -/
def Good (d : PyData) : Prop := d.showable = true ∧ d.depth ≤ 1 ∧ d.shown.length ≤ 60
theorem rp_all {P : Program} {w : World} {H : Hp} {h : Heap} (ok : HOk P w H h) : ∀ {vs : List V} {us : List Value} {ds : List PyData}, Vals vs us → RpAll H vs ds → (∀ d ∈ ds, Good d) →
    (∃ as, ReadsAll h us ds as) ∧ ∃ bs, ReadAtMost h (PyData.depthAll ds) bs ∧ ReprAllK P w bs h (PyData.depthAll ds) us (PyData.shownAll ds)
  | _, _, _, .nil, .nil, _ => by
    refine ⟨⟨_, .nil⟩, [], (fun _ z => nomatch z), ?_⟩
    simp only [PyData.shownAll]
    exact .nil
  | _, _, _, .cons r rs, .cons (d := d) (ds := ds) q qs, g => by
    obtain ⟨as, rd, sm⟩ := rp_reads ok r q
    obtain ⟨g1, g2, g3⟩ := g d (.head _)
    obtain ⟨b1, m1, k1⟩ := ReprK.of_reads (prog := P) (w := w) rd g1 sm (Nat.le_trans g3 (by rw [sizeLine_eq]; omega))
    obtain ⟨⟨as2, rd2⟩, b2, m2, k2⟩ := rp_all ok rs qs fun z hz => g z (.tail _ hz)
    refine ⟨⟨_, .cons rd rd2⟩, b1 ++ b2, fun b hb => ?_, ?_⟩
    · simp only [PyData.depthAll]
      rcases List.mem_append.mp hb with hb | hb
      · obtain ⟨d', a', r', l'⟩ := m1 b hb
        exact ⟨d', a', r', Nat.le_trans l' (Nat.le_max_left _ _)⟩
      · obtain ⟨d', a', r', l'⟩ := m2 b hb
        exact ⟨d', a', r', Nat.le_trans l' (Nat.le_max_right _ _)⟩
    · simp only [PyData.depthAll, PyData.shownAll]
      refine .cons ((k1.more fun b hb => List.mem_append_left _ hb).level_le ?_) (k2.more_le (fun b hb => List.mem_append_right _ hb) ?_)
      · exact Nat.le_max_left _ _
      · exact Nat.le_max_right _ _
theorem depth_all {ds : List PyData} (g : ∀ d ∈ ds, Good d) : PyData.depthAll ds ≤ 1 := by
  induction ds with
  | nil =>
    simp only [PyData.depthAll]
    omega
  | cons d r ih =>
    simp only [PyData.depthAll]
    exact Nat.max_le.mpr ⟨(g d (.head _)).2.1, ih fun z hz => g z (.tail _ hz)⟩
theorem shown_sum {ds : List PyData} (g : ∀ d ∈ ds, Good d) : ((PyData.shownAll ds).map (·.length)).sum ≤ 60 * ds.length ∧ (PyData.shownAll ds).length = ds.length := by
  induction ds with
  | nil =>
    simp only [PyData.shownAll]
    exact ⟨Nat.le_refl _, rfl⟩
  | cons d r ih =>
    obtain ⟨h1, h2⟩ := ih fun z hz => g z (.tail _ hz)
    have h3 := (g d (.head _)).2.2
    simp only [PyData.shownAll, List.map_cons, List.sum_cons, List.length_cons]
    exact ⟨by omega, by omega⟩
/-- repr of a list of such values -/
def rRepr : List V → Hp → VK → Prop := fun vs H Q => ∃ p xs ds, vs = [.ref p] ∧ H p = some (.lst xs) ∧ xs ≠ [] ∧ RpAll H xs ds ∧ (∀ d ∈ ds, Good d) ∧ ds.length ≤ 1000 ∧ Q (.str (listText (PyData.shownAll ds))) H
theorem call_repr_data {X : Cx} (hg : X.A.guards = some []) (hu : X.A.units + 64 < cLine) : CallR X (.builtin "repr") rRepr := by
  intro pins s σ H xs us Q I r h
  obtain ⟨p, xs, ds, rfl, hp, hne, ra, gd, hl, q⟩ := h
  obtain ⟨u, rfl, r1⟩ := vals1 r
  cases r1
  obtain ⟨_, its, n, rv, h1⟩ := I.hok p _ hp
  obtain ⟨⟨as, rd⟩, bs, mb, ka⟩ := rp_all I.hok rv ra gd
  have hd := depth_all gd
  have na : p ∉ bs := not_mem_of_deeper (Reads.list h1 rfl rfl rd) (by simp only [PyData.depth]; omega) mb
  obtain ⟨s1, s2⟩ := shown_sum gd
  have hsz : (listText (PyData.shownAll ds)).length ≤ sizeLine := Nat.le_trans (listText_len_le _) (by rw [sizeLine_eq]; omega)
  cases rv with
  | nil => exact absurd rfl hne
  | @cons x0 u0 xs0 us0 a b =>
    refine call_repr_slot (by omega) ⟨_, h1, rfl⟩ F.slot_list_repr.toG ?_
    refine call_list_reprK (A := X.A.in1) h1 rfl rfl na (by simpa using ka.length_eq) (fun i y e => ka.item i y (by simpa using e)) hg (fun b _ => Clear.nil b) ?_ (fun _ _ z => z) (fun h' u tk k => ?_) hsz
    · show X.A.units + 1 + _ < _
      omega
    · exact ⟨_, _, rfl, .str _, H, I.kept k, ⟨_, rfl⟩, q⟩

/-! ### defs that are called where no guard stands -/
structure FnG (P : Program) (w : World) (K : PySem.W.Frag) (mg : Str → Option Value) (base : Heap) (k : Nat) (f : Addr) (fd : FuncData) (ps : List Str) (sp : Sp) : Prop where
  len : ∀ vs H Q E, sp vs H Q E → vs.length = ps.length
  run : ∀ (A : Around) (outer : List Env) (s : Shared) (H : Hp) (args : Args) (us : List Value) (vs : List V) (Q : VK) (E : XK), A.guards = some [] → Room k A → Env0 P w K mg base A outer s H →
    BindsTo s fd args (ps.zip us) → Vals vs us → sp vs H Q E → codeAny (model P w) A (.call (.ref f) args) (CR CX0 outer P w H s Q E) s
section
variable {P : Program} {w : World} {K : PySem.W.Frag} {mg : Str → Option Value} {base : Heap}
theorem fnG_ok {x qual : Str} {st : Stmt} {f : Addr} {fd : FuncData} {N ps : List Str} {k : Nat} {sp : Sp} (F : L2.Fun K x qual st f fd) (S : FnScope N ps (defScope st)) (len : ∀ vs H Q E, sp vs H Q E → vs.length = ps.length)
    (hbody : ∀ (cdv : Value) (A : Around) (outer : List Env) (s : Shared) (H : Hp) (vs : List V) (Q : VK) (E : XK), A.guards = some [] → Room k (A.deeper (envOfC qual (defScope st) s.heap.objs.size f cdv)) → sp vs H Q E →
      ∃ t, PSs (cxOf CX0 P w K mg base N qual (defScope st) f cdv A outer s H E).nox (defBody st) t ∧ t { nx := fun _ H' => Q .non H', rt := Q } (start N vs) H) : FnG P w K mg base (k + 1) f fd ps sp := by
  obtain ⟨oc, od, kV, doc, pm, an, cdv, ct, osl, rfl, lk, hcd⟩ := F.ex
  refine ⟨len, fun A outer s H args us vs Q E hg hr e0 hb r hsp => ?_⟩
  have hl := len _ _ _ _ hsp
  have old := fun b o e => (e0.bs b o e).1
  have par : ∀ y ∈ ps.zip us, (defScope st).names.lookup y.1 = some .local ∨ ((defScope st).names.lookup y.1 = some .cell ∧ ((cellsFrom (s.heap.objs.size + 1) (defScope st).names []).lookup y.1).isSome = true) := by
    intro ⟨n, v⟩ hy
    rcases S.par n (List.of_mem_zip hy).1 with q | q
    · exact .inl q
    · exact .inr ⟨q, PySem.W.cellsFrom_some _ _ _ (.inl q)⟩
  have KX : K.In s.heap := e0.mod.kin.keeps old
  refine codeAny_call_function hr.depth (KX _ _ lk) rfl S.co S.gen rfl (PySem.W.codeRec_of KX hcd) (hb _ _ _ _ (wpAny_newFunctionEnv_cells S.kind par fun env he s1 x1 => ?_))
  subst he
  refine ⟨(e0.mod.nolimit.keeps old).keeps x1.toInCall.keep, codeAny_func ?_⟩
  obtain ⟨t, ht0, hq⟩ := hbody cdv A outer s H vs Q E hg (hr.deeper _) hsp
  have ht := ht0.nox
  have I0 := inv_start (CX := CX0) (E := E) S hr.hd e0 hl r x1
  refine wpAny_mono (ht.run [] s1 (start N vs) H _ I0 hq) (fun fl s' hs => ?_) fun e s' hs => hs
  cases fl with
  | ret u =>
    obtain ⟨v, σ', H', J, rv, q⟩ := hs
    exact ⟨v, H', J.os, J.bare, J.base, J.hok, rv, q⟩
  | next =>
    obtain ⟨σ', H', J, q⟩ := hs
    exact ⟨.non, H', J.os, J.bare, J.base, J.hok, rfl, q⟩
  | brk =>
    obtain ⟨_, _, _, q⟩ := hs
    exact q.elim
  | cont =>
    obtain ⟨_, _, _, q⟩ := hs
    exact q.elim
end
section
variable {X : Cx} {k : Nat} {f : Addr} {fd : FuncData} {ps : List Str} {sp : Sp} {x : Str} {p pos : Pos} {e : Expr} {es : List Expr} {t : TA}
theorem pe_callG (F : FnG X.prog X.w X.K X.mg X.base k f fd ps sp) (hg0 : X.A.guards = some []) (hr : Room k X.A) (hg : Gl X x) (hm : X.mg x = some (.ref f)) (hk : PySem.W.keepIn X.K (.ref f) = true) (hb : Binds X.K fd ps [])
    (ha : PA X (e :: es) t) (hdb : (x == ("__debug__" : Str)) = false := by decide) (he : starEach (e :: es) X.env = (false, eval e X.env) :: starEach es X.env := by rfl) (hpl : (backTo pos (starEach es X.env)).any (·.1) = false := by rfl) :
    PE X (.Call (.Name x p) (e :: es) [] pos) (tCall sp [] E0 t) := by
  refine ⟨fun pins s σ H Q I h => wpAny_Call_Name_kw (ld_glob I hg hm ?_ hdb)⟩
  refine PySem.W.callWith_K (h₀ := X.base) I.ok.mod.kin hk (thn (ha.run pos pins s σ H _ I h) fun us s1 hh => ?_) he hpl
  obtain ⟨vs, H1, I1, r, q⟩ := hh
  rw [List.append_nil] at q
  refine ⟨I1.kIn, ?_⟩
  have hl : us.length = ps.length := (Vals.length r).symm.trans (F.len _ _ _ _ q)
  have b := hb s1 us I1.kIn (by rw [List.append_nil]; exact hl)
  rw [List.append_nil] at b
  refine wpAny_call (codeAny_mono (F.run X.A X.stack s1 H1 ⟨us, []⟩ us vs Q E0 hg0 hr I1.env0 b r q) fun r s' hq => ?_)
  cases r with
  | error e => exact hq.elim
  | ok fl =>
    cases fl with
    | ret u => exact I1.after hq
    | next => exact hq.elim
    | brk => exact hq.elim
    | cont => exact hq.elim
end
/-! ### the end: the law's def is called where no guard stands -/
theorem guards_caller : callerA.guards = some [] := by rfl
theorem law_callG {P : Program} {w : World} {K : PySem.W.Frag} {mg mb : Str → Option Value} {k : Nat} {fa a : Addr} {fd : FuncData} {x : Str} {sp : Sp} {s1 : Shared} {vs : List Value} {ns : List Int}
    (kx : K.In s1.heap) (hns : s1.heap.Ns mainGlobals mg) (nb : s1.heap.Ns builtinsNs mb) (bb : ∀ x : Str, x ≠ "__name__" → mb x = bootBuiltins x) (lim : s1.heap.NoLimit) (gen0 : s1.gens = #[])
    (ga : s1.heap.get? a = some { cls := .type "list", data := .seq vs.toArray }) (hi : IntsAre vs ns) (hl : ns.length ≤ sizeLine) (hr : Room k callerA)
    (F : ∀ base : Heap, K.In base → base.Ns mainGlobals mg → FnG P w K mg base k fa fd [x] sp) (bnd : ∀ (s : Shared) (u : Value), BindsTo s fd ⟨[u], []⟩ [(x, u)])
    (hsp : ∀ H : Hp, Only H → SqL K H a (ns.map V.int) → sp [.ref a] H (fun v _ => v = .bl true) E0) :
    codeAny (model P w) callerA (.call (.ref fa) ⟨[.ref a], []⟩) (fun r s' => r = .ok (.ret (.bool true)) ∧ OldK s1.heap s'.heap ∧ s'.os = s1.os ∧ AllBare s'.gens) s1 := by
  have rv := vals_ints hi
  have ln := hi.length
  have main : ∀ H : Hp, Only H → SqL K H a (ns.map V.int) → HOk P w H s1.heap → (∀ b, H b ≠ none → b = a) → (H a ≠ none → K.lookup a = none) →
      codeAny (model P w) callerA (.call (.ref fa) ⟨[.ref a], []⟩) (fun r s' => r = .ok (.ret (.bool true)) ∧ OldK s1.heap s'.heap ∧ s'.os = s1.os ∧ AllBare s'.gens) s1 := by
    intro H only sq okh hA hK
    have hid : ∀ {b : Addr} {o : Obj}, s1.heap.get? b = some o → (H b ≠ none → False) → (hidT s1.heap H).get? b = some o := fun {b o} e n => hidT_get e (by
      cases z : H b with
      | none => rfl
      | some u => exact (n (by rw [z]; simp)).elim)
    have dicts : ∀ {b : Addr} {o : Obj} {es : Array DictEntry} {ep : Nat}, s1.heap.get? b = some o → o.data = .dict es ep → H b ≠ none → False := fun {b o es ep} e d n => by
      have z := hA b n
      subst z
      rw [ga] at e
      cases e
      have d' : Data.seq vs.toArray _ = Data.dict es ep := d
      cases d'
    have nsK : ∀ {b : Addr} {m : Str → Option Value}, s1.heap.Ns b m → (hidT s1.heap H).Ns b m := fun {b m} h => by
      obtain ⟨o, es, ep, e, d, r⟩ := h
      exact ⟨o, es, ep, hid e (dicts e d), d, r⟩
    have inB : K.In (hidT s1.heap H) := fun b o e => hid (kx b o e) fun n => by
      have z := hA b n
      subst z
      rw [hK n] at e
      cases e
    have md : Mod K mg (hidT s1.heap H) := by
      obtain ⟨mc, h1, h2⟩ := lim
      exact ⟨inB, nsK hns, ⟨mb, nsK nb, bb⟩, ⟨mc, nsK h1, h2⟩⟩
    have env : Env0 P w K mg (hidT s1.heap H) callerA [] s1 H := by
      refine ⟨rfl, md, fun b o e => of_hidT e, Nat.le_of_eq (hidT_size _ _), trivial, fun b z => ?_, okh, .of_eq gen0⟩
      exact absurd (show b ∈ ([] : List Addr) from z) (by simp)
    refine codeAny_mono ((F _ inB (nsK hns)).run callerA [] s1 H ⟨[.ref a], []⟩ [.ref a] [.ref a] _ _ guards_caller hr env (bnd s1 (.ref a)) (.cons rfl .nil) (hsp H only sq)) fun r s' h => ?_
    cases r with
    | error e => exact h.elim
    | ok fl =>
      cases fl with
      | next => exact h.elim
      | brk => exact h.elim
      | cont => exact h.elim
      | ret u =>
        obtain ⟨v, H', os, bare, un, ok2, rv2, q⟩ := h
        have q' : v = .bl true := q
        subst q'
        cases (show u = Value.bool true from rv2)
        refine ⟨rfl, OldK.of_keep fun b o e => ?_, os, bare⟩
        cases z : H b with
        | none => exact un.keep b o e z (by intro y; exact absurd (show b ∈ ([] : List Addr) from y) (by simp)) (by simp)
        | some u =>
          rcases only b with y | ⟨ob, xs, y⟩
          · rw [z] at y
            cases y
          · obtain ⟨e1, _⟩ := okh b _ y
            obtain ⟨e2, _⟩ := ok2 b _ (un.frzs b ob _ y)
            rw [e] at e1
            cases e1
            exact e2
  cases z : K.lookup a with
  | some o =>
    have e := kx a o z
    rw [ga] at e
    cases e
    refine main (fun _ => none) (fun _ => .inl rfl) (.inr ⟨_, vs.toArray, _, z, rfl, rfl, rfl, ?_, ?_⟩) (fun b u y => ?_) (fun b y => absurd rfl y) fun y => absurd rfl y
    · rw [List.size_toArray, ln]
      exact hl
    · simpa using rv
    · have y' : (none : Option HO) = some u := y
      cases y'
  | none =>
    refine main (fun b => if b = a then some (.frz { cls := .type "list", data := .seq vs.toArray } (.lst (ns.map V.int))) else none) (fun b => ?_) (.inl (.inr ⟨{ cls := .type "list", data := .seq vs.toArray }, if_pos rfl⟩)) (fun b u y => ?_) (fun b y => ?_) fun _ => z
    all_goals by_cases hb : b = a
    · exact .inr ⟨_, _, if_pos hb⟩
    · exact .inl (if_neg hb)
    · have y' := (if_pos hb).symm.trans y
      cases y'
      subst hb
      exact ⟨ga, by rw [List.length_map]; exact hl, vs, _, rv, ga⟩
    · have y' := (if_neg hb).symm.trans y
      cases y'
    · exact hb
    · exact absurd (if_neg hb) y
theorem walk_ofG {l : PySem.W.OpenLaw} {n k : Nat} {q : Program} {loose : List Str} {XP : (Str → Option Value) → Heap → Prop} {YP : World → Heap → Prop} {d : DefRec} {K : Params → PySem.W.Frag} {sp : World → Sp} {x : Str}
    (hn : l.most = some n) (hn2 : n ≤ sizeLine) (hdf : d.params.defaults = []) (hr : Room k callerA) (hY : ∀ (w : World) (h : Heap), YP w h → (K w.params).In h)
    (F : ∀ (w : World) (mg : Str → Option Value) (fa : Addr) (h : Heap), (K w.params).In h → h.Ns mainGlobals mg → mg d.name = some (.ref fa) →
      ∃ fd : FuncData, (∀ (s : Shared) (u : Value), BindsTo s fd ⟨[u], []⟩ [(x, u)]) ∧ ∀ base : Heap, (K w.params).In base → base.Ns mainGlobals mg → FnG l.prog w (K w.params) mg base k fa fd [x] (sp w))
    (hsp : ∀ (w : World) (H : Hp) (a : Addr) (ns : List Int), ns.length ≤ n → Only H → SqL (K w.params) H a (ns.map V.int) → sp w [.ref a] H (fun v _ => v = .bl true) E0) :
    PySem.W.WalkO q loose XP YP l.row.toRowW d [] (fun f vs => PySem.call f vs) := by
  refine Att.attach_call hn hdf fun w s0 s1 mg mb fa o pm cd doc a vs ns G Y ho hd hcd hmg hobj hints hlen hg => ?_
  obtain ⟨fd, hb, hF⟩ := F w mg fa _ (hY w _ Y) G.T.g hmg
  exact law_callG (hY w _ Y) G.T.g G.T.b G.T.builtins G.T.nolimit hg hobj hints (Nat.le_trans hlen hn2) hr hF hb fun H only sq => hsp w H a ns hlen only sq
end Eo

/-! own classes compared: == and != beside any value -/
namespace Ow
open PySem PySem.Spec PyProof.Rows L2 Sh
theorem ins_at {X : Cx} {pins : List (Addr × Obj)} {σ : L2.St} {H : Hp} {s : Shared} {a C dx : Addr} {fs : List (Str × V)} (I : L2.Inv X pins σ H s) (h : H a = some (.ins C dx fs)) : ∃ od, W.InstAt s.heap a (W.instObj C dx) C od := by
  obtain ⟨mA, om, _⟩ := ins_get I.hok h
  obtain ⟨ob, ns, ne⟩ := om
  obtain ⟨o, es, ep, e, _⟩ := ns
  exact ⟨some o, ⟨ob, rfl, rfl, e⟩⟩
def rEqO (K : W.Frag) (C : Addr) (sp : Sp) (E : XK) : R2 := fun x y H Q => ∃ a dx fs T, x = .ref a ∧ H a = some (.ins C dx fs) ∧ TyX K H y T ∧ W.notFirst K C T = true ∧ sp [x, y] H Q E
theorem op_eqO {X : Cx} {CX : CXT} {C g : Addr} {n : Nat} {sp : Sp} {E : XK} (hs : W.findIn X.K (.ref C) "__eq__" = some (some (.ref g))) (hf : W.isFn X.K (.ref g) = true) (F : FnR X.prog X.w X.K X.mg X.base CX n g sp) (hr : Room n X.A) (hx : Passes CX X E) : OpR X (compareOp .Eq) (rEqO X.K C sp E) := by
  intro pins s σ H x y v u Q I rx ry h
  obtain ⟨a, dx, fs, T, rfl, ha, ty, nf, q⟩ := h
  cases rx
  obtain ⟨od, ia⟩ := ins_at I ha
  obtain ⟨P, kx, hP, _⟩ := kit_of I ry ty
  obtain ⟨m, fr⟩ := I.fr
  refine W.cmp_ofEq (W.cmp_K (by have := hr.units; omega) fr I.ok.mod.kin ia (kx.ty _ _ I.kIn hP) nf hs hf (wpAny_call ?_))
  refine codeAny_mono (SlX.run_at F hr I.env0 hx I (show Vals [V.ref a, y] [Value.ref a, u] from .cons rfl (.cons ry .nil)) q) fun r s' z => ?_
  cases r with
  | error e => exact z
  | ok fl =>
    cases fl with
    | ret w =>
      obtain ⟨z1, H', I', rz, q⟩ := z
      exact SlX.cmpback rz ⟨z1, H', I', rz, q⟩
    | next => exact z
    | brk => exact z
    | cont => exact z

theorem ifBound_ne {M : Model} {A : Around} {E : Value → Shared → Prop} {s : Shared} {K : W.Frag} {x C : Addr} {ox : Obj} {od : Option Obj} {args : List Value} {Q : Option Value → Shared → Prop} (kx : K.In s.heap) (ia : W.InstAt s.heap x ox C od)
    (hn : W.findIn K (.ref C) "__ne__" = some (some (.builtin "object.__ne__"))) (q : wpAny M A (call (.builtin "object.__ne__") (.ref x :: args)) (fun v => Q (some v)) E s) : wpAny M A (callSpecialIfBound? (.ref x) "__ne__" args) Q E s := by
  unfold callSpecialIfBound? bindSpecialIfBound? specialOf
  have b := PySem.F.slot_object_ne.bind (.ref x)
  have t1 := ia.type (M := M)
  have t2 := W.looks_findIn (M := M) kx hn
  cases s with
  | mk h g d t os =>
  repeat (first
    | with_reducible refine t1.at ?_
    | with_reducible refine t2.at ?_
    | rw [b]
    | wp_step)
  refine wpAny_askSetting ?_
  have e : (do
            let __do_lift ← (pure (Value.builtin "object.__ne__", [Value.ref x]) : Sem (Value × List Value))
            pure (some __do_lift)) = (pure (some (Value.builtin "object.__ne__", [Value.ref x])) : Sem (Option (Value × List Value))) := rfl
  have e2 : ∀ h, Sem.tryCatch (pure (some (Value.builtin "object.__ne__", [Value.ref x])) : Sem (Option (Value × List Value))) h = pure (some (Value.builtin "object.__ne__", [Value.ref x])) := fun h => rfl
  rw [e, e2, ite_self]
  refine wpAny_pure ?_
  show wpAny M A (call _ ([Value.ref x] ++ args) >>= fun r => pure (some r)) _ _ _
  refine wpAny_bind (wpAny_mono q (fun v s' z => wpAny_pure z) fun _ _ z => z)
/-- what object.__ne__ answers beside an own __eq__ that answers a bool -/
theorem call_ne {prog : PySem.Program} {w : World} {A : Around} {E : Value → Shared → Prop} {s : Shared} {K : W.Frag} {x C f : Addr} {ox : Obj} {od : Option Obj} {u : Value} {Q : Value → Shared → Prop} (hu : A.units + 64 < cLine) (kx : K.In s.heap) (ia : W.InstAt s.heap x ox C od)
    (hm : W.mroIn K C (.type "object") = some true) (he : W.findIn K (.ref C) "__eq__" = some (some (.ref f))) (hf : W.isFn K (.ref f) = true)
    (q : codeAny (model prog w) (A.under (.builtin "object.__ne__" ⟨[.ref x, u], []⟩)) (.call (.ref f) ⟨[.ref x, u], []⟩) (fun r s' => match r with | .ok (.ret v) => ∃ b, v = .bool b ∧ Q (.bool !b) s' | .ok _ => False | .error e => E e s') s) : wpAny (model prog w) A (call (.builtin "object.__ne__") [.ref x, u]) Q E s := by
  refine wpAny_call (codeAny_call_builtin_at (Code.quiet_builtin _ (by decide +kernel)) PySem.F.entry_object_ne (W.check_slot (owner := "object") (n := "__ne__") (by decide +kernel) (by decide +kernel) ?_ (PySem.F.args_object_ne_2 _ _) ?_))
  · intro A Q E s' k q
    unfold isInstance
    have t1 := ia.type (M := model prog w)
    have t2 := W.looks_mroIn (M := model prog w) kx hm
    refine wpAny_bind (t1 _ _ _ _ k (t2 _ _ _ _ k q))
  · unfold Builtin.«object.__ne__»
    have u2 : (A.under (.builtin "object.__ne__" ⟨[.ref x, u], []⟩)).units < cLine := by
      show A.units + 1 < _
      omega
    cases s with
    | mk h g d t os =>
    repeat (first
      | with_reducible refine wpAny_cRoomFor u2 ?_
      | with_reducible refine wpAny_bind (W.ifBound_K kx ia he hf ?_)
      | with_reducible refine W.ifBound_K kx ia he hf ?_
      | wp_step)
    refine codeAny_mono q fun r s' z => ?_
    cases r with
    | error e => exact z
    | ok fl =>
      cases fl with
      | ret v =>
        obtain ⟨b, rfl, z2⟩ := z
        refine wpAny_bind ?_
        cases s'
        repeat wp_step
        exact z2
      | next => exact z
      | brk => exact z
      | cont => exact z
theorem room_ne {k : Nat} {A : Around} (h : Room (k + 1) A) (args : Args) : Room k (A.under (.builtin "object.__ne__" args)) := ⟨h.hd, by
  have := h.dp
  have e : (A.under (.builtin "object.__ne__" args)).depth = A.depth := by
    show A.depth + Code.weight _ = _
    rw [show Code.weight (.builtin "object.__ne__" args) = 0 by unfold Code.weight; kernel_rfl]
    rfl
  omega, by
  have := h.un
  have e : (A.under (.builtin "object.__ne__" args)).units = A.units + 1 := by
    show A.units + Code.cUnits _ = _
    rw [show Code.cUnits (.builtin "object.__ne__" args) = 1 by unfold Code.cUnits; kernel_rfl]
  omega⟩
theorem env_ne {P : Program} {w : World} {K : PySem.W.Frag} {mg : Str → Option Value} {base : Heap} {A : Around} {outer : List Env} {s : Shared} {H : Hp} (h : Env0 P w K mg base A outer s H) (args : Args) : Env0 P w K mg base (A.under (.builtin "object.__ne__" args)) outer s H := ⟨h.frames, h.mod, h.bs, h.bsz, h.funs, h.frf, h.hok, h.bare⟩
theorem try_ne {M : Model} {A : Around} {E : Value → Shared → Prop} {s : Shared} {K : W.Frag} {x C : Addr} {ox : Obj} {od : Option Obj} {u : Value} {Q : Option Value → Shared → Prop} (kx : K.In s.heap) (ia : W.InstAt s.heap x ox C od)
    (hn : W.findIn K (.ref C) "__ne__" = some (some (.builtin "object.__ne__"))) (q : wpAny M A (call (.builtin "object.__ne__") [.ref x, u]) (fun v s' => ∃ b, v = .bool b ∧ Q (some (.bool b)) s') E s) : wpAny M A (tryCompare (.ref x) "__ne__" u) Q E s := by
  unfold tryCompare
  refine wpAny_bind (ifBound_ne kx ia hn (wpAny_mono q (fun v s' z => ?_) fun _ _ z => z))
  obtain ⟨b, rfl, z⟩ := z
  exact wpAny_pure z
def rNeO (K : W.Frag) (C : Addr) (sp : Sp) (E : XK) : R2 := fun x y H Q => ∃ a dx fs T, x = .ref a ∧ H a = some (.ins C dx fs) ∧ TyX K H y T ∧ (Value.ref C != T) = true ∧ W.subIn K T (.ref C) = some false ∧ sp [x, y] H (fun v H' => ∃ b, v = .bl b ∧ Q (.bl !b) H') E
theorem op_neO {X : Cx} {CX : CXT} {C g : Addr} {n : Nat} {sp : Sp} {E : XK} (hn : W.findIn X.K (.ref C) "__ne__" = some (some (.builtin "object.__ne__"))) (hm : W.mroIn X.K C (.type "object") = some true) (hs : W.findIn X.K (.ref C) "__eq__" = some (some (.ref g))) (hf : W.isFn X.K (.ref g) = true) (F : FnR X.prog X.w X.K X.mg X.base CX n g sp) (hr : Room (n + 1) X.A) (hx : Passes CX X E) : OpR X (compareOp .NotEq) (rNeO X.K C sp E) := by
  intro pins s σ H x y v u Q I rx ry h
  obtain ⟨a, dx, fs, T, rfl, ha, ty, nt, nf, q⟩ := h
  cases rx
  obtain ⟨od, ia⟩ := ins_at I ha
  obtain ⟨P, kx, hP, _⟩ := kit_of I ry ty
  have k := I.kIn
  have t1 := ia.type (M := model X.prog X.w)
  have t2 := kx.ty (model X.prog X.w) _ k hP
  have t3 := W.looks_subIn (M := model X.prog X.w) k nf
  have hu := hr.units
  have ru := SlX.run_at F (room_ne hr ⟨[.ref a, u], []⟩) (env_ne I.env0 _) hx I (show Vals [V.ref a, y] [Value.ref a, u] from .cons rfl (.cons ry .nil)) q
  refine W.cmp_ofNotEq ?_
  unfold richCompare
  rw [oneThing_ref]
  cases s with
  | mk h g d t os =>
  repeat (first
    | with_reducible refine wpAny_cRoomFor (by omega) ?_
    | with_reducible refine t1.at ?_
    | with_reducible refine t2.at ?_
    | wp_step)
  refine t3.at ?_
  show wpAny _ _ (tryCompare (Value.ref a) "__ne__" u >>= _) _ _ _
  refine wpAny_bind (try_ne k ia hn (call_ne (by omega) k ia hm hs hf ?_))
  refine codeAny_mono ru fun r s' z => ?_
  cases r with
  | error e => exact z
  | ok fl =>
    cases fl with
    | ret w =>
      obtain ⟨z1, H', I', rz, b, rfl, q⟩ := z
      cases (show w = Value.bool b from rz)
      exact ⟨b, rfl, _, rfl, wpAny_pure ⟨.bl !b, H', I', rfl, q⟩⟩
    | next => exact z
    | brk => exact z
    | cont => exact z
end Ow

namespace Cl
open PySem PySem.Spec PyProof.Rows L2 Sh
/-- cls(a, .., *rest), cls a name of the def -/
def tMakeL (C : Addr) (sp : Sp) (E : XK) (tf : TE) (t : TA) : TE := fun σ H Q => tf σ H fun y H1 => y = .ref C ∧ StX.tMakeR C sp E t σ H1 Q
theorem pe_makeL {X : Cx} {CX : CXT} {k : Nat} {f C : Addr} {sp : Sp} {E : XK} {x : Str} {e : Expr} {es : List Expr} {tf : TE} {t : TA} {p pos : Pos} (M : Mk X.K C f) (F : FnR X.prog X.w X.K X.mg X.base CX k f sp) (hr : Room (k + 1) X.A) (hf : PE X (.Name x p) tf) (hx : Passes CX X E) (ha : PA X (e :: es) t)
    (he : starEach (e :: es) X.env = (false, eval e X.env) :: starEach es X.env := by rfl) (hpl : (backTo pos (starEach es X.env)).any (·.1) = true := by rfl) : PE X (.Call (.Name x p) (e :: es) [] pos) (tMakeL C sp E tf t) := by
  refine ⟨fun pins s σ H Q I h => wpAny_Call_Name_kw (wpAny_mono (hf.run pins s σ H _ I h) (fun u s1 hh => ?_) fun _ _ z => z)⟩
  obtain ⟨y, H1, I1, r, rfl, q⟩ := hh
  cases r
  refine PySem.W.callWith_S2 (h₀ := X.base) I1.ok.mod.kin M.kp (thn (ha.run pos pins s1 σ H1 _ I1 q) fun us s2 hh => ?_) he hpl
  obtain ⟨vs, H2, I2, r, q⟩ := hh
  exact ⟨I2.kIn, StX.run_makeR M F hr hx I2 r q⟩
/-- tuples of texts and others, multiplied by 0, 1 or more -/
def rMulT (K : PySem.W.Frag) : R2 := fun x y H Q => ∃ (l : Addr) (k : Int) (xs : List V), x = .ref l ∧ y = .int k ∧ H l = some (.tup xs) ∧ xs ≠ [] ∧ 0 ≤ k ∧ k ≤ 1000 ∧ xs.length ≤ 1000 ∧ (k = 1 → Q (.ref l) H) ∧ (k ≠ 1 → ∀ p, H p = none → Q (.ref p) (upd H p (.tup (List.replicate k.toNat xs).flatten)))
theorem mul_one (l : Addr) (items : Array Value) (n : Nat) (dd : Option Addr) (sl : Array (Option Value)) (u : Tok) : Meets (Builtin.«tuple.__mul__» ⟨[.ref l, .int 1 u], []⟩) fun _ R s =>
    s.heap.get? l = some { cls := .type "tuple", dict := dd, data := .seq items n, slots := sl } ∧ R (.ok (.ret (.ref l))) s := by
  intro prog w A R s ⟨ho, hq⟩
  cases s with
  | mk h g d t os =>
  have ho : h.get? l = some { cls := .type "tuple", dict := dd, data := .seq items n, slots := sl } := ho
  delta Builtin.«tuple.__mul__»
  repeat (first
    | with_reducible refine wpAny_loadPart_at ho ?_
    | wp_step)
  exact hq
theorem mul_zero (l : Addr) (x : Value) (items : List Value) (n : Nat) (dd : Option Addr) (sl : Array (Option Value)) (u : Tok) : Meets (Builtin.«tuple.__mul__» ⟨[.ref l, .int 0 u], []⟩) fun _ R s =>
    s.heap.get? l = some { cls := .type "tuple", dict := dd, data := .seq (x :: items).toArray n, slots := sl } ∧ R (.ok (.ret (.ref s.heap.objs.size))) { s with heap := s.heap.push { cls := .type "tuple", data := .seq #[] } } := by
  intro prog w A R s ⟨ho, hq⟩
  cases s with
  | mk h g d t os =>
  have ho : h.get? l = some { cls := .type "tuple", dict := dd, data := .seq (x :: items).toArray n, slots := sl } := ho
  delta Builtin.«tuple.__mul__»
  repeat (first
    | with_reducible refine wpAny_loadPart_at ho ?_
    | wp_step)
  exact hq
theorem op_mulT {X : Cx} : OpR X (binaryOp .Mult) (rMulT X.K) := by
  intro pins s σ H x y v u Q I rx ry h
  obtain ⟨l, k, xs, rfl, rfl, hl, hne, k0, k1, hx, q1, q2⟩ := h
  by_cases e1 : k = 1
  · subst e1
    cases rx
    obtain ⟨t, rfl⟩ := ry
    obtain ⟨_, us, rv, o, h1, h2, n, h3⟩ := I.hok l _ hl
    obtain ⟨oc, od, dt, osl⟩ := o
    simp only at h2 h3
    subst h2 h3
    have ty : s.TypeIs (.ref l) "tuple" := ⟨_, h1, rfl⟩
    refine wpAny_binaryOp_repeat_ref (T := "tuple") (U := "int") (by decide +kernel) ty (fun s' => rfl) noFill_tuple_mul (by kernel_rfl) F.slot_int_rmul repeat_tuple F.slot_int_index.lookup ?_
    refine call_meets F.slot_int_rmul rfl F.entry_int_rmul (F.args_int_rmul_2 _ _) (int_rmul_tuple 1 t l _ n od osl) ⟨h1, rfl, ty, ?_⟩
    exact call_meets F.slot_tuple_mul ty F.entry_tuple_mul (F.args_tuple_mul_2 _ _) (mul_one l _ n od osl t) ⟨h1, .ref l, H, I, rfl, q1 rfl⟩
  · by_cases e0 : k = 0
    · subst e0
      cases rx
      obtain ⟨t, rfl⟩ := ry
      obtain ⟨_, us, rv, o, h1, h2, n, h3⟩ := I.hok l _ hl
      obtain ⟨oc, od, dt, osl⟩ := o
      simp only at h2 h3
      subst h2 h3
      cases rv with
      | nil => exact absurd rfl hne
      | @cons x0 u0 xs0 us0 a b =>
        have ty : s.TypeIs (.ref l) "tuple" := ⟨_, h1, rfl⟩
        refine wpAny_binaryOp_repeat_ref (T := "tuple") (U := "int") (by decide +kernel) ty (fun s' => rfl) noFill_tuple_mul (by kernel_rfl) F.slot_int_rmul repeat_tuple F.slot_int_index.lookup ?_
        refine call_meets F.slot_int_rmul rfl F.entry_int_rmul (F.args_int_rmul_2 _ _) (int_rmul_tuple 0 t l _ n od osl) ⟨h1, rfl, ty, ?_⟩
        refine call_meets F.slot_tuple_mul ty F.entry_tuple_mul (F.args_tuple_mul_2 _ _) (mul_zero l _ _ n od osl t) ⟨h1, ?_⟩
        have fr : H s.heap.objs.size = none := I.hok.fresh (Nat.le_refl _)
        exact ⟨.ref s.heap.objs.size, upd H s.heap.objs.size (.tup []), I.laid (o := .tup []) (t' := s.toks) (fun _ _ q => Heap.get?_push_of_some _ q) (Nat.le_refl _) ⟨Nat.zero_le _, [], .nil, _, Heap.get?_push_at rfl rfl, rfl, _, rfl⟩, rfl, q2 (by decide) _ fr⟩
    · exact op_repT pins s σ H _ _ v u Q I rx ry ⟨l, k, xs, rfl, rfl, .inl (.inl hl), hne, by omega, k1, hx, q2 e1⟩
end Cl

namespace Cl
open PySem PySem.Spec PyProof.Rows L2 Sh Eo LamX Xc
theorem passE {X : Cx} {E : XK} (tk : Takes X fun cls d _ H => E cls d H) : Passes (CX X.prog X.w) X E := fun pins σ H s e s' I h => passAt tk σ pins H s e s' I h
theorem passF {X : Cx} : Passes (CX X.prog X.w) X E0 := fun pins σ H s e s' I h => by
  obtain ⟨a, B, H', cls, d, _, _, _, _, _, _, _, h⟩ := h
  exact h.elim
/-! ### len and str of own classes -/
theorem room_in {k : Nat} {A : Around} (h : Room (k + 1) A) : Room k A.in1 := ⟨h.hd, by have := h.dp; have e : A.in1.depth = A.depth := rfl; omega, by have := h.un; have e : A.in1.units = A.units + 1 := rfl; omega⟩
theorem env_in {P : Program} {w : World} {K : PySem.W.Frag} {mg : Str → Option Value} {base : Heap} {A : Around} {outer : List Env} {s : Shared} {H : Hp} (h : Env0 P w K mg base A outer s H) : Env0 P w K mg base A.in1 outer s H := ⟨h.frames, h.mod, h.bs, h.bsz, h.funs, h.frf, h.hok, h.bare⟩
section
variable {X : Cx} {CX : CXT} {C g : Addr} {n : Nat} {sp : Sp} {E : XK}
def rLenO (C : Addr) (sp : Sp) (E : XK) : List V → Hp → VK → Prop := fun xs H Q => ∃ a dx fs, xs = [.ref a] ∧ H a = some (.ins C dx fs) ∧ sp [.ref a] H (fun v H' => ∃ i : Int, v = .int i ∧ 0 ≤ i ∧ i < 2 ^ 63 ∧ Q (.int i) H') E
theorem call_lenO (hs : W.findIn X.K (.ref C) "__len__" = some (some (.ref g))) (hf : W.isFn X.K (.ref g) = true) (F : FnR X.prog X.w X.K X.mg X.base CX n g sp) (hr : Room (n + 1) X.A) (hx : Passes CX X E) : CallR X (.builtin "len") (rLenO C sp E) := by
  intro pins s σ H xs us Q I r h
  obtain ⟨a, dx, fs, rfl, ha, q⟩ := h
  rw [Vals.ref1 r]
  obtain ⟨od, ia⟩ := Ow.ins_at I ha
  obtain ⟨m, fr⟩ := I.fr
  refine W.len_K fr I.ok.mod.kin ia hs hf (wpAny_call (codeAny_mono (SlX.run_at F (room_in hr) (env_in I.env0) hx I (show Vals [V.ref a] [Value.ref a] from .cons rfl .nil) q) fun r s' z => ?_))
  cases r with
  | error e => exact z
  | ok fl =>
    cases fl with
    | ret u =>
      obtain ⟨z1, H', I', rz, i, rfl, i0, i1, q⟩ := z
      obtain ⟨t, rfl⟩ := rz
      exact ⟨⟨i0, i1⟩, .int i, H', I'.tok _, ⟨_, rfl⟩, q⟩
    | next => exact z
    | brk => exact z
    | cont => exact z
def rStrO (C : Addr) (sp : Sp) (E : XK) : List V → Hp → VK → Prop := fun xs H Q => ∃ a dx fs, xs = [.ref a] ∧ H a = some (.ins C dx fs) ∧ sp [.ref a] H (fun v H' => ∃ z : Str, v = .str z ∧ Q (.str z) H') E
theorem call_strO (hs : W.findIn X.K (.ref C) "__str__" = some (some (.ref g))) (hf : W.isFn X.K (.ref g) = true) (F : FnR X.prog X.w X.K X.mg X.base CX n g sp) (hr : Room (n + 2) X.A) (hx : Passes CX X E) : CallR X (.type "str") (rStrO C sp E) := by
  intro pins s σ H xs us Q I r h
  obtain ⟨a, dx, fs, rfl, ha, q⟩ := h
  rw [Vals.ref1 r]
  obtain ⟨od, ia⟩ := Ow.ins_at I ha
  refine W.kso_call (by have := hr.units; show X.A.units + 1 + 1 < _; omega) I.kIn ia hs hf (wpAny_call (codeAny_mono (SlX.run_at F (room_in (room_in hr)) (env_in (env_in I.env0)) hx I (show Vals [V.ref a] [Value.ref a] from .cons rfl .nil) q) fun r s' z => ?_))
  cases r with
  | error e => exact z
  | ok fl =>
    cases fl with
    | ret u =>
      obtain ⟨z1, H', I', rz, y, rfl, q⟩ := z
      obtain ⟨t, rfl⟩ := rz
      exact ⟨.str y, H', I', ⟨_, rfl⟩, q⟩
    | next => exact z
    | brk => exact z
    | cont => exact z
end
/-! ### a class of errors, raised and caught -/
structure ErrC (K : PySem.W.Frag) (mg : Str → Option Value) (x : Str) (C : Addr) : Prop where
  gC : mg x = some (.ref C)
  ex : PySem.W.excIn K C [.type "ValueError", .type "Exception", .type "BaseException", .type "object"] "ValueError.__new__" = true
  kC : PySem.W.keepIn K (.ref C) = true
  bC : PySem.W.subIn K (.ref C) (.type "BaseException") = some true
  tC : PySem.W.typeIn K (.ref C) = some (.type "type")
  ss : PySem.W.subIn K (.ref C) (.ref C) = some true
  ec : ExcC K C
theorem ErrC.exm {K : PySem.W.Frag} {mg : Str → Option Value} {x : Str} {C : Addr} (T : ErrC K mg x C) : PySem.W.exmOne K (.ref C) (.ref C) = some true := PySem.W.exm_ref T.bC T.ec.hd T.tC T.ss
/-- try: return call() except X: return None -/
def TMetV (C : Addr) : (XK → Hp → VK → Prop) → Hp → VK → Prop := fun tl H Q => tl (fun cls d H' => cls = .ref C ∧ Q .non H') H Q
section
variable {X : Cx}
theorem metV_gives {Ng : List Str} {nm a q x : Str} {sg : Scope} {g C : Addr} {cdg : Value} {j : Nat} {p1 p2 p3 p4 p5 p6 p7 p8 : Pos} (T : ErrC X.K X.mg x C)
    (h1 : sg.names.lookup x = some .globalImplicit) (hx : (x == ("__debug__" : Str)) = false) (h0 : ∀ f : Addr, (L2.start Ng [V.ref f])[0]? = some (some (V.ref f))) :
    GivesTo X Ng nm sg g cdg [.Try [.Return (some (.Call (.Name a p1) [] [] p2)) p3] [.ExceptHandler (some (.Name x p4)) none [.Return (some (.Constant .none j p5)) p6] p7] [] [] p8] a q (TMetV C) := by
  intro f c' s H Q tl act hc h
  let Z : Cx := (cxOf C8.CX0 X.prog X.w X.K X.mg X.base Ng nm sg g cdg X.A X.stack s H C8.E0).nox
  have g1 : Gl Z x := h1
  refine ⟨_, pss_one (ps_try_only (X := Z) (c := .ref C) (Wout := fun _ _ _ _ => False)
      (tb := fun W D σ H => ∃ Ech : XK, (∀ cls d σ' H', Ech cls d H' → W cls d σ' H') ∧ σ[0]? = some (some (.ref f)) ∧ H c' = some (CodeO c' q) ∧ tl Ech H D.rt)
      (ts := fun a cls d D σ H => D.rt .non H)
      rfl rfl ⟨g1, hx, .inl T.gC⟩ L2.takes0 (fun W pn xe tk _ => ?_) (fun a oe cls d pn hz hf => ?_)), ?_⟩
  · refine ⟨fun pins s' σ H' D I h' => ?_⟩
    obtain ⟨Ech, hW, k1, k2, k3⟩ := h'
    have hp := act W pn xe Ech p1 p2 tk hW
    exact (pss_one (ps_ret (pos := p3) hp)).run pins s' σ H' D I ⟨k1, k2, k3⟩
  · refine ⟨fun pins s' σ H' D I h' => ?_⟩
    exact (pss_one (ps_ret (pos := p6) pe_non)).run pins s' σ H' D I h'
  · refine ⟨fun cls d H' => cls = .ref C ∧ Q .non H', fun cls d σ' H' hw => ?_, h0 f, hc, h⟩
    obtain ⟨rfl, hq⟩ := hw
    exact ⟨true, T.exm, fun _ a ha => hq, fun z => nomatch z⟩
end
/-! ### defs with lambdas that are called where no guard stands -/
section
variable {P : Program} {w : World} {K : PySem.W.Frag} {mg : Str → Option Value} {base : Heap}
theorem fnG_of {f : Addr} {name qual : Str} {params : Arguments} {body : List Stmt} {scope : Scope} {dV kV doc pm cdv ct oc : Value} {an od : Option Addr} {osl : Array (Option Value)} {N ps : List Str} {k : Nat} {sp : Sp}
    (lk : K.lookup f = some ⟨oc, od, .func (PySem.W.fnOf name qual params body scope dV kV doc pm an cdv ct), osl⟩) (hcd : PySem.W.codeIn K cdv qual = true) (S : FnScope N ps scope) (len : ∀ vs H Q E, sp vs H Q E → vs.length = ps.length)
    (hbody : ∀ (A : Around) (outer : List Env) (s : Shared) (H : Hp) (vs : List V) (Q : VK) (E : XK), A.guards = some [] → Room k (A.deeper (envOfC qual scope s.heap.objs.size f cdv)) → sp vs H Q E →
      ∃ t, PSs (cxOf CX0 P w K mg base N qual scope f cdv A outer s H E).nox body t ∧ t { nx := fun _ H' => Q .non H', rt := Q } (start N vs) H) : FnG P w K mg base (k + 1) f (PySem.W.fnOf name qual params body scope dV kV doc pm an cdv ct) ps sp := by
  refine ⟨len, fun A outer s H args us vs Q E hg hr e0 hb r hsp => ?_⟩
  have hl := len _ _ _ _ hsp
  have old := fun b o e => (e0.bs b o e).1
  have par : ∀ y ∈ ps.zip us, scope.names.lookup y.1 = some .local ∨ (scope.names.lookup y.1 = some .cell ∧ ((cellsFrom (s.heap.objs.size + 1) scope.names []).lookup y.1).isSome = true) := by
    intro ⟨n, v⟩ hy
    rcases S.par n (List.of_mem_zip hy).1 with q | q
    · exact .inl q
    · exact .inr ⟨q, PySem.W.cellsFrom_some _ _ _ (.inl q)⟩
  have KX : K.In s.heap := e0.mod.kin.keeps old
  refine codeAny_call_function hr.depth (KX _ _ lk) rfl S.co S.gen rfl (PySem.W.codeRec_of KX hcd) (hb _ _ _ _ (wpAny_newFunctionEnv_cells S.kind par fun env he s1 x1 => ?_))
  subst he
  refine ⟨(e0.mod.nolimit.keeps old).keeps x1.toInCall.keep, codeAny_func ?_⟩
  obtain ⟨t, ht0, hq⟩ := hbody A outer s H vs Q E hg (hr.deeper _) hsp
  have ht := ht0.nox
  have I0 := inv_start (CX := CX0) (E := E) S hr.hd e0 hl r x1
  refine wpAny_mono (ht.run [] s1 (start N vs) H _ I0 hq) (fun fl s' hs => ?_) fun e s' hs => hs
  cases fl with
  | ret u =>
    obtain ⟨v, σ', H', J, rv, q⟩ := hs
    exact ⟨v, H', J.os, J.bare, J.base, J.hok, rv, q⟩
  | next =>
    obtain ⟨σ', H', J, q⟩ := hs
    exact ⟨.non, H', J.os, J.bare, J.base, J.hok, rfl, q⟩
  | brk =>
    obtain ⟨_, _, _, q⟩ := hs
    exact q.elim
  | cont =>
    obtain ⟨_, _, _, q⟩ := hs
    exact q.elim
end

/-! ### the end, with tables -/
theorem law_callTG {P : Program} {w : World} {K : PySem.W.Frag} {mg mb : Str → Option Value} {k : Nat} {fa a : Addr} {cs : List (Addr × Addr)} {fd : FuncData} {x : Str} {sp : Sp} {s1 : Shared} {vs : List Value} {ns : List Int}
    (kx : K.In s1.heap) (hns : s1.heap.Ns mainGlobals mg) (nb : s1.heap.Ns builtinsNs mb) (bb : ∀ x : Str, x ≠ "__name__" → mb x = bootBuiltins x) (lim : s1.heap.NoLimit) (gen0 : s1.gens = #[])
    (hT : ∀ p ∈ cs, s1.heap.get? p.2 = some (PySem.W.tabObj #[])) (nT : ∀ p ∈ cs, K.lookup p.2 = none) (Cd : ∀ p ∈ cs, PySem.W.CodeHd s1.heap p.1 p.2)
    (bmain : ∃ bm ob, mg "__builtins__" = some (.ref bm) ∧ bm ≠ builtinsNs ∧ s1.heap.get? bm = some ob ∧ ob.cls = .type "module" ∧ ob.dict = some builtinsNs ∧ ob.data = .plain)
    (ga : s1.heap.get? a = some { cls := .type "list", data := .seq vs.toArray }) (hi : IntsAre vs ns) (hl : ns.length ≤ sizeLine) (hr : Room k callerA)
    (F : ∀ base : Heap, K.In base → base.Ns mainGlobals mg → (∀ p ∈ cs, TabB base mg p.1 p.2) → FnG P w K mg base k fa fd [x] sp) (bnd : ∀ (s : Shared) (u : Value), BindsTo s fd ⟨[u], []⟩ [(x, u)])
    (hsp : ∀ H : Hp, (∀ p ∈ cs, H p.2 = some (.tbl #[])) → SqL K H a (ns.map V.int) → sp [.ref a] H (fun v _ => v = .bl true) E0) :
    codeAny (model P w) callerA (.call (.ref fa) ⟨[.ref a], []⟩) (fun r s' => r = .ok (.ret (.bool true)) ∧ OldK s1.heap s'.heap ∧ s'.os = s1.os ∧ AllBare s'.gens) s1 := by
  have rv := vals_ints hi
  have ln := hi.length
  have ac : ∀ p ∈ cs, p.2 ≠ a := fun p hp e => by
    have := hT p hp
    rw [e, ga] at this
    cases this
  have main : ∀ H : Hp, (∀ p ∈ cs, H p.2 = some (.tbl #[])) → SqL K H a (ns.map V.int) → HOk P w H s1.heap → (∀ b, H b ≠ none → b = a ∨ ∃ p ∈ cs, p.2 = b) → (∀ u, H a = some u → ∃ ob xs, u = .frz ob xs) → (H a ≠ none → K.lookup a = none) →
      codeAny (model P w) callerA (.call (.ref fa) ⟨[.ref a], []⟩) (fun r s' => r = .ok (.ret (.bool true)) ∧ OldK s1.heap s'.heap ∧ s'.os = s1.os ∧ AllBare s'.gens) s1 := by
    intro H tb sq okh hA only hK
    have hid : ∀ {b : Addr} {o : Obj}, s1.heap.get? b = some o → (H b ≠ none → False) → (hidT s1.heap H).get? b = some o := fun {b o} e n => hidT_get e (by
      cases z : H b with
      | none => rfl
      | some u => exact (n (by rw [z]; simp)).elim)
    have other : ∀ {b : Addr} {o : Obj}, s1.heap.get? b = some o → o.cls ≠ .type "list" → o.cls ≠ .none → H b ≠ none → False := fun {b o} e h1 h2 n => by
      rcases hA b n with z | ⟨p, hp, z⟩
      · subst z
        rw [ga] at e
        cases e
        exact h1 rfl
      · subst z
        rw [hT p hp] at e
        cases e
        exact h2 rfl
    have dicts : ∀ {b : Addr} {o : Obj} {es : Array DictEntry} {ep : Nat}, s1.heap.get? b = some o → o.data = .dict es ep → H b ≠ none → False := fun {b o es ep} e d n => by
      rcases hA b n with z | ⟨p, hp, z⟩
      · subst z
        rw [ga] at e
        cases e
        have d' : Data.seq vs.toArray _ = Data.dict es ep := d
        cases d'
      · subst z
        rw [hT p hp] at e
        cases e
        cases d
    have nsK : ∀ {b : Addr} {m : Str → Option Value}, s1.heap.Ns b m → (hidT s1.heap H).Ns b m := fun {b m} h => by
      obtain ⟨o, es, ep, e, d, r⟩ := h
      exact ⟨o, es, ep, hid e (dicts e d), d, r⟩
    have inB : K.In (hidT s1.heap H) := fun b o e => hid (kx b o e) fun n => by
      rcases hA b n with z | ⟨p, hp, z⟩
      · subst z
        rw [hK n] at e
        cases e
      · subst z
        rw [nT p hp] at e
        cases e
    have md : Mod K mg (hidT s1.heap H) := by
      obtain ⟨mc, h1, h2⟩ := lim
      exact ⟨inB, nsK hns, ⟨mb, nsK nb, bb⟩, ⟨mc, nsK h1, h2⟩⟩
    have env : Env0 P w K mg (hidT s1.heap H) callerA [] s1 H := by
      refine ⟨rfl, md, fun b o e => of_hidT e, Nat.le_of_eq (hidT_size _ _), trivial, fun b z => ?_, okh, .of_eq gen0⟩
      exact absurd (show b ∈ ([] : List Addr) from z) (by simp)
    have tabs : ∀ p ∈ cs, TabB (hidT s1.heap H) mg p.1 p.2 := fun p hp => by
      obtain ⟨og, es, ep, eg, dg, _⟩ := hns
      have gP : mainGlobals ≠ p.2 := fun z => by
        rw [z, hT p hp] at eg
        cases eg
        cases dg
      refine ⟨?_, ?_, gP⟩
      · obtain ⟨o, vs2, file, tf, flags, tg, inF, text, tt, h1, h2, h3⟩ := Cd p hp
        exact ⟨o, vs2, file, tf, flags, tg, inF, text, tt, hid h1 (other h1 (by rw [h2]; simp) (by rw [h2]; simp)), h2, h3⟩
      · obtain ⟨bm, ob, b1, b2, b3, b4, b5, b6⟩ := bmain
        refine ⟨bm, ob, b1, b2, fun z => ?_, fun z => ?_, hid b3 (other b3 (by rw [b4]; simp) (by rw [b4]; simp)), b4, b5, b6⟩
        · rw [z, eg] at b3
          cases b3
          rw [dg] at b6
          cases b6
        · rw [z, hT p hp] at b3
          cases b3
          cases b4
    refine codeAny_mono ((F _ inB (nsK hns) tabs).run callerA [] s1 H ⟨[.ref a], []⟩ [.ref a] [.ref a] _ _ guards_caller hr env (bnd s1 (.ref a)) (.cons rfl .nil) (hsp H tb sq)) fun r s' h => ?_
    cases r with
    | error e => exact h.elim
    | ok fl =>
      cases fl with
      | next => exact h.elim
      | brk => exact h.elim
      | cont => exact h.elim
      | ret u =>
        obtain ⟨v, H', os, bare, un, ok2, rv2, q⟩ := h
        have q' : v = .bl true := q
        subst q'
        cases (show u = Value.bool true from rv2)
        have was : ∀ b o, s1.heap.get? b = some o → asItWas s1.heap s'.heap b o := fun b o e => by
          cases z : H b with
          | none => exact .inl (un.keep b o e z (by intro y; exact absurd (show b ∈ ([] : List Addr) from y) (by simp)) (by simp))
          | some u =>
            rcases hA b (by rw [z]; simp) with y | ⟨p, hp, y⟩
            · subst y
              obtain ⟨ob, xs, y⟩ := only u z
              subst y
              obtain ⟨e1, _⟩ := okh b _ z
              obtain ⟨e2, _⟩ := ok2 b _ (un.frzs b ob _ z)
              rw [e] at e1
              cases e1
              exact .inl e2
            · subst y
              rw [tb p hp] at z
              cases z
              obtain ⟨more, hm⟩ := un.tbls p.2 #[] (tb p hp)
              have e2 := ok2 p.2 _ hm
              rw [hT p hp] at e
              cases e
              obtain ⟨o, vs2, file, tf, flags, tg, inF, text, tt, h1, h2, h3, h4, _⟩ := Cd p hp
              exact .inr (.inl ⟨⟨p.1, o, vs2, h1, h2, h3, h4⟩, rfl, #[], more, rfl, e2⟩)
        refine ⟨rfl, ⟨was, fun b o e => ?_⟩, os, bare⟩
        rcases was b o e with h | ⟨_, _, _, _, _, h⟩ | ⟨_, _, ⟨o', _, _, h, _⟩, _⟩
        · exact ⟨_, h⟩
        · exact ⟨_, h⟩
        · exact ⟨_, h⟩
  have dec : ∀ b, Decidable (∃ p ∈ cs, p.2 = b) := fun b => Classical.propDecidable _
  have okT : ∀ (H : Hp) p, p ∈ cs → ObjOk P w H s1.heap p.2 (.tbl #[]) := fun H p hp => by
    simp only [L2.ObjOk]
    exact hT p hp
  cases z : K.lookup a with
  | some o =>
    have e := kx a o z
    rw [ga] at e
    cases e
    have hc : ∀ b u, (if ∃ p ∈ cs, p.2 = b then some (HO.tbl #[]) else none) = some u → ∃ p ∈ cs, p.2 = b ∧ u = .tbl #[] := fun b u y => by
      by_cases hb : ∃ p ∈ cs, p.2 = b
      · rw [if_pos hb] at y
        cases y
        obtain ⟨p, hp, e⟩ := hb
        exact ⟨p, hp, e, rfl⟩
      · rw [if_neg hb] at y
        cases y
    refine main (fun b => if ∃ p ∈ cs, p.2 = b then some (.tbl #[]) else none) (fun p hp => if_pos ⟨p, hp, rfl⟩) (.inr ⟨_, vs.toArray, _, z, rfl, rfl, rfl, ?_, ?_⟩) (fun b u y => ?_) (fun b y => ?_) (fun u y => ?_) fun y => ?_
    · rw [List.size_toArray, ln]
      exact hl
    · simpa using rv
    · obtain ⟨p, hp, rfl, rfl⟩ := hc b u y
      exact okT _ p hp
    · by_cases hb : ∃ p ∈ cs, p.2 = b
      · exact .inr hb
      · exact absurd (if_neg hb) y
    · obtain ⟨p, hp, e, _⟩ := hc a u y
      exact absurd e (ac p hp)
    · refine absurd (if_neg fun hb => ?_) y
      obtain ⟨p, hp, e⟩ := hb
      exact ac p hp e
  | none =>
    have H1 : ∀ p ∈ cs, (if p.2 = a then some (HO.frz { cls := .type "list", data := .seq vs.toArray } (.lst (ns.map V.int))) else if ∃ q ∈ cs, q.2 = p.2 then some (.tbl #[]) else none) = some (.tbl #[]) := fun p hp => by rw [if_neg (ac p hp), if_pos ⟨p, hp, rfl⟩]
    refine main (fun b => if b = a then some (.frz { cls := .type "list", data := .seq vs.toArray } (.lst (ns.map V.int))) else if ∃ p ∈ cs, p.2 = b then some (.tbl #[]) else none) H1 (.inl (.inr ⟨{ cls := .type "list", data := .seq vs.toArray }, if_pos rfl⟩)) (fun b u y => ?_) (fun b y => ?_) (fun u y => ?_) fun _ => z
    · by_cases hb : b = a
      · have y' := (if_pos hb).symm.trans y
        cases y'
        subst hb
        exact ⟨ga, by rw [List.length_map]; exact hl, vs, _, rv, ga⟩
      · have y' := (if_neg hb).symm.trans y
        by_cases hc : ∃ p ∈ cs, p.2 = b
        · have y2 := (if_pos hc).symm.trans y'
          cases y2
          obtain ⟨p, hp, rfl⟩ := hc
          exact okT _ p hp
        · have y2 := (if_neg hc).symm.trans y'
          cases y2
    · by_cases hb : b = a
      · exact .inl hb
      · by_cases hc : ∃ p ∈ cs, p.2 = b
        · exact .inr hc
        · exact absurd ((if_neg hb).trans (if_neg hc)) y
    · have y' := (if_pos rfl).symm.trans y
      cases y'
      exact ⟨_, _, rfl⟩
def LawAtG (l : PySem.W.OpenLaw) (w : World) (K : PySem.W.Frag) (k n : Nat) (x : Str) (mg : Str → Option Value) (fa : Addr) (h : Heap) : Prop :=
  ∃ (fd : FuncData) (cs : List (Addr × Addr)) (sp : Sp), (∀ p ∈ cs, h.get? p.2 = some (PySem.W.tabObj #[])) ∧ (∀ p ∈ cs, K.lookup p.2 = none) ∧ (∀ p ∈ cs, PySem.W.CodeHd h p.1 p.2) ∧ (∀ (s : Shared) (u : Value), BindsTo s fd ⟨[u], []⟩ [(x, u)]) ∧
    (∀ (H : Hp) (a : Addr) (ns : List Int), ns.length ≤ n → (∀ p ∈ cs, H p.2 = some (.tbl #[])) → SqL K H a (ns.map V.int) → sp [.ref a] H (fun v _ => v = .bl true) E0) ∧
      ∀ base : Heap, K.In base → base.Ns mainGlobals mg → (∀ p ∈ cs, TabB base mg p.1 p.2) → FnG l.prog w K mg base k fa fd [x] sp
theorem walk_tabsG {l : PySem.W.OpenLaw} {n k : Nat} {q : Program} {loose : List Str} {XP : (Str → Option Value) → Heap → Prop} {YP : World → Heap → Prop} {d : DefRec} {K : Params → PySem.W.Frag} {x : Str}
    (names : List Str) (hrec : ∀ y ∈ names, ((recsOf q).find? fun e => e.name == y).isSome = true) (hn : l.most = some n) (hn2 : n ≤ sizeLine) (hdf : d.params.defaults = []) (hr : Room k callerA) (hY : ∀ (w : World) (h : Heap), YP w h → (K w.params).In h)
    (F : ∀ (w : World) (mg : Str → Option Value) (fa : Addr) (h : Heap), (K w.params).In h → h.Ns mainGlobals mg → mg d.name = some (.ref fa) →
      (∀ y ∈ names, ∀ c P, PySem.W.tabIn (K w.params) y = some (c, P) → PySem.W.CodeHd h c P ∧ h.get? P = some (PySem.W.tabObj #[])) → LawAtG l w (K w.params) k n x mg fa h) :
    PySem.W.WalkO q loose XP YP l.row.toRowW d [] (fun f vs => PySem.call f vs) := by
  refine Att.attach_callB hn hdf fun w s0 s1 mg mb fa o pm cd doc a vs ns G Y ho hd hcd hmg hobj hints hlen hbits hg => ?_
  have KX := hY w _ Y
  have tabs : ∀ y ∈ names, ∀ c P, PySem.W.tabIn (K w.params) y = some (c, P) → PySem.W.CodeHd s1.heap c P ∧ s1.heap.get? P = some (PySem.W.tabObj #[]) := fun y hy c P ht => by
    obtain ⟨dd, hdd⟩ := Option.isSome_iff_exists.mp (hrec y hy)
    exact PySem.W.tab_of G.T KX hdd ht
  obtain ⟨fd, cs, sp, hT, nT, C, hb, hsp, hF⟩ := F w mg fa _ KX G.T.g hmg tabs
  exact law_callTG KX G.T.g G.T.b G.T.builtins G.T.nolimit hg hT nT C G.T.bmain hobj hints (Nat.le_trans hlen hn2) hr hF hb fun H hH hS => hsp H a ns hlen hH hS
end Cl

/-! comprehensions over tuples of data; what is told of sets, pairs, moves -/
namespace Dt
open PySem PySem.Spec PyProof.Rows L2 Sh
theorem DAll.getD {H : Hp} {vs : List V} {ds : List PyData} {i : Nat} {v : V} {d : PyData} (a : DAll H vs ds) (e : vs[i]? = some v) (e2 : ds[i]? = some d) : D H v d := by
  obtain ⟨d', h1, h2⟩ := a.get e
  rw [e2] at h1
  cases h1
  exact h2
section
variable {K : PySem.W.Frag} {a : Addr} {xs : List V} {ds : List PyData} {f : PyData → Bool} {g : TG} {tt : TT} {te : TE} {vs : List Nat} {σ : L2.St} {H : Hp} {E : Addr} {Qd : Hp → Prop}
/-- [ask(one) for one in t] -/
theorem lc_all (hE : H E = none) (ha : H a = some (.tup xs)) (hd : DAll H xs ds) (hl : xs.length ≤ 1000)
    (step : ∀ (x : V) (d : PyData) (H2 : Hp), D H2 x d → d ∈ ds → Same H H2 → ∀ R : VK, (∀ H3, Same H2 H3 → R (.bl (f d)) H3) → g x (wipe σ vs) H2 fun σ2 H3 => wipe σ2 vs = wipe σ vs ∧ te σ2 H3 R)
    (fin : ∀ H3, Same H H3 → H3 E = some (.lst ((ds.map f).map V.bl)) → Qd H3) :
    ∃ W : Nat → Nat → Hp → Prop, (∃ m, W 0 m (upd H E (HO.lst []))) ∧ ∀ (i m : Nat) (H : Hp), W i m H → (Itt K a).stop i H ∧ Qd H ∨ (Itt K a).go i H ∧ ∃ Nx : Hp → Prop, (∀ (H' : Hp), Nx H' → ∃ m', m' < m ∧ W (i + 1) m' H') ∧ ∀ (x : V) (H' : Hp), (Itt K a).yld i H x H' →
      g x (wipe σ vs) H' fun σ2 H2 => wipe σ2 vs = wipe σ vs ∧ tYes σ2 H2 fun b H3 => if b = true then te σ2 H3 fun y H4 => ∃ acc, H4 E = some (HO.lst acc) ∧ acc.length < sizeLine ∧ Nx (upd H4 E (HO.lst (acc ++ [y]))) else Nx H3 := by
  have ln := hd.len
  refine lc_tup (xs := xs) (fun i H1 => Same H H1 ∧ H1 E = some (.lst (((ds.take i).map f).map V.bl))) ⟨same_new (Same.refl H) hE, upd_same⟩ (fun i H1 _ hq => .inl (.inl (hq.1 _ _ ha))) (fun i x H1 hx hq => ?_) (fun H1 hq => ?_)
  · obtain ⟨s1, l1⟩ := hq
    obtain ⟨d, hdi, hxd⟩ := hd.get hx
    refine step x d H1 (hxd.same s1) (List.mem_of_getElem? hdi) s1 _ fun H3 s3 => ⟨_, s3 _ _ l1, ?_, same_put (s1.trans s3) hE, ?_⟩
    · rw [List.length_map, List.length_map, List.length_take]
      exact small1000 (Nat.le_trans (Nat.min_le_left _ _) (by have := (List.getElem?_eq_some_iff.mp hx).1; omega))
    · rw [upd_same, List.take_add_one, hdi, List.map_append, List.map_append]
      rfl
  · obtain ⟨s1, l1⟩ := hq
    rw [ln, List.take_of_length_le (Nat.le_refl _)] at l1
    exact fin H1 s1 l1
/-- [one for one in t if not ask(one)] -/
theorem lc_bad (hE : H E = none) (ha : H a = some (.tup xs)) (hd : DAll H xs ds) (hl : xs.length ≤ 1000)
    (step : ∀ (x : V) (d : PyData) (H2 : Hp), D H2 x d → d ∈ ds → Same H H2 → ∀ (N : V → Hp → Prop) (M : Hp → Prop), (∀ H3, Same H2 H3 → if f d = true then M H3 else N x H3) → g x (wipe σ vs) H2 fun σ2 H3 => wipe σ2 vs = wipe σ vs ∧ tt σ2 H3 fun b H4 => if b = true then te σ2 H4 N else M H4)
    (fin : ∀ H3 ys, Same H H3 → H3 E = some (.lst ys) → ys.isEmpty = ds.all f → Qd H3) :
    ∃ W : Nat → Nat → Hp → Prop, (∃ m, W 0 m (upd H E (HO.lst []))) ∧ ∀ (i m : Nat) (H : Hp), W i m H → (Itt K a).stop i H ∧ Qd H ∨ (Itt K a).go i H ∧ ∃ Nx : Hp → Prop, (∀ (H' : Hp), Nx H' → ∃ m', m' < m ∧ W (i + 1) m' H') ∧ ∀ (x : V) (H' : Hp), (Itt K a).yld i H x H' →
      g x (wipe σ vs) H' fun σ2 H2 => wipe σ2 vs = wipe σ vs ∧ tt σ2 H2 fun b H3 => if b = true then te σ2 H3 fun y H4 => ∃ acc, H4 E = some (HO.lst acc) ∧ acc.length < sizeLine ∧ Nx (upd H4 E (HO.lst (acc ++ [y]))) else Nx H3 := by
  have ln := hd.len
  refine lc_tup (xs := xs) (fun i H1 => Same H H1 ∧ ∃ ys, H1 E = some (.lst ys) ∧ ys.length ≤ i ∧ ys.isEmpty = (ds.take i).all f) ⟨same_new (Same.refl H) hE, [], upd_same, Nat.le_refl _, by simp⟩ (fun i H1 _ hq => .inl (.inl (hq.1 _ _ ha))) (fun i x H1 hx hq => ?_) (fun H1 hq => ?_)
  · obtain ⟨s1, ys, l1, l2, l3⟩ := hq
    obtain ⟨d, hdi, hxd⟩ := hd.get hx
    have hi := (List.getElem?_eq_some_iff.mp hx).1
    refine step x d H1 (hxd.same s1) (List.mem_of_getElem? hdi) s1 _ _ fun H3 s3 => ?_
    have e1 : (ds.take (i + 1)).all f = ((ds.take i).all f && f d) := by
      rw [List.take_add_one, hdi, List.all_append]
      simp
    cases e : f d with
    | true =>
      rw [if_pos rfl]
      exact ⟨s1.trans s3, ys, s3 _ _ l1, by omega, by rw [e1, e, Bool.and_true, l3]⟩
    | false =>
      rw [if_neg (by decide)]
      refine ⟨ys, s3 _ _ l1, small1000 (by omega), same_put (s1.trans s3) hE, ys ++ [x], upd_same, by rw [List.length_append]; simp; omega, ?_⟩
      rw [e1, e, Bool.and_false]
      cases ys <;> rfl
  · obtain ⟨s1, ys, l1, l2, l3⟩ := hq
    rw [ln, List.take_of_length_le (Nat.le_refl _)] at l3
    exact fin H1 ys s1 l1 l3
end
/-! ### what the looks tell -/
def g1 (c : Nat) : Bool := !decide ((⟨#[c]⟩ : Str).cps.toList < (Str.ofString "a").cps.toList)
def g2 (c : Nat) : Bool := !decide ((Str.ofString "z").cps.toList < (⟨#[c]⟩ : Str).cps.toList)
def gg (c : Nat) : Bool := g1 c && g2 c
def nameOf (z : Str) : Bool := decide (1 ≤ z.length) && decide (z.length ≤ 8) && (z.cps.toList.map gg).all id
def isN : PyData → Bool
  | .int _ => true
  | _ => false
theorem isN_eq (d : PyData) : isN d = (isI d && !isB d) := by cases d <;> rfl
def isNum (n : Int) : PyData → Bool
  | .int i => decide (0 ≤ i) && decide (i < n)
  | _ => false
def intOf : PyData → Int
  | .int i => i
  | _ => 0
def rowOf : PyData → List Int
  | .tuple ds => ds.map intOf
  | _ => []
/-- each beside the next one -/
def adj {α : Type} (lt : α → α → Bool) : List α → List Bool
  | a :: b :: r => lt a b :: adj lt (b :: r)
  | _ => []
theorem adj_len {α : Type} (lt : α → α → Bool) : ∀ xs : List α, (adj lt xs).length = xs.length - 1
  | [] => rfl
  | [_] => rfl
  | a :: b :: r => by
    have := adj_len lt (b :: r)
    simp only [adj, List.length_cons] at this ⊢
    omega
theorem adj_at {α : Type} (lt : α → α → Bool) : ∀ (xs : List α) (i : Nat) (a b : α), xs[i]? = some a → xs[i + 1]? = some b → (adj lt xs)[i]? = some (lt a b)
  | [], i, a, b, e, _ => by simp at e
  | [x], i, a, b, _, e => by simp at e
  | x :: y :: r, 0, a, b, e1, e2 => by
    simp at e1 e2
    subst e1 e2
    rfl
  | x :: y :: r, i + 1, a, b, e1, e2 => by
    have := adj_at lt (y :: r) i a b (by simpa using e1) (by simpa using e2)
    simpa [adj] using this
def asc {α : Type} (lt : α → α → Bool) (xs : List α) : Bool := (adj lt xs).all id
theorem asc_pw {α : Type} {lt : α → α → Bool} (tr : ∀ x y z, lt x y = true → lt y z = true → lt x z = true) : ∀ xs : List α, asc lt xs = true ↔ xs.Pairwise fun x y => lt x y = true
  | [] => by simp [asc, adj]
  | [_] => by simp [asc, adj]
  | a :: b :: r => by
    have ih := asc_pw tr (b :: r)
    have e : asc lt (a :: b :: r) = (lt a b && asc lt (b :: r)) := by simp [asc, adj]
    rw [e, Bool.and_eq_true, ih, List.pairwise_cons (a := a)]
    constructor
    · rintro ⟨h1, h2⟩
      refine ⟨fun z hz => ?_, h2⟩
      rcases List.mem_cons.mp hz with rfl | hz
      · exact h1
      · exact tr _ _ _ h1 ((List.pairwise_cons.mp h2).1 z hz)
    · rintro ⟨h1, h2⟩
      exact ⟨h1 b List.mem_cons_self, h2⟩
def ltI (x y : Int) : Bool := decide (x < y)
def isSet (n : Int) : PyData → Bool
  | .tuple ds => !ds.isEmpty && ds.all (isNum n) && asc ltI (ds.map intOf)
  | _ => false
def isPair (n : Int) : PyData → Bool
  | .tuple [a, b] => isNum n a && isNum n b
  | _ => false
def isPairs (n : Int) : PyData → Bool
  | .tuple ds => !ds.isEmpty && ds.all (isPair n) && asc HT.lexLt (ds.map rowOf)
  | _ => false
theorem ints_of_all {n : Int} : ∀ {ds : List PyData}, ds.all (isNum n) = true → ds = (ds.map intOf).map PyData.int
  | [], _ => rfl
  | d :: r, h => by
    rw [List.all_cons, Bool.and_eq_true] at h
    rw [List.map_cons, List.map_cons, ← ints_of_all h.2]
    cases d with
    | int i => rfl
    | _ => exact absurd h.1 (by intro z; cases z)
theorem vals_ints {H : Hp} : ∀ {vs : List V} {ns : List Int}, DAll H vs (ns.map PyData.int) → vs = ns.map V.int
  | _, [], a => by
    cases a
    rfl
  | _, n :: ns, a => by
    cases a with
    | cons h t =>
      cases h
      rw [List.map_cons, vals_ints t]
theorem ints_vals {H : Hp} : ∀ ns : List Int, DAll H (ns.map V.int) (ns.map PyData.int)
  | [] => .nil
  | n :: ns => .cons (.int n) (ints_vals ns)
/-- rows of whole numbers -/
theorem rows_of_all {n : Int} : ∀ {ds : List PyData}, ds.all (isPair n) = true → ds = (ds.map rowOf).map Zt.rowD
  | [], _ => rfl
  | d :: r, h => by
    rw [List.all_cons, Bool.and_eq_true] at h
    rw [List.map_cons, List.map_cons, ← rows_of_all h.2]
    congr 1
    match d, h.1 with
    | .tuple [a, b], h1 =>
      have h1 : (isNum n a && isNum n b) = true := h1
      rw [Bool.and_eq_true] at h1
      match a, b, h1 with
      | .int i, .int j, _ => rfl
theorem vals_rows {H : Hp} : ∀ {vs : List V} {ks : List (List Int)}, DAll H vs (ks.map Zt.rowD) → ∃ ps : List (Addr × List Int), vs = Zt.refs ps ∧ Zt.keys ps = ks ∧ ∀ p ∈ ps, H p.1 = some (.tup (p.2.map V.int))
  | _, [], a => by
    cases a
    exact ⟨[], rfl, rfl, fun p hp => nomatch hp⟩
  | _, k :: ks, a => by
    cases a with
    | cons h t =>
      cases h with
      | @tup p xs ds e a =>
        obtain ⟨ps, h1, h2, h3⟩ := vals_rows t
        rw [vals_ints a] at e
        exact ⟨(p, k) :: ps, by rw [h1]; rfl, by rw [← h2]; rfl, fun q hq => by
          rcases List.mem_cons.mp hq with rfl | hq
          · exact e
          · exact h3 q hq⟩
theorem rows_vals {H : Hp} : ∀ {ps : List (Addr × List Int)}, (∀ p ∈ ps, H p.1 = some (.tup (p.2.map V.int))) → DAll H (Zt.refs ps) ((Zt.keys ps).map Zt.rowD)
  | [], _ => .nil
  | p :: ps, h => .cons (.tup (h p List.mem_cons_self) (ints_vals _)) (rows_vals fun q hq => h q (List.mem_cons_of_mem _ hq))
def rLtA (K : PySem.W.Frag) : R2 := fun x y H Q => (∃ i j, x = .int i ∧ y = .int j ∧ Q (.bl (ltI i j)) H) ∨ ∃ a b ns ms, x = .ref a ∧ y = .ref b ∧ SqT K H a (ns.map V.int) ∧ SqT K H b (ms.map V.int) ∧ Q (.bl (HT.lexLt ns ms)) H
theorem op_ltA {X : Cx} (hu : X.A.units < cLine) : OpR X (compareOp .Lt) (rLtA X.K) := OpR.or op_lt (op_ltT hu)
theorem lex_lx : ∀ r q : List Int, HT.lexLt r q = Zt.lx r q
  | [], [] => rfl
  | [], _ :: _ => rfl
  | _ :: _, [] => rfl
  | a :: r, b :: q => by
    show (if a = b then HT.lexLt r q else decide (a < b)) = if a = b then Zt.lx r q else decide (a < b)
    rw [lex_lx r q]
theorem ltI_tr : ∀ x y z : Int, ltI x y = true → ltI y z = true → ltI x z = true := fun x y z h1 h2 => decide_eq_true (by
  have h1 := of_decide_eq_true h1
  have h2 := of_decide_eq_true h2
  omega)
theorem lex_tr : ∀ x y z : List Int, HT.lexLt x y = true → HT.lexLt y z = true → HT.lexLt x z = true := fun x y z h1 h2 => by
  rw [lex_lx] at *
  cases e : Zt.lx x z with
  | true => rfl
  | false =>
    have h3 := Zt.lx_asym _ _ h2
    have h4 := Zt.lx_tr y x z
    have h5 := Zt.lx_asym _ _ h1
    exfalso
    cases e2 : Zt.lx z x with
    | false =>
      have := Zt.lx_tot _ _ e e2
      subst this
      rw [h5] at h2
      cases h2
    | true =>
      have := Zt.lx_tr x y z
      have h6 := Zt.lx_tr y z x
      have h7 : Zt.lx x y = false := Zt.lx_tr y z x h3 e
      rw [h7] at h1
      cases h1
theorem ints_uniq : ∀ {S T : List Int}, (S.Pairwise fun x y => ltI x y = true) → T.Pairwise (· < ·) → (∀ k, k ∈ S ↔ k ∈ T) → S = T
  | [], [], _, _, _ => rfl
  | [], t :: T, _, _, h => absurd ((h t).mpr (.head _)) (by simp)
  | s :: S, [], _, _, h => absurd ((h s).mp (.head _)) (by simp)
  | s :: S, t :: T, h1, h2, h => by
    obtain ⟨a1, a2⟩ := List.pairwise_cons.mp h1
    obtain ⟨b1, b2⟩ := List.pairwise_cons.mp h2
    have a1' : ∀ k ∈ S, s < k := fun k hk => of_decide_eq_true (a1 k hk)
    have e : s = t := by
      rcases List.mem_cons.mp ((h s).mp (.head _)) with e | m1
      · exact e
      · rcases List.mem_cons.mp ((h t).mpr (.head _)) with e | m2
        · exact e.symm
        · have := a1' t m2
          have := b1 s m1
          omega
    subst e
    rw [ints_uniq a2 b2 fun k => ?_]
    constructor
    · intro hk
      rcases List.mem_cons.mp ((h k).mp (.tail _ hk)) with e | m
      · have := a1' k hk
        omega
      · exact m
    · intro hk
      rcases List.mem_cons.mp ((h k).mpr (.tail _ hk)) with e | m
      · have := b1 k hk
        omega
      · exact m
/-- what sorted(set(..)) of whole numbers tells -/
theorem same_ints {ns S : List Int} (h1 : S.Pairwise (· < ·)) (h2 : ∀ k, k ∈ S ↔ k ∈ ns) : decide (ns = S) = asc ltI ns := by
  cases e : asc ltI ns with
  | true => exact decide_eq_true (ints_uniq ((asc_pw ltI_tr ns).mp e) h1 fun k => (h2 k).symm)
  | false =>
    refine decide_eq_false fun z => ?_
    subst z
    rw [(asc_pw ltI_tr ns).mpr (h1.imp fun {x y} h => decide_eq_true h)] at e
    cases e
theorem same_rows {ks S : List (List Int)} (h1 : Zt.Asc S) (h2 : ∀ k, k ∈ S ↔ k ∈ ks) : decide (ks = S) = asc HT.lexLt ks := by
  cases e : asc HT.lexLt ks with
  | true => exact decide_eq_true (Zt.asc_uniq (((asc_pw lex_tr ks).mp e).imp fun {x y} h => by rw [← lex_lx]; exact h) h1 fun k => (h2 k).symm)
  | false =>
    refine decide_eq_false fun z => ?_
    subst z
    rw [(asc_pw lex_tr ks).mpr (h1.imp fun {x y} h => by rw [lex_lx]; exact h)] at e
    cases e
theorem eqv_ints (ns ms : List Int) : PyData.eqv (.list (ns.map PyData.int)) (.list (ms.map PyData.int)) = decide (ns = ms) := by
  simp only [PyData.eqv]
  exact eqvAll_ints ns ms
theorem eqv_rows (ns ms : List (List Int)) : PyData.eqv (.list (ns.map Zt.rowD)) (.list (ms.map Zt.rowD)) = decide (ns = ms) := by
  simp only [PyData.eqv]
  exact Zt.eqRows ns ms
/-! ### not too long -/
mutual
def sm : PyData → Bool
  | .str z => decide (z.length ≤ 1000) && PyData.strOk z
  | .list xs => decide (xs.length ≤ 60) && smAll xs
  | .tuple xs => decide (xs.length ≤ 60) && smAll xs
  | _ => true
def smAll : List PyData → Bool
  | [] => true
  | d :: r => sm d && smAll r
end
theorem smAll_mem : ∀ {ds : List PyData}, smAll ds = true ↔ ∀ d ∈ ds, sm d = true
  | [] => by simp [smAll]
  | d :: r => by simp [smAll, smAll_mem (ds := r)]
theorem sm_tup {ds : List PyData} : sm (.tuple ds) = true ↔ ds.length ≤ 60 ∧ ∀ d ∈ ds, sm d = true := by
  simp only [sm, Bool.and_eq_true, decide_eq_true_iff, smAll_mem]
def nameD : PyData → Bool
  | .str t => nameOf t
  | _ => false
def isMove (p n : Int) : PyData → Bool
  | .tuple (w :: a :: x :: r) => isNum p a && (if PyData.eqv w (.str "leave") then r.isEmpty && isSet n x else isNum p x && (if PyData.eqv w (.str "go") then (match r with | [y] => isPairs n y | _ => false) else strIn w ["call", "post"] && (match r with | [y, z] => nameD y && isSet n z | _ => false)))
  | _ => false
end Dt

/-! data beside a die and lists that grow -/
namespace Dt
open PySem PySem.Spec PyProof.Rows L2 Sh
def hide (S : List Addr) (H : Hp) : Hp := fun b => if b ∈ S then none else H b
theorem hide_out {S : List Addr} {H : Hp} {b : Addr} (h : b ∉ S) : hide S H b = H b := if_neg h
theorem hide_in {S : List Addr} {H : Hp} {b : Addr} {o : HO} (h : hide S H b = some o) : b ∉ S ∧ H b = some o := by
  unfold hide at h
  by_cases e : b ∈ S
  · rw [if_pos e] at h
    cases h
  · rw [if_neg e] at h
    exact ⟨e, h⟩
theorem hide_sub {S : List Addr} {H : Hp} : Same (hide S H) H := fun _ _ h => (hide_in h).2
theorem hide_some {S : List Addr} {H : Hp} {b : Addr} {o : HO} (n : b ∉ S) (h : H b = some o) : hide S H b = some o := by
  rw [hide_out n]
  exact h
theorem hide_but {d : Addr} {S : List Addr} {H H' : Hp} (hd : d ∈ S) (h : But d H H') : Same (hide S H) (hide S H') := fun b o e => by
  obtain ⟨n, e⟩ := hide_in e
  exact hide_some n (h b o (fun z => n (z ▸ hd)) e)
theorem hide_same {S : List Addr} {H H' : Hp} (h : Same H H') : Same (hide S H) (hide S H') := fun b o e => by
  obtain ⟨n, e⟩ := hide_in e
  exact hide_some n (h b o e)
theorem hide_new {S : List Addr} {H : Hp} {p : Addr} {o : HO} (n : H p = none) : Same (hide S H) (hide (p :: S) (upd H p o)) := fun b u e => by
  obtain ⟨m, e⟩ := hide_in e
  have ne : b ≠ p := fun z => by
    subst z
    rw [n] at e
    cases e
  exact hide_some (by simp [ne, m]) ((upd_ne ne).trans e)
theorem hide_upd {S : List Addr} {H : Hp} {p : Addr} {o : HO} : Same (hide (p :: S) H) (hide (p :: S) (upd H p o)) := fun b u e => by
  obtain ⟨m, e⟩ := hide_in e
  have ne : b ≠ p := fun z => m (by simp [z])
  exact hide_some m ((upd_ne ne).trans e)
theorem hide_tail {S : List Addr} {H : Hp} {p : Addr} : Same (hide (p :: S) H) (hide S H) := fun b u e => by
  obtain ⟨m, e⟩ := hide_in e
  exact hide_some (fun z => m (List.mem_cons_of_mem _ z)) e
/-- data that is not the die, nor near it, and not too long -/
def Vd (S : List Addr) (H : Hp) (v : V) (e : PyData) : Prop := D (hide S H) v e ∧ sm e = true
theorem Vd.mono {S S' : List Addr} {H H' : Hp} {v : V} {e : PyData} (h : Vd S H v e) (s : Same (hide S H) (hide S' H')) : Vd S' H' v e := ⟨h.1.same s, h.2⟩
theorem Vd.d {S : List Addr} {H : Hp} {v : V} {e : PyData} (h : Vd S H v e) : D H v e := h.1.same hide_sub
inductive VdAll (S : List Addr) (H : Hp) : List V → List PyData → Prop
  | nil : VdAll S H [] []
  | cons {v : V} {e : PyData} {vs : List V} {es : List PyData} : Vd S H v e → VdAll S H vs es → VdAll S H (v :: vs) (e :: es)
theorem VdAll.mono {S S' : List Addr} {H H' : Hp} {vs : List V} {es : List PyData} (h : VdAll S H vs es) (s : Same (hide S H) (hide S' H')) : VdAll S' H' vs es := by
  induction h with
  | nil => exact .nil
  | cons a _ ih => exact .cons (a.mono s) ih
theorem VdAll.len {S : List Addr} {H : Hp} {vs : List V} {es : List PyData} (h : VdAll S H vs es) : vs.length = es.length := by
  induction h with
  | nil => rfl
  | cons _ _ ih => rw [List.length_cons, List.length_cons, ih]
theorem VdAll.get {S : List Addr} {H : Hp} {vs : List V} {es : List PyData} (h : VdAll S H vs es) : ∀ {i : Nat} {v : V}, vs[i]? = some v → ∃ e, es[i]? = some e ∧ Vd S H v e := by
  induction h with
  | nil => intro i v e; simp at e
  | cons a _ ih =>
    intro i v e
    cases i with
    | zero =>
      cases e
      exact ⟨_, rfl, a⟩
    | succ i => exact ih e
theorem VdAll.app {S : List Addr} {H : Hp} {vs ws : List V} {es fs : List PyData} (h : VdAll S H vs es) (g : VdAll S H ws fs) : VdAll S H (vs ++ ws) (es ++ fs) := by
  induction h with
  | nil => exact g
  | cons a _ ih => exact .cons a ih
theorem VdAll.d {S : List Addr} {H : Hp} {vs : List V} {es : List PyData} (h : VdAll S H vs es) : DAll (hide S H) vs es := by
  induction h with
  | nil => exact .nil
  | cons a _ ih => exact .cons a.1 ih
theorem VdAll.of {S : List Addr} {H : Hp} {vs : List V} {es : List PyData} (h : DAll (hide S H) vs es) (g : ∀ e ∈ es, sm e = true) : VdAll S H vs es := by
  induction es generalizing vs with
  | nil =>
    cases h
    exact .nil
  | cons e es ih =>
    cases h with
    | cons a b => exact .cons ⟨a, g e List.mem_cons_self⟩ (ih b fun x hx => g x (List.mem_cons_of_mem _ hx))
theorem VdAll.sm {S : List Addr} {H : Hp} {vs : List V} {es : List PyData} (h : VdAll S H vs es) : ∀ e ∈ es, sm e = true := by
  induction h with
  | nil => exact fun e he => nomatch he
  | cons a _ ih =>
    intro e he
    rcases List.mem_cons.mp he with rfl | he
    · exact a.2
    · exact ih e he
theorem VdAll.take {S : List Addr} {H : Hp} {vs : List V} {es : List PyData} (h : VdAll S H vs es) (n : Nat) : VdAll S H (vs.take n) (es.take n) := .of (h.d.take n) fun e he => h.sm e (List.mem_of_mem_take he)
theorem VdAll.drop {S : List Addr} {H : Hp} {vs : List V} {es : List PyData} (h : VdAll S H vs es) (n : Nat) : VdAll S H (vs.drop n) (es.drop n) := .of (h.d.drop n) fun e he => h.sm e (List.mem_of_mem_drop he)
theorem VdAll.rev {S : List Addr} {H : Hp} {vs : List V} {es : List PyData} (h : VdAll S H vs es) : VdAll S H vs.reverse es.reverse := .of h.d.rev fun e he => h.sm e (List.mem_reverse.mp he)
/-- a tuple of such values -/
theorem Vd.tup {S : List Addr} {H : Hp} {p : Addr} {vs : List V} {es : List PyData} (n : p ∉ S) (hp : H p = some (.tup vs)) (h : VdAll S H vs es) (l : es.length ≤ 60) : Vd S H (.ref p) (.tuple es) := ⟨.tup (hide_some n hp) h.d, sm_tup.mpr ⟨l, h.sm⟩⟩
theorem Vd.lst {S : List Addr} {H : Hp} {p : Addr} {vs : List V} {es : List PyData} (n : p ∉ S) (hp : H p = some (.lst vs)) (h : VdAll S H vs es) (l : es.length ≤ 60) : Vd S H (.ref p) (.list es) := ⟨.lst (hide_some n hp) h.d, by
  simp only [Dt.sm, Bool.and_eq_true, decide_eq_true_iff, smAll_mem]
  exact ⟨l, h.sm⟩⟩
theorem Vd.tup_inv {S : List Addr} {H : Hp} {v : V} {es : List PyData} (h : Vd S H v (.tuple es)) : ∃ p vs, v = .ref p ∧ p ∉ S ∧ H p = some (.tup vs) ∧ VdAll S H vs es ∧ es.length ≤ 60 := by
  obtain ⟨h, s⟩ := h
  obtain ⟨l, g⟩ := sm_tup.mp s
  cases h with
  | tup e a =>
    obtain ⟨n, e⟩ := hide_in e
    exact ⟨_, _, rfl, n, e, .of a g, l⟩
theorem Vd.int {S : List Addr} {H : Hp} (i : Int) : Vd S H (.int i) (.int i) := ⟨.int i, rfl⟩
theorem Vd.str {S : List Addr} {H : Hp} {z : Str} (h : (decide (z.length ≤ 1000) && PyData.strOk z) = true) : Vd S H (.str z) (.str z) := ⟨.str z, h⟩
theorem Vd.bl {S : List Addr} {H : Hp} (b : Bool) : Vd S H (.bl b) (.bool b) := ⟨.bl b, rfl⟩
theorem Vd.non {S : List Addr} {H : Hp} : Vd S H .non .none := ⟨.non, rfl⟩
theorem VdAll.ints {S : List Addr} {H : Hp} : ∀ ns : List Int, VdAll S H (ns.map V.int) (ns.map PyData.int)
  | [] => .nil
  | n :: ns => .cons (.int n) (VdAll.ints ns)
/-! ### != of plain data -/
theorem strOk_of {z : Str} (h : sm (.str z) = true) : PyData.strOk z = true := by
  simp only [sm, Bool.and_eq_true] at h
  exact h.2
mutual
theorem plain_lay : ∀ (d : PyData), d.plain = true → sm d = true → d.canLay0 = true
  | .none, _, _ => rfl
  | .bool _, _, _ => rfl
  | .int _, _, _ => rfl
  | .str z, _, h => by
    simp only [PyData.canLay0]
    exact strOk_of h
  | .list xs, h, g => by
    simp only [PyData.canLay0]
    simp only [sm, Bool.and_eq_true] at g
    exact plain_lays xs (by simpa [PyData.plain] using h) g.2
  | .tuple xs, h, g => by
    simp only [PyData.canLay0]
    simp only [sm, Bool.and_eq_true] at g
    exact plain_lays xs (by simpa [PyData.plain] using h) g.2
  | .dict _, h, _ => by cases h
theorem plain_lays : ∀ (ds : List PyData), PyData.plainAll ds = true → smAll ds = true → PyData.canLayAll0 ds = true
  | [], _, _ => by simp [PyData.canLayAll0]
  | d :: r, h, g => by
    simp only [PyData.plainAll, smAll, Bool.and_eq_true] at h g
    simp only [PyData.canLayAll0, Bool.and_eq_true]
    exact ⟨plain_lay d h.1 g.1, plain_lays r h.2 g.2⟩
end
mutual
theorem D.dp {K : PySem.W.Frag} {H : Hp} : ∀ {v : V} {d : PyData}, D H v d → d.plain = true → Dp K H v d
  | _, _, .non, _ => .non
  | _, _, .bl b, _ => .bl b
  | _, _, .int i, _ => .int i
  | _, _, .str z, _ => .str z
  | _, _, .lst h a, g => .lst (.inl (.inl h)) (DAll.dp a (by simpa [PyData.plain] using g))
  | _, _, .tup h a, g => .tup (.inl (.inl h)) (DAll.dp a (by simpa [PyData.plain] using g))
  | _, _, .dic _, g => by cases g
theorem DAll.dp {K : PySem.W.Frag} {H : Hp} : ∀ {vs : List V} {ds : List PyData}, DAll H vs ds → PyData.plainAll ds = true → DpAll K H vs ds
  | _, _, .nil, _ => .nil
  | _, _, .cons h a, g => by
    simp only [PyData.plainAll, Bool.and_eq_true] at g
    exact .cons (D.dp h g.1) (DAll.dp a g.2)
end
/-- x != y, both plain -/
def rNeH : R2 := fun x y H Q => ∃ d e, D H x d ∧ D H y e ∧ d.plain = true ∧ e.plain = true ∧ d.depth ≤ 60 ∧ e.depth ≤ 60 ∧ sm d = true ∧ sm e = true ∧ Q (.bl (!PyData.eqv d e)) H
theorem op_neH {X : Cx} (hu : X.A.units + 64 < cLine) : OpR X (compareOp .NotEq) rNeH := by
  intro pins s σ H x y v u Q I rx ry h
  obtain ⟨d, e, hd, he, p1, p2, d1, d2, s1, s2, q⟩ := h
  refine op_neD hu pins s σ H x y v u Q I rx ry ⟨d, e, hd.dp p1, he.dp p2, ?_, ?_, q⟩
  · unfold SeqAt.shaped
    rw [plain_lay d p1 s1, decide_eq_true (by omega)]
    rfl
  · unfold SeqAt.shaped
    rw [plain_lay e p2 s2, decide_eq_true (by omega)]
    rfl
end Dt

/-! repr of lists of data without dicts -/
namespace Dt
open PySem PySem.Spec PyProof.Rows L2 Sh
mutual
theorem plain_nodict : ∀ (d : PyData), d.plain = true → d.hasDict = false
  | .none, _ => by simp only [PyData.hasDict]
  | .bool _, _ => by simp only [PyData.hasDict]
  | .int _, _ => by simp only [PyData.hasDict]
  | .str z, _ => by simp only [PyData.hasDict]
  | .list xs, h => by
    simp only [PyData.hasDict]
    exact plain_nodicts xs (by simpa [PyData.plain] using h)
  | .tuple xs, h => by
    simp only [PyData.hasDict]
    exact plain_nodicts xs (by simpa [PyData.plain] using h)
  | .dict _, h => by cases h
theorem plain_nodicts : ∀ (ds : List PyData), PyData.plainAll ds = true → PyData.hasDictAll ds = false
  | [], _ => by simp [PyData.hasDictAll]
  | d :: r, h => by
    simp only [PyData.plainAll, Bool.and_eq_true] at h
    simp [PyData.hasDictAll, plain_nodict d h.1, plain_nodicts r h.2]
end
/-- what repr of a list wants -/
structure Rl (ds : List PyData) : Prop where
  pl : PyData.plainAll ds = true
  s : smAll ds = true
  sh : PyData.showableAll ds = true
  dp : PyData.depthAll ds ≤ 50
  ih : PyData.intsShortAll 13 ds = true
  wt : PyData.weightAll ds ≤ 2 ^ 20
theorem Rl.each {ds : List PyData} (h : Rl ds) : ∀ d ∈ ds, d.plain = true ∧ d.showable = true ∧ d.shown.length ≤ sizeLine := by
  obtain ⟨p, s, sh, dp, i, w⟩ := h
  induction ds with
  | nil => exact fun d hd => nomatch hd
  | cons d r ih =>
    simp only [PyData.plainAll, smAll, PyData.intsShortAll, PyData.showableAll, Bool.and_eq_true] at p s i sh
    simp only [PyData.depthAll] at dp
    simp only [PyData.weightAll] at w
    intro x hx
    rcases List.mem_cons.mp hx with rfl | hx
    · exact ⟨p.1, sh.1, PyData.shown_fits (B := 13) (by decide) (by decide) (PyData.leavesShort_of_canLay0 13 _ (plain_lay _ p.1 s.1) i.1) (by omega)⟩
    · exact ih p.2 s.2 sh.2 (Nat.le_trans (Nat.le_max_right _ _) dp) i.2 (by omega) x hx
theorem Rl.all {ds : List PyData} (h : Rl ds) : (listText (PyData.shownAll ds)).length ≤ sizeLine := by
  have := PyData.shown_fits (B := 13) (d := .list ds) (by decide) (by decide) (by
    simp only [PyData.leavesShort]
    exact PyData.leavesShortAll_of_canLay0 13 ds (plain_lays ds h.pl h.s) h.ih) (by simp only [PyData.weight]; exact h.wt)
  simpa only [PyData.shown] using this
theorem rd_all {P : Program} {w : World} {H : Hp} {h : Heap} (ok : HOk P w H h) : ∀ {vs : List V} {us : List Value} {ds : List PyData}, Vals vs us → DAll H vs ds → (∀ d ∈ ds, d.plain = true ∧ d.showable = true ∧ d.shown.length ≤ sizeLine) →
    (∃ as, ReadsAll h us ds as) ∧ ∃ bs, ReadAtMost h (PyData.depthAll ds) bs ∧ ReprAllK P w bs h (PyData.depthAll ds) us (PyData.shownAll ds)
  | _, _, _, .nil, .nil, _ => by
    refine ⟨⟨_, .nil⟩, [], (fun _ z => nomatch z), ?_⟩
    simp only [PyData.shownAll]
    exact .nil
  | _, _, _, .cons r rs, .cons (d := d) (ds := ds) q qs, g => by
    obtain ⟨as, rd⟩ := D.reads ok q r
    obtain ⟨g1, g2, g3⟩ := g d (.head _)
    have s2 := plain_nodict d g1
    obtain ⟨b1, m1, k1⟩ := ReprK.of_reads (prog := P) (w := w) rd g2 (fun z => by rw [s2] at z; cases z) g3
    obtain ⟨⟨as2, rd2⟩, b2, m2, k2⟩ := rd_all ok rs qs fun z hz => g z (.tail _ hz)
    refine ⟨⟨_, .cons rd rd2⟩, b1 ++ b2, fun b hb => ?_, ?_⟩
    · simp only [PyData.depthAll]
      rcases List.mem_append.mp hb with hb | hb
      · obtain ⟨d', a', r', l'⟩ := m1 b hb
        exact ⟨d', a', r', Nat.le_trans l' (Nat.le_max_left _ _)⟩
      · obtain ⟨d', a', r', l'⟩ := m2 b hb
        exact ⟨d', a', r', Nat.le_trans l' (Nat.le_max_right _ _)⟩
    · simp only [PyData.depthAll, PyData.shownAll]
      refine .cons ((k1.more fun b hb => List.mem_append_left _ hb).level_le ?_) (k2.more_le (fun b hb => List.mem_append_right _ hb) ?_)
      · exact Nat.le_max_left _ _
      · exact Nat.le_max_right _ _
def rReprD : List V → Hp → VK → Prop := fun vs H Q => ∃ p xs ds, vs = [.ref p] ∧ H p = some (.lst xs) ∧ xs ≠ [] ∧ DAll H xs ds ∧ Rl ds ∧ Q (.str (listText (PyData.shownAll ds))) H
theorem call_reprD {X : Cx} (hg : X.A.guards = some []) (hu : X.A.units + 64 < cLine) : CallR X (.builtin "repr") rReprD := by
  intro pins s σ H xs us Q I r h
  obtain ⟨p, xs, ds, rfl, hp, hne, ra, gd, q⟩ := h
  obtain ⟨u, rfl, r1⟩ := vals1 r
  cases r1
  obtain ⟨_, its, n, rv, h1⟩ := I.hok p _ hp
  obtain ⟨⟨as, rd⟩, bs, mb, ka⟩ := rd_all I.hok rv ra gd.each
  have hd := gd.dp
  have na : p ∉ bs := not_mem_of_deeper (Reads.list h1 rfl rfl rd) (by simp only [PyData.depth]; omega) mb
  have hsz := gd.all
  cases rv with
  | nil => exact absurd rfl hne
  | @cons x0 u0 xs0 us0 a b =>
    refine call_repr_slot (by omega) ⟨_, h1, rfl⟩ F.slot_list_repr.toG ?_
    refine call_list_reprK (A := X.A.in1) h1 rfl rfl na (by simpa using ka.length_eq) (fun i y e => ka.item i y (by simpa using e)) hg (fun b _ => Clear.nil b) ?_ (fun _ _ z => z) (fun h' u tk k => ?_) hsz
    · show X.A.units + 1 + _ < _
      omega
    · exact ⟨_, _, rfl, .str _, H, I.kept k, ⟨_, rfl⟩, q⟩
end Dt

namespace My
open PySem PySem.Spec PyProof.Rows L2 Sh Dt

abbrev topS (i : Nat) : Stmt := PySem.Challenge.pw_postedbag_k10_procedures_by_form.main.body.getD i (.Pass ⟨0, 0, 0, 0⟩)
abbrev s_law_numbers : Stmt := topS 23
abbrev Nlaw_numbers : List Str := ["script", "at", "cell", "whole", "mixed"]
theorem sc_law_numbers : FnScope Nlaw_numbers ["script", "at"] (defScope s_law_numbers) := ⟨rfl, rfl, rfl, by decide +kernel, rfl, by decide +kernel, by decide +kernel⟩
abbrev s_law_cast : Stmt := topS 24
abbrev Nlaw_cast : List Str := ["die", "total", "found", "one", "two"]
theorem sc_law_cast : FnScope Nlaw_cast ["die", "total"] (defScope s_law_cast) := ⟨rfl, rfl, rfl, by decide +kernel, rfl, by decide +kernel, by decide +kernel⟩
abbrev s_law_pick : Stmt := topS 25
abbrev Nlaw_pick : List Str := ["die", "items"]
theorem sc_law_pick : FnScope Nlaw_pick ["die", "items"] (defScope s_law_pick) := ⟨rfl, rfl, rfl, by decide +kernel, rfl, by decide +kernel, by decide +kernel⟩
section
variable {P : Program} {w : World} {K : PySem.W.Frag} {mg : Str → Option Value} {base : Heap}
theorem ok_numbers {f : Addr} {fd : FuncData} {k : Nat} (F : Fun K "_law_numbers" "_law_numbers" s_law_numbers f fd) (m_len : mg "len" = none) (m_int : mg "int" = none) (m_abs : mg "abs" = none) (m_max : mg "max" = none) :
    FnOk P w K mg base CX0 (k + 1) f fd ["script", "at"] (spNumbers K) := by
  refine F.ok sc_law_numbers (fun vs H Q E h => ?_) (fun cdv A outer s H vs Q E hr h => ?_)
  · obtain ⟨a, ns, i, rfl, _⟩ := h
    rfl
  · obtain ⟨a, ns, i, rfl, hi0, hS, q⟩ := h
    obtain ⟨i, rfl⟩ := Int.eq_ofNat_of_zero_le hi0
    refine ⟨_, (C8.pss_cut (ps_set (i := 2) sc_law_numbers.nd rfl (by first | exact Or.inl rfl | exact Or.inr rfl) (pe_ifExp (pt_cmpR op_lt (pv 1) (pe_callB call_len_seq (by rfl) m_len (by decide +kernel) (pa_cons (pv 0) pa_nil)) (nomark _)) (pe_ix ix_list (pv 0) (pv 1) (fun _ _ => rfl)) (pe_op op_add (pe_op op_mul pe_int (pv 1)) pe_int)))
      (pss_cons (ps_set (i := 3) sc_law_numbers.nd rfl (by first | exact Or.inl rfl | exact Or.inr rfl) (pe_op op_mod (pe_callTy call_int1 (by rfl) m_int (by decide +kernel) (pa_cons (pe_callB call_abs (by rfl) m_abs (by decide +kernel) (pa_cons (pv 2) pa_nil)) pa_nil)) (pe_op op_powB (pe_op op_powB pe_int pe_int) pe_int)))
      (pss_cons (ps_set (i := 4) sc_law_numbers.nd rfl (by first | exact Or.inl rfl | exact Or.inr rfl) (pe_op op_add (pe_op op_add (pe_op op_add (pe_op op_mul (pv 3) pe_int) (pe_op op_mul pe_int (pv 1))) (pe_op op_mul pe_int (pe_callTy call_int1 (by rfl) m_int (by decide +kernel) (pa_cons (pe_cmpR op_lt (pv 2) pe_int (nomark _)) pa_nil)))) pe_int))
      (pss_one (ps_ret (pe_lst (pa_cons (pe_callB (call_max2 rfl) (by rfl) m_max (by decide +kernel) (pa_cons pe_int (pa_cons (pe_op op_sub (pv 3) (pe_op op_powB pe_int pe_int)) pa_nil))) (pa_cons (pe_op op_mod (pe_callTy call_int1 (by rfl) m_int (by decide +kernel) (pa_cons (pv 4) pa_nil)) pe_int) (pa_cons pe_int pa_nil))))))))), ?_⟩
    refine ⟨fun σ' H' => ∃ c : Int, σ' = [some (.ref a), some (.int i), some (.int c), none, none] ∧ H' = H, ?_, fun σ' H' hM => ?_⟩
    · refine ⟨.int i, rfl, .ref a, rfl, a, ns.map V.int, rfl, .inl hS, i, _, rfl, rfl, _, rfl, ite2 (fun e => ?_) (fun e => ?_)⟩
      · have hi : i < ns.length := by
          have := of_decide_eq_true e
          rw [List.length_map] at this
          omega
        refine ⟨.ref a, rfl, .int i, rfl, a, _, i, .int ns[i], rfl, rfl, hS, atI_nat (by rw [List.getElem?_map, List.getElem?_eq_getElem hi]; rfl), ?_⟩
        exact ⟨_, rfl, rfl⟩
      · refine ⟨.int i, rfl, 67, i, rfl, rfl, .inl ⟨by decide, by decide⟩, 67 * i, 23, rfl, rfl, ?_⟩
        exact ⟨_, rfl, rfl⟩
    · obtain ⟨c, rfl, rfl⟩ := hM
      refine ⟨.int c, rfl, c, rfl, .inl ⟨_, rfl, 10, 57, rfl, rfl, ⟨by decide, by decide +kernel⟩, _, 11, rfl, rfl, ⟨by decide, by decide +kernel⟩, _, _, rfl, rfl, (by show (0 : Int) < (10 ^ (57 : Int).toNat) ^ (11 : Int).toNat; decide +kernel), ?_⟩⟩
      show tSeq _ _ _ [_, _, _, some (.int ((if c < 0 then -c else c) % (10 ^ (57 : Int).toNat) ^ (11 : Int).toNat)), _] _
      generalize (if c < 0 then -c else c) % (10 ^ (57 : Int).toNat) ^ (11 : Int).toNat = wh
      refine ⟨.int wh, rfl, wh, 1000151, rfl, rfl, .inr ⟨by decide, by decide⟩, .int i, rfl, 8243, i, rfl, rfl, .inl ⟨by decide, by decide⟩, _, _, rfl, rfl, .int c, rfl, c, 0, rfl, rfl, .inr ⟨_, rfl, 43, _, rfl, rfl, .inl ⟨by decide, by decide⟩, _, _, rfl, rfl, _, 9, rfl, rfl, ?_⟩⟩
      refine ⟨.int wh, rfl, 10, 16, rfl, rfl, ⟨by decide, by decide +kernel⟩, _, _, rfl, rfl, 0, _, rfl, _, rfl, .inl ⟨_, rfl, _, _, rfl, rfl, (by show (0 : Int) < 1152921504606846877; decide), by show 3 ≤ sizeLine; decide, fun p hp => ?_⟩⟩
      exact q p _ _ hp
theorem ok_cast {f : Addr} {fd : FuncData} {k : Nat} (F : Fun K "_law_cast" "_law_cast" s_law_cast f fd) (m_int : mg "int" = none) :
    FnOk P w K mg base CX0 (k + 1) f fd ["die", "total"] spCast := by
  refine F.ok sc_law_cast (fun vs H Q E h => ?_) (fun cdv A outer s H vs Q E hr h => ?_)
  · obtain ⟨d, n, rfl, _⟩ := h
    rfl
  · obtain ⟨d, n, rfl, ⟨a, b, c, hD⟩, n0, n1, q⟩ := h
    have sq : SqL K H d [.int a, .int b, .int c] := .inl (.inl hD)
    refine ⟨_, (pss_cons (ps_if (pt_cmpR op_gt (pe_ix ix_list (pv 0) pe_int (fun _ _ => rfl)) pe_int (nomark _))
        (pss_cons (ps_set (i := 2) sc_law_cast.nd rfl (by first | exact Or.inl rfl | exact Or.inr rfl) (pe_op op_mod (pe_callTy call_int1 (by rfl) m_int (by decide +kernel) (pa_cons (pe_ix ix_list (pv 0) pe_int (fun _ _ => rfl)) pa_nil)) (pv 1)))
        (pss_cons (ps_asg (pe_op op_fdiv (pe_ix ix_list (pv 0) pe_int (fun _ _ => rfl)) (pv 1)) (pg_sub (pv 0) pe_int set_list))
        (pss_one (ps_ret (pv 2)))))
        pss_nil)
      (pss_cons (ps_asg (pe_op op_add (pe_ix ix_list (pv 0) pe_int (fun _ _ => rfl)) pe_int) (pg_sub (pv 0) pe_int set_list))
      (pss_cons (ps_set (i := 3) sc_law_cast.nd rfl (by first | exact Or.inl rfl | exact Or.inr rfl) (pe_op op_mod (pe_callTy call_int1 (by rfl) m_int (by decide +kernel) (pa_cons (pe_op op_add (pe_ix ix_list (pv 0) pe_int (fun _ _ => rfl)) (pe_op op_mul pe_int (pe_ix ix_list (pv 0) pe_int (fun _ _ => rfl)))) pa_nil)) pe_int))
      (pss_cons (ps_set (i := 4) sc_law_cast.nd rfl (by first | exact Or.inl rfl | exact Or.inr rfl) (pe_op op_add (pe_op op_mul (pe_op op_mod (pe_callTy call_int1 (by rfl) m_int (by decide +kernel) (pa_cons (pe_op op_mul (pv 3) (pv 3)) pa_nil)) pe_int) (pv 3)) (pe_op op_mul pe_int (pe_ix ix_list (pv 0) pe_int (fun _ _ => rfl)))))
      (pss_one (ps_ret (pe_op op_mod (pe_callTy call_int1 (by rfl) m_int (by decide +kernel) (pa_cons (pe_op op_fdiv (pe_op op_mod (pe_callTy call_int1 (by rfl) m_int (by decide +kernel) (pa_cons (pe_op op_add (pv 4) (pe_ix ix_list (pv 0) pe_int (fun _ _ => rfl))) pa_nil)) pe_int) pe_int) pa_nil)) (pv 1)))))))), ?_⟩
    refine ⟨.ref d, rfl, d, _, 0, .int a, rfl, rfl, sq, rfl, _, 0, rfl, rfl, _, rfl, ite2 (fun e => ?_) (fun e => ?_)⟩
    · refine ⟨.ref d, rfl, d, _, 0, .int a, rfl, rfl, sq, rfl, .inl ⟨a, rfl, .int n, rfl, a, n, rfl, rfl, n0, ?_⟩⟩
      refine ⟨.ref d, rfl, d, _, 0, .int a, rfl, rfl, sq, rfl, .int n, rfl, a, n, rfl, rfl, ⟨n0, n1⟩, .ref d, rfl, d, _, 0, 0, rfl, rfl, hD, rfl, ?_⟩
      refine ⟨_, rfl, ?_⟩
      have h1 : 0 ≤ a % n := Int.emod_nonneg _ (by omega)
      have h2 : a % n < n := Int.emod_lt_of_pos _ n0
      have h3 := q (a % n).toNat (upd H d (.lst [.int (a / n), .int b, .int c])) (by omega) ⟨_, _, _, rfl⟩
      rw [Int.toNat_of_nonneg h1] at h3
      exact h3
    · refine ⟨.ref d, rfl, d, _, 2, .int c, rfl, rfl, sq, rfl, c, 1, rfl, rfl, .ref d, rfl, d, _, 2, 2, rfl, rfl, hD, rfl, ?_⟩
      have sq2 : SqL K (upd H d (.lst [.int a, .int b, .int (c + 1)])) d [.int a, .int b, .int (c + 1)] := .inl (.inl upd_same)
      refine ⟨.ref d, rfl, d, _, 1, .int b, rfl, rfl, sq2, rfl, .ref d, rfl, d, _, 2, .int (c + 1), rfl, rfl, sq2, rfl, 654188429, c + 1, rfl, rfl, .inl ⟨by decide, by decide⟩, b, _, rfl, rfl, .inl ⟨_, rfl, _, _, rfl, rfl, (by show (0 : Int) < 2305843009213693913; decide), ?_⟩⟩
      have one0 : 0 ≤ (b + 654188429 * (c + 1)) % 2305843009213693913 := Int.emod_nonneg _ (by decide)
      have one1 : (b + 654188429 * (c + 1)) % 2305843009213693913 < 2305843009213693913 := Int.emod_lt_of_pos _ (by decide)
      show tSeq _ _ _ [_, _, _, some (.int ((b + 654188429 * (c + 1)) % 2305843009213693913)), _] _
      generalize (b + 654188429 * (c + 1)) % 2305843009213693913 = one at one0 one1
      refine ⟨.int one, rfl, .int one, rfl, one, one, rfl, rfl, .inl ⟨by omega, by omega⟩, .inl ⟨_, rfl, _, _, rfl, rfl, (by show (0 : Int) < 1152921504606846689; decide), .int one, rfl, _, one, rfl, rfl, .inr ⟨by omega, by omega⟩, .ref d, rfl, d, _, 2, .int (c + 1), rfl, rfl, sq2, rfl, 7213, c + 1, rfl, rfl, .inl ⟨by decide, by decide⟩, _, _, rfl, rfl, ?_⟩⟩
      refine ⟨_, rfl, .ref d, rfl, d, _, 1, .int b, rfl, rfl, sq2, rfl, _, b, rfl, rfl, .inl ⟨_, rfl, _, _, rfl, rfl, (by show (0 : Int) < 8796093022121; decide), _, 64, rfl, rfl, ⟨by decide, by decide⟩, .inl ⟨_, rfl, .int n, rfl, _, n, rfl, rfl, n0, ?_⟩⟩⟩
      show Q (.int ((one * one % 1152921504606846689 * one + 7213 * (c + 1) + b) % 8796093022121 / 64 % n)) _
      generalize (one * one % 1152921504606846689 * one + 7213 * (c + 1) + b) % 8796093022121 / 64 = x
      have h1 : 0 ≤ x % n := Int.emod_nonneg _ (by omega)
      have h2 : x % n < n := Int.emod_lt_of_pos _ n0
      have h3 := q (x % n).toNat (upd H d (.lst [.int a, .int b, .int (c + 1)])) (by omega) ⟨_, _, _, rfl⟩
      rw [Int.toNat_of_nonneg h1] at h3
      exact h3
theorem ok_pick {f fC : Addr} {fd fdC : FuncData} (F : Fun K "_law_pick" "_law_pick" s_law_pick f fd) (F__law_cast : Fun K "_law_cast" "_law_cast" s_law_cast fC fdC) (b__law_cast : Binds K fdC ["die", "total"] []) (g__law_cast : mg "_law_cast" = some (.ref fC)) (m_len : mg "len" = none) (m_int : mg "int" = none) :
    FnOk P w K mg base CX0 2 f fd ["die", "items"] (spPick K) := by
  have G__law_cast : FnOk P w K mg base CX0 1 fC fdC ["die", "total"] spCast := ok_cast F__law_cast m_int
  refine F.ok sc_law_pick (fun vs H Q E h => ?_) (fun cdv A outer s H vs Q E hr h => ?_)
  · obtain ⟨d, _, h⟩ := h
    rcases h with ⟨p, xs, rfl, _⟩ | ⟨z, rfl, _⟩ <;> rfl
  · obtain ⟨d, hD, h⟩ := h
    refine ⟨_, (pss_one (ps_ret (pe_ix ix_seq (pv 1) (pe_call G__law_cast (hr.mono (by decide)) (by rfl) g__law_cast F__law_cast.kp b__law_cast .nil pass0 (pa_cons (pv 0) (pa_cons (pe_callB (call_len_seq.or call_len_str) (by rfl) m_len (by decide +kernel) (pa_cons (pv 1) pa_nil)) pa_nil))) (fun _ _ => rfl)))), ?_⟩
    rcases h with ⟨p, xs, rfl, np, hS, h0, h1, q⟩ | ⟨z, rfl, h0, h1, q⟩
    · have h2 : 0 < xs.length := List.length_pos_iff.mpr h0
      refine ⟨.ref p, rfl, .ref d, rfl, .ref p, rfl, .inl ⟨p, xs, rfl, hS, d, _, rfl, hD, by omega, by omega, fun r H' hr' hN => ?_⟩⟩
      have hj : r < xs.length := by omega
      rcases hS with hS | hS
      · exact .inl ⟨p, xs, r, xs[r], rfl, rfl, hN.but.seq np hS, atI_nat (List.getElem?_eq_getElem hj), q r _ H' (List.getElem?_eq_getElem hj) hN⟩
      · exact .inr (.inl ⟨p, xs, r, xs[r], rfl, rfl, hN.but.seqT np hS, atI_nat (List.getElem?_eq_getElem hj), q r _ H' (List.getElem?_eq_getElem hj) hN⟩)
    · refine ⟨.str z, rfl, .ref d, rfl, .str z, rfl, .inr ⟨z, rfl, Nat.le_of_lt (small1000 h1), d, _, rfl, hD, by omega, by omega, fun r H' hr' hN => ?_⟩⟩
      have hj : r < z.cps.toList.length := by
        show r < z.cps.toList.length
        have : z.cps.toList.length = z.length := by simp [Str.length]
        omega
      exact .inr (.inr ⟨z, r, z.cps.toList[r], rfl, rfl, Nat.le_of_lt (small1000 h1), atI_nat (List.getElem?_eq_getElem hj), q r _ H' (List.getElem?_eq_getElem hj) hN⟩)
end

/-! ### words -/
theorem filter_all (l : List Nat) : (l.filter fun c => !gg c).isEmpty = (l.map gg).all id := by
  induction l with
  | nil => rfl
  | cons c r ih =>
    rw [List.map_cons, List.all_cons, List.filter_cons]
    cases e : gg c with
    | true => rw [if_neg (by decide)]; simpa using ih
    | false => rw [if_pos (by decide)]; rfl
/-- no text -/
def NoStr (H : Hp) (v : V) : Prop := v = .non ∨ (∃ i : Int, v = .int i) ∨ (∃ b, v = .bl b) ∨ (∃ p xs, v = .ref p ∧ H p = some (.lst xs)) ∨ (∃ p xs, v = .ref p ∧ H p = some (.tup xs)) ∨ ∃ p xs, v = .ref p ∧ H p = some (.dK xs)
/-- what is_name is asked -/
def Jud (H : Hp) (v : V) : Prop := (∃ z : Str, v = .str z ∧ z.length ≤ sizeLine) ∨ NoStr H v
theorem NoStr.ty {K : PySem.W.Frag} {H : Hp} {v : V} (h : NoStr H v) : ∃ T, TyX K H v (.type T) ∧ kitB T "str" = some false := by
  rcases h with rfl | ⟨i, rfl⟩ | ⟨b, rfl⟩ | ⟨p, xs, rfl, h⟩ | ⟨p, xs, rfl, h⟩ | ⟨p, xs, rfl, h⟩
  · exact ⟨_, .base .non, by decide +kernel⟩
  · exact ⟨_, .base (.int i), by decide +kernel⟩
  · exact ⟨_, .base (.bl b), by decide +kernel⟩
  · exact ⟨_, .base (.lst h), by decide +kernel⟩
  · exact ⟨_, .base (.tup h), by decide +kernel⟩
  · exact ⟨_, .base (.dK h), by decide +kernel⟩
theorem NoStr.same {H H' : Hp} {v : V} (s : Same H H') (h : NoStr H v) : NoStr H' v := by
  rcases h with h | h | h | ⟨p, xs, e, h⟩ | ⟨p, xs, e, h⟩ | ⟨p, xs, e, h⟩
  · exact .inl h
  · exact .inr (.inl h)
  · exact .inr (.inr (.inl h))
  · exact .inr (.inr (.inr (.inl ⟨p, xs, e, s _ _ h⟩)))
  · exact .inr (.inr (.inr (.inr (.inl ⟨p, xs, e, s _ _ h⟩))))
  · exact .inr (.inr (.inr (.inr (.inr ⟨p, xs, e, s _ _ h⟩))))
theorem Jud.same {H H' : Hp} {v : V} (s : Same H H') (h : Jud H v) : Jud H' v := h.imp id (NoStr.same s)
theorem Odd.jud {H : Hp} {v : V} (h : Odd H v) : Jud H v := by
  rcases h with (h | h | h | ⟨z, h, l⟩) | ⟨p, xs, e, h, _⟩ | ⟨p, e, h⟩ | ⟨p, e, h⟩
  · exact .inr (.inl h)
  · exact .inr (.inr (.inl h))
  · exact .inr (.inr (.inr (.inl h)))
  · exact .inl ⟨z, h, Nat.le_of_lt (small1000 (by omega))⟩
  · exact .inr (.inr (.inr (.inr (.inr (.inl ⟨p, xs, e, h⟩)))))
  · exact .inr (.inr (.inr (.inr (.inl ⟨p, _, e, h⟩))))
  · exact .inr (.inr (.inr (.inr (.inr (.inr ⟨p, _, e, h⟩)))))
def nameV : V → Bool
  | .str z => nameOf z
  | _ => false
def spName : Sp := fun vs H Q _ => ∃ v, vs = [v] ∧ Jud H v ∧ ∀ H', Same H H' → Q (.bl (nameV v)) H'
theorem jud_false {K : PySem.W.Frag} {H : Hp} {v : V} {T : String} (t : TyX K H v (.type T)) (k : kitB T "str" = some false) : nameV v = false := by
  cases v with
  | str z =>
    cases t with
    | base b =>
      cases b
      exact absurd k (by decide +kernel)
  | _ => rfl
abbrev s_is_name : Stmt := topS 2
abbrev Nis_name : List Str := ["value", "letter"]
theorem sc_is_name : FnScope Nis_name ["value"] (defScope s_is_name) := ⟨rfl, rfl, rfl, by decide +kernel, rfl, by decide +kernel, by decide +kernel⟩
abbrev s_law_is_word : Stmt := topS 29
abbrev Nlaw_is_word : List Str := ["value", "one"]
theorem sc_law_is_word : FnScope Nlaw_is_word ["value"] (defScope s_law_is_word) := ⟨rfl, rfl, rfl, by decide +kernel, rfl, by decide +kernel, by decide +kernel⟩
section
variable {P : Program} {w : World} {K : PySem.W.Frag} {mg : Str → Option Value} {base : Heap}
theorem ok_is_name {f : Addr} {fd : FuncData} {k : Nat} (F : Fun K "is_name" "is_name" s_is_name f fd) {tk : Tok} (m_isinstance : mg "isinstance" = none) (m_str : mg "str" = none) (m_len : mg "len" = none) (m_all : mg "all" = none) (g_LONGEST_NAME : mg "LONGEST_NAME" = some (.int 8 tk)) :
    FnOk P w K mg base CX0 (k + 1) f fd ["value"] spName := by
  refine F.ok sc_is_name (fun vs H Q E h => ?_) (fun cdv A outer s H vs Q E hr h => ?_)
  · obtain ⟨v, rfl, _⟩ := h
    rfl
  · obtain ⟨v, rfl, hJ, q⟩ := h
    refine ⟨_, (pss_cons (ps_if (PW.pt (pw_or (pt_not (pt_val (pe_callB call_isi (by rfl) m_isinstance (by decide +kernel) (pa_cons (pv 0) (pa_cons (pe_bltn (v := .ty "str") (by rfl) m_str (by decide +kernel) rfl) pa_nil))))) (pw_or1 (pt_not (pt_chain op_le op_le pe_int (pe_callB call_len_str (by rfl) m_len (by decide +kernel) (pa_cons (pv 0) pa_nil)) (pe_glob (v := .int 8) rfl g_LONGEST_NAME ⟨_, rfl⟩))))))
        (pss_one (ps_ret pe_bl))
        pss_nil)
      (pss_one (ps_ret (pe_callB (cr_all rfl) (by rfl) m_all (by decide +kernel) (pa_cons (pe_lc (own := [("letter", 1)]) (g := (gName 1)) (tt := tYes) rfl sc_is_name.nd (pi_str (pv 0)) (blkOk_by (N := Nis_name) (sc := defScope s_is_name) (by decide +kernel))
      (fun _ _ _ _ _ => (pg_name (i := 1) sc_is_name.nd rfl (Or.inl rfl))) (fun _ _ _ _ _ => pts_nil) (fun _ _ _ _ _ => (pe_chain op_le_str op_le_str pe_str (pv 1) pe_str))) pa_nil))))), ?_⟩
    rcases hJ with ⟨z, rfl, hz⟩ | hJ
    · refine ⟨_, rfl, _, _, _, _, true, rfl, .ty "str", .base (.str z), kit_ty (by decide +kernel), true, rfl, iteF ?_⟩
      refine ⟨_, rfl, z, rfl, hz, 1, _, rfl, rfl, _, rfl, ite2 (fun e1 => ?_) (fun e1 => ?_)⟩
      · refine ⟨_, 8, rfl, rfl, _, rfl, ?_⟩
        have l1 : 1 ≤ z.length := by have := of_decide_eq_true e1; omega
        by_cases e2 : ((z.length : Nat) : Int) ≤ 8
        · have l2 : z.length ≤ 8 := by omega
          rw [decide_eq_true e2]
          refine iteF ?_
          refine ⟨_, rfl, z, rfl, fun D hD => lc_it walk_str (fun i H1 => Same H H1 ∧ H1 D = some (.lst ((z.cps.toList.take i).map fun c => V.bl (gg c)))) ⟨same_new (Same.refl H) hD, upd_same⟩ (fun _ _ _ _ => trivial) ?_ ?_⟩
          · intro i x H1 H2 hi hp hy
            obtain ⟨rfl, c, hc, rfl⟩ := hy
            obtain ⟨sm, hl⟩ := hp
            have hi9 : i < 9 := Nat.lt_of_lt_of_le hi (Nat.le_trans (show z.cps.size ≤ 8 from l2) (by omega))
            have fin : ∀ b, b = gg c → ∃ acc, H2 D = some (.lst acc) ∧ acc.length < sizeLine ∧ (Same H (upd H2 D (.lst (acc ++ [V.bl b]))) ∧ (upd H2 D (.lst (acc ++ [V.bl b]))) D = some (.lst ((z.cps.toList.take (i + 1)).map fun c => V.bl (gg c)))) := fun b hb => by
              refine ⟨_, hl, ?_, same_put sm hD, ?_⟩
              · rw [List.length_map, List.length_take]
                exact small1000 (Nat.le_trans (Nat.min_le_left _ _) (by omega))
              · rw [upd_same, hb, List.take_add_one, Array.getElem?_toList, hc, List.map_append]
                rfl
            refine ⟨rfl, ?_⟩
            refine ⟨_, rfl, _, _, rfl, rfl, _, rfl, ite2 (fun e3 => ⟨_, _, rfl, rfl, fin _ ?_⟩) (fun e3 => fin _ ?_)⟩
            · show g2 c = (g1 c && g2 c)
              rw [show g1 c = true from e3, Bool.true_and]
            · show false = (g1 c && g2 c)
              rw [show g1 c = false from (Bool.not_eq_true _).mp e3, Bool.false_and]
          · intro H1 hp
            obtain ⟨sm, hl⟩ := hp
            refine ⟨D, (z.cps.toList.map gg), rfl, ?_, ?_⟩
            · refine .inl (.inl ?_)
              rw [hl, List.take_of_length_le (by simp), List.map_map]
              rfl
            · have e3 : nameV (.str z) = (z.cps.toList.map gg).all id := by
                show (decide (1 ≤ z.length) && decide (z.length ≤ 8) && _) = _
                rw [decide_eq_true l1, decide_eq_true l2, Bool.true_and, Bool.true_and]
              rw [e3] at q
              exact q H1 sm
        · rw [decide_eq_false e2]
          refine iteT ?_
          have e3 : nameV (.str z) = false := by
            show (decide (1 ≤ z.length) && decide (z.length ≤ 8) && _) = false
            rw [decide_eq_false (show ¬ z.length ≤ 8 by omega), Bool.and_false, Bool.false_and]
          rw [e3] at q
          exact q H (Same.refl H)
      · have e2 : nameV (.str z) = false := by
          have : ¬ (1 ≤ z.length) := fun c => e1 (decide_eq_true (by omega))
          show (decide (1 ≤ z.length) && _ && _) = false
          rw [decide_eq_false this, Bool.false_and, Bool.false_and]
        rw [e2] at q
        exact ⟨false, rfl, iteT (q H (Same.refl H))⟩
    · obtain ⟨T, hT, hk⟩ := hJ.ty (K := K)
      refine ⟨_, rfl, _, _, _, _, false, rfl, .ty "str", hT, kit_ty hk, false, rfl, iteT (iteT ?_)⟩
      have := q H (Same.refl H)
      rw [jud_false hT hk] at this
      exact this

theorem ok__law_is_word {f : Addr} {fd : FuncData} {k : Nat} (F : Fun K "_law_is_word" "_law_is_word" s_law_is_word f fd) (m_isinstance : mg "isinstance" = none) (m_str : mg "str" = none) (m_len : mg "len" = none) :
    FnOk P w K mg base CX0 (k + 1) f fd ["value"] spName := by
  refine F.ok sc_law_is_word (fun vs H Q E h => ?_) (fun cdv A outer s H vs Q E hr h => ?_)
  · obtain ⟨v, rfl, _⟩ := h
    rfl
  · obtain ⟨v, rfl, hJ, q⟩ := h
    refine ⟨_, (pss_cons (ps_if (PW.pt (pw_or (pt_not (pt_val (pe_callB call_isi (by rfl) m_isinstance (by decide +kernel) (pa_cons (pv 0) (pa_cons (pe_bltn (v := .ty "str") (by rfl) m_str (by decide +kernel) rfl) pa_nil))))) (pw_or1 (pt_not (pt_chain op_le op_le pe_int (pe_callB call_len_str (by rfl) m_len (by decide +kernel) (pa_cons (pv 0) pa_nil)) pe_int)))))
        (pss_one (ps_ret pe_bl))
        pss_nil)
      (pss_one (ps_ret (pe_cmpR (op_eqNil hr.units) (pe_lc (own := [("one", 1)]) (g := (gName 1)) rfl sc_law_is_word.nd (pi_str (pv 0)) (blkOk_by (N := Nlaw_is_word) (sc := defScope s_law_is_word) (by decide +kernel))
      (fun _ _ _ _ _ => (pg_name (i := 1) sc_law_is_word.nd rfl (Or.inl rfl))) (fun _ _ _ _ _ => (pts_one (pt_not (pt_chain op_le_str op_le_str pe_str (pv 1) pe_str)))) (fun _ _ _ _ _ => (pv 1))) (pe_lst pa_nil) (nomark _))))), ?_⟩
    rcases hJ with ⟨z, rfl, hz⟩ | hJ
    · refine ⟨_, rfl, _, _, _, _, true, rfl, .ty "str", .base (.str z), kit_ty (by decide +kernel), true, rfl, iteF ?_⟩
      refine ⟨_, rfl, z, rfl, hz, 1, _, rfl, rfl, _, rfl, ite2 (fun e1 => ?_) (fun e1 => ?_)⟩
      · refine ⟨_, 8, rfl, rfl, _, rfl, ?_⟩
        have l1 : 1 ≤ z.length := by have := of_decide_eq_true e1; omega
        by_cases e2 : ((z.length : Nat) : Int) ≤ 8
        · have l2 : z.length ≤ 8 := by omega
          rw [decide_eq_true e2]
          refine iteF ?_
          refine ⟨_, rfl, z, rfl, fun D hD => lc_it walk_str (fun i H1 => Same H H1 ∧ H1 D = some (.lst (((z.cps.toList.take i).filter fun c => !gg c).map fun c => V.str ⟨#[c]⟩))) ⟨same_new (Same.refl H) hD, upd_same⟩ (fun _ _ _ _ => trivial) ?_ ?_⟩
          · intro i x H1 H2 hi hp hy
            obtain ⟨rfl, c, hc, rfl⟩ := hy
            obtain ⟨sm, hl⟩ := hp
            have hi9 : i < 9 := Nat.lt_of_lt_of_le hi (Nat.le_trans (show z.cps.size ≤ 8 from l2) (by omega))
            have tk : (z.cps.toList.take (i + 1)).filter (fun c => !gg c) = (z.cps.toList.take i).filter (fun c => !gg c) ++ [c].filter (fun c => !gg c) := by
              rw [List.take_add_one, Array.getElem?_toList, hc, List.filter_append]
              rfl
            have fin : gg c = false → ∃ acc, H2 D = some (.lst acc) ∧ acc.length < sizeLine ∧ (Same H (upd H2 D (.lst (acc ++ [V.str ⟨#[c]⟩]))) ∧ (upd H2 D (.lst (acc ++ [V.str ⟨#[c]⟩]))) D = some (.lst (((z.cps.toList.take (i + 1)).filter fun c => !gg c).map fun c => V.str ⟨#[c]⟩))) := fun hb => by
              refine ⟨_, hl, ?_, same_put sm hD, ?_⟩
              · rw [List.length_map]
                refine Nat.lt_of_le_of_lt (List.length_filter_le _ _) ?_
                rw [List.length_take]
                exact small1000 (Nat.le_trans (Nat.min_le_left _ _) (by omega))
              · rw [upd_same, tk, List.map_append, List.filter_cons, hb]
                rfl
            have nofin : gg c = true → (Same H H2 ∧ H2 D = some (.lst (((z.cps.toList.take (i + 1)).filter fun c => !gg c).map fun c => V.str ⟨#[c]⟩))) := fun hb => by
              refine ⟨sm, ?_⟩
              rw [hl, tk, List.filter_cons, hb]
              simp
            refine ⟨rfl, ⟨_, rfl, _, _, rfl, rfl, _, rfl, ite2 (fun e3 => ⟨_, _, rfl, rfl, _, rfl, ?_⟩) (fun e3 => ⟨false, rfl, iteT ⟨_, rfl, fin ?_⟩⟩)⟩⟩
            · show if (!g2 c) = true then _ else _
              have e4 : g1 c = true := e3
              cases e5 : g2 c with
              | true => exact iteF (nofin (by unfold gg; rw [e4, e5]; rfl))
              | false => exact iteT ⟨_, rfl, fin (by unfold gg; rw [e4, e5]; rfl)⟩
            · show (g1 c && g2 c) = false
              rw [show g1 c = false from (Bool.not_eq_true _).mp e3, Bool.false_and]
          · intro H1 hp
            obtain ⟨sm, hl⟩ := hp
            refine ⟨Nat.zero_le _, fun N hN => ⟨D, N, (((z.cps.toList.take z.cps.size).filter fun c => !gg c).map fun c => V.str ⟨#[c]⟩), rfl, rfl, .inl (.inl ?_), .inl (.inl upd_same), ?_⟩⟩
            · exact (upd_ne (ne_of_none hl hN)).trans hl
            · have e3 : nameV (.str z) = (((z.cps.toList.take z.cps.size).filter fun c => !gg c).map fun c => V.str ⟨#[c]⟩).isEmpty := by
                show (decide (1 ≤ z.length) && decide (z.length ≤ 8) && _) = _
                rw [decide_eq_true l1, decide_eq_true l2, Bool.true_and, Bool.true_and, ← filter_all, List.take_of_length_le (by simp), List.isEmpty_map]
              rw [e3] at q
              exact q _ (fun b o e => (upd_ne (ne_of_none (sm b o e) hN)).trans (sm b o e))
        · rw [decide_eq_false e2]
          refine iteT ?_
          have e3 : nameV (.str z) = false := by
            show (decide (1 ≤ z.length) && decide (z.length ≤ 8) && _) = false
            rw [decide_eq_false (show ¬ z.length ≤ 8 by omega), Bool.and_false, Bool.false_and]
          rw [e3] at q
          exact q H (Same.refl H)
      · have e2 : nameV (.str z) = false := by
          have : ¬ (1 ≤ z.length) := fun c => e1 (decide_eq_true (by omega))
          show (decide (1 ≤ z.length) && _ && _) = false
          rw [decide_eq_false this, Bool.false_and, Bool.false_and]
        rw [e2] at q
        exact ⟨false, rfl, iteT (q H (Same.refl H))⟩
    · obtain ⟨T, hT, hk⟩ := hJ.ty (K := K)
      refine ⟨_, rfl, _, _, _, _, false, rfl, .ty "str", hT, kit_ty hk, false, rfl, iteT (iteT ?_)⟩
      have := q H (Same.refl H)
      rw [jud_false hT hk] at this
      exact this
end

/-! ### looks at data -/
def spOn (f : PyData → Bool) : Sp := fun vs H Q _ => ∃ v d, vs = [v] ∧ D H v d ∧ sm d = true ∧ ∀ H', Same H H' → Q (.bl (f d)) H'
def spOn1 (f : Int → PyData → Bool) : Sp := fun vs H Q _ => ∃ v n d, vs = [v, .int n] ∧ D H v d ∧ sm d = true ∧ ∀ H', Same H H' → Q (.bl (f n d)) H'
def spAsc : Sp := fun vs H Q _ => ∃ a, vs = [.ref a] ∧ ((∃ ns : List Int, H a = some (.tup (ns.map V.int)) ∧ 1 ≤ ns.length ∧ ns.length ≤ 1000 ∧ ∀ H', Same H H' → Q (.bl (asc ltI ns)) H') ∨
  ∃ ps : List (Addr × List Int), H a = some (.tup (Zt.refs ps)) ∧ (∀ p ∈ ps, H p.1 = some (.tup (p.2.map V.int))) ∧ 1 ≤ ps.length ∧ ps.length ≤ 1000 ∧ ∀ H', Same H H' → Q (.bl (asc HT.lexLt (Zt.keys ps))) H')
abbrev s_is_integer : Stmt := topS 3
abbrev Nis_integer : List Str := ["value"]
theorem sc_is_integer : FnScope Nis_integer ["value"] (defScope s_is_integer) := ⟨rfl, rfl, rfl, by decide +kernel, rfl, by decide +kernel, by decide +kernel⟩
abbrev s_is_index : Stmt := topS 4
abbrev Nis_index : List Str := ["value", "many"]
theorem sc_is_index : FnScope Nis_index ["value", "many"] (defScope s_is_index) := ⟨rfl, rfl, rfl, by decide +kernel, rfl, by decide +kernel, by decide +kernel⟩
abbrev s_ascends : Stmt := topS 5
abbrev Nascends : List Str := ["items", "at"]
theorem sc_ascends : FnScope Nascends ["items"] (defScope s_ascends) := ⟨rfl, rfl, rfl, by decide +kernel, rfl, by decide +kernel, by decide +kernel⟩
section
variable {P : Program} {w : World} {K : PySem.W.Frag} {mg : Str → Option Value} {base : Heap}
theorem ok_is_integer {f : Addr} {fd : FuncData} {k : Nat} (F : Fun K "is_integer" "is_integer" s_is_integer f fd) (m_isinstance : mg "isinstance" = none) (m_int : mg "int" = none) (m_bool : mg "bool" = none) :
    FnOk P w K mg base CX0 (k + 1) f fd ["value"] (spOn isN) := by
  refine F.ok sc_is_integer (fun vs H Q E h => ?_) (fun cdv A outer s H vs Q E hr h => ?_)
  · obtain ⟨v, d, rfl, _⟩ := h
    rfl
  · obtain ⟨v, d, rfl, hd, hs, q⟩ := h
    refine ⟨_, (pss_one (ps_ret (pe_and (pe_callB call_isD (by rfl) m_isinstance (by decide +kernel) (pa_cons (pv 0) (pa_cons (pe_bltn (v := .ty "int") (by rfl) m_int (by decide +kernel) rfl) pa_nil))) (pe_one (pe_not (pe_callB call_isD (by rfl) m_isinstance (by decide +kernel) (pa_cons (pv 0) (pa_cons (pe_bltn (v := .ty "bool") (by rfl) m_bool (by decide +kernel) rfl) pa_nil)))))))), ?_⟩
    have q := q H (Same.refl H)
    rw [isN_eq] at q
    refine ⟨_, rfl, _, d, _, _, rfl, hd, kI d, _, rfl, ite2 (fun e => ?_) (fun e => ?_)⟩
    · refine ⟨_, rfl, _, d, _, _, rfl, hd, kB d, _, rfl, ?_⟩
      rw [e, Bool.true_and] at q
      exact q
    · have e := (Bool.not_eq_true _).mp e
      rw [e, Bool.false_and] at q
      exact q
theorem isNum_int {n : Int} {d : PyData} (h : isNum n d = true) : isN d = true := by
  cases d with
  | int i => rfl
  | _ => exact absurd h (by intro z; cases z)
theorem notN_num {n : Int} {d : PyData} (h : isN d = false) : isNum n d = false := by
  cases e : isNum n d with
  | true =>
    rw [isNum_int e] at h
    cases h
  | false => rfl
theorem ok_is_index {f fI : Addr} {fd fdI : FuncData} (F : Fun K "is_index" "is_index" s_is_index f fd) (G_is_integer : FnOk P w K mg base CX0 1 fI fdI ["value"] (spOn isN)) (F_is_integer : Fun K "is_integer" "is_integer" s_is_integer fI fdI) (b_is_integer : Binds K fdI ["value"] []) (g_is_integer : mg "is_integer" = some (.ref fI)) :
    FnOk P w K mg base CX0 2 f fd ["value", "many"] (spOn1 isNum) := by
  refine F.ok sc_is_index (fun vs H Q E h => ?_) (fun cdv A outer s H vs Q E hr h => ?_)
  · obtain ⟨v, n, d, rfl, _⟩ := h
    rfl
  · obtain ⟨v, n, d, rfl, hd, hs, q⟩ := h
    refine ⟨_, (pss_one (ps_ret (pe_and (pe_call G_is_integer (hr.mono (by decide)) (by rfl) g_is_integer F_is_integer.kp b_is_integer .nil pass0 (pa_cons (pv 0) pa_nil)) (pe_one (pe_chain op_le op_lt pe_int (pv 0) (pv 1)))))), ?_⟩
    refine ⟨_, rfl, _, d, rfl, hd, hs, fun H1 s1 => ⟨_, rfl, ite2 (fun e => ?_) (fun e => ?_)⟩⟩
    · have q := q H1 s1
      cases d with
      | int i =>
        cases hd
        refine ⟨_, rfl, 0, i, rfl, rfl, _, rfl, ite2 (fun e1 => ?_) (fun e1 => ?_)⟩
        · refine ⟨_, rfl, i, n, rfl, rfl, ?_⟩
          have q : Q (.bl (decide (0 ≤ i) && decide (i < n))) H1 := q
          rw [e1, Bool.true_and] at q
          exact q
        · have q : Q (.bl (decide (0 ≤ i) && decide (i < n))) H1 := q
          rw [(Bool.not_eq_true _).mp e1, Bool.false_and] at q
          exact q
      | _ => exact absurd e (by intro z; cases z)
    · have e := (Bool.not_eq_true _).mp e
      have q := q H1 s1
      rw [notN_num e] at q
      exact q
theorem ok_ascends {f : Addr} {fd : FuncData} {k : Nat} (F : Fun K "ascends" "ascends" s_ascends f fd) (m_all : mg "all" = none) (m_range : mg "range" = none) (m_len : mg "len" = none) :
    FnOk P w K mg base CX0 (k + 1) f fd ["items"] spAsc := by
  refine F.ok sc_ascends (fun vs H Q E h => ?_) (fun cdv A outer s H vs Q E hr h => ?_)
  · obtain ⟨a, rfl, _⟩ := h
    rfl
  · obtain ⟨a, rfl, h⟩ := h
    refine ⟨_, (pss_one (ps_ret (pe_callB (cr_all rfl) (by rfl) m_all (by decide +kernel) (pa_cons (pe_lc (own := [("at", 1)]) (g := (gName 1)) (tt := tYes) rfl sc_ascends.nd (pi_range1 rfl m_range (pa_cons (pe_op op_sub (pe_callB call_len_seq (by rfl) m_len (by decide +kernel) (pa_cons (pv 0) pa_nil)) pe_int) pa_nil)) (blkOk_by (N := Nascends) (sc := defScope s_ascends) (by decide +kernel))
      (fun _ _ _ _ _ => (pg_name (i := 1) sc_ascends.nd rfl (Or.inl rfl))) (fun _ _ _ _ _ => pts_nil) (fun _ _ _ _ _ => (pe_cmpR (r := rLtA K) (op_ltA (Nat.lt_of_le_of_lt (Nat.le_add_right _ 64) hr.units)) (pe_ix (r := rIxT K) ix_tup (pv 0) (pv 1) (fun _ _ => rfl)) (pe_ix (r := rIxT K) ix_tup (pv 0) (pe_op op_add (pv 1) pe_int) (fun _ _ => rfl)) (nomark _)))) pa_nil)))), ?_⟩
    obtain ⟨xs, bs, ha, l1, l2, lb, st, q⟩ : ∃ (xs : List V) (bs : List Bool), H a = some (.tup xs) ∧ 1 ≤ xs.length ∧ xs.length ≤ 1000 ∧ bs.length = xs.length - 1 ∧
        (∀ (i : Nat) (H1 : Hp) (x y : V) (R : VK), xs[i]? = some x → xs[i + 1]? = some y → Same H H1 → (∀ b, bs[i]? = some b → R (.bl b) H1) → rLtA K x y H1 R) ∧ (∀ H', Same H H' → Q (.bl (bs.all id)) H') := by
      rcases h with ⟨ns, ha, l1, l2, q⟩ | ⟨ps, ha, hp, l1, l2, q⟩
      · refine ⟨ns.map V.int, adj ltI ns, ha, (by rw [List.length_map]; exact l1), (by rw [List.length_map]; exact l2), (by rw [adj_len, List.length_map]), (fun i H1 x y R hx hy s1 r => ?_), q⟩
        rw [List.getElem?_map] at hx hy
        cases e1 : ns[i]? with
        | none =>
          rw [e1] at hx
          cases hx
        | some m =>
          cases e2 : ns[i + 1]? with
          | none =>
            rw [e2] at hy
            cases hy
          | some m2 =>
            rw [e1] at hx
            rw [e2] at hy
            cases hx
            cases hy
            exact .inl ⟨m, m2, rfl, rfl, r _ (adj_at ltI ns i m m2 e1 e2)⟩
      · refine ⟨Zt.refs ps, adj HT.lexLt (Zt.keys ps), ha, (by rw [List.length_map]; exact l1), (by rw [List.length_map]; exact l2), (by rw [adj_len, List.length_map, List.length_map]), (fun i H1 x y R hx hy s1 r => ?_), q⟩
        unfold Zt.refs at hx hy
        rw [List.getElem?_map] at hx hy
        cases e1 : ps[i]? with
        | none =>
          rw [e1] at hx
          cases hx
        | some m =>
          cases e2 : ps[i + 1]? with
          | none =>
            rw [e2] at hy
            cases hy
          | some m2 =>
            rw [e1] at hx
            rw [e2] at hy
            cases hx
            cases hy
            refine .inr ⟨m.1, m2.1, m.2, m2.2, rfl, rfl, .inl (.inl (s1 _ _ (hp m (List.mem_of_getElem? e1)))), .inl (.inl (s1 _ _ (hp m2 (List.mem_of_getElem? e2)))), r _ (adj_at HT.lexLt _ i _ _ ?_ ?_)⟩
            · unfold Zt.keys
              rw [List.getElem?_map, e1]
              rfl
            · unfold Zt.keys
              rw [List.getElem?_map, e2]
              rfl
    refine ⟨_, rfl, a, xs, rfl, .inr (.inl (.inl ha)), _, 1, rfl, rfl, _, rfl, by omega, by omega, fun D0 nD => ?_⟩
    have en : ((((xs.length : Nat) : Int) - 1).toNat) = xs.length - 1 := by omega
    rw [en]
    refine lc_range (lo := 0) (n := xs.length - 1) (fun i H1 => Same H H1 ∧ H1 D0 = some (.lst ((bs.take i).map V.bl))) ⟨same_new (Same.refl H) nD, upd_same⟩ (fun i H1 hi hq => ?_) (fun H1 hq => ?_)
    · obtain ⟨s1, hl⟩ := hq
      have hx : xs[i]? = some xs[i] := List.getElem?_eq_getElem (by omega)
      have hy : xs[i + 1]? = some xs[i + 1] := List.getElem?_eq_getElem (by omega)
      refine ⟨rfl, _, rfl, _, rfl, a, xs, _, _, rfl, rfl, .inl (.inl (s1 _ _ ha)), (by rw [Int.zero_add]; exact atI_nat hx), _, rfl, _, rfl, _, 1, rfl, rfl, a, xs, _, _, rfl, rfl, .inl (.inl (s1 _ _ ha)), (by rw [Int.zero_add]; exact atI_nat hy), ?_⟩
      refine st i H1 _ _ _ hx hy s1 fun b hb => ⟨_, hl, ?_, same_put s1 nD, ?_⟩
      · rw [List.length_map, List.length_take]
        exact small1000 (Nat.le_trans (Nat.min_le_left _ _) (by omega))
      · rw [upd_same, List.take_add_one, hb, List.map_append]
        rfl
    · obtain ⟨s1, hl⟩ := hq
      rw [← lb, List.take_of_length_le (Nat.le_refl _)] at hl
      exact ⟨D0, bs, rfl, .inl (.inl hl), q H1 s1⟩
end
end My

namespace My
open PySem PySem.Spec PyProof.Rows L2 Sh Dt
theorem split_tup (d : PyData) : (∃ ds, d = .tuple ds) ∨ (isT d = false ∧ (∀ n, isSet n d = false) ∧ (∀ n, isPair n d = false) ∧ (∀ n, isPairs n d = false) ∧ ∀ p n, isMove p n d = false) := by
  cases d with
  | tuple ds => exact .inl ⟨ds, rfl⟩
  | _ => exact .inr ⟨rfl, fun _ => rfl, fun _ => rfl, fun _ => rfl, fun _ _ => rfl⟩
theorem isSet_eq {n : Int} {d : PyData} {r : List PyData} : isSet n (.tuple (d :: r)) = ((d :: r).all (isNum n) && asc ltI ((d :: r).map intOf)) := rfl
theorem isPairs_eq {n : Int} {d : PyData} {r : List PyData} : isPairs n (.tuple (d :: r)) = ((d :: r).all (isPair n) && asc HT.lexLt ((d :: r).map rowOf)) := rfl
def isNr (n : Int) : PyData → Bool
  | .int i => decide (1 ≤ i) && decide (i ≤ n)
  | _ => false
def spMove : Sp := fun vs H Q _ => ∃ v p n d, vs = [v, .int p, .int n] ∧ D H v d ∧ sm d = true ∧ ∀ H', Same H H' → Q (.bl (isMove p n d)) H'
def spTask : Sp := fun vs H Q _ => ∃ a v xs d, vs = [.ref a] ∧ H a = some (.tup (v :: xs)) ∧ D H v d ∧ ∀ H', Same H H' → Q (.bl (strIn d ["call", "post"])) H'
def areMoves (p n : Int) (ds : List PyData) : Bool := decide (ds.length ≤ 12) && ds.all (isMove p n)
def spMoves : Sp := fun vs H Q _ => ∃ a xs p n ds, vs = [.ref a, .int p, .int n] ∧ H a = some (.tup xs) ∧ DAll H xs ds ∧ ds.length ≤ 60 ∧ (∀ d ∈ ds, sm d = true) ∧ ∀ H', Same H H' → Q (.bl (areMoves p n ds)) H'
theorem ifN {c : Prop} [Decidable c] {A B : Prop} (h : ¬ c) (b : B) : if decide c = true then A else B := by
  rw [decide_eq_false h]
  exact iteF b
theorem ifY {c : Prop} [Decidable c] {A B : Prop} (h : c) (a : A) : if decide c = true then A else B := by
  rw [decide_eq_true h]
  exact iteT a
theorem ifNN {c : Prop} [Decidable c] {A B : Prop} (h : ¬ c) (b : A) : if (!decide c) = true then A else B := by
  rw [decide_eq_false h]
  exact iteT b
theorem ifNY {c : Prop} [Decidable c] {A B : Prop} (h : c) (a : B) : if (!decide c) = true then A else B := by
  rw [decide_eq_true h]
  exact iteF a
theorem intN {n m : Nat} (h : n ≠ m) : ¬ (V.int (n : Int) = V.int (m : Int)) := fun z => h (by
  have := V.int.inj z
  omega)
abbrev s_is_mode_set : Stmt := topS 11
abbrev Nis_mode_set : List Str := ["value", "modes", "mode"]
theorem sc_is_mode_set : FnScope Nis_mode_set ["value", "modes"] (defScope s_is_mode_set) := ⟨rfl, rfl, rfl, by decide +kernel, rfl, by decide +kernel, by decide +kernel⟩
abbrev s_is_pair : Stmt := topS 12
abbrev Nis_pair : List Str := ["value", "modes"]
theorem sc_is_pair : FnScope Nis_pair ["value", "modes"] (defScope s_is_pair) := ⟨rfl, rfl, rfl, by decide +kernel, rfl, by decide +kernel, by decide +kernel⟩
abbrev s_is_pair_set : Stmt := topS 13
abbrev Nis_pair_set : List Str := ["value", "modes", "pair"]
theorem sc_is_pair_set : FnScope Nis_pair_set ["value", "modes"] (defScope s_is_pair_set) := ⟨rfl, rfl, rfl, by decide +kernel, rfl, by decide +kernel, by decide +kernel⟩
abbrev s_names_task : Stmt := topS 15
abbrev Nnames_task : List Str := ["move"]
theorem sc_names_task : FnScope Nnames_task ["move"] (defScope s_names_task) := ⟨rfl, rfl, rfl, by decide +kernel, rfl, by decide +kernel, by decide +kernel⟩
abbrev s_is_number : Stmt := topS 20
abbrev Nis_number : List Str := ["value", "most"]
theorem sc_is_number : FnScope Nis_number ["value", "most"] (defScope s_is_number) := ⟨rfl, rfl, rfl, by decide +kernel, rfl, by decide +kernel, by decide +kernel⟩
abbrev s_are_moves : Stmt := topS 21
abbrev Nare_moves : List Str := ["values", "points", "modes", "value"]
theorem sc_are_moves : FnScope Nare_moves ["values", "points", "modes"] (defScope s_are_moves) := ⟨rfl, rfl, rfl, by decide +kernel, rfl, by decide +kernel, by decide +kernel⟩
section
variable {P : Program} {w : World} {K : PySem.W.Frag} {mg : Str → Option Value} {base : Heap}
theorem ok_is_mode_set {f f_is_index f_ascends : Addr} {fd fd_is_index fd_ascends : FuncData} (F : Fun K "is_mode_set" "is_mode_set" s_is_mode_set f fd) (G_is_index : FnOk P w K mg base CX0 2 f_is_index fd_is_index ["value", "many"] (spOn1 isNum)) (F_is_index : Fun K "is_index" "is_index" s_is_index f_is_index fd_is_index) (b_is_index : Binds K fd_is_index ["value", "many"] []) (g_is_index : mg "is_index" = some (.ref f_is_index))(G_ascends : FnOk P w K mg base CX0 1 f_ascends fd_ascends ["items"] spAsc) (F_ascends : Fun K "ascends" "ascends" s_ascends f_ascends fd_ascends) (b_ascends : Binds K fd_ascends ["items"] []) (g_ascends : mg "ascends" = some (.ref f_ascends))(m_isinstance : mg "isinstance" = none) (m_tuple : mg "tuple" = none) (m_all : mg "all" = none) :
    FnOk P w K mg base CX0 3 f fd ["value", "modes"] (spOn1 isSet) := by
  refine F.ok sc_is_mode_set (fun vs H Q E h => ?_) (fun cdv A outer s H vs Q E hr h => ?_)
  · obtain ⟨v, n, d, rfl, _⟩ := h
    rfl
  · obtain ⟨v, n, d, rfl, hd, hs, q⟩ := h
    refine ⟨_, (pss_cons (ps_if (PW.pt (pw_or (pt_not (pt_val (pe_callB call_isD (by rfl) m_isinstance (by decide +kernel) (pa_cons (pv 0) (pa_cons (pe_bltn (v := .ty "tuple") (by rfl) m_tuple (by decide +kernel) rfl) pa_nil))))) (pw_or1 (pt_not (pt_truth (pv 0) (fun _ => rfl))))))
        (pss_one (ps_ret pe_bl))
        pss_nil)
      (pss_one (ps_ret (pe_and (pe_callB (cr_all rfl) (by rfl) m_all (by decide +kernel) (pa_cons (pe_lc (own := [("mode", 2)]) (g := (gName 2)) (tt := tYes) rfl sc_is_mode_set.nd (pi_tup (pv 0)) (blkOk_by (N := Nis_mode_set) (sc := defScope s_is_mode_set) (by decide +kernel))
      (fun _ _ _ _ _ => (pg_name (i := 2) sc_is_mode_set.nd rfl (Or.inl rfl))) (fun _ _ _ _ _ => pts_nil) (fun _ _ _ _ _ => (pe_call G_is_index (hr.mono (by decide)) (by rfl) g_is_index F_is_index.kp b_is_index .nil pass0 (pa_cons (pv 2) (pa_cons (pv 1) pa_nil))))) pa_nil)) (pe_one (pe_call G_ascends (hr.mono (by decide)) (by rfl) g_ascends F_ascends.kp b_ascends .nil pass0 (pa_cons (pv 0) pa_nil))))))), ?_⟩
    obtain ⟨ds, rfl⟩ | hn := split_tup d
    · cases hd with
      | @tup p xs ds e a =>
      refine ⟨_, rfl, _, .tuple ds, _, true, rfl, .tup e a, kT (.tuple ds), _, rfl, iteF ?_⟩
      obtain ⟨l60, sms⟩ := sm_tup.mp hs
      have ln := a.len
      refine ⟨_, rfl, _, .inr (.inl ⟨xs, .inl (.inl e), rfl⟩), ?_⟩
      cases a with
      | nil => exact iteT (q H (Same.refl H))
      | @cons v0 d0 vs r a0 ar =>
      have a : DAll H (v0 :: vs) (d0 :: r) := .cons a0 ar
      rw [List.length_cons] at l60
      have lx : (v0 :: vs).length ≤ 61 := by rw [List.length_cons] at *; rw [List.length_cons] at ln; omega
      refine iteF ⟨_, rfl, p, rfl, ⟨_, .inl (.inl e)⟩, fun E0 nE => lc_all (f := isNum n) nE e a (by omega) (fun x d1 H2 hx mem s2 R hr => ⟨rfl, _, rfl, _, rfl, _, _, d1, rfl, hx, sms d1 mem, hr⟩) (fun H3 s3 h3 => ⟨E0, _, rfl, .inl (.inl h3), _, rfl, ite2 (fun e2 => ?_) (fun e2 => ?_)⟩)⟩
      · rw [List.all_map] at e2
        have e2 : (d0 :: r).all (isNum n) = true := e2
        have e3 := ints_of_all e2
        have a3 := a
        rw [e3] at a3
        have ex := vals_ints a3
        refine ⟨_, rfl, p, rfl, .inl ⟨(d0 :: r).map intOf, ?_, by simp, by rw [List.length_map]; omega, fun H4 s4 => ?_⟩⟩
        · rw [← ex]
          exact s3 _ _ e
        · have q := q H4 (s3.trans s4)
          rw [isSet_eq, e2, Bool.true_and] at q
          exact q
      · have e2 := (Bool.not_eq_true _).mp e2
        have q := q H3 s3
        rw [isSet_eq] at q
        rw [List.all_map] at e2
        have e2 : (d0 :: r).all (isNum n) = false := e2
        rw [e2, Bool.false_and] at q
        exact q
    · have k := kT d
      rw [hn.1] at k
      refine ⟨_, rfl, _, d, _, false, rfl, hd, k, _, rfl, iteT (iteT ?_)⟩
      have q := q H (Same.refl H)
      rw [hn.2.1 n] at q
      exact q

theorem ok_is_pair {f f_is_index : Addr} {fd fd_is_index : FuncData} (F : Fun K "is_pair" "is_pair" s_is_pair f fd) (G_is_index : FnOk P w K mg base CX0 2 f_is_index fd_is_index ["value", "many"] (spOn1 isNum)) (F_is_index : Fun K "is_index" "is_index" s_is_index f_is_index fd_is_index) (b_is_index : Binds K fd_is_index ["value", "many"] []) (g_is_index : mg "is_index" = some (.ref f_is_index))(m_isinstance : mg "isinstance" = none) (m_tuple : mg "tuple" = none) (m_len : mg "len" = none) :
    FnOk P w K mg base CX0 3 f fd ["value", "modes"] (spOn1 isPair) := by
  refine F.ok sc_is_pair (fun vs H Q E h => ?_) (fun cdv A outer s H vs Q E hr h => ?_)
  · obtain ⟨v, n, d, rfl, _⟩ := h
    rfl
  · obtain ⟨v, n, d, rfl, hd, hs, q⟩ := h
    refine ⟨_, (pss_cons (ps_if (PW.pt (pw_or (pt_not (pt_val (pe_callB call_isD (by rfl) m_isinstance (by decide +kernel) (pa_cons (pv 0) (pa_cons (pe_bltn (v := .ty "tuple") (by rfl) m_tuple (by decide +kernel) rfl) pa_nil))))) (pw_or1 (pt_cmpR op_ne (pe_callB call_len_seq (by rfl) m_len (by decide +kernel) (pa_cons (pv 0) pa_nil)) pe_int (nomark _)))))
        (pss_one (ps_ret pe_bl))
        pss_nil)
      (pss_one (ps_ret (pe_and (pe_call G_is_index (hr.mono (by decide)) (by rfl) g_is_index F_is_index.kp b_is_index .nil pass0 (pa_cons (pe_ix ix_tup (pv 0) pe_int (fun _ _ => rfl)) (pa_cons (pv 1) pa_nil))) (pe_one (pe_call G_is_index (hr.mono (by decide)) (by rfl) g_is_index F_is_index.kp b_is_index .nil pass0 (pa_cons (pe_ix ix_tup (pv 0) pe_int (fun _ _ => rfl)) (pa_cons (pv 1) pa_nil)))))))), ?_⟩
    obtain ⟨ds, rfl⟩ | hn := split_tup d
    · cases hd with
      | @tup p xs ds e a =>
      refine ⟨_, rfl, _, .tuple ds, _, true, rfl, .tup e a, kT (.tuple ds), _, rfl, iteF ?_⟩
      obtain ⟨l60, sms⟩ := sm_tup.mp hs
      refine ⟨_, rfl, p, xs, rfl, .inr (.inl (.inl e)), rfl, _, rfl, ?_⟩
      have q0 := q H (Same.refl H)
      match ds, xs, a with
      | [], _, .nil => exact ifNN (intN (by decide)) q0
      | [_], _, .cons _ .nil => exact ifNN (intN (by simp)) q0
      | [a, b], _, .cons (v := va) ha (.cons (v := vb) hb .nil) =>
        refine ifNY rfl ?_
        refine ⟨_, rfl, p, _, 0, va, rfl, rfl, .inl (.inl e), rfl, _, rfl, _, _, a, rfl, ha, sms a (by simp), fun H1 s1 => ⟨_, rfl, ite2 (fun e1 => ?_) (fun e1 => ?_)⟩⟩
        · refine ⟨_, rfl, p, _, 1, vb, rfl, rfl, .inl (.inl (s1 _ _ e)), rfl, _, rfl, _, _, b, rfl, hb.same s1, sms b (by simp), fun H2 s2 => ?_⟩
          have q : Q (.bl (isNum n a && isNum n b)) H2 := q H2 (s1.trans s2)
          rw [e1, Bool.true_and] at q
          exact q
        · have q : Q (.bl (isNum n a && isNum n b)) H1 := q H1 s1
          rw [(Bool.not_eq_true _).mp e1, Bool.false_and] at q
          exact q
      | a :: b :: c :: r, _, .cons _ (.cons _ (.cons (vs := vs) _ ar)) => exact ifNN (intN (by simp)) q0
    · have k := kT d
      rw [hn.1] at k
      refine ⟨_, rfl, _, d, _, false, rfl, hd, k, _, rfl, iteT (iteT ?_)⟩
      have q := q H (Same.refl H)
      rw [hn.2.2.1 n] at q
      exact q
theorem ok_is_pair_set {f f_is_pair f_ascends : Addr} {fd fd_is_pair fd_ascends : FuncData} (F : Fun K "is_pair_set" "is_pair_set" s_is_pair_set f fd) (G_is_pair : FnOk P w K mg base CX0 3 f_is_pair fd_is_pair ["value", "modes"] (spOn1 isPair)) (F_is_pair : Fun K "is_pair" "is_pair" s_is_pair f_is_pair fd_is_pair) (b_is_pair : Binds K fd_is_pair ["value", "modes"] []) (g_is_pair : mg "is_pair" = some (.ref f_is_pair))(G_ascends : FnOk P w K mg base CX0 1 f_ascends fd_ascends ["items"] spAsc) (F_ascends : Fun K "ascends" "ascends" s_ascends f_ascends fd_ascends) (b_ascends : Binds K fd_ascends ["items"] []) (g_ascends : mg "ascends" = some (.ref f_ascends))(m_isinstance : mg "isinstance" = none) (m_tuple : mg "tuple" = none) (m_all : mg "all" = none) :
    FnOk P w K mg base CX0 4 f fd ["value", "modes"] (spOn1 isPairs) := by
  refine F.ok sc_is_pair_set (fun vs H Q E h => ?_) (fun cdv A outer s H vs Q E hr h => ?_)
  · obtain ⟨v, n, d, rfl, _⟩ := h
    rfl
  · obtain ⟨v, n, d, rfl, hd, hs, q⟩ := h
    refine ⟨_, (pss_cons (ps_if (PW.pt (pw_or (pt_not (pt_val (pe_callB call_isD (by rfl) m_isinstance (by decide +kernel) (pa_cons (pv 0) (pa_cons (pe_bltn (v := .ty "tuple") (by rfl) m_tuple (by decide +kernel) rfl) pa_nil))))) (pw_or1 (pt_not (pt_truth (pv 0) (fun _ => rfl))))))
        (pss_one (ps_ret pe_bl))
        pss_nil)
      (pss_one (ps_ret (pe_and (pe_callB (cr_all rfl) (by rfl) m_all (by decide +kernel) (pa_cons (pe_lc (own := [("pair", 2)]) (g := (gName 2)) (tt := tYes) rfl sc_is_pair_set.nd (pi_tup (pv 0)) (blkOk_by (N := Nis_pair_set) (sc := defScope s_is_pair_set) (by decide +kernel))
      (fun _ _ _ _ _ => (pg_name (i := 2) sc_is_pair_set.nd rfl (Or.inl rfl))) (fun _ _ _ _ _ => pts_nil) (fun _ _ _ _ _ => (pe_call G_is_pair (hr.mono (by decide)) (by rfl) g_is_pair F_is_pair.kp b_is_pair .nil pass0 (pa_cons (pv 2) (pa_cons (pv 1) pa_nil))))) pa_nil)) (pe_one (pe_call G_ascends (hr.mono (by decide)) (by rfl) g_ascends F_ascends.kp b_ascends .nil pass0 (pa_cons (pv 0) pa_nil))))))), ?_⟩
    obtain ⟨ds, rfl⟩ | hn := split_tup d
    · cases hd with
      | @tup p xs ds e a =>
      refine ⟨_, rfl, _, .tuple ds, _, true, rfl, .tup e a, kT (.tuple ds), _, rfl, iteF ?_⟩
      obtain ⟨l60, sms⟩ := sm_tup.mp hs
      have ln := a.len
      refine ⟨_, rfl, _, .inr (.inl ⟨xs, .inl (.inl e), rfl⟩), ?_⟩
      cases a with
      | nil => exact iteT (q H (Same.refl H))
      | @cons v0 d0 vs r a0 ar =>
      have a : DAll H (v0 :: vs) (d0 :: r) := .cons a0 ar
      rw [List.length_cons] at l60
      have lx : (v0 :: vs).length ≤ 61 := by rw [List.length_cons] at *; rw [List.length_cons] at ln; omega
      refine iteF ⟨_, rfl, p, rfl, ⟨_, .inl (.inl e)⟩, fun E0 nE => lc_all (f := isPair n) nE e a (by omega) (fun x d1 H2 hx mem s2 R hr => ⟨rfl, _, rfl, _, rfl, _, _, d1, rfl, hx, sms d1 mem, hr⟩) (fun H3 s3 h3 => ⟨E0, _, rfl, .inl (.inl h3), _, rfl, ite2 (fun e2 => ?_) (fun e2 => ?_)⟩)⟩
      · rw [List.all_map] at e2
        have e2 : (d0 :: r).all (isPair n) = true := e2
        have e3 := rows_of_all e2
        have a3 := a
        rw [e3] at a3
        obtain ⟨ps, h1, h2, h3⟩ := vals_rows a3
        have hk : ps.length = (d0 :: r).length := by
          have := congrArg List.length h2
          unfold Zt.keys at this
          rw [List.length_map, List.length_map] at this
          exact this
        rw [List.length_cons] at hk
        refine ⟨_, rfl, p, rfl, .inr ⟨ps, ?_, fun q hq => s3 _ _ (h3 q hq), by omega, by omega, fun H4 s4 => ?_⟩⟩
        · rw [← h1]
          exact s3 _ _ e
        · have q := q H4 (s3.trans s4)
          rw [isPairs_eq, e2, Bool.true_and, ← h2] at q
          exact q
      · have e2 := (Bool.not_eq_true _).mp e2
        have q := q H3 s3
        rw [isPairs_eq] at q
        rw [List.all_map] at e2
        have e2 : (d0 :: r).all (isPair n) = false := e2
        rw [e2, Bool.false_and] at q
        exact q
    · have k := kT d
      rw [hn.1] at k
      refine ⟨_, rfl, _, d, _, false, rfl, hd, k, _, rfl, iteT (iteT ?_)⟩
      have q := q H (Same.refl H)
      rw [hn.2.2.2.1 n] at q
      exact q

theorem ok_names_task {f : Addr} {fd : FuncData} (F : Fun K "names_task" "names_task" s_names_task f fd) : FnOk P w K mg base CX0 1 f fd ["move"] spTask := by
  refine F.ok sc_names_task (fun vs H Q E h => ?_) (fun cdv A outer s H vs Q E hr h => ?_)
  · obtain ⟨a, v, xs, d, rfl, _⟩ := h
    rfl
  · obtain ⟨a, v, xs, d, rfl, ha, hd, q⟩ := h
    refine ⟨_, (pss_one (ps_ret (pe_cmpR (op_inS hr.units) (pe_ix ix_tup (pv 0) pe_int (fun _ _ => rfl)) (pe_tup (pa_cons pe_str (pa_cons pe_str pa_nil))) (by with_unfolding_all rfl)))), ?_⟩
    refine ⟨_, rfl, a, _, 0, v, rfl, rfl, .inl (.inl ha), atI_nat (j := 0) rfl, len_ok, fun t nt => ?_⟩
    have s1 := same_new (Same.refl H) nt (o := .tup [V.str "call", V.str "post"])
    exact ⟨d, t, ["call", "post"], hd.same s1, rfl, .inl (.inl upd_same), q _ s1⟩
theorem ok_is_number {f f_is_integer : Addr} {fd fd_is_integer : FuncData} (F : Fun K "is_number" "is_number" s_is_number f fd) (G_is_integer : FnOk P w K mg base CX0 1 f_is_integer fd_is_integer ["value"] (spOn isN)) (F_is_integer : Fun K "is_integer" "is_integer" s_is_integer f_is_integer fd_is_integer) (b_is_integer : Binds K fd_is_integer ["value"] []) (g_is_integer : mg "is_integer" = some (.ref f_is_integer)) : FnOk P w K mg base CX0 2 f fd ["value", "most"] (spOn1 isNr) := by
  refine F.ok sc_is_number (fun vs H Q E h => ?_) (fun cdv A outer s H vs Q E hr h => ?_)
  · obtain ⟨v, n, d, rfl, _⟩ := h
    rfl
  · obtain ⟨v, n, d, rfl, hd, hs, q⟩ := h
    refine ⟨_, (pss_one (ps_ret (pe_and (pe_call G_is_integer (hr.mono (by decide)) (by rfl) g_is_integer F_is_integer.kp b_is_integer .nil pass0 (pa_cons (pv 0) pa_nil)) (pe_one (pe_chain op_le op_le pe_int (pv 0) (pv 1)))))), ?_⟩
    refine ⟨_, rfl, _, d, rfl, hd, hs, fun H1 s1 => ⟨_, rfl, ite2 (fun e => ?_) (fun e => ?_)⟩⟩
    · have q := q H1 s1
      cases d with
      | int i =>
        cases hd
        refine ⟨_, rfl, 1, i, rfl, rfl, _, rfl, ite2 (fun e1 => ?_) (fun e1 => ?_)⟩
        · refine ⟨_, rfl, i, n, rfl, rfl, ?_⟩
          have q : Q (.bl (decide (1 ≤ i) && decide (i ≤ n))) H1 := q
          rw [e1, Bool.true_and] at q
          exact q
        · have q : Q (.bl (decide (1 ≤ i) && decide (i ≤ n))) H1 := q
          rw [(Bool.not_eq_true _).mp e1, Bool.false_and] at q
          exact q
      | _ => exact absurd e (by intro z; cases z)
    · have e := (Bool.not_eq_true _).mp e
      have q := q H1 s1
      cases d with
      | int i => cases e
      | _ => exact q
theorem ok_are_moves {f f_is_move : Addr} {fd fd_is_move : FuncData} (F : Fun K "are_moves" "are_moves" s_are_moves f fd) (G_is_move : FnOk P w K mg base CX0 5 f_is_move fd_is_move ["value", "points", "modes"] spMove) (F_is_move : Fun K "is_move" "is_move" s_is_move f_is_move fd_is_move) (b_is_move : Binds K fd_is_move ["value", "points", "modes"] []) (g_is_move : mg "is_move" = some (.ref f_is_move)) {tk : Tok} (g_MOST_MOVES : mg "MOST_MOVES" = some (.int 12 tk)) (m_len : mg "len" = none) (m_all : mg "all" = none) :
    FnOk P w K mg base CX0 6 f fd ["values", "points", "modes"] spMoves := by
  refine F.ok sc_are_moves (fun vs H Q E h => ?_) (fun cdv A outer s H vs Q E hr h => ?_)
  · obtain ⟨a, xs, p, n, ds, rfl, _⟩ := h
    rfl
  · obtain ⟨a, xs, p, n, ds, rfl, e, hd, l60, sms, q⟩ := h
    refine ⟨_, (pss_one (ps_ret (pe_and (pe_cmpR op_le (pe_callB call_len_seq (by rfl) m_len (by decide +kernel) (pa_cons (pv 0) pa_nil)) (pe_glob (v := .int 12) rfl g_MOST_MOVES ⟨_, rfl⟩) (nomark _)) (pe_one (pe_callB (cr_all rfl) (by rfl) m_all (by decide +kernel) (pa_cons (pe_lc (own := [("value", 3)]) (g := (gName 3)) (tt := tYes) rfl sc_are_moves.nd (pi_tup (pv 0)) (blkOk_by (N := Nare_moves) (sc := defScope s_are_moves) (by decide +kernel))
      (fun _ _ _ _ _ => (pg_name (i := 3) sc_are_moves.nd rfl (Or.inl rfl))) (fun _ _ _ _ _ => pts_nil) (fun _ _ _ _ _ => (pe_call G_is_move (hr.mono (by decide)) (by rfl) g_is_move F_is_move.kp b_is_move .nil pass0 (pa_cons (pv 3) (pa_cons (pv 1) (pa_cons (pv 2) pa_nil)))))) pa_nil)))))), ?_⟩
    have ln := hd.len
    refine ⟨_, rfl, a, xs, rfl, .inr (.inl (.inl e)), _, 12, rfl, rfl, _, rfl, ite2 (fun e1 => ?_) (fun e1 => ?_)⟩
    · have e1 := of_decide_eq_true e1
      refine ⟨_, rfl, a, rfl, ⟨_, .inl (.inl e)⟩, fun E0 nE => lc_all (f := isMove p n) nE e hd (by omega) (fun x d1 H2 hx mem s2 R hr => ⟨rfl, _, rfl, _, rfl, _, rfl, _, _, _, d1, rfl, hx, sms d1 mem, hr⟩) (fun H3 s3 h3 => ⟨E0, _, rfl, .inl (.inl h3), ?_⟩)⟩
      have q := q H3 s3
      unfold areMoves at q
      rw [decide_eq_true (show ds.length ≤ 12 by omega), Bool.true_and] at q
      rw [List.all_map]
      exact q
    · have e1 : ¬ ((xs.length : Nat) : Int) ≤ 12 := fun z => e1 (decide_eq_true z)
      have q := q H (Same.refl H)
      unfold areMoves at q
      rw [decide_eq_false (show ¬ ds.length ≤ 12 by omega), Bool.false_and] at q
      exact q
end
end My

namespace My
open PySem PySem.Spec PyProof.Rows L2 Sh Dt
theorem strP {z : Str} : (PyData.str z).plain = true ∧ (PyData.str z).depth ≤ 60 := ⟨rfl, by simp only [PyData.depth]; omega⟩
theorem jud_of {H : Hp} {v : V} {d : PyData} (h : D H v d) (hs : sm d = true) : Jud H v := by
  cases h with
  | non => exact .inr (.inl rfl)
  | bl b => exact .inr (.inr (.inr (.inl ⟨b, rfl⟩)))
  | int i => exact .inr (.inr (.inl ⟨i, rfl⟩))
  | str z =>
    simp only [sm, Bool.and_eq_true, decide_eq_true_iff] at hs
    exact .inl ⟨z, rfl, Nat.le_of_lt (small1000 hs.1)⟩
  | lst e a => exact .inr (.inr (.inr (.inr (.inl ⟨_, _, rfl, e⟩))))
  | tup e a => exact .inr (.inr (.inr (.inr (.inr (.inl ⟨_, _, rfl, e⟩)))))
  | dic e => exact .inr (.inr (.inr (.inr (.inr (.inr ⟨_, _, rfl, e⟩)))))
theorem name_of {H : Hp} {v : V} {d : PyData} (h : D H v d) : nameV v = nameD d := by cases h <;> rfl
theorem eqv_nil (ds : List PyData) : PyData.eqv (.tuple ds) (.tuple []) = ds.isEmpty := by
  cases ds with
  | nil => simp [PyData.eqv, PyData.eqvAll]
  | cons a r => simp [PyData.eqv, PyData.eqvAll]
theorem nilP : (PyData.tuple []).plain = true ∧ (PyData.tuple []).depth ≤ 60 := ⟨by simp [PyData.plain, PyData.plainAll], by simp [PyData.depth, PyData.depthAll]⟩
theorem intsP : ∀ ns : List Int, PyData.plainAll (ns.map PyData.int) = true ∧ PyData.depthAll (ns.map PyData.int) = 0
  | [] => ⟨by simp [PyData.plainAll], by simp [PyData.depthAll]⟩
  | n :: ns => by
    have := intsP ns
    exact ⟨by simp [PyData.plainAll, PyData.plain, this.1], by simp [PyData.depthAll, PyData.depth, this.2]⟩
theorem listP (ns : List Int) : (PyData.list (ns.map PyData.int)).plain = true ∧ (PyData.list (ns.map PyData.int)).depth ≤ 60 := by
  have := intsP ns
  exact ⟨by simp [PyData.plain, this.1], by simp [PyData.depth, this.2]⟩
theorem rowsP : ∀ ks : List (List Int), PyData.plainAll (ks.map Zt.rowD) = true ∧ PyData.depthAll (ks.map Zt.rowD) ≤ 1
  | [] => ⟨by simp [PyData.plainAll], by simp [PyData.depthAll]⟩
  | k :: ks => by
    have h1 := rowsP ks
    have h2 := intsP k
    refine ⟨by simp [PyData.plainAll, PyData.plain, h1.1, h2.1, Zt.rowD], ?_⟩
    simp only [List.map_cons, PyData.depthAll, PyData.depth, Zt.rowD, h2.2]
    exact Nat.max_le.mpr ⟨by omega, h1.2⟩
theorem listRP (ks : List (List Int)) : (PyData.list (ks.map Zt.rowD)).plain = true ∧ (PyData.list (ks.map Zt.rowD)).depth ≤ 60 := by
  have := rowsP ks
  exact ⟨by simp [PyData.plain, this.1], by simp only [PyData.depth]; omega⟩
abbrev s_is_move : Stmt := topS 14
abbrev Nis_move : List Str := ["value", "points", "modes"]
theorem sc_is_move : FnScope Nis_move ["value", "points", "modes"] (defScope s_is_move) := ⟨rfl, rfl, rfl, by decide +kernel, rfl, by decide +kernel, by decide +kernel⟩
abbrev s_law_is_number : Stmt := topS 28
abbrev Nlaw_is_number : List Str := ["value", "total"]
theorem sc_law_is_number : FnScope Nlaw_is_number ["value", "total"] (defScope s_law_is_number) := ⟨rfl, rfl, rfl, by decide +kernel, rfl, by decide +kernel, by decide +kernel⟩
abbrev s_law_is_set : Stmt := topS 30
abbrev Nlaw_is_set : List Str := ["value", "total", "one"]
theorem sc_law_is_set : FnScope Nlaw_is_set ["value", "total"] (defScope s_law_is_set) := ⟨rfl, rfl, rfl, by decide +kernel, rfl, by decide +kernel, by decide +kernel⟩
section
variable {P : Program} {w : World} {K : PySem.W.Frag} {mg : Str → Option Value} {base : Heap}
theorem ok_is_move {f f_is_index f_is_mode_set f_is_pair_set f_names_task f_is_name : Addr} {fd fd_is_index fd_is_mode_set fd_is_pair_set fd_names_task fd_is_name : FuncData} (F : Fun K "is_move" "is_move" s_is_move f fd) (G_is_index : FnOk P w K mg base CX0 2 f_is_index fd_is_index ["value", "many"] (spOn1 isNum)) (F_is_index : Fun K "is_index" "is_index" s_is_index f_is_index fd_is_index) (b_is_index : Binds K fd_is_index ["value", "many"] []) (g_is_index : mg "is_index" = some (.ref f_is_index))(G_is_mode_set : FnOk P w K mg base CX0 3 f_is_mode_set fd_is_mode_set ["value", "modes"] (spOn1 isSet)) (F_is_mode_set : Fun K "is_mode_set" "is_mode_set" s_is_mode_set f_is_mode_set fd_is_mode_set) (b_is_mode_set : Binds K fd_is_mode_set ["value", "modes"] []) (g_is_mode_set : mg "is_mode_set" = some (.ref f_is_mode_set))(G_is_pair_set : FnOk P w K mg base CX0 4 f_is_pair_set fd_is_pair_set ["value", "modes"] (spOn1 isPairs)) (F_is_pair_set : Fun K "is_pair_set" "is_pair_set" s_is_pair_set f_is_pair_set fd_is_pair_set) (b_is_pair_set : Binds K fd_is_pair_set ["value", "modes"] []) (g_is_pair_set : mg "is_pair_set" = some (.ref f_is_pair_set))(G_names_task : FnOk P w K mg base CX0 1 f_names_task fd_names_task ["move"] spTask) (F_names_task : Fun K "names_task" "names_task" s_names_task f_names_task fd_names_task) (b_names_task : Binds K fd_names_task ["move"] []) (g_names_task : mg "names_task" = some (.ref f_names_task))(G_is_name : FnOk P w K mg base CX0 1 f_is_name fd_is_name ["value"] spName) (F_is_name : Fun K "is_name" "is_name" s_is_name f_is_name fd_is_name) (b_is_name : Binds K fd_is_name ["value"] []) (g_is_name : mg "is_name" = some (.ref f_is_name))(m_isinstance : mg "isinstance" = none) (m_tuple : mg "tuple" = none) (m_len : mg "len" = none) :
    FnOk P w K mg base CX0 5 f fd ["value", "points", "modes"] spMove := by
  refine F.ok sc_is_move (fun vs H Q E h => ?_) (fun cdv A outer s H vs Q E hr h => ?_)
  · obtain ⟨v, pn, n, d, rfl, _⟩ := h
    rfl
  · obtain ⟨v, pn, n, d, rfl, hd, hs, q⟩ := h
    refine ⟨_, (pss_cons (ps_if (PW.pt (pw_or (pt_not (pt_val (pe_callB call_isD (by rfl) m_isinstance (by decide +kernel) (pa_cons (pv 0) (pa_cons (pe_bltn (v := .ty "tuple") (by rfl) m_tuple (by decide +kernel) rfl) pa_nil))))) (pw_or (pt_cmpR op_lt (pe_callB call_len_seq (by rfl) m_len (by decide +kernel) (pa_cons (pv 0) pa_nil)) pe_int (nomark _)) (pw_or1 (pt_not (pt_val (pe_call G_is_index (hr.mono (by decide)) (by rfl) g_is_index F_is_index.kp b_is_index .nil pass0 (pa_cons (pe_ix ix_tup (pv 0) pe_int (fun _ _ => rfl)) (pa_cons (pv 1) pa_nil)))))))))
        (pss_one (ps_ret pe_bl))
        pss_nil)
      (pss_cons (ps_if (pt_cmpR (op_eqH hr.units) (pe_ix ix_tup (pv 0) pe_int (fun _ _ => rfl)) pe_str (nomark _))
        (pss_one (ps_ret (pe_and (pe_cmpR op_eq (pe_callB call_len_seq (by rfl) m_len (by decide +kernel) (pa_cons (pv 0) pa_nil)) pe_int (nomark _)) (pe_one (pe_call G_is_mode_set (hr.mono (by decide)) (by rfl) g_is_mode_set F_is_mode_set.kp b_is_mode_set .nil pass0 (pa_cons (pe_ix ix_tup (pv 0) pe_int (fun _ _ => rfl)) (pa_cons (pv 2) pa_nil)))))))
        pss_nil)
      (pss_cons (ps_if (pt_not (pt_val (pe_call G_is_index (hr.mono (by decide)) (by rfl) g_is_index F_is_index.kp b_is_index .nil pass0 (pa_cons (pe_ix ix_tup (pv 0) pe_int (fun _ _ => rfl)) (pa_cons (pv 1) pa_nil)))))
        (pss_one (ps_ret pe_bl))
        pss_nil)
      (pss_cons (ps_if (pt_cmpR (op_eqH hr.units) (pe_ix ix_tup (pv 0) pe_int (fun _ _ => rfl)) pe_str (nomark _))
        (pss_one (ps_ret (pe_and (pe_cmpR op_eq (pe_callB call_len_seq (by rfl) m_len (by decide +kernel) (pa_cons (pv 0) pa_nil)) pe_int (nomark _)) (pe_one (pe_call G_is_pair_set (hr.mono (by decide)) (by rfl) g_is_pair_set F_is_pair_set.kp b_is_pair_set .nil pass0 (pa_cons (pe_ix ix_tup (pv 0) pe_int (fun _ _ => rfl)) (pa_cons (pv 2) pa_nil)))))))
        pss_nil)
      (pss_cons (ps_if (PW.pt (pw_or (pt_not (pt_val (pe_call G_names_task (hr.mono (by decide)) (by rfl) g_names_task F_names_task.kp b_names_task .nil pass0 (pa_cons (pv 0) pa_nil)))) (pw_or1 (pt_cmpR op_ne (pe_callB call_len_seq (by rfl) m_len (by decide +kernel) (pa_cons (pv 0) pa_nil)) pe_int (nomark _)))))
        (pss_one (ps_ret pe_bl))
        pss_nil)
      (pss_one (ps_ret (pe_and (pe_call G_is_name (hr.mono (by decide)) (by rfl) g_is_name F_is_name.kp b_is_name .nil pass0 (pa_cons (pe_ix ix_tup (pv 0) pe_int (fun _ _ => rfl)) pa_nil)) (pe_one (pe_call G_is_mode_set (hr.mono (by decide)) (by rfl) g_is_mode_set F_is_mode_set.kp b_is_mode_set .nil pass0 (pa_cons (pe_ix ix_tup (pv 0) pe_int (fun _ _ => rfl)) (pa_cons (pv 2) pa_nil)))))))))))), ?_⟩
    obtain ⟨ds, rfl⟩ | hn := split_tup d
    · cases hd with
      | @tup p xs ds e a =>
      refine ⟨_, rfl, _, .tuple ds, _, true, rfl, .tup e a, kT (.tuple ds), _, rfl, iteF ?_⟩
      obtain ⟨l60, sms⟩ := sm_tup.mp hs
      have q : ∀ b, isMove pn n (.tuple ds) = b → ∀ H', Same H H' → Q (.bl b) H' := fun b eb => by
        subst eb
        exact q
      refine ⟨_, rfl, p, xs, rfl, .inr (.inl (.inl e)), _, 3, rfl, rfl, _, rfl, ?_⟩
      match ds, xs, a with
      | [], _, .nil => exact ifY (by decide) (q _ rfl H (Same.refl H))
      | [_], _, .cons _ .nil => exact ifY (by simp) (q _ rfl H (Same.refl H))
      | [_, _], _, .cons _ (.cons _ .nil) => exact ifY (by simp) (q _ rfl H (Same.refl H))
      | w0 :: a :: x :: r, _, .cons (v := vw) hw (.cons (v := va) ha (.cons (v := vx) (vs := vr) hx hr')) =>
        have lr := hr'.len
        refine ifN (by simp; omega) ?_
        refine ⟨_, rfl, p, _, 1, va, rfl, rfl, .inl (.inl e), atI_nat (j := 1) rfl, _, rfl, _, _, a, rfl, ha, sms a (by simp), fun H1 s1 => ⟨_, rfl, ?_⟩⟩
        cases e1 : isNum pn a with
        | false => exact iteT (q _ (by simp [isMove, e1]) H1 s1)
        | true =>
        refine iteF ⟨_, rfl, p, _, 0, vw, rfl, rfl, .inl (.inl (s1 _ _ e)), atI_nat (j := 0) rfl, w0, .str "leave", hw.same s1, .str _, strP.1, strP.2, _, rfl, ite2 (fun e2 => ?_) (fun e2 => ?_)⟩
        · refine ⟨_, rfl, p, _, rfl, .inr (.inl (.inl (s1 _ _ e))), rfl, _, rfl, ?_⟩
          match r, vr, hr' with
          | [], _, .nil =>
            refine ifY rfl ⟨_, rfl, p, _, 2, vx, rfl, rfl, .inl (.inl (s1 _ _ e)), atI_nat (j := 2) rfl, _, rfl, _, _, x, rfl, hx.same s1, sms x (by simp), fun H2 s2 => ?_⟩
            exact q _ (by simp [isMove, e1, e2]) H2 (s1.trans s2)
          | _ :: _, _, .cons _ _ => exact ifN (intN (by simp)) (q _ (by simp [isMove, e1, e2]) H1 s1)
        · have e2 := (Bool.not_eq_true _).mp e2
          refine ⟨_, rfl, p, _, 2, vx, rfl, rfl, .inl (.inl (s1 _ _ e)), atI_nat (j := 2) rfl, _, rfl, _, _, x, rfl, hx.same s1, sms x (by simp), fun H2 s2' => ⟨_, rfl, ?_⟩⟩
          have s2 := s1.trans s2'
          cases e2b : isNum pn x with
          | false => exact iteT (q _ (by simp [isMove, e1, e2, e2b]) H2 s2)
          | true =>
          refine iteF ⟨_, rfl, p, _, 0, vw, rfl, rfl, .inl (.inl (s2 _ _ e)), atI_nat (j := 0) rfl, w0, .str "go", hw.same s2, .str _, strP.1, strP.2, _, rfl, ite2 (fun e3 => ?_) (fun e3 => ?_)⟩
          · refine ⟨_, rfl, p, _, rfl, .inr (.inl (.inl (s2 _ _ e))), rfl, _, rfl, ?_⟩
            match r, vr, hr' with
            | [], _, .nil => exact ifN (intN (by simp)) (q _ (by simp [isMove, e1, e2, e2b, e3]) H2 s2)
            | [y], _, .cons (v := vy) hy .nil =>
              refine ifY rfl ⟨_, rfl, p, _, 3, vy, rfl, rfl, .inl (.inl (s2 _ _ e)), atI_nat (j := 3) rfl, _, rfl, _, _, y, rfl, hy.same s2, sms y (by simp), fun H3 s3 => ?_⟩
              exact q _ (by simp [isMove, e1, e2, e2b, e3]) H3 (s2.trans s3)
            | _ :: _ :: _, _, .cons _ (.cons _ _) => exact ifN (intN (by simp)) (q _ (by simp [isMove, e1, e2, e2b, e3]) H2 s2)
          · have e3 := (Bool.not_eq_true _).mp e3
            refine ⟨_, rfl, p, vw, _, w0, rfl, s2 _ _ e, hw.same s2, fun H3 s3 => ⟨_, rfl, ?_⟩⟩
            have s23 := s2.trans s3
            cases e4 : strIn w0 ["call", "post"] with
            | false => exact iteT (q _ (by simp [isMove, e1, e2, e2b, e3, e4]) H3 s23)
            | true =>
              refine iteF ?_
              refine ⟨_, rfl, p, _, rfl, .inr (.inl (.inl (s23 _ _ e))), rfl, _, rfl, ?_⟩
              match r, vr, hr' with
              | [], _, .nil => exact ifNN (intN (by simp)) (q _ (by simp [isMove, e1, e2, e2b, e3, e4]) _ s23)
              | [_], _, .cons _ .nil => exact ifNN (intN (by simp)) (q _ (by simp [isMove, e1, e2, e2b, e3, e4]) _ s23)
              | [y, z], _, .cons (v := vy) hy (.cons (v := vz) hz .nil) =>
                have hy' := hy.same s23
                refine ifNY rfl ⟨_, rfl, p, _, 3, vy, rfl, rfl, .inl (.inl (s23 _ _ e)), atI_nat (j := 3) rfl, vy, rfl, jud_of hy' (sms y (by simp)), fun H4 s4 => ⟨_, rfl, ?_⟩⟩
                rw [name_of hy']
                have s24 := s23.trans s4
                cases e5 : nameD y with
                | false => exact iteF (q _ (by simp [isMove, e1, e2, e2b, e3, e4, e5]) _ s24)
                | true =>
                  refine iteT ⟨_, rfl, p, _, 4, vz, rfl, rfl, .inl (.inl (s24 _ _ e)), atI_nat (j := 4) rfl, _, rfl, _, _, z, rfl, hz.same s24, sms z (by simp), fun H5 s5 => ?_⟩
                  exact q _ (by simp [isMove, e1, e2, e2b, e3, e4, e5]) _ (s24.trans s5)
              | _ :: _ :: _ :: _, _, .cons _ (.cons _ (.cons _ _)) => exact ifNN (intN (by simp)) (q _ (by simp [isMove, e1, e2, e2b, e3, e4]) _ s23)
    · have k := kT d
      rw [hn.1] at k
      refine ⟨_, rfl, _, d, _, false, rfl, hd, k, _, rfl, iteT (iteT ?_)⟩
      have q := q H (Same.refl H)
      rw [hn.2.2.2.2 pn n] at q
      exact q

theorem ok_law_is_number {f : Addr} {fd : FuncData} (F : Fun K "_law_is_number" "_law_is_number" s_law_is_number f fd) (m_isinstance : mg "isinstance" = none) (m_int : mg "int" = none) (m_bool : mg "bool" = none) :
    FnOk P w K mg base CX0 1 f fd ["value", "total"] (spOn1 isNum) := by
  refine F.ok sc_law_is_number (fun vs H Q E h => ?_) (fun cdv A outer s H vs Q E hr h => ?_)
  · obtain ⟨v, n, d, rfl, _⟩ := h
    rfl
  · obtain ⟨v, n, d, rfl, hd, hs, q⟩ := h
    refine ⟨_, (pss_one (ps_ret (pe_and (pe_callB call_isD (by rfl) m_isinstance (by decide +kernel) (pa_cons (pv 0) (pa_cons (pe_bltn (v := .ty "int") (by rfl) m_int (by decide +kernel) rfl) pa_nil))) (pe_and (pe_not (pe_callB call_isD (by rfl) m_isinstance (by decide +kernel) (pa_cons (pv 0) (pa_cons (pe_bltn (v := .ty "bool") (by rfl) m_bool (by decide +kernel) rfl) pa_nil)))) (pe_one (pe_chain op_le op_lt pe_int (pv 0) (pv 1))))))), ?_⟩
    have q := q H (Same.refl H)
    refine ⟨_, rfl, _, d, _, _, rfl, hd, kI d, _, rfl, ite2 (fun e => ?_) (fun e => ?_)⟩
    · refine ⟨_, rfl, _, d, _, _, rfl, hd, kB d, _, rfl, _, rfl, ite2 (fun e0 => ?_) (fun e0 => ?_)⟩
      · cases d with
        | int i =>
          cases hd
          refine ⟨_, rfl, 0, i, rfl, rfl, _, rfl, ite2 (fun e1 => ?_) (fun e1 => ?_)⟩
          · refine ⟨_, rfl, i, n, rfl, rfl, ?_⟩
            have q : Q (.bl (decide (0 ≤ i) && decide (i < n))) H := q
            rw [e1, Bool.true_and] at q
            exact q
          · have q : Q (.bl (decide (0 ≤ i) && decide (i < n))) H := q
            rw [(Bool.not_eq_true _).mp e1, Bool.false_and] at q
            exact q
        | bool b => cases e0
        | _ => cases e
      · cases d with
        | int i => exact absurd rfl e0
        | _ => exact q
    · cases d with
      | int i => exact absurd rfl e
      | _ => exact q
theorem ok_law_is_set {f f__law_is_number : Addr} {fd fd__law_is_number : FuncData} (F : Fun K "_law_is_set" "_law_is_set" s_law_is_set f fd) (G__law_is_number : FnOk P w K mg base CX0 1 f__law_is_number fd__law_is_number ["value", "total"] (spOn1 isNum)) (F__law_is_number : Fun K "_law_is_number" "_law_is_number" s_law_is_number f__law_is_number fd__law_is_number) (b__law_is_number : Binds K fd__law_is_number ["value", "total"] []) (g__law_is_number : mg "_law_is_number" = some (.ref f__law_is_number))(m_isinstance : mg "isinstance" = none) (m_tuple : mg "tuple" = none) (m_set : mg "set" = none) (m_sorted : mg "sorted" = none) (m_list : mg "list" = none) :
    FnOk P w K mg base CX0 2 f fd ["value", "total"] (spOn1 isSet) := by
  refine F.ok sc_law_is_set (fun vs H Q E h => ?_) (fun cdv A outer s H vs Q E hr h => ?_)
  · obtain ⟨v, n, d, rfl, _⟩ := h
    rfl
  · obtain ⟨v, n, d, rfl, hd, hs, q⟩ := h
    refine ⟨_, (pss_cons (ps_if (PW.pt (pw_or (pt_not (pt_val (pe_callB call_isD (by rfl) m_isinstance (by decide +kernel) (pa_cons (pv 0) (pa_cons (pe_bltn (v := .ty "tuple") (by rfl) m_tuple (by decide +kernel) rfl) pa_nil))))) (pw_or1 (pt_cmpR (op_eqH hr.units) (pv 0) (pe_tup pa_nil) (nomark _)))))
        (pss_one (ps_ret pe_bl))
        pss_nil)
      (pss_cons (ps_if (pt_cmpR (op_neNil hr.units) (pe_lc (own := [("one", 2)]) (g := (gName 2)) rfl sc_law_is_set.nd (pi_tup (pv 0)) (blkOk_by (N := Nlaw_is_set) (sc := defScope s_law_is_set) (by decide +kernel))
      (fun _ _ _ _ _ => (pg_name (i := 2) sc_law_is_set.nd rfl (Or.inl rfl))) (fun _ _ _ _ _ => (pts_one (pt_not (pt_val (pe_call G__law_is_number (hr.mono (by decide)) (by rfl) g__law_is_number F__law_is_number.kp b__law_is_number .nil pass0 (pa_cons (pv 2) (pa_cons (pv 1) pa_nil))))))) (fun _ _ _ _ _ => (pv 2))) (pe_lst pa_nil) (nomark _))
        (pss_one (ps_ret pe_bl))
        pss_nil)
      (pss_one (ps_ret (pe_cmpR (op_eqH hr.units) (pe_callTy call_list_of (by rfl) m_list (by decide +kernel) (pa_cons (pv 0) pa_nil)) (pe_callB (id := "sorted") (r := rSortedSet w) (cr_sortedSet rfl) (by rfl) m_sorted (by decide +kernel) (pa_cons (pe_callTy (T := "set") (r := rSetTI K w) (cr_setTI rfl) (by rfl) m_set (by decide +kernel) (pa_cons (pv 0) pa_nil)) pa_nil)) (nomark _)))))), ?_⟩
    obtain ⟨ds, rfl⟩ | hn := split_tup d
    · cases hd with
      | @tup p xs ds e a =>
      refine ⟨_, rfl, _, .tuple ds, _, true, rfl, .tup e a, kT (.tuple ds), _, rfl, iteF ?_⟩
      obtain ⟨l60, sms⟩ := sm_tup.mp hs
      have ln := a.len
      refine ⟨_, rfl, len_ok, fun t0 nt0 => ?_⟩
      have s0 := same_new (Same.refl H) nt0 (o := .tup [])
      refine ⟨.tuple ds, .tuple [], .tup (s0 _ _ e) (a.same s0), .tup upd_same .nil, nilP.1, nilP.2, _, rfl, ?_⟩
      rw [eqv_nil]
      generalize upd H t0 (.tup []) = G at s0
      match ds, xs, a with
      | [], _, .nil => exact iteT (q _ s0)
      | d0 :: r, _, .cons (v := v0) (vs := vs) a0 ar =>
        have a : DAll H (v0 :: vs) (d0 :: r) := .cons a0 ar
        rw [List.length_cons] at l60
        have lx : (v0 :: vs).length ≤ 61 := by rw [List.length_cons] at *; rw [List.length_cons] at ln; omega
        refine iteF ⟨_, rfl, p, rfl, ⟨_, .inl (.inl (s0 _ _ e))⟩, fun E0 nE => lc_bad (f := isNum n) nE (s0 _ _ e) (a.same s0) (by omega) (fun x d1 H2 hx mem s2 N M hr => ⟨rfl, _, rfl, _, rfl, _, _, d1, rfl, hx, sms d1 mem, fun H3 s3 => ⟨_, rfl, ?_⟩⟩) (fun H3 ys s3 h3 ey => ?_)⟩
        · have hr := hr H3 s3
          cases e1 : isNum n d1 with
          | true =>
            rw [e1] at hr
            exact iteF hr
          | false =>
            rw [e1] at hr
            exact iteT ⟨_, rfl, hr⟩
        · have s4 := s0.trans s3
          refine ⟨len_ok, fun t2 nt2 => ?_⟩
          have s5 := same_new (Same.refl H3) nt2 (o := .lst [])
          refine ⟨E0, t2, ys, rfl, rfl, .inl (.inl (s5 _ _ h3)), .inl (.inl upd_same), _, rfl, ?_⟩
          generalize upd H3 t2 (.lst []) = G2 at s5
          have s6 := s4.trans s5
          rw [ey]
          cases e2 : (d0 :: r).all (isNum n) with
          | false =>
            have q := q G2 s6
            rw [isSet_eq, e2, Bool.false_and] at q
            exact iteT q
          | true =>
            refine iteF ?_
            have e3 := ints_of_all e2
            have a3 := a
            rw [e3] at a3
            have ex := vals_ints a3
            have hp6 := s6 _ _ e
            rw [ex] at hp6
            refine ⟨_, rfl, p, _, rfl, .inr (.inl (.inl hp6)), fun l1 nl1 => ?_⟩
            have s7 := same_new (Same.refl G2) nl1 (o := .lst (((d0 :: r).map intOf).map V.int))
            refine ⟨_, rfl, p, (d0 :: r).map intOf, rfl, .inl (.inl (s7 _ _ hp6)), by rw [List.length_map, List.length_cons]; omega, fun b c nb lc => ?_⟩
            have s8 := same_new s7 nb (o := SetO w b (fun j => decide (j ∈ (d0 :: r).map intOf)) c)
            refine ⟨b, _, c, rfl, upd_same, by rw [List.length_map, List.length_cons] at lc; omega, fun S l2 hS mS cS nl2 => ?_⟩
            have s9 := same_new s8 nl2 (o := .lst (S.map V.int))
            have e8 : upd (upd G2 l1 (.lst (((d0 :: r).map intOf).map V.int))) b (SetO w b (fun j => decide (j ∈ (d0 :: r).map intOf)) c) l1 = some (.lst (((d0 :: r).map intOf).map V.int)) := upd_keep upd_same nb
            refine ⟨.list (((d0 :: r).map intOf).map PyData.int), .list (S.map PyData.int), .lst (upd_keep e8 nl2) (ints_vals _), .lst upd_same (ints_vals _), (listP S).1, (listP S).2, ?_⟩
            rw [eqv_ints, same_ints hS fun k => (mS k).trans decide_eq_true_iff]
            have q := q _ (s6.trans s9)
            rw [isSet_eq, e2, Bool.true_and] at q
            exact q
    · have k := kT d
      rw [hn.1] at k
      refine ⟨_, rfl, _, d, _, false, rfl, hd, k, _, rfl, iteT (iteT ?_)⟩
      have q := q H (Same.refl H)
      rw [hn.2.1 n] at q
      exact q
end
end My

namespace My
open PySem PySem.Spec PyProof.Rows L2 Sh Dt
abbrev s_law_is_pairs : Stmt := topS 31
abbrev Nlaw_is_pairs : List Str := ["value", "total", "pair"]
theorem sc_law_is_pairs : FnScope Nlaw_is_pairs ["value", "total"] (defScope s_law_is_pairs) := ⟨rfl, rfl, rfl, by decide +kernel, rfl, by decide +kernel, by decide +kernel⟩
abbrev s_law_is_step : Stmt := topS 37
abbrev Nlaw_is_step : List Str := ["value", "points", "total"]
theorem sc_law_is_step : FnScope Nlaw_is_step ["value", "points", "total"] (defScope s_law_is_step) := ⟨rfl, rfl, rfl, by decide +kernel, rfl, by decide +kernel, by decide +kernel⟩
theorem isPairs_bad {n : Int} {ds : List PyData} {d : PyData} (hm : d ∈ ds) (h : isPair n d = false) : isPairs n (.tuple ds) = false := by
  have e : ds.all (isPair n) = false := by
    cases e : ds.all (isPair n) with
    | false => rfl
    | true =>
      rw [List.all_eq_true.mp e d hm] at h
      cases h
  show (!ds.isEmpty && ds.all (isPair n) && _) = false
  rw [e, Bool.and_false, Bool.false_and]
section
variable {P : Program} {w : World} {K : PySem.W.Frag} {mg : Str → Option Value} {base : Heap}
theorem ok_law_is_pairs {f f__law_is_number : Addr} {fd fd__law_is_number : FuncData} (F : Fun K "_law_is_pairs" "_law_is_pairs" s_law_is_pairs f fd) (G__law_is_number : FnOk P w K mg base CX0 1 f__law_is_number fd__law_is_number ["value", "total"] (spOn1 isNum)) (F__law_is_number : Fun K "_law_is_number" "_law_is_number" s_law_is_number f__law_is_number fd__law_is_number) (b__law_is_number : Binds K fd__law_is_number ["value", "total"] []) (g__law_is_number : mg "_law_is_number" = some (.ref f__law_is_number))(m_isinstance : mg "isinstance" = none) (m_tuple : mg "tuple" = none) (m_set : mg "set" = none) (m_sorted : mg "sorted" = none) (m_list : mg "list" = none) (m_len : mg "len" = none) :
    FnOk P w K mg base CX0 2 f fd ["value", "total"] (spOn1 isPairs) := by
  refine F.ok sc_law_is_pairs (fun vs H Q E h => ?_) (fun cdv A outer s H vs Q E hr h => ?_)
  · obtain ⟨v, n, d, rfl, _⟩ := h
    rfl
  · obtain ⟨v, n, d, rfl, hd, hs, q⟩ := h
    refine ⟨_, (pss_cons (ps_if (PW.pt (pw_or (pt_not (pt_val (pe_callB call_isD (by rfl) m_isinstance (by decide +kernel) (pa_cons (pv 0) (pa_cons (pe_bltn (v := .ty "tuple") (by rfl) m_tuple (by decide +kernel) rfl) pa_nil))))) (pw_or1 (pt_cmpR (op_eqH hr.units) (pv 0) (pe_tup pa_nil) (nomark _)))))
        (pss_one (ps_ret pe_bl))
        pss_nil)
      (pss_cons (ps_for PassesOwn.never rfl (pi_tup (pv 0)) (pg_name (i := 2) sc_law_is_pairs.nd rfl (by first | exact Or.inl rfl | exact Or.inr rfl))
        (pss_cons (ps_if (PW.pt (pw_or (pt_not (pt_val (pe_callB call_isD (by rfl) m_isinstance (by decide +kernel) (pa_cons (pv 2) (pa_cons (pe_bltn (v := .ty "tuple") (by rfl) m_tuple (by decide +kernel) rfl) pa_nil))))) (pw_or1 (pt_cmpR op_ne (pe_callB call_len_seq (by rfl) m_len (by decide +kernel) (pa_cons (pv 2) pa_nil)) pe_int (nomark _)))))
          (pss_one (ps_ret pe_bl))
          pss_nil)
        (pss_one (ps_if (PW.pt (pw_or (pt_not (pt_val (pe_call G__law_is_number (hr.mono (by decide)) (by rfl) g__law_is_number F__law_is_number.kp b__law_is_number .nil pass0 (pa_cons (pe_ix ix_tup (pv 2) pe_int (fun _ _ => rfl)) (pa_cons (pv 1) pa_nil))))) (pw_or1 (pt_not (pt_val (pe_call G__law_is_number (hr.mono (by decide)) (by rfl) g__law_is_number F__law_is_number.kp b__law_is_number .nil pass0 (pa_cons (pe_ix ix_tup (pv 2) pe_int (fun _ _ => rfl)) (pa_cons (pv 1) pa_nil))))))))
          (pss_one (ps_ret pe_bl))
          pss_nil))))
      (pss_one (ps_ret (pe_cmpR (op_eqH hr.units) (pe_callTy call_list_of (by rfl) m_list (by decide +kernel) (pa_cons (pv 0) pa_nil)) (pe_callB (id := "sorted") (r := Zt.rSrtS K P w) (Zt.cr_srtS rfl) (by rfl) m_sorted (by decide +kernel) (pa_cons (pe_callTy (T := "set") (r := Zt.rSetT K P w) (Zt.cr_setT rfl hr.units) (by rfl) m_set (by decide +kernel) (pa_cons (pv 0) pa_nil)) pa_nil)) (nomark _)))))), ?_⟩
    obtain ⟨ds, rfl⟩ | hn := split_tup d
    · cases hd with
      | @tup p xs ds e a =>
      refine ⟨_, rfl, _, .tuple ds, _, true, rfl, .tup e a, kT (.tuple ds), _, rfl, iteF ?_⟩
      obtain ⟨l60, sms⟩ := sm_tup.mp hs
      have ln := a.len
      refine ⟨_, rfl, len_ok, fun t0 nt0 => ?_⟩
      have s0 := same_new (Same.refl H) nt0 (o := .tup [])
      refine ⟨.tuple ds, .tuple [], .tup (s0 _ _ e) (a.same s0), .tup upd_same .nil, nilP.1, nilP.2, _, rfl, ?_⟩
      rw [eqv_nil]
      generalize upd H t0 (.tup []) = G at s0
      match ds, xs, a with
      | [], _, .nil => exact iteT (q _ s0)
      | d0 :: r, _, .cons (v := v0) (vs := vs) a0 ar =>
        have a : DAll H (v0 :: vs) (d0 :: r) := .cons a0 ar
        rw [List.length_cons] at l60
        have lx : (v0 :: vs).length ≤ 61 := by rw [List.length_cons] at *; rw [List.length_cons] at ln; omega
        have bad : ∀ d1 ∈ d0 :: r, isPair n d1 = false → ∀ H3, Same H H3 → Q (.bl false) H3 := fun d1 hm hb H3 s3 => by
          have q := q H3 s3
          rw [isPairs_bad hm hb] at q
          exact q
        refine iteF ⟨_, rfl, p, rfl, ⟨_, .inl (.inl (s0 _ _ e))⟩, for_tup (xs := v0 :: vs) (fun i σ H1 => (∃ y, σ = [some (.ref p), some (.int n), y]) ∧ Same H H1 ∧ ((d0 :: r).take i).all (isPair n) = true) ⟨⟨_, rfl⟩, s0, by simp⟩ (fun i σ H1 _ hq => .inl (.inl (hq.2.1 _ _ e))) (fun i x σ H1 hx hq => ?_) (fun σ H1 hq => ?_)⟩
        · obtain ⟨⟨y, rfl⟩, s1, al⟩ := hq
          obtain ⟨d1, hdi, hxd⟩ := a.get hx
          have hm := List.mem_of_getElem? hdi
          have hx1 := hxd.same s1
          have next : isPair n d1 = true → ((d0 :: r).take (i + 1)).all (isPair n) = true := fun z => by
            rw [List.take_add_one, hdi, List.all_append, al]
            simpa using z
          obtain ⟨es, rfl⟩ | hn := split_tup d1
          · cases hx1 with
            | @tup p2 ys es e2 a2 =>
            refine ⟨_, rfl, _, .tuple es, _, true, rfl, .tup e2 a2, kT (.tuple es), _, rfl, iteF ?_⟩
            refine ⟨_, rfl, p2, ys, rfl, .inr (.inl (.inl e2)), rfl, _, rfl, ?_⟩
            obtain ⟨_, sm2⟩ := sm_tup.mp (sms _ hm)
            match es, ys, a2 with
            | [], _, .nil => exact ifNN (intN (by decide)) (bad _ hm rfl H1 s1)
            | [_], _, .cons _ .nil => exact ifNN (intN (by simp)) (bad _ hm rfl H1 s1)
            | a :: b :: c :: r, _, .cons _ (.cons _ (.cons (vs := vs) _ ar)) => exact ifNN (intN (by simp)) (bad _ hm rfl H1 s1)
            | [a, b], _, .cons (v := va) ha (.cons (v := vb) hb .nil) =>
              refine ifNY rfl ?_
              refine ⟨_, rfl, p2, _, 0, va, rfl, rfl, .inl (.inl e2), atI_nat (j := 0) rfl, _, rfl, _, _, a, rfl, ha, sm2 a (by simp), fun H2 s2 => ⟨_, rfl, ?_⟩⟩
              cases e3 : isNum n a with
              | false => exact iteT (bad _ hm (by show (isNum n a && isNum n b) = false; rw [e3]; rfl) H2 (s1.trans s2))
              | true =>
                refine iteF ⟨_, rfl, p2, _, 1, vb, rfl, rfl, .inl (.inl (s2 _ _ e2)), atI_nat (j := 1) rfl, _, rfl, _, _, b, rfl, hb.same s2, sm2 b (by simp), fun H3 s3 => ⟨_, rfl, ?_⟩⟩
                have s13 := (s1.trans s2).trans s3
                cases e4 : isNum n b with
                | false => exact iteT (bad _ hm (by show (isNum n a && isNum n b) = false; rw [e4, Bool.and_false]) H3 s13)
                | true => exact iteF ⟨⟨_, rfl⟩, s13, next (by show (isNum n a && isNum n b) = true; rw [e3, e4]; rfl)⟩
          · have k := kT d1
            rw [hn.1] at k
            exact ⟨_, rfl, _, d1, _, false, rfl, hx1, k, _, rfl, iteT (iteT (bad d1 hm (hn.2.2.1 n) H1 s1))⟩
        · obtain ⟨⟨y, rfl⟩, s6, al⟩ := hq
          rw [ln, List.take_of_length_le (Nat.le_refl _)] at al
          have e2 := al
          have e3 := rows_of_all e2
          have a3 := a
          rw [e3] at a3
          obtain ⟨ps, h1, h2, h3⟩ := vals_rows a3
          have hk : ps.length = (d0 :: r).length := by
            have := congrArg List.length h2
            unfold Zt.keys at this
            rw [List.length_map, List.length_map] at this
            exact this
          rw [List.length_cons] at hk
          have hp6 := s6 _ _ e
          rw [h1] at hp6
          have ne : ∀ p ∈ ps, p.2 ≠ [] := fun q0 hq0 => by
            have hm : q0.2 ∈ (d0 :: r).map rowOf := by
              rw [← h2]
              exact List.mem_map.mpr ⟨q0, hq0, rfl⟩
            obtain ⟨d1, hd1, er⟩ := List.mem_map.mp hm
            have := List.all_eq_true.mp e2 d1 hd1
            rw [← er]
            match d1, this with
            | .tuple [a, b], _ => exact List.cons_ne_nil _ _
          refine ⟨_, rfl, p, _, rfl, .inr (.inl (.inl hp6)), fun l1 nl1 => ?_⟩
          have s7 := same_new (Same.refl H1) nl1 (o := .lst (Zt.refs ps))
          have r7 : ∀ q ∈ ps, upd H1 l1 (.lst (Zt.refs ps)) q.1 = some (.tup (q.2.map V.int)) := fun q hq => s7 _ _ (s6 _ _ (h3 q hq))
          refine ⟨_, rfl, p, ps, rfl, .inl (.inl (s7 _ _ hp6)), fun q hq => .inl (.inl (r7 q hq)), by omega, fun b Lr nb sub cov => ?_⟩
          have s8 := same_new s7 nb (o := SetTO P w b Lr)
          refine ⟨b, Lr, rfl, upd_same, fun q hq => .inl (.inl (upd_keep (r7 q (sub q hq)) nb)), fun q hq => ne q (sub q hq), fun S l2 pm aS lS nl2 => ?_⟩
          have s9 := same_new s8 nl2 (o := .lst (S.map fun q => V.ref q.1))
          have r9 : ∀ q ∈ ps, upd (upd (upd H1 l1 (.lst (Zt.refs ps))) b (SetTO P w b Lr)) l2 (.lst (S.map fun q => V.ref q.1)) q.1 = some (.tup (q.2.map V.int)) := fun q hq => upd_keep (upd_keep (r7 q hq) nb) nl2
          have e8 : upd (upd H1 l1 (.lst (Zt.refs ps))) b (SetTO P w b Lr) l1 = some (.lst (Zt.refs ps)) := upd_keep upd_same nb
          refine ⟨.list ((Zt.keys ps).map Zt.rowD), .list ((Zt.keys S).map Zt.rowD), .lst (upd_keep e8 nl2) (rows_vals r9), .lst upd_same (rows_vals fun q hq => r9 q (sub q (pm.mem_iff.mp hq))), (listRP _).1, (listRP _).2, ?_⟩
          have mem : ∀ k, k ∈ Zt.keys S ↔ k ∈ Zt.keys ps := fun k => by
            constructor
            · intro hk
              obtain ⟨q, hq, rfl⟩ := List.mem_map.mp hk
              exact List.mem_map.mpr ⟨q, sub q (pm.mem_iff.mp hq), rfl⟩
            · intro hk
              obtain ⟨q, hq, rfl⟩ := List.mem_map.mp hk
              obtain ⟨z, hz, e⟩ := List.mem_map.mp (cov q hq)
              exact List.mem_map.mpr ⟨z, pm.mem_iff.mpr hz, e⟩
          rw [eqv_rows, same_rows aS mem]
          have q := q _ (s6.trans s9)
          rw [isPairs_eq, e2, Bool.true_and, ← h2] at q
          exact q
    · have k := kT d
      rw [hn.1] at k
      refine ⟨_, rfl, _, d, _, false, rfl, hd, k, _, rfl, iteT (iteT ?_)⟩
      have q := q H (Same.refl H)
      rw [hn.2.2.2.1 n] at q
      exact q
theorem ok_law_is_step {f f__law_is_number f__law_is_set f__law_is_pairs f__law_is_word : Addr} {fd fd__law_is_number fd__law_is_set fd__law_is_pairs fd__law_is_word : FuncData} (F : Fun K "_law_is_step" "_law_is_step" s_law_is_step f fd) (G__law_is_number : FnOk P w K mg base CX0 1 f__law_is_number fd__law_is_number ["value", "total"] (spOn1 isNum)) (F__law_is_number : Fun K "_law_is_number" "_law_is_number" s_law_is_number f__law_is_number fd__law_is_number) (b__law_is_number : Binds K fd__law_is_number ["value", "total"] []) (g__law_is_number : mg "_law_is_number" = some (.ref f__law_is_number))(G__law_is_set : FnOk P w K mg base CX0 2 f__law_is_set fd__law_is_set ["value", "total"] (spOn1 isSet)) (F__law_is_set : Fun K "_law_is_set" "_law_is_set" s_law_is_set f__law_is_set fd__law_is_set) (b__law_is_set : Binds K fd__law_is_set ["value", "total"] []) (g__law_is_set : mg "_law_is_set" = some (.ref f__law_is_set))(G__law_is_pairs : FnOk P w K mg base CX0 2 f__law_is_pairs fd__law_is_pairs ["value", "total"] (spOn1 isPairs)) (F__law_is_pairs : Fun K "_law_is_pairs" "_law_is_pairs" s_law_is_pairs f__law_is_pairs fd__law_is_pairs) (b__law_is_pairs : Binds K fd__law_is_pairs ["value", "total"] []) (g__law_is_pairs : mg "_law_is_pairs" = some (.ref f__law_is_pairs))(G__law_is_word : FnOk P w K mg base CX0 1 f__law_is_word fd__law_is_word ["value"] spName) (F__law_is_word : Fun K "_law_is_word" "_law_is_word" s_law_is_word f__law_is_word fd__law_is_word) (b__law_is_word : Binds K fd__law_is_word ["value"] []) (g__law_is_word : mg "_law_is_word" = some (.ref f__law_is_word))(m_isinstance : mg "isinstance" = none) (m_tuple : mg "tuple" = none) (m_len : mg "len" = none) :
    FnOk P w K mg base CX0 3 f fd ["value", "points", "total"] spMove := by
  refine F.ok sc_law_is_step (fun vs H Q E h => ?_) (fun cdv A outer s H vs Q E hr h => ?_)
  · obtain ⟨v, pn, n, d, rfl, _⟩ := h
    rfl
  · obtain ⟨v, pn, n, d, rfl, hd, hs, q⟩ := h
    refine ⟨_, (pss_cons (ps_if (PW.pt (pw_or (pt_not (pt_val (pe_callB call_isD (by rfl) m_isinstance (by decide +kernel) (pa_cons (pv 0) (pa_cons (pe_bltn (v := .ty "tuple") (by rfl) m_tuple (by decide +kernel) rfl) pa_nil))))) (pw_or (pt_cmpR op_lt (pe_callB call_len_seq (by rfl) m_len (by decide +kernel) (pa_cons (pv 0) pa_nil)) pe_int (nomark _)) (pw_or1 (pt_not (pt_val (pe_call G__law_is_number (hr.mono (by decide)) (by rfl) g__law_is_number F__law_is_number.kp b__law_is_number .nil pass0 (pa_cons (pe_ix ix_tup (pv 0) pe_int (fun _ _ => rfl)) (pa_cons (pv 1) pa_nil)))))))))
        (pss_one (ps_ret pe_bl))
        pss_nil)
      (pss_cons (ps_if (pt_cmpR (op_eqH hr.units) (pe_ix ix_tup (pv 0) pe_int (fun _ _ => rfl)) pe_str (nomark _))
        (pss_one (ps_ret (pe_and (pe_cmpR op_eq (pe_callB call_len_seq (by rfl) m_len (by decide +kernel) (pa_cons (pv 0) pa_nil)) pe_int (nomark _)) (pe_one (pe_call G__law_is_set (hr.mono (by decide)) (by rfl) g__law_is_set F__law_is_set.kp b__law_is_set .nil pass0 (pa_cons (pe_ix ix_tup (pv 0) pe_int (fun _ _ => rfl)) (pa_cons (pv 2) pa_nil)))))))
        pss_nil)
      (pss_cons (ps_if (pt_not (pt_val (pe_call G__law_is_number (hr.mono (by decide)) (by rfl) g__law_is_number F__law_is_number.kp b__law_is_number .nil pass0 (pa_cons (pe_ix ix_tup (pv 0) pe_int (fun _ _ => rfl)) (pa_cons (pv 1) pa_nil)))))
        (pss_one (ps_ret pe_bl))
        pss_nil)
      (pss_cons (ps_if (pt_cmpR (op_eqH hr.units) (pe_ix ix_tup (pv 0) pe_int (fun _ _ => rfl)) pe_str (nomark _))
        (pss_one (ps_ret (pe_and (pe_cmpR op_eq (pe_callB call_len_seq (by rfl) m_len (by decide +kernel) (pa_cons (pv 0) pa_nil)) pe_int (nomark _)) (pe_one (pe_call G__law_is_pairs (hr.mono (by decide)) (by rfl) g__law_is_pairs F__law_is_pairs.kp b__law_is_pairs .nil pass0 (pa_cons (pe_ix ix_tup (pv 0) pe_int (fun _ _ => rfl)) (pa_cons (pv 2) pa_nil)))))))
        pss_nil)
      (pss_cons (ps_if (PW.pt (pw_or (pt_cmpR (op_ninS hr.units) (pe_ix ix_tup (pv 0) pe_int (fun _ _ => rfl)) (pe_tup (pa_cons pe_str (pa_cons pe_str pa_nil))) (by with_unfolding_all rfl)) (pw_or1 (pt_cmpR op_ne (pe_callB call_len_seq (by rfl) m_len (by decide +kernel) (pa_cons (pv 0) pa_nil)) pe_int (nomark _)))))
        (pss_one (ps_ret pe_bl))
        pss_nil)
      (pss_one (ps_ret (pe_and (pe_call G__law_is_word (hr.mono (by decide)) (by rfl) g__law_is_word F__law_is_word.kp b__law_is_word .nil pass0 (pa_cons (pe_ix ix_tup (pv 0) pe_int (fun _ _ => rfl)) pa_nil)) (pe_one (pe_call G__law_is_set (hr.mono (by decide)) (by rfl) g__law_is_set F__law_is_set.kp b__law_is_set .nil pass0 (pa_cons (pe_ix ix_tup (pv 0) pe_int (fun _ _ => rfl)) (pa_cons (pv 2) pa_nil)))))))))))), ?_⟩
    obtain ⟨ds, rfl⟩ | hn := split_tup d
    · cases hd with
      | @tup p xs ds e a =>
      refine ⟨_, rfl, _, .tuple ds, _, true, rfl, .tup e a, kT (.tuple ds), _, rfl, iteF ?_⟩
      obtain ⟨l60, sms⟩ := sm_tup.mp hs
      have q : ∀ b, isMove pn n (.tuple ds) = b → ∀ H', Same H H' → Q (.bl b) H' := fun b eb => by
        subst eb
        exact q
      refine ⟨_, rfl, p, xs, rfl, .inr (.inl (.inl e)), _, 3, rfl, rfl, _, rfl, ?_⟩
      match ds, xs, a with
      | [], _, .nil => exact ifY (by decide) (q _ rfl H (Same.refl H))
      | [_], _, .cons _ .nil => exact ifY (by simp) (q _ rfl H (Same.refl H))
      | [_, _], _, .cons _ (.cons _ .nil) => exact ifY (by simp) (q _ rfl H (Same.refl H))
      | w0 :: a :: x :: r, _, .cons (v := vw) hw (.cons (v := va) ha (.cons (v := vx) (vs := vr) hx hr')) =>
        have lr := hr'.len
        refine ifN (by simp; omega) ?_
        refine ⟨_, rfl, p, _, 1, va, rfl, rfl, .inl (.inl e), atI_nat (j := 1) rfl, _, rfl, _, _, a, rfl, ha, sms a (by simp), fun H1 s1 => ⟨_, rfl, ?_⟩⟩
        cases e1 : isNum pn a with
        | false => exact iteT (q _ (by simp [isMove, e1]) H1 s1)
        | true =>
        refine iteF ⟨_, rfl, p, _, 0, vw, rfl, rfl, .inl (.inl (s1 _ _ e)), atI_nat (j := 0) rfl, w0, .str "leave", hw.same s1, .str _, strP.1, strP.2, _, rfl, ite2 (fun e2 => ?_) (fun e2 => ?_)⟩
        · refine ⟨_, rfl, p, _, rfl, .inr (.inl (.inl (s1 _ _ e))), rfl, _, rfl, ?_⟩
          match r, vr, hr' with
          | [], _, .nil =>
            refine ifY rfl ⟨_, rfl, p, _, 2, vx, rfl, rfl, .inl (.inl (s1 _ _ e)), atI_nat (j := 2) rfl, _, rfl, _, _, x, rfl, hx.same s1, sms x (by simp), fun H2 s2 => ?_⟩
            exact q _ (by simp [isMove, e1, e2]) H2 (s1.trans s2)
          | _ :: _, _, .cons _ _ => exact ifN (intN (by simp)) (q _ (by simp [isMove, e1, e2]) H1 s1)
        · have e2 := (Bool.not_eq_true _).mp e2
          refine ⟨_, rfl, p, _, 2, vx, rfl, rfl, .inl (.inl (s1 _ _ e)), atI_nat (j := 2) rfl, _, rfl, _, _, x, rfl, hx.same s1, sms x (by simp), fun H2 s2' => ⟨_, rfl, ?_⟩⟩
          have s2 := s1.trans s2'
          cases e2b : isNum pn x with
          | false => exact iteT (q _ (by simp [isMove, e1, e2, e2b]) H2 s2)
          | true =>
          refine iteF ⟨_, rfl, p, _, 0, vw, rfl, rfl, .inl (.inl (s2 _ _ e)), atI_nat (j := 0) rfl, w0, .str "go", hw.same s2, .str _, strP.1, strP.2, _, rfl, ite2 (fun e3 => ?_) (fun e3 => ?_)⟩
          · refine ⟨_, rfl, p, _, rfl, .inr (.inl (.inl (s2 _ _ e))), rfl, _, rfl, ?_⟩
            match r, vr, hr' with
            | [], _, .nil => exact ifN (intN (by simp)) (q _ (by simp [isMove, e1, e2, e2b, e3]) H2 s2)
            | [y], _, .cons (v := vy) hy .nil =>
              refine ifY rfl ⟨_, rfl, p, _, 3, vy, rfl, rfl, .inl (.inl (s2 _ _ e)), atI_nat (j := 3) rfl, _, rfl, _, _, y, rfl, hy.same s2, sms y (by simp), fun H3 s3 => ?_⟩
              exact q _ (by simp [isMove, e1, e2, e2b, e3]) H3 (s2.trans s3)
            | _ :: _ :: _, _, .cons _ (.cons _ _) => exact ifN (intN (by simp)) (q _ (by simp [isMove, e1, e2, e2b, e3]) H2 s2)
          · have e3 := (Bool.not_eq_true _).mp e3
            refine ⟨_, rfl, p, _, 0, vw, rfl, rfl, .inl (.inl (s2 _ _ e)), atI_nat (j := 0) rfl, len_ok, fun t nt => ?_⟩
            have s3 := same_new (Same.refl _) nt (o := .tup [V.str "call", V.str "post"])
            have s23 := s2.trans s3
            refine ⟨w0, t, ["call", "post"], (hw.same s2).same s3, rfl, .inl (.inl upd_same), _, rfl, ?_⟩
            cases e4 : strIn w0 ["call", "post"] with
            | false => exact iteT (q _ (by simp [isMove, e1, e2, e2b, e3, e4]) _ s23)
            | true =>
              refine iteF ?_
              refine ⟨_, rfl, p, _, rfl, .inr (.inl (.inl (s23 _ _ e))), rfl, _, rfl, ?_⟩
              match r, vr, hr' with
              | [], _, .nil => exact ifNN (intN (by simp)) (q _ (by simp [isMove, e1, e2, e2b, e3, e4]) _ s23)
              | [_], _, .cons _ .nil => exact ifNN (intN (by simp)) (q _ (by simp [isMove, e1, e2, e2b, e3, e4]) _ s23)
              | [y, z], _, .cons (v := vy) hy (.cons (v := vz) hz .nil) =>
                have hy' := hy.same s23
                refine ifNY rfl ⟨_, rfl, p, _, 3, vy, rfl, rfl, .inl (.inl (s23 _ _ e)), atI_nat (j := 3) rfl, vy, rfl, jud_of hy' (sms y (by simp)), fun H4 s4 => ⟨_, rfl, ?_⟩⟩
                rw [name_of hy']
                have s24 := s23.trans s4
                cases e5 : nameD y with
                | false => exact iteF (q _ (by simp [isMove, e1, e2, e2b, e3, e4, e5]) _ s24)
                | true =>
                  refine iteT ⟨_, rfl, p, _, 4, vz, rfl, rfl, .inl (.inl (s24 _ _ e)), atI_nat (j := 4) rfl, _, rfl, _, _, z, rfl, hz.same s24, sms z (by simp), fun H5 s5 => ?_⟩
                  exact q _ (by simp [isMove, e1, e2, e2b, e3, e4, e5]) _ (s24.trans s5)
              | _ :: _ :: _ :: _, _, .cons _ (.cons _ (.cons _ _)) => exact ifNN (intN (by simp)) (q _ (by simp [isMove, e1, e2, e2b, e3, e4]) _ s23)
    · have k := kT d
      rw [hn.1] at k
      refine ⟨_, rfl, _, d, _, false, rfl, hd, k, _, rfl, iteT (iteT ?_)⟩
      have q := q H (Same.refl H)
      rw [hn.2.2.2.2 pn n] at q
      exact q
end
end My

namespace My
open PySem PySem.Spec PyProof.Rows L2 Sh Dt
open Cl (ErrC)
/-! ### what is a move is plain -/
def pl (k : Nat) (d : PyData) : Prop := d.plain = true ∧ d.depth ≤ k
theorem pl_tup {k : Nat} : ∀ {ds : List PyData}, (∀ d ∈ ds, pl k d) → PyData.plainAll ds = true ∧ PyData.depthAll ds ≤ k
  | [], _ => ⟨by simp [PyData.plainAll], by simp [PyData.depthAll]⟩
  | d :: r, h => by
    have h1 := h d List.mem_cons_self
    have h2 := pl_tup fun x hx => h x (List.mem_cons_of_mem _ hx)
    refine ⟨by simp [PyData.plainAll, h1.1, h2.1], ?_⟩
    simp only [PyData.depthAll]
    exact Nat.max_le.mpr ⟨h1.2, h2.2⟩
theorem pl_tuple {k : Nat} {ds : List PyData} (h : ∀ d ∈ ds, pl k d) : pl (k + 1) (.tuple ds) := by
  have := pl_tup h
  exact ⟨by simp [PyData.plain, this.1], by simp only [PyData.depth]; omega⟩
theorem pl_list {k : Nat} {ds : List PyData} (h : ∀ d ∈ ds, pl k d) : pl (k + 1) (.list ds) := by
  have := pl_tup h
  exact ⟨by simp [PyData.plain, this.1], by simp only [PyData.depth]; omega⟩
theorem pl.mono {k j : Nat} {d : PyData} (h : pl k d) (l : k ≤ j) : pl j d := ⟨h.1, Nat.le_trans h.2 l⟩
theorem pl_num {n : Int} {d : PyData} (h : isNum n d = true) : pl 0 d := by
  cases d with
  | int i => exact ⟨rfl, by simp [PyData.depth]⟩
  | _ => exact absurd h (by intro z; cases z)
theorem pl_str (z : Str) : pl 0 (.str z) := ⟨rfl, by simp [PyData.depth]⟩
theorem pl_set {n : Int} {d : PyData} (h : isSet n d = true) : pl 1 d := by
  cases d with
  | tuple ds =>
    have h : (!ds.isEmpty && ds.all (isNum n) && asc ltI (ds.map intOf)) = true := h
    rw [Bool.and_eq_true, Bool.and_eq_true] at h
    exact pl_tuple fun d hd => pl_num (List.all_eq_true.mp h.1.2 d hd)
  | _ => exact absurd h (by intro z; cases z)
theorem pl_pair {n : Int} {d : PyData} (h : isPair n d = true) : pl 1 d := by
  match d, h with
  | .tuple [a, b], h =>
    have h : (isNum n a && isNum n b) = true := h
    rw [Bool.and_eq_true] at h
    refine pl_tuple fun d hd => ?_
    simp at hd
    rcases hd with rfl | rfl
    · exact pl_num h.1
    · exact pl_num h.2
theorem pl_pairs {n : Int} {d : PyData} (h : isPairs n d = true) : pl 2 d := by
  cases d with
  | tuple ds =>
    have h : (!ds.isEmpty && ds.all (isPair n) && asc HT.lexLt (ds.map rowOf)) = true := h
    rw [Bool.and_eq_true, Bool.and_eq_true] at h
    exact pl_tuple fun d hd => pl_pair (List.all_eq_true.mp h.1.2 d hd)
  | _ => exact absurd h (by intro z; cases z)
theorem eqv_strR {w : PyData} {z : Str} (h : PyData.eqv w (.str z) = true) : ∃ y, w = .str y := by
  cases w with
  | str y => exact ⟨y, rfl⟩
  | _ => exact absurd h (by simp [PyData.eqv])
theorem in_str {w : PyData} {zs : List Str} (h : strIn w zs = true) : ∃ y, w = .str y := by
  unfold strIn at h
  obtain ⟨z, _, e⟩ := List.any_eq_true.mp h
  cases w with
  | str y => exact ⟨y, rfl⟩
  | _ => exact absurd e (by simp [PyData.eqv])
theorem pl_move {p n : Int} {d : PyData} (h : isMove p n d = true) : pl 3 d := by
  match d, h with
  | .tuple (w :: a :: x :: r), h =>
    simp only [isMove, Bool.and_eq_true] at h
    obtain ⟨ha, h⟩ := h
    have p0 := (pl_num ha).mono (show 0 ≤ 2 by omega)
    by_cases e1 : PyData.eqv w (.str "leave") = true
    · rw [if_pos e1, Bool.and_eq_true] at h
      obtain ⟨y, rfl⟩ := eqv_strR e1
      have hr : r = [] := by simpa using h.1
      subst hr
      refine pl_tuple fun d hd => ?_
      simp at hd
      rcases hd with rfl | rfl | rfl
      · exact (pl_str _).mono (by omega)
      · exact p0
      · exact (pl_set h.2).mono (by omega)
    · rw [if_neg e1, Bool.and_eq_true] at h
      obtain ⟨hx, h⟩ := h
      have p1 := (pl_num hx).mono (show 0 ≤ 2 by omega)
      by_cases e2 : PyData.eqv w (.str "go") = true
      · rw [if_pos e2] at h
        obtain ⟨y, rfl⟩ := eqv_strR e2
        match r, h with
        | [y], h =>
          refine pl_tuple fun d hd => ?_
          simp at hd
          rcases hd with rfl | rfl | rfl | rfl
          · exact (pl_str _).mono (by omega)
          · exact p0
          · exact p1
          · exact pl_pairs h
      · rw [if_neg e2, Bool.and_eq_true] at h
        obtain ⟨hw, h⟩ := h
        obtain ⟨y, rfl⟩ := in_str hw
        match r, h with
        | [y, z], h =>
          rw [Bool.and_eq_true] at h
          refine pl_tuple fun d hd => ?_
          simp at hd
          rcases hd with rfl | rfl | rfl | rfl | rfl
          · exact (pl_str _).mono (by omega)
          · exact p0
          · exact p1
          · cases d with
            | str t => exact (pl_str _).mono (by omega)
            | _ => exact absurd h.1 (by simp [nameD])
          · exact (pl_set h.2).mono (by omega)
theorem pl_moves {p n : Int} {ms : List PyData} (h : areMoves p n ms = true) : pl 4 (.tuple ms) := by
  unfold areMoves at h
  rw [Bool.and_eq_true] at h
  exact pl_tuple fun d hd => pl_move (List.all_eq_true.mp h.2 d hd)
/-! ### procedures -/
structure Good (z : Str) (p : Int) (ms : List PyData) : Prop where
  name : nameOf z = true
  lo : 1 ≤ p
  hi : p ≤ 6
  moves : areMoves p 5 ms = true
def Pr (C : Addr) (H : Hp) (a : Addr) (z : Str) (p : Int) (ms : List PyData) : Prop := ∃ dx t xs, H a = some (.ins C dx [("_called", .str z), ("_points", .int p), ("_moves", .ref t)]) ∧ H t = some (.tup xs) ∧ DAll H xs ms ∧ Good z p ms
theorem Pr.same {C : Addr} {H H' : Hp} {a : Addr} {z : Str} {p : Int} {ms : List PyData} (s : Same H H') (h : Pr C H a z p ms) : Pr C H' a z p ms := by
  obtain ⟨dx, t, xs, h1, h2, h3, g⟩ := h
  exact ⟨dx, t, xs, s _ _ h1, s _ _ h2, h3.same s, g⟩
def goodD (dc dp : PyData) (ms : List PyData) : Bool := nameD dc && isNr 6 dp && areMoves (intOf dp) 5 ms
theorem good_of {dc dp : PyData} {ms : List PyData} (h : goodD dc dp ms = true) : ∃ z p, dc = .str z ∧ dp = .int p ∧ Good z p ms := by
  unfold goodD at h
  rw [Bool.and_eq_true, Bool.and_eq_true] at h
  obtain ⟨⟨h1, h2⟩, h3⟩ := h
  cases dc with
  | str z =>
    cases dp with
    | int p =>
      have h2 : (decide (1 ≤ p) && decide (p ≤ 6)) = true := h2
      rw [Bool.and_eq_true, decide_eq_true_iff, decide_eq_true_iff] at h2
      exact ⟨z, p, rfl, rfl, h1, h2.1, h2.2, h3⟩
    | _ => exact absurd h2 (by simp [isNr])
  | _ => exact absurd h1 (by simp [nameD])
structure PcdC (K : PySem.W.Frag) (mg : Str → Option Value) (C fI fO pO fE fL fS p1 g1 p2 g2 p3 g3 : Addr) (mc : Value) : Prop where
  gP : mg "Procedure" = some (.ref C)
  cls : Cls K C
  make : Mk K C fI
  cr : ClX.CRead K C mc
  cm : ClX.CMet K C mc "of" pO fO
  n1 : NoAttr K C "_called"
  n2 : NoAttr K C "_points"
  n3 : NoAttr K C "_moves"
  q1 : PropOf K C "called" p1 g1
  q2 : PropOf K C "points" p2 g2
  q3 : PropOf K C "moves" p3 g3
  eq : PySem.W.findIn K (.ref C) "__eq__" = some (some (.ref fE))
  eqf : PySem.W.isFn K (.ref fE) = true
  ne : PySem.W.findIn K (.ref C) "__ne__" = some (some (.builtin "object.__ne__"))
  ln : PySem.W.findIn K (.ref C) "__len__" = some (some (.ref fL))
  lnf : PySem.W.isFn K (.ref fL) = true
  st : PySem.W.findIn K (.ref C) "__str__" = some (some (.ref fS))
  stf : PySem.W.isFn K (.ref fS) = true
  c1 : PySem.W.findIn K (.ref C) "__class__" = some (some (.builtin "object.__class__"))
  c2 : PySem.W.specialIn K (.builtin "object.__class__") "__get__" = some (some (.builtin "getset_descriptor.__get__"))
  c3 : PySem.W.takesIn K (.builtin "object.__class__") = some true
  c4 : PySem.W.mroIn K C (.type "object") = some true
  k1 : PySem.W.kitOne K (.ref C) (.ref C) = some true
  k2 : PySem.W.kitOne K (.type "NoneType") (.ref C) = some false
  k3 : PySem.W.kitOne K (.type "str") (.ref C) = some false
  k4 : PySem.W.kitOne K (.type "tuple") (.ref C) = some false
  s1 : PySem.W.subIn K (.type "NoneType") (.ref C) = some false
  s2 : PySem.W.subIn K (.type "str") (.ref C) = some false
  s3 : PySem.W.subIn K (.type "tuple") (.ref C) = some false
theorem upd_upd {H : Hp} {a : Addr} {o u : HO} : upd (upd H a o) a u = upd H a u := by
  funext b
  by_cases e : b = a
  · subst e
    rw [upd_same, upd_same]
  · rw [upd_ne e, upd_ne e, upd_ne e]
def spInitP (C Ce : Addr) : Sp := fun vs H Q E => ∃ x dx c pt t xs dc dp ms, vs = [.ref x, c, pt, .ref t] ∧ H x = some (.ins C dx []) ∧ H t = some (.tup xs) ∧ D H c dc ∧ D H pt dp ∧ DAll H xs ms ∧ ms.length ≤ 60 ∧ sm dc = true ∧ sm dp = true ∧ (∀ d ∈ ms, sm d = true) ∧
  (goodD dc dp ms = true → ∀ H', Same H H' → Q .non (upd H' x (.ins C dx [("_called", c), ("_points", pt), ("_moves", .ref t)]))) ∧ (goodD dc dp ms = false → ∀ H', Same H H' → E (.ref Ce) none H')
def movesOf : PyData → List PyData
  | .tuple ms => ms
  | _ => []
def due (dc dp dm : PyData) : Bool := isT dm && goodD dc dp (movesOf dm)
def spOf (C Ce : Addr) : Sp := fun vs H Q E => ∃ c pt mv dc dp dm, vs = [.ref C, c, pt, mv] ∧ D H c dc ∧ D H pt dp ∧ D H mv dm ∧ sm dc = true ∧ sm dp = true ∧ sm dm = true ∧
  (due dc dp dm = true → ∀ H' a z p, Same H H' → dc = .str z → dp = .int p → H a = none → Pr C H' a z p (movesOf dm) → Q (.ref a) H') ∧ (due dc dp dm = false → ∀ H', Same H H' → E (.ref Ce) none H')
def spEqP (K : PySem.W.Frag) (C : Addr) : Sp := fun vs H Q _ => ∃ a y z p ms, vs = [.ref a, y] ∧ Pr C H a z p ms ∧ ((∃ b z' p' ms', y = .ref b ∧ Pr C H b z' p' ms' ∧ Q (.bl (decide (z = z') && decide (p = p') && PyData.eqv (.tuple ms) (.tuple ms'))) H) ∨ ∃ T, TyX K H y T ∧ PySem.W.kitOne K T (.ref C) = some false ∧ Q (.bl false) H)
def spLenP (C : Addr) : Sp := fun vs H Q _ => ∃ a z p ms, vs = [.ref a] ∧ Pr C H a z p ms ∧ Q (.int ms.length) H
def textOf (z : Str) (p : Int) (n : Nat) : Str := ((((("procedure " : Str) ++ z) ++ (", " : Str)) ++ (toString p : String)) ++ (" points, " : Str)) ++ (toString (n : Int) : String) ++ (" moves" : Str)
def spStrP (C : Addr) : Sp := fun vs H Q _ => ∃ a z p ms, vs = [.ref a] ∧ Pr C H a z p ms ∧ Q (.str (textOf z p ms.length)) H
abbrev s_init : Stmt := inClass (topS 19) 0
abbrev Ninit : List Str := ["self", "called", "points", "moves"]
theorem sc_init : FnScope Ninit ["self", "called", "points", "moves"] (defScope s_init) := ⟨rfl, rfl, rfl, by decide +kernel, rfl, by decide +kernel, by decide +kernel⟩
abbrev s_of : Stmt := inClass (topS 19) 1
abbrev Nof : List Str := ["cls", "called", "points", "moves"]
theorem sc_of : FnScope Nof ["cls", "called", "points", "moves"] (defScope s_of) := ⟨rfl, rfl, rfl, by decide +kernel, rfl, by decide +kernel, by decide +kernel⟩
abbrev s_gcalled : Stmt := inClass (topS 19) 2
abbrev Ngcalled : List Str := ["self"]
theorem sc_gcalled : FnScope Ngcalled ["self"] (defScope s_gcalled) := ⟨rfl, rfl, rfl, by decide +kernel, rfl, by decide +kernel, by decide +kernel⟩
abbrev s_gpoints : Stmt := inClass (topS 19) 3
abbrev Ngpoints : List Str := ["self"]
theorem sc_gpoints : FnScope Ngpoints ["self"] (defScope s_gpoints) := ⟨rfl, rfl, rfl, by decide +kernel, rfl, by decide +kernel, by decide +kernel⟩
abbrev s_gmoves : Stmt := inClass (topS 19) 4
abbrev Ngmoves : List Str := ["self"]
theorem sc_gmoves : FnScope Ngmoves ["self"] (defScope s_gmoves) := ⟨rfl, rfl, rfl, by decide +kernel, rfl, by decide +kernel, by decide +kernel⟩
abbrev s_peq : Stmt := inClass (topS 19) 5
abbrev Npeq : List Str := ["self", "other"]
theorem sc_peq : FnScope Npeq ["self", "other"] (defScope s_peq) := ⟨rfl, rfl, rfl, by decide +kernel, rfl, by decide +kernel, by decide +kernel⟩
abbrev s_plen : Stmt := inClass (topS 19) 6
abbrev Nplen : List Str := ["self"]
theorem sc_plen : FnScope Nplen ["self"] (defScope s_plen) := ⟨rfl, rfl, rfl, by decide +kernel, rfl, by decide +kernel, by decide +kernel⟩
abbrev s_pstr : Stmt := inClass (topS 19) 7
abbrev Npstr : List Str := ["self"]
theorem sc_pstr : FnScope Npstr ["self"] (defScope s_pstr) := ⟨rfl, rfl, rfl, by decide +kernel, rfl, by decide +kernel, by decide +kernel⟩
section
variable {P : Program} {w : World} {K : PySem.W.Frag} {mg : Str → Option Value} {base : Heap} {C Ce fI fO pO fE fL fS p1 g1 p2 g2 p3 g3 : Addr} {mc : Value}
theorem ok_init {f f_is_name f_is_number f_are_moves : Addr} {fd_is_name fd_is_number fd_are_moves : FuncData} {oc kV dc0 pm ct cd : Value} {od an : Option Addr} {sl : Array (Option Value)}
    (lk : K.lookup f = some ⟨oc, od, .func (PySem.W.fnOf "__init__" "Procedure.__init__" (defArgs s_init) (defBody s_init) (defScope s_init) .none kV dc0 pm an cd ct), sl⟩) (hc : PySem.W.codeIn K cd "Procedure.__init__" = true) (T : ErrC K mg "InvalidProgram" Ce) (c : PcdC K mg C fI fO pO fE fL fS p1 g1 p2 g2 p3 g3 mc)
    (G_is_name : FnOk P w K mg base CX0 1 f_is_name fd_is_name ["value"] spName) (F_is_name : Fun K "is_name" "is_name" s_is_name f_is_name fd_is_name) (b_is_name : Binds K fd_is_name ["value"] []) (g_is_name : mg "is_name" = some (.ref f_is_name))(G_is_number : FnOk P w K mg base CX0 2 f_is_number fd_is_number ["value", "most"] (spOn1 isNr)) (F_is_number : Fun K "is_number" "is_number" s_is_number f_is_number fd_is_number) (b_is_number : Binds K fd_is_number ["value", "most"] []) (g_is_number : mg "is_number" = some (.ref f_is_number))(G_are_moves : FnOk P w K mg base CX0 6 f_are_moves fd_are_moves ["values", "points", "modes"] spMoves) (F_are_moves : Fun K "are_moves" "are_moves" s_are_moves f_are_moves fd_are_moves) (b_are_moves : Binds K fd_are_moves ["values", "points", "modes"] []) (g_are_moves : mg "are_moves" = some (.ref f_are_moves)) {tk1 tk2 : Tok} (g_MOST_POINTS : mg "MOST_POINTS" = some (.int 6 tk1)) (g_MOST_MODES : mg "MOST_MODES" = some (.int 5 tk2)) :
    FnR P w K mg base (L2.CX P w) 7 f fun vs H Q E => ∃ ws rest, vs = ws ++ rest ∧ ws.length = (["self", "called", "points"] : List Str).length ∧ rest.length ≤ sizeLine ∧ ∀ p : Addr, H p = none → spInitP C Ce (ws ++ [V.ref p]) (upd H p (.tup rest)) Q E := by
  refine StX.fn_star (N := Ninit) (pv := "moves") lk hc sc_init StX.cxUp (fun us rest hl => ?_) (fun A outer s H vs Q E hr h => ?_)
  · match us, hl, rest with
    | [_, _, _], _, [] => rfl
    | [_, _, _], _, _ :: _ => rfl
  · obtain ⟨x, dx, cv, pt, t, xs, dc, dp, ms, rfl, hx, ht, hdc, hdp, hms, l60, s1, s2, s3, qy, qn⟩ := h
    refine ⟨_, (pss_cons (ps_if (PW.pt (pw_or (pt_not (pt_val (pe_call G_is_name (hr.mono (by decide)) (by rfl) g_is_name F_is_name.kp b_is_name .nil pass0 (pa_cons (pv 1) pa_nil)))) (pw_or1 (pt_not (pt_val (pe_call G_is_number (hr.mono (by decide)) (by rfl) g_is_number F_is_number.kp b_is_number .nil pass0 (pa_cons (pv 2) (pa_cons (pe_glob (v := .int 6) rfl g_MOST_POINTS ⟨_, rfl⟩) pa_nil))))))))
        (pss_one (ps_raise rfl (takes_of rfl rfl rfl rfl) (pmk_own PySem.F.excBase_ValueError T.ex T.gC T.kC (raises_own T.bC T.tC) rfl)))
        pss_nil)
      (pss_cons (ps_if (pt_not (pt_val (pe_call G_are_moves (hr.mono (by decide)) (by rfl) g_are_moves F_are_moves.kp b_are_moves .nil pass0 (pa_cons (pv 3) (pa_cons (pv 2) (pa_cons (pe_glob (v := .int 5) rfl g_MOST_MODES ⟨_, rfl⟩) pa_nil))))))
        (pss_one (ps_raise rfl (takes_of rfl rfl rfl rfl) (pmk_own PySem.F.excBase_ValueError T.ex T.gC T.kC (raises_own T.bC T.tC) rfl)))
        pss_nil)
      (pss_cons (ps_fld (pv 0) (pv 1) rfl)
      (pss_cons (ps_fld (pv 0) (pv 2) rfl)
      (pss_one (ps_fld (pv 0) (pv 3) rfl)))))), ?_⟩
    refine ⟨_, rfl, cv, rfl, jud_of hdc s1, fun H1 e1 => ⟨_, rfl, ?_⟩⟩
    rw [name_of hdc]
    cases n1 : nameD dc with
    | false => exact iteT (qn (by unfold goodD; rw [n1]; rfl) H1 e1)
    | true =>
    refine iteF ⟨_, rfl, _, _, dp, rfl, hdp.same e1, s2, fun H2 e2' => ⟨_, rfl, ?_⟩⟩
    have e2 := e1.trans e2'
    cases n2 : isNr 6 dp with
    | false => exact iteT (qn (by unfold goodD; rw [n1, n2]; rfl) H2 e2)
    | true =>
    cases dp with
    | int p =>
      cases hdp
      refine iteF ⟨_, rfl, _, rfl, t, xs, p, 5, ms, rfl, e2 _ _ ht, hms.same e2, l60, s3, fun H3 e3' => ⟨_, rfl, ?_⟩⟩
      have e3 := e2.trans e3'
      cases n3 : areMoves p 5 ms with
      | false => exact iteT (qn (by unfold goodD; rw [n1, n2]; exact n3) H3 e3)
      | true =>
      refine iteF ?_
      have q := qy (by unfold goodD; rw [n1, n2]; exact n3) H3 e3
      refine ⟨_, rfl, _, rfl, x, C, dx, [], rfl, e3 _ _ hx, c.cls, c.n1, by decide, ?_⟩
      refine ⟨_, rfl, _, rfl, x, C, dx, _, rfl, upd_same, c.cls, c.n2, (by show (1 : Nat) < 1000; decide), ?_⟩
      refine ⟨_, rfl, _, rfl, x, C, dx, _, rfl, upd_same, c.cls, c.n3, (by show (2 : Nat) < 1000; decide), ?_⟩
      rw [upd_upd, upd_upd]
      exact q
    | _ => exact absurd n2 (by simp [isNr])
abbrev spI (C Ce : Addr) : Sp := fun vs H Q E => ∃ ws rest, vs = ws ++ rest ∧ ws.length = (["self", "called", "points"] : List Str).length ∧ rest.length ≤ sizeLine ∧ ∀ p : Addr, H p = none → spInitP C Ce (ws ++ [V.ref p]) (upd H p (.tup rest)) Q E
theorem ok_of {f : Addr} {fd : FuncData} (F : Fun K "of" "Procedure.of" s_of f fd) (FI : FnR P w K mg base (L2.CX P w) 7 fI (spI C Ce)) (T : ErrC K mg "InvalidProgram" Ce) (c : PcdC K mg C fI fO pO fE fL fS p1 g1 p2 g2 p3 g3 mc) (m_isinstance : mg "isinstance" = none) (m_tuple : mg "tuple" = none) :
    FnOk P w K mg base (L2.CX P w) 9 f fd ["cls", "called", "points", "moves"] (spOf C Ce) := by
  refine F.okX sc_of (fun vs H Q E h => ?_) (fun cdv A outer s H vs Q E hr h => ?_)
  · obtain ⟨cv, pt, mv, dc, dp, dm, rfl, _⟩ := h
    rfl
  · obtain ⟨cv, pt, mv, dc, dp, dm, rfl, hc, hp, hm, s1, s2, s3, qy, qn⟩ := h
    refine ⟨_, (pss_cons (ps_if (pt_not (pt_val (pe_callB call_isD (by rfl) m_isinstance (by decide +kernel) (pa_cons (pv 3) (pa_cons (pe_bltn (v := .ty "tuple") (by rfl) m_tuple (by decide +kernel) rfl) pa_nil)))))
        (pss_one (ps_raise rfl (takes_of rfl rfl rfl rfl) (pmk_own PySem.F.excBase_ValueError T.ex T.gC T.kC (raises_own T.bC T.tC) rfl)))
        pss_nil)
      (pss_one (ps_ret (Cl.pe_makeL c.make FI (hr.mono (by decide)) (pv 0) (Cl.passE (takes_of rfl rfl rfl rfl)) (pa_cons (pv 1) (pa_cons (pv 2) (StX.pa_star (pv 3) pa_nil))))))), ?_⟩
    have k := kT dm
    refine ⟨_, rfl, _, dm, _, _, rfl, hm, k, _, rfl, ?_⟩
    cases dm with
    | tuple ms =>
      cases hm with
      | @tup t xs ms e a =>
      obtain ⟨l60, sms⟩ := sm_tup.mp s3
      have ln := a.len
      refine iteF ⟨_, rfl, rfl, _, rfl, _, rfl, _, rfl, t, xs, rfl, .inl (.inl (.inl e)), fun x dx nx nd ne => ?_⟩
      have sA := same_new (same_new (Same.refl H) nd (o := .own x)) ((upd_ne ne.symm).trans nx) (o := .ins C dx [])
      refine ⟨[.ref x, cv, pt], xs ++ [], rfl, rfl, (by rw [List.append_nil]; exact Nat.le_of_lt (small1000 (by omega))), fun p np => ?_⟩
      have sB := same_new sA np (o := .tup (xs ++ []))
      rw [List.append_nil] at sB ⊢
      refine ⟨x, dx, cv, pt, p, xs, dc, dp, ms, rfl, upd_keep upd_same np, upd_same, hc.same sB, hp.same sB, a.same sB, l60, s1, s2, sms, fun g H' e' => ⟨rfl, ?_⟩, fun g H' e' => ?_⟩
      · obtain ⟨z, pn, rfl, rfl, gd⟩ := good_of g
        cases hc
        cases hp
        refine qy g _ x z pn (same_put (sB.trans e') nx) rfl rfl nx ⟨dx, p, xs, upd_same, ?_, (a.same (same_put (sB.trans e') nx)), gd⟩
        rw [upd_ne (fun z => by subst z; rw [upd_same] at np; cases np)]
        exact e' _ _ upd_same
      · exact qn g H' (sB.trans e')
    | _ => exact iteT (qn rfl H (Same.refl H))
theorem ok_peq {f : Addr} {fd : FuncData} {k : Nat} (F : Fun K "__eq__" "Procedure.__eq__" s_peq f fd) (c : PcdC K mg C fI fO pO fE fL fS p1 g1 p2 g2 p3 g3 mc) (m_isinstance : mg "isinstance" = none) :
    FnOk P w K mg base CX0 (k + 1) f fd ["self", "other"] (spEqP K C) := by
  refine F.ok sc_peq (fun vs H Q E h => ?_) (fun cdv A outer s H vs Q E hr h => ?_)
  · obtain ⟨a, y, z, p, ms, rfl, _⟩ := h
    rfl
  · obtain ⟨a, y, z, p, ms, rfl, hA, h⟩ := h
    refine ⟨_, (pss_cons (ps_if (pt_not (pt_val (pe_callB call_isi (by rfl) m_isinstance (by decide +kernel) (pa_cons (pv 1) (pa_cons (pe_glob (v := .ref C) rfl c.gP rfl) pa_nil)))))
        (pss_one (ps_ret pe_bl))
        pss_nil)
      (pss_cons (ps_if (PW.pt (pw_or (pt_cmpR op_ne (pe_fld (pv 0) rfl) (pe_fld (pv 1) rfl) (nomark _)) (pw_or1 (pt_cmpR op_ne (pe_fld (pv 0) rfl) (pe_fld (pv 1) rfl) (nomark _)))))
        (pss_one (ps_ret pe_bl))
        pss_nil)
      (pss_one (ps_ret (pe_cmpR (op_eqH hr.units) (pe_fld (pv 0) rfl) (pe_fld (pv 1) rfl) (nomark _)))))), ?_⟩
    rcases h with ⟨b, z2, q2, ms2, rfl, hB, q⟩ | ⟨Ty, ty, kt, q⟩
    · obtain ⟨dx, t, xs, a1, a2, a3, ga⟩ := hA
      obtain ⟨dy, u, ys, b1, b2, b3, gb⟩ := hB
      refine ⟨_, rfl, _, _, _, _, true, rfl, .own C, .base (.ins b1 c.cls c.c1 c.c2 c.c3 c.c4), c.k1, _, rfl, iteF ?_⟩
      have h1 : (decide (V.str z = V.str z2)) = decide (z = z2) := decide_eq_decide.mpr ⟨fun e => V.str.inj e, fun e => by rw [e]⟩
      have h2 : (decide (V.int p = V.int q2)) = decide (p = q2) := decide_eq_decide.mpr ⟨fun e => V.int.inj e, fun e => by rw [e]⟩
      refine ⟨_, rfl, a, C, dx, _, _, rfl, a1, c.cls, c.n1, rfl, _, rfl, b, C, dy, _, _, rfl, b1, c.cls, c.n1, rfl, rfl, _, rfl, ?_⟩
      rw [h1]
      cases e1 : decide (z = z2) with
      | false =>
        rw [e1, Bool.false_and, Bool.false_and] at q
        exact iteT q
      | true =>
        refine iteF ⟨_, rfl, a, C, dx, _, _, rfl, a1, c.cls, c.n2, rfl, _, rfl, b, C, dy, _, _, rfl, b1, c.cls, c.n2, rfl, rfl, _, rfl, ?_⟩
        rw [h2]
        cases e2 : decide (p = q2) with
        | false =>
          rw [e1, e2, Bool.and_false, Bool.false_and] at q
          exact iteT q
        | true =>
          rw [e1, e2, Bool.true_and, Bool.true_and] at q
          have pm := pl_moves gb.moves
          exact iteF ⟨_, rfl, a, C, dx, _, _, rfl, a1, c.cls, c.n3, rfl, _, rfl, b, C, dy, _, _, rfl, b1, c.cls, c.n3, rfl, .tuple ms, .tuple ms2, .tup a2 a3, .tup b2 b3, pm.1, Nat.le_trans pm.2 (by omega), q⟩
    · exact ⟨_, rfl, _, _, _, _, false, rfl, .own C, ty, kt, _, rfl, iteT q⟩
theorem ok_plen {f : Addr} {fd : FuncData} {k : Nat} (F : Fun K "__len__" "Procedure.__len__" s_plen f fd) (c : PcdC K mg C fI fO pO fE fL fS p1 g1 p2 g2 p3 g3 mc) (m_len : mg "len" = none) :
    FnOk P w K mg base CX0 (k + 1) f fd ["self"] (spLenP C) := by
  refine F.ok sc_plen (fun vs H Q E h => ?_) (fun cdv A outer s H vs Q E hr h => ?_)
  · obtain ⟨a, z, p, ms, rfl, _⟩ := h
    rfl
  · obtain ⟨a, z, p, ms, rfl, ⟨dx, t, xs, a1, a2, a3, ga⟩, q⟩ := h
    refine ⟨_, (pss_one (ps_ret (pe_callB call_len_seq (by rfl) m_len (by decide +kernel) (pa_cons (pe_fld (pv 0) rfl) pa_nil)))), ?_⟩
    refine ⟨_, rfl, a, C, dx, _, _, rfl, a1, c.cls, c.n3, rfl, t, xs, rfl, .inr (.inl (.inl a2)), ?_⟩
    rw [a3.len]
    exact q
theorem le_app {a b : Str} {n m k : Nat} (h1 : a.length ≤ n) (h2 : b.length ≤ m) (h : n + m ≤ k) : (a ++ b).length ≤ k := by
  have e : (a ++ b).length = a.length + b.length := Array.size_append
  omega
theorem dig_len : ∀ n : Nat, n ≤ 60 → (Str.ofString (toString (n : Int))).length ≤ 5 := by decide +kernel
theorem ok_pstr {f : Addr} {fd : FuncData} {k : Nat} (F : Fun K "__str__" "Procedure.__str__" s_pstr f fd) (c : PcdC K mg C fI fO pO fE fL fS p1 g1 p2 g2 p3 g3 mc) (m_len : mg "len" = none) :
    FnOk P w K mg base CX0 (k + 1) f fd ["self"] (spStrP C) := by
  refine F.ok sc_pstr (fun vs H Q E h => ?_) (fun cdv A outer s H vs Q E hr h => ?_)
  · obtain ⟨a, z, p, ms, rfl, _⟩ := h
    rfl
  · obtain ⟨a, z, p, ms, rfl, ⟨dx, t, xs, a1, a2, a3, ga⟩, q⟩ := h
    refine ⟨_, (pss_one (ps_ret (pe_joined (.cons pe_str (.cons (pe_fmt (pe_fld (pv 0) rfl)) (.cons pe_str (.cons (pe_fmt (pe_fld (pv 0) rfl)) (.cons pe_str (.cons (pe_fmt (pe_callB call_len_seq (by rfl) m_len (by decide +kernel) (pa_cons (pe_fld (pv 0) rfl) pa_nil))) (.cons pe_str .nil)))))))))), ?_⟩
    have lz : z.length ≤ 8 := by
      have := ga.name
      unfold nameOf at this
      rw [Bool.and_eq_true, Bool.and_eq_true, decide_eq_true_iff, decide_eq_true_iff] at this
      exact this.1.2
    have lm : ms.length ≤ 12 := by
      have := ga.moves
      unfold areMoves at this
      rw [Bool.and_eq_true, decide_eq_true_iff] at this
      exact this.1
    obtain ⟨pn, rfl⟩ := Int.eq_ofNat_of_zero_le (show 0 ≤ p by have := ga.lo; omega)
    have lp : pn ≤ 60 := by have := ga.hi; omega
    have k0 : (Str.empty ++ ("procedure " : Str)).length ≤ 20 := by decide +kernel
    have k1 := le_app k0 lz (k := 30) (by decide)
    have k2 := le_app k1 (show (", " : Str).length ≤ 5 by decide +kernel) (k := 40) (by decide)
    have k3 := le_app k2 (dig_len pn lp) (k := 50) (by decide)
    have k4 := le_app k3 (show (" points, " : Str).length ≤ 10 by decide +kernel) (k := 60) (by decide)
    have k5 := le_app k4 (dig_len ms.length (by omega)) (k := 70) (by decide)
    have k6 := le_app k5 (show (" moves" : Str).length ≤ 10 by decide +kernel) (k := 80) (by decide)
    have sl : ∀ {y : Str}, y.length ≤ 80 → y.length ≤ sizeLine := fun h => Nat.le_of_lt (small1000 (by omega))
    have l2 : ∀ n : Nat, n ≤ 60 → (n : Int).natAbs.log2 < 1920 := fun n h => by
      have := Nat.log2_le_self n
      rw [Int.natAbs_natCast]
      omega
    have ex := a3.len
    refine ⟨_, rfl, sl (Nat.le_trans k0 (by decide)), _, rfl, a, C, dx, _, _, rfl, a1, c.cls, c.n1, rfl, .inl ⟨z, rfl, sl (by omega), _, rfl, sl (by omega), _, rfl, sl (by omega), _, rfl, a, C, dx, _, _, rfl, a1, c.cls, c.n2, rfl, .inr ⟨(pn : Int), rfl, l2 pn lp, _, rfl, sl (by omega), _, rfl, sl (by omega), _, rfl, a, C, dx, _, _, rfl, a1, c.cls, c.n3, rfl, t, xs, rfl, .inr (.inl (.inl a2)), .inr ⟨((ms.length : Nat) : Int), by rw [ex], l2 _ (by omega), _, rfl, sl (by omega), _, rfl, sl (by omega), ?_⟩⟩⟩⟩
    have e0 : (Str.empty ++ ("procedure " : Str)) = ("procedure " : Str) := by decide +kernel
    show Q (.str ((((((((Str.empty ++ ("procedure " : Str)) ++ z) ++ (", " : Str)) ++ _) ++ _) ++ _) ++ _))) H
    rw [e0]
    exact q
end
end My

namespace My
open PySem PySem.Spec PyProof.Rows L2 Sh Dt
def spOddV : Sp := fun vs H Q _ => ∃ d, vs = [.ref d] ∧ DieAt H d ∧ ∀ v e H', Vd [d] H' v e → But d H H' → DieAt H' d → Q v H'
def spSubset : Sp := fun vs H Q _ => ∃ d n, vs = [.ref d, .int n] ∧ DieAt H d ∧ 1 ≤ n ∧ n ≤ 5 ∧ ∀ p (ns : List Int) H', But d H H' → DieAt H' d → H' p = some (.tup (ns.map V.int)) → ns ≠ [] → ns.length ≤ 5 → asc ltI ns = true → (∀ k ∈ ns, 0 ≤ k ∧ k < n) → Q (.ref p) H'
def spShuffle : Sp := fun vs H Q _ => ∃ (d l : Addr) (zs : List Str), vs = [.ref d, .ref l] ∧ DieAt H d ∧ l ≠ d ∧ H l = some (.lst (zs.map V.str)) ∧ 1 ≤ zs.length ∧ zs.length ≤ 60 ∧ ∀ (p : Addr) (ws : List Str) H', But d H H' → DieAt H' d → H p = none → H' p = some (.lst (ws.map V.str)) → ws.length = zs.length → (∀ z ∈ ws, z ∈ zs) → Q (.ref p) H'
abbrev s_law_odd_one : Stmt := topS 34
abbrev Nlaw_odd_one : List Str := ["die", "some"]
theorem sc_law_odd_one : FnScope Nlaw_odd_one ["die"] (defScope s_law_odd_one) := ⟨rfl, rfl, rfl, by decide +kernel, rfl, by decide +kernel, by decide +kernel⟩
abbrev s_law_subset : Stmt := topS 27
abbrev Nlaw_subset : List Str := ["die", "total", "found", "mode"]
theorem sc_law_subset : FnScope Nlaw_subset ["die", "total"] (defScope s_law_subset) := ⟨rfl, rfl, rfl, by decide +kernel, rfl, by decide +kernel, by decide +kernel⟩
abbrev s_law_bent_tuple : Stmt := topS 32
abbrev Nlaw_bent_tuple : List Str := ["die", "items", "odd", "at", "some"]
theorem sc_law_bent_tuple : FnScope Nlaw_bent_tuple ["die", "items", "odd"] (defScope s_law_bent_tuple) := ⟨rfl, rfl, rfl, by decide +kernel, rfl, by decide +kernel, by decide +kernel⟩
abbrev s_law_bent_move : Stmt := topS 33
abbrev Nlaw_bent_move : List Str := ["die", "move", "at", "odd", "bent"]
theorem sc_law_bent_move : FnScope Nlaw_bent_move ["die", "move"] (defScope s_law_bent_move) := ⟨rfl, rfl, rfl, by decide +kernel, rfl, by decide +kernel, by decide +kernel⟩
abbrev s_law_shuffle : Stmt := topS 26
abbrev Nlaw_shuffle : List Str := ["die", "items", "pool", "turn"]
theorem sc_law_shuffle : FnScope Nlaw_shuffle ["die", "items"] (defScope s_law_shuffle) := ⟨rfl, rfl, rfl, by decide +kernel, rfl, by decide +kernel, by decide +kernel⟩
abbrev s_law_a_move : Stmt := topS 35
abbrev Nlaw_a_move : List Str := ["die", "total", "points", "names", "here", "there", "way", "some", "pairs", "turn"]
theorem sc_law_a_move : FnScope Nlaw_a_move ["die", "total", "points", "names"] (defScope s_law_a_move) := ⟨rfl, rfl, rfl, by decide +kernel, rfl, by decide +kernel, by decide +kernel⟩
abbrev s_law_any_plain : Stmt := topS 36
abbrev Nlaw_any_plain : List Str := ["die", "total", "bands", "names", "name", "points", "moves", "turn", "begin"]
theorem sc_law_any_plain : FnScope Nlaw_any_plain ["die"] (defScope s_law_any_plain) := ⟨rfl, rfl, rfl, by decide +kernel, rfl, by decide +kernel, by decide +kernel⟩
section
variable {P : Program} {w : World} {K : PySem.W.Frag} {mg : Str → Option Value} {base : Heap}
theorem ok_odd_one {f fP : Addr} {fd fdP : FuncData} (F : Fun K "_law_odd_one" "_law_odd_one" s_law_odd_one f fd) (G__law_pick : FnOk P w K mg base CX0 2 fP fdP ["die", "items"] (spPick K)) (F__law_pick : Fun K "_law_pick" "_law_pick" s_law_pick fP fdP) (b__law_pick : Binds K fdP ["die", "items"] []) (g__law_pick : mg "_law_pick" = some (.ref fP)) :
    FnOk P w K mg base CX0 3 f fd ["die"] spOddV := by
  refine F.ok sc_law_odd_one (fun vs H Q E h => ?_) (fun cdv A outer s H vs Q E hr h => ?_)
  · obtain ⟨d, rfl, _⟩ := h
    rfl
  · obtain ⟨d, rfl, hD, q⟩ := h
    refine ⟨_, (pss_cons (ps_set (i := 1) sc_law_odd_one.nd rfl (by first | exact Or.inl rfl | exact Or.inr rfl) (pe_lst (pa_cons pe_non (pa_cons pe_int (pa_cons pe_int (pa_cons pe_int (pa_cons pe_int (pa_cons (pe_un un_neg pe_int) (pa_cons pe_bl (pa_cons pe_bl (pa_cons pe_str (pa_cons pe_str (pa_cons pe_str (pa_cons pe_str (pa_cons (pe_tup pa_nil) (pa_cons (pe_tup (pa_cons pe_int pa_nil)) (pa_cons (pe_tup (pa_cons pe_int (pa_cons pe_int pa_nil))) (pa_cons (pe_tup (pa_cons pe_int (pa_cons pe_int pa_nil))) (pa_cons (pe_lst (pa_cons pe_int pa_nil)) (pa_cons pe_dnewK (pa_cons pe_str pa_nil)))))))))))))))))))))
      (pss_cons (ps_set (i := 1) sc_law_odd_one.nd rfl (by first | exact Or.inl rfl | exact Or.inr rfl) (pe_op op_cat (pv 1) (pe_lst (pa_cons (pe_op op_powB pe_int pe_int) (pa_cons (pe_tup (pa_cons pe_non pa_nil)) (pa_cons (pe_tup (pa_cons (pe_tup (pa_cons pe_int (pa_cons pe_int pa_nil))) pa_nil)) (pa_cons (pe_tup (pa_cons (pe_tup (pa_cons pe_int (pa_cons pe_int pa_nil))) (pa_cons (pe_tup (pa_cons pe_int (pa_cons pe_int pa_nil))) pa_nil))) (pa_cons (pe_tup (pa_cons pe_str pa_nil)) (pa_cons (pe_tup (pa_cons pe_str (pa_cons pe_int pa_nil))) (pa_cons pe_str (pa_cons pe_str (pa_cons pe_str pa_nil))))))))))))
      (pss_one (ps_ret (pe_call G__law_pick (hr.mono (by decide)) (by rfl) g__law_pick F__law_pick.kp b__law_pick .nil pass0 (pa_cons (pv 0) (pa_cons (pv 1) pa_nil))))))), ?_⟩
    refine ⟨1, rfl, len_ok, fun t0 n0 => ⟨len_ok, fun t1 n1 => ⟨len_ok, fun t2 n2 => ⟨len_ok, fun t3 n3 => ⟨len_ok, fun l0 n4 => fun d0 n5 => ⟨len_ok, fun L nL => ?_⟩⟩⟩⟩⟩⟩
    refine ⟨_, rfl, 10, 39, rfl, rfl, ⟨by decide, by decide +kernel⟩, len_ok, fun u0 m0 => ⟨len_ok, fun u1 m1 => ⟨len_ok, fun u2 m2 => ⟨len_ok, fun u3 m3 => ⟨len_ok, fun u4 m4 => ⟨len_ok, fun u5 m5 => ⟨len_ok, fun u6 m6 => ⟨len_ok, fun u7 m7 => ⟨len_ok, fun M mM => ?_⟩⟩⟩⟩⟩⟩⟩⟩⟩
    refine ⟨L, M, _, _, rfl, rfl, (by (repeat (first | exact upd_same | refine upd_keep ?_ (by assumption)))), upd_same, Nat.le_of_lt (small1000 (Nat.le_of_ble_eq_true rfl)), fun R nR => ?_⟩
    refine ⟨.ref d, rfl, .ref R, rfl, d, (by (repeat (refine DieAt.new ?_ (by assumption))); exact hD), .inl ⟨R, _, rfl, DieAt.free (by (repeat (refine DieAt.new ?_ (by assumption))); exact hD) nR, .inl (.inl (.inl upd_same)), List.cons_ne_nil _ _, Nat.lt_of_le_of_lt (Nat.le_of_ble_eq_true (show Nat.ble _ 1000 = true from rfl)) (by decide), fun j v H' hj hN => ?_⟩⟩
    generalize hG : upd _ R _ = G at hN
    have hDR : DieAt G d := by
      rw [← hG]
      (repeat (refine DieAt.new ?_ (by assumption)))
      exact hD
    have hbG : But d H G := by
      rw [← hG]
      (repeat (refine But.new ?_ (by assumption)))
      exact But.refl d H
    suffices hs : ∃ e, Vd [d] G v e by
      obtain ⟨e, he⟩ := hs
      exact q v e H' (he.mono (hide_but List.mem_cons_self hN.but)) (hbG.trans hN.but) hN.die
    have hm := List.mem_of_getElem? hj
    clear hj q hN
    revert v
    show ∀ v ∈ [_, _, _, _, _, _, _, _, _, _, _, _, _, _, _, _, _, _, _, _, _, _, _, _, _, _, _, _], ∃ e, Vd [d] G v e
    have tp : ∀ {p : Addr} {xs : List V} {es : List PyData}, G p = some (.tup xs) → VdAll [d] G xs es → es.length ≤ 60 → Vd [d] G (.ref p) (.tuple es) := fun h a l => Vd.tup (fun z => hDR.ne h (fun _ _ _ z => by cases z) (List.mem_singleton.mp z)) h a l
    refine all_cons ⟨_, .non⟩ ?_
    refine all_cons ⟨_, .int _⟩ ?_
    refine all_cons ⟨_, .int _⟩ ?_
    refine all_cons ⟨_, .int _⟩ ?_
    refine all_cons ⟨_, .int _⟩ ?_
    refine all_cons ⟨_, .int _⟩ ?_
    refine all_cons ⟨_, .bl _⟩ ?_
    refine all_cons ⟨_, .bl _⟩ ?_
    refine all_cons ⟨_, .str (by decide +kernel)⟩ ?_
    refine all_cons ⟨_, .str (by decide +kernel)⟩ ?_
    refine all_cons ⟨_, .str (by decide +kernel)⟩ ?_
    refine all_cons ⟨_, .str (by decide +kernel)⟩ ?_
    refine all_cons ⟨_, tp (by rw [← hG]; repeat (first | exact upd_same | refine upd_keep ?_ (by assumption))) .nil (by decide)⟩ ?_
    refine all_cons ⟨_, tp (by rw [← hG]; repeat (first | exact upd_same | refine upd_keep ?_ (by assumption))) (.cons (.int _) .nil) (by decide)⟩ ?_
    refine all_cons ⟨_, tp (by rw [← hG]; repeat (first | exact upd_same | refine upd_keep ?_ (by assumption))) (.cons (.int _) (.cons (.int _) .nil)) (by decide)⟩ ?_
    refine all_cons ⟨_, tp (by rw [← hG]; repeat (first | exact upd_same | refine upd_keep ?_ (by assumption))) (.cons (.int _) (.cons (.int _) .nil)) (by decide)⟩ ?_
    refine all_cons ⟨_, .lst (fun z => hDR.ne (p := l0) (by rw [← hG]; repeat (first | exact upd_same | refine upd_keep ?_ (by assumption))) (fun _ _ _ z => by cases z) (List.mem_singleton.mp z)) (by rw [← hG]; repeat (first | exact upd_same | refine upd_keep ?_ (by assumption))) (.cons (.int _) .nil) (by decide)⟩ ?_
    refine all_cons ⟨_, ⟨.dic (hide_some (fun z => hDR.ne (p := d0) (o := .dK []) (by rw [← hG]; repeat (first | exact upd_same | refine upd_keep ?_ (by assumption))) (fun _ _ _ z => by cases z) (List.mem_singleton.mp z)) (by rw [← hG]; repeat (first | exact upd_same | refine upd_keep ?_ (by assumption)))), rfl⟩⟩ ?_
    refine all_cons ⟨_, .str (by decide +kernel)⟩ ?_
    refine all_cons ⟨_, .int _⟩ ?_
    refine all_cons ⟨_, tp (by rw [← hG]; repeat (first | exact upd_same | refine upd_keep ?_ (by assumption))) (.cons .non .nil) (by decide)⟩ ?_
    refine all_cons ⟨_, tp (by rw [← hG]; repeat (first | exact upd_same | refine upd_keep ?_ (by assumption))) (.cons (tp (by rw [← hG]; repeat (first | exact upd_same | refine upd_keep ?_ (by assumption))) (.cons (.int _) (.cons (.int _) .nil)) (by decide)) .nil) (by decide)⟩ ?_
    refine all_cons ⟨_, tp (by rw [← hG]; repeat (first | exact upd_same | refine upd_keep ?_ (by assumption))) (.cons (tp (by rw [← hG]; repeat (first | exact upd_same | refine upd_keep ?_ (by assumption))) (.cons (.int _) (.cons (.int _) .nil)) (by decide)) (.cons (tp (by rw [← hG]; repeat (first | exact upd_same | refine upd_keep ?_ (by assumption))) (.cons (.int _) (.cons (.int _) .nil)) (by decide)) .nil)) (by decide)⟩ ?_
    refine all_cons ⟨_, tp (by rw [← hG]; repeat (first | exact upd_same | refine upd_keep ?_ (by assumption))) (.cons (.str (by decide +kernel)) .nil) (by decide)⟩ ?_
    refine all_cons ⟨_, tp (by rw [← hG]; repeat (first | exact upd_same | refine upd_keep ?_ (by assumption))) (.cons (.str (by decide +kernel)) (.cons (.int _) .nil)) (by decide)⟩ ?_
    refine all_cons ⟨_, .str (by decide +kernel)⟩ ?_
    refine all_cons ⟨_, .str (by decide +kernel)⟩ ?_
    refine all_cons ⟨_, .str (by decide +kernel)⟩ ?_
    exact all_nil

theorem mt_popAtR {X : Cx} : MtR X "list.pop" rPopAt := mt_popAt
theorem erase_map {α β : Type} (f : α → β) : ∀ (xs : List α) (i : Nat), (xs.map f).eraseIdx i = (xs.eraseIdx i).map f
  | [], _ => rfl
  | _ :: _, 0 => rfl
  | x :: xs, i + 1 => congrArg (f x :: ·) (erase_map f xs i)
theorem seq_nat {r n : Nat} (h : r < n) : seqIndex? (r : Int) n = some r := by
  unfold seqIndex?
  have h1 : ¬ (r : Int) < 0 := by omega
  simp [h1, h]
theorem asc_snoc {ns : List Int} {i : Nat} (h : asc ltI ns = true) (hl : ∀ k ∈ ns, 0 ≤ k ∧ k < (i : Int)) : asc ltI (ns ++ [(i : Int)]) = true := by
  rw [asc_pw ltI_tr] at h ⊢
  rw [List.pairwise_append]
  refine ⟨h, List.pairwise_singleton _ _, fun a ha b hb => ?_⟩
  rw [List.mem_singleton.mp hb]
  exact decide_eq_true (hl a ha).2
theorem ok_subset {f f__law_cast : Addr} {fd fd__law_cast : FuncData} (F : Fun K "_law_subset" "_law_subset" s_law_subset f fd) (G__law_cast : FnOk P w K mg base CX0 1 f__law_cast fd__law_cast ["die", "total"] spCast) (F__law_cast : Fun K "_law_cast" "_law_cast" s_law_cast f__law_cast fd__law_cast) (b__law_cast : Binds K fd__law_cast ["die", "total"] []) (g__law_cast : mg "_law_cast" = some (.ref f__law_cast)) (m_tuple : mg "tuple" = none) (m_range : mg "range" = none) :
    FnOk P w K mg base CX0 2 f fd ["die", "total"] spSubset := by
  refine F.ok sc_law_subset (fun vs H Q E h => ?_) (fun cdv A outer s H vs Q E hr h => ?_)
  · obtain ⟨d, n, rfl, _⟩ := h
    rfl
  · obtain ⟨d, n, rfl, hD, n1, n5, q⟩ := h
    obtain ⟨n, rfl⟩ := Int.eq_ofNat_of_zero_le (show 0 ≤ n by omega)
    refine ⟨_, (pss_cons (ps_set (i := 2) sc_law_subset.nd rfl (by first | exact Or.inl rfl | exact Or.inr rfl) (pe_callTy call_tuple_of (by rfl) m_tuple (by decide +kernel) (pa_cons (pe_lc (own := [("mode", 3)]) (g := (gName 3)) rfl sc_law_subset.nd (pi_range1 rfl m_range (pa_cons (pv 1) pa_nil)) (blkOk_by (N := Nlaw_subset) (sc := defScope s_law_subset) (by decide +kernel))
      (fun _ _ _ _ _ => (pg_name (i := 3) sc_law_subset.nd rfl (Or.inl rfl))) (fun _ _ _ _ _ => (pts_one (pt_cmpR op_gt (pe_call G__law_cast (hr.mono (by decide)) (by rfl) g__law_cast F__law_cast.kp b__law_cast .nil pass0 (pa_cons (pv 0) (pa_cons pe_int pa_nil))) pe_int (nomark _)))) (fun _ _ _ _ _ => (pv 3))) pa_nil)))
      (pss_one (ps_ret (pe_ifExp (pt_cmpR (op_neTI hr.units) (pv 2) (pe_tup pa_nil) (nomark _)) (pv 2) (pe_tup (pa_cons (pe_call G__law_cast (hr.mono (by decide)) (by rfl) g__law_cast F__law_cast.kp b__law_cast .nil pass0 (pa_cons (pv 0) (pa_cons (pv 1) pa_nil))) pa_nil)))))), ?_⟩
    refine ⟨_, rfl, _, rfl, by omega, by omega, fun D0 nD => ?_⟩
    rw [Int.toNat_natCast]
    refine lc_range (lo := 0) (n := n) (fun i H1 => But d H H1 ∧ DieAt H1 d ∧ ∃ ns : List Int, H1 D0 = some (.lst (ns.map V.int)) ∧ ns.length ≤ i ∧ asc ltI ns = true ∧ ∀ k ∈ ns, 0 ≤ k ∧ k < (i : Int)) ⟨(But.refl d H).new nD, hD.new nD, [], upd_same, Nat.le_refl _, rfl, fun k hk => nomatch hk⟩ (fun i H1 hi hq => ?_) (fun H1 hq => ?_)
    · obtain ⟨b1, d1, ns, hl, l1, as, mem⟩ := hq
      have nDd : D0 ≠ d := hD.free nD
      refine ⟨rfl, _, rfl, d, 3, rfl, d1, by decide, by decide, fun r H2 hr2 hN => ⟨(r : Int), 0, rfl, rfl, _, rfl, ite2 (fun e => ?_) (fun e => ?_)⟩⟩
      · refine ⟨_, rfl, ns.map V.int, (hN.ne nDd).trans hl, ?_, ?_⟩
        · rw [List.length_map]
          exact small1000 (by omega)
        · rw [Int.zero_add]
          refine ⟨(b1.trans hN.but).put nD, hN.die.put nDd, ns ++ [(i : Int)], by rw [upd_same, List.map_append]; rfl, by rw [List.length_append]; simp; omega, asc_snoc as mem, fun k hk => ?_⟩
          rcases List.mem_append.mp hk with hk | hk
          · have := mem k hk
            exact ⟨this.1, by omega⟩
          · rw [List.mem_singleton.mp hk]
            exact ⟨by omega, by omega⟩
      · exact ⟨b1.trans hN.but, hN.die, ns, (hN.ne nDd).trans hl, by omega, as, fun k hk => ⟨(mem k hk).1, by have := (mem k hk).2; omega⟩⟩
    · obtain ⟨b1, d1, ns, hl, l1, as, mem⟩ := hq
      refine ⟨D0, _, rfl, .inl ⟨.inl (.inl hl), fun t nt => ?_⟩⟩
      have nDd : D0 ≠ d := hD.free nD
      have b2 := b1.new nt (o := .tup (ns.map V.int))
      have d2 := d1.new nt (o := .tup (ns.map V.int))
      refine ⟨_, rfl, len_ok, fun e0 ne => ⟨t, e0, ns, [], rfl, rfl, .inl (.inl (upd_keep upd_same ne)), .inl (.inl upd_same), _, rfl, ite2 (fun e => ?_) (fun e => ?_)⟩⟩
      · refine ⟨_, rfl, q t ns _ (b2.new ne) (d2.new ne) (upd_keep upd_same ne) (fun z => ?_) (by omega) as fun k hk => mem k hk⟩
        rw [z] at e
        cases e
      · refine ⟨_, rfl, _, rfl, d, n, rfl, d2.new ne, by omega, by omega, fun r H2 hr2 hN => ⟨len_ok, fun p np => ?_⟩⟩
        exact q p [(r : Int)] _ (((b2.new ne).trans hN.but).new np) (hN.die.new np) upd_same (List.cons_ne_nil _ _) (by simp) rfl fun k hk => by
          rw [List.mem_singleton.mp hk]
          exact ⟨by omega, hr2⟩
theorem ok_shuffle {f f__law_cast : Addr} {fd fd__law_cast : FuncData} (F : Fun K "_law_shuffle" "_law_shuffle" s_law_shuffle f fd) (G__law_cast : FnOk P w K mg base CX0 1 f__law_cast fd__law_cast ["die", "total"] spCast) (F__law_cast : Fun K "_law_cast" "_law_cast" s_law_cast f__law_cast fd__law_cast) (b__law_cast : Binds K fd__law_cast ["die", "total"] []) (g__law_cast : mg "_law_cast" = some (.ref f__law_cast)) (m_list : mg "list" = none) (m_range : mg "range" = none) (m_len : mg "len" = none) :
    FnOk P w K mg base CX0 2 f fd ["die", "items"] spShuffle := by
  refine F.ok sc_law_shuffle (fun vs H Q E h => ?_) (fun cdv A outer s H vs Q E hr h => ?_)
  · obtain ⟨d, l, zs, rfl, _⟩ := h
    rfl
  · obtain ⟨d, l, zs, rfl, hD, ld, hl, n1, n60, q⟩ := h
    refine ⟨_, (pss_cons (ps_set (i := 2) sc_law_shuffle.nd rfl (by first | exact Or.inl rfl | exact Or.inr rfl) (pe_callTy call_list_of (by rfl) m_list (by decide +kernel) (pa_cons (pv 1) pa_nil)))
      (pss_one (ps_ret (pe_lc (own := [("turn", 3)]) (g := (gName 3)) (tt := tYes) rfl sc_law_shuffle.nd (pi_range1 rfl m_range (pa_cons (pe_callB call_len_seq (by rfl) m_len (by decide +kernel) (pa_cons (pv 1) pa_nil)) pa_nil)) (blkOk_by (N := Nlaw_shuffle) (sc := defScope s_law_shuffle) (by decide +kernel))
      (fun _ _ _ _ _ => (pg_name (i := 3) sc_law_shuffle.nd rfl (Or.inl rfl))) (fun _ _ _ _ _ => pts_nil) (fun _ _ _ _ _ => (show PE _ _ (tBM K "list" rPopAt _ _) from (pe_bm (r := rPopAt) (id := "list.pop") PySem.F.plainAttrs_list PySem.F.slot_list_pop PySem.F.type_list_pop mt_popAtR (pv 2) (pa_cons (pe_call G__law_cast (hr.mono (by decide)) (by rfl) g__law_cast F__law_cast.kp b__law_cast .nil pass0 (pa_cons (pv 0) (pa_cons (pe_callB (id := "len") (r := rLenS K) call_len_seq (by rfl) m_len (by decide +kernel) (pa_cons (pv 2) pa_nil)) pa_nil))) pa_nil)))))))), ?_⟩
    refine ⟨_, rfl, l, _, rfl, .inl (.inl (.inl hl)), fun B nB => ?_⟩
    have lB : l ≠ B := fun z => by
      rw [z, nB] at hl
      cases hl
    have nBd : B ≠ d := hD.free nB
    refine ⟨_, rfl, l, _, rfl, .inl (.inl (.inl (upd_keep hl nB))), _, rfl, by rw [List.length_map]; omega, by rw [List.length_map]; omega, fun D0 nD => ?_⟩
    rw [List.length_map, Int.toNat_natCast]
    have nDd : D0 ≠ d := (hD.new nB).free nD
    have DB : D0 ≠ B := fun z => by
      rw [z, upd_same] at nD
      cases nD
    have nD0 : H D0 = none := by
      rw [upd_ne DB] at nD
      exact nD
    refine lc_range (lo := 0) (n := zs.length) (fun i H1 => But d H H1 ∧ DieAt H1 d ∧ ∃ ps as : List Str, H1 B = some (.lst (ps.map V.str)) ∧ H1 D0 = some (.lst (as.map V.str)) ∧ ps.length + i = zs.length ∧ as.length = i ∧ (∀ z ∈ ps, z ∈ zs) ∧ ∀ z ∈ as, z ∈ zs) ⟨((But.refl d H).new nB).new nD, (hD.new nB).new nD, zs, [], upd_keep upd_same nD, upd_same, rfl, rfl, fun z hz => hz, fun z hz => nomatch hz⟩ (fun i H1 hi hq => ?_) (fun H1 hq => ?_)
    · obtain ⟨b1, d1, ps, as, hB, hA, l1, l2, m1, m2⟩ := hq
      refine ⟨rfl, _, rfl, .inl ⟨rfl, _, .inl (.inl hB)⟩, _, rfl, _, rfl, B, _, rfl, .inl (.inl (.inl hB)), d, _, rfl, d1, by rw [List.length_map]; omega, by rw [List.length_map]; omega, fun r H2 hr2 hN => ?_⟩
      rw [List.length_map] at hr2
      have hr3 : r < ps.length := by omega
      have hB2 := (hN.ne nBd).trans hB
      have hA2 := (hN.ne nDd).trans hA
      refine ⟨B, ps.map V.str, (r : Int), r, .str ps[r], rfl, rfl, hB2, by omega, by omega, ?_, by rw [List.getElem?_map, List.getElem?_eq_getElem hr3]; rfl, ?_⟩
      · exact seq_nat (by rw [List.length_map]; exact hr3)
      · refine ⟨as.map V.str, (upd_ne DB).trans hA2, by rw [List.length_map]; exact small1000 (by omega), ?_, (hN.die.put nBd).put nDd, ps.eraseIdx r, as ++ [ps[r]], ?_, ?_, ?_, ?_, fun z hz => m1 z (List.mem_of_mem_eraseIdx hz), fun z hz => ?_⟩
        · exact ((b1.trans hN.but).put nB).put nD0
        · rw [upd_ne DB.symm, upd_same, erase_map]
        · rw [upd_same, List.map_append]
          rfl
        · rw [List.length_eraseIdx_of_lt hr3]
          omega
        · rw [List.length_append, l2]
          rfl
        · rcases List.mem_append.mp hz with hz | hz
          · exact m2 z hz
          · rw [List.mem_singleton.mp hz]
            exact m1 _ (List.getElem_mem hr3)
    · obtain ⟨b1, d1, ps, as, hB, hA, l1, l2, m1, m2⟩ := hq
      exact q D0 as H1 b1 d1 nD0 hA l2 m2
end
end My

namespace My
open PySem PySem.Spec PyProof.Rows L2 Sh Dt
/-! ### data without lists and dicts -/
mutual
def nl : PyData → Bool
  | .list _ => false
  | .dict _ => false
  | .tuple xs => nlAll xs
  | _ => true
def nlAll : List PyData → Bool
  | [] => true
  | d :: r => nl d && nlAll r
end
theorem nlAll_mem : ∀ {ds : List PyData}, nlAll ds = true ↔ ∀ d ∈ ds, nl d = true
  | [] => by simp [nlAll]
  | d :: r => by simp [nlAll, nlAll_mem (ds := r)]
theorem nl_ints (ns : List Int) : nl (.tuple (ns.map PyData.int)) = true := by
  simp only [nl]
  exact nlAll_mem.mpr fun d hd => by
    obtain ⟨k, _, rfl⟩ := List.mem_map.mp hd
    rfl
theorem nl_rows (ks : List (List Int)) : nl (.tuple (ks.map Zt.rowD)) = true := by
  simp only [nl]
  exact nlAll_mem.mpr fun d hd => by
    obtain ⟨k, _, rfl⟩ := List.mem_map.mp hd
    exact nl_ints k
mutual
theorem nl_hide {S : List Addr} {H : Hp} {M : Addr} {ys : List V} (hM : H M = some (.lst ys)) : ∀ {v : V} {e : PyData}, D (hide S H) v e → nl e = true → D (hide (M :: S) H) v e
  | _, _, .non, _ => .non
  | _, _, .bl b, _ => .bl b
  | _, _, .int i, _ => .int i
  | _, _, .str z, _ => .str z
  | _, _, .lst h a, g => by cases g
  | _, _, .dic h, g => by cases g
  | _, _, .tup (p := p) h a, g => by
    obtain ⟨n, h⟩ := hide_in h
    have ne : p ≠ M := fun z => by
      rw [z, hM] at h
      cases h
    exact .tup (hide_some (by simp [ne, n]) h) (nl_hideAll hM a (by simpa [nl] using g))
theorem nl_hideAll {S : List Addr} {H : Hp} {M : Addr} {ys : List V} (hM : H M = some (.lst ys)) : ∀ {vs : List V} {es : List PyData}, DAll (hide S H) vs es → nlAll es = true → DAll (hide (M :: S) H) vs es
  | _, _, .nil, _ => .nil
  | _, _, .cons h a, g => by
    simp only [nlAll, Bool.and_eq_true] at g
    exact .cons (nl_hide hM h g.1) (nl_hideAll hM a g.2)
end
theorem vd_out {S : List Addr} {H : Hp} {M : Addr} {ys : List V} {v : V} {e : PyData} (h : Vd S H v e) (hM : H M = some (.lst ys)) (n : nl e = true) : Vd (M :: S) H v e := ⟨nl_hide hM h.1 n, h.2⟩
/-- a drawn move between so many points -/
structure Mv (p : Int) (ds : List PyData) : Prop where
  ok : isMove p 5 (.tuple ds) = true
  lo : 3 ≤ ds.length
  hi : ds.length ≤ 5
  inn : ∀ es, PyData.tuple es ∈ ds → es ≠ [] ∧ es.length ≤ 5
  nol : nl (.tuple ds) = true
def Nm (z : Str) : Prop := nameOf z = true ∧ (decide (z.length ≤ 1000) && PyData.strOk z) = true
def spAMove : Sp := fun vs H Q _ => ∃ (d l : Addr) (total points : Int) (zs : List Str), vs = [.ref d, .int total, .int points, .ref l] ∧ DieAt H d ∧ 1 ≤ total ∧ total ≤ 5 ∧ 1 ≤ points ∧ points ≤ 6 ∧ l ≠ d ∧ H l = some (.lst (zs.map V.str)) ∧ zs ≠ [] ∧ zs.length ≤ 60 ∧ (∀ z ∈ zs, Nm z) ∧
  ∀ t ds H', But d H H' → DieAt H' d → Vd [d] H' (.ref t) (.tuple ds) → Mv points ds → Q (.ref t) H'
theorem set_ok {ns : List Int} {n : Int} (h0 : ns ≠ []) (h1 : asc ltI ns = true) (h2 : ∀ k ∈ ns, 0 ≤ k ∧ k < n) (h5 : n ≤ 5) : isSet 5 (.tuple (ns.map PyData.int)) = true := by
  have e1 : (ns.map PyData.int).map intOf = ns := by
    rw [List.map_map]
    exact List.map_id _
  have e2 : (ns.map PyData.int).all (isNum 5) = true := List.all_eq_true.mpr fun d hd => by
    obtain ⟨k, hk, rfl⟩ := List.mem_map.mp hd
    have := h2 k hk
    show (decide (0 ≤ k) && decide (k < 5)) = true
    rw [decide_eq_true this.1, decide_eq_true (by omega)]
    rfl
  have e3 : (ns.map PyData.int).isEmpty = false := by
    cases ns with
    | nil => exact absurd rfl h0
    | cons a r => rfl
  show (!(ns.map PyData.int).isEmpty && (ns.map PyData.int).all (isNum 5) && asc ltI ((ns.map PyData.int).map intOf)) = true
  rw [e1, e2, e3, h1]
  rfl
theorem pairs_ok {ks : List (List Int)} {n : Int} (h0 : ks ≠ []) (h1 : Zt.Asc ks) (h2 : ∀ k ∈ ks, ∃ a b, k = [a, b] ∧ 0 ≤ a ∧ a < n ∧ 0 ≤ b ∧ b < n) (h5 : n ≤ 5) : isPairs 5 (.tuple (ks.map Zt.rowD)) = true := by
  have e1 : (ks.map Zt.rowD).map rowOf = ks := by
    rw [List.map_map]
    refine (List.map_congr_left fun k hk => ?_).trans (List.map_id _)
    show (k.map PyData.int).map intOf = k
    rw [List.map_map]
    exact List.map_id _
  have e2 : (ks.map Zt.rowD).all (isPair 5) = true := List.all_eq_true.mpr fun d hd => by
    obtain ⟨k, hk, rfl⟩ := List.mem_map.mp hd
    obtain ⟨a, b, rfl, a0, a1, b0, b1⟩ := h2 k hk
    show ((decide (0 ≤ a) && decide (a < 5)) && (decide (0 ≤ b) && decide (b < 5))) = true
    rw [decide_eq_true a0, decide_eq_true b0, decide_eq_true (by omega), decide_eq_true (by omega)]
    rfl
  have e3 : (ks.map Zt.rowD).isEmpty = false := by
    cases ks with
    | nil => exact absurd rfl h0
    | cons a r => rfl
  have e4 : asc HT.lexLt ks = true := (asc_pw lex_tr ks).mpr (h1.imp fun {x y} h => by rw [lex_lx]; exact h)
  show (!(ks.map Zt.rowD).isEmpty && (ks.map Zt.rowD).all (isPair 5) && asc HT.lexLt ((ks.map Zt.rowD).map rowOf)) = true
  rw [e1, e2, e3, e4]
  rfl
theorem num_ok {k : Nat} {p : Int} (h : (k : Int) < p) : isNum p (.int (k : Int)) = true := by
  show (decide (0 ≤ (k : Int)) && decide ((k : Int) < p)) = true
  rw [decide_eq_true (by omega), decide_eq_true h]
  rfl
theorem mv_call {w z : Str} {a b : Nat} {p n : Int} {ns : List Int} (hw : w = "call" ∨ w = "post") (ha : (a : Int) < p) (hb : (b : Int) < p) (hz : nameOf z = true) (h0 : ns ≠ []) (l5 : ns.length ≤ 5) (h1 : asc ltI ns = true) (h2 : ∀ k ∈ ns, 0 ≤ k ∧ k < n) (h5 : n ≤ 5) :
    Mv p [.str w, .int a, .int b, .str z, .tuple (ns.map PyData.int)] := by
  refine ⟨?_, by simp, by simp, fun es he => ?_, by have := nl_ints ns; simp [nl, nlAll] at this ⊢; exact this⟩
  · have e1 : PyData.eqv (.str w) (.str "leave") = false := by rcases hw with rfl | rfl <;> decide +kernel
    have e2 : PyData.eqv (.str w) (.str "go") = false := by rcases hw with rfl | rfl <;> decide +kernel
    have e3 : strIn (.str w) ["call", "post"] = true := by rcases hw with rfl | rfl <;> decide +kernel
    simp [isMove, num_ok ha, num_ok hb, e1, e2, e3, set_ok h0 h1 h2 h5, nameD, hz]
  · simp at he
    subst he
    exact ⟨by simpa using h0, by simpa using l5⟩
theorem mv_leave {a : Nat} {p n : Int} {ns : List Int} (ha : (a : Int) < p) (h0 : ns ≠ []) (l5 : ns.length ≤ 5) (h1 : asc ltI ns = true) (h2 : ∀ k ∈ ns, 0 ≤ k ∧ k < n) (h5 : n ≤ 5) : Mv p [.str "leave", .int a, .tuple (ns.map PyData.int)] := by
  refine ⟨?_, by simp, by simp, fun es he => ?_, by have := nl_ints ns; simp [nl, nlAll] at this ⊢; exact this⟩
  · have e1 : PyData.eqv (.str "leave") (.str "leave") = true := by decide +kernel
    simp [isMove, num_ok ha, e1, set_ok h0 h1 h2 h5]
  · simp at he
    subst he
    exact ⟨by simpa using h0, by simpa using l5⟩
theorem mv_go {a b : Nat} {p n : Int} {ks : List (List Int)} (ha : (a : Int) < p) (hb : (b : Int) < p) (h0 : ks ≠ []) (l5 : ks.length ≤ 5) (h1 : Zt.Asc ks) (h2 : ∀ k ∈ ks, ∃ a b, k = [a, b] ∧ 0 ≤ a ∧ a < n ∧ 0 ≤ b ∧ b < n) (h5 : n ≤ 5) : Mv p [.str "go", .int a, .int b, .tuple (ks.map Zt.rowD)] := by
  refine ⟨?_, by simp, by simp, fun es he => ?_, by have := nl_rows ks; simp [nl, nlAll] at this ⊢; exact this⟩
  · have e1 : PyData.eqv (.str "go") (.str "leave") = false := by decide +kernel
    have e2 : PyData.eqv (.str "go") (.str "go") = true := by decide +kernel
    simp [isMove, num_ok ha, num_ok hb, e1, e2, pairs_ok h0 h1 h2 h5]
  · simp at he
    subst he
    exact ⟨by simpa using h0, by simpa using l5⟩
theorem nodup_len : ∀ (xs ys : List (List Int)), xs.Nodup → (∀ x ∈ xs, x ∈ ys) → xs.length ≤ ys.length
  | [], _, _, _ => Nat.zero_le _
  | x :: xs, ys, nd, h => by
    obtain ⟨n1, n2⟩ := List.nodup_cons.mp nd
    have hx := h x List.mem_cons_self
    have := nodup_len xs (ys.erase x) n2 fun y hy => (List.mem_erase_of_ne (fun z => n1 (by rw [← z]; exact hy))).mpr (h y (List.mem_cons_of_mem _ hy))
    rw [List.length_erase_of_mem hx] at this
    have := List.length_pos_of_mem hx
    rw [List.length_cons]
    omega
theorem die_tup {H : Hp} {d p : Addr} {xs : List V} (h : DieAt H d) (hp : H p = some (.tup xs)) : p ∉ [d] := fun z => h.ne hp (fun _ _ _ z => by cases z) (List.mem_singleton.mp z)
theorem vd_ints {H : Hp} {d p : Addr} {ns : List Int} (h : DieAt H d) (hp : H p = some (.tup (ns.map V.int))) (l : ns.length ≤ 60) : Vd [d] H (.ref p) (.tuple (ns.map PyData.int)) := Vd.tup (die_tup h hp) hp (VdAll.ints ns) (by rw [List.length_map]; exact l)
theorem vd_rows {H : Hp} {d : Addr} (h : DieAt H d) : ∀ {ps : List (Addr × List Int)}, (∀ q ∈ ps, H q.1 = some (.tup (q.2.map V.int)) ∧ q.2.length ≤ 60) → VdAll [d] H (Zt.refs ps) ((Zt.keys ps).map Zt.rowD)
  | [], _ => .nil
  | q :: ps, hq => .cons (vd_ints h (hq q List.mem_cons_self).1 (hq q List.mem_cons_self).2) (vd_rows h fun r hr => hq r (List.mem_cons_of_mem _ hr))
section
variable {P : Program} {w : World} {K : PySem.W.Frag} {mg : Str → Option Value} {base : Heap}
theorem ok_a_move {f f__law_cast f__law_pick f__law_subset : Addr} {fd fd__law_cast fd__law_pick fd__law_subset : FuncData} (F : Fun K "_law_a_move" "_law_a_move" s_law_a_move f fd) (G__law_cast : FnOk P w K mg base CX0 1 f__law_cast fd__law_cast ["die", "total"] spCast) (F__law_cast : Fun K "_law_cast" "_law_cast" s_law_cast f__law_cast fd__law_cast) (b__law_cast : Binds K fd__law_cast ["die", "total"] []) (g__law_cast : mg "_law_cast" = some (.ref f__law_cast))(G__law_pick : FnOk P w K mg base CX0 2 f__law_pick fd__law_pick ["die", "items"] (spPick K)) (F__law_pick : Fun K "_law_pick" "_law_pick" s_law_pick f__law_pick fd__law_pick) (b__law_pick : Binds K fd__law_pick ["die", "items"] []) (g__law_pick : mg "_law_pick" = some (.ref f__law_pick))(G__law_subset : FnOk P w K mg base CX0 2 f__law_subset fd__law_subset ["die", "total"] spSubset) (F__law_subset : Fun K "_law_subset" "_law_subset" s_law_subset f__law_subset fd__law_subset) (b__law_subset : Binds K fd__law_subset ["die", "total"] []) (g__law_subset : mg "_law_subset" = some (.ref f__law_subset)) (m_set : mg "set" = none) (m_sorted : mg "sorted" = none) (m_tuple : mg "tuple" = none) (m_range : mg "range" = none) :
    FnOk P w K mg base CX0 3 f fd ["die", "total", "points", "names"] spAMove := by
  refine F.ok sc_law_a_move (fun vs H Q E h => ?_) (fun cdv A outer s H vs Q E hr h => ?_)
  · obtain ⟨d, l, total, points, zs, rfl, _⟩ := h
    rfl
  · obtain ⟨d, l, total, points, zs, rfl, hD, t1, t5, p1, p6, ld, hl, zne, z60, zok, q⟩ := h
    refine ⟨_, (pss_cons (ps_par (i := 4) (j := 5) rfl sc_law_a_move.nd rfl rfl (by decide) rfl rfl (pa_cons (pe_call G__law_pick (hr.mono (by decide)) (by rfl) g__law_pick F__law_pick.kp b__law_pick .nil pass0 (pa_cons (pv 0) (pa_cons (pe_lst (pa_cons pe_int (pa_cons (pe_call G__law_cast (hr.mono (by decide)) (by rfl) g__law_cast F__law_cast.kp b__law_cast .nil pass0 (pa_cons (pv 0) (pa_cons (pv 2) pa_nil))) pa_nil))) pa_nil))) (pa_cons (pe_call G__law_cast (hr.mono (by decide)) (by rfl) g__law_cast F__law_cast.kp b__law_cast .nil pass0 (pa_cons (pv 0) (pa_cons (pv 2) pa_nil))) pa_nil)) rfl)
      (pss_cons (ps_par (i := 6) (j := 7) rfl sc_law_a_move.nd rfl rfl (by decide) rfl rfl (pa_cons (pe_call G__law_cast (hr.mono (by decide)) (by rfl) g__law_cast F__law_cast.kp b__law_cast .nil pass0 (pa_cons (pv 0) (pa_cons pe_int pa_nil))) (pa_cons (pe_call G__law_subset (hr.mono (by decide)) (by rfl) g__law_subset F__law_subset.kp b__law_subset .nil pass0 (pa_cons (pv 0) (pa_cons (pv 1) pa_nil))) pa_nil)) rfl)
      (pss_cons (ps_if (pt_cmpR op_lt (pv 6) pe_int (nomark _))
        (pss_one (ps_ret (pe_tup (pa_cons (pe_call G__law_pick (hr.mono (by decide)) (by rfl) g__law_pick F__law_pick.kp b__law_pick .nil pass0 (pa_cons (pv 0) (pa_cons (pe_lst (pa_cons pe_str (pa_cons pe_str (pa_cons pe_str pa_nil)))) pa_nil))) (pa_cons (pv 4) (pa_cons (pv 5) (pa_cons (pe_call G__law_pick (hr.mono (by decide)) (by rfl) g__law_pick F__law_pick.kp b__law_pick .nil pass0 (pa_cons (pv 0) (pa_cons (pv 3) pa_nil))) (pa_cons (pv 7) pa_nil))))))))
        pss_nil)
      (pss_cons (ps_if (pt_cmpR op_lt (pv 6) pe_int (nomark _))
        (pss_one (ps_ret (pe_tup (pa_cons pe_str (pa_cons (pv 4) (pa_cons (pv 7) pa_nil))))))
        pss_nil)
      (pss_cons (ps_set (i := 8) sc_law_a_move.nd rfl (by first | exact Or.inl rfl | exact Or.inr rfl) (pe_lst pa_nil))
      (pss_cons (ps_for PassesOwn.never rfl (pi_range1 rfl m_range (pa_cons (pe_op op_add pe_int (pe_call G__law_cast (hr.mono (by decide)) (by rfl) g__law_cast F__law_cast.kp b__law_cast .nil pass0 (pa_cons (pv 0) (pa_cons pe_int pa_nil)))) pa_nil)) (pg_name (i := 9) sc_law_a_move.nd rfl (by first | exact Or.inl rfl | exact Or.inr rfl))
        (pss_one (ps_expr (pe_bm PySem.F.plainAttrs_list PySem.F.slot_list_append PySem.F.type_list_append mt_append (pv 8) (pa_cons (pe_tup (pa_cons (pe_call G__law_cast (hr.mono (by decide)) (by rfl) g__law_cast F__law_cast.kp b__law_cast .nil pass0 (pa_cons (pv 0) (pa_cons (pv 1) pa_nil))) (pa_cons (pe_call G__law_cast (hr.mono (by decide)) (by rfl) g__law_cast F__law_cast.kp b__law_cast .nil pass0 (pa_cons (pv 0) (pa_cons (pv 1) pa_nil))) pa_nil))) pa_nil)))))
      (pss_one (ps_ret (pe_tup (pa_cons pe_str (pa_cons (pv 4) (pa_cons (pv 5) (pa_cons (pe_callTy call_tuple_of (by rfl) m_tuple (by decide +kernel) (pa_cons (pe_callB (id := "sorted") (r := Zt.rSrtS K P w) (Zt.cr_srtS rfl) (by rfl) m_sorted (by decide +kernel) (pa_cons (pe_callTy (T := "set") (r := rSetOfT K P w) (cr_setOfT rfl hr.units) (by rfl) m_set (by decide +kernel) (pa_cons (pv 8) pa_nil)) pa_nil)) pa_nil)) pa_nil))))))))))))), ?_⟩
    refine ⟨_, rfl, _, rfl, _, rfl, d, points, rfl, hD, by omega, by omega, fun r1 H1 hr1 N1 => ⟨len_ok, fun L1 nL1 => ⟨d, N1.die.new nL1, .inl ⟨L1, _, rfl, N1.die.free nL1, .inl (.inl (.inl upd_same)), List.cons_ne_nil _ _, (by show (2 : Nat) < 1073741824; decide), fun j v H2 hj N2 => ?_⟩⟩⟩⟩
    obtain ⟨k1, rfl, hk1⟩ : ∃ k : Nat, v = .int k ∧ (k : Int) < points := by
      match j, hj with
      | 0, hj =>
        cases hj
        exact ⟨0, rfl, by show (0 : Int) < points; omega⟩
      | 1, hj =>
        cases hj
        exact ⟨r1, rfl, hr1⟩
    have b2 : But d H H2 := (N1.but.new nL1).trans N2.but
    refine ⟨_, rfl, _, rfl, d, points, rfl, N2.die, by omega, by omega, fun r2 H3 hr2 N3 => ?_⟩
    refine ⟨_, _, rfl, _, rfl, d, 10, rfl, N3.die, by decide, by decide, fun way H4 hw N4 => ⟨_, rfl, _, rfl, d, total, rfl, N4.die, t1, t5, fun p ns H5 b5' d5 hp ne l5 as mem => ?_⟩⟩
    have b5 : But d H H5 := ((b2.trans N3.but).trans N4.but).trans b5'
    refine ⟨_, _, rfl, ?_⟩
    have hl5 := b5 _ _ ld hl
    refine ⟨_, rfl, _, 5, rfl, rfl, _, rfl, ite2 (fun _ => ?_) (fun _ => ?_)⟩
    · refine ⟨_, rfl, len_ok, fun L2 nL2 => ⟨d, d5.new nL2, .inl ⟨L2, _, rfl, d5.free nL2, .inl (.inl (.inl upd_same)), List.cons_ne_nil _ _, (by show (3 : Nat) < 1073741824; decide), fun j v H6 hj N6 => ?_⟩⟩⟩
      obtain ⟨wd, rfl, hwd⟩ : ∃ wd : Str, v = .str wd ∧ (wd = "call" ∨ wd = "post") := by
        match j, hj with
        | 0, hj =>
          cases hj
          exact ⟨_, rfl, .inl rfl⟩
        | 1, hj =>
          cases hj
          exact ⟨_, rfl, .inr rfl⟩
        | 2, hj =>
          cases hj
          exact ⟨_, rfl, .inr rfl⟩
      have b6 : But d H5 H6 := ((But.refl d H5).new nL2).trans N6.but
      refine ⟨_, rfl, _, rfl, _, rfl, _, rfl, d, N6.die, .inl ⟨l, _, rfl, ld, .inl (.inl (.inl (b6 _ _ ld hl5))), (by simpa using zne), by rw [List.length_map]; omega, fun j v H7 hj N7 => ?_⟩⟩
      rw [List.getElem?_map] at hj
      cases ez : zs[j]? with
      | none =>
        rw [ez] at hj
        cases hj
      | some z =>
        rw [ez] at hj
        cases hj
        have hz := zok z (List.mem_of_getElem? ez)
        refine ⟨_, rfl, len_ok, fun t nt => ?_⟩
        have b7 := b6.trans N7.but
        have d8 := N7.die.new nt (o := .tup [.str wd, .int k1, .int r2, .str z, .ref p])
        have hp8 : upd H7 t (.tup [.str wd, .int k1, .int r2, .str z, .ref p]) p = some (.tup (ns.map V.int)) := upd_keep (b7 _ _ (fun z => die_tup d5 hp (List.mem_singleton.mpr z)) hp) nt
        refine q t _ _ ((b5.trans b7).new nt) d8 (Vd.tup (die_tup d8 upd_same) upd_same (.cons (.str (by rcases hwd with rfl | rfl <;> decide +kernel)) (.cons (.int _) (.cons (.int _) (.cons (.str hz.2) (.cons (vd_ints d8 hp8 (by omega)) .nil))))) (by simp)) (mv_call hwd hk1 hr2 hz.1 ne l5 as mem t5)
    · refine ⟨_, rfl, _, 8, rfl, rfl, _, rfl, ite2 (fun _ => ?_) (fun _ => ?_)⟩
      · refine ⟨_, rfl, _, rfl, len_ok, fun t nt => ?_⟩
        have d8 := d5.new nt (o := .tup [.str "leave", .int k1, .ref p])
        exact q t _ _ (b5.new nt) d8 (Vd.tup (die_tup d8 upd_same) upd_same (.cons (.str (by decide +kernel)) (.cons (.int _) (.cons (vd_ints d8 (upd_keep hp nt) (by omega)) .nil))) (by simp)) (mv_leave hk1 ne l5 as mem t5)
      · refine ⟨len_ok, fun B nB => ?_⟩
        have nBd := d5.free nB
        refine ⟨_, rfl, d, 3, rfl, d5.new nB, by decide, by decide, fun r3 H6 hr3 N6 => ⟨1, _, rfl, rfl, _, rfl, by omega, by omega, ?_⟩⟩
        have en : (1 + (r3 : Int)).toNat = r3 + 1 := by omega
        rw [en]
        refine for_range (lo := 0) (n := r3 + 1) (fun k σ H7 => (∃ y8, σ = [some (.ref d), some (.int total), some (.int points), some (.ref l), some (.int k1), some (.int r2), some (.int way), some (.ref p), some (.ref B), y8]) ∧ But d H5 H7 ∧ DieAt H7 d ∧ ∃ ps : List (Addr × List Int), H7 B = some (.lst (Zt.refs ps)) ∧ ps.length = k ∧ ∀ q ∈ ps, H7 q.1 = some (.tup (q.2.map V.int)) ∧ ∃ a b, q.2 = [a, b] ∧ 0 ≤ a ∧ a < total ∧ 0 ≤ b ∧ b < total)
          ⟨⟨_, rfl⟩, ((But.refl d H5).new nB).trans N6.but, N6.die, [], (N6.ne nBd).trans upd_same, rfl, fun q hq => nomatch hq⟩ (fun k σ H7 hk hp7 => ?_) (fun σ H7 hp7 => ?_)
        · obtain ⟨⟨y8, rfl⟩, b7, d7, ps, hB, lp, hps⟩ := hp7
          refine ⟨_, rfl, .inl ⟨rfl, _, .inl (.inl hB)⟩, _, rfl, _, rfl, d, total, rfl, d7, by omega, by omega, fun x1 H8 hx1 N8 => ⟨_, rfl, _, rfl, d, total, rfl, N8.die, by omega, by omega, fun x2 H9 hx2 N9 => ⟨len_ok, fun T nT => ?_⟩⟩⟩
          have b9 := N8.but.trans N9.but
          have TB : T ≠ B := fun z => by
            rw [z, b9 _ _ nBd hB] at nT
            cases nT
          refine ⟨B, _, _, rfl, rfl, upd_keep (b9 _ _ nBd hB) nT, ?_, ⟨_, rfl⟩, ?_, ?_, ps ++ [(T, [(x1 : Int), (x2 : Int)])], ?_, ?_, fun q0 hq => ?_⟩
          · unfold Zt.refs
            rw [List.length_map, lp]
            exact small1000 (by omega)
          · exact ((b7.trans b9).new nT).put nB
          · exact (N9.die.new nT).put nBd
          · rw [upd_same]
            unfold Zt.refs
            rw [List.map_append]
            rfl
          · rw [List.length_append, lp]
            rfl
          · have qB : ∀ q ∈ ps, q.1 ≠ B := fun q hq z => by
              have := (hps q hq).1
              rw [z, hB] at this
              cases this
            rcases List.mem_append.mp hq with hq | hq
            · obtain ⟨h1, h2⟩ := hps q0 hq
              refine ⟨(upd_ne (qB q0 hq)).trans (upd_keep (b9 _ _ (fun z => die_tup d7 h1 (List.mem_singleton.mpr z)) h1) nT), h2⟩
            · rw [List.mem_singleton.mp hq]
              exact ⟨(upd_ne TB).trans upd_same, x1, x2, rfl, by omega, hx1, by omega, hx2⟩
        · obtain ⟨⟨y8, rfl⟩, b7, d7, ps, hB, lp, hps⟩ := hp7
          refine ⟨_, rfl, _, rfl, _, rfl, B, ps, rfl, .inl (.inl hB), fun q hq => .inl (.inl (hps q hq).1), by omega, fun S Lr nS sub cov => ?_⟩
          have nSd := d7.free nS
          refine ⟨S, Lr, rfl, upd_same, fun q hq => .inl (.inl (upd_keep (hps q (sub q hq)).1 nS)), fun q hq => ?_, fun L' l2 pm aS lS nl2 => ?_⟩
          · obtain ⟨_, a, b, e, _⟩ := hps q (sub q hq)
            rw [e]
            exact List.cons_ne_nil _ _
          · have hin : ∀ q ∈ L', q ∈ ps := fun q hq => sub q (pm.mem_iff.mp hq)
            refine ⟨l2, _, rfl, .inl ⟨.inl (.inl upd_same), fun u nu => ⟨len_ok, fun t nt => ?_⟩⟩⟩
            have d8 := (((d7.new nS (o := SetTO P w S Lr)).new nl2 (o := .lst (L'.map fun q => V.ref q.1))).new nu (o := .tup (L'.map fun q => V.ref q.1))).new nt (o := .tup [.str "go", .int k1, .int r2, .ref u])
            have hq8 : ∀ q ∈ L', upd (upd (upd (upd H7 S (SetTO P w S Lr)) l2 (.lst (L'.map fun q => V.ref q.1))) u (.tup (L'.map fun q => V.ref q.1))) t (.tup [.str "go", .int k1, .int r2, .ref u]) q.1 = some (.tup (q.2.map V.int)) := fun q hq => upd_keep (upd_keep (upd_keep (upd_keep (hps q (hin q hq)).1 nS) nl2) nu) nt
            have ll : L'.length ≤ 5 := by
              have e2 : (Zt.keys L').length ≤ 5 := by
                have := nodup_len (Zt.keys L') (Zt.keys ps) (Zt.Asc.nd aS) fun k hk => by
                  obtain ⟨q0, hq0, rfl⟩ := List.mem_map.mp hk
                  exact List.mem_map.mpr ⟨q0, hin q0 hq0, rfl⟩
                have e3 : (Zt.keys ps).length = ps.length := List.length_map _
                omega
              unfold Zt.keys at e2
              rw [List.length_map] at e2
              exact e2
            refine q t _ _ ((((b5.trans b7).new nS).new nl2 |>.new nu).new nt) d8 (Vd.tup (die_tup d8 upd_same) upd_same (.cons (.str (by decide +kernel)) (.cons (.int _) (.cons (.int _) (.cons (Vd.tup (es := (Zt.keys L').map Zt.rowD) (die_tup d8 (upd_keep upd_same nt)) (upd_keep upd_same nt) (vd_rows d8 fun q hq => ⟨hq8 q hq, ?_⟩) ?_) .nil)))) (by simp)) (mv_go hk1 hr2 ?_ ?_ aS (fun k hk => ?_) t5)
            · obtain ⟨_, a, b, e, _⟩ := hps q (hin q hq)
              rw [e]
              simp
            · unfold Zt.keys
              rw [List.length_map, List.length_map]
              omega
            · intro z
              have : ps ≠ [] := fun z => by
                rw [z] at lp
                cases lp
              cases ps with
              | nil => exact this rfl
              | cons q0 r =>
                obtain ⟨x, hx, _⟩ := List.mem_map.mp (cov q0 List.mem_cons_self)
                have hx2 : x.2 ∈ Zt.keys L' := List.mem_map.mpr ⟨x, pm.mem_iff.mpr hx, rfl⟩
                rw [z] at hx2
                cases hx2
            · unfold Zt.keys
              rw [List.length_map]
              exact ll
            · obtain ⟨q0, hq0, rfl⟩ := List.mem_map.mp hk
              obtain ⟨_, a, b, e, r⟩ := hps q0 (hin q0 hq0)
              exact ⟨a, b, e, r⟩
end
end My

namespace My
open PySem PySem.Spec PyProof.Rows L2 Sh Dt
structure Bm (z : Str) (p : Int) (ms : List PyData) : Prop where
  nm : Nm z
  p1 : 1 ≤ p
  p3 : p ≤ 3
  lo : 2 ≤ ms.length
  hi : ms.length ≤ 5
  mv : ∀ m ∈ ms, ∃ ds, m = .tuple ds ∧ Mv p ds
def Band (S : List Addr) (H : Hp) (b : V) : Prop := ∃ B z p t ms, b = .ref B ∧ B ∉ S ∧ H B = some (.lst [.str z, .int p, .ref t]) ∧ Vd S H (.ref t) (.tuple ms) ∧ Bm z p ms
theorem Band.mono {S S' : List Addr} {H H' : Hp} {b : V} (h : Band S H b) (s : Same (hide S H) (hide S' H')) : Band S' H' b := by
  obtain ⟨B, z, p, t, ms, rfl, n, e, v, m⟩ := h
  obtain ⟨n', e'⟩ := hide_in (s _ _ (hide_some n e))
  exact ⟨B, z, p, t, ms, rfl, n', e', v.mono s, m⟩
def spAnyPlain : Sp := fun vs H Q _ => ∃ d, vs = [.ref d] ∧ DieAt H d ∧ ∀ R x1 x2 x3 L bs H', But d H H' → DieAt H' d → H' R = some (.lst [x1, x2, x3, .ref L]) → H' L = some (.lst bs) → bs ≠ [] → bs.length ≤ 3 → (∀ b ∈ bs, Band [d] H' b) → Q (.ref R) H'
theorem pick4 {a b c e : Int} {j : Nat} {v : V} (h : [V.int a, V.int b, V.int c, V.int e][j]? = some v) : ∃ k, v = .int k ∧ (k = a ∨ k = b ∨ k = c ∨ k = e) := by
  match j, h with
  | 0, h => cases h; exact ⟨_, rfl, .inl rfl⟩
  | 1, h => cases h; exact ⟨_, rfl, .inr (.inl rfl)⟩
  | 2, h => cases h; exact ⟨_, rfl, .inr (.inr (.inl rfl))⟩
  | 3, h => cases h; exact ⟨_, rfl, .inr (.inr (.inr rfl))⟩
theorem nm3 : ∀ z ∈ (["main", "p", "q"] : List Str), Nm z := by
  intro z hz
  simp at hz
  rcases hz with rfl | rfl | rfl <;> exact ⟨by decide +kernel, by decide +kernel⟩
theorem cut_take {ws : List Str} {k : Int} (hw : ws.length = 3) (hk : 1 ≤ k ∧ k ≤ 3) : ∃ us : List Str, cutV (ws.map V.str) none (some k) = us.map V.str ∧ us ≠ [] ∧ us.length ≤ 3 ∧ ∀ z ∈ us, z ∈ ws := by
  have ht : cutV (ws.map V.str) none (some k) = (ws.take k.toNat).map V.str := by
    have e1 : HT.sIx (ws.map V.str).length 0 none = 0 := rfl
    have e2 : HT.sIx (ws.map V.str).length (ws.map V.str).length (some k) = k.toNat := by
      show (if k < 0 then _ else min k.toNat (ws.map V.str).length) = _
      rw [if_neg (by omega), List.length_map, hw]
      omega
    unfold cutV
    rw [e1, e2, List.drop_zero, Nat.sub_zero, List.map_take]
  refine ⟨ws.take k.toNat, ht, fun z => ?_, ?_, fun z hz => List.mem_of_mem_take hz⟩
  · have := congrArg List.length z
    rw [List.length_take, hw] at this
    simp at this
    omega
  · rw [List.length_take]
    omega
section
variable {P : Program} {w : World} {K : PySem.W.Frag} {mg : Str → Option Value} {base : Heap}
theorem ok_any_plain {f f__law_cast f__law_pick f__law_subset f__law_shuffle f__law_a_move : Addr} {fd fd__law_cast fd__law_pick fd__law_subset fd__law_shuffle fd__law_a_move : FuncData} (F : Fun K "_law_any_plain" "_law_any_plain" s_law_any_plain f fd) (G__law_cast : FnOk P w K mg base CX0 1 f__law_cast fd__law_cast ["die", "total"] spCast) (F__law_cast : Fun K "_law_cast" "_law_cast" s_law_cast f__law_cast fd__law_cast) (b__law_cast : Binds K fd__law_cast ["die", "total"] []) (g__law_cast : mg "_law_cast" = some (.ref f__law_cast))(G__law_pick : FnOk P w K mg base CX0 2 f__law_pick fd__law_pick ["die", "items"] (spPick K)) (F__law_pick : Fun K "_law_pick" "_law_pick" s_law_pick f__law_pick fd__law_pick) (b__law_pick : Binds K fd__law_pick ["die", "items"] []) (g__law_pick : mg "_law_pick" = some (.ref f__law_pick))(G__law_subset : FnOk P w K mg base CX0 2 f__law_subset fd__law_subset ["die", "total"] spSubset) (F__law_subset : Fun K "_law_subset" "_law_subset" s_law_subset f__law_subset fd__law_subset) (b__law_subset : Binds K fd__law_subset ["die", "total"] []) (g__law_subset : mg "_law_subset" = some (.ref f__law_subset))(G__law_shuffle : FnOk P w K mg base CX0 2 f__law_shuffle fd__law_shuffle ["die", "items"] spShuffle) (F__law_shuffle : Fun K "_law_shuffle" "_law_shuffle" s_law_shuffle f__law_shuffle fd__law_shuffle) (b__law_shuffle : Binds K fd__law_shuffle ["die", "items"] []) (g__law_shuffle : mg "_law_shuffle" = some (.ref f__law_shuffle))(G__law_a_move : FnOk P w K mg base CX0 3 f__law_a_move fd__law_a_move ["die", "total", "points", "names"] spAMove) (F__law_a_move : Fun K "_law_a_move" "_law_a_move" s_law_a_move f__law_a_move fd__law_a_move) (b__law_a_move : Binds K fd__law_a_move ["die", "total", "points", "names"] []) (g__law_a_move : mg "_law_a_move" = some (.ref f__law_a_move)) (m_tuple : mg "tuple" = none) (m_range : mg "range" = none) :
    FnOk P w K mg base CX0 4 f fd ["die"] spAnyPlain := by
  refine F.ok sc_law_any_plain (fun vs H Q E h => ?_) (fun cdv A outer s H vs Q E hr h => ?_)
  · obtain ⟨d, rfl, _⟩ := h
    rfl
  · obtain ⟨d, rfl, hD, q⟩ := h
    refine ⟨_, (pss_cons (ps_par (i := 1) (j := 2) rfl sc_law_any_plain.nd rfl rfl (by decide) rfl rfl (pa_cons (pe_call G__law_pick (hr.mono (by decide)) (by rfl) g__law_pick F__law_pick.kp b__law_pick .nil pass0 (pa_cons (pv 0) (pa_cons (pe_lst (pa_cons pe_int (pa_cons pe_int (pa_cons pe_int (pa_cons pe_int pa_nil))))) pa_nil))) (pa_cons (pe_lst pa_nil) pa_nil)) rfl)
      (pss_cons (ps_set (i := 3) sc_law_any_plain.nd rfl (by first | exact Or.inl rfl | exact Or.inr rfl) (pe_slice sl_list (pe_call G__law_shuffle (hr.mono (by decide)) (by rfl) g__law_shuffle F__law_shuffle.kp b__law_shuffle .nil pass0 (pa_cons (pv 0) (pa_cons (pe_lst (pa_cons pe_str (pa_cons pe_str (pa_cons pe_str pa_nil)))) pa_nil))) po_none (po_some (pe_call G__law_pick (hr.mono (by decide)) (by rfl) g__law_pick F__law_pick.kp b__law_pick .nil pass0 (pa_cons (pv 0) (pa_cons (pe_lst (pa_cons pe_int (pa_cons pe_int (pa_cons pe_int (pa_cons pe_int pa_nil))))) pa_nil))))))
      (pss_cons (ps_for PassesOwn.never rfl (pi_list (pv 3)) (pg_name (i := 4) sc_law_any_plain.nd rfl (by first | exact Or.inl rfl | exact Or.inr rfl))
        (pss_cons (ps_par (i := 5) (j := 6) rfl sc_law_any_plain.nd rfl rfl (by decide) rfl rfl (pa_cons (pe_call G__law_pick (hr.mono (by decide)) (by rfl) g__law_pick F__law_pick.kp b__law_pick .nil pass0 (pa_cons (pv 0) (pa_cons (pe_lst (pa_cons pe_int (pa_cons pe_int (pa_cons pe_int (pa_cons pe_int pa_nil))))) pa_nil))) (pa_cons (pe_lst pa_nil) pa_nil)) rfl)
        (pss_cons (ps_for PassesOwn.never rfl (pi_range1 rfl m_range (pa_cons (pe_op op_add pe_int (pe_call G__law_cast (hr.mono (by decide)) (by rfl) g__law_cast F__law_cast.kp b__law_cast .nil pass0 (pa_cons (pv 0) (pa_cons pe_int pa_nil)))) pa_nil)) (pg_name (i := 7) sc_law_any_plain.nd rfl (by first | exact Or.inl rfl | exact Or.inr rfl))
          (pss_one (ps_expr (pe_bm PySem.F.plainAttrs_list PySem.F.slot_list_append PySem.F.type_list_append mt_append (pv 6) (pa_cons (pe_call G__law_a_move (hr.mono (by decide)) (by rfl) g__law_a_move F__law_a_move.kp b__law_a_move .nil pass0 (pa_cons (pv 0) (pa_cons (pv 1) (pa_cons (pv 5) (pa_cons (pv 3) pa_nil))))) pa_nil)))))
        (pss_one (ps_expr (pe_bm PySem.F.plainAttrs_list PySem.F.slot_list_append PySem.F.type_list_append mt_append (pv 2) (pa_cons (pe_lst (pa_cons (pv 4) (pa_cons (pv 5) (pa_cons (pe_callTy call_tuple_of (by rfl) m_tuple (by decide +kernel) (pa_cons (pv 6) pa_nil)) pa_nil)))) pa_nil)))))))
      (pss_cons (ps_set (i := 8) sc_law_any_plain.nd rfl (by first | exact Or.inl rfl | exact Or.inr rfl) (pe_callTy call_tuple_of (by rfl) m_tuple (by decide +kernel) (pa_cons (pe_lc (own := [("name", 4)]) (g := (gName 4)) (tt := tYes) rfl sc_law_any_plain.nd (pi_list (pv 3)) (blkOk_by (N := Nlaw_any_plain) (sc := defScope s_law_any_plain) (by decide +kernel))
      (fun _ _ _ _ _ => (pg_name (i := 4) sc_law_any_plain.nd rfl (Or.inl rfl))) (fun _ _ _ _ _ => pts_nil) (fun _ _ _ _ _ => (pe_call G__law_pick (hr.mono (by decide)) (by rfl) g__law_pick F__law_pick.kp b__law_pick .nil pass0 (pa_cons (pv 0) (pa_cons (pe_lst (pa_cons pe_int (pa_cons pe_int (pa_cons pe_int (pa_cons pe_int pa_nil))))) pa_nil))))) pa_nil)))
      (pss_one (ps_ret (pe_lst (pa_cons (pv 1) (pa_cons (pe_call G__law_subset (hr.mono (by decide)) (by rfl) g__law_subset F__law_subset.kp b__law_subset .nil pass0 (pa_cons (pv 0) (pa_cons (pv 1) pa_nil))) (pa_cons (pv 8) (pa_cons (pv 2) pa_nil))))))))))), ?_⟩
    refine ⟨_, rfl, len_ok, fun L0 nL0 => ⟨d, hD.new nL0, .inl ⟨L0, _, rfl, hD.free nL0, .inl (.inl (.inl upd_same)), List.cons_ne_nil _ _, (by show (4 : Nat) < 1073741824; decide), fun j v H1 hj N1 => ⟨len_ok, fun C nC => ⟨_, _, rfl, ?_⟩⟩⟩⟩⟩
    obtain ⟨tot, rfl, htot⟩ := pick4 hj
    clear hj
    have b1 : But d H H1 := ((But.refl d H).new nL0).trans N1.but
    have nCd := N1.die.free nC
    have b2 := b1.new nC (o := .lst [])
    have d2 := N1.die.new nC (o := .lst [])
    have hC2 : upd H1 C (.lst []) C = some (.lst []) := upd_same
    show tSeq _ _ _ [_, some (.int tot), some (.ref C), _, _, _, _, _, _] (upd H1 C (.lst []))
    generalize upd H1 C (.lst []) = H2 at b2 d2 hC2
    refine ⟨_, rfl, len_ok, fun L2 nL2 => ⟨d, L2, (["main", "p", "q"] : List Str), rfl, d2.new nL2, d2.free nL2, upd_same, by decide, by decide, fun p ws H3 b3 d3 np hp lw mem => ?_⟩⟩
    have b23 : But d H2 H3 := ((But.refl d H2).new nL2).trans b3
    have pd : p ≠ d := DieAt.free (d2.new nL2) np
    refine ⟨_, rfl, len_ok, fun L4 nL4 => ⟨d, d3.new nL4, .inl ⟨L4, _, rfl, d3.free nL4, .inl (.inl (.inl upd_same)), List.cons_ne_nil _ _, (by show (4 : Nat) < 1073741824; decide), fun j v H5 hj N5 => ?_⟩⟩⟩
    obtain ⟨cut, rfl, hcut⟩ := pick4 hj
    clear hj
    have b35 : But d H3 H5 := ((But.refl d H3).new nL4).trans N5.but
    obtain ⟨us, ec, une, ul, umem⟩ := cut_take (k := cut) lw (by rcases hcut with rfl | rfl | rfl | rfl <;> decide)
    refine ⟨cut, rfl, p, _, rfl, .inl (.inl (b35 _ _ pd hp)), fun N nN => ?_⟩
    rw [ec]
    have d6 := N5.die.new nN (o := .lst (us.map V.str))
    have Nd := N5.die.free nN
    have b26 : But d H2 (upd H5 N (.lst (us.map V.str))) := (b23.trans b35).new nN
    have hN6 : upd H5 N (.lst (us.map V.str)) N = some (.lst (us.map V.str)) := upd_same
    have NC : N ≠ C := fun z => by
      rw [z, (b23.trans b35) _ _ nCd hC2] at nN
      cases nN
    show tSeq _ _ _ [_, some (.int tot), some (.ref C), some (.ref N), _, _, _, _, _] (upd H5 N (.lst (us.map V.str)))
    generalize upd H5 N (.lst (us.map V.str)) = H6 at d6 b26 hN6
    have hC6 := b26 _ _ nCd hC2
    have zok : ∀ z ∈ us, Nm z := fun z hz => nm3 z (mem z (umem z hz))
    have t15 : 1 ≤ tot ∧ tot ≤ 3 := by rcases htot with rfl | rfl | rfl | rfl <;> decide
    refine ⟨_, rfl, N, rfl, ⟨_, .inl (.inl hN6)⟩, for_list (xs := us.map V.str) (fun i σ H7 => (∃ y4 y5 y6 y7 y8, σ = [some (.ref d), some (.int tot), some (.ref C), some (.ref N), y4, y5, y6, y7, y8]) ∧ (∀ x o, x ≠ d → x ≠ C → H6 x = some o → H7 x = some o) ∧ DieAt H7 d ∧ ∃ bs, H7 C = some (.lst bs) ∧ bs.length = i ∧ ∀ b ∈ bs, Band [C, d] H7 b)
      ⟨⟨_, _, _, _, _, rfl⟩, fun x o _ _ e => e, d6, [], hC6, rfl, fun b hb => nomatch hb⟩ (fun i σ H7 _ hq => .inl (.inl (hq.2.1 _ _ Nd NC hN6))) (fun i x σ H7 hx hq => ?_) (fun σ H7 hq => ?_)⟩
    · obtain ⟨⟨y4, y5, y6, y7, y8, rfl⟩, k7, d7, bs, hC7, lb, bands⟩ := hq
      rw [List.getElem?_map] at hx
      cases ez : us[i]? with
      | none =>
        rw [ez] at hx
        cases hx
      | some nm =>
        rw [ez] at hx
        cases hx
        have hnm := zok nm (List.mem_of_getElem? ez)
        have hi := (List.getElem?_eq_some_iff.mp ez).1
        refine ⟨_, rfl, len_ok, fun L5 nL5 => ⟨d, d7.new nL5, .inl ⟨L5, _, rfl, d7.free nL5, .inl (.inl (.inl upd_same)), List.cons_ne_nil _ _, (by show (4 : Nat) < 1073741824; decide), fun j v H8 hj N8 => ⟨len_ok, fun M nM => ⟨_, _, rfl, ?_⟩⟩⟩⟩⟩
        obtain ⟨pt, rfl, hpt⟩ := pick4 hj
        clear hj
        have p13 : 1 ≤ pt ∧ pt ≤ 3 := by rcases hpt with rfl | rfl | rfl | rfl <;> decide
        have b78 : But d H7 H8 := ((But.refl d H7).new nL5).trans N8.but
        have nMd := N8.die.free nM
        have b79 := b78.new nM (o := .lst [])
        have d9 := N8.die.new nM (o := .lst [])
        have nM7 : H7 M = none := b78.free nMd nM
        have MC : M ≠ C := fun z => by
          rw [z, hC7] at nM7
          cases nM7
        have hM9 : upd H8 M (.lst []) M = some (.lst []) := upd_same
        show tSeq _ _ _ [_, _, _, _, some (.str nm), some (.int pt), some (.ref M), _, _] (upd H8 M (.lst []))
        generalize upd H8 M (.lst []) = H9 at b79 d9 hM9
        refine ⟨_, rfl, d, 4, rfl, d9, by decide, by decide, fun r H10 hr10 N10 => ⟨2, _, rfl, rfl, _, rfl, by omega, by omega, ?_⟩⟩
        have en : (2 + (r : Int)).toNat = r + 2 := by omega
        rw [en]
        refine for_range (lo := 0) (n := r + 2) (fun k σ H11 => (∃ y7, σ = [some (.ref d), some (.int tot), some (.ref C), some (.ref N), some (.str nm), some (.int pt), some (.ref M), y7, y8]) ∧ But d H7 H11 ∧ DieAt H11 d ∧ ∃ xs ms, H11 M = some (.lst xs) ∧ VdAll [M, d] H11 xs ms ∧ ms.length = k ∧ ∀ m ∈ ms, ∃ ds, m = .tuple ds ∧ Mv pt ds)
          ⟨⟨_, rfl⟩, b79.trans N10.but, N10.die, [], [], (N10.ne nMd).trans hM9, .nil, rfl, fun m hm => nomatch hm⟩ (fun k σ H11 hk hq => ?_) (fun σ H11 hq => ?_)
        · obtain ⟨⟨y7', rfl⟩, b11, d11, xs, ms, hM11, vd, lm, mv⟩ := hq
          refine ⟨_, rfl, .inl ⟨rfl, _, .inl (.inl hM11)⟩, _, rfl, _, rfl, _, rfl, _, rfl, d, N, tot, pt, us, rfl, d11, t15.1, by omega, p13.1, by omega, Nd, b11 _ _ Nd (k7 _ _ Nd NC hN6), une, by omega, zok, fun t ds H12 b12 d12 hv hmv => ?_⟩
          have hM12 := b12 _ _ nMd hM11
          have vdx : VdAll [M, d] H12 (xs ++ [.ref t]) (ms ++ [.tuple ds]) := (vd.mono (hide_but (by simp) b12)).app (.cons (vd_out hv hM12 hmv.nol) .nil)
          refine ⟨M, _, _, rfl, rfl, hM12, ?_, ⟨_, rfl⟩, (b11.trans b12).put nM7, d12.put nMd, xs ++ [.ref t], ms ++ [.tuple ds], upd_same, vdx.mono hide_upd, by rw [List.length_append, lm]; rfl, fun m hm => ?_⟩
          · have := vd.len
            exact small1000 (by omega)
          · rcases List.mem_append.mp hm with hm | hm
            · exact mv m hm
            · exact ⟨ds, List.mem_singleton.mp hm, hmv⟩
        · obtain ⟨⟨y7', rfl⟩, b11, d11, xs, ms, hM11, vd, lm, mv⟩ := hq
          refine ⟨_, rfl, .inl ⟨rfl, _, .inl (.inl (b11 _ _ nCd hC7))⟩, _, rfl, _, rfl, _, rfl, M, xs, rfl, .inl ⟨.inl (.inl hM11), fun t nt => ⟨len_ok, fun B nB => ?_⟩⟩⟩
          have hC11 := b11 _ _ nCd hC7
          have BC : B ≠ C := fun z => by
            rw [z, upd_keep hC11 nt] at nB
            cases nB
          have tC : t ≠ C := fun z => by
            rw [z, hC11] at nt
            cases nt
          have td : t ≠ d := d11.free nt
          have Bd : B ≠ d := (d11.new nt (o := .tup xs)).free nB
          have s12 : Same H11 (upd (upd H11 t (.tup xs)) B (.lst [.str nm, .int pt, .ref t])) := same_new (same_new (Same.refl H11) nt) nB
          have vt : Vd [C, d] (upd (upd H11 t (.tup xs)) B (.lst [.str nm, .int pt, .ref t])) (.ref t) (.tuple ms) := by
            have e1 : VdAll [d] (upd (upd H11 t (.tup xs)) B (.lst [.str nm, .int pt, .ref t])) xs ms := (vd.mono hide_tail).mono (hide_same s12)
            have e2 : Vd [d] (upd (upd H11 t (.tup xs)) B (.lst [.str nm, .int pt, .ref t])) (.ref t) (.tuple ms) := Vd.tup (by simpa using td) (upd_keep upd_same nB) e1 (by omega)
            exact vd_out e2 (s12 _ _ hC11) (by
              simp only [nl]
              exact nlAll_mem.mpr fun m hm => by
                obtain ⟨ds, rfl, hm2⟩ := mv m hm
                exact hm2.nol)
          refine ⟨C, _, _, rfl, rfl, s12 _ _ hC11, small1000 (by omega), ⟨_, _, _, _, _, rfl⟩, fun x o h1 h2 e => ?_, ((d11.new nt).new nB).put nCd, bs ++ [.ref B], upd_same, by rw [List.length_append, lb]; rfl, fun b hb => ?_⟩
          · exact (upd_ne h2).trans (s12 _ _ (b11 _ _ h1 (k7 _ _ h1 h2 e)))
          · rcases List.mem_append.mp hb with hb | hb
            · exact (((bands b hb).mono (hide_but (by simp) b11)).mono (hide_same s12)).mono hide_upd
            · rw [List.mem_singleton.mp hb]
              have hb : Band [C, d] (upd (upd H11 t (.tup xs)) B (.lst [.str nm, .int pt, .ref t])) (.ref B) := ⟨B, nm, pt, t, ms, rfl, by simp [BC, Bd], upd_same, vt, hnm, p13.1, p13.2, by omega, by omega, mv⟩
              exact hb.mono hide_upd
    · obtain ⟨⟨y4, y5, y6, y7, y8, rfl⟩, k7, d7, bs, hC7, lb, bands⟩ := hq
      rw [List.length_map] at lb
      refine ⟨_, rfl, N, rfl, ⟨_, .inl (.inl (k7 _ _ Nd NC hN6))⟩, fun D0 nD => ?_⟩
      have D0d := d7.free nD
      refine lc_list (xs := us.map V.str) (fun i H8 => But d H7 H8 ∧ DieAt H8 d ∧ ∃ ys, H8 D0 = some (.lst ys) ∧ ys.length = i) ⟨(But.refl d H7).new nD, d7.new nD, [], upd_same, rfl⟩ (fun i H8 _ hq => .inl (.inl (hq.1 _ _ Nd (k7 _ _ Nd NC hN6)))) (fun i x H8 hx hq => ?_) (fun H8 hq => ?_)
      · obtain ⟨b8, d8, ys, hys, ly⟩ := hq
        have hi := (List.getElem?_eq_some_iff.mp hx).1
        rw [List.length_map] at hi
        refine ⟨rfl, _, rfl, len_ok, fun L6 nL6 => ⟨d, d8.new nL6, .inl ⟨L6, _, rfl, d8.free nL6, .inl (.inl (.inl upd_same)), List.cons_ne_nil _ _, (by show (4 : Nat) < 1073741824; decide), fun j v H9 hj N9 => ?_⟩⟩⟩
        have b89 : But d H8 H9 := ((But.refl d H8).new nL6).trans N9.but
        exact ⟨ys, b89 _ _ D0d hys, small1000 (by omega), (b8.trans b89).put nD, N9.die.put D0d, _, upd_same, by rw [List.length_append, ly]; rfl⟩
      · obtain ⟨b8, d8, ys, hys, ly⟩ := hq
        refine ⟨D0, ys, rfl, .inl ⟨.inl (.inl hys), fun t nt => ?_⟩⟩
        refine ⟨_, rfl, _, rfl, _, rfl, d, tot, rfl, d8.new nt, t15.1, by omega, fun p2 ns H9 b9 d9 _ _ _ _ _ => ⟨_, rfl, _, rfl, len_ok, fun R nR => ?_⟩⟩
        have b79 : But d H7 H9 := (b8.new nt).trans b9
        have kk : ∀ x o, x ≠ d → x ≠ C → H6 x = some o → upd H9 R (.lst [.int tot, .ref p2, .ref t, .ref C]) x = some o := fun x o h1 h2 e => upd_keep (b79 _ _ h1 (k7 _ _ h1 h2 e)) nR
        refine q R _ _ _ C bs _ (fun x o h1 e => ?_) (d9.new nR) upd_same (upd_keep (b79 _ _ nCd hC7) nR) (fun z => ?_) (by omega) fun b hb => ((((bands b hb).mono hide_tail).mono (hide_but (by simp) b79)).mono (hide_same (same_new (Same.refl H9) nR)))
        · have xC : x ≠ C := fun z => by
            rw [z] at e
            have := b1 _ _ nCd e
            rw [this] at nC
            cases nC
          exact kk _ _ h1 xC (b26 _ _ h1 (b2 _ _ h1 e))
        · have : us.length = 0 := by rw [← lb, z]; rfl
          exact une (List.length_eq_zero_iff.mp this)
end
end My

namespace My
open PySem PySem.Spec PyProof.Rows L2 Sh Dt
def spBent : Sp := fun vs H Q _ => ∃ d p odd ds e, vs = [.ref d, .ref p, odd] ∧ DieAt H d ∧ Vd [d] H (.ref p) (.tuple ds) ∧ ds ≠ [] ∧ ds.length ≤ 40 ∧ (PyData.tuple ds).plain = true ∧ (PyData.tuple ds).depth ≤ 60 ∧ Vd [d] H odd e ∧ ∀ v e' H', Vd [d] H' v e' → But d H H' → DieAt H' d → Q v H'
theorem cut_lo {xs : List V} {k : Int} (h0 : 0 ≤ k) (h1 : k ≤ xs.length) : cutV xs none (some k) = xs.take k.toNat := by
  have e1 : HT.sIx xs.length 0 none = 0 := rfl
  have e2 : HT.sIx xs.length xs.length (some k) = k.toNat := by
    show (if k < 0 then _ else min k.toNat xs.length) = _
    rw [if_neg (by omega)]
    omega
  unfold cutV
  rw [e1, e2, List.drop_zero, Nat.sub_zero]
theorem cut_hi {xs : List V} {k : Int} (h0 : 0 ≤ k) (h1 : k ≤ xs.length) : cutV xs (some k) none = xs.drop k.toNat := by
  have e1 : HT.sIx xs.length xs.length none = xs.length := rfl
  have e2 : HT.sIx xs.length 0 (some k) = k.toNat := by
    show (if k < 0 then _ else min k.toNat xs.length) = _
    rw [if_neg (by omega)]
    omega
  unfold cutV
  rw [e1, e2]
  exact List.take_of_length_le (by rw [List.length_drop]; omega)
section
variable {P : Program} {w : World} {K : PySem.W.Frag} {mg : Str → Option Value} {base : Heap}
theorem ok_bent_tuple {f f__law_cast f__law_pick : Addr} {fd fd__law_cast fd__law_pick : FuncData} (F : Fun K "_law_bent_tuple" "_law_bent_tuple" s_law_bent_tuple f fd) (G__law_cast : FnOk P w K mg base CX0 1 f__law_cast fd__law_cast ["die", "total"] spCast) (F__law_cast : Fun K "_law_cast" "_law_cast" s_law_cast f__law_cast fd__law_cast) (b__law_cast : Binds K fd__law_cast ["die", "total"] []) (g__law_cast : mg "_law_cast" = some (.ref f__law_cast))(G__law_pick : FnOk P w K mg base CX0 2 f__law_pick fd__law_pick ["die", "items"] (spPick K)) (F__law_pick : Fun K "_law_pick" "_law_pick" s_law_pick f__law_pick fd__law_pick) (b__law_pick : Binds K fd__law_pick ["die", "items"] []) (g__law_pick : mg "_law_pick" = some (.ref f__law_pick)) (m_len : mg "len" = none) (m_list : mg "list" = none) :
    FnOk P w K mg base CX0 3 f fd ["die", "items", "odd"] spBent := by
  refine F.ok sc_law_bent_tuple (fun vs H Q E h => ?_) (fun cdv A outer s H vs Q E hr h => ?_)
  · obtain ⟨d, p, odd, ds, e, rfl, _⟩ := h
    rfl
  · obtain ⟨d, p, odd, ds, e, rfl, hD, hp, hne, hl, hpl, hdp, hO, q⟩ := h
    refine ⟨_, (pss_cons (ps_set (i := 3) sc_law_bent_tuple.nd rfl (by first | exact Or.inl rfl | exact Or.inr rfl) (pe_ifExp (pt_cmpR (op_neH hr.units) (pv 1) (pe_tup pa_nil) (nomark _)) (pe_call G__law_cast (hr.mono (by decide)) (by rfl) g__law_cast F__law_cast.kp b__law_cast .nil pass0 (pa_cons (pv 0) (pa_cons (pe_callB call_len_seq (by rfl) m_len (by decide +kernel) (pa_cons (pv 1) pa_nil)) pa_nil))) pe_int))
      (pss_cons (ps_set (i := 4) sc_law_bent_tuple.nd rfl (by first | exact Or.inl rfl | exact Or.inr rfl) (pe_lst (pa_cons (pe_op op_catW (pe_op op_catW (pe_slice sl_tupW (pv 1) po_none (po_some (pv 3))) (pe_tup (pa_cons (pv 2) pa_nil))) (pe_slice sl_tupW (pv 1) (po_some (pe_op op_add (pv 3) pe_int)) po_none)) pa_nil)))
      (pss_cons (ps_expr (pe_bm PySem.F.plainAttrs_list PySem.F.slot_list_append PySem.F.type_list_append mt_append (pv 4) (pa_cons (pe_op op_catW (pe_slice sl_tupW (pv 1) po_none (po_some (pv 3))) (pe_slice sl_tupW (pv 1) (po_some (pe_op op_add (pv 3) pe_int)) po_none)) pa_nil)))
      (pss_cons (ps_set (i := 4) sc_law_bent_tuple.nd rfl (by first | exact Or.inl rfl | exact Or.inr rfl) (pe_op op_cat (pv 4) (pe_lst (pa_cons (pe_op op_catW (pe_slice sl_tupW (pv 1) po_none (po_some (pe_op op_add (pv 3) pe_int))) (pe_slice sl_tupW (pv 1) (po_some (pv 3)) po_none)) (pa_cons (pe_revT (pv 1)) (pa_cons (pe_callTy call_list_of (by rfl) m_list (by decide +kernel) (pa_cons (pv 1) pa_nil)) pa_nil))))))
      (pss_cons (ps_set (i := 4) sc_law_bent_tuple.nd rfl (by first | exact Or.inl rfl | exact Or.inr rfl) (pe_op op_cat (pv 4) (pe_lst (pa_cons (pe_op op_catW (pv 1) (pe_tup (pa_cons (pv 2) pa_nil))) (pa_cons (pe_op op_catW (pe_tup (pa_cons (pv 2) pa_nil)) (pv 1)) (pa_cons (pv 2) pa_nil))))))
      (pss_one (ps_ret (pe_call G__law_pick (hr.mono (by decide)) (by rfl) g__law_pick F__law_pick.kp b__law_pick .nil pass0 (pa_cons (pv 0) (pa_cons (pv 4) pa_nil)))))))))), ?_⟩
    obtain ⟨p', xs, ep, np, hpx, hx, _⟩ := hp.tup_inv
    cases ep
    have lx := hx.len
    have lpos : 0 < ds.length := List.length_pos_iff.mpr hne
    have eE : ds.isEmpty = false := by
      cases ds with
      | nil => exact absurd rfl hne
      | cons a r => rfl
    refine ⟨_, rfl, len_ok, fun e0 ne => ⟨.tuple ds, .tuple [], hp.1.same (fun b o h => upd_keep (hide_sub b o h) ne), .tup upd_same .nil, hpl, nilP.1, hdp, nilP.2, hp.2, rfl, _, rfl, ?_⟩⟩
    rw [eqv_nil, eE]
    refine iteT ⟨_, rfl, _, rfl, p, _, rfl, .inr (.inl (.inl (upd_keep hpx ne))), d, _, rfl, hD.new ne, by omega, by omega, fun at_ H1 hat hN => ?_⟩
    have pd : p ≠ d := fun z => np (by simp [z])
    have D1 : DieAt H1 d := hN.die
    have b1 : But d H H1 := ((But.refl d H).new ne).trans hN.but
    have hp1 : H1 p = some (.tup xs) := b1 _ _ pd hpx
    have x1 : VdAll [d] H1 xs ds := hx.mono (hide_but (by simp) b1)
    have o1 : Vd [d] H1 odd e := hO.mono (hide_but (by simp) b1)
    have cl : ∀ lo hi, (cutV xs lo hi).length ≤ 100 := fun lo hi => by
      have := cutV_length xs lo hi
      omega
    have sz : ∀ {n : Nat}, n ≤ 400 → n ≤ sizeLine := fun h => Nat.le_of_lt (small1000 (by omega))
    have key : ∀ {G : Hp} {ys : List V} {es : List PyData} {r : Addr}, DieAt G d → G r = some (.tup ys) → VdAll [d] G ys es → es.length ≤ 60 → Vd [d] G (.ref r) (.tuple es) := fun g h a l => Vd.tup (die_tup g h) h a l
    have c1 : cutV xs none (some (at_ : Int)) = xs.take at_ := by rw [cut_lo (by omega) (by omega)]; rfl
    have c2 : cutV xs (some ((at_ : Int) + 1)) none = xs.drop (at_ + 1) := by rw [cut_hi (by omega) (by omega)]; rfl
    have c3 : cutV xs none (some ((at_ : Int) + 1)) = xs.take (at_ + 1) := by rw [cut_lo (by omega) (by omega)]; rfl
    have c4 : cutV xs (some (at_ : Int)) none = xs.drop at_ := by rw [cut_hi (by omega) (by omega)]; rfl
    refine ⟨_, rfl, _, rfl, (at_ : Int), rfl, p, _, rfl, hp1, fun p1 H2 s2 g1 => ⟨_, rfl, len_ok, fun t1 nt1 => ⟨p1, t1, _, _, rfl, rfl, upd_keep g1 nt1, upd_same, sz (by have := cl none (some (at_ : Int)); show _ + 1 ≤ 400; omega), fun p2 H3 s3 g2 => ?_⟩⟩⟩
    have s13 : Same H1 H3 := (s2.trans (same_new (Same.refl H2) nt1)).trans s3
    refine ⟨_, rfl, _, rfl, _, _, rfl, rfl, (at_ : Int) + 1, rfl, p, _, rfl, s13 _ _ hp1, fun p3 H4 s4 g3 => ⟨p2, p3, _, _, rfl, rfl, s4 _ _ g2, g3, sz (by have := cl none (some (at_ : Int)); have := cl (some ((at_ : Int) + 1)) none; rw [List.length_append]; show (_ + 1) + _ ≤ 400; omega), fun p4 H5 s5 g4 => ⟨len_ok, fun S nS => ?_⟩⟩⟩
    have s15 : Same H1 H5 := (s13.trans s4).trans s5
    have D5 := D1.same s15
    have x5 := x1.mono (hide_same s15)
    have V4 : Vd [d] H5 (.ref p4) _ := key (es := (ds.take at_ ++ [e]) ++ ds.drop (at_ + 1)) D5 g4 (by rw [c1, c2]; exact ((x5.take at_).app (.cons (o1.mono (hide_same s15)) .nil)).app (x5.drop (at_ + 1))) (by simp; omega)
    have nSd := D5.free nS
    have hS6 : upd H5 S (.lst [.ref p4]) S = some (.lst [.ref p4]) := upd_same
    have m6 : Same (hide [d] H5) (hide [S, d] (upd H5 S (.lst [.ref p4]))) := hide_new nS
    have s6 : Same H1 (upd H5 S (.lst [.ref p4])) := s15.trans (same_new (Same.refl H5) nS)
    have x6 := x5.mono m6
    have o6 := (o1.mono (hide_same s15)).mono m6
    have V46 := V4.mono m6
    show tSeq _ _ _ [_, _, _, some (.int (at_ : Int)), some (.ref S)] (upd H5 S (.lst [.ref p4]))
    generalize upd H5 S (.lst [.ref p4]) = H6 at hS6 s6 x6 o6 V46
    clear V4 x5 m6
    refine ⟨_, rfl, .inl ⟨rfl, _, .inl (.inl hS6)⟩, _, rfl, _, rfl, (at_ : Int), rfl, p, _, rfl, s6 _ _ hp1, fun p5 H7 s7 g5 => ⟨_, rfl, _, rfl, _, _, rfl, rfl, (at_ : Int) + 1, rfl, p, _, rfl, s7 _ _ (s6 _ _ hp1), fun p6 H8 s8 g6 => ⟨p5, p6, _, _, rfl, rfl, s8 _ _ g5, g6, sz (by have := cl none (some (at_ : Int)); have := cl (some ((at_ : Int) + 1)) none; omega), fun p7 H9 s9 g7 => ?_⟩⟩⟩
    have s69 : Same H6 H9 := (s7.trans s8).trans s9
    have hS9 : H9 S = some (.lst [.ref p4]) := s69 _ _ hS6
    have D9 := (D1.same s6).same s69
    have x9 := x6.mono (hide_same s69)
    have p7S : p7 ≠ S := fun z => by
      rw [z, hS9] at g7
      cases g7
    have V7 : Vd [S, d] H9 (.ref p7) _ := Vd.tup (es := ds.take at_ ++ ds.drop (at_ + 1)) (by simp [p7S]; exact fun z => die_tup D9 g7 (by simp [z])) g7 (by rw [c1, c2]; exact (x9.take at_).app (x9.drop (at_ + 1))) (by simp; omega)
    refine ⟨S, _, _, rfl, rfl, hS9, small1000 (Nat.le_of_ble_eq_true rfl), ?_⟩
    have hSA : upd H9 S (.lst ([.ref p4] ++ [.ref p7])) S = some (.lst [.ref p4, .ref p7]) := upd_same
    have mA : Same (hide [S, d] H9) (hide [d] (upd H9 S (.lst ([.ref p4] ++ [.ref p7])))) := hide_upd.trans hide_tail
    have xA := x9.mono mA
    have oA := (o6.mono (hide_same s69)).mono mA
    have V4A := (V46.mono (hide_same s69)).mono mA
    have V7A := V7.mono mA
    have DA : DieAt (upd H9 S (.lst ([.ref p4] ++ [.ref p7]))) d := D9.put nSd
    have pS : p ≠ S := fun z => by
      rw [← z, s15 _ _ hp1] at nS
      cases nS
    have hpA : upd H9 S (.lst ([.ref p4] ++ [.ref p7])) p = some (.tup xs) := (upd_ne pS).trans (s69 _ _ (s6 _ _ hp1))
    have bA : But d H (upd H9 S (.lst ([.ref p4] ++ [.ref p7]))) := by
      refine ((b1.same (s6.trans s69))).put ?_
      exact b1.free nSd (s15.free nS)
    generalize upd H9 S (.lst ([.ref p4] ++ [.ref p7])) = HA at hSA xA oA V4A V7A DA hpA bA
    refine ⟨_, rfl, _, rfl, _, rfl, _, _, rfl, rfl, (at_ : Int) + 1, rfl, p, _, rfl, hpA, fun a1 I1 r1 y1 => ⟨_, rfl, _, rfl, (at_ : Int), rfl, p, _, rfl, r1 _ _ hpA, fun a2 I2 r2 y2 => ⟨a1, a2, _, _, rfl, rfl, r2 _ _ y1, y2, sz (by have := cl none (some ((at_ : Int) + 1)); have := cl (some (at_ : Int)) none; omega), fun a3 I3 r3 y3 => ?_⟩⟩⟩
    have rA3 : Same HA I3 := (r1.trans r2).trans r3
    have D3 := DA.same rA3
    have x3 := xA.mono (hide_same rA3)
    have V3 : Vd [d] I3 (.ref a3) _ := key (es := ds.take (at_ + 1) ++ ds.drop at_) D3 y3 (by rw [c3, c4]; exact (x3.take (at_ + 1)).app (x3.drop at_)) (by simp; omega)
    refine ⟨_, rfl, p, _, rfl, .inl (.inl (rA3 _ _ hpA)), fun a4 m4 => ⟨_, rfl, p, _, rfl, .inr (.inl (.inl (upd_keep (rA3 _ _ hpA) m4))), fun a5 m5 => ⟨len_ok, fun M mM => ?_⟩⟩⟩
    have r4 := same_new (Same.refl I3) m4 (o := .tup xs.reverse)
    have r5 := same_new (Same.refl _) m5 (o := .lst xs)
    have r6 := same_new (Same.refl _) mM (o := .lst [.ref a3, .ref a4, .ref a5])
    have V4b : Vd [d] _ (.ref a4) _ := key (es := ds.reverse) (D3.same r4) upd_same ((x3.mono (hide_same r4)).rev) (by simp; omega)
    have V5b : Vd [d] _ (.ref a5) _ := Vd.lst (es := ds) (fun z => ((D3.same r4).free m5) (by simpa using z)) upd_same (((x3.mono (hide_same r4))).mono (hide_same r5)) (by omega)
    have V3' := ((V3.mono (hide_same r4)).mono (hide_same r5)).mono (hide_same r6)
    have V4' := (V4b.mono (hide_same r5)).mono (hide_same r6)
    have V5' := V5b.mono (hide_same r6)
    have rM : Same HA (upd (upd (upd I3 a4 (.tup xs.reverse)) a5 (.lst xs)) M (.lst [.ref a3, .ref a4, .ref a5])) := ((rA3.trans r4).trans r5).trans r6
    refine ⟨S, M, _, _, rfl, rfl, rM _ _ hSA, upd_same, Nat.le_of_lt (small1000 (Nat.le_of_ble_eq_true rfl)), fun S2 nS2 => ?_⟩
    generalize upd (upd (upd I3 a4 (.tup xs.reverse)) a5 (.lst xs)) M (.lst [.ref a3, .ref a4, .ref a5]) = HB at V3' V4' V5' rM nS2
    have rS2 : Same HB (upd HB S2 (.lst ([.ref p4, .ref p7] ++ [.ref a3, .ref a4, .ref a5]))) := same_new (Same.refl HB) nS2
    have hS2 : upd HB S2 (.lst ([.ref p4, .ref p7] ++ [.ref a3, .ref a4, .ref a5])) S2 = some (.lst [.ref p4, .ref p7, .ref a3, .ref a4, .ref a5]) := upd_same
    have rC : Same HA (upd HB S2 (.lst ([.ref p4, .ref p7] ++ [.ref a3, .ref a4, .ref a5]))) := rM.trans rS2
    show tSeq _ _ _ [_, _, _, _, some (.ref S2)] (upd HB S2 (.lst ([.ref p4, .ref p7] ++ [.ref a3, .ref a4, .ref a5])))
    generalize upd HB S2 (.lst ([.ref p4, .ref p7] ++ [.ref a3, .ref a4, .ref a5])) = HC at rS2 hS2 rC
    have hpC := rC _ _ hpA
    refine ⟨_, rfl, _, rfl, _, rfl, len_ok, fun t2 nt2 => ⟨p, t2, _, _, rfl, rfl, upd_keep hpC nt2, upd_same, sz (by show _ + 1 ≤ 400; omega), fun b2 J1 u1 z1 => ?_⟩⟩
    have uJ1 : Same HC J1 := (same_new (Same.refl HC) nt2).trans u1
    refine ⟨_, rfl, len_ok, fun t3 nt3 => ⟨_, rfl, t3, p, _, _, rfl, rfl, upd_same, upd_keep (uJ1 _ _ hpC) nt3, sz (by show 1 + _ ≤ 400; omega), fun b3 J2 u2 z2 => ⟨_, rfl, len_ok, fun M2 nM2 => ?_⟩⟩⟩
    have u12 : Same J1 J2 := (same_new (Same.refl J1) nt3).trans u2
    have uJ2 : Same HC J2 := uJ1.trans u12
    have uM : Same HC (upd J2 M2 (.lst [.ref b2, .ref b3, odd])) := same_new uJ2 nM2
    have DC := DA.same rC
    have xC := xA.mono (hide_same rC)
    have oC := oA.mono (hide_same rC)
    have Vb1 : Vd [d] J1 (.ref b2) _ := key (es := ds ++ [e]) (DC.same uJ1) z1 ((xC.mono (hide_same uJ1)).app (.cons (oC.mono (hide_same uJ1)) .nil)) (by simp; omega)
    have Vb2 : Vd [d] J2 (.ref b3) _ := key (es := [e] ++ ds) (DC.same uJ2) z2 (VdAll.app (.cons (oC.mono (hide_same uJ2)) .nil) (xC.mono (hide_same uJ2))) (by simp; omega)
    have v12 : Same J1 (upd J2 M2 (.lst [.ref b2, .ref b3, odd])) := same_new u12 nM2
    have v22 : Same J2 (upd J2 M2 (.lst [.ref b2, .ref b3, odd])) := same_new (Same.refl J2) nM2
    refine ⟨S2, M2, _, _, rfl, rfl, uM _ _ hS2, upd_same, Nat.le_of_lt (small1000 (Nat.le_of_ble_eq_true rfl)), fun S3 nS3 => ?_⟩
    generalize upd J2 M2 (.lst [.ref b2, .ref b3, odd]) = HD at uM v12 v22 nS3
    have uS3 : Same HD (upd HD S3 (.lst ([.ref p4, .ref p7, .ref a3, .ref a4, .ref a5] ++ [.ref b2, .ref b3, odd]))) := same_new (Same.refl HD) nS3
    have hDD : DieAt HD d := DC.same uM
    refine ⟨_, rfl, _, rfl, d, hDD.new nS3, .inl ⟨S3, _, rfl, hDD.free nS3, .inl (.inl (.inl upd_same)), List.cons_ne_nil _ _, Nat.lt_of_le_of_lt (Nat.le_of_ble_eq_true (show Nat.ble _ 1000 = true from rfl)) (by decide), fun j v H' hj hN' => ?_⟩⟩
    suffices hs : ∃ e', Vd [d] HD v e' by
      obtain ⟨e', he⟩ := hs
      exact q v e' H' ((he.mono (hide_same uS3)).mono (hide_but (by simp) hN'.but)) (((bA.same rC).same (uM.trans uS3)).trans hN'.but) hN'.die
    have hm := List.mem_of_getElem? hj
    clear hj q hN'
    revert v
    have mC := hide_same (S := [d]) (rC.trans uM)
    have mB := hide_same (S := [d]) (rS2.trans uM)
    exact all_cons ⟨_, V4A.mono mC⟩ (all_cons ⟨_, V7A.mono mC⟩ (all_cons ⟨_, V3'.mono mB⟩ (all_cons ⟨_, V4'.mono mB⟩ (all_cons ⟨_, V5'.mono mB⟩ (all_cons ⟨_, Vb1.mono (hide_same v12)⟩ (all_cons ⟨_, Vb2.mono (hide_same v22)⟩ (all_cons ⟨_, oC.mono (hide_same uM)⟩ all_nil)))))))
end
end My

namespace My
open PySem PySem.Spec PyProof.Rows L2 Sh Dt
open Eo (FnG pe_callG fnG_ok)
theorem passC0 (X : Cx) : Passes CX0 X E0 := fun _ _ _ _ _ _ _ h => h.elim
/-! ### the weight of moves -/
structure gp (d : PyData) (W : Nat) : Prop where
  sh : d.showable = true
  ih : PyData.intsShort 13 d = true
  wt : d.weight ≤ W
theorem gp.mono {d : PyData} {W V : Nat} (h : gp d W) (l : W ≤ V) : gp d V := ⟨h.sh, h.ih, Nat.le_trans h.wt l⟩
theorem gp_all {W : Nat} : ∀ {ds : List PyData}, (∀ d ∈ ds, gp d W) → PyData.showableAll ds = true ∧ PyData.intsShortAll 13 ds = true ∧ PyData.weightAll ds ≤ ds.length * (W + 1)
  | [], _ => ⟨by simp [PyData.showableAll], by simp [PyData.intsShortAll], by simp [PyData.weightAll]⟩
  | d :: r, h => by
    have h1 := h d List.mem_cons_self
    have h2 := gp_all fun x hx => h x (List.mem_cons_of_mem _ hx)
    refine ⟨by simp [PyData.showableAll, h1.sh, h2.1], by simp [PyData.intsShortAll, h1.ih, h2.2.1], ?_⟩
    have a1 := h1.wt
    have a2 := h2.2.2
    simp only [PyData.weightAll, List.length_cons, Nat.add_mul, Nat.one_mul]
    simp only [Nat.mul_add] at a2 ⊢
    omega
theorem gp_tuple {W : Nat} {ds : List PyData} (h : ∀ d ∈ ds, gp d W) : gp (.tuple ds) (ds.length * (W + 1)) := by
  have := gp_all h
  exact ⟨by simp only [PyData.showable]; exact this.1, by simp only [PyData.intsShort]; exact this.2.1, by simp only [PyData.weight]; exact this.2.2⟩
theorem gp_tuple' {W n V : Nat} {ds : List PyData} (h : ∀ d ∈ ds, gp d W) (l : ds.length ≤ n) (m : n * (W + 1) ≤ V) : gp (.tuple ds) V := (gp_tuple h).mono (Nat.le_trans (Nat.mul_le_mul_right _ l) m)
theorem gp_int {i : Int} (h0 : 0 ≤ i) (h1 : i < 100) : gp (.int i) 8 := by
  refine ⟨?_, ?_, ?_⟩
  · simp only [PyData.showable, decide_eq_true_iff]
    have := Nat.log2_le_self i.natAbs
    omega
  · simp only [PyData.intsShort, decide_eq_true_iff]
    exact PyData.shown_int_le (by omega)
  · simp only [PyData.weight]
    split
    · omega
    · have : i.natAbs.log2 < 7 := (Nat.log2_lt (by
        intro z
        rename_i e
        apply e
        have : i = 0 := by omega
        subst this
        rfl)).mpr (by omega)
      omega
theorem gp_num {n : Int} {d : PyData} (hn : n ≤ 100) (h : isNum n d = true) : gp d 8 := by
  cases d with
  | int i =>
    have h : (decide (0 ≤ i) && decide (i < n)) = true := h
    rw [Bool.and_eq_true, decide_eq_true_iff, decide_eq_true_iff] at h
    exact gp_int h.1 (by omega)
  | _ => exact absurd h (by intro z; cases z)
theorem gp_str {z : Str} {W : Nat} (h : z.length ≤ W) (s : PyData.strOk z = true) : gp (.str z) W := ⟨by simp only [PyData.showable] <;> exact s, by simp only [PyData.intsShort], by simp only [PyData.weight]; exact h⟩
theorem gp_set {n : Int} {d : PyData} (hn : n ≤ 100) (h : isSet n d = true) (s : sm d = true) : gp d 540 := by
  cases d with
  | tuple ds =>
    have h : (!ds.isEmpty && ds.all (isNum n) && asc ltI (ds.map intOf)) = true := h
    rw [Bool.and_eq_true, Bool.and_eq_true] at h
    exact gp_tuple' (W := 8) (n := 60) (fun d hd => gp_num hn (List.all_eq_true.mp h.1.2 d hd)) (sm_tup.mp s).1 (by decide)
  | _ => exact absurd h (by intro z; cases z)
theorem gp_pair {n : Int} {d : PyData} (hn : n ≤ 100) (h : isPair n d = true) : gp d 18 := by
  match d, h with
  | .tuple [a, b], h =>
    have h : (isNum n a && isNum n b) = true := h
    rw [Bool.and_eq_true] at h
    refine gp_tuple' (W := 8) (n := 2) (fun d hd => ?_) (by simp) (by decide)
    simp at hd
    rcases hd with rfl | rfl
    · exact gp_num hn h.1
    · exact gp_num hn h.2
theorem gp_pairs {n : Int} {d : PyData} (hn : n ≤ 100) (h : isPairs n d = true) (s : sm d = true) : gp d 1140 := by
  cases d with
  | tuple ds =>
    have h : (!ds.isEmpty && ds.all (isPair n) && asc HT.lexLt (ds.map rowOf)) = true := h
    rw [Bool.and_eq_true, Bool.and_eq_true] at h
    exact gp_tuple' (W := 18) (n := 60) (fun d hd => gp_pair hn (List.all_eq_true.mp h.1.2 d hd)) (sm_tup.mp s).1 (by decide)
  | _ => exact absurd h (by intro z; cases z)
theorem gp_sm {z : Str} (s : sm (.str z) = true) : gp (.str z) 1140 := by
  simp only [sm, Bool.and_eq_true, decide_eq_true_iff] at s
  exact gp_str (by omega) s.2
theorem gp_move {p n : Int} {d : PyData} (hp : p ≤ 100) (hn : n ≤ 100) (h : isMove p n d = true) (s : sm d = true) : gp d 5705 := by
  match d, h with
  | .tuple (w :: a :: x :: r), h =>
    obtain ⟨_, s⟩ := sm_tup.mp s
    have sw := s w (by simp)
    simp only [isMove, Bool.and_eq_true] at h
    obtain ⟨ha, h⟩ := h
    have p0 := (gp_num hp ha).mono (show 8 ≤ 1140 by omega)
    by_cases e1 : PyData.eqv w (.str "leave") = true
    · rw [if_pos e1, Bool.and_eq_true] at h
      obtain ⟨y, rfl⟩ := eqv_strR e1
      have hr : r = [] := by simpa using h.1
      subst hr
      refine gp_tuple' (W := 1140) (n := 5) (fun d hd => ?_) (by simp) (by decide)
      simp at hd
      rcases hd with rfl | rfl | rfl
      · exact gp_sm sw
      · exact p0
      · exact (gp_set hn h.2 (s _ (by simp))).mono (by omega)
    · rw [if_neg e1, Bool.and_eq_true] at h
      obtain ⟨hx, h⟩ := h
      have p1 := (gp_num hp hx).mono (show 8 ≤ 1140 by omega)
      by_cases e2 : PyData.eqv w (.str "go") = true
      · rw [if_pos e2] at h
        obtain ⟨y, rfl⟩ := eqv_strR e2
        match r, h with
        | [y], h =>
          refine gp_tuple' (W := 1140) (n := 5) (fun d hd => ?_) (by simp) (by decide)
          simp at hd
          rcases hd with rfl | rfl | rfl | rfl
          · exact gp_sm sw
          · exact p0
          · exact p1
          · exact gp_pairs hn h (s _ (by simp))
      · rw [if_neg e2, Bool.and_eq_true] at h
        obtain ⟨hw, h⟩ := h
        obtain ⟨y, rfl⟩ := in_str hw
        match r, h with
        | [y, z], h =>
          rw [Bool.and_eq_true] at h
          have sy := s y (by simp)
          refine gp_tuple' (W := 1140) (n := 5) (fun d hd => ?_) (by simp) (by decide)
          simp at hd
          rcases hd with rfl | rfl | rfl | rfl | rfl
          · exact gp_sm sw
          · exact p0
          · exact p1
          · cases d with
            | str t => exact gp_sm sy
            | _ => exact absurd h.1 (by simp [nameD])
          · exact (gp_set hn h.2 (s _ (by simp))).mono (by omega)
/-- what is told of a procedure can be shown -/
theorem rl_band {z : Str} {p : Int} {ms rest : List PyData} (g : Good z p ms) (sz : sm (.str z) = true) (sms : sm (.tuple ms) = true) (hr : ∀ d ∈ rest, pl 4 d ∧ gp d 70000 ∧ sm d = true) (l : rest.length ≤ 5) : Rl (([.str z, .int p, .tuple ms] : List PyData) ++ rest) := by
  have gm := g.moves
  have gl := g.lo
  have gh := g.hi
  have e := gm
  unfold areMoves at e
  rw [Bool.and_eq_true, decide_eq_true_iff] at e
  have all : ∀ d ∈ (([.str z, .int p, .tuple ms] : List PyData) ++ rest), pl 4 d ∧ gp d 70000 ∧ sm d = true := fun d hd => by
    rcases List.mem_append.mp hd with hd | hd
    · simp at hd
      rcases hd with rfl | rfl | rfl
      · exact ⟨(pl_str z).mono (by omega), (gp_sm sz).mono (by omega), sz⟩
      · exact ⟨⟨rfl, by simp [PyData.depth]⟩, (gp_int (by omega) (by omega)).mono (by omega), rfl⟩
      · exact ⟨pl_moves gm, gp_tuple' (W := 5705) (n := 12) (fun d hd => gp_move (by omega) (by decide) (List.all_eq_true.mp e.2 d hd) ((sm_tup.mp sms).2 d hd)) e.1 (by decide), sms⟩
    · exact hr d hd
  have a1 := pl_tup fun d hd => (all d hd).1
  have a2 := gp_all fun d hd => (all d hd).2.1
  refine ⟨a1.1, smAll_mem.mpr fun d hd => (all d hd).2.2, a2.1, by omega, a2.2.1, Nat.le_trans a2.2.2 ?_⟩
  have : (([.str z, .int p, .tuple ms] : List PyData) ++ rest).length ≤ 8 := by simp; omega
  exact Nat.le_trans (Nat.mul_le_mul_right _ this) (by decide)
theorem pl_mem {k : Nat} : ∀ {ds : List PyData} {d : PyData}, PyData.plainAll ds = true → PyData.depthAll ds ≤ k → d ∈ ds → pl k d
  | [], _, _, _, h => nomatch h
  | x :: r, d, h1, h2, h => by
    simp only [PyData.plainAll, Bool.and_eq_true] at h1
    simp only [PyData.depthAll] at h2
    rcases List.mem_cons.mp h with rfl | h
    · exact ⟨h1.1, Nat.le_trans (Nat.le_max_left _ _) h2⟩
    · exact pl_mem h1.2 (Nat.le_trans (Nat.le_max_right _ _) h2) h
def spBentMove : Sp := fun vs H Q _ => ∃ d p ds, vs = [.ref d, .ref p] ∧ DieAt H d ∧ Vd [d] H (.ref p) (.tuple ds) ∧ (∃ pn, Mv pn ds) ∧ ∀ v e H', Vd [d] H' v e → But d H H' → DieAt H' d → Q v H'
def spDue : Sp := fun vs H Q _ => ∃ c pt mv dc dp dm, vs = [c, pt, mv] ∧ D H c dc ∧ D H pt dp ∧ D H mv dm ∧ sm dc = true ∧ sm dp = true ∧ sm dm = true ∧ ∀ H', Same H H' → Q (.bl (due dc dp dm)) H'
def spAs (C : Addr) : Sp := fun vs H Q _ => ∃ a B xs z p ms, vs = [.ref a, .ref B] ∧ Pr C H a z p ms ∧ H B = some (.lst xs) ∧ DAll H xs [.str z, .int p, .tuple ms] ∧ sm (.str z) = true ∧ sm (.tuple ms) = true ∧ ∀ H', Same H H' → Q (.bl true) H'
abbrev s_law_is_due : Stmt := topS 39
abbrev Nlaw_is_due : List Str := ["called", "points", "moves", "move"]
theorem sc_law_is_due : FnScope Nlaw_is_due ["called", "points", "moves"] (defScope s_law_is_due) := ⟨rfl, rfl, rfl, by decide +kernel, rfl, by decide +kernel, by decide +kernel⟩
abbrev s_law_is_as : Stmt := topS 40
abbrev Nlaw_is_as : List Str := ["made", "band"]
theorem sc_law_is_as : FnScope Nlaw_is_as ["made", "band"] (defScope s_law_is_as) := ⟨rfl, rfl, rfl, by decide +kernel, rfl, by decide +kernel, by decide +kernel⟩
section
variable {P : Program} {w : World} {K : PySem.W.Frag} {mg : Str → Option Value} {base : Heap} {C Ce fI fO pO fE fL fS p1 g1 p2 g2 p3 g3 : Addr} {mc : Value}
theorem ok_bent_move {f f__law_cast f__law_odd_one f__law_bent_tuple : Addr} {fd fd__law_cast fd__law_odd_one fd__law_bent_tuple : FuncData} (F : Fun K "_law_bent_move" "_law_bent_move" s_law_bent_move f fd) (G__law_cast : FnOk P w K mg base CX0 1 f__law_cast fd__law_cast ["die", "total"] spCast) (F__law_cast : Fun K "_law_cast" "_law_cast" s_law_cast f__law_cast fd__law_cast) (b__law_cast : Binds K fd__law_cast ["die", "total"] []) (g__law_cast : mg "_law_cast" = some (.ref f__law_cast))(G__law_odd_one : FnOk P w K mg base CX0 3 f__law_odd_one fd__law_odd_one ["die"] spOddV) (F__law_odd_one : Fun K "_law_odd_one" "_law_odd_one" s_law_odd_one f__law_odd_one fd__law_odd_one) (b__law_odd_one : Binds K fd__law_odd_one ["die"] []) (g__law_odd_one : mg "_law_odd_one" = some (.ref f__law_odd_one))(G__law_bent_tuple : FnOk P w K mg base CX0 3 f__law_bent_tuple fd__law_bent_tuple ["die", "items", "odd"] spBent) (F__law_bent_tuple : Fun K "_law_bent_tuple" "_law_bent_tuple" s_law_bent_tuple f__law_bent_tuple fd__law_bent_tuple) (b__law_bent_tuple : Binds K fd__law_bent_tuple ["die", "items", "odd"] []) (g__law_bent_tuple : mg "_law_bent_tuple" = some (.ref f__law_bent_tuple))(m_isinstance : mg "isinstance" = none) (m_tuple : mg "tuple" = none) (m_len : mg "len" = none) :
    FnOk P w K mg base CX0 4 f fd ["die", "move"] spBentMove := by
  refine F.ok sc_law_bent_move (fun vs H Q E h => ?_) (fun cdv A outer s H vs Q E hr h => ?_)
  · obtain ⟨d, p, ds, rfl, _⟩ := h
    rfl
  · obtain ⟨d, p, ds, rfl, hD, hp, ⟨pn, M⟩, q⟩ := h
    refine ⟨_, (pss_cons (ps_par (i := 2) (j := 3) rfl sc_law_bent_move.nd rfl rfl (by decide) rfl rfl (pa_cons (pe_call G__law_cast (hr.mono (by decide)) (by rfl) g__law_cast F__law_cast.kp b__law_cast .nil pass0 (pa_cons (pv 0) (pa_cons (pe_callB call_len_seq (by rfl) m_len (by decide +kernel) (pa_cons (pv 1) pa_nil)) pa_nil))) (pa_cons (pe_call G__law_odd_one (hr.mono (by decide)) (by rfl) g__law_odd_one F__law_odd_one.kp b__law_odd_one .nil pass0 (pa_cons (pv 0) pa_nil)) pa_nil)) rfl)
      (pss_cons (ps_if (PW.pt (pw_and (pt_val (pe_callB call_isD (by rfl) m_isinstance (by decide +kernel) (pa_cons (pe_ix ix_tup (pv 1) (pv 2) (fun _ _ => rfl)) (pa_cons (pe_bltn (v := .ty "tuple") (by rfl) m_tuple (by decide +kernel) rfl) pa_nil)))) (pw_and1 (pt_cmpR op_eq (pe_call G__law_cast (hr.mono (by decide)) (by rfl) g__law_cast F__law_cast.kp b__law_cast .nil pass0 (pa_cons (pv 0) (pa_cons pe_int pa_nil))) pe_int (nomark _)))))
        (pss_cons (ps_set (i := 4) sc_law_bent_move.nd rfl (by first | exact Or.inl rfl | exact Or.inr rfl) (pe_call G__law_bent_tuple (hr.mono (by decide)) (by rfl) g__law_bent_tuple F__law_bent_tuple.kp b__law_bent_tuple .nil pass0 (pa_cons (pv 0) (pa_cons (pe_ix ix_tup (pv 1) (pv 2) (fun _ _ => rfl)) (pa_cons (pv 3) pa_nil)))))
        (pss_one (ps_ret (pe_op op_catW (pe_op op_catW (pe_slice sl_tupW (pv 1) po_none (po_some (pv 2))) (pe_tup (pa_cons (pv 4) pa_nil))) (pe_slice sl_tupW (pv 1) (po_some (pe_op op_add (pv 2) pe_int)) po_none)))))
        pss_nil)
      (pss_one (ps_ret (pe_call G__law_bent_tuple (hr.mono (by decide)) (by rfl) g__law_bent_tuple F__law_bent_tuple.kp b__law_bent_tuple .nil pass0 (pa_cons (pv 0) (pa_cons (pv 1) (pa_cons (pv 3) pa_nil)))))))), ?_⟩
    obtain ⟨p', xs, ep, np, hpx, hx, _⟩ := hp.tup_inv
    cases ep
    have lx := hx.len
    have lo := M.lo
    have hi := M.hi
    have pd : p ≠ d := fun z => np (by simp [z])
    have plm := pl_move M.ok
    refine ⟨_, rfl, _, rfl, p, xs, rfl, .inr (.inl (.inl hpx)), d, _, rfl, hD, by omega, by omega, fun at_ H1 hat N1 => ⟨_, rfl, d, rfl, N1.die, fun odd e H2 o2 b2' d2 => ⟨_, _, rfl, ?_⟩⟩⟩
    have b2 : But d H H2 := N1.but.trans b2'
    have hat2 : at_ < xs.length := by omega
    have hv : xs[at_]? = some xs[at_] := List.getElem?_eq_getElem hat2
    obtain ⟨dv, hdi, vd⟩ := hx.get hv
    have hp2 := b2 _ _ pd hpx
    have vd2 := vd.mono (hide_but (S := [d]) (by simp) b2)
    have hpv2 := hp.mono (hide_but (S := [d]) (by simp) b2)
    have fin : ∀ (H3 : Hp), But d H H3 → DieAt H3 d → H3 p = some (.tup xs) → Vd [d] H3 (.ref p) (.tuple ds) → Vd [d] H3 odd e → spBent [.ref d, .ref p, odd] H3 Q E0 := fun H3 b3 d3 _ hv3 ho3 => ⟨d, p, odd, ds, e, rfl, d3, hv3, fun z => by rw [z] at lo; simp at lo, by omega, plm.1, Nat.le_trans plm.2 (by omega), ho3, fun v e' H' hv b' d' => q v e' H' hv (b3.trans b') d'⟩
    refine ⟨_, rfl, _, rfl, p, xs, _, _, rfl, rfl, .inl (.inl hp2), atI_nat hv, _, dv, _, _, rfl, vd2.d, kT dv, _, rfl, ite2 (fun e1 => ?_) (fun e1 => ?_)⟩
    · refine ⟨_, rfl, d, 2, rfl, d2, by decide, by decide, fun r H3 hr3 N3 => ⟨rfl, _, rfl, ite2 (fun e2 => ?_) (fun e2 => ?_)⟩⟩
      · have b3 := b2.trans N3.but
        have hp3 := b3 _ _ pd hpx
        cases dv with
        | tuple es =>
          obtain ⟨qa, ys, eq, nq, hq, hys, _⟩ := vd2.tup_inv
          have hin := M.inn es (List.mem_of_getElem? hdi)
          have pe : pl 2 (.tuple es) := by
            have h1 := plm.1
            have h2 := plm.2
            simp only [PyData.plain] at h1
            simp only [PyData.depth] at h2
            exact pl_mem h1 (by omega) (List.mem_of_getElem? hdi)
          have vd3 := vd2.mono (hide_but (S := [d]) (by simp) N3.but)
          refine ⟨_, rfl, _, rfl, _, rfl, p, xs, _, _, rfl, rfl, .inl (.inl hp3), atI_nat hv, _, rfl, ?_⟩
          rw [eq] at vd3 ⊢
          refine ⟨d, qa, odd, es, e, rfl, N3.die, vd3, hin.1, by omega, pe.1, Nat.le_trans pe.2 (by omega), o2.mono (hide_but (S := [d]) (by simp) N3.but), fun v e' H4 hv4 b4 d4 => ?_⟩
          have b14 := b3.trans b4
          have hp4 := b14 _ _ pd hpx
          have x4 := hx.mono (hide_but (S := [d]) (by simp) b14)
          have cl : ∀ lo hi, (cutV xs lo hi).length ≤ 100 := fun lo hi => by
            have := cutV_length xs lo hi
            omega
          have sz : ∀ {n : Nat}, n ≤ 400 → n ≤ sizeLine := fun h => Nat.le_of_lt (small1000 (by omega))
          have c1 : cutV xs none (some (at_ : Int)) = xs.take at_ := by rw [cut_lo (by omega) (by omega)]; rfl
          have c2 : cutV xs (some ((at_ : Int) + 1)) none = xs.drop (at_ + 1) := by rw [cut_hi (by omega) (by omega)]; rfl
          refine ⟨_, rfl, _, rfl, (at_ : Int), rfl, p, _, rfl, hp4, fun p1 H5 s5 g5 => ⟨_, rfl, len_ok, fun t1 nt1 => ⟨p1, t1, _, _, rfl, rfl, upd_keep g5 nt1, upd_same, sz (by have := cl none (some (at_ : Int)); show _ + 1 ≤ 400; omega), fun p2 H6 s6 g6 => ?_⟩⟩⟩
          have s46 : Same H4 H6 := (s5.trans (same_new (Same.refl H5) nt1)).trans s6
          refine ⟨_, rfl, _, rfl, _, _, rfl, rfl, (at_ : Int) + 1, rfl, p, _, rfl, s46 _ _ hp4, fun p3 H7 s7 g7 => ⟨p2, p3, _, _, rfl, rfl, s7 _ _ g6, g7, sz (by have := cl none (some (at_ : Int)); have := cl (some ((at_ : Int) + 1)) none; rw [List.length_append]; show (_ + 1) + _ ≤ 400; omega), fun p4 H8 s8 g8 => ?_⟩⟩
          have s48 : Same H4 H8 := (s46.trans s7).trans s8
          have x8 := x4.mono (hide_same s48)
          have d8 := d4.same s48
          exact q _ (.tuple ((ds.take at_ ++ [e']) ++ ds.drop (at_ + 1))) H8 (Vd.tup (die_tup d8 g8) g8 (by rw [c1, c2]; exact ((x8.take at_).app (.cons (hv4.mono (hide_same s48)) .nil)).app (x8.drop (at_ + 1))) (by simp; omega)) (b14.same s48) d8
        | _ => exact absurd e1 (by intro z; cases z)
      · exact ⟨_, rfl, _, rfl, _, rfl, fin H3 (b2.trans N3.but) N3.die ((b2.trans N3.but) _ _ pd hpx) (hpv2.mono (hide_but (S := [d]) (by simp) N3.but)) (o2.mono (hide_but (S := [d]) (by simp) N3.but))⟩
    · exact ⟨_, rfl, _, rfl, _, rfl, fin H2 b2 d2 hp2 hpv2 o2⟩
end
end My

namespace My
open PySem PySem.Spec PyProof.Rows L2 Sh Dt
open Eo (FnG pe_callG fnG_ok)
section
variable {P : Program} {w : World} {K : PySem.W.Frag} {mg : Str → Option Value} {base : Heap} {C Ce fI fO pO fE fL fS p1 g1 p2 g2 p3 g3 : Addr} {mc : Value}
theorem ok_is_due {f f__law_is_word f__law_is_number f__law_is_step : Addr} {fd fd__law_is_word fd__law_is_number fd__law_is_step : FuncData} (F : Fun K "_law_is_due" "_law_is_due" s_law_is_due f fd) (G__law_is_word : FnOk P w K mg base CX0 1 f__law_is_word fd__law_is_word ["value"] spName) (F__law_is_word : Fun K "_law_is_word" "_law_is_word" s_law_is_word f__law_is_word fd__law_is_word) (b__law_is_word : Binds K fd__law_is_word ["value"] []) (g__law_is_word : mg "_law_is_word" = some (.ref f__law_is_word))(G__law_is_number : FnOk P w K mg base CX0 1 f__law_is_number fd__law_is_number ["value", "total"] (spOn1 isNum)) (F__law_is_number : Fun K "_law_is_number" "_law_is_number" s_law_is_number f__law_is_number fd__law_is_number) (b__law_is_number : Binds K fd__law_is_number ["value", "total"] []) (g__law_is_number : mg "_law_is_number" = some (.ref f__law_is_number))(G__law_is_step : FnOk P w K mg base CX0 3 f__law_is_step fd__law_is_step ["value", "points", "total"] spMove) (F__law_is_step : Fun K "_law_is_step" "_law_is_step" s_law_is_step f__law_is_step fd__law_is_step) (b__law_is_step : Binds K fd__law_is_step ["value", "points", "total"] []) (g__law_is_step : mg "_law_is_step" = some (.ref f__law_is_step))(m_isinstance : mg "isinstance" = none) (m_tuple : mg "tuple" = none) (m_len : mg "len" = none) :
    FnOk P w K mg base CX0 4 f fd ["called", "points", "moves"] spDue := by
  refine F.ok sc_law_is_due (fun vs H Q E h => ?_) (fun cdv A outer s H vs Q E hr h => ?_)
  · obtain ⟨c, pt, mv, dc, dp, dm, rfl, _⟩ := h
    rfl
  · obtain ⟨c, pt, mv, dc, dp, dm, rfl, hc, hp, hm, s1, s2, s3, q⟩ := h
    refine ⟨_, (pss_cons (ps_if (PW.pt (pw_or (pt_not (pt_val (pe_call G__law_is_word (hr.mono (by decide)) (by rfl) g__law_is_word F__law_is_word.kp b__law_is_word .nil pass0 (pa_cons (pv 0) pa_nil)))) (pw_or (pt_not (pt_val (pe_call G__law_is_number (hr.mono (by decide)) (by rfl) g__law_is_number F__law_is_number.kp b__law_is_number .nil pass0 (pa_cons (pv 1) (pa_cons pe_int pa_nil))))) (pw_or1 (pt_cmpR op_eq (pv 1) pe_int (nomark _))))))
        (pss_one (ps_ret pe_bl))
        pss_nil)
      (pss_cons (ps_if (PW.pt (pw_or (pt_not (pt_val (pe_callB call_isD (by rfl) m_isinstance (by decide +kernel) (pa_cons (pv 2) (pa_cons (pe_bltn (v := .ty "tuple") (by rfl) m_tuple (by decide +kernel) rfl) pa_nil))))) (pw_or1 (pt_cmpR op_gt (pe_callB call_len_seq (by rfl) m_len (by decide +kernel) (pa_cons (pv 2) pa_nil)) pe_int (nomark _)))))
        (pss_one (ps_ret pe_bl))
        pss_nil)
      (pss_one (ps_ret (pe_cmpR (op_eqNil hr.units) (pe_lc (own := [("move", 3)]) (g := (gName 3)) rfl sc_law_is_due.nd (pi_tup (pv 2)) (blkOk_by (N := Nlaw_is_due) (sc := defScope s_law_is_due) (by decide +kernel))
      (fun _ _ _ _ _ => (pg_name (i := 3) sc_law_is_due.nd rfl (Or.inl rfl))) (fun _ _ _ _ _ => (pts_one (pt_not (pt_val (pe_call G__law_is_step (hr.mono (by decide)) (by rfl) g__law_is_step F__law_is_step.kp b__law_is_step .nil pass0 (pa_cons (pv 3) (pa_cons (pv 1) (pa_cons pe_int pa_nil)))))))) (fun _ _ _ _ _ => (pv 3))) (pe_lst pa_nil) (nomark _)))))), ?_⟩
    have qf : due dc dp dm = false → ∀ H', Same H H' → Q (.bl false) H' := fun e H' s => by
      have := q H' s
      rw [e] at this
      exact this
    refine ⟨_, rfl, c, rfl, jud_of hc s1, fun H1 e1 => ⟨_, rfl, ?_⟩⟩
    rw [name_of hc]
    cases n1 : nameD dc with
    | false => exact iteT (qf (by unfold due goodD; rw [n1]; simp) H1 e1)
    | true =>
    refine iteF ⟨_, rfl, _, _, dp, rfl, hp.same e1, s2, fun H2 e2' => ⟨_, rfl, ?_⟩⟩
    have e2 := e1.trans e2'
    cases n2 : isNum 7 dp with
    | false =>
      refine iteT (qf ?_ H2 e2)
      have : isNr 6 dp = false := by
        cases dp with
        | int p =>
          cases z : isNr 6 (.int p) with
          | false => rfl
          | true =>
            have z : (decide (1 ≤ p) && decide (p ≤ 6)) = true := z
            rw [Bool.and_eq_true, decide_eq_true_iff, decide_eq_true_iff] at z
            have n2 : (decide (0 ≤ p) && decide (p < 7)) = false := n2
            rw [decide_eq_true (show 0 ≤ p by omega), decide_eq_true (show p < 7 by omega)] at n2
            cases n2
        | _ => rfl
      unfold due goodD
      rw [this]
      simp
    | true =>
    cases dp with
    | int p =>
      cases hp
      have n2 : (decide (0 ≤ p) && decide (p < 7)) = true := n2
      rw [Bool.and_eq_true, decide_eq_true_iff, decide_eq_true_iff] at n2
      refine iteF ⟨_, rfl, rfl, _, rfl, ?_⟩
      by_cases e0 : p = 0
      · subst e0
        exact ifY rfl (qf (by unfold due goodD; simp [isNr]) H2 e2)
      · refine ifN (fun z => e0 (V.int.inj z)) ?_
        have nr : isNr 6 (.int p) = true := by
          show (decide (1 ≤ p) && decide (p ≤ 6)) = true
          rw [decide_eq_true (by omega), decide_eq_true (by omega)]
          rfl
        refine ⟨_, rfl, _, dm, _, _, rfl, hm.same e2, kT dm, _, rfl, ?_⟩
        cases dm with
        | tuple ms =>
          cases hm with
          | @tup t xs ms e a =>
          obtain ⟨l60, sms⟩ := sm_tup.mp s3
          have ln := a.len
          have qm : ∀ b, areMoves p 5 ms = b → ∀ H', Same H H' → Q (.bl b) H' := fun b eb H' s => by
            have := q H' s
            have e : due dc (.int p) (.tuple ms) = areMoves p 5 ms := by
              unfold due goodD
              rw [n1, nr]
              rfl
            rw [e, eb] at this
            exact this
          refine iteF ⟨_, rfl, t, xs, rfl, .inr (.inl (.inl (e2 _ _ e))), _, 12, rfl, rfl, _, rfl, ite2 (fun c1 => ?_) (fun c1 => ?_)⟩
          · have c1 := of_decide_eq_true c1
            exact qm _ (by unfold areMoves; rw [decide_eq_false (by omega)]; rfl) H2 e2
          · have c1 : ¬ (12 : Int) < ((xs.length : Nat) : Int) := fun z => c1 (decide_eq_true z)
            refine ⟨_, rfl, t, rfl, ⟨_, .inl (.inl (e2 _ _ e))⟩, fun E0 nE => lc_bad (f := isMove p 5) nE (e2 _ _ e) (a.same e2) (by omega) (fun x d1 H3 hx mem s3 N M hr => ⟨rfl, _, rfl, _, rfl, _, p, 5, d1, rfl, hx, sms d1 mem, fun H4 s4 => ⟨_, rfl, ?_⟩⟩) (fun H3 ys s3 h3 ey => ?_)⟩
            · have hr := hr H4 s4
              cases z : isMove p 5 d1 with
              | true =>
                rw [z] at hr
                exact iteF hr
              | false =>
                rw [z] at hr
                exact iteT ⟨_, rfl, hr⟩
            · refine ⟨len_ok, fun t2 nt2 => ⟨E0, t2, ys, rfl, rfl, .inl (.inl (upd_keep h3 nt2)), .inl (.inl upd_same), ?_⟩⟩
              rw [ey]
              exact qm _ (by unfold areMoves; rw [decide_eq_true (by omega)]; rfl) _ (same_new (e2.trans s3) nt2)
        | _ => exact iteT (iteT (qf rfl H2 e2))
    | _ => exact absurd n2 (by simp [isNum])
theorem ok_is_as {f : Addr} {fd : FuncData} (F : Fun K "_law_is_as" "_law_is_as" s_law_is_as f fd) (c : PcdC K mg C fI fO pO fE fL fS p1 g1 p2 g2 p3 g3 mc) {fdg1 : FuncData} (G_g1 : FnOk P w K mg base CX0 1 g1 fdg1 ["self"] (getSp C "_called")) (b_g1 : Binds K fdg1 ["self"] []) {fdg2 : FuncData} (G_g2 : FnOk P w K mg base CX0 1 g2 fdg2 ["self"] (getSp C "_points")) (b_g2 : Binds K fdg2 ["self"] []) {fdg3 : FuncData} (G_g3 : FnOk P w K mg base CX0 1 g3 fdg3 ["self"] (getSp C "_moves")) (b_g3 : Binds K fdg3 ["self"] []) (m_repr : mg "repr" = none) :
    FnG P w K mg base 3 f fd ["made", "band"] (spAs C) := by
  refine fnG_ok F sc_law_is_as (fun vs H Q E h => ?_) (fun cdv A outer s H vs Q E hg hr h => ?_)
  · obtain ⟨a, B, xs, z, p, ms, rfl, _⟩ := h
    rfl
  · obtain ⟨a, B, xs, z, p, ms, rfl, ⟨dx, t, ys, a1, a2, a3, ga⟩, hB, hxs, sz, sms, q⟩ := h
    refine ⟨_, (pss_one (ps_ret (pe_cmpR op_eq (pe_callB (call_reprD hg hr.units) (by rfl) m_repr (by decide +kernel) (pa_cons (pe_lst (pa_cons (pe_prop (pv 0) c.cls c.q1 G_g1 (hr.mono (by decide)) b_g1 .nil (passC0 _) rfl) (pa_cons (pe_prop (pv 0) c.cls c.q2 G_g2 (hr.mono (by decide)) b_g2 .nil (passC0 _) rfl) (pa_cons (pe_prop (pv 0) c.cls c.q3 G_g3 (hr.mono (by decide)) b_g3 .nil (passC0 _) rfl) pa_nil)))) pa_nil)) (pe_callB (call_reprD hg hr.units) (by rfl) m_repr (by decide +kernel) (pa_cons (pv 1) pa_nil)) (nomark _)))), ?_⟩
    have rl : Rl [.str z, .int p, .tuple ms] := rl_band ga sz sms (rest := []) (fun d hd => nomatch hd) (by simp)
    refine ⟨_, rfl, a, dx, _, rfl, a1, a, dx, _, _, rfl, a1, rfl, _, rfl, a, dx, _, rfl, a1, a, dx, _, _, rfl, a1, rfl, _, rfl, a, dx, _, rfl, a1, a, dx, _, _, rfl, a1, rfl, len_ok, fun L nL => ?_⟩
    have s1 := same_new (Same.refl H) nL (o := .lst [.str z, .int p, .ref t])
    refine ⟨L, _, [.str z, .int p, .tuple ms], rfl, upd_same, List.cons_ne_nil _ _, .cons (.str z) (.cons (.int p) (.cons (.tup (s1 _ _ a2) (a3.same s1)) .nil)), rl, ?_⟩
    have xne : xs ≠ [] := fun e => by
      subst e
      cases hxs
    have q1 := q _ s1
    refine ⟨_, rfl, B, xs, [.str z, .int p, .tuple ms], rfl, s1 _ _ hB, xne, hxs.same s1, rl, rfl, ?_⟩
    first
      | exact q1
      | (rw [decide_eq_true rfl]; exact q1)
end
end My

namespace My
open PySem PySem.Spec PyProof.Rows L2 Sh Dt
open Eo (FnG pe_callG fnG_ok)
open LamX (Tabs ExtN TabB pe_lamcall lamS_by)
open Cl (ErrC)
open Xc (ExtD spRightT spLawT tabs_but tabs_same)
abbrev s_law_right : Stmt := topS 41
abbrev Nlaw_right : List Str := ["die", "name", "points", "moves", "one", "told", "text", "turn", "odd", "at", "bent", "some", "called", "size", "other", "due", "made", "is_same"]
theorem sc_law_right : FnScope Nlaw_right ["die"] (defScope s_law_right) := ⟨rfl, rfl, rfl, by decide +kernel, rfl, by decide +kernel, by decide +kernel⟩
abbrev s_law_met : Stmt := topS 38
abbrev Nlaw_met : List Str := ["call"]
theorem sc_law_met : FnScope Nlaw_met ["call"] (defScope s_law_met) := ⟨rfl, rfl, rfl, by decide +kernel, rfl, by decide +kernel, by decide +kernel⟩
abbrev lamQ (st : Stmt) (x : Str) : Str := (envOfC x (defScope st) 0 0 .none).qual ++ "<lambda>"

/-! ### what stays beside the tables -/
def Ext0 (G G' : Hp) : Prop := ∀ b o, G b = some o → (∀ ps, o ≠ .tbl ps) → G' b = some o
theorem Ext0.of {G G' : Hp} (s : Same G G') : Ext0 G G' := fun b o e _ => s b o e
theorem Ext0.trans {G G' G2 : Hp} (a : Ext0 G G') (b : Ext0 G' G2) : Ext0 G G2 := fun c o e n => b c o (a c o e n) n
mutual
theorem D.ext {H H' : Hp} (s : Ext0 H H') : ∀ {v : V} {d : PyData}, D H v d → D H' v d
  | _, _, .non => .non
  | _, _, .bl b => .bl b
  | _, _, .int i => .int i
  | _, _, .str z => .str z
  | _, _, .lst h a => .lst (s _ _ h (fun _ z => by cases z)) (DAll.ext s a)
  | _, _, .tup h a => .tup (s _ _ h (fun _ z => by cases z)) (DAll.ext s a)
  | _, _, .dic h => .dic (s _ _ h (fun _ z => by cases z))
theorem DAll.ext {H H' : Hp} (s : Ext0 H H') : ∀ {vs : List V} {ds : List PyData}, DAll H vs ds → DAll H' vs ds
  | _, _, .nil => .nil
  | _, _, .cons h a => .cons (D.ext s h) (DAll.ext s a)
end
theorem Pr_ext {C : Addr} {H H' : Hp} {a : Addr} {z : Str} {p : Int} {ms : List PyData} (s : Ext0 H H') (h : Pr C H a z p ms) : Pr C H' a z p ms := by
  obtain ⟨dx, t, xs, h1, h2, h3, g⟩ := h
  exact ⟨dx, t, xs, s _ _ h1 (fun _ z => by cases z), s _ _ h2 (fun _ z => by cases z), DAll.ext s h3, g⟩
theorem Vd_ext {S S' : List Addr} {H H' : Hp} {v : V} {e : PyData} (h : Vd S H v e) (s : Ext0 (hide S H) (hide S' H')) : Vd S' H' v e := ⟨D.ext s h.1, h.2⟩
theorem hide_extd {d : Addr} {H H' : Hp} (h : ExtD d H H') : Ext0 (hide [d] H) (hide [d] H') := fun b o e n => by
  obtain ⟨m, e⟩ := hide_in e
  exact hide_some m (h b o (fun z => m (by simp [z])) e n)
theorem hide_none {H : Hp} : Same H (hide [] H) := fun b o e => hide_some (by simp) e
theorem Pr_hide {C : Addr} {H : Hp} {d a : Addr} {z : Str} {p : Int} {ms : List PyData} (hD : DieAt H d) (n : nlAll ms = true) (h : Pr C H a z p ms) : Pr C (hide [d] H) a z p ms := by
  obtain ⟨dx, t, xs, h1, h2, h3, g⟩ := h
  obtain ⟨x, y, u, hd⟩ := hD
  have ad : a ≠ d := fun e => by rw [e, hd] at h1; cases h1
  have td : t ≠ d := fun e => by rw [e, hd] at h2; cases h2
  exact ⟨dx, t, xs, hide_some (by simpa using ad) h1, hide_some (by simpa using td) h2, nl_hideAll hd (h3.same hide_none) n, g⟩
/-- a list of three values of data -/
def Tri (d : Addr) (G : Hp) (v : V) : Prop := ∃ B x y u ex ey eu, v = .ref B ∧ B ≠ d ∧ G B = some (.lst [x, y, u]) ∧ Vd [d] G x ex ∧ Vd [d] G y ey ∧ Vd [d] G u eu
theorem Tri.but {d : Addr} {G G' : Hp} {v : V} (b : But d G G') (h : Tri d G v) : Tri d G' v := by
  obtain ⟨B, x, y, u, ex, ey, eu, rfl, n, e, h1, h2, h3⟩ := h
  exact ⟨B, x, y, u, ex, ey, eu, rfl, n, b _ _ n e, h1.mono (hide_but (by simp) b), h2.mono (hide_but (by simp) b), h3.mono (hide_but (by simp) b)⟩
theorem Tri.same {d : Addr} {G G' : Hp} {v : V} (s : Same G G') (h : Tri d G v) : Tri d G' v := h.but ((But.refl d G).same s)
theorem tri_new {d : Addr} {G : Hp} {x y u : V} {ex ey eu : PyData} {B : Addr} (hD : DieAt G d) (n : G B = none) (h1 : Vd [d] G x ex) (h2 : Vd [d] G y ey) (h3 : Vd [d] G u eu) : Tri d (upd G B (.lst [x, y, u])) (.ref B) := by
  have s := hide_same (S := [d]) (same_new (Same.refl G) n (o := .lst [x, y, u]))
  exact ⟨B, x, y, u, ex, ey, eu, rfl, hD.free n, upd_same, h1.mono s, h2.mono s, h3.mono s⟩
theorem rep_vd {S : List Addr} {H : Hp} {xs : List V} {es : List PyData} (h : VdAll S H xs es) : ∀ k : Nat, VdAll S H (List.replicate k xs).flatten (List.replicate k es).flatten
  | 0 => .nil
  | k + 1 => by
    rw [List.replicate_succ, List.replicate_succ, List.flatten_cons, List.flatten_cons]
    exact h.app (rep_vd h k)
theorem rep_len {α : Type} (xs : List α) : ∀ k : Nat, (List.replicate k xs).flatten.length = k * xs.length
  | 0 => by simp
  | k + 1 => by
    rw [List.replicate_succ, List.flatten_cons, List.length_append, rep_len xs k, Nat.add_mul]
    omega
theorem mul_vd {K : PySem.W.Frag} {d t : Addr} {H : Hp} {xs : List V} {ms : List PyData} {k : Int} {Q : VK} (hD : DieAt H d) (ht : H t = some (.tup xs)) (hx : VdAll [d] H xs ms) (lo : 1 ≤ ms.length) (hi : ms.length ≤ 7) (k0 : 0 ≤ k) (k8 : k ≤ 8)
    (q : ∀ w ew H', Same H H' → Vd [d] H' w ew → Q w H') : Cl.rMulT K (.ref t) (.int k) H Q := by
  have lx := hx.len
  refine ⟨t, k, xs, rfl, rfl, ht, fun e => by rw [e] at lx; simp at lx; omega, k0, by omega, by omega, fun _ => q _ (.tuple ms) H (Same.refl H) (Vd.tup (die_tup hD ht) ht hx (by omega)), fun _ p np => ?_⟩
  have s := same_new (Same.refl H) np (o := .tup (List.replicate k.toNat xs).flatten)
  refine q _ (.tuple (List.replicate k.toNat ms).flatten) _ s (Vd.tup (die_tup (hD.same s) upd_same) upd_same ((rep_vd hx _).mono (hide_same s)) ?_)
  rw [rep_len]
  have : k.toNat ≤ 8 := by omega
  exact Nat.le_trans (Nat.mul_le_mul this hi) (by decide)
theorem eqv_three {a b c e f g : PyData} : PyData.eqv (.list [a, b, c]) (.list [e, f, g]) = (PyData.eqv a e && (PyData.eqv b f && PyData.eqv c g)) := by
  simp [PyData.eqv, PyData.eqvAll]

section
variable {P : Program} {w : World} {K : PySem.W.Frag} {mg : Str → Option Value} {base : Heap} {C Ce fI fO pO fE fL fS p1 g1 p2 g2 p3 g3 : Addr} {mc : Value}
theorem ok_right {f__law_cast f__law_pick f__law_odd_one f__law_any_plain f__law_bent_move f__law_bent_tuple f__law_is_due f__law_is_as : Addr} {fd__law_cast fd__law_pick fd__law_odd_one fd__law_any_plain fd__law_bent_move fd__law_bent_tuple fd__law_is_due fd__law_is_as : FuncData}
    {f cR PR : Addr} {oc0 kV0 dc0 pm0 ct0 : Value} {od0 an0 : Option Addr} {sl0 : Array (Option Value)} {TS : List (Addr × Str)}
    (l0 : K.lookup f = some ⟨oc0, od0, .func (PySem.W.fnOf "_law_right" "_law_right" (defArgs s_law_right) (defBody s_law_right) (defScope s_law_right) .none kV0 dc0 pm0 an0 (.ref cR) ct0), sl0⟩) (hc0 : PySem.W.codeIn K (.ref cR) "_law_right" = true) (TB : TabB base mg cR PR)
    (hmT : (PR, lamQ s_law_right "_law_right") ∈ TS) (hu : ∀ p ∈ TS, p.1 = PR → p.2 = lamQ s_law_right "_law_right")
    {fM : Addr} {odM anM : Option Addr} {ocM kVM dcM pmM cdM ctM : Value} {slM : Array (Option Value)} (gM : mg "_law_met" = some (.ref fM)) (kM : PySem.W.keepIn K (.ref fM) = true)
    (lM : K.lookup fM = some ⟨ocM, odM, .func (PySem.W.fnOf "_law_met" "_law_met" (defArgs s_law_met) (defBody s_law_met) (defScope s_law_met) .none kVM dcM pmM anM cdM ctM), slM⟩) (hcM : PySem.W.codeIn K cdM "_law_met" = true) (bM : Binds K (PySem.W.fnOf "_law_met" "_law_met" (defArgs s_law_met) (defBody s_law_met) (defScope s_law_met) .none kVM dcM pmM anM cdM ctM) ["call"] [])
    (T : ErrC K mg "InvalidProgram" Ce) (c : PcdC K mg C fI fO pO fE fL fS p1 g1 p2 g2 p3 g3 mc) (FO : FnR P w K mg base (L2.CX P w) 9 fO (spOf C Ce)) (FE : FnR P w K mg base CX0 1 fE (spEqP K C)) (FL : FnR P w K mg base CX0 1 fL (spLenP C)) (FS : FnR P w K mg base CX0 1 fS (spStrP C)) {fdg1 : FuncData} (G_g1 : FnOk P w K mg base CX0 1 g1 fdg1 ["self"] (getSp C "_called")) (b_g1 : Binds K fdg1 ["self"] []) {fdg2 : FuncData} (G_g2 : FnOk P w K mg base CX0 1 g2 fdg2 ["self"] (getSp C "_points")) (b_g2 : Binds K fdg2 ["self"] []) {fdg3 : FuncData} (G_g3 : FnOk P w K mg base CX0 1 g3 fdg3 ["self"] (getSp C "_moves")) (b_g3 : Binds K fdg3 ["self"] [])
    (G__law_cast : FnOk P w K mg base CX0 1 f__law_cast fd__law_cast ["die", "total"] spCast) (F__law_cast : Fun K "_law_cast" "_law_cast" s_law_cast f__law_cast fd__law_cast) (b__law_cast : Binds K fd__law_cast ["die", "total"] []) (g__law_cast : mg "_law_cast" = some (.ref f__law_cast))(G__law_pick : FnOk P w K mg base CX0 2 f__law_pick fd__law_pick ["die", "items"] (spPick K)) (F__law_pick : Fun K "_law_pick" "_law_pick" s_law_pick f__law_pick fd__law_pick) (b__law_pick : Binds K fd__law_pick ["die", "items"] []) (g__law_pick : mg "_law_pick" = some (.ref f__law_pick))(G__law_odd_one : FnOk P w K mg base CX0 3 f__law_odd_one fd__law_odd_one ["die"] spOddV) (F__law_odd_one : Fun K "_law_odd_one" "_law_odd_one" s_law_odd_one f__law_odd_one fd__law_odd_one) (b__law_odd_one : Binds K fd__law_odd_one ["die"] []) (g__law_odd_one : mg "_law_odd_one" = some (.ref f__law_odd_one))(G__law_any_plain : FnOk P w K mg base CX0 4 f__law_any_plain fd__law_any_plain ["die"] spAnyPlain) (F__law_any_plain : Fun K "_law_any_plain" "_law_any_plain" s_law_any_plain f__law_any_plain fd__law_any_plain) (b__law_any_plain : Binds K fd__law_any_plain ["die"] []) (g__law_any_plain : mg "_law_any_plain" = some (.ref f__law_any_plain))(G__law_bent_move : FnOk P w K mg base CX0 4 f__law_bent_move fd__law_bent_move ["die", "move"] spBentMove) (F__law_bent_move : Fun K "_law_bent_move" "_law_bent_move" s_law_bent_move f__law_bent_move fd__law_bent_move) (b__law_bent_move : Binds K fd__law_bent_move ["die", "move"] []) (g__law_bent_move : mg "_law_bent_move" = some (.ref f__law_bent_move))(G__law_bent_tuple : FnOk P w K mg base CX0 3 f__law_bent_tuple fd__law_bent_tuple ["die", "items", "odd"] spBent) (F__law_bent_tuple : Fun K "_law_bent_tuple" "_law_bent_tuple" s_law_bent_tuple f__law_bent_tuple fd__law_bent_tuple) (b__law_bent_tuple : Binds K fd__law_bent_tuple ["die", "items", "odd"] []) (g__law_bent_tuple : mg "_law_bent_tuple" = some (.ref f__law_bent_tuple))(G__law_is_due : FnOk P w K mg base CX0 4 f__law_is_due fd__law_is_due ["called", "points", "moves"] spDue) (F__law_is_due : Fun K "_law_is_due" "_law_is_due" s_law_is_due f__law_is_due fd__law_is_due) (b__law_is_due : Binds K fd__law_is_due ["called", "points", "moves"] []) (g__law_is_due : mg "_law_is_due" = some (.ref f__law_is_due))(G__law_is_as : FnG P w K mg base 3 f__law_is_as fd__law_is_as ["made", "band"] (spAs C)) (F__law_is_as : Fun K "_law_is_as" "_law_is_as" s_law_is_as f__law_is_as fd__law_is_as) (b__law_is_as : Binds K fd__law_is_as ["made", "band"] []) (g__law_is_as : mg "_law_is_as" = some (.ref f__law_is_as))
    (m_len : mg "len" = none) (m_repr : mg "repr" = none) (m_str : mg "str" = none) (m_range : mg "range" = none) :
    FnG P w K mg base 13 f (PySem.W.fnOf "_law_right" "_law_right" (defArgs s_law_right) (defBody s_law_right) (defScope s_law_right) .none kV0 dc0 pm0 an0 (.ref cR) ct0) ["die"] (spRightT TS) := by
  refine Cl.fnG_of l0 hc0 sc_law_right (fun vs H Q E h => ?_) (fun A outer s H vs Q E hg hr h => ?_)
  · obtain ⟨d, rfl, _⟩ := h
    rfl
  · obtain ⟨d, rfl, hD0, hT0, q⟩ := h
    refine ⟨_, (pss_cons (ps_asg (pe_call G__law_pick (hr.mono (by decide)) (by rfl) g__law_pick F__law_pick.kp b__law_pick .nil pass0 (pa_cons (pv 0) (pa_cons (pe_ix ix_list (pe_call G__law_any_plain (hr.mono (by decide)) (by rfl) g__law_any_plain F__law_any_plain.kp b__law_any_plain .nil pass0 (pa_cons (pv 0) pa_nil)) pe_int (fun _ _ => rfl)) pa_nil))) (pg_unl rfl (pgs_cons (pg_name (i := 1) sc_law_right.nd rfl (by first | exact Or.inl rfl | exact Or.inr rfl)) (pgs_cons (pg_name (i := 2) sc_law_right.nd rfl (by first | exact Or.inl rfl | exact Or.inr rfl)) (pgs_cons (pg_name (i := 3) sc_law_right.nd rfl (by first | exact Or.inl rfl | exact Or.inr rfl)) pgs_nil)))))
      (pss_cons (ps_set (i := 4) sc_law_right.nd rfl (by first | exact Or.inl rfl | exact Or.inr rfl) (ClX.pe_cmeth (pe_glob (v := .ref C) rfl c.gP rfl) c.cr c.cm FO (hr.mono (by decide)) Cl.passF (pa_cons (pv 1) (pa_cons (pv 2) (pa_cons (pv 3) pa_nil)))))
      (pss_cons (ps_set (i := 5) sc_law_right.nd rfl (by first | exact Or.inl rfl | exact Or.inr rfl) (pe_lst (pa_cons (pe_prop (pv 4) c.cls c.q1 G_g1 (hr.mono (by decide)) b_g1 .nil (passC0 _) rfl) (pa_cons (pe_prop (pv 4) c.cls c.q2 G_g2 (hr.mono (by decide)) b_g2 .nil (passC0 _) rfl) (pa_cons (pe_prop (pv 4) c.cls c.q3 G_g3 (hr.mono (by decide)) b_g3 .nil (passC0 _) rfl) (pa_cons (pe_callB (Cl.call_lenO c.ln c.lnf FL (hr.mono (by decide)) (passC0 _)) (by rfl) m_len (by decide +kernel) (pa_cons (pv 4) pa_nil)) (pa_cons (pe_cmpR (Ow.op_eqO c.eq c.eqf FE (hr.mono (by decide)) (passC0 _)) (pv 4) (ClX.pe_cmeth (pe_glob (v := .ref C) rfl c.gP rfl) c.cr c.cm FO (hr.mono (by decide)) Cl.passF (pa_cons (pv 1) (pa_cons (pv 2) (pa_cons (pv 3) pa_nil)))) (nomark _)) pa_nil)))))))
      (pss_cons (ps_if (pt_cmpR op_ne (pe_callB (call_reprD hg hr.units) (by rfl) m_repr (by decide +kernel) (pa_cons (pv 5) pa_nil)) (pe_callB (call_reprD hg hr.units) (by rfl) m_repr (by decide +kernel) (pa_cons (pe_lst (pa_cons (pv 1) (pa_cons (pv 2) (pa_cons (pv 3) (pa_cons (pe_callB call_len_seq (by rfl) m_len (by decide +kernel) (pa_cons (pv 3) pa_nil)) (pa_cons pe_bl pa_nil)))))) pa_nil)) (nomark _))
        (pss_one (ps_ret pe_bl))
        pss_nil)
      (pss_cons (ps_set (i := 6) sc_law_right.nd rfl (by first | exact Or.inl rfl | exact Or.inr rfl) (pe_op op_add_str (pe_op op_add_str (pe_op op_add_str (pe_op op_add_str pe_str (pv 1)) pe_str) (pe_callTy call_str_int (by rfl) m_str (by decide +kernel) (pa_cons (pv 2) pa_nil))) pe_str))
      (pss_cons (ps_if (pt_cmpR op_ne (pe_callTy (Cl.call_strO c.st c.stf FS (hr.mono (by decide)) (passC0 _)) (by rfl) m_str (by decide +kernel) (pa_cons (pv 4) pa_nil)) (pe_op op_add_str (pe_op op_add_str (pv 6) (pe_callTy call_str_int (by rfl) m_str (by decide +kernel) (pa_cons (pe_callB call_len_seq (by rfl) m_len (by decide +kernel) (pa_cons (pv 3) pa_nil)) pa_nil))) pe_str) (nomark _))
        (pss_one (ps_ret pe_bl))
        pss_nil)
      (pss_cons (ps_for PassesOwn.never rfl (pi_range1 rfl m_range (pa_cons pe_int pa_nil)) (pg_name (i := 7) sc_law_right.nd rfl (by first | exact Or.inl rfl | exact Or.inr rfl))
        (pss_cons (ps_par (i := 8) (j := 9) rfl sc_law_right.nd rfl rfl (by decide) rfl rfl (pa_cons (pe_call G__law_odd_one (hr.mono (by decide)) (by rfl) g__law_odd_one F__law_odd_one.kp b__law_odd_one .nil pass0 (pa_cons (pv 0) pa_nil)) (pa_cons (pe_call G__law_cast (hr.mono (by decide)) (by rfl) g__law_cast F__law_cast.kp b__law_cast .nil pass0 (pa_cons (pv 0) (pa_cons (pe_callB call_len_seq (by rfl) m_len (by decide +kernel) (pa_cons (pv 3) pa_nil)) pa_nil))) pa_nil)) rfl)
        (pss_cons (ps_set (i := 10) sc_law_right.nd rfl (by first | exact Or.inl rfl | exact Or.inr rfl) (pe_op op_catW (pe_op op_catW (pe_slice sl_tupW (pv 3) po_none (po_some (pv 9))) (pe_tup (pa_cons (pe_call G__law_bent_move (hr.mono (by decide)) (by rfl) g__law_bent_move F__law_bent_move.kp b__law_bent_move .nil pass0 (pa_cons (pv 0) (pa_cons (pe_ix ix_tup (pv 3) (pv 9) (fun _ _ => rfl)) pa_nil))) pa_nil))) (pe_slice sl_tupW (pv 3) (po_some (pe_op op_add (pv 9) pe_int)) po_none)))
        (pss_cons (ps_set (i := 11) sc_law_right.nd rfl (by first | exact Or.inl rfl | exact Or.inr rfl) (pe_op op_cat (pe_op op_rep (pe_lst (pa_cons (pe_lst (pa_cons (pv 1) (pa_cons (pv 2) (pa_cons (pv 10) pa_nil)))) pa_nil)) pe_int) (pe_lst (pa_cons (pe_lst (pa_cons (pv 8) (pa_cons (pv 2) (pa_cons (pv 3) pa_nil)))) (pa_cons (pe_lst (pa_cons (pv 1) (pa_cons (pv 8) (pa_cons (pv 3) pa_nil)))) pa_nil)))))
        (pss_cons (ps_set (i := 11) sc_law_right.nd rfl (by first | exact Or.inl rfl | exact Or.inr rfl) (pe_op op_cat (pv 11) (pe_lst (pa_cons (pe_lst (pa_cons (pv 1) (pa_cons (pv 2) (pa_cons (pe_call G__law_bent_tuple (hr.mono (by decide)) (by rfl) g__law_bent_tuple F__law_bent_tuple.kp b__law_bent_tuple .nil pass0 (pa_cons (pv 0) (pa_cons (pv 3) (pa_cons (pv 8) pa_nil)))) pa_nil)))) (pa_cons (pe_lst (pa_cons (pv 1) (pa_cons (pv 2) (pa_cons (pe_op (r := Cl.rMulT K) Cl.op_mulT (pv 3) (pe_call G__law_cast (hr.mono (by decide)) (by rfl) g__law_cast F__law_cast.kp b__law_cast .nil pass0 (pa_cons (pv 0) (pa_cons pe_int pa_nil)))) pa_nil)))) pa_nil)))))
        (pss_cons (ps_asg (pe_call G__law_pick (hr.mono (by decide)) (by rfl) g__law_pick F__law_pick.kp b__law_pick .nil pass0 (pa_cons (pv 0) (pa_cons (pv 11) pa_nil))) (pg_unl rfl (pgs_cons (pg_name (i := 12) sc_law_right.nd rfl (by first | exact Or.inl rfl | exact Or.inr rfl)) (pgs_cons (pg_name (i := 13) sc_law_right.nd rfl (by first | exact Or.inl rfl | exact Or.inr rfl)) (pgs_cons (pg_name (i := 14) sc_law_right.nd rfl (by first | exact Or.inl rfl | exact Or.inr rfl)) pgs_nil)))))
        (pss_cons (ps_set (i := 15) sc_law_right.nd rfl (by first | exact Or.inl rfl | exact Or.inr rfl) (pe_call G__law_is_due (hr.mono (by decide)) (by rfl) g__law_is_due F__law_is_due.kp b__law_is_due .nil pass0 (pa_cons (pv 12) (pa_cons (pv 13) (pa_cons (pv 14) pa_nil)))))
        (pss_cons (ps_set (i := 16) sc_law_right.nd rfl (by first | exact Or.inl rfl | exact Or.inr rfl) (pe_lamcall (k := 9) (T := TS) (TT := Cl.TMetV Ce) (c := cR) (P := PR) (by rfl) gM kM lM hcM bM sc_law_met rfl (Or.inl rfl) (Cl.metV_gives T rfl (by decide +kernel) (fun _ => rfl)) TB rfl hmT hu (hr.mono (by decide)) (lamS_by (sc := defScope s_law_right) (by decide +kernel)) rfl (fun _ _ _ _ _ => rfl)
      (fun A outer s H E f c' hr => (ClX.pe_cmeth (pe_glob (v := .ref C) rfl c.gP rfl) c.cr c.cm FO (hr.mono (by decide)) (Cl.passE (takes_of rfl rfl rfl rfl)) (pa_cons (pv 12) (pa_cons (pv 13) (pa_cons (pv 14) pa_nil)))))))
        (pss_cons (ps_if (pt_cmpR op_ne (pe_cmpR op_notN (pv 16) pe_non (nomark _)) (pv 15) (nomark _))
          (pss_one (ps_ret pe_bl))
          pss_nil)
        (pss_cons (ps_if (PW.pt (pw_and (pt_val (pv 15)) (pw_and1 (pt_not (pt_val (pe_callG G__law_is_as hg (hr.mono (by decide)) (by rfl) g__law_is_as F__law_is_as.kp b__law_is_as (pa_cons (pv 16) (pa_cons (pe_lst (pa_cons (pv 12) (pa_cons (pv 13) (pa_cons (pv 14) pa_nil)))) pa_nil))))))))
          (pss_one (ps_ret pe_bl))
          pss_nil)
        (pss_cons (ps_set (i := 17) sc_law_right.nd rfl (by first | exact Or.inl rfl | exact Or.inr rfl) (pe_cmpR (op_eqH hr.units) (pe_lst (pa_cons (pv 12) (pa_cons (pv 13) (pa_cons (pv 14) pa_nil)))) (pe_lst (pa_cons (pv 1) (pa_cons (pv 2) (pa_cons (pv 3) pa_nil)))) (nomark _)))
        (pss_one (ps_if (PW.pt (pw_and (pt_val (pv 15)) (pw_and1 (pt_cmpR op_ne (pe_cmpR (Ow.op_eqO c.eq c.eqf FE (hr.mono (by decide)) (passC0 _)) (pv 16) (pv 4) (nomark _)) (pv 17) (nomark _)))))
          (pss_one (ps_ret pe_bl))
          pss_nil)))))))))))))
      (pss_one (ps_ret (pe_and (pe_not (pe_cmpR (Ow.op_eqO c.eq c.eqf FE (hr.mono (by decide)) (passC0 _)) (pv 4) pe_non (nomark _))) (pe_and (pe_cmpR (Ow.op_neO c.ne c.c4 c.eq c.eqf FE (hr.mono (by decide)) (passC0 _)) (pv 4) (pv 1) (nomark _)) (pe_one (pe_cmpR (Ow.op_neO c.ne c.c4 c.eq c.eqf FE (hr.mono (by decide)) (passC0 _)) (pv 4) (pv 3) (nomark _)))))))))))))), ?_⟩
    refine ⟨_, rfl, _, rfl, d, rfl, hD0, fun R x1 x2 x3 L bs H1 b1 d1 hR hL bne bl bands => ⟨R, _, 3, .ref L, rfl, rfl, .inl (.inl hR), rfl, ?_⟩⟩
    have Ld : L ≠ d := by
      cases bs with
      | nil => exact absurd rfl bne
      | cons b r =>
        obtain ⟨B, _, _, _, _, rfl, _⟩ := bands b List.mem_cons_self
        exact d1.ne hL fun _ _ _ z => by cases z
    refine ⟨d, d1, .inl ⟨L, bs, rfl, Ld, .inl (.inl (.inl hL)), bne, by omega, fun j v H2 hj N2 => ?_⟩⟩
    obtain ⟨B, z, p, t, ms, rfl, nB, eB, vt, bm⟩ := bands v (List.mem_of_getElem? hj)
    have eB2 := N2.but B _ (fun z => nB (by simp [z])) eB
    have vt2 := vt.mono (hide_but (S := [d]) (by simp) N2.but)
    refine ⟨B, _, rfl, .inl (.inl eB2), rfl, ?_⟩
    have szz : sm (.str z) = true := bm.nm.2
    have sms : sm (.tuple ms) = true := vt.2
    have nlm : nlAll ms = true := nlAll_mem.mpr fun m hm => by
      obtain ⟨ds, rfl, h⟩ := bm.mv m hm
      exact h.nol
    have p13 : 1 ≤ p ∧ p ≤ 3 := ⟨bm.p1, bm.p3⟩
    have lms : 2 ≤ ms.length ∧ ms.length ≤ 5 := ⟨bm.lo, bm.hi⟩
    have mvs : ∀ m ∈ ms, isMove p 5 m = true := fun m hm => by
      obtain ⟨ds, rfl, h⟩ := bm.mv m hm
      exact h.ok
    have arem : areMoves p 5 ms = true := by
      unfold areMoves
      rw [decide_eq_true (by omega), List.all_eq_true.mpr mvs]
      rfl
    have good : Good z p ms := ⟨bm.nm.1, p13.1, by omega, arem⟩
    have dueT : due (.str z) (.int p) (.tuple ms) = true := by
      unfold due goodD
      show (true && (nameOf z && (decide (1 ≤ p) && decide (p ≤ 6)) && areMoves p 5 ms)) = true
      rw [bm.nm.1, decide_eq_true p13.1, decide_eq_true (show p ≤ 6 by omega), arem]
      rfl
    have plT := pl_moves arem
    have b2 : But d H H2 := b1.trans N2.but
    have d2 := N2.die
    -- what is told of Procedure.of
    have ofz : ∀ (G : Hp) (Q' : VK), Vd [d] G (.ref t) (.tuple ms) → (∀ G' a, Same G G' → G a = none → Pr C G' a z p ms → Q' (.ref a) G') → spOf C Ce [V.ref C, .str z, .int p, .ref t] G Q' E0 := fun G Q' hv hq =>
      ⟨.str z, .int p, .ref t, .str z, .int p, .tuple ms, rfl, .str z, .int p, hv.d, szz, rfl, sms, fun _ G' a z' p' s' e1 e2 na pr => by
        cases e1
        cases e2
        exact hq G' a s' na pr, fun h => by rw [dueT] at h; cases h⟩
    refine ⟨_, _, rfl, _, _, rfl, _, _, rfl, rfl, ?_⟩
    -- one = Procedure.of(name, points, moves)
    refine ⟨rfl, _, rfl, _, rfl, _, rfl, ?_⟩
    dsimp only [tNil]
    refine ofz H2 _ vt2 fun H3 a s3 na pr => ?_
    have d3 := d2.same s3
    have vt3 := vt2.mono (hide_same s3)
    obtain ⟨dx, t2, xs2, ha, ht2, hxs2, _⟩ := pr
    have lx2 := hxs2.len
    have pr3 : Pr C H3 a z p ms := ⟨dx, t2, xs2, ha, ht2, hxs2, good⟩
    -- told = ..
    refine ⟨_, rfl, a, dx, _, rfl, ha, a, dx, _, _, rfl, ha, rfl, _, rfl, a, dx, _, rfl, ha, a, dx, _, _, rfl, ha, rfl, _, rfl, a, dx, _, rfl, ha, a, dx, _, _, rfl, ha, rfl, _, rfl, a, dx, _, rfl, ha, ⟨a, z, p, ms, rfl, pr3, _, rfl, by omega, by omega, ?_⟩⟩
    refine ⟨_, rfl, rfl, _, rfl, _, rfl, _, rfl, ?_⟩
    dsimp only [tNil]
    refine ofz H3 _ vt3 fun H4 a' s4 na' pr4 => ?_
    have pr34 := pr3.same s4
    obtain ⟨dx', t3, xs3, ha', ht3, hxs3, _⟩ := pr4
    refine ⟨a, dx, _, .ref C, rfl, s4 _ _ ha, .base (.ins ha' c.cls c.c1 c.c2 c.c3 c.c4), ?_, ⟨a, .ref a', z, p, ms, rfl, pr34, .inl ⟨a', z, p, ms, rfl, ⟨dx', t3, xs3, ha', ht3, hxs3, good⟩, ?_⟩⟩⟩
    · unfold PySem.W.notFirst
      simp
    have eqv1 : (decide (z = z) && decide (p = p) && PyData.eqv (.tuple ms) (.tuple ms)) = true := by
      have : PyData.eqv (.tuple ms) (.tuple ms) = true := by
        simp only [PyData.eqv]
        exact PySem.SeqAt.eqvAll_refl_plain _ (by have := plT.1; simpa only [PyData.plain] using this)
      rw [this]
      simp
    rw [eqv1]
    have hg' := hg
    refine ⟨len_ok, fun LT nLT => ?_⟩
    have d4 := d3.same s4
    have vt4 := vt3.mono (hide_same s4)
    have s5 := same_new (Same.refl H4) nLT (o := .lst [.str z, .int p, .ref t2, .int ms.length, .bl true])
    have hLT : upd H4 LT (.lst [.str z, .int p, .ref t2, .int ms.length, .bl true]) LT = some (.lst [.str z, .int p, .ref t2, .int ms.length, .bl true]) := upd_same
    have d5 := d4.same s5
    have vt5 := vt4.mono (hide_same s5)
    have pr5 := pr34.same s5
    have b25 : But d H2 (upd H4 LT (.lst [.str z, .int p, .ref t2, .int ms.length, .bl true])) := (((But.refl d H2).same s3).same s4).same s5
    have ht5 := s5 _ _ (s4 _ _ ht2)
    have hx5 := (hxs2.same s4).same s5
    generalize upd H4 LT (.lst [.str z, .int p, .ref t2, .int ms.length, .bl true]) = H5 at hLT d5 vt5 pr5 b25 ht5 hx5
    have rl : Rl [.str z, .int p, .tuple ms, .int ms.length, .bool true] := rl_band good szz sms (rest := [.int ms.length, .bool true]) (fun x hx => by
      simp at hx
      rcases hx with rfl | rfl
      · exact ⟨⟨rfl, by simp [PyData.depth]⟩, (gp_int (by omega) (by omega)).mono (by omega), rfl⟩
      · exact ⟨⟨rfl, by simp [PyData.depth]⟩, ⟨by simp only [PyData.showable], by simp only [PyData.intsShort], by simp only [PyData.weight]; omega⟩, rfl⟩) (by simp)
    obtain ⟨t', xs, et, ntd, hxt5, hxs5, _⟩ := vt5.tup_inv
    cases et
    have lx5 := hxs5.len
    refine ⟨_, rfl, LT, _, [.str z, .int p, .tuple ms, .int ms.length, .bool true], rfl, hLT, List.cons_ne_nil _ _, .cons (.str z) (.cons (.int p) (.cons (.tup ht5 hx5) (.cons (.int _) (.cons (.bl true) .nil)))), rl, ?_⟩
    refine ⟨_, rfl, _, rfl, _, rfl, _, rfl, t, xs, rfl, .inr (.inl (.inl hxt5)), len_ok, fun L6 n6 => ⟨L6, _, [.str z, .int p, .tuple ms, .int ms.length, .bool true], rfl, upd_same, List.cons_ne_nil _ _, ?_, rl, rfl, _, rfl, ?_⟩⟩
    · have s6 := same_new (Same.refl H5) n6 (o := .lst [.str z, .int p, .ref t, .int xs.length, .bl true])
      rw [lx5] at s6 ⊢
      exact .cons (.str z) (.cons (.int p) (.cons (vt5.d.same s6) (.cons (.int _) (.cons (.bl true) .nil))))
    have s6 := same_new (Same.refl H5) n6 (o := .lst [.str z, .int p, .ref t, .int xs.length, .bl true])
    refine ifNY rfl ?_
    have d6 := d5.same s6
    have vt6 := vt5.mono (hide_same s6)
    have pr6 := pr5.same s6
    have hxt6 := s6 _ _ hxt5
    have b26 := b25.same s6
    show tSeq _ _ _ _ (upd H5 L6 (.lst [.str z, .int p, .ref t, .int xs.length, .bl true]))
    generalize upd H5 L6 (.lst [.str z, .int p, .ref t, .int xs.length, .bl true]) = H6 at d6 vt6 pr6 hxt6 b26
    obtain ⟨pn, rfl⟩ := Int.eq_ofNat_of_zero_le (show 0 ≤ p by omega)
    have lz : z.length ≤ 8 := by
      have := bm.nm.1
      unfold nameOf at this
      rw [Bool.and_eq_true, Bool.and_eq_true, decide_eq_true_iff, decide_eq_true_iff] at this
      exact this.1.2
    have l2 : ∀ n : Nat, n ≤ 60 → (n : Int).natAbs.log2 < 1920 := fun n h => by
      have := Nat.log2_le_self n
      rw [Int.natAbs_natCast]
      omega
    have k0 : (Str.ofString "procedure ").length ≤ 20 := by decide +kernel
    have k1 := le_app k0 lz (k := 30) (by decide)
    have c2 : (Str.ofString ", ").length ≤ 5 := by decide +kernel
    have k2 := le_app k1 c2 (k := 40) (by decide)
    have c3 := dig_len pn (by omega)
    have k3 := le_app k2 c3 (k := 50) (by decide)
    have c4 : (Str.ofString " points, ").length ≤ 10 := by decide +kernel
    have k4 := le_app k3 c4 (k := 60) (by decide)
    have c5 := dig_len xs.length (by omega)
    have k5 := le_app k4 c5 (k := 70) (by decide)
    have c6 : (Str.ofString " moves").length ≤ 10 := by decide +kernel
    have sl : ∀ {a b : Str}, a.length ≤ 80 → b.length ≤ 80 → a.length + b.length ≤ sizeLine := fun h1 h2 => Nat.le_of_lt (small1000 (by omega))
    refine ⟨_, rfl, _, _, rfl, rfl, sl (by omega) (by omega), _, _, rfl, rfl, sl (by omega) (by omega), _, rfl, (pn : Int), rfl, l2 pn (by omega), _, _, rfl, rfl, sl (by omega) (by omega), _, _, rfl, rfl, sl (by omega) (by omega), ?_⟩
    obtain ⟨dx6, t6, xs6, ha6, ht6, hxs6, _⟩ := pr6
    have pr6 : Pr C H6 a z (pn : Int) ms := ⟨dx6, t6, xs6, ha6, ht6, hxs6, good⟩
    refine ⟨_, rfl, a, dx6, _, rfl, ha6, a, z, (pn : Int), ms, rfl, pr6, _, rfl, _, rfl, _, rfl, t, xs, rfl, .inr (.inl (.inl hxt6)), ((xs.length : Nat) : Int), rfl, l2 _ (by omega), _, _, rfl, rfl, sl (by omega) (by omega), _, _, rfl, rfl, sl (by omega) (by omega), rfl, _, rfl, ?_⟩
    refine ifNY (by rw [lx5]; rfl) ?_
    have td6 : t ≠ d := fun z => by
      obtain ⟨_, _, et, nt, _⟩ := vt6.tup_inv
      cases et
      exact nt (by simp [z])
    have hT6 : Tabs TS H6 := tabs_but hD0 (b2.trans b26) hT0
    have prH := Pr_hide d6 nlm pr6
    refine ⟨8, rfl, by decide, by decide, for_range (lo := 0) (n := 8) (fun k σ G => (∃ y5 y6 y7 y8 y9 y10 y11 y12 y13 y14 y15 y16 y17, σ = [some (.ref d), some (.str z), some (.int (pn : Int)), some (.ref t), some (.ref a), y5, y6, y7, y8, y9, y10, y11, y12, y13, y14, y15, y16, y17]) ∧ ExtD d H6 G ∧ DieAt G d ∧ Tabs TS G) ⟨⟨_, _, _, _, _, _, _, _, _, _, _, _, _, rfl⟩, ExtD.of (ExtN.refl _), d6, hT6⟩ (fun k σ G _ hq => ?_) (fun σ G hq => ?_)⟩
    · obtain ⟨⟨y5, y6, y7, y8, y9, y10, y11, y12, y13, y14, y15, y16, y17, rfl⟩, eG, dG, hTG⟩ := hq
      have vtG := Vd_ext vt6 (hide_extd eG)
      have prG := Pr_ext (hide_extd eG) prH
      obtain ⟨_, xsG, et, ntd, hxG, hxsG, _⟩ := vtG.tup_inv
      cases et
      have lG := hxsG.len
      have sz : ∀ {n : Nat}, n ≤ 400 → n ≤ sizeLine := fun h => Nat.le_of_lt (small1000 (by omega))
      have cl : ∀ lo hi, (cutV xsG lo hi).length ≤ 100 := fun lo hi => by
        have := cutV_length xsG lo hi
        omega
      refine ⟨_, rfl, d, rfl, dG, fun odd eo G1 ho bG1 dG1 => ⟨_, rfl, _, rfl, t, xsG, rfl, .inr (.inl (.inl (bG1 _ _ td6 hxG))), d, _, rfl, dG1, by omega, by omega, fun at_ G2 hat N2 => ⟨_, _, rfl, ?_⟩⟩⟩
      have b02 : But d G G2 := bG1.trans N2.but
      have dG2 := N2.die
      have hx2 := b02 _ _ td6 hxG
      have x2 := hxsG.mono (hide_but (S := [d]) (by simp) b02)
      have ho2 := ho.mono (hide_but (S := [d]) (by simp) N2.but)
      have hat2 : at_ < xsG.length := by omega
      have hv : xsG[at_]? = some xsG[at_] := List.getElem?_eq_getElem hat2
      obtain ⟨m, hm, vm⟩ := x2.get hv
      obtain ⟨dsm, rfl, hmv⟩ := bm.mv m (List.mem_of_getElem? hm)
      obtain ⟨pm, ysm, em, _, _, _, _⟩ := vm.tup_inv
      rw [em] at hv vm
      have cc1 : cutV xsG none (some (at_ : Int)) = xsG.take at_ := by rw [cut_lo (by omega) (by omega)]; rfl
      have cc2 : cutV xsG (some ((at_ : Int) + 1)) none = xsG.drop (at_ + 1) := by rw [cut_hi (by omega) (by omega)]; rfl
      refine ⟨_, rfl, _, rfl, (at_ : Int), rfl, t, _, rfl, hx2, fun q1 G3 s23 g3 => ⟨_, rfl, _, rfl, _, rfl, t, xsG, _, _, rfl, rfl, .inl (.inl (s23 _ _ hx2)), atI_nat hv, ?_⟩⟩
      have dG3 := dG2.same s23
      have q1d : q1 ≠ d := fun z => die_tup dG3 g3 (by simp [z])
      refine ⟨d, pm, dsm, rfl, dG3, vm.mono (hide_same s23), ⟨_, hmv⟩, fun vb eb G4 hvb b34 dG4 => ⟨len_ok, fun t1 nt1 => ⟨q1, t1, _, _, rfl, rfl, upd_keep (b34 _ _ q1d g3) nt1, upd_same, sz (by have := cl none (some (at_ : Int)); show _ + 1 ≤ 400; omega), fun q2 G5 s45 g5 => ?_⟩⟩⟩
      have s45' : Same G4 G5 := (same_new (Same.refl G4) nt1).trans s45
      have b05 : But d G G5 := ((b02.same s23).trans b34).same s45'
      refine ⟨_, rfl, _, rfl, _, _, rfl, rfl, (at_ : Int) + 1, rfl, t, _, rfl, b05 _ _ td6 hxG, fun q3 G6 s56 g6 => ⟨q2, q3, _, _, rfl, rfl, s56 _ _ g5, g6, sz (by have := cl none (some (at_ : Int)); have := cl (some ((at_ : Int) + 1)) none; rw [List.length_append]; show (_ + 1) + _ ≤ 400; omega), fun q4 G7 s67 g7 => ?_⟩⟩
      have s57 : Same G5 G7 := s56.trans s67
      have b07 : But d G G7 := b05.same s57
      have dG7 : DieAt G7 d := (dG4.same s45').same s57
      have x7 := hxsG.mono (hide_but (S := [d]) (by simp) b07)
      have vt7 := vtG.mono (hide_but (S := [d]) (by simp) b07)
      have ho7 : Vd [d] G7 odd eo := ((ho2.mono (hide_same s23)).mono (hide_but (S := [d]) (by simp) b34)).mono (hide_same (s45'.trans s57))
      have Vb : Vd [d] G7 (.ref q4) (.tuple ((ms.take at_ ++ [eb]) ++ ms.drop (at_ + 1))) := Vd.tup (die_tup dG7 g7) g7 (by rw [cc1, cc2]; exact ((x7.take at_).app (.cons (hvb.mono (hide_same (s45'.trans s57))) .nil)).app (x7.drop (at_ + 1))) (by simp; omega)
      have vn : ∀ {G' : Hp}, Vd [d] G' (.str z) (.str z) := ⟨.str z, szz⟩
      refine ⟨_, rfl, _, rfl, _, rfl, len_ok, fun B1 n1 => ⟨len_ok, fun O1 m1 => ⟨O1, 5, _, rfl, rfl, upd_same, by decide, by decide, Nat.le_of_lt (small1000 (by show 1 * 5 ≤ 1000; decide)), fun R1 r1 => ?_⟩⟩⟩
      have T1 := tri_new dG7 n1 (vn (G' := G7)) (Vd.int (pn : Int)) Vb
      have u1 := same_new (Same.refl G7) n1 (o := .lst [.str z, .int (pn : Int), .ref q4])
      have u2 := same_new (Same.refl _) m1 (o := .lst [.ref B1])
      have u3 := same_new (Same.refl _) r1 (o := .lst (List.replicate (5 : Int).toNat [V.ref B1]).flatten)
      have u13 := (u1.trans u2).trans u3
      have T1b := (T1.same u2).same u3
      have hR1 : upd (upd (upd G7 B1 (.lst [.str z, .int (pn : Int), .ref q4])) O1 (.lst [.ref B1])) R1 (.lst (List.replicate (5 : Int).toNat [V.ref B1]).flatten) R1 = some (.lst [.ref B1, .ref B1, .ref B1, .ref B1, .ref B1]) := upd_same
      have dG8 := dG7.same u13
      have ho8 := ho7.mono (hide_same u13)
      have vt8 := vt7.mono (hide_same u13)
      have b08 := b07.same u13
      generalize upd (upd (upd G7 B1 (.lst [.str z, .int (pn : Int), .ref q4])) O1 (.lst [.ref B1])) R1 (.lst (List.replicate (5 : Int).toNat [V.ref B1]).flatten) = G8 at T1b hR1 dG8 ho8 vt8 b08
      clear u1 u2 u3 u13 T1
      refine ⟨_, rfl, _, rfl, _, rfl, len_ok, fun B2 n2 => ⟨_, rfl, _, rfl, _, rfl, len_ok, fun B3 n3 => ⟨len_ok, fun O2 m2 => ⟨R1, O2, _, _, rfl, rfl, upd_keep (upd_keep (upd_keep hR1 n2) n3) m2, upd_same, Nat.le_of_lt (small1000 (by show 5 + 2 ≤ 1000; decide)), fun S1 q5 => ?_⟩⟩⟩⟩
      have T2 := tri_new dG8 n2 ho8 (Vd.int (pn : Int)) vt8
      have u1 := same_new (Same.refl G8) n2 (o := .lst [odd, .int (pn : Int), .ref t])
      have T3 := tri_new (dG8.same u1) n3 (vn (G' := _)) (ho8.mono (hide_same u1)) (vt8.mono (hide_same u1))
      have u2 := same_new (Same.refl _) n3 (o := .lst [.str z, odd, .ref t])
      have u3 := same_new (Same.refl _) m2 (o := .lst [.ref B2, .ref B3])
      have u4 := same_new (Same.refl _) q5 (o := .lst ([.ref B1, .ref B1, .ref B1, .ref B1, .ref B1] ++ [.ref B2, .ref B3]))
      have hS1 : upd (upd (upd (upd G8 B2 (.lst [odd, .int (pn : Int), .ref t])) B3 (.lst [.str z, odd, .ref t])) O2 (.lst [.ref B2, .ref B3])) S1 (.lst ([.ref B1, .ref B1, .ref B1, .ref B1, .ref B1] ++ [.ref B2, .ref B3])) S1 = some (.lst [.ref B1, .ref B1, .ref B1, .ref B1, .ref B1, .ref B2, .ref B3]) := upd_same
      have T1c := (((T1b.same u1).same u2).same u3).same u4
      have T2c := ((T2.same u2).same u3).same u4
      have T3c := (T3.same u3).same u4
      have u14 := ((u1.trans u2).trans u3).trans u4
      have dG9 := dG8.same u14
      have ho9 := ho8.mono (hide_same u14)
      have b09 := b08.same u14
      show tSeq _ _ _ _ (upd (upd (upd (upd G8 B2 (.lst [odd, .int (pn : Int), .ref t])) B3 (.lst [.str z, odd, .ref t])) O2 (.lst [.ref B2, .ref B3])) S1 (.lst ([.ref B1, .ref B1, .ref B1, .ref B1, .ref B1] ++ [.ref B2, .ref B3])))
      generalize upd (upd (upd (upd G8 B2 (.lst [odd, .int (pn : Int), .ref t])) B3 (.lst [.str z, odd, .ref t])) O2 (.lst [.ref B2, .ref B3])) S1 (.lst ([.ref B1, .ref B1, .ref B1, .ref B1, .ref B1] ++ [.ref B2, .ref B3])) = G9 at hS1 T1c T2c T3c dG9 ho9 b09
      clear u1 u2 u3 u4 u14 T2 T3 T1b
      have S1d : S1 ≠ d := dG9.ne hS1 fun _ _ _ z => by cases z
      have vt9 := vtG.mono (hide_but (S := [d]) (by simp) b09)
      -- some + [[name, points, bent tuple], [name, points, moves * n]]
      refine ⟨_, rfl, _, rfl, _, rfl, _, rfl, _, rfl, _, rfl, ?_⟩
      refine ⟨d, t, odd, ms, eo, rfl, dG9, vt9, fun e => by rw [e] at lms; simp at lms, by omega, plT.1, Nat.le_trans plT.2 (by omega), ho9, fun vb2 eb2 G10 hvb2 b910 dG10 => ⟨len_ok, fun B4 n4 => ?_⟩⟩
      have T4 := tri_new dG10 n4 (vn (G' := G10)) (Vd.int (pn : Int)) hvb2
      have v1 := same_new (Same.refl G10) n4 (o := .lst [.str z, .int (pn : Int), vb2])
      have b9b := b910.same v1
      have dGb := dG10.same v1
      generalize upd G10 B4 (.lst [.str z, .int (pn : Int), vb2]) = Gb at T4 v1 b9b dGb
      refine ⟨_, rfl, _, rfl, _, rfl, _, rfl, d, 9, rfl, dGb, by decide, by decide, fun r G11 hr11 N11 => ?_⟩
      have b911 := b9b.trans N11.but
      have b011 := b09.trans b911
      have dG11 := N11.die
      refine mul_vd dG11 (b011 _ _ td6 hxG) (hxsG.mono (hide_but (S := [d]) (by simp) b011)) (by omega) (by omega) (by omega) (by omega) fun wv ew G12 s12 hw => ⟨len_ok, fun B5 n5 => ⟨len_ok, fun O3 m3 => ?_⟩⟩
      have dG12 := dG11.same s12
      have T5 := tri_new dG12 n5 (vn (G' := G12)) (Vd.int (pn : Int)) hw
      have v2 := same_new (Same.refl G12) n5 (o := .lst [.str z, .int (pn : Int), wv])
      have v3 := same_new (Same.refl _) m3 (o := .lst [.ref B4, .ref B5])
      have s13 := (s12.trans v2).trans v3
      have b913 := b911.same s13
      have T5b := T5.same v3
      have T4b := ((T4.but N11.but).same s13)
      have T1d := T1c.but b913
      have T2d := T2c.but b913
      have T3d := T3c.but b913
      have hS1b := b913 _ _ S1d hS1
      refine ⟨S1, O3, _, _, rfl, rfl, hS1b, upd_same, Nat.le_of_lt (small1000 (by show 7 + 2 ≤ 1000; decide)), fun S2 q6 => ?_⟩
      have v4 := same_new (Same.refl _) q6 (o := .lst ([.ref B1, .ref B1, .ref B1, .ref B1, .ref B1, .ref B2, .ref B3] ++ [.ref B4, .ref B5]))
      have dG14 := ((dG11.same s13)).same v4
      have S2d : S2 ≠ d := (dG11.same s13).free q6
      have b014 := (b011.same s13).same v4
      have W1 := T1d.same v4
      have W2 := T2d.same v4
      have W3 := T3d.same v4
      have W4 := T4b.same v4
      have W5 := T5b.same v4
      have hS2 : upd (upd (upd G12 B5 (.lst [.str z, .int (pn : Int), wv])) O3 (.lst [.ref B4, .ref B5])) S2 (.lst ([.ref B1, .ref B1, .ref B1, .ref B1, .ref B1, .ref B2, .ref B3] ++ [.ref B4, .ref B5])) S2 = some (.lst [.ref B1, .ref B1, .ref B1, .ref B1, .ref B1, .ref B2, .ref B3, .ref B4, .ref B5]) := upd_same
      show tSeq _ _ _ _ (upd (upd (upd G12 B5 (.lst [.str z, .int (pn : Int), wv])) O3 (.lst [.ref B4, .ref B5])) S2 (.lst ([.ref B1, .ref B1, .ref B1, .ref B1, .ref B1, .ref B2, .ref B3] ++ [.ref B4, .ref B5])))
      generalize upd (upd (upd G12 B5 (.lst [.str z, .int (pn : Int), wv])) O3 (.lst [.ref B4, .ref B5])) S2 (.lst ([.ref B1, .ref B1, .ref B1, .ref B1, .ref B1, .ref B2, .ref B3] ++ [.ref B4, .ref B5])) = G14 at dG14 b014 W1 W2 W3 W4 W5 hS2
      clear v1 v2 v3 v4 s12 s13 T1d T2d T3d T4 T4b T5 T5b T1c T2c T3c hS1b
      -- called, size, other
      refine ⟨_, rfl, _, rfl, d, dG14, .inl ⟨S2, _, rfl, S2d, .inl (.inl (.inl hS2)), List.cons_ne_nil _ _, (by show (9 : Nat) < 1073741824; decide), fun j v G15 hj N15 => ?_⟩⟩
      have hTri : Tri d G15 v := by
        refine Tri.but N15.but ?_
        have hm' := List.mem_of_getElem? hj
        revert hm'
        clear hj
        revert v
        exact all_cons W1 (all_cons W1 (all_cons W1 (all_cons W1 (all_cons W1 (all_cons W2 (all_cons W3 (all_cons W4 (all_cons W5 all_nil))))))))
      obtain ⟨B, x, y, u, ex, ey, eu, rfl, Bd, hB, vx, vy, vu⟩ := hTri
      have b015 := b014.trans N15.but
      have dG15 := N15.die
      have hT15 : Tabs TS G15 := tabs_but dG b015 hTG
      have prT := Pr_ext (hide_extd ((ExtD.but b015))) prG
      clear W1 W2 W3 W4 W5 hj
      refine ⟨B, _, rfl, .inl (.inl hB), rfl, _, _, rfl, _, _, rfl, _, _, rfl, rfl, ?_⟩
      refine ⟨_, rfl, _, rfl, _, rfl, x, y, u, ex, ey, eu, rfl, vx.d, vy.d, vu.d, vx.2, vy.2, vu.2, fun G16 s16 => ?_⟩
      have hT16 := tabs_same s16 hT15
      have dG16 := dG15.same s16
      have vx16 := vx.mono (hide_same s16)
      have vy16 := vy.mono (hide_same s16)
      have vu16 := vu.mono (hide_same s16)
      have vtT := (vtG.mono (hide_but (S := [d]) (by simp) b015)).mono (hide_same s16)
      have prT16 := prT.same (hide_same s16)
      have e016 : ExtD d G G16 := (ExtD.but b015).trans (ExtD.of (ExtN.of s16))
      refine ⟨hT16, fun G17 e17 hT17 => ?_⟩
      refine ⟨rfl, _, rfl, _, rfl, _, rfl, ?_⟩
      dsimp only [tNil]
      have x17 := Vd_ext vx16 (hide_extd (ExtD.of e17 (d := d)))
      have y17 := Vd_ext vy16 (hide_extd (ExtD.of e17 (d := d)))
      have u17 := Vd_ext vu16 (hide_extd (ExtD.of e17 (d := d)))
      have t17 := Vd_ext vtT (hide_extd (ExtD.of e17 (d := d)))
      have pr17 := Pr_ext (hide_extd (ExtD.of e17 (d := d))) prT16
      have e017 := e016.trans (ExtD.of e17)
      have dG17 : DieAt G17 d := by
        obtain ⟨q1, q2, q3, hq⟩ := dG16
        exact ⟨q1, q2, q3, e17 _ _ hq fun _ z => by cases z⟩
      refine ⟨x, y, u, ex, ey, eu, rfl, x17.d, y17.d, u17.d, x17.2, y17.2, u17.2, fun hdue G18 a2 z2 p2 s18 e1 e2 na2 pr2 => ?_, fun hdue G18 s18 => ⟨rfl, ?_⟩⟩
      · subst e1
        subst e2
        rw [hdue]
        obtain ⟨ms2, rfl⟩ : ∃ ms2, eu = .tuple ms2 := by
          cases eu with
          | tuple ms2 => exact ⟨ms2, rfl⟩
          | _ => exact absurd hdue (by simp [due, isT])
        have x18 := x17.mono (hide_same s18)
        have y18 := y17.mono (hide_same s18)
        have u18 := u17.mono (hide_same s18)
        refine ⟨_, rfl, rfl, _, rfl, rfl, _, rfl, ifNY rfl ?_⟩
        refine ⟨_, rfl, true, rfl, iteT ⟨_, rfl, _, rfl, _, rfl, _, rfl, len_ok, fun BL nBL => ?_⟩⟩
        have g1 := same_new (Same.refl G18) nBL (o := .lst [x, y, u])
        refine ⟨a2, BL, _, z2, p2, ms2, rfl, pr2.same g1, upd_same, .cons (x18.d.same g1) (.cons (y18.d.same g1) (.cons (u18.d.same g1) .nil)), x17.2, u17.2, fun G19 s19' => ⟨_, rfl, iteF ?_⟩⟩
        have s1819 : Same G17 G19 := (s18.trans g1).trans s19'
        have pr19 := pr2.same (g1.trans s19')
        have x19 := x17.mono (hide_same s1819)
        have y19 := y17.mono (hide_same s1819)
        have u19 := u17.mono (hide_same s1819)
        have o19 := (pr17.same (hide_same s1819)).same hide_sub
        refine ⟨_, rfl, _, rfl, _, rfl, len_ok, fun L1 m1 => ⟨_, rfl, _, rfl, _, rfl, len_ok, fun L2 m2 => ?_⟩⟩
        have f1 := same_new (Same.refl G19) m1 (o := .lst [x, y, u])
        have f2 := same_new (Same.refl _) m2 (o := .lst [.str z, .int (pn : Int), .ref t])
        have sF := (s1819.trans f1).trans f2
        have t19 := (t17.mono (hide_same s1819)).mono (hide_same (f1.trans f2))
        have plB : pl 5 (.list [.str z, .int (pn : Int), .tuple ms]) := pl_list fun e he => by
          simp at he
          rcases he with rfl | rfl | rfl
          · exact (pl_str z).mono (by omega)
          · exact ⟨rfl, by simp [PyData.depth]⟩
          · exact plT
        refine ⟨.list [.str z2, .int p2, .tuple ms2], .list [.str z, .int (pn : Int), .tuple ms], .lst (upd_keep upd_same m2) (.cons (x19.d.same (f1.trans f2)) (.cons (y19.d.same (f1.trans f2)) (.cons (u19.d.same (f1.trans f2)) .nil))), .lst upd_same (.cons (.str z) (.cons (.int _) (.cons t19.d .nil))), plB.1, Nat.le_trans plB.2 (by omega), ?_⟩
        have prF := pr19.same (f1.trans f2)
        have oF := o19.same (f1.trans f2)
        obtain ⟨dx2, tt2, xx2, hA2, hT2, hX2, gd2⟩ := prF
        have prF : Pr C _ a2 z2 p2 ms2 := ⟨dx2, tt2, xx2, hA2, hT2, hX2, gd2⟩
        obtain ⟨dxo, tto, xxo, hAo, hTo, hXo, gdo⟩ := oF
        have oF : Pr C _ a z (pn : Int) ms := ⟨dxo, tto, xxo, hAo, hTo, hXo, gdo⟩
        refine ⟨_, rfl, true, rfl, iteT ⟨_, rfl, _, rfl, a2, dx2, _, .ref C, rfl, hA2, .base (.ins hAo c.cls c.c1 c.c2 c.c3 c.c4), by unfold PySem.W.notFirst; simp, ⟨a2, .ref a, z2, p2, ms2, rfl, prF, .inl ⟨a, z, (pn : Int), ms, rfl, oF, _, rfl, rfl, _, rfl, ifNY ?_ ?_⟩⟩⟩⟩
        · rw [eqv_three]
          have e1 : PyData.eqv (.str z2) (.str z) = decide (z2 = z) := by
            first
              | rfl
              | (rw [Bool.eq_iff_iff]; simp [PyData.eqv])
          have e2 : PyData.eqv (.int p2) (.int (pn : Int)) = decide (p2 = (pn : Int)) := by
            first
              | rfl
              | (rw [Bool.eq_iff_iff]; simp [PyData.eqv])
          rw [e1, e2, Bool.and_assoc]
        · exact ⟨⟨_, _, _, _, _, _, _, _, _, _, _, _, _, rfl⟩, eG.trans (e017.trans (ExtD.of (ExtN.of sF))), dG17.same sF, tabs_same sF hT17⟩
      · rw [hdue]
        have s1819 : Same G17 G18 := s18
        have x19 := x17.mono (hide_same s1819)
        have y19 := y17.mono (hide_same s1819)
        have u19 := u17.mono (hide_same s1819)
        refine ⟨_, rfl, rfl, _, rfl, rfl, _, rfl, ifNY rfl ?_⟩
        refine ⟨_, rfl, false, rfl, iteF (iteF ?_)⟩
        refine ⟨_, rfl, _, rfl, _, rfl, len_ok, fun L1 m1 => ⟨_, rfl, _, rfl, _, rfl, len_ok, fun L2 m2 => ?_⟩⟩
        have f1 := same_new (Same.refl G18) m1 (o := .lst [x, y, u])
        have f2 := same_new (Same.refl _) m2 (o := .lst [.str z, .int (pn : Int), .ref t])
        have sF := (s1819.trans f1).trans f2
        have t19 := (t17.mono (hide_same s1819)).mono (hide_same (f1.trans f2))
        have plB : pl 5 (.list [.str z, .int (pn : Int), .tuple ms]) := pl_list fun e he => by
          simp at he
          rcases he with rfl | rfl | rfl
          · exact (pl_str z).mono (by omega)
          · exact ⟨rfl, by simp [PyData.depth]⟩
          · exact plT
        refine ⟨.list [ex, ey, eu], .list [.str z, .int (pn : Int), .tuple ms], .lst (upd_keep upd_same m2) (.cons (x19.d.same (f1.trans f2)) (.cons (y19.d.same (f1.trans f2)) (.cons (u19.d.same (f1.trans f2)) .nil))), .lst upd_same (.cons (.str z) (.cons (.int _) (.cons t19.d .nil))), plB.1, Nat.le_trans plB.2 (by omega), ?_⟩
        exact ⟨_, rfl, false, rfl, iteF (iteF ⟨⟨_, _, _, _, _, _, _, _, _, _, _, _, _, rfl⟩, eG.trans (e017.trans (ExtD.of (ExtN.of sF))), dG17.same sF, tabs_same sF hT17⟩)⟩
    · obtain ⟨⟨y5, y6, y7, y8, y9, y10, y11, y12, y13, y14, y15, y16, y17, rfl⟩, eG, dG, hTG⟩ := hq
      have vtG := Vd_ext vt6 (hide_extd eG)
      obtain ⟨_, xsG, et, ntd, hxG, hxsG, _⟩ := vtG.tup_inv
      cases et
      obtain ⟨dxG, tG, ysG, haG, htG, hysG, _⟩ := (Pr_ext (hide_extd eG) prH).same hide_sub
      have prG : Pr C G a z (pn : Int) ms := ⟨dxG, tG, ysG, haG, htG, hysG, good⟩
      have nf : PySem.W.notFirst K C (.type "NoneType") = true := by
        unfold PySem.W.notFirst
        rw [c.s1]
        simp
      have fin := q G ((ExtD.but (b2.trans b26)).trans eG) dG hTG
      refine ⟨_, rfl, a, dxG, _, .type "NoneType", rfl, haG, .base .non, nf, ⟨a, .non, z, (pn : Int), ms, rfl, prG, .inr ⟨_, .base .non, c.k2, false, rfl, true, rfl, iteT ?_⟩⟩⟩
      refine ⟨_, rfl, _, rfl, a, dxG, _, .type "str", rfl, haG, .base (.str z), rfl, c.s2, ⟨a, .str z, z, (pn : Int), ms, rfl, prG, .inr ⟨_, .base (.str z), c.k3, false, rfl, true, rfl, iteT ?_⟩⟩⟩
      exact ⟨_, rfl, _, rfl, a, dxG, _, .type "tuple", rfl, haG, .base (.tup hxG), rfl, c.s3, ⟨a, .ref t, z, (pn : Int), ms, rfl, prG, .inr ⟨_, .base (.tup hxG), c.k4, false, rfl, fin⟩⟩⟩
end
end My

namespace My
open PySem PySem.Spec PyProof.Rows L2 Sh Dt
open Eo (FnG pe_callG fnG_ok)
open LamX (Tabs ExtN TabB pe_lamcall lamS_by)
open Cl (ErrC)
open Xc (ExtD spRightT spLawT tabs_but tabs_same tabs_upl)
abbrev s_law : Stmt := topS 42
abbrev Nlaw : List Str := ["script", "at", "wide", "told", "some", "move"]
theorem sc_law : FnScope Nlaw ["script"] (defScope s_law) := ⟨rfl, rfl, rfl, by decide +kernel, rfl, by decide +kernel, by decide +kernel⟩
/-! ### what a call in a lambda gives -/
theorem of_made {C Ce : Addr} {G : Hp} {c pt mv : V} {dc dp dm : PyData} {Q : VK} {E : XK} (h1 : D G c dc) (h2 : D G pt dp) (h3 : D G mv dm) (s1 : sm dc = true) (s2 : sm dp = true) (s3 : sm dm = true) (hd : due dc dp dm = true)
    (q : ∀ G' a, Same G G' → (∃ z p, dc = .str z ∧ dp = .int p ∧ Pr C G' a z p (movesOf dm)) → Q (.ref a) G') : spOf C Ce [.ref C, c, pt, mv] G Q E :=
  ⟨c, pt, mv, dc, dp, dm, rfl, h1, h2, h3, s1, s2, s3, fun _ G' a z p s e1 e2 _ pr => q G' a s ⟨z, p, e1, e2, pr⟩, fun h => absurd (hd.symm.trans h) (by decide)⟩
theorem of_not {C Ce : Addr} {G : Hp} {c pt mv : V} {dc dp dm : PyData} {Q : VK} (h1 : D G c dc) (h2 : D G pt dp) (h3 : D G mv dm) (s1 : sm dc = true) (s2 : sm dp = true) (s3 : sm dm = true) (hd : due dc dp dm = false)
    (q : ∀ G', Same G G' → Q .non G') : spOf C Ce [.ref C, c, pt, mv] G Q (fun cls _ H' => cls = .ref Ce ∧ Q .non H') :=
  ⟨c, pt, mv, dc, dp, dm, rfl, h1, h2, h3, s1, s2, s3, (fun h => absurd (hd.symm.trans h) (by decide)), fun _ G' s => ⟨rfl, q G' s⟩⟩
theorem init_any {C Ce : Addr} {G : Hp} {c pt : V} {mvs : List V} {dc dp : PyData} {ms : List PyData} {Q : VK} {E : XK} (h1 : D G c dc) (h2 : D G pt dp) (h3 : DAll G mvs ms) (s1 : sm dc = true) (s2 : sm dp = true) (s3 : smAll ms = true) (l : ms.length ≤ 60)
    (qy : goodD dc dp ms = true → ∀ G' a, Same G G' → (∃ z p, dc = .str z ∧ dp = .int p ∧ Pr C G' a z p ms) → Q (.ref a) G') (qn : goodD dc dp ms = false → ∀ G', Same G G' → E (.ref Ce) none G') :
    ∀ x dx, G x = none → G dx = none → dx ≠ x → spI C Ce (.ref x :: c :: pt :: mvs) (upd (upd G dx (.own x)) x (.ins C dx [])) (fun v H2 => v = .non ∧ Q (.ref x) H2) E := by
  intro x dx nx nd ne
  have ln := h3.len
  have sA := same_new (same_new (Same.refl G) nd (o := .own x)) ((upd_ne ne.symm).trans nx) (o := .ins C dx [])
  refine ⟨[.ref x, c, pt], mvs, rfl, rfl, Nat.le_of_lt (small1000 (by omega)), fun p np => ?_⟩
  have sB := same_new sA np (o := .tup mvs)
  refine ⟨x, dx, c, pt, p, mvs, dc, dp, ms, rfl, upd_keep upd_same np, upd_same, h1.same sB, h2.same sB, h3.same sB, l, s1, s2, smAll_mem.mp s3, fun g H' e' => ⟨rfl, ?_⟩, fun g H' e' => qn g H' (sB.trans e')⟩
  obtain ⟨z, pn, rfl, rfl, gd⟩ := good_of g
  cases h1
  cases h2
  refine qy g _ x (same_put (sB.trans e') nx) ⟨z, pn, rfl, rfl, dx, p, mvs, upd_same, ?_, h3.same (same_put (sB.trans e') nx), gd⟩
  rw [upd_ne (fun z => by subst z; rw [upd_same] at np; cases np)]
  exact e' _ _ upd_same

def k25 : List (List Int) := (List.range 25).map fun j => [((j : Nat) : Int) / 5, ((j : Nat) : Int) % 5]
def moveW : PyData := .tuple [.str "go", .int 0, .int 5, .tuple (k25.map Zt.rowD)]
def wideD (n : Nat) : PyData := .tuple (List.replicate n moveW)
theorem wide_sm : ∀ n, n ≤ 13 → sm (wideD n) = true := by
  intro n hn
  have h1 : sm moveW = true := by decide +kernel
  exact sm_tup.mpr ⟨by rw [List.length_replicate]; omega, fun d hd => by rw [(List.mem_replicate.mp hd).2]; exact h1⟩
theorem due12 : due (.str "p") (.int 6) (wideD 12) = true := by decide +kernel
theorem due13 : due (.str "p") (.int 6) (wideD 13) = false := by decide +kernel
theorem due7 : due (.str "p") (.int 7) (.tuple []) = false := by decide +kernel
theorem dall_rep {H : Hp} {v : V} {d : PyData} (h : D H v d) : ∀ n, DAll H (List.replicate n v) (List.replicate n d)
  | 0 => .nil
  | n + 1 => .cons h (dall_rep h n)
theorem met_make {C Ce : Addr} {targs : TA} {σ : L2.St} {G : Hp} {z : Str} {p : Int} {ms : List PyData} {Q : VK} (ha : ∀ R : List V → Hp → Prop, (∀ G1 mvs, Same G G1 → DAll G1 mvs ms → R (.str z :: .int p :: mvs) G1) → targs σ G R)
    (s1 : sm (.str z) = true) (s3 : smAll ms = true) (l : ms.length ≤ 60) (qy : goodD (.str z) (.int p) ms = true → ∀ G' a, Same G G' → Pr C G' a z p ms → Q (.ref a) G') (qn : goodD (.str z) (.int p) ms = false → ∀ G', Same G G' → Q .non G') :
    Cl.TMetV Ce (fun E H' Q' => StX.tMakeR C (spI C Ce) E targs σ H' Q') G Q :=
  ha _ fun G1 mvs s h => init_any (dc := .str z) (dp := .int p) (Q := Q) (.str z) (.int p) h s1 rfl s3 l (fun g G' a s' ⟨z', p', e1, e2, pr⟩ => by
    cases e1
    cases e2
    exact qy g G' a (s.trans s') pr) fun g G' s' => ⟨rfl, qn g G' (s.trans s')⟩
def mvL (n : Int) : PyData := .tuple [.str "leave", .int 0, .tuple [.int n]]
def six : List PyData := [.tuple [.str "go", .int 0, .int 0, .tuple [.tuple [.int 0, .int 0], .tuple [.int 0, .int 0]]], .tuple [.str "go", .int 0, .int 0, .tuple [.tuple [.int 1, .int 0], .tuple [.int 0, .int 1]]], .tuple [.str "leave", .int 0, .tuple []],
  .tuple [.str "call", .int 0, .int 0, .str "p", .tuple [.int 0], .int 0], .tuple [.str "post", .int 0, .int 1, .str "p", .tuple [.int 0]], .tuple [.str "fail", .int 0, .tuple [.int 0]]]
theorem six_ok : ∀ d ∈ six, sm (.tuple [d]) = true ∧ due (.str "p") (.int 1) (.tuple [d]) = false := by
  have h : six.all (fun d => sm (.tuple [d]) && !due (.str "p") (.int 1) (.tuple [d])) = true := by decide +kernel
  intro d hd
  have := List.all_eq_true.mp h d hd
  rw [Bool.and_eq_true] at this
  exact ⟨this.1, by simpa using this.2⟩
theorem hide_extn {L : Addr} {G G2 : Hp} (e2 : ExtN G G2) : Ext0 (hide [L] G) (hide [L] G2) := fun b o e n => by
  obtain ⟨m, e⟩ := hide_in e
  exact hide_some m (e2 b o e n)
def two : List PyData := [.tuple [.str "post", .int 0, .int 0, .str "q", .tuple [.int 0]], .tuple [.str "call", .int 1, .int 0, .str "p", .tuple [.int 4]]]
theorem eq13 : PyData.eqv (.list (List.replicate 13 (.bool true))) (.list (List.replicate 13 (.bool true))) = true := by decide +kernel
theorem pl13 : (PyData.list (List.replicate 13 (.bool true))).plain = true ∧ (PyData.list (List.replicate 13 (.bool true))).depth ≤ 60 := ⟨by decide +kernel, by decide +kernel⟩

section
variable {P : Program} {w : World} {K : PySem.W.Frag} {mg : Str → Option Value} {base : Heap} {C Ce fI fO pO fE fL fS p1 g1 p2 g2 p3 g3 : Addr} {mc : Value}
theorem ok_law {f__law_numbers : Addr} {fd__law_numbers : FuncData}
    {f cL PL : Addr} {oc0 kV0 dc0 pm0 ct0 : Value} {od0 an0 : Option Addr} {sl0 : Array (Option Value)} {TS : List (Addr × Str)}
    (l0 : K.lookup f = some ⟨oc0, od0, .func (PySem.W.fnOf "law" "law" (defArgs s_law) (defBody s_law) (defScope s_law) .none kV0 dc0 pm0 an0 (.ref cL) ct0), sl0⟩) (hc0 : PySem.W.codeIn K (.ref cL) "law" = true) (TB : TabB base mg cL PL)
    (hmT : (PL, lamQ s_law "law") ∈ TS) (hu : ∀ p ∈ TS, p.1 = PL → p.2 = lamQ s_law "law")
    {fM : Addr} {odM anM : Option Addr} {ocM kVM dcM pmM cdM ctM : Value} {slM : Array (Option Value)} (gM : mg "_law_met" = some (.ref fM)) (kM : PySem.W.keepIn K (.ref fM) = true)
    (lM : K.lookup fM = some ⟨ocM, odM, .func (PySem.W.fnOf "_law_met" "_law_met" (defArgs s_law_met) (defBody s_law_met) (defScope s_law_met) .none kVM dcM pmM anM cdM ctM), slM⟩) (hcM : PySem.W.codeIn K cdM "_law_met" = true) (bM : Binds K (PySem.W.fnOf "_law_met" "_law_met" (defArgs s_law_met) (defBody s_law_met) (defScope s_law_met) .none kVM dcM pmM anM cdM ctM) ["call"] [])
    (T : ErrC K mg "InvalidProgram" Ce) (c : PcdC K mg C fI fO pO fE fL fS p1 g1 p2 g2 p3 g3 mc) (FO : FnR P w K mg base (L2.CX P w) 9 fO (spOf C Ce)) (FE : FnR P w K mg base CX0 1 fE (spEqP K C)) (FL : FnR P w K mg base CX0 1 fL (spLenP C)) (FS : FnR P w K mg base CX0 1 fS (spStrP C)) (FI : FnR P w K mg base (L2.CX P w) 7 fI (spI C Ce))
    (G__law_numbers : FnOk P w K mg base CX0 1 f__law_numbers fd__law_numbers ["script", "at"] (spNumbers K)) (F__law_numbers : Fun K "_law_numbers" "_law_numbers" s_law_numbers f__law_numbers fd__law_numbers) (b__law_numbers : Binds K fd__law_numbers ["script", "at"] []) (g__law_numbers : mg "_law_numbers" = some (.ref f__law_numbers)){f__law_right : Addr} {fd__law_right : FuncData} (G__law_right : FnG P w K mg base 13 f__law_right fd__law_right ["die"] (spRightT TS)) (F__law_right : Fun K "_law_right" "_law_right" s_law_right f__law_right fd__law_right) (b__law_right : Binds K fd__law_right ["die"] []) (g__law_right : mg "_law_right" = some (.ref f__law_right))
    (m_len : mg "len" = none) (m_max : mg "max" = none) (m_min : mg "min" = none) (m_range : mg "range" = none) (m_tuple : mg "tuple" = none) :
    FnG P w K mg base 14 f (PySem.W.fnOf "law" "law" (defArgs s_law) (defBody s_law) (defScope s_law) .none kV0 dc0 pm0 an0 (.ref cL) ct0) ["script"] (spLawT K TS) := by
  refine Cl.fnG_of l0 hc0 sc_law (fun vs H Q E h => ?_) (fun A outer s H vs Q E hg hr h => ?_)
  · obtain ⟨a, ns, rfl, _⟩ := h
    rfl
  · obtain ⟨a, ns, rfl, hS, h63, hT, q⟩ := h
    refine ⟨_, (pss_cons (ps_for PassesOwn.never rfl (pi_range1 rfl m_range (pa_cons (pe_callB (call_max2 rfl) (by rfl) m_max (by decide +kernel) (pa_cons pe_int (pa_cons (pe_callB (call_min2 rfl) (by rfl) m_min (by decide +kernel) (pa_cons pe_int (pa_cons (pe_callB call_len_seq (by rfl) m_len (by decide +kernel) (pa_cons (pv 0) pa_nil)) pa_nil))) pa_nil))) pa_nil)) (pg_name (i := 1) sc_law.nd rfl (by first | exact Or.inl rfl | exact Or.inr rfl))
        (pss_one (ps_if (pt_not (pt_val (pe_callG G__law_right hg (hr.mono (by decide)) (by rfl) g__law_right F__law_right.kp b__law_right (pa_cons (pe_call G__law_numbers (hr.mono (by decide)) (by rfl) g__law_numbers F__law_numbers.kp b__law_numbers .nil pass0 (pa_cons (pv 0) (pa_cons (pv 1) pa_nil))) pa_nil))))
          (pss_one (ps_ret pe_bl))
          pss_nil)))
      (pss_cons (ps_set (i := 2) sc_law.nd rfl (by first | exact Or.inl rfl | exact Or.inr rfl) (pe_op (r := rRepT K) op_repT (pe_tup (pa_cons (pe_tup (pa_cons pe_str (pa_cons pe_int (pa_cons pe_int (pa_cons (pe_callTy call_tuple_of (by rfl) m_tuple (by decide +kernel) (pa_cons (pe_lc (own := [("at", 1)]) (g := (gName 1)) (tt := tYes) rfl sc_law.nd (pi_range1 rfl m_range (pa_cons pe_int pa_nil)) (blkOk_by (N := Nlaw) (sc := defScope s_law) (by decide +kernel))
      (fun _ _ _ _ _ => (pg_name (i := 1) sc_law.nd rfl (Or.inl rfl))) (fun _ _ _ _ _ => pts_nil) (fun _ _ _ _ _ => (pe_tup (pa_cons (pe_op op_fdiv (pv 1) pe_int) (pa_cons (pe_op op_mod (pv 1) pe_int) pa_nil))))) pa_nil)) pa_nil))))) pa_nil)) pe_int))
      (pss_cons (ps_set (i := 3) sc_law.nd rfl (by first | exact Or.inl rfl | exact Or.inr rfl) (pe_lst (pa_cons (pe_cmpR op_notN (pe_lamcall (k := 9) (T := TS) (TT := Cl.TMetV Ce) (c := cL) (P := PL) (by rfl) gM kM lM hcM bM sc_law_met rfl (Or.inl rfl) (Cl.metV_gives T rfl (by decide +kernel) (fun _ => rfl)) TB rfl hmT hu (hr.mono (by decide)) (lamS_by (sc := defScope s_law) (by decide +kernel)) rfl (fun _ _ _ _ _ => rfl)
      (fun A outer s H E f c' hr => (ClX.pe_cmeth (pe_glob (v := .ref C) rfl c.gP rfl) c.cr c.cm FO (hr.mono (by decide)) (Cl.passE (takes_of rfl rfl rfl rfl)) (pa_cons pe_str (pa_cons pe_int (pa_cons (pv 2) pa_nil)))))) pe_non (nomark _)) pa_nil)))
      (pss_cons (ps_expr (pe_bm PySem.F.plainAttrs_list PySem.F.slot_list_append PySem.F.type_list_append mt_append (pv 3) (pa_cons (pe_cmpR op_isN (pe_lamcall (k := 9) (T := TS) (TT := Cl.TMetV Ce) (c := cL) (P := PL) (by rfl) gM kM lM hcM bM sc_law_met rfl (Or.inl rfl) (Cl.metV_gives T rfl (by decide +kernel) (fun _ => rfl)) TB rfl hmT hu (hr.mono (by decide)) (lamS_by (sc := defScope s_law) (by decide +kernel)) rfl (fun _ _ _ _ _ => rfl)
      (fun A outer s H E f c' hr => (ClX.pe_cmeth (pe_glob (v := .ref C) rfl c.gP rfl) c.cr c.cm FO (hr.mono (by decide)) (Cl.passE (takes_of rfl rfl rfl rfl)) (pa_cons pe_str (pa_cons pe_int (pa_cons (pe_op op_catW (pv 2) (pe_slice sl_tupW (pv 2) po_none (po_some pe_int))) pa_nil)))))) pe_non (nomark _)) pa_nil)))
      (pss_cons (ps_expr (pe_bm PySem.F.plainAttrs_list PySem.F.slot_list_append PySem.F.type_list_append mt_append (pv 3) (pa_cons (pe_cmpR op_isN (pe_lamcall (k := 9) (T := TS) (TT := Cl.TMetV Ce) (c := cL) (P := PL) (by rfl) gM kM lM hcM bM sc_law_met rfl (Or.inl rfl) (Cl.metV_gives T rfl (by decide +kernel) (fun _ => rfl)) TB rfl hmT hu (hr.mono (by decide)) (lamS_by (sc := defScope s_law) (by decide +kernel)) rfl (fun _ _ _ _ _ => rfl)
      (fun A outer s H E f c' hr => (ClX.pe_cmeth (pe_glob (v := .ref C) rfl c.gP rfl) c.cr c.cm FO (hr.mono (by decide)) (Cl.passE (takes_of rfl rfl rfl rfl)) (pa_cons pe_str (pa_cons pe_int (pa_cons (pe_tup pa_nil) pa_nil)))))) pe_non (nomark _)) pa_nil)))
      (pss_cons (ps_expr (pe_bm PySem.F.plainAttrs_list PySem.F.slot_list_append PySem.F.type_list_append mt_append (pv 3) (pa_cons (pe_cmpR (Ow.op_eqO c.eq c.eqf FE (hr.mono (by decide)) (passC0 _)) (pe_lamcall (k := 9) (T := TS) (TT := Cl.TMetV Ce) (c := cL) (P := PL) (by rfl) gM kM lM hcM bM sc_law_met rfl (Or.inl rfl) (Cl.metV_gives T rfl (by decide +kernel) (fun _ => rfl)) TB rfl hmT hu (hr.mono (by decide)) (lamS_by (sc := defScope s_law) (by decide +kernel)) rfl (fun _ _ _ _ _ => rfl)
      (fun A outer s H E f c' hr => (StX.pe_makeR c.make FI (hr.mono (by decide)) rfl c.gP (Cl.passE (takes_of rfl rfl rfl rfl)) (pa_cons pe_str (pa_cons pe_int pa_nil))))) (ClX.pe_cmeth (pe_glob (v := .ref C) rfl c.gP rfl) c.cr c.cm FO (hr.mono (by decide)) Cl.passF (pa_cons pe_str (pa_cons pe_int (pa_cons (pe_tup pa_nil) pa_nil)))) (nomark _)) pa_nil)))
      (pss_cons (ps_expr (pe_bm PySem.F.plainAttrs_list PySem.F.slot_list_append PySem.F.type_list_append mt_append (pv 3) (pa_cons (pe_cmpR op_notN (pe_lamcall (k := 9) (T := TS) (TT := Cl.TMetV Ce) (c := cL) (P := PL) (by rfl) gM kM lM hcM bM sc_law_met rfl (Or.inl rfl) (Cl.metV_gives T rfl (by decide +kernel) (fun _ => rfl)) TB rfl hmT hu (hr.mono (by decide)) (lamS_by (sc := defScope s_law) (by decide +kernel)) rfl (fun _ _ _ _ _ => rfl)
      (fun A outer s H E f c' hr => (StX.pe_makeR c.make FI (hr.mono (by decide)) rfl c.gP (Cl.passE (takes_of rfl rfl rfl rfl)) (pa_cons pe_str (pa_cons pe_int (pa_cons (pe_tup (pa_cons pe_str (pa_cons pe_int (pa_cons (pe_tup (pa_cons pe_int pa_nil)) pa_nil)))) pa_nil)))))) pe_non (nomark _)) pa_nil)))
      (pss_cons (ps_expr (pe_bm PySem.F.plainAttrs_list PySem.F.slot_list_append PySem.F.type_list_append mt_append (pv 3) (pa_cons (pe_cmpR op_isN (pe_lamcall (k := 9) (T := TS) (TT := Cl.TMetV Ce) (c := cL) (P := PL) (by rfl) gM kM lM hcM bM sc_law_met rfl (Or.inl rfl) (Cl.metV_gives T rfl (by decide +kernel) (fun _ => rfl)) TB rfl hmT hu (hr.mono (by decide)) (lamS_by (sc := defScope s_law) (by decide +kernel)) rfl (fun _ _ _ _ _ => rfl)
      (fun A outer s H E f c' hr => (StX.pe_makeR c.make FI (hr.mono (by decide)) rfl c.gP (Cl.passE (takes_of rfl rfl rfl rfl)) (pa_cons pe_str (pa_cons pe_int (pa_cons (pe_tup (pa_cons pe_str (pa_cons pe_int (pa_cons (pe_tup (pa_cons pe_int pa_nil)) pa_nil)))) pa_nil)))))) pe_non (nomark _)) pa_nil)))
      (pss_cons (ps_set (i := 4) sc_law.nd rfl (by first | exact Or.inl rfl | exact Or.inr rfl) (pe_lst (pa_cons (pe_tup (pa_cons pe_str (pa_cons pe_int (pa_cons pe_int (pa_cons (pe_tup (pa_cons (pe_tup (pa_cons pe_int (pa_cons pe_int pa_nil))) (pa_cons (pe_tup (pa_cons pe_int (pa_cons pe_int pa_nil))) pa_nil))) pa_nil))))) (pa_cons (pe_tup (pa_cons pe_str (pa_cons pe_int (pa_cons pe_int (pa_cons (pe_tup (pa_cons (pe_tup (pa_cons pe_int (pa_cons pe_int pa_nil))) (pa_cons (pe_tup (pa_cons pe_int (pa_cons pe_int pa_nil))) pa_nil))) pa_nil))))) (pa_cons (pe_tup (pa_cons pe_str (pa_cons pe_int (pa_cons (pe_tup pa_nil) pa_nil)))) pa_nil)))))
      (pss_cons (ps_for PassesOwn.never rfl (pi_list (pe_op op_cat (pv 4) (pe_lst (pa_cons (pe_tup (pa_cons pe_str (pa_cons pe_int (pa_cons pe_int (pa_cons pe_str (pa_cons (pe_tup (pa_cons pe_int pa_nil)) (pa_cons pe_int pa_nil))))))) (pa_cons (pe_tup (pa_cons pe_str (pa_cons pe_int (pa_cons pe_int (pa_cons pe_str (pa_cons (pe_tup (pa_cons pe_int pa_nil)) pa_nil)))))) (pa_cons (pe_tup (pa_cons pe_str (pa_cons pe_int (pa_cons (pe_tup (pa_cons pe_int pa_nil)) pa_nil)))) pa_nil)))))) (pg_name (i := 5) sc_law.nd rfl (by first | exact Or.inl rfl | exact Or.inr rfl))
        (pss_one (ps_expr (pe_bm PySem.F.plainAttrs_list PySem.F.slot_list_append PySem.F.type_list_append mt_append (pv 3) (pa_cons (pe_cmpR op_isN (pe_lamcall (k := 9) (T := TS) (TT := Cl.TMetV Ce) (c := cL) (P := PL) (by rfl) gM kM lM hcM bM sc_law_met rfl (Or.inl rfl) (Cl.metV_gives T rfl (by decide +kernel) (fun _ => rfl)) TB rfl hmT hu (hr.mono (by decide)) (lamS_by (sc := defScope s_law) (by decide +kernel)) rfl (fun _ _ _ _ _ => rfl)
      (fun A outer s H E f c' hr => (ClX.pe_cmeth (pe_glob (v := .ref C) rfl c.gP rfl) c.cr c.cm FO (hr.mono (by decide)) (Cl.passE (takes_of rfl rfl rfl rfl)) (pa_cons pe_str (pa_cons pe_int (pa_cons (pe_tup (pa_cons (pv 5) pa_nil)) pa_nil)))))) pe_non (nomark _)) pa_nil)))))
      (pss_cons (ps_expr (pe_bm PySem.F.plainAttrs_list PySem.F.slot_list_append PySem.F.type_list_append mt_append (pv 3) (pa_cons (pe_cmpR op_notN (pe_lamcall (k := 9) (T := TS) (TT := Cl.TMetV Ce) (c := cL) (P := PL) (by rfl) gM kM lM hcM bM sc_law_met rfl (Or.inl rfl) (Cl.metV_gives T rfl (by decide +kernel) (fun _ => rfl)) TB rfl hmT hu (hr.mono (by decide)) (lamS_by (sc := defScope s_law) (by decide +kernel)) rfl (fun _ _ _ _ _ => rfl)
      (fun A outer s H E f c' hr => (StX.pe_makeR c.make FI (hr.mono (by decide)) rfl c.gP (Cl.passE (takes_of rfl rfl rfl rfl)) (pa_cons pe_str (pa_cons pe_int (pa_cons (pe_tup (pa_cons pe_str (pa_cons pe_int (pa_cons pe_int (pa_cons pe_str (pa_cons (pe_tup (pa_cons pe_int pa_nil)) pa_nil)))))) (pa_cons (pe_tup (pa_cons pe_str (pa_cons pe_int (pa_cons pe_int (pa_cons pe_str (pa_cons (pe_tup (pa_cons pe_int pa_nil)) pa_nil)))))) pa_nil))))))) pe_non (nomark _)) pa_nil)))
      (pss_one (ps_ret (pe_cmpR (op_eqH hr.units) (pv 3) (pe_op op_rep (pe_lst (pa_cons pe_bl pa_nil)) pe_int) (nomark _))))))))))))))), ?_⟩
    have hb := turns_ok (c := 8) (n := (ns.map V.int).length) (by rw [List.length_map]; exact h63) (by decide) (by decide)
    refine ⟨.ref a, rfl, a, ns.map V.int, rfl, .inl hS, 8, _, rfl, 1, _, rfl, _, rfl, hb.1, hb.2, for_range (lo := 0)
      (fun k σ H' => (∃ y1 y2 y3 y4 y5, σ = [some (.ref a), y1, y2, y3, y4, y5]) ∧ ExtN H H' ∧ Tabs TS H') ⟨⟨_, _, _, _, _, rfl⟩, ExtN.refl H, hT⟩ (fun k σ H' _ hp => ?_) (fun σ H' hp => ?_)⟩
    · obtain ⟨⟨y1, y2, y3, y4, y5, rfl⟩, e1, hT'⟩ := hp
      refine ⟨.ref a, rfl, _, rfl, a, ns, 0 + (k : Int), rfl, by omega, Xc.extn_seq e1 hS, fun p x y np => ?_⟩
      have s1 := same_new (Same.refl H') np (o := .lst [.int x, .int y, .int 0])
      exact ⟨p, rfl, ⟨_, _, _, upd_same⟩, tabs_same s1 hT', fun H3 e3 d3 t3 => ⟨true, rfl, iteF ⟨⟨_, _, _, _, _, rfl⟩, e1.trans (Xc.extd_new np e3), t3⟩⟩⟩
    · obtain ⟨⟨y1, y2, y3, y4, y5, rfl⟩, e1, hT1⟩ := hp
      clear hb e1 hS hT
      refine ⟨25, rfl, by decide, by decide, fun D0 nD => ?_⟩
      refine lc_range (lo := 0) (n := 25) (fun i H2 => Same H' H2 ∧ ∃ ps : List (Addr × List Int), H2 D0 = some (.lst (Zt.refs ps)) ∧ Zt.keys ps = (List.range i).map (fun j => [((j : Nat) : Int) / 5, ((j : Nat) : Int) % 5]) ∧ ∀ q ∈ ps, H2 q.1 = some (.tup (q.2.map V.int))) ⟨same_new (Same.refl H') nD, [], upd_same, rfl, fun q hq => nomatch hq⟩ (fun i H2 hi hq => ?_) (fun H2 hq => ?_)
      · obtain ⟨s2, ps, hl, hk, hps⟩ := hq
        have lp : ps.length = i := by
          have := congrArg List.length hk
          unfold Zt.keys at this
          rw [List.length_map, List.length_map, List.length_range] at this
          exact this
        refine ⟨rfl, _, rfl, _, 5, rfl, rfl, ⟨by decide, by decide⟩, _, rfl, _, 5, rfl, rfl, (show (0 : Int) < 5 by decide), len_ok, fun T nT => ?_⟩
        have D0T : T ≠ D0 := fun z => by
          rw [z, hl] at nT
          cases nT
        have nD2 : ∀ q ∈ ps, q.1 ≠ D0 := fun q hq z => by
          have := hps q hq
          rw [z, hl] at this
          cases this
        refine ⟨Zt.refs ps, upd_keep hl nT, by unfold Zt.refs; rw [List.length_map]; exact small1000 (by omega), same_put (same_new s2 nT) nD, ps ++ [(T, [((i : Nat) : Int) / 5, ((i : Nat) : Int) % 5])], ?_, ?_, fun q0 hq0 => ?_⟩
        · rw [upd_same]
          unfold Zt.refs
          rw [List.map_append]
          rfl
        · unfold Zt.keys at hk ⊢
          rw [List.map_append, hk, List.range_succ, List.map_append]
          rfl
        · rcases List.mem_append.mp hq0 with h0 | h0
          · exact (upd_ne (nD2 q0 h0)).trans (upd_keep (hps q0 h0) nT)
          · rw [List.mem_singleton.mp h0, upd_ne D0T]
            rw [Int.zero_add]
            exact upd_same
      · obtain ⟨s2, ps, hl, hk, hps⟩ := hq
        refine ⟨D0, _, rfl, .inl ⟨.inl (.inl hl), fun u0 nu => ⟨len_ok, fun v0 nv => ⟨len_ok, fun w0 nw => ⟨w0, 12, [V.ref v0], rfl, rfl, .inl (.inl upd_same), List.cons_ne_nil _ _, by decide, by decide, (by show (1 : Nat) ≤ 1000; decide), fun W nW => ?_⟩⟩⟩⟩⟩
        have r1 := same_new (Same.refl H2) nu (o := .tup (Zt.refs ps))
        have r2 := same_new (Same.refl _) nv (o := .tup [.str "go", .int 0, .int 5, .ref u0])
        have r3 := same_new (Same.refl _) nw (o := .tup [.ref v0])
        have r4 := same_new (Same.refl _) nW (o := .tup (List.replicate (12 : Int).toNat [V.ref v0]).flatten)
        have sW := ((r1.trans r2).trans r3).trans r4
        have dv : D _ (.ref v0) moveW := .tup (ds := [.str "go", .int 0, .int 5, .tuple (k25.map Zt.rowD)]) upd_same (.cons (.str _) (.cons (.int _) (.cons (.int _) (.cons (.tup (r2 _ _ upd_same) (by
          have := rows_vals (H := H2) hps
          rw [hk] at this
          exact (this.same r1).same r2)) .nil))))
        have dv4 := (dv.same r3).same r4
        have dW : D _ (.ref W) (wideD 12) := .tup (ds := List.replicate 12 moveW) upd_same (dall_rep dv4 12)
        have TW := tabs_same (s2.trans sW) hT1
        have e1 : ExtN H' (upd (upd (upd (upd H2 u0 (.tup (Zt.refs ps))) v0 (.tup [.str "go", .int 0, .int 5, .ref u0])) w0 (.tup [.ref v0])) W (.tup (List.replicate (12 : Int).toNat [V.ref v0]).flatten)) := ExtN.of (s2.trans sW)
        show tSeq _ _ _ [_, _, some (.ref W), _, _, _] (upd (upd (upd (upd H2 u0 (.tup (Zt.refs ps))) v0 (.tup [.str "go", .int 0, .int 5, .ref u0])) w0 (.tup [.ref v0])) W (.tup (List.replicate (12 : Int).toNat [V.ref v0]).flatten))
        generalize upd (upd (upd (upd H2 u0 (.tup (Zt.refs ps))) v0 (.tup [.str "go", .int 0, .int 5, .ref u0])) w0 (.tup [.ref v0])) W (.tup (List.replicate (12 : Int).toNat [V.ref v0]).flatten) = G1 at dv4 dW TW
        -- told = [made is not None]
        refine ⟨TW, fun G2 e2 T2 => ⟨rfl, _, rfl, ?_⟩⟩
        dsimp only [tNil]
        have ext0 : ∀ {G G' : Hp}, ExtN G G' → Ext0 G G' := fun e b o h n => e b o h n
        refine of_made (dc := .str "p") (dp := .int 6) (dm := wideD 12) (.str _) (.int _) (D.ext (ext0 e2) dW) (by decide +kernel) rfl (wide_sm 12 (by decide)) due12 fun G3 a1 s3 _ => ⟨rfl, len_ok, fun L nL => ?_⟩
        have hL1 : upd G3 L (.lst [V.bl !decide (V.ref a1 = V.non)]) L = some (.lst [V.bl true]) := upd_same
        have W1 : D _ (.ref W) (wideD 12) := ((D.ext (ext0 e2) dW).same s3).same (same_new (Same.refl G3) nL (o := .lst [V.bl !decide (V.ref a1 = V.non)]))
        have WL : W ≠ L := fun z => by
          cases W1 with
          | tup h _ =>
            rw [z, hL1] at h
            cases h
        have TA := tabs_same (s3.trans (same_new (Same.refl G3) nL (o := .lst [V.bl !decide (V.ref a1 = V.non)]))) T2
        show tSeq _ _ _ [_, _, _, some (.ref L), _, _] (upd G3 L (.lst [V.bl !decide (V.ref a1 = V.non)]))
        generalize upd G3 L (.lst [V.bl !decide (V.ref a1 = V.non)]) = GA at hL1 W1 TA
        clear s3 nL e2 T2 TW dW dv4
        -- wide + wide[:1]
        refine ⟨_, rfl, .inl ⟨rfl, _, .inl (.inl hL1)⟩, TA, fun G2 e2 T2 => ⟨rfl, ?_⟩⟩
        have W2 := D.ext (ext0 e2) W1
        cases W2 with
        | tup hW aW =>
        rename_i xsW
        have lW : xsW.length = 12 := by
          have := aW.len
          rw [List.length_replicate] at this
          exact this
        refine ⟨_, rfl, _, rfl, 1, rfl, W, xsW, rfl, hW, fun q1 G3 s3 g3 => ⟨W, q1, _, _, rfl, rfl, s3 _ _ hW, g3, ?_, fun q2 G4 s4 g4 => ?_⟩⟩
        · rw [cut_lo (by decide) (by omega)]
          exact Nat.le_of_lt (small1000 (by rw [List.length_take]; omega))
        · rw [cut_lo (by decide) (by omega)] at g4
          dsimp only [tNil]
          have d13 : D G4 (.ref q2) (wideD 13) := by
            have a4 := (aW.same s3).same s4
            have := DAll.app (a4.take 1) a4
            exact .tup g4 this
          refine of_not (dc := .str "p") (dp := .int 6) (dm := wideD 13) (.str _) (.int _) d13 (by decide +kernel) rfl (wide_sm 13 (by decide)) due13 fun G5 s5 => ⟨rfl, ?_⟩
          have hL2 := s5 _ _ (s4 _ _ (s3 _ _ (Xc.ExtN.lst e2 hL1)))
          refine ⟨L, _, _, rfl, rfl, hL2, small1000 (Nat.le_of_ble_eq_true rfl), ?_⟩
          have TB2 := tabs_upl (ys := [V.bl true] ++ [V.bl (decide (V.non = V.non))]) hL2 (tabs_same ((s3.trans s4).trans s5) T2)
          have hLB : upd G5 L (.lst ([V.bl true] ++ [V.bl (decide (V.non = V.non))])) L = some (.lst [V.bl true, V.bl true]) := upd_same
          generalize upd G5 L (.lst ([V.bl true] ++ [V.bl (decide (V.non = V.non))])) = GB at TB2 hLB
          clear s3 s4 s5 e2 T2 hL2 g3 g4 d13
          -- of('p', 7, ())
          refine ⟨_, rfl, .inl ⟨rfl, _, .inl (.inl hLB)⟩, TB2, fun G2 e2 T2 => ⟨rfl, len_ok, fun t0 nt0 => ?_⟩⟩
          have s3 := same_new (Same.refl G2) nt0 (o := .tup [])
          dsimp only [tNil]
          refine of_not (dc := .str "p") (dp := .int 7) (dm := .tuple []) (.str _) (.int _) (.tup upd_same .nil) (by decide +kernel) rfl rfl due7 fun G5 s5 => ⟨rfl, ?_⟩
          have hL2 := s5 _ _ (s3 _ _ (Xc.ExtN.lst e2 hLB))
          refine ⟨L, _, _, rfl, rfl, hL2, small1000 (Nat.le_of_ble_eq_true rfl), ?_⟩
          have TC2 := tabs_upl (ys := [V.bl true, V.bl true] ++ [V.bl (decide (V.non = V.non))]) hL2 (tabs_same (s3.trans s5) T2)
          have hLC : upd G5 L (.lst ([V.bl true, V.bl true] ++ [V.bl (decide (V.non = V.non))])) L = some (.lst [V.bl true, V.bl true, V.bl true]) := upd_same
          generalize upd G5 L (.lst ([V.bl true, V.bl true] ++ [V.bl (decide (V.non = V.non))])) = GC at TC2 hLC
          clear s3 s5 e2 T2 hL2
          -- Procedure('p', 1) == of('p', 1, ())
          refine ⟨_, rfl, .inl ⟨rfl, _, .inl (.inl hLC)⟩, TC2, fun G2 e2 T2 => ?_⟩
          refine met_make (z := "p") (p := 1) (ms := []) (fun R k => k G2 [] (Same.refl G2) .nil) (by decide +kernel) rfl (by decide) (fun _ G3 a3 s3 pr3 => ?_) (fun h => absurd h (by decide +kernel))
          refine ⟨rfl, len_ok, fun t0 nt0 => ?_⟩
          have s4 := same_new (Same.refl G3) nt0 (o := .tup [])
          dsimp only [tNil]
          refine of_made (dc := .str "p") (dp := .int 1) (dm := .tuple []) (.str _) (.int _) (.tup upd_same .nil) (by decide +kernel) rfl rfl (by decide +kernel) fun G5 a5 s5 pr5 => ?_
          obtain ⟨z5, p5, ez, ep, pr5⟩ := pr5
          cases ez
          cases ep
          have pr35 := (pr3.same s4).same s5
          obtain ⟨dx3, t3, xs3, h31, h32, h33, gd3⟩ := pr35
          obtain ⟨dx5, t5, xs5, h51, h52, h53, gd5⟩ := pr5
          refine ⟨a3, dx3, _, .ref C, rfl, h31, .base (.ins h51 c.cls c.c1 c.c2 c.c3 c.c4), by unfold PySem.W.notFirst; simp, ⟨a3, .ref a5, _, _, _, rfl, ⟨dx3, t3, xs3, h31, h32, h33, gd3⟩, .inl ⟨a5, _, _, _, rfl, ⟨dx5, t5, xs5, h51, h52, h53, gd5⟩, ?_⟩⟩⟩
          have hL2 := s5 _ _ (s4 _ _ (s3 _ _ (Xc.ExtN.lst e2 hLC)))
          refine ⟨L, _, _, rfl, rfl, hL2, small1000 (Nat.le_of_ble_eq_true rfl), ?_⟩
          have eqT : ∀ {b : Bool}, b = true → ∀ {n : List V}, upd G5 L (.lst (n ++ [V.bl b])) L = some (.lst (n ++ [V.bl true])) := fun h => by
            subst h
            exact upd_same
          have TD2 := tabs_upl (ys := [V.bl true, V.bl true, V.bl true] ++ [V.bl (decide (("p" : Str) = ("p" : Str)) && decide ((1 : Int) = 1) && PyData.eqv (.tuple []) (.tuple (movesOf (.tuple []))))]) hL2 (tabs_same ((s3.trans s4).trans s5) T2)
          have hLD := eqT (b := (decide (("p" : Str) = ("p" : Str)) && decide ((1 : Int) = 1) && PyData.eqv (.tuple []) (.tuple (movesOf (.tuple []))))) (by decide +kernel) (n := [V.bl true, V.bl true, V.bl true])
          show tSeq _ _ _ _ (upd G5 L (.lst ([V.bl true, V.bl true, V.bl true] ++ [V.bl (decide (("p" : Str) = ("p" : Str)) && decide ((1 : Int) = 1) && PyData.eqv (.tuple []) (.tuple (movesOf (.tuple []))))])))
          generalize upd G5 L (.lst ([V.bl true, V.bl true, V.bl true] ++ [V.bl (decide (("p" : Str) = ("p" : Str)) && decide ((1 : Int) = 1) && PyData.eqv (.tuple []) (.tuple (movesOf (.tuple []))))])) = GD at TD2 hLD
          clear eqT s3 s4 s5 e2 T2 hL2 h31 h32 h33 gd3 h51 h52 h53 gd5
          -- Procedure('p', 1, ('leave', 0, (4,)))
          refine ⟨_, rfl, .inl ⟨rfl, _, .inl (.inl hLD)⟩, TD2, fun G2 e2 T2 => ?_⟩
          refine met_make (z := "p") (p := 1) (ms := [mvL 4]) (fun R k => ⟨len_ok, fun t1 n1 => ⟨len_ok, fun t2 n2 => k _ [.ref t2] (same_new (same_new (Same.refl G2) n1) n2) (.cons (.tup upd_same (.cons (.str _) (.cons (.int _) (.cons (.tup (upd_keep upd_same n2) (.cons (.int _) .nil)) .nil)))) .nil)⟩⟩) (by decide +kernel) (by decide +kernel) (by decide) (fun _ G3 a3 s3 pr3 => ⟨rfl, ?_⟩) (fun h => absurd h (by decide +kernel))
          have hL2 := s3 _ _ (Xc.ExtN.lst e2 hLD)
          refine ⟨L, _, _, rfl, rfl, hL2, small1000 (Nat.le_of_ble_eq_true rfl), ?_⟩
          have TE2 := tabs_upl (ys := [V.bl true, V.bl true, V.bl true, V.bl true] ++ [V.bl (!decide (V.ref a3 = V.non))]) hL2 (tabs_same s3 T2)
          have hLE : upd G3 L (.lst ([V.bl true, V.bl true, V.bl true, V.bl true] ++ [V.bl (!decide (V.ref a3 = V.non))])) L = some (.lst [V.bl true, V.bl true, V.bl true, V.bl true, V.bl true]) := upd_same
          show tSeq _ _ _ _ (upd G3 L (.lst ([V.bl true, V.bl true, V.bl true, V.bl true] ++ [V.bl (!decide (V.ref a3 = V.non))])))
          generalize upd G3 L (.lst ([V.bl true, V.bl true, V.bl true, V.bl true] ++ [V.bl (!decide (V.ref a3 = V.non))])) = GE at TE2 hLE
          clear s3 e2 T2 hL2 pr3
          -- Procedure('p', 1, ('leave', 0, (5,)))
          refine ⟨_, rfl, .inl ⟨rfl, _, .inl (.inl hLE)⟩, TE2, fun G2 e2 T2 => ?_⟩
          refine met_make (z := "p") (p := 1) (ms := [mvL 5]) (fun R k => ⟨len_ok, fun t1 n1 => ⟨len_ok, fun t2 n2 => k _ [.ref t2] (same_new (same_new (Same.refl G2) n1) n2) (.cons (.tup upd_same (.cons (.str _) (.cons (.int _) (.cons (.tup (upd_keep upd_same n2) (.cons (.int _) .nil)) .nil)))) .nil)⟩⟩) (by decide +kernel) (by decide +kernel) (by decide) (fun h => absurd h (by decide +kernel)) (fun _ G3 s3 => ⟨rfl, ?_⟩)
          have hL2 := s3 _ _ (Xc.ExtN.lst e2 hLE)
          refine ⟨L, _, _, rfl, rfl, hL2, small1000 (Nat.le_of_ble_eq_true rfl), ?_⟩
          have TF2 := tabs_upl (ys := [V.bl true, V.bl true, V.bl true, V.bl true, V.bl true] ++ [V.bl (decide (V.non = V.non))]) hL2 (tabs_same s3 T2)
          have hLF : upd G3 L (.lst ([V.bl true, V.bl true, V.bl true, V.bl true, V.bl true] ++ [V.bl (decide (V.non = V.non))])) L = some (.lst [V.bl true, V.bl true, V.bl true, V.bl true, V.bl true, V.bl true]) := upd_same
          show tSeq _ _ _ _ (upd G3 L (.lst ([V.bl true, V.bl true, V.bl true, V.bl true, V.bl true] ++ [V.bl (decide (V.non = V.non))])))
          generalize upd G3 L (.lst ([V.bl true, V.bl true, V.bl true, V.bl true, V.bl true] ++ [V.bl (decide (V.non = V.non))])) = GF at TF2 hLF
          clear s3 e2 T2 hL2
          -- some
          refine ⟨len_ok, fun i1 k1 => ⟨len_ok, fun i2 k2 => ⟨len_ok, fun i3 k3 => ⟨len_ok, fun i4 k4 => ⟨len_ok, fun j1 l1 => ⟨len_ok, fun j2 l2 => ⟨len_ok, fun j3 l3 => ⟨len_ok, fun j4 l4 => ⟨len_ok, fun j5 l5 => ⟨len_ok, fun j6 l6 => ⟨len_ok, fun M1 nM1 => ?_⟩⟩⟩⟩⟩⟩⟩⟩⟩⟩⟩
          refine ⟨_, rfl, len_ok, fun i5 k5 => ⟨len_ok, fun i6 k6 => ⟨len_ok, fun j7 l7 => ⟨len_ok, fun j8 l8 => ⟨len_ok, fun j9 l9 => ⟨len_ok, fun jA lA => ⟨len_ok, fun M2 nM2 => ⟨M1, M2, _, _, rfl, rfl, (by repeat (first | exact upd_same | refine upd_keep ?_ (by assumption))), upd_same, Nat.le_of_lt (small1000 (by show 3 + 3 ≤ 1000; decide)), fun M nM => ?_⟩⟩⟩⟩⟩⟩⟩⟩
          generalize hGM : upd _ M _ = GM
          have hM : GM M = some (.lst [.ref i4, .ref j4, .ref j6, .ref i6, .ref j8, .ref jA]) := by
            rw [← hGM]
            exact upd_same
          have sM : Same GF GM := by
            rw [← hGM]
            (repeat (refine same_new ?_ (by assumption)))
            exact Same.refl GF
          have dS0 : DAll GM [.ref i4, .ref j4, .ref j6, .ref i6, .ref j8, .ref jA] six := (.cons (.tup (by rw [← hGM]; repeat (first | exact upd_same | refine upd_keep ?_ (by assumption))) (.cons (.str _) (.cons (.int _) (.cons (.int _) (.cons (.tup (by rw [← hGM]; repeat (first | exact upd_same | refine upd_keep ?_ (by assumption))) (.cons (.tup (by rw [← hGM]; repeat (first | exact upd_same | refine upd_keep ?_ (by assumption))) (.cons (.int _) (.cons (.int _) .nil))) (.cons (.tup (by rw [← hGM]; repeat (first | exact upd_same | refine upd_keep ?_ (by assumption))) (.cons (.int _) (.cons (.int _) .nil))) .nil))) .nil))))) (.cons (.tup (by rw [← hGM]; repeat (first | exact upd_same | refine upd_keep ?_ (by assumption))) (.cons (.str _) (.cons (.int _) (.cons (.int _) (.cons (.tup (by rw [← hGM]; repeat (first | exact upd_same | refine upd_keep ?_ (by assumption))) (.cons (.tup (by rw [← hGM]; repeat (first | exact upd_same | refine upd_keep ?_ (by assumption))) (.cons (.int _) (.cons (.int _) .nil))) (.cons (.tup (by rw [← hGM]; repeat (first | exact upd_same | refine upd_keep ?_ (by assumption))) (.cons (.int _) (.cons (.int _) .nil))) .nil))) .nil))))) (.cons (.tup (by rw [← hGM]; repeat (first | exact upd_same | refine upd_keep ?_ (by assumption))) (.cons (.str _) (.cons (.int _) (.cons (.tup (by rw [← hGM]; repeat (first | exact upd_same | refine upd_keep ?_ (by assumption))) .nil) .nil)))) (.cons (.tup (by rw [← hGM]; repeat (first | exact upd_same | refine upd_keep ?_ (by assumption))) (.cons (.str _) (.cons (.int _) (.cons (.int _) (.cons (.str _) (.cons (.tup (by rw [← hGM]; repeat (first | exact upd_same | refine upd_keep ?_ (by assumption))) (.cons (.int _) .nil)) (.cons (.int _) .nil))))))) (.cons (.tup (by rw [← hGM]; repeat (first | exact upd_same | refine upd_keep ?_ (by assumption))) (.cons (.str _) (.cons (.int _) (.cons (.int _) (.cons (.str _) (.cons (.tup (by rw [← hGM]; repeat (first | exact upd_same | refine upd_keep ?_ (by assumption))) (.cons (.int _) .nil)) .nil)))))) (.cons (.tup (by rw [← hGM]; repeat (first | exact upd_same | refine upd_keep ?_ (by assumption))) (.cons (.str _) (.cons (.int _) (.cons (.tup (by rw [← hGM]; repeat (first | exact upd_same | refine upd_keep ?_ (by assumption))) (.cons (.int _) .nil)) .nil)))) .nil))))))
          clear hGM k1 k2 k3 k4 k5 k6 l1 l2 l3 l4 l5 l6 l7 l8 l9 lA nM1 nM2 nM
          have hLG := sM _ _ hLF
          have TG := tabs_same sM TF2
          have ML : M ≠ L := fun z => by
            rw [z, hLG] at hM
            cases hM
          have dS := nl_hideAll hLG (dS0.same hide_none) (by decide +kernel : nlAll six = true)
          refine ⟨M, rfl, ⟨_, .inl (.inl hM)⟩, for_list (xs := [.ref i4, .ref j4, .ref j6, .ref i6, .ref j8, .ref jA]) (fun i σ G => (∃ y5, σ = [some (.ref a), y1, some (.ref W), some (.ref L), some (.ref M1), y5]) ∧ Ext0 (hide [L] GM) (hide [L] G) ∧ Tabs TS G ∧ G L = some (.lst (List.replicate (6 + i) (V.bl true)))) ⟨⟨_, rfl⟩, Ext0.of (Same.refl _), TG, hLG⟩
            (fun i σ G _ hq => .inl (.inl ((hide_in (hq.2.1 M _ (hide_some (by simpa using ML) hM) (fun _ z => by cases z))).2))) (fun i x σ G hx hq => ?_) (fun σ G hq => ?_)⟩
          · obtain ⟨⟨y6, rfl⟩, eG, TG', hL'⟩ := hq
            have hi : i < 6 := (List.getElem?_eq_some_iff.mp hx).1
            obtain ⟨d, hdi, hxd⟩ := dS.get hx
            obtain ⟨ok1, ok2⟩ := six_ok d (List.mem_of_getElem? hdi)
            refine ⟨_, rfl, .inl ⟨rfl, _, .inl (.inl hL')⟩, TG', fun G2 e2 T2 => ⟨rfl, _, rfl, len_ok, fun t nt => ?_⟩⟩
            dsimp only [tNil]
            have d2 : D G2 x d := D.ext (ext0 e2) ((D.ext eG hxd).same hide_sub)
            have s3 := same_new (Same.refl G2) nt (o := .tup [x])
            refine of_not (dc := .str "p") (dp := .int 1) (dm := .tuple [d]) (.str _) (.int _) (.tup upd_same (.cons (d2.same s3) .nil)) (by decide +kernel) rfl ok1 ok2 fun G5 s5 => ⟨rfl, ?_⟩
            have hL2 := s5 _ _ (s3 _ _ (Xc.ExtN.lst e2 hL'))
            refine ⟨L, _, _, rfl, rfl, hL2, by rw [List.length_replicate]; exact small1000 (by omega), ⟨_, rfl⟩, ((eG.trans (hide_extn e2)).trans (Ext0.of (hide_same (s3.trans s5)))).trans (Ext0.of hide_upd), tabs_upl hL2 (tabs_same (s3.trans s5) T2), ?_⟩
            rw [upd_same, show 6 + (i + 1) = (6 + i) + 1 from rfl, List.replicate_succ']
            rfl
          · obtain ⟨⟨y6, rfl⟩, eG, TG', hL'⟩ := hq
            refine ⟨_, rfl, .inl ⟨rfl, _, .inl (.inl hL')⟩, TG', fun G2 e2 T2 => ?_⟩
            refine met_make (z := "p") (p := 2) (ms := two) (fun R k => ⟨len_ok, fun t1 n1 => ⟨len_ok, fun t2 n2 => ⟨len_ok, fun t3 n3 => ⟨len_ok, fun t4 n4 => k _ [.ref t2, .ref t4] (same_new (same_new (same_new (same_new (Same.refl G2) n1) n2) n3) n4) (.cons (.tup (by repeat (first | exact upd_same | refine upd_keep ?_ (by assumption))) (.cons (.str _) (.cons (.int _) (.cons (.int _) (.cons (.str _) (.cons (.tup (by repeat (first | exact upd_same | refine upd_keep ?_ (by assumption))) (.cons (.int _) .nil)) .nil)))))) (.cons (.tup (by repeat (first | exact upd_same | refine upd_keep ?_ (by assumption))) (.cons (.str _) (.cons (.int _) (.cons (.int _) (.cons (.str _) (.cons (.tup (by repeat (first | exact upd_same | refine upd_keep ?_ (by assumption))) (.cons (.int _) .nil)) .nil)))))) .nil))⟩⟩⟩⟩) (by decide +kernel) (by decide +kernel) (by decide) (fun _ G3 a3 s3 pr3 => ⟨rfl, ?_⟩) (fun h => absurd h (by decide +kernel))
            have hL2 := s3 _ _ (Xc.ExtN.lst e2 hL')
            refine ⟨L, _, _, rfl, rfl, hL2, by rw [List.length_replicate]; exact small1000 (by show (12 : Nat) ≤ 1000; decide), ?_⟩
            have hLZ : upd G3 L (.lst (List.replicate (6 + 6) (V.bl true) ++ [V.bl (!decide (V.ref a3 = V.non))])) L = some (.lst (List.replicate 13 (V.bl true))) := upd_same
            refine ⟨_, rfl, len_ok, fun u1 v1 => ⟨u1, 13, _, rfl, rfl, upd_same, by decide, by decide, Nat.le_of_lt (small1000 (by show 1 * 13 ≤ 1000; decide)), fun u2 v2 => ⟨.list (List.replicate 13 (.bool true)), .list (List.replicate 13 (.bool true)), .lst (upd_keep (upd_keep hLZ v1) v2) (dall_rep (.bl true) 13), .lst upd_same (dall_rep (.bl true) 13), pl13.1, pl13.2, ?_⟩⟩⟩
            rw [eq13]
            exact q _
end
end My

namespace My
open PySem PySem.Spec PyProof.Rows L2 RZ Sh Zt Xc
open LamX (Tabs ExtN TabB pe_lamcall lamS_by)
theorem raw0 {P : Program} {w : World} {K : PySem.W.Frag} {mg : Str → Option Value} {base : Heap} {CX : CXT} {k : Nat} {f : Addr} {sp : Sp} {fd : FuncData} {ps : List Str} (G : FnOk P w K mg base CX k f fd ps sp) (b : Binds K fd ps []) : FnR P w K mg base CX k f sp := by
  have := G.raw b .nil
  intro A outer s H us vs Q E hr e0 r h
  exact this A outer s H us vs Q E hr e0 r (by simpa using h)
theorem all_mk {l : PySem.W.OpenLaw} {w : World} {K : PySem.W.Frag} {h : Heap} {mg : Str → Option Value} {fa f0 f1 f2 f3 f4 f5 f6 f7 f8 f9 f10 f11 f12 f13 f14 f15 f16 f17 f18 f19 f20 f21 f22 f23 f24 f25 f26 f27 f28 f29 f30 cR PR cL PL C Ce fI fO pO fE fL fS p1 g1 p2 g2 p3 g3 : Addr} (X : K.In h) (G : h.Ns mainGlobals mg) (hfa : mg "law" = some (.ref fa))
    (tabs : ∀ y ∈ (["_law_right", "law"] : List Str), ∀ c P, PySem.W.tabIn K y = some (c, P) → PySem.W.CodeHd h c P ∧ h.get? P = some (PySem.W.tabObj #[]))
    {od0 an0 od1 an1 od2 an2 od3 an3 od4 an4 od5 an5 od6 an6 od7 an7 od8 an8 od9 an9 od10 an10 od11 an11 od12 an12 od13 an13 od14 an14 od15 an15 od16 an16 od17 an17 od18 an18 od19 an19 od20 an20 od21 an21 od22 an22 od23 an23 od24 an24 od25 an25 od26 an26 od27 an27 od28 an28 od29 an29 od30 an30 : Option Addr} {sl0 sl1 sl2 sl3 sl4 sl5 sl6 sl7 sl8 sl9 sl10 sl11 sl12 sl13 sl14 sl15 sl16 sl17 sl18 sl19 sl20 sl21 sl22 sl23 sl24 sl25 sl26 sl27 sl28 sl29 sl30 : Array (Option Value)} {oc0 kV0 dc0 pm0 ct0 cd0 oc1 kV1 dc1 pm1 ct1 cd1 oc2 kV2 dc2 pm2 ct2 cd2 oc3 kV3 dc3 pm3 ct3 cd3 oc4 kV4 dc4 pm4 ct4 cd4 oc5 kV5 dc5 pm5 ct5 cd5 oc6 kV6 dc6 pm6 ct6 cd6 oc7 kV7 dc7 pm7 ct7 cd7 oc8 kV8 dc8 pm8 ct8 cd8 oc9 kV9 dc9 pm9 ct9 cd9 oc10 kV10 dc10 pm10 ct10 cd10 oc11 kV11 dc11 pm11 ct11 cd11 oc12 kV12 dc12 pm12 ct12 cd12 oc13 kV13 dc13 pm13 ct13 cd13 oc14 kV14 dc14 pm14 ct14 cd14 oc15 kV15 dc15 pm15 ct15 cd15 oc16 kV16 dc16 pm16 ct16 cd16 oc17 kV17 dc17 pm17 ct17 cd17 oc18 kV18 dc18 pm18 ct18 cd18 oc19 kV19 dc19 pm19 ct19 cd19 oc20 kV20 dc20 pm20 ct20 cd20 oc21 kV21 dc21 pm21 ct21 cd21 oc22 kV22 dc22 pm22 ct22 cd22 oc23 kV23 dc23 pm23 ct23 cd23 oc24 kV24 dc24 pm24 ct24 cd24 oc25 kV25 dc25 pm25 ct25 cd25 oc26 kV26 dc26 pm26 ct26 cd26 oc27 kV27 dc27 pm27 ct27 cd27 oc28 kV28 dc28 pm28 ct28 cd28 oc29 kV29 dc29 pm29 ct29 oc30 kV30 dc30 pm30 ct30 : Value}
    {e_cR e_cL : Value} {dd_cR dd_cL : Option Addr} {vs_cR vs_cL : Array Value} {sc_cR sc_cL : Array (Option Value)}
    {tk_LONGEST_NAME tk_MOST_MODES tk_MOST_POINTS tk_MOST_MOVES : Tok}
    {odmI anmI odmO anmO odm1 anm1 odm2 anm2 odm3 anm3 odmE anmE odmL anmL odmS anmS : Option Addr} {slmI slmO slm1 slm2 slm3 slmE slmL slmS : Array (Option Value)} {ocmI kVmI dcmI pmmI cdmI ctmI ocmO kVmO dcmO pmmO cdmO ctmO ocm1 kVm1 dcm1 pmm1 cdm1 ctm1 ocm2 kVm2 dcm2 pmm2 cdm2 ctm2 ocm3 kVm3 dcm3 pmm3 cdm3 ctm3 ocmE kVmE dcmE pmmE cdmE ctmE ocmL kVmL dcmL pmmL cdmL ctmL ocmS kVmS dcmS pmmS cdmS ctmS : Value} {rsO rs1 rs2 rs3 : List Value}
    (a0 : PySem.W.nsIn K mainGlobals "is_name" = some (some (.ref f0))) (l0 : K.lookup f0 = some ⟨oc0, od0, .func (PySem.W.fnOf "is_name" "is_name" (defArgs s_is_name) (defBody s_is_name) (defScope s_is_name) .none kV0 dc0 pm0 an0 cd0 ct0), sl0⟩) (c0 : PySem.W.codeIn K cd0 "is_name" = true) (k0 : PySem.W.keepIn K (.ref f0) = true)
    (a1 : PySem.W.nsIn K mainGlobals "is_integer" = some (some (.ref f1))) (l1 : K.lookup f1 = some ⟨oc1, od1, .func (PySem.W.fnOf "is_integer" "is_integer" (defArgs s_is_integer) (defBody s_is_integer) (defScope s_is_integer) .none kV1 dc1 pm1 an1 cd1 ct1), sl1⟩) (c1 : PySem.W.codeIn K cd1 "is_integer" = true) (k1 : PySem.W.keepIn K (.ref f1) = true)
    (a2 : PySem.W.nsIn K mainGlobals "is_index" = some (some (.ref f2))) (l2 : K.lookup f2 = some ⟨oc2, od2, .func (PySem.W.fnOf "is_index" "is_index" (defArgs s_is_index) (defBody s_is_index) (defScope s_is_index) .none kV2 dc2 pm2 an2 cd2 ct2), sl2⟩) (c2 : PySem.W.codeIn K cd2 "is_index" = true) (k2 : PySem.W.keepIn K (.ref f2) = true)
    (a3 : PySem.W.nsIn K mainGlobals "ascends" = some (some (.ref f3))) (l3 : K.lookup f3 = some ⟨oc3, od3, .func (PySem.W.fnOf "ascends" "ascends" (defArgs s_ascends) (defBody s_ascends) (defScope s_ascends) .none kV3 dc3 pm3 an3 cd3 ct3), sl3⟩) (c3 : PySem.W.codeIn K cd3 "ascends" = true) (k3 : PySem.W.keepIn K (.ref f3) = true)
    (a4 : PySem.W.nsIn K mainGlobals "is_mode_set" = some (some (.ref f4))) (l4 : K.lookup f4 = some ⟨oc4, od4, .func (PySem.W.fnOf "is_mode_set" "is_mode_set" (defArgs s_is_mode_set) (defBody s_is_mode_set) (defScope s_is_mode_set) .none kV4 dc4 pm4 an4 cd4 ct4), sl4⟩) (c4 : PySem.W.codeIn K cd4 "is_mode_set" = true) (k4 : PySem.W.keepIn K (.ref f4) = true)
    (a5 : PySem.W.nsIn K mainGlobals "is_pair" = some (some (.ref f5))) (l5 : K.lookup f5 = some ⟨oc5, od5, .func (PySem.W.fnOf "is_pair" "is_pair" (defArgs s_is_pair) (defBody s_is_pair) (defScope s_is_pair) .none kV5 dc5 pm5 an5 cd5 ct5), sl5⟩) (c5 : PySem.W.codeIn K cd5 "is_pair" = true) (k5 : PySem.W.keepIn K (.ref f5) = true)
    (a6 : PySem.W.nsIn K mainGlobals "is_pair_set" = some (some (.ref f6))) (l6 : K.lookup f6 = some ⟨oc6, od6, .func (PySem.W.fnOf "is_pair_set" "is_pair_set" (defArgs s_is_pair_set) (defBody s_is_pair_set) (defScope s_is_pair_set) .none kV6 dc6 pm6 an6 cd6 ct6), sl6⟩) (c6 : PySem.W.codeIn K cd6 "is_pair_set" = true) (k6 : PySem.W.keepIn K (.ref f6) = true)
    (a7 : PySem.W.nsIn K mainGlobals "is_move" = some (some (.ref f7))) (l7 : K.lookup f7 = some ⟨oc7, od7, .func (PySem.W.fnOf "is_move" "is_move" (defArgs s_is_move) (defBody s_is_move) (defScope s_is_move) .none kV7 dc7 pm7 an7 cd7 ct7), sl7⟩) (c7 : PySem.W.codeIn K cd7 "is_move" = true) (k7 : PySem.W.keepIn K (.ref f7) = true)
    (a8 : PySem.W.nsIn K mainGlobals "names_task" = some (some (.ref f8))) (l8 : K.lookup f8 = some ⟨oc8, od8, .func (PySem.W.fnOf "names_task" "names_task" (defArgs s_names_task) (defBody s_names_task) (defScope s_names_task) .none kV8 dc8 pm8 an8 cd8 ct8), sl8⟩) (c8 : PySem.W.codeIn K cd8 "names_task" = true) (k8 : PySem.W.keepIn K (.ref f8) = true)
    (a9 : PySem.W.nsIn K mainGlobals "is_number" = some (some (.ref f9))) (l9 : K.lookup f9 = some ⟨oc9, od9, .func (PySem.W.fnOf "is_number" "is_number" (defArgs s_is_number) (defBody s_is_number) (defScope s_is_number) .none kV9 dc9 pm9 an9 cd9 ct9), sl9⟩) (c9 : PySem.W.codeIn K cd9 "is_number" = true) (k9 : PySem.W.keepIn K (.ref f9) = true)
    (a10 : PySem.W.nsIn K mainGlobals "are_moves" = some (some (.ref f10))) (l10 : K.lookup f10 = some ⟨oc10, od10, .func (PySem.W.fnOf "are_moves" "are_moves" (defArgs s_are_moves) (defBody s_are_moves) (defScope s_are_moves) .none kV10 dc10 pm10 an10 cd10 ct10), sl10⟩) (c10 : PySem.W.codeIn K cd10 "are_moves" = true) (k10 : PySem.W.keepIn K (.ref f10) = true)
    (a11 : PySem.W.nsIn K mainGlobals "_law_numbers" = some (some (.ref f11))) (l11 : K.lookup f11 = some ⟨oc11, od11, .func (PySem.W.fnOf "_law_numbers" "_law_numbers" (defArgs s_law_numbers) (defBody s_law_numbers) (defScope s_law_numbers) .none kV11 dc11 pm11 an11 cd11 ct11), sl11⟩) (c11 : PySem.W.codeIn K cd11 "_law_numbers" = true) (k11 : PySem.W.keepIn K (.ref f11) = true)
    (a12 : PySem.W.nsIn K mainGlobals "_law_cast" = some (some (.ref f12))) (l12 : K.lookup f12 = some ⟨oc12, od12, .func (PySem.W.fnOf "_law_cast" "_law_cast" (defArgs s_law_cast) (defBody s_law_cast) (defScope s_law_cast) .none kV12 dc12 pm12 an12 cd12 ct12), sl12⟩) (c12 : PySem.W.codeIn K cd12 "_law_cast" = true) (k12 : PySem.W.keepIn K (.ref f12) = true)
    (a13 : PySem.W.nsIn K mainGlobals "_law_pick" = some (some (.ref f13))) (l13 : K.lookup f13 = some ⟨oc13, od13, .func (PySem.W.fnOf "_law_pick" "_law_pick" (defArgs s_law_pick) (defBody s_law_pick) (defScope s_law_pick) .none kV13 dc13 pm13 an13 cd13 ct13), sl13⟩) (c13 : PySem.W.codeIn K cd13 "_law_pick" = true) (k13 : PySem.W.keepIn K (.ref f13) = true)
    (a14 : PySem.W.nsIn K mainGlobals "_law_shuffle" = some (some (.ref f14))) (l14 : K.lookup f14 = some ⟨oc14, od14, .func (PySem.W.fnOf "_law_shuffle" "_law_shuffle" (defArgs s_law_shuffle) (defBody s_law_shuffle) (defScope s_law_shuffle) .none kV14 dc14 pm14 an14 cd14 ct14), sl14⟩) (c14 : PySem.W.codeIn K cd14 "_law_shuffle" = true) (k14 : PySem.W.keepIn K (.ref f14) = true)
    (a15 : PySem.W.nsIn K mainGlobals "_law_subset" = some (some (.ref f15))) (l15 : K.lookup f15 = some ⟨oc15, od15, .func (PySem.W.fnOf "_law_subset" "_law_subset" (defArgs s_law_subset) (defBody s_law_subset) (defScope s_law_subset) .none kV15 dc15 pm15 an15 cd15 ct15), sl15⟩) (c15 : PySem.W.codeIn K cd15 "_law_subset" = true) (k15 : PySem.W.keepIn K (.ref f15) = true)
    (a16 : PySem.W.nsIn K mainGlobals "_law_is_number" = some (some (.ref f16))) (l16 : K.lookup f16 = some ⟨oc16, od16, .func (PySem.W.fnOf "_law_is_number" "_law_is_number" (defArgs s_law_is_number) (defBody s_law_is_number) (defScope s_law_is_number) .none kV16 dc16 pm16 an16 cd16 ct16), sl16⟩) (c16 : PySem.W.codeIn K cd16 "_law_is_number" = true) (k16 : PySem.W.keepIn K (.ref f16) = true)
    (a17 : PySem.W.nsIn K mainGlobals "_law_is_word" = some (some (.ref f17))) (l17 : K.lookup f17 = some ⟨oc17, od17, .func (PySem.W.fnOf "_law_is_word" "_law_is_word" (defArgs s_law_is_word) (defBody s_law_is_word) (defScope s_law_is_word) .none kV17 dc17 pm17 an17 cd17 ct17), sl17⟩) (c17 : PySem.W.codeIn K cd17 "_law_is_word" = true) (k17 : PySem.W.keepIn K (.ref f17) = true)
    (a18 : PySem.W.nsIn K mainGlobals "_law_is_set" = some (some (.ref f18))) (l18 : K.lookup f18 = some ⟨oc18, od18, .func (PySem.W.fnOf "_law_is_set" "_law_is_set" (defArgs s_law_is_set) (defBody s_law_is_set) (defScope s_law_is_set) .none kV18 dc18 pm18 an18 cd18 ct18), sl18⟩) (c18 : PySem.W.codeIn K cd18 "_law_is_set" = true) (k18 : PySem.W.keepIn K (.ref f18) = true)
    (a19 : PySem.W.nsIn K mainGlobals "_law_is_pairs" = some (some (.ref f19))) (l19 : K.lookup f19 = some ⟨oc19, od19, .func (PySem.W.fnOf "_law_is_pairs" "_law_is_pairs" (defArgs s_law_is_pairs) (defBody s_law_is_pairs) (defScope s_law_is_pairs) .none kV19 dc19 pm19 an19 cd19 ct19), sl19⟩) (c19 : PySem.W.codeIn K cd19 "_law_is_pairs" = true) (k19 : PySem.W.keepIn K (.ref f19) = true)
    (a20 : PySem.W.nsIn K mainGlobals "_law_bent_tuple" = some (some (.ref f20))) (l20 : K.lookup f20 = some ⟨oc20, od20, .func (PySem.W.fnOf "_law_bent_tuple" "_law_bent_tuple" (defArgs s_law_bent_tuple) (defBody s_law_bent_tuple) (defScope s_law_bent_tuple) .none kV20 dc20 pm20 an20 cd20 ct20), sl20⟩) (c20 : PySem.W.codeIn K cd20 "_law_bent_tuple" = true) (k20 : PySem.W.keepIn K (.ref f20) = true)
    (a21 : PySem.W.nsIn K mainGlobals "_law_bent_move" = some (some (.ref f21))) (l21 : K.lookup f21 = some ⟨oc21, od21, .func (PySem.W.fnOf "_law_bent_move" "_law_bent_move" (defArgs s_law_bent_move) (defBody s_law_bent_move) (defScope s_law_bent_move) .none kV21 dc21 pm21 an21 cd21 ct21), sl21⟩) (c21 : PySem.W.codeIn K cd21 "_law_bent_move" = true) (k21 : PySem.W.keepIn K (.ref f21) = true)
    (a22 : PySem.W.nsIn K mainGlobals "_law_odd_one" = some (some (.ref f22))) (l22 : K.lookup f22 = some ⟨oc22, od22, .func (PySem.W.fnOf "_law_odd_one" "_law_odd_one" (defArgs s_law_odd_one) (defBody s_law_odd_one) (defScope s_law_odd_one) .none kV22 dc22 pm22 an22 cd22 ct22), sl22⟩) (c22 : PySem.W.codeIn K cd22 "_law_odd_one" = true) (k22 : PySem.W.keepIn K (.ref f22) = true)
    (a23 : PySem.W.nsIn K mainGlobals "_law_a_move" = some (some (.ref f23))) (l23 : K.lookup f23 = some ⟨oc23, od23, .func (PySem.W.fnOf "_law_a_move" "_law_a_move" (defArgs s_law_a_move) (defBody s_law_a_move) (defScope s_law_a_move) .none kV23 dc23 pm23 an23 cd23 ct23), sl23⟩) (c23 : PySem.W.codeIn K cd23 "_law_a_move" = true) (k23 : PySem.W.keepIn K (.ref f23) = true)
    (a24 : PySem.W.nsIn K mainGlobals "_law_any_plain" = some (some (.ref f24))) (l24 : K.lookup f24 = some ⟨oc24, od24, .func (PySem.W.fnOf "_law_any_plain" "_law_any_plain" (defArgs s_law_any_plain) (defBody s_law_any_plain) (defScope s_law_any_plain) .none kV24 dc24 pm24 an24 cd24 ct24), sl24⟩) (c24 : PySem.W.codeIn K cd24 "_law_any_plain" = true) (k24 : PySem.W.keepIn K (.ref f24) = true)
    (a25 : PySem.W.nsIn K mainGlobals "_law_is_step" = some (some (.ref f25))) (l25 : K.lookup f25 = some ⟨oc25, od25, .func (PySem.W.fnOf "_law_is_step" "_law_is_step" (defArgs s_law_is_step) (defBody s_law_is_step) (defScope s_law_is_step) .none kV25 dc25 pm25 an25 cd25 ct25), sl25⟩) (c25 : PySem.W.codeIn K cd25 "_law_is_step" = true) (k25 : PySem.W.keepIn K (.ref f25) = true)
    (a26 : PySem.W.nsIn K mainGlobals "_law_met" = some (some (.ref f26))) (l26 : K.lookup f26 = some ⟨oc26, od26, .func (PySem.W.fnOf "_law_met" "_law_met" (defArgs s_law_met) (defBody s_law_met) (defScope s_law_met) .none kV26 dc26 pm26 an26 cd26 ct26), sl26⟩) (c26 : PySem.W.codeIn K cd26 "_law_met" = true) (k26 : PySem.W.keepIn K (.ref f26) = true)
    (a27 : PySem.W.nsIn K mainGlobals "_law_is_due" = some (some (.ref f27))) (l27 : K.lookup f27 = some ⟨oc27, od27, .func (PySem.W.fnOf "_law_is_due" "_law_is_due" (defArgs s_law_is_due) (defBody s_law_is_due) (defScope s_law_is_due) .none kV27 dc27 pm27 an27 cd27 ct27), sl27⟩) (c27 : PySem.W.codeIn K cd27 "_law_is_due" = true) (k27 : PySem.W.keepIn K (.ref f27) = true)
    (a28 : PySem.W.nsIn K mainGlobals "_law_is_as" = some (some (.ref f28))) (l28 : K.lookup f28 = some ⟨oc28, od28, .func (PySem.W.fnOf "_law_is_as" "_law_is_as" (defArgs s_law_is_as) (defBody s_law_is_as) (defScope s_law_is_as) .none kV28 dc28 pm28 an28 cd28 ct28), sl28⟩) (c28 : PySem.W.codeIn K cd28 "_law_is_as" = true) (k28 : PySem.W.keepIn K (.ref f28) = true)
    (a29 : PySem.W.nsIn K mainGlobals "_law_right" = some (some (.ref f29))) (l29 : K.lookup f29 = some ⟨oc29, od29, .func (PySem.W.fnOf "_law_right" "_law_right" (defArgs s_law_right) (defBody s_law_right) (defScope s_law_right) .none kV29 dc29 pm29 an29 (.ref cR) ct29), sl29⟩) (c29 : PySem.W.codeIn K (.ref cR) "_law_right" = true) (k29 : PySem.W.keepIn K (.ref f29) = true)
    (a30 : PySem.W.nsIn K mainGlobals "law" = some (some (.ref f30))) (l30 : K.lookup f30 = some ⟨oc30, od30, .func (PySem.W.fnOf "law" "law" (defArgs s_law) (defBody s_law) (defScope s_law) .none kV30 dc30 pm30 an30 (.ref cL) ct30), sl30⟩) (c30 : PySem.W.codeIn K (.ref cL) "law" = true) (k30 : PySem.W.keepIn K (.ref f30) = true)
    (lc_cR : K.lookup cR = some ⟨e_cR, dd_cR, .fields vs_cR, sc_cR⟩) (hv_cR : (vs_cR[11]? : Option Value) = some (.ref PR)) (nl_cR : K.lookup PR = none)
    (lc_cL : K.lookup cL = some ⟨e_cL, dd_cL, .fields vs_cL, sc_cL⟩) (hv_cL : (vs_cL[11]? : Option Value) = some (.ref PL)) (nl_cL : K.lookup PL = none)
    (hne : PR ≠ PL)
    (z_isinstance : PySem.W.nsIn K mainGlobals "isinstance" = some none)
    (z_int : PySem.W.nsIn K mainGlobals "int" = some none)
    (z_bool : PySem.W.nsIn K mainGlobals "bool" = some none)
    (z_str : PySem.W.nsIn K mainGlobals "str" = some none)
    (z_tuple : PySem.W.nsIn K mainGlobals "tuple" = some none)
    (z_list : PySem.W.nsIn K mainGlobals "list" = some none)
    (z_len : PySem.W.nsIn K mainGlobals "len" = some none)
    (z_all : PySem.W.nsIn K mainGlobals "all" = some none)
    (z_range : PySem.W.nsIn K mainGlobals "range" = some none)
    (z_abs : PySem.W.nsIn K mainGlobals "abs" = some none)
    (z_max : PySem.W.nsIn K mainGlobals "max" = some none)
    (z_min : PySem.W.nsIn K mainGlobals "min" = some none)
    (z_set : PySem.W.nsIn K mainGlobals "set" = some none)
    (z_sorted : PySem.W.nsIn K mainGlobals "sorted" = some none)
    (z_repr : PySem.W.nsIn K mainGlobals "repr" = some none)
    (y_LONGEST_NAME : PySem.W.nsIn K mainGlobals "LONGEST_NAME" = some (some (.int 8 tk_LONGEST_NAME)))
    (y_MOST_MODES : PySem.W.nsIn K mainGlobals "MOST_MODES" = some (some (.int 5 tk_MOST_MODES)))
    (y_MOST_POINTS : PySem.W.nsIn K mainGlobals "MOST_POINTS" = some (some (.int 6 tk_MOST_POINTS)))
    (y_MOST_MOVES : PySem.W.nsIn K mainGlobals "MOST_MOVES" = some (some (.int 12 tk_MOST_MOVES)))
    (qe0 : PySem.W.nsIn K mainGlobals "InvalidProgram" = some (some (.ref Ce)))
    (qe1 : PySem.W.excIn K Ce [.type "ValueError", .type "Exception", .type "BaseException", .type "object"] "ValueError.__new__" = true)
    (qe2 : PySem.W.keepIn K (.ref Ce) = true)
    (qe3 : PySem.W.subIn K (.ref Ce) (.type "BaseException") = some true)
    (qe4 : PySem.W.typeIn K (.ref Ce) = some (.type "type"))
    (qe5 : PySem.W.subIn K (.ref Ce) (.ref Ce) = some true)
    (r0 : PySem.W.findIn K (.ref Ce) "__getattribute__" = some (some (.builtin "BaseException.__getattribute__")))
    (r1 : PySem.W.findIn K (.ref Ce) "__getattr__" = some none)
    (r3 : PySem.W.hasDictIn K Ce = true)
    (r4 : PySem.W.findIn K (.ref Ce) "__class__" = some (some (.builtin "object.__class__")))
    (r5 : PySem.W.specialIn K (.builtin "object.__class__") "__get__" = some (some (.builtin "getset_descriptor.__get__")))
    (r6 : PySem.W.takesIn K (.builtin "object.__class__") = some true)
    (r7 : PySem.W.mroIn K Ce (.type "object") = some true)
    (p0 : PySem.W.nsIn K mainGlobals "Procedure" = some (some (.ref C)))
    (p1a : PySem.W.plainGet K C Str.empty = true)
    (p1b : PySem.W.hasDictIn K C = true)
    (p1c : PySem.W.plainOver K C = true)
    (p1d : PySem.W.findIn K (.ref C) "__setattr__" = some (some (.builtin "object.__setattr__")))
    (p2a : PySem.W.makesIn K C = true)
    (p2b : PySem.W.findIn K (.ref C) "__init__" = some (some (.ref fI)))
    (p2c : PySem.W.isFn K (.ref fI) = true)
    (p2d : PySem.W.keepIn K (.ref C) = true)
    (p3a : PySem.W.readsIn K C (.type "type") = true)
    (p3b : PySem.W.specialIn K (.ref C) "__getattribute__" = some (some (.builtin "type.__getattribute__")))
    (p4a : PySem.W.findCls K (.ref C) (.type "type") "of" = some (.get (.builtin "classmethod.__get__") (.ref pO) .none (.ref C)))
    (p4b : PySem.W.recIn K pO "classmethod" = some (.ref fO :: rsO))
    (p4c : PySem.W.fnIn K fO = true)
    (n1 : PySem.W.findIn K (.ref C) "_called" = some none)
    (q1a : PySem.W.findIn K (.ref C) "called" = some (some (.ref p1)))
    (q1b : PySem.W.specialIn K (.ref p1) "__get__" = some (some (.builtin "property.__get__")))
    (q1c : PySem.W.takesIn K (.ref p1) = some true)
    (q1d : PySem.W.recIn K p1 "property" = some (.ref g1 :: rs1))
    (n2 : PySem.W.findIn K (.ref C) "_points" = some none)
    (q2a : PySem.W.findIn K (.ref C) "points" = some (some (.ref p2)))
    (q2b : PySem.W.specialIn K (.ref p2) "__get__" = some (some (.builtin "property.__get__")))
    (q2c : PySem.W.takesIn K (.ref p2) = some true)
    (q2d : PySem.W.recIn K p2 "property" = some (.ref g2 :: rs2))
    (n3 : PySem.W.findIn K (.ref C) "_moves" = some none)
    (q3a : PySem.W.findIn K (.ref C) "moves" = some (some (.ref p3)))
    (q3b : PySem.W.specialIn K (.ref p3) "__get__" = some (some (.builtin "property.__get__")))
    (q3c : PySem.W.takesIn K (.ref p3) = some true)
    (q3d : PySem.W.recIn K p3 "property" = some (.ref g3 :: rs3))
    (e1 : PySem.W.findIn K (.ref C) "__eq__" = some (some (.ref fE)))
    (e2 : PySem.W.isFn K (.ref fE) = true)
    (e3 : PySem.W.findIn K (.ref C) "__ne__" = some (some (.builtin "object.__ne__")))
    (e4 : PySem.W.findIn K (.ref C) "__len__" = some (some (.ref fL)))
    (e5 : PySem.W.isFn K (.ref fL) = true)
    (e6 : PySem.W.findIn K (.ref C) "__str__" = some (some (.ref fS)))
    (e7 : PySem.W.isFn K (.ref fS) = true)
    (cc1 : PySem.W.findIn K (.ref C) "__class__" = some (some (.builtin "object.__class__")))
    (cc4 : PySem.W.mroIn K C (.type "object") = some true)
    (kk1 : PySem.W.kitOne K (.ref C) (.ref C) = some true)
    (kk2 : PySem.W.kitOne K (.type "NoneType") (.ref C) = some false)
    (kk3 : PySem.W.kitOne K (.type "str") (.ref C) = some false)
    (kk4 : PySem.W.kitOne K (.type "tuple") (.ref C) = some false)
    (ss1 : PySem.W.subIn K (.type "NoneType") (.ref C) = some false)
    (ss2 : PySem.W.subIn K (.type "str") (.ref C) = some false)
    (ss3 : PySem.W.subIn K (.type "tuple") (.ref C) = some false)
    (lmI : K.lookup fI = some ⟨ocmI, odmI, .func (PySem.W.fnOf "__init__" "Procedure.__init__" (defArgs s_init) (defBody s_init) (defScope s_init) .none kVmI dcmI pmmI anmI cdmI ctmI), slmI⟩)
    (cmI : PySem.W.codeIn K cdmI "Procedure.__init__" = true)
    (kmI : PySem.W.keepIn K (.ref fI) = true)
    (lmO : K.lookup fO = some ⟨ocmO, odmO, .func (PySem.W.fnOf "of" "Procedure.of" (defArgs s_of) (defBody s_of) (defScope s_of) .none kVmO dcmO pmmO anmO cdmO ctmO), slmO⟩)
    (cmO : PySem.W.codeIn K cdmO "Procedure.of" = true)
    (kmO : PySem.W.keepIn K (.ref fO) = true)
    (lm1 : K.lookup g1 = some ⟨ocm1, odm1, .func (PySem.W.fnOf "called" "Procedure.called" (defArgs s_gcalled) (defBody s_gcalled) (defScope s_gcalled) .none kVm1 dcm1 pmm1 anm1 cdm1 ctm1), slm1⟩)
    (cm1 : PySem.W.codeIn K cdm1 "Procedure.called" = true)
    (km1 : PySem.W.keepIn K (.ref g1) = true)
    (lm2 : K.lookup g2 = some ⟨ocm2, odm2, .func (PySem.W.fnOf "points" "Procedure.points" (defArgs s_gpoints) (defBody s_gpoints) (defScope s_gpoints) .none kVm2 dcm2 pmm2 anm2 cdm2 ctm2), slm2⟩)
    (cm2 : PySem.W.codeIn K cdm2 "Procedure.points" = true)
    (km2 : PySem.W.keepIn K (.ref g2) = true)
    (lm3 : K.lookup g3 = some ⟨ocm3, odm3, .func (PySem.W.fnOf "moves" "Procedure.moves" (defArgs s_gmoves) (defBody s_gmoves) (defScope s_gmoves) .none kVm3 dcm3 pmm3 anm3 cdm3 ctm3), slm3⟩)
    (cm3 : PySem.W.codeIn K cdm3 "Procedure.moves" = true)
    (km3 : PySem.W.keepIn K (.ref g3) = true)
    (lmE : K.lookup fE = some ⟨ocmE, odmE, .func (PySem.W.fnOf "__eq__" "Procedure.__eq__" (defArgs s_peq) (defBody s_peq) (defScope s_peq) .none kVmE dcmE pmmE anmE cdmE ctmE), slmE⟩)
    (cmE : PySem.W.codeIn K cdmE "Procedure.__eq__" = true)
    (kmE : PySem.W.keepIn K (.ref fE) = true)
    (lmL : K.lookup fL = some ⟨ocmL, odmL, .func (PySem.W.fnOf "__len__" "Procedure.__len__" (defArgs s_plen) (defBody s_plen) (defScope s_plen) .none kVmL dcmL pmmL anmL cdmL ctmL), slmL⟩)
    (cmL : PySem.W.codeIn K cdmL "Procedure.__len__" = true)
    (kmL : PySem.W.keepIn K (.ref fL) = true)
    (lmS : K.lookup fS = some ⟨ocmS, odmS, .func (PySem.W.fnOf "__str__" "Procedure.__str__" (defArgs s_pstr) (defBody s_pstr) (defScope s_pstr) .none kVmS dcmS pmmS anmS cdmS ctmS), slmS⟩)
    (cmS : PySem.W.codeIn K cdmS "Procedure.__str__" = true)
    (kmS : PySem.W.keepIn K (.ref fS) = true)
    : Cl.LawAtG l w K 14 63 "script" mg fa h := by
  have e := hfa.symm.trans (PySem.W.mg_of X G a30)
  cases e
  have F_is_name := fun_mk (st := s_is_name) l0 c0 k0
  have b_is_name := F_is_name.binds (ps := ["value"]) fun _ _ _ _ _ _ us hl => match us, hl with | [_], _ => rfl
  have g_is_name := PySem.W.mg_of X G a0
  have F_is_integer := fun_mk (st := s_is_integer) l1 c1 k1
  have b_is_integer := F_is_integer.binds (ps := ["value"]) fun _ _ _ _ _ _ us hl => match us, hl with | [_], _ => rfl
  have g_is_integer := PySem.W.mg_of X G a1
  have F_is_index := fun_mk (st := s_is_index) l2 c2 k2
  have b_is_index := F_is_index.binds (ps := ["value", "many"]) fun _ _ _ _ _ _ us hl => match us, hl with | [_, _], _ => rfl
  have g_is_index := PySem.W.mg_of X G a2
  have F_ascends := fun_mk (st := s_ascends) l3 c3 k3
  have b_ascends := F_ascends.binds (ps := ["items"]) fun _ _ _ _ _ _ us hl => match us, hl with | [_], _ => rfl
  have g_ascends := PySem.W.mg_of X G a3
  have F_is_mode_set := fun_mk (st := s_is_mode_set) l4 c4 k4
  have b_is_mode_set := F_is_mode_set.binds (ps := ["value", "modes"]) fun _ _ _ _ _ _ us hl => match us, hl with | [_, _], _ => rfl
  have g_is_mode_set := PySem.W.mg_of X G a4
  have F_is_pair := fun_mk (st := s_is_pair) l5 c5 k5
  have b_is_pair := F_is_pair.binds (ps := ["value", "modes"]) fun _ _ _ _ _ _ us hl => match us, hl with | [_, _], _ => rfl
  have g_is_pair := PySem.W.mg_of X G a5
  have F_is_pair_set := fun_mk (st := s_is_pair_set) l6 c6 k6
  have b_is_pair_set := F_is_pair_set.binds (ps := ["value", "modes"]) fun _ _ _ _ _ _ us hl => match us, hl with | [_, _], _ => rfl
  have g_is_pair_set := PySem.W.mg_of X G a6
  have F_is_move := fun_mk (st := s_is_move) l7 c7 k7
  have b_is_move := F_is_move.binds (ps := ["value", "points", "modes"]) fun _ _ _ _ _ _ us hl => match us, hl with | [_, _, _], _ => rfl
  have g_is_move := PySem.W.mg_of X G a7
  have F_names_task := fun_mk (st := s_names_task) l8 c8 k8
  have b_names_task := F_names_task.binds (ps := ["move"]) fun _ _ _ _ _ _ us hl => match us, hl with | [_], _ => rfl
  have g_names_task := PySem.W.mg_of X G a8
  have F_is_number := fun_mk (st := s_is_number) l9 c9 k9
  have b_is_number := F_is_number.binds (ps := ["value", "most"]) fun _ _ _ _ _ _ us hl => match us, hl with | [_, _], _ => rfl
  have g_is_number := PySem.W.mg_of X G a9
  have F_are_moves := fun_mk (st := s_are_moves) l10 c10 k10
  have b_are_moves := F_are_moves.binds (ps := ["values", "points", "modes"]) fun _ _ _ _ _ _ us hl => match us, hl with | [_, _, _], _ => rfl
  have g_are_moves := PySem.W.mg_of X G a10
  have F__law_numbers := fun_mk (st := s_law_numbers) l11 c11 k11
  have b__law_numbers := F__law_numbers.binds (ps := ["script", "at"]) fun _ _ _ _ _ _ us hl => match us, hl with | [_, _], _ => rfl
  have g__law_numbers := PySem.W.mg_of X G a11
  have F__law_cast := fun_mk (st := s_law_cast) l12 c12 k12
  have b__law_cast := F__law_cast.binds (ps := ["die", "total"]) fun _ _ _ _ _ _ us hl => match us, hl with | [_, _], _ => rfl
  have g__law_cast := PySem.W.mg_of X G a12
  have F__law_pick := fun_mk (st := s_law_pick) l13 c13 k13
  have b__law_pick := F__law_pick.binds (ps := ["die", "items"]) fun _ _ _ _ _ _ us hl => match us, hl with | [_, _], _ => rfl
  have g__law_pick := PySem.W.mg_of X G a13
  have F__law_shuffle := fun_mk (st := s_law_shuffle) l14 c14 k14
  have b__law_shuffle := F__law_shuffle.binds (ps := ["die", "items"]) fun _ _ _ _ _ _ us hl => match us, hl with | [_, _], _ => rfl
  have g__law_shuffle := PySem.W.mg_of X G a14
  have F__law_subset := fun_mk (st := s_law_subset) l15 c15 k15
  have b__law_subset := F__law_subset.binds (ps := ["die", "total"]) fun _ _ _ _ _ _ us hl => match us, hl with | [_, _], _ => rfl
  have g__law_subset := PySem.W.mg_of X G a15
  have F__law_is_number := fun_mk (st := s_law_is_number) l16 c16 k16
  have b__law_is_number := F__law_is_number.binds (ps := ["value", "total"]) fun _ _ _ _ _ _ us hl => match us, hl with | [_, _], _ => rfl
  have g__law_is_number := PySem.W.mg_of X G a16
  have F__law_is_word := fun_mk (st := s_law_is_word) l17 c17 k17
  have b__law_is_word := F__law_is_word.binds (ps := ["value"]) fun _ _ _ _ _ _ us hl => match us, hl with | [_], _ => rfl
  have g__law_is_word := PySem.W.mg_of X G a17
  have F__law_is_set := fun_mk (st := s_law_is_set) l18 c18 k18
  have b__law_is_set := F__law_is_set.binds (ps := ["value", "total"]) fun _ _ _ _ _ _ us hl => match us, hl with | [_, _], _ => rfl
  have g__law_is_set := PySem.W.mg_of X G a18
  have F__law_is_pairs := fun_mk (st := s_law_is_pairs) l19 c19 k19
  have b__law_is_pairs := F__law_is_pairs.binds (ps := ["value", "total"]) fun _ _ _ _ _ _ us hl => match us, hl with | [_, _], _ => rfl
  have g__law_is_pairs := PySem.W.mg_of X G a19
  have F__law_bent_tuple := fun_mk (st := s_law_bent_tuple) l20 c20 k20
  have b__law_bent_tuple := F__law_bent_tuple.binds (ps := ["die", "items", "odd"]) fun _ _ _ _ _ _ us hl => match us, hl with | [_, _, _], _ => rfl
  have g__law_bent_tuple := PySem.W.mg_of X G a20
  have F__law_bent_move := fun_mk (st := s_law_bent_move) l21 c21 k21
  have b__law_bent_move := F__law_bent_move.binds (ps := ["die", "move"]) fun _ _ _ _ _ _ us hl => match us, hl with | [_, _], _ => rfl
  have g__law_bent_move := PySem.W.mg_of X G a21
  have F__law_odd_one := fun_mk (st := s_law_odd_one) l22 c22 k22
  have b__law_odd_one := F__law_odd_one.binds (ps := ["die"]) fun _ _ _ _ _ _ us hl => match us, hl with | [_], _ => rfl
  have g__law_odd_one := PySem.W.mg_of X G a22
  have F__law_a_move := fun_mk (st := s_law_a_move) l23 c23 k23
  have b__law_a_move := F__law_a_move.binds (ps := ["die", "total", "points", "names"]) fun _ _ _ _ _ _ us hl => match us, hl with | [_, _, _, _], _ => rfl
  have g__law_a_move := PySem.W.mg_of X G a23
  have F__law_any_plain := fun_mk (st := s_law_any_plain) l24 c24 k24
  have b__law_any_plain := F__law_any_plain.binds (ps := ["die"]) fun _ _ _ _ _ _ us hl => match us, hl with | [_], _ => rfl
  have g__law_any_plain := PySem.W.mg_of X G a24
  have F__law_is_step := fun_mk (st := s_law_is_step) l25 c25 k25
  have b__law_is_step := F__law_is_step.binds (ps := ["value", "points", "total"]) fun _ _ _ _ _ _ us hl => match us, hl with | [_, _, _], _ => rfl
  have g__law_is_step := PySem.W.mg_of X G a25
  have F__law_met := fun_mk (st := s_law_met) l26 c26 k26
  have b__law_met := F__law_met.binds (ps := ["call"]) fun _ _ _ _ _ _ us hl => match us, hl with | [_], _ => rfl
  have g__law_met := PySem.W.mg_of X G a26
  have F__law_is_due := fun_mk (st := s_law_is_due) l27 c27 k27
  have b__law_is_due := F__law_is_due.binds (ps := ["called", "points", "moves"]) fun _ _ _ _ _ _ us hl => match us, hl with | [_, _, _], _ => rfl
  have g__law_is_due := PySem.W.mg_of X G a27
  have F__law_is_as := fun_mk (st := s_law_is_as) l28 c28 k28
  have b__law_is_as := F__law_is_as.binds (ps := ["made", "band"]) fun _ _ _ _ _ _ us hl => match us, hl with | [_, _], _ => rfl
  have g__law_is_as := PySem.W.mg_of X G a28
  have F__law_right := fun_mk (st := s_law_right) l29 c29 k29
  have b__law_right := F__law_right.binds (ps := ["die"]) fun _ _ _ _ _ _ us hl => match us, hl with | [_], _ => rfl
  have g__law_right := PySem.W.mg_of X G a29
  have F_law := fun_mk (st := s_law) l30 c30 k30
  have b_law := F_law.binds (ps := ["script"]) fun _ _ _ _ _ _ us hl => match us, hl with | [_], _ => rfl
  have g_law := PySem.W.mg_of X G a30
  have m_isinstance := PySem.W.mg_none_of X G z_isinstance
  have m_int := PySem.W.mg_none_of X G z_int
  have m_bool := PySem.W.mg_none_of X G z_bool
  have m_str := PySem.W.mg_none_of X G z_str
  have m_tuple := PySem.W.mg_none_of X G z_tuple
  have m_list := PySem.W.mg_none_of X G z_list
  have m_len := PySem.W.mg_none_of X G z_len
  have m_all := PySem.W.mg_none_of X G z_all
  have m_range := PySem.W.mg_none_of X G z_range
  have m_abs := PySem.W.mg_none_of X G z_abs
  have m_max := PySem.W.mg_none_of X G z_max
  have m_min := PySem.W.mg_none_of X G z_min
  have m_set := PySem.W.mg_none_of X G z_set
  have m_sorted := PySem.W.mg_none_of X G z_sorted
  have m_repr := PySem.W.mg_none_of X G z_repr
  have g_LONGEST_NAME := PySem.W.mg_of X G y_LONGEST_NAME
  have g_MOST_MODES := PySem.W.mg_of X G y_MOST_MODES
  have g_MOST_POINTS := PySem.W.mg_of X G y_MOST_POINTS
  have g_MOST_MOVES := PySem.W.mg_of X G y_MOST_MOVES
  have tb_cR := tabs "_law_right" (by simp) _ _ (tab_in a29 l29 rfl lc_cR hv_cR)
  have tb_cL := tabs "law" (by simp) _ _ (tab_in a30 l30 rfl lc_cL hv_cL)
  refine ⟨PySem.W.fnOf "law" "law" (defArgs s_law) (defBody s_law) (defScope s_law) .none kV30 dc30 pm30 an30 (.ref cL) ct30, [(cR, PR), (cL, PL)], spLawT K [(PR, lamQ s_law_right "_law_right"), (PL, lamQ s_law "law")], allC tb_cR.2 (allC tb_cL.2 allN), allC nl_cR (allC nl_cL allN), allC tb_cR.1 (allC tb_cL.1 allN), fun s v => .of_eq rfl, fun H a ns hl hT hS => ⟨a, ns, rfl, hS, hl, ?_, fun _ => rfl⟩, fun base _ _ hTB => ?_⟩
  · refine allC ?_ (allC ?_ allN)
    · exact LamX.TabS.nil (hT (cR, PR) (by simp))
    · exact LamX.TabS.nil (hT (cL, PL) (by simp))
  have TB_cR := hTB (cR, PR) (by simp)
  have TB_cL := hTB (cL, PL) (by simp)
  have hm_cR : (PR, lamQ s_law_right "_law_right") ∈ [(PR, lamQ s_law_right "_law_right"), (PL, lamQ s_law "law")] := by simp
  have hu_cR : ∀ p ∈ [(PR, lamQ s_law_right "_law_right"), (PL, lamQ s_law "law")], p.1 = PR → p.2 = lamQ s_law_right "_law_right" := by
    refine allC ?_ (allC ?_ allN)
    · exact fun _ => rfl
    · exact fun e => absurd e (by first | exact hne | exact Ne.symm hne)
  have hm_cL : (PL, lamQ s_law "law") ∈ [(PR, lamQ s_law_right "_law_right"), (PL, lamQ s_law "law")] := by simp
  have hu_cL : ∀ p ∈ [(PR, lamQ s_law_right "_law_right"), (PL, lamQ s_law "law")], p.1 = PL → p.2 = lamQ s_law "law" := by
    refine allC ?_ (allC ?_ allN)
    · exact fun e => absurd e (by first | exact hne | exact Ne.symm hne)
    · exact fun _ => rfl
  have T : Cl.ErrC K mg "InvalidProgram" Ce := ⟨PySem.W.mg_of X G qe0, qe1, qe2, qe3, qe4, qe5, ⟨r0, r1, qe3, r3, r4, r5, r6, r7⟩⟩
  have c : PcdC K mg C fI fO pO fE fL fS p1 g1 p2 g2 p3 g3 (.type "type") := ⟨PySem.W.mg_of X G p0, ⟨p1a, p1b, p1c, p1d⟩, ⟨p2a, p2b, p2c, p2d⟩, ⟨p3a, p3b⟩, ⟨p4a, ⟨_, p4b⟩, p4c⟩, n1, n2, n3, ⟨q1a, q1b, q1c, ⟨_, q1d⟩⟩, ⟨q2a, q2b, q2c, ⟨_, q2d⟩⟩, ⟨q3a, q3b, q3c, ⟨_, q3d⟩⟩, e1, e2, e3, e4, e5, e6, e7, cc1, r5, r6, cc4, kk1, kk2, kk3, kk4, ss1, ss2, ss3⟩
  have FMO := fun_mk (st := s_of) lmO cmO kmO
  have bMO := FMO.binds (ps := ["cls", "called", "points", "moves"]) fun _ _ _ _ _ _ us hl => match us, hl with | [_, _, _, _], _ => rfl
  have FM1 := fun_mk (st := s_gcalled) lm1 cm1 km1
  have bM1 := FM1.binds (ps := ["self"]) fun _ _ _ _ _ _ us hl => match us, hl with | [_], _ => rfl
  have FM2 := fun_mk (st := s_gpoints) lm2 cm2 km2
  have bM2 := FM2.binds (ps := ["self"]) fun _ _ _ _ _ _ us hl => match us, hl with | [_], _ => rfl
  have FM3 := fun_mk (st := s_gmoves) lm3 cm3 km3
  have bM3 := FM3.binds (ps := ["self"]) fun _ _ _ _ _ _ us hl => match us, hl with | [_], _ => rfl
  have FME := fun_mk (st := s_peq) lmE cmE kmE
  have bME := FME.binds (ps := ["self", "other"]) fun _ _ _ _ _ _ us hl => match us, hl with | [_, _], _ => rfl
  have FML := fun_mk (st := s_plen) lmL cmL kmL
  have bML := FML.binds (ps := ["self"]) fun _ _ _ _ _ _ us hl => match us, hl with | [_], _ => rfl
  have FMS := fun_mk (st := s_pstr) lmS cmS kmS
  have bMS := FMS.binds (ps := ["self"]) fun _ _ _ _ _ _ us hl => match us, hl with | [_], _ => rfl
  have G_g1 : FnOk l.prog w K mg base CX0 1 g1 _ ["self"] (getSp C "_called") := fn_getter lm1 cm1 sc_gcalled rfl rfl c.cls c.n1
  have G_g2 : FnOk l.prog w K mg base CX0 1 g2 _ ["self"] (getSp C "_points") := fn_getter lm2 cm2 sc_gpoints rfl rfl c.cls c.n2
  have G_g3 : FnOk l.prog w K mg base CX0 1 g3 _ ["self"] (getSp C "_moves") := fn_getter lm3 cm3 sc_gmoves rfl rfl c.cls c.n3
  have G__law_numbers : FnOk l.prog w K mg base CX0 1 _ _ ["script", "at"] (spNumbers K) := ok_numbers F__law_numbers m_len m_int m_abs m_max
  have G__law_cast : FnOk l.prog w K mg base CX0 1 _ _ ["die", "total"] spCast := ok_cast F__law_cast m_int
  have G__law_pick : FnOk l.prog w K mg base CX0 2 _ _ ["die", "items"] (spPick K) := ok_pick F__law_pick F__law_cast b__law_cast g__law_cast m_len m_int
  have G_is_name : FnOk l.prog w K mg base CX0 1 _ _ ["value"] spName := ok_is_name F_is_name m_isinstance m_str m_len m_all g_LONGEST_NAME
  have G__law_is_word : FnOk l.prog w K mg base CX0 1 _ _ ["value"] spName := ok__law_is_word F__law_is_word m_isinstance m_str m_len
  have G_is_integer : FnOk l.prog w K mg base CX0 1 _ _ ["value"] (spOn Dt.isN) := ok_is_integer F_is_integer m_isinstance m_int m_bool
  have G_is_index : FnOk l.prog w K mg base CX0 2 _ _ ["value", "many"] (spOn1 Dt.isNum) := ok_is_index F_is_index G_is_integer F_is_integer b_is_integer g_is_integer
  have G_ascends : FnOk l.prog w K mg base CX0 1 _ _ ["items"] spAsc := ok_ascends F_ascends m_all m_range m_len
  have G_is_mode_set : FnOk l.prog w K mg base CX0 3 _ _ ["value", "modes"] (spOn1 Dt.isSet) := ok_is_mode_set F_is_mode_set G_is_index F_is_index b_is_index g_is_index G_ascends F_ascends b_ascends g_ascends m_isinstance m_tuple m_all
  have G_is_pair : FnOk l.prog w K mg base CX0 3 _ _ ["value", "modes"] (spOn1 Dt.isPair) := ok_is_pair F_is_pair G_is_index F_is_index b_is_index g_is_index m_isinstance m_tuple m_len
  have G_is_pair_set : FnOk l.prog w K mg base CX0 4 _ _ ["value", "modes"] (spOn1 Dt.isPairs) := ok_is_pair_set F_is_pair_set G_is_pair F_is_pair b_is_pair g_is_pair G_ascends F_ascends b_ascends g_ascends m_isinstance m_tuple m_all
  have G_names_task : FnOk l.prog w K mg base CX0 1 _ _ ["move"] spTask := ok_names_task F_names_task
  have G_is_number : FnOk l.prog w K mg base CX0 2 _ _ ["value", "most"] (spOn1 isNr) := ok_is_number F_is_number G_is_integer F_is_integer b_is_integer g_is_integer
  have G_is_move : FnOk l.prog w K mg base CX0 5 _ _ ["value", "points", "modes"] spMove := ok_is_move F_is_move G_is_index F_is_index b_is_index g_is_index G_is_mode_set F_is_mode_set b_is_mode_set g_is_mode_set G_is_pair_set F_is_pair_set b_is_pair_set g_is_pair_set G_names_task F_names_task b_names_task g_names_task G_is_name F_is_name b_is_name g_is_name m_isinstance m_tuple m_len
  have G_are_moves : FnOk l.prog w K mg base CX0 6 _ _ ["values", "points", "modes"] spMoves := ok_are_moves F_are_moves G_is_move F_is_move b_is_move g_is_move g_MOST_MOVES m_len m_all
  have G__law_is_number : FnOk l.prog w K mg base CX0 1 _ _ ["value", "total"] (spOn1 Dt.isNum) := ok_law_is_number F__law_is_number m_isinstance m_int m_bool
  have G__law_is_set : FnOk l.prog w K mg base CX0 2 _ _ ["value", "total"] (spOn1 Dt.isSet) := ok_law_is_set F__law_is_set G__law_is_number F__law_is_number b__law_is_number g__law_is_number m_isinstance m_tuple m_set m_sorted m_list
  have G__law_is_pairs : FnOk l.prog w K mg base CX0 2 _ _ ["value", "total"] (spOn1 Dt.isPairs) := ok_law_is_pairs F__law_is_pairs G__law_is_number F__law_is_number b__law_is_number g__law_is_number m_isinstance m_tuple m_set m_sorted m_list m_len
  have G__law_is_step : FnOk l.prog w K mg base CX0 3 _ _ ["value", "points", "total"] spMove := ok_law_is_step F__law_is_step G__law_is_number F__law_is_number b__law_is_number g__law_is_number G__law_is_set F__law_is_set b__law_is_set g__law_is_set G__law_is_pairs F__law_is_pairs b__law_is_pairs g__law_is_pairs G__law_is_word F__law_is_word b__law_is_word g__law_is_word m_isinstance m_tuple m_len
  have FI : FnR l.prog w K mg base (L2.CX l.prog w) 7 fI (spI C Ce) := ok_init lmI cmI T c G_is_name F_is_name b_is_name g_is_name G_is_number F_is_number b_is_number g_is_number G_are_moves F_are_moves b_are_moves g_are_moves g_MOST_POINTS g_MOST_MODES
  have FO : FnR l.prog w K mg base (L2.CX l.prog w) 9 fO (spOf C Ce) := raw0 (ok_of FMO FI T c m_isinstance m_tuple) bMO
  have FE : FnR l.prog w K mg base CX0 1 fE (spEqP K C) := raw0 (ok_peq FME c m_isinstance) bME
  have FL : FnR l.prog w K mg base CX0 1 fL (spLenP C) := raw0 (ok_plen FML c m_len) bML
  have FS : FnR l.prog w K mg base CX0 1 fS (spStrP C) := raw0 (ok_pstr FMS c m_len) bMS
  have G__law_subset : FnOk l.prog w K mg base CX0 2 _ _ ["die", "total"] spSubset := ok_subset F__law_subset G__law_cast F__law_cast b__law_cast g__law_cast m_tuple m_range
  have G__law_shuffle : FnOk l.prog w K mg base CX0 2 _ _ ["die", "items"] spShuffle := ok_shuffle F__law_shuffle G__law_cast F__law_cast b__law_cast g__law_cast m_list m_range m_len
  have G__law_odd_one : FnOk l.prog w K mg base CX0 3 _ _ ["die"] spOddV := ok_odd_one F__law_odd_one G__law_pick F__law_pick b__law_pick g__law_pick
  have G__law_a_move : FnOk l.prog w K mg base CX0 3 _ _ ["die", "total", "points", "names"] spAMove := ok_a_move F__law_a_move G__law_cast F__law_cast b__law_cast g__law_cast G__law_pick F__law_pick b__law_pick g__law_pick G__law_subset F__law_subset b__law_subset g__law_subset m_set m_sorted m_tuple m_range
  have G__law_any_plain : FnOk l.prog w K mg base CX0 4 _ _ ["die"] spAnyPlain := ok_any_plain F__law_any_plain G__law_cast F__law_cast b__law_cast g__law_cast G__law_pick F__law_pick b__law_pick g__law_pick G__law_subset F__law_subset b__law_subset g__law_subset G__law_shuffle F__law_shuffle b__law_shuffle g__law_shuffle G__law_a_move F__law_a_move b__law_a_move g__law_a_move m_tuple m_range
  have G__law_bent_tuple : FnOk l.prog w K mg base CX0 3 _ _ ["die", "items", "odd"] spBent := ok_bent_tuple F__law_bent_tuple G__law_cast F__law_cast b__law_cast g__law_cast G__law_pick F__law_pick b__law_pick g__law_pick m_len m_list
  have G__law_bent_move : FnOk l.prog w K mg base CX0 4 _ _ ["die", "move"] spBentMove := ok_bent_move F__law_bent_move G__law_cast F__law_cast b__law_cast g__law_cast G__law_odd_one F__law_odd_one b__law_odd_one g__law_odd_one G__law_bent_tuple F__law_bent_tuple b__law_bent_tuple g__law_bent_tuple m_isinstance m_tuple m_len
  have G__law_is_due : FnOk l.prog w K mg base CX0 4 _ _ ["called", "points", "moves"] spDue := ok_is_due F__law_is_due G__law_is_word F__law_is_word b__law_is_word g__law_is_word G__law_is_number F__law_is_number b__law_is_number g__law_is_number G__law_is_step F__law_is_step b__law_is_step g__law_is_step m_isinstance m_tuple m_len
  have G__law_is_as : Eo.FnG l.prog w K mg base 3 _ _ ["made", "band"] (spAs C) := ok_is_as F__law_is_as c G_g1 bM1 G_g2 bM2 G_g3 bM3 m_repr
  have G__law_right := ok_right (P := l.prog) (w := w) (base := base) l29 c29 TB_cR hm_cR hu_cR g__law_met k26 l26 c26 b__law_met T c FO FE FL FS G_g1 bM1 G_g2 bM2 G_g3 bM3 G__law_cast F__law_cast b__law_cast g__law_cast G__law_pick F__law_pick b__law_pick g__law_pick G__law_odd_one F__law_odd_one b__law_odd_one g__law_odd_one G__law_any_plain F__law_any_plain b__law_any_plain g__law_any_plain G__law_bent_move F__law_bent_move b__law_bent_move g__law_bent_move G__law_bent_tuple F__law_bent_tuple b__law_bent_tuple g__law_bent_tuple G__law_is_due F__law_is_due b__law_is_due g__law_is_due G__law_is_as F__law_is_as b__law_is_as g__law_is_as m_len m_repr m_str m_range
  exact ok_law l30 c30 TB_cL hm_cL hu_cL g__law_met k26 l26 c26 b__law_met T c FO FE FL FS FI G__law_numbers F__law_numbers b__law_numbers g__law_numbers G__law_right F__law_right b__law_right g__law_right m_len m_max m_min m_range m_tuple
end My

open PySem PySem.W PyProof.Rows
set_option maxHeartbeats 0 in
theorem PySem.Challenge.cw_postedbag_k10_procedures_by_form_holds : PySem.Challenge.rw_postedbag_k10_procedures_by_form.Holds := by
  w_on; o_law; k_head; (case hw => w_witness2)
  k_fill
  refine Cl.walk_tabsG (l := PySem.Challenge.rw_postedbag_k10_procedures_by_form) (n := 63) (k := 14) (x := "script") ["_law_right", "law"] (by decide +kernel) rfl (by decide) rfl ⟨rfl, by decide, by decide⟩ (fun w h Y => PySem.W.km_in_of Y) ?F
  case F =>
    intro w mg fa h KX G hmg tabs
    refine' My.all_mk KX G hmg tabs ?a0 ?l0 ?c0 ?k0 ?a1 ?l1 ?c1 ?k1 ?a2 ?l2 ?c2 ?k2 ?a3 ?l3 ?c3 ?k3 ?a4 ?l4 ?c4 ?k4 ?a5 ?l5 ?c5 ?k5 ?a6 ?l6 ?c6 ?k6 ?a7 ?l7 ?c7 ?k7 ?a8 ?l8 ?c8 ?k8 ?a9 ?l9 ?c9 ?k9 ?a10 ?l10 ?c10 ?k10 ?a11 ?l11 ?c11 ?k11 ?a12 ?l12 ?c12 ?k12 ?a13 ?l13 ?c13 ?k13 ?a14 ?l14 ?c14 ?k14 ?a15 ?l15 ?c15 ?k15 ?a16 ?l16 ?c16 ?k16 ?a17 ?l17 ?c17 ?k17 ?a18 ?l18 ?c18 ?k18 ?a19 ?l19 ?c19 ?k19 ?a20 ?l20 ?c20 ?k20 ?a21 ?l21 ?c21 ?k21 ?a22 ?l22 ?c22 ?k22 ?a23 ?l23 ?c23 ?k23 ?a24 ?l24 ?c24 ?k24 ?a25 ?l25 ?c25 ?k25 ?a26 ?l26 ?c26 ?k26 ?a27 ?l27 ?c27 ?k27 ?a28 ?l28 ?c28 ?k28 ?a29 ?l29 ?c29 ?k29 ?a30 ?l30 ?c30 ?k30 ?lc_cR ?hv_cR ?nl_cR ?lc_cL ?hv_cL ?nl_cL ?hne ?z_isinstance ?z_int ?z_bool ?z_str ?z_tuple ?z_list ?z_len ?z_all ?z_range ?z_abs ?z_max ?z_min ?z_set ?z_sorted ?z_repr ?y_LONGEST_NAME ?y_MOST_MODES ?y_MOST_POINTS ?y_MOST_MOVES ?qe0 ?qe1 ?qe2 ?qe3 ?qe4 ?qe5 ?r0 ?r1 ?r3 ?r4 ?r5 ?r6 ?r7 ?p0 ?p1a ?p1b ?p1c ?p1d ?p2a ?p2b ?p2c ?p2d ?p3a ?p3b ?p4a ?p4b ?p4c ?n1 ?q1a ?q1b ?q1c ?q1d ?n2 ?q2a ?q2b ?q2c ?q2d ?n3 ?q3a ?q3b ?q3c ?q3d ?e1 ?e2 ?e3 ?e4 ?e5 ?e6 ?e7 ?cc1 ?cc4 ?kk1 ?kk2 ?kk3 ?kk4 ?ss1 ?ss2 ?ss3 ?lmI ?cmI ?kmI ?lmO ?cmO ?kmO ?lm1 ?cm1 ?km1 ?lm2 ?cm2 ?km2 ?lm3 ?cm3 ?km3 ?lmE ?cmE ?kmE ?lmL ?cmL ?kmL ?lmS ?cmS ?kmS
    (case a0 => k_is); (case l0 => k_is); (case c0 => k_is); (case k0 => k_is); (case a1 => k_is); (case l1 => k_is); (case c1 => k_is); (case k1 => k_is); (case a2 => k_is); (case l2 => k_is); (case c2 => k_is); (case k2 => k_is); (case a3 => k_is); (case l3 => k_is); (case c3 => k_is); (case k3 => k_is); (case a4 => k_is); (case l4 => k_is); (case c4 => k_is); (case k4 => k_is); (case a5 => k_is); (case l5 => k_is); (case c5 => k_is); (case k5 => k_is); (case a6 => k_is); (case l6 => k_is); (case c6 => k_is); (case k6 => k_is); (case a7 => k_is); (case l7 => k_is); (case c7 => k_is); (case k7 => k_is); (case a8 => k_is); (case l8 => k_is); (case c8 => k_is); (case k8 => k_is); (case a9 => k_is); (case l9 => k_is); (case c9 => k_is); (case k9 => k_is); (case a10 => k_is); (case l10 => k_is); (case c10 => k_is); (case k10 => k_is); (case a11 => k_is); (case l11 => k_is); (case c11 => k_is); (case k11 => k_is); (case a12 => k_is); (case l12 => k_is); (case c12 => k_is); (case k12 => k_is); (case a13 => k_is); (case l13 => k_is); (case c13 => k_is); (case k13 => k_is); (case a14 => k_is); (case l14 => k_is); (case c14 => k_is); (case k14 => k_is); (case a15 => k_is); (case l15 => k_is); (case c15 => k_is); (case k15 => k_is); (case a16 => k_is); (case l16 => k_is); (case c16 => k_is); (case k16 => k_is); (case a17 => k_is); (case l17 => k_is); (case c17 => k_is); (case k17 => k_is); (case a18 => k_is); (case l18 => k_is); (case c18 => k_is); (case k18 => k_is); (case a19 => k_is); (case l19 => k_is); (case c19 => k_is); (case k19 => k_is); (case a20 => k_is); (case l20 => k_is); (case c20 => k_is); (case k20 => k_is); (case a21 => k_is); (case l21 => k_is); (case c21 => k_is); (case k21 => k_is); (case a22 => k_is); (case l22 => k_is); (case c22 => k_is); (case k22 => k_is); (case a23 => k_is); (case l23 => k_is); (case c23 => k_is); (case k23 => k_is); (case a24 => k_is); (case l24 => k_is); (case c24 => k_is); (case k24 => k_is); (case a25 => k_is); (case l25 => k_is); (case c25 => k_is); (case k25 => k_is); (case a26 => k_is); (case l26 => k_is); (case c26 => k_is); (case k26 => k_is); (case a27 => k_is); (case l27 => k_is); (case c27 => k_is); (case k27 => k_is); (case a28 => k_is); (case l28 => k_is); (case c28 => k_is); (case k28 => k_is); (case a29 => k_is); (case l29 => k_is); (case c29 => k_is); (case k29 => k_is); (case a30 => k_is); (case l30 => k_is); (case c30 => k_is); (case k30 => k_is)
    (case lc_cR => k_is); (case hv_cR => rfl); (case nl_cR => kernel_rfl); (case lc_cL => k_is); (case hv_cL => rfl); (case nl_cL => kernel_rfl); (case hne => decide)
    (case z_isinstance => k_is); (case z_int => k_is); (case z_bool => k_is); (case z_str => k_is); (case z_tuple => k_is); (case z_list => k_is); (case z_len => k_is); (case z_all => k_is); (case z_range => k_is); (case z_abs => k_is); (case z_max => k_is); (case z_min => k_is); (case z_set => k_is); (case z_sorted => k_is); (case z_repr => k_is); (case y_LONGEST_NAME => k_is); (case y_MOST_MODES => k_is); (case y_MOST_POINTS => k_is); (case y_MOST_MOVES => k_is)
    (case qe0 => k_is); (case qe1 => k_exc); (case qe2 => k_is); (case qe3 => k_is); (case qe4 => k_is); (case qe5 => k_is); (case r0 => k_is); (case r1 => k_is); (case r3 => k_is); (case r4 => k_is); (case r5 => k_is); (case r6 => k_is); (case r7 => k_is); (case p0 => k_is); (case p1a => k_is); (case p1b => k_is); (case p1c => k_is); (case p1d => k_is); (case p2a => k_is); (case p2b => k_is); (case p2c => k_is); (case p2d => k_is); (case p3a => k_is); (case p3b => k_is); (case p4a => k_is); (case p4b => k_is); (case p4c => k_is); (case n1 => k_is); (case q1a => k_is); (case q1b => k_is); (case q1c => k_is); (case q1d => k_is); (case n2 => k_is); (case q2a => k_is); (case q2b => k_is); (case q2c => k_is); (case q2d => k_is); (case n3 => k_is); (case q3a => k_is); (case q3b => k_is); (case q3c => k_is); (case q3d => k_is); (case e1 => k_is); (case e2 => k_is); (case e3 => k_is); (case e4 => k_is); (case e5 => k_is); (case e6 => k_is); (case e7 => k_is); (case cc1 => k_is); (case cc4 => k_is); (case kk1 => kernel_rfl); (case kk2 => kernel_rfl); (case kk3 => kernel_rfl); (case kk4 => kernel_rfl); (case ss1 => k_is); (case ss2 => k_is); (case ss3 => k_is); (case lmI => k_is); (case cmI => k_is); (case kmI => k_is); (case lmO => k_is); (case cmO => k_is); (case kmO => k_is); (case lm1 => k_is); (case cm1 => k_is); (case km1 => k_is); (case lm2 => k_is); (case cm2 => k_is); (case km2 => k_is); (case lm3 => k_is); (case cm3 => k_is); (case km3 => k_is); (case lmE => k_is); (case cmE => k_is); (case kmE => k_is); (case lmL => k_is); (case cmL => k_is); (case kmL => k_is); (case lmS => k_is); (case cmS => k_is); (case kmS => k_is)
