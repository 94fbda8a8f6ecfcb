import PyProof.Rows.All
import Wide.All
import OpenK.AllK
import Wide.FinOn
import HandS.Base
import HandS.Call
import HandS.List
import HandS.Comp
import HandS.Ends
import HandS.Dict
import HandS.Iter
import HandS.Text
import HandS.Words
import HandS.Codes
import HandS.IsInst
import HandS.Walk
import HandS.Wide
import KE.KxText
import HandS.SlotsOwn
import PyProof.EqAt
import PyProof.EqKinds
import KE.KEqNest
import KE.KEqDict
import PyProof.FactsAll.dict_1
import PyProof.ReprRoads
import PyProof.ReprLen
import KE.DataEq
import HandS.SetFor
import HandS.Strs
import HandS.TupSets
import HandS.Exc
import HandS.ExcOwn
import HandS.ExcIs
import HandS.ExcInit
import HandS.ExcValue
import HandS.ExcField
import KE.KExcInit
import KE.KExcIs
import HandS.Star
import HandS.ClsMeth
import HandS.Property
import HandS.FStr
import HandS.TupMul
import HandS.TupAny
import HandS.Zip
import HandS.Style
import HandS.Deep
import KE.KEqSeq
import HandS.NoneIn
import HandS.Set
import HandS.SortOrd
import HandS.SortRule
import PyProof.P3In
import HandS.ForMost
import HandS.WordsExc
import HandS.Lambda
import HandS.EndBits
import HandS.EndTab
import HandS.TryOnly
import KE.GoesMore
import PyProof.EnumMake
import HandS.TryMany
import HandS.OwnEq
import HandS.Small
import KE.KDictDisplayH
import KE.DataFind
import PyProof.NeKinds
import PySem.Challenge.RW_postedbag_k12_posts_left_out
set_option Elab.async false
set_option linter.all false
set_option maxRecDepth 100000
set_option maxHeartbeats 4000000
/-! the law's own draws, over any row -/
namespace Sh
open PySem PySem.Spec PyProof.Rows L2

/-! ### rules -/
section
variable {X : Cx}
/-- ** of two numbers, the first one below 2 ^ 64 or both named by a bound -/
def CPowB (i j : Int) : Prop := 0 ≤ j ∧ (Builtin.Int.intBits i : Int) * j ≤ 2 ^ 27
theorem op_powB : OpR X (binaryOp .Pow) (rI CPowB fun i j => .int (i ^ j.toNat)) := opI fun _ _ _ _ _ _ _ hc q => pow_int hc.1 hc.2 q
theorem call_repr_bl : CallR X (.builtin "repr") (fun xs H Q => ∃ b : Bool, xs = [.bl b] ∧ Q (.str (if b then "True" else "False")) H) := by
  intro pins s σ H xs us Q I r h
  obtain ⟨b, rfl, q⟩ := h
  obtain ⟨u, rfl, rfl⟩ := vals1 r
  exact PySem.P.repr_of_bool ⟨.str _, H, I.tok _, ⟨_, rfl⟩, q⟩
/-- a list == [] -/
def rEqNil (K : PySem.W.Frag) : V → V → Hp → VK → Prop := fun x y H Q => ∃ a b xs, x = .ref a ∧ y = .ref b ∧ SqL K H a xs ∧ SqL K H b [] ∧ Q (.bl xs.isEmpty) H
theorem op_eqNil (hu : X.A.units + 64 < cLine) : OpR X (compareOp .Eq) (rEqNil X.K) := by
  intro pins s σ H x y v u Q I rx ry h
  obtain ⟨a, b, xs, rfl, rfl, h1, h2, q⟩ := h
  cases xs with
  | nil => exact op_eqD hu pins s σ H _ _ v u Q I rx ry ⟨.list [], .list [], .lst h1 .nil, .lst h2 .nil, by decide, by decide, q⟩
  | cons z zs =>
    cases (show v = Value.ref a from rx)
    cases (show u = Value.ref b from ry)
    obtain ⟨us, r1, l1, _⟩ := I.list h1
    obtain ⟨ws, r2, l2, _⟩ := I.list h2
    cases r1
    cases r2
    obtain ⟨o1, n1, e1, c1, d1, k1⟩ := l1
    obtain ⟨o2, n2, e2, c2, d2, k2⟩ := l2
    exact SeqAt.eq_list_lengthsAt ⟨o1, e1, c1, n1, k1⟩ ⟨o2, e2, c2, n2, k2⟩ rfl (by omega) ⟨.bl false, H, I, rfl, q⟩
end

/-! ### the die -/
def DieAt (H : Hp) (d : Addr) : Prop := ∃ a b c : Int, H d = some (.lst [.int a, .int b, .int c])
def NewDie (H : Hp) (d : Addr) (H' : Hp) : Prop := ∃ a b c : Int, H' = upd H d (.lst [.int a, .int b, .int c])
theorem NewDie.die {H H' : Hp} {d : Addr} (h : NewDie H d H') : DieAt H' d := by
  obtain ⟨a, b, c, rfl⟩ := h
  exact ⟨a, b, c, upd_same⟩
theorem NewDie.ne {H H' : Hp} {d p : Addr} (h : NewDie H d H') (hp : p ≠ d) : H' p = H p := by
  obtain ⟨a, b, c, rfl⟩ := h
  exact upd_ne hp
/-- all but the die as it was -/
def But (d : Addr) (H H' : Hp) : Prop := ∀ b o, b ≠ d → H b = some o → H' b = some o
theorem But.refl (d : Addr) (H : Hp) : But d H H := fun _ _ _ h => h
theorem But.trans {d : Addr} {H H1 H2 : Hp} (a : But d H H1) (b : But d H1 H2) : But d H H2 := fun c o n h => b c o n (a c o n h)
theorem But.same {d : Addr} {H H1 H2 : Hp} (a : But d H H1) (b : Same H1 H2) : But d H H2 := fun c o n h => b c o (a c o n h)
theorem NewDie.but {H H' : Hp} {d : Addr} (h : NewDie H d H') : But d H H' := fun _ _ n e => by
  rw [h.ne n]
  exact e
theorem But.new {d : Addr} {H H1 : Hp} {p : Addr} {o : HO} (a : But d H H1) (h : H1 p = none) : But d H (upd H1 p o) := fun c u n e => by
  rw [upd_ne (ne_of_none (a c u n e) h)]
  exact a c u n e
theorem But.seq {K : PySem.W.Frag} {d : Addr} {H H' : Hp} {a : Addr} {xs : List V} (e : But d H H') (n : a ≠ d) (h : SqL K H a xs) : SqL K H' a xs := by
  rcases h with (h | ⟨o, h⟩) | h
  · exact .inl (.inl (e _ _ n h))
  · exact .inl (.inr ⟨o, e _ _ n h⟩)
  · exact .inr h
theorem But.seqT {K : PySem.W.Frag} {d : Addr} {H H' : Hp} {a : Addr} {xs : List V} (e : But d H H') (n : a ≠ d) (h : SqT K H a xs) : SqT K H' a xs := by
  rcases h with (h | ⟨o, h⟩) | h
  · exact .inl (.inl (e _ _ n h))
  · exact .inl (.inr ⟨o, e _ _ n h⟩)
  · exact .inr h
theorem DieAt.new {H : Hp} {d p : Addr} {o : HO} (h : DieAt H d) (n : H p = none) : DieAt (upd H p o) d := by
  obtain ⟨a, b, c, h⟩ := h
  exact ⟨a, b, c, by rw [upd_ne (ne_of_none h n)]; exact h⟩

theorem upd_keep {H : Hp} {a p : Addr} {o u : HO} (h : H a = some u) (n : H p = none) : upd H p o a = some u := (upd_ne (ne_of_none h n)).trans h
theorem same_new {H H1 : Hp} {p : Addr} {o : HO} (s : Same H H1) (h : H1 p = none) : Same H (upd H1 p o) := fun b u e => upd_keep (s b u e) h
theorem same_put {H H1 : Hp} {p : Addr} {o : HO} (s : Same H H1) (h : H p = none) : Same H (upd H1 p o) := fun b u e => by
  rw [upd_ne (ne_of_none e h)]
  exact s b u e
theorem all_nil {P : V → Prop} : ∀ v ∈ ([] : List V), P v := fun _ h => by cases h
theorem all_cons {P : V → Prop} {a : V} {l : List V} (h : P a) (t : ∀ v ∈ l, P v) : ∀ v ∈ a :: l, P v := fun v hv => by
  rcases List.mem_cons.mp hv with rfl | hv
  · exact h
  · exact t v hv

theorem DieAt.free {H : Hp} {d p : Addr} (h : DieAt H d) (n : H p = none) : p ≠ d := fun e => by
  obtain ⟨a, b, c, h⟩ := h
  rw [e, h] at n
  cases n
theorem But.put {d : Addr} {H H2 : Hp} {D : Addr} {o : HO} (b : But d H H2) (n : H D = none) : But d H (upd H2 D o) := fun c u hc e => by
  rw [upd_ne (ne_of_none e n)]
  exact b c u hc e
theorem DieAt.put {H : Hp} {d p : Addr} {o : HO} (h : DieAt H d) (n : p ≠ d) : DieAt (upd H p o) d := by
  obtain ⟨a, b, c, h⟩ := h
  exact ⟨a, b, c, by rw [upd_ne n.symm]; exact h⟩
theorem DieAt.same {H H' : Hp} {d : Addr} (h : DieAt H d) (s : Same H H') : DieAt H' d := by
  obtain ⟨a, b, c, h⟩ := h
  exact ⟨a, b, c, s _ _ h⟩
theorem But.free {d : Addr} {H H' : Hp} {p : Addr} (b : But d H H') (hp : p ≠ d) (n : H' p = none) : H p = none := by
  cases e : H p with
  | none => rfl
  | some o =>
    rw [b p o hp e] at n
    cases n
/-- a die that was laid since: nothing of before is changed -/
theorem Same.but {d : Addr} {H0 H H' : Hp} (s : Same H0 H) (n : H0 d = none) (b : But d H H') : Same H0 H' := fun p o e => b p o (fun z => by subst z; rw [n] at e; cases e) (s p o e)
theorem sum_ones (ys : List Str) (h : ∀ y ∈ ys, y.length = 1) : (ys.map (·.length)).sum = ys.length := by
  induction ys with
  | nil => rfl
  | cons y r ih =>
    rw [List.map_cons, List.sum_cons, h y List.mem_cons_self, ih fun z hz => h z (List.mem_cons_of_mem _ hz), List.length_cons]
    omega
theorem len_ok {xs : List V} (h : Nat.ble xs.length 1000 = true := by rfl) : xs.length ≤ sizeLine := Nat.le_of_lt (small1000 (Nat.le_of_ble_eq_true h))
/-! ### the odd ones -/
def Flat (v : V) : Prop := v = .non ∨ (∃ i : Int, v = .int i) ∨ (∃ b, v = .bl b) ∨ ∃ z : Str, v = .str z ∧ z.length ≤ 9
def Flat2 (H : Hp) (v : V) : Prop := Flat v ∨ ∃ q ys, v = .ref q ∧ H q = some (.tup ys) ∧ ys.length ≤ 2 ∧ ∀ y ∈ ys, Flat y
def Odd (H : Hp) (v : V) : Prop := Flat v ∨ (∃ p xs, v = .ref p ∧ H p = some (.tup xs) ∧ xs.length ≤ 2 ∧ ∀ x ∈ xs, Flat2 H x) ∨ (∃ p, v = .ref p ∧ H p = some (.lst [.int 0])) ∨ ∃ p, v = .ref p ∧ H p = some (.dK [])
theorem DieAt.ne {H : Hp} {d p : Addr} {o : HO} (h : DieAt H d) (hp : H p = some o) (ho : ∀ a b c : Int, o ≠ .lst [.int a, .int b, .int c]) : p ≠ d := fun e => by
  obtain ⟨a, b, c, h⟩ := h
  subst e
  rw [h] at hp
  exact ho a b c (Option.some.inj hp).symm
theorem Flat2.but {d : Addr} {H H' : Hp} {v : V} (b : But d H H') (hd : DieAt H d) (h : Flat2 H v) : Flat2 H' v := by
  rcases h with h | ⟨q, ys, e, hq, hl, hy⟩
  · exact .inl h
  · exact .inr ⟨q, ys, e, b _ _ (hd.ne hq fun _ _ _ z => by cases z) hq, hl, hy⟩
theorem Odd.but {d : Addr} {H H' : Hp} {v : V} (b : But d H H') (hd : DieAt H d) (h : Odd H v) : Odd H' v := by
  rcases h with h | ⟨q, ys, e, hq, hl, hy⟩ | ⟨q, e, hq⟩ | ⟨q, e, hq⟩
  · exact .inl h
  · exact .inr (.inl ⟨q, ys, e, b _ _ (hd.ne hq fun _ _ _ z => by cases z) hq, hl, fun x hx => (hy x hx).but b hd⟩)
  · exact .inr (.inr (.inl ⟨q, e, b _ _ (hd.ne hq fun _ _ _ z => by cases z) hq⟩))
  · exact .inr (.inr (.inr ⟨q, e, b _ _ (hd.ne hq fun _ _ _ z => by cases z) hq⟩))
theorem flat_non : Flat .non := .inl rfl
theorem flat_int (i : Int) : Flat (.int i) := .inr (.inl ⟨i, rfl⟩)
theorem flat_bl (b : Bool) : Flat (.bl b) := .inr (.inr (.inl ⟨b, rfl⟩))
theorem flat_str {z : Str} (h : z.length ≤ 9) : Flat (.str z) := .inr (.inr (.inr ⟨z, rfl, h⟩))

/-! ### the promises of the three that draw -/
def spNumbers (K : PySem.W.Frag) : Sp := fun vs H Q _ => ∃ (a : Addr) (ns : List Int) (i : Int), vs = [.ref a, .int i] ∧ 0 ≤ i ∧ SqL K H a (ns.map V.int) ∧
  ∀ p x y, H p = none → Q (.ref p) (upd H p (.lst [.int x, .int y, .int 0]))
def spCast : Sp := fun vs H Q _ => ∃ (d : Addr) (n : Int), vs = [.ref d, .int n] ∧ DieAt H d ∧ 0 < n ∧ n < 1073741824 ∧
  ∀ (r : Nat) H', (r : Int) < n → NewDie H d H' → Q (.int r) H'
def spPick (K : PySem.W.Frag) : Sp := fun vs H Q _ => ∃ (d : Addr), DieAt H d ∧
  ((∃ p xs, vs = [.ref d, .ref p] ∧ p ≠ d ∧ (SqL K H p xs ∨ SqT K H p xs) ∧ xs ≠ [] ∧ xs.length < 1073741824 ∧ ∀ (j : Nat) v H', xs[j]? = some v → NewDie H d H' → Q v H')
  ∨ (∃ z : Str, vs = [.ref d, .str z] ∧ 0 < z.length ∧ z.length ≤ 1000 ∧ ∀ (j : Nat) c H', z.cps.toList[j]? = some c → NewDie H d H' → Q (.str ⟨#[c]⟩) H'))
theorem turns_ok {c : Int} {n : Nat} (h : n ≤ 63) (h0 : 0 ≤ c) (h1 : c ≤ 1000) : -(2 ^ 62) ≤ (if (if (n : Int) < c then (n : Int) else c) > 1 then (if (n : Int) < c then (n : Int) else c) else 1) ∧ (if (if (n : Int) < c then (n : Int) else c) > 1 then (if (n : Int) < c then (n : Int) else c) else 1) < 2 ^ 62 := by
  split <;> split <;> omega
/-- the law itself -/
def spLaw (K : PySem.W.Frag) : Sp := fun vs H Q _ => ∃ (a : Addr) (ns : List Int), vs = [.ref a] ∧ SqL K H a (ns.map V.int) ∧ ns.length ≤ 63 ∧ ∀ H', Q (.bl true) H'
/-- one round of the law -/
def spRight : Sp := fun vs H Q _ => ∃ (d : Addr), vs = [.ref d] ∧ DieAt H d ∧ ∀ H', But d H H' → DieAt H' d → Q (.bl true) H'
/-- one of the odd values, at an address that did not hold anything -/
def spOdd : Sp := fun vs H Q _ => ∃ (d : Addr), vs = [.ref d] ∧ DieAt H d ∧ ∀ v H', Odd H' v → But d H H' → DieAt H' d → Q v H'
end Sh

/-! own classes compared: == and != beside any value -/
namespace Ow
open PySem PySem.Spec PyProof.Rows L2 Sh
theorem ins_at {X : Cx} {pins : List (Addr × Obj)} {σ : L2.St} {H : Hp} {s : Shared} {a C dx : Addr} {fs : List (Str × V)} (I : L2.Inv X pins σ H s) (h : H a = some (.ins C dx fs)) : ∃ od, W.InstAt s.heap a (W.instObj C dx) C od := by
  obtain ⟨mA, om, _⟩ := ins_get I.hok h
  obtain ⟨ob, ns, ne⟩ := om
  obtain ⟨o, es, ep, e, _⟩ := ns
  exact ⟨some o, ⟨ob, rfl, rfl, e⟩⟩
def rEqO (K : W.Frag) (C : Addr) (sp : Sp) (E : XK) : R2 := fun x y H Q => ∃ a dx fs T, x = .ref a ∧ H a = some (.ins C dx fs) ∧ TyX K H y T ∧ W.notFirst K C T = true ∧ sp [x, y] H Q E
theorem op_eqO {X : Cx} {CX : CXT} {C g : Addr} {n : Nat} {sp : Sp} {E : XK} (hs : W.findIn X.K (.ref C) "__eq__" = some (some (.ref g))) (hf : W.isFn X.K (.ref g) = true) (F : FnR X.prog X.w X.K X.mg X.base CX n g sp) (hr : Room n X.A) (hx : Passes CX X E) : OpR X (compareOp .Eq) (rEqO X.K C sp E) := by
  intro pins s σ H x y v u Q I rx ry h
  obtain ⟨a, dx, fs, T, rfl, ha, ty, nf, q⟩ := h
  cases rx
  obtain ⟨od, ia⟩ := ins_at I ha
  obtain ⟨P, kx, hP, _⟩ := kit_of I ry ty
  obtain ⟨m, fr⟩ := I.fr
  refine W.cmp_ofEq (W.cmp_K (by have := hr.units; omega) fr I.ok.mod.kin ia (kx.ty _ _ I.kIn hP) nf hs hf (wpAny_call ?_))
  refine codeAny_mono (SlX.run_at F hr I.env0 hx I (show Vals [V.ref a, y] [Value.ref a, u] from .cons rfl (.cons ry .nil)) q) fun r s' z => ?_
  cases r with
  | error e => exact z
  | ok fl =>
    cases fl with
    | ret w =>
      obtain ⟨z1, H', I', rz, q⟩ := z
      exact SlX.cmpback rz ⟨z1, H', I', rz, q⟩
    | next => exact z
    | brk => exact z
    | cont => exact z

theorem ifBound_ne {M : Model} {A : Around} {E : Value → Shared → Prop} {s : Shared} {K : W.Frag} {x C : Addr} {ox : Obj} {od : Option Obj} {args : List Value} {Q : Option Value → Shared → Prop} (kx : K.In s.heap) (ia : W.InstAt s.heap x ox C od)
    (hn : W.findIn K (.ref C) "__ne__" = some (some (.builtin "object.__ne__"))) (q : wpAny M A (call (.builtin "object.__ne__") (.ref x :: args)) (fun v => Q (some v)) E s) : wpAny M A (callSpecialIfBound? (.ref x) "__ne__" args) Q E s := by
  unfold callSpecialIfBound? bindSpecialIfBound? specialOf
  have b := PySem.F.slot_object_ne.bind (.ref x)
  have t1 := ia.type (M := M)
  have t2 := W.looks_findIn (M := M) kx hn
  cases s with
  | mk h g d t os =>
  repeat (first
    | with_reducible refine t1.at ?_
    | with_reducible refine t2.at ?_
    | rw [b]
    | wp_step)
  refine wpAny_askSetting ?_
  have e : (do
            let __do_lift ← (pure (Value.builtin "object.__ne__", [Value.ref x]) : Sem (Value × List Value))
            pure (some __do_lift)) = (pure (some (Value.builtin "object.__ne__", [Value.ref x])) : Sem (Option (Value × List Value))) := rfl
  have e2 : ∀ h, Sem.tryCatch (pure (some (Value.builtin "object.__ne__", [Value.ref x])) : Sem (Option (Value × List Value))) h = pure (some (Value.builtin "object.__ne__", [Value.ref x])) := fun h => rfl
  rw [e, e2, ite_self]
  refine wpAny_pure ?_
  show wpAny M A (call _ ([Value.ref x] ++ args) >>= fun r => pure (some r)) _ _ _
  refine wpAny_bind (wpAny_mono q (fun v s' z => wpAny_pure z) fun _ _ z => z)
/-- what object.__ne__ answers beside an own __eq__ that answers a bool -/
theorem call_ne {prog : PySem.Program} {w : World} {A : Around} {E : Value → Shared → Prop} {s : Shared} {K : W.Frag} {x C f : Addr} {ox : Obj} {od : Option Obj} {u : Value} {Q : Value → Shared → Prop} (hu : A.units + 64 < cLine) (kx : K.In s.heap) (ia : W.InstAt s.heap x ox C od)
    (hm : W.mroIn K C (.type "object") = some true) (he : W.findIn K (.ref C) "__eq__" = some (some (.ref f))) (hf : W.isFn K (.ref f) = true)
    (q : codeAny (model prog w) (A.under (.builtin "object.__ne__" ⟨[.ref x, u], []⟩)) (.call (.ref f) ⟨[.ref x, u], []⟩) (fun r s' => match r with | .ok (.ret v) => ∃ b, v = .bool b ∧ Q (.bool !b) s' | .ok _ => False | .error e => E e s') s) : wpAny (model prog w) A (call (.builtin "object.__ne__") [.ref x, u]) Q E s := by
  refine wpAny_call (codeAny_call_builtin_at (Code.quiet_builtin _ (by decide +kernel)) PySem.F.entry_object_ne (W.check_slot (owner := "object") (n := "__ne__") (by decide +kernel) (by decide +kernel) ?_ (PySem.F.args_object_ne_2 _ _) ?_))
  · intro A Q E s' k q
    unfold isInstance
    have t1 := ia.type (M := model prog w)
    have t2 := W.looks_mroIn (M := model prog w) kx hm
    refine wpAny_bind (t1 _ _ _ _ k (t2 _ _ _ _ k q))
  · unfold Builtin.«object.__ne__»
    have u2 : (A.under (.builtin "object.__ne__" ⟨[.ref x, u], []⟩)).units < cLine := by
      show A.units + 1 < _
      omega
    cases s with
    | mk h g d t os =>
    repeat (first
      | with_reducible refine wpAny_cRoomFor u2 ?_
      | with_reducible refine wpAny_bind (W.ifBound_K kx ia he hf ?_)
      | with_reducible refine W.ifBound_K kx ia he hf ?_
      | wp_step)
    refine codeAny_mono q fun r s' z => ?_
    cases r with
    | error e => exact z
    | ok fl =>
      cases fl with
      | ret v =>
        obtain ⟨b, rfl, z2⟩ := z
        refine wpAny_bind ?_
        cases s'
        repeat wp_step
        exact z2
      | next => exact z
      | brk => exact z
      | cont => exact z
theorem room_ne {k : Nat} {A : Around} (h : Room (k + 1) A) (args : Args) : Room k (A.under (.builtin "object.__ne__" args)) := ⟨h.hd, by
  have := h.dp
  have e : (A.under (.builtin "object.__ne__" args)).depth = A.depth := by
    show A.depth + Code.weight _ = _
    rw [show Code.weight (.builtin "object.__ne__" args) = 0 by unfold Code.weight; kernel_rfl]
    rfl
  omega, by
  have := h.un
  have e : (A.under (.builtin "object.__ne__" args)).units = A.units + 1 := by
    show A.units + Code.cUnits _ = _
    rw [show Code.cUnits (.builtin "object.__ne__" args) = 1 by unfold Code.cUnits; kernel_rfl]
  omega⟩
theorem env_ne {P : Program} {w : World} {K : PySem.W.Frag} {mg : Str → Option Value} {base : Heap} {A : Around} {outer : List Env} {s : Shared} {H : Hp} (h : Env0 P w K mg base A outer s H) (args : Args) : Env0 P w K mg base (A.under (.builtin "object.__ne__" args)) outer s H := ⟨h.frames, h.mod, h.bs, h.bsz, h.funs, h.frf, h.hok, h.bare⟩
theorem try_ne {M : Model} {A : Around} {E : Value → Shared → Prop} {s : Shared} {K : W.Frag} {x C : Addr} {ox : Obj} {od : Option Obj} {u : Value} {Q : Option Value → Shared → Prop} (kx : K.In s.heap) (ia : W.InstAt s.heap x ox C od)
    (hn : W.findIn K (.ref C) "__ne__" = some (some (.builtin "object.__ne__"))) (q : wpAny M A (call (.builtin "object.__ne__") [.ref x, u]) (fun v s' => ∃ b, v = .bool b ∧ Q (some (.bool b)) s') E s) : wpAny M A (tryCompare (.ref x) "__ne__" u) Q E s := by
  unfold tryCompare
  refine wpAny_bind (ifBound_ne kx ia hn (wpAny_mono q (fun v s' z => ?_) fun _ _ z => z))
  obtain ⟨b, rfl, z⟩ := z
  exact wpAny_pure z
def rNeO (K : W.Frag) (C : Addr) (sp : Sp) (E : XK) : R2 := fun x y H Q => ∃ a dx fs T, x = .ref a ∧ H a = some (.ins C dx fs) ∧ TyX K H y T ∧ (Value.ref C != T) = true ∧ W.subIn K T (.ref C) = some false ∧ sp [x, y] H (fun v H' => ∃ b, v = .bl b ∧ Q (.bl !b) H') E
theorem op_neO {X : Cx} {CX : CXT} {C g : Addr} {n : Nat} {sp : Sp} {E : XK} (hn : W.findIn X.K (.ref C) "__ne__" = some (some (.builtin "object.__ne__"))) (hm : W.mroIn X.K C (.type "object") = some true) (hs : W.findIn X.K (.ref C) "__eq__" = some (some (.ref g))) (hf : W.isFn X.K (.ref g) = true) (F : FnR X.prog X.w X.K X.mg X.base CX n g sp) (hr : Room (n + 1) X.A) (hx : Passes CX X E) : OpR X (compareOp .NotEq) (rNeO X.K C sp E) := by
  intro pins s σ H x y v u Q I rx ry h
  obtain ⟨a, dx, fs, T, rfl, ha, ty, nt, nf, q⟩ := h
  cases rx
  obtain ⟨od, ia⟩ := ins_at I ha
  obtain ⟨P, kx, hP, _⟩ := kit_of I ry ty
  have k := I.kIn
  have t1 := ia.type (M := model X.prog X.w)
  have t2 := kx.ty (model X.prog X.w) _ k hP
  have t3 := W.looks_subIn (M := model X.prog X.w) k nf
  have hu := hr.units
  have ru := SlX.run_at F (room_ne hr ⟨[.ref a, u], []⟩) (env_ne I.env0 _) hx I (show Vals [V.ref a, y] [Value.ref a, u] from .cons rfl (.cons ry .nil)) q
  refine W.cmp_ofNotEq ?_
  unfold richCompare
  rw [oneThing_ref]
  cases s with
  | mk h g d t os =>
  repeat (first
    | with_reducible refine wpAny_cRoomFor (by omega) ?_
    | with_reducible refine t1.at ?_
    | with_reducible refine t2.at ?_
    | wp_step)
  refine t3.at ?_
  show wpAny _ _ (tryCompare (Value.ref a) "__ne__" u >>= _) _ _ _
  refine wpAny_bind (try_ne k ia hn (call_ne (by omega) k ia hm hs hf ?_))
  refine codeAny_mono ru fun r s' z => ?_
  cases r with
  | error e => exact z
  | ok fl =>
    cases fl with
    | ret w =>
      obtain ⟨z1, H', I', rz, b, rfl, q⟩ := z
      cases (show w = Value.bool b from rz)
      exact ⟨b, rfl, _, rfl, wpAny_pure ⟨.bl !b, H', I', rfl, q⟩⟩
    | next => exact z
    | brk => exact z
    | cont => exact z
end Ow

/-! a dict beside values of other kinds -/
namespace Dq
open PySem PySem.SeqAt
open AutoSeq1 (wpAny_loadPart')
theorem sub_none : isSubtype (.type "NoneType") (.type "dict") = pure false := by rw [isSubtype_type]; kernel_rfl
theorem bus_none : isSubtype (.type "dict") (.type "NoneType") = pure false := by rw [isSubtype_type]; kernel_rfl
theorem d_none (l : Addr) (es : Array DictEntry) (n : Nat) (dd : Option Addr) (sl : Array (Option Value))  :
    Meets (Builtin.«dict.__eq__» ⟨[.ref l, .none], []⟩) (fun _ R s => s.heap.get? l = some ⟨.type "dict", dd, .dict es n, sl⟩ ∧ R (.ok (.ret .notImplemented)) s) :=
  .of_wp fun prog w A R s h => by
    obtain ⟨hp, g, d, tk, os⟩ := s
    obtain ⟨hl, h⟩ := h
    have f1 := sub_none
    wp_walk using wpAny_loadPart' hl
    exact ⟨_, rfl, h⟩
theorem e_none  (l : Addr) (es : Array DictEntry) (n : Nat) (dd : Option Addr) (sl : Array (Option Value)) :
    Meets (Builtin.«NoneType.__eq__» ⟨[.none, .ref l], []⟩) (fun _ R s => s.heap.get? l = some ⟨.type "dict", dd, .dict es n, sl⟩ ∧ R (.ok (.ret .notImplemented)) s) :=
  .of_wp fun prog w A R s h => by
    obtain ⟨hp, g, d, tk, os⟩ := s
    obtain ⟨hl, h⟩ := h
    wp_walk using wpAny_loadPart' hl, wpAny_load hl
    exact ⟨_, rfl, h⟩
theorem sub_bool : isSubtype (.type "bool") (.type "dict") = pure false := by rw [isSubtype_type]; kernel_rfl
theorem bus_bool : isSubtype (.type "dict") (.type "bool") = pure false := by rw [isSubtype_type]; kernel_rfl
theorem d_bool (l : Addr) (es : Array DictEntry) (n : Nat) (dd : Option Addr) (sl : Array (Option Value)) (b : Bool) :
    Meets (Builtin.«dict.__eq__» ⟨[.ref l, .bool b], []⟩) (fun _ R s => s.heap.get? l = some ⟨.type "dict", dd, .dict es n, sl⟩ ∧ R (.ok (.ret .notImplemented)) s) :=
  .of_wp fun prog w A R s h => by
    obtain ⟨hp, g, d, tk, os⟩ := s
    obtain ⟨hl, h⟩ := h
    have f1 := sub_bool
    wp_walk using wpAny_loadPart' hl
    exact ⟨_, rfl, h⟩
theorem e_bool (b : Bool) (l : Addr) (es : Array DictEntry) (n : Nat) (dd : Option Addr) (sl : Array (Option Value)) :
    Meets (Builtin.«int.__eq__» ⟨[.bool b, .ref l], []⟩) (fun _ R s => s.heap.get? l = some ⟨.type "dict", dd, .dict es n, sl⟩ ∧ R (.ok (.ret .notImplemented)) s) :=
  .of_wp fun prog w A R s h => by
    obtain ⟨hp, g, d, tk, os⟩ := s
    obtain ⟨hl, h⟩ := h
    wp_walk using wpAny_loadPart' hl, wpAny_load hl
    exact ⟨_, rfl, h⟩
theorem sub_int : isSubtype (.type "int") (.type "dict") = pure false := by rw [isSubtype_type]; kernel_rfl
theorem bus_int : isSubtype (.type "dict") (.type "int") = pure false := by rw [isSubtype_type]; kernel_rfl
theorem d_int (l : Addr) (es : Array DictEntry) (n : Nat) (dd : Option Addr) (sl : Array (Option Value)) (b : Int) (u : Tok) :
    Meets (Builtin.«dict.__eq__» ⟨[.ref l, .int b u], []⟩) (fun _ R s => s.heap.get? l = some ⟨.type "dict", dd, .dict es n, sl⟩ ∧ R (.ok (.ret .notImplemented)) s) :=
  .of_wp fun prog w A R s h => by
    obtain ⟨hp, g, d, tk, os⟩ := s
    obtain ⟨hl, h⟩ := h
    have f1 := sub_int
    wp_walk using wpAny_loadPart' hl
    exact ⟨_, rfl, h⟩
theorem e_int (b : Int) (u : Tok) (l : Addr) (es : Array DictEntry) (n : Nat) (dd : Option Addr) (sl : Array (Option Value)) :
    Meets (Builtin.«int.__eq__» ⟨[.int b u, .ref l], []⟩) (fun _ R s => s.heap.get? l = some ⟨.type "dict", dd, .dict es n, sl⟩ ∧ R (.ok (.ret .notImplemented)) s) :=
  .of_wp fun prog w A R s h => by
    obtain ⟨hp, g, d, tk, os⟩ := s
    obtain ⟨hl, h⟩ := h
    wp_walk using wpAny_loadPart' hl, wpAny_load hl
    exact ⟨_, rfl, h⟩
theorem sub_str : isSubtype (.type "str") (.type "dict") = pure false := by rw [isSubtype_type]; kernel_rfl
theorem bus_str : isSubtype (.type "dict") (.type "str") = pure false := by rw [isSubtype_type]; kernel_rfl
theorem d_str (l : Addr) (es : Array DictEntry) (n : Nat) (dd : Option Addr) (sl : Array (Option Value)) (b : Str) (u : Tok) :
    Meets (Builtin.«dict.__eq__» ⟨[.ref l, .str b u], []⟩) (fun _ R s => s.heap.get? l = some ⟨.type "dict", dd, .dict es n, sl⟩ ∧ R (.ok (.ret .notImplemented)) s) :=
  .of_wp fun prog w A R s h => by
    obtain ⟨hp, g, d, tk, os⟩ := s
    obtain ⟨hl, h⟩ := h
    have f1 := sub_str
    wp_walk using wpAny_loadPart' hl
    exact ⟨_, rfl, h⟩
theorem e_str (b : Str) (u : Tok) (l : Addr) (es : Array DictEntry) (n : Nat) (dd : Option Addr) (sl : Array (Option Value)) :
    Meets (Builtin.«str.__eq__» ⟨[.str b u, .ref l], []⟩) (fun _ R s => s.heap.get? l = some ⟨.type "dict", dd, .dict es n, sl⟩ ∧ R (.ok (.ret .notImplemented)) s) :=
  .of_wp fun prog w A R s h => by
    obtain ⟨hp, g, d, tk, os⟩ := s
    obtain ⟨hl, h⟩ := h
    wp_walk using wpAny_loadPart' hl, wpAny_load hl
    exact ⟨_, rfl, h⟩
theorem sub_list : isSubtype (.type "list") (.type "dict") = pure false := by rw [isSubtype_type]; kernel_rfl
theorem bus_list : isSubtype (.type "dict") (.type "list") = pure false := by rw [isSubtype_type]; kernel_rfl
theorem d_list (l p : Addr) (es : Array DictEntry) (n : Nat) (dd : Option Addr) (sl : Array (Option Value)) (its : Array Value) (m : Nat) (dd2 : Option Addr) (sl2 : Array (Option Value)) :
    Meets (Builtin.«dict.__eq__» ⟨[.ref l, .ref p], []⟩) (fun _ R s => s.heap.get? l = some ⟨.type "dict", dd, .dict es n, sl⟩ ∧ s.heap.get? p = some ⟨.type "list", dd2, .seq its m, sl2⟩ ∧ R (.ok (.ret .notImplemented)) s) :=
  .of_wp fun prog w A R s h => by
    obtain ⟨hp, g, d, tk, os⟩ := s
    obtain ⟨hl, hb, h⟩ := h
    have f1 := sub_list
    wp_walk using wpAny_loadPart' hl, wpAny_loadPart' hb
    exact ⟨_, rfl, h⟩
theorem e_list (p l : Addr) (es : Array DictEntry) (n : Nat) (dd : Option Addr) (sl : Array (Option Value)) (its : Array Value) (m : Nat) (dd2 : Option Addr) (sl2 : Array (Option Value)) :
    Meets (Builtin.«list.__eq__» ⟨[.ref p, .ref l], []⟩) (fun _ R s => s.heap.get? l = some ⟨.type "dict", dd, .dict es n, sl⟩ ∧ s.heap.get? p = some ⟨.type "list", dd2, .seq its m, sl2⟩ ∧ R (.ok (.ret .notImplemented)) s) :=
  .of_wp fun prog w A R s h => by
    obtain ⟨hp, g, d, tk, os⟩ := s
    obtain ⟨hl, hb, h⟩ := h
    have f1 := bus_list
    wp_walk using wpAny_loadPart' hl, wpAny_loadPart' hb
    exact ⟨_, rfl, h⟩
theorem sub_tuple : isSubtype (.type "tuple") (.type "dict") = pure false := by rw [isSubtype_type]; kernel_rfl
theorem bus_tuple : isSubtype (.type "dict") (.type "tuple") = pure false := by rw [isSubtype_type]; kernel_rfl
theorem d_tuple (l p : Addr) (es : Array DictEntry) (n : Nat) (dd : Option Addr) (sl : Array (Option Value)) (its : Array Value) (m : Nat) (dd2 : Option Addr) (sl2 : Array (Option Value)) :
    Meets (Builtin.«dict.__eq__» ⟨[.ref l, .ref p], []⟩) (fun _ R s => s.heap.get? l = some ⟨.type "dict", dd, .dict es n, sl⟩ ∧ s.heap.get? p = some ⟨.type "tuple", dd2, .seq its m, sl2⟩ ∧ R (.ok (.ret .notImplemented)) s) :=
  .of_wp fun prog w A R s h => by
    obtain ⟨hp, g, d, tk, os⟩ := s
    obtain ⟨hl, hb, h⟩ := h
    have f1 := sub_tuple
    wp_walk using wpAny_loadPart' hl, wpAny_loadPart' hb
    exact ⟨_, rfl, h⟩
theorem e_tuple (p l : Addr) (es : Array DictEntry) (n : Nat) (dd : Option Addr) (sl : Array (Option Value)) (its : Array Value) (m : Nat) (dd2 : Option Addr) (sl2 : Array (Option Value)) :
    Meets (Builtin.«tuple.__eq__» ⟨[.ref p, .ref l], []⟩) (fun _ R s => s.heap.get? l = some ⟨.type "dict", dd, .dict es n, sl⟩ ∧ s.heap.get? p = some ⟨.type "tuple", dd2, .seq its m, sl2⟩ ∧ R (.ok (.ret .notImplemented)) s) :=
  .of_wp fun prog w A R s h => by
    obtain ⟨hp, g, d, tk, os⟩ := s
    obtain ⟨hl, hb, h⟩ := h
    have f1 := bus_tuple
    wp_walk using wpAny_loadPart' hl, wpAny_loadPart' hb
    exact ⟨_, rfl, h⟩
section
variable {A : Around} {s : Shared} {l p : Addr} {es : Array DictEntry} {n : Nat} {dd : Option Addr} {sl : Array (Option Value)}
/-- the comparison as items of a sequence are compared -/
theorem item {a b : Value} (hne : (a == b) = false) (hf : ∀ x t, a ≠ .float x t) (h : RcAt A s a b false) : EqAt A s a b false := fun prog w E Q hq => by
  unfold eqBool
  refine wpAny_holding (wpAny_ite_split (fun e => ?_) fun _ => ?_)
  · rw [hne] at e
    exact absurd e Bool.false_ne_true
  · cases a with
    | float x t => exact absurd rfl (hf x t)
    | _ => exact wpAny_bind (h prog w E _ (wpAny_truthy_bool hq))
theorem dict_none  (ho : s.heap.get? l = some ⟨.type "dict", dd, .dict es n, sl⟩) (hu : A.units < cLine) : RcAt A s (.ref l) (.none) false := fun prog w E Q h =>
  rc_eq_decline_or (k := false) ⟨_, ho, rfl⟩ rfl (by decide) sub_none F.slot_dict_eq F.slot_NoneType_eq_refl
    (fun _ hq => call_meets F.slot_dict_eq ⟨_, ho, rfl⟩ F.entry_dict_eq (F.args_dict_eq_2 _ _) (d_none l es n dd sl ) ⟨ho, hq⟩)
    (fun _ hq => call_meets F.slot_NoneType_eq_refl rfl F.entry_NoneType_eq (F.args_NoneType_eq_2 _ _) (e_none  l es n dd sl) ⟨ho, hq⟩)
    (fun _ hq => wpAny_of_eq (rfl : isSame (.ref l) (.none) = pure false) hq) (.inr hu) h
theorem none_dict  (ho : s.heap.get? l = some ⟨.type "dict", dd, .dict es n, sl⟩) (hu : A.units < cLine) : RcAt A s (.none) (.ref l) false := fun prog w E Q h =>
  rc_eq_decline_or (k := false) rfl ⟨_, ho, rfl⟩ (by decide) bus_none F.slot_NoneType_eq F.slot_dict_eq_refl
    (fun _ hq => call_meets F.slot_NoneType_eq rfl F.entry_NoneType_eq (F.args_NoneType_eq_2 _ _) (e_none  l es n dd sl) ⟨ho, hq⟩)
    (fun _ hq => call_meets F.slot_dict_eq_refl ⟨_, ho, rfl⟩ F.entry_dict_eq (F.args_dict_eq_2 _ _) (d_none l es n dd sl ) ⟨ho, hq⟩)
    (fun _ hq => wpAny_of_eq (rfl : isSame (.none) (.ref l) = pure false) hq) (.inr hu) h
theorem dict_bool (b : Bool) (ho : s.heap.get? l = some ⟨.type "dict", dd, .dict es n, sl⟩) (hu : A.units < cLine) : RcAt A s (.ref l) (.bool b) false := fun prog w E Q h =>
  rc_eq_decline_or (k := false) ⟨_, ho, rfl⟩ rfl (by decide) sub_bool F.slot_dict_eq F.slot_bool_eq_refl
    (fun _ hq => call_meets F.slot_dict_eq ⟨_, ho, rfl⟩ F.entry_dict_eq (F.args_dict_eq_2 _ _) (d_bool l es n dd sl b) ⟨ho, hq⟩)
    (fun _ hq => call_meets F.slot_bool_eq_refl rfl F.entry_int_eq (F.args_int_eq_2 _ _) (e_bool b l es n dd sl) ⟨ho, hq⟩)
    (fun _ hq => wpAny_of_eq (rfl : isSame (.ref l) (.bool b) = pure false) hq) (.inr hu) h
theorem bool_dict (b : Bool) (ho : s.heap.get? l = some ⟨.type "dict", dd, .dict es n, sl⟩) (hu : A.units < cLine) : RcAt A s (.bool b) (.ref l) false := fun prog w E Q h =>
  rc_eq_decline_or (k := false) rfl ⟨_, ho, rfl⟩ (by decide) bus_bool F.slot_bool_eq F.slot_dict_eq_refl
    (fun _ hq => call_meets F.slot_bool_eq rfl F.entry_int_eq (F.args_int_eq_2 _ _) (e_bool b l es n dd sl) ⟨ho, hq⟩)
    (fun _ hq => call_meets F.slot_dict_eq_refl ⟨_, ho, rfl⟩ F.entry_dict_eq (F.args_dict_eq_2 _ _) (d_bool l es n dd sl b) ⟨ho, hq⟩)
    (fun _ hq => wpAny_of_eq (rfl : isSame (.bool b) (.ref l) = pure false) hq) (.inr hu) h
theorem dict_int (b : Int) (u : Tok) (ho : s.heap.get? l = some ⟨.type "dict", dd, .dict es n, sl⟩) (hu : A.units < cLine) : RcAt A s (.ref l) (.int b u) false := fun prog w E Q h =>
  rc_eq_decline_or (k := false) ⟨_, ho, rfl⟩ (typeIs_int s b u) (by decide) sub_int F.slot_dict_eq F.slot_int_eq_refl
    (fun _ hq => call_meets F.slot_dict_eq ⟨_, ho, rfl⟩ F.entry_dict_eq (F.args_dict_eq_2 _ _) (d_int l es n dd sl b u) ⟨ho, hq⟩)
    (fun _ hq => call_meets F.slot_int_eq_refl (typeIs_int s b u) F.entry_int_eq (F.args_int_eq_2 _ _) (e_int b u l es n dd sl) ⟨ho, hq⟩)
    (fun _ hq => wpAny_of_eq (rfl : isSame (.ref l) (.int b u) = pure false) hq) (.inr hu) h
theorem int_dict (b : Int) (u : Tok) (ho : s.heap.get? l = some ⟨.type "dict", dd, .dict es n, sl⟩) (hu : A.units < cLine) : RcAt A s (.int b u) (.ref l) false := fun prog w E Q h =>
  rc_eq_decline_or (k := false) (typeIs_int s b u) ⟨_, ho, rfl⟩ (by decide) bus_int F.slot_int_eq F.slot_dict_eq_refl
    (fun _ hq => call_meets F.slot_int_eq (typeIs_int s b u) F.entry_int_eq (F.args_int_eq_2 _ _) (e_int b u l es n dd sl) ⟨ho, hq⟩)
    (fun _ hq => call_meets F.slot_dict_eq_refl ⟨_, ho, rfl⟩ F.entry_dict_eq (F.args_dict_eq_2 _ _) (d_int l es n dd sl b u) ⟨ho, hq⟩)
    (fun _ hq => wpAny_of_eq (rfl : isSame (.int b u) (.ref l) = pure false) hq) (.inr hu) h
theorem dict_str (b : Str) (u : Tok) (ho : s.heap.get? l = some ⟨.type "dict", dd, .dict es n, sl⟩) (hu : A.units < cLine) : RcAt A s (.ref l) (.str b u) false := fun prog w E Q h =>
  rc_eq_decline_or (k := false) ⟨_, ho, rfl⟩ (typeIs_str s b u) (by decide) sub_str F.slot_dict_eq F.slot_str_eq_refl
    (fun _ hq => call_meets F.slot_dict_eq ⟨_, ho, rfl⟩ F.entry_dict_eq (F.args_dict_eq_2 _ _) (d_str l es n dd sl b u) ⟨ho, hq⟩)
    (fun _ hq => call_meets F.slot_str_eq_refl (typeIs_str s b u) F.entry_str_eq (F.args_str_eq_2 _ _) (e_str b u l es n dd sl) ⟨ho, hq⟩)
    (fun _ hq => wpAny_of_eq (rfl : isSame (.ref l) (.str b u) = pure false) hq) (.inr hu) h
theorem str_dict (b : Str) (u : Tok) (ho : s.heap.get? l = some ⟨.type "dict", dd, .dict es n, sl⟩) (hu : A.units < cLine) : RcAt A s (.str b u) (.ref l) false := fun prog w E Q h =>
  rc_eq_decline_or (k := false) (typeIs_str s b u) ⟨_, ho, rfl⟩ (by decide) bus_str F.slot_str_eq F.slot_dict_eq_refl
    (fun _ hq => call_meets F.slot_str_eq (typeIs_str s b u) F.entry_str_eq (F.args_str_eq_2 _ _) (e_str b u l es n dd sl) ⟨ho, hq⟩)
    (fun _ hq => call_meets F.slot_dict_eq_refl ⟨_, ho, rfl⟩ F.entry_dict_eq (F.args_dict_eq_2 _ _) (d_str l es n dd sl b u) ⟨ho, hq⟩)
    (fun _ hq => wpAny_of_eq (rfl : isSame (.str b u) (.ref l) = pure false) hq) (.inr hu) h
theorem ne_list {its : Array Value} (ho : s.heap.get? l = some ⟨.type "dict", dd, .dict es n, sl⟩) (hl : s.heap.IsList p its) : l ≠ p := fun e => by
  obtain ⟨o, h1, h2, m, h3⟩ := hl
  rw [← e, ho] at h1
  cases h1
  cases h3
theorem dict_list {its : Array Value} (ho : s.heap.get? l = some ⟨.type "dict", dd, .dict es n, sl⟩) (hl : s.heap.IsList p its) (hu : A.units < cLine) : RcAt A s (.ref l) (.ref p) false := fun prog w E Q h => by
  have hne := ne_list ho hl
  obtain ⟨⟨c2, dd2, dt2, sl2⟩, h1, h2, m, h3⟩ := id hl
  simp only at h2 h3
  subst h2 h3
  exact rc_eq_decline_or (k := false) ⟨_, ho, rfl⟩ ⟨_, h1, rfl⟩ (by decide) sub_list F.slot_dict_eq F.slot_list_eq_refl
    (fun _ hq => call_meets F.slot_dict_eq ⟨_, ho, rfl⟩ F.entry_dict_eq (F.args_dict_eq_2 _ _) (d_list l p es n dd sl its m dd2 sl2) ⟨ho, h1, hq⟩)
    (fun _ hq => call_meets F.slot_list_eq_refl ⟨_, h1, rfl⟩ F.entry_list_eq (F.args_list_eq_2 _ _) (e_list p l es n dd sl its m dd2 sl2) ⟨ho, h1, hq⟩)
    (fun _ hq => wpAny_isSame_ref_other' hne ho h1 (by simp) hq) (.inr hu) h
theorem list_dict {its : Array Value} (ho : s.heap.get? l = some ⟨.type "dict", dd, .dict es n, sl⟩) (hl : s.heap.IsList p its) (hu : A.units < cLine) : RcAt A s (.ref p) (.ref l) false := fun prog w E Q h => by
  have hne := (ne_list ho hl).symm
  obtain ⟨⟨c2, dd2, dt2, sl2⟩, h1, h2, m, h3⟩ := id hl
  simp only at h2 h3
  subst h2 h3
  exact rc_eq_decline_or (k := false) ⟨_, h1, rfl⟩ ⟨_, ho, rfl⟩ (by decide) bus_list F.slot_list_eq F.slot_dict_eq_refl
    (fun _ hq => call_meets F.slot_list_eq ⟨_, h1, rfl⟩ F.entry_list_eq (F.args_list_eq_2 _ _) (e_list p l es n dd sl its m dd2 sl2) ⟨ho, h1, hq⟩)
    (fun _ hq => call_meets F.slot_dict_eq_refl ⟨_, ho, rfl⟩ F.entry_dict_eq (F.args_dict_eq_2 _ _) (d_list l p es n dd sl its m dd2 sl2) ⟨ho, h1, hq⟩)
    (fun _ hq => wpAny_isSame_ref_other' hne h1 ho (by simp) hq) (.inr hu) h
theorem ne_tuple {its : Array Value} (ho : s.heap.get? l = some ⟨.type "dict", dd, .dict es n, sl⟩) (hl : s.heap.IsTuple p its) : l ≠ p := fun e => by
  obtain ⟨o, h1, h2, m, h3⟩ := hl
  rw [← e, ho] at h1
  cases h1
  cases h3
theorem dict_tuple {its : Array Value} (ho : s.heap.get? l = some ⟨.type "dict", dd, .dict es n, sl⟩) (hl : s.heap.IsTuple p its) (hu : A.units < cLine) : RcAt A s (.ref l) (.ref p) false := fun prog w E Q h => by
  have hne := ne_tuple ho hl
  obtain ⟨⟨c2, dd2, dt2, sl2⟩, h1, h2, m, h3⟩ := id hl
  simp only at h2 h3
  subst h2 h3
  exact rc_eq_decline_or (k := false) ⟨_, ho, rfl⟩ ⟨_, h1, rfl⟩ (by decide) sub_tuple F.slot_dict_eq F.slot_tuple_eq_refl
    (fun _ hq => call_meets F.slot_dict_eq ⟨_, ho, rfl⟩ F.entry_dict_eq (F.args_dict_eq_2 _ _) (d_tuple l p es n dd sl its m dd2 sl2) ⟨ho, h1, hq⟩)
    (fun _ hq => call_meets F.slot_tuple_eq_refl ⟨_, h1, rfl⟩ F.entry_tuple_eq (F.args_tuple_eq_2 _ _) (e_tuple p l es n dd sl its m dd2 sl2) ⟨ho, h1, hq⟩)
    (fun _ hq => wpAny_isSame_ref_other hne ho h1 (by simp) hq) (.inr hu) h
theorem tuple_dict {its : Array Value} (ho : s.heap.get? l = some ⟨.type "dict", dd, .dict es n, sl⟩) (hl : s.heap.IsTuple p its) (hu : A.units < cLine) : RcAt A s (.ref p) (.ref l) false := fun prog w E Q h => by
  have hne := (ne_tuple ho hl).symm
  obtain ⟨⟨c2, dd2, dt2, sl2⟩, h1, h2, m, h3⟩ := id hl
  simp only at h2 h3
  subst h2 h3
  exact rc_eq_decline_or (k := false) ⟨_, h1, rfl⟩ ⟨_, ho, rfl⟩ (by decide) bus_tuple F.slot_tuple_eq F.slot_dict_eq_refl
    (fun _ hq => call_meets F.slot_tuple_eq ⟨_, h1, rfl⟩ F.entry_tuple_eq (F.args_tuple_eq_2 _ _) (e_tuple p l es n dd sl its m dd2 sl2) ⟨ho, h1, hq⟩)
    (fun _ hq => call_meets F.slot_dict_eq_refl ⟨_, ho, rfl⟩ F.entry_dict_eq (F.args_dict_eq_2 _ _) (d_tuple l p es n dd sl its m dd2 sl2) ⟨ho, h1, hq⟩)
    (fun _ hq => wpAny_isSame_ref_other' hne h1 ho (by simp) hq) (.inr hu) h
end
end Dq

/-! data of any depth, with empty dicts in it: compared, shown -/
namespace Dq
open PySem PySem.SeqAt P3
variable {A : Around} {s : Shared}
theorem dict_plain {l : Addr} {o : Obj} {es : Array DictEntry} {n : Nat} (h1 : s.heap.get? l = some o) (h2 : o.cls = .type "dict") (h3 : o.data = .dict es n) {b : Value} {db : PyData} {bs : List Addr} (rb : Reads s.heap b db bs) (hb : db.plain = true) (hu : A.units < cLine) :
    EqAt A s (.ref l) b false := by
  obtain ⟨oc, od, dt, sl⟩ := o
  simp only at h2 h3
  subst h2 h3
  have fl : ∀ x t, Value.ref l ≠ .float x t := fun _ _ z => nomatch z
  cases rb with
  | none => exact item rfl fl (dict_none h1 hu)
  | bool y => exact item rfl fl (dict_bool y h1 hu)
  | int y u => exact item rfl fl (dict_int y u h1 hu)
  | str y u => exact item rfl fl (dict_str y u h1 hu)
  | list q1 q2 q3 q4 =>
    have il : s.heap.IsList _ _ := ⟨_, q1, q2, _, q3⟩
    exact EqAt.of_refs (ne_list h1 il) (dict_list h1 il hu)
  | tuple q1 q2 q3 q4 =>
    have il : s.heap.IsTuple _ _ := ⟨_, q1, q2, _, q3⟩
    exact EqAt.of_refs (ne_tuple h1 il) (dict_tuple h1 il hu)
  | dict => cases hb
mutual
/-- the second one without dicts -/
theorem eq_half : ∀ (da db : PyData) (A : Around) (s : Shared) (a b : Value) (as bs : List Addr), Reads s.heap a da as → Reads s.heap b db bs → db.plain = true → A.units + db.depth < cLine → EqAt A s a b (PyData.eqv da db)
  | .none, db, A, s, a, b, as, bs, ra, rb, hb, hu => eqAt_plain .none db A s a b as bs ra rb rfl hb (by have := Nat.min_le_right (PyData.depth .none) db.depth; omega)
  | .bool x, db, A, s, a, b, as, bs, ra, rb, hb, hu => eqAt_plain (.bool x) db A s a b as bs ra rb rfl hb (by have := Nat.min_le_right (PyData.depth (.bool x)) db.depth; omega)
  | .int x, db, A, s, a, b, as, bs, ra, rb, hb, hu => eqAt_plain (.int x) db A s a b as bs ra rb rfl hb (by have := Nat.min_le_right (PyData.depth (.int x)) db.depth; omega)
  | .str x, db, A, s, a, b, as, bs, ra, rb, hb, hu => eqAt_plain (.str x) db A s a b as bs ra rb rfl hb (by have := Nat.min_le_right (PyData.depth (.str x)) db.depth; omega)
  | .dict ks, db, A, s, a, b, as, bs, ra, rb, hb, hu => by
    cases ra with
    | dict h1 h2 h3 h4 h5 =>
      have z := dict_plain (A := A) h1 h2 h3 rb hb (by omega)
      cases db with
      | dict => cases hb
      | _ => exact z
  | .list xs, db, A, s, a, b, as, bs, ra, rb, hb, hu => by
    cases ra with
    | @list l o vs n _ as1 h1 h2 h3 h4 =>
      have il : s.heap.IsList l vs := ⟨_, h1, h2, _, h3⟩
      have hu0 : A.units < cLine := by omega
      cases rb with
      | none => exact EqAt.list_none il hu0
      | bool y => exact EqAt.list_bool y il hu0
      | int y u => exact EqAt.list_int y u il hu0
      | str y u => exact EqAt.list_str y u il hu0
      | tuple q1 q2 q3 q4 => exact EqAt.list_tuple il ⟨_, q1, q2, _, q3⟩ hu0
      | dict => cases hb
      | @list l2 o2 ws m ys bs1 q1 q2 q3 q4 =>
        have jl : s.heap.IsList l2 ws := ⟨_, q1, q2, _, q3⟩
        have n1 : vs.size = xs.length := by simpa using ReadsAll.length _ _ _ h4
        have n2 : ws.size = ys.length := by simpa using ReadsAll.length _ _ _ q4
        have hb' : PyData.plainAll ys = true := by simpa [PyData.plain] using hb
        show EqAt A s (.ref l) (.ref l2) (PyData.eqvAll xs ys)
        by_cases hll : l = l2
        · subst hll
          have e := (PyProof.Rows.reads_det (fun _ _ z _ => z) (Reads.list h1 h2 h3 h4) (Reads.list q1 q2 q3 q4)).1
          injection e with e
          subst e
          rw [eqvAll_refl_plain _ hb']
          exact EqAt.same _
        · simp only [PyData.depth] at hu
          by_cases hsz : vs.size = ws.size
          · rw [← eqvAll_same_length (by omega : xs.length = ys.length), ← n1]
            refine EqAt.of_refs hll (RcAt.lists il jl hsz hu0 fun j j1 j2 => ?_)
            have := eq_halves xs ys A.in1 s vs.toList ws.toList _ _ h4 q4 hb' (by show A.units + 1 + _ < cLine; omega) j (by simpa using j1) (by simpa using j2)
            simpa using this
          · rw [eqvAll_other_length (by omega : xs.length ≠ ys.length)]
            exact EqAt.of_refs hll (RcAt.lists_lengths il jl (by simpa using hsz) hu0)
  | .tuple xs, db, A, s, a, b, as, bs, ra, rb, hb, hu => by
    cases ra with
    | @tuple l o vs n _ as1 h1 h2 h3 h4 =>
      have il : s.heap.IsTuple l vs := ⟨_, h1, h2, _, h3⟩
      have hu0 : A.units < cLine := by omega
      cases rb with
      | none => exact EqAt.tuple_none il hu0
      | bool y => exact EqAt.tuple_bool y il hu0
      | int y u => exact EqAt.tuple_int y u il hu0
      | str y u => exact EqAt.tuple_str y u il hu0
      | list q1 q2 q3 q4 => exact EqAt.tuple_list il ⟨_, q1, q2, _, q3⟩ hu0
      | dict => cases hb
      | @tuple l2 o2 ws m ys bs1 q1 q2 q3 q4 =>
        have jl : s.heap.IsTuple l2 ws := ⟨_, q1, q2, _, q3⟩
        have n1 : vs.size = xs.length := by simpa using ReadsAll.length _ _ _ h4
        have n2 : ws.size = ys.length := by simpa using ReadsAll.length _ _ _ q4
        have hb' : PyData.plainAll ys = true := by simpa [PyData.plain] using hb
        show EqAt A s (.ref l) (.ref l2) (PyData.eqvAll xs ys)
        by_cases hll : l = l2
        · subst hll
          have e := (PyProof.Rows.reads_det (fun _ _ z _ => z) (Reads.tuple h1 h2 h3 h4) (Reads.tuple q1 q2 q3 q4)).1
          injection e with e
          subst e
          rw [eqvAll_refl_plain _ hb']
          exact EqAt.same _
        · simp only [PyData.depth] at hu
          rw [← eqvAll_eq xs ys, ← n1, ← n2]
          refine EqAt.of_refs hll (RcAt.tuples il jl hu0 fun j j1 j2 => ?_)
          have := eq_halves xs ys A.in1 s vs.toList ws.toList _ _ h4 q4 hb' (by show A.units + 1 + _ < cLine; omega) j (by simpa using j1) (by simpa using j2)
          simpa using this
theorem eq_halves : ∀ (xs ys : List PyData) (A : Around) (s : Shared) (vs ws : List Value) (as bs : List Addr), ReadsAll s.heap vs xs as → ReadsAll s.heap ws ys bs → PyData.plainAll ys = true → A.units + PyData.depthAll ys < cLine →
    ∀ j (h1 : j < vs.length) (h2 : j < ws.length), EqAt A s vs[j] ws[j] (pairEq xs ys j)
  | [], _, _, _, _, _, _, _, ra, _, _, _, j, h1, _ => by
    cases ra
    exact absurd h1 (Nat.not_lt_zero _)
  | _ :: _, [], _, _, _, _, _, _, _, rb, _, _, j, _, h2 => by
    cases rb
    exact absurd h2 (Nat.not_lt_zero _)
  | x :: xs, y :: ys, A, s, _, _, _, _, ra, rb, hb, hu, j, h1, h2 => by
    have hb' : y.plain = true ∧ PyData.plainAll ys = true := by simpa [PyData.plainAll] using hb
    simp only [PyData.depthAll] at hu
    have m1 := Nat.le_max_left y.depth (PyData.depthAll ys)
    have m2 := Nat.le_max_right y.depth (PyData.depthAll ys)
    cases ra with
    | cons r rs =>
      cases rb with
      | cons p ps =>
        cases j with
        | zero => exact eq_half x y A s _ _ _ _ r p hb'.1 (by omega)
        | succ j => exact eq_halves xs ys A s _ _ _ _ rs ps hb'.2 (by omega) j (Nat.lt_of_succ_lt_succ h1) (Nat.lt_of_succ_lt_succ h2)
end
/-- a text beside any of them -/
theorem str_half {z : Str} {t : Tok} {a : Value} {da : PyData} {as : List Addr} (ra : Reads s.heap a da as) (hu : A.units < cLine) : EqAt A s (.str z t) a (PyData.eqv (.str z) da) := by
  have fl : ∀ x u, Value.str z t ≠ .float x u := fun _ _ y => nomatch y
  cases ra with
  | none => exact EqAt.str_none z t
  | bool y => exact EqAt.str_bool z t y
  | int y u => exact EqAt.str_int z t y u
  | str y u => exact EqAt.str_str z t y u
  | list q1 q2 q3 q4 => exact EqAt.str_list z t ⟨_, q1, q2, _, q3⟩ hu
  | tuple q1 q2 q3 q4 => exact EqAt.str_tuple z t ⟨_, q1, q2, _, q3⟩ hu
  | @dict l o es n kvs as1 bs1 h1 h2 h3 h4 h5 =>
    obtain ⟨oc, od, dt, sl⟩ := o
    simp only at h2 h3
    subst h2 h3
    exact item rfl fl (str_dict z t h1 hu)
/-- the comparison itself, the second one without dicts -/
theorem rc_half {a b : Value} {da db : PyData} {as bs : List Addr} (ra : Reads s.heap a da as) (rb : Reads s.heap b db bs) (hb : db.plain = true) (hu : A.units + db.depth < cLine) : RcAt A s a b (PyData.eqv da db) := by
  have hu0 : A.units < cLine := by omega
  have sc : da.plain = true → da.depth = 0 → RcAt A s a b (PyData.eqv da db) := fun h1 h2 => rcAt_plain ra rb h1 hb (by rw [h2]; omega)
  cases ra with
  | none => exact sc rfl (by simp only [PyData.depth])
  | bool x => exact sc rfl (by simp only [PyData.depth])
  | int x t => exact sc rfl (by simp only [PyData.depth])
  | str x t => exact sc rfl (by simp only [PyData.depth])
  | @dict l o es n kvs as1 bs1 h1 h2 h3 h4 h5 =>
    obtain ⟨oc, od, dt, sl⟩ := o
    simp only at h2 h3
    subst h2 h3
    cases rb with
    | none => exact dict_none h1 hu0
    | bool y => exact dict_bool y h1 hu0
    | int y u => exact dict_int y u h1 hu0
    | str y u => exact dict_str y u h1 hu0
    | list q1 q2 q3 q4 => exact dict_list h1 ⟨_, q1, q2, _, q3⟩ hu0
    | tuple q1 q2 q3 q4 => exact dict_tuple h1 ⟨_, q1, q2, _, q3⟩ hu0
    | dict => cases hb
  | @list l o vs n xs as1 h1 h2 h3 h4 =>
    have il : s.heap.IsList l vs := ⟨_, h1, h2, _, h3⟩
    cases rb with
    | none => exact RcAt.list_none il hu0
    | bool y => exact RcAt.list_bool y il hu0
    | int y u => exact RcAt.list_int y u il hu0
    | str y u => exact RcAt.list_str y u il hu0
    | tuple q1 q2 q3 q4 => exact RcAt.list_tuple il ⟨_, q1, q2, _, q3⟩ hu0
    | dict => cases hb
    | @list l2 o2 ws m ys bs1 q1 q2 q3 q4 =>
      have jl : s.heap.IsList l2 ws := ⟨_, q1, q2, _, q3⟩
      have n1 : vs.size = xs.length := by simpa using ReadsAll.length _ _ _ h4
      have n2 : ws.size = ys.length := by simpa using ReadsAll.length _ _ _ q4
      have hb' : PyData.plainAll ys = true := by simpa [PyData.plain] using hb
      simp only [PyData.depth] at hu
      show RcAt A s (.ref l) (.ref l2) (PyData.eqvAll xs ys)
      by_cases hsz : vs.size = ws.size
      · rw [← eqvAll_same_length (by omega : xs.length = ys.length), ← n1]
        refine RcAt.lists il jl hsz hu0 fun j j1 j2 => ?_
        have := eq_halves xs ys A.in1 s vs.toList ws.toList _ _ h4 q4 hb' (by show A.units + 1 + _ < cLine; omega) j (by simpa using j1) (by simpa using j2)
        simpa using this
      · rw [eqvAll_other_length (by omega : xs.length ≠ ys.length)]
        exact RcAt.lists_lengths il jl (by simpa using hsz) hu0
  | @tuple l o vs n xs as1 h1 h2 h3 h4 =>
    have il : s.heap.IsTuple l vs := ⟨_, h1, h2, _, h3⟩
    cases rb with
    | none => exact RcAt.tuple_none il hu0
    | bool y => exact RcAt.tuple_bool y il hu0
    | int y u => exact RcAt.tuple_int y u il hu0
    | str y u => exact RcAt.tuple_str y u il hu0
    | list q1 q2 q3 q4 => exact RcAt.tuple_list il ⟨_, q1, q2, _, q3⟩ hu0
    | dict => cases hb
    | @tuple l2 o2 ws m ys bs1 q1 q2 q3 q4 =>
      have jl : s.heap.IsTuple l2 ws := ⟨_, q1, q2, _, q3⟩
      have n1 : vs.size = xs.length := by simpa using ReadsAll.length _ _ _ h4
      have n2 : ws.size = ys.length := by simpa using ReadsAll.length _ _ _ q4
      have hb' : PyData.plainAll ys = true := by simpa [PyData.plain] using hb
      simp only [PyData.depth] at hu
      show RcAt A s (.ref l) (.ref l2) (PyData.eqvAll xs ys)
      rw [← eqvAll_eq xs ys, ← n1, ← n2]
      refine RcAt.tuples il jl hu0 fun j j1 j2 => ?_
      have := eq_halves xs ys A.in1 s vs.toList ws.toList _ _ h4 q4 hb' (by show A.units + 1 + _ < cLine; omega) j (by simpa using j1) (by simpa using j2)
      simpa using this
end Dq

/-! ### data in the abstract heap -/
namespace Dt
open PySem PySem.Spec PyProof.Rows L2 Sh
mutual
inductive D (H : Hp) : V → PyData → Prop
  | non : D H .non .none
  | bl (b : Bool) : D H (.bl b) (.bool b)
  | int (i : Int) : D H (.int i) (.int i)
  | str (z : Str) : D H (.str z) (.str z)
  | lst {p : Addr} {xs : List V} {ds : List PyData} : H p = some (.lst xs) → DAll H xs ds → D H (.ref p) (.list ds)
  | tup {p : Addr} {xs : List V} {ds : List PyData} : H p = some (.tup xs) → DAll H xs ds → D H (.ref p) (.tuple ds)
  | dic {p : Addr} : H p = some (.dK []) → D H (.ref p) (.dict [])
inductive DAll (H : Hp) : List V → List PyData → Prop
  | nil : DAll H [] []
  | cons {v : V} {d : PyData} {vs : List V} {ds : List PyData} : D H v d → DAll H vs ds → DAll H (v :: vs) (d :: ds)
end
mutual
theorem D.same {H H' : Hp} (s : Same H H') : ∀ {v : V} {d : PyData}, D H v d → D H' v d
  | _, _, .non => .non
  | _, _, .bl b => .bl b
  | _, _, .int i => .int i
  | _, _, .str z => .str z
  | _, _, .lst h a => .lst (s _ _ h) (DAll.same s a)
  | _, _, .tup h a => .tup (s _ _ h) (DAll.same s a)
  | _, _, .dic h => .dic (s _ _ h)
theorem DAll.same {H H' : Hp} (s : Same H H') : ∀ {vs : List V} {ds : List PyData}, DAll H vs ds → DAll H' vs ds
  | _, _, .nil => .nil
  | _, _, .cons h a => .cons (D.same s h) (DAll.same s a)
end
theorem DAll.len {H : Hp} : ∀ {vs : List V} {ds : List PyData}, DAll H vs ds → vs.length = ds.length
  | _, _, .nil => rfl
  | _, _, .cons _ a => by rw [List.length_cons, List.length_cons, DAll.len a]
theorem DAll.get {H : Hp} : ∀ {vs : List V} {ds : List PyData} {i : Nat} {v : V}, DAll H vs ds → vs[i]? = some v → ∃ d, ds[i]? = some d ∧ D H v d
  | _, _, _, _, .nil, e => by cases e
  | _, _, 0, _, .cons h _, e => by
    cases e
    exact ⟨_, rfl, h⟩
  | _, _, i + 1, _, .cons _ a, e => DAll.get (i := i) a e
theorem DAll.get' {H : Hp} : ∀ {vs : List V} {ds : List PyData} {i : Nat} {d : PyData}, DAll H vs ds → ds[i]? = some d → ∃ v, vs[i]? = some v ∧ D H v d
  | _, _, _, _, .nil, e => by cases e
  | _, _, 0, _, .cons h _, e => by
    cases e
    exact ⟨_, rfl, h⟩
  | _, _, i + 1, _, .cons _ a, e => DAll.get' (i := i) a e
theorem DAll.app {H : Hp} {ws : List V} {es : List PyData} (b : DAll H ws es) : ∀ {vs : List V} {ds : List PyData}, DAll H vs ds → DAll H (vs ++ ws) (ds ++ es)
  | _, _, .nil => b
  | _, _, .cons h a => .cons h (DAll.app b a)
theorem DAll.take {H : Hp} : ∀ {vs : List V} {ds : List PyData} (n : Nat), DAll H vs ds → DAll H (vs.take n) (ds.take n)
  | _, _, 0, _ => .nil
  | _, _, _ + 1, .nil => .nil
  | _, _, n + 1, .cons h a => .cons h (DAll.take n a)
theorem DAll.drop {H : Hp} : ∀ {vs : List V} {ds : List PyData} (n : Nat), DAll H vs ds → DAll H (vs.drop n) (ds.drop n)
  | _, _, 0, a => a
  | _, _, _ + 1, .nil => .nil
  | _, _, n + 1, .cons _ a => DAll.drop n a
theorem DAll.rev {H : Hp} : ∀ {vs : List V} {ds : List PyData}, DAll H vs ds → DAll H vs.reverse ds.reverse
  | _, _, .nil => .nil
  | _, _, .cons h a => by
    rw [List.reverse_cons, List.reverse_cons]
    exact DAll.app (.cons h .nil) (DAll.rev a)
mutual
theorem D.reads {P : Program} {w : World} {H : Hp} {h : Heap} (ok : HOk P w H h) : ∀ {v : V} {d : PyData} {u : Value}, D H v d → RelV v u → ∃ as, Reads h u d as
  | _, _, _, .non, r => by
    cases r
    exact ⟨_, .none⟩
  | _, _, _, .bl b, r => by
    cases r
    exact ⟨_, .bool b⟩
  | _, _, _, .int i, r => by
    obtain ⟨t, rfl⟩ := r
    exact ⟨_, .int i t⟩
  | _, _, _, .str z, r => by
    obtain ⟨t, rfl⟩ := r
    exact ⟨_, .str z t⟩
  | _, _, _, .lst (p := p) (xs := xs) e a, r => by
    cases r
    obtain ⟨_, us, n, rv, h1⟩ := ok p _ e
    obtain ⟨as, ra⟩ := DAll.reads ok a rv
    exact ⟨_, .list h1 rfl rfl ra⟩
  | _, _, _, .tup (p := p) (xs := xs) e a, r => by
    cases r
    obtain ⟨_, us, rv, o, h1, h2, n, h3⟩ := ok p _ e
    obtain ⟨as, ra⟩ := DAll.reads ok a rv
    exact ⟨_, .tuple h1 h2 h3 ra⟩
  | _, _, _, .dic (p := p) e, r => by
    cases r
    obtain ⟨_, lo, vs, kv, o, es, ep, h1, h2, h3, h4, h5, h6⟩ := ok p _ e
    cases kv
    have e0 : es = #[] := by
      apply Array.toList_inj.mp
      generalize es.toList = l at h5
      cases h5
      rfl
    subst e0
    exact ⟨_, .dict h1 h2.1 h3 .nil .nil⟩
theorem DAll.reads {P : Program} {w : World} {H : Hp} {h : Heap} (ok : HOk P w H h) : ∀ {vs : List V} {ds : List PyData} {us : List Value}, DAll H vs ds → Vals vs us → ∃ as, ReadsAll h us ds as
  | _, _, _, .nil, .nil => ⟨_, .nil⟩
  | _, _, _, .cons h a, .cons r t => by
    obtain ⟨as, x⟩ := D.reads ok h r
    obtain ⟨bs, y⟩ := DAll.reads ok a t
    exact ⟨_, .cons x y⟩
end
section
variable {X : Cx}
/-- x == y, y without dicts -/
def rEqH : R2 := fun x y H Q => ∃ d e, D H x d ∧ D H y e ∧ e.plain = true ∧ e.depth ≤ 60 ∧ Q (.bl (PyData.eqv d e)) H
theorem op_eqH (hu : X.A.units + 64 < cLine) : OpR X (compareOp .Eq) rEqH := by
  intro pins s σ H x y v u Q I rx ry h
  obtain ⟨d, e, hd, he, hp, hk, q⟩ := h
  obtain ⟨as, r1⟩ := D.reads I.hok hd rx
  obtain ⟨bs, r2⟩ := D.reads I.hok he ry
  exact Dq.rc_half r1 r2 hp (by omega) X.prog X.w _ _ ⟨.bl _, H, I, rfl, q⟩
end
end Dt

namespace Dt
open PySem PySem.Spec PyProof.Rows L2 Sh
/-! ### what kind a value is of -/
def tyOf : PyData → String
  | .none => "NoneType"
  | .bool _ => "bool"
  | .int _ => "int"
  | .str _ => "str"
  | .list _ => "list"
  | .tuple _ => "tuple"
  | .dict _ => "dict"
theorem D.ty {K : PySem.W.Frag} {H : Hp} {v : V} {d : PyData} (h : D H v d) : TyX K H v (.type (tyOf d)) := by
  cases h with
  | non => exact .base .non
  | bl b => exact .base (.bl b)
  | int i => exact .base (.int i)
  | str z => exact .base (.str z)
  | lst e a => exact .base (.lst e)
  | tup e a => exact .base (.tup e)
  | dic e => exact .base (.dK e)
def isI : PyData → Bool
  | .int _ => true
  | .bool _ => true
  | _ => false
def isB : PyData → Bool
  | .bool _ => true
  | _ => false
def isS : PyData → Bool
  | .str _ => true
  | _ => false
def isT : PyData → Bool
  | .tuple _ => true
  | _ => false
theorem kI (d : PyData) : kitB (tyOf d) "int" = some (isI d) := by cases d <;> simp only [tyOf, isI, isB, isS, isT] <;> decide +kernel
theorem kB (d : PyData) : kitB (tyOf d) "bool" = some (isB d) := by cases d <;> simp only [tyOf, isI, isB, isS, isT] <;> decide +kernel
theorem kS (d : PyData) : kitB (tyOf d) "str" = some (isS d) := by cases d <;> simp only [tyOf, isI, isB, isS, isT] <;> decide +kernel
theorem kT (d : PyData) : kitB (tyOf d) "tuple" = some (isT d) := by cases d <;> simp only [tyOf, isI, isB, isS, isT] <;> decide +kernel
section
variable {X : Cx}
/-- isinstance(x, a built-in class) -/
def rIsD : List V → Hp → VK → Prop := fun xs H Q => ∃ x d T b, xs = [x, .ty T] ∧ D H x d ∧ kitB (tyOf d) T = some b ∧ Q (.bl b) H
theorem call_isD : CallR X (.builtin "isinstance") rIsD := by
  intro pins s σ H xs us Q I r h
  obtain ⟨x, d, T, b, rfl, hd, k, q⟩ := h
  exact call_isi pins s σ H _ us Q I r ⟨x, .ty T, .type (tyOf d), .type T, b, rfl, .ty T, hd.ty, kit_ty k, q⟩
/-- x in a tuple of texts -/
def strIn (d : PyData) (zs : List Str) : Bool := zs.any fun z => PyData.eqv (.str z) d
def rInS (K : PySem.W.Frag) (neg : Bool) : R2 := fun x y H Q => ∃ d a zs, D H x d ∧ y = .ref a ∧ SqT K H a (zs.map V.str) ∧ Q (.bl (if neg then !strIn d zs else strIn d zs)) H
def beside (d : PyData) (v : Value) : Bool := match v with
  | .str z _ => PyData.eqv (.str z) d
  | _ => false
theorem any_beside {d : PyData} : ∀ {zs : List Str} {us : List Value}, Vals (zs.map V.str) us → us.any (beside d) = strIn d zs
  | [], _, r => by
    cases r
    rfl
  | z :: zs, _, r => by
    cases r with
    | cons a b =>
      obtain ⟨t, rfl⟩ := a
      have := any_beside (d := d) b
      show (beside d (.str z t) || _) = _
      rw [this]
      rfl
theorem mem_beside {A : Around} {s : Shared} {d : PyData} {x : Value} {as : List Addr} (rd : Reads s.heap x d as) (hu : A.units < cLine) : ∀ {zs : List Str} {us : List Value}, Vals (zs.map V.str) us → ∀ y ∈ us, SeqAt.EqAt A s y x (beside d y)
  | [], _, r, y, hy => by
    cases r
    cases hy
  | z :: zs, _, r, y, hy => by
    cases r with
    | cons a b =>
      obtain ⟨t, rfl⟩ := a
      rcases List.mem_cons.mp hy with rfl | hy
      · exact Dq.str_half rd hu
      · exact mem_beside rd hu b y hy
theorem op_inS (hu : X.A.units + 64 < cLine) : OpR X (compareOp .In) (rInS X.K false) := by
  intro pins s σ H x y v u Q I rx ry h
  obtain ⟨d, a, zs, hd, rfl, hq, q⟩ := h
  cases ry
  obtain ⟨its, r, pl, hz⟩ := I.tuple hq
  obtain ⟨as, rd⟩ := D.reads I.hok hd rx
  refine SeqAt.in_tupleAt (beside d) pl (fun w hw => mem_beside rd (by show X.A.units + 1 < _; omega) r w (by simpa using hw)) ⟨.bl _, H, I, rfl, ?_⟩
  rw [show its.toArray.any (beside d) = its.any (beside d) by simp, any_beside r]
  exact q
theorem op_ninS (hu : X.A.units + 64 < cLine) : OpR X (compareOp .NotIn) (rInS X.K true) := by
  intro pins s σ H x y v u Q I rx ry h
  obtain ⟨d, a, zs, hd, rfl, hq, q⟩ := h
  cases ry
  obtain ⟨its, r, pl, hz⟩ := I.tuple hq
  obtain ⟨as, rd⟩ := D.reads I.hok hd rx
  refine SeqAt.notIn_tupleAt (beside d) pl (fun w hw => mem_beside rd (by show X.A.units + 1 < _; omega) r w (by simpa using hw)) ⟨.bl _, H, I, rfl, ?_⟩
  rw [show its.toArray.any (beside d) = its.any (beside d) by simp, any_beside r]
  exact q
/-! ### sets of whole numbers -/
theorem ints_of_vals {ns : List Int} {us : List Value} (r : Vals (ns.map V.int) us) : IntsAre us ns := by
  induction ns generalizing us with
  | nil =>
    cases r
    exact .nil
  | cons n ns ih =>
    cases r with
    | cons a b =>
      obtain ⟨t, rfl⟩ := a
      exact .cons _ _ (ih b)
def rSetTI (K : PySem.W.Frag) (w : World) : List V → Hp → VK → Prop := fun vs H Q => ∃ (l : Addr) (ns : List Int), vs = [.ref l] ∧ SqT K H l (ns.map V.int) ∧ ns.length ≤ 60 ∧ ∀ a c, H a = none → c ≤ ns.length → Q (.ref a) (upd H a (SetO w a (fun j => decide (j ∈ ns)) c))
theorem cr_setTI (hc : X.calm = true) : CallR X (.type "set") (rSetTI X.K X.w) := by
  intro pins s σ H vs us Q I r h
  obtain ⟨l, ns, rfl, hl, hn, q⟩ := h
  rw [Vals.ref1 r]
  obtain ⟨its, rv, pl, hz⟩ := I.tuple hl
  refine call_set_tupI ns (I.ok.hd hc) pl (by simpa using ints_of_vals rv) (by unfold scanBound; omega) fun h' tk c R hcl kp => ?_
  have fr : H s.heap.objs.size = none := I.hok.fresh (Nat.le_refl _)
  exact ⟨.ref s.heap.objs.size, upd H s.heap.objs.size (SetO X.w s.heap.objs.size (fun j => decide (j ∈ ns)) c), I.laid (t' := tk) kp (Nat.le_refl _) (setO_new R), rfl, q _ c fr hcl⟩
end
end Dt

/-! errors of own classes as values: made, asked, their field read -/
namespace PySem.F
theorem keS : StoreFacts "KeyError" [.type "KeyError", .type "LookupError", .type "Exception", .type "BaseException", .type "object"] "object.__setattr__" "object" := by
  refine ⟨by kernel_rfl, ?_, entry_object_sa, by decide +kernel, by decide +kernel, by decide +kernel, (fun a b c => by unfold argsOk; kernel_rfl), (fun self => by kernel_rfl)⟩
  refine .of (owner := "object") (n := "__setattr__") (by rw [typeLookup_type, builtinLookup_eq_fast]; kernel_rfl) (by decide +kernel) (by decide +kernel) (by decide +kernel) ?_ (by rw [isSubtype_type]; kernel_rfl)
  first
    | exact .inl (by decide +kernel)
    | exact .inr (by decide +kernel)
end PySem.F

namespace PySem
namespace Eo
open PySem.W PySem.Calls PyProof.Rows PySem.HandSPX
section
open Builtin Builtin.ObjectAttr
variable {prog : Program} {w : World} {A : Around} {R : Result → Shared → Prop} {hp : Heap} {g : Array GenState} {d : Drawn} {t : Nat} {os : OsState} {B : String} {bmB : List Value}
/-- the first store into an exception of an own class, whatever it is derived from -/
theorem osaG {K : W.Frag} {name : Str} {tk : Tok} {v : Value} {x C : Addr} {fv : Array Value} (SF : StoreFacts B bmB "object.__setattr__" "object")
    (X : K.In hp) (hx : hp.get? x = some { cls := .ref C, data := .fields fv }) (ov : excOver K C bmB = true) (hh : hasDictIn K C = true) (ha : findIn K (.ref C) name = some none)
    (hq : ∀ h' tk' dx, (∀ b o, b ≠ x → hp.get? b = some o → h'.get? b = some o) → hp.objs.size ≤ dx → dx ≠ x →
      h'.get? x = some { cls := .ref C, dict := some dx, data := .fields fv } → h'.Ns1 dx (fun y => if y = name then some v else none) → R (.ok (.ret .none)) ⟨h', g, d, tk', os⟩) :
    codeAny (model prog w) A (.call (.builtin "object.__setattr__") ⟨[.ref x, .str name tk, v], []⟩) R ⟨hp, g, d, t, os⟩ := by
  have tkr : takerIn K C name = some none := by
    unfold takerIn
    rw [ha]
    rfl
  obtain ⟨cd, hc, hd⟩ := any_some hh
  have lc : W.Looks (model prog w) hp (classData C) cd := W.looks_clsIn X hc
  have nx : x ≠ hp.objs.size := Nat.ne_of_lt (Heap.lt_size hx)
  refine osa_openX (s := ⟨hp, g, d, t, os⟩) (od := none) SF X ⟨hx, rfl, rfl, trivial⟩ ov tkr fun b => ?_
  obtain ⟨nm, bs, mro, ns, qn, hdd, sn, sb, ab, col, del⟩ := cd
  dsimp only at hd
  subst hd
  show wpAny _ _ (storeInOwnDict (.ref x) (.ref C) (.str name tk) name v b) _ _ _
  unfold storeInOwnDict ownDictForStores
  repeat (first
    | with_reducible refine store_in_new ?_ ?_
    | with_reducible refine wpAny_loadPart_at hx ?_
    | with_reducible refine lc.at ?_
    | wp_step)
  · refine ⟨_, #[], _, (Heap.get?_update_ne _ _ _ _ nx.symm).trans (Heap.get?_push_at rfl rfl), rfl, (fun e he => absurd he (by simp)), fun _ => rfl⟩
  · intro h' tk' hn' hs
    refine hq h' tk' hp.objs.size (fun c o hb ho => ?_) (Nat.le_refl _) nx.symm ?_ hn'
    · refine (hs.2 c (Nat.ne_of_lt (Heap.lt_size ho))).trans ?_
      exact (Heap.get?_update_ne _ _ _ _ hb).trans (Heap.get?_push_of_some _ ho)
    · exact (hs.2 x nx).trans (Heap.get?_update_self _ (Heap.get?_push_of_some _ hx) rfl)
end

section
variable {M : Model} {A : Around} {E : Value → Shared → Prop} {h : Heap} {g : Array GenState} {d : Drawn} {t : Nat} {os : OsState}
variable {nm q : Str} {C N : Addr} {bs bm bm0 : List Value} {hdct : Bool} {sn : List Str} {sub : List Value} {ab : Bool} {col : Option Bool} {dd : Option Addr} {k0 k1 k2 k3 k5 : Option Value} {B newId initId : String}
/-- what must be known of the mro of an own class whose maker is B's -/
structure Tail (B : String) (bm : List Value) : Prop where
  b : bm.contains (.type B) = true
  a : bm.contains (.type "AttributeError") = false
  n : bm.contains (.type "NameError") = false
theorem Tail.of {B : String} {bm bmB : List Value} (hT : ∀ X : String, bm.contains (.type X) = bmB.contains (.type X)) (t : Tail B bmB) : Tail B bm := ⟨(hT _).trans t.b, (hT _).trans t.a, (hT _).trans t.n⟩
theorem own_has {C : Addr} {bm : List Value} {X : String} {r : Bool} (e : bm.contains (.type X) = r) : (Value.ref C :: bm).contains (.type X) = r := by
  rw [List.contains_cons, e]
  cases r <;> rfl
theorem new_check (F : ExcBaseFacts B newId initId bm0) (T : Tail B bm) {rest : List Value} {Q : Unit → Shared → Prop}
    (ho : h.get? C = some (excClassObj nm q C N bs bm hdct sn sub ab col dd k0 k1 k2 k3 k5 newId)) (hq : Q () ⟨h, g, d, t, os⟩) : wpAny M A (checkBuiltinCall newId ⟨.ref C :: rest, []⟩) Q E ⟨h, g, d, t, os⟩ := by
  have c1 := own_has (C := C) T.b
  have c2 := F.noStar
  simp only [checkBuiltinCall, F.newKind, F.newSplit, F.newRow]
  repeat (first
    | refine wpAny_loadPart_at ho ?_
    | (refine wpAny_isSubtype_exc ho ?_
       rw [c1])
    | refine wpAny_staticBase_exc ho ?_
    | refine wpAny_madeBy_exc ho ?_
    | simp only [bne_self_eq_false, Bool.false_eq_true, if_false]
    | wp_step)
  exact hq
end
section
variable {prog : Program} {w : World} {A : Around} {E : Value → Shared → Prop} {R : Result → Shared → Prop} {h : Heap} {g : Array GenState} {d : Drawn} {t : Nat} {os : OsState}
variable {nm q : Str} {C N : Addr} {bs bm bm0 : List Value} {hdct : Bool} {sn : List Str} {sub : List Value} {ab : Bool} {col : Option Bool} {dd : Option Addr} {k0 k1 k2 k3 k5 : Option Value} {B newId initId : String}
theorem new_made (F : ExcBaseFacts B newId initId bm0) (T : Tail B bm) {rest : List Value} (ho : h.get? C = some (excClassObj nm q C N bs bm hdct sn sub ab col dd k0 k1 k2 k3 k5 newId))
    (hq : R (.ok (.ret (.ref (h.objs.size + 1)))) ⟨(h.push (W.kdv_tup rest)).push (excO C h.objs.size), g, d, t, os⟩) (hz : rest.length ≤ sizeLine) :
    codeAny (model prog w) A (.builtin newId ⟨.ref C :: rest, []⟩) R ⟨h, g, d, t, os⟩ := by
  have e0 := F.ends
  have c1 := own_has (C := C) T.b
  have c2 := own_has (C := C) T.a
  have c3 := own_has (C := C) T.n
  refine codeAny_builtinAt F.entry ?_
  unfold Builtin.«BaseException.__new__»
  refine wpAt_bind (show wpAt _ _ _ (stack >>= _) _ _ _ from wpAt_bind (wpAt_stack fun p below => wpAt_of_wpAny ?_))
  wp_walk
  refine wpAt_of_wpAny ?_
  rw [F.owner]
  repeat (first
    | with_reducible refine wpAny_madeHere_exc F.canon ho ?_
    | with_reducible refine wpAny_loadPart_at ho ?_
    | (with_reducible refine wpAny_isSubtype_exc ho ?_
       first
         | rw [c1]
         | rw [c2]
         | rw [c3])
    | wp_step)
  show R _ _
  rw [Heap.size_push]
  exact hq
theorem type_made (F : ExcBaseFacts B newId initId bm0) (T : Tail B bm) {rest : List Value} {fI : Addr} {Q : Fin → Shared → Prop}
    (ho : h.get? C = some (excClassObj nm q C N bs bm hdct sn sub ab col dd k0 k1 k2 k3 k5 newId))
    (hi : W.Looks (model prog w) h (typeLookup (.ref C) "__init__") (some (.ref fI))) (hb : ∀ self, W.Looks (model prog w) h (bindSpecial (.ref fI) self) (.ref fI, [self])) (hz : rest.length ≤ sizeLine)
    (hq : codeAny (model prog w) A (.call (.ref fI) ⟨.ref (h.objs.size + 1) :: rest, []⟩)
      (fun r s' => match r with | .ok (.ret v) => v = .none ∧ Q (.done (.ret (.ref (h.objs.size + 1)))) s' | .ok _ => False | .error e => E e s') ⟨(h.push (W.kdv_tup rest)).push (excO C h.objs.size), g, d, t, os⟩) :
    wpAny (model prog w) A (Builtin.«type.__call__» ⟨.ref C :: rest, []⟩) Q E ⟨h, g, d, t, os⟩ := by
  repeat (first
    | with_reducible refine wpAny_loadPart_at ho ?_
    | with_reducible refine wpAny_madeBy_exc ho ?_
    | wp_step)
  refine codeAny_call_builtin_code (Code.quiet_builtin _ F.quiet) (new_check F T ho (new_made F T ho ?_ hz))
  show wpAny _ _ _ _ _ _
  have kk : ∀ b o, h.get? b = some o → ((h.push (W.kdv_tup rest)).push (excO C h.objs.size)).get? b = some o := fun b o z => Heap.get?_push_of_some _ (Heap.get?_push_of_some _ z)
  have ho2 := kk _ _ ho
  have got : ((h.push (W.kdv_tup rest)).push (excO C h.objs.size)).get? (h.objs.size + 1) = some (excO C h.objs.size) := by heap_get
  have own : (Value.ref C :: bm).contains (.ref C) = true := by simp
  have i1 := hi.keeps kk
  have b1 := (hb (.ref (h.objs.size + 1))).keeps kk
  unfold isInstance
  repeat (first
    | with_reducible refine wpAny_loadPart_at got ?_
    | (with_reducible refine wpAny_isSubtype_exc ho2 ?_
       rw [own])
    | wp_step)
  show wpAny _ _ (typeLookup (.ref C) _) _ _ _
  refine i1.at (wpAny_holding (wpAny_bind (b1.at (wpAny_bind (wpAny_call (codeAny_mono hq fun r s' z => ?_))))))
  cases r with
  | error e => exact z
  | ok fl =>
    cases fl with
    | next => exact z.elim
    | brk => exact z.elim
    | cont => exact z.elim
    | ret v =>
      obtain ⟨rfl, z⟩ := z
      first
        | exact wpAny_pure (wpAny_pure z)
        | (wp_walk
           exact z)
theorem call_made (F : ExcBaseFacts B newId initId bm0) (T : Tail B bm) {rest : List Value} {fI : Addr} (ho : h.get? C = some (excClassObj nm q C N bs bm hdct sn sub ab col dd k0 k1 k2 k3 k5 newId))
    (hi : W.Looks (model prog w) h (typeLookup (.ref C) "__init__") (some (.ref fI))) (hb : ∀ self, W.Looks (model prog w) h (bindSpecial (.ref fI) self) (.ref fI, [self])) (hz : rest.length ≤ sizeLine)
    (hq : codeAny (model prog w) (A.under (.builtin "type.__call__" ⟨.ref C :: rest, []⟩)) (.call (.ref fI) ⟨.ref (h.objs.size + 1) :: rest, []⟩) (W.InitBack (h.objs.size + 1) R) ⟨(h.push (W.kdv_tup rest)).push (excO C h.objs.size), g, d, t, os⟩) :
    codeAny (model prog w) A (.call (.ref C) ⟨rest, []⟩) R ⟨h, g, d, t, os⟩ := by
  have l1 := tc_lookup
  have l2 := tc_bind (.ref C)
  have ty : (⟨h, g, d, t, os⟩ : Shared).TypeIs (.ref C) "type" := ⟨_, ho, rfl⟩
  refine codeAny_of_tree (show wpAny _ _ (callAny (.ref C) _) _ _ _ from ?_)
  repeat (any_goals (first
    | assumption
    | with_reducible refine wpAny_loadPart_at ho ?_
    | wp_step))
  refine ⟨rfl, codeAny_call_builtin_at (Code.quiet_builtin _ (by decide +kernel)) entry_typeCall (wpAny_check_type_call_sub ho (type_made F T ho hi hb hz (codeAny_mono hq fun r s' z => ?_)))⟩
  rcases r with e | (v | _ | _ | _) <;> exact z
end
end Eo
end PySem

namespace Eo
open PySem PySem.Spec PyProof.Rows L2 Sh
/-- what the written part says of an own error class over the class of bmB -/
structure OexG (K : PySem.W.Frag) (C : Addr) (bmB : List Value) (newId : String) : Prop where
  q : PySem.W.excInitIn K C bmB newId = true
  ov : PySem.W.excOver K C bmB = true
  sa : PySem.W.findIn K (.ref C) "__setattr__" = some (some (.builtin "object.__setattr__"))
  kC : PySem.W.keepIn K (.ref C) = true
  ec : ExcC K C
def XfC.of {K : PySem.W.Frag} {C : Addr} (e : ExcC K C) : XfC K C := ⟨e.hg, e.hk, e.hs, e.hd⟩
section
variable {X : Cx} {pins : List (Addr × Obj)} {σ : L2.St} {H : Hp} {s : Shared} {a C dx : Addr} {f : Str} {y : V} {u : Value} {Q : Unit → Shared → Prop} {E : Value → Shared → Prop} {A : Around} {B newId : String} {bmB : List Value}
/-- self.f = y, the first one -/
theorem ostG (SF : StoreFacts B bmB "object.__setattr__" "object") (T : OexG X.K C bmB newId) (I : Inv X pins σ H s) (e : H a = some (exo a C none)) (hno : PySem.W.findIn X.K (.ref C) f = some none) (ry : RelV y u)
    (h : ∀ dx s', H dx = none → dx ≠ a → Inv X pins σ (upd (upd H dx (exd dx [(f, y)])) a (exo a C (some dx))) s' → Q () s') :
    wpAny (model X.prog X.w) A (setAttr (.ref a) f u) Q E s := by
  obtain ⟨t1, ho⟩ := exo_at I.hok e
  obtain ⟨hp, g, d, t, os⟩ := s
  refine PySem.W.set_plain I.kIn (ox := { cls := .ref C, dict := none, data := .fields #[.ref t1, .none, .none, .none, .bool false, .none] }) (od := none) ⟨ho, rfl, rfl, trivial⟩ T.sa ?_
  refine PySem.Eo.osaG SF I.kIn ho T.ov T.ec.hd hno fun h' tk' dx k dn dne hx hn => ?_
  have fresh : H dx = none := I.hok.fresh dn
  have old : ∀ {b : Addr} {o : Obj}, hp.get? b = some o → b ≠ dx := fun {b o} z => Nat.ne_of_lt (Nat.lt_of_lt_of_le (Heap.lt_size z) dn)
  have na : ∀ {b : Addr}, H b = none → b ≠ a := fun {b} n z => by
    rw [z, e] at n
    cases n
  have far : ∀ {b : Addr} {o : HO}, H b = some o → b ≠ a → upd (upd H dx (exd dx [(f, y)])) a (exo a C (some dx)) b = some o := fun {b o} q n => by
    rw [upd_ne n, upd_ne (ne_of_none q fresh)]
    exact q
  have U : Un X.fs [] H (upd (upd H dx (exd dx [(f, y)])) a (exo a C (some dx))) hp h' := by
    refine ⟨fun b o q n _ _ => k b o (na n) q, fun b o q n _ _ => ⟨o.slots, k b o (na n) q⟩, fun b o q n _ => ?_, fun b o q _ => ?_, fun b xs q => far q (at_ne e q exo_tup), fun b o v q => far q (at_ne e q exo_frz), fun b ps q => ⟨#[], ?_⟩⟩
    · rw [upd_ne (na n), upd_ne (old q)]
      exact n
    · by_cases hb : b = a
      · exact ⟨_, by rw [hb]; exact hx⟩
      · exact ⟨o, k b o hb q⟩
    · rw [Array.append_empty]
      exact far q (at_ne e q exo_tbl)
  refine h dx _ fresh dne (I.un (t' := tk') U fun b o q => ?_)
  by_cases hb : b = a
  · subst hb
    rw [upd_same] at q
    cases q
    exact exo_ok hx
  · rw [upd_ne hb] at q
    by_cases hd : b = dx
    · subst hd
      rw [upd_same] at q
      cases q
      exact exd_ok hn (relO_put (fs := []) ry fun g => True.intro)
    · rw [upd_ne hd] at q
      refine (I.hok b o q).stay (fun c v hc z => k c v ?_ z) (fun c hc => far hc (at_ne e hc exo_own)) fun c xs hc => far hc (at_ne e hc exo_tup)
      rcases hc with rfl | hc
      · exact hb
      · exact at_ne e hc exo_own
end
/-! ### rules -/
/-- self.f = e in an own __init__ -/
def tOstG (K : PySem.W.Frag) (C : Addr) (f : Str) (to te : TE) : TS := fun D σ H => te σ H fun y H1 => to σ H1 fun x H2 => ∃ a : Addr, x = .ref a ∧ PySem.W.findIn K (.ref C) f = some none ∧
  H2 a = some (exo a C none) ∧ ∀ dx, H2 dx = none → dx ≠ a → D.nx σ (upd (upd H2 dx (exd dx [(f, y)])) a (exo a C (some dx)))
/-- C(e, ..) of an own error class whose __init__ keeps sp, as a value -/
def tMkV (C : Addr) (sp : Sp) (ta : TA) : TE := fun σ H Q => ta σ H fun vs H1 => vs.length ≤ 1000 ∧ ∀ a, H1 a = none → sp (.ref a :: vs) (upd H1 a (exo a C none)) (fun v H2 => v = .non ∧ Q (.ref a) H2) fun _ _ _ => False
/-- o.f of such an error -/
def tExg (K : PySem.W.Frag) (f : Str) (te : TE) : TE := fun σ H Q => te σ H fun x H1 => ∃ (a C dd : Addr) (fs : List (Str × V)) (v : V), x = .ref a ∧ XfC K C ∧ PySem.W.findIn K (.ref C) f = some none ∧
  H1 a = some (exo a C (some dd)) ∧ H1 dd = some (exd dd fs) ∧ fs.lookup f = some v ∧ Q v H1
/-- an error of the class at D stands at a -/
def IsE (H : Hp) (a D : Addr) : Prop := H a = some (ExO (.ref D) a) ∨ ∃ dd fs, H a = some (exo a D (some dd)) ∧ H dd = some (exd dd fs)
theorem IsE.same {H H' : Hp} {a D : Addr} (s : Same H H') (h : IsE H a D) : IsE H' a D := by
  rcases h with h | ⟨dd, fs, h1, h2⟩
  · exact .inl (s _ _ h)
  · exact .inr ⟨dd, fs, s _ _ h1, s _ _ h2⟩
/-- isinstance(error, class) -/
def rIsG (K : PySem.W.Frag) : List V → Hp → VK → Prop := fun xs H Q => ∃ (a D : Addr) (c : V) (cv : Value) (b : Bool), xs = [.ref a, c] ∧ ClsV c cv ∧ ExcC K D ∧ IsE H a D ∧ PySem.W.kitOne K (.ref D) cv = some b ∧ Q (.bl b) H
section
variable {X : Cx} {o e : Expr} {es : List Expr} {to te : TE} {ta : TA} {f : Str} {p p' pos : Pos} {C : Addr} {B newId initId : String} {bmB bm0 : List Value}
theorem ps_ostG (SF : StoreFacts B bmB "object.__setattr__" "object") (T : OexG X.K C bmB newId) (ho : PE X o to) (he : PE X e te) (hs : swapsWith e (some (.Attribute o f p')) pos.line X.env = pure false := by rfl) :
    PS X (.Assign [.Attribute o f p'] e pos) (tOstG X.K C f to te) := by
  refine ⟨fun pins s σ H D I h => plainObj_wpAny_Assign_Attribute (thn (he.run pins s σ H _ I h) fun v s1 ⟨y, H1, I1, r1, q1⟩ => thn (ho.run pins s1 σ H1 _ I1 q1) fun u s2 h2 => ?_) hs⟩
  obtain ⟨x, H2, I2, r2, a, rfl, hno, ea, q⟩ := h2
  cases r2
  exact ostG SF T I2 ea hno r1 fun dx s' n ne J => ⟨σ, _, J, q dx n ne⟩
theorem pe_oexG {x : Str} {fI : Addr} {k : Nat} {fd : FuncData} {ps : List Str} {sp : Sp} (FB : ExcBaseFacts B newId initId bm0) (tl : PySem.Eo.Tail B bmB) (T : OexG X.K C bmB newId) (iC : PySem.W.findIn X.K (.ref C) "__init__" = some (some (.ref fI))) (tI : PySem.W.typeIn X.K (.ref fI) = some (.type "function"))
    (F1 : FnOk X.prog X.w X.K X.mg X.base CX0 k fI fd ps sp) (hr : Room (k + 1) X.A) (hb : Binds X.K fd ps []) (hg : Gl X x) (hm : X.mg x = some (.ref C)) (ha : PA X (e :: es) ta)
    (hdb : (x == ("__debug__" : Str)) = false := by decide) (he : starEach (e :: es) X.env = (false, eval e X.env) :: starEach es X.env := by rfl) (hpl : (backTo pos (starEach es X.env)).any (·.1) = false := by rfl) :
    PE X (.Call (.Name x p) (e :: es) [] pos) (tMkV C sp ta) := by
  refine ⟨fun pins s σ H Q I h => wpAny_Call_Name_kw (ld_glob I hg hm ?_ hdb)⟩
  refine PySem.W.callWith_K (h₀ := X.base) I.ok.mod.kin T.kC (thn (ha.run pos pins s σ H _ I h) fun us s1 ⟨vs, H1, I1, r1, hz, q1⟩ => ⟨I1.kIn, ?_⟩) he hpl
  show wpAny _ _ (call (.ref C) us) _ _ _
  obtain ⟨hp, g, dr, tk, os⟩ := s1
  obtain ⟨nm, N, q, bs, bm, hdct, sn, sub, ab, col, dd, k0, k1, k2, k3, k5, hC, hT⟩ := PySem.W.excInit_of I1.kIn T.q
  have more : hp.objs.size ≤ hp.objs.size + 1 := Nat.le_succ _
  have hn : H1 (hp.objs.size + 1) = none := I1.hok.fresh more
  have kk : ∀ b o, hp.get? b = some o → ((hp.push (PySem.W.kdv_tup us)).push (PySem.HandSPX.excO C hp.objs.size)).get? b = some o := fun b o z => Heap.get?_push_of_some _ (Heap.get?_push_of_some _ z)
  have got : ((hp.push (PySem.W.kdv_tup us)).push (PySem.HandSPX.excO C hp.objs.size)).get? (hp.objs.size + 1) = some (PySem.HandSPX.excO C hp.objs.size) := by heap_get
  have I2 : Inv X pins σ (upd H1 (hp.objs.size + 1) (exo (hp.objs.size + 1) C none)) ⟨(hp.push (PySem.W.kdv_tup us)).push (PySem.HandSPX.excO C hp.objs.size), g, dr, tk, os⟩ :=
    I1.laid (t' := tk) (a := hp.objs.size + 1) (o := exo (hp.objs.size + 1) C none) kk more (exo_ok got)
  have hq := q1 _ hn
  have r2 : Vals (V.ref (hp.objs.size + 1) :: vs) (Value.ref (hp.objs.size + 1) :: us) := .cons rfl r1
  have hl : (Value.ref (hp.objs.size + 1) :: us).length = ps.length := r2.length.symm.trans (F1.len _ _ _ _ hq)
  have b2 := hb _ (Value.ref (hp.objs.size + 1) :: us) I2.kIn (by rw [List.append_nil]; exact hl)
  rw [List.append_nil] at b2
  have hus : us.length ≤ sizeLine := by
    have := r1.length
    rw [sizeLine_eq]
    omega
  refine wpAny_call (PySem.Eo.call_made FB (.of hT tl) hC (PySem.W.looks_findIn I1.kIn iC) (fun self => PySem.W.bind_fn I1.kIn self tI) hus
    (codeAny_mono (F1.run _ X.stack _ _ ⟨Value.ref (hp.objs.size + 1) :: us, []⟩ _ _ _ (fun _ _ _ => False) (hr.make C us []) (I2.env0.make C us []) b2 r2 hq) fun r s' hq' => ?_))
  cases r with
  | error er => exact hq'.elim
  | ok fl =>
    cases fl with
    | ret u =>
      obtain ⟨v, H3, I3, rv, rfl, q3⟩ := I2.after hq'
      exact ⟨rv, ⟨V.ref (hp.objs.size + 1), H3, I3, rfl, q3⟩⟩
    | next => exact hq'.elim
    | brk => exact hq'.elim
    | cont => exact hq'.elim
theorem pe_exg (he : PE X e te) (hb : attributeBase e f X.env (eval e X.env) = eval e X.env := by rfl) : PE X (.Attribute e f pos) (tExg X.K f te) := by
  refine ⟨fun pins s σ H Q I h => attr_of hb (thn (he.run pins s σ H _ I h) fun u s1 hh => ?_)⟩
  obtain ⟨x, H1, I1, rx, a, C, dd, fs, v, rfl, T, hno, ea, ed, l, q⟩ := hh
  cases rx
  obtain ⟨t1, ho⟩ := exo_at I1.hok ea
  obtain ⟨mA, hns, rel⟩ := exd_at I1.hok ed
  obtain ⟨od, hod, hl⟩ := lookIn_ns hns
  obtain ⟨u, hu, ru⟩ := RelO.some_of (v := v) (o := mA f) (by rw [← l]; exact rel f)
  have J : PySem.W.InstAt s1.heap a { cls := .ref C, dict := some dd, data := .fields #[.ref t1, .none, .none, .none, .bool false, .none] } C (some od) := ⟨ho, rfl, rfl, hod⟩
  exact HandSPX.exc_get I1.kIn J T.ga T.gg T.exC (PySem.W.findObj_own T.hdC hno rfl (by rw [hl, hu])) (handed_of ru) ⟨v, H1, I1.tok _, ru, q⟩
theorem call_isG : CallR X (.builtin "isinstance") (rIsG X.K) := by
  intro pins s σ H xs us Q I r h
  obtain ⟨a, D, c, cv, b, rfl, k, T, hE, e, q⟩ := h
  obtain ⟨u1, u2, rfl, r1, r2⟩ := vals2 r
  cases (show u1 = Value.ref a from r1)
  have e2 := k.eq r2
  subst e2
  have at_ : ∃ ox od, PySem.W.InstAt s.heap a ox D od := by
    rcases hE with hE | ⟨dd, fs, ea, ed⟩
    · obtain ⟨⟨oe, vs, ho, hz, hd, _⟩, _, _⟩ := I.hok a _ hE
      exact ⟨oe, none, ho, hz.1, by unfold PySem.W.notCls; rw [hd] <;> rfl, by rw [hz.2]; trivial⟩
    · obtain ⟨t1, ho⟩ := exo_at I.hok ea
      obtain ⟨mA, hns, rel⟩ := exd_at I.hok ed
      obtain ⟨od, hod, hl⟩ := lookIn_ns hns
      exact ⟨_, some od, ho, rfl, rfl, hod⟩
  obtain ⟨ox, od, J⟩ := at_
  have hcl : (PySem.W.clsIn X.K D).isSome = true := by
    obtain ⟨cd, hc, _⟩ := PySem.W.any_some T.hd
    rw [hc]
    rfl
  exact PySem.W.kia_one (PySem.W.kitx_exc hcl T.hg T.hk T.hs T.ha T.hn T.ht T.hm) I.kIn J e (fun z => nomatch z) fun tk => ⟨.bl b, H, I.tok tk, rfl, q⟩
end
end Eo

/-! repr of lists of data, in defs that are called where no guard stands -/
namespace Eo
open PySem PySem.Spec PyProof.Rows L2 Sh
/-- a value of data, as it stands in the heap -/
inductive Rp (H : Hp) : V → PyData → Prop
  | non : Rp H .non .none
  | bl (b : Bool) : Rp H (.bl b) (.bool b)
  | int (i : Int) : Rp H (.int i) (.int i)
  | str (z : Str) : Rp H (.str z) (.str z)
  | one {p : Addr} {i : Int} (h : H p = some (.lst [.int i])) : Rp H (.ref p) (.list [.int i])
  | tup0 {p : Addr} (h : H p = some (.tup [])) : Rp H (.ref p) (.tuple [])
  | tup2 {p : Addr} {z : Str} {i : Int} (h : H p = some (.tup [.str z, .int i])) : Rp H (.ref p) (.tuple [.str z, .int i])
  | dic {p : Addr} (h : H p = some (.dK [])) : Rp H (.ref p) (.dict [])
inductive RpAll (H : Hp) : List V → List PyData → Prop
  | nil : RpAll H [] []
  | cons {v : V} {d : PyData} {vs : List V} {ds : List PyData} : Rp H v d → RpAll H vs ds → RpAll H (v :: vs) (d :: ds)
theorem Rp.mono {H H' : Hp} {v : V} {d : PyData} (q : Rp H v d) (k : ∀ p o, H p = some o → (∃ xs, o = .tup xs) ∨ o = .dK [] ∨ (∃ i, o = .lst [.int i]) → H' p = some o) : Rp H' v d := by
  cases q with
  | non => exact .non
  | bl b => exact .bl b
  | int i => exact .int i
  | str z => exact .str z
  | one h => exact .one (k _ _ h (.inr (.inr ⟨_, rfl⟩)))
  | tup0 h => exact .tup0 (k _ _ h (.inl ⟨_, rfl⟩))
  | tup2 h => exact .tup2 (k _ _ h (.inl ⟨_, rfl⟩))
  | dic h => exact .dic (k _ _ h (.inr (.inl rfl)))
theorem RpAll.mono {H H' : Hp} {vs : List V} {ds : List PyData} (q : RpAll H vs ds) (k : ∀ p o, H p = some o → (∃ xs, o = .tup xs) ∨ o = .dK [] ∨ (∃ i, o = .lst [.int i]) → H' p = some o) : RpAll H' vs ds := by
  induction q with
  | nil => exact .nil
  | cons a _ ih => exact .cons (a.mono k) ih
theorem RpAll.same {H H' : Hp} {vs : List V} {ds : List PyData} (q : RpAll H vs ds) (s : Same H H') : RpAll H' vs ds := q.mono fun _ _ h _ => s _ _ h
theorem RpAll.snoc {H : Hp} {vs : List V} {ds : List PyData} {v : V} {d : PyData} (q : RpAll H vs ds) (r : Rp H v d) : RpAll H (vs ++ [v]) (ds ++ [d]) := by
  induction q with
  | nil => exact .cons r .nil
  | cons a _ ih => exact .cons a ih
theorem RpAll.len {H : Hp} {vs : List V} {ds : List PyData} (q : RpAll H vs ds) : vs.length = ds.length := by
  induction q with
  | nil => rfl
  | cons _ _ ih => rw [List.length_cons, List.length_cons, ih]

theorem rp_reads {P : Program} {w : World} {H : Hp} {h : Heap} {v : V} {u : Value} {d : PyData} (ok : HOk P w H h) (r : RelV v u) (q : Rp H v d) : ∃ as, Reads h u d as ∧ (d.hasDict = true → sysModules ∉ as) := by
  cases q with
  | non =>
    cases r
    exact ⟨_, .none, fun z => by cases z⟩
  | bl b =>
    cases r
    exact ⟨_, .bool b, fun z => by cases z⟩
  | int i =>
    obtain ⟨t, rfl⟩ := r
    exact ⟨_, .int i t, fun z => by cases z⟩
  | str z =>
    obtain ⟨t, rfl⟩ := r
    exact ⟨_, .str z t, fun z => by cases z⟩
  | @one p i e =>
    cases r
    obtain ⟨_, us, n, rv, h1⟩ := ok p _ e
    cases rv with
    | cons a b =>
      cases b
      obtain ⟨t, rfl⟩ := a
      exact ⟨_, .list h1 rfl rfl (.cons (.int i t) .nil), fun z => by cases z⟩
  | @tup0 p e =>
    cases r
    obtain ⟨_, us, rv, o, h1, h2, n, h3⟩ := ok p _ e
    cases rv
    exact ⟨_, .tuple h1 h2 h3 .nil, fun z => by cases z⟩
  | @tup2 p z i e =>
    cases r
    obtain ⟨_, us, rv, o, h1, h2, n, h3⟩ := ok p _ e
    cases rv with
    | cons a b =>
      cases b with
      | cons b c =>
        cases c
        obtain ⟨t, rfl⟩ := a
        obtain ⟨t2, rfl⟩ := b
        exact ⟨_, .tuple h1 h2 h3 (.cons (.str z t) (.cons (.int i t2) .nil)), fun z => by cases z⟩
  | @dic p e =>
    cases r
    obtain ⟨_, lo, vs, kv, o, es, ep, h1, h2, h3, h4, h5, h6⟩ := ok p _ e
    cases kv
    have e0 : es = #[] := by
      apply Array.toList_inj.mp
      generalize es.toList = l at h5
      cases h5
      rfl
    subst e0
    exact ⟨_, .dict h1 h2.1 h3 .nil .nil, fun _ z => by
      rw [show ((p :: [] ++ [] : List Addr)) = [p] from rfl, List.mem_singleton] at z
      rw [← z] at lo
      exact absurd lo (by decide)⟩
/-- what repr of an item wants -/
def Good (d : PyData) : Prop := d.showable = true ∧ d.depth ≤ 1 ∧ d.shown.length ≤ 60
theorem rp_all {P : Program} {w : World} {H : Hp} {h : Heap} (ok : HOk P w H h) : ∀ {vs : List V} {us : List Value} {ds : List PyData}, Vals vs us → RpAll H vs ds → (∀ d ∈ ds, Good d) →
    (∃ as, ReadsAll h us ds as) ∧ ∃ bs, ReadAtMost h (PyData.depthAll ds) bs ∧ ReprAllK P w bs h (PyData.depthAll ds) us (PyData.shownAll ds)
  | _, _, _, .nil, .nil, _ => by
    refine ⟨⟨_, .nil⟩, [], (fun _ z => nomatch z), ?_⟩
    simp only [PyData.shownAll]
    exact .nil
  | _, _, _, .cons r rs, .cons (d := d) (ds := ds) q qs, g => by
    obtain ⟨as, rd, sm⟩ := rp_reads ok r q
    obtain ⟨g1, g2, g3⟩ := g d (.head _)
    obtain ⟨b1, m1, k1⟩ := ReprK.of_reads (prog := P) (w := w) rd g1 sm (Nat.le_trans g3 (by rw [sizeLine_eq]; omega))
    obtain ⟨⟨as2, rd2⟩, b2, m2, k2⟩ := rp_all ok rs qs fun z hz => g z (.tail _ hz)
    refine ⟨⟨_, .cons rd rd2⟩, b1 ++ b2, fun b hb => ?_, ?_⟩
    · simp only [PyData.depthAll]
      rcases List.mem_append.mp hb with hb | hb
      · obtain ⟨d', a', r', l'⟩ := m1 b hb
        exact ⟨d', a', r', Nat.le_trans l' (Nat.le_max_left _ _)⟩
      · obtain ⟨d', a', r', l'⟩ := m2 b hb
        exact ⟨d', a', r', Nat.le_trans l' (Nat.le_max_right _ _)⟩
    · simp only [PyData.depthAll, PyData.shownAll]
      refine .cons ((k1.more fun b hb => List.mem_append_left _ hb).level_le ?_) (k2.more_le (fun b hb => List.mem_append_right _ hb) ?_)
      · exact Nat.le_max_left _ _
      · exact Nat.le_max_right _ _
theorem depth_all {ds : List PyData} (g : ∀ d ∈ ds, Good d) : PyData.depthAll ds ≤ 1 := by
  induction ds with
  | nil =>
    simp only [PyData.depthAll]
    omega
  | cons d r ih =>
    simp only [PyData.depthAll]
    exact Nat.max_le.mpr ⟨(g d (.head _)).2.1, ih fun z hz => g z (.tail _ hz)⟩
theorem shown_sum {ds : List PyData} (g : ∀ d ∈ ds, Good d) : ((PyData.shownAll ds).map (·.length)).sum ≤ 60 * ds.length ∧ (PyData.shownAll ds).length = ds.length := by
  induction ds with
  | nil =>
    simp only [PyData.shownAll]
    exact ⟨Nat.le_refl _, rfl⟩
  | cons d r ih =>
    obtain ⟨h1, h2⟩ := ih fun z hz => g z (.tail _ hz)
    have h3 := (g d (.head _)).2.2
    simp only [PyData.shownAll, List.map_cons, List.sum_cons, List.length_cons]
    exact ⟨by omega, by omega⟩
/-- repr of a list of such values -/
def rRepr : List V → Hp → VK → Prop := fun vs H Q => ∃ p xs ds, vs = [.ref p] ∧ H p = some (.lst xs) ∧ xs ≠ [] ∧ RpAll H xs ds ∧ (∀ d ∈ ds, Good d) ∧ ds.length ≤ 1000 ∧ Q (.str (listText (PyData.shownAll ds))) H
theorem call_repr_data {X : Cx} (hg : X.A.guards = some []) (hu : X.A.units + 64 < cLine) : CallR X (.builtin "repr") rRepr := by
  intro pins s σ H xs us Q I r h
  obtain ⟨p, xs, ds, rfl, hp, hne, ra, gd, hl, q⟩ := h
  obtain ⟨u, rfl, r1⟩ := vals1 r
  cases r1
  obtain ⟨_, its, n, rv, h1⟩ := I.hok p _ hp
  obtain ⟨⟨as, rd⟩, bs, mb, ka⟩ := rp_all I.hok rv ra gd
  have hd := depth_all gd
  have na : p ∉ bs := not_mem_of_deeper (Reads.list h1 rfl rfl rd) (by simp only [PyData.depth]; omega) mb
  obtain ⟨s1, s2⟩ := shown_sum gd
  have hsz : (listText (PyData.shownAll ds)).length ≤ sizeLine := Nat.le_trans (listText_len_le _) (by rw [sizeLine_eq]; omega)
  cases rv with
  | nil => exact absurd rfl hne
  | @cons x0 u0 xs0 us0 a b =>
    refine call_repr_slot (by omega) ⟨_, h1, rfl⟩ F.slot_list_repr.toG ?_
    refine call_list_reprK (A := X.A.in1) h1 rfl rfl na (by simpa using ka.length_eq) (fun i y e => ka.item i y (by simpa using e)) hg (fun b _ => Clear.nil b) ?_ (fun _ _ z => z) (fun h' u tk k => ?_) hsz
    · show X.A.units + 1 + _ < _
      omega
    · exact ⟨_, _, rfl, .str _, H, I.kept k, ⟨_, rfl⟩, q⟩

/-! ### defs that are called where no guard stands -/
structure FnG (P : Program) (w : World) (K : PySem.W.Frag) (mg : Str → Option Value) (base : Heap) (k : Nat) (f : Addr) (fd : FuncData) (ps : List Str) (sp : Sp) : Prop where
  len : ∀ vs H Q E, sp vs H Q E → vs.length = ps.length
  run : ∀ (A : Around) (outer : List Env) (s : Shared) (H : Hp) (args : Args) (us : List Value) (vs : List V) (Q : VK) (E : XK), A.guards = some [] → Room k A → Env0 P w K mg base A outer s H →
    BindsTo s fd args (ps.zip us) → Vals vs us → sp vs H Q E → codeAny (model P w) A (.call (.ref f) args) (CR CX0 outer P w H s Q E) s
section
variable {P : Program} {w : World} {K : PySem.W.Frag} {mg : Str → Option Value} {base : Heap}
theorem fnG_ok {x qual : Str} {st : Stmt} {f : Addr} {fd : FuncData} {N ps : List Str} {k : Nat} {sp : Sp} (F : L2.Fun K x qual st f fd) (S : FnScope N ps (defScope st)) (len : ∀ vs H Q E, sp vs H Q E → vs.length = ps.length)
    (hbody : ∀ (cdv : Value) (A : Around) (outer : List Env) (s : Shared) (H : Hp) (vs : List V) (Q : VK) (E : XK), A.guards = some [] → Room k (A.deeper (envOfC qual (defScope st) s.heap.objs.size f cdv)) → sp vs H Q E →
      ∃ t, PSs (cxOf CX0 P w K mg base N qual (defScope st) f cdv A outer s H E).nox (defBody st) t ∧ t { nx := fun _ H' => Q .non H', rt := Q } (start N vs) H) : FnG P w K mg base (k + 1) f fd ps sp := by
  obtain ⟨oc, od, kV, doc, pm, an, cdv, ct, osl, rfl, lk, hcd⟩ := F.ex
  refine ⟨len, fun A outer s H args us vs Q E hg hr e0 hb r hsp => ?_⟩
  have hl := len _ _ _ _ hsp
  have old := fun b o e => (e0.bs b o e).1
  have par : ∀ y ∈ ps.zip us, (defScope st).names.lookup y.1 = some .local ∨ ((defScope st).names.lookup y.1 = some .cell ∧ ((cellsFrom (s.heap.objs.size + 1) (defScope st).names []).lookup y.1).isSome = true) := by
    intro ⟨n, v⟩ hy
    rcases S.par n (List.of_mem_zip hy).1 with q | q
    · exact .inl q
    · exact .inr ⟨q, PySem.W.cellsFrom_some _ _ _ (.inl q)⟩
  have KX : K.In s.heap := e0.mod.kin.keeps old
  refine codeAny_call_function hr.depth (KX _ _ lk) rfl S.co S.gen rfl (PySem.W.codeRec_of KX hcd) (hb _ _ _ _ (wpAny_newFunctionEnv_cells S.kind par fun env he s1 x1 => ?_))
  subst he
  refine ⟨(e0.mod.nolimit.keeps old).keeps x1.toInCall.keep, codeAny_func ?_⟩
  obtain ⟨t, ht0, hq⟩ := hbody cdv A outer s H vs Q E hg (hr.deeper _) hsp
  have ht := ht0.nox
  have I0 := inv_start (CX := CX0) (E := E) S hr.hd e0 hl r x1
  refine wpAny_mono (ht.run [] s1 (start N vs) H _ I0 hq) (fun fl s' hs => ?_) fun e s' hs => hs
  cases fl with
  | ret u =>
    obtain ⟨v, σ', H', J, rv, q⟩ := hs
    exact ⟨v, H', J.os, J.bare, J.base, J.hok, rv, q⟩
  | next =>
    obtain ⟨σ', H', J, q⟩ := hs
    exact ⟨.non, H', J.os, J.bare, J.base, J.hok, rfl, q⟩
  | brk =>
    obtain ⟨_, _, _, q⟩ := hs
    exact q.elim
  | cont =>
    obtain ⟨_, _, _, q⟩ := hs
    exact q.elim
end
section
variable {X : Cx} {k : Nat} {f : Addr} {fd : FuncData} {ps : List Str} {sp : Sp} {x : Str} {p pos : Pos} {e : Expr} {es : List Expr} {t : TA}
theorem pe_callG (F : FnG X.prog X.w X.K X.mg X.base k f fd ps sp) (hg0 : X.A.guards = some []) (hr : Room k X.A) (hg : Gl X x) (hm : X.mg x = some (.ref f)) (hk : PySem.W.keepIn X.K (.ref f) = true) (hb : Binds X.K fd ps [])
    (ha : PA X (e :: es) t) (hdb : (x == ("__debug__" : Str)) = false := by decide) (he : starEach (e :: es) X.env = (false, eval e X.env) :: starEach es X.env := by rfl) (hpl : (backTo pos (starEach es X.env)).any (·.1) = false := by rfl) :
    PE X (.Call (.Name x p) (e :: es) [] pos) (tCall sp [] E0 t) := by
  refine ⟨fun pins s σ H Q I h => wpAny_Call_Name_kw (ld_glob I hg hm ?_ hdb)⟩
  refine PySem.W.callWith_K (h₀ := X.base) I.ok.mod.kin hk (thn (ha.run pos pins s σ H _ I h) fun us s1 hh => ?_) he hpl
  obtain ⟨vs, H1, I1, r, q⟩ := hh
  rw [List.append_nil] at q
  refine ⟨I1.kIn, ?_⟩
  have hl : us.length = ps.length := (Vals.length r).symm.trans (F.len _ _ _ _ q)
  have b := hb s1 us I1.kIn (by rw [List.append_nil]; exact hl)
  rw [List.append_nil] at b
  refine wpAny_call (codeAny_mono (F.run X.A X.stack s1 H1 ⟨us, []⟩ us vs Q E0 hg0 hr I1.env0 b r q) fun r s' hq => ?_)
  cases r with
  | error e => exact hq.elim
  | ok fl =>
    cases fl with
    | ret u => exact I1.after hq
    | next => exact hq.elim
    | brk => exact hq.elim
    | cont => exact hq.elim
end
/-! ### the end: the law's def is called where no guard stands -/
theorem guards_caller : callerA.guards = some [] := by rfl
theorem law_callG {P : Program} {w : World} {K : PySem.W.Frag} {mg mb : Str → Option Value} {k : Nat} {fa a : Addr} {fd : FuncData} {x : Str} {sp : Sp} {s1 : Shared} {vs : List Value} {ns : List Int}
    (kx : K.In s1.heap) (hns : s1.heap.Ns mainGlobals mg) (nb : s1.heap.Ns builtinsNs mb) (bb : ∀ x : Str, x ≠ "__name__" → mb x = bootBuiltins x) (lim : s1.heap.NoLimit) (gen0 : s1.gens = #[])
    (ga : s1.heap.get? a = some { cls := .type "list", data := .seq vs.toArray }) (hi : IntsAre vs ns) (hl : ns.length ≤ sizeLine) (hr : Room k callerA)
    (F : ∀ base : Heap, K.In base → base.Ns mainGlobals mg → FnG P w K mg base k fa fd [x] sp) (bnd : ∀ (s : Shared) (u : Value), BindsTo s fd ⟨[u], []⟩ [(x, u)])
    (hsp : ∀ H : Hp, Only H → SqL K H a (ns.map V.int) → sp [.ref a] H (fun v _ => v = .bl true) E0) :
    codeAny (model P w) callerA (.call (.ref fa) ⟨[.ref a], []⟩) (fun r s' => r = .ok (.ret (.bool true)) ∧ OldK s1.heap s'.heap ∧ s'.os = s1.os ∧ AllBare s'.gens) s1 := by
  have rv := vals_ints hi
  have ln := hi.length
  have main : ∀ H : Hp, Only H → SqL K H a (ns.map V.int) → HOk P w H s1.heap → (∀ b, H b ≠ none → b = a) → (H a ≠ none → K.lookup a = none) →
      codeAny (model P w) callerA (.call (.ref fa) ⟨[.ref a], []⟩) (fun r s' => r = .ok (.ret (.bool true)) ∧ OldK s1.heap s'.heap ∧ s'.os = s1.os ∧ AllBare s'.gens) s1 := by
    intro H only sq okh hA hK
    have hid : ∀ {b : Addr} {o : Obj}, s1.heap.get? b = some o → (H b ≠ none → False) → (hidT s1.heap H).get? b = some o := fun {b o} e n => hidT_get e (by
      cases z : H b with
      | none => rfl
      | some u => exact (n (by rw [z]; simp)).elim)
    have dicts : ∀ {b : Addr} {o : Obj} {es : Array DictEntry} {ep : Nat}, s1.heap.get? b = some o → o.data = .dict es ep → H b ≠ none → False := fun {b o es ep} e d n => by
      have z := hA b n
      subst z
      rw [ga] at e
      cases e
      have d' : Data.seq vs.toArray _ = Data.dict es ep := d
      cases d'
    have nsK : ∀ {b : Addr} {m : Str → Option Value}, s1.heap.Ns b m → (hidT s1.heap H).Ns b m := fun {b m} h => by
      obtain ⟨o, es, ep, e, d, r⟩ := h
      exact ⟨o, es, ep, hid e (dicts e d), d, r⟩
    have inB : K.In (hidT s1.heap H) := fun b o e => hid (kx b o e) fun n => by
      have z := hA b n
      subst z
      rw [hK n] at e
      cases e
    have md : Mod K mg (hidT s1.heap H) := by
      obtain ⟨mc, h1, h2⟩ := lim
      exact ⟨inB, nsK hns, ⟨mb, nsK nb, bb⟩, ⟨mc, nsK h1, h2⟩⟩
    have env : Env0 P w K mg (hidT s1.heap H) callerA [] s1 H := by
      refine ⟨rfl, md, fun b o e => of_hidT e, Nat.le_of_eq (hidT_size _ _), trivial, fun b z => ?_, okh, .of_eq gen0⟩
      exact absurd (show b ∈ ([] : List Addr) from z) (by simp)
    refine codeAny_mono ((F _ inB (nsK hns)).run callerA [] s1 H ⟨[.ref a], []⟩ [.ref a] [.ref a] _ _ guards_caller hr env (bnd s1 (.ref a)) (.cons rfl .nil) (hsp H only sq)) fun r s' h => ?_
    cases r with
    | error e => exact h.elim
    | ok fl =>
      cases fl with
      | next => exact h.elim
      | brk => exact h.elim
      | cont => exact h.elim
      | ret u =>
        obtain ⟨v, H', os, bare, un, ok2, rv2, q⟩ := h
        have q' : v = .bl true := q
        subst q'
        cases (show u = Value.bool true from rv2)
        refine ⟨rfl, OldK.of_keep fun b o e => ?_, os, bare⟩
        cases z : H b with
        | none => exact un.keep b o e z (by intro y; exact absurd (show b ∈ ([] : List Addr) from y) (by simp)) (by simp)
        | some u =>
          rcases only b with y | ⟨ob, xs, y⟩
          · rw [z] at y
            cases y
          · obtain ⟨e1, _⟩ := okh b _ y
            obtain ⟨e2, _⟩ := ok2 b _ (un.frzs b ob _ y)
            rw [e] at e1
            cases e1
            exact e2
  cases z : K.lookup a with
  | some o =>
    have e := kx a o z
    rw [ga] at e
    cases e
    refine main (fun _ => none) (fun _ => .inl rfl) (.inr ⟨_, vs.toArray, _, z, rfl, rfl, rfl, ?_, ?_⟩) (fun b u y => ?_) (fun b y => absurd rfl y) fun y => absurd rfl y
    · rw [List.size_toArray, ln]
      exact hl
    · simpa using rv
    · have y' : (none : Option HO) = some u := y
      cases y'
  | none =>
    refine main (fun b => if b = a then some (.frz { cls := .type "list", data := .seq vs.toArray } (.lst (ns.map V.int))) else none) (fun b => ?_) (.inl (.inr ⟨{ cls := .type "list", data := .seq vs.toArray }, if_pos rfl⟩)) (fun b u y => ?_) (fun b y => ?_) fun _ => z
    all_goals by_cases hb : b = a
    · exact .inr ⟨_, _, if_pos hb⟩
    · exact .inl (if_neg hb)
    · have y' := (if_pos hb).symm.trans y
      cases y'
      subst hb
      exact ⟨ga, by rw [List.length_map]; exact hl, vs, _, rv, ga⟩
    · have y' := (if_neg hb).symm.trans y
      cases y'
    · exact hb
    · exact absurd (if_neg hb) y
theorem walk_ofG {l : PySem.W.OpenLaw} {n k : Nat} {q : Program} {loose : List Str} {XP : (Str → Option Value) → Heap → Prop} {YP : World → Heap → Prop} {d : DefRec} {K : Params → PySem.W.Frag} {sp : World → Sp} {x : Str}
    (hn : l.most = some n) (hn2 : n ≤ sizeLine) (hdf : d.params.defaults = []) (hr : Room k callerA) (hY : ∀ (w : World) (h : Heap), YP w h → (K w.params).In h)
    (F : ∀ (w : World) (mg : Str → Option Value) (fa : Addr) (h : Heap), (K w.params).In h → h.Ns mainGlobals mg → mg d.name = some (.ref fa) →
      ∃ fd : FuncData, (∀ (s : Shared) (u : Value), BindsTo s fd ⟨[u], []⟩ [(x, u)]) ∧ ∀ base : Heap, (K w.params).In base → base.Ns mainGlobals mg → FnG l.prog w (K w.params) mg base k fa fd [x] (sp w))
    (hsp : ∀ (w : World) (H : Hp) (a : Addr) (ns : List Int), ns.length ≤ n → Only H → SqL (K w.params) H a (ns.map V.int) → sp w [.ref a] H (fun v _ => v = .bl true) E0) :
    PySem.W.WalkO q loose XP YP l.row.toRowW d [] (fun f vs => PySem.call f vs) := by
  refine Att.attach_call hn hdf fun w s0 s1 mg mb fa o pm cd doc a vs ns G Y ho hd hcd hmg hobj hints hlen hg => ?_
  obtain ⟨fd, hb, hF⟩ := F w mg fa _ (hY w _ Y) G.T.g hmg
  exact law_callG (hY w _ Y) G.T.g G.T.b G.T.builtins G.T.nolimit hg hobj hints (Nat.le_trans hlen hn2) hr hF hb fun H only sq => hsp w H a ns hlen only sq
end Eo

namespace Cl
open PySem PySem.Spec PyProof.Rows L2 Sh
/-- cls(a, .., *rest), cls a name of the def -/
def tMakeL (C : Addr) (sp : Sp) (E : XK) (tf : TE) (t : TA) : TE := fun σ H Q => tf σ H fun y H1 => y = .ref C ∧ StX.tMakeR C sp E t σ H1 Q
theorem pe_makeL {X : Cx} {CX : CXT} {k : Nat} {f C : Addr} {sp : Sp} {E : XK} {x : Str} {e : Expr} {es : List Expr} {tf : TE} {t : TA} {p pos : Pos} (M : Mk X.K C f) (F : FnR X.prog X.w X.K X.mg X.base CX k f sp) (hr : Room (k + 1) X.A) (hf : PE X (.Name x p) tf) (hx : Passes CX X E) (ha : PA X (e :: es) t)
    (he : starEach (e :: es) X.env = (false, eval e X.env) :: starEach es X.env := by rfl) (hpl : (backTo pos (starEach es X.env)).any (·.1) = true := by rfl) : PE X (.Call (.Name x p) (e :: es) [] pos) (tMakeL C sp E tf t) := by
  refine ⟨fun pins s σ H Q I h => wpAny_Call_Name_kw (wpAny_mono (hf.run pins s σ H _ I h) (fun u s1 hh => ?_) fun _ _ z => z)⟩
  obtain ⟨y, H1, I1, r, rfl, q⟩ := hh
  cases r
  refine PySem.W.callWith_S2 (h₀ := X.base) I1.ok.mod.kin M.kp (thn (ha.run pos pins s1 σ H1 _ I1 q) fun us s2 hh => ?_) he hpl
  obtain ⟨vs, H2, I2, r, q⟩ := hh
  exact ⟨I2.kIn, StX.run_makeR M F hr hx I2 r q⟩
/-- tuples of texts and others, multiplied by 0, 1 or more -/
def rMulT (K : PySem.W.Frag) : R2 := fun x y H Q => ∃ (l : Addr) (k : Int) (xs : List V), x = .ref l ∧ y = .int k ∧ H l = some (.tup xs) ∧ xs ≠ [] ∧ 0 ≤ k ∧ k ≤ 1000 ∧ xs.length ≤ 1000 ∧ (k = 1 → Q (.ref l) H) ∧ (k ≠ 1 → ∀ p, H p = none → Q (.ref p) (upd H p (.tup (List.replicate k.toNat xs).flatten)))
theorem mul_one (l : Addr) (items : Array Value) (n : Nat) (dd : Option Addr) (sl : Array (Option Value)) (u : Tok) : Meets (Builtin.«tuple.__mul__» ⟨[.ref l, .int 1 u], []⟩) fun _ R s =>
    s.heap.get? l = some { cls := .type "tuple", dict := dd, data := .seq items n, slots := sl } ∧ R (.ok (.ret (.ref l))) s := by
  intro prog w A R s ⟨ho, hq⟩
  cases s with
  | mk h g d t os =>
  have ho : h.get? l = some { cls := .type "tuple", dict := dd, data := .seq items n, slots := sl } := ho
  delta Builtin.«tuple.__mul__»
  repeat (first
    | with_reducible refine wpAny_loadPart_at ho ?_
    | wp_step)
  exact hq
theorem mul_zero (l : Addr) (x : Value) (items : List Value) (n : Nat) (dd : Option Addr) (sl : Array (Option Value)) (u : Tok) : Meets (Builtin.«tuple.__mul__» ⟨[.ref l, .int 0 u], []⟩) fun _ R s =>
    s.heap.get? l = some { cls := .type "tuple", dict := dd, data := .seq (x :: items).toArray n, slots := sl } ∧ R (.ok (.ret (.ref s.heap.objs.size))) { s with heap := s.heap.push { cls := .type "tuple", data := .seq #[] } } := by
  intro prog w A R s ⟨ho, hq⟩
  cases s with
  | mk h g d t os =>
  have ho : h.get? l = some { cls := .type "tuple", dict := dd, data := .seq (x :: items).toArray n, slots := sl } := ho
  delta Builtin.«tuple.__mul__»
  repeat (first
    | with_reducible refine wpAny_loadPart_at ho ?_
    | wp_step)
  exact hq
theorem op_mulT {X : Cx} : OpR X (binaryOp .Mult) (rMulT X.K) := by
  intro pins s σ H x y v u Q I rx ry h
  obtain ⟨l, k, xs, rfl, rfl, hl, hne, k0, k1, hx, q1, q2⟩ := h
  by_cases e1 : k = 1
  · subst e1
    cases rx
    obtain ⟨t, rfl⟩ := ry
    obtain ⟨_, us, rv, o, h1, h2, n, h3⟩ := I.hok l _ hl
    obtain ⟨oc, od, dt, osl⟩ := o
    simp only at h2 h3
    subst h2 h3
    have ty : s.TypeIs (.ref l) "tuple" := ⟨_, h1, rfl⟩
    refine wpAny_binaryOp_repeat_ref (T := "tuple") (U := "int") (by decide +kernel) ty (fun s' => rfl) noFill_tuple_mul (by kernel_rfl) F.slot_int_rmul repeat_tuple F.slot_int_index.lookup ?_
    refine call_meets F.slot_int_rmul rfl F.entry_int_rmul (F.args_int_rmul_2 _ _) (int_rmul_tuple 1 t l _ n od osl) ⟨h1, rfl, ty, ?_⟩
    exact call_meets F.slot_tuple_mul ty F.entry_tuple_mul (F.args_tuple_mul_2 _ _) (mul_one l _ n od osl t) ⟨h1, .ref l, H, I, rfl, q1 rfl⟩
  · by_cases e0 : k = 0
    · subst e0
      cases rx
      obtain ⟨t, rfl⟩ := ry
      obtain ⟨_, us, rv, o, h1, h2, n, h3⟩ := I.hok l _ hl
      obtain ⟨oc, od, dt, osl⟩ := o
      simp only at h2 h3
      subst h2 h3
      cases rv with
      | nil => exact absurd rfl hne
      | @cons x0 u0 xs0 us0 a b =>
        have ty : s.TypeIs (.ref l) "tuple" := ⟨_, h1, rfl⟩
        refine wpAny_binaryOp_repeat_ref (T := "tuple") (U := "int") (by decide +kernel) ty (fun s' => rfl) noFill_tuple_mul (by kernel_rfl) F.slot_int_rmul repeat_tuple F.slot_int_index.lookup ?_
        refine call_meets F.slot_int_rmul rfl F.entry_int_rmul (F.args_int_rmul_2 _ _) (int_rmul_tuple 0 t l _ n od osl) ⟨h1, rfl, ty, ?_⟩
        refine call_meets F.slot_tuple_mul ty F.entry_tuple_mul (F.args_tuple_mul_2 _ _) (mul_zero l _ _ n od osl t) ⟨h1, ?_⟩
        have fr : H s.heap.objs.size = none := I.hok.fresh (Nat.le_refl _)
        exact ⟨.ref s.heap.objs.size, upd H s.heap.objs.size (.tup []), I.laid (o := .tup []) (t' := s.toks) (fun _ _ q => Heap.get?_push_of_some _ q) (Nat.le_refl _) ⟨Nat.zero_le _, [], .nil, _, Heap.get?_push_at rfl rfl, rfl, _, rfl⟩, rfl, q2 (by decide) _ fr⟩
    · exact op_repT pins s σ H _ _ v u Q I rx ry ⟨l, k, xs, rfl, rfl, .inl (.inl hl), hne, by omega, k1, hx, q2 e1⟩
end Cl

/-! tuples: a reversed copy, the sum; walks over two tuples -/
namespace HT
open PySem PySem.Spec PyProof.Rows
section
variable {prog : Program} {w : World} {A : Around} {E : Value → Shared → Prop} {s : Shared}
theorem back_adjust (n : Nat) : Builtin.Slice.sliceAdjust none none (-1) (n : Int) = ((n : Int) - 1, -1) := by
  unfold Builtin.Slice.sliceAdjust
  rfl
theorem back_places (n : Nat) : Builtin.Slice.slicePlaces ((n : Int) - 1) (-1) (-1) = n := by
  unfold Builtin.Slice.slicePlaces
  rw [if_neg (by decide)]
  have e : (-(-1 : Int)) = 1 := by decide
  rw [e, Int.ediv_one]
  split <;> omega
theorem fm_congr {α β : Type} {f g : α → Option β} : ∀ (l : List α), (∀ x ∈ l, f x = g x) → l.filterMap f = l.filterMap g
  | [], _ => rfl
  | x :: r, h => by rw [List.filterMap_cons, List.filterMap_cons, h x List.mem_cons_self, fm_congr r fun y hy => h y (List.mem_cons_of_mem _ hy)]
theorem back_pick (xs : Array Value) : ((List.range xs.size).filterMap fun (k : Nat) => xs[(((xs.size : Nat) : Int) - 1 + (k : Int) * (-1)).toNat]?).toArray = xs.toList.reverse.toArray := by
  have e : (List.range xs.size).filterMap (fun (k : Nat) => xs[(((xs.size : Nat) : Int) - 1 + (k : Int) * (-1)).toNat]?) = ((List.range xs.size).map fun k => xs.size - 1 - k).filterMap (xs[·]?) := by
    rw [List.filterMap_map]
    refine fm_congr _ fun k hk => ?_
    have h := List.mem_range.mp hk
    show xs[_]? = xs[xs.size - 1 - k]?
    congr 1
    omega
  rw [e, PySem.W.krv_range, List.filterMap_reverse, PySem.W.krv_all]
theorem sliceApplied_back {sl : Addr} {vs : Value} {n : Nat} {Q : Int × Int × Nat → Shared → Prop} (hs : s.heap.IsSliceOf sl .none .none vs) (ps : IsPart vs (some (-1)))
    (h : Q ((n : Int) - 1, -1, n) s) : wpAny (model prog w) A (Builtin.Slice.sliceApplied (.ref sl) (pure (n : Int))) Q E s := by
  obtain ⟨os, hos, hcs, hds⟩ := id hs
  unfold Builtin.Slice.sliceApplied Builtin.Slice.sliceFields
  refine wpAny_bind (wpAny_bind (wpAny_field hos hds (x := .none) rfl (wpAny_bind (wpAny_field hos hds (x := .none) rfl (wpAny_bind (wpAny_field hos hds (x := vs) rfl (wpAny_pure ?_)))))))
  refine wpAny_bind (slicePart_ ps ?_)
  show wpAny _ _ (if ((-1 : Int) == 0) = true then _ else _) _ _ s
  rw [if_neg (by decide)]
  refine wpAny_bind (slicePart_none (wpAny_bind (slicePart_none (wpAny_bind (wpAny_pure ?_)))))
  show wpAny _ _ (match Builtin.Slice.sliceAdjust none none (-1) (n : Int) with | (lo, hi) => pure (lo, (-1 : Int), Builtin.Slice.slicePlaces lo hi (-1))) _ _ s
  rw [back_adjust]
  show wpAny _ _ (pure ((n : Int) - 1, (-1 : Int), Builtin.Slice.slicePlaces ((n : Int) - 1) (-1) (-1))) _ _ s
  rw [back_places]
  exact wpAny_pure h
theorem getItem_tuple_back {t sl : Addr} {items : Array Value} {vs : Value} {Q : Value → Shared → Prop} (ht : IsTup s.heap t items) (hs : s.heap.IsSliceOf sl .none .none vs) (ps : IsPart vs (some (-1)))
    (h : Q (.ref s.heap.objs.size) { s with heap := s.heap.push { cls := .type "tuple", data := .seq items.toList.reverse.toArray } })
    (hsz : items.size ≤ sizeLine) : wpAny (model prog w) A (getItem (.ref t) (.ref sl)) Q E s := by
  have htake : sizeOk (.seq items.toList.reverse.toArray) := by
    show items.toList.reverse.toArray.size ≤ sizeLine
    rw [List.size_toArray, List.length_reverse, Array.length_toList]
    exact hsz
  obtain ⟨os, hos, hcs, hds⟩ := id hs
  have hTs : s.TypeIs (.ref sl) "slice" := ⟨os, hos, hcs⟩
  unfold getItem
  try with_reducible refine wpAny_holding ?_
  first | refine wpAny_bind (wpAny_pure ?_) | skip
  refine wpAny_bind (wpAny_sequenceKey ht.typeIs (by decide) ?_)
  refine wpAny_bind (wpAny_callSpecial?_slot (name := Str.ofString "__getitem__") ht.typeIs PyProof.Rows.slot_tuple_getitem
    (wpAny_call_entry PyProof.Rows.slot_tuple_getitem ht.typeIs entry_tuple_getitem ?_ (args_tuple_getitem _ _)))
  show wpAny _ _ (Builtin.Tuple.tupleItemsOf (.ref t) >>= _) _ _ s
  refine wpAny_bind (tupleItemsOf_ ht ?_)
  refine wpAny_bind (wpAny_typeOf hTs ?_)
  rw [if_pos (by decide)]
  refine wpAny_bind (sliceApplied_back hs ps ?_)
  have hno : ¬ ((((items.size : Nat) : Int) - 1 == 0 && (-1 : Int) == 1 && items.size == items.size) = true) := by
    rw [show ((-1 : Int) == 1) = false from rfl, Bool.and_false, Bool.false_and]
    exact Bool.false_ne_true
  show wpAny _ _ (if (((items.size : Nat) : Int) - 1 == 0 && (-1 : Int) == 1 && items.size == items.size) = true then _ else _) _ _ s
  rw [if_neg hno, back_pick]
  first
    | exact wpAny_bind (m := Builtin.Tuple.tupleExact _) (wpAny_newObj_type (wpAny_pure ⟨_, rfl, wpAny_pure h⟩) htake)
    | exact wpAny_bind (m := Builtin.Tuple.tupleExact _) (wpAny_newObj_type (wpAny_bind (wpAny_pure (wpAny_pure ⟨_, rfl, wpAny_pure h⟩))) htake)
    | exact wpAny_bind (wpAny_bind (m := Builtin.Tuple.tupleExact _) (wpAny_newObj_type (wpAny_pure (wpAny_pure ⟨_, rfl, wpAny_pure h⟩)) htake))
    | exact wpAny_bind (wpAny_bind (m := Builtin.Tuple.tupleExact _) (wpAny_newObj_type (wpAny_pure ⟨_, rfl, wpAny_pure h⟩) htake))
end
end HT
namespace Sh
open PySem PySem.Spec PyProof.Rows L2 RZ
section
variable {X : Cx}
/-- t[::-1] -/
def tRevT (K : PySem.W.Frag) (te : TE) : TE := fun σ H Q => te σ H fun x H1 => ∃ a xs, x = .ref a ∧ SqT K H1 a xs ∧ ∀ p, H1 p = none → Q (.ref p) (upd H1 p (.tup xs.reverse))
theorem pe_revT {e : Expr} {te : TE} {k : Nat} {p1 p2 p3 pos : Pos} (he : PE X e te) : PE X (.Subscript e (.Slice none none (some (.UnaryOp .USub (.Constant (.int 1) k p1) p2)) p3) pos) (tRevT X.K te) := by
  refine ⟨fun pins s σ H Q I h => ?_⟩
  refine Subscript_ (thn (he.run pins s σ H _ I h) fun v s1 ⟨x, H1, I1, r1, q1⟩ => ?_)
  obtain ⟨a, xs, ex, hx, q⟩ := q1
  subst ex
  cases r1
  have hst : PO X (some (.UnaryOp .USub (.Constant (.int 1) k p1) p2)) (tPart (tUn (rU fun i => .int (-i)) (tC (.int 1)))) := po_some (pe_un un_neg pe_int)
  refine wpAny_Slice (thn (po_none.run pins s1 σ H1 (fun o H2 => o = none ∧ H2 = H1) I1 ⟨rfl, rfl⟩) fun vl s2 ⟨l, H2, I2, pl, el, e2⟩ => ?_)
  subst el e2
  refine thn (po_none.run pins s2 σ H2 (fun o H3 => o = none ∧ H3 = H2) I2 ⟨rfl, rfl⟩) fun vu s3 ⟨u, H3, I3, pu, eu, e3⟩ => ?_
  subst eu e3
  refine thn (hst.run pins s3 σ H3 (fun o H4 => o = some (-1) ∧ H4 = H3) I3 ⟨1, rfl, -1, rfl, rfl, rfl⟩) fun vs s4 ⟨o, H4, I4, ps, eo, e4⟩ => ?_
  subst eo e4
  cases pl
  cases pu
  have I5 : Inv X pins σ H4 { s4 with heap := s4.heap.push { cls := .type "slice", data := .fields #[.none, .none, vs] } } := I4.kept (t' := s4.toks) fun b ob q => Heap.get?_push_of_some _ q
  obtain ⟨its, r, ht, hz⟩ := I5.tuple hx
  have hlen := r.length
  show wpAny (model X.prog X.w) X.A (subscriptTail e (.Slice none none (some (.UnaryOp .USub (.Constant (.int 1) k p1) p2)) p3) (.ref a) (.ref s4.heap.objs.size)) (EP X pins σ Q) X.xe { s4 with heap := s4.heap.push { cls := .type "slice", data := .fields #[.none, .none, vs] } }
  refine tail_any (ops := [.ref a, .ref s4.heap.objs.size]) ht.typeIs (PyProof.Rows.slot_tuple_getitem.lookup) ?_ (by with_unfolding_all rfl)
  refine HT.getItem_tuple_back ht (Heap.IsSliceOf.new _ .none .none vs) ps ?_ (by rw [List.size_toArray]; omega)
  refine ⟨.ref _, _, I5.laid (t' := s4.toks) (o := .tup xs.reverse) (fun b ob q => Heap.get?_push_of_some _ q) (Nat.le_refl _) ?_, rfl, q _ (I5.hok.fresh (Nat.le_refl _))⟩
  exact ⟨by rw [List.length_reverse]; exact hz, its.reverse, r.reverse, ⟨_, Heap.get?_push_size _ rfl, rfl, 0, by simp⟩⟩
/-- sum of a tuple -/
def rSumT (K : PySem.W.Frag) : List V → Hp → VK → Prop := fun vs H Q => ∃ (a : Addr) (ns : List Int), vs = [V.ref a] ∧ SqT K H a (ns.map V.int) ∧ Q (.int ns.sum) H
theorem sumT_raw {prog : Program} {w : World} {A : Around} {E : Value → Shared → Prop} {s : Shared} {l : Addr} {its : List Value} {ns : List Int} {Q : Value → Shared → Prop} (hh : A.handled = none) (hl : IsTup s.heap l its.toArray) (hi : IntsAre its ns)
    (h : ∀ h' tk t', (∀ b o, s.heap.get? b = some o → h'.get? b = some o) → Q (.int ns.sum t') { s with heap := h', toks := tk }) : wpAny (model prog w) A (call (.builtin "sum") [.ref l]) Q E s := by
  obtain ⟨xs, e⟩ := hi.allInts.items
  have hn : numsOf (intItems xs).toList = ns := by rw [← e]; exact hi.numsOf
  rw [nums_intItems] at hn
  rw [e] at hl
  obtain ⟨o, h1, h2, h3⟩ := hl
  have hT : s.heap.IsTuple l (intItems xs) := ⟨o, h1, h2, h3⟩
  have hlt : l < s.heap.objs.size := Heap.lt_size h1
  refine PySem.call_sum_walkG (PySem.wpAny_pyIter_tuple hT ?_)
  refine ⟨_, _, _, _, _, _, numAt xs, rfl, Walks.tuple (A := A.in1) hh _ l (Nat.ne_of_lt hlt) (intItems xs), ⟨⟨_, Heap.get?_push_size _ rfl, rfl, rfl⟩, hT.at fun o e => Heap.get?_push_of_some _ e⟩, fun b hb => ?_, (fun _ _ => intItems_at), fun h' tk t' hk => ?_⟩
  · show b < (s.heap.push _).objs.size
    rw [Heap.size_push]
    rcases List.mem_cons.mp hb with rfl | hb
    · exact Nat.lt_succ_self _
    · rcases List.mem_cons.mp hb with rfl | hb
      · exact Nat.lt_succ_of_lt hlt
      · cases hb
  · have := h h' tk t' fun b o e => by
      refine hk b o (fun hm => ?_) (Heap.get?_push_of_some _ e)
      rcases List.mem_cons.mp hm with e1 | hm
      · exact absurd (e1 ▸ Heap.lt_size e) (Nat.lt_irrefl _)
      · cases hm
    rw [preSum_eq, List.take_of_length_le (by simp [intItems]), hn]
    exact this
theorem cr_sumT (hc : X.calm = true) : CallR X (.builtin "sum") (rSumT X.K) := by
  intro pins s σ H vs us Q I r h
  obtain ⟨a, ns, rfl, hs, q⟩ := h
  obtain ⟨its, rv, hl, _⟩ := I.tuple hs
  rw [Vals.ref1 r]
  exact sumT_raw (I.ok.hd hc) hl rv.ints fun h' tk t' hk => ⟨.int _, H, I.kept hk, ⟨_, rfl⟩, q⟩
/-- a list != [] -/
def rNeNil (K : PySem.W.Frag) : V → V → Hp → VK → Prop := fun x y H Q => ∃ a b xs, x = .ref a ∧ y = .ref b ∧ SqL K H a xs ∧ SqL K H b [] ∧ Q (.bl (!xs.isEmpty)) H
theorem op_neNil (hu : X.A.units + 64 < cLine) : OpR X (compareOp .NotEq) (rNeNil X.K) := by
  intro pins s σ H x y v u Q I rx ry h
  obtain ⟨a, b, xs, rfl, rfl, h1, h2, q⟩ := h
  cases xs with
  | nil => exact op_neD hu pins s σ H _ _ v u Q I rx ry ⟨.list [], .list [], .lst h1 .nil, .lst h2 .nil, by decide, by decide, q⟩
  | cons z zs =>
    cases (show v = Value.ref a from rx)
    cases (show u = Value.ref b from ry)
    obtain ⟨us, r1, l1, _⟩ := I.list h1
    obtain ⟨ws, r2, l2, _⟩ := I.list h2
    cases r1
    cases r2
    obtain ⟨o1, n1, e1, c1, d1, k1⟩ := l1
    obtain ⟨o2, n2, e2, c2, d2, k2⟩ := l2
    exact SeqAt.RcNeAt.lists_lengths ⟨o1, e1, c1, n1, k1⟩ ⟨o2, e2, c2, n2, k2⟩ rfl (by omega) X.prog X.w X.xe _ ⟨.bl true, H, I, rfl, q⟩
/-- tuples of ints -/
def rNeTI (K : PySem.W.Frag) : V → V → Hp → VK → Prop := fun x y H Q => ∃ a b, ∃ xs ys : List Int, x = .ref a ∧ y = .ref b ∧ SqT K H a (xs.map V.int) ∧ SqT K H b (ys.map V.int) ∧ Q (.bl (!decide (xs = ys))) H
theorem dps_ints {K : PySem.W.Frag} {H : Hp} : ∀ ns : List Int, DpAll K H (ns.map V.int) (ns.map PyData.int)
  | [] => .nil
  | n :: r => .cons (.int n) (dps_ints r)
theorem eqvAll_ints : ∀ xs ys : List Int, PyData.eqvAll (xs.map PyData.int) (ys.map PyData.int) = decide (xs = ys)
  | [], [] => by simp [PyData.eqvAll]
  | [], _ :: _ => by simp [PyData.eqvAll]
  | _ :: _, [] => by simp [PyData.eqvAll]
  | x :: xs, y :: ys => by
    rw [List.map_cons, List.map_cons, PyData.eqvAll, eqvAll_ints xs ys, PyData.eqv]
    by_cases h : x = y
    · subst h
      simp
    · simp [h]
theorem shaped_tints (ns : List Int) : SeqAt.shaped (.tuple (ns.map PyData.int)) = true := PySem.W.ke_shaped_ints ns
theorem op_neTI (hu : X.A.units + 64 < cLine) : OpR X (compareOp .NotEq) (rNeTI X.K) := by
  intro pins s σ H x y v u Q I rx ry h
  obtain ⟨a, b, xs, ys, rfl, rfl, h1, h2, q⟩ := h
  refine op_neD hu pins s σ H _ _ v u Q I rx ry ⟨.tuple (xs.map PyData.int), .tuple (ys.map PyData.int), .tup h1 (dps_ints xs), .tup h2 (dps_ints ys), shaped_tints xs, shaped_tints ys, ?_⟩
  show Q (.bl (!PyData.eqvAll (xs.map PyData.int) (ys.map PyData.int))) H
  rw [eqvAll_ints]
  exact q
end
section
variable {K : PySem.W.Frag} {a b d : Addr} {xs ys : List V}
theorem walk_zipT {n : Nat} (hn : n = min xs.length ys.length) : Walk (ItzT K a b) n (fun H => SqT K H a xs ∧ SqT K H b ys) (YPair (fun i => xs[i]?) (fun i => ys[i]?)) := by
  subst hn
  refine ⟨fun i _ hi q => ?_, fun _ q => ⟨xs, ys, q.1, q.2, by omega⟩, fun i H v H' _ q y => ?_⟩
  · have h1 : i < xs.length := by omega
    have h2 : i < ys.length := by omega
    exact ⟨xs, ys, xs[i], ys[i], q.1, q.2, by simp [h1], by simp [h2]⟩
  · obtain ⟨T, x, z, h1, h2, h3, h4, h5⟩ := y
    exact ⟨T, x, z, h1, h2, h3, h4 xs q.1, h5 ys q.2⟩
end
end Sh

/-! a walk over zip of two tuples whose pairs are held by a name: the iterator keeps the pair that it gave -/
namespace ZN
open PySem PySem.Spec PyProof.Rows L2 RZ
/-- the iterator at z: what it keeps, and the flag beside it -/
abbrev ZAt (h : Heap) (z TI TO : Addr) (kept : Value) (flag : Bool) : Prop := h.get? z = some { cls := .type "zip", data := .fields #[kept, .bool flag, .bool false, .ref TI, .ref TO] }
section
variable {prog : Program} {w : World} {A : Around} {E : Value → Shared → Prop} {s : Shared}
theorem alive_ {M : Model} {a : Addr} {Q : Option Obj → Shared → Prop} (h : Q (s.heap.get? a) s) : wpAny M A (PySem.loadIfAlive a) Q E s := fun _ _ _ => by
  unfold PySem.loadIfAlive
  rw [Sem.wp_loadIfAlive]
  simpa using h
variable {z TI TO i1 i2 l1 l2 T : Addr} {k1 k2 : Nat} {xs ys : Array Value} {x y a b : Value} {flag : Bool}
/-- what is the same, whoever holds the pair: the state behind a turn -/
def Behind (s : Shared) (z TI TO i1 i2 l1 l2 : Addr) (k1 k2 : Nat) (x y : Value) (Q : Value → Shared → Prop) : Prop :=
  ∀ h' N T' f', N = s.heap.objs.size → ZAt h' z TI TO (rawInt (T' : Nat)) f' → (∃ u v, IsPair h' TO u v) → h'.IsTupleIter i1 l1 (k1 + 1) → h'.IsTupleIter i2 l2 (k2 + 1) → IsPair h' N x y →
    (∀ c o, c ≠ z → c ≠ TO → c ≠ i1 → c ≠ i2 → s.heap.get? c = some o → h'.get? c = some o) → Q (.ref N) { s with heap := h' }
/-- nobody else holds it -/
theorem free_item (D : ZipApart z TI TO i1 i2 l1 l2) {kept : Value} (hz : ZAt s.heap z TI TO kept flag) (hTI : IsPair s.heap TI (.ref i1) (.ref i2)) (hTO : IsPair s.heap TO a b)
    (hfree : ∀ (Q : Bool → Shared → Prop) (E : Value → Shared → Prop) (B : Around), Q true s → wpAny (model prog w) B (Builtin.SmallTypes.ownedTupleIsFree (.ref z)) Q E s)
    (h1 : s.heap.IsTupleIter i1 l1 k1) (h2 : s.heap.IsTupleIter i2 l2 k2) (hl1 : s.heap.IsTuple l1 xs) (hl2 : s.heap.IsTuple l2 ys) (hx : xs[k1]? = some x) (hy : ys[k2]? = some y) {Q : Value → Shared → Prop}
    (hQ : Behind s z TI TO i1 i2 l1 l2 k1 k2 x y Q) : wpAny (model prog w) A (Builtin.«zip.__next__» ⟨[.ref z], []⟩) (fun fin s' => ∃ v, fin = .done (.ret v) ∧ Q v s') E s := by
  show wpAny _ _ (field (.ref z) 2 >>= _) _ _ _; refine wpAny_bind (wpAny_field hz rfl (x := .bool false) rfl ?_)
  show wpAny _ _ (field (.ref z) 3 >>= _) _ _ _; refine wpAny_bind (wpAny_field hz rfl (x := .ref TI) rfl ?_); refine wpAny_bind (wpAny_seqItems hTI rfl ?_)
  show wpAny _ _ (Builtin.SmallTypes.ownedTupleIsFree (.ref z) >>= _) _ _ _; refine wpAny_bind (hfree _ _ _ ?_)
  simp only [if_true]; refine wpAny_bind (wpAny_rule ?_); refine wpAny_bind (wpAny_field hz rfl (x := .ref TO) rfl ?_)
  refine wpAny_bind (wpAny_setField_rec hz (by simp) fun m1 z1 b1 => ?_); replace z1 : ZAt m1 z TI TO .ellipsis flag := z1
  refine wpAny_bind ?_; simp only [List.zipIdx_cons, List.zipIdx_nil, List.forIn_cons, List.forIn_nil]
  refine wpAny_bind (wpAny_bind (wpAny_onRaise ?_)); show wpAny _ _ (Builtin.SmallTypes.nextOf (.ref i1) >>= _) _ _ _
  refine wpAny_bind (nextOf_tuple_item (h1.extBut b1.extBut D.i1z) (hl1.extBut b1.extBut D.l1z) hx fun m2 g1 b2 => wpAny_pure ?_)
  have o2 : IsPair m2 TO a b := b2.extBut _ _ D.TOi1 (b1.extBut _ _ D.TOz hTO)
  refine wpAny_bind (wpAny_seqItems o2 rfl ?_); refine wpAny_bind (wpAny_updateSeq_pair o2 fun m3 o3 b3 => ?_); replace o3 : IsPair m3 TO x b := o3
  refine wpAny_bind (wpAny_letGo (wpAny_pure ?_)); refine wpAny_bind (wpAny_bind (wpAny_onRaise ?_))
  show wpAny _ _ (Builtin.SmallTypes.nextOf (.ref i2) >>= _) _ _ _
  refine wpAny_bind (nextOf_tuple_item (((h2.extBut b1.extBut D.i2z).extBut b2.extBut D.i12.symm).extBut b3.extBut D.TOi2.symm) (((hl2.extBut b1.extBut D.l2z).extBut b2.extBut D.l2i1).extBut b3.extBut D.l2TO) hy fun m4 g2 b4 => wpAny_pure ?_)
  have o4 : IsPair m4 TO x b := b4.extBut _ _ D.TOi2 o3
  refine wpAny_bind (wpAny_seqItems o4 rfl ?_); refine wpAny_bind (wpAny_updateSeq_pair o4 fun m5 o5 b5 => ?_); replace o5 : IsPair m5 TO x y := o5
  refine wpAny_bind (wpAny_letGo (wpAny_pure (wpAny_pure ?_))); refine wpAny_bind (wpAny_seqItems o5 rfl ?_); refine wpAny_bind (wpAny_newTuple ?_)
  have size5 : m5.objs.size = s.heap.objs.size := by rw [b5.1, b4.1, b3.1, b2.1, b1.1]
  have z5 : ZAt m5 z TI TO .ellipsis flag := b5.extBut _ _ D.TOz.symm (b4.extBut _ _ D.i2z.symm (b3.extBut _ _ D.TOz.symm (b2.extBut _ _ D.i1z.symm z1)))
  have keep5 : ∀ c o, c ≠ z → c ≠ TO → c ≠ i1 → c ≠ i2 → s.heap.get? c = some o → m5.get? c = some o := fun c o c1 c2 c3 c4 e => b5.extBut _ _ c2 (b4.extBut _ _ c4 (b3.extBut _ _ c2 (b2.extBut _ _ c3 (b1.extBut _ _ c1 e))))
  have g15 : m5.IsTupleIter i1 l1 (k1 + 1) := ((g1.extBut b3.extBut D.TOi1.symm).extBut b4.extBut D.i12).extBut b5.extBut D.TOi1.symm
  have g25 : m5.IsTupleIter i2 l2 (k2 + 1) := g2.extBut b5.extBut D.TOi2.symm
  have zlt : z < m5.objs.size := Heap.lt_size z5
  show wpAny _ _ (Builtin.SmallTypes.ownedTupleHandOut (.ref z) (.ref m5.objs.size) >>= _) _ _ _
  refine wpAny_bind ?_; unfold Builtin.SmallTypes.ownedTupleHandOut
  have z6 : ZAt (m5.push { cls := .type "tuple", data := .seq #[x, y] }) z TI TO .ellipsis flag := Heap.get?_push_of_some _ z5
  refine wpAny_bind (wpAny_setField_rec z6 (by simp) fun m7 z7 b7 => ?_); replace z7 : ZAt m7 z TI TO (rawInt m5.objs.size) flag := z7
  refine wpAny_setField_rec z7 (by simp) fun m8 z8 b8 => ?_; replace z8 : ZAt m8 z TI TO (rawInt m5.objs.size) false := z8
  have up : ∀ c o, c ≠ z → m5.get? c = some o → m8.get? c = some o := fun c o c1 e => b8.extBut _ _ c1 (b7.extBut _ _ c1 (Heap.get?_push_of_some _ e))
  have T8 : IsPair m8 m5.objs.size x y := b8.extBut _ _ (Nat.ne_of_gt zlt) (b7.extBut _ _ (Nat.ne_of_gt zlt) (Heap.get?_push_size _ rfl))
  refine wpAny_pure ⟨_, rfl, ?_⟩; show Q (.ref m5.objs.size) _
  exact hQ m8 m5.objs.size m5.objs.size false size5 z8 ⟨_, _, up _ _ D.TOz o5⟩ (g15.at fun o e => up _ o D.i1z e) (g25.at fun o e => up _ o D.i2z e) T8 fun c o c1 c2 c3 c4 e => up c o c1 (keep5 c o c1 c2 c3 c4 e)
theorem not_free {ob : Obj} {B : Around} (hz : ZAt s.heap z TI TO (rawInt (T : Nat)) flag) (hal : s.heap.get? T = some ob) {Q : Bool → Shared → Prop}
    (h : ∀ m1 : Heap, ZAt m1 z TI TO (rawInt (T : Nat)) true → m1.objs.size = s.heap.objs.size → (∀ c o, c ≠ z → s.heap.get? c = some o → m1.get? c = some o) → Q false { s with heap := m1 }) :
    wpAny (model prog w) B (Builtin.SmallTypes.ownedTupleIsFree (.ref z)) Q E s := by
  unfold Builtin.SmallTypes.ownedTupleIsFree
  refine wpAny_bind (wpAny_field hz rfl (x := rawInt T) rfl ?_)
  show wpAny _ _ (PySem.loadIfAlive ((T : Int).toNat) >>= _) _ _ _
  refine wpAny_bind (alive_ ?_)
  rw [show ((T : Nat) : Int).toNat = T from rfl, hal]
  show wpAny _ _ (field (.ref z) 1 >>= _) _ _ _
  refine wpAny_bind (wpAny_field hz rfl (x := .bool flag) rfl ?_)
  cases flag with
  | true =>
    show wpAny _ _ (pure false) _ _ _
    exact wpAny_pure (h s.heap hz rfl fun _ _ _ e => e)
  | false =>
    show wpAny _ _ (setField (.ref z) 1 (.bool true) >>= _) _ _ _
    exact wpAny_bind (wpAny_setField_rec hz (by simp) fun m1 z1 b1 => wpAny_pure (h m1 z1 b1.1 fun c o c1 e => b1.extBut _ _ c1 e))
theorem gone_free {B : Around} (hz : ZAt s.heap z TI TO (rawInt (T : Nat)) flag) (hal : s.heap.get? T = none) {Q : Bool → Shared → Prop} (h : Q true s) :
    wpAny (model prog w) B (Builtin.SmallTypes.ownedTupleIsFree (.ref z)) Q E s := by
  unfold Builtin.SmallTypes.ownedTupleIsFree
  refine wpAny_bind (wpAny_field hz rfl (x := rawInt T) rfl ?_)
  show wpAny _ _ (PySem.loadIfAlive ((T : Int).toNat) >>= _) _ _ _
  refine wpAny_bind (alive_ ?_)
  rw [show ((T : Nat) : Int).toNat = T from rfl, hal]
  exact wpAny_pure h
theorem none_free {B : Around} (hz : ZAt s.heap z TI TO .none flag) {Q : Bool → Shared → Prop} (h : Q true s) : wpAny (model prog w) B (Builtin.SmallTypes.ownedTupleIsFree (.ref z)) Q E s := by
  unfold Builtin.SmallTypes.ownedTupleIsFree
  exact wpAny_bind (wpAny_field hz rfl (x := .none) rfl (wpAny_pure h))
/-- the name holds it still: a new pair, the old one stays with the iterator -/
theorem held_item (D : ZipApart z TI TO i1 i2 l1 l2) {ob : Obj} (hz : ZAt s.heap z TI TO (rawInt (T : Nat)) flag) (hal : s.heap.get? T = some ob) (hTI : IsPair s.heap TI (.ref i1) (.ref i2)) (hTO : IsPair s.heap TO a b)
    (h1 : s.heap.IsTupleIter i1 l1 k1) (h2 : s.heap.IsTupleIter i2 l2 k2) (hl1 : s.heap.IsTuple l1 xs) (hl2 : s.heap.IsTuple l2 ys) (hx : xs[k1]? = some x) (hy : ys[k2]? = some y) {Q : Value → Shared → Prop}
    (hQ : Behind s z TI TO i1 i2 l1 l2 k1 k2 x y Q) : wpAny (model prog w) A (Builtin.«zip.__next__» ⟨[.ref z], []⟩) (fun fin s' => ∃ v, fin = .done (.ret v) ∧ Q v s') E s := by
  show wpAny _ _ (field (.ref z) 2 >>= _) _ _ _; refine wpAny_bind (wpAny_field hz rfl (x := .bool false) rfl ?_)
  show wpAny _ _ (field (.ref z) 3 >>= _) _ _ _; refine wpAny_bind (wpAny_field hz rfl (x := .ref TI) rfl ?_); refine wpAny_bind (wpAny_seqItems hTI rfl ?_)
  show wpAny _ _ (Builtin.SmallTypes.ownedTupleIsFree (.ref z) >>= _) _ _ _
  refine wpAny_bind (not_free hz hal fun m1 z1 sz1 kp1 => ?_)
  have t1 : m1.IsTupleIter i1 l1 k1 := h1.at fun o e => kp1 _ o D.i1z e
  have t2 : m1.IsTupleIter i2 l2 k2 := h2.at fun o e => kp1 _ o D.i2z e
  have u1 : m1.IsTuple l1 xs := hl1.at fun o e => kp1 _ o D.l1z e
  have u2 : m1.IsTuple l2 ys := hl2.at fun o e => kp1 _ o D.l2z e
  simp only [Bool.false_eq_true, if_false]
  refine wpAny_bind ?_
  simp only [List.forIn_toArray, List.forIn_cons, List.forIn_nil]
  refine wpAny_bind (wpAny_bind (wpAny_holding ?_))
  show wpAny _ _ (Builtin.SmallTypes.nextOf (.ref i1) >>= _) _ _ _
  refine wpAny_bind (nextOf_tuple_item t1 u1 hx fun m2 g1 b2 => wpAny_pure ?_)
  refine wpAny_pure ?_
  refine wpAny_bind (wpAny_bind (wpAny_holding ?_))
  show wpAny _ _ (Builtin.SmallTypes.nextOf (.ref i2) >>= _) _ _ _
  refine wpAny_bind (nextOf_tuple_item (t2.extBut b2.extBut D.i12.symm) (u2.extBut b2.extBut D.l2i1) hy fun m3 g2 b3 => wpAny_pure ?_)
  refine wpAny_pure (wpAny_pure ?_)
  show wpAny _ _ (newTuple [x, y] >>= _) _ _ _
  refine wpAny_bind (wpAny_newTuple ?_)
  refine wpAny_pure ⟨_, rfl, ?_⟩
  have sz3 : m3.objs.size = s.heap.objs.size := by rw [b3.1, b2.1, sz1]
  have z3 : ZAt m3 z TI TO (rawInt (T : Nat)) true := b3.extBut _ _ D.i2z.symm (b2.extBut _ _ D.i1z.symm z1)
  have k3 : ∀ c o, c ≠ z → c ≠ TO → c ≠ i1 → c ≠ i2 → s.heap.get? c = some o → m3.get? c = some o := fun c o c1 _ c3 c4 e => b3.extBut _ _ c4 (b2.extBut _ _ c3 (kp1 _ _ c1 e))
  have o3 : IsPair m3 TO a b := b3.extBut _ _ D.TOi2 (b2.extBut _ _ D.TOi1 (kp1 _ _ D.TOz hTO))
  have g13 : m3.IsTupleIter i1 l1 (k1 + 1) := g1.extBut b3.extBut D.i12
  exact hQ (m3.push { cls := .type "tuple", data := .seq #[x, y] }) m3.objs.size T true sz3 (Heap.get?_push_of_some _ z3) ⟨_, _, Heap.get?_push_of_some _ o3⟩ (g13.at fun o e => Heap.get?_push_of_some _ e) (g2.at fun o e => Heap.get?_push_of_some _ e)
    (Heap.get?_push_size _ rfl) fun c o c1 c2 c3 c4 e => Heap.get?_push_of_some _ (k3 c o c1 c2 c3 c4 e)
/-- what an end leaves -/
def Ended (s : Shared) (z TO i1 i2 : Addr) (E : Value → Shared → Prop) : Prop :=
  ∀ h' e, (∀ c o, c ≠ z → c ≠ TO → c ≠ i1 → c ≠ i2 → s.heap.get? c = some o → h'.get? c = some o) → (∃ o, h'.get? e = some o ∧ o.cls = .type "StopIteration") → E (.ref e) { s with heap := h' }
theorem free_end (hh : A.handled = none) (D : ZipApart z TI TO i1 i2 l1 l2) {kept : Value} (hz : ZAt s.heap z TI TO kept flag) (hTI : IsPair s.heap TI (.ref i1) (.ref i2)) (hTO : IsPair s.heap TO a b)
    (hfree : ∀ (Q : Bool → Shared → Prop) (E : Value → Shared → Prop) (B : Around), Q true s → wpAny (model prog w) B (Builtin.SmallTypes.ownedTupleIsFree (.ref z)) Q E s)
    (h1 : s.heap.IsTupleIter i1 l1 k1) (h2 : s.heap.IsTupleIter i2 l2 k2) (hl1 : s.heap.IsTuple l1 xs) (hl2 : s.heap.IsTuple l2 ys) (hend : xs[k1]? = none ∨ ys[k2]? = none) {Q : Fin → Shared → Prop}
    (hE : Ended s z TO i1 i2 E) : wpAny (model prog w) A (Builtin.«zip.__next__» ⟨[.ref z], []⟩) Q E s := by
  show wpAny _ _ (field (.ref z) 2 >>= _) _ _ _; refine wpAny_bind (wpAny_field hz rfl (x := .bool false) rfl ?_)
  show wpAny _ _ (field (.ref z) 3 >>= _) _ _ _; refine wpAny_bind (wpAny_field hz rfl (x := .ref TI) rfl ?_); refine wpAny_bind (wpAny_seqItems hTI rfl ?_)
  show wpAny _ _ (Builtin.SmallTypes.ownedTupleIsFree (.ref z) >>= _) _ _ _; refine wpAny_bind (hfree _ _ _ ?_)
  simp only [if_true]; refine wpAny_bind (wpAny_rule ?_); refine wpAny_bind (wpAny_field hz rfl (x := .ref TO) rfl ?_)
  refine wpAny_bind (wpAny_setField_rec hz (by simp) fun m1 z1 b1 => ?_); replace z1 : ZAt m1 z TI TO .ellipsis flag := z1
  refine wpAny_bind ?_; simp only [List.zipIdx_cons, List.zipIdx_nil, List.forIn_cons, List.forIn_nil]
  refine wpAny_bind (wpAny_bind (wpAny_onRaise ?_)); show wpAny _ _ (Builtin.SmallTypes.nextOf (.ref i1) >>= _) _ _ _
  cases hx : xs[k1]? with
  | none =>
    refine wpAny_bind (nextOf_tuple_end hh (h1.extBut b1.extBut D.i1z) (hl1.extBut b1.extBut D.l1z) hx fun m2 e b2 he => ?_)
    obtain ⟨oe, hoe, hce⟩ := he
    have z2 : ZAt m2 z TI TO .ellipsis flag := b2 _ _ D.i1z.symm z1
    have hez : e ≠ z := fun q => by subst q; rw [z2] at hoe; cases hoe; simp at hce
    exact wpAny_setField_rec z2 (by simp) fun m3 _ b3 => hE m3 e (fun c o c1 _ c3 _ q => b3.extBut _ _ c1 (b2 _ _ c3 (b1.extBut _ _ c1 q))) ⟨oe, b3.extBut _ _ hez hoe, hce⟩
  | some x =>
    have hy : ys[k2]? = none := by rcases hend with h | h; rw [hx] at h; cases h; exact h
    refine wpAny_bind (nextOf_tuple_item (h1.extBut b1.extBut D.i1z) (hl1.extBut b1.extBut D.l1z) hx fun m2 g1 b2 => wpAny_pure ?_)
    have o2 : IsPair m2 TO a b := b2.extBut _ _ D.TOi1 (b1.extBut _ _ D.TOz hTO)
    refine wpAny_bind (wpAny_seqItems o2 rfl ?_); refine wpAny_bind (wpAny_updateSeq_pair o2 fun m3 o3 b3 => ?_)
    refine wpAny_bind (wpAny_letGo (wpAny_pure ?_)); refine wpAny_bind (wpAny_bind (wpAny_onRaise ?_))
    show wpAny _ _ (Builtin.SmallTypes.nextOf (.ref i2) >>= _) _ _ _
    refine wpAny_bind (nextOf_tuple_end hh (((h2.extBut b1.extBut D.i2z).extBut b2.extBut D.i12.symm).extBut b3.extBut D.TOi2.symm) (((hl2.extBut b1.extBut D.l2z).extBut b2.extBut D.l2i1).extBut b3.extBut D.l2TO) hy fun m4 e b4 he => ?_)
    obtain ⟨oe, hoe, hce⟩ := he
    have z4 : ZAt m4 z TI TO .ellipsis flag := b4 _ _ D.i2z.symm (b3.extBut _ _ D.TOz.symm (b2.extBut _ _ D.i1z.symm z1))
    have hez : e ≠ z := fun q => by subst q; rw [z4] at hoe; cases hoe; simp at hce
    exact wpAny_setField_rec z4 (by simp) fun m5 _ b5 => hE m5 e (fun c o c1 c2 c3 c4 q => b5.extBut _ _ c1 (b4 _ _ c4 (b3.extBut _ _ c2 (b2.extBut _ _ c3 (b1.extBut _ _ c1 q))))) ⟨oe, b5.extBut _ _ hez hoe, hce⟩
theorem held_end (hh : A.handled = none) (D : ZipApart z TI TO i1 i2 l1 l2) {ob : Obj} (hz : ZAt s.heap z TI TO (rawInt (T : Nat)) flag) (hal : s.heap.get? T = some ob) (hTI : IsPair s.heap TI (.ref i1) (.ref i2))
    (h1 : s.heap.IsTupleIter i1 l1 k1) (h2 : s.heap.IsTupleIter i2 l2 k2) (hl1 : s.heap.IsTuple l1 xs) (hl2 : s.heap.IsTuple l2 ys) (hend : xs[k1]? = none ∨ ys[k2]? = none) {Q : Fin → Shared → Prop}
    (hE : Ended s z TO i1 i2 E) : wpAny (model prog w) A (Builtin.«zip.__next__» ⟨[.ref z], []⟩) Q E s := by
  show wpAny _ _ (field (.ref z) 2 >>= _) _ _ _; refine wpAny_bind (wpAny_field hz rfl (x := .bool false) rfl ?_)
  show wpAny _ _ (field (.ref z) 3 >>= _) _ _ _; refine wpAny_bind (wpAny_field hz rfl (x := .ref TI) rfl ?_); refine wpAny_bind (wpAny_seqItems hTI rfl ?_)
  show wpAny _ _ (Builtin.SmallTypes.ownedTupleIsFree (.ref z) >>= _) _ _ _
  refine wpAny_bind (not_free hz hal fun m1 z1 sz1 kp1 => ?_)
  have t1 : m1.IsTupleIter i1 l1 k1 := h1.at fun o e => kp1 _ o D.i1z e
  have t2 : m1.IsTupleIter i2 l2 k2 := h2.at fun o e => kp1 _ o D.i2z e
  have u1 : m1.IsTuple l1 xs := hl1.at fun o e => kp1 _ o D.l1z e
  have u2 : m1.IsTuple l2 ys := hl2.at fun o e => kp1 _ o D.l2z e
  simp only [Bool.false_eq_true, if_false]
  refine wpAny_bind ?_
  simp only [List.forIn_toArray, List.forIn_cons, List.forIn_nil]
  refine wpAny_bind (wpAny_bind (wpAny_holding ?_))
  show wpAny _ _ (Builtin.SmallTypes.nextOf (.ref i1) >>= _) _ _ _
  cases hx : xs[k1]? with
  | none =>
    refine wpAny_bind (nextOf_tuple_end hh t1 u1 hx fun m2 e b2 he => ?_)
    exact hE m2 e (fun c o c1 _ c3 _ q => b2 _ _ c3 (kp1 _ _ c1 q)) he
  | some x =>
    have hy : ys[k2]? = none := by rcases hend with h | h; rw [hx] at h; cases h; exact h
    refine wpAny_bind (nextOf_tuple_item t1 u1 hx fun m2 g1 b2 => wpAny_pure ?_)
    refine wpAny_pure ?_
    refine wpAny_bind (wpAny_bind (wpAny_holding ?_))
    show wpAny _ _ (Builtin.SmallTypes.nextOf (.ref i2) >>= _) _ _ _
    refine wpAny_bind (nextOf_tuple_end hh (t2.extBut b2.extBut D.i12.symm) (u2.extBut b2.extBut D.l2i1) hy fun m3 e b3 he => ?_)
    exact hE m3 e (fun c o c1 _ c3 c4 q => b3 _ _ c4 (b2.extBut _ _ c3 (kp1 _ _ c1 q))) he
/-- what the iterator keeps between two turns -/
def Keeps (h : Heap) (z TI TO : Addr) : Prop := (∃ f, ZAt h z TI TO .none f) ∨ ∃ (T : Nat) (f : Bool), ZAt h z TI TO (rawInt T) f
theorem Keeps.at {h : Heap} (k : Keeps h z TI TO) : ∃ v f, ZAt h z TI TO v f := by
  rcases k with ⟨f, k⟩ | ⟨T, f, k⟩
  · exact ⟨_, f, k⟩
  · exact ⟨_, f, k⟩
theorem next_item (D : ZipApart z TI TO i1 i2 l1 l2) (hz : Keeps s.heap z TI TO) (hTI : IsPair s.heap TI (.ref i1) (.ref i2)) (hTO : IsPair s.heap TO a b)
    (h1 : s.heap.IsTupleIter i1 l1 k1) (h2 : s.heap.IsTupleIter i2 l2 k2) (hl1 : s.heap.IsTuple l1 xs) (hl2 : s.heap.IsTuple l2 ys) (hx : xs[k1]? = some x) (hy : ys[k2]? = some y) {Q : Option Value → Shared → Prop}
    (hQ : Behind s z TI TO i1 i2 l1 l2 k1 k2 x y fun v s' => Q (some v) s') : wpAny (model prog w) A (pyNext (.ref z)) Q E s := by
  obtain ⟨v, f, za⟩ := hz.at
  have hT : s.TypeIs (.ref z) "zip" := ⟨_, za, rfl⟩
  unfold pyNext
  refine wpAny_bind (wpAny_attempt (wpAny_callSpecial?_slot (name := Str.ofString "__next__") hT F.slot_zip_next (wpAny_call_entry F.slot_zip_next hT F.entry_zip_next ?_ (F.args_zip_next_1 _))))
  have hQ' : Behind s z TI TO i1 i2 l1 l2 k1 k2 x y fun v s' => wpAny (model prog w) A (pure (some v)) Q E s' := fun h' N T' f' e1 e2 e3 e4 e5 e6 e7 => wpAny_pure (hQ h' N T' f' e1 e2 e3 e4 e5 e6 e7)
  rcases hz with ⟨f, k⟩ | ⟨T, f, k⟩
  · exact free_item D k hTI hTO (fun Q E B h => none_free k h) h1 h2 hl1 hl2 hx hy hQ'
  · cases hal : s.heap.get? T with
    | none => exact free_item D k hTI hTO (fun Q E B h => gone_free k hal h) h1 h2 hl1 hl2 hx hy hQ'
    | some ob => exact held_item D k hal hTI hTO h1 h2 hl1 hl2 hx hy hQ'
theorem next_end (hh : A.handled = none) (D : ZipApart z TI TO i1 i2 l1 l2) (hz : Keeps s.heap z TI TO) (hTI : IsPair s.heap TI (.ref i1) (.ref i2)) (hTO : IsPair s.heap TO a b)
    (h1 : s.heap.IsTupleIter i1 l1 k1) (h2 : s.heap.IsTupleIter i2 l2 k2) (hl1 : s.heap.IsTuple l1 xs) (hl2 : s.heap.IsTuple l2 ys) (hend : xs[k1]? = none ∨ ys[k2]? = none) {Q : Option Value → Shared → Prop}
    (hQ : ∀ h', (∀ c o, c ≠ z → c ≠ TO → c ≠ i1 → c ≠ i2 → s.heap.get? c = some o → h'.get? c = some o) → Q none { s with heap := h' }) : wpAny (model prog w) A (pyNext (.ref z)) Q E s := by
  obtain ⟨v, f, za⟩ := hz.at
  have hT : s.TypeIs (.ref z) "zip" := ⟨_, za, rfl⟩
  have fin : ∀ h' e, (∀ c o, c ≠ z → c ≠ TO → c ≠ i1 → c ≠ i2 → s.heap.get? c = some o → h'.get? c = some o) → (∃ o, h'.get? e = some o ∧ o.cls = .type "StopIteration") →
      wpAny (model prog w) A (isInstance (.ref e) (.type "StopIteration")) (fun r s' => r = true ∧ Q none s') E { s with heap := h' } := fun h' e hk ⟨o, ho, hc⟩ =>
    wpAny_isInstance (T := "StopIteration") (b := true) ⟨o, ho, hc⟩ isSubtype_stop ⟨rfl, hQ _ hk⟩
  unfold pyNext
  refine wpAny_bind (wpAny_attempt (wpAny_callSpecial?_slot (name := Str.ofString "__next__") hT F.slot_zip_next (wpAny_call_entry F.slot_zip_next hT F.entry_zip_next ?_ (F.args_zip_next_1 _))))
  have go : Ended s z TO i1 i2 fun e s' => wpAny (model prog w) A (do if ← isInstance e (.type "StopIteration") then pure none else throw e) Q E s' := fun h' e hk he => wpAny_bind (wpAny_mono (fin h' e hk he) (fun r s' hr => by obtain ⟨rfl, q⟩ := hr; exact wpAny_pure q) fun _ _ q => q)
  rcases hz with ⟨f, k⟩ | ⟨T, f, k⟩
  · exact free_end (A := A.in1) hh D k hTI hTO (fun Q E B h => none_free k h) h1 h2 hl1 hl2 hend go
  · cases hal : s.heap.get? T with
    | none => exact free_end (A := A.in1) hh D k hTI hTO (fun Q E B h => gone_free k hal h) h1 h2 hl1 hl2 hend go
    | some ob => exact held_end (A := A.in1) hh D k hal hTI h1 h2 hl1 hl2 hend go
end
theorem turn_zipTN {P : Program} {w : World} {K : PySem.W.Frag} {x : Str} {tpos : Pos} {a b z TI TO i1 i2 : Addr} (D : ZipApart z TI TO i1 i2 a b) :
    Turn P w K (.Name x tpos) (ItzT K a b) [z, TI, TO, i1, i2] z (fun i h => Keeps h z TI TO ∧ IsPair h TI (.ref i1) (.ref i2) ∧ (∃ x y, IsPair h TO x y) ∧ h.IsTupleIter i1 a i ∧ h.IsTupleIter i2 b i) := by
  have five : ∀ c, c ∈ [z, TI, TO, i1, i2] → c = z ∨ c = TI ∨ c = TO ∨ c = i1 ∨ c = i2 := fun c hc => by simpa using hc
  refine ⟨by simp, fun i h st c hc => ?_, fun i h h' st k => ?_, ?_, ?_, ?_⟩
  · obtain ⟨hz, hTI, ⟨x, y, hTO⟩, ⟨o1, e1, _, d1⟩, ⟨o2, e2, _, d2⟩⟩ := st
    obtain ⟨v, f, za⟩ := hz.at
    rcases five c hc with q | q | q | q | q
    · rw [q]; exact ⟨_, za, fun v q => nomatch q⟩
    · rw [q]; exact ⟨_, hTI, fun v q => nomatch q⟩
    · rw [q]; exact ⟨_, hTO, fun v q => nomatch q⟩
    · rw [q]; exact ⟨o1, e1, fun v q => by rw [d1] at q; cases q⟩
    · rw [q]; exact ⟨o2, e2, fun v q => by rw [d2] at q; cases q⟩
  · obtain ⟨hz, hTI, ⟨x, y, hTO⟩, h1, h2⟩ := st
    refine ⟨?_, k TI (by simp) _ hTI, ⟨x, y, k TO (by simp) _ hTO⟩, h1.at fun o q => k i1 (by simp) o q, h2.at fun o q => k i2 (by simp) o q⟩
    rcases hz with ⟨f, za⟩ | ⟨T, f, za⟩
    · exact .inl ⟨f, k z (by simp) _ za⟩
    · exact .inr ⟨T, f, k z (by simp) _ za⟩
  · intro X hP hw hK hc i pins s σ H E I hf st hg
    subst hP hw hK
    obtain ⟨hz, hTI, ⟨x0, y0, hTO⟩, h1, h2⟩ := st
    obtain ⟨xs, ys, x, y, hqx, hqy, hx, hy⟩ := hg
    obtain ⟨its, rv, p, _⟩ := I.tuple hqx
    obtain ⟨its2, rv2, p2, _⟩ := I.tuple hqy
    obtain ⟨u, hu, ru⟩ := rv.get hx
    obtain ⟨u2, hu2, ru2⟩ := rv2.get hy
    obtain ⟨v0, f0, za⟩ := hz.at
    have zl : z < s.heap.objs.size := Heap.lt_size za
    refine next_item D hz hTI hTO h1 h2 p p2 (x := u) (y := u2) (by simpa using hu) (by simpa using hu2) fun h' N T' f' eN z' TO' h1' h2' hT hk => ?_
    subst eN
    refine ⟨_, rfl, ?_⟩
    show wpAny _ _ (pure ()) _ _ _
    have new : ObjOk X.prog X.w (upd H s.heap.objs.size (.tup [x, y])) h' s.heap.objs.size (.tup [x, y]) := ⟨by show 2 ≤ sizeLine; decide, [u, u2], .cons ru (.cons ru2 .nil), ⟨_, hT, rfl, _, rfl⟩⟩
    have I1 : Inv X pins σ (upd H s.heap.objs.size (.tup [x, y])) { s with heap := h' } :=
      I.turnedNew (t' := s.toks) (ch := [z, TI, TO, i1, i2]) (fun c o hb q => hk c o (fun e => hb (by simp [e])) (fun e => hb (by simp [e])) (fun e => hb (by simp [e])) (fun e => hb (by simp [e])) q) hf (Nat.le_refl _) new
    refine wpAny_pure ⟨.ref s.heap.objs.size, _, I1, rfl, ⟨_, x, y, rfl, I.hok.fresh (Nat.le_refl _), rfl, fun l hl => by rw [I.tuple_inj hl hqx]; exact hx, fun l hl => by rw [I.tuple_inj hl hqy]; exact hy⟩, ⟨.inr ⟨T', f', z'⟩, ?_, TO', h1', h2'⟩, fun c hcm => ?_⟩
    · exact hk _ _ D.TIz D.TITO D.TIi1 D.TIi2 hTI
    · have hlt : c < s.heap.objs.size := by
        rcases five c hcm with q | q | q | q | q
        · rw [q]; exact zl
        · rw [q]; exact Heap.lt_size hTI
        · rw [q]; exact Heap.lt_size hTO
        · rw [q]; obtain ⟨_, e1, _⟩ := h1; exact Heap.lt_size e1
        · rw [q]; obtain ⟨_, e2, _⟩ := h2; exact Heap.lt_size e2
      rw [upd_ne (Nat.ne_of_lt hlt)]
      exact (hf c hcm).1
  · intro X hP hw hK hc i pins s σ H E I hf st hg
    subst hP hw hK
    obtain ⟨hz, hTI, ⟨x0, y0, hTO⟩, h1, h2⟩ := st
    obtain ⟨xs, ys, hqx, hqy, hend⟩ := hg
    obtain ⟨its, rv, p, _⟩ := I.tuple hqx
    obtain ⟨its2, rv2, p2, _⟩ := I.tuple hqy
    have l1 := rv.length
    have l2 := rv2.length
    have he : its.toArray[i]? = none ∨ its2.toArray[i]? = none := by
      rcases hend with q | q
      · exact .inl (by simp; omega)
      · exact .inr (by simp; omega)
    exact next_end (I.ok.hd hc) D hz hTI hTO h1 h2 p p2 he fun h' hk => ⟨rfl, I.turnedL (t' := s.toks) (ch := [z, TI, TO, i1, i2]) (fun c o hb q => hk c o (fun e => hb (by simp [e])) (fun e => hb (by simp [e])) (fun e => hb (by simp [e])) (fun e => hb (by simp [e])) q) hf⟩
  · intro A i s Q E st h
    obtain ⟨hz, _⟩ := st
    obtain ⟨v, f, za⟩ := hz.at
    have hT : s.TypeIs (.ref z) "zip" := ⟨_, za, rfl⟩
    refine wpAny_pyIter_slot hT F.slot_zip_iter (wpAny_call_entry F.slot_zip_iter hT F.entry_zip_iter ?_ (F.args_zip_iter_1 _))
    show wpAny _ _ (ret (.ref z)) _ _ s
    exact wpAny_pure ⟨_, rfl, "zip", _, hT, F.slot_zip_next.lookup, h⟩
def iZipTN (K : PySem.W.Frag) (ta : TA) : TI := fun σ H R => ta σ H fun vs H1 => ∃ a b xs ys, vs = [.ref a, .ref b] ∧ SqT K H1 a xs ∧ SqT K H1 b ys ∧ R (ItzT K a b) H1
/-- for pair in zip(t, u) -/
theorem pi_zipTN {X : Cx} {e e2 : Expr} {ta : TA} {x : Str} {p pos tpos : Pos} (hg : Gl X "zip") (hm : X.mg "zip" = none) (ha : PA X [e, e2] ta)
    (hs : starEach [e, e2] X.env = (false, eval e X.env) :: starEach [e2] X.env := by rfl) (hpl : (backTo pos (starEach [e2] X.env)).any (·.1) = false := by rfl) :
    PI X (.Name x tpos) (.Call (.Name "zip" p) [e, e2] [] pos) (iZipTN X.K ta) := by
  refine ⟨fun pins s σ H R I h => ?_⟩
  refine Call_ (ld_blt I hg hm PyProof.Rows.boot_zip (PyProof.Rows.callWith_type1 (thn (ha.run pos pins s σ H _ I h) fun us s1 ⟨vs, H1, I1, r1, q1⟩ => ?_) hs hpl))
  obtain ⟨a, b, xs, ys, ex, hqx, hqy, q⟩ := q1
  subst ex
  obtain ⟨u1, u2, rfl, r1, r2⟩ := vals2 r1
  cases r1
  cases r2
  have fresh5 : ∀ c, c ∈ [s1.heap.objs.size + 4, s1.heap.objs.size + 2, s1.heap.objs.size + 3, s1.heap.objs.size, s1.heap.objs.size + 1] → FpOk X pins H1 c := fun c hcm => by
    have hle : s1.heap.objs.size ≤ c := by
      simp only [List.mem_cons, List.not_mem_nil, or_false] at hcm
      omega
    exact I1.fpOk hle (I1.hok.fresh hle)
  obtain ⟨its, rv, p1, _⟩ := I1.tuple hqx
  obtain ⟨its2, rv2, p2, _⟩ := I1.tuple hqy
  obtain ⟨o1, ho1, _⟩ := id p1
  obtain ⟨o2, ho2, _⟩ := id p2
  refine call_zipT p1 p2 fun h' hz hTI hTO h1 h2 hsz hk => wpAny_pyIter_zip hz ?_
  have I2 : Inv X pins σ H1 { s1 with heap := h' } := I1.kept (t' := s1.toks) hk
  exact ⟨s1.heap.objs.size + 4, [s1.heap.objs.size + 4, s1.heap.objs.size + 2, s1.heap.objs.size + 3, s1.heap.objs.size, s1.heap.objs.size + 1], _, _, H1, rfl, I2, turn_zipTN (PySem.W.ktu_apart s1.heap.objs.size a b (Heap.lt_size ho1) (Heap.lt_size ho2)), ⟨.inl ⟨_, hz⟩, hTI, ⟨_, _, hTO⟩, h1, h2⟩, fresh5, q⟩
end ZN

/-! bags: values that are judged, and the sums over pairs -/
namespace Sh
open PySem PySem.Spec PyProof.Rows L2 RZ
section
variable {X : Cx}
def rLenS (K : PySem.W.Frag) : List V → Hp → VK → Prop := fun xs H Q => ∃ p ys, xs = [.ref p] ∧ (SqL K H p ys ∨ SqT K H p ys) ∧ Q (.int ys.length) H
def rTupOf (K : PySem.W.Frag) : List V → Hp → VK → Prop := fun xs H Q => ∃ p ys, xs = [.ref p] ∧ ((SqL K H p ys ∧ ∀ l, H l = none → Q (.ref l) (upd H l (.tup ys))) ∨ (SqT K H p ys ∧ Q (.ref p) H))
def rLstOf (K : PySem.W.Frag) : List V → Hp → VK → Prop := fun xs H Q => ∃ p ys, xs = [.ref p] ∧ (SqL K H p ys ∨ SqT K H p ys) ∧ ∀ l, H l = none → Q (.ref l) (upd H l (.lst ys))
theorem cutV_all (xs : List V) {lo hi : Option Int} (hw : HT.sIx xs.length 0 lo = 0 ∧ HT.sIx xs.length xs.length hi = xs.length) : cutV xs lo hi = xs := by
  unfold cutV
  rw [hw.1, hw.2]
  simp
/-- a slice of a tuple, whichever object it is -/
def rSlW : V → Option Int → Option Int → Hp → VK → Prop := fun x lo hi H Q => ∃ a xs, x = .ref a ∧ H a = some (.tup xs) ∧ ∀ p H', Same H H' → H' p = some (.tup (cutV xs lo hi)) → Q (.ref p) H'
theorem sl_tupW : SlR X rSlW := by
  intro pins s σ H x v vl vu lo hi sl Q I rx hs pl pu h
  obtain ⟨a, xs, rfl, hx, q⟩ := h
  refine sl_tupA pins s σ H _ v vl vu lo hi sl Q I rx hs pl pu ⟨a, xs, rfl, .inl (.inl hx), fun hw => q a H (Same.refl H) ?_, fun _ p hp => q p _ (same_new (Same.refl H) hp) upd_same⟩
  rw [cutV_all xs hw]
  exact hx
/-- two tuples glued, whichever object it is -/
def rCatW : V → V → Hp → VK → Prop := fun x y H Q => ∃ a b xs ys, x = .ref a ∧ y = .ref b ∧ H a = some (.tup xs) ∧ H b = some (.tup ys) ∧ xs.length + ys.length ≤ sizeLine ∧ ∀ p H', Same H H' → H' p = some (.tup (xs ++ ys)) → Q (.ref p) H'
theorem op_catW : OpR X (binaryOp .Add) rCatW := by
  intro pins s σ H x y v u Q I rx ry h
  obtain ⟨a, b, xs, ys, rfl, rfl, ha, hb, hz, q⟩ := h
  refine op_catA pins s σ H _ _ v u Q I rx ry ⟨a, b, xs, ys, rfl, rfl, .inl (.inl ha), .inl (.inl hb), hz, fun e => q b H (Same.refl H) ?_, fun _ e => q a H (Same.refl H) ?_, fun _ _ p hp => q p _ (same_new (Same.refl H) hp) upd_same⟩
  · rw [e, List.nil_append]
    exact hb
  · rw [e, List.append_nil]
    exact ha
end
/-! ### values that are judged -/
def NoTup (H : Hp) (v : V) : Prop := v = .non ∨ (∃ i : Int, v = .int i) ∨ (∃ b, v = .bl b) ∨ (∃ z, v = .str z) ∨ (∃ p xs, v = .ref p ∧ H p = some (.lst xs)) ∨ ∃ p xs, v = .ref p ∧ H p = some (.dK xs)
def Kn (H : Hp) (v : V) : Prop := NoTup H v ∨ ∃ p xs, v = .ref p ∧ H p = some (.tup xs)
def Val (H : Hp) (v : V) : Prop := NoTup H v ∨ ∃ p xs, v = .ref p ∧ H p = some (.tup xs) ∧ xs.length ≤ 1000 ∧ ∀ x ∈ xs, Kn H x
def isB : V → Bool
  | .bl _ => true
  | _ => false
def isI : V → Bool
  | .int _ => true
  | _ => false
theorem NoTup.ty {K : PySem.W.Frag} {H : Hp} {v : V} (h : NoTup H v) : ∃ T, TyX K H v (.type T) ∧ kitB T "tuple" = some false ∧ kitB T "int" = some (isB v || isI v) ∧ kitB T "bool" = some (isB v) := by
  rcases h with rfl | ⟨i, rfl⟩ | ⟨b, rfl⟩ | ⟨z, rfl⟩ | ⟨p, xs, rfl, h⟩ | ⟨p, xs, rfl, h⟩
  · exact ⟨_, .base .non, by decide +kernel, by decide +kernel, by decide +kernel⟩
  · exact ⟨_, .base (.int i), by decide +kernel, (show kitB "int" "int" = some true by decide +kernel), (show kitB "int" "bool" = some false by decide +kernel)⟩
  · exact ⟨_, .base (.bl b), by decide +kernel, (show kitB "bool" "int" = some true by decide +kernel), (show kitB "bool" "bool" = some true by decide +kernel)⟩
  · exact ⟨_, .base (.str z), by decide +kernel, (show kitB "str" "int" = some false by decide +kernel), (show kitB "str" "bool" = some false by decide +kernel)⟩
  · exact ⟨_, .base (.lst h), by decide +kernel, (show kitB "list" "int" = some false by decide +kernel), (show kitB "list" "bool" = some false by decide +kernel)⟩
  · exact ⟨_, .base (.dK h), by decide +kernel, (show kitB "dict" "int" = some false by decide +kernel), (show kitB "dict" "bool" = some false by decide +kernel)⟩
theorem Kn.ty {K : PySem.W.Frag} {H : Hp} {v : V} (h : Kn H v) : ∃ T, TyX K H v (.type T) ∧ kitB T "int" = some (isB v || isI v) ∧ kitB T "bool" = some (isB v) := by
  rcases h with h | ⟨p, xs, rfl, h⟩
  · obtain ⟨T, a, _, b, c⟩ := h.ty (K := K)
    exact ⟨T, a, b, c⟩
  · exact ⟨_, .base (.tup h), (show kitB "tuple" "int" = some false by decide +kernel), (show kitB "tuple" "bool" = some false by decide +kernel)⟩
theorem NoTup.same {H H' : Hp} {v : V} (s : Same H H') (h : NoTup H v) : NoTup H' v := by
  rcases h with h | h | h | h | ⟨p, xs, e, h⟩ | ⟨p, xs, e, h⟩
  · exact .inl h
  · exact .inr (.inl h)
  · exact .inr (.inr (.inl h))
  · exact .inr (.inr (.inr (.inl h)))
  · exact .inr (.inr (.inr (.inr (.inl ⟨p, xs, e, s _ _ h⟩))))
  · exact .inr (.inr (.inr (.inr (.inr ⟨p, xs, e, s _ _ h⟩))))
theorem Kn.same {H H' : Hp} {v : V} (s : Same H H') (h : Kn H v) : Kn H' v := by
  rcases h with h | ⟨p, xs, e, h⟩
  · exact .inl (h.same s)
  · exact .inr ⟨p, xs, e, s _ _ h⟩
theorem Val.same {H H' : Hp} {v : V} (s : Same H H') (h : Val H v) : Val H' v := by
  rcases h with h | ⟨p, xs, e, h, l, k⟩
  · exact .inl (h.same s)
  · exact .inr ⟨p, xs, e, s _ _ h, l, fun x hx => (k x hx).same s⟩
theorem Val.kn {H : Hp} {v : V} (h : Val H v) : Kn H v := by
  rcases h with h | ⟨p, xs, e, h, _⟩
  · exact .inl h
  · exact .inr ⟨p, xs, e, h⟩
theorem kn_int (H : Hp) (i : Int) : Kn H (.int i) := .inl (.inr (.inl ⟨i, rfl⟩))
theorem Flat.no {H : Hp} {v : V} (h : Flat v) : NoTup H v := by
  rcases h with h | h | h | ⟨z, h, _⟩
  · exact .inl h
  · exact .inr (.inl h)
  · exact .inr (.inr (.inl h))
  · exact .inr (.inr (.inr (.inl ⟨z, h⟩)))
theorem Odd.val {H : Hp} {v : V} (h : Odd H v) : Val H v := by
  rcases h with h | ⟨p, xs, e, h, l, k⟩ | ⟨p, e, h⟩ | ⟨p, e, h⟩
  · exact .inl (Flat.no h)
  · refine .inr ⟨p, xs, e, h, by omega, fun x hx => ?_⟩
    rcases k x hx with f | ⟨q, ys, e, hq, _⟩
    · exact .inl (Flat.no f)
    · exact .inr ⟨q, ys, e, hq⟩
  · exact .inl (.inr (.inr (.inr (.inr (.inl ⟨p, _, e, h⟩)))))
  · exact .inl (.inr (.inr (.inr (.inr (.inr ⟨p, _, e, h⟩)))))
theorem not_kept {v : V} (h : (isB v || isI v) = true) : (!isB v) = isI v := by
  cases v <;> first | rfl | exact absurd h Bool.false_ne_true
theorem none_kept {v : V} (h : ¬ (isB v || isI v) = true) : false = isI v := by
  cases v <;> first | rfl | exact absurd rfl h
/-- an entry from low on -/
def entB (low : Int) : V → Bool
  | .int i => decide (low ≤ i)
  | _ => false
def entOk (low : Int) (xs : List V) : Bool := decide (1 ≤ xs.length) && decide (xs.length ≤ 5) && (xs.map (entB low)).all id
/-- has_entries, is_bag, is_wide: what is told of a value -/
def Told (low : Int) (H : Hp) (v : V) (Q : VK) : Prop :=
  (NoTup H v ∧ ∀ H', Same H H' → Q (.bl false) H') ∨ ∃ p xs, v = .ref p ∧ H p = some (.tup xs) ∧ xs.length ≤ 1000 ∧ (∀ x ∈ xs, Kn H x) ∧ ∀ H', Same H H' → Q (.bl (entOk low xs)) H'
def spInt : Sp := fun vs H Q _ => ∃ v, vs = [v] ∧ Kn H v ∧ Q (.bl (isI v)) H
def spEnt : Sp := fun vs H Q _ => ∃ v low, vs = [v, .int low] ∧ Told low H v Q
def spEnt1 (low : Int) : Sp := fun vs H Q _ => ∃ v, vs = [v] ∧ Told low H v Q
/-! ### wide bags -/
def Wide (ns : List Int) : Prop := 1 ≤ ns.length ∧ ns.length ≤ 5 ∧ ∀ n ∈ ns, -1 ≤ n
def fitE (e m : Int) : Bool := decide (m = -1) || (decide (0 ≤ e) && decide (e ≤ m))
def fitsB (ns ms : List Int) : Bool := ((ns.zip ms).map fun p => fitE p.1 p.2).all id
def addE (e m : Int) : Int := if e = -1 ∨ m = -1 then -1 else e + m
def addB (ns ms : List Int) : List Int := (ns.zip ms).map fun p => addE p.1 p.2
theorem ent_ints {low : Int} (ns : List Int) : ((ns.map V.int).map (entB low)).all id = ns.all fun n => decide (low ≤ n) := by
  induction ns with
  | nil => rfl
  | cons n r ih =>
    rw [List.map_cons, List.map_cons, List.all_cons, List.all_cons, ih]
    rfl
theorem Wide.ok {ns : List Int} (h : Wide ns) : entOk (-1) (ns.map V.int) = true := by
  unfold entOk
  rw [ent_ints, List.length_map, decide_eq_true h.1, decide_eq_true h.2.1, Bool.true_and, Bool.true_and, List.all_eq_true]
  exact fun n hn => decide_eq_true (h.2.2 n hn)
/-- two wide bags of one length, and what comes of them -/
def Pair (H : Hp) (vs : List V) (ns ms : List Int) : Prop := ∃ p q, vs = [.ref p, .ref q] ∧ H p = some (.tup (ns.map V.int)) ∧ H q = some (.tup (ms.map V.int)) ∧ Wide ns ∧ Wide ms ∧ ns.length = ms.length
def spPair : Sp := fun vs H Q _ => ∃ ns ms, Pair H vs ns ms ∧ ∀ H', Same H H' → Q .non H'
def spFits : Sp := fun vs H Q _ => ∃ ns ms, Pair H vs ns ms ∧ ∀ H', Same H H' → Q (.bl (fitsB ns ms)) H'
def spAdded : Sp := fun vs H Q _ => ∃ ns ms, Pair H vs ns ms ∧ ∀ p H', Same H H' → H' p = some (.tup ((addB ns ms).map V.int)) → Q (.ref p) H'
theorem ints_kn {H : Hp} {ns : List Int} : ∀ x ∈ ns.map V.int, Kn H x := fun x hx => by
  obtain ⟨n, _, rfl⟩ := List.mem_map.mp hx
  exact kn_int H n
theorem Wide.len {ns : List Int} (h : Wide ns) : (ns.map V.int).length ≤ 1000 := by
  rw [List.length_map]
  have := h.2.1
  omega
end Sh

/-! the law's own looks at bags: what they promise -/
namespace Sh
open PySem PySem.Spec PyProof.Rows L2 RZ
theorem NoTup.die {H H' : Hp} {d : Addr} {v : V} (hd : DieAt H d) (n : NewDie H d H') (h : NoTup H v) : NoTup H' v := by
  rcases h with h | h | h | h | ⟨p, xs, e, h⟩ | ⟨p, xs, e, h⟩
  · exact .inl h
  · exact .inr (.inl h)
  · exact .inr (.inr (.inl h))
  · exact .inr (.inr (.inr (.inl h)))
  · by_cases hp : p = d
    · obtain ⟨a, b, c, rfl⟩ := n
      subst hp
      exact .inr (.inr (.inr (.inr (.inl ⟨_, _, e, upd_same⟩))))
    · exact .inr (.inr (.inr (.inr (.inl ⟨p, xs, e, (n.ne hp).trans h⟩))))
  · have hp : p ≠ d := hd.ne h fun _ _ _ z => by cases z
    exact .inr (.inr (.inr (.inr (.inr ⟨p, xs, e, (n.ne hp).trans h⟩))))
theorem NewDie.tup {H H' : Hp} {d p : Addr} {xs : List V} (hd : DieAt H d) (n : NewDie H d H') (h : H p = some (.tup xs)) : H' p = some (.tup xs) := (n.ne (hd.ne h fun _ _ _ z => by cases z)).trans h
theorem But.tup {H H' : Hp} {d p : Addr} {xs : List V} (hd : DieAt H d) (b : But d H H') (h : H p = some (.tup xs)) : H' p = some (.tup xs) := b _ _ (hd.ne h fun _ _ _ z => by cases z) h
theorem Kn.die {H H' : Hp} {d : Addr} {v : V} (hd : DieAt H d) (n : NewDie H d H') (h : Kn H v) : Kn H' v := by
  rcases h with h | ⟨p, xs, e, h⟩
  · exact .inl (h.die hd n)
  · exact .inr ⟨p, xs, e, n.tup hd h⟩
theorem Val.die {H H' : Hp} {d : Addr} {v : V} (hd : DieAt H d) (n : NewDie H d H') (h : Val H v) : Val H' v := by
  rcases h with h | ⟨p, xs, e, h, l, k⟩
  · exact .inl (h.die hd n)
  · exact .inr ⟨p, xs, e, n.tup hd h, l, fun x hx => (k x hx).die hd n⟩
/-- a list changed in place -/
theorem NoTup.upl {H : Hp} {S : Addr} {ys zs : List V} {v : V} (hs : H S = some (.lst ys)) (h : NoTup H v) : NoTup (upd H S (.lst zs)) v := by
  rcases h with h | h | h | h | ⟨p, xs, e, h⟩ | ⟨p, xs, e, h⟩
  · exact .inl h
  · exact .inr (.inl h)
  · exact .inr (.inr (.inl h))
  · exact .inr (.inr (.inr (.inl h)))
  · by_cases hp : p = S
    · subst hp
      exact .inr (.inr (.inr (.inr (.inl ⟨_, _, e, upd_same⟩))))
    · exact .inr (.inr (.inr (.inr (.inl ⟨p, xs, e, (upd_ne hp).trans h⟩))))
  · exact .inr (.inr (.inr (.inr (.inr ⟨p, xs, e, (upd_ne (ne_of h hs fun z => by cases z)).trans h⟩))))
theorem Kn.upl {H : Hp} {S : Addr} {ys zs : List V} {v : V} (hs : H S = some (.lst ys)) (h : Kn H v) : Kn (upd H S (.lst zs)) v := by
  rcases h with h | ⟨p, xs, e, h⟩
  · exact .inl (h.upl hs)
  · exact .inr ⟨p, xs, e, (upd_ne (ne_of h hs fun z => by cases z)).trans h⟩
theorem Val.upl {H : Hp} {S : Addr} {ys zs : List V} {v : V} (hs : H S = some (.lst ys)) (h : Val H v) : Val (upd H S (.lst zs)) v := by
  rcases h with h | ⟨p, xs, e, h, l, k⟩
  · exact .inl (h.upl hs)
  · exact .inr ⟨p, xs, e, (upd_ne (ne_of h hs fun z => by cases z)).trans h, l, fun x hx => (k x hx).upl hs⟩
theorem tup_upl {H : Hp} {S p : Addr} {ys zs xs : List V} (hs : H S = some (.lst ys)) (h : H p = some (.tup xs)) : upd H S (.lst zs) p = some (.tup xs) := (upd_ne (ne_of h hs fun z => by cases z)).trans h
theorem NoTup.but {H H' : Hp} {d : Addr} {v : V} (hd : DieAt H d) (b : But d H H') (h' : DieAt H' d) (h : NoTup H v) : NoTup H' v := by
  rcases h with h | h | h | h | ⟨p, xs, e, h⟩ | ⟨p, xs, e, h⟩
  · exact .inl h
  · exact .inr (.inl h)
  · exact .inr (.inr (.inl h))
  · exact .inr (.inr (.inr (.inl h)))
  · by_cases hp : p = d
    · obtain ⟨x, y, z, hz⟩ := h'
      subst hp
      exact .inr (.inr (.inr (.inr (.inl ⟨_, _, e, hz⟩))))
    · exact .inr (.inr (.inr (.inr (.inl ⟨p, xs, e, b _ _ hp h⟩))))
  · have hp : p ≠ d := hd.ne h fun _ _ _ z => by cases z
    exact .inr (.inr (.inr (.inr (.inr ⟨p, xs, e, b _ _ hp h⟩))))
theorem Val.but {H H' : Hp} {d : Addr} {v : V} (h : Val H v) (hd : DieAt H d) (b : But d H H') (h' : DieAt H' d) : Val H' v := by
  rcases h with h | ⟨p, xs, e, h, l, k⟩
  · exact .inl (h.but hd b h')
  · refine .inr ⟨p, xs, e, But.tup hd b h, l, fun x hx => ?_⟩
    rcases k x hx with c | ⟨q, ys, e, c⟩
    · exact .inl (c.but hd b h')
    · exact .inr ⟨q, ys, e, But.tup hd b c⟩
theorem val_tup {H : Hp} {p : Addr} {xs : List V} (h : H p = some (.tup xs)) (l : xs.length ≤ 1000) (k : ∀ x ∈ xs, Kn H x) : Val H (.ref p) := .inr ⟨p, xs, rfl, h, l, k⟩
theorem val_lst {H : Hp} {p : Addr} {xs : List V} (h : H p = some (.lst xs)) : Val H (.ref p) := .inl (.inr (.inr (.inr (.inr (.inl ⟨p, xs, rfl, h⟩)))))
theorem cutV_sub {xs : List V} {lo hi : Option Int} {x : V} (h : x ∈ cutV xs lo hi) : x ∈ xs := List.mem_of_mem_drop (List.mem_of_mem_take h)
/-- a tuple bent -/
def spBent : Sp := fun vs H Q _ => ∃ d p odd, ∃ ns : List Int, vs = [.ref d, .ref p, odd] ∧ DieAt H d ∧ H p = some (.tup (ns.map V.int)) ∧ ns ≠ [] ∧ ns.length ≤ 100 ∧ Val H odd ∧
  ∀ v H', Val H' v → But d H H' → DieAt H' d → Q v H'
/-- the law's own look at a bag -/
def spBagOf : Sp := fun vs H Q _ => ∃ v, ∃ n : Nat, ∃ low : Int, vs = [v, .int n, .int low] ∧
  ((NoTup H v ∧ ∀ H', Same H H' → Q (.bl false) H') ∨ ∃ p xs, v = .ref p ∧ H p = some (.tup xs) ∧ xs.length ≤ 1000 ∧ (∀ x ∈ xs, Kn H x) ∧ ∀ H', Same H H' → Q (.bl (decide (xs.length = n) && (xs.map (entB low)).all id)) H')
/-- a drawn wide bag -/
def Drawn (ns : List Int) : Prop := ∀ e ∈ ns, -1 ≤ e ∧ e ≤ 10 ^ 38
def spAnyWide : Sp := fun vs H Q _ => ∃ d, ∃ n : Nat, vs = [.ref d, .int n] ∧ DieAt H d ∧ n ≤ 5 ∧
  ∀ p H', ∀ ns : List Int, ns.length = n → Drawn ns → H' p = some (.tup (ns.map V.int)) → But d H H' → DieAt H' d → Q (.ref p) H'
/-- the law's own order of wide bags -/
def spWider : Sp := fun vs H Q _ => ∃ p q, ∃ ns ms : List Int, vs = [.ref p, .ref q] ∧ H p = some (.tup (ns.map V.int)) ∧ H q = some (.tup (ms.map V.int)) ∧ ns.length = ms.length ∧ ns.length ≤ 100 ∧ (∀ n ∈ ns, -1 ≤ n) ∧ Q (.bl (fitsB ns ms)) H
theorem entB_wrong {low : Int} {xs : List V} : (xs.filter fun x => !entB low x).isEmpty = (xs.map (entB low)).all id := by
  induction xs with
  | nil => rfl
  | cons c r ih =>
    rw [List.map_cons, List.all_cons, List.filter_cons]
    cases e : entB low c with
    | true => rw [if_neg (by decide)]; simpa using ih
    | false => rw [if_pos (by decide)]; rfl
theorem fits_at {ns ms : List Int} : fitsB ns ms = true ↔ ∀ (i : Nat) e m, ns[i]? = some e → ms[i]? = some m → fitE e m = true := by
  unfold fitsB
  rw [List.all_eq_true]
  constructor
  · intro h i e m h1 h2
    have hz : (ns.zip ms)[i]? = some (e, m) := List.getElem?_zip_eq_some.mpr ⟨h1, h2⟩
    exact h (fitE e m) (List.mem_map.mpr ⟨(e, m), List.mem_of_getElem? hz, rfl⟩)
  · intro h b hb
    obtain ⟨⟨e, m⟩, hp, rfl⟩ := List.mem_map.mp hb
    obtain ⟨i, hi⟩ := List.mem_iff_getElem?.mp hp
    obtain ⟨h1, h2⟩ := List.getElem?_zip_eq_some.mp hi
    exact h i e m h1 h2
theorem fitE_iff {e m : Int} : fitE e m = true ↔ m = -1 ∨ (0 ≤ e ∧ e ≤ m) := by
  unfold fitE
  rw [Bool.or_eq_true, Bool.and_eq_true, decide_eq_true_iff, decide_eq_true_iff, decide_eq_true_iff]
theorem cut_to (xs : List V) {k : Nat} (h : k ≤ xs.length) : cutV xs none (some (k : Int)) = xs.take k := by
  unfold cutV
  rw [HT.sIx_none, HT.sIx_nat, Nat.min_eq_left h, Nat.sub_zero, List.drop_zero]
theorem cut_from (xs : List V) {k : Nat} (h : k ≤ xs.length) : cutV xs (some (k : Int)) none = xs.drop k := by
  unfold cutV
  rw [HT.sIx_none, HT.sIx_nat, Nat.min_eq_left h]
  exact List.take_of_length_le (by rw [List.length_drop]; omega)
/-- the great bag within -/
def topE (e : Int) : Int := if e = -1 then 10 ^ (39 : Int).toNat else e
def topOf (ns : List Int) : List Int := ns.map topE
def BagIn (b ns : List Int) : Prop := b.length = ns.length ∧ (∀ e ∈ b, 0 ≤ e) ∧ fitsB b ns = true
theorem topE_nn {e : Int} (h : -1 ≤ e) : 0 ≤ topE e := by
  unfold topE
  split
  · decide +kernel
  · omega
theorem top_fit {e : Int} (h : -1 ≤ e) : fitE (topE e) e = true := by
  refine fitE_iff.mpr ?_
  by_cases c : e = -1
  · exact .inl c
  · refine .inr ⟨topE_nn h, ?_⟩
    unfold topE
    rw [if_neg c]
    exact Int.le_refl _
theorem set_glue (xs : List Int) {k : Nat} (m : Int) (h : k < xs.length) : (xs.take k).map V.int ++ [V.int m] ++ (xs.drop (k + 1)).map V.int = (xs.set k m).map V.int := by
  rw [List.set_eq_take_append_cons_drop, if_pos h, List.map_append, List.map_cons, List.append_assoc]
  rfl
theorem bag_set {ns : List Int} (hn : ∀ n ∈ ns, -1 ≤ n) {k : Nat} {w m : Int} (hw : ns[k]? = some w) (hm : 0 ≤ m) (hf : w = -1 ∨ m ≤ w) : BagIn ((topOf ns).set k m) ns := by
  refine ⟨by rw [List.length_set]; exact List.length_map _, fun e he => ?_, fits_at.mpr fun i e w' h1 h2 => ?_⟩
  · rcases List.mem_or_eq_of_mem_set he with he | rfl
    · obtain ⟨n, hn', rfl⟩ := List.mem_map.mp he
      exact topE_nn (hn n hn')
    · exact hm
  · rw [List.getElem?_set] at h1
    by_cases c : k = i
    · subst c
      rw [if_pos rfl] at h1
      split at h1
      · cases h1
        rw [hw] at h2
        cases h2
        rcases hf with hf | hf
        · exact fitE_iff.mpr (.inl hf)
        · exact fitE_iff.mpr (.inr ⟨hm, hf⟩)
      · cases h1
    · rw [if_neg c] at h1
      have h3 : (topOf ns)[i]? = some (topE w') := by
        unfold topOf
        rw [List.getElem?_map, h2]
        rfl
      rw [h3] at h1
      cases h1
      exact top_fit (hn w' (List.mem_of_getElem? h2))
theorem top_set {ns : List Int} {k : Nat} {w : Int} (hw : ns[k]? = some w) : (topOf ns).set k (topE w) = topOf ns := by
  refine List.ext_getElem? fun i => ?_
  rw [List.getElem?_set]
  by_cases c : k = i
  · subst c
    have h3 : (topOf ns)[k]? = some (topE w) := by
      unfold topOf
      rw [List.getElem?_map, hw]
      rfl
    rw [if_pos rfl, h3, if_pos (List.getElem?_eq_some_iff.mp h3).1]
  · rw [if_neg c]
/-- what is known of the bags that were found -/
def Found (H : Hp) (F0 : Addr) (ns : List Int) (L : List (Addr × List Int)) : Prop := H F0 = some (.lst (L.map fun x => V.ref x.1)) ∧ ∀ x ∈ L, H x.1 = some (.tup (x.2.map V.int)) ∧ BagIn x.2 ns
theorem Found.same {H H' : Hp} {F0 : Addr} {ns : List Int} {L : List (Addr × List Int)} (h : Found H F0 ns L) (s : Same H H') : Found H' F0 ns L := ⟨s _ _ h.1, fun x hx => ⟨s _ _ (h.2 x hx).1, (h.2 x hx).2⟩⟩
def spBagsIn : Sp := fun vs H Q _ => ∃ p, ∃ ns : List Int, ∃ entry : Int, vs = [.ref p, .int entry] ∧ H p = some (.tup (ns.map V.int)) ∧ Wide ns ∧ 0 ≤ entry ∧
  ∀ l L H', Found H' l ns L → (∃ x ∈ L, x.2 = topOf ns) → L.length ≤ 20 → Same H H' → Q (.ref l) H'
end Sh

/-! order and sums of wide bags -/
namespace Sh
open PySem PySem.Spec PyProof.Rows L2 RZ
theorem Drawn.wide {ns : List Int} (h : Drawn ns) (l1 : 1 ≤ ns.length) (l5 : ns.length ≤ 5) : Wide ns := ⟨l1, l5, fun n hn => (h n hn).1⟩
theorem BagIn.wide {b ns : List Int} (h : BagIn b ns) (w : Wide ns) : Wide b := ⟨by rw [h.1]; exact w.1, by rw [h.1]; exact w.2.1, fun n hn => by have := h.2.1 n hn; omega⟩
theorem fits_self {ns : List Int} (h : ∀ n ∈ ns, -1 ≤ n) : fitsB ns ns = true := fits_at.mpr fun i e m h1 h2 => by
  rw [h1] at h2
  cases h2
  have := h e (List.mem_of_getElem? h1)
  by_cases c : e = -1
  · exact fitE_iff.mpr (.inl c)
  · exact fitE_iff.mpr (.inr ⟨by omega, Int.le_refl _⟩)
theorem fits_trans {a b c : List Int} (hl : a.length = b.length) (h1 : fitsB a b = true) (h2 : fitsB b c = true) : fitsB a c = true := fits_at.mpr fun i e m he hm => by
  have hi : i < b.length := by rw [← hl]; exact (List.getElem?_eq_some_iff.mp he).1
  have hb : b[i]? = some b[i] := List.getElem?_eq_getElem hi
  have x := fitE_iff.mp (fits_at.mp h1 i e _ he hb)
  have y := fitE_iff.mp (fits_at.mp h2 i _ m hb hm)
  refine fitE_iff.mpr ?_
  rcases y with y | y
  · exact .inl y
  · rcases x with x | x
    · omega
    · exact .inr ⟨x.1, by omega⟩
/-- if the great bag is within, all is -/
theorem top_fits {ns ms : List Int} (hn : ∀ n ∈ ns, -1 ≤ n) (hm : Drawn ms) (h : fitsB (topOf ns) ms = true) : fitsB ns ms = true := fits_at.mpr fun i e m h1 h2 => by
  have h3 : (topOf ns)[i]? = some (topE e) := by
    unfold topOf
    rw [List.getElem?_map, h1]
    rfl
  have x := fitE_iff.mp (fits_at.mp h i _ m h3 h2)
  have he := hn e (List.mem_of_getElem? h1)
  have h4 := (hm m (List.mem_of_getElem? h2)).2
  refine fitE_iff.mpr ?_
  rcases x with x | x
  · exact .inl x
  · by_cases c : e = -1
    · exfalso
      unfold topE at x
      rw [if_pos c] at x
      have h5 : (10 : Int) ^ (39 : Int).toNat = 10 * 10 ^ 38 := by decide +kernel
      rw [h5] at x
      have h6 : (0 : Int) < 10 ^ 38 := by decide +kernel
      omega
    · unfold topE at x
      rw [if_neg c] at x
      exact .inr x
theorem all_within {ns ms : List Int} {L : List (Addr × List Int)} (hn : ∀ n ∈ ns, -1 ≤ n) (hm : Drawn ms) (hL : ∀ x ∈ L, BagIn x.2 ns) (ht : ∃ x ∈ L, x.2 = topOf ns) :
    ((L.filter fun x => !fitsB x.2 ms).map fun x => V.ref x.1).isEmpty = fitsB ns ms := by
  rw [List.isEmpty_map]
  cases h : fitsB ns ms with
  | true =>
    rw [List.isEmpty_iff, List.filter_eq_nil_iff]
    intro x hx
    have := hL x hx
    rw [fits_trans this.1 this.2.2 h]
    decide
  | false =>
    obtain ⟨x, hx, e⟩ := ht
    cases h2 : fitsB x.2 ms with
    | true =>
      rw [e] at h2
      rw [top_fits hn hm h2] at h
      cases h
    | false =>
      rw [Bool.eq_false_iff]
      intro c
      rw [List.isEmpty_iff, List.filter_eq_nil_iff] at c
      exact c x hx (by rw [h2]; rfl)
theorem none_out {ns : List Int} {L : List (Addr × List Int)} (hL : ∀ x ∈ L, BagIn x.2 ns) : ((L.filter fun x => !fitsB x.2 ns).map fun x => V.ref x.1) = [] := by
  rw [List.map_eq_nil_iff, List.filter_eq_nil_iff]
  intro x hx
  rw [(hL x hx).2.2]
  decide
theorem add_at {ns ms : List Int} {i : Nat} {e m : Int} (h1 : ns[i]? = some e) (h2 : ms[i]? = some m) : (addB ns ms)[i]? = some (addE e m) := by
  unfold addB
  rw [List.getElem?_map, show (ns.zip ms)[i]? = some (e, m) from List.getElem?_zip_eq_some.mpr ⟨h1, h2⟩]
  rfl
theorem add_len {ns ms : List Int} (h : ns.length = ms.length) : (addB ns ms).length = ns.length := by
  unfold addB
  rw [List.length_map, List.length_zip, h, Nat.min_self]
theorem addE_comm (e m : Int) : addE e m = addE m e := by
  unfold addE
  by_cases h : e = -1 ∨ m = -1
  · rw [if_pos h, if_pos h.symm]
  · rw [if_neg h, if_neg (fun c => h c.symm), Int.add_comm]
theorem addE_low {e m : Int} (h1 : -1 ≤ e) (h2 : -1 ≤ m) : -1 ≤ addE e m := by
  unfold addE
  split
  · omega
  · omega
theorem addE_any {e m : Int} (h1 : -1 ≤ e) (h2 : -1 ≤ m) : addE e m = -1 ↔ (e = -1 ∨ m = -1) := by
  unfold addE
  split
  · exact ⟨fun _ => by assumption, fun _ => rfl⟩
  · constructor
    · intro h
      omega
    · intro h
      exact absurd h (by assumption)
theorem addE_assoc {a b c : Int} (ha : -1 ≤ a) (hb : -1 ≤ b) (hc : -1 ≤ c) : addE (addE a b) c = addE a (addE b c) := by
  by_cases h1 : a = -1 ∨ b = -1
  · have : addE a b = -1 := (addE_any ha hb).mpr h1
    have h2 : addE (addE a b) c = -1 := (addE_any (addE_low ha hb) hc).mpr (.inl this)
    have h3 : addE a (addE b c) = -1 := (addE_any ha (addE_low hb hc)).mpr (h1.imp id fun z => (addE_any hb hc).mpr (.inl z))
    rw [h2, h3]
  · by_cases h2 : c = -1
    · have h3 : addE (addE a b) c = -1 := (addE_any (addE_low ha hb) hc).mpr (.inr h2)
      have h4 : addE a (addE b c) = -1 := (addE_any ha (addE_low hb hc)).mpr (.inr ((addE_any hb hc).mpr (.inr h2)))
      rw [h3, h4]
    · have h5 : ¬ (b = -1 ∨ c = -1) := fun z => z.elim (fun z => h1 (.inr z)) h2
      have e1 : addE a b = a + b := if_neg h1
      have e2 : addE b c = b + c := if_neg h5
      rw [e1, e2]
      unfold addE
      rw [if_neg (show ¬ (a + b = -1 ∨ c = -1) by omega), if_neg (show ¬ (a = -1 ∨ b + c = -1) by omega)]
      omega
theorem addB_comm {ns ms : List Int} (h : ns.length = ms.length) : addB ms ns = addB ns ms := by
  refine List.ext_getElem? fun i => ?_
  by_cases hi : i < ns.length
  · have z1 : ns[i]? = some ns[i] := List.getElem?_eq_getElem hi
    have z2 : ms[i]? = some (ms[i]'(by omega)) := List.getElem?_eq_getElem (by omega)
    rw [add_at z1 z2, add_at z2 z1, addE_comm]
  · rw [List.getElem?_eq_none (by rw [add_len h.symm]; omega), List.getElem?_eq_none (by rw [add_len h]; omega)]
theorem addB_assoc {a b c : List Int} (ha : ∀ n ∈ a, -1 ≤ n) (hb : ∀ n ∈ b, -1 ≤ n) (hc : ∀ n ∈ c, -1 ≤ n) (h1 : a.length = b.length) (h2 : b.length = c.length) : addB (addB a b) c = addB a (addB b c) := by
  refine List.ext_getElem? fun i => ?_
  by_cases hi : i < a.length
  · have z1 : a[i]? = some a[i] := List.getElem?_eq_getElem hi
    have z2 : b[i]? = some (b[i]'(by omega)) := List.getElem?_eq_getElem (by omega)
    have z3 : c[i]? = some (c[i]'(by omega)) := List.getElem?_eq_getElem (by omega)
    rw [add_at (add_at z1 z2) z3, add_at z1 (add_at z2 z3), addE_assoc (ha _ (List.mem_of_getElem? z1)) (hb _ (List.mem_of_getElem? z2)) (hc _ (List.mem_of_getElem? z3))]
  · have l1 := add_len h1
    have l2 := add_len h2
    rw [List.getElem?_eq_none (by rw [add_len (by omega)]; omega), List.getElem?_eq_none (by rw [add_len (by omega)]; omega)]
theorem add_low {ns ms : List Int} (h1 : ∀ n ∈ ns, -1 ≤ n) (h2 : ∀ n ∈ ms, -1 ≤ n) : ∀ n ∈ addB ns ms, -1 ≤ n := fun n hn => by
  unfold addB at hn
  obtain ⟨⟨e, m⟩, hp, rfl⟩ := List.mem_map.mp hn
  exact addE_low (h1 e (List.of_mem_zip hp).1) (h2 m (List.of_mem_zip hp).2)
theorem add_wide {ns ms : List Int} (h1 : Wide ns) (h2 : Wide ms) (h : ns.length = ms.length) : Wide (addB ns ms) := ⟨by rw [add_len h]; exact h1.1, by rw [add_len h]; exact h1.2.1, add_low h1.2.2 h2.2.2⟩
theorem fits_add {ns ms : List Int} (h1 : ∀ n ∈ ns, -1 ≤ n) (h2 : ∀ n ∈ ms, -1 ≤ n) (h : ns.length = ms.length) : fitsB ns (addB ns ms) = true := fits_at.mpr fun i e s he hs => by
  have hi : i < ms.length := by rw [← h]; exact (List.getElem?_eq_some_iff.mp he).1
  have z2 : ms[i]? = some ms[i] := List.getElem?_eq_getElem hi
  rw [add_at he z2] at hs
  cases hs
  have a := h1 e (List.mem_of_getElem? he)
  have b := h2 _ (List.mem_of_getElem? z2)
  refine fitE_iff.mpr ?_
  by_cases c : e = -1 ∨ ms[i] = -1
  · exact .inl ((addE_any a b).mpr c)
  · refine .inr ⟨by omega, ?_⟩
    unfold addE
    rw [if_neg c]
    omega
theorem ent_short {low : Int} {xs : List V} (h1 : 1 ≤ xs.length) (h5 : xs.length ≤ 5) : entOk low xs = (xs.map (entB low)).all id := by
  unfold entOk
  rw [decide_eq_true h1, decide_eq_true h5, Bool.true_and, Bool.true_and]
theorem ent_long {low : Int} {xs : List V} (h : ¬ (1 ≤ xs.length ∧ xs.length ≤ 5)) : entOk low xs = false := by
  unfold entOk
  by_cases h1 : 1 ≤ xs.length
  · rw [decide_eq_false (show ¬ xs.length ≤ 5 from fun c => h ⟨h1, c⟩), Bool.and_false, Bool.false_and]
  · rw [decide_eq_false h1, Bool.false_and, Bool.false_and]
end Sh

/-! sets and rows of tuples of whole numbers of any sign -/
namespace Zt
open PySem PyProof.Rows
section
variable {P : Program} {w : World} {A : Around} {E : Value → Shared → Prop} {s : Shared}
abbrev nilSet (w : World) : Obj := { cls := .type "set", dict := none, data := .set #[] 0 (.fresh 0 0 (!w.params.followText "set-order")) }
abbrev runner (l : Addr) : Obj := { cls := .type "tuple_iterator", data := .fields #[.ref l, .int 0 0] }
abbrev twoOf (w : World) (s : Shared) (l : Addr) : Heap := (s.heap.push (nilSet w)).push (runner l)

set_option maxHeartbeats 6400000 in
/-- set(t) of a tuple: what the filling does, whatever it is -/
theorem set_of {l : Addr} {items : Array Value} {Q : Value → Shared → Prop} {Z : Shared → Prop} (hl : s.heap.IsTuple l items)
    (fill : ∀ R : Result → Shared → Prop, (∀ s1, Z s1 → R (.ok (.ret .none)) s1) → codeAny (model P w) A.in1.in1 (.builtin "set.update.loop" ⟨[.ref s.heap.objs.size, .ref (s.heap.objs.size + 1)], []⟩) R { s with heap := twoOf w s l })
    (h : ∀ s1, Z s1 → Q (.ref s.heap.objs.size) s1) : wpAny (model P w) A (call (.type "set") [.ref l]) Q E s := by
  have ⟨_, _, m0⟩ := F.called_set.mro
  have m1 := F.called_set.made
  have m2 := F.called_set.sub
  have m3 := F.called_set.notType
  have m4 := F.called_set.canCreate
  have m5 := F.typeCall_set_1 (.ref l)
  refine wpAny_call (codeAny_of_tree ?_)
  show wpAny _ _ (callAny (.type "set") _) _ _ _
  refine wpAny_pure ⟨Code.quiet_builtin _ (by decide +kernel), codeAny_builtin F.entry_type_call ?_⟩
  rw [Around.under_plain (weight_type_call_type "set" [.ref l] []) rfl]
  repeat (any_goals (first | assumption | wp_step))
  refine codeAny_mono (L2.code_set_led1 (.ref l) (E := E) (Q₁ := fun v s1 => v = .ref s.heap.objs.size ∧ s1 = { s with heap := s.heap.push (nilSet w) }) ⟨rfl, rfl⟩) ?_
  rintro (e | (_ | _ | _ | _)) s1 hr
  all_goals first | exact hr | exact hr.elim | skip
  all_goals try (exact hr)
  rename_i obj
  obtain ⟨rfl, rfl⟩ := hr
  have at0 : (s.heap.push (nilSet w)).get? s.heap.objs.size = some (nilSet w) := Heap.get?_push_size _ rfl
  have ty0 : Shared.TypeIs { s with heap := s.heap.push (nilSet w) } (.ref s.heap.objs.size) "set" := ⟨_, at0, rfl⟩
  have m6 := F.called_set.init.lookup
  have m7 := F.called_set.init.bind (.ref s.heap.objs.size)
  repeat (any_goals (first | assumption | wp_step))
  refine codeAny_mono (codeAny_call_builtin (R := wants (fun r s2 => r = .none ∧ Z s2) E) F.called_set.init.plain F.entry_set_init (check_set_init_1 ty0 ?_)) ?_
  · obtain ⟨⟨c0, d0, t0, k0⟩, hol, hc, nl, hd⟩ := hl
    obtain rfl : c0 = .type "tuple" := hc
    obtain rfl : t0 = .seq items nl := hd
    have hol' := Heap.get?_push_of_some (nilSet w) hol
    have z1 := F.sub_tuple_set
    have z2 := F.sub_tuple_frozenset
    have z3 : (Value.type "tuple" == Value.type "dict") = false := by decide
    have z4 : (s.heap.push (nilSet w)).IsTuple l items := ⟨_, hol', rfl, nl, rfl⟩
    unfold Builtin.«set.__init__» noKeywords Builtin.Frozenset.updateFrom
    generalize hI : pyIter = pI
    wp_walk
    subst hI
    refine wpAny_pyIter_tuple z4 (wpAny_bind (wpAny_runValue ?_))
    have sz : (s.heap.push (nilSet w)).objs.size = s.heap.objs.size + 1 := Heap.size_push ..
    show codeAny _ _ (.builtin _ ⟨[_, .ref (s.heap.push (nilSet w)).objs.size], []⟩) _ _
    rw [sz]
    refine fill _ fun s2 hz => ?_
    show wpAny _ _ _ _ _ _
    refine wpAny_pure ?_
    show wpAny _ _ (ret Value.none) _ _ _
    exact wpAny_pure ⟨rfl, hz⟩
  · rintro (e | (r | _ | _ | _)) s2 hr
    all_goals first | exact hr | exact hr.elim | skip
    obtain ⟨rfl, hz⟩ := hr
    repeat (any_goals (first | assumption | wp_step))
    exact h _ hz
end
end Zt

namespace Zt
open PySem PyProof.Rows L2
/-! ### the order of rows of whole numbers -/
def lx : List Int → List Int → Bool
  | [], [] => false
  | [], _ :: _ => true
  | _ :: _, [] => false
  | a :: r, b :: q => if a = b then lx r q else decide (a < b)
theorem lx_irr : ∀ r : List Int, lx r r = false
  | [] => rfl
  | a :: r => by
    show (if a = a then lx r r else decide (a < a)) = false
    rw [if_pos rfl]
    exact lx_irr r
theorem lx_asym : ∀ r q : List Int, lx r q = true → lx q r = false
  | [], [], h => rfl
  | [], _ :: _, h => rfl
  | _ :: _, [], h => nomatch h
  | a :: r, b :: q, h => by
    have h' : (if a = b then lx r q else decide (a < b)) = true := h
    show (if b = a then lx q r else decide (b < a)) = false
    by_cases e : a = b
    · rw [if_pos e] at h'
      rw [if_pos e.symm]
      exact lx_asym r q h'
    · rw [if_neg e, decide_eq_true_eq] at h'
      rw [if_neg (fun z => e z.symm)]
      exact decide_eq_false (by omega)
theorem lx_tot : ∀ r q : List Int, lx r q = false → lx q r = false → r = q
  | [], [], _, _ => rfl
  | [], _ :: _, h, _ => nomatch h
  | _ :: _, [], _, h => nomatch h
  | a :: r, b :: q, h1, h2 => by
    have h1' : (if a = b then lx r q else decide (a < b)) = false := h1
    have h2' : (if b = a then lx q r else decide (b < a)) = false := h2
    by_cases e : a = b
    · rw [if_pos e] at h1'
      rw [if_pos e.symm] at h2'
      rw [e, lx_tot r q h1' h2']
    · rw [if_neg e, decide_eq_false_iff_not] at h1'
      rw [if_neg (fun z => e z.symm), decide_eq_false_iff_not] at h2'
      omega
theorem lx_tr : ∀ r q p : List Int, lx q r = false → lx p q = false → lx p r = false
  | [], [], p, _, h => h
  | [], _ :: _, [], _, _ => rfl
  | [], _ :: _, _ :: _, _, _ => rfl
  | _ :: _, [], _, h, _ => nomatch h
  | _ :: _, _ :: _, [], _, h => nomatch h
  | a :: r, b :: q, c :: p, h1, h2 => by
    have h1' : (if b = a then lx q r else decide (b < a)) = false := h1
    have h2' : (if c = b then lx p q else decide (c < b)) = false := h2
    show (if c = a then lx p r else decide (c < a)) = false
    by_cases e : b = a
    · by_cases f : c = b
      · rw [if_pos e] at h1'
        rw [if_pos f] at h2'
        rw [if_pos (f.trans e)]
        exact lx_tr r q p h1' h2'
      · rw [if_neg f] at h2'
        rw [if_neg (fun z => f (z.trans e.symm)), ← e]
        exact h2'
    · rw [if_neg e, decide_eq_false_iff_not] at h1'
      by_cases f : c = b
      · rw [if_neg (fun z => e (f.symm.trans z)), f]
        exact decide_eq_false h1'
      · rw [if_neg f, decide_eq_false_iff_not] at h2'
        rw [if_neg (by omega)]
        exact decide_eq_false (by omega)
theorem lx_swo : SrtO.Swo lx := ⟨lx_asym, lx_tr⟩
section
variable {P : Program} {w : World} {A : Around} {E : Value → Shared → Prop} {s : Shared}

/-! ### two rows compared -/
theorem one_lt (c : Bool) {p q : Int} {t u : Tok} {C : Bool → Shared → Prop} (h : C (decide (p < q)) s) : wpAny (model P w) A (oneLt' c (.int p t) (.int q u)) C E s := by
  cases c
  · exact PySem.W.kat_one _ _ (PyProof.Rows.lt_int (Q := PySem.W.BoolBack C) h)
  · exact oneLt_int h
theorem lx_run {c : Bool} {C : Bool → Shared → Prop} : ∀ {xs ys : List Value} {ns ms : List Int} (i : Nat), IntsAre xs ns → IntsAre ys ms → C (lx ns ms) s → PySem.W.KatLex P w A c (decide (ns.length < ms.length)) C (xs.zip ys) i s
  | _, _, _, _, i, .nil, .nil, h => PySem.W.kat_nil h
  | _, _, _, _, i, .nil, .cons q u hy, h => PySem.W.kat_nil h
  | _, _, _, _, i, .cons p t hx, .nil, h => PySem.W.kat_nil h
  | _, _, _, _, i, .cons (ns := ns) (vs := xs) p t hx, .cons (ns := ms) (vs := ys) q u hy, h => by
    have e0 : decide ((p :: ns).length < (q :: ms).length) = decide (ns.length < ms.length) := by simp
    rw [e0]
    have h' : C (if p = q then lx ns ms else decide (p < q)) s := h
    refine PySem.W.kat_cons (wpAny_eqBool_int (PySem.W.kat_go (fun e => ?_) fun e => ?_))
    · rw [if_pos (by simpa using e)] at h'
      exact PySem.W.kat_yes (lx_run (i + 1) hx hy h')
    · rw [if_neg (by simpa using e)] at h'
      exact PySem.W.kat_no (one_lt _ h')

/-- each of them is a row with something in it -/
def Rows (h : Heap) (vs : List Value) : Prop := ∀ v, v ∈ vs → ∃ ns, TS.TupInts h v ns ∧ ns ≠ []
theorem Rows.keeps {h h' : Heap} {vs : List Value} (x : Rows h vs) (k : ∀ b o, h.get? b = some o → o.cls = .type "tuple" → h'.get? b = some o) : Rows h' vs := fun v hv => (x v hv).imp fun _ y => ⟨y.1.keeps k, y.2⟩
theorem heads {h : Heap} : ∀ {vs : List Value}, Rows h vs → ∃ fs, PySem.W.KatTups h vs fs ∧ fs.length = vs.length ∧ ∀ f, f ∈ fs → ∃ n t, f = Value.int n t
  | [], _ => ⟨[], .nil, rfl, fun f hf => nomatch hf⟩
  | v :: vs, x => by
    obtain ⟨fs, k, hl, hi⟩ := heads (vs := vs) fun u hu => x u (.tail _ hu)
    obtain ⟨ns, ⟨a, xs, rfl, ⟨o, ho, hc, n, hd⟩, i⟩, hn⟩ := x v (.head _)
    generalize hq : xs.toList = ys at i
    cases i with
    | nil => exact absurd rfl hn
    | cons m t r =>
      refine ⟨.int m t :: fs, .cons ho hc hd ?_ k, congrArg (· + 1) hl, fun f hf => ?_⟩
      · have := congrArg (·[0]?) hq
        simpa using this
      · rcases List.mem_cons.mp hf with e | hf
        · exact ⟨m, t, e⟩
        · exact hi f hf
abbrev ltH (h : Heap) (v u : Value) : Bool := lx (TS.intsOf h v) (TS.intsOf h u)
theorem ltH_swo (h : Heap) : SrtO.Swo (ltH h) := ⟨fun x y => lx_asym _ _, fun x y z => lx_tr _ _ _⟩
theorem rows_sortable {a : Addr} {vs : List Value} {h0 : Heap} (l0 : 0 < vs.length) (x : Rows h0 vs) (keep : ∀ b o, h0.get? b = some o → o.cls = .type "tuple" → b ≠ a ∧ s.heap.get? b = some o) : SrtO.SortableO P w A s a vs (ltH h0) := by
  intro h' kp
  have k2 : ∀ b o, h0.get? b = some o → o.cls = .type "tuple" → h'.get? b = some o := fun b o e c => kp b o (keep b o e c).1 (keep b o e c).2
  obtain ⟨fs, f1, f2, f3⟩ := heads (x.keeps k2)
  refine ⟨_, fun C E' hC => PySem.W.kat_kind (T := .type "int") f1 (by omega) (fun f hf => ?_) rfl hC, ?_⟩
  · obtain ⟨n, t, rfl⟩ := f3 f hf
    exact PySem.W.Looks.of_pure rfl
  · intro p q hp hq
    obtain ⟨ns, tp, _⟩ := x _ hp
    obtain ⟨ms, tq, _⟩ := x _ hq
    have e1 : TS.intsOf h0 p.1 = ns := tp.ints
    have e2 : TS.intsOf h0 q.1 = ms := tq.ints
    show wpAny _ _ _ (fun r s' => s' = _ ∧ r = lx (TS.intsOf h0 p.1) (TS.intsOf h0 q.1)) _ _
    rw [e1, e2]
    obtain ⟨a1, xs, g1, ⟨o, ho, hc, n, hd⟩, i⟩ := tp.keeps k2
    obtain ⟨a2, ys, g2, ⟨o', ho', hc', n', hd'⟩, i'⟩ := tq.keeps k2
    rw [g1, g2]
    refine PySem.W.kat_lt ho hd ho' hd' ?_
    have sz : decide (xs.size < ys.size) = decide (ns.length < ms.length) := by
      rw [← i.length, ← i'.length, Array.length_toList, Array.length_toList]
    rw [sz]
    exact lx_run 0 i i' ⟨rfl, rfl⟩
end
end Zt

namespace Zt
open PySem PyProof.Rows L2
section
variable {P : Program} {w : World} {A : Around} {E : Value → Shared → Prop} {s : Shared}
theorem nowhere {h : Heap} {b : Addr} (hb : h.objs.size ≤ b) : h.get? b = none := by
  cases q : h.get? b with
  | none => rfl
  | some o => exact absurd (Nat.lt_of_lt_of_le (Heap.lt_size q) hb) (Nat.lt_irrefl _)
/-- set(t), t a tuple of rows -/
theorem set_rows {l : Addr} {items : Array Value} (ks : List (Addr × List Int)) {Q : Value → Shared → Prop} (hh : A.handled = none) (hl : s.heap.IsTuple l items) (hit : items.toList = ks.map fun p => Value.ref p.1)
    (hk : ∀ p ∈ ks, IsT P w s.heap p.2 p.1) (hf : ks.length < 64) (hu : A.units + 3 < cLine)
    (h : ∀ (h' : Heap) (tk : Nat) L es ep t, SetTR P w h' s.heap.objs.size L es ep t → Got ks ks.length L → (∀ b o, s.heap.get? b = some o → h'.get? b = some o) → Q (.ref s.heap.objs.size) { s with heap := h', toks := tk }) :
    wpAny (model P w) A (call (.type "set") [.ref l]) Q E s := by
  have n0 : items.size = ks.length := by simpa using congrArg List.length hit
  have lt : l < s.heap.objs.size := have ⟨_, z, _⟩ := hl; Heap.lt_size z
  refine set_of (Z := fun s1 => ∃ h' tk L es ep t, s1 = { s with heap := h', toks := tk } ∧ SetTR P w h' s.heap.objs.size L es ep t ∧ Got ks ks.length L ∧ ∀ b o, s.heap.get? b = some o → h'.get? b = some o) hl (fun R hR => ?_) ?_
  · have at0 : (twoOf w s l).get? s.heap.objs.size = some (nilSet w) := Heap.get?_push_of_some _ (Heap.get?_push_size _ rfl)
    have sz : (s.heap.push (nilSet w)).objs.size = s.heap.objs.size + 1 := Heap.size_push ..
    have keep : ∀ b o, s.heap.get? b = some o → (twoOf w s l).get? b = some o := fun b o e => Heap.get?_push_of_some _ (Heap.get?_push_of_some _ e)
    have tu : (twoOf w s l).IsTuple l items := by
      obtain ⟨o, ho, r⟩ := hl
      exact ⟨o, keep _ _ ho, r⟩
    have itr : (twoOf w s l).IsTupleIter (s.heap.objs.size + 1) l 0 := by
      rw [← sz]
      exact ⟨_, Heap.get?_push_size _ rfl, rfl, rfl⟩
    have hne : l ≠ s.heap.objs.size + 1 := Nat.ne_of_lt (Nat.lt_succ_of_lt lt)
    have apart : s.heap.objs.size ∉ [s.heap.objs.size + 1, l] := fun z => by
      rcases List.mem_cons.mp z with z | z
      · exact Nat.ne_of_lt (Nat.lt_succ_self _) z
      · exact Nat.ne_of_gt lt (List.mem_singleton.mp z)
    refine set_update_tups (Walks.tuple (by simp [hh]) _ l hne items).toS s.heap.objs.size apart ks n0 hf (fun i v hv => ?_) s.heap hk (nowhere (Nat.le_refl _)) (fun b hb => nowhere (by rw [List.mem_singleton.mp hb]; exact Nat.le_succ _)) (by show A.units + 1 + 1 + 1 < _; omega)
      (items.size - 0) 0 _ rfl (Nat.zero_le _) ⟨itr, tu⟩ keep ⟨[], #[], 0, _, setTR_fresh at0, Got.zero ks⟩ fun s' L es ep t hm hS g k => hR s' ?_
    · have q : items.toList[i]? = some v := by rw [Array.getElem?_toList]; exact hv
      rw [hit, List.getElem?_map, Option.map_eq_some_iff] at q
      exact q.imp fun p hp => ⟨hp.1, hp.2.symm⟩
    · obtain ⟨h', g0, d0, tk, o0⟩ := s'
      obtain rfl : g0 = s.gens := hm.gens
      obtain rfl : d0 = s.drawn := hm.drawn
      obtain rfl : o0 = s.os := hm.os
      rw [n0] at g
      exact ⟨h', tk, L, es, ep, t, rfl, hS, g, k⟩
  · rintro _ ⟨h', tk, L, es, ep, t, rfl, hS, g, k⟩
    exact h h' tk L es ep t hS g k

/-- sorted(s), s a set of rows -/
theorem sorted_rows {a : Addr} {L : List (Addr × List Int)} {es : Array (Int × Value)} {ep : Nat} {t : SetTable} {Q : Value → Shared → Prop} (R : SetTR P w s.heap a L es ep t) (hh : A.handled = none) (hB : ∀ p ∈ L, p.2 ≠ [])
    (hQ : ∀ s' p (out : Array Value) (c : Nat) (L' : List (Addr × List Int)), (∀ b o, s.heap.get? b = some o → s'.heap.get? b = some o) → s'.gens = s.gens → s'.os = s.os → s.heap.objs.size ≤ p →
      s'.heap.get? p = some (seqObj "list" out c) → out.toList = L'.map (fun q => Value.ref q.1) → L'.Perm L → L'.Pairwise (fun q r => lx r.2 q.2 = false) → Q (.ref p) s') :
    wpAny (model P w) A (call (.builtin "sorted") [.ref a]) Q E s := by
  obtain ⟨o, ho, hex, hd⟩ := R.ob
  have few := R.few
  have sz := R.size
  refine Calls.call_function_entry kind_sorted plain_sorted entry_sorted (args_sorted1 _) ?_
  unfold Builtin.«sorted»
  refine wpAny_bind (m := checkCount "sorted" 1 1 _) (wpAny_pure (wpAny_bind (collect_set (A := A.in1) hh ⟨o, ho, hex.1, hd⟩ R.fits (by unfold scanBound; omega) R.tab.ris R.led fun s1 vs k1 z1 g1 o1 pm => ?_)))
  have em : es.toList.map (·.2) = L.map fun q => Value.ref q.1 := by
    rw [R.rows]
    simp [rowsOf]
  rw [em] at pm
  have vl : vs.length = L.length := by simpa using pm.length_eq
  have mem : ∀ v, v ∈ vs → ∃ q ∈ L, Value.ref q.1 = v := fun v hv => List.mem_map.mp (pm.mem_iff.mp hv)
  refine wpAny_bind (wpAny_newList ?_ (by rw [sizeLine_eq]; omega))
  generalize hH : s1.heap.push (seqObj "list" vs.toArray 0) = H1
  have kp1 : ∀ b o, s.heap.get? b = some o → H1.get? b = some o := fun b o e => by
    rw [← hH]
    exact Heap.get?_push_of_some _ (k1 b o e)
  have top : H1.get? s1.heap.objs.size = some (seqObj "list" vs.toArray 0) := by
    rw [← hH]
    exact Heap.get?_push_size _ rfl
  have small : ∀ b o, s.heap.get? b = some o → b ≠ s1.heap.objs.size := fun b o e => Nat.ne_of_lt (Nat.lt_of_lt_of_le (Heap.lt_size e) z1)
  have tk : ∀ q ∈ L, TS.TupInts s.heap (.ref q.1) q.2 := fun q hq => tupInts_of (P := P) (w := w) (R.tup q hq)
  have rs : Rows s.heap vs := fun v hv => by
    obtain ⟨q, hq, rfl⟩ := mem v hv
    exact ⟨q.2, tk q hq, hB q hq⟩
  refine wpAny_bind (wpAny_holding (wpAny_call_entry slot_list_sort ⟨_, top, rfl⟩ entry_list_sort (SrtO.list_sort_ord (s := { s1 with heap := H1 }) (ltH_swo s.heap) top (by rw [sizeLine_eq]; omega)
    (fun h2 => rows_sortable (by omega) rs fun b o e c => ⟨small b o e, kp1 b o e⟩) fun out hs hb => ⟨_, rfl, ?_⟩) (args_list_sort _)))
  obtain ⟨c, hc⟩ := sortedHeap_at (vs := vs) (out := out.toArray) top
  have back : ∀ us : List Value, (∀ v ∈ us, v ∈ vs) → ∃ L1 : List (Addr × List Int), us = L1.map (fun q => Value.ref q.1) ∧ ∀ q ∈ L1, q ∈ L := fun us => by
    induction us with
    | nil => exact fun _ => ⟨[], rfl, fun q hq => nomatch hq⟩
    | cons v us ih =>
      intro hv
      obtain ⟨q, hq, e⟩ := mem v (hv v (.head _))
      obtain ⟨L1, e1, h1⟩ := ih fun u hu => hv u (.tail _ hu)
      exact ⟨q :: L1, by rw [List.map_cons, e, e1], fun r hr => (List.mem_cons.mp hr).elim (fun z => z ▸ hq) (h1 r)⟩
  obtain ⟨L', e', hs'⟩ := back out fun v hv => hb.perm.mem_iff.mp hv
  have inj : ∀ q ∈ L, ∀ r ∈ L, Value.ref q.1 = Value.ref r.1 → q = r := fun q hq r hr e => by
    have e1 : q.1 = r.1 := by injection e
    have a1 := R.tup q hq
    rw [e1] at a1
    exact Prod.ext e1 (a1.inj (R.tup r hr))
  have pL : L'.Perm L := by
    have nL : L.Nodup := nodup_of_map R.nd
    have pm2 : (L'.map fun q => Value.ref q.1).Perm (L.map fun q => Value.ref q.1) := by
      rw [← e']
      exact hb.perm.trans pm
    have nv : (L.map fun q => Value.ref q.1).Nodup := List.pairwise_map.mpr (nL.imp_of_mem fun hq hr hne e => hne (inj _ hq _ hr e))
    have n1 : L'.Nodup := nodup_of_map (pm2.nodup_iff.mpr nv)
    refine (List.perm_ext_iff_of_nodup n1 nL).mpr fun q => ⟨hs' q, fun hq => ?_⟩
    obtain ⟨r, hr, e⟩ := List.mem_map.mp (pm2.mem_iff.mpr (List.mem_map.mpr ⟨q, hq, rfl⟩))
    rw [← inj r (hs' r hr) q hq e]
    exact hr
  refine wpAny_pure ⟨_, rfl, hQ _ s1.heap.objs.size out.toArray c L' (fun b u e => ?_) g1 o1 z1 hc (by simpa using e') pL ?_⟩
  · show (sortedHeap H1 s1.heap.objs.size vs out.toArray).get? b = some u
    rw [sortedHeap_old (small b u e) (Heap.lt_size (kp1 b u e))]
    exact kp1 b u e
  · rw [e'] at hs
    refine (List.pairwise_map.mp hs).imp_of_mem fun {q r} hq hr z => ?_
    rw [← (tk q (hs' q hq)).ints, ← (tk r (hs' r hr)).ints]
    exact z
end

/-! ### the rules -/
section
variable {X : Cx}
/-- set(t), t a tuple of rows -/
def rSetT (K : PySem.W.Frag) (P : Program) (w : World) : List V → Hp → VK → Prop := fun xs H Q => ∃ (l : Addr) (ks : List (Addr × List Int)), xs = [V.ref l] ∧ SqT K H l (ks.map fun p => V.ref p.1) ∧ (∀ p ∈ ks, SqT K H p.1 (p.2.map V.int)) ∧ ks.length < 64 ∧
  ∀ a L, H a = none → (∀ p ∈ L, p ∈ ks) → (∀ p ∈ ks, p.2 ∈ L.map (·.2)) → Q (.ref a) (upd H a (SetTO P w a L))
theorem cr_setT (hc : X.calm = true) (hu : X.A.units + 64 < cLine) : CallR X (.type "set") (rSetT X.K X.prog X.w) := by
  intro pins s σ H xs us Q I r h
  obtain ⟨l, ks, rfl, hl, hk, hf, q⟩ := h
  rw [Vals.ref1 r]
  obtain ⟨its, rv, pl, hz⟩ := I.tuple hl
  refine set_rows (P := X.prog) (w := X.w) ks (I.ok.hd hc) pl (by simpa using refs_of_vals rv) (fun p hp => I.isT (hk p hp)) hf (by omega) fun h' tk L es ep t R g k =>
    ⟨.ref s.heap.objs.size, upd H s.heap.objs.size (SetTO X.prog X.w s.heap.objs.size L), I.laid (t' := tk) k (Nat.le_refl _) (setTO_new R.t0), rfl, q _ L (I.hok.fresh (Nat.le_refl _)) (fun p hp => List.mem_of_mem_take (g.sub p hp)) fun p hp => g.all p (by rw [List.take_length]; exact hp)⟩
/-- sorted(s), s a set of rows -/
def rSrtS (K : PySem.W.Frag) (P : Program) (w : World) : List V → Hp → VK → Prop := fun vs H Q => ∃ (a : Addr) (L : List (Addr × List Int)), vs = [V.ref a] ∧ H a = some (SetTO P w a L) ∧ (∀ p ∈ L, SqT K H p.1 (p.2.map V.int)) ∧ (∀ p ∈ L, p.2 ≠ []) ∧
  ∀ (L' : List (Addr × List Int)) (p : Addr), L'.Perm L → (L'.map (·.2)).Pairwise (fun q r => lx q r = true) → L'.length < 64 → H p = none → Q (.ref p) (upd H p (.lst (L'.map fun q => V.ref q.1)))
theorem cr_srtS (hc : X.calm = true) : CallR X (.builtin "sorted") (rSrtS X.K X.prog X.w) := by
  intro pins s σ H vs us Q I r h
  obtain ⟨a, L, rfl, ha, hk, hB, q⟩ := h
  have R0 : SetT0 X.prog X.w s.heap a L := (I.hok a _ ha).1
  obtain ⟨es, ep, t, R⟩ := R0.full fun p hp => I.isT (hk p hp)
  rw [Vals.ref1 r]
  refine sorted_rows R (I.ok.hd hc) hB fun s' p out c L' k g o hp hg hout pm pw => ?_
  have l1 : L'.length < 64 := by rw [pm.length_eq]; exact R.few
  have l2 : (L'.map fun q => V.ref q.1).length ≤ sizeLine := by rw [List.length_map, sizeLine_eq]; omega
  have hn : H p = none := I.hok.fresh hp
  obtain ⟨h1, g1, d1, t1, o1⟩ := s'
  obtain rfl : o1 = s.os := o
  have J : Inv X pins σ (upd H p (.lst (L'.map fun q => V.ref q.1))) { s with heap := h1, gens := g1, drawn := d1, toks := t1 } :=
    I.call (ch := []) (Un.laid k hp hn) (I.hok.laid k hp ⟨l2, out.toList, c, by rw [hout]; exact vals_of_refs L', hg⟩) (by rw [show g1 = s.gens from g]; exact I.bare) (fun _ z => nomatch z)
  refine ⟨.ref p, _, J, rfl, q L' p pm ?_ l1 hn⟩
  have nd : (L'.map (·.2)).Nodup := (pm.map (·.2)).nodup_iff.mpr R.nd
  have pw2 : (L'.map (·.2)).Pairwise (fun x y => lx y x = false) := List.pairwise_map.mpr pw
  refine List.Pairwise.imp ?_ (nd.and pw2)
  rintro x y ⟨h1, h2⟩
  cases h3 : lx x y with
  | true => rfl
  | false => exact absurd (lx_tot x y h3 h2) h1

/-- x is the row of these numbers -/
abbrev RowAt (K : PySem.W.Frag) (H : Hp) (x : V) (ns : List Int) : Prop := TupI K H x ns
/-- sorted(l), l a list of rows -/
def rSrtL (K : PySem.W.Frag) : List V → Hp → VK → Prop := fun vs H Q => ∃ (a : Addr) (ks : List (Addr × List Int)), vs = [V.ref a] ∧ SqL K H a (ks.map fun p => V.ref p.1) ∧ (∀ p ∈ ks, SqT K H p.1 (p.2.map V.int)) ∧ (∀ p ∈ ks, p.2 ≠ []) ∧
  ∀ (L : List (Addr × List Int)) (p : Addr), L.Perm ks → (L.map (·.2)).Pairwise (fun q r => lx r q = false) → H p = none → Q (.ref p) (upd H p (.lst (L.map fun q => V.ref q.1)))
theorem cr_srtL : CallR X (.builtin "sorted") (rSrtL X.K) := by
  intro pins s σ H vs us Q I r h
  obtain ⟨a, ks, rfl, hs, hk, hB, q⟩ := h
  rw [Vals.ref1 r]
  obtain ⟨its, rv, hl, hz⟩ := I.list hs
  obtain rfl := refs_of_vals rv
  have raw : ∀ p ∈ ks, TS.TupInts s.heap (.ref p.1) p.2 := fun p hp => tupI_raw I (hk p hp)
  have rs : Rows s.heap (ks.map fun p => Value.ref p.1) := fun v hv => by
    obtain ⟨p, hp, rfl⟩ := List.mem_map.mp hv
    exact ⟨p.2, raw p hp, hB p hp⟩
  have l0 : (ks.map fun p => Value.ref p.1).length ≤ sizeLine := by simpa using hz
  refine SrtO.sorted_ord (ltH_swo s.heap) hl.isList l0 (fun h2 h1 b hb kk => rows_sortable (by omega) rs fun c o e _ => kk c o e) fun out h1 h2 => ?_
  obtain ⟨L, pm, rfl⟩ := perm_lift (fun q : Addr × List Int => Value.ref q.1) h2.perm ks rfl
  obtain ⟨ep, he⟩ := PyProof.Rows.sortedAll_at s.heap (ks.map fun p => Value.ref p.1) (L.map fun p => Value.ref p.1).toArray
  have l2 : (L.map fun q => V.ref q.1).length ≤ sizeLine := by
    rw [List.length_map, pm.length_eq]
    simpa using l0
  refine ⟨.ref (s.heap.objs.size + 1), upd H (s.heap.objs.size + 1) (.lst (L.map fun q => V.ref q.1)), I.laid (t' := s.toks) (fun _ _ => PyProof.Rows.sortedAll_old) (Nat.le_succ _) ⟨l2, _, ep, vals_of_refs L, he⟩, rfl, q L _ pm ?_ (I.hok.fresh (Nat.le_succ _))⟩
  refine List.pairwise_map.mpr ((List.pairwise_map.mp h1).imp_of_mem fun {x y} hx hy z => ?_)
  rw [← (raw x (pm.mem_iff.mp hx)).ints, ← (raw y (pm.mem_iff.mp hy)).ints]
  exact z
end
end Zt

namespace Zt
open PySem PySem.Spec PyProof.Rows L2 Sh
/-! ### rows as data -/
abbrev rowD (k : List Int) : PyData := .tuple (k.map PyData.int)
theorem canRow (k : List Int) : (rowD k).canLay0 = true := by simp [rowD, PyData.canLay0, PySem.W.ke_canLayAll0]
theorem depRow (k : List Int) : (rowD k).depth = 1 := by simp [rowD, PyData.depth, PySem.W.ke_depthAll]
theorem canRows : ∀ ks : List (List Int), PyData.canLayAll0 (ks.map rowD) = true
  | [] => rfl
  | k :: ks => by
    rw [List.map_cons, PyData.canLayAll0, canRow, canRows ks]
    rfl
theorem depRows : ∀ ks : List (List Int), PyData.depthAll (ks.map rowD) ≤ 1
  | [] => Nat.zero_le _
  | k :: ks => by
    rw [List.map_cons, PyData.depthAll, depRow]
    exact Nat.max_le.mpr ⟨Nat.le_refl _, depRows ks⟩
theorem eqRow (k m : List Int) : PyData.eqv (rowD k) (rowD m) = decide (k = m) := by
  show PyData.eqvAll _ _ = _
  exact eqvAll_ints k m
theorem eqRows : ∀ ks ms : List (List Int), PyData.eqvAll (ks.map rowD) (ms.map rowD) = decide (ks = ms)
  | [], [] => by simp [PyData.eqvAll]
  | [], _ :: _ => by simp [PyData.eqvAll]
  | _ :: _, [] => by simp [PyData.eqvAll]
  | k :: ks, m :: ms => by
    rw [List.map_cons, List.map_cons, PyData.eqvAll, eqRows ks ms, eqRow]
    by_cases h : k = m
    · subst h
      simp
    · simp [h]
theorem inRows (k : List Int) : ∀ ks : List (List Int), ((ks.map rowD).any fun y => PyData.eqv y (rowD k)) = decide (k ∈ ks)
  | [] => by simp
  | m :: ks => by
    rw [List.map_cons, List.any_cons, inRows k ks, eqRow]
    by_cases h : m = k
    · subst h
      simp
    · simp [h, Ne.symm h]
/-- each of them stands in the heap -/
def RowsIn (K : PySem.W.Frag) (H : Hp) (ks : List (Addr × List Int)) : Prop := ∀ p ∈ ks, SqT K H p.1 (p.2.map V.int)
abbrev refs (ks : List (Addr × List Int)) : List V := ks.map fun p => V.ref p.1
abbrev keys (ks : List (Addr × List Int)) : List (List Int) := ks.map fun p => p.2
theorem dpRows {K : PySem.W.Frag} {H : Hp} : ∀ {ks : List (Addr × List Int)}, RowsIn K H ks → DpAll K H (refs ks) ((keys ks).map rowD)
  | [], _ => .nil
  | p :: ks, h => .cons (.tup (h p (.head _)) (dps_ints p.2)) (dpRows fun q hq => h q (.tail _ hq))
theorem shRows (b : Bool) (ks : List (List Int)) : SeqAt.shaped (if b then .list (ks.map rowD) else .tuple (ks.map rowD)) = true := by
  have := depRows ks
  cases b
  · simp [SeqAt.shaped, PyData.canLay0, PyData.depth, canRows]
    omega
  · simp [SeqAt.shaped, PyData.canLay0, PyData.depth, canRows]
    omega
section
variable {X : Cx}
/-- two rows of rows, of one kind -/
def rEqR (K : PySem.W.Frag) (neg : Bool) : V → V → Hp → VK → Prop := fun x y H Q => ∃ a b ks ms, x = .ref a ∧ y = .ref b ∧ ((SqT K H a (refs ks) ∧ SqT K H b (refs ms)) ∨ (SqL K H a (refs ks) ∧ SqL K H b (refs ms))) ∧ RowsIn K H ks ∧ RowsIn K H ms ∧
  Q (.bl (if neg then !decide (keys ks = keys ms) else decide (keys ks = keys ms))) H
theorem op_eqR (hu : X.A.units + 64 < cLine) : OpR X (compareOp .Eq) (rEqR X.K false) := by
  intro pins s σ H x y v u Q I rx ry h
  obtain ⟨a, b, ks, ms, rfl, rfl, h | h, h1, h2, q⟩ := h
  · refine op_eqD hu pins s σ H _ _ v u Q I rx ry ⟨.tuple ((keys ks).map rowD), .tuple ((keys ms).map rowD), .tup h.1 (dpRows h1), .tup h.2 (dpRows h2), shRows false _, shRows false _, ?_⟩
    show Q (.bl (PyData.eqvAll _ _)) H
    rw [eqRows]
    exact q
  · refine op_eqD hu pins s σ H _ _ v u Q I rx ry ⟨.list ((keys ks).map rowD), .list ((keys ms).map rowD), .lst h.1 (dpRows h1), .lst h.2 (dpRows h2), shRows true _, shRows true _, ?_⟩
    show Q (.bl (PyData.eqvAll _ _)) H
    rw [eqRows]
    exact q
theorem op_neR (hu : X.A.units + 64 < cLine) : OpR X (compareOp .NotEq) (rEqR X.K true) := by
  intro pins s σ H x y v u Q I rx ry h
  obtain ⟨a, b, ks, ms, rfl, rfl, h | h, h1, h2, q⟩ := h
  · refine op_neD hu pins s σ H _ _ v u Q I rx ry ⟨.tuple ((keys ks).map rowD), .tuple ((keys ms).map rowD), .tup h.1 (dpRows h1), .tup h.2 (dpRows h2), shRows false _, shRows false _, ?_⟩
    show Q (.bl (!PyData.eqvAll _ _)) H
    rw [eqRows]
    exact q
  · refine op_neD hu pins s σ H _ _ v u Q I rx ry ⟨.list ((keys ks).map rowD), .list ((keys ms).map rowD), .lst h.1 (dpRows h1), .lst h.2 (dpRows h2), shRows true _, shRows true _, ?_⟩
    show Q (.bl (!PyData.eqvAll _ _)) H
    rw [eqRows]
    exact q
/-- a row that is not in a tuple of rows -/
def rNinR (K : PySem.W.Frag) : V → V → Hp → VK → Prop := fun x y H Q => ∃ t a k ks, x = .ref t ∧ y = .ref a ∧ SqT K H t (k.map V.int) ∧ SqT K H a (refs ks) ∧ RowsIn K H ks ∧ Q (.bl (!decide (k ∈ keys ks))) H
theorem op_ninR (hu : X.A.units + 64 < cLine) : OpR X (compareOp .NotIn) (rNinR X.K) := by
  intro pins s σ H x y v u Q I rx ry h
  obtain ⟨t, a, k, ks, rfl, rfl, h1, h2, h3, q⟩ := h
  obtain ⟨as, r1⟩ := Dp.reads I (rowD k) _ v (.tup h1 (dps_ints k)) rx
  obtain ⟨bs, r2⟩ := Dp.reads I (.tuple ((keys ks).map rowD)) _ u (.tup h2 (dpRows h3)) ry
  refine SeqAt.notIn_tuple_reads r2 r1 (canRows _) (canRow k) (by rw [depRow]; omega) ⟨.bl _, H, I, rfl, ?_⟩
  rw [inRows]
  exact q
end

/-! ### the greatest ones of an order -/
section
variable {α : Type} [DecidableEq α] (le : α → α → Bool)
def tops (S : List α) : List α := S.filter fun x => !(S.any fun y => !decide (y = x) && le x y)
def keep (kept : List α) (b : α) : List α := if kept.any (fun o => le b o) then kept else kept.filter (fun o => !le o b) ++ [b]
variable {le}
theorem mem_tops {S : List α} {x : α} : x ∈ tops le S ↔ x ∈ S ∧ ∀ y ∈ S, y ≠ x → le x y = false := by
  unfold tops
  simp only [List.mem_filter, Bool.not_eq_true', List.any_eq_false, Bool.and_eq_true, Bool.not_eq_true', decide_eq_false_iff_not, not_and, Bool.not_eq_true]
/-- what is asked of the order, over the things of D -/
structure Ord (le : α → α → Bool) (D : α → Prop) : Prop where
  refl : ∀ x, D x → le x x = true
  tr : ∀ x y z, D x → D y → D z → le x y = true → le y z = true → le x z = true
  anti : ∀ x y, D x → D y → le x y = true → le y x = true → x = y
theorem keep_ok {D : α → Prop} (O : Ord le D) {pre : List α} {b : α} (hD : ∀ x ∈ pre, D x) (hb : D b) (nb : b ∉ pre) (cov : ∀ y ∈ pre, ∃ o ∈ tops le pre, le y o = true) :
    keep le (tops le pre) b = tops le (pre ++ [b]) ∧ ∀ y ∈ pre ++ [b], ∃ o ∈ tops le (pre ++ [b]), le y o = true := by
  have lr : ∀ x, x ∈ pre → ((pre ++ [b]).any fun y => !decide (y = x) && le x y) = ((pre.any fun y => !decide (y = x) && le x y) || le x b) := fun x hx => by
    have hne : b ≠ x := fun e => nb (e ▸ hx)
    simp [List.any_append, hne]
  have bb : ((pre ++ [b]).any fun y => !decide (y = b) && le b y) = pre.any fun y => le b y := by
    rw [List.any_append]
    simp only [List.any_cons, List.any_nil, decide_true, Bool.not_true, Bool.false_and, Bool.or_false]
    rw [Bool.eq_iff_iff, List.any_eq_true, List.any_eq_true]
    constructor
    · rintro ⟨y, hy, h⟩
      exact ⟨y, hy, (Bool.and_eq_true_iff.mp h).2⟩
    · rintro ⟨y, hy, h⟩
      have hne : y ≠ b := fun e => nb (e ▸ hy)
      exact ⟨y, hy, by simp [hne, h]⟩
  have step : tops le (pre ++ [b]) = (tops le pre).filter (fun o => !le o b) ++ (if pre.any (fun y => le b y) then [] else [b]) := by
    unfold tops
    rw [List.filter_append, List.filter_filter]
    congr 1
    · refine List.filter_congr fun x hx => ?_
      rw [lr x hx, Bool.not_or, Bool.and_comm]
    · rw [List.filter_cons, bb]
      cases pre.any (fun y => le b y) <;> simp
  have main : keep le (tops le pre) b = tops le (pre ++ [b]) := by
    unfold keep
    rw [step]
    by_cases c : (tops le pre).any (fun o => le b o) = true
    · rw [if_pos c]
      obtain ⟨o, ho, hbo⟩ := List.any_eq_true.mp c
      have hop := (mem_tops.mp ho).1
      rw [if_pos (List.any_eq_true.mpr ⟨o, hop, hbo⟩), List.append_nil]
      refine (List.filter_eq_self.mpr fun x hx => ?_).symm
      obtain ⟨hx1, hx2⟩ := mem_tops.mp hx
      cases e : le x b with
      | false => rfl
      | true =>
        have xo := O.tr x b o (hD x hx1) hb (hD o hop) e hbo
        by_cases z : o = x
        · subst z
          exact absurd (O.anti b o hb (hD o hop) hbo e) (fun e => nb (e ▸ hop))
        · rw [hx2 o hop z] at xo
          cases xo
    · rw [if_neg c]
      have c2 : ¬ pre.any (fun y => le b y) = true := fun h => by
        obtain ⟨y, hy, hby⟩ := List.any_eq_true.mp h
        obtain ⟨o, ho, hyo⟩ := cov y hy
        exact c (List.any_eq_true.mpr ⟨o, ho, O.tr b y o hb (hD y hy) (hD o (mem_tops.mp ho).1) hby hyo⟩)
      rw [if_neg c2]
  refine ⟨main, fun y hy => ?_⟩
  by_cases c : (tops le pre).any (fun o => le b o) = true
  · have e : tops le (pre ++ [b]) = tops le pre := by
      rw [← main]
      unfold keep
      rw [if_pos c]
    rw [e]
    rcases List.mem_append.mp hy with hy | hy
    · exact cov y hy
    · rw [List.mem_singleton.mp hy]
      exact List.any_eq_true.mp c
  · have e : tops le (pre ++ [b]) = (tops le pre).filter (fun o => !le o b) ++ [b] := by
      rw [← main]
      unfold keep
      rw [if_neg c]
    rw [e]
    rcases List.mem_append.mp hy with hy | hy
    · obtain ⟨o, ho, hyo⟩ := cov y hy
      cases z : le o b with
      | false => exact ⟨o, List.mem_append_left _ (List.mem_filter.mpr ⟨ho, by rw [z]; rfl⟩), hyo⟩
      | true => exact ⟨b, List.mem_append_right _ (List.mem_singleton.mpr rfl), O.tr y o b (hD y hy) (hD o (mem_tops.mp ho).1) hb hyo z⟩
    · rw [List.mem_singleton.mp hy]
      exact ⟨b, List.mem_append_right _ (List.mem_singleton.mpr rfl), O.refl b hb⟩
theorem keep_all {D : α → Prop} (O : Ord le D) (S : List α) (hD : ∀ x ∈ S, D x) (nd : S.Nodup) : ∀ i, i ≤ S.length → (∀ y ∈ S.take i, ∃ o ∈ tops le (S.take i), le y o = true) ∧ ∀ b, S[i]? = some b → keep le (tops le (S.take i)) b = tops le (S.take (i + 1))
  | 0, _ => ⟨fun y hy => (by simp at hy), fun b hb => by
      rw [List.take_add_one, hb]
      exact (keep_ok O (pre := S.take 0) (b := b) (fun x hx => hD x (List.mem_of_mem_take hx)) (hD b (List.mem_of_getElem? hb)) (by simp) (fun y hy => (by simp at hy))).1⟩
  | i + 1, hi => by
    have hlt : i < S.length := hi
    have ih := keep_all O S hD nd i (Nat.le_of_lt hlt)
    have dj : ∀ j b, S[j]? = some b → b ∉ S.take j := fun j b hb hm => by
      obtain ⟨k, hk, e⟩ := List.getElem_of_mem hm
      have hj := (List.getElem?_eq_some_iff.mp hb)
      have kj : k < j := by
        rw [List.length_take] at hk
        omega
      rw [List.getElem_take] at e
      obtain ⟨hj1, hj2⟩ := hj
      exact absurd (e.trans hj2.symm) (List.pairwise_iff_getElem.mp nd k j (by omega) hj1 kj)
    have hb := List.getElem?_eq_getElem hlt
    generalize S[i] = b at hb
    have ok := keep_ok O (pre := S.take i) (b := b) (fun x hx => hD x (List.mem_of_mem_take hx)) (hD b (List.mem_of_getElem? hb)) (dj i b hb) ih.1
    have e : S.take (i + 1) = S.take i ++ [b] := by
      rw [List.take_add_one, hb]
      rfl
    rw [← e] at ok
    refine ⟨ok.2, fun c hc => ?_⟩
    rw [List.take_add_one (i := i + 1), hc]
    exact (keep_ok O (pre := S.take (i + 1)) (b := c) (fun x hx => hD x (List.mem_of_mem_take hx)) (hD c (List.mem_of_getElem? hc)) (dj _ _ hc) ok.2).1
theorem tops_cov {D : α → Prop} (O : Ord le D) {S : List α} (hD : ∀ x ∈ S, D x) (nd : S.Nodup) : ∀ y ∈ S, ∃ o ∈ tops le S, le y o = true := by
  have h := (keep_all O S hD nd S.length (Nat.le_refl _)).1
  rw [List.take_length] at h
  exact h
theorem tops_self {S : List α} (h : ∀ x ∈ S, ∀ y ∈ S, y ≠ x → le x y = false) : tops le S = S := List.filter_eq_self.mpr fun x hx => by
  rw [Bool.not_eq_true', List.any_eq_false]
  intro y hy
  by_cases e : y = x
  · simp [e]
  · simp [e, h x hx y hy e]
theorem tops_tops {S : List α} : tops le (tops le S) = tops le S := tops_self fun x hx y hy => (mem_tops.mp hx).2 y (mem_tops.mp hy).1
end

/-! ### ascending rows -/
abbrev Asc (S : List (List Int)) : Prop := S.Pairwise fun q r => lx q r = true
theorem Asc.nd {S : List (List Int)} (h : Asc S) : S.Nodup := h.imp fun {x y} z e => by
  rw [e, lx_irr] at z
  cases z
theorem asc_uniq : ∀ {S T : List (List Int)}, Asc S → Asc T → (∀ k, k ∈ S ↔ k ∈ T) → S = T
  | [], [], _, _, _ => rfl
  | [], t :: T, _, _, h => absurd ((h t).mpr (.head _)) (by simp)
  | s :: S, [], _, _, h => absurd ((h s).mp (.head _)) (by simp)
  | s :: S, t :: T, h1, h2, h => by
    obtain ⟨a1, a2⟩ := List.pairwise_cons.mp h1
    obtain ⟨b1, b2⟩ := List.pairwise_cons.mp h2
    have e : s = t := by
      rcases List.mem_cons.mp ((h s).mp (.head _)) with e | m1
      · exact e
      · rcases List.mem_cons.mp ((h t).mpr (.head _)) with e | m2
        · exact e.symm
        · have := lx_asym _ _ (a1 t m2)
          rw [b1 s m1] at this
          cases this
    subst e
    rw [asc_uniq a2 b2 fun k => ?_]
    constructor
    · intro hk
      rcases List.mem_cons.mp ((h k).mp (.tail _ hk)) with e | m
      · subst e
        have := a1 k hk
        rw [lx_irr] at this
        cases this
      · exact m
    · intro hk
      rcases List.mem_cons.mp ((h k).mpr (.tail _ hk)) with e | m
      · subst e
        have := b1 k hk
        rw [lx_irr] at this
        cases this
      · exact m
theorem Asc.tops {le : List Int → List Int → Bool} {S : List (List Int)} (h : Asc S) : Asc (tops le S) := List.Pairwise.filter _ h
theorem asc_of {S : List (List Int)} (h : S.Pairwise fun q r => lx r q = false) (nd : S.Nodup) : Asc S := by
  refine List.Pairwise.imp ?_ (nd.and h)
  rintro x y ⟨h1, h2⟩
  cases h3 : lx x y with
  | true => rfl
  | false => exact absurd (lx_tot x y h3 h2) h1
end Zt

/-! comprehensions over tuples of data; what is told of sets, pairs, moves -/
namespace Dt
open PySem PySem.Spec PyProof.Rows L2 Sh
theorem DAll.getD {H : Hp} {vs : List V} {ds : List PyData} {i : Nat} {v : V} {d : PyData} (a : DAll H vs ds) (e : vs[i]? = some v) (e2 : ds[i]? = some d) : D H v d := by
  obtain ⟨d', h1, h2⟩ := a.get e
  rw [e2] at h1
  cases h1
  exact h2
section
variable {K : PySem.W.Frag} {a : Addr} {xs : List V} {ds : List PyData} {f : PyData → Bool} {g : TG} {tt : TT} {te : TE} {vs : List Nat} {σ : L2.St} {H : Hp} {E : Addr} {Qd : Hp → Prop}
/-- [ask(one) for one in t] -/
theorem lc_all (hE : H E = none) (ha : H a = some (.tup xs)) (hd : DAll H xs ds) (hl : xs.length ≤ 1000)
    (step : ∀ (x : V) (d : PyData) (H2 : Hp), D H2 x d → d ∈ ds → Same H H2 → ∀ R : VK, (∀ H3, Same H2 H3 → R (.bl (f d)) H3) → g x (wipe σ vs) H2 fun σ2 H3 => wipe σ2 vs = wipe σ vs ∧ te σ2 H3 R)
    (fin : ∀ H3, Same H H3 → H3 E = some (.lst ((ds.map f).map V.bl)) → Qd H3) :
    ∃ W : Nat → Nat → Hp → Prop, (∃ m, W 0 m (upd H E (HO.lst []))) ∧ ∀ (i m : Nat) (H : Hp), W i m H → (Itt K a).stop i H ∧ Qd H ∨ (Itt K a).go i H ∧ ∃ Nx : Hp → Prop, (∀ (H' : Hp), Nx H' → ∃ m', m' < m ∧ W (i + 1) m' H') ∧ ∀ (x : V) (H' : Hp), (Itt K a).yld i H x H' →
      g x (wipe σ vs) H' fun σ2 H2 => wipe σ2 vs = wipe σ vs ∧ tYes σ2 H2 fun b H3 => if b = true then te σ2 H3 fun y H4 => ∃ acc, H4 E = some (HO.lst acc) ∧ acc.length < sizeLine ∧ Nx (upd H4 E (HO.lst (acc ++ [y]))) else Nx H3 := by
  have ln := hd.len
  refine lc_tup (xs := xs) (fun i H1 => Same H H1 ∧ H1 E = some (.lst (((ds.take i).map f).map V.bl))) ⟨same_new (Same.refl H) hE, upd_same⟩ (fun i H1 _ hq => .inl (.inl (hq.1 _ _ ha))) (fun i x H1 hx hq => ?_) (fun H1 hq => ?_)
  · obtain ⟨s1, l1⟩ := hq
    obtain ⟨d, hdi, hxd⟩ := hd.get hx
    refine step x d H1 (hxd.same s1) (List.mem_of_getElem? hdi) s1 _ fun H3 s3 => ⟨_, s3 _ _ l1, ?_, same_put (s1.trans s3) hE, ?_⟩
    · rw [List.length_map, List.length_map, List.length_take]
      exact small1000 (Nat.le_trans (Nat.min_le_left _ _) (by have := (List.getElem?_eq_some_iff.mp hx).1; omega))
    · rw [upd_same, List.take_add_one, hdi, List.map_append, List.map_append]
      rfl
  · obtain ⟨s1, l1⟩ := hq
    rw [ln, List.take_of_length_le (Nat.le_refl _)] at l1
    exact fin H1 s1 l1
/-- [one for one in t if not ask(one)] -/
theorem lc_bad (hE : H E = none) (ha : H a = some (.tup xs)) (hd : DAll H xs ds) (hl : xs.length ≤ 1000)
    (step : ∀ (x : V) (d : PyData) (H2 : Hp), D H2 x d → d ∈ ds → Same H H2 → ∀ (N : V → Hp → Prop) (M : Hp → Prop), (∀ H3, Same H2 H3 → if f d = true then M H3 else N x H3) → g x (wipe σ vs) H2 fun σ2 H3 => wipe σ2 vs = wipe σ vs ∧ tt σ2 H3 fun b H4 => if b = true then te σ2 H4 N else M H4)
    (fin : ∀ H3 ys, Same H H3 → H3 E = some (.lst ys) → ys.isEmpty = ds.all f → Qd H3) :
    ∃ W : Nat → Nat → Hp → Prop, (∃ m, W 0 m (upd H E (HO.lst []))) ∧ ∀ (i m : Nat) (H : Hp), W i m H → (Itt K a).stop i H ∧ Qd H ∨ (Itt K a).go i H ∧ ∃ Nx : Hp → Prop, (∀ (H' : Hp), Nx H' → ∃ m', m' < m ∧ W (i + 1) m' H') ∧ ∀ (x : V) (H' : Hp), (Itt K a).yld i H x H' →
      g x (wipe σ vs) H' fun σ2 H2 => wipe σ2 vs = wipe σ vs ∧ tt σ2 H2 fun b H3 => if b = true then te σ2 H3 fun y H4 => ∃ acc, H4 E = some (HO.lst acc) ∧ acc.length < sizeLine ∧ Nx (upd H4 E (HO.lst (acc ++ [y]))) else Nx H3 := by
  have ln := hd.len
  refine lc_tup (xs := xs) (fun i H1 => Same H H1 ∧ ∃ ys, H1 E = some (.lst ys) ∧ ys.length ≤ i ∧ ys.isEmpty = (ds.take i).all f) ⟨same_new (Same.refl H) hE, [], upd_same, Nat.le_refl _, by simp⟩ (fun i H1 _ hq => .inl (.inl (hq.1 _ _ ha))) (fun i x H1 hx hq => ?_) (fun H1 hq => ?_)
  · obtain ⟨s1, ys, l1, l2, l3⟩ := hq
    obtain ⟨d, hdi, hxd⟩ := hd.get hx
    have hi := (List.getElem?_eq_some_iff.mp hx).1
    refine step x d H1 (hxd.same s1) (List.mem_of_getElem? hdi) s1 _ _ fun H3 s3 => ?_
    have e1 : (ds.take (i + 1)).all f = ((ds.take i).all f && f d) := by
      rw [List.take_add_one, hdi, List.all_append]
      simp
    cases e : f d with
    | true =>
      rw [if_pos rfl]
      exact ⟨s1.trans s3, ys, s3 _ _ l1, by omega, by rw [e1, e, Bool.and_true, l3]⟩
    | false =>
      rw [if_neg (by decide)]
      refine ⟨ys, s3 _ _ l1, small1000 (by omega), same_put (s1.trans s3) hE, ys ++ [x], upd_same, by rw [List.length_append]; simp; omega, ?_⟩
      rw [e1, e, Bool.and_false]
      cases ys <;> rfl
  · obtain ⟨s1, ys, l1, l2, l3⟩ := hq
    rw [ln, List.take_of_length_le (Nat.le_refl _)] at l3
    exact fin H1 ys s1 l1 l3
end
/-! ### what the looks tell -/
def g1 (c : Nat) : Bool := !decide ((⟨#[c]⟩ : Str).cps.toList < (Str.ofString "a").cps.toList)
def g2 (c : Nat) : Bool := !decide ((Str.ofString "z").cps.toList < (⟨#[c]⟩ : Str).cps.toList)
def gg (c : Nat) : Bool := g1 c && g2 c
def nameOf (z : Str) : Bool := decide (1 ≤ z.length) && decide (z.length ≤ 8) && (z.cps.toList.map gg).all id
def isN : PyData → Bool
  | .int _ => true
  | _ => false
theorem isN_eq (d : PyData) : isN d = (isI d && !isB d) := by cases d <;> rfl
def isNum (n : Int) : PyData → Bool
  | .int i => decide (0 ≤ i) && decide (i < n)
  | _ => false
def intOf : PyData → Int
  | .int i => i
  | _ => 0
def rowOf : PyData → List Int
  | .tuple ds => ds.map intOf
  | _ => []
/-- each beside the next one -/
def adj {α : Type} (lt : α → α → Bool) : List α → List Bool
  | a :: b :: r => lt a b :: adj lt (b :: r)
  | _ => []
theorem adj_len {α : Type} (lt : α → α → Bool) : ∀ xs : List α, (adj lt xs).length = xs.length - 1
  | [] => rfl
  | [_] => rfl
  | a :: b :: r => by
    have := adj_len lt (b :: r)
    simp only [adj, List.length_cons] at this ⊢
    omega
theorem adj_at {α : Type} (lt : α → α → Bool) : ∀ (xs : List α) (i : Nat) (a b : α), xs[i]? = some a → xs[i + 1]? = some b → (adj lt xs)[i]? = some (lt a b)
  | [], i, a, b, e, _ => by simp at e
  | [x], i, a, b, _, e => by simp at e
  | x :: y :: r, 0, a, b, e1, e2 => by
    simp at e1 e2
    subst e1 e2
    rfl
  | x :: y :: r, i + 1, a, b, e1, e2 => by
    have := adj_at lt (y :: r) i a b (by simpa using e1) (by simpa using e2)
    simpa [adj] using this
def asc {α : Type} (lt : α → α → Bool) (xs : List α) : Bool := (adj lt xs).all id
theorem asc_pw {α : Type} {lt : α → α → Bool} (tr : ∀ x y z, lt x y = true → lt y z = true → lt x z = true) : ∀ xs : List α, asc lt xs = true ↔ xs.Pairwise fun x y => lt x y = true
  | [] => by simp [asc, adj]
  | [_] => by simp [asc, adj]
  | a :: b :: r => by
    have ih := asc_pw tr (b :: r)
    have e : asc lt (a :: b :: r) = (lt a b && asc lt (b :: r)) := by simp [asc, adj]
    rw [e, Bool.and_eq_true, ih, List.pairwise_cons (a := a)]
    constructor
    · rintro ⟨h1, h2⟩
      refine ⟨fun z hz => ?_, h2⟩
      rcases List.mem_cons.mp hz with rfl | hz
      · exact h1
      · exact tr _ _ _ h1 ((List.pairwise_cons.mp h2).1 z hz)
    · rintro ⟨h1, h2⟩
      exact ⟨h1 b List.mem_cons_self, h2⟩
def ltI (x y : Int) : Bool := decide (x < y)
def isSet (n : Int) : PyData → Bool
  | .tuple ds => !ds.isEmpty && ds.all (isNum n) && asc ltI (ds.map intOf)
  | _ => false
def isPair (n : Int) : PyData → Bool
  | .tuple [a, b] => isNum n a && isNum n b
  | _ => false
def isPairs (n : Int) : PyData → Bool
  | .tuple ds => !ds.isEmpty && ds.all (isPair n) && asc HT.lexLt (ds.map rowOf)
  | _ => false
theorem ints_of_all {n : Int} : ∀ {ds : List PyData}, ds.all (isNum n) = true → ds = (ds.map intOf).map PyData.int
  | [], _ => rfl
  | d :: r, h => by
    rw [List.all_cons, Bool.and_eq_true] at h
    rw [List.map_cons, List.map_cons, ← ints_of_all h.2]
    cases d with
    | int i => rfl
    | _ => exact absurd h.1 (by intro z; cases z)
theorem vals_ints {H : Hp} : ∀ {vs : List V} {ns : List Int}, DAll H vs (ns.map PyData.int) → vs = ns.map V.int
  | _, [], a => by
    cases a
    rfl
  | _, n :: ns, a => by
    cases a with
    | cons h t =>
      cases h
      rw [List.map_cons, vals_ints t]
theorem ints_vals {H : Hp} : ∀ ns : List Int, DAll H (ns.map V.int) (ns.map PyData.int)
  | [] => .nil
  | n :: ns => .cons (.int n) (ints_vals ns)
/-- rows of whole numbers -/
theorem rows_of_all {n : Int} : ∀ {ds : List PyData}, ds.all (isPair n) = true → ds = (ds.map rowOf).map Zt.rowD
  | [], _ => rfl
  | d :: r, h => by
    rw [List.all_cons, Bool.and_eq_true] at h
    rw [List.map_cons, List.map_cons, ← rows_of_all h.2]
    congr 1
    match d, h.1 with
    | .tuple [a, b], h1 =>
      have h1 : (isNum n a && isNum n b) = true := h1
      rw [Bool.and_eq_true] at h1
      match a, b, h1 with
      | .int i, .int j, _ => rfl
theorem vals_rows {H : Hp} : ∀ {vs : List V} {ks : List (List Int)}, DAll H vs (ks.map Zt.rowD) → ∃ ps : List (Addr × List Int), vs = Zt.refs ps ∧ Zt.keys ps = ks ∧ ∀ p ∈ ps, H p.1 = some (.tup (p.2.map V.int))
  | _, [], a => by
    cases a
    exact ⟨[], rfl, rfl, fun p hp => nomatch hp⟩
  | _, k :: ks, a => by
    cases a with
    | cons h t =>
      cases h with
      | @tup p xs ds e a =>
        obtain ⟨ps, h1, h2, h3⟩ := vals_rows t
        rw [vals_ints a] at e
        exact ⟨(p, k) :: ps, by rw [h1]; rfl, by rw [← h2]; rfl, fun q hq => by
          rcases List.mem_cons.mp hq with rfl | hq
          · exact e
          · exact h3 q hq⟩
theorem rows_vals {H : Hp} : ∀ {ps : List (Addr × List Int)}, (∀ p ∈ ps, H p.1 = some (.tup (p.2.map V.int))) → DAll H (Zt.refs ps) ((Zt.keys ps).map Zt.rowD)
  | [], _ => .nil
  | p :: ps, h => .cons (.tup (h p List.mem_cons_self) (ints_vals _)) (rows_vals fun q hq => h q (List.mem_cons_of_mem _ hq))
def rLtA (K : PySem.W.Frag) : R2 := fun x y H Q => (∃ i j, x = .int i ∧ y = .int j ∧ Q (.bl (ltI i j)) H) ∨ ∃ a b ns ms, x = .ref a ∧ y = .ref b ∧ SqT K H a (ns.map V.int) ∧ SqT K H b (ms.map V.int) ∧ Q (.bl (HT.lexLt ns ms)) H
theorem op_ltA {X : Cx} (hu : X.A.units < cLine) : OpR X (compareOp .Lt) (rLtA X.K) := OpR.or op_lt (op_ltT hu)
theorem lex_lx : ∀ r q : List Int, HT.lexLt r q = Zt.lx r q
  | [], [] => rfl
  | [], _ :: _ => rfl
  | _ :: _, [] => rfl
  | a :: r, b :: q => by
    show (if a = b then HT.lexLt r q else decide (a < b)) = if a = b then Zt.lx r q else decide (a < b)
    rw [lex_lx r q]
theorem ltI_tr : ∀ x y z : Int, ltI x y = true → ltI y z = true → ltI x z = true := fun x y z h1 h2 => decide_eq_true (by
  have h1 := of_decide_eq_true h1
  have h2 := of_decide_eq_true h2
  omega)
theorem lex_tr : ∀ x y z : List Int, HT.lexLt x y = true → HT.lexLt y z = true → HT.lexLt x z = true := fun x y z h1 h2 => by
  rw [lex_lx] at *
  cases e : Zt.lx x z with
  | true => rfl
  | false =>
    have h3 := Zt.lx_asym _ _ h2
    have h4 := Zt.lx_tr y x z
    have h5 := Zt.lx_asym _ _ h1
    exfalso
    cases e2 : Zt.lx z x with
    | false =>
      have := Zt.lx_tot _ _ e e2
      subst this
      rw [h5] at h2
      cases h2
    | true =>
      have := Zt.lx_tr x y z
      have h6 := Zt.lx_tr y z x
      have h7 : Zt.lx x y = false := Zt.lx_tr y z x h3 e
      rw [h7] at h1
      cases h1
theorem ints_uniq : ∀ {S T : List Int}, (S.Pairwise fun x y => ltI x y = true) → T.Pairwise (· < ·) → (∀ k, k ∈ S ↔ k ∈ T) → S = T
  | [], [], _, _, _ => rfl
  | [], t :: T, _, _, h => absurd ((h t).mpr (.head _)) (by simp)
  | s :: S, [], _, _, h => absurd ((h s).mp (.head _)) (by simp)
  | s :: S, t :: T, h1, h2, h => by
    obtain ⟨a1, a2⟩ := List.pairwise_cons.mp h1
    obtain ⟨b1, b2⟩ := List.pairwise_cons.mp h2
    have a1' : ∀ k ∈ S, s < k := fun k hk => of_decide_eq_true (a1 k hk)
    have e : s = t := by
      rcases List.mem_cons.mp ((h s).mp (.head _)) with e | m1
      · exact e
      · rcases List.mem_cons.mp ((h t).mpr (.head _)) with e | m2
        · exact e.symm
        · have := a1' t m2
          have := b1 s m1
          omega
    subst e
    rw [ints_uniq a2 b2 fun k => ?_]
    constructor
    · intro hk
      rcases List.mem_cons.mp ((h k).mp (.tail _ hk)) with e | m
      · have := a1' k hk
        omega
      · exact m
    · intro hk
      rcases List.mem_cons.mp ((h k).mpr (.tail _ hk)) with e | m
      · have := b1 k hk
        omega
      · exact m
/-- what sorted(set(..)) of whole numbers tells -/
theorem same_ints {ns S : List Int} (h1 : S.Pairwise (· < ·)) (h2 : ∀ k, k ∈ S ↔ k ∈ ns) : decide (ns = S) = asc ltI ns := by
  cases e : asc ltI ns with
  | true => exact decide_eq_true (ints_uniq ((asc_pw ltI_tr ns).mp e) h1 fun k => (h2 k).symm)
  | false =>
    refine decide_eq_false fun z => ?_
    subst z
    rw [(asc_pw ltI_tr ns).mpr (h1.imp fun {x y} h => decide_eq_true h)] at e
    cases e
theorem same_rows {ks S : List (List Int)} (h1 : Zt.Asc S) (h2 : ∀ k, k ∈ S ↔ k ∈ ks) : decide (ks = S) = asc HT.lexLt ks := by
  cases e : asc HT.lexLt ks with
  | true => exact decide_eq_true (Zt.asc_uniq (((asc_pw lex_tr ks).mp e).imp fun {x y} h => by rw [← lex_lx]; exact h) h1 fun k => (h2 k).symm)
  | false =>
    refine decide_eq_false fun z => ?_
    subst z
    rw [(asc_pw lex_tr ks).mpr (h1.imp fun {x y} h => by rw [lex_lx]; exact h)] at e
    cases e
theorem eqv_ints (ns ms : List Int) : PyData.eqv (.list (ns.map PyData.int)) (.list (ms.map PyData.int)) = decide (ns = ms) := by
  simp only [PyData.eqv]
  exact eqvAll_ints ns ms
theorem eqv_rows (ns ms : List (List Int)) : PyData.eqv (.list (ns.map Zt.rowD)) (.list (ms.map Zt.rowD)) = decide (ns = ms) := by
  simp only [PyData.eqv]
  exact Zt.eqRows ns ms
/-! ### not too long -/
mutual
def sm : PyData → Bool
  | .str z => decide (z.length ≤ 1000) && PyData.strOk z
  | .list xs => decide (xs.length ≤ 60) && smAll xs
  | .tuple xs => decide (xs.length ≤ 60) && smAll xs
  | _ => true
def smAll : List PyData → Bool
  | [] => true
  | d :: r => sm d && smAll r
end
theorem smAll_mem : ∀ {ds : List PyData}, smAll ds = true ↔ ∀ d ∈ ds, sm d = true
  | [] => by simp [smAll]
  | d :: r => by simp [smAll, smAll_mem (ds := r)]
theorem sm_tup {ds : List PyData} : sm (.tuple ds) = true ↔ ds.length ≤ 60 ∧ ∀ d ∈ ds, sm d = true := by
  simp only [sm, Bool.and_eq_true, decide_eq_true_iff, smAll_mem]
def nameD : PyData → Bool
  | .str t => nameOf t
  | _ => false
def isMove (p n : Int) : PyData → Bool
  | .tuple (w :: a :: x :: r) => isNum p a && (if PyData.eqv w (.str "leave") then r.isEmpty && isSet n x else isNum p x && (if PyData.eqv w (.str "go") then (match r with | [y] => isPairs n y | _ => false) else strIn w ["call", "post"] && (match r with | [y, z] => nameD y && isSet n z | _ => false)))
  | _ => false
end Dt

namespace My
open PySem PySem.Spec PyProof.Rows L2 Sh Dt

abbrev topS (i : Nat) : Stmt := PySem.Challenge.pw_postedbag_k12_posts_left_out.main.body.getD i (.Pass ⟨0, 0, 0, 0⟩)
abbrev s_law_numbers : Stmt := topS 38
abbrev Nlaw_numbers : List Str := ["script", "at", "cell", "whole", "mixed"]
theorem sc_law_numbers : FnScope Nlaw_numbers ["script", "at"] (defScope s_law_numbers) := ⟨rfl, rfl, rfl, by decide +kernel, rfl, by decide +kernel, by decide +kernel⟩
abbrev s_law_cast : Stmt := topS 39
abbrev Nlaw_cast : List Str := ["die", "total", "found", "one", "two"]
theorem sc_law_cast : FnScope Nlaw_cast ["die", "total"] (defScope s_law_cast) := ⟨rfl, rfl, rfl, by decide +kernel, rfl, by decide +kernel, by decide +kernel⟩
abbrev s_law_pick : Stmt := topS 40
abbrev Nlaw_pick : List Str := ["die", "items"]
theorem sc_law_pick : FnScope Nlaw_pick ["die", "items"] (defScope s_law_pick) := ⟨rfl, rfl, rfl, by decide +kernel, rfl, by decide +kernel, by decide +kernel⟩
section
variable {P : Program} {w : World} {K : PySem.W.Frag} {mg : Str → Option Value} {base : Heap}
theorem ok_numbers {f : Addr} {fd : FuncData} {k : Nat} (F : Fun K "_law_numbers" "_law_numbers" s_law_numbers f fd) (m_len : mg "len" = none) (m_int : mg "int" = none) (m_abs : mg "abs" = none) (m_max : mg "max" = none) :
    FnOk P w K mg base CX0 (k + 1) f fd ["script", "at"] (spNumbers K) := by
  refine F.ok sc_law_numbers (fun vs H Q E h => ?_) (fun cdv A outer s H vs Q E hr h => ?_)
  · obtain ⟨a, ns, i, rfl, _⟩ := h
    rfl
  · obtain ⟨a, ns, i, rfl, hi0, hS, q⟩ := h
    obtain ⟨i, rfl⟩ := Int.eq_ofNat_of_zero_le hi0
    refine ⟨_, (C8.pss_cut (ps_set (i := 2) sc_law_numbers.nd rfl (by first | exact Or.inl rfl | exact Or.inr rfl) (pe_ifExp (pt_cmpR op_lt (pv 1) (pe_callB call_len_seq (by rfl) m_len (by decide +kernel) (pa_cons (pv 0) pa_nil)) (nomark _)) (pe_ix ix_list (pv 0) (pv 1) (fun _ _ => rfl)) (pe_op op_add (pe_op op_mul pe_int (pv 1)) pe_int)))
      (pss_cons (ps_set (i := 3) sc_law_numbers.nd rfl (by first | exact Or.inl rfl | exact Or.inr rfl) (pe_op op_mod (pe_callTy call_int1 (by rfl) m_int (by decide +kernel) (pa_cons (pe_callB call_abs (by rfl) m_abs (by decide +kernel) (pa_cons (pv 2) pa_nil)) pa_nil)) (pe_op op_powB (pe_op op_powB pe_int pe_int) pe_int)))
      (pss_cons (ps_set (i := 4) sc_law_numbers.nd rfl (by first | exact Or.inl rfl | exact Or.inr rfl) (pe_op op_add (pe_op op_add (pe_op op_add (pe_op op_mul (pv 3) pe_int) (pe_op op_mul pe_int (pv 1))) (pe_op op_mul pe_int (pe_callTy call_int1 (by rfl) m_int (by decide +kernel) (pa_cons (pe_cmpR op_lt (pv 2) pe_int (nomark _)) pa_nil)))) pe_int))
      (pss_one (ps_ret (pe_lst (pa_cons (pe_callB (call_max2 rfl) (by rfl) m_max (by decide +kernel) (pa_cons pe_int (pa_cons (pe_op op_sub (pv 3) (pe_op op_powB pe_int pe_int)) pa_nil))) (pa_cons (pe_op op_mod (pe_callTy call_int1 (by rfl) m_int (by decide +kernel) (pa_cons (pv 4) pa_nil)) pe_int) (pa_cons pe_int pa_nil))))))))), ?_⟩
    refine ⟨fun σ' H' => ∃ c : Int, σ' = [some (.ref a), some (.int i), some (.int c), none, none] ∧ H' = H, ?_, fun σ' H' hM => ?_⟩
    · refine ⟨.int i, rfl, .ref a, rfl, a, ns.map V.int, rfl, .inl hS, i, _, rfl, rfl, _, rfl, ite2 (fun e => ?_) (fun e => ?_)⟩
      · have hi : i < ns.length := by
          have := of_decide_eq_true e
          rw [List.length_map] at this
          omega
        refine ⟨.ref a, rfl, .int i, rfl, a, _, i, .int ns[i], rfl, rfl, hS, atI_nat (by rw [List.getElem?_map, List.getElem?_eq_getElem hi]; rfl), ?_⟩
        exact ⟨_, rfl, rfl⟩
      · refine ⟨.int i, rfl, 67, i, rfl, rfl, .inl ⟨by decide, by decide⟩, 67 * i, 23, rfl, rfl, ?_⟩
        exact ⟨_, rfl, rfl⟩
    · obtain ⟨c, rfl, rfl⟩ := hM
      refine ⟨.int c, rfl, c, rfl, .inl ⟨_, rfl, 10, 57, rfl, rfl, ⟨by decide, by decide +kernel⟩, _, 11, rfl, rfl, ⟨by decide, by decide +kernel⟩, _, _, rfl, rfl, (by show (0 : Int) < (10 ^ (57 : Int).toNat) ^ (11 : Int).toNat; decide +kernel), ?_⟩⟩
      show tSeq _ _ _ [_, _, _, some (.int ((if c < 0 then -c else c) % (10 ^ (57 : Int).toNat) ^ (11 : Int).toNat)), _] _
      generalize (if c < 0 then -c else c) % (10 ^ (57 : Int).toNat) ^ (11 : Int).toNat = wh
      refine ⟨.int wh, rfl, wh, 1000151, rfl, rfl, .inr ⟨by decide, by decide⟩, .int i, rfl, 8243, i, rfl, rfl, .inl ⟨by decide, by decide⟩, _, _, rfl, rfl, .int c, rfl, c, 0, rfl, rfl, .inr ⟨_, rfl, 43, _, rfl, rfl, .inl ⟨by decide, by decide⟩, _, _, rfl, rfl, _, 9, rfl, rfl, ?_⟩⟩
      refine ⟨.int wh, rfl, 10, 16, rfl, rfl, ⟨by decide, by decide +kernel⟩, _, _, rfl, rfl, 0, _, rfl, _, rfl, .inl ⟨_, rfl, _, _, rfl, rfl, (by show (0 : Int) < 1152921504606846877; decide), by show 3 ≤ sizeLine; decide, fun p hp => ?_⟩⟩
      exact q p _ _ hp
theorem ok_cast {f : Addr} {fd : FuncData} {k : Nat} (F : Fun K "_law_cast" "_law_cast" s_law_cast f fd) (m_int : mg "int" = none) :
    FnOk P w K mg base CX0 (k + 1) f fd ["die", "total"] spCast := by
  refine F.ok sc_law_cast (fun vs H Q E h => ?_) (fun cdv A outer s H vs Q E hr h => ?_)
  · obtain ⟨d, n, rfl, _⟩ := h
    rfl
  · obtain ⟨d, n, rfl, ⟨a, b, c, hD⟩, n0, n1, q⟩ := h
    have sq : SqL K H d [.int a, .int b, .int c] := .inl (.inl hD)
    refine ⟨_, (pss_cons (ps_if (pt_cmpR op_gt (pe_ix ix_list (pv 0) pe_int (fun _ _ => rfl)) pe_int (nomark _))
        (pss_cons (ps_set (i := 2) sc_law_cast.nd rfl (by first | exact Or.inl rfl | exact Or.inr rfl) (pe_op op_mod (pe_callTy call_int1 (by rfl) m_int (by decide +kernel) (pa_cons (pe_ix ix_list (pv 0) pe_int (fun _ _ => rfl)) pa_nil)) (pv 1)))
        (pss_cons (ps_asg (pe_op op_fdiv (pe_ix ix_list (pv 0) pe_int (fun _ _ => rfl)) (pv 1)) (pg_sub (pv 0) pe_int set_list))
        (pss_one (ps_ret (pv 2)))))
        pss_nil)
      (pss_cons (ps_asg (pe_op op_add (pe_ix ix_list (pv 0) pe_int (fun _ _ => rfl)) pe_int) (pg_sub (pv 0) pe_int set_list))
      (pss_cons (ps_set (i := 3) sc_law_cast.nd rfl (by first | exact Or.inl rfl | exact Or.inr rfl) (pe_op op_mod (pe_callTy call_int1 (by rfl) m_int (by decide +kernel) (pa_cons (pe_op op_add (pe_ix ix_list (pv 0) pe_int (fun _ _ => rfl)) (pe_op op_mul pe_int (pe_ix ix_list (pv 0) pe_int (fun _ _ => rfl)))) pa_nil)) pe_int))
      (pss_cons (ps_set (i := 4) sc_law_cast.nd rfl (by first | exact Or.inl rfl | exact Or.inr rfl) (pe_op op_add (pe_op op_mul (pe_op op_mod (pe_callTy call_int1 (by rfl) m_int (by decide +kernel) (pa_cons (pe_op op_mul (pv 3) (pv 3)) pa_nil)) pe_int) (pv 3)) (pe_op op_mul pe_int (pe_ix ix_list (pv 0) pe_int (fun _ _ => rfl)))))
      (pss_one (ps_ret (pe_op op_mod (pe_callTy call_int1 (by rfl) m_int (by decide +kernel) (pa_cons (pe_op op_fdiv (pe_op op_mod (pe_callTy call_int1 (by rfl) m_int (by decide +kernel) (pa_cons (pe_op op_add (pv 4) (pe_ix ix_list (pv 0) pe_int (fun _ _ => rfl))) pa_nil)) pe_int) pe_int) pa_nil)) (pv 1)))))))), ?_⟩
    refine ⟨.ref d, rfl, d, _, 0, .int a, rfl, rfl, sq, rfl, _, 0, rfl, rfl, _, rfl, ite2 (fun e => ?_) (fun e => ?_)⟩
    · refine ⟨.ref d, rfl, d, _, 0, .int a, rfl, rfl, sq, rfl, .inl ⟨a, rfl, .int n, rfl, a, n, rfl, rfl, n0, ?_⟩⟩
      refine ⟨.ref d, rfl, d, _, 0, .int a, rfl, rfl, sq, rfl, .int n, rfl, a, n, rfl, rfl, ⟨n0, n1⟩, .ref d, rfl, d, _, 0, 0, rfl, rfl, hD, rfl, ?_⟩
      refine ⟨_, rfl, ?_⟩
      have h1 : 0 ≤ a % n := Int.emod_nonneg _ (by omega)
      have h2 : a % n < n := Int.emod_lt_of_pos _ n0
      have h3 := q (a % n).toNat (upd H d (.lst [.int (a / n), .int b, .int c])) (by omega) ⟨_, _, _, rfl⟩
      rw [Int.toNat_of_nonneg h1] at h3
      exact h3
    · refine ⟨.ref d, rfl, d, _, 2, .int c, rfl, rfl, sq, rfl, c, 1, rfl, rfl, .ref d, rfl, d, _, 2, 2, rfl, rfl, hD, rfl, ?_⟩
      have sq2 : SqL K (upd H d (.lst [.int a, .int b, .int (c + 1)])) d [.int a, .int b, .int (c + 1)] := .inl (.inl upd_same)
      refine ⟨.ref d, rfl, d, _, 1, .int b, rfl, rfl, sq2, rfl, .ref d, rfl, d, _, 2, .int (c + 1), rfl, rfl, sq2, rfl, 654188429, c + 1, rfl, rfl, .inl ⟨by decide, by decide⟩, b, _, rfl, rfl, .inl ⟨_, rfl, _, _, rfl, rfl, (by show (0 : Int) < 2305843009213693913; decide), ?_⟩⟩
      have one0 : 0 ≤ (b + 654188429 * (c + 1)) % 2305843009213693913 := Int.emod_nonneg _ (by decide)
      have one1 : (b + 654188429 * (c + 1)) % 2305843009213693913 < 2305843009213693913 := Int.emod_lt_of_pos _ (by decide)
      show tSeq _ _ _ [_, _, _, some (.int ((b + 654188429 * (c + 1)) % 2305843009213693913)), _] _
      generalize (b + 654188429 * (c + 1)) % 2305843009213693913 = one at one0 one1
      refine ⟨.int one, rfl, .int one, rfl, one, one, rfl, rfl, .inl ⟨by omega, by omega⟩, .inl ⟨_, rfl, _, _, rfl, rfl, (by show (0 : Int) < 1152921504606846689; decide), .int one, rfl, _, one, rfl, rfl, .inr ⟨by omega, by omega⟩, .ref d, rfl, d, _, 2, .int (c + 1), rfl, rfl, sq2, rfl, 7213, c + 1, rfl, rfl, .inl ⟨by decide, by decide⟩, _, _, rfl, rfl, ?_⟩⟩
      refine ⟨_, rfl, .ref d, rfl, d, _, 1, .int b, rfl, rfl, sq2, rfl, _, b, rfl, rfl, .inl ⟨_, rfl, _, _, rfl, rfl, (by show (0 : Int) < 8796093022121; decide), _, 64, rfl, rfl, ⟨by decide, by decide⟩, .inl ⟨_, rfl, .int n, rfl, _, n, rfl, rfl, n0, ?_⟩⟩⟩
      show Q (.int ((one * one % 1152921504606846689 * one + 7213 * (c + 1) + b) % 8796093022121 / 64 % n)) _
      generalize (one * one % 1152921504606846689 * one + 7213 * (c + 1) + b) % 8796093022121 / 64 = x
      have h1 : 0 ≤ x % n := Int.emod_nonneg _ (by omega)
      have h2 : x % n < n := Int.emod_lt_of_pos _ n0
      have h3 := q (x % n).toNat (upd H d (.lst [.int a, .int b, .int (c + 1)])) (by omega) ⟨_, _, _, rfl⟩
      rw [Int.toNat_of_nonneg h1] at h3
      exact h3
theorem ok_pick {f fC : Addr} {fd fdC : FuncData} (F : Fun K "_law_pick" "_law_pick" s_law_pick f fd) (F__law_cast : Fun K "_law_cast" "_law_cast" s_law_cast fC fdC) (b__law_cast : Binds K fdC ["die", "total"] []) (g__law_cast : mg "_law_cast" = some (.ref fC)) (m_len : mg "len" = none) (m_int : mg "int" = none) :
    FnOk P w K mg base CX0 2 f fd ["die", "items"] (spPick K) := by
  have G__law_cast : FnOk P w K mg base CX0 1 fC fdC ["die", "total"] spCast := ok_cast F__law_cast m_int
  refine F.ok sc_law_pick (fun vs H Q E h => ?_) (fun cdv A outer s H vs Q E hr h => ?_)
  · obtain ⟨d, _, h⟩ := h
    rcases h with ⟨p, xs, rfl, _⟩ | ⟨z, rfl, _⟩ <;> rfl
  · obtain ⟨d, hD, h⟩ := h
    refine ⟨_, (pss_one (ps_ret (pe_ix ix_seq (pv 1) (pe_call G__law_cast (hr.mono (by decide)) (by rfl) g__law_cast F__law_cast.kp b__law_cast .nil pass0 (pa_cons (pv 0) (pa_cons (pe_callB (call_len_seq.or call_len_str) (by rfl) m_len (by decide +kernel) (pa_cons (pv 1) pa_nil)) pa_nil))) (fun _ _ => rfl)))), ?_⟩
    rcases h with ⟨p, xs, rfl, np, hS, h0, h1, q⟩ | ⟨z, rfl, h0, h1, q⟩
    · have h2 : 0 < xs.length := List.length_pos_iff.mpr h0
      refine ⟨.ref p, rfl, .ref d, rfl, .ref p, rfl, .inl ⟨p, xs, rfl, hS, d, _, rfl, hD, by omega, by omega, fun r H' hr' hN => ?_⟩⟩
      have hj : r < xs.length := by omega
      rcases hS with hS | hS
      · exact .inl ⟨p, xs, r, xs[r], rfl, rfl, hN.but.seq np hS, atI_nat (List.getElem?_eq_getElem hj), q r _ H' (List.getElem?_eq_getElem hj) hN⟩
      · exact .inr (.inl ⟨p, xs, r, xs[r], rfl, rfl, hN.but.seqT np hS, atI_nat (List.getElem?_eq_getElem hj), q r _ H' (List.getElem?_eq_getElem hj) hN⟩)
    · refine ⟨.str z, rfl, .ref d, rfl, .str z, rfl, .inr ⟨z, rfl, Nat.le_of_lt (small1000 h1), d, _, rfl, hD, by omega, by omega, fun r H' hr' hN => ?_⟩⟩
      have hj : r < z.cps.toList.length := by
        show r < z.cps.toList.length
        have : z.cps.toList.length = z.length := by simp [Str.length]
        omega
      exact .inr (.inr ⟨z, r, z.cps.toList[r], rfl, rfl, Nat.le_of_lt (small1000 h1), atI_nat (List.getElem?_eq_getElem hj), q r _ H' (List.getElem?_eq_getElem hj) hN⟩)
end

/-! ### words -/
theorem filter_all (l : List Nat) : (l.filter fun c => !gg c).isEmpty = (l.map gg).all id := by
  induction l with
  | nil => rfl
  | cons c r ih =>
    rw [List.map_cons, List.all_cons, List.filter_cons]
    cases e : gg c with
    | true => rw [if_neg (by decide)]; simpa using ih
    | false => rw [if_pos (by decide)]; rfl
/-- no text -/
def NoStr (H : Hp) (v : V) : Prop := v = .non ∨ (∃ i : Int, v = .int i) ∨ (∃ b, v = .bl b) ∨ (∃ p xs, v = .ref p ∧ H p = some (.lst xs)) ∨ (∃ p xs, v = .ref p ∧ H p = some (.tup xs)) ∨ ∃ p xs, v = .ref p ∧ H p = some (.dK xs)
/-- what is_name is asked -/
def Jud (H : Hp) (v : V) : Prop := (∃ z : Str, v = .str z ∧ z.length ≤ sizeLine) ∨ NoStr H v
theorem NoStr.ty {K : PySem.W.Frag} {H : Hp} {v : V} (h : NoStr H v) : ∃ T, TyX K H v (.type T) ∧ kitB T "str" = some false := by
  rcases h with rfl | ⟨i, rfl⟩ | ⟨b, rfl⟩ | ⟨p, xs, rfl, h⟩ | ⟨p, xs, rfl, h⟩ | ⟨p, xs, rfl, h⟩
  · exact ⟨_, .base .non, by decide +kernel⟩
  · exact ⟨_, .base (.int i), by decide +kernel⟩
  · exact ⟨_, .base (.bl b), by decide +kernel⟩
  · exact ⟨_, .base (.lst h), by decide +kernel⟩
  · exact ⟨_, .base (.tup h), by decide +kernel⟩
  · exact ⟨_, .base (.dK h), by decide +kernel⟩
theorem NoStr.same {H H' : Hp} {v : V} (s : Same H H') (h : NoStr H v) : NoStr H' v := by
  rcases h with h | h | h | ⟨p, xs, e, h⟩ | ⟨p, xs, e, h⟩ | ⟨p, xs, e, h⟩
  · exact .inl h
  · exact .inr (.inl h)
  · exact .inr (.inr (.inl h))
  · exact .inr (.inr (.inr (.inl ⟨p, xs, e, s _ _ h⟩)))
  · exact .inr (.inr (.inr (.inr (.inl ⟨p, xs, e, s _ _ h⟩))))
  · exact .inr (.inr (.inr (.inr (.inr ⟨p, xs, e, s _ _ h⟩))))
theorem Jud.same {H H' : Hp} {v : V} (s : Same H H') (h : Jud H v) : Jud H' v := h.imp id (NoStr.same s)
theorem Odd.jud {H : Hp} {v : V} (h : Odd H v) : Jud H v := by
  rcases h with (h | h | h | ⟨z, h, l⟩) | ⟨p, xs, e, h, _⟩ | ⟨p, e, h⟩ | ⟨p, e, h⟩
  · exact .inr (.inl h)
  · exact .inr (.inr (.inl h))
  · exact .inr (.inr (.inr (.inl h)))
  · exact .inl ⟨z, h, Nat.le_of_lt (small1000 (by omega))⟩
  · exact .inr (.inr (.inr (.inr (.inr (.inl ⟨p, xs, e, h⟩)))))
  · exact .inr (.inr (.inr (.inr (.inl ⟨p, _, e, h⟩))))
  · exact .inr (.inr (.inr (.inr (.inr (.inr ⟨p, _, e, h⟩)))))
def nameV : V → Bool
  | .str z => nameOf z
  | _ => false
def spName : Sp := fun vs H Q _ => ∃ v, vs = [v] ∧ Jud H v ∧ ∀ H', Same H H' → Q (.bl (nameV v)) H'
theorem jud_false {K : PySem.W.Frag} {H : Hp} {v : V} {T : String} (t : TyX K H v (.type T)) (k : kitB T "str" = some false) : nameV v = false := by
  cases v with
  | str z =>
    cases t with
    | base b =>
      cases b
      exact absurd k (by decide +kernel)
  | _ => rfl
abbrev s_is_name : Stmt := topS 3
abbrev Nis_name : List Str := ["value", "letter"]
theorem sc_is_name : FnScope Nis_name ["value"] (defScope s_is_name) := ⟨rfl, rfl, rfl, by decide +kernel, rfl, by decide +kernel, by decide +kernel⟩
abbrev Nlaw_is_word : List Str := ["value", "one"]
section
variable {P : Program} {w : World} {K : PySem.W.Frag} {mg : Str → Option Value} {base : Heap}
theorem ok_is_name {f : Addr} {fd : FuncData} {k : Nat} (F : Fun K "is_name" "is_name" s_is_name f fd) {tk : Tok} (m_isinstance : mg "isinstance" = none) (m_str : mg "str" = none) (m_len : mg "len" = none) (m_all : mg "all" = none) (g_LONGEST_NAME : mg "LONGEST_NAME" = some (.int 8 tk)) :
    FnOk P w K mg base CX0 (k + 1) f fd ["value"] spName := by
  refine F.ok sc_is_name (fun vs H Q E h => ?_) (fun cdv A outer s H vs Q E hr h => ?_)
  · obtain ⟨v, rfl, _⟩ := h
    rfl
  · obtain ⟨v, rfl, hJ, q⟩ := h
    refine ⟨_, (pss_cons (ps_if (PW.pt (pw_or (pt_not (pt_val (pe_callB call_isi (by rfl) m_isinstance (by decide +kernel) (pa_cons (pv 0) (pa_cons (pe_bltn (v := .ty "str") (by rfl) m_str (by decide +kernel) rfl) pa_nil))))) (pw_or1 (pt_not (pt_chain op_le op_le pe_int (pe_callB call_len_str (by rfl) m_len (by decide +kernel) (pa_cons (pv 0) pa_nil)) (pe_glob (v := .int 8) rfl g_LONGEST_NAME ⟨_, rfl⟩))))))
        (pss_one (ps_ret pe_bl))
        pss_nil)
      (pss_one (ps_ret (pe_callB (cr_all rfl) (by rfl) m_all (by decide +kernel) (pa_cons (pe_lc (own := [("letter", 1)]) (g := (gName 1)) (tt := tYes) rfl sc_is_name.nd (pi_str (pv 0)) (blkOk_by (N := Nis_name) (sc := defScope s_is_name) (by decide +kernel))
      (fun _ _ _ _ _ => (pg_name (i := 1) sc_is_name.nd rfl (Or.inl rfl))) (fun _ _ _ _ _ => pts_nil) (fun _ _ _ _ _ => (pe_chain op_le_str op_le_str pe_str (pv 1) pe_str))) pa_nil))))), ?_⟩
    rcases hJ with ⟨z, rfl, hz⟩ | hJ
    · refine ⟨_, rfl, _, _, _, _, true, rfl, .ty "str", .base (.str z), kit_ty (by decide +kernel), true, rfl, iteF ?_⟩
      refine ⟨_, rfl, z, rfl, hz, 1, _, rfl, rfl, _, rfl, ite2 (fun e1 => ?_) (fun e1 => ?_)⟩
      · refine ⟨_, 8, rfl, rfl, _, rfl, ?_⟩
        have l1 : 1 ≤ z.length := by have := of_decide_eq_true e1; omega
        by_cases e2 : ((z.length : Nat) : Int) ≤ 8
        · have l2 : z.length ≤ 8 := by omega
          rw [decide_eq_true e2]
          refine iteF ?_
          refine ⟨_, rfl, z, rfl, fun D hD => lc_it walk_str (fun i H1 => Same H H1 ∧ H1 D = some (.lst ((z.cps.toList.take i).map fun c => V.bl (gg c)))) ⟨same_new (Same.refl H) hD, upd_same⟩ (fun _ _ _ _ => trivial) ?_ ?_⟩
          · intro i x H1 H2 hi hp hy
            obtain ⟨rfl, c, hc, rfl⟩ := hy
            obtain ⟨sm, hl⟩ := hp
            have hi9 : i < 9 := Nat.lt_of_lt_of_le hi (Nat.le_trans (show z.cps.size ≤ 8 from l2) (by omega))
            have fin : ∀ b, b = gg c → ∃ acc, H2 D = some (.lst acc) ∧ acc.length < sizeLine ∧ (Same H (upd H2 D (.lst (acc ++ [V.bl b]))) ∧ (upd H2 D (.lst (acc ++ [V.bl b]))) D = some (.lst ((z.cps.toList.take (i + 1)).map fun c => V.bl (gg c)))) := fun b hb => by
              refine ⟨_, hl, ?_, same_put sm hD, ?_⟩
              · rw [List.length_map, List.length_take]
                exact small1000 (Nat.le_trans (Nat.min_le_left _ _) (by omega))
              · rw [upd_same, hb, List.take_add_one, Array.getElem?_toList, hc, List.map_append]
                rfl
            refine ⟨rfl, ?_⟩
            refine ⟨_, rfl, _, _, rfl, rfl, _, rfl, ite2 (fun e3 => ⟨_, _, rfl, rfl, fin _ ?_⟩) (fun e3 => fin _ ?_)⟩
            · show g2 c = (g1 c && g2 c)
              rw [show g1 c = true from e3, Bool.true_and]
            · show false = (g1 c && g2 c)
              rw [show g1 c = false from (Bool.not_eq_true _).mp e3, Bool.false_and]
          · intro H1 hp
            obtain ⟨sm, hl⟩ := hp
            refine ⟨D, (z.cps.toList.map gg), rfl, ?_, ?_⟩
            · refine .inl (.inl ?_)
              rw [hl, List.take_of_length_le (by simp), List.map_map]
              rfl
            · have e3 : nameV (.str z) = (z.cps.toList.map gg).all id := by
                show (decide (1 ≤ z.length) && decide (z.length ≤ 8) && _) = _
                rw [decide_eq_true l1, decide_eq_true l2, Bool.true_and, Bool.true_and]
              rw [e3] at q
              exact q H1 sm
        · rw [decide_eq_false e2]
          refine iteT ?_
          have e3 : nameV (.str z) = false := by
            show (decide (1 ≤ z.length) && decide (z.length ≤ 8) && _) = false
            rw [decide_eq_false (show ¬ z.length ≤ 8 by omega), Bool.and_false, Bool.false_and]
          rw [e3] at q
          exact q H (Same.refl H)
      · have e2 : nameV (.str z) = false := by
          have : ¬ (1 ≤ z.length) := fun c => e1 (decide_eq_true (by omega))
          show (decide (1 ≤ z.length) && _ && _) = false
          rw [decide_eq_false this, Bool.false_and, Bool.false_and]
        rw [e2] at q
        exact ⟨false, rfl, iteT (q H (Same.refl H))⟩
    · obtain ⟨T, hT, hk⟩ := hJ.ty (K := K)
      refine ⟨_, rfl, _, _, _, _, false, rfl, .ty "str", hT, kit_ty hk, false, rfl, iteT (iteT ?_)⟩
      have := q H (Same.refl H)
      rw [jud_false hT hk] at this
      exact this

end

/-! ### looks at data -/
def spOn (f : PyData → Bool) : Sp := fun vs H Q _ => ∃ v d, vs = [v] ∧ D H v d ∧ sm d = true ∧ ∀ H', Same H H' → Q (.bl (f d)) H'
def spOn1 (f : Int → PyData → Bool) : Sp := fun vs H Q _ => ∃ v n d, vs = [v, .int n] ∧ D H v d ∧ sm d = true ∧ ∀ H', Same H H' → Q (.bl (f n d)) H'
def spAsc : Sp := fun vs H Q _ => ∃ a, vs = [.ref a] ∧ ((∃ ns : List Int, H a = some (.tup (ns.map V.int)) ∧ 1 ≤ ns.length ∧ ns.length ≤ 1000 ∧ ∀ H', Same H H' → Q (.bl (asc ltI ns)) H') ∨
  ∃ ps : List (Addr × List Int), H a = some (.tup (Zt.refs ps)) ∧ (∀ p ∈ ps, H p.1 = some (.tup (p.2.map V.int))) ∧ 1 ≤ ps.length ∧ ps.length ≤ 1000 ∧ ∀ H', Same H H' → Q (.bl (asc HT.lexLt (Zt.keys ps))) H')
abbrev s_is_integer : Stmt := topS 4
abbrev Nis_integer : List Str := ["value"]
theorem sc_is_integer : FnScope Nis_integer ["value"] (defScope s_is_integer) := ⟨rfl, rfl, rfl, by decide +kernel, rfl, by decide +kernel, by decide +kernel⟩
abbrev s_is_index : Stmt := topS 5
abbrev Nis_index : List Str := ["value", "many"]
theorem sc_is_index : FnScope Nis_index ["value", "many"] (defScope s_is_index) := ⟨rfl, rfl, rfl, by decide +kernel, rfl, by decide +kernel, by decide +kernel⟩
abbrev s_ascends : Stmt := topS 6
abbrev Nascends : List Str := ["items", "at"]
theorem sc_ascends : FnScope Nascends ["items"] (defScope s_ascends) := ⟨rfl, rfl, rfl, by decide +kernel, rfl, by decide +kernel, by decide +kernel⟩
section
variable {P : Program} {w : World} {K : PySem.W.Frag} {mg : Str → Option Value} {base : Heap}
theorem ok_is_integer {f : Addr} {fd : FuncData} {k : Nat} (F : Fun K "is_integer" "is_integer" s_is_integer f fd) (m_isinstance : mg "isinstance" = none) (m_int : mg "int" = none) (m_bool : mg "bool" = none) :
    FnOk P w K mg base CX0 (k + 1) f fd ["value"] (spOn isN) := by
  refine F.ok sc_is_integer (fun vs H Q E h => ?_) (fun cdv A outer s H vs Q E hr h => ?_)
  · obtain ⟨v, d, rfl, _⟩ := h
    rfl
  · obtain ⟨v, d, rfl, hd, hs, q⟩ := h
    refine ⟨_, (pss_one (ps_ret (pe_and (pe_callB call_isD (by rfl) m_isinstance (by decide +kernel) (pa_cons (pv 0) (pa_cons (pe_bltn (v := .ty "int") (by rfl) m_int (by decide +kernel) rfl) pa_nil))) (pe_one (pe_not (pe_callB call_isD (by rfl) m_isinstance (by decide +kernel) (pa_cons (pv 0) (pa_cons (pe_bltn (v := .ty "bool") (by rfl) m_bool (by decide +kernel) rfl) pa_nil)))))))), ?_⟩
    have q := q H (Same.refl H)
    rw [isN_eq] at q
    refine ⟨_, rfl, _, d, _, _, rfl, hd, kI d, _, rfl, ite2 (fun e => ?_) (fun e => ?_)⟩
    · refine ⟨_, rfl, _, d, _, _, rfl, hd, kB d, _, rfl, ?_⟩
      rw [e, Bool.true_and] at q
      exact q
    · have e := (Bool.not_eq_true _).mp e
      rw [e, Bool.false_and] at q
      exact q
theorem isNum_int {n : Int} {d : PyData} (h : isNum n d = true) : isN d = true := by
  cases d with
  | int i => rfl
  | _ => exact absurd h (by intro z; cases z)
theorem notN_num {n : Int} {d : PyData} (h : isN d = false) : isNum n d = false := by
  cases e : isNum n d with
  | true =>
    rw [isNum_int e] at h
    cases h
  | false => rfl
theorem ok_is_index {f fI : Addr} {fd fdI : FuncData} (F : Fun K "is_index" "is_index" s_is_index f fd) (G_is_integer : FnOk P w K mg base CX0 1 fI fdI ["value"] (spOn isN)) (F_is_integer : Fun K "is_integer" "is_integer" s_is_integer fI fdI) (b_is_integer : Binds K fdI ["value"] []) (g_is_integer : mg "is_integer" = some (.ref fI)) :
    FnOk P w K mg base CX0 2 f fd ["value", "many"] (spOn1 isNum) := by
  refine F.ok sc_is_index (fun vs H Q E h => ?_) (fun cdv A outer s H vs Q E hr h => ?_)
  · obtain ⟨v, n, d, rfl, _⟩ := h
    rfl
  · obtain ⟨v, n, d, rfl, hd, hs, q⟩ := h
    refine ⟨_, (pss_one (ps_ret (pe_and (pe_call G_is_integer (hr.mono (by decide)) (by rfl) g_is_integer F_is_integer.kp b_is_integer .nil pass0 (pa_cons (pv 0) pa_nil)) (pe_one (pe_chain op_le op_lt pe_int (pv 0) (pv 1)))))), ?_⟩
    refine ⟨_, rfl, _, d, rfl, hd, hs, fun H1 s1 => ⟨_, rfl, ite2 (fun e => ?_) (fun e => ?_)⟩⟩
    · have q := q H1 s1
      cases d with
      | int i =>
        cases hd
        refine ⟨_, rfl, 0, i, rfl, rfl, _, rfl, ite2 (fun e1 => ?_) (fun e1 => ?_)⟩
        · refine ⟨_, rfl, i, n, rfl, rfl, ?_⟩
          have q : Q (.bl (decide (0 ≤ i) && decide (i < n))) H1 := q
          rw [e1, Bool.true_and] at q
          exact q
        · have q : Q (.bl (decide (0 ≤ i) && decide (i < n))) H1 := q
          rw [(Bool.not_eq_true _).mp e1, Bool.false_and] at q
          exact q
      | _ => exact absurd e (by intro z; cases z)
    · have e := (Bool.not_eq_true _).mp e
      have q := q H1 s1
      rw [notN_num e] at q
      exact q
theorem ok_ascends {f : Addr} {fd : FuncData} {k : Nat} (F : Fun K "ascends" "ascends" s_ascends f fd) (m_all : mg "all" = none) (m_range : mg "range" = none) (m_len : mg "len" = none) :
    FnOk P w K mg base CX0 (k + 1) f fd ["items"] spAsc := by
  refine F.ok sc_ascends (fun vs H Q E h => ?_) (fun cdv A outer s H vs Q E hr h => ?_)
  · obtain ⟨a, rfl, _⟩ := h
    rfl
  · obtain ⟨a, rfl, h⟩ := h
    refine ⟨_, (pss_one (ps_ret (pe_callB (cr_all rfl) (by rfl) m_all (by decide +kernel) (pa_cons (pe_lc (own := [("at", 1)]) (g := (gName 1)) (tt := tYes) rfl sc_ascends.nd (pi_range1 rfl m_range (pa_cons (pe_op op_sub (pe_callB call_len_seq (by rfl) m_len (by decide +kernel) (pa_cons (pv 0) pa_nil)) pe_int) pa_nil)) (blkOk_by (N := Nascends) (sc := defScope s_ascends) (by decide +kernel))
      (fun _ _ _ _ _ => (pg_name (i := 1) sc_ascends.nd rfl (Or.inl rfl))) (fun _ _ _ _ _ => pts_nil) (fun _ _ _ _ _ => (pe_cmpR (r := rLtA K) (op_ltA (Nat.lt_of_le_of_lt (Nat.le_add_right _ 64) hr.units)) (pe_ix (r := rIxT K) ix_tup (pv 0) (pv 1) (fun _ _ => rfl)) (pe_ix (r := rIxT K) ix_tup (pv 0) (pe_op op_add (pv 1) pe_int) (fun _ _ => rfl)) (nomark _)))) pa_nil)))), ?_⟩
    obtain ⟨xs, bs, ha, l1, l2, lb, st, q⟩ : ∃ (xs : List V) (bs : List Bool), H a = some (.tup xs) ∧ 1 ≤ xs.length ∧ xs.length ≤ 1000 ∧ bs.length = xs.length - 1 ∧
        (∀ (i : Nat) (H1 : Hp) (x y : V) (R : VK), xs[i]? = some x → xs[i + 1]? = some y → Same H H1 → (∀ b, bs[i]? = some b → R (.bl b) H1) → rLtA K x y H1 R) ∧ (∀ H', Same H H' → Q (.bl (bs.all id)) H') := by
      rcases h with ⟨ns, ha, l1, l2, q⟩ | ⟨ps, ha, hp, l1, l2, q⟩
      · refine ⟨ns.map V.int, adj ltI ns, ha, (by rw [List.length_map]; exact l1), (by rw [List.length_map]; exact l2), (by rw [adj_len, List.length_map]), (fun i H1 x y R hx hy s1 r => ?_), q⟩
        rw [List.getElem?_map] at hx hy
        cases e1 : ns[i]? with
        | none =>
          rw [e1] at hx
          cases hx
        | some m =>
          cases e2 : ns[i + 1]? with
          | none =>
            rw [e2] at hy
            cases hy
          | some m2 =>
            rw [e1] at hx
            rw [e2] at hy
            cases hx
            cases hy
            exact .inl ⟨m, m2, rfl, rfl, r _ (adj_at ltI ns i m m2 e1 e2)⟩
      · refine ⟨Zt.refs ps, adj HT.lexLt (Zt.keys ps), ha, (by rw [List.length_map]; exact l1), (by rw [List.length_map]; exact l2), (by rw [adj_len, List.length_map, List.length_map]), (fun i H1 x y R hx hy s1 r => ?_), q⟩
        unfold Zt.refs at hx hy
        rw [List.getElem?_map] at hx hy
        cases e1 : ps[i]? with
        | none =>
          rw [e1] at hx
          cases hx
        | some m =>
          cases e2 : ps[i + 1]? with
          | none =>
            rw [e2] at hy
            cases hy
          | some m2 =>
            rw [e1] at hx
            rw [e2] at hy
            cases hx
            cases hy
            refine .inr ⟨m.1, m2.1, m.2, m2.2, rfl, rfl, .inl (.inl (s1 _ _ (hp m (List.mem_of_getElem? e1)))), .inl (.inl (s1 _ _ (hp m2 (List.mem_of_getElem? e2)))), r _ (adj_at HT.lexLt _ i _ _ ?_ ?_)⟩
            · unfold Zt.keys
              rw [List.getElem?_map, e1]
              rfl
            · unfold Zt.keys
              rw [List.getElem?_map, e2]
              rfl
    refine ⟨_, rfl, a, xs, rfl, .inr (.inl (.inl ha)), _, 1, rfl, rfl, _, rfl, by omega, by omega, fun D0 nD => ?_⟩
    have en : ((((xs.length : Nat) : Int) - 1).toNat) = xs.length - 1 := by omega
    rw [en]
    refine lc_range (lo := 0) (n := xs.length - 1) (fun i H1 => Same H H1 ∧ H1 D0 = some (.lst ((bs.take i).map V.bl))) ⟨same_new (Same.refl H) nD, upd_same⟩ (fun i H1 hi hq => ?_) (fun H1 hq => ?_)
    · obtain ⟨s1, hl⟩ := hq
      have hx : xs[i]? = some xs[i] := List.getElem?_eq_getElem (by omega)
      have hy : xs[i + 1]? = some xs[i + 1] := List.getElem?_eq_getElem (by omega)
      refine ⟨rfl, _, rfl, _, rfl, a, xs, _, _, rfl, rfl, .inl (.inl (s1 _ _ ha)), (by rw [Int.zero_add]; exact atI_nat hx), _, rfl, _, rfl, _, 1, rfl, rfl, a, xs, _, _, rfl, rfl, .inl (.inl (s1 _ _ ha)), (by rw [Int.zero_add]; exact atI_nat hy), ?_⟩
      refine st i H1 _ _ _ hx hy s1 fun b hb => ⟨_, hl, ?_, same_put s1 nD, ?_⟩
      · rw [List.length_map, List.length_take]
        exact small1000 (Nat.le_trans (Nat.min_le_left _ _) (by omega))
      · rw [upd_same, List.take_add_one, hb, List.map_append]
        rfl
    · obtain ⟨s1, hl⟩ := hq
      rw [← lb, List.take_of_length_le (Nat.le_refl _)] at hl
      exact ⟨D0, bs, rfl, .inl (.inl hl), q H1 s1⟩
end
end My

namespace My
open PySem PySem.Spec PyProof.Rows L2 Sh Dt
theorem split_tup (d : PyData) : (∃ ds, d = .tuple ds) ∨ (isT d = false ∧ (∀ n, isSet n d = false) ∧ (∀ n, isPair n d = false) ∧ (∀ n, isPairs n d = false) ∧ ∀ p n, isMove p n d = false) := by
  cases d with
  | tuple ds => exact .inl ⟨ds, rfl⟩
  | _ => exact .inr ⟨rfl, fun _ => rfl, fun _ => rfl, fun _ => rfl, fun _ _ => rfl⟩
theorem isSet_eq {n : Int} {d : PyData} {r : List PyData} : isSet n (.tuple (d :: r)) = ((d :: r).all (isNum n) && asc ltI ((d :: r).map intOf)) := rfl
theorem isPairs_eq {n : Int} {d : PyData} {r : List PyData} : isPairs n (.tuple (d :: r)) = ((d :: r).all (isPair n) && asc HT.lexLt ((d :: r).map rowOf)) := rfl
def isNr (n : Int) : PyData → Bool
  | .int i => decide (1 ≤ i) && decide (i ≤ n)
  | _ => false
def spMove : Sp := fun vs H Q _ => ∃ v p n d, vs = [v, .int p, .int n] ∧ D H v d ∧ sm d = true ∧ ∀ H', Same H H' → Q (.bl (isMove p n d)) H'
def spTask : Sp := fun vs H Q _ => ∃ a v xs d, vs = [.ref a] ∧ H a = some (.tup (v :: xs)) ∧ D H v d ∧ ∀ H', Same H H' → Q (.bl (strIn d ["call", "post"])) H'
def areMoves (p n : Int) (ds : List PyData) : Bool := decide (ds.length ≤ 12) && ds.all (isMove p n)
def spMoves : Sp := fun vs H Q _ => ∃ a xs p n ds, vs = [.ref a, .int p, .int n] ∧ H a = some (.tup xs) ∧ DAll H xs ds ∧ ds.length ≤ 60 ∧ (∀ d ∈ ds, sm d = true) ∧ ∀ H', Same H H' → Q (.bl (areMoves p n ds)) H'
theorem ifN {c : Prop} [Decidable c] {A B : Prop} (h : ¬ c) (b : B) : if decide c = true then A else B := by
  rw [decide_eq_false h]
  exact iteF b
theorem ifY {c : Prop} [Decidable c] {A B : Prop} (h : c) (a : A) : if decide c = true then A else B := by
  rw [decide_eq_true h]
  exact iteT a
theorem ifNN {c : Prop} [Decidable c] {A B : Prop} (h : ¬ c) (b : A) : if (!decide c) = true then A else B := by
  rw [decide_eq_false h]
  exact iteT b
theorem ifNY {c : Prop} [Decidable c] {A B : Prop} (h : c) (a : B) : if (!decide c) = true then A else B := by
  rw [decide_eq_true h]
  exact iteF a
theorem intN {n m : Nat} (h : n ≠ m) : ¬ (V.int (n : Int) = V.int (m : Int)) := fun z => h (by
  have := V.int.inj z
  omega)
abbrev s_is_mode_set : Stmt := topS 19
abbrev Nis_mode_set : List Str := ["value", "modes", "mode"]
theorem sc_is_mode_set : FnScope Nis_mode_set ["value", "modes"] (defScope s_is_mode_set) := ⟨rfl, rfl, rfl, by decide +kernel, rfl, by decide +kernel, by decide +kernel⟩
abbrev s_is_pair : Stmt := topS 20
abbrev Nis_pair : List Str := ["value", "modes"]
theorem sc_is_pair : FnScope Nis_pair ["value", "modes"] (defScope s_is_pair) := ⟨rfl, rfl, rfl, by decide +kernel, rfl, by decide +kernel, by decide +kernel⟩
abbrev s_is_pair_set : Stmt := topS 21
abbrev Nis_pair_set : List Str := ["value", "modes", "pair"]
theorem sc_is_pair_set : FnScope Nis_pair_set ["value", "modes"] (defScope s_is_pair_set) := ⟨rfl, rfl, rfl, by decide +kernel, rfl, by decide +kernel, by decide +kernel⟩
abbrev s_names_task : Stmt := topS 23
abbrev Nnames_task : List Str := ["move"]
theorem sc_names_task : FnScope Nnames_task ["move"] (defScope s_names_task) := ⟨rfl, rfl, rfl, by decide +kernel, rfl, by decide +kernel, by decide +kernel⟩
abbrev s_is_number : Stmt := topS 30
abbrev Nis_number : List Str := ["value", "most"]
theorem sc_is_number : FnScope Nis_number ["value", "most"] (defScope s_is_number) := ⟨rfl, rfl, rfl, by decide +kernel, rfl, by decide +kernel, by decide +kernel⟩
abbrev s_are_moves : Stmt := topS 31
abbrev Nare_moves : List Str := ["values", "points", "modes", "value"]
theorem sc_are_moves : FnScope Nare_moves ["values", "points", "modes"] (defScope s_are_moves) := ⟨rfl, rfl, rfl, by decide +kernel, rfl, by decide +kernel, by decide +kernel⟩
section
variable {P : Program} {w : World} {K : PySem.W.Frag} {mg : Str → Option Value} {base : Heap}
theorem ok_is_mode_set {f f_is_index f_ascends : Addr} {fd fd_is_index fd_ascends : FuncData} (F : Fun K "is_mode_set" "is_mode_set" s_is_mode_set f fd) (G_is_index : FnOk P w K mg base CX0 2 f_is_index fd_is_index ["value", "many"] (spOn1 isNum)) (F_is_index : Fun K "is_index" "is_index" s_is_index f_is_index fd_is_index) (b_is_index : Binds K fd_is_index ["value", "many"] []) (g_is_index : mg "is_index" = some (.ref f_is_index))(G_ascends : FnOk P w K mg base CX0 1 f_ascends fd_ascends ["items"] spAsc) (F_ascends : Fun K "ascends" "ascends" s_ascends f_ascends fd_ascends) (b_ascends : Binds K fd_ascends ["items"] []) (g_ascends : mg "ascends" = some (.ref f_ascends))(m_isinstance : mg "isinstance" = none) (m_tuple : mg "tuple" = none) (m_all : mg "all" = none) :
    FnOk P w K mg base CX0 3 f fd ["value", "modes"] (spOn1 isSet) := by
  refine F.ok sc_is_mode_set (fun vs H Q E h => ?_) (fun cdv A outer s H vs Q E hr h => ?_)
  · obtain ⟨v, n, d, rfl, _⟩ := h
    rfl
  · obtain ⟨v, n, d, rfl, hd, hs, q⟩ := h
    refine ⟨_, (pss_cons (ps_if (PW.pt (pw_or (pt_not (pt_val (pe_callB call_isD (by rfl) m_isinstance (by decide +kernel) (pa_cons (pv 0) (pa_cons (pe_bltn (v := .ty "tuple") (by rfl) m_tuple (by decide +kernel) rfl) pa_nil))))) (pw_or1 (pt_not (pt_truth (pv 0) (fun _ => rfl))))))
        (pss_one (ps_ret pe_bl))
        pss_nil)
      (pss_one (ps_ret (pe_and (pe_callB (cr_all rfl) (by rfl) m_all (by decide +kernel) (pa_cons (pe_lc (own := [("mode", 2)]) (g := (gName 2)) (tt := tYes) rfl sc_is_mode_set.nd (pi_tup (pv 0)) (blkOk_by (N := Nis_mode_set) (sc := defScope s_is_mode_set) (by decide +kernel))
      (fun _ _ _ _ _ => (pg_name (i := 2) sc_is_mode_set.nd rfl (Or.inl rfl))) (fun _ _ _ _ _ => pts_nil) (fun _ _ _ _ _ => (pe_call G_is_index (hr.mono (by decide)) (by rfl) g_is_index F_is_index.kp b_is_index .nil pass0 (pa_cons (pv 2) (pa_cons (pv 1) pa_nil))))) pa_nil)) (pe_one (pe_call G_ascends (hr.mono (by decide)) (by rfl) g_ascends F_ascends.kp b_ascends .nil pass0 (pa_cons (pv 0) pa_nil))))))), ?_⟩
    obtain ⟨ds, rfl⟩ | hn := split_tup d
    · cases hd with
      | @tup p xs ds e a =>
      refine ⟨_, rfl, _, .tuple ds, _, true, rfl, .tup e a, kT (.tuple ds), _, rfl, iteF ?_⟩
      obtain ⟨l60, sms⟩ := sm_tup.mp hs
      have ln := a.len
      refine ⟨_, rfl, _, .inr (.inl ⟨xs, .inl (.inl e), rfl⟩), ?_⟩
      cases a with
      | nil => exact iteT (q H (Same.refl H))
      | @cons v0 d0 vs r a0 ar =>
      have a : DAll H (v0 :: vs) (d0 :: r) := .cons a0 ar
      rw [List.length_cons] at l60
      have lx : (v0 :: vs).length ≤ 61 := by rw [List.length_cons] at *; rw [List.length_cons] at ln; omega
      refine iteF ⟨_, rfl, p, rfl, ⟨_, .inl (.inl e)⟩, fun E0 nE => lc_all (f := isNum n) nE e a (by omega) (fun x d1 H2 hx mem s2 R hr => ⟨rfl, _, rfl, _, rfl, _, _, d1, rfl, hx, sms d1 mem, hr⟩) (fun H3 s3 h3 => ⟨E0, _, rfl, .inl (.inl h3), _, rfl, ite2 (fun e2 => ?_) (fun e2 => ?_)⟩)⟩
      · rw [List.all_map] at e2
        have e2 : (d0 :: r).all (isNum n) = true := e2
        have e3 := ints_of_all e2
        have a3 := a
        rw [e3] at a3
        have ex := vals_ints a3
        refine ⟨_, rfl, p, rfl, .inl ⟨(d0 :: r).map intOf, ?_, by simp, by rw [List.length_map]; omega, fun H4 s4 => ?_⟩⟩
        · rw [← ex]
          exact s3 _ _ e
        · have q := q H4 (s3.trans s4)
          rw [isSet_eq, e2, Bool.true_and] at q
          exact q
      · have e2 := (Bool.not_eq_true _).mp e2
        have q := q H3 s3
        rw [isSet_eq] at q
        rw [List.all_map] at e2
        have e2 : (d0 :: r).all (isNum n) = false := e2
        rw [e2, Bool.false_and] at q
        exact q
    · have k := kT d
      rw [hn.1] at k
      refine ⟨_, rfl, _, d, _, false, rfl, hd, k, _, rfl, iteT (iteT ?_)⟩
      have q := q H (Same.refl H)
      rw [hn.2.1 n] at q
      exact q

theorem ok_is_pair {f f_is_index : Addr} {fd fd_is_index : FuncData} (F : Fun K "is_pair" "is_pair" s_is_pair f fd) (G_is_index : FnOk P w K mg base CX0 2 f_is_index fd_is_index ["value", "many"] (spOn1 isNum)) (F_is_index : Fun K "is_index" "is_index" s_is_index f_is_index fd_is_index) (b_is_index : Binds K fd_is_index ["value", "many"] []) (g_is_index : mg "is_index" = some (.ref f_is_index))(m_isinstance : mg "isinstance" = none) (m_tuple : mg "tuple" = none) (m_len : mg "len" = none) :
    FnOk P w K mg base CX0 3 f fd ["value", "modes"] (spOn1 isPair) := by
  refine F.ok sc_is_pair (fun vs H Q E h => ?_) (fun cdv A outer s H vs Q E hr h => ?_)
  · obtain ⟨v, n, d, rfl, _⟩ := h
    rfl
  · obtain ⟨v, n, d, rfl, hd, hs, q⟩ := h
    refine ⟨_, (pss_cons (ps_if (PW.pt (pw_or (pt_not (pt_val (pe_callB call_isD (by rfl) m_isinstance (by decide +kernel) (pa_cons (pv 0) (pa_cons (pe_bltn (v := .ty "tuple") (by rfl) m_tuple (by decide +kernel) rfl) pa_nil))))) (pw_or1 (pt_cmpR op_ne (pe_callB call_len_seq (by rfl) m_len (by decide +kernel) (pa_cons (pv 0) pa_nil)) pe_int (nomark _)))))
        (pss_one (ps_ret pe_bl))
        pss_nil)
      (pss_one (ps_ret (pe_and (pe_call G_is_index (hr.mono (by decide)) (by rfl) g_is_index F_is_index.kp b_is_index .nil pass0 (pa_cons (pe_ix ix_tup (pv 0) pe_int (fun _ _ => rfl)) (pa_cons (pv 1) pa_nil))) (pe_one (pe_call G_is_index (hr.mono (by decide)) (by rfl) g_is_index F_is_index.kp b_is_index .nil pass0 (pa_cons (pe_ix ix_tup (pv 0) pe_int (fun _ _ => rfl)) (pa_cons (pv 1) pa_nil)))))))), ?_⟩
    obtain ⟨ds, rfl⟩ | hn := split_tup d
    · cases hd with
      | @tup p xs ds e a =>
      refine ⟨_, rfl, _, .tuple ds, _, true, rfl, .tup e a, kT (.tuple ds), _, rfl, iteF ?_⟩
      obtain ⟨l60, sms⟩ := sm_tup.mp hs
      refine ⟨_, rfl, p, xs, rfl, .inr (.inl (.inl e)), rfl, _, rfl, ?_⟩
      have q0 := q H (Same.refl H)
      match ds, xs, a with
      | [], _, .nil => exact ifNN (intN (by decide)) q0
      | [_], _, .cons _ .nil => exact ifNN (intN (by simp)) q0
      | [a, b], _, .cons (v := va) ha (.cons (v := vb) hb .nil) =>
        refine ifNY rfl ?_
        refine ⟨_, rfl, p, _, 0, va, rfl, rfl, .inl (.inl e), rfl, _, rfl, _, _, a, rfl, ha, sms a (by simp), fun H1 s1 => ⟨_, rfl, ite2 (fun e1 => ?_) (fun e1 => ?_)⟩⟩
        · refine ⟨_, rfl, p, _, 1, vb, rfl, rfl, .inl (.inl (s1 _ _ e)), rfl, _, rfl, _, _, b, rfl, hb.same s1, sms b (by simp), fun H2 s2 => ?_⟩
          have q : Q (.bl (isNum n a && isNum n b)) H2 := q H2 (s1.trans s2)
          rw [e1, Bool.true_and] at q
          exact q
        · have q : Q (.bl (isNum n a && isNum n b)) H1 := q H1 s1
          rw [(Bool.not_eq_true _).mp e1, Bool.false_and] at q
          exact q
      | a :: b :: c :: r, _, .cons _ (.cons _ (.cons (vs := vs) _ ar)) => exact ifNN (intN (by simp)) q0
    · have k := kT d
      rw [hn.1] at k
      refine ⟨_, rfl, _, d, _, false, rfl, hd, k, _, rfl, iteT (iteT ?_)⟩
      have q := q H (Same.refl H)
      rw [hn.2.2.1 n] at q
      exact q
theorem ok_is_pair_set {f f_is_pair f_ascends : Addr} {fd fd_is_pair fd_ascends : FuncData} (F : Fun K "is_pair_set" "is_pair_set" s_is_pair_set f fd) (G_is_pair : FnOk P w K mg base CX0 3 f_is_pair fd_is_pair ["value", "modes"] (spOn1 isPair)) (F_is_pair : Fun K "is_pair" "is_pair" s_is_pair f_is_pair fd_is_pair) (b_is_pair : Binds K fd_is_pair ["value", "modes"] []) (g_is_pair : mg "is_pair" = some (.ref f_is_pair))(G_ascends : FnOk P w K mg base CX0 1 f_ascends fd_ascends ["items"] spAsc) (F_ascends : Fun K "ascends" "ascends" s_ascends f_ascends fd_ascends) (b_ascends : Binds K fd_ascends ["items"] []) (g_ascends : mg "ascends" = some (.ref f_ascends))(m_isinstance : mg "isinstance" = none) (m_tuple : mg "tuple" = none) (m_all : mg "all" = none) :
    FnOk P w K mg base CX0 4 f fd ["value", "modes"] (spOn1 isPairs) := by
  refine F.ok sc_is_pair_set (fun vs H Q E h => ?_) (fun cdv A outer s H vs Q E hr h => ?_)
  · obtain ⟨v, n, d, rfl, _⟩ := h
    rfl
  · obtain ⟨v, n, d, rfl, hd, hs, q⟩ := h
    refine ⟨_, (pss_cons (ps_if (PW.pt (pw_or (pt_not (pt_val (pe_callB call_isD (by rfl) m_isinstance (by decide +kernel) (pa_cons (pv 0) (pa_cons (pe_bltn (v := .ty "tuple") (by rfl) m_tuple (by decide +kernel) rfl) pa_nil))))) (pw_or1 (pt_not (pt_truth (pv 0) (fun _ => rfl))))))
        (pss_one (ps_ret pe_bl))
        pss_nil)
      (pss_one (ps_ret (pe_and (pe_callB (cr_all rfl) (by rfl) m_all (by decide +kernel) (pa_cons (pe_lc (own := [("pair", 2)]) (g := (gName 2)) (tt := tYes) rfl sc_is_pair_set.nd (pi_tup (pv 0)) (blkOk_by (N := Nis_pair_set) (sc := defScope s_is_pair_set) (by decide +kernel))
      (fun _ _ _ _ _ => (pg_name (i := 2) sc_is_pair_set.nd rfl (Or.inl rfl))) (fun _ _ _ _ _ => pts_nil) (fun _ _ _ _ _ => (pe_call G_is_pair (hr.mono (by decide)) (by rfl) g_is_pair F_is_pair.kp b_is_pair .nil pass0 (pa_cons (pv 2) (pa_cons (pv 1) pa_nil))))) pa_nil)) (pe_one (pe_call G_ascends (hr.mono (by decide)) (by rfl) g_ascends F_ascends.kp b_ascends .nil pass0 (pa_cons (pv 0) pa_nil))))))), ?_⟩
    obtain ⟨ds, rfl⟩ | hn := split_tup d
    · cases hd with
      | @tup p xs ds e a =>
      refine ⟨_, rfl, _, .tuple ds, _, true, rfl, .tup e a, kT (.tuple ds), _, rfl, iteF ?_⟩
      obtain ⟨l60, sms⟩ := sm_tup.mp hs
      have ln := a.len
      refine ⟨_, rfl, _, .inr (.inl ⟨xs, .inl (.inl e), rfl⟩), ?_⟩
      cases a with
      | nil => exact iteT (q H (Same.refl H))
      | @cons v0 d0 vs r a0 ar =>
      have a : DAll H (v0 :: vs) (d0 :: r) := .cons a0 ar
      rw [List.length_cons] at l60
      have lx : (v0 :: vs).length ≤ 61 := by rw [List.length_cons] at *; rw [List.length_cons] at ln; omega
      refine iteF ⟨_, rfl, p, rfl, ⟨_, .inl (.inl e)⟩, fun E0 nE => lc_all (f := isPair n) nE e a (by omega) (fun x d1 H2 hx mem s2 R hr => ⟨rfl, _, rfl, _, rfl, _, _, d1, rfl, hx, sms d1 mem, hr⟩) (fun H3 s3 h3 => ⟨E0, _, rfl, .inl (.inl h3), _, rfl, ite2 (fun e2 => ?_) (fun e2 => ?_)⟩)⟩
      · rw [List.all_map] at e2
        have e2 : (d0 :: r).all (isPair n) = true := e2
        have e3 := rows_of_all e2
        have a3 := a
        rw [e3] at a3
        obtain ⟨ps, h1, h2, h3⟩ := vals_rows a3
        have hk : ps.length = (d0 :: r).length := by
          have := congrArg List.length h2
          unfold Zt.keys at this
          rw [List.length_map, List.length_map] at this
          exact this
        rw [List.length_cons] at hk
        refine ⟨_, rfl, p, rfl, .inr ⟨ps, ?_, fun q hq => s3 _ _ (h3 q hq), by omega, by omega, fun H4 s4 => ?_⟩⟩
        · rw [← h1]
          exact s3 _ _ e
        · have q := q H4 (s3.trans s4)
          rw [isPairs_eq, e2, Bool.true_and, ← h2] at q
          exact q
      · have e2 := (Bool.not_eq_true _).mp e2
        have q := q H3 s3
        rw [isPairs_eq] at q
        rw [List.all_map] at e2
        have e2 : (d0 :: r).all (isPair n) = false := e2
        rw [e2, Bool.false_and] at q
        exact q
    · have k := kT d
      rw [hn.1] at k
      refine ⟨_, rfl, _, d, _, false, rfl, hd, k, _, rfl, iteT (iteT ?_)⟩
      have q := q H (Same.refl H)
      rw [hn.2.2.2.1 n] at q
      exact q

theorem ok_names_task {f : Addr} {fd : FuncData} (F : Fun K "names_task" "names_task" s_names_task f fd) : FnOk P w K mg base CX0 1 f fd ["move"] spTask := by
  refine F.ok sc_names_task (fun vs H Q E h => ?_) (fun cdv A outer s H vs Q E hr h => ?_)
  · obtain ⟨a, v, xs, d, rfl, _⟩ := h
    rfl
  · obtain ⟨a, v, xs, d, rfl, ha, hd, q⟩ := h
    refine ⟨_, (pss_one (ps_ret (pe_cmpR (op_inS hr.units) (pe_ix ix_tup (pv 0) pe_int (fun _ _ => rfl)) (pe_tup (pa_cons pe_str (pa_cons pe_str pa_nil))) (by with_unfolding_all rfl)))), ?_⟩
    refine ⟨_, rfl, a, _, 0, v, rfl, rfl, .inl (.inl ha), atI_nat (j := 0) rfl, len_ok, fun t nt => ?_⟩
    have s1 := same_new (Same.refl H) nt (o := .tup [V.str "call", V.str "post"])
    exact ⟨d, t, ["call", "post"], hd.same s1, rfl, .inl (.inl upd_same), q _ s1⟩
theorem ok_is_number {f f_is_integer : Addr} {fd fd_is_integer : FuncData} (F : Fun K "is_number" "is_number" s_is_number f fd) (G_is_integer : FnOk P w K mg base CX0 1 f_is_integer fd_is_integer ["value"] (spOn isN)) (F_is_integer : Fun K "is_integer" "is_integer" s_is_integer f_is_integer fd_is_integer) (b_is_integer : Binds K fd_is_integer ["value"] []) (g_is_integer : mg "is_integer" = some (.ref f_is_integer)) : FnOk P w K mg base CX0 2 f fd ["value", "most"] (spOn1 isNr) := by
  refine F.ok sc_is_number (fun vs H Q E h => ?_) (fun cdv A outer s H vs Q E hr h => ?_)
  · obtain ⟨v, n, d, rfl, _⟩ := h
    rfl
  · obtain ⟨v, n, d, rfl, hd, hs, q⟩ := h
    refine ⟨_, (pss_one (ps_ret (pe_and (pe_call G_is_integer (hr.mono (by decide)) (by rfl) g_is_integer F_is_integer.kp b_is_integer .nil pass0 (pa_cons (pv 0) pa_nil)) (pe_one (pe_chain op_le op_le pe_int (pv 0) (pv 1)))))), ?_⟩
    refine ⟨_, rfl, _, d, rfl, hd, hs, fun H1 s1 => ⟨_, rfl, ite2 (fun e => ?_) (fun e => ?_)⟩⟩
    · have q := q H1 s1
      cases d with
      | int i =>
        cases hd
        refine ⟨_, rfl, 1, i, rfl, rfl, _, rfl, ite2 (fun e1 => ?_) (fun e1 => ?_)⟩
        · refine ⟨_, rfl, i, n, rfl, rfl, ?_⟩
          have q : Q (.bl (decide (1 ≤ i) && decide (i ≤ n))) H1 := q
          rw [e1, Bool.true_and] at q
          exact q
        · have q : Q (.bl (decide (1 ≤ i) && decide (i ≤ n))) H1 := q
          rw [(Bool.not_eq_true _).mp e1, Bool.false_and] at q
          exact q
      | _ => exact absurd e (by intro z; cases z)
    · have e := (Bool.not_eq_true _).mp e
      have q := q H1 s1
      cases d with
      | int i => cases e
      | _ => exact q
theorem ok_are_moves {f f_is_move : Addr} {fd fd_is_move : FuncData} (F : Fun K "are_moves" "are_moves" s_are_moves f fd) (G_is_move : FnOk P w K mg base CX0 5 f_is_move fd_is_move ["value", "points", "modes"] spMove) (F_is_move : Fun K "is_move" "is_move" s_is_move f_is_move fd_is_move) (b_is_move : Binds K fd_is_move ["value", "points", "modes"] []) (g_is_move : mg "is_move" = some (.ref f_is_move)) {tk : Tok} (g_MOST_MOVES : mg "MOST_MOVES" = some (.int 12 tk)) (m_len : mg "len" = none) (m_all : mg "all" = none) :
    FnOk P w K mg base CX0 6 f fd ["values", "points", "modes"] spMoves := by
  refine F.ok sc_are_moves (fun vs H Q E h => ?_) (fun cdv A outer s H vs Q E hr h => ?_)
  · obtain ⟨a, xs, p, n, ds, rfl, _⟩ := h
    rfl
  · obtain ⟨a, xs, p, n, ds, rfl, e, hd, l60, sms, q⟩ := h
    refine ⟨_, (pss_one (ps_ret (pe_and (pe_cmpR op_le (pe_callB call_len_seq (by rfl) m_len (by decide +kernel) (pa_cons (pv 0) pa_nil)) (pe_glob (v := .int 12) rfl g_MOST_MOVES ⟨_, rfl⟩) (nomark _)) (pe_one (pe_callB (cr_all rfl) (by rfl) m_all (by decide +kernel) (pa_cons (pe_lc (own := [("value", 3)]) (g := (gName 3)) (tt := tYes) rfl sc_are_moves.nd (pi_tup (pv 0)) (blkOk_by (N := Nare_moves) (sc := defScope s_are_moves) (by decide +kernel))
      (fun _ _ _ _ _ => (pg_name (i := 3) sc_are_moves.nd rfl (Or.inl rfl))) (fun _ _ _ _ _ => pts_nil) (fun _ _ _ _ _ => (pe_call G_is_move (hr.mono (by decide)) (by rfl) g_is_move F_is_move.kp b_is_move .nil pass0 (pa_cons (pv 3) (pa_cons (pv 1) (pa_cons (pv 2) pa_nil)))))) pa_nil)))))), ?_⟩
    have ln := hd.len
    refine ⟨_, rfl, a, xs, rfl, .inr (.inl (.inl e)), _, 12, rfl, rfl, _, rfl, ite2 (fun e1 => ?_) (fun e1 => ?_)⟩
    · have e1 := of_decide_eq_true e1
      refine ⟨_, rfl, a, rfl, ⟨_, .inl (.inl e)⟩, fun E0 nE => lc_all (f := isMove p n) nE e hd (by omega) (fun x d1 H2 hx mem s2 R hr => ⟨rfl, _, rfl, _, rfl, _, rfl, _, _, _, d1, rfl, hx, sms d1 mem, hr⟩) (fun H3 s3 h3 => ⟨E0, _, rfl, .inl (.inl h3), ?_⟩)⟩
      have q := q H3 s3
      unfold areMoves at q
      rw [decide_eq_true (show ds.length ≤ 12 by omega), Bool.true_and] at q
      rw [List.all_map]
      exact q
    · have e1 : ¬ ((xs.length : Nat) : Int) ≤ 12 := fun z => e1 (decide_eq_true z)
      have q := q H (Same.refl H)
      unfold areMoves at q
      rw [decide_eq_false (show ¬ ds.length ≤ 12 by omega), Bool.false_and] at q
      exact q
end
end My

namespace My
open PySem PySem.Spec PyProof.Rows L2 Sh Dt
theorem strP {z : Str} : (PyData.str z).plain = true ∧ (PyData.str z).depth ≤ 60 := ⟨rfl, by simp only [PyData.depth]; omega⟩
theorem jud_of {H : Hp} {v : V} {d : PyData} (h : D H v d) (hs : sm d = true) : Jud H v := by
  cases h with
  | non => exact .inr (.inl rfl)
  | bl b => exact .inr (.inr (.inr (.inl ⟨b, rfl⟩)))
  | int i => exact .inr (.inr (.inl ⟨i, rfl⟩))
  | str z =>
    simp only [sm, Bool.and_eq_true, decide_eq_true_iff] at hs
    exact .inl ⟨z, rfl, Nat.le_of_lt (small1000 hs.1)⟩
  | lst e a => exact .inr (.inr (.inr (.inr (.inl ⟨_, _, rfl, e⟩))))
  | tup e a => exact .inr (.inr (.inr (.inr (.inr (.inl ⟨_, _, rfl, e⟩)))))
  | dic e => exact .inr (.inr (.inr (.inr (.inr (.inr ⟨_, _, rfl, e⟩)))))
theorem name_of {H : Hp} {v : V} {d : PyData} (h : D H v d) : nameV v = nameD d := by cases h <;> rfl
theorem eqv_nil (ds : List PyData) : PyData.eqv (.tuple ds) (.tuple []) = ds.isEmpty := by
  cases ds with
  | nil => simp [PyData.eqv, PyData.eqvAll]
  | cons a r => simp [PyData.eqv, PyData.eqvAll]
theorem nilP : (PyData.tuple []).plain = true ∧ (PyData.tuple []).depth ≤ 60 := ⟨by simp [PyData.plain, PyData.plainAll], by simp [PyData.depth, PyData.depthAll]⟩
theorem intsP : ∀ ns : List Int, PyData.plainAll (ns.map PyData.int) = true ∧ PyData.depthAll (ns.map PyData.int) = 0
  | [] => ⟨by simp [PyData.plainAll], by simp [PyData.depthAll]⟩
  | n :: ns => by
    have := intsP ns
    exact ⟨by simp [PyData.plainAll, PyData.plain, this.1], by simp [PyData.depthAll, PyData.depth, this.2]⟩
theorem listP (ns : List Int) : (PyData.list (ns.map PyData.int)).plain = true ∧ (PyData.list (ns.map PyData.int)).depth ≤ 60 := by
  have := intsP ns
  exact ⟨by simp [PyData.plain, this.1], by simp [PyData.depth, this.2]⟩
theorem rowsP : ∀ ks : List (List Int), PyData.plainAll (ks.map Zt.rowD) = true ∧ PyData.depthAll (ks.map Zt.rowD) ≤ 1
  | [] => ⟨by simp [PyData.plainAll], by simp [PyData.depthAll]⟩
  | k :: ks => by
    have h1 := rowsP ks
    have h2 := intsP k
    refine ⟨by simp [PyData.plainAll, PyData.plain, h1.1, h2.1, Zt.rowD], ?_⟩
    simp only [List.map_cons, PyData.depthAll, PyData.depth, Zt.rowD, h2.2]
    exact Nat.max_le.mpr ⟨by omega, h1.2⟩
theorem listRP (ks : List (List Int)) : (PyData.list (ks.map Zt.rowD)).plain = true ∧ (PyData.list (ks.map Zt.rowD)).depth ≤ 60 := by
  have := rowsP ks
  exact ⟨by simp [PyData.plain, this.1], by simp only [PyData.depth]; omega⟩
abbrev s_is_move : Stmt := topS 22
abbrev Nis_move : List Str := ["value", "points", "modes"]
theorem sc_is_move : FnScope Nis_move ["value", "points", "modes"] (defScope s_is_move) := ⟨rfl, rfl, rfl, by decide +kernel, rfl, by decide +kernel, by decide +kernel⟩
abbrev Nlaw_is_number : List Str := ["value", "total"]
abbrev Nlaw_is_set : List Str := ["value", "total", "one"]
section
variable {P : Program} {w : World} {K : PySem.W.Frag} {mg : Str → Option Value} {base : Heap}
theorem ok_is_move {f f_is_index f_is_mode_set f_is_pair_set f_names_task f_is_name : Addr} {fd fd_is_index fd_is_mode_set fd_is_pair_set fd_names_task fd_is_name : FuncData} (F : Fun K "is_move" "is_move" s_is_move f fd) (G_is_index : FnOk P w K mg base CX0 2 f_is_index fd_is_index ["value", "many"] (spOn1 isNum)) (F_is_index : Fun K "is_index" "is_index" s_is_index f_is_index fd_is_index) (b_is_index : Binds K fd_is_index ["value", "many"] []) (g_is_index : mg "is_index" = some (.ref f_is_index))(G_is_mode_set : FnOk P w K mg base CX0 3 f_is_mode_set fd_is_mode_set ["value", "modes"] (spOn1 isSet)) (F_is_mode_set : Fun K "is_mode_set" "is_mode_set" s_is_mode_set f_is_mode_set fd_is_mode_set) (b_is_mode_set : Binds K fd_is_mode_set ["value", "modes"] []) (g_is_mode_set : mg "is_mode_set" = some (.ref f_is_mode_set))(G_is_pair_set : FnOk P w K mg base CX0 4 f_is_pair_set fd_is_pair_set ["value", "modes"] (spOn1 isPairs)) (F_is_pair_set : Fun K "is_pair_set" "is_pair_set" s_is_pair_set f_is_pair_set fd_is_pair_set) (b_is_pair_set : Binds K fd_is_pair_set ["value", "modes"] []) (g_is_pair_set : mg "is_pair_set" = some (.ref f_is_pair_set))(G_names_task : FnOk P w K mg base CX0 1 f_names_task fd_names_task ["move"] spTask) (F_names_task : Fun K "names_task" "names_task" s_names_task f_names_task fd_names_task) (b_names_task : Binds K fd_names_task ["move"] []) (g_names_task : mg "names_task" = some (.ref f_names_task))(G_is_name : FnOk P w K mg base CX0 1 f_is_name fd_is_name ["value"] spName) (F_is_name : Fun K "is_name" "is_name" s_is_name f_is_name fd_is_name) (b_is_name : Binds K fd_is_name ["value"] []) (g_is_name : mg "is_name" = some (.ref f_is_name))(m_isinstance : mg "isinstance" = none) (m_tuple : mg "tuple" = none) (m_len : mg "len" = none) :
    FnOk P w K mg base CX0 5 f fd ["value", "points", "modes"] spMove := by
  refine F.ok sc_is_move (fun vs H Q E h => ?_) (fun cdv A outer s H vs Q E hr h => ?_)
  · obtain ⟨v, pn, n, d, rfl, _⟩ := h
    rfl
  · obtain ⟨v, pn, n, d, rfl, hd, hs, q⟩ := h
    refine ⟨_, (pss_cons (ps_if (PW.pt (pw_or (pt_not (pt_val (pe_callB call_isD (by rfl) m_isinstance (by decide +kernel) (pa_cons (pv 0) (pa_cons (pe_bltn (v := .ty "tuple") (by rfl) m_tuple (by decide +kernel) rfl) pa_nil))))) (pw_or (pt_cmpR op_lt (pe_callB call_len_seq (by rfl) m_len (by decide +kernel) (pa_cons (pv 0) pa_nil)) pe_int (nomark _)) (pw_or1 (pt_not (pt_val (pe_call G_is_index (hr.mono (by decide)) (by rfl) g_is_index F_is_index.kp b_is_index .nil pass0 (pa_cons (pe_ix ix_tup (pv 0) pe_int (fun _ _ => rfl)) (pa_cons (pv 1) pa_nil)))))))))
        (pss_one (ps_ret pe_bl))
        pss_nil)
      (pss_cons (ps_if (pt_cmpR (op_eqH hr.units) (pe_ix ix_tup (pv 0) pe_int (fun _ _ => rfl)) pe_str (nomark _))
        (pss_one (ps_ret (pe_and (pe_cmpR op_eq (pe_callB call_len_seq (by rfl) m_len (by decide +kernel) (pa_cons (pv 0) pa_nil)) pe_int (nomark _)) (pe_one (pe_call G_is_mode_set (hr.mono (by decide)) (by rfl) g_is_mode_set F_is_mode_set.kp b_is_mode_set .nil pass0 (pa_cons (pe_ix ix_tup (pv 0) pe_int (fun _ _ => rfl)) (pa_cons (pv 2) pa_nil)))))))
        pss_nil)
      (pss_cons (ps_if (pt_not (pt_val (pe_call G_is_index (hr.mono (by decide)) (by rfl) g_is_index F_is_index.kp b_is_index .nil pass0 (pa_cons (pe_ix ix_tup (pv 0) pe_int (fun _ _ => rfl)) (pa_cons (pv 1) pa_nil)))))
        (pss_one (ps_ret pe_bl))
        pss_nil)
      (pss_cons (ps_if (pt_cmpR (op_eqH hr.units) (pe_ix ix_tup (pv 0) pe_int (fun _ _ => rfl)) pe_str (nomark _))
        (pss_one (ps_ret (pe_and (pe_cmpR op_eq (pe_callB call_len_seq (by rfl) m_len (by decide +kernel) (pa_cons (pv 0) pa_nil)) pe_int (nomark _)) (pe_one (pe_call G_is_pair_set (hr.mono (by decide)) (by rfl) g_is_pair_set F_is_pair_set.kp b_is_pair_set .nil pass0 (pa_cons (pe_ix ix_tup (pv 0) pe_int (fun _ _ => rfl)) (pa_cons (pv 2) pa_nil)))))))
        pss_nil)
      (pss_cons (ps_if (PW.pt (pw_or (pt_not (pt_val (pe_call G_names_task (hr.mono (by decide)) (by rfl) g_names_task F_names_task.kp b_names_task .nil pass0 (pa_cons (pv 0) pa_nil)))) (pw_or1 (pt_cmpR op_ne (pe_callB call_len_seq (by rfl) m_len (by decide +kernel) (pa_cons (pv 0) pa_nil)) pe_int (nomark _)))))
        (pss_one (ps_ret pe_bl))
        pss_nil)
      (pss_one (ps_ret (pe_and (pe_call G_is_name (hr.mono (by decide)) (by rfl) g_is_name F_is_name.kp b_is_name .nil pass0 (pa_cons (pe_ix ix_tup (pv 0) pe_int (fun _ _ => rfl)) pa_nil)) (pe_one (pe_call G_is_mode_set (hr.mono (by decide)) (by rfl) g_is_mode_set F_is_mode_set.kp b_is_mode_set .nil pass0 (pa_cons (pe_ix ix_tup (pv 0) pe_int (fun _ _ => rfl)) (pa_cons (pv 2) pa_nil)))))))))))), ?_⟩
    obtain ⟨ds, rfl⟩ | hn := split_tup d
    · cases hd with
      | @tup p xs ds e a =>
      refine ⟨_, rfl, _, .tuple ds, _, true, rfl, .tup e a, kT (.tuple ds), _, rfl, iteF ?_⟩
      obtain ⟨l60, sms⟩ := sm_tup.mp hs
      have q : ∀ b, isMove pn n (.tuple ds) = b → ∀ H', Same H H' → Q (.bl b) H' := fun b eb => by
        subst eb
        exact q
      refine ⟨_, rfl, p, xs, rfl, .inr (.inl (.inl e)), _, 3, rfl, rfl, _, rfl, ?_⟩
      match ds, xs, a with
      | [], _, .nil => exact ifY (by decide) (q _ rfl H (Same.refl H))
      | [_], _, .cons _ .nil => exact ifY (by simp) (q _ rfl H (Same.refl H))
      | [_, _], _, .cons _ (.cons _ .nil) => exact ifY (by simp) (q _ rfl H (Same.refl H))
      | w0 :: a :: x :: r, _, .cons (v := vw) hw (.cons (v := va) ha (.cons (v := vx) (vs := vr) hx hr')) =>
        have lr := hr'.len
        refine ifN (by simp; omega) ?_
        refine ⟨_, rfl, p, _, 1, va, rfl, rfl, .inl (.inl e), atI_nat (j := 1) rfl, _, rfl, _, _, a, rfl, ha, sms a (by simp), fun H1 s1 => ⟨_, rfl, ?_⟩⟩
        cases e1 : isNum pn a with
        | false => exact iteT (q _ (by simp [isMove, e1]) H1 s1)
        | true =>
        refine iteF ⟨_, rfl, p, _, 0, vw, rfl, rfl, .inl (.inl (s1 _ _ e)), atI_nat (j := 0) rfl, w0, .str "leave", hw.same s1, .str _, strP.1, strP.2, _, rfl, ite2 (fun e2 => ?_) (fun e2 => ?_)⟩
        · refine ⟨_, rfl, p, _, rfl, .inr (.inl (.inl (s1 _ _ e))), rfl, _, rfl, ?_⟩
          match r, vr, hr' with
          | [], _, .nil =>
            refine ifY rfl ⟨_, rfl, p, _, 2, vx, rfl, rfl, .inl (.inl (s1 _ _ e)), atI_nat (j := 2) rfl, _, rfl, _, _, x, rfl, hx.same s1, sms x (by simp), fun H2 s2 => ?_⟩
            exact q _ (by simp [isMove, e1, e2]) H2 (s1.trans s2)
          | _ :: _, _, .cons _ _ => exact ifN (intN (by simp)) (q _ (by simp [isMove, e1, e2]) H1 s1)
        · have e2 := (Bool.not_eq_true _).mp e2
          refine ⟨_, rfl, p, _, 2, vx, rfl, rfl, .inl (.inl (s1 _ _ e)), atI_nat (j := 2) rfl, _, rfl, _, _, x, rfl, hx.same s1, sms x (by simp), fun H2 s2' => ⟨_, rfl, ?_⟩⟩
          have s2 := s1.trans s2'
          cases e2b : isNum pn x with
          | false => exact iteT (q _ (by simp [isMove, e1, e2, e2b]) H2 s2)
          | true =>
          refine iteF ⟨_, rfl, p, _, 0, vw, rfl, rfl, .inl (.inl (s2 _ _ e)), atI_nat (j := 0) rfl, w0, .str "go", hw.same s2, .str _, strP.1, strP.2, _, rfl, ite2 (fun e3 => ?_) (fun e3 => ?_)⟩
          · refine ⟨_, rfl, p, _, rfl, .inr (.inl (.inl (s2 _ _ e))), rfl, _, rfl, ?_⟩
            match r, vr, hr' with
            | [], _, .nil => exact ifN (intN (by simp)) (q _ (by simp [isMove, e1, e2, e2b, e3]) H2 s2)
            | [y], _, .cons (v := vy) hy .nil =>
              refine ifY rfl ⟨_, rfl, p, _, 3, vy, rfl, rfl, .inl (.inl (s2 _ _ e)), atI_nat (j := 3) rfl, _, rfl, _, _, y, rfl, hy.same s2, sms y (by simp), fun H3 s3 => ?_⟩
              exact q _ (by simp [isMove, e1, e2, e2b, e3]) H3 (s2.trans s3)
            | _ :: _ :: _, _, .cons _ (.cons _ _) => exact ifN (intN (by simp)) (q _ (by simp [isMove, e1, e2, e2b, e3]) H2 s2)
          · have e3 := (Bool.not_eq_true _).mp e3
            refine ⟨_, rfl, p, vw, _, w0, rfl, s2 _ _ e, hw.same s2, fun H3 s3 => ⟨_, rfl, ?_⟩⟩
            have s23 := s2.trans s3
            cases e4 : strIn w0 ["call", "post"] with
            | false => exact iteT (q _ (by simp [isMove, e1, e2, e2b, e3, e4]) H3 s23)
            | true =>
              refine iteF ?_
              refine ⟨_, rfl, p, _, rfl, .inr (.inl (.inl (s23 _ _ e))), rfl, _, rfl, ?_⟩
              match r, vr, hr' with
              | [], _, .nil => exact ifNN (intN (by simp)) (q _ (by simp [isMove, e1, e2, e2b, e3, e4]) _ s23)
              | [_], _, .cons _ .nil => exact ifNN (intN (by simp)) (q _ (by simp [isMove, e1, e2, e2b, e3, e4]) _ s23)
              | [y, z], _, .cons (v := vy) hy (.cons (v := vz) hz .nil) =>
                have hy' := hy.same s23
                refine ifNY rfl ⟨_, rfl, p, _, 3, vy, rfl, rfl, .inl (.inl (s23 _ _ e)), atI_nat (j := 3) rfl, vy, rfl, jud_of hy' (sms y (by simp)), fun H4 s4 => ⟨_, rfl, ?_⟩⟩
                rw [name_of hy']
                have s24 := s23.trans s4
                cases e5 : nameD y with
                | false => exact iteF (q _ (by simp [isMove, e1, e2, e2b, e3, e4, e5]) _ s24)
                | true =>
                  refine iteT ⟨_, rfl, p, _, 4, vz, rfl, rfl, .inl (.inl (s24 _ _ e)), atI_nat (j := 4) rfl, _, rfl, _, _, z, rfl, hz.same s24, sms z (by simp), fun H5 s5 => ?_⟩
                  exact q _ (by simp [isMove, e1, e2, e2b, e3, e4, e5]) _ (s24.trans s5)
              | _ :: _ :: _ :: _, _, .cons _ (.cons _ (.cons _ _)) => exact ifNN (intN (by simp)) (q _ (by simp [isMove, e1, e2, e2b, e3, e4]) _ s23)
    · have k := kT d
      rw [hn.1] at k
      refine ⟨_, rfl, _, d, _, false, rfl, hd, k, _, rfl, iteT (iteT ?_)⟩
      have q := q H (Same.refl H)
      rw [hn.2.2.2.2 pn n] at q
      exact q

end
end My

namespace My
open PySem PySem.Spec PyProof.Rows L2 Sh Dt
abbrev Nlaw_is_pairs : List Str := ["value", "total", "pair"]
abbrev Nlaw_is_step : List Str := ["value", "points", "total"]
theorem isPairs_bad {n : Int} {ds : List PyData} {d : PyData} (hm : d ∈ ds) (h : isPair n d = false) : isPairs n (.tuple ds) = false := by
  have e : ds.all (isPair n) = false := by
    cases e : ds.all (isPair n) with
    | false => rfl
    | true =>
      rw [List.all_eq_true.mp e d hm] at h
      cases h
  show (!ds.isEmpty && ds.all (isPair n) && _) = false
  rw [e, Bool.and_false, Bool.false_and]
section
variable {P : Program} {w : World} {K : PySem.W.Frag} {mg : Str → Option Value} {base : Heap}
end
end My

namespace Zt
open PySem PySem.Spec PyProof.Rows L2 Sh
/-- a name that a comprehension holds in a cell: nothing is exchanged -/
theorem sw_cell {elt : Expr} {gs : List Comprehension} {scope : Scope} {pos py : Pos} {y : Str} {l : Nat} {env : Env} (hy : env.scope.names.lookup y = some .cell) : swapsWith (.ListComp elt gs scope pos) (some (.Name y py)) l env = pure false := by
  have ky : env.kindOf y = some .cell := hy
  unfold swapsWith
  simp only [ky]
  have e : ((some NameKind.cell : Option NameKind) == some .local) = false := by decide
  rw [e]
  simp
/-! ### wide bags of one length -/
def OfLen (n : Nat) (k : List Int) : Prop := Wide k ∧ k.length = n
theorem fits_anti {a b : List Int} (hl : a.length = b.length) (h1 : fitsB a b = true) (h2 : fitsB b a = true) : a = b := List.ext_getElem? fun i => by
  by_cases hi : i < a.length
  · have z1 := List.getElem?_eq_getElem hi
    have z2 := List.getElem?_eq_getElem (show i < b.length by omega)
    have e1 := fitE_iff.mp (fits_at.mp h1 i _ _ z1 z2)
    have e2 := fitE_iff.mp (fits_at.mp h2 i _ _ z2 z1)
    rw [z1, z2]
    congr 1
    omega
  · rw [List.getElem?_eq_none (by omega), List.getElem?_eq_none (by omega)]
abbrev under (a b : List Int) : Bool := fitsB b a
theorem ord_fits (n : Nat) : Ord fitsB (OfLen n) := ⟨fun x h => fits_self h.1.2.2, fun x y z hx hy hz h1 h2 => fits_trans (by rw [hx.2, hy.2]) h1 h2, fun x y hx hy h1 h2 => fits_anti (by rw [hx.2, hy.2]) h1 h2⟩
theorem ord_under (n : Nat) : Ord under (OfLen n) := ⟨fun x h => fits_self h.1.2.2, fun x y z hx hy hz h1 h2 => fits_trans (by rw [hz.2, hy.2]) h2 h1, fun x y hx hy h1 h2 => (fits_anti (by rw [hx.2, hy.2]) h2 h1)⟩
/-- a sum with numbers from 0 on keeps the order -/
def NonNeg (m : List Int) : Prop := ∀ e ∈ m, 0 ≤ e
theorem fit_sums {x y m : List Int} {n : Nat} (hx : OfLen n x) (hy : OfLen n y) (hm : NonNeg m) (lm : m.length = n) : fitsB (addB x m) (addB y m) = fitsB x y := by
  have key : ∀ i e f g, x[i]? = some e → y[i]? = some f → m[i]? = some g → fitE (addE e g) (addE f g) = fitE e f := fun i e f g h1 h2 h3 => by
    have a1 := hx.1.2.2 e (List.mem_of_getElem? h1)
    have a2 := hy.1.2.2 f (List.mem_of_getElem? h2)
    have a3 := hm g (List.mem_of_getElem? h3)
    rw [Bool.eq_iff_iff, fitE_iff, fitE_iff]
    unfold addE
    split <;> split <;> omega
  rw [Bool.eq_iff_iff, fits_at, fits_at]
  have l1 := hx.2
  have l2 := hy.2
  constructor
  · intro h i e f h1 h2
    have hi := (List.getElem?_eq_some_iff.mp h1).1
    have h3 := List.getElem?_eq_getElem (show i < m.length by omega)
    rw [← key i e f _ h1 h2 h3]
    exact h i _ _ (add_at h1 h3) (add_at h2 h3)
  · intro h i e f h1 h2
    have hi := (List.getElem?_eq_some_iff.mp h1).1
    rw [add_len (by omega)] at hi
    have z1 := List.getElem?_eq_getElem hi
    have z2 := List.getElem?_eq_getElem (show i < y.length by omega)
    have h3 := List.getElem?_eq_getElem (show i < m.length by omega)
    rw [add_at z1 h3] at h1
    rw [add_at z2 h3] at h2
    cases h1
    cases h2
    rw [key i _ _ _ z1 z2 h3]
    exact h i _ _ z1 z2
theorem sums_inj {x y m : List Int} {n : Nat} (hx : OfLen n x) (hy : OfLen n y) (hm : NonNeg m) (lm : m.length = n) (h : addB x m = addB y m) : x = y := by
  have h1 := fit_sums hx hy hm lm
  have h2 := fit_sums hy hx hm lm
  have sx : OfLen n (addB x m) := by
    have wm : ∀ e ∈ m, -1 ≤ e := fun e he => by have := hm e he; omega
    have l := add_len (ns := x) (ms := m) (by rw [hx.2, lm])
    exact ⟨⟨by rw [l]; exact hx.1.1, by rw [l]; exact hx.1.2.1, add_low hx.1.2.2 wm⟩, by rw [l]; exact hx.2⟩
  rw [← h, fits_self sx.1.2.2] at h1 h2
  exact fits_anti (by rw [hx.2, hy.2]) h1.symm h2.symm
theorem sum_len {x m : List Int} {n : Nat} (hx : OfLen n x) (hm : NonNeg m) (lm : m.length = n) : OfLen n (addB x m) := by
  have wm : ∀ e ∈ m, -1 ≤ e := fun e he => by have := hm e he; omega
  have l := add_len (ns := x) (ms := m) (by rw [hx.2, lm])
  exact ⟨⟨by rw [l]; exact hx.1.1, by rw [l]; exact hx.1.2.1, add_low hx.1.2.2 wm⟩, by rw [l]; exact hx.2⟩
/-- what is added to all keeps the greatest ones -/
theorem tops_sums {n : Nat} {S T U : List (List Int)} {m : List Int} (hS : ∀ x ∈ S, OfLen n x) (hm : NonNeg m) (lm : m.length = n) (aT : Asc T) (mT : ∀ k, k ∈ T ↔ ∃ x ∈ S, k = addB x m) (aU : U.Pairwise fun q r => lx r q = false)
    (pU : U.Perm ((tops fitsB S).map fun x => addB x m)) (nd : S.Nodup) : tops fitsB T = U := by
  have sub : ∀ x ∈ tops fitsB S, OfLen n x := fun x hx => hS x (mem_tops.mp hx).1
  have ndU : U.Nodup := by
    refine pU.nodup_iff.mpr (List.pairwise_map.mpr ?_)
    exact (List.Pairwise.filter _ nd).imp_of_mem fun hx hy ne e => ne (sums_inj (sub _ hx) (sub _ hy) hm lm e)
  refine asc_uniq aT.tops (asc_of aU ndU) fun k => ?_
  rw [mem_tops, pU.mem_iff, List.mem_map, mT]
  constructor
  · rintro ⟨⟨x, hx, rfl⟩, h⟩
    refine ⟨x, mem_tops.mpr ⟨hx, fun y hy ne => ?_⟩, rfl⟩
    rw [← fit_sums (hS x hx) (hS y hy) hm lm]
    exact h _ ((mT _).mpr ⟨y, hy, rfl⟩) fun e => ne (sums_inj (hS y hy) (hS x hx) hm lm e)
  · rintro ⟨x, hx, rfl⟩
    obtain ⟨hx1, hx2⟩ := mem_tops.mp hx
    refine ⟨⟨x, hx1, rfl⟩, fun y hy ne => ?_⟩
    obtain ⟨z, hz, rfl⟩ := (mT y).mp hy
    rw [fit_sums (hS x hx1) (hS z hz) hm lm]
    exact hx2 z hz fun e => ne (by rw [e])

/-! ### what is told of the functions -/
def BagsOf (n : Nat) (ks : List (Addr × List Int)) : Prop := (∀ q ∈ ks, OfLen n q.2) ∧ ks.length < 64
structure BagsAt (H : Hp) (p : Addr) (n : Nat) (ks : List (Addr × List Int)) : Prop where
  tup : H p = some (.tup (refs ks))
  row : ∀ q ∈ ks, H q.1 = some (.tup (q.2.map V.int))
  all : ∀ q ∈ ks, OfLen n q.2
  few : ks.length < 64
theorem BagsAt.same {H H' : Hp} {p : Addr} {n : Nat} {ks : List (Addr × List Int)} (h : BagsAt H p n ks) (s : Same H H') : BagsAt H' p n ks := ⟨s _ _ h.tup, fun q hq => s _ _ (h.row q hq), h.all, h.few⟩
theorem BagsAt.but {H H' : Hp} {d p : Addr} {n : Nat} {ks : List (Addr × List Int)} (h : BagsAt H p n ks) (hd : DieAt H d) (b : But d H H') : BagsAt H' p n ks := ⟨b.tup hd h.tup, fun q hq => b.tup hd (h.row q hq), h.all, h.few⟩
def spChk : Sp := fun vs H Q _ => ∃ p n ks, vs = [.ref p] ∧ BagsAt H p n ks ∧ ∀ H', Same H H' → Q .non H'
def spTops (le : List Int → List Int → Bool) : Sp := fun vs H Q _ => ∃ p n ks, vs = [.ref p] ∧ BagsAt H p n ks ∧
  ∀ r H' L S, Same H H' → BagsAt H' r n L → Asc S → (∀ k, k ∈ S ↔ k ∈ keys ks) → keys L = tops le S → (∀ q ∈ L, q ∈ ks) → Q (.ref r) H'
theorem ref_at {ks : List (Addr × List Int)} {i : Nat} {x : V} (h : (refs ks)[i]? = some x) : ∃ q, ks[i]? = some q ∧ x = .ref q.1 ∧ q ∈ ks := by
  rw [List.getElem?_map, Option.map_eq_some_iff] at h
  obtain ⟨q, hq, rfl⟩ := h
  exact ⟨q, hq, rfl, List.mem_of_getElem? hq⟩
theorem rowsIn_of {K : PySem.W.Frag} {H : Hp} {ks : List (Addr × List Int)} (h : ∀ q ∈ ks, H q.1 = some (.tup (q.2.map V.int))) : RowsIn K H ks := fun q hq => .inl (.inl (h q hq))
theorem take_keys {α : Type} {l : List α} {i : Nat} {x : α} (h : l[i]? = some x) : l.take (i + 1) = l.take i ++ [x] := by
  rw [List.take_add_one, h]
  rfl
/-- the greatest or the least ones, as they are told -/
structure Told1 (H : Hp) (t : Addr) (n : Nat) (ks M : List (Addr × List Int)) : Prop where
  at_ : BagsAt H t n M
  asc : Asc (keys M)
  sub : ∀ q ∈ M, q ∈ ks
  quiet : ∀ x ∈ keys M, ∀ y ∈ keys M, y ≠ x → fitsB x y = false
theorem Told1.same {H H' : Hp} {t : Addr} {n : Nat} {ks M : List (Addr × List Int)} (h : Told1 H t n ks M) (s : Same H H') : Told1 H' t n ks M := ⟨h.at_.same s, h.asc, h.sub, h.quiet⟩
theorem keys_mem {ks : List (Addr × List Int)} {q : Addr × List Int} (h : q ∈ ks) : q.2 ∈ keys ks := List.mem_map.mpr ⟨q, h, rfl⟩
theorem OfLen.ne {n : Nat} {k : List Int} (h : OfLen n k) : k ≠ [] := fun e => by
  have := h.1.1
  rw [e] at this
  simp at this
theorem allC {α : Type} {p : α → Prop} {x : α} {l : List α} (h : p x) (r : ∀ y ∈ l, p y) : ∀ y ∈ x :: l, p y := fun y hy => by
  rcases List.mem_cons.mp hy with rfl | hy
  · exact h
  · exact r y hy
theorem allN {α : Type} {p : α → Prop} : ∀ y ∈ ([] : List α), p y := fun y hy => nomatch hy
end Zt

/-! errors that leave a def, lambdas that a helper calls, the end with tables -/
namespace Xc
open PySem PySem.Spec PyProof.Rows L2 LamX Sh Zt
/-! ### the end: the tables of the defs that make lambdas -/
theorem walk_tabs {l : PySem.W.OpenLaw} {n k : Nat} {q : Program} {loose : List Str} {XP : (Str → Option Value) → Heap → Prop} {YP : World → Heap → Prop} {d : DefRec} {K : Params → PySem.W.Frag} {CX : World → CXT} {x : Str}
    (names : List Str) (hrec : ∀ y ∈ names, ((recsOf q).find? fun e => e.name == y).isSome = true) (hn : l.most = some n) (hn2 : n ≤ sizeLine) (hdf : d.params.defaults = []) (hr : Room k callerA) (hY : ∀ (w : World) (h : Heap), YP w h → (K w.params).In h)
    (F : ∀ (w : World) (mg : Str → Option Value) (fa : Addr) (h : Heap), (K w.params).In h → h.Ns mainGlobals mg → mg d.name = some (.ref fa) →
      (∀ y ∈ names, ∀ c P, PySem.W.tabIn (K w.params) y = some (c, P) → PySem.W.CodeHd h c P ∧ h.get? P = some (PySem.W.tabObj #[])) → LawAtS l w (K w.params) (CX w) k n x mg fa h)
    (hCX : ∀ (w : World) (H : Hp) (s : Shared) (e : Value) (s' : Shared), CX w [] H s (fun _ _ _ => False) e s' → False) :
    PySem.W.WalkO q loose XP YP l.row.toRowW d [] (fun f vs => PySem.call f vs) := by
  refine Att.attach_callB hn hdf fun w s0 s1 mg mb fa o pm cd doc a vs ns G Y ho hd hcd hmg hobj hints hlen hbits hg => ?_
  have KX := hY w _ Y
  have tabs : ∀ y ∈ names, ∀ c P, PySem.W.tabIn (K w.params) y = some (c, P) → PySem.W.CodeHd s1.heap c P ∧ s1.heap.get? P = some (PySem.W.tabObj #[]) := fun y hy c P ht => by
    obtain ⟨dd, hdd⟩ := Option.isSome_iff_exists.mp (hrec y hy)
    exact PySem.W.tab_of G.T KX hdd ht
  obtain ⟨fd, cs, sp, hT, nT, C, hb, hsp, hF⟩ := F w mg fa _ KX G.T.g hmg tabs
  exact law_callTs KX G.T.g G.T.b G.T.builtins G.T.nolimit hg hT nT C G.T.bmain hobj hints (Nat.le_trans hlen hn2) hr hF hb (fun H hH hS => hsp H a ns hlen hbits hH hS) fun H e s' => hCX w H s1 e s'
theorem tab_in {K : PySem.W.Frag} {x : Str} {f c P : Addr} {oc : Value} {od : Option Addr} {fd : FuncData} {sl sl2 : Array (Option Value)} {e : Value} {dd : Option Addr} {vs : Array Value} (a : PySem.W.nsIn K mainGlobals x = some (some (.ref f))) (l : K.lookup f = some ⟨oc, od, .func fd, sl⟩) (hc : fd.code = .ref c)
    (lc : K.lookup c = some ⟨e, dd, .fields vs, sl2⟩) (hv : vs[11]? = some (.ref P)) : PySem.W.tabIn K x = some (c, P) := by
  unfold PySem.W.tabIn
  simp only [a, l, hc, lc, hv]

/-! ### all but the tables stay -/
theorem ExtN.tup {H H' : Hp} (e : ExtN H H') {p : Addr} {xs : List V} (h : H p = some (.tup xs)) : H' p = some (.tup xs) := e _ _ h fun _ z => by cases z
theorem ExtN.lst {H H' : Hp} (e : ExtN H H') {p : Addr} {xs : List V} (h : H p = some (.lst xs)) : H' p = some (.lst xs) := e _ _ h fun _ z => by cases z
theorem ExtN.same {H H' H2 : Hp} (e : ExtN H H') (s : Same H' H2) : ExtN H H2 := e.trans (ExtN.of s)
theorem ExtN.die {H H' : Hp} (e : ExtN H H') {d : Addr} (h : DieAt H d) : DieAt H' d := by
  obtain ⟨a, b, c, h⟩ := h
  exact ⟨a, b, c, ExtN.lst e h⟩
theorem ExtN.notup {H H' : Hp} (e : ExtN H H') {v : V} (h : NoTup H v) : NoTup H' v := by
  rcases h with h | h | h | h | ⟨p, xs, e1, h⟩ | ⟨p, xs, e1, h⟩
  · exact .inl h
  · exact .inr (.inl h)
  · exact .inr (.inr (.inl h))
  · exact .inr (.inr (.inr (.inl h)))
  · exact .inr (.inr (.inr (.inr (.inl ⟨p, xs, e1, ExtN.lst e h⟩))))
  · exact .inr (.inr (.inr (.inr (.inr ⟨p, xs, e1, e _ _ h fun _ z => by cases z⟩))))
theorem ExtN.kn {H H' : Hp} (e : ExtN H H') {v : V} (h : Kn H v) : Kn H' v := by
  rcases h with h | ⟨p, xs, e1, h⟩
  · exact .inl (ExtN.notup e h)
  · exact .inr ⟨p, xs, e1, ExtN.tup e h⟩
theorem tabs_but {T : List (Addr × Str)} {H H' : Hp} {d : Addr} (hd : DieAt H d) (b : But d H H') (t : Tabs T H) : Tabs T H' := fun p hp => by
  obtain ⟨ps, h1, h2, h3⟩ := t p hp
  refine ⟨ps, b _ _ (hd.ne h1 fun _ _ _ z => by cases z) h1, h2, fun pos cv hc => ?_⟩
  obtain ⟨c, e1, e2⟩ := h3 pos cv hc
  exact ⟨c, e1, b _ _ (hd.ne e2 fun _ _ _ z => by unfold CodeO at z; cases z) e2⟩
theorem tabs_same {T : List (Addr × Str)} {H H' : Hp} (s : Same H H') (t : Tabs T H) : Tabs T H' := t.ext s

/-! ### what is seen of a value -/
/-- no tuple, or a tuple of these -/
def Sees (H : Hp) (v : V) : Option (List V) → Prop
  | none => NoTup H v
  | some xs => ∃ p, v = .ref p ∧ H p = some (.tup xs) ∧ xs.length ≤ 1000 ∧ ∀ x ∈ xs, Kn H x
theorem sees_of {H : Hp} {v : V} (h : Val H v) : ∃ o, Sees H v o := by
  rcases h with h | ⟨p, xs, e, h, l, k⟩
  · exact ⟨none, h⟩
  · exact ⟨some xs, p, e, h, l, k⟩
theorem Sees.same {H H' : Hp} {v : V} (s : Same H H') : ∀ {o : Option (List V)}, Sees H v o → Sees H' v o
  | none, h => NoTup.same s h
  | some xs, ⟨p, e, h, l, k⟩ => ⟨p, e, s _ _ h, l, fun x hx => (k x hx).same s⟩
theorem Sees.ext {H H' : Hp} {v : V} (s : ExtN H H') : ∀ {o : Option (List V)}, Sees H v o → Sees H' v o
  | none, h => ExtN.notup s h
  | some xs, ⟨p, e, h, l, k⟩ => ⟨p, e, ExtN.tup s h, l, fun x hx => ExtN.kn s (k x hx)⟩
def wideO : Option (List V) → Bool
  | none => false
  | some xs => entOk (-1) xs
def lenO : Option (List V) → Nat
  | none => 0
  | some xs => xs.length
theorem told_of {H : Hp} {v : V} {o : Option (List V)} {Q : VK} (h : Sees H v o) (q : ∀ H', Same H H' → Q (.bl (wideO o)) H') : Told (-1) H v Q := by
  cases o with
  | none => exact .inl ⟨h, q⟩
  | some xs =>
    obtain ⟨p, e, h1, h2, h3⟩ := h
    exact .inr ⟨p, xs, e, h1, h2, h3, q⟩
theorem ints_of {xs : List V} (h : (xs.map (entB (-1))).all id = true) : ∃ ns : List Int, xs = ns.map V.int ∧ ∀ n ∈ ns, -1 ≤ n := by
  induction xs with
  | nil => exact ⟨[], rfl, fun n hn => nomatch hn⟩
  | cons x r ih =>
    rw [List.map_cons, List.all_cons, Bool.and_eq_true] at h
    obtain ⟨ns, e, hn⟩ := ih h.2
    cases x with
    | int i =>
      refine ⟨i :: ns, by rw [e]; rfl, fun n hm => ?_⟩
      rcases List.mem_cons.mp hm with rfl | hm
      · exact of_decide_eq_true h.1
      · exact hn n hm
    | _ => exact absurd h.1 (by intro z; cases z)
/-- a wide bag is seen as what it is -/
theorem wide_of {H : Hp} {v : V} {o : Option (List V)} (h : Sees H v o) (w : wideO o = true) : ∃ p ns, v = .ref p ∧ H p = some (.tup (ns.map V.int)) ∧ OfLen (lenO o) ns := by
  cases o with
  | none => cases w
  | some xs =>
    obtain ⟨p, e, h1, _, _⟩ := h
    have w' : entOk (-1) xs = true := w
    unfold entOk at w'
    rw [Bool.and_eq_true, Bool.and_eq_true, decide_eq_true_iff, decide_eq_true_iff] at w'
    obtain ⟨ns, rfl, hn⟩ := ints_of w'.2
    rw [List.length_map] at w'
    exact ⟨p, ns, e, h1, ⟨w'.1.1, w'.1.2, hn⟩, (List.length_map _).symm⟩
theorem sees_wide {H : Hp} {p : Addr} {ns : List Int} (h : H p = some (.tup (ns.map V.int))) (w : Wide ns) : Sees H (.ref p) (some (ns.map V.int)) := ⟨p, rfl, h, w.len, ints_kn⟩
theorem wideO_wide {ns : List Int} (w : Wide ns) : wideO (some (ns.map V.int)) = true := w.ok
def pairOk (o1 o2 : Option (List V)) : Bool := wideO o1 && wideO o2 && decide (lenO o1 = lenO o2)
/-- all of them wide and of one length -/
def allOk (os : List (Option (List V))) : Bool := os.all wideO && os.all fun o => decide (lenO o = lenO (os.headD none))
/-- each of the values is seen so -/
inductive SeesAll (H : Hp) : List V → List (Option (List V)) → Prop
  | nil : SeesAll H [] []
  | cons {v : V} {o : Option (List V)} {vs : List V} {os : List (Option (List V))} : Sees H v o → SeesAll H vs os → SeesAll H (v :: vs) (o :: os)
theorem SeesAll.same {H H' : Hp} (s : Same H H') {vs : List V} {os : List (Option (List V))} (h : SeesAll H vs os) : SeesAll H' vs os := by
  induction h with
  | nil => exact .nil
  | cons h _ ih => exact .cons (h.same s) ih
theorem SeesAll.len {H : Hp} {vs : List V} {os : List (Option (List V))} (h : SeesAll H vs os) : vs.length = os.length := by
  induction h with
  | nil => rfl
  | cons _ _ ih => rw [List.length_cons, List.length_cons, ih]
theorem SeesAll.at_ {H : Hp} {vs : List V} {os : List (Option (List V))} (h : SeesAll H vs os) : ∀ {i : Nat} {v : V}, vs[i]? = some v → ∃ o, os[i]? = some o ∧ Sees H v o := by
  induction h with
  | nil => intro i v e; simp at e
  | cons h _ ih =>
    intro i v e
    cases i with
    | zero =>
      cases e
      exact ⟨_, rfl, h⟩
    | succ i => exact ih e
/-- they are bags -/
theorem SeesAll.bags {H : Hp} {n : Nat} {vs : List V} {os : List (Option (List V))} (h : SeesAll H vs os) (w : os.all wideO = true) (l : ∀ o ∈ os, lenO o = n) : ∃ ks : List (Addr × List Int), vs = refs ks ∧ (∀ q ∈ ks, H q.1 = some (.tup (q.2.map V.int))) ∧ (∀ q ∈ ks, OfLen n q.2) ∧ ks.length = os.length := by
  induction h with
  | nil => exact ⟨[], rfl, (fun q hq => nomatch hq), (fun q hq => nomatch hq), rfl⟩
  | @cons v o vs os h _ ih =>
    rw [List.all_cons, Bool.and_eq_true] at w
    obtain ⟨ks, e, h1, h2, h3⟩ := ih w.2 fun o ho => l o (.tail _ ho)
    obtain ⟨p, ns, rfl, hp, hn⟩ := wide_of h w.1
    rw [l o (.head _)] at hn
    refine ⟨(p, ns) :: ks, by rw [e]; rfl, allC hp h1, allC hn h2, by rw [List.length_cons, List.length_cons, h3]⟩

/-! ### what is told of defs that may raise InvalidBag, whose class is C -/
def spTwo (C : Addr) : Sp := fun vs H Q E => ∃ u v o1 o2, vs = [u, v] ∧ Sees H u o1 ∧ Sees H v o2 ∧ (pairOk o1 o2 = true → ∀ r H', Same H H' → Q r H') ∧ (pairOk o1 o2 = false → ∀ H', Same H H' → E (.ref C) none H')
/-- of no tuple at all, or a tuple of values -/
def spRow (C : Addr) : Sp := fun vs H Q E => ∃ u, vs = [u] ∧
  ((((NoTup H u ∨ ∃ p xs, u = .ref p ∧ H p = some (.dT xs))) ∧ ∀ H', Same H H' → E (.ref C) none H') ∨
    ∃ p xs os, u = .ref p ∧ H p = some (.tup xs) ∧ SeesAll H xs os ∧ xs.length < 64 ∧ (allOk os = true → ∀ r H', Same H H' → Q r H') ∧ (allOk os = false → ∀ H', Same H H' → E (.ref C) none H'))
/-- the facts of the two classes -/
structure ClsE (K : PySem.W.Frag) (mg : Str → Option Value) (C D : Addr) : Prop where
  gC : mg "InvalidBag" = some (.ref C)
  gD : mg "BagError" = some (.ref D)
  ex : PySem.W.excIn K C [.type "ValueError", .type "Exception", .type "BaseException", .type "object"] "ValueError.__new__" = true
  kC : PySem.W.keepIn K (.ref C) = true
  bC : PySem.W.subIn K (.ref C) (.type "BaseException") = some true
  tC : PySem.W.typeIn K (.ref C) = some (.type "type")
  ss : PySem.W.subIn K (.ref C) (.ref C) = some true
  sd : PySem.W.subIn K (.ref C) (.ref D) = some true
  iD : PySem.W.isClsIn K D = true
  tD : PySem.W.typeIn K (.ref D) = some (.type "type")
  ec : ExcC K C
theorem ClsE.exm {K : PySem.W.Frag} {mg : Str → Option Value} {C D : Addr} (T : ClsE K mg C D) : PySem.W.exmOne K (.ref C) (.ref C) = some true := PySem.W.exm_ref T.bC T.ec.hd T.tC T.ss
theorem ClsE.kit {K : PySem.W.Frag} {mg : Str → Option Value} {C D : Addr} (T : ClsE K mg C D) : PySem.W.kitOne K (.ref C) (.ref D) = some true := by
  unfold PySem.W.kitOne
  split
  · rfl
  · unfold PySem.W.kitCls
    have h1 := T.iD
    unfold PySem.W.isClsIn at h1
    simp only
    rw [if_pos]
    · exact T.sd
    · rw [T.tD]
      first
        | simpa using h1
        | (simp; simpa using h1)
end Xc

namespace Xc
open PySem PySem.Spec PyProof.Rows L2 LamX Sh Zt
/-- whether a call is refused with the class at C -/
def TMet (C : Addr) : (XK → Hp → VK → Prop) → Hp → VK → Prop := fun tl H Q => tl (fun cls d H' => cls = .ref C ∧ d = none ∧ Q (.bl true) H') H (fun _ H' => Q (.bl false) H')
theorem boot_isi : bootBuiltins "isinstance" = some (.builtin "isinstance") := by decide +kernel
section
variable {X : Cx}
theorem met_gives {Ng : List Str} {nm a e q : Str} {sg : Scope} {g C DB : Addr} {cdg : Value} {j : Nat} {p1 p2 p3 p4 p5 p6 p7 p8 p9 p10 p11 p12 p13 : Pos} (T : ClsE X.K X.mg C DB) (mI : X.mg "isinstance" = none)
    (h1 : sg.names.lookup ("InvalidBag" : Str) = some .globalImplicit) (h2 : sg.names.lookup ("BagError" : Str) = some .globalImplicit) (h3 : sg.names.lookup ("isinstance" : Str) = some .globalImplicit)
    (nd : Ng.Nodup) (hi : Ng[1]? = some e) (hle : sg.names.lookup e = some .local) (h0 : ∀ f : Addr, (L2.start Ng [V.ref f])[0]? = some (some (V.ref f)))
    (he1 : (e == ("__debug__" : Str)) = false) (he2 : (e == ("__classdict__" : Str)) = false) (hne : Ng.length = 2) :
    GivesTo X Ng nm sg g cdg [.Try [.Expr (.Call (.Name a p1) [] [] p2) p3] [.ExceptHandler (some (.Name "InvalidBag" p4)) (some e) [.Return (some (.Call (.Name "isinstance" p5) [.Name e p6, .Name "BagError" p7] [] p8)) p9] p10] [] [] p11, .Return (some (.Constant (.bool false) j p12)) p13] a q (TMet C) := by
  intro f c' s H Q tl act hc h
  let Z : Cx := (cxOf C8.CX0 X.prog X.w X.K X.mg X.base Ng nm sg g cdg X.A X.stack s H C8.E0).nox
  have g1 : Gl Z "InvalidBag" := h1
  refine ⟨_, pss_cons (ps_try_as (X := Z) (i := 1) (c := .ref C) (Wout := fun _ _ _ _ => False)
      (tb := fun W D σ H => ∃ Ech : XK, (∀ cls d σ' H', Ech cls d H' → W cls d σ' H') ∧ σ[0]? = some (some (.ref f)) ∧ H c' = some (CodeO c' q) ∧ tl Ech H fun _ H' => D.nx σ H')
      (ts := fun a cls d D σ H => cls = .ref C ∧ d = none ∧ (1 < σ.length → σ[1]? = some (some (.ref a))) ∧ D.rt (.bl true) H)
      rfl rfl nd hi hle ⟨g1, by decide, .inl T.gC⟩ L2.takes0 (fun W pn xe tk _ => ?_) (fun a oe cls d pn hz hf => ?_)) (pss_one (ps_ret pe_bl)), ?_⟩
  · refine ⟨fun pins s' σ H' D I h' => ?_⟩
    obtain ⟨Ech, hW, k1, k2, k3⟩ := h'
    have hp := act W pn xe Ech p1 p2 tk hW
    exact (pss_one (ps_expr (pos := p3) hp)).run pins s' σ H' D I ⟨k1, k2, k3⟩
  · refine ⟨fun pins s' σ H' D I h' => ?_⟩
    obtain ⟨rfl, rfl, k1, k2⟩ := h'
    have ln : 1 < σ.length := by
      have := I.len
      have e1 : σ.length = Ng.length := this
      omega
    have gi : Gl (Z.suite a ((a, oe) :: pn)) "isinstance" := h3
    have gd : Gl (Z.suite a ((a, oe) :: pn)) "BagError" := h2
    have hcall : PE (Z.suite a ((a, oe) :: pn)) (.Call (.Name "isinstance" p5) [.Name e p6, .Name "BagError" p7] [] p8) _ :=
      pe_callB (call_isE (X := Z) (pn := pn) T.ec hz hf) gi mI boot_isi (pa_cons (pe_var (i := 1) hi (.inl hle) he1 he2) (pa_cons (pe_glob (v := .ref DB) gd T.gD rfl) pa_nil))
    refine (pss_one (ps_ret (pos := p9) hcall)).run pins s' σ H' D I ?_
    exact ⟨.ref a, k1 ln, .ref DB, .ref DB, true, rfl, fun u r => r, T.kit, k2⟩
  · refine ⟨fun cls d H' => cls = .ref C ∧ d = none ∧ Q (.bl true) H', fun cls d σ' H' hw => ?_, h0 f, hc, h⟩
    obtain ⟨rfl, rfl, hq⟩ := hw
    exact ⟨true, T.exm, fun _ a ha => ⟨rfl, rfl, fun hl => List.getElem?_set_self (by rw [List.length_set] at hl; exact hl), hq⟩, fun z => nomatch z⟩
end
end Xc

namespace Cl
open PySem PySem.Spec PyProof.Rows L2 Sh Eo LamX Xc
theorem passE {X : Cx} {E : XK} (tk : Takes X fun cls d _ H => E cls d H) : Passes (CX X.prog X.w) X E := fun pins σ H s e s' I h => passAt tk σ pins H s e s' I h
theorem passF {X : Cx} : Passes (CX X.prog X.w) X E0 := fun pins σ H s e s' I h => by
  obtain ⟨a, B, H', cls, d, _, _, _, _, _, _, _, h⟩ := h
  exact h.elim
/-! ### len and str of own classes -/
theorem room_in {k : Nat} {A : Around} (h : Room (k + 1) A) : Room k A.in1 := ⟨h.hd, by have := h.dp; have e : A.in1.depth = A.depth := rfl; omega, by have := h.un; have e : A.in1.units = A.units + 1 := rfl; omega⟩
theorem env_in {P : Program} {w : World} {K : PySem.W.Frag} {mg : Str → Option Value} {base : Heap} {A : Around} {outer : List Env} {s : Shared} {H : Hp} (h : Env0 P w K mg base A outer s H) : Env0 P w K mg base A.in1 outer s H := ⟨h.frames, h.mod, h.bs, h.bsz, h.funs, h.frf, h.hok, h.bare⟩
section
variable {X : Cx} {CX : CXT} {C g : Addr} {n : Nat} {sp : Sp} {E : XK}
def rLenO (C : Addr) (sp : Sp) (E : XK) : List V → Hp → VK → Prop := fun xs H Q => ∃ a dx fs, xs = [.ref a] ∧ H a = some (.ins C dx fs) ∧ sp [.ref a] H (fun v H' => ∃ i : Int, v = .int i ∧ 0 ≤ i ∧ i < 2 ^ 63 ∧ Q (.int i) H') E
theorem call_lenO (hs : W.findIn X.K (.ref C) "__len__" = some (some (.ref g))) (hf : W.isFn X.K (.ref g) = true) (F : FnR X.prog X.w X.K X.mg X.base CX n g sp) (hr : Room (n + 1) X.A) (hx : Passes CX X E) : CallR X (.builtin "len") (rLenO C sp E) := by
  intro pins s σ H xs us Q I r h
  obtain ⟨a, dx, fs, rfl, ha, q⟩ := h
  rw [Vals.ref1 r]
  obtain ⟨od, ia⟩ := Ow.ins_at I ha
  obtain ⟨m, fr⟩ := I.fr
  refine W.len_K fr I.ok.mod.kin ia hs hf (wpAny_call (codeAny_mono (SlX.run_at F (room_in hr) (env_in I.env0) hx I (show Vals [V.ref a] [Value.ref a] from .cons rfl .nil) q) fun r s' z => ?_))
  cases r with
  | error e => exact z
  | ok fl =>
    cases fl with
    | ret u =>
      obtain ⟨z1, H', I', rz, i, rfl, i0, i1, q⟩ := z
      obtain ⟨t, rfl⟩ := rz
      exact ⟨⟨i0, i1⟩, .int i, H', I'.tok _, ⟨_, rfl⟩, q⟩
    | next => exact z
    | brk => exact z
    | cont => exact z
def rStrO (C : Addr) (sp : Sp) (E : XK) : List V → Hp → VK → Prop := fun xs H Q => ∃ a dx fs, xs = [.ref a] ∧ H a = some (.ins C dx fs) ∧ sp [.ref a] H (fun v H' => ∃ z : Str, v = .str z ∧ Q (.str z) H') E
theorem call_strO (hs : W.findIn X.K (.ref C) "__str__" = some (some (.ref g))) (hf : W.isFn X.K (.ref g) = true) (F : FnR X.prog X.w X.K X.mg X.base CX n g sp) (hr : Room (n + 2) X.A) (hx : Passes CX X E) : CallR X (.type "str") (rStrO C sp E) := by
  intro pins s σ H xs us Q I r h
  obtain ⟨a, dx, fs, rfl, ha, q⟩ := h
  rw [Vals.ref1 r]
  obtain ⟨od, ia⟩ := Ow.ins_at I ha
  refine W.kso_call (by have := hr.units; show X.A.units + 1 + 1 < _; omega) I.kIn ia hs hf (wpAny_call (codeAny_mono (SlX.run_at F (room_in (room_in hr)) (env_in (env_in I.env0)) hx I (show Vals [V.ref a] [Value.ref a] from .cons rfl .nil) q) fun r s' z => ?_))
  cases r with
  | error e => exact z
  | ok fl =>
    cases fl with
    | ret u =>
      obtain ⟨z1, H', I', rz, y, rfl, q⟩ := z
      obtain ⟨t, rfl⟩ := rz
      exact ⟨.str y, H', I', ⟨_, rfl⟩, q⟩
    | next => exact z
    | brk => exact z
    | cont => exact z
end
/-! ### a class of errors, raised and caught -/
structure ErrC (K : PySem.W.Frag) (mg : Str → Option Value) (x : Str) (C : Addr) : Prop where
  gC : mg x = some (.ref C)
  ex : PySem.W.excIn K C [.type "ValueError", .type "Exception", .type "BaseException", .type "object"] "ValueError.__new__" = true
  kC : PySem.W.keepIn K (.ref C) = true
  bC : PySem.W.subIn K (.ref C) (.type "BaseException") = some true
  tC : PySem.W.typeIn K (.ref C) = some (.type "type")
  ss : PySem.W.subIn K (.ref C) (.ref C) = some true
  ec : ExcC K C
theorem ErrC.exm {K : PySem.W.Frag} {mg : Str → Option Value} {x : Str} {C : Addr} (T : ErrC K mg x C) : PySem.W.exmOne K (.ref C) (.ref C) = some true := PySem.W.exm_ref T.bC T.ec.hd T.tC T.ss
/-- try: return call() except X: return None -/
def TMetV (C : Addr) : (XK → Hp → VK → Prop) → Hp → VK → Prop := fun tl H Q => tl (fun cls d H' => cls = .ref C ∧ Q .non H') H Q
section
variable {X : Cx}
theorem metV_gives {Ng : List Str} {nm a q x : Str} {sg : Scope} {g C : Addr} {cdg : Value} {j : Nat} {p1 p2 p3 p4 p5 p6 p7 p8 : Pos} (T : ErrC X.K X.mg x C)
    (h1 : sg.names.lookup x = some .globalImplicit) (hx : (x == ("__debug__" : Str)) = false) (h0 : ∀ f : Addr, (L2.start Ng [V.ref f])[0]? = some (some (V.ref f))) :
    GivesTo X Ng nm sg g cdg [.Try [.Return (some (.Call (.Name a p1) [] [] p2)) p3] [.ExceptHandler (some (.Name x p4)) none [.Return (some (.Constant .none j p5)) p6] p7] [] [] p8] a q (TMetV C) := by
  intro f c' s H Q tl act hc h
  let Z : Cx := (cxOf C8.CX0 X.prog X.w X.K X.mg X.base Ng nm sg g cdg X.A X.stack s H C8.E0).nox
  have g1 : Gl Z x := h1
  refine ⟨_, pss_one (ps_try_only (X := Z) (c := .ref C) (Wout := fun _ _ _ _ => False)
      (tb := fun W D σ H => ∃ Ech : XK, (∀ cls d σ' H', Ech cls d H' → W cls d σ' H') ∧ σ[0]? = some (some (.ref f)) ∧ H c' = some (CodeO c' q) ∧ tl Ech H D.rt)
      (ts := fun a cls d D σ H => D.rt .non H)
      rfl rfl ⟨g1, hx, .inl T.gC⟩ L2.takes0 (fun W pn xe tk _ => ?_) (fun a oe cls d pn hz hf => ?_)), ?_⟩
  · refine ⟨fun pins s' σ H' D I h' => ?_⟩
    obtain ⟨Ech, hW, k1, k2, k3⟩ := h'
    have hp := act W pn xe Ech p1 p2 tk hW
    exact (pss_one (ps_ret (pos := p3) hp)).run pins s' σ H' D I ⟨k1, k2, k3⟩
  · refine ⟨fun pins s' σ H' D I h' => ?_⟩
    exact (pss_one (ps_ret (pos := p6) pe_non)).run pins s' σ H' D I h'
  · refine ⟨fun cls d H' => cls = .ref C ∧ Q .non H', fun cls d σ' H' hw => ?_, h0 f, hc, h⟩
    obtain ⟨rfl, hq⟩ := hw
    exact ⟨true, T.exm, fun _ a ha => hq, fun z => nomatch z⟩
end
/-! ### defs with lambdas that are called where no guard stands -/
section
variable {P : Program} {w : World} {K : PySem.W.Frag} {mg : Str → Option Value} {base : Heap}
theorem fnG_of {f : Addr} {name qual : Str} {params : Arguments} {body : List Stmt} {scope : Scope} {dV kV doc pm cdv ct oc : Value} {an od : Option Addr} {osl : Array (Option Value)} {N ps : List Str} {k : Nat} {sp : Sp}
    (lk : K.lookup f = some ⟨oc, od, .func (PySem.W.fnOf name qual params body scope dV kV doc pm an cdv ct), osl⟩) (hcd : PySem.W.codeIn K cdv qual = true) (S : FnScope N ps scope) (len : ∀ vs H Q E, sp vs H Q E → vs.length = ps.length)
    (hbody : ∀ (A : Around) (outer : List Env) (s : Shared) (H : Hp) (vs : List V) (Q : VK) (E : XK), A.guards = some [] → Room k (A.deeper (envOfC qual scope s.heap.objs.size f cdv)) → sp vs H Q E →
      ∃ t, PSs (cxOf CX0 P w K mg base N qual scope f cdv A outer s H E).nox body t ∧ t { nx := fun _ H' => Q .non H', rt := Q } (start N vs) H) : FnG P w K mg base (k + 1) f (PySem.W.fnOf name qual params body scope dV kV doc pm an cdv ct) ps sp := by
  refine ⟨len, fun A outer s H args us vs Q E hg hr e0 hb r hsp => ?_⟩
  have hl := len _ _ _ _ hsp
  have old := fun b o e => (e0.bs b o e).1
  have par : ∀ y ∈ ps.zip us, scope.names.lookup y.1 = some .local ∨ (scope.names.lookup y.1 = some .cell ∧ ((cellsFrom (s.heap.objs.size + 1) scope.names []).lookup y.1).isSome = true) := by
    intro ⟨n, v⟩ hy
    rcases S.par n (List.of_mem_zip hy).1 with q | q
    · exact .inl q
    · exact .inr ⟨q, PySem.W.cellsFrom_some _ _ _ (.inl q)⟩
  have KX : K.In s.heap := e0.mod.kin.keeps old
  refine codeAny_call_function hr.depth (KX _ _ lk) rfl S.co S.gen rfl (PySem.W.codeRec_of KX hcd) (hb _ _ _ _ (wpAny_newFunctionEnv_cells S.kind par fun env he s1 x1 => ?_))
  subst he
  refine ⟨(e0.mod.nolimit.keeps old).keeps x1.toInCall.keep, codeAny_func ?_⟩
  obtain ⟨t, ht0, hq⟩ := hbody A outer s H vs Q E hg (hr.deeper _) hsp
  have ht := ht0.nox
  have I0 := inv_start (CX := CX0) (E := E) S hr.hd e0 hl r x1
  refine wpAny_mono (ht.run [] s1 (start N vs) H _ I0 hq) (fun fl s' hs => ?_) fun e s' hs => hs
  cases fl with
  | ret u =>
    obtain ⟨v, σ', H', J, rv, q⟩ := hs
    exact ⟨v, H', J.os, J.bare, J.base, J.hok, rv, q⟩
  | next =>
    obtain ⟨σ', H', J, q⟩ := hs
    exact ⟨.non, H', J.os, J.bare, J.base, J.hok, rfl, q⟩
  | brk =>
    obtain ⟨_, _, _, q⟩ := hs
    exact q.elim
  | cont =>
    obtain ⟨_, _, _, q⟩ := hs
    exact q.elim
end

/-! ### the end, with tables -/
theorem law_callTG {P : Program} {w : World} {K : PySem.W.Frag} {mg mb : Str → Option Value} {k : Nat} {fa a : Addr} {cs : List (Addr × Addr)} {fd : FuncData} {x : Str} {sp : Sp} {s1 : Shared} {vs : List Value} {ns : List Int}
    (kx : K.In s1.heap) (hns : s1.heap.Ns mainGlobals mg) (nb : s1.heap.Ns builtinsNs mb) (bb : ∀ x : Str, x ≠ "__name__" → mb x = bootBuiltins x) (lim : s1.heap.NoLimit) (gen0 : s1.gens = #[])
    (hT : ∀ p ∈ cs, s1.heap.get? p.2 = some (PySem.W.tabObj #[])) (nT : ∀ p ∈ cs, K.lookup p.2 = none) (Cd : ∀ p ∈ cs, PySem.W.CodeHd s1.heap p.1 p.2)
    (bmain : ∃ bm ob, mg "__builtins__" = some (.ref bm) ∧ bm ≠ builtinsNs ∧ s1.heap.get? bm = some ob ∧ ob.cls = .type "module" ∧ ob.dict = some builtinsNs ∧ ob.data = .plain)
    (ga : s1.heap.get? a = some { cls := .type "list", data := .seq vs.toArray }) (hi : IntsAre vs ns) (hl : ns.length ≤ sizeLine) (hr : Room k callerA)
    (F : ∀ base : Heap, K.In base → base.Ns mainGlobals mg → (∀ p ∈ cs, TabB base mg p.1 p.2) → FnG P w K mg base k fa fd [x] sp) (bnd : ∀ (s : Shared) (u : Value), BindsTo s fd ⟨[u], []⟩ [(x, u)])
    (hsp : ∀ H : Hp, (∀ p ∈ cs, H p.2 = some (.tbl #[])) → SqL K H a (ns.map V.int) → sp [.ref a] H (fun v _ => v = .bl true) E0) :
    codeAny (model P w) callerA (.call (.ref fa) ⟨[.ref a], []⟩) (fun r s' => r = .ok (.ret (.bool true)) ∧ OldK s1.heap s'.heap ∧ s'.os = s1.os ∧ AllBare s'.gens) s1 := by
  have rv := vals_ints hi
  have ln := hi.length
  have ac : ∀ p ∈ cs, p.2 ≠ a := fun p hp e => by
    have := hT p hp
    rw [e, ga] at this
    cases this
  have main : ∀ H : Hp, (∀ p ∈ cs, H p.2 = some (.tbl #[])) → SqL K H a (ns.map V.int) → HOk P w H s1.heap → (∀ b, H b ≠ none → b = a ∨ ∃ p ∈ cs, p.2 = b) → (∀ u, H a = some u → ∃ ob xs, u = .frz ob xs) → (H a ≠ none → K.lookup a = none) →
      codeAny (model P w) callerA (.call (.ref fa) ⟨[.ref a], []⟩) (fun r s' => r = .ok (.ret (.bool true)) ∧ OldK s1.heap s'.heap ∧ s'.os = s1.os ∧ AllBare s'.gens) s1 := by
    intro H tb sq okh hA only hK
    have hid : ∀ {b : Addr} {o : Obj}, s1.heap.get? b = some o → (H b ≠ none → False) → (hidT s1.heap H).get? b = some o := fun {b o} e n => hidT_get e (by
      cases z : H b with
      | none => rfl
      | some u => exact (n (by rw [z]; simp)).elim)
    have other : ∀ {b : Addr} {o : Obj}, s1.heap.get? b = some o → o.cls ≠ .type "list" → o.cls ≠ .none → H b ≠ none → False := fun {b o} e h1 h2 n => by
      rcases hA b n with z | ⟨p, hp, z⟩
      · subst z
        rw [ga] at e
        cases e
        exact h1 rfl
      · subst z
        rw [hT p hp] at e
        cases e
        exact h2 rfl
    have dicts : ∀ {b : Addr} {o : Obj} {es : Array DictEntry} {ep : Nat}, s1.heap.get? b = some o → o.data = .dict es ep → H b ≠ none → False := fun {b o es ep} e d n => by
      rcases hA b n with z | ⟨p, hp, z⟩
      · subst z
        rw [ga] at e
        cases e
        have d' : Data.seq vs.toArray _ = Data.dict es ep := d
        cases d'
      · subst z
        rw [hT p hp] at e
        cases e
        cases d
    have nsK : ∀ {b : Addr} {m : Str → Option Value}, s1.heap.Ns b m → (hidT s1.heap H).Ns b m := fun {b m} h => by
      obtain ⟨o, es, ep, e, d, r⟩ := h
      exact ⟨o, es, ep, hid e (dicts e d), d, r⟩
    have inB : K.In (hidT s1.heap H) := fun b o e => hid (kx b o e) fun n => by
      rcases hA b n with z | ⟨p, hp, z⟩
      · subst z
        rw [hK n] at e
        cases e
      · subst z
        rw [nT p hp] at e
        cases e
    have md : Mod K mg (hidT s1.heap H) := by
      obtain ⟨mc, h1, h2⟩ := lim
      exact ⟨inB, nsK hns, ⟨mb, nsK nb, bb⟩, ⟨mc, nsK h1, h2⟩⟩
    have env : Env0 P w K mg (hidT s1.heap H) callerA [] s1 H := by
      refine ⟨rfl, md, fun b o e => of_hidT e, Nat.le_of_eq (hidT_size _ _), trivial, fun b z => ?_, okh, .of_eq gen0⟩
      exact absurd (show b ∈ ([] : List Addr) from z) (by simp)
    have tabs : ∀ p ∈ cs, TabB (hidT s1.heap H) mg p.1 p.2 := fun p hp => by
      obtain ⟨og, es, ep, eg, dg, _⟩ := hns
      have gP : mainGlobals ≠ p.2 := fun z => by
        rw [z, hT p hp] at eg
        cases eg
        cases dg
      refine ⟨?_, ?_, gP⟩
      · obtain ⟨o, vs2, file, tf, flags, tg, inF, text, tt, h1, h2, h3⟩ := Cd p hp
        exact ⟨o, vs2, file, tf, flags, tg, inF, text, tt, hid h1 (other h1 (by rw [h2]; simp) (by rw [h2]; simp)), h2, h3⟩
      · obtain ⟨bm, ob, b1, b2, b3, b4, b5, b6⟩ := bmain
        refine ⟨bm, ob, b1, b2, fun z => ?_, fun z => ?_, hid b3 (other b3 (by rw [b4]; simp) (by rw [b4]; simp)), b4, b5, b6⟩
        · rw [z, eg] at b3
          cases b3
          rw [dg] at b6
          cases b6
        · rw [z, hT p hp] at b3
          cases b3
          cases b4
    refine codeAny_mono ((F _ inB (nsK hns) tabs).run callerA [] s1 H ⟨[.ref a], []⟩ [.ref a] [.ref a] _ _ guards_caller hr env (bnd s1 (.ref a)) (.cons rfl .nil) (hsp H tb sq)) fun r s' h => ?_
    cases r with
    | error e => exact h.elim
    | ok fl =>
      cases fl with
      | next => exact h.elim
      | brk => exact h.elim
      | cont => exact h.elim
      | ret u =>
        obtain ⟨v, H', os, bare, un, ok2, rv2, q⟩ := h
        have q' : v = .bl true := q
        subst q'
        cases (show u = Value.bool true from rv2)
        have was : ∀ b o, s1.heap.get? b = some o → asItWas s1.heap s'.heap b o := fun b o e => by
          cases z : H b with
          | none => exact .inl (un.keep b o e z (by intro y; exact absurd (show b ∈ ([] : List Addr) from y) (by simp)) (by simp))
          | some u =>
            rcases hA b (by rw [z]; simp) with y | ⟨p, hp, y⟩
            · subst y
              obtain ⟨ob, xs, y⟩ := only u z
              subst y
              obtain ⟨e1, _⟩ := okh b _ z
              obtain ⟨e2, _⟩ := ok2 b _ (un.frzs b ob _ z)
              rw [e] at e1
              cases e1
              exact .inl e2
            · subst y
              rw [tb p hp] at z
              cases z
              obtain ⟨more, hm⟩ := un.tbls p.2 #[] (tb p hp)
              have e2 := ok2 p.2 _ hm
              rw [hT p hp] at e
              cases e
              obtain ⟨o, vs2, file, tf, flags, tg, inF, text, tt, h1, h2, h3, h4, _⟩ := Cd p hp
              exact .inr (.inl ⟨⟨p.1, o, vs2, h1, h2, h3, h4⟩, rfl, #[], more, rfl, e2⟩)
        refine ⟨rfl, ⟨was, fun b o e => ?_⟩, os, bare⟩
        rcases was b o e with h | ⟨_, _, _, _, _, h⟩ | ⟨_, _, ⟨o', _, _, h, _⟩, _⟩
        · exact ⟨_, h⟩
        · exact ⟨_, h⟩
        · exact ⟨_, h⟩
  have dec : ∀ b, Decidable (∃ p ∈ cs, p.2 = b) := fun b => Classical.propDecidable _
  have okT : ∀ (H : Hp) p, p ∈ cs → ObjOk P w H s1.heap p.2 (.tbl #[]) := fun H p hp => by
    simp only [L2.ObjOk]
    exact hT p hp
  cases z : K.lookup a with
  | some o =>
    have e := kx a o z
    rw [ga] at e
    cases e
    have hc : ∀ b u, (if ∃ p ∈ cs, p.2 = b then some (HO.tbl #[]) else none) = some u → ∃ p ∈ cs, p.2 = b ∧ u = .tbl #[] := fun b u y => by
      by_cases hb : ∃ p ∈ cs, p.2 = b
      · rw [if_pos hb] at y
        cases y
        obtain ⟨p, hp, e⟩ := hb
        exact ⟨p, hp, e, rfl⟩
      · rw [if_neg hb] at y
        cases y
    refine main (fun b => if ∃ p ∈ cs, p.2 = b then some (.tbl #[]) else none) (fun p hp => if_pos ⟨p, hp, rfl⟩) (.inr ⟨_, vs.toArray, _, z, rfl, rfl, rfl, ?_, ?_⟩) (fun b u y => ?_) (fun b y => ?_) (fun u y => ?_) fun y => ?_
    · rw [List.size_toArray, ln]
      exact hl
    · simpa using rv
    · obtain ⟨p, hp, rfl, rfl⟩ := hc b u y
      exact okT _ p hp
    · by_cases hb : ∃ p ∈ cs, p.2 = b
      · exact .inr hb
      · exact absurd (if_neg hb) y
    · obtain ⟨p, hp, e, _⟩ := hc a u y
      exact absurd e (ac p hp)
    · refine absurd (if_neg fun hb => ?_) y
      obtain ⟨p, hp, e⟩ := hb
      exact ac p hp e
  | none =>
    have H1 : ∀ p ∈ cs, (if p.2 = a then some (HO.frz { cls := .type "list", data := .seq vs.toArray } (.lst (ns.map V.int))) else if ∃ q ∈ cs, q.2 = p.2 then some (.tbl #[]) else none) = some (.tbl #[]) := fun p hp => by rw [if_neg (ac p hp), if_pos ⟨p, hp, rfl⟩]
    refine main (fun b => if b = a then some (.frz { cls := .type "list", data := .seq vs.toArray } (.lst (ns.map V.int))) else if ∃ p ∈ cs, p.2 = b then some (.tbl #[]) else none) H1 (.inl (.inr ⟨{ cls := .type "list", data := .seq vs.toArray }, if_pos rfl⟩)) (fun b u y => ?_) (fun b y => ?_) (fun u y => ?_) fun _ => z
    · by_cases hb : b = a
      · have y' := (if_pos hb).symm.trans y
        cases y'
        subst hb
        exact ⟨ga, by rw [List.length_map]; exact hl, vs, _, rv, ga⟩
      · have y' := (if_neg hb).symm.trans y
        by_cases hc : ∃ p ∈ cs, p.2 = b
        · have y2 := (if_pos hc).symm.trans y'
          cases y2
          obtain ⟨p, hp, rfl⟩ := hc
          exact okT _ p hp
        · have y2 := (if_neg hc).symm.trans y'
          cases y2
    · by_cases hb : b = a
      · exact .inl hb
      · by_cases hc : ∃ p ∈ cs, p.2 = b
        · exact .inr hc
        · exact absurd ((if_neg hb).trans (if_neg hc)) y
    · have y' := (if_pos rfl).symm.trans y
      cases y'
      exact ⟨_, _, rfl⟩
def LawAtG (l : PySem.W.OpenLaw) (w : World) (K : PySem.W.Frag) (k n : Nat) (x : Str) (mg : Str → Option Value) (fa : Addr) (h : Heap) : Prop :=
  ∃ (fd : FuncData) (cs : List (Addr × Addr)) (sp : Sp), (∀ p ∈ cs, h.get? p.2 = some (PySem.W.tabObj #[])) ∧ (∀ p ∈ cs, K.lookup p.2 = none) ∧ (∀ p ∈ cs, PySem.W.CodeHd h p.1 p.2) ∧ (∀ (s : Shared) (u : Value), BindsTo s fd ⟨[u], []⟩ [(x, u)]) ∧
    (∀ (H : Hp) (a : Addr) (ns : List Int), ns.length ≤ n → (∀ p ∈ cs, H p.2 = some (.tbl #[])) → SqL K H a (ns.map V.int) → sp [.ref a] H (fun v _ => v = .bl true) E0) ∧
      ∀ base : Heap, K.In base → base.Ns mainGlobals mg → (∀ p ∈ cs, TabB base mg p.1 p.2) → FnG l.prog w K mg base k fa fd [x] sp
theorem walk_tabsG {l : PySem.W.OpenLaw} {n k : Nat} {q : Program} {loose : List Str} {XP : (Str → Option Value) → Heap → Prop} {YP : World → Heap → Prop} {d : DefRec} {K : Params → PySem.W.Frag} {x : Str}
    (names : List Str) (hrec : ∀ y ∈ names, ((recsOf q).find? fun e => e.name == y).isSome = true) (hn : l.most = some n) (hn2 : n ≤ sizeLine) (hdf : d.params.defaults = []) (hr : Room k callerA) (hY : ∀ (w : World) (h : Heap), YP w h → (K w.params).In h)
    (F : ∀ (w : World) (mg : Str → Option Value) (fa : Addr) (h : Heap), (K w.params).In h → h.Ns mainGlobals mg → mg d.name = some (.ref fa) →
      (∀ y ∈ names, ∀ c P, PySem.W.tabIn (K w.params) y = some (c, P) → PySem.W.CodeHd h c P ∧ h.get? P = some (PySem.W.tabObj #[])) → LawAtG l w (K w.params) k n x mg fa h) :
    PySem.W.WalkO q loose XP YP l.row.toRowW d [] (fun f vs => PySem.call f vs) := by
  refine Att.attach_callB hn hdf fun w s0 s1 mg mb fa o pm cd doc a vs ns G Y ho hd hcd hmg hobj hints hlen hbits hg => ?_
  have KX := hY w _ Y
  have tabs : ∀ y ∈ names, ∀ c P, PySem.W.tabIn (K w.params) y = some (c, P) → PySem.W.CodeHd s1.heap c P ∧ s1.heap.get? P = some (PySem.W.tabObj #[]) := fun y hy c P ht => by
    obtain ⟨dd, hdd⟩ := Option.isSome_iff_exists.mp (hrec y hy)
    exact PySem.W.tab_of G.T KX hdd ht
  obtain ⟨fd, cs, sp, hT, nT, C, hb, hsp, hF⟩ := F w mg fa _ KX G.T.g hmg tabs
  exact law_callTG KX G.T.g G.T.b G.T.builtins G.T.nolimit hg hT nT C G.T.bmain hobj hints (Nat.le_trans hlen hn2) hr hF hb fun H hH hS => hsp H a ns hlen hH hS
end Cl

namespace My
open PySem PySem.Spec PyProof.Rows L2 Sh Dt
open Cl (ErrC)
/-! ### what is a move is plain -/
def pl (k : Nat) (d : PyData) : Prop := d.plain = true ∧ d.depth ≤ k
theorem pl_tup {k : Nat} : ∀ {ds : List PyData}, (∀ d ∈ ds, pl k d) → PyData.plainAll ds = true ∧ PyData.depthAll ds ≤ k
  | [], _ => ⟨by simp [PyData.plainAll], by simp [PyData.depthAll]⟩
  | d :: r, h => by
    have h1 := h d List.mem_cons_self
    have h2 := pl_tup fun x hx => h x (List.mem_cons_of_mem _ hx)
    refine ⟨by simp [PyData.plainAll, h1.1, h2.1], ?_⟩
    simp only [PyData.depthAll]
    exact Nat.max_le.mpr ⟨h1.2, h2.2⟩
theorem pl_tuple {k : Nat} {ds : List PyData} (h : ∀ d ∈ ds, pl k d) : pl (k + 1) (.tuple ds) := by
  have := pl_tup h
  exact ⟨by simp [PyData.plain, this.1], by simp only [PyData.depth]; omega⟩
theorem pl_list {k : Nat} {ds : List PyData} (h : ∀ d ∈ ds, pl k d) : pl (k + 1) (.list ds) := by
  have := pl_tup h
  exact ⟨by simp [PyData.plain, this.1], by simp only [PyData.depth]; omega⟩
theorem pl.mono {k j : Nat} {d : PyData} (h : pl k d) (l : k ≤ j) : pl j d := ⟨h.1, Nat.le_trans h.2 l⟩
theorem pl_num {n : Int} {d : PyData} (h : isNum n d = true) : pl 0 d := by
  cases d with
  | int i => exact ⟨rfl, by simp [PyData.depth]⟩
  | _ => exact absurd h (by intro z; cases z)
theorem pl_str (z : Str) : pl 0 (.str z) := ⟨rfl, by simp [PyData.depth]⟩
theorem pl_set {n : Int} {d : PyData} (h : isSet n d = true) : pl 1 d := by
  cases d with
  | tuple ds =>
    have h : (!ds.isEmpty && ds.all (isNum n) && asc ltI (ds.map intOf)) = true := h
    rw [Bool.and_eq_true, Bool.and_eq_true] at h
    exact pl_tuple fun d hd => pl_num (List.all_eq_true.mp h.1.2 d hd)
  | _ => exact absurd h (by intro z; cases z)
theorem pl_pair {n : Int} {d : PyData} (h : isPair n d = true) : pl 1 d := by
  match d, h with
  | .tuple [a, b], h =>
    have h : (isNum n a && isNum n b) = true := h
    rw [Bool.and_eq_true] at h
    refine pl_tuple fun d hd => ?_
    simp at hd
    rcases hd with rfl | rfl
    · exact pl_num h.1
    · exact pl_num h.2
theorem pl_pairs {n : Int} {d : PyData} (h : isPairs n d = true) : pl 2 d := by
  cases d with
  | tuple ds =>
    have h : (!ds.isEmpty && ds.all (isPair n) && asc HT.lexLt (ds.map rowOf)) = true := h
    rw [Bool.and_eq_true, Bool.and_eq_true] at h
    exact pl_tuple fun d hd => pl_pair (List.all_eq_true.mp h.1.2 d hd)
  | _ => exact absurd h (by intro z; cases z)
theorem eqv_strR {w : PyData} {z : Str} (h : PyData.eqv w (.str z) = true) : ∃ y, w = .str y := by
  cases w with
  | str y => exact ⟨y, rfl⟩
  | _ => exact absurd h (by simp [PyData.eqv])
theorem in_str {w : PyData} {zs : List Str} (h : strIn w zs = true) : ∃ y, w = .str y := by
  unfold strIn at h
  obtain ⟨z, _, e⟩ := List.any_eq_true.mp h
  cases w with
  | str y => exact ⟨y, rfl⟩
  | _ => exact absurd e (by simp [PyData.eqv])
theorem pl_move {p n : Int} {d : PyData} (h : isMove p n d = true) : pl 3 d := by
  match d, h with
  | .tuple (w :: a :: x :: r), h =>
    simp only [isMove, Bool.and_eq_true] at h
    obtain ⟨ha, h⟩ := h
    have p0 := (pl_num ha).mono (show 0 ≤ 2 by omega)
    by_cases e1 : PyData.eqv w (.str "leave") = true
    · rw [if_pos e1, Bool.and_eq_true] at h
      obtain ⟨y, rfl⟩ := eqv_strR e1
      have hr : r = [] := by simpa using h.1
      subst hr
      refine pl_tuple fun d hd => ?_
      simp at hd
      rcases hd with rfl | rfl | rfl
      · exact (pl_str _).mono (by omega)
      · exact p0
      · exact (pl_set h.2).mono (by omega)
    · rw [if_neg e1, Bool.and_eq_true] at h
      obtain ⟨hx, h⟩ := h
      have p1 := (pl_num hx).mono (show 0 ≤ 2 by omega)
      by_cases e2 : PyData.eqv w (.str "go") = true
      · rw [if_pos e2] at h
        obtain ⟨y, rfl⟩ := eqv_strR e2
        match r, h with
        | [y], h =>
          refine pl_tuple fun d hd => ?_
          simp at hd
          rcases hd with rfl | rfl | rfl | rfl
          · exact (pl_str _).mono (by omega)
          · exact p0
          · exact p1
          · exact pl_pairs h
      · rw [if_neg e2, Bool.and_eq_true] at h
        obtain ⟨hw, h⟩ := h
        obtain ⟨y, rfl⟩ := in_str hw
        match r, h with
        | [y, z], h =>
          rw [Bool.and_eq_true] at h
          refine pl_tuple fun d hd => ?_
          simp at hd
          rcases hd with rfl | rfl | rfl | rfl | rfl
          · exact (pl_str _).mono (by omega)
          · exact p0
          · exact p1
          · cases d with
            | str t => exact (pl_str _).mono (by omega)
            | _ => exact absurd h.1 (by simp [nameD])
          · exact (pl_set h.2).mono (by omega)
theorem pl_moves {p n : Int} {ms : List PyData} (h : areMoves p n ms = true) : pl 4 (.tuple ms) := by
  unfold areMoves at h
  rw [Bool.and_eq_true] at h
  exact pl_tuple fun d hd => pl_move (List.all_eq_true.mp h.2 d hd)
/-! ### procedures -/
structure Good (z : Str) (p : Int) (ms : List PyData) : Prop where
  name : nameOf z = true
  lo : 1 ≤ p
  hi : p ≤ 6
  moves : areMoves p 5 ms = true
def Pr (C : Addr) (H : Hp) (a : Addr) (z : Str) (p : Int) (ms : List PyData) : Prop := ∃ dx t xs, H a = some (.ins C dx [("_called", .str z), ("_points", .int p), ("_moves", .ref t)]) ∧ H t = some (.tup xs) ∧ DAll H xs ms ∧ Good z p ms
theorem Pr.same {C : Addr} {H H' : Hp} {a : Addr} {z : Str} {p : Int} {ms : List PyData} (s : Same H H') (h : Pr C H a z p ms) : Pr C H' a z p ms := by
  obtain ⟨dx, t, xs, h1, h2, h3, g⟩ := h
  exact ⟨dx, t, xs, s _ _ h1, s _ _ h2, h3.same s, g⟩
def goodD (dc dp : PyData) (ms : List PyData) : Bool := nameD dc && isNr 6 dp && areMoves (intOf dp) 5 ms
theorem good_of {dc dp : PyData} {ms : List PyData} (h : goodD dc dp ms = true) : ∃ z p, dc = .str z ∧ dp = .int p ∧ Good z p ms := by
  unfold goodD at h
  rw [Bool.and_eq_true, Bool.and_eq_true] at h
  obtain ⟨⟨h1, h2⟩, h3⟩ := h
  cases dc with
  | str z =>
    cases dp with
    | int p =>
      have h2 : (decide (1 ≤ p) && decide (p ≤ 6)) = true := h2
      rw [Bool.and_eq_true, decide_eq_true_iff, decide_eq_true_iff] at h2
      exact ⟨z, p, rfl, rfl, h1, h2.1, h2.2, h3⟩
    | _ => exact absurd h2 (by simp [isNr])
  | _ => exact absurd h1 (by simp [nameD])
structure PcdC (K : PySem.W.Frag) (mg : Str → Option Value) (C fI fO pO fE fL fS p1 g1 p2 g2 p3 g3 : Addr) (mc : Value) : Prop where
  gP : mg "Procedure" = some (.ref C)
  cls : Cls K C
  make : Mk K C fI
  cr : ClX.CRead K C mc
  cm : ClX.CMet K C mc "of" pO fO
  n1 : NoAttr K C "_called"
  n2 : NoAttr K C "_points"
  n3 : NoAttr K C "_moves"
  q1 : PropOf K C "called" p1 g1
  q2 : PropOf K C "points" p2 g2
  q3 : PropOf K C "moves" p3 g3
  eq : PySem.W.findIn K (.ref C) "__eq__" = some (some (.ref fE))
  eqf : PySem.W.isFn K (.ref fE) = true
  ne : PySem.W.findIn K (.ref C) "__ne__" = some (some (.builtin "object.__ne__"))
  ln : PySem.W.findIn K (.ref C) "__len__" = some (some (.ref fL))
  lnf : PySem.W.isFn K (.ref fL) = true
  st : PySem.W.findIn K (.ref C) "__str__" = some (some (.ref fS))
  stf : PySem.W.isFn K (.ref fS) = true
  c1 : PySem.W.findIn K (.ref C) "__class__" = some (some (.builtin "object.__class__"))
  c2 : PySem.W.specialIn K (.builtin "object.__class__") "__get__" = some (some (.builtin "getset_descriptor.__get__"))
  c3 : PySem.W.takesIn K (.builtin "object.__class__") = some true
  c4 : PySem.W.mroIn K C (.type "object") = some true
  k1 : PySem.W.kitOne K (.ref C) (.ref C) = some true
  k2 : PySem.W.kitOne K (.type "NoneType") (.ref C) = some false
  k3 : PySem.W.kitOne K (.type "str") (.ref C) = some false
  k4 : PySem.W.kitOne K (.type "tuple") (.ref C) = some false
  s1 : PySem.W.subIn K (.type "NoneType") (.ref C) = some false
  s2 : PySem.W.subIn K (.type "str") (.ref C) = some false
  s3 : PySem.W.subIn K (.type "tuple") (.ref C) = some false
theorem upd_upd {H : Hp} {a : Addr} {o u : HO} : upd (upd H a o) a u = upd H a u := by
  funext b
  by_cases e : b = a
  · subst e
    rw [upd_same, upd_same]
  · rw [upd_ne e, upd_ne e, upd_ne e]
def spInitP (C Ce : Addr) : Sp := fun vs H Q E => ∃ x dx c pt t xs dc dp ms, vs = [.ref x, c, pt, .ref t] ∧ H x = some (.ins C dx []) ∧ H t = some (.tup xs) ∧ D H c dc ∧ D H pt dp ∧ DAll H xs ms ∧ ms.length ≤ 60 ∧ sm dc = true ∧ sm dp = true ∧ (∀ d ∈ ms, sm d = true) ∧
  (goodD dc dp ms = true → ∀ H', Same H H' → Q .non (upd H' x (.ins C dx [("_called", c), ("_points", pt), ("_moves", .ref t)]))) ∧ (goodD dc dp ms = false → ∀ H', Same H H' → E (.ref Ce) none H')
def movesOf : PyData → List PyData
  | .tuple ms => ms
  | _ => []
def due (dc dp dm : PyData) : Bool := isT dm && goodD dc dp (movesOf dm)
def spOf (C Ce : Addr) : Sp := fun vs H Q E => ∃ c pt mv dc dp dm, vs = [.ref C, c, pt, mv] ∧ D H c dc ∧ D H pt dp ∧ D H mv dm ∧ sm dc = true ∧ sm dp = true ∧ sm dm = true ∧
  (due dc dp dm = true → ∀ H' a z p, Same H H' → dc = .str z → dp = .int p → H a = none → Pr C H' a z p (movesOf dm) → Q (.ref a) H') ∧ (due dc dp dm = false → ∀ H', Same H H' → E (.ref Ce) none H')
def spEqP (K : PySem.W.Frag) (C : Addr) : Sp := fun vs H Q _ => ∃ a y z p ms, vs = [.ref a, y] ∧ Pr C H a z p ms ∧ ((∃ b z' p' ms', y = .ref b ∧ Pr C H b z' p' ms' ∧ Q (.bl (decide (z = z') && decide (p = p') && PyData.eqv (.tuple ms) (.tuple ms'))) H) ∨ ∃ T, TyX K H y T ∧ PySem.W.kitOne K T (.ref C) = some false ∧ Q (.bl false) H)
def spLenP (C : Addr) : Sp := fun vs H Q _ => ∃ a z p ms, vs = [.ref a] ∧ Pr C H a z p ms ∧ Q (.int ms.length) H
def textOf (z : Str) (p : Int) (n : Nat) : Str := ((((("procedure " : Str) ++ z) ++ (", " : Str)) ++ (toString p : String)) ++ (" points, " : Str)) ++ (toString (n : Int) : String) ++ (" moves" : Str)
def spStrP (C : Addr) : Sp := fun vs H Q _ => ∃ a z p ms, vs = [.ref a] ∧ Pr C H a z p ms ∧ Q (.str (textOf z p ms.length)) H
abbrev s_init : Stmt := inClass (topS 28) 0
abbrev Ninit : List Str := ["self", "called", "points", "moves"]
theorem sc_init : FnScope Ninit ["self", "called", "points", "moves"] (defScope s_init) := ⟨rfl, rfl, rfl, by decide +kernel, rfl, by decide +kernel, by decide +kernel⟩
abbrev s_of : Stmt := inClass (topS 28) 1
abbrev Nof : List Str := ["cls", "called", "points", "moves"]
theorem sc_of : FnScope Nof ["cls", "called", "points", "moves"] (defScope s_of) := ⟨rfl, rfl, rfl, by decide +kernel, rfl, by decide +kernel, by decide +kernel⟩
abbrev s_gcalled : Stmt := inClass (topS 28) 2
abbrev Ngcalled : List Str := ["self"]
theorem sc_gcalled : FnScope Ngcalled ["self"] (defScope s_gcalled) := ⟨rfl, rfl, rfl, by decide +kernel, rfl, by decide +kernel, by decide +kernel⟩
abbrev s_gpoints : Stmt := inClass (topS 28) 3
abbrev Ngpoints : List Str := ["self"]
theorem sc_gpoints : FnScope Ngpoints ["self"] (defScope s_gpoints) := ⟨rfl, rfl, rfl, by decide +kernel, rfl, by decide +kernel, by decide +kernel⟩
abbrev s_gmoves : Stmt := inClass (topS 28) 4
abbrev Ngmoves : List Str := ["self"]
theorem sc_gmoves : FnScope Ngmoves ["self"] (defScope s_gmoves) := ⟨rfl, rfl, rfl, by decide +kernel, rfl, by decide +kernel, by decide +kernel⟩
abbrev s_peq : Stmt := inClass (topS 28) 5
abbrev Npeq : List Str := ["self", "other"]
theorem sc_peq : FnScope Npeq ["self", "other"] (defScope s_peq) := ⟨rfl, rfl, rfl, by decide +kernel, rfl, by decide +kernel, by decide +kernel⟩
abbrev s_plen : Stmt := inClass (topS 28) 6
abbrev Nplen : List Str := ["self"]
theorem sc_plen : FnScope Nplen ["self"] (defScope s_plen) := ⟨rfl, rfl, rfl, by decide +kernel, rfl, by decide +kernel, by decide +kernel⟩
abbrev s_pstr : Stmt := inClass (topS 28) 7
abbrev Npstr : List Str := ["self"]
theorem sc_pstr : FnScope Npstr ["self"] (defScope s_pstr) := ⟨rfl, rfl, rfl, by decide +kernel, rfl, by decide +kernel, by decide +kernel⟩
section
variable {P : Program} {w : World} {K : PySem.W.Frag} {mg : Str → Option Value} {base : Heap} {C Ce fI fO pO fE fL fS p1 g1 p2 g2 p3 g3 : Addr} {mc : Value}
theorem ok_init {f f_is_name f_is_number f_are_moves : Addr} {fd_is_name fd_is_number fd_are_moves : FuncData} {oc kV dc0 pm ct cd : Value} {od an : Option Addr} {sl : Array (Option Value)}
    (lk : K.lookup f = some ⟨oc, od, .func (PySem.W.fnOf "__init__" "Procedure.__init__" (defArgs s_init) (defBody s_init) (defScope s_init) .none kV dc0 pm an cd ct), sl⟩) (hc : PySem.W.codeIn K cd "Procedure.__init__" = true) (T : ErrC K mg "InvalidProgram" Ce) (c : PcdC K mg C fI fO pO fE fL fS p1 g1 p2 g2 p3 g3 mc)
    (G_is_name : FnOk P w K mg base CX0 1 f_is_name fd_is_name ["value"] spName) (F_is_name : Fun K "is_name" "is_name" s_is_name f_is_name fd_is_name) (b_is_name : Binds K fd_is_name ["value"] []) (g_is_name : mg "is_name" = some (.ref f_is_name))(G_is_number : FnOk P w K mg base CX0 2 f_is_number fd_is_number ["value", "most"] (spOn1 isNr)) (F_is_number : Fun K "is_number" "is_number" s_is_number f_is_number fd_is_number) (b_is_number : Binds K fd_is_number ["value", "most"] []) (g_is_number : mg "is_number" = some (.ref f_is_number))(G_are_moves : FnOk P w K mg base CX0 6 f_are_moves fd_are_moves ["values", "points", "modes"] spMoves) (F_are_moves : Fun K "are_moves" "are_moves" s_are_moves f_are_moves fd_are_moves) (b_are_moves : Binds K fd_are_moves ["values", "points", "modes"] []) (g_are_moves : mg "are_moves" = some (.ref f_are_moves)) {tk1 tk2 : Tok} (g_MOST_POINTS : mg "MOST_POINTS" = some (.int 6 tk1)) (g_MOST_MODES : mg "MOST_MODES" = some (.int 5 tk2)) :
    FnR P w K mg base (L2.CX P w) 7 f fun vs H Q E => ∃ ws rest, vs = ws ++ rest ∧ ws.length = (["self", "called", "points"] : List Str).length ∧ rest.length ≤ sizeLine ∧ ∀ p : Addr, H p = none → spInitP C Ce (ws ++ [V.ref p]) (upd H p (.tup rest)) Q E := by
  refine StX.fn_star (N := Ninit) (pv := "moves") lk hc sc_init StX.cxUp (fun us rest hl => ?_) (fun A outer s H vs Q E hr h => ?_)
  · match us, hl, rest with
    | [_, _, _], _, [] => rfl
    | [_, _, _], _, _ :: _ => rfl
  · obtain ⟨x, dx, cv, pt, t, xs, dc, dp, ms, rfl, hx, ht, hdc, hdp, hms, l60, s1, s2, s3, qy, qn⟩ := h
    refine ⟨_, (pss_cons (ps_if (PW.pt (pw_or (pt_not (pt_val (pe_call G_is_name (hr.mono (by decide)) (by rfl) g_is_name F_is_name.kp b_is_name .nil pass0 (pa_cons (pv 1) pa_nil)))) (pw_or1 (pt_not (pt_val (pe_call G_is_number (hr.mono (by decide)) (by rfl) g_is_number F_is_number.kp b_is_number .nil pass0 (pa_cons (pv 2) (pa_cons (pe_glob (v := .int 6) rfl g_MOST_POINTS ⟨_, rfl⟩) pa_nil))))))))
        (pss_one (ps_raise rfl (takes_of rfl rfl rfl rfl) (pmk_own PySem.F.excBase_ValueError T.ex T.gC T.kC (raises_own T.bC T.tC) rfl)))
        pss_nil)
      (pss_cons (ps_if (pt_not (pt_val (pe_call G_are_moves (hr.mono (by decide)) (by rfl) g_are_moves F_are_moves.kp b_are_moves .nil pass0 (pa_cons (pv 3) (pa_cons (pv 2) (pa_cons (pe_glob (v := .int 5) rfl g_MOST_MODES ⟨_, rfl⟩) pa_nil))))))
        (pss_one (ps_raise rfl (takes_of rfl rfl rfl rfl) (pmk_own PySem.F.excBase_ValueError T.ex T.gC T.kC (raises_own T.bC T.tC) rfl)))
        pss_nil)
      (pss_cons (ps_fld (pv 0) (pv 1) rfl)
      (pss_cons (ps_fld (pv 0) (pv 2) rfl)
      (pss_one (ps_fld (pv 0) (pv 3) rfl)))))), ?_⟩
    refine ⟨_, rfl, cv, rfl, jud_of hdc s1, fun H1 e1 => ⟨_, rfl, ?_⟩⟩
    rw [name_of hdc]
    cases n1 : nameD dc with
    | false => exact iteT (qn (by unfold goodD; rw [n1]; rfl) H1 e1)
    | true =>
    refine iteF ⟨_, rfl, _, _, dp, rfl, hdp.same e1, s2, fun H2 e2' => ⟨_, rfl, ?_⟩⟩
    have e2 := e1.trans e2'
    cases n2 : isNr 6 dp with
    | false => exact iteT (qn (by unfold goodD; rw [n1, n2]; rfl) H2 e2)
    | true =>
    cases dp with
    | int p =>
      cases hdp
      refine iteF ⟨_, rfl, _, rfl, t, xs, p, 5, ms, rfl, e2 _ _ ht, hms.same e2, l60, s3, fun H3 e3' => ⟨_, rfl, ?_⟩⟩
      have e3 := e2.trans e3'
      cases n3 : areMoves p 5 ms with
      | false => exact iteT (qn (by unfold goodD; rw [n1, n2]; exact n3) H3 e3)
      | true =>
      refine iteF ?_
      have q := qy (by unfold goodD; rw [n1, n2]; exact n3) H3 e3
      refine ⟨_, rfl, _, rfl, x, C, dx, [], rfl, e3 _ _ hx, c.cls, c.n1, by decide, ?_⟩
      refine ⟨_, rfl, _, rfl, x, C, dx, _, rfl, upd_same, c.cls, c.n2, (by show (1 : Nat) < 1000; decide), ?_⟩
      refine ⟨_, rfl, _, rfl, x, C, dx, _, rfl, upd_same, c.cls, c.n3, (by show (2 : Nat) < 1000; decide), ?_⟩
      rw [upd_upd, upd_upd]
      exact q
    | _ => exact absurd n2 (by simp [isNr])
abbrev spI (C Ce : Addr) : Sp := fun vs H Q E => ∃ ws rest, vs = ws ++ rest ∧ ws.length = (["self", "called", "points"] : List Str).length ∧ rest.length ≤ sizeLine ∧ ∀ p : Addr, H p = none → spInitP C Ce (ws ++ [V.ref p]) (upd H p (.tup rest)) Q E
theorem ok_of {f : Addr} {fd : FuncData} (F : Fun K "of" "Procedure.of" s_of f fd) (FI : FnR P w K mg base (L2.CX P w) 7 fI (spI C Ce)) (T : ErrC K mg "InvalidProgram" Ce) (c : PcdC K mg C fI fO pO fE fL fS p1 g1 p2 g2 p3 g3 mc) (m_isinstance : mg "isinstance" = none) (m_tuple : mg "tuple" = none) :
    FnOk P w K mg base (L2.CX P w) 9 f fd ["cls", "called", "points", "moves"] (spOf C Ce) := by
  refine F.okX sc_of (fun vs H Q E h => ?_) (fun cdv A outer s H vs Q E hr h => ?_)
  · obtain ⟨cv, pt, mv, dc, dp, dm, rfl, _⟩ := h
    rfl
  · obtain ⟨cv, pt, mv, dc, dp, dm, rfl, hc, hp, hm, s1, s2, s3, qy, qn⟩ := h
    refine ⟨_, (pss_cons (ps_if (pt_not (pt_val (pe_callB call_isD (by rfl) m_isinstance (by decide +kernel) (pa_cons (pv 3) (pa_cons (pe_bltn (v := .ty "tuple") (by rfl) m_tuple (by decide +kernel) rfl) pa_nil)))))
        (pss_one (ps_raise rfl (takes_of rfl rfl rfl rfl) (pmk_own PySem.F.excBase_ValueError T.ex T.gC T.kC (raises_own T.bC T.tC) rfl)))
        pss_nil)
      (pss_one (ps_ret (Cl.pe_makeL c.make FI (hr.mono (by decide)) (pv 0) (Cl.passE (takes_of rfl rfl rfl rfl)) (pa_cons (pv 1) (pa_cons (pv 2) (StX.pa_star (pv 3) pa_nil))))))), ?_⟩
    have k := kT dm
    refine ⟨_, rfl, _, dm, _, _, rfl, hm, k, _, rfl, ?_⟩
    cases dm with
    | tuple ms =>
      cases hm with
      | @tup t xs ms e a =>
      obtain ⟨l60, sms⟩ := sm_tup.mp s3
      have ln := a.len
      refine iteF ⟨_, rfl, rfl, _, rfl, _, rfl, _, rfl, t, xs, rfl, .inl (.inl (.inl e)), fun x dx nx nd ne => ?_⟩
      have sA := same_new (same_new (Same.refl H) nd (o := .own x)) ((upd_ne ne.symm).trans nx) (o := .ins C dx [])
      refine ⟨[.ref x, cv, pt], xs ++ [], rfl, rfl, (by rw [List.append_nil]; exact Nat.le_of_lt (small1000 (by omega))), fun p np => ?_⟩
      have sB := same_new sA np (o := .tup (xs ++ []))
      rw [List.append_nil] at sB ⊢
      refine ⟨x, dx, cv, pt, p, xs, dc, dp, ms, rfl, upd_keep upd_same np, upd_same, hc.same sB, hp.same sB, a.same sB, l60, s1, s2, sms, fun g H' e' => ⟨rfl, ?_⟩, fun g H' e' => ?_⟩
      · obtain ⟨z, pn, rfl, rfl, gd⟩ := good_of g
        cases hc
        cases hp
        refine qy g _ x z pn (same_put (sB.trans e') nx) rfl rfl nx ⟨dx, p, xs, upd_same, ?_, (a.same (same_put (sB.trans e') nx)), gd⟩
        rw [upd_ne (fun z => by subst z; rw [upd_same] at np; cases np)]
        exact e' _ _ upd_same
      · exact qn g H' (sB.trans e')
    | _ => exact iteT (qn rfl H (Same.refl H))
theorem ok_peq {f : Addr} {fd : FuncData} {k : Nat} (F : Fun K "__eq__" "Procedure.__eq__" s_peq f fd) (c : PcdC K mg C fI fO pO fE fL fS p1 g1 p2 g2 p3 g3 mc) (m_isinstance : mg "isinstance" = none) :
    FnOk P w K mg base CX0 (k + 1) f fd ["self", "other"] (spEqP K C) := by
  refine F.ok sc_peq (fun vs H Q E h => ?_) (fun cdv A outer s H vs Q E hr h => ?_)
  · obtain ⟨a, y, z, p, ms, rfl, _⟩ := h
    rfl
  · obtain ⟨a, y, z, p, ms, rfl, hA, h⟩ := h
    refine ⟨_, (pss_cons (ps_if (pt_not (pt_val (pe_callB call_isi (by rfl) m_isinstance (by decide +kernel) (pa_cons (pv 1) (pa_cons (pe_glob (v := .ref C) rfl c.gP rfl) pa_nil)))))
        (pss_one (ps_ret pe_bl))
        pss_nil)
      (pss_cons (ps_if (PW.pt (pw_or (pt_cmpR op_ne (pe_fld (pv 0) rfl) (pe_fld (pv 1) rfl) (nomark _)) (pw_or1 (pt_cmpR op_ne (pe_fld (pv 0) rfl) (pe_fld (pv 1) rfl) (nomark _)))))
        (pss_one (ps_ret pe_bl))
        pss_nil)
      (pss_one (ps_ret (pe_cmpR (op_eqH hr.units) (pe_fld (pv 0) rfl) (pe_fld (pv 1) rfl) (nomark _)))))), ?_⟩
    rcases h with ⟨b, z2, q2, ms2, rfl, hB, q⟩ | ⟨Ty, ty, kt, q⟩
    · obtain ⟨dx, t, xs, a1, a2, a3, ga⟩ := hA
      obtain ⟨dy, u, ys, b1, b2, b3, gb⟩ := hB
      refine ⟨_, rfl, _, _, _, _, true, rfl, .own C, .base (.ins b1 c.cls c.c1 c.c2 c.c3 c.c4), c.k1, _, rfl, iteF ?_⟩
      have h1 : (decide (V.str z = V.str z2)) = decide (z = z2) := decide_eq_decide.mpr ⟨fun e => V.str.inj e, fun e => by rw [e]⟩
      have h2 : (decide (V.int p = V.int q2)) = decide (p = q2) := decide_eq_decide.mpr ⟨fun e => V.int.inj e, fun e => by rw [e]⟩
      refine ⟨_, rfl, a, C, dx, _, _, rfl, a1, c.cls, c.n1, rfl, _, rfl, b, C, dy, _, _, rfl, b1, c.cls, c.n1, rfl, rfl, _, rfl, ?_⟩
      rw [h1]
      cases e1 : decide (z = z2) with
      | false =>
        rw [e1, Bool.false_and, Bool.false_and] at q
        exact iteT q
      | true =>
        refine iteF ⟨_, rfl, a, C, dx, _, _, rfl, a1, c.cls, c.n2, rfl, _, rfl, b, C, dy, _, _, rfl, b1, c.cls, c.n2, rfl, rfl, _, rfl, ?_⟩
        rw [h2]
        cases e2 : decide (p = q2) with
        | false =>
          rw [e1, e2, Bool.and_false, Bool.false_and] at q
          exact iteT q
        | true =>
          rw [e1, e2, Bool.true_and, Bool.true_and] at q
          have pm := pl_moves gb.moves
          exact iteF ⟨_, rfl, a, C, dx, _, _, rfl, a1, c.cls, c.n3, rfl, _, rfl, b, C, dy, _, _, rfl, b1, c.cls, c.n3, rfl, .tuple ms, .tuple ms2, .tup a2 a3, .tup b2 b3, pm.1, Nat.le_trans pm.2 (by omega), q⟩
    · exact ⟨_, rfl, _, _, _, _, false, rfl, .own C, ty, kt, _, rfl, iteT q⟩
theorem ok_plen {f : Addr} {fd : FuncData} {k : Nat} (F : Fun K "__len__" "Procedure.__len__" s_plen f fd) (c : PcdC K mg C fI fO pO fE fL fS p1 g1 p2 g2 p3 g3 mc) (m_len : mg "len" = none) :
    FnOk P w K mg base CX0 (k + 1) f fd ["self"] (spLenP C) := by
  refine F.ok sc_plen (fun vs H Q E h => ?_) (fun cdv A outer s H vs Q E hr h => ?_)
  · obtain ⟨a, z, p, ms, rfl, _⟩ := h
    rfl
  · obtain ⟨a, z, p, ms, rfl, ⟨dx, t, xs, a1, a2, a3, ga⟩, q⟩ := h
    refine ⟨_, (pss_one (ps_ret (pe_callB call_len_seq (by rfl) m_len (by decide +kernel) (pa_cons (pe_fld (pv 0) rfl) pa_nil)))), ?_⟩
    refine ⟨_, rfl, a, C, dx, _, _, rfl, a1, c.cls, c.n3, rfl, t, xs, rfl, .inr (.inl (.inl a2)), ?_⟩
    rw [a3.len]
    exact q
theorem le_app {a b : Str} {n m k : Nat} (h1 : a.length ≤ n) (h2 : b.length ≤ m) (h : n + m ≤ k) : (a ++ b).length ≤ k := by
  have e : (a ++ b).length = a.length + b.length := Array.size_append
  omega
theorem dig_len : ∀ n : Nat, n ≤ 60 → (Str.ofString (toString (n : Int))).length ≤ 5 := by decide +kernel
theorem ok_pstr {f : Addr} {fd : FuncData} {k : Nat} (F : Fun K "__str__" "Procedure.__str__" s_pstr f fd) (c : PcdC K mg C fI fO pO fE fL fS p1 g1 p2 g2 p3 g3 mc) (m_len : mg "len" = none) :
    FnOk P w K mg base CX0 (k + 1) f fd ["self"] (spStrP C) := by
  refine F.ok sc_pstr (fun vs H Q E h => ?_) (fun cdv A outer s H vs Q E hr h => ?_)
  · obtain ⟨a, z, p, ms, rfl, _⟩ := h
    rfl
  · obtain ⟨a, z, p, ms, rfl, ⟨dx, t, xs, a1, a2, a3, ga⟩, q⟩ := h
    refine ⟨_, (pss_one (ps_ret (pe_joined (.cons pe_str (.cons (pe_fmt (pe_fld (pv 0) rfl)) (.cons pe_str (.cons (pe_fmt (pe_fld (pv 0) rfl)) (.cons pe_str (.cons (pe_fmt (pe_callB call_len_seq (by rfl) m_len (by decide +kernel) (pa_cons (pe_fld (pv 0) rfl) pa_nil))) (.cons pe_str .nil)))))))))), ?_⟩
    have lz : z.length ≤ 8 := by
      have := ga.name
      unfold nameOf at this
      rw [Bool.and_eq_true, Bool.and_eq_true, decide_eq_true_iff, decide_eq_true_iff] at this
      exact this.1.2
    have lm : ms.length ≤ 12 := by
      have := ga.moves
      unfold areMoves at this
      rw [Bool.and_eq_true, decide_eq_true_iff] at this
      exact this.1
    obtain ⟨pn, rfl⟩ := Int.eq_ofNat_of_zero_le (show 0 ≤ p by have := ga.lo; omega)
    have lp : pn ≤ 60 := by have := ga.hi; omega
    have k0 : (Str.empty ++ ("procedure " : Str)).length ≤ 20 := by decide +kernel
    have k1 := le_app k0 lz (k := 30) (by decide)
    have k2 := le_app k1 (show (", " : Str).length ≤ 5 by decide +kernel) (k := 40) (by decide)
    have k3 := le_app k2 (dig_len pn lp) (k := 50) (by decide)
    have k4 := le_app k3 (show (" points, " : Str).length ≤ 10 by decide +kernel) (k := 60) (by decide)
    have k5 := le_app k4 (dig_len ms.length (by omega)) (k := 70) (by decide)
    have k6 := le_app k5 (show (" moves" : Str).length ≤ 10 by decide +kernel) (k := 80) (by decide)
    have sl : ∀ {y : Str}, y.length ≤ 80 → y.length ≤ sizeLine := fun h => Nat.le_of_lt (small1000 (by omega))
    have l2 : ∀ n : Nat, n ≤ 60 → (n : Int).natAbs.log2 < 1920 := fun n h => by
      have := Nat.log2_le_self n
      rw [Int.natAbs_natCast]
      omega
    have ex := a3.len
    refine ⟨_, rfl, sl (Nat.le_trans k0 (by decide)), _, rfl, a, C, dx, _, _, rfl, a1, c.cls, c.n1, rfl, .inl ⟨z, rfl, sl (by omega), _, rfl, sl (by omega), _, rfl, sl (by omega), _, rfl, a, C, dx, _, _, rfl, a1, c.cls, c.n2, rfl, .inr ⟨(pn : Int), rfl, l2 pn lp, _, rfl, sl (by omega), _, rfl, sl (by omega), _, rfl, a, C, dx, _, _, rfl, a1, c.cls, c.n3, rfl, t, xs, rfl, .inr (.inl (.inl a2)), .inr ⟨((ms.length : Nat) : Int), by rw [ex], l2 _ (by omega), _, rfl, sl (by omega), _, rfl, sl (by omega), ?_⟩⟩⟩⟩
    have e0 : (Str.empty ++ ("procedure " : Str)) = ("procedure " : Str) := by decide +kernel
    show Q (.str ((((((((Str.empty ++ ("procedure " : Str)) ++ z) ++ (", " : Str)) ++ _) ++ _) ++ _) ++ _))) H
    rw [e0]
    exact q
end
end My

/-! data beside a die and lists that grow -/
namespace Dt
open PySem PySem.Spec PyProof.Rows L2 Sh
def hide (S : List Addr) (H : Hp) : Hp := fun b => if b ∈ S then none else H b
theorem hide_out {S : List Addr} {H : Hp} {b : Addr} (h : b ∉ S) : hide S H b = H b := if_neg h
theorem hide_in {S : List Addr} {H : Hp} {b : Addr} {o : HO} (h : hide S H b = some o) : b ∉ S ∧ H b = some o := by
  unfold hide at h
  by_cases e : b ∈ S
  · rw [if_pos e] at h
    cases h
  · rw [if_neg e] at h
    exact ⟨e, h⟩
theorem hide_sub {S : List Addr} {H : Hp} : Same (hide S H) H := fun _ _ h => (hide_in h).2
theorem hide_some {S : List Addr} {H : Hp} {b : Addr} {o : HO} (n : b ∉ S) (h : H b = some o) : hide S H b = some o := by
  rw [hide_out n]
  exact h
theorem hide_but {d : Addr} {S : List Addr} {H H' : Hp} (hd : d ∈ S) (h : But d H H') : Same (hide S H) (hide S H') := fun b o e => by
  obtain ⟨n, e⟩ := hide_in e
  exact hide_some n (h b o (fun z => n (z ▸ hd)) e)
theorem hide_same {S : List Addr} {H H' : Hp} (h : Same H H') : Same (hide S H) (hide S H') := fun b o e => by
  obtain ⟨n, e⟩ := hide_in e
  exact hide_some n (h b o e)
theorem hide_new {S : List Addr} {H : Hp} {p : Addr} {o : HO} (n : H p = none) : Same (hide S H) (hide (p :: S) (upd H p o)) := fun b u e => by
  obtain ⟨m, e⟩ := hide_in e
  have ne : b ≠ p := fun z => by
    subst z
    rw [n] at e
    cases e
  exact hide_some (by simp [ne, m]) ((upd_ne ne).trans e)
theorem hide_upd {S : List Addr} {H : Hp} {p : Addr} {o : HO} : Same (hide (p :: S) H) (hide (p :: S) (upd H p o)) := fun b u e => by
  obtain ⟨m, e⟩ := hide_in e
  have ne : b ≠ p := fun z => m (by simp [z])
  exact hide_some m ((upd_ne ne).trans e)
theorem hide_tail {S : List Addr} {H : Hp} {p : Addr} : Same (hide (p :: S) H) (hide S H) := fun b u e => by
  obtain ⟨m, e⟩ := hide_in e
  exact hide_some (fun z => m (List.mem_cons_of_mem _ z)) e
/-- data that is not the die, nor near it, and not too long -/
def Vd (S : List Addr) (H : Hp) (v : V) (e : PyData) : Prop := D (hide S H) v e ∧ sm e = true
theorem Vd.mono {S S' : List Addr} {H H' : Hp} {v : V} {e : PyData} (h : Vd S H v e) (s : Same (hide S H) (hide S' H')) : Vd S' H' v e := ⟨h.1.same s, h.2⟩
theorem Vd.d {S : List Addr} {H : Hp} {v : V} {e : PyData} (h : Vd S H v e) : D H v e := h.1.same hide_sub
inductive VdAll (S : List Addr) (H : Hp) : List V → List PyData → Prop
  | nil : VdAll S H [] []
  | cons {v : V} {e : PyData} {vs : List V} {es : List PyData} : Vd S H v e → VdAll S H vs es → VdAll S H (v :: vs) (e :: es)
theorem VdAll.mono {S S' : List Addr} {H H' : Hp} {vs : List V} {es : List PyData} (h : VdAll S H vs es) (s : Same (hide S H) (hide S' H')) : VdAll S' H' vs es := by
  induction h with
  | nil => exact .nil
  | cons a _ ih => exact .cons (a.mono s) ih
theorem VdAll.len {S : List Addr} {H : Hp} {vs : List V} {es : List PyData} (h : VdAll S H vs es) : vs.length = es.length := by
  induction h with
  | nil => rfl
  | cons _ _ ih => rw [List.length_cons, List.length_cons, ih]
theorem VdAll.get {S : List Addr} {H : Hp} {vs : List V} {es : List PyData} (h : VdAll S H vs es) : ∀ {i : Nat} {v : V}, vs[i]? = some v → ∃ e, es[i]? = some e ∧ Vd S H v e := by
  induction h with
  | nil => intro i v e; simp at e
  | cons a _ ih =>
    intro i v e
    cases i with
    | zero =>
      cases e
      exact ⟨_, rfl, a⟩
    | succ i => exact ih e
theorem VdAll.app {S : List Addr} {H : Hp} {vs ws : List V} {es fs : List PyData} (h : VdAll S H vs es) (g : VdAll S H ws fs) : VdAll S H (vs ++ ws) (es ++ fs) := by
  induction h with
  | nil => exact g
  | cons a _ ih => exact .cons a ih
theorem VdAll.d {S : List Addr} {H : Hp} {vs : List V} {es : List PyData} (h : VdAll S H vs es) : DAll (hide S H) vs es := by
  induction h with
  | nil => exact .nil
  | cons a _ ih => exact .cons a.1 ih
theorem VdAll.of {S : List Addr} {H : Hp} {vs : List V} {es : List PyData} (h : DAll (hide S H) vs es) (g : ∀ e ∈ es, sm e = true) : VdAll S H vs es := by
  induction es generalizing vs with
  | nil =>
    cases h
    exact .nil
  | cons e es ih =>
    cases h with
    | cons a b => exact .cons ⟨a, g e List.mem_cons_self⟩ (ih b fun x hx => g x (List.mem_cons_of_mem _ hx))
theorem VdAll.sm {S : List Addr} {H : Hp} {vs : List V} {es : List PyData} (h : VdAll S H vs es) : ∀ e ∈ es, sm e = true := by
  induction h with
  | nil => exact fun e he => nomatch he
  | cons a _ ih =>
    intro e he
    rcases List.mem_cons.mp he with rfl | he
    · exact a.2
    · exact ih e he
theorem VdAll.take {S : List Addr} {H : Hp} {vs : List V} {es : List PyData} (h : VdAll S H vs es) (n : Nat) : VdAll S H (vs.take n) (es.take n) := .of (h.d.take n) fun e he => h.sm e (List.mem_of_mem_take he)
theorem VdAll.drop {S : List Addr} {H : Hp} {vs : List V} {es : List PyData} (h : VdAll S H vs es) (n : Nat) : VdAll S H (vs.drop n) (es.drop n) := .of (h.d.drop n) fun e he => h.sm e (List.mem_of_mem_drop he)
theorem VdAll.rev {S : List Addr} {H : Hp} {vs : List V} {es : List PyData} (h : VdAll S H vs es) : VdAll S H vs.reverse es.reverse := .of h.d.rev fun e he => h.sm e (List.mem_reverse.mp he)
/-- a tuple of such values -/
theorem Vd.tup {S : List Addr} {H : Hp} {p : Addr} {vs : List V} {es : List PyData} (n : p ∉ S) (hp : H p = some (.tup vs)) (h : VdAll S H vs es) (l : es.length ≤ 60) : Vd S H (.ref p) (.tuple es) := ⟨.tup (hide_some n hp) h.d, sm_tup.mpr ⟨l, h.sm⟩⟩
theorem Vd.lst {S : List Addr} {H : Hp} {p : Addr} {vs : List V} {es : List PyData} (n : p ∉ S) (hp : H p = some (.lst vs)) (h : VdAll S H vs es) (l : es.length ≤ 60) : Vd S H (.ref p) (.list es) := ⟨.lst (hide_some n hp) h.d, by
  simp only [Dt.sm, Bool.and_eq_true, decide_eq_true_iff, smAll_mem]
  exact ⟨l, h.sm⟩⟩
theorem Vd.tup_inv {S : List Addr} {H : Hp} {v : V} {es : List PyData} (h : Vd S H v (.tuple es)) : ∃ p vs, v = .ref p ∧ p ∉ S ∧ H p = some (.tup vs) ∧ VdAll S H vs es ∧ es.length ≤ 60 := by
  obtain ⟨h, s⟩ := h
  obtain ⟨l, g⟩ := sm_tup.mp s
  cases h with
  | tup e a =>
    obtain ⟨n, e⟩ := hide_in e
    exact ⟨_, _, rfl, n, e, .of a g, l⟩
theorem Vd.int {S : List Addr} {H : Hp} (i : Int) : Vd S H (.int i) (.int i) := ⟨.int i, rfl⟩
theorem Vd.str {S : List Addr} {H : Hp} {z : Str} (h : (decide (z.length ≤ 1000) && PyData.strOk z) = true) : Vd S H (.str z) (.str z) := ⟨.str z, h⟩
theorem Vd.bl {S : List Addr} {H : Hp} (b : Bool) : Vd S H (.bl b) (.bool b) := ⟨.bl b, rfl⟩
theorem Vd.non {S : List Addr} {H : Hp} : Vd S H .non .none := ⟨.non, rfl⟩
theorem VdAll.ints {S : List Addr} {H : Hp} : ∀ ns : List Int, VdAll S H (ns.map V.int) (ns.map PyData.int)
  | [] => .nil
  | n :: ns => .cons (.int n) (VdAll.ints ns)
/-! ### != of plain data -/
theorem strOk_of {z : Str} (h : sm (.str z) = true) : PyData.strOk z = true := by
  simp only [sm, Bool.and_eq_true] at h
  exact h.2
mutual
theorem plain_lay : ∀ (d : PyData), d.plain = true → sm d = true → d.canLay0 = true
  | .none, _, _ => rfl
  | .bool _, _, _ => rfl
  | .int _, _, _ => rfl
  | .str z, _, h => by
    simp only [PyData.canLay0]
    exact strOk_of h
  | .list xs, h, g => by
    simp only [PyData.canLay0]
    simp only [sm, Bool.and_eq_true] at g
    exact plain_lays xs (by simpa [PyData.plain] using h) g.2
  | .tuple xs, h, g => by
    simp only [PyData.canLay0]
    simp only [sm, Bool.and_eq_true] at g
    exact plain_lays xs (by simpa [PyData.plain] using h) g.2
  | .dict _, h, _ => by cases h
theorem plain_lays : ∀ (ds : List PyData), PyData.plainAll ds = true → smAll ds = true → PyData.canLayAll0 ds = true
  | [], _, _ => by simp [PyData.canLayAll0]
  | d :: r, h, g => by
    simp only [PyData.plainAll, smAll, Bool.and_eq_true] at h g
    simp only [PyData.canLayAll0, Bool.and_eq_true]
    exact ⟨plain_lay d h.1 g.1, plain_lays r h.2 g.2⟩
end
mutual
theorem D.dp {K : PySem.W.Frag} {H : Hp} : ∀ {v : V} {d : PyData}, D H v d → d.plain = true → Dp K H v d
  | _, _, .non, _ => .non
  | _, _, .bl b, _ => .bl b
  | _, _, .int i, _ => .int i
  | _, _, .str z, _ => .str z
  | _, _, .lst h a, g => .lst (.inl (.inl h)) (DAll.dp a (by simpa [PyData.plain] using g))
  | _, _, .tup h a, g => .tup (.inl (.inl h)) (DAll.dp a (by simpa [PyData.plain] using g))
  | _, _, .dic _, g => by cases g
theorem DAll.dp {K : PySem.W.Frag} {H : Hp} : ∀ {vs : List V} {ds : List PyData}, DAll H vs ds → PyData.plainAll ds = true → DpAll K H vs ds
  | _, _, .nil, _ => .nil
  | _, _, .cons h a, g => by
    simp only [PyData.plainAll, Bool.and_eq_true] at g
    exact .cons (D.dp h g.1) (DAll.dp a g.2)
end
/-- x != y, both plain -/
def rNeH : R2 := fun x y H Q => ∃ d e, D H x d ∧ D H y e ∧ d.plain = true ∧ e.plain = true ∧ d.depth ≤ 60 ∧ e.depth ≤ 60 ∧ sm d = true ∧ sm e = true ∧ Q (.bl (!PyData.eqv d e)) H
theorem op_neH {X : Cx} (hu : X.A.units + 64 < cLine) : OpR X (compareOp .NotEq) rNeH := by
  intro pins s σ H x y v u Q I rx ry h
  obtain ⟨d, e, hd, he, p1, p2, d1, d2, s1, s2, q⟩ := h
  refine op_neD hu pins s σ H x y v u Q I rx ry ⟨d, e, hd.dp p1, he.dp p2, ?_, ?_, q⟩
  · unfold SeqAt.shaped
    rw [plain_lay d p1 s1, decide_eq_true (by omega)]
    rfl
  · unfold SeqAt.shaped
    rw [plain_lay e p2 s2, decide_eq_true (by omega)]
    rfl
end Dt

namespace My
open PySem PySem.Spec PyProof.Rows L2 Sh Dt
def notMQ : PyData → Bool
  | .str z => !decide (z = ("main" : Str)) && !decide (z = ("q" : Str))
  | _ => true
/-- what is told of three calls that are refused -/
def odd3 (e : PyData) : List PyData := [.tuple [.str "name", .str "zz"], .tuple [.str "site", .tuple [.str "zz", .int 0]], .tuple [.str "site", .list [e]]]
def odd1 (e : PyData) : Bool := notMQ e && ((PyData.list (odd3 e)).showable && (decide ((PyData.list (odd3 e)).shown.length ≤ 1000) && decide ((PyData.list (odd3 e)).depth ≤ 20)))
def spOddV : Sp := fun vs H Q _ => ∃ d, vs = [.ref d] ∧ DieAt H d ∧ ∀ v e H', Vd [d] H' v e → odd1 e = true → But d H H' → DieAt H' d → Q v H'
def spSubset : Sp := fun vs H Q _ => ∃ d n, vs = [.ref d, .int n] ∧ DieAt H d ∧ 1 ≤ n ∧ n ≤ 5 ∧ ∀ p (ns : List Int) H', But d H H' → DieAt H' d → H' p = some (.tup (ns.map V.int)) → ns ≠ [] → ns.length ≤ 5 → asc ltI ns = true → (∀ k ∈ ns, 0 ≤ k ∧ k < n) → Q (.ref p) H'
def spShuffle : Sp := fun vs H Q _ => ∃ (d l : Addr) (zs : List Str), vs = [.ref d, .ref l] ∧ DieAt H d ∧ l ≠ d ∧ H l = some (.lst (zs.map V.str)) ∧ 1 ≤ zs.length ∧ zs.length ≤ 60 ∧ ∀ (p : Addr) (ws : List Str) H', But d H H' → DieAt H' d → H p = none → H' p = some (.lst (ws.map V.str)) → ws.length = zs.length → (∀ z ∈ ws, z ∈ zs) → ws.Perm zs → Q (.ref p) H'
abbrev Nlaw_odd_one : List Str := ["die", "some"]
abbrev s_law_subset : Stmt := topS 42
abbrev Nlaw_subset : List Str := ["die", "total", "found", "mode"]
theorem sc_law_subset : FnScope Nlaw_subset ["die", "total"] (defScope s_law_subset) := ⟨rfl, rfl, rfl, by decide +kernel, rfl, by decide +kernel, by decide +kernel⟩
abbrev Nlaw_bent_tuple : List Str := ["die", "items", "odd", "at", "some"]
abbrev s_law_shuffle : Stmt := topS 41
abbrev Nlaw_shuffle : List Str := ["die", "items", "pool", "turn"]
theorem sc_law_shuffle : FnScope Nlaw_shuffle ["die", "items"] (defScope s_law_shuffle) := ⟨rfl, rfl, rfl, by decide +kernel, rfl, by decide +kernel, by decide +kernel⟩
abbrev s_law_a_move : Stmt := topS 43
abbrev Nlaw_a_move : List Str := ["die", "total", "points", "names", "here", "there", "way", "some", "pairs", "turn"]
theorem sc_law_a_move : FnScope Nlaw_a_move ["die", "total", "points", "names"] (defScope s_law_a_move) := ⟨rfl, rfl, rfl, by decide +kernel, rfl, by decide +kernel, by decide +kernel⟩
abbrev s_law_any_plain : Stmt := topS 44
abbrev Nlaw_any_plain : List Str := ["die", "total", "bands", "names", "name", "points", "moves", "turn", "begin"]
theorem sc_law_any_plain : FnScope Nlaw_any_plain ["die"] (defScope s_law_any_plain) := ⟨rfl, rfl, rfl, by decide +kernel, rfl, by decide +kernel, by decide +kernel⟩
section
variable {P : Program} {w : World} {K : PySem.W.Frag} {mg : Str → Option Value} {base : Heap}
theorem mt_popAtR {X : Cx} : MtR X "list.pop" rPopAt := mt_popAt
theorem erase_map {α β : Type} (f : α → β) : ∀ (xs : List α) (i : Nat), (xs.map f).eraseIdx i = (xs.eraseIdx i).map f
  | [], _ => rfl
  | _ :: _, 0 => rfl
  | x :: xs, i + 1 => congrArg (f x :: ·) (erase_map f xs i)
theorem erase_perm {α : Type} : ∀ (l : List α) (i : Nat) (h : i < l.length), (l[i] :: l.eraseIdx i).Perm l
  | x :: l, 0, _ => List.Perm.refl _
  | x :: l, i + 1, h => (List.Perm.swap x (l[i]'(Nat.lt_of_succ_lt_succ h)) (l.eraseIdx i)).trans ((erase_perm l i (Nat.lt_of_succ_lt_succ h)).cons x)
theorem seq_nat {r n : Nat} (h : r < n) : seqIndex? (r : Int) n = some r := by
  unfold seqIndex?
  have h1 : ¬ (r : Int) < 0 := by omega
  simp [h1, h]
theorem asc_snoc {ns : List Int} {i : Nat} (h : asc ltI ns = true) (hl : ∀ k ∈ ns, 0 ≤ k ∧ k < (i : Int)) : asc ltI (ns ++ [(i : Int)]) = true := by
  rw [asc_pw ltI_tr] at h ⊢
  rw [List.pairwise_append]
  refine ⟨h, List.pairwise_singleton _ _, fun a ha b hb => ?_⟩
  rw [List.mem_singleton.mp hb]
  exact decide_eq_true (hl a ha).2
theorem ok_subset {f f__law_cast : Addr} {fd fd__law_cast : FuncData} (F : Fun K "_law_subset" "_law_subset" s_law_subset f fd) (G__law_cast : FnOk P w K mg base CX0 1 f__law_cast fd__law_cast ["die", "total"] spCast) (F__law_cast : Fun K "_law_cast" "_law_cast" s_law_cast f__law_cast fd__law_cast) (b__law_cast : Binds K fd__law_cast ["die", "total"] []) (g__law_cast : mg "_law_cast" = some (.ref f__law_cast)) (m_tuple : mg "tuple" = none) (m_range : mg "range" = none) :
    FnOk P w K mg base CX0 2 f fd ["die", "total"] spSubset := by
  refine F.ok sc_law_subset (fun vs H Q E h => ?_) (fun cdv A outer s H vs Q E hr h => ?_)
  · obtain ⟨d, n, rfl, _⟩ := h
    rfl
  · obtain ⟨d, n, rfl, hD, n1, n5, q⟩ := h
    obtain ⟨n, rfl⟩ := Int.eq_ofNat_of_zero_le (show 0 ≤ n by omega)
    refine ⟨_, (pss_cons (ps_set (i := 2) sc_law_subset.nd rfl (by first | exact Or.inl rfl | exact Or.inr rfl) (pe_callTy call_tuple_of (by rfl) m_tuple (by decide +kernel) (pa_cons (pe_lc (own := [("mode", 3)]) (g := (gName 3)) rfl sc_law_subset.nd (pi_range1 rfl m_range (pa_cons (pv 1) pa_nil)) (blkOk_by (N := Nlaw_subset) (sc := defScope s_law_subset) (by decide +kernel))
      (fun _ _ _ _ _ => (pg_name (i := 3) sc_law_subset.nd rfl (Or.inl rfl))) (fun _ _ _ _ _ => (pts_one (pt_cmpR op_gt (pe_call G__law_cast (hr.mono (by decide)) (by rfl) g__law_cast F__law_cast.kp b__law_cast .nil pass0 (pa_cons (pv 0) (pa_cons pe_int pa_nil))) pe_int (nomark _)))) (fun _ _ _ _ _ => (pv 3))) pa_nil)))
      (pss_one (ps_ret (pe_ifExp (pt_cmpR (op_neTI hr.units) (pv 2) (pe_tup pa_nil) (nomark _)) (pv 2) (pe_tup (pa_cons (pe_call G__law_cast (hr.mono (by decide)) (by rfl) g__law_cast F__law_cast.kp b__law_cast .nil pass0 (pa_cons (pv 0) (pa_cons (pv 1) pa_nil))) pa_nil)))))), ?_⟩
    refine ⟨_, rfl, _, rfl, by omega, by omega, fun D0 nD => ?_⟩
    rw [Int.toNat_natCast]
    refine lc_range (lo := 0) (n := n) (fun i H1 => But d H H1 ∧ DieAt H1 d ∧ ∃ ns : List Int, H1 D0 = some (.lst (ns.map V.int)) ∧ ns.length ≤ i ∧ asc ltI ns = true ∧ ∀ k ∈ ns, 0 ≤ k ∧ k < (i : Int)) ⟨(But.refl d H).new nD, hD.new nD, [], upd_same, Nat.le_refl _, rfl, fun k hk => nomatch hk⟩ (fun i H1 hi hq => ?_) (fun H1 hq => ?_)
    · obtain ⟨b1, d1, ns, hl, l1, as, mem⟩ := hq
      have nDd : D0 ≠ d := hD.free nD
      refine ⟨rfl, _, rfl, d, 3, rfl, d1, by decide, by decide, fun r H2 hr2 hN => ⟨(r : Int), 0, rfl, rfl, _, rfl, ite2 (fun e => ?_) (fun e => ?_)⟩⟩
      · refine ⟨_, rfl, ns.map V.int, (hN.ne nDd).trans hl, ?_, ?_⟩
        · rw [List.length_map]
          exact small1000 (by omega)
        · rw [Int.zero_add]
          refine ⟨(b1.trans hN.but).put nD, hN.die.put nDd, ns ++ [(i : Int)], by rw [upd_same, List.map_append]; rfl, by rw [List.length_append]; simp; omega, asc_snoc as mem, fun k hk => ?_⟩
          rcases List.mem_append.mp hk with hk | hk
          · have := mem k hk
            exact ⟨this.1, by omega⟩
          · rw [List.mem_singleton.mp hk]
            exact ⟨by omega, by omega⟩
      · exact ⟨b1.trans hN.but, hN.die, ns, (hN.ne nDd).trans hl, by omega, as, fun k hk => ⟨(mem k hk).1, by have := (mem k hk).2; omega⟩⟩
    · obtain ⟨b1, d1, ns, hl, l1, as, mem⟩ := hq
      refine ⟨D0, _, rfl, .inl ⟨.inl (.inl hl), fun t nt => ?_⟩⟩
      have nDd : D0 ≠ d := hD.free nD
      have b2 := b1.new nt (o := .tup (ns.map V.int))
      have d2 := d1.new nt (o := .tup (ns.map V.int))
      refine ⟨_, rfl, len_ok, fun e0 ne => ⟨t, e0, ns, [], rfl, rfl, .inl (.inl (upd_keep upd_same ne)), .inl (.inl upd_same), _, rfl, ite2 (fun e => ?_) (fun e => ?_)⟩⟩
      · refine ⟨_, rfl, q t ns _ (b2.new ne) (d2.new ne) (upd_keep upd_same ne) (fun z => ?_) (by omega) as fun k hk => mem k hk⟩
        rw [z] at e
        cases e
      · refine ⟨_, rfl, _, rfl, d, n, rfl, d2.new ne, by omega, by omega, fun r H2 hr2 hN => ⟨len_ok, fun p np => ?_⟩⟩
        exact q p [(r : Int)] _ (((b2.new ne).trans hN.but).new np) (hN.die.new np) upd_same (List.cons_ne_nil _ _) (by simp) rfl fun k hk => by
          rw [List.mem_singleton.mp hk]
          exact ⟨by omega, hr2⟩
theorem ok_shuffle {f f__law_cast : Addr} {fd fd__law_cast : FuncData} (F : Fun K "_law_shuffle" "_law_shuffle" s_law_shuffle f fd) (G__law_cast : FnOk P w K mg base CX0 1 f__law_cast fd__law_cast ["die", "total"] spCast) (F__law_cast : Fun K "_law_cast" "_law_cast" s_law_cast f__law_cast fd__law_cast) (b__law_cast : Binds K fd__law_cast ["die", "total"] []) (g__law_cast : mg "_law_cast" = some (.ref f__law_cast)) (m_list : mg "list" = none) (m_range : mg "range" = none) (m_len : mg "len" = none) :
    FnOk P w K mg base CX0 2 f fd ["die", "items"] spShuffle := by
  refine F.ok sc_law_shuffle (fun vs H Q E h => ?_) (fun cdv A outer s H vs Q E hr h => ?_)
  · obtain ⟨d, l, zs, rfl, _⟩ := h
    rfl
  · obtain ⟨d, l, zs, rfl, hD, ld, hl, n1, n60, q⟩ := h
    refine ⟨_, (pss_cons (ps_set (i := 2) sc_law_shuffle.nd rfl (by first | exact Or.inl rfl | exact Or.inr rfl) (pe_callTy call_list_of (by rfl) m_list (by decide +kernel) (pa_cons (pv 1) pa_nil)))
      (pss_one (ps_ret (pe_lc (own := [("turn", 3)]) (g := (gName 3)) (tt := tYes) rfl sc_law_shuffle.nd (pi_range1 rfl m_range (pa_cons (pe_callB call_len_seq (by rfl) m_len (by decide +kernel) (pa_cons (pv 1) pa_nil)) pa_nil)) (blkOk_by (N := Nlaw_shuffle) (sc := defScope s_law_shuffle) (by decide +kernel))
      (fun _ _ _ _ _ => (pg_name (i := 3) sc_law_shuffle.nd rfl (Or.inl rfl))) (fun _ _ _ _ _ => pts_nil) (fun _ _ _ _ _ => (show PE _ _ (tBM K "list" rPopAt _ _) from (pe_bm (r := rPopAt) (id := "list.pop") PySem.F.plainAttrs_list PySem.F.slot_list_pop PySem.F.type_list_pop mt_popAtR (pv 2) (pa_cons (pe_call G__law_cast (hr.mono (by decide)) (by rfl) g__law_cast F__law_cast.kp b__law_cast .nil pass0 (pa_cons (pv 0) (pa_cons (pe_callB (id := "len") (r := rLenS K) call_len_seq (by rfl) m_len (by decide +kernel) (pa_cons (pv 2) pa_nil)) pa_nil))) pa_nil)))))))), ?_⟩
    refine ⟨_, rfl, l, _, rfl, .inl (.inl (.inl hl)), fun B nB => ?_⟩
    have lB : l ≠ B := fun z => by
      rw [z, nB] at hl
      cases hl
    have nBd : B ≠ d := hD.free nB
    refine ⟨_, rfl, l, _, rfl, .inl (.inl (.inl (upd_keep hl nB))), _, rfl, by rw [List.length_map]; omega, by rw [List.length_map]; omega, fun D0 nD => ?_⟩
    rw [List.length_map, Int.toNat_natCast]
    have nDd : D0 ≠ d := (hD.new nB).free nD
    have DB : D0 ≠ B := fun z => by
      rw [z, upd_same] at nD
      cases nD
    have nD0 : H D0 = none := by
      rw [upd_ne DB] at nD
      exact nD
    refine lc_range (lo := 0) (n := zs.length) (fun i H1 => But d H H1 ∧ DieAt H1 d ∧ ∃ ps as : List Str, H1 B = some (.lst (ps.map V.str)) ∧ H1 D0 = some (.lst (as.map V.str)) ∧ ps.length + i = zs.length ∧ as.length = i ∧ (∀ z ∈ ps, z ∈ zs) ∧ (∀ z ∈ as, z ∈ zs) ∧ (as ++ ps).Perm zs) ⟨((But.refl d H).new nB).new nD, (hD.new nB).new nD, zs, [], upd_keep upd_same nD, upd_same, rfl, rfl, fun z hz => hz, (fun z hz => nomatch hz), List.Perm.refl _⟩ (fun i H1 hi hq => ?_) (fun H1 hq => ?_)
    · obtain ⟨b1, d1, ps, as, hB, hA, l1, l2, m1, m2, pm⟩ := hq
      refine ⟨rfl, _, rfl, .inl ⟨rfl, _, .inl (.inl hB)⟩, _, rfl, _, rfl, B, _, rfl, .inl (.inl (.inl hB)), d, _, rfl, d1, by rw [List.length_map]; omega, by rw [List.length_map]; omega, fun r H2 hr2 hN => ?_⟩
      rw [List.length_map] at hr2
      have hr3 : r < ps.length := by omega
      have hB2 := (hN.ne nBd).trans hB
      have hA2 := (hN.ne nDd).trans hA
      refine ⟨B, ps.map V.str, (r : Int), r, .str ps[r], rfl, rfl, hB2, by omega, by omega, ?_, by rw [List.getElem?_map, List.getElem?_eq_getElem hr3]; rfl, ?_⟩
      · exact seq_nat (by rw [List.length_map]; exact hr3)
      · refine ⟨as.map V.str, (upd_ne DB).trans hA2, by rw [List.length_map]; exact small1000 (by omega), ?_, (hN.die.put nBd).put nDd, ps.eraseIdx r, as ++ [ps[r]], ?_, ?_, ?_, ?_, fun z hz => m1 z (List.mem_of_mem_eraseIdx hz), fun z hz => ?_, ?_⟩
        · exact ((b1.trans hN.but).put nB).put nD0
        · rw [upd_ne DB.symm, upd_same, erase_map]
        · rw [upd_same, List.map_append]
          rfl
        · rw [List.length_eraseIdx_of_lt hr3]
          omega
        · rw [List.length_append, l2]
          rfl
        · rcases List.mem_append.mp hz with hz | hz
          · exact m2 z hz
          · rw [List.mem_singleton.mp hz]
            exact m1 _ (List.getElem_mem hr3)
        · refine List.Perm.trans ?_ pm
          rw [List.append_assoc]
          exact List.Perm.append_left as (erase_perm ps r hr3)
    · obtain ⟨b1, d1, ps, as, hB, hA, l1, l2, m1, m2, pm⟩ := hq
      have p0 : ps = [] := List.length_eq_zero_iff.mp (by omega)
      rw [p0, List.append_nil] at pm
      exact q D0 as H1 b1 d1 nD0 hA l2 m2 pm
end
end My

namespace My
open PySem PySem.Spec PyProof.Rows L2 Sh Dt
/-! ### data without lists and dicts -/
mutual
def nl : PyData → Bool
  | .list _ => false
  | .dict _ => false
  | .tuple xs => nlAll xs
  | _ => true
def nlAll : List PyData → Bool
  | [] => true
  | d :: r => nl d && nlAll r
end
theorem nlAll_mem : ∀ {ds : List PyData}, nlAll ds = true ↔ ∀ d ∈ ds, nl d = true
  | [] => by simp [nlAll]
  | d :: r => by simp [nlAll, nlAll_mem (ds := r)]
theorem nl_ints (ns : List Int) : nl (.tuple (ns.map PyData.int)) = true := by
  simp only [nl]
  exact nlAll_mem.mpr fun d hd => by
    obtain ⟨k, _, rfl⟩ := List.mem_map.mp hd
    rfl
theorem nl_rows (ks : List (List Int)) : nl (.tuple (ks.map Zt.rowD)) = true := by
  simp only [nl]
  exact nlAll_mem.mpr fun d hd => by
    obtain ⟨k, _, rfl⟩ := List.mem_map.mp hd
    exact nl_ints k
mutual
theorem nl_hide {S : List Addr} {H : Hp} {M : Addr} {ys : List V} (hM : H M = some (.lst ys)) : ∀ {v : V} {e : PyData}, D (hide S H) v e → nl e = true → D (hide (M :: S) H) v e
  | _, _, .non, _ => .non
  | _, _, .bl b, _ => .bl b
  | _, _, .int i, _ => .int i
  | _, _, .str z, _ => .str z
  | _, _, .lst h a, g => by cases g
  | _, _, .dic h, g => by cases g
  | _, _, .tup (p := p) h a, g => by
    obtain ⟨n, h⟩ := hide_in h
    have ne : p ≠ M := fun z => by
      rw [z, hM] at h
      cases h
    exact .tup (hide_some (by simp [ne, n]) h) (nl_hideAll hM a (by simpa [nl] using g))
theorem nl_hideAll {S : List Addr} {H : Hp} {M : Addr} {ys : List V} (hM : H M = some (.lst ys)) : ∀ {vs : List V} {es : List PyData}, DAll (hide S H) vs es → nlAll es = true → DAll (hide (M :: S) H) vs es
  | _, _, .nil, _ => .nil
  | _, _, .cons h a, g => by
    simp only [nlAll, Bool.and_eq_true] at g
    exact .cons (nl_hide hM h g.1) (nl_hideAll hM a g.2)
end
theorem vd_out {S : List Addr} {H : Hp} {M : Addr} {ys : List V} {v : V} {e : PyData} (h : Vd S H v e) (hM : H M = some (.lst ys)) (n : nl e = true) : Vd (M :: S) H v e := ⟨nl_hide hM h.1 n, h.2⟩
/-- a drawn move between so many points -/
def nameOk (zs : List Str) : PyData → Bool
  | .tuple (w :: r) => !strIn w ["call", "post"] || (match r with | _ :: _ :: .str z :: _ => decide (z ∈ zs) | _ => false)
  | _ => true
structure Mv (n : Int) (zs : List Str) (p : Int) (ds : List PyData) : Prop where
  ok : isMove p n (.tuple ds) = true
  nm : nameOk zs (.tuple ds) = true
  lo : 3 ≤ ds.length
  hi : ds.length ≤ 5
  inn : ∀ es, PyData.tuple es ∈ ds → es ≠ [] ∧ es.length ≤ 5
  nol : nl (.tuple ds) = true
def Nm (z : Str) : Prop := nameOf z = true ∧ (decide (z.length ≤ 1000) && PyData.strOk z) = true
def spAMove : Sp := fun vs H Q _ => ∃ (d l : Addr) (total points : Int) (zs : List Str), vs = [.ref d, .int total, .int points, .ref l] ∧ DieAt H d ∧ 1 ≤ total ∧ total ≤ 5 ∧ 1 ≤ points ∧ points ≤ 6 ∧ l ≠ d ∧ H l = some (.lst (zs.map V.str)) ∧ zs ≠ [] ∧ zs.length ≤ 60 ∧ (∀ z ∈ zs, Nm z) ∧
  ∀ t ds H', But d H H' → DieAt H' d → Vd [d] H' (.ref t) (.tuple ds) → Mv total zs points ds → Q (.ref t) H'
theorem set_ok {ns : List Int} {n : Int} (h0 : ns ≠ []) (h1 : asc ltI ns = true) (h2 : ∀ k ∈ ns, 0 ≤ k ∧ k < n) : isSet n (.tuple (ns.map PyData.int)) = true := by
  have e1 : (ns.map PyData.int).map intOf = ns := by
    rw [List.map_map]
    exact List.map_id _
  have e2 : (ns.map PyData.int).all (isNum n) = true := List.all_eq_true.mpr fun d hd => by
    obtain ⟨k, hk, rfl⟩ := List.mem_map.mp hd
    have := h2 k hk
    show (decide (0 ≤ k) && decide (k < n)) = true
    rw [decide_eq_true this.1, decide_eq_true (by omega)]
    rfl
  have e3 : (ns.map PyData.int).isEmpty = false := by
    cases ns with
    | nil => exact absurd rfl h0
    | cons a r => rfl
  show (!(ns.map PyData.int).isEmpty && (ns.map PyData.int).all (isNum n) && asc ltI ((ns.map PyData.int).map intOf)) = true
  rw [e1, e2, e3, h1]
  rfl
theorem pairs_ok {ks : List (List Int)} {n : Int} (h0 : ks ≠ []) (h1 : Zt.Asc ks) (h2 : ∀ k ∈ ks, ∃ a b, k = [a, b] ∧ 0 ≤ a ∧ a < n ∧ 0 ≤ b ∧ b < n) : isPairs n (.tuple (ks.map Zt.rowD)) = true := by
  have e1 : (ks.map Zt.rowD).map rowOf = ks := by
    rw [List.map_map]
    refine (List.map_congr_left fun k hk => ?_).trans (List.map_id _)
    show (k.map PyData.int).map intOf = k
    rw [List.map_map]
    exact List.map_id _
  have e2 : (ks.map Zt.rowD).all (isPair n) = true := List.all_eq_true.mpr fun d hd => by
    obtain ⟨k, hk, rfl⟩ := List.mem_map.mp hd
    obtain ⟨a, b, rfl, a0, a1, b0, b1⟩ := h2 k hk
    show ((decide (0 ≤ a) && decide (a < n)) && (decide (0 ≤ b) && decide (b < n))) = true
    rw [decide_eq_true a0, decide_eq_true b0, decide_eq_true (by omega), decide_eq_true (by omega)]
    rfl
  have e3 : (ks.map Zt.rowD).isEmpty = false := by
    cases ks with
    | nil => exact absurd rfl h0
    | cons a r => rfl
  have e4 : asc HT.lexLt ks = true := (asc_pw lex_tr ks).mpr (h1.imp fun {x y} h => by rw [lex_lx]; exact h)
  show (!(ks.map Zt.rowD).isEmpty && (ks.map Zt.rowD).all (isPair n) && asc HT.lexLt ((ks.map Zt.rowD).map rowOf)) = true
  rw [e1, e2, e3, e4]
  rfl
theorem num_ok {k : Nat} {p : Int} (h : (k : Int) < p) : isNum p (.int (k : Int)) = true := by
  show (decide (0 ≤ (k : Int)) && decide ((k : Int) < p)) = true
  rw [decide_eq_true (by omega), decide_eq_true h]
  rfl
theorem mv_call {w z : Str} {zs : List Str} {a b : Nat} {p n : Int} {ns : List Int} (hw : w = "call" ∨ w = "post") (ha : (a : Int) < p) (hb : (b : Int) < p) (hz : nameOf z = true) (hzs : z ∈ zs) (h0 : ns ≠ []) (l5 : ns.length ≤ 5) (h1 : asc ltI ns = true) (h2 : ∀ k ∈ ns, 0 ≤ k ∧ k < n) :
    Mv n zs p [.str w, .int a, .int b, .str z, .tuple (ns.map PyData.int)] := by
  refine ⟨?_, by simp [nameOk, hzs], by simp, by simp, fun es he => ?_, by have := nl_ints ns; simp [nl, nlAll] at this ⊢; exact this⟩
  · have e1 : PyData.eqv (.str w) (.str "leave") = false := by rcases hw with rfl | rfl <;> decide +kernel
    have e2 : PyData.eqv (.str w) (.str "go") = false := by rcases hw with rfl | rfl <;> decide +kernel
    have e3 : strIn (.str w) ["call", "post"] = true := by rcases hw with rfl | rfl <;> decide +kernel
    simp [isMove, num_ok ha, num_ok hb, e1, e2, e3, set_ok h0 h1 h2, nameD, hz]
  · simp at he
    subst he
    exact ⟨by simpa using h0, by simpa using l5⟩
theorem mv_leave {zs : List Str} {a : Nat} {p n : Int} {ns : List Int} (ha : (a : Int) < p) (h0 : ns ≠ []) (l5 : ns.length ≤ 5) (h1 : asc ltI ns = true) (h2 : ∀ k ∈ ns, 0 ≤ k ∧ k < n) : Mv n zs p [.str "leave", .int a, .tuple (ns.map PyData.int)] := by
  refine ⟨?_, ?_, by simp, by simp, fun es he => ?_, by have := nl_ints ns; simp [nl, nlAll] at this ⊢; exact this⟩
  rotate_left
  · have e3 : strIn (.str "leave") ["call", "post"] = false := by decide +kernel
    simp [nameOk, e3]
  rotate_left
  · have e1 : PyData.eqv (.str "leave") (.str "leave") = true := by decide +kernel
    simp [isMove, num_ok ha, e1, set_ok h0 h1 h2]
  · simp at he
    subst he
    exact ⟨by simpa using h0, by simpa using l5⟩
theorem mv_go {zs : List Str} {a b : Nat} {p n : Int} {ks : List (List Int)} (ha : (a : Int) < p) (hb : (b : Int) < p) (h0 : ks ≠ []) (l5 : ks.length ≤ 5) (h1 : Zt.Asc ks) (h2 : ∀ k ∈ ks, ∃ a b, k = [a, b] ∧ 0 ≤ a ∧ a < n ∧ 0 ≤ b ∧ b < n) : Mv n zs p [.str "go", .int a, .int b, .tuple (ks.map Zt.rowD)] := by
  refine ⟨?_, ?_, by simp, by simp, fun es he => ?_, by have := nl_rows ks; simp [nl, nlAll] at this ⊢; exact this⟩
  rotate_left
  · have e3 : strIn (.str "go") ["call", "post"] = false := by decide +kernel
    simp [nameOk, e3]
  rotate_left
  · have e1 : PyData.eqv (.str "go") (.str "leave") = false := by decide +kernel
    have e2 : PyData.eqv (.str "go") (.str "go") = true := by decide +kernel
    simp [isMove, num_ok ha, num_ok hb, e1, e2, pairs_ok h0 h1 h2]
  · simp at he
    subst he
    exact ⟨by simpa using h0, by simpa using l5⟩
theorem nodup_len : ∀ (xs ys : List (List Int)), xs.Nodup → (∀ x ∈ xs, x ∈ ys) → xs.length ≤ ys.length
  | [], _, _, _ => Nat.zero_le _
  | x :: xs, ys, nd, h => by
    obtain ⟨n1, n2⟩ := List.nodup_cons.mp nd
    have hx := h x List.mem_cons_self
    have := nodup_len xs (ys.erase x) n2 fun y hy => (List.mem_erase_of_ne (fun z => n1 (by rw [← z]; exact hy))).mpr (h y (List.mem_cons_of_mem _ hy))
    rw [List.length_erase_of_mem hx] at this
    have := List.length_pos_of_mem hx
    rw [List.length_cons]
    omega
theorem die_tup {H : Hp} {d p : Addr} {xs : List V} (h : DieAt H d) (hp : H p = some (.tup xs)) : p ∉ [d] := fun z => h.ne hp (fun _ _ _ z => by cases z) (List.mem_singleton.mp z)
theorem vd_ints {H : Hp} {d p : Addr} {ns : List Int} (h : DieAt H d) (hp : H p = some (.tup (ns.map V.int))) (l : ns.length ≤ 60) : Vd [d] H (.ref p) (.tuple (ns.map PyData.int)) := Vd.tup (die_tup h hp) hp (VdAll.ints ns) (by rw [List.length_map]; exact l)
theorem vd_rows {H : Hp} {d : Addr} (h : DieAt H d) : ∀ {ps : List (Addr × List Int)}, (∀ q ∈ ps, H q.1 = some (.tup (q.2.map V.int)) ∧ q.2.length ≤ 60) → VdAll [d] H (Zt.refs ps) ((Zt.keys ps).map Zt.rowD)
  | [], _ => .nil
  | q :: ps, hq => .cons (vd_ints h (hq q List.mem_cons_self).1 (hq q List.mem_cons_self).2) (vd_rows h fun r hr => hq r (List.mem_cons_of_mem _ hr))
section
variable {P : Program} {w : World} {K : PySem.W.Frag} {mg : Str → Option Value} {base : Heap}
theorem ok_a_move {f f__law_cast f__law_pick f__law_subset : Addr} {fd fd__law_cast fd__law_pick fd__law_subset : FuncData} (F : Fun K "_law_a_move" "_law_a_move" s_law_a_move f fd) (G__law_cast : FnOk P w K mg base CX0 1 f__law_cast fd__law_cast ["die", "total"] spCast) (F__law_cast : Fun K "_law_cast" "_law_cast" s_law_cast f__law_cast fd__law_cast) (b__law_cast : Binds K fd__law_cast ["die", "total"] []) (g__law_cast : mg "_law_cast" = some (.ref f__law_cast))(G__law_pick : FnOk P w K mg base CX0 2 f__law_pick fd__law_pick ["die", "items"] (spPick K)) (F__law_pick : Fun K "_law_pick" "_law_pick" s_law_pick f__law_pick fd__law_pick) (b__law_pick : Binds K fd__law_pick ["die", "items"] []) (g__law_pick : mg "_law_pick" = some (.ref f__law_pick))(G__law_subset : FnOk P w K mg base CX0 2 f__law_subset fd__law_subset ["die", "total"] spSubset) (F__law_subset : Fun K "_law_subset" "_law_subset" s_law_subset f__law_subset fd__law_subset) (b__law_subset : Binds K fd__law_subset ["die", "total"] []) (g__law_subset : mg "_law_subset" = some (.ref f__law_subset)) (m_set : mg "set" = none) (m_sorted : mg "sorted" = none) (m_tuple : mg "tuple" = none) (m_range : mg "range" = none) :
    FnOk P w K mg base CX0 3 f fd ["die", "total", "points", "names"] spAMove := by
  refine F.ok sc_law_a_move (fun vs H Q E h => ?_) (fun cdv A outer s H vs Q E hr h => ?_)
  · obtain ⟨d, l, total, points, zs, rfl, _⟩ := h
    rfl
  · obtain ⟨d, l, total, points, zs, rfl, hD, t1, t5, p1, p6, ld, hl, zne, z60, zok, q⟩ := h
    refine ⟨_, (pss_cons (ps_par (i := 4) (j := 5) rfl sc_law_a_move.nd rfl rfl (by decide) rfl rfl (pa_cons (pe_call G__law_pick (hr.mono (by decide)) (by rfl) g__law_pick F__law_pick.kp b__law_pick .nil pass0 (pa_cons (pv 0) (pa_cons (pe_lst (pa_cons pe_int (pa_cons (pe_call G__law_cast (hr.mono (by decide)) (by rfl) g__law_cast F__law_cast.kp b__law_cast .nil pass0 (pa_cons (pv 0) (pa_cons (pv 2) pa_nil))) pa_nil))) pa_nil))) (pa_cons (pe_call G__law_cast (hr.mono (by decide)) (by rfl) g__law_cast F__law_cast.kp b__law_cast .nil pass0 (pa_cons (pv 0) (pa_cons (pv 2) pa_nil))) pa_nil)) rfl)
      (pss_cons (ps_par (i := 6) (j := 7) rfl sc_law_a_move.nd rfl rfl (by decide) rfl rfl (pa_cons (pe_call G__law_cast (hr.mono (by decide)) (by rfl) g__law_cast F__law_cast.kp b__law_cast .nil pass0 (pa_cons (pv 0) (pa_cons pe_int pa_nil))) (pa_cons (pe_call G__law_subset (hr.mono (by decide)) (by rfl) g__law_subset F__law_subset.kp b__law_subset .nil pass0 (pa_cons (pv 0) (pa_cons (pv 1) pa_nil))) pa_nil)) rfl)
      (pss_cons (ps_if (pt_cmpR op_lt (pv 6) pe_int (nomark _))
        (pss_one (ps_ret (pe_tup (pa_cons (pe_call G__law_pick (hr.mono (by decide)) (by rfl) g__law_pick F__law_pick.kp b__law_pick .nil pass0 (pa_cons (pv 0) (pa_cons (pe_lst (pa_cons pe_str (pa_cons pe_str (pa_cons pe_str pa_nil)))) pa_nil))) (pa_cons (pv 4) (pa_cons (pv 5) (pa_cons (pe_call G__law_pick (hr.mono (by decide)) (by rfl) g__law_pick F__law_pick.kp b__law_pick .nil pass0 (pa_cons (pv 0) (pa_cons (pv 3) pa_nil))) (pa_cons (pv 7) pa_nil))))))))
        pss_nil)
      (pss_cons (ps_if (pt_cmpR op_lt (pv 6) pe_int (nomark _))
        (pss_one (ps_ret (pe_tup (pa_cons pe_str (pa_cons (pv 4) (pa_cons (pv 7) pa_nil))))))
        pss_nil)
      (pss_cons (ps_set (i := 8) sc_law_a_move.nd rfl (by first | exact Or.inl rfl | exact Or.inr rfl) (pe_lst pa_nil))
      (pss_cons (ps_for PassesOwn.never rfl (pi_range1 rfl m_range (pa_cons (pe_op op_add pe_int (pe_call G__law_cast (hr.mono (by decide)) (by rfl) g__law_cast F__law_cast.kp b__law_cast .nil pass0 (pa_cons (pv 0) (pa_cons pe_int pa_nil)))) pa_nil)) (pg_name (i := 9) sc_law_a_move.nd rfl (by first | exact Or.inl rfl | exact Or.inr rfl))
        (pss_one (ps_expr (pe_bm PySem.F.plainAttrs_list PySem.F.slot_list_append PySem.F.type_list_append mt_append (pv 8) (pa_cons (pe_tup (pa_cons (pe_call G__law_cast (hr.mono (by decide)) (by rfl) g__law_cast F__law_cast.kp b__law_cast .nil pass0 (pa_cons (pv 0) (pa_cons (pv 1) pa_nil))) (pa_cons (pe_call G__law_cast (hr.mono (by decide)) (by rfl) g__law_cast F__law_cast.kp b__law_cast .nil pass0 (pa_cons (pv 0) (pa_cons (pv 1) pa_nil))) pa_nil))) pa_nil)))))
      (pss_one (ps_ret (pe_tup (pa_cons pe_str (pa_cons (pv 4) (pa_cons (pv 5) (pa_cons (pe_callTy call_tuple_of (by rfl) m_tuple (by decide +kernel) (pa_cons (pe_callB (id := "sorted") (r := Zt.rSrtS K P w) (Zt.cr_srtS rfl) (by rfl) m_sorted (by decide +kernel) (pa_cons (pe_callTy (T := "set") (r := rSetOfT K P w) (cr_setOfT rfl hr.units) (by rfl) m_set (by decide +kernel) (pa_cons (pv 8) pa_nil)) pa_nil)) pa_nil)) pa_nil))))))))))))), ?_⟩
    refine ⟨_, rfl, _, rfl, _, rfl, d, points, rfl, hD, by omega, by omega, fun r1 H1 hr1 N1 => ⟨len_ok, fun L1 nL1 => ⟨d, N1.die.new nL1, .inl ⟨L1, _, rfl, N1.die.free nL1, .inl (.inl (.inl upd_same)), List.cons_ne_nil _ _, (by show (2 : Nat) < 1073741824; decide), fun j v H2 hj N2 => ?_⟩⟩⟩⟩
    obtain ⟨k1, rfl, hk1⟩ : ∃ k : Nat, v = .int k ∧ (k : Int) < points := by
      match j, hj with
      | 0, hj =>
        cases hj
        exact ⟨0, rfl, by show (0 : Int) < points; omega⟩
      | 1, hj =>
        cases hj
        exact ⟨r1, rfl, hr1⟩
    have b2 : But d H H2 := (N1.but.new nL1).trans N2.but
    refine ⟨_, rfl, _, rfl, d, points, rfl, N2.die, by omega, by omega, fun r2 H3 hr2 N3 => ?_⟩
    refine ⟨_, _, rfl, _, rfl, d, 10, rfl, N3.die, by decide, by decide, fun way H4 hw N4 => ⟨_, rfl, _, rfl, d, total, rfl, N4.die, t1, t5, fun p ns H5 b5' d5 hp ne l5 as mem => ?_⟩⟩
    have b5 : But d H H5 := ((b2.trans N3.but).trans N4.but).trans b5'
    refine ⟨_, _, rfl, ?_⟩
    have hl5 := b5 _ _ ld hl
    refine ⟨_, rfl, _, 5, rfl, rfl, _, rfl, ite2 (fun _ => ?_) (fun _ => ?_)⟩
    · refine ⟨_, rfl, len_ok, fun L2 nL2 => ⟨d, d5.new nL2, .inl ⟨L2, _, rfl, d5.free nL2, .inl (.inl (.inl upd_same)), List.cons_ne_nil _ _, (by show (3 : Nat) < 1073741824; decide), fun j v H6 hj N6 => ?_⟩⟩⟩
      obtain ⟨wd, rfl, hwd⟩ : ∃ wd : Str, v = .str wd ∧ (wd = "call" ∨ wd = "post") := by
        match j, hj with
        | 0, hj =>
          cases hj
          exact ⟨_, rfl, .inl rfl⟩
        | 1, hj =>
          cases hj
          exact ⟨_, rfl, .inr rfl⟩
        | 2, hj =>
          cases hj
          exact ⟨_, rfl, .inr rfl⟩
      have b6 : But d H5 H6 := ((But.refl d H5).new nL2).trans N6.but
      refine ⟨_, rfl, _, rfl, _, rfl, _, rfl, d, N6.die, .inl ⟨l, _, rfl, ld, .inl (.inl (.inl (b6 _ _ ld hl5))), (by simpa using zne), by rw [List.length_map]; omega, fun j v H7 hj N7 => ?_⟩⟩
      rw [List.getElem?_map] at hj
      cases ez : zs[j]? with
      | none =>
        rw [ez] at hj
        cases hj
      | some z =>
        rw [ez] at hj
        cases hj
        have hz := zok z (List.mem_of_getElem? ez)
        refine ⟨_, rfl, len_ok, fun t nt => ?_⟩
        have b7 := b6.trans N7.but
        have d8 := N7.die.new nt (o := .tup [.str wd, .int k1, .int r2, .str z, .ref p])
        have hp8 : upd H7 t (.tup [.str wd, .int k1, .int r2, .str z, .ref p]) p = some (.tup (ns.map V.int)) := upd_keep (b7 _ _ (fun z => die_tup d5 hp (List.mem_singleton.mpr z)) hp) nt
        refine q t _ _ ((b5.trans b7).new nt) d8 (Vd.tup (die_tup d8 upd_same) upd_same (.cons (.str (by rcases hwd with rfl | rfl <;> decide +kernel)) (.cons (.int _) (.cons (.int _) (.cons (.str hz.2) (.cons (vd_ints d8 hp8 (by omega)) .nil))))) (by simp)) (mv_call hwd hk1 hr2 hz.1 (List.mem_of_getElem? ez) ne l5 as mem)
    · refine ⟨_, rfl, _, 8, rfl, rfl, _, rfl, ite2 (fun _ => ?_) (fun _ => ?_)⟩
      · refine ⟨_, rfl, _, rfl, len_ok, fun t nt => ?_⟩
        have d8 := d5.new nt (o := .tup [.str "leave", .int k1, .ref p])
        exact q t _ _ (b5.new nt) d8 (Vd.tup (die_tup d8 upd_same) upd_same (.cons (.str (by decide +kernel)) (.cons (.int _) (.cons (vd_ints d8 (upd_keep hp nt) (by omega)) .nil))) (by simp)) (mv_leave hk1 ne l5 as mem)
      · refine ⟨len_ok, fun B nB => ?_⟩
        have nBd := d5.free nB
        refine ⟨_, rfl, d, 3, rfl, d5.new nB, by decide, by decide, fun r3 H6 hr3 N6 => ⟨1, _, rfl, rfl, _, rfl, by omega, by omega, ?_⟩⟩
        have en : (1 + (r3 : Int)).toNat = r3 + 1 := by omega
        rw [en]
        refine for_range (lo := 0) (n := r3 + 1) (fun k σ H7 => (∃ y8, σ = [some (.ref d), some (.int total), some (.int points), some (.ref l), some (.int k1), some (.int r2), some (.int way), some (.ref p), some (.ref B), y8]) ∧ But d H5 H7 ∧ DieAt H7 d ∧ ∃ ps : List (Addr × List Int), H7 B = some (.lst (Zt.refs ps)) ∧ ps.length = k ∧ ∀ q ∈ ps, H7 q.1 = some (.tup (q.2.map V.int)) ∧ ∃ a b, q.2 = [a, b] ∧ 0 ≤ a ∧ a < total ∧ 0 ≤ b ∧ b < total)
          ⟨⟨_, rfl⟩, ((But.refl d H5).new nB).trans N6.but, N6.die, [], (N6.ne nBd).trans upd_same, rfl, fun q hq => nomatch hq⟩ (fun k σ H7 hk hp7 => ?_) (fun σ H7 hp7 => ?_)
        · obtain ⟨⟨y8, rfl⟩, b7, d7, ps, hB, lp, hps⟩ := hp7
          refine ⟨_, rfl, .inl ⟨rfl, _, .inl (.inl hB)⟩, _, rfl, _, rfl, d, total, rfl, d7, by omega, by omega, fun x1 H8 hx1 N8 => ⟨_, rfl, _, rfl, d, total, rfl, N8.die, by omega, by omega, fun x2 H9 hx2 N9 => ⟨len_ok, fun T nT => ?_⟩⟩⟩
          have b9 := N8.but.trans N9.but
          have TB : T ≠ B := fun z => by
            rw [z, b9 _ _ nBd hB] at nT
            cases nT
          refine ⟨B, _, _, rfl, rfl, upd_keep (b9 _ _ nBd hB) nT, ?_, ⟨_, rfl⟩, ?_, ?_, ps ++ [(T, [(x1 : Int), (x2 : Int)])], ?_, ?_, fun q0 hq => ?_⟩
          · unfold Zt.refs
            rw [List.length_map, lp]
            exact small1000 (by omega)
          · exact ((b7.trans b9).new nT).put nB
          · exact (N9.die.new nT).put nBd
          · rw [upd_same]
            unfold Zt.refs
            rw [List.map_append]
            rfl
          · rw [List.length_append, lp]
            rfl
          · have qB : ∀ q ∈ ps, q.1 ≠ B := fun q hq z => by
              have := (hps q hq).1
              rw [z, hB] at this
              cases this
            rcases List.mem_append.mp hq with hq | hq
            · obtain ⟨h1, h2⟩ := hps q0 hq
              refine ⟨(upd_ne (qB q0 hq)).trans (upd_keep (b9 _ _ (fun z => die_tup d7 h1 (List.mem_singleton.mpr z)) h1) nT), h2⟩
            · rw [List.mem_singleton.mp hq]
              exact ⟨(upd_ne TB).trans upd_same, x1, x2, rfl, by omega, hx1, by omega, hx2⟩
        · obtain ⟨⟨y8, rfl⟩, b7, d7, ps, hB, lp, hps⟩ := hp7
          refine ⟨_, rfl, _, rfl, _, rfl, B, ps, rfl, .inl (.inl hB), fun q hq => .inl (.inl (hps q hq).1), by omega, fun S Lr nS sub cov => ?_⟩
          have nSd := d7.free nS
          refine ⟨S, Lr, rfl, upd_same, fun q hq => .inl (.inl (upd_keep (hps q (sub q hq)).1 nS)), fun q hq => ?_, fun L' l2 pm aS lS nl2 => ?_⟩
          · obtain ⟨_, a, b, e, _⟩ := hps q (sub q hq)
            rw [e]
            exact List.cons_ne_nil _ _
          · have hin : ∀ q ∈ L', q ∈ ps := fun q hq => sub q (pm.mem_iff.mp hq)
            refine ⟨l2, _, rfl, .inl ⟨.inl (.inl upd_same), fun u nu => ⟨len_ok, fun t nt => ?_⟩⟩⟩
            have d8 := (((d7.new nS (o := SetTO P w S Lr)).new nl2 (o := .lst (L'.map fun q => V.ref q.1))).new nu (o := .tup (L'.map fun q => V.ref q.1))).new nt (o := .tup [.str "go", .int k1, .int r2, .ref u])
            have hq8 : ∀ q ∈ L', upd (upd (upd (upd H7 S (SetTO P w S Lr)) l2 (.lst (L'.map fun q => V.ref q.1))) u (.tup (L'.map fun q => V.ref q.1))) t (.tup [.str "go", .int k1, .int r2, .ref u]) q.1 = some (.tup (q.2.map V.int)) := fun q hq => upd_keep (upd_keep (upd_keep (upd_keep (hps q (hin q hq)).1 nS) nl2) nu) nt
            have ll : L'.length ≤ 5 := by
              have e2 : (Zt.keys L').length ≤ 5 := by
                have := nodup_len (Zt.keys L') (Zt.keys ps) (Zt.Asc.nd aS) fun k hk => by
                  obtain ⟨q0, hq0, rfl⟩ := List.mem_map.mp hk
                  exact List.mem_map.mpr ⟨q0, hin q0 hq0, rfl⟩
                have e3 : (Zt.keys ps).length = ps.length := List.length_map _
                omega
              unfold Zt.keys at e2
              rw [List.length_map] at e2
              exact e2
            refine q t _ _ ((((b5.trans b7).new nS).new nl2 |>.new nu).new nt) d8 (Vd.tup (die_tup d8 upd_same) upd_same (.cons (.str (by decide +kernel)) (.cons (.int _) (.cons (.int _) (.cons (Vd.tup (es := (Zt.keys L').map Zt.rowD) (die_tup d8 (upd_keep upd_same nt)) (upd_keep upd_same nt) (vd_rows d8 fun q hq => ⟨hq8 q hq, ?_⟩) ?_) .nil)))) (by simp)) (mv_go hk1 hr2 ?_ ?_ aS (fun k hk => ?_))
            · obtain ⟨_, a, b, e, _⟩ := hps q (hin q hq)
              rw [e]
              simp
            · unfold Zt.keys
              rw [List.length_map, List.length_map]
              omega
            · intro z
              have : ps ≠ [] := fun z => by
                rw [z] at lp
                cases lp
              cases ps with
              | nil => exact this rfl
              | cons q0 r =>
                obtain ⟨x, hx, _⟩ := List.mem_map.mp (cov q0 List.mem_cons_self)
                have hx2 : x.2 ∈ Zt.keys L' := List.mem_map.mpr ⟨x, pm.mem_iff.mpr hx, rfl⟩
                rw [z] at hx2
                cases hx2
            · unfold Zt.keys
              rw [List.length_map]
              exact ll
            · obtain ⟨q0, hq0, rfl⟩ := List.mem_map.mp hk
              obtain ⟨_, a, b, e, r⟩ := hps q0 (hin q0 hq0)
              exact ⟨a, b, e, r⟩
end
end My

namespace My
open PySem PySem.Spec PyProof.Rows L2 Sh Dt
abbrev Row : Type := Str × Int × List PyData
def rowDa (r : Row) : PyData := .list [.str r.1, .int r.2.1, .tuple r.2.2]
structure RowOk (n : Int) (zs : List Str) (r : Row) : Prop where
  nm : Nm r.1
  p1 : 1 ≤ r.2.1
  p3 : r.2.1 ≤ 3
  lo : 2 ≤ r.2.2.length
  hi : r.2.2.length ≤ 5
  mv : ∀ m ∈ r.2.2, ∃ ds, m = .tuple ds ∧ Mv n zs r.2.1 ds
structure Plain (tot : Int) (ns gs : List Int) (rows : List Row) : Prop where
  t1 : 1 ≤ tot
  t3 : tot ≤ 3
  s0 : ns ≠ []
  s5 : ns.length ≤ 5
  sa : asc ltI ns = true
  sn : ∀ k ∈ ns, 0 ≤ k ∧ k < tot
  gl : gs.length = rows.length
  g2 : ∀ g ∈ gs, 0 ≤ g ∧ g ≤ 2
  r0 : rows ≠ []
  r3 : rows.length ≤ 3
  nd : (rows.map (·.1)).Nodup
  ok : ∀ r ∈ rows, RowOk tot (rows.map (·.1)) r
  nq : ∀ z ∈ rows.map (·.1), z ∈ (["main", "p", "q"] : List Str)
def plainD (tot : Int) (ns gs : List Int) (rows : List Row) : PyData := .list [.int tot, .tuple (ns.map PyData.int), .tuple (gs.map PyData.int), .list (rows.map rowDa)]
def Band (S : List Addr) (H : Hp) (b : V) (r : Row) : Prop := ∃ B t, b = .ref B ∧ B ∉ S ∧ H B = some (.lst [.str r.1, .int r.2.1, .ref t]) ∧ Vd S H (.ref t) (.tuple r.2.2)
theorem Band.mono {S S' : List Addr} {H H' : Hp} {b : V} {r : Row} (h : Band S H b r) (s : Same (hide S H) (hide S' H')) : Band S' H' b r := by
  obtain ⟨B, t, rfl, n, e, v⟩ := h
  obtain ⟨n', e'⟩ := hide_in (s _ _ (hide_some n e))
  exact ⟨B, t, rfl, n', e', v.mono s⟩
inductive Bands (S : List Addr) (H : Hp) : List V → List Row → Prop
  | nil : Bands S H [] []
  | cons {b : V} {r : Row} {bs : List V} {rs : List Row} : Band S H b r → Bands S H bs rs → Bands S H (b :: bs) (r :: rs)
theorem Bands.mono {S S' : List Addr} {H H' : Hp} {bs : List V} {rs : List Row} (h : Bands S H bs rs) (s : Same (hide S H) (hide S' H')) : Bands S' H' bs rs := by
  induction h with
  | nil => exact .nil
  | cons a _ ih => exact .cons (a.mono s) ih
theorem Bands.snoc {S : List Addr} {H : Hp} {bs : List V} {rs : List Row} {b : V} {r : Row} (h : Bands S H bs rs) (g : Band S H b r) : Bands S H (bs ++ [b]) (rs ++ [r]) := by
  induction h with
  | nil => exact .cons g .nil
  | cons a _ ih => exact .cons a ih
theorem Bands.len {S : List Addr} {H : Hp} {bs : List V} {rs : List Row} (h : Bands S H bs rs) : bs.length = rs.length := by
  induction h with
  | nil => rfl
  | cons _ _ ih => rw [List.length_cons, List.length_cons, ih]
theorem Band.vd {S : List Addr} {H : Hp} {b : V} {r : Row} (h : Band S H b r) (n : Nm r.1) : Vd S H b (rowDa r) := by
  obtain ⟨B, t, rfl, m, e, v⟩ := h
  exact Vd.lst m e (.cons (.str n.2) (.cons (.int _) (.cons v .nil))) (by simp)
theorem Bands.vd {S : List Addr} {H : Hp} {bs : List V} {rs : List Row} (h : Bands S H bs rs) (n : ∀ r ∈ rs, Nm r.1) : VdAll S H bs (rs.map rowDa) := by
  induction h with
  | nil => exact .nil
  | cons a _ ih => exact .cons (a.vd (n _ List.mem_cons_self)) (ih fun r hr => n r (List.mem_cons_of_mem _ hr))
def spAnyPlain : Sp := fun vs H Q _ => ∃ d, vs = [.ref d] ∧ DieAt H d ∧ ∀ v tot ns gs rows H', But d H H' → DieAt H' d → Vd [d] H' v (plainD tot ns gs rows) → Plain tot ns gs rows → Q v H'
theorem pick4 {a b c e : Int} {j : Nat} {v : V} (h : [V.int a, V.int b, V.int c, V.int e][j]? = some v) : ∃ k, v = .int k ∧ (k = a ∨ k = b ∨ k = c ∨ k = e) := by
  match j, h with
  | 0, h => cases h; exact ⟨_, rfl, .inl rfl⟩
  | 1, h => cases h; exact ⟨_, rfl, .inr (.inl rfl)⟩
  | 2, h => cases h; exact ⟨_, rfl, .inr (.inr (.inl rfl))⟩
  | 3, h => cases h; exact ⟨_, rfl, .inr (.inr (.inr rfl))⟩
theorem nm3 : ∀ z ∈ (["main", "p", "q"] : List Str), Nm z := by
  intro z hz
  simp at hz
  rcases hz with rfl | rfl | rfl <;> exact ⟨by decide +kernel, by decide +kernel⟩
theorem cut_take {ws : List Str} {k : Int} (hw : ws.length = 3) (hk : 1 ≤ k ∧ k ≤ 3) (hn : ws.Nodup) : ∃ us : List Str, cutV (ws.map V.str) none (some k) = us.map V.str ∧ us ≠ [] ∧ us.length ≤ 3 ∧ us.Nodup ∧ ∀ z ∈ us, z ∈ ws := by
  have ht : cutV (ws.map V.str) none (some k) = (ws.take k.toNat).map V.str := by
    have e1 : HT.sIx (ws.map V.str).length 0 none = 0 := rfl
    have e2 : HT.sIx (ws.map V.str).length (ws.map V.str).length (some k) = k.toNat := by
      show (if k < 0 then _ else min k.toNat (ws.map V.str).length) = _
      rw [if_neg (by omega), List.length_map, hw]
      omega
    unfold cutV
    rw [e1, e2, List.drop_zero, Nat.sub_zero, List.map_take]
  refine ⟨ws.take k.toNat, ht, fun z => ?_, ?_, hn.sublist (List.take_sublist _ _), fun z hz => List.mem_of_mem_take hz⟩
  · have := congrArg List.length z
    rw [List.length_take, hw] at this
    simp at this
    omega
  · rw [List.length_take]
    omega
section
variable {P : Program} {w : World} {K : PySem.W.Frag} {mg : Str → Option Value} {base : Heap}
theorem ok_any_plain {f f__law_cast f__law_pick f__law_subset f__law_shuffle f__law_a_move : Addr} {fd fd__law_cast fd__law_pick fd__law_subset fd__law_shuffle fd__law_a_move : FuncData} (F : Fun K "_law_any_plain" "_law_any_plain" s_law_any_plain f fd) (G__law_cast : FnOk P w K mg base CX0 1 f__law_cast fd__law_cast ["die", "total"] spCast) (F__law_cast : Fun K "_law_cast" "_law_cast" s_law_cast f__law_cast fd__law_cast) (b__law_cast : Binds K fd__law_cast ["die", "total"] []) (g__law_cast : mg "_law_cast" = some (.ref f__law_cast))(G__law_pick : FnOk P w K mg base CX0 2 f__law_pick fd__law_pick ["die", "items"] (spPick K)) (F__law_pick : Fun K "_law_pick" "_law_pick" s_law_pick f__law_pick fd__law_pick) (b__law_pick : Binds K fd__law_pick ["die", "items"] []) (g__law_pick : mg "_law_pick" = some (.ref f__law_pick))(G__law_subset : FnOk P w K mg base CX0 2 f__law_subset fd__law_subset ["die", "total"] spSubset) (F__law_subset : Fun K "_law_subset" "_law_subset" s_law_subset f__law_subset fd__law_subset) (b__law_subset : Binds K fd__law_subset ["die", "total"] []) (g__law_subset : mg "_law_subset" = some (.ref f__law_subset))(G__law_shuffle : FnOk P w K mg base CX0 2 f__law_shuffle fd__law_shuffle ["die", "items"] spShuffle) (F__law_shuffle : Fun K "_law_shuffle" "_law_shuffle" s_law_shuffle f__law_shuffle fd__law_shuffle) (b__law_shuffle : Binds K fd__law_shuffle ["die", "items"] []) (g__law_shuffle : mg "_law_shuffle" = some (.ref f__law_shuffle))(G__law_a_move : FnOk P w K mg base CX0 3 f__law_a_move fd__law_a_move ["die", "total", "points", "names"] spAMove) (F__law_a_move : Fun K "_law_a_move" "_law_a_move" s_law_a_move f__law_a_move fd__law_a_move) (b__law_a_move : Binds K fd__law_a_move ["die", "total", "points", "names"] []) (g__law_a_move : mg "_law_a_move" = some (.ref f__law_a_move)) (m_tuple : mg "tuple" = none) (m_range : mg "range" = none) :
    FnOk P w K mg base CX0 4 f fd ["die"] spAnyPlain := by
  refine F.ok sc_law_any_plain (fun vs H Q E h => ?_) (fun cdv A outer s H vs Q E hr h => ?_)
  · obtain ⟨d, rfl, _⟩ := h
    rfl
  · obtain ⟨d, rfl, hD, q⟩ := h
    refine ⟨_, (pss_cons (ps_par (i := 1) (j := 2) rfl sc_law_any_plain.nd rfl rfl (by decide) rfl rfl (pa_cons (pe_call G__law_pick (hr.mono (by decide)) (by rfl) g__law_pick F__law_pick.kp b__law_pick .nil pass0 (pa_cons (pv 0) (pa_cons (pe_lst (pa_cons pe_int (pa_cons pe_int (pa_cons pe_int (pa_cons pe_int pa_nil))))) pa_nil))) (pa_cons (pe_lst pa_nil) pa_nil)) rfl)
      (pss_cons (ps_set (i := 3) sc_law_any_plain.nd rfl (by first | exact Or.inl rfl | exact Or.inr rfl) (pe_slice sl_list (pe_call G__law_shuffle (hr.mono (by decide)) (by rfl) g__law_shuffle F__law_shuffle.kp b__law_shuffle .nil pass0 (pa_cons (pv 0) (pa_cons (pe_lst (pa_cons pe_str (pa_cons pe_str (pa_cons pe_str pa_nil)))) pa_nil))) po_none (po_some (pe_call G__law_pick (hr.mono (by decide)) (by rfl) g__law_pick F__law_pick.kp b__law_pick .nil pass0 (pa_cons (pv 0) (pa_cons (pe_lst (pa_cons pe_int (pa_cons pe_int (pa_cons pe_int (pa_cons pe_int pa_nil))))) pa_nil))))))
      (pss_cons (ps_for PassesOwn.never rfl (pi_list (pv 3)) (pg_name (i := 4) sc_law_any_plain.nd rfl (by first | exact Or.inl rfl | exact Or.inr rfl))
        (pss_cons (ps_par (i := 5) (j := 6) rfl sc_law_any_plain.nd rfl rfl (by decide) rfl rfl (pa_cons (pe_call G__law_pick (hr.mono (by decide)) (by rfl) g__law_pick F__law_pick.kp b__law_pick .nil pass0 (pa_cons (pv 0) (pa_cons (pe_lst (pa_cons pe_int (pa_cons pe_int (pa_cons pe_int (pa_cons pe_int pa_nil))))) pa_nil))) (pa_cons (pe_lst pa_nil) pa_nil)) rfl)
        (pss_cons (ps_for PassesOwn.never rfl (pi_range1 rfl m_range (pa_cons (pe_op op_add pe_int (pe_call G__law_cast (hr.mono (by decide)) (by rfl) g__law_cast F__law_cast.kp b__law_cast .nil pass0 (pa_cons (pv 0) (pa_cons pe_int pa_nil)))) pa_nil)) (pg_name (i := 7) sc_law_any_plain.nd rfl (by first | exact Or.inl rfl | exact Or.inr rfl))
          (pss_one (ps_expr (pe_bm PySem.F.plainAttrs_list PySem.F.slot_list_append PySem.F.type_list_append mt_append (pv 6) (pa_cons (pe_call G__law_a_move (hr.mono (by decide)) (by rfl) g__law_a_move F__law_a_move.kp b__law_a_move .nil pass0 (pa_cons (pv 0) (pa_cons (pv 1) (pa_cons (pv 5) (pa_cons (pv 3) pa_nil))))) pa_nil)))))
        (pss_one (ps_expr (pe_bm PySem.F.plainAttrs_list PySem.F.slot_list_append PySem.F.type_list_append mt_append (pv 2) (pa_cons (pe_lst (pa_cons (pv 4) (pa_cons (pv 5) (pa_cons (pe_callTy call_tuple_of (by rfl) m_tuple (by decide +kernel) (pa_cons (pv 6) pa_nil)) pa_nil)))) pa_nil)))))))
      (pss_cons (ps_set (i := 8) sc_law_any_plain.nd rfl (by first | exact Or.inl rfl | exact Or.inr rfl) (pe_callTy call_tuple_of (by rfl) m_tuple (by decide +kernel) (pa_cons (pe_lc (own := [("name", 4)]) (g := (gName 4)) (tt := tYes) rfl sc_law_any_plain.nd (pi_list (pv 3)) (blkOk_by (N := Nlaw_any_plain) (sc := defScope s_law_any_plain) (by decide +kernel))
      (fun _ _ _ _ _ => (pg_name (i := 4) sc_law_any_plain.nd rfl (Or.inl rfl))) (fun _ _ _ _ _ => pts_nil) (fun _ _ _ _ _ => (pe_call G__law_pick (hr.mono (by decide)) (by rfl) g__law_pick F__law_pick.kp b__law_pick .nil pass0 (pa_cons (pv 0) (pa_cons (pe_lst (pa_cons pe_int (pa_cons pe_int (pa_cons pe_int (pa_cons pe_int pa_nil))))) pa_nil))))) pa_nil)))
      (pss_one (ps_ret (pe_lst (pa_cons (pv 1) (pa_cons (pe_call G__law_subset (hr.mono (by decide)) (by rfl) g__law_subset F__law_subset.kp b__law_subset .nil pass0 (pa_cons (pv 0) (pa_cons (pv 1) pa_nil))) (pa_cons (pv 8) (pa_cons (pv 2) pa_nil))))))))))), ?_⟩
    refine ⟨_, rfl, len_ok, fun L0 nL0 => ⟨d, hD.new nL0, .inl ⟨L0, _, rfl, hD.free nL0, .inl (.inl (.inl upd_same)), List.cons_ne_nil _ _, (by show (4 : Nat) < 1073741824; decide), fun j v H1 hj N1 => ⟨len_ok, fun C nC => ⟨_, _, rfl, ?_⟩⟩⟩⟩⟩
    obtain ⟨tot, rfl, htot⟩ := pick4 hj
    clear hj
    have b1 : But d H H1 := ((But.refl d H).new nL0).trans N1.but
    have nCd := N1.die.free nC
    have b2 := b1.new nC (o := .lst [])
    have d2 := N1.die.new nC (o := .lst [])
    have hC2 : upd H1 C (.lst []) C = some (.lst []) := upd_same
    show tSeq _ _ _ [_, some (.int tot), some (.ref C), _, _, _, _, _, _] (upd H1 C (.lst []))
    generalize upd H1 C (.lst []) = H2 at b2 d2 hC2
    refine ⟨_, rfl, len_ok, fun L2 nL2 => ⟨d, L2, (["main", "p", "q"] : List Str), rfl, d2.new nL2, d2.free nL2, upd_same, by decide, by decide, fun p ws H3 b3 d3 np hp lw mem pm => ?_⟩⟩
    have b23 : But d H2 H3 := ((But.refl d H2).new nL2).trans b3
    have pd : p ≠ d := DieAt.free (d2.new nL2) np
    refine ⟨_, rfl, len_ok, fun L4 nL4 => ⟨d, d3.new nL4, .inl ⟨L4, _, rfl, d3.free nL4, .inl (.inl (.inl upd_same)), List.cons_ne_nil _ _, (by show (4 : Nat) < 1073741824; decide), fun j v H5 hj N5 => ?_⟩⟩⟩
    obtain ⟨cut, rfl, hcut⟩ := pick4 hj
    clear hj
    have b35 : But d H3 H5 := ((But.refl d H3).new nL4).trans N5.but
    have wn : ws.Nodup := pm.nodup_iff.mpr (by decide)
    obtain ⟨us, ec, une, ul, und, umem⟩ := cut_take (k := cut) lw (by rcases hcut with rfl | rfl | rfl | rfl <;> decide) wn
    refine ⟨cut, rfl, p, _, rfl, .inl (.inl (b35 _ _ pd hp)), fun N nN => ?_⟩
    rw [ec]
    have d6 := N5.die.new nN (o := .lst (us.map V.str))
    have Nd := N5.die.free nN
    have b26 : But d H2 (upd H5 N (.lst (us.map V.str))) := (b23.trans b35).new nN
    have hN6 : upd H5 N (.lst (us.map V.str)) N = some (.lst (us.map V.str)) := upd_same
    have NC : N ≠ C := fun z => by
      rw [z, (b23.trans b35) _ _ nCd hC2] at nN
      cases nN
    show tSeq _ _ _ [_, some (.int tot), some (.ref C), some (.ref N), _, _, _, _, _] (upd H5 N (.lst (us.map V.str)))
    generalize upd H5 N (.lst (us.map V.str)) = H6 at d6 b26 hN6
    have hC6 := b26 _ _ nCd hC2
    have zok : ∀ z ∈ us, Nm z := fun z hz => nm3 z (mem z (umem z hz))
    have t15 : 1 ≤ tot ∧ tot ≤ 3 := by rcases htot with rfl | rfl | rfl | rfl <;> decide
    refine ⟨_, rfl, N, rfl, ⟨_, .inl (.inl hN6)⟩, for_list (xs := us.map V.str) (fun i σ H7 => (∃ y4 y5 y6 y7 y8, σ = [some (.ref d), some (.int tot), some (.ref C), some (.ref N), y4, y5, y6, y7, y8]) ∧ (∀ x o, x ≠ d → x ≠ C → H6 x = some o → H7 x = some o) ∧ DieAt H7 d ∧ ∃ bs rows, H7 C = some (.lst bs) ∧ Bands [C, d] H7 bs rows ∧ rows.length = i ∧ rows.map (·.1) = us.take i ∧ ∀ r ∈ rows, RowOk tot us r)
      ⟨⟨_, _, _, _, _, rfl⟩, fun x o _ _ e => e, d6, [], [], hC6, .nil, rfl, rfl, fun b hb => nomatch hb⟩ (fun i σ H7 _ hq => .inl (.inl (hq.2.1 _ _ Nd NC hN6))) (fun i x σ H7 hx hq => ?_) (fun σ H7 hq => ?_)⟩
    · obtain ⟨⟨y4, y5, y6, y7, y8, rfl⟩, k7, d7, bs, rows, hC7, bands, lr, enm, rok⟩ := hq
      have lb := bands.len
      rw [List.getElem?_map] at hx
      cases ez : us[i]? with
      | none =>
        rw [ez] at hx
        cases hx
      | some nm =>
        rw [ez] at hx
        cases hx
        have hnm := zok nm (List.mem_of_getElem? ez)
        have hi := (List.getElem?_eq_some_iff.mp ez).1
        refine ⟨_, rfl, len_ok, fun L5 nL5 => ⟨d, d7.new nL5, .inl ⟨L5, _, rfl, d7.free nL5, .inl (.inl (.inl upd_same)), List.cons_ne_nil _ _, (by show (4 : Nat) < 1073741824; decide), fun j v H8 hj N8 => ⟨len_ok, fun M nM => ⟨_, _, rfl, ?_⟩⟩⟩⟩⟩
        obtain ⟨pt, rfl, hpt⟩ := pick4 hj
        clear hj
        have p13 : 1 ≤ pt ∧ pt ≤ 3 := by rcases hpt with rfl | rfl | rfl | rfl <;> decide
        have b78 : But d H7 H8 := ((But.refl d H7).new nL5).trans N8.but
        have nMd := N8.die.free nM
        have b79 := b78.new nM (o := .lst [])
        have d9 := N8.die.new nM (o := .lst [])
        have nM7 : H7 M = none := b78.free nMd nM
        have MC : M ≠ C := fun z => by
          rw [z, hC7] at nM7
          cases nM7
        have hM9 : upd H8 M (.lst []) M = some (.lst []) := upd_same
        show tSeq _ _ _ [_, _, _, _, some (.str nm), some (.int pt), some (.ref M), _, _] (upd H8 M (.lst []))
        generalize upd H8 M (.lst []) = H9 at b79 d9 hM9
        refine ⟨_, rfl, d, 4, rfl, d9, by decide, by decide, fun r H10 hr10 N10 => ⟨2, _, rfl, rfl, _, rfl, by omega, by omega, ?_⟩⟩
        have en : (2 + (r : Int)).toNat = r + 2 := by omega
        rw [en]
        refine for_range (lo := 0) (n := r + 2) (fun k σ H11 => (∃ y7, σ = [some (.ref d), some (.int tot), some (.ref C), some (.ref N), some (.str nm), some (.int pt), some (.ref M), y7, y8]) ∧ But d H7 H11 ∧ DieAt H11 d ∧ ∃ xs ms, H11 M = some (.lst xs) ∧ VdAll [M, d] H11 xs ms ∧ ms.length = k ∧ ∀ m ∈ ms, ∃ ds, m = .tuple ds ∧ Mv tot us pt ds)
          ⟨⟨_, rfl⟩, b79.trans N10.but, N10.die, [], [], (N10.ne nMd).trans hM9, .nil, rfl, fun m hm => nomatch hm⟩ (fun k σ H11 hk hq => ?_) (fun σ H11 hq => ?_)
        · obtain ⟨⟨y7', rfl⟩, b11, d11, xs, ms, hM11, vd, lm, mv⟩ := hq
          refine ⟨_, rfl, .inl ⟨rfl, _, .inl (.inl hM11)⟩, _, rfl, _, rfl, _, rfl, _, rfl, d, N, tot, pt, us, rfl, d11, t15.1, by omega, p13.1, by omega, Nd, b11 _ _ Nd (k7 _ _ Nd NC hN6), une, by omega, zok, fun t ds H12 b12 d12 hv hmv => ?_⟩
          have hM12 := b12 _ _ nMd hM11
          have vdx : VdAll [M, d] H12 (xs ++ [.ref t]) (ms ++ [.tuple ds]) := (vd.mono (hide_but (by simp) b12)).app (.cons (vd_out hv hM12 hmv.nol) .nil)
          refine ⟨M, _, _, rfl, rfl, hM12, ?_, ⟨_, rfl⟩, (b11.trans b12).put nM7, d12.put nMd, xs ++ [.ref t], ms ++ [.tuple ds], upd_same, vdx.mono hide_upd, by rw [List.length_append, lm]; rfl, fun m hm => ?_⟩
          · have := vd.len
            exact small1000 (by omega)
          · rcases List.mem_append.mp hm with hm | hm
            · exact mv m hm
            · exact ⟨ds, List.mem_singleton.mp hm, hmv⟩
        · obtain ⟨⟨y7', rfl⟩, b11, d11, xs, ms, hM11, vd, lm, mv⟩ := hq
          refine ⟨_, rfl, .inl ⟨rfl, _, .inl (.inl (b11 _ _ nCd hC7))⟩, _, rfl, _, rfl, _, rfl, M, xs, rfl, .inl ⟨.inl (.inl hM11), fun t nt => ⟨len_ok, fun B nB => ?_⟩⟩⟩
          have hC11 := b11 _ _ nCd hC7
          have BC : B ≠ C := fun z => by
            rw [z, upd_keep hC11 nt] at nB
            cases nB
          have tC : t ≠ C := fun z => by
            rw [z, hC11] at nt
            cases nt
          have td : t ≠ d := d11.free nt
          have Bd : B ≠ d := (d11.new nt (o := .tup xs)).free nB
          have s12 : Same H11 (upd (upd H11 t (.tup xs)) B (.lst [.str nm, .int pt, .ref t])) := same_new (same_new (Same.refl H11) nt) nB
          have vt : Vd [C, d] (upd (upd H11 t (.tup xs)) B (.lst [.str nm, .int pt, .ref t])) (.ref t) (.tuple ms) := by
            have e1 : VdAll [d] (upd (upd H11 t (.tup xs)) B (.lst [.str nm, .int pt, .ref t])) xs ms := (vd.mono hide_tail).mono (hide_same s12)
            have e2 : Vd [d] (upd (upd H11 t (.tup xs)) B (.lst [.str nm, .int pt, .ref t])) (.ref t) (.tuple ms) := Vd.tup (by simpa using td) (upd_keep upd_same nB) e1 (by omega)
            exact vd_out e2 (s12 _ _ hC11) (by
              simp only [nl]
              exact nlAll_mem.mpr fun m hm => by
                obtain ⟨ds, rfl, hm2⟩ := mv m hm
                exact hm2.nol)
          refine ⟨C, _, _, rfl, rfl, s12 _ _ hC11, small1000 (by omega), ⟨_, _, _, _, _, rfl⟩, fun x o h1 h2 e => ?_, ((d11.new nt).new nB).put nCd, bs ++ [.ref B], rows ++ [(nm, pt, ms)], upd_same, ?_, by rw [List.length_append, lr]; rfl, ?_, fun r hr => ?_⟩
          · exact (upd_ne h2).trans (s12 _ _ (b11 _ _ h1 (k7 _ _ h1 h2 e)))
          · have hb : Band [C, d] (upd (upd H11 t (.tup xs)) B (.lst [.str nm, .int pt, .ref t])) (.ref B) (nm, pt, ms) := ⟨B, t, rfl, by simp [BC, Bd], upd_same, vt⟩
            exact (((bands.mono (hide_but (by simp) b11)).mono (hide_same s12)).mono hide_upd).snoc (hb.mono hide_upd)
          · rw [List.map_append, enm, List.take_add_one, ez]
            rfl
          · rcases List.mem_append.mp hr with hr | hr
            · exact rok r hr
            · rw [List.mem_singleton.mp hr]
              exact ⟨hnm, p13.1, p13.2, by show 2 ≤ ms.length; omega, by show ms.length ≤ 5; omega, mv⟩
    · obtain ⟨⟨y4, y5, y6, y7, y8, rfl⟩, k7, d7, bs, rows, hC7, bands, lr, enm, rok⟩ := hq
      rw [List.length_map] at lr enm
      rw [List.take_of_length_le (Nat.le_refl _)] at enm
      refine ⟨_, rfl, N, rfl, ⟨_, .inl (.inl (k7 _ _ Nd NC hN6))⟩, fun D0 nD => ?_⟩
      have D0d := d7.free nD
      refine lc_list (xs := us.map V.str) (fun i H8 => But d H7 H8 ∧ DieAt H8 d ∧ ∃ gs : List Int, H8 D0 = some (.lst (gs.map V.int)) ∧ gs.length = i ∧ ∀ g ∈ gs, 0 ≤ g ∧ g ≤ 2) ⟨(But.refl d H7).new nD, d7.new nD, [], upd_same, rfl, fun g hg => nomatch hg⟩ (fun i H8 _ hq => .inl (.inl (hq.1 _ _ Nd (k7 _ _ Nd NC hN6)))) (fun i x H8 hx hq => ?_) (fun H8 hq => ?_)
      · obtain ⟨b8, d8, gs, hys, ly, gb⟩ := hq
        have hi := (List.getElem?_eq_some_iff.mp hx).1
        rw [List.length_map] at hi
        refine ⟨rfl, _, rfl, len_ok, fun L6 nL6 => ⟨d, d8.new nL6, .inl ⟨L6, _, rfl, d8.free nL6, .inl (.inl (.inl upd_same)), List.cons_ne_nil _ _, (by show (4 : Nat) < 1073741824; decide), fun j v H9 hj N9 => ?_⟩⟩⟩
        have b89 : But d H8 H9 := ((But.refl d H8).new nL6).trans N9.but
        obtain ⟨g, rfl, hg⟩ := pick4 hj
        refine ⟨_, b89 _ _ D0d hys, by rw [List.length_map]; exact small1000 (by omega), (b8.trans b89).put nD, N9.die.put D0d, gs ++ [g], by rw [upd_same, List.map_append]; rfl, by rw [List.length_append, ly]; rfl, fun k hk => ?_⟩
        rcases List.mem_append.mp hk with hk | hk
        · exact gb k hk
        · rw [List.mem_singleton.mp hk]
          rcases hg with rfl | rfl | rfl | rfl <;> decide
      · obtain ⟨b8, d8, gs, hys, ly, gb⟩ := hq
        refine ⟨D0, _, rfl, .inl ⟨.inl (.inl hys), fun t nt => ?_⟩⟩
        refine ⟨_, rfl, _, rfl, _, rfl, d, tot, rfl, d8.new nt, t15.1, by omega, fun p2 ns H9 b9 d9 hp2 n0 n5 na nn => ⟨_, rfl, _, rfl, len_ok, fun R nR => ?_⟩⟩
        have b79 : But d H7 H9 := (b8.new nt).trans b9
        have kk : ∀ x o, x ≠ d → x ≠ C → H6 x = some o → upd H9 R (.lst [.int tot, .ref p2, .ref t, .ref C]) x = some o := fun x o h1 h2 e => upd_keep (b79 _ _ h1 (k7 _ _ h1 h2 e)) nR
        have dR := d9.new nR (o := .lst [.int tot, .ref p2, .ref t, .ref C])
        have sR := same_new (Same.refl H9) nR (o := .lst [.int tot, .ref p2, .ref t, .ref C])
        have tD : t ≠ d := d8.free nt
        have bandsR : Bands [d] _ bs rows := ((bands.mono hide_tail).mono (hide_but (by simp) b79)).mono (hide_same sR)
        have nmR : ∀ r ∈ rows, Nm r.1 := fun r hr => (rok r hr).nm
        rw [List.length_map] at ly
        have ul3 : rows.length = us.length := lr
        refine q _ tot ns gs rows _ (fun x o h1 e => ?_) dR (Vd.lst (fun z => dR.ne upd_same (fun a b c z => by cases z) (List.mem_singleton.mp z)) upd_same (.cons (.int tot) (.cons (vd_ints dR (sR _ _ hp2) (by omega)) (.cons (vd_ints dR (sR _ _ (b9 _ _ tD upd_same)) (by omega)) (.cons (Vd.lst (by simpa using nCd) (sR _ _ (b79 _ _ nCd hC7)) (bandsR.vd nmR) (by rw [List.length_map]; omega)) .nil)))) (by simp))
          ⟨t15.1, t15.2, n0, n5, na, nn, by omega, gb, fun z => ?_, by omega, by rw [enm]; exact und, fun r hr => by rw [enm]; exact rok r hr, by rw [enm]; exact fun z hz => mem z (umem z hz)⟩
        · have xC : x ≠ C := fun z => by
            rw [z] at e
            have := b1 _ _ nCd e
            rw [this] at nC
            cases nC
          exact kk _ _ h1 xC (b26 _ _ h1 (b2 _ _ h1 e))
        · rw [z] at ul3
          exact une (List.length_eq_zero_iff.mp ul3.symm)
end
end My

namespace My
open PySem PySem.Spec PyProof.Rows L2 Sh Dt
def spBent : Sp := fun vs H Q _ => ∃ d p odd ds e, vs = [.ref d, .ref p, odd] ∧ DieAt H d ∧ Vd [d] H (.ref p) (.tuple ds) ∧ ds ≠ [] ∧ ds.length ≤ 40 ∧ (PyData.tuple ds).plain = true ∧ (PyData.tuple ds).depth ≤ 60 ∧ Vd [d] H odd e ∧ ∀ v e' H', Vd [d] H' v e' → But d H H' → DieAt H' d → Q v H'
theorem cut_lo {xs : List V} {k : Int} (h0 : 0 ≤ k) (h1 : k ≤ xs.length) : cutV xs none (some k) = xs.take k.toNat := by
  have e1 : HT.sIx xs.length 0 none = 0 := rfl
  have e2 : HT.sIx xs.length xs.length (some k) = k.toNat := by
    show (if k < 0 then _ else min k.toNat xs.length) = _
    rw [if_neg (by omega)]
    omega
  unfold cutV
  rw [e1, e2, List.drop_zero, Nat.sub_zero]
theorem cut_hi {xs : List V} {k : Int} (h0 : 0 ≤ k) (h1 : k ≤ xs.length) : cutV xs (some k) none = xs.drop k.toNat := by
  have e1 : HT.sIx xs.length xs.length none = xs.length := rfl
  have e2 : HT.sIx xs.length 0 (some k) = k.toNat := by
    show (if k < 0 then _ else min k.toNat xs.length) = _
    rw [if_neg (by omega)]
    omega
  unfold cutV
  rw [e1, e2]
  exact List.take_of_length_le (by rw [List.length_drop]; omega)
section
variable {P : Program} {w : World} {K : PySem.W.Frag} {mg : Str → Option Value} {base : Heap}
end
end My

/-! for i, x in enumerate(t), t a tuple -/
namespace En
open PySem PySem.Spec PyProof.Rows L2 Sh
open AutoSeq1 (wpAny_loadPart')
theorem new_tup (l : Addr) (items : Array Value) (n : Nat) (dct : Option Addr) (sl : Array (Option Value)) : Meets (Builtin.«enumerate.__new__» ⟨[.type "enumerate", .ref l], []⟩) fun _ R s => s.heap.get? l = some { cls := .type "tuple", dict := dct, data := .seq items n, slots := sl } ∧
      R (.ok (.ret (.ref (s.heap.push { cls := .type "tuple_iterator", data := .fields #[.ref l, .int 0 0] }).objs.size))) { s with heap := (s.heap.push { cls := .type "tuple_iterator", data := .fields #[.ref l, .int 0 0] }).push { cls := .type "enumerate", data := .fields #[.none, .bool false, .ref s.heap.objs.size, rawInt 0, .none, .none] } } :=
  .of_wp fun prog w A R s h => by
    obtain ⟨hp, g, d, tk, os⟩ := s
    obtain ⟨hl, h⟩ := h
    have own := sub_enumerate
    have ht : Heap.IsTuple (Shared.heap ⟨hp, g, d, tk, os⟩) l items := ⟨_, hl, rfl, n, rfl⟩
    wp_walk using wpAny_loadPart' hl
    refine wpAny_stack_any fun st => wpAny_pure ?_
    split
    · rename_i c _ _ _ _ _
      cases (c == Value.type "enumerate") <;> (wp_walk using wpAny_loadPart' hl, wpAny_pyIter_tuple ht; exact ⟨_, rfl, h⟩)
    · wp_walk using wpAny_loadPart' hl, wpAny_pyIter_tuple ht
      exact ⟨_, rfl, h⟩
section
variable {prog : Program} {w : World} {A : Around} {E : Value → Shared → Prop} {s : Shared}
theorem call_tup {l : Addr} {items : Array Value} {Q : Value → Shared → Prop} (ht : s.heap.IsTuple l items)
    (h : ∀ h', IsEnum h' (s.heap.objs.size + 1) s.heap.objs.size 0 .none → h'.IsTupleIter s.heap.objs.size l 0 → (∀ b o, s.heap.get? b = some o → h'.get? b = some o) → Q (.ref (s.heap.objs.size + 1)) { s with heap := h' }) :
    wpAny (model prog w) A (call (.type "enumerate") [.ref l]) Q E s := by
  obtain ⟨⟨c, dct, dt, sl⟩, hl, hc, n, hd⟩ := ht
  cases (show c = .type "tuple" from hc)
  cases (show dt = .seq items n from hd)
  refine callType_new F.called_enumerate (by decide) (F.typeCall_enumerate_1 _) (F.newCall_enumerate_1 _) (fun obj => F.args_object_init_2 obj _) F.entry_enumerate_new (new_tup l items n dct sl) ⟨hl, ?_⟩
  have hz : (s.heap.push { cls := .type "tuple_iterator", data := .fields #[.ref l, .int 0 0] }).objs.size = s.heap.objs.size + 1 := Heap.size_push ..
  show _ ∧ _
  rw [hz]
  have he := Heap.get?_push_size (s.heap.push { cls := .type "tuple_iterator", data := .fields #[.ref l, .int 0 0] }) (o := { cls := .type "enumerate", data := .fields #[.none, .bool false, .ref s.heap.objs.size, rawInt 0, .none, .none] }) rfl
  rw [hz] at he
  exact ⟨⟨_, he, rfl⟩, h _ he ⟨_, Heap.get?_push_of_some _ (Heap.get?_push_size _ rfl), rfl, rfl⟩ fun b o x => Heap.get?_push_of_some _ (Heap.get?_push_of_some _ x)⟩
end
/-- the tuple at a, each item in a new pair -/
def Iet (K : PySem.W.Frag) (a : Addr) : It :=
  ⟨fun i H => ∃ (xs : List V) (x : V), SqT K H a xs ∧ xs[i]? = some x, fun i H v H' => ∃ T x, v = .ref T ∧ H T = none ∧ H' = upd H T (.tup [.int (i : Nat), x]) ∧ ∀ xs, SqT K H a xs → xs[i]? = some x, fun i H => ∃ xs : List V, SqT K H a xs ∧ xs.length ≤ i⟩
theorem next_end {prog : Program} {w : World} {A : Around} {E : Value → Shared → Prop} {s : Shared} {e it t : Addr} {k : Int} {i : Nat} {items : Array Value} {old : Value} {Q : Option Value → Shared → Prop} (hh : A.handled = none) (he : IsEnum s.heap e it k old) (hit : s.heap.IsTupleIter it t i) (ht : s.heap.IsTuple t items) (hx : items[i]? = none)
    (hQ : ∀ h', Heap.ExtBut it s.heap h' → Q none { s with heap := h' }) : wpAny (model prog w) A (pyNext (.ref e)) Q E s := by
  have ty : s.TypeIs (.ref e) "enumerate" := ⟨_, he, rfl⟩
  unfold pyNext
  refine wpAny_bind (wpAny_attempt (wpAny_callSpecial?_slot (name := Str.ofString "__next__") ty F.slot_enumerate_next (wpAny_call_entry F.slot_enumerate_next ty F.entry_enumerate_next (show wpAny _ _ (field (.ref e) 2 >>= _) _ _ _ from ?_) (F.args_enumerate_next_1 _))))
  refine wpAny_bind (wpAny_field he rfl (x := .ref it) rfl (wpAny_bind (wpAny_nextOf_tuple_end hh hit ht hx fun h' x he' hx' => ?_)))
  obtain ⟨o, ho, hc⟩ := hx'
  exact wpAny_bind (wpAny_isInstance (T := "StopIteration") (b := true) ⟨o, ho, hc⟩ isSubtype_stop (wpAny_pure (hQ _ he')))
theorem turn_et {P : Program} {w : World} {K : PySem.W.Frag} {elts : List Expr} {kk : Nat} {tpos : Pos} (a e it : Addr) :
    Turn P w K (.Tuple elts kk tpos) (Iet K a) [e, it] e (fun i h => (∃ old, IsEnum h e it ((i : Nat) : Int) old) ∧ h.IsTupleIter it a i ∧ e ≠ it) where
  mem := List.mem_cons_self
  obj := fun i h st b hb => by
    obtain ⟨⟨old, he⟩, ⟨o, ho, hc, hd⟩, _⟩ := st
    rcases List.mem_cons.mp hb with rfl | hb
    · exact ⟨_, he, fun v q => nomatch q⟩
    · rw [List.mem_singleton.mp hb]
      exact ⟨o, ho, fun v q => by rw [hd] at q; cases q⟩
  keep := fun i h h' st k => ⟨⟨st.1.choose, k e (.head _) _ st.1.choose_spec⟩, st.2.1.at fun o q => k it (.tail _ (.head _)) o q, st.2.2⟩
  item := by
    intro X hP hw hK hc i pins s σ H E I hf st hg
    subst hP hw hK
    obtain ⟨⟨old, he⟩, hit, hne⟩ := st
    obtain ⟨xs, x, hq, hx⟩ := hg
    obtain ⟨its, rv, p, hz⟩ := I.tuple hq
    obtain ⟨u, hu, ru⟩ := rv.get hx
    have hel : e < s.heap.objs.size := Heap.lt_size he
    have hil : it < s.heap.objs.size := Heap.lt_size hit.choose_spec.1
    have ae : a ≠ e := fun z => by
      obtain ⟨o, ho, hc, _⟩ := p
      rw [z, he] at ho
      injection ho with ho
      rw [← ho] at hc
      exact absurd hc (by simp)
    have ai : a ≠ it := fun z => by
      obtain ⟨o, ho, hc, _⟩ := p
      obtain ⟨o2, ho2, hc2, _⟩ := hit
      rw [z, ho2] at ho
      injection ho with ho
      rw [← ho, hc2] at hc
      exact absurd hc (by simp)
    have hin : i < its.toArray.size := by
      rw [List.size_toArray, ← rv.length]
      exact (List.getElem?_eq_some_iff.mp hx).1
    refine wpAny_pyNext_enum_itemD (Draws.tuple (show X.A.in1.handled = none from I.ok.hd hc) it a ai its.toArray) he ⟨hit, p⟩ hin hne (by simp [hne, Ne.symm ae]) fun y h' tk hy ho hst' hT hsz hk => ?_
    have ey : y = u := by
      have hy : its.toArray[i]? = some y := hy
      rw [List.getElem?_toArray, hu] at hy
      exact (Option.some.inj hy).symm
    subst ey
    refine ⟨_, rfl, wpAny_letOwnedTupleGo_enum (s := { s with heap := h', toks := tk + 1 }) ho fun h'' he' sb => ?_⟩
    have hT2 : h''.get? s.heap.objs.size = some { cls := .type "tuple", data := .seq #[.int i tk, y] } := (sb.2 _ (Nat.ne_of_gt hel)).trans hT
    have new : ObjOk X.prog X.w (upd H s.heap.objs.size (.tup [.int (i : Nat), x])) h'' s.heap.objs.size (.tup [.int (i : Nat), x]) := ⟨by show 2 ≤ sizeLine; decide, [.int i tk, y], .cons ⟨_, rfl⟩ (.cons ru .nil), ⟨_, hT2, rfl, _, rfl⟩⟩
    have J : L2.Inv X pins σ (upd H s.heap.objs.size (.tup [.int (i : Nat), x])) { s with heap := h'', toks := tk + 1 } :=
      I.turnedNew (ch := [e, it]) (fun b ob hb q => (sb.2 b (fun z => hb (by simp [z]))).trans (hk b ob (fun z => hb (by simp [z])) (fun z => hb (by simp [z])) q)) hf (Nat.le_refl _) new
    refine ⟨.ref s.heap.objs.size, _, J, rfl, ⟨_, x, rfl, I.hok.fresh (Nat.le_refl _), rfl, fun ys hy => by rw [I.tuple_inj hy hq]; exact hx⟩, ⟨⟨y, ?_⟩, hst'.1.at fun o q => (sb.2 it (Ne.symm hne)).trans q, hne⟩, fun b hb => ?_⟩
    · rw [show ((i + 1 : Nat) : Int) = (i : Int) + 1 by omega]
      exact he'
    · have bl : b < s.heap.objs.size := by
        rcases List.mem_cons.mp hb with rfl | hb
        · exact hel
        · rw [List.mem_singleton.mp hb]
          exact hil
      exact (upd_ne (Nat.ne_of_lt bl)).trans (hf b hb).1
  done := by
    intro X hP hw hK hc i pins s σ H E I hf st hg
    subst hP hw hK
    obtain ⟨⟨old, he⟩, hit, hne⟩ := st
    obtain ⟨xs, hq, hx⟩ := hg
    obtain ⟨its, rv, p, hz⟩ := I.tuple hq
    obtain ⟨f0, f1, f2, f3, f4, f5⟩ := hf it (.tail _ (.head _))
    have hl := rv.length
    exact next_end (I.ok.hd hc) he hit p (by simp; omega) fun h' eb => ⟨rfl, I.turned (t' := s.toks) (fun b o hb q => eb b o hb q) f0 f1 f3 f4 f5⟩
  self := fun A i s Q E st h => let ⟨⟨_, he⟩, _⟩ := st; wpAny_pyIter_enum he h
def iEt (K : PySem.W.Frag) (ta : TA) : TI := fun σ H R => ta σ H fun vs H1 => ∃ a xs, vs = [.ref a] ∧ SqT K H1 a xs ∧ R (Iet K a) H1
theorem pi_et {X : Cx} {e : Expr} {ta : TA} {p pos tpos : Pos} {elts : List Expr} {kk : Nat} (hg : Gl X "enumerate") (hm : X.mg "enumerate" = none) (ha : PA X [e] ta) (hs : starEach [e] X.env = [(false, eval e X.env)] := by rfl) :
    PI X (.Tuple elts kk tpos) (.Call (.Name "enumerate" p) [e] [] pos) (iEt X.K ta) := by
  refine ⟨fun pins s σ H R I h => Call_ (ld_blt I hg hm boot_enumerate (PyProof.Rows.callWith_type1 (thn (ha.run pos pins s σ H _ I h) fun us s1 ⟨vs, H1, J, r1, a, xs, ex, hq, q⟩ => ?_) hs rfl))⟩
  subst ex
  cases r1 with
  | cons r rr =>
    cases rr
    cases r
    obtain ⟨its, rv, pt, hz⟩ := J.tuple hq
    refine call_tup pt fun h' he hit hk => wpAny_pyIter_enum he ?_
    have J2 : L2.Inv X pins σ H1 { s1 with heap := h' } := J.kept (t' := s1.toks) hk
    refine ⟨s1.heap.objs.size + 1, [s1.heap.objs.size + 1, s1.heap.objs.size], _, _, H1, rfl, J2, turn_et a (s1.heap.objs.size + 1) s1.heap.objs.size, ⟨⟨.none, he⟩, hit, Nat.succ_ne_self _⟩, fun b hb => ?_, q⟩
    have hle : s1.heap.objs.size ≤ b := by
      rcases List.mem_cons.mp hb with rfl | hb
      · exact Nat.le_add_right _ _
      · exact Nat.le_of_eq (List.mem_singleton.mp hb).symm
    exact J.fpOk hle (J.hok.fresh hle)
theorem walk_et {K : PySem.W.Frag} {a : Addr} {xs : List V} : Walk (Iet K a) xs.length (fun H => SqT K H a xs) (YPair (fun i => some (.int (i : Nat))) (fun i => xs[i]?)) := by
  refine ⟨fun i _ hi q => ⟨xs, xs[i], q, List.getElem?_eq_getElem hi⟩, fun _ q => ⟨xs, q, Nat.le_refl _⟩, fun i H v H' _ q y => ?_⟩
  obtain ⟨T, x, h1, h2, h3, h4⟩ := y
  exact ⟨T, .int (i : Nat), x, h1, h2, h3, rfl, h4 xs q⟩
end En

/-! how many texts there are in a set of a list or tuple of texts -/
namespace St
open PySem PySem.Spec PyProof.Rows SS
/-- as many as there are, if none is there twice, or less -/
def Cn (l : List Str) (c : Nat) : Prop := (l.Nodup → c = l.length) ∧ (¬ l.Nodup → c < l.length)
theorem Cn.le {l : List Str} {c : Nat} (h : Cn l c) : c ≤ l.length := by
  by_cases e : l.Nodup
  · exact Nat.le_of_eq (h.1 e)
  · exact Nat.le_of_lt (h.2 e)
theorem Cn.nil : Cn [] 0 := ⟨fun _ => rfl, fun h => absurd List.nodup_nil h⟩
theorem any_mem (l : List Str) (x : Str) : l.any (· == x) = decide (x ∈ l) := by
  rw [Bool.eq_iff_iff, List.any_eq_true, decide_eq_true_iff]
  constructor
  · rintro ⟨y, hy, e⟩
    rw [← eq_of_beq e]
    exact hy
  · exact fun h => ⟨x, h, beq_self_eq_true x⟩
theorem Cn.snoc {l : List Str} {x : Str} {c : Nat} (h : Cn l c) : Cn (l ++ [x]) (if l.any (· == x) = true then c else c + 1) := by
  rw [any_mem]
  have nd : (l ++ [x]).Nodup ↔ l.Nodup ∧ x ∉ l := by
    rw [List.nodup_append]
    constructor
    · rintro ⟨a, _, b⟩
      exact ⟨a, fun m => b x m x (List.mem_singleton.mpr rfl) rfl⟩
    · rintro ⟨a, b⟩
      refine ⟨a, List.nodup_cons.mpr ⟨List.not_mem_nil, List.nodup_nil⟩, fun y hy z hz e => b ?_⟩
      rw [← List.mem_singleton.mp hz, ← e]
      exact hy
  have hle := h.le
  by_cases m : x ∈ l
  · rw [if_pos (decide_eq_true m)]
    refine ⟨fun e => absurd m (nd.mp e).2, fun _ => ?_⟩
    rw [List.length_append]
    exact Nat.lt_succ_of_le hle
  · rw [if_neg (by simpa using m)]
    refine ⟨fun e => ?_, fun e => ?_⟩
    · rw [List.length_append, h.1 (nd.mp e).1]
      rfl
    · rw [List.length_append]
      exact Nat.succ_lt_succ (h.2 fun z => e (nd.mpr ⟨z, m⟩))
def SetS (P : Program) (w : World) (h : Heap) (a : Addr) (l : List Str) : Prop := ∃ c, Cn l c ∧ h.SetOf (PySem.strKind P w) a (fun k => l.any (· == k)) c
abbrev set0 (ld : Bool) : Obj := { cls := .type "set", dict := none, data := .set #[] 0 (.fresh 0 0 ld) }
section
variable {prog : Program} {w : World} {A : Around} {R : Result → Shared → Prop} {I : Addr} {fp wr : List Addr} {G : Array GenState → Array GenState → Prop} {n : Nat} {P : Nat → Value → Prop} {St : Nat → Shared → Prop}
theorem update_strs (W : WalksS prog w A.in1 I fp wr G n P St) (S : Addr) (out : S ∉ fp) (xs : List Str) (hsz : xs.length = n) (few : n < 200)
    (hval : ∀ i v, P i v → ∃ t, v = .str (xs.getD i Str.empty) t) : ∀ (k i : Nat) (s : Shared), n - i = k → i ≤ n → St i s → SetS prog w s.heap S (xs.take i) →
      (∀ s', Moved (S :: wr) G s s' → SetS prog w s'.heap S xs → R (.ok (.ret .none)) s') → codeAny (model prog w) A (.builtin "set.update.loop" ⟨[.ref S, .ref I], []⟩) R s := by
  have ow : S ∉ wr := fun h => out (W.sub _ h)
  have sub : ∀ b ∈ wr, b ∈ S :: wr := fun b hb => List.mem_cons_of_mem _ hb
  intro k
  induction k with
  | zero =>
    intro i s hk hi hst ⟨c, hc, hS⟩ hR
    have hin : i = n := Nat.le_antisymm hi (by omega)
    subst hin
    rw [List.take_of_length_le (Nat.le_of_eq hsz)] at hc hS
    refine codeAny_builtin PyProof.Rows.F.entry_set_update_loop (?_ : _)
    rw [Around.under_plainId PyProof.Rows.F.plain_set_update_loop _]
    show wpAny _ A.in1 (pyNext (.ref I) >>= _) _ _ s
    refine wpAny_bind (W.done s _ _ hst fun s2 hm => ?_)
    show wpAny _ A.in1 (ret Value.none) _ _ s2
    obtain ⟨o, es, ep, t, ho, rest⟩ := hS
    exact wpAny_pure (hR s2 (hm.mono sub) ⟨c, hc, o, es, ep, t, hm.heap S _ ow ho, rest⟩)
  | succ k ih =>
    intro i s hk hi hst ⟨c, hc, hS⟩ hR
    have lt : i < n := by omega
    refine codeAny_builtin PyProof.Rows.F.entry_set_update_loop (?_ : _)
    rw [Around.under_plainId PyProof.Rows.F.plain_set_update_loop _]
    show wpAny _ A.in1 (pyNext (.ref I) >>= _) _ _ s
    refine wpAny_bind (W.item i s _ _ lt hst fun v s2 hP hst2 hm => ?_)
    obtain ⟨t, rfl⟩ := hval i v hP
    have gS : s2.heap.SetOf (PySem.strKind prog w) S (fun k => (xs.take i).any (· == k)) c := by
      obtain ⟨o, es, ep, tb, ho, rest⟩ := hS
      exact ⟨o, es, ep, tb, hm.heap S _ ow ho, rest⟩
    have cl := hc.le
    rw [List.length_take] at cl
    show wpAny _ A.in1 (holding [Value.str (xs.getD i Str.empty) t] (setAdd S (.str (xs.getD i Str.empty) t)) >>= _) _ _ s2
    refine wpAny_bind (wpAny_holding ?_)
    unfold setAdd
    refine wpAny_holding (wpAny_bind ((PySem.strKind prog w).pyHash (k := xs.getD i Str.empty) (strKind_is _ _ _ _) ?_))
    refine wpAny_setAddHashed_of (knd := PySem.strKind prog w) (s := { s2 with toks := s2.toks + 1 }) (strKind_is _ _ _ _) rfl gS (by unfold scanBound; omega) fun h' but hS2 => ?_
    have en : xs.take (i + 1) = xs.take i ++ [xs.getD i Str.empty] := by
      have hx : xs[i]? = some (xs.getD i Str.empty) := by
        rw [List.getD_eq_getElem?_getD, List.getElem?_eq_getElem (by omega)]
        rfl
      rw [List.take_add_one, hx]
      rfl
    have gS2 : SetS prog w h' S (xs.take (i + 1)) := by
      rw [en]
      refine ⟨_, hc.snoc (x := xs.getD i Str.empty), PyProof.Rows.SetOf_congr hS2 (fun k' => ?_) rfl⟩
      rw [List.any_append]
      show ((xs.take i).any (· == k') || decide (k' = xs.getD i Str.empty)) = ((xs.take i).any (· == k') || (xs.getD i Str.empty == k' || false))
      rw [Bool.or_false]
      congr 1
      rw [Bool.eq_iff_iff, decide_eq_true_iff, beq_iff_eq]
      exact eq_comm
    refine wpAny_pure ⟨plainId_quiet PyProof.Rows.F.plain_set_update_loop _, ih (i + 1) _ (by omega) lt (W.frame _ s2 _ _ hst2 (Nat.le_succ _) fun b hb o e => ?_) gS2 fun s3 hm3 hS3 => hR s3 (Moved.trans W.gtrans ((hm.mono sub).then_heap (Nat.le_succ _) fun b o hb e => ?_) hm3) hS3⟩
    · exact (but.2 b fun z : b = S => out (z ▸ hb)).trans e
    · exact (but.2 b fun z : b = S => hb (z ▸ List.mem_cons_self)).trans e
end
section
variable {prog : Program} {w : World} {A : Around} {E : Value → Shared → Prop} {s : Shared}
theorem set_tup {l : Addr} {items : Array Value} {xs : List Str} {Q : Value → Shared → Prop} (hh : A.handled = none) (hl : s.heap.IsTuple l items) (hi : PyProof.Rows.StrsAre items.toList xs) (few : xs.length < 200)
    (h : ∀ (h' : Heap) (tk : Nat), SetS prog w h' s.heap.objs.size xs → (∀ b o, s.heap.get? b = some o → h'.get? b = some o) → Q (.ref s.heap.objs.size) { s with heap := h', toks := tk }) :
    wpAny (model prog w) A (call (.type "set") [.ref l]) Q E s := by
  obtain ⟨_, _, mro⟩ := PySem.F.called_set.mro
  have made := PySem.F.called_set.made
  have own := PySem.F.called_set.sub
  refine wpAny_call (codeAny_of_tree (show wpAny _ _ (callAny (.type "set") _) _ _ _ from ?_))
  refine wpAny_pure ⟨Code.quiet_builtin _ (by decide +kernel), codeAny_builtin PySem.F.entry_type_call (?_ : _)⟩
  rw [Around.under_plain (weight_type_call_type "set" [.ref l] []) rfl]
  have f1 := PySem.F.called_set.notType
  have f2 := PySem.F.called_set.canCreate
  have f3 := PySem.F.typeCall_set_1 (.ref l)
  repeat (any_goals (first | assumption | wp_step))
  refine codeAny_mono (code_set_new_1 (.ref l) (E := E) (Q₁ := fun obj z => ∃ ld : Bool, obj = .ref s.heap.objs.size ∧ z = { s with heap := s.heap.push (set0 ld) }) fun ld => ⟨ld, rfl, rfl⟩) fun r z hr => ?_
  cases r with
  | error e => exact hr
  | ok fl =>
    cases fl with
    | ret obj =>
      obtain ⟨ld, rfl, rfl⟩ := hr
      have at0 : (s.heap.push (set0 ld)).get? s.heap.objs.size = some (set0 ld) := Heap.get?_push_size _ rfl
      have ty0 : Shared.TypeIs { s with heap := s.heap.push (set0 ld) } (.ref s.heap.objs.size) "set" := ⟨_, at0, rfl⟩
      have i1 := PySem.F.called_set.init.lookup
      have i2 := PySem.F.called_set.init.bind (.ref s.heap.objs.size)
      repeat (any_goals (first | assumption | wp_step))
      refine codeAny_mono (codeAny_call_builtin (R := wants (fun r z => r = .none ∧ ∃ h' tk, z = { s with heap := h', toks := tk } ∧ SetS prog w h' s.heap.objs.size xs ∧ (∀ b o, s.heap.get? b = some o → h'.get? b = some o)) E) PySem.F.called_set.init.plain PySem.F.entry_set_init (check_set_init_1 ty0 ?_)) fun r₂ s₂ hr₂ => ?_
      · obtain ⟨⟨ocls, odict, odata, oslots⟩, hol, hcl, nl, hdl⟩ := hl
        simp only at hcl hdl
        subst hcl hdl
        have at1 : (s.heap.push (set0 ld)).get? l = some { cls := .type "tuple", dict := odict, data := .seq items nl, slots := oslots } := Heap.get?_push_of_some _ hol
        have n1 := PySem.F.sub_tuple_set
        have n2 := PySem.F.sub_tuple_frozenset
        have n3 : (Value.type "tuple" == Value.type "dict") = false := by decide +kernel
        have is1 : (s.heap.push (set0 ld)).IsTuple l items := ⟨_, at1, rfl, nl, rfl⟩
        unfold Builtin.«set.__init__» noKeywords Builtin.Frozenset.updateFrom
        generalize eI : pyIter = PI
        wp_walk
        subst eI
        refine wpAny_pyIter_tuple is1 (wpAny_bind (wpAny_runValue ?_))
        have lS : l < s.heap.objs.size := Heap.lt_size hol
        have h3 : A.in1.in1.in1.handled = none := hh
        have sz : (s.heap.push (set0 ld)).objs.size = s.heap.objs.size + 1 := Heap.size_push ..
        have lI : l ≠ (s.heap.push (set0 ld)).objs.size := by
          rw [sz]
          exact Nat.ne_of_lt (Nat.lt_succ_of_lt lS)
        have oS : s.heap.objs.size ∉ [(s.heap.push (set0 ld)).objs.size, l] := by
          rw [sz]
          simp only [List.mem_cons, List.not_mem_nil, or_false, not_or]
          exact ⟨Nat.ne_of_lt (Nat.lt_succ_self _), (Nat.ne_of_lt lS).symm⟩
        have xsz : xs.length = items.size := by
          rw [← StrsAre.len_eq hi]
          simp
        have val : ∀ (i : Nat) (v : Value), items[i]? = some v → ∃ t, v = .str (xs.getD i Str.empty) t := fun i v hv => strs_at hi i v ((Array.getElem?_toList ..).trans hv)
        refine update_strs ((Walks.tuple h3 _ l lI items).toS) s.heap.objs.size oS xs xsz (by omega) val (items.size - 0) 0 _ (by omega) (Nat.zero_le _) ⟨⟨_, Heap.get?_push_size _ rfl, rfl, rfl⟩, is1.push _⟩ ⟨0, Cn.nil, ?_⟩ fun z hm hS => ?_
        · exact PyProof.Rows.SetOf_congr ((PyProof.Rows.setObjOf_fresh (knd := PySem.strKind prog w) ld).setOf (Heap.get?_push_of_some _ at0) (by unfold scanBound; omega)) (fun _ => rfl) rfl
        · obtain ⟨h', g', d', tk', os'⟩ := z
          cases (hm.gens : g' = s.gens)
          cases (hm.drawn : d' = s.drawn)
          cases (hm.os : os' = s.os)
          show wpAny _ _ _ _ _ _
          refine wpAny_pure (show wpAny _ _ (ret Value.none) _ _ _ from wpAny_pure ⟨rfl, h', tk', rfl, hS, fun b o e => ?_⟩)
          have bl := Heap.lt_size e
          refine hm.heap b o ?_ (Heap.get?_push_of_some _ (Heap.get?_push_of_some _ e))
          simp only [List.mem_cons, List.not_mem_nil, or_false, not_or]
          exact ⟨Nat.ne_of_lt bl, by rw [sz]; exact Nat.ne_of_lt (Nat.lt_succ_of_lt bl)⟩
      · cases r₂ with
        | error e => exact hr₂
        | ok fl₂ =>
          cases fl₂ with
          | ret r =>
            obtain ⟨rfl, h', tk, rfl, gS, gk⟩ := hr₂
            repeat (any_goals (first | assumption | wp_step))
            exact h _ _ gS gk
          | _ => exact hr₂.elim
    | _ => exact hr.elim
theorem set_list {l : Addr} {items : Array Value} {xs : List Str} {Q : Value → Shared → Prop} (hh : A.handled = none) (hl : s.heap.IsList l items) (hi : PyProof.Rows.StrsAre items.toList xs) (few : xs.length < 200)
    (h : ∀ (h' : Heap) (tk : Nat), SetS prog w h' s.heap.objs.size xs → (∀ b o, s.heap.get? b = some o → h'.get? b = some o) → Q (.ref s.heap.objs.size) { s with heap := h', toks := tk }) :
    wpAny (model prog w) A (call (.type "set") [.ref l]) Q E s := by
  obtain ⟨_, _, mro⟩ := PySem.F.called_set.mro
  have made := PySem.F.called_set.made
  have own := PySem.F.called_set.sub
  refine wpAny_call (codeAny_of_tree (show wpAny _ _ (callAny (.type "set") _) _ _ _ from ?_))
  refine wpAny_pure ⟨Code.quiet_builtin _ (by decide +kernel), codeAny_builtin PySem.F.entry_type_call (?_ : _)⟩
  rw [Around.under_plain (weight_type_call_type "set" [.ref l] []) rfl]
  have f1 := PySem.F.called_set.notType
  have f2 := PySem.F.called_set.canCreate
  have f3 := PySem.F.typeCall_set_1 (.ref l)
  repeat (any_goals (first | assumption | wp_step))
  refine codeAny_mono (code_set_new_1 (.ref l) (E := E) (Q₁ := fun obj z => ∃ ld : Bool, obj = .ref s.heap.objs.size ∧ z = { s with heap := s.heap.push (set0 ld) }) fun ld => ⟨ld, rfl, rfl⟩) fun r z hr => ?_
  cases r with
  | error e => exact hr
  | ok fl =>
    cases fl with
    | ret obj =>
      obtain ⟨ld, rfl, rfl⟩ := hr
      have at0 : (s.heap.push (set0 ld)).get? s.heap.objs.size = some (set0 ld) := Heap.get?_push_size _ rfl
      have ty0 : Shared.TypeIs { s with heap := s.heap.push (set0 ld) } (.ref s.heap.objs.size) "set" := ⟨_, at0, rfl⟩
      have i1 := PySem.F.called_set.init.lookup
      have i2 := PySem.F.called_set.init.bind (.ref s.heap.objs.size)
      repeat (any_goals (first | assumption | wp_step))
      refine codeAny_mono (codeAny_call_builtin (R := wants (fun r z => r = .none ∧ ∃ h' tk, z = { s with heap := h', toks := tk } ∧ SetS prog w h' s.heap.objs.size xs ∧ (∀ b o, s.heap.get? b = some o → h'.get? b = some o)) E) PySem.F.called_set.init.plain PySem.F.entry_set_init (check_set_init_1 ty0 ?_)) fun r₂ s₂ hr₂ => ?_
      · obtain ⟨⟨ocls, odict, odata, oslots⟩, hol, hcl, nl, hdl⟩ := hl
        simp only at hcl hdl
        subst hcl hdl
        have at1 : (s.heap.push (set0 ld)).get? l = some { cls := .type "list", dict := odict, data := .seq items nl, slots := oslots } := Heap.get?_push_of_some _ hol
        have n1 := PySem.F.sub_list_set
        have n2 := PySem.F.sub_list_frozenset
        have n3 : (Value.type "list" == Value.type "dict") = false := by decide +kernel
        have is1 : (s.heap.push (set0 ld)).IsList l items := ⟨_, at1, rfl, nl, rfl⟩
        unfold Builtin.«set.__init__» noKeywords Builtin.Frozenset.updateFrom
        generalize eI : pyIter = PI
        wp_walk
        subst eI
        refine wpAny_pyIter_list is1 (wpAny_bind (wpAny_runValue ?_))
        have lS : l < s.heap.objs.size := Heap.lt_size hol
        have h3 : A.in1.in1.in1.handled = none := hh
        have sz : (s.heap.push (set0 ld)).objs.size = s.heap.objs.size + 1 := Heap.size_push ..
        have lI : l ≠ (s.heap.push (set0 ld)).objs.size := by
          rw [sz]
          exact Nat.ne_of_lt (Nat.lt_succ_of_lt lS)
        have oS : s.heap.objs.size ∉ [(s.heap.push (set0 ld)).objs.size, l] := by
          rw [sz]
          simp only [List.mem_cons, List.not_mem_nil, or_false, not_or]
          exact ⟨Nat.ne_of_lt (Nat.lt_succ_self _), (Nat.ne_of_lt lS).symm⟩
        have xsz : xs.length = items.size := by
          rw [← StrsAre.len_eq hi]
          simp
        have val : ∀ (i : Nat) (v : Value), items[i]? = some v → ∃ t, v = .str (xs.getD i Str.empty) t := fun i v hv => strs_at hi i v ((Array.getElem?_toList ..).trans hv)
        refine update_strs ((Walks.list h3 _ l lI items).toS) s.heap.objs.size oS xs xsz (by omega) val (items.size - 0) 0 _ (by omega) (Nat.zero_le _) ⟨⟨_, Heap.get?_push_size _ rfl, rfl, rfl⟩, is1.push _⟩ ⟨0, Cn.nil, ?_⟩ fun z hm hS => ?_
        · exact PyProof.Rows.SetOf_congr ((PyProof.Rows.setObjOf_fresh (knd := PySem.strKind prog w) ld).setOf (Heap.get?_push_of_some _ at0) (by unfold scanBound; omega)) (fun _ => rfl) rfl
        · obtain ⟨h', g', d', tk', os'⟩ := z
          cases (hm.gens : g' = s.gens)
          cases (hm.drawn : d' = s.drawn)
          cases (hm.os : os' = s.os)
          show wpAny _ _ _ _ _ _
          refine wpAny_pure (show wpAny _ _ (ret Value.none) _ _ _ from wpAny_pure ⟨rfl, h', tk', rfl, hS, fun b o e => ?_⟩)
          have bl := Heap.lt_size e
          refine hm.heap b o ?_ (Heap.get?_push_of_some _ (Heap.get?_push_of_some _ e))
          simp only [List.mem_cons, List.not_mem_nil, or_false, not_or]
          exact ⟨Nat.ne_of_lt bl, by rw [sz]; exact Nat.ne_of_lt (Nat.lt_succ_of_lt bl)⟩
      · cases r₂ with
        | error e => exact hr₂
        | ok fl₂ =>
          cases fl₂ with
          | ret r =>
            obtain ⟨rfl, h', tk, rfl, gS, gk⟩ := hr₂
            repeat (any_goals (first | assumption | wp_step))
            exact h _ _ gS gk
          | _ => exact hr₂.elim
    | _ => exact hr.elim
end
end St
namespace St
open PySem PySem.Spec PyProof.Rows L2 Sh
/-- len(set(xs)) of texts -/
def tLenStrs (K : PySem.W.Frag) (ta : TE) : TE := fun σ H Q => ta σ H fun x H1 => ∃ (l : Addr) (xs : List Str), x = .ref l ∧ (SqL K H1 l (xs.map V.str) ∨ SqT K H1 l (xs.map V.str)) ∧ xs.length < 200 ∧ ∀ c : Nat, Cn xs c → Q (.int c) H1
theorem pe_lenStrs {X : Cx} {a : Expr} {ta : TE} {p p2 q pos : Pos} (hc : X.calm = true) (hg : Gl X "len") (hm : X.mg "len" = none) (hg2 : Gl X "set") (hm2 : X.mg "set" = none) (ha : PE X a ta)
    (na : starEach [a] X.env = (false, eval a X.env) :: starEach [] X.env := by rfl) : PE X (.Call (.Name "len" p) [.Call (.Name "set" p2) [a] [] q] [] pos) (tLenStrs X.K ta) := by
  refine ⟨fun pins s σ H Q I h => Call_ (ld_blt I hg hm boot_len ?_)⟩
  refine PyProof.Rows.callWith_builtin1 (PyProof.Rows.args_cons (Call_ (ld_blt I hg2 hm2 boot_set ?_)) rfl) rfl rfl
  refine PyProof.Rows.callWith_type1 (PyProof.Rows.args_cons (thn (ha.run pins s σ H _ I h) fun v s1 ⟨x, H1, J, r1, l, xs, e, hq, few, q1⟩ => PyProof.Rows.args_nil ?_) na) na rfl
  subst e
  cases r1
  have fin : ∀ (h' : Heap) (tk : Nat), SetS X.prog X.w h' s1.heap.objs.size xs → (∀ b o, s1.heap.get? b = some o → h'.get? b = some o) →
      wpAny (model X.prog X.w) X.A (spliced (backTo pos (starEach [] X.env))) (fun vs s₂ => wpAny (model X.prog X.w) X.A (call (.builtin "len") (Value.ref s1.heap.objs.size :: vs)) (EP X pins σ Q) X.xe s₂) X.xe { s1 with heap := h', toks := tk } := fun h' tk hS hk => by
    obtain ⟨c, hc, o, es, ep, t, ho, hex, hd, _, _, _, hf, hn⟩ := hS
    have J2 : L2.Inv X pins σ H1 { s1 with heap := h', toks := tk } := J.kept hk
    have := hc.le
    exact PyProof.Rows.args_nil (call_len_set ho hex hd hf (by rw [hn]; omega) ⟨.int c, H1, J2.tok _, ⟨_, by rw [hn]⟩, q1 c hc⟩)
  rcases hq with hq | hq
  · obtain ⟨its, r, pl, hz⟩ := J.list hq
    exact set_list (J.ok.hd hc) pl.isList (by simpa using strsAre_of r) few fin
  · obtain ⟨its, r, pl, hz⟩ := J.tuple hq
    exact set_tup (J.ok.hd hc) pl (by simpa using strsAre_of r) few fin
end St

/-! own[..], .. in own; raised errors with a field; several except clauses with names -/
namespace Cn
open PySem PySem.Spec PyProof.Rows L2 Sh Eo LamX Xc Cl
theorem contains_K {M : Model} {A : Around} {E : Value → Shared → Prop} {s : Shared} {K : W.Frag} {x C f : Addr} {ox : Obj} {od : Option Obj} {u : Value} {Q : Bool → Shared → Prop} (kx : K.In s.heap) (ia : W.InstAt s.heap x ox C od)
    (hs : W.findIn K (.ref C) "__contains__" = some (some (.ref f))) (hf : W.isFn K (.ref f) = true) (q : codeAny M A (.call (.ref f) ⟨[.ref x, u], []⟩) (fun r s' => match r with | .ok (.ret v) => ∃ b, v = .bool b ∧ Q b s' | .ok _ => False | .error e => E e s') s) : wpAny M A (contains (.ref x) u) Q E s := by
  unfold contains callSpecialUnlessNone? specialOf
  have t1 := ia.type (M := M)
  have t2 := W.looks_findIn (M := M) kx hs
  have t3 := W.bind_fn (M := M) kx (.ref x) (beq_iff_eq.mp hf)
  cases s with
  | mk h g d t os =>
  repeat (first
    | with_reducible refine t1.at ?_
    | with_reducible refine t2.at ?_
    | with_reducible refine t3.at ?_
    | wp_step)
  refine codeAny_mono q fun r s' z => ?_
  cases r with
  | error e => exact z
  | ok fl =>
    cases fl with
    | ret v =>
      obtain ⟨b, rfl, z2⟩ := z
      refine wpAny_pure ?_
      cases s'
      repeat wp_step
      exact z2
    | next => exact z
    | brk => exact z
    | cont => exact z
section
variable {X : Cx} {CX : CXT} {C g : Addr} {n : Nat} {sp : Sp} {E : XK}
/-- own[x] -/
def rGetO (C : Addr) (sp : Sp) (E : XK) : R2 := fun x y H Q => ∃ a dx fs, x = .ref a ∧ H a = some (.ins C dx fs) ∧ sp [x, y] H Q E
theorem pe_getO {a b : Expr} {ta tb : TE} {pos : Pos} (hs : W.findIn X.K (.ref C) "__getitem__" = some (some (.ref g))) (hf : W.fnIn X.K g = true) (hfn : W.isFn X.K (.ref g) = true) (F : FnR X.prog X.w X.K X.mg X.base CX n g sp) (hr : Room (n + 1) X.A) (hx : Passes CX X E)
    (ha : PE X a ta) (hb : PE X b tb) (hsl : ∀ o i, subscripted b true o i = runValue (.builtin "lifetime.subscript" ⟨[o, i], []⟩) := by intros; with_unfolding_all rfl) : PE X (.Subscript a b pos) (tOp (rGetO C sp E) ta tb) := by
  refine ⟨fun pins s σ H Q I h => Subscript_ (binT ha hb I h fun v u s2 x y H2 I2 rx ry q => ?_)⟩
  obtain ⟨a, dx, fs, rfl, hA, q⟩ := q
  cases rx
  obtain ⟨od, ia⟩ := Ow.ins_at I2 hA
  obtain ⟨m, fr⟩ := I2.fr
  exact W.sub_K fr I2.ok.mod.kin ia hs hf hfn (wpAny_call (SlX.run_at F (room_in hr) (env_in I2.env0) hx I2 (show Vals [V.ref a, y] [Value.ref a, u] from .cons rfl (.cons ry .nil)) q)) (hsl _ _)
def rInO (C : Addr) (sp : Sp) (E : XK) (neg : Bool) : R2 := fun x y H Q => ∃ a dx fs, y = .ref a ∧ H a = some (.ins C dx fs) ∧ sp [y, x] H (fun v H' => ∃ b, v = .bl b ∧ Q (.bl (if neg then !b else b)) H') E
theorem op_inO (hs : W.findIn X.K (.ref C) "__contains__" = some (some (.ref g))) (hfn : W.isFn X.K (.ref g) = true) (F : FnR X.prog X.w X.K X.mg X.base CX n g sp) (hr : Room (n + 1) X.A) (hx : Passes CX X E) : OpR X (compareOp .In) (rInO C sp E false) := by
  intro pins s σ H x y v u Q I rx ry h
  obtain ⟨a, dx, fs, rfl, hA, q⟩ := h
  cases ry
  obtain ⟨od, ia⟩ := Ow.ins_at I hA
  obtain ⟨m, fr⟩ := I.fr
  show wpAny _ _ (contains (.ref a) v >>= fun b => pure (Value.bool b)) _ _ _
  refine wpAny_bind (contains_K I.kIn ia hs hfn (codeAny_mono (SlX.run_at F (hr.mono (by omega)) I.env0 hx I (show Vals [V.ref a, x] [Value.ref a, v] from .cons rfl (.cons rx .nil)) q) fun r s' z => ?_))
  cases r with
  | error e => exact z
  | ok fl =>
    cases fl with
    | ret w =>
      obtain ⟨z', H', I', rz, b, rfl, qz⟩ := z
      exact ⟨b, rz, wpAny_pure ⟨.bl b, H', I', rfl, qz⟩⟩
    | next => exact z
    | brk => exact z
    | cont => exact z
theorem op_ninO (hs : W.findIn X.K (.ref C) "__contains__" = some (some (.ref g))) (hfn : W.isFn X.K (.ref g) = true) (F : FnR X.prog X.w X.K X.mg X.base CX n g sp) (hr : Room (n + 1) X.A) (hx : Passes CX X E) : OpR X (compareOp .NotIn) (rInO C sp E true) := by
  intro pins s σ H x y v u Q I rx ry h
  obtain ⟨a, dx, fs, rfl, hA, q⟩ := h
  cases ry
  obtain ⟨od, ia⟩ := Ow.ins_at I hA
  obtain ⟨m, fr⟩ := I.fr
  show wpAny _ _ (contains (.ref a) v >>= fun b => pure (Value.bool !b)) _ _ _
  refine wpAny_bind (contains_K I.kIn ia hs hfn (codeAny_mono (SlX.run_at F (hr.mono (by omega)) I.env0 hx I (show Vals [V.ref a, x] [Value.ref a, v] from .cons rfl (.cons rx .nil)) q) fun r s' z => ?_))
  cases r with
  | error e => exact z
  | ok fl =>
    cases fl with
    | ret w =>
      obtain ⟨z', H', I', rz, b, rfl, qz⟩ := z
      exact ⟨b, rz, wpAny_pure ⟨.bl !b, H', I', rfl, qz⟩⟩
    | next => exact z
    | brk => exact z
    | cont => exact z
end
/-! ### an error with a field, raised -/
section
variable {X : Cx} {e : Expr} {es : List Expr} {ta : TA} {p pos : Pos} {C : Addr} {B newId initId : String} {bmB bm0 : List Value}
theorem pmk_field {CX : CXT} {x : Str} {fI : Addr} {k : Nat} {fd : FuncData} {ps : List Str} {sp : Sp} (FB : ExcBaseFacts B newId initId bm0) (tl : PySem.Eo.Tail B bmB) (T : OexG X.K C bmB newId) (bC : PySem.W.subIn X.K (.ref C) (.type "BaseException") = some true) (tC : PySem.W.typeIn X.K (.ref C) = some (.type "type"))
    (iC : PySem.W.findIn X.K (.ref C) "__init__" = some (some (.ref fI))) (tI : PySem.W.typeIn X.K (.ref fI) = some (.type "function"))
    (F1 : FnOk X.prog X.w X.K X.mg X.base CX k fI fd ps sp) (hr : Room (k + 1) X.A) (hb : Binds X.K fd ps []) (hx : Passes CX X (fun _ _ _ => False)) (hg : Gl X x) (hm : X.mg x = some (.ref C)) (ha : PA X (e :: es) ta)
    (hdb : (x == ("__debug__" : Str)) = false := by decide) (he : starEach (e :: es) X.env = (false, eval e X.env) :: starEach es X.env := by rfl) (hpl : (backTo pos (starEach es X.env)).any (·.1) = false := by rfl) :
    PMk X (.Call (.Name x p) (e :: es) [] pos) (tMkO C sp [] ta) := by
  intro pins s σ H Q I h
  refine wpAny_Call_Name_kw (ld_glob I hg hm ?_ hdb)
  refine PySem.W.callWith_K (h₀ := X.base) I.ok.mod.kin T.kC (thn (ha.run pos pins s σ H _ I h) fun us s1 ⟨vs, H1, I1, r1, hz, q1⟩ => ⟨I1.kIn, ?_⟩) he hpl
  show wpAny _ _ (call (.ref C) us) _ _ _
  obtain ⟨hp, g, dr, tk, os⟩ := s1
  obtain ⟨nm, N, q, bs, bm, hdct, sn, sub, ab, col, dd, k0, k1, k2, k3, k5, hC, hT⟩ := PySem.W.excInit_of I1.kIn T.q
  have more : hp.objs.size ≤ hp.objs.size + 1 := Nat.le_succ _
  have hn : H1 (hp.objs.size + 1) = none := I1.hok.fresh more
  have kk : ∀ b o, hp.get? b = some o → ((hp.push (PySem.W.kdv_tup us)).push (PySem.HandSPX.excO C hp.objs.size)).get? b = some o := fun b o z => Heap.get?_push_of_some _ (Heap.get?_push_of_some _ z)
  have got : ((hp.push (PySem.W.kdv_tup us)).push (PySem.HandSPX.excO C hp.objs.size)).get? (hp.objs.size + 1) = some (PySem.HandSPX.excO C hp.objs.size) := by heap_get
  have J2 : L2.Inv X pins σ (upd H1 (hp.objs.size + 1) (exo (hp.objs.size + 1) C none)) ⟨(hp.push (PySem.W.kdv_tup us)).push (PySem.HandSPX.excO C hp.objs.size), g, dr, tk, os⟩ :=
    I1.laid (t' := tk) (a := hp.objs.size + 1) (o := exo (hp.objs.size + 1) C none) kk more (exo_ok got)
  have hq := q1 _ hn
  rw [List.append_nil] at hq
  have r2 : Vals (V.ref (hp.objs.size + 1) :: vs) (Value.ref (hp.objs.size + 1) :: us) := .cons rfl r1
  have hl : (Value.ref (hp.objs.size + 1) :: us).length = ps.length := r2.length.symm.trans (F1.len _ _ _ _ hq)
  have b2 := hb _ (Value.ref (hp.objs.size + 1) :: us) J2.kIn (by rw [List.append_nil]; exact hl)
  rw [List.append_nil] at b2
  have hus : us.length ≤ sizeLine := by
    have := r1.length
    rw [sizeLine_eq]
    omega
  refine wpAny_call (PySem.Eo.call_made FB (.of hT tl) hC (PySem.W.looks_findIn I1.kIn iC) (fun self => PySem.W.bind_fn I1.kIn self tI) hus
    (codeAny_mono (F1.run _ X.stack _ _ ⟨Value.ref (hp.objs.size + 1) :: us, []⟩ _ _ _ (fun _ _ _ => False) (hr.make C us []) (J2.env0.make C us []) b2 r2 hq) fun r s' hq' => ?_))
  cases r with
  | error er => exact hx pins σ _ _ er s' J2 hq'
  | ok fl =>
    cases fl with
    | ret u =>
      obtain ⟨v, H2, os2, bare2, un2, hok2, rv, ev, d, fs, ea, ed, hd1, q2⟩ := hq'
      subst ev
      obtain ⟨h2, g2, d2, t2, os'⟩ := s'
      exact ⟨rv, mk_end (raises_own bC tC) I1 more kk un2 hok2 os2 bare2 ea ed hd1 q2⟩
    | next => exact hq'.elim
    | brk => exact hq'.elim
    | cont => exact hq'.elim
end
/-! ### several except clauses, some with a name -/
/-- the ends of a clause whose name stands in slot i -/
def endN (i : Nat) (D : Ends) : Ends := { nx := fun σ H => D.nx (σ.set i none) H, rt := D.rt, bk := fun σ H => D.bk (σ.set i none) H, ct := fun σ H => D.ct (σ.set i none) H }
abbrev Clause : Type := Value × Option Nat × (Addr → Value → Option Addr → TS)
def suiteW (c : Clause) (D : Ends) (cls : Value) (d : Option Addr) (σ : L2.St) (H : Hp) : Prop := ∀ a, H a = none → match c.2.1 with
  | none => c.2.2 a cls d D σ H
  | some i => c.2.2 a cls d (endN i D) (σ.set i (some (.ref a))) H
def wAny (K : PySem.W.Frag) (Wout : WX) (D : Ends) : List Clause → WX
  | [] => Wout
  | c :: r => fun cls d σ H => ∃ b, PySem.W.exmOne K cls c.1 = some b ∧ (b = true → suiteW c D cls d σ H) ∧ (b = false → wAny K Wout D r cls d σ H)
def SuiteOk (X : Cx) (body : List Stmt) (ts : Addr → Value → Option Addr → TS) : Prop := ∀ (a : Addr) (oe : Obj) (cls : Value) (d : Option Addr) (pn : List (Addr × Obj)), Zc cls d oe → (∃ vs, oe.data = .fields vs) → PSs (X.suite a ((a, oe) :: pn)) body (ts a cls d)
inductive ClausesOk (X : Cx) : List ExceptHandler → List Clause → Prop
  | nil : ClausesOk X [] []
  | plain {x : Str} {c : Value} {ts : Addr → Value → Option Addr → TS} {b₀ : Stmt} {bs : List Stmt} {p q : Pos} {hds : List ExceptHandler} {l : List Clause} : Names X x c → SuiteOk X (b₀ :: bs) ts → ClausesOk X hds l → ClausesOk X (.ExceptHandler (some (.Name x p)) none (b₀ :: bs) q :: hds) ((c, none, ts) :: l)
  | named {x n : Str} {i : Nat} {c : Value} {ts : Addr → Value → Option Addr → TS} {b₀ : Stmt} {bs : List Stmt} {p q : Pos} {hds : List ExceptHandler} {l : List Clause} : Names X x c → X.N.Nodup → X.N[i]? = some n → X.env.kindOf n = some .local → SuiteOk X (b₀ :: bs) ts → ClausesOk X hds l → ClausesOk X (.ExceptHandler (some (.Name x p)) (some n) (b₀ :: bs) q :: hds) ((c, some i, ts) :: l)
section
variable {X : Cx} {body : List Stmt} {h₀ : ExceptHandler} {hds : List ExceptHandler} {l : List Clause} {pos : Pos} {tb : WX → TS} {Wout : WX}
theorem ps_try_any (hs : X.stack = X.env :: X.outer) (hf : X.env.frame = some X.env.locals) (tk : Takes X Wout)
    (hb : ∀ (W : WX) (pn : List (Addr × Obj)) (xe : Value → Shared → Prop), Takes (X.tr pn xe) W → PassesOwn (model X.prog X.w) X.A X.env xe → PSs (X.tr pn xe) body (tb W))
    (hh : ClausesOk X (h₀ :: hds) l) : PS X (.Try body (h₀ :: hds) [] [] pos) fun D σ H => tb (wAny X.K Wout D l) D σ H := by
  refine ⟨fun pins s σ H D I h => ?_⟩
  have ok := I.ok
  have hfr : X.A.frames = some (X.env :: X.outer) := ok.frames.trans (by rw [hs])
  refine wpAny_Try_except ?_
  have B := hb (wAny X.K Wout D l) (X.pn ++ pins) (fun e s₁ => wpAny (model X.prog X.w) X.A (noteFrame e X.env) (fun _ s₂ => wpAny (model X.prog X.w) X.A (setFlight e none) (fun _ s₃ =>
    wpAny (model X.prog X.w) X.A (handleBy e X.env (h₀ :: hds)) (SP X pins D) X.xe s₃) X.xe s₂) X.xe s₁) (fun u s' xx => ?_) PassesOwn.looking
  · refine wpAny_mono (B.run [] s σ H D (I.toTry _) h) (fun f s1 hsp => ?_) fun _ _ z => z
    cases f with
    | next =>
      obtain ⟨σ1, H1, J1, q⟩ := hsp
      exact wpAny_execs_nil ⟨σ1, H1, J1.ofTry ok, q⟩
    | brk =>
      obtain ⟨σ1, H1, J1, q⟩ := hsp
      exact ⟨σ1, H1, J1.ofTry ok, q⟩
    | cont =>
      obtain ⟨σ1, H1, J1, q⟩ := hsp
      exact ⟨σ1, H1, J1.ofTry ok, q⟩
    | ret u =>
      obtain ⟨v1, σ1, H1, J1, r, q⟩ := hsp
      exact ⟨v1, σ1, H1, J1.ofTry ok, r, q⟩
  · obtain ⟨a, Bd, sI, pins', σ', H', cls, d, rfl, J', nb, up, sky, na, os, ag, w⟩ := xx
    have J : L2.Inv X pins σ' H' sI := J'.ofTry ok
    show wpAny (model X.prog X.w) X.A (noteFrame (.ref a) X.env) _ _ _
    refine Sky.land (B := Bd) Zc.steady hfr hf (by rw [← hs]; exact sky) fun h3 fl3 up3 => ?_
    have J3 : L2.Inv X pins σ' H' { s' with heap := h3 } := J.landed nb fl3.1 (up.trans up3) os ag
    obtain ⟨oe3, vs3, he3, hz3, hd3⟩ := fl3.there
    have nfr : a ∉ frs (X.env :: X.outer) := fun hm => by
      obtain ⟨_, o', e', hnf⟩ := (fl3.2.2.1 : h3.FunFrames Bd (X.env :: X.outer)).mem hm
      cases he3.symm.trans e'
      exact hnf _ hd3
    have nL : a ≠ X.env.locals := fun z => nfr (List.mem_filterMap.mpr ⟨X.env, .head _, hf.trans (by rw [z])⟩)
    have nF : a ∉ X.fs := fun hm => by
      obtain ⟨e, he, q⟩ := List.mem_filterMap.mp hm
      exact nfr (List.mem_filterMap.mpr ⟨e, .tail _ he, q⟩)
    have S3 := J3.suite he3 hd3 na nL nF
    have go : ∀ {hk : List ExceptHandler} {lk : List Clause}, ClausesOk X hk lk → wAny X.K Wout D lk cls d σ' H' →
        wpAny (model X.prog X.w) X.A (handleBy (.ref a) X.env hk) (SP X pins D) X.xe { s' with heap := h3 } := by
      intro hk lk ck
      have test : ∀ {x : Str} {c : Value} {np : Pos} {Q : Value → Shared → Prop} {E : Value → Shared → Prop}, Names X x c → Q c { s' with heap := h3 } → wpAny (model X.prog X.w) (X.A.mark (some (.ref a))) (eval (.Name x np) X.env) Q E { s' with heap := h3 } := fun {x c np Q E} hc q => by
        obtain ⟨hg, hdbg, hm | ⟨hm, hv, hnn⟩⟩ := hc
        · exact ld_glob (X := X.suite a ((a, oe3) :: (X.pn ++ pins))) S3 hg hm q hdbg
        · exact ld_blt (X := X.suite a ((a, oe3) :: (X.pn ++ pins))) S3 hg hm hv q hnn hdbg
      have LT : PySem.W.Looks (model X.prog X.w) h3 (typeOf (.ref a)) cls := fun A Q E s k q => wpAny_typeOf_ref (k _ _ he3) (by rw [hz3.1]; exact q)
      induction ck with
      | nil =>
        intro w
        refine wpAny_handleBy_nil ?_
        obtain ⟨k1, k2, k3, oe, vs, T, oT, ts', he, hz, hd, h1, hr⟩ := id fl3
        unfold PySem.passOn
        refine wpAny_bind (wpAny_field he hd h1 ?_)
        rw [if_neg (by simp)]
        have out : wpAny (model X.prog X.w) X.A (setFlight (.ref a) X.env.frame) (fun _ s4 => wpAny (model X.prog X.w) X.A (throw (.ref a) : Sem Flow) (SP X pins D) X.xe s4) X.xe { s' with heap := h3 } := by
          rw [hf]
          refine HandSPX.setFlight_upZ fl3 fun h4 hh4 up4 => wpAny_throw (tk _ _ ⟨a, Bd, sI, pins, σ', H', cls, d, rfl, J, nb, (up.trans up3).trans up4, .inr (.inr (by rw [hs]; exact hh4)), na, os, ag, w⟩)
        first
          | exact wpAny_bind (wpAny_pure (wpAny_bind out))
          | exact wpAny_bind out
      | plain hc hsu rest ih =>
        intro w
        obtain ⟨b, hb1, hyes, hno⟩ := w
        refine wpAny_handleBy_cons (codeAny_handlers_test ?_) fun q => nomatch q
        refine test hc ((PySem.W.exm_one (M := model X.prog X.w) J3.kIn LT hb1).here ?_)
        cases b with
        | false => exact ih (hno rfl)
        | true =>
          refine codeAny_handlers_suite (HandSPX.lands_againZ fl3 fun h4 fl4 up4 => ?_)
          have J4 : L2.Inv X pins σ' H' { s' with heap := h4 } := J.landed nb fl4.1 ((up.trans up3).trans up4) os ag
          obtain ⟨oe4, vs4, he4, hz4, hd4⟩ := fl4.there
          refine wpAny_mono ((hsu a oe4 cls d (X.pn ++ pins) hz4 ⟨_, hd4⟩).run [] _ _ H' _ (J4.suite he4 hd4 na nL nF) (hyes rfl a na)) (fun f s6 hsp => ?_) fun _ _ z => z.elim
          cases f with
          | next =>
            obtain ⟨σ6, H6, T6, q6⟩ := hsp
            exact ⟨_, _, T6.unsuite ok, q6⟩
          | brk =>
            obtain ⟨σ6, H6, T6, q6⟩ := hsp
            exact ⟨_, _, T6.unsuite ok, q6⟩
          | cont =>
            obtain ⟨σ6, H6, T6, q6⟩ := hsp
            exact ⟨_, _, T6.unsuite ok, q6⟩
          | ret u =>
            obtain ⟨v6, σ6, H6, T6, r6, q6⟩ := hsp
            exact ⟨_, _, _, T6.unsuite ok, r6, q6⟩
      | named hc hN hi hln hsu rest ih =>
        intro w
        obtain ⟨b, hb1, hyes, hno⟩ := w
        refine wpAny_handleBy_cons (codeAny_handlers_test ?_) fun q => nomatch q
        refine test hc ((PySem.W.exm_one (M := model X.prog X.w) J3.kIn LT hb1).here ?_)
        cases b with
        | false => exact ih (hno rfl)
        | true =>
          refine codeAny_handlers_suite_as (HandSPX.lands_againZ fl3 fun h4 fl4 up4 => ?_)
          have J4 : L2.Inv X pins σ' H' { s' with heap := h4 } := J.landed nb fl4.1 ((up.trans up3).trans up4) os ag
          obtain ⟨oe4, vs4, he4, hz4, hd4⟩ := fl4.there
          refine store_ok (X := X.suite a ((a, oe4) :: (X.pn ++ pins))) (v := .ref a) (J4.suite he4 hd4 na nL nF) hN hi (.inl hln) rfl (fun s5 T5 => ?_) (.inr hln)
          refine wpAny_mono ((hsu a oe4 cls d (X.pn ++ pins) hz4 ⟨_, hd4⟩).run [] s5 _ H' _ T5 (hyes rfl a na)) (fun f s6 hsp => ?_) fun _ _ z => z.elim
          cases f with
          | next =>
            obtain ⟨σ6, H6, T6, q6⟩ := hsp
            exact gone_ok (T6.unsuite ok) hN hi hln fun s7 J7 => ⟨_, _, J7, q6⟩
          | brk =>
            obtain ⟨σ6, H6, T6, q6⟩ := hsp
            exact gone_ok (T6.unsuite ok) hN hi hln fun s7 J7 => ⟨_, _, J7, q6⟩
          | cont =>
            obtain ⟨σ6, H6, T6, q6⟩ := hsp
            exact gone_ok (T6.unsuite ok) hN hi hln fun s7 J7 => ⟨_, _, J7, q6⟩
          | ret u =>
            obtain ⟨v6, σ6, H6, T6, r6, q6⟩ := hsp
            exact gone_ok (T6.unsuite ok) hN hi hln fun s7 J7 => ⟨_, _, _, J7, r6, q6⟩
    exact go hh w
end
end Cn

/-! a helper that tells how a call was refused -/
namespace Cn
open PySem PySem.Spec PyProof.Rows L2 Sh Eo LamX Xc Cl
structure MetC (K : PySem.W.Frag) (mg : Str → Option Value) (Ce Cn Cs : Addr) : Prop where
  e : ErrC K mg "InvalidProgram" Ce
  gn : mg "UnknownName" = some (.ref Cn)
  gs : mg "UnknownSite" = some (.ref Cs)
  xn : XfC K Cn
  xs : XfC K Cs
  nn : PySem.W.findIn K (.ref Cn) "name" = some none
  ns : PySem.W.findIn K (.ref Cs) "site" = some none
  ne : PySem.W.exmOne K (.ref Cn) (.ref Ce) = some false
  n1 : PySem.W.exmOne K (.ref Cn) (.ref Cn) = some true
  se : PySem.W.exmOne K (.ref Cs) (.ref Ce) = some false
  sn : PySem.W.exmOne K (.ref Cs) (.ref Cn) = some false
  s1 : PySem.W.exmOne K (.ref Cs) (.ref Cs) = some true
def backs (zs : List V) (H : Hp) (Q : VK) : Prop := ∀ p, H p = none → Q (.ref p) (upd H p (.tup zs))
def fldB (f : Str) (d : Option Addr) (H : Hp) (Q : VK) : Prop := ∃ dd v, d = some dd ∧ H dd = some (.xd [(f, v)]) ∧ backs [.str f, v] H Q
def metE (Ce Cn Cs : Addr) (Q : VK) : XK := fun cls d H => (cls = .ref Ce ∧ backs [.str "refused", .int 0] H Q) ∨ (cls = .ref Cn ∧ fldB "name" d H Q) ∨ (cls = .ref Cs ∧ fldB "site" d H Q)
/-- a call, and what is told if it is refused -/
def TMetP (Ce Cn Cs : Addr) : (XK → Hp → VK → Prop) → Hp → VK → Prop := fun tl H Q => tl (metE Ce Cn Cs Q) H Q
section
variable {X : Cx}
theorem metP_gives {Ng : List Str} {nm a e q : Str} {sg : Scope} {g Ce Cn Cs : Addr} {cdg : Value} {j0 j1 j2 j3 k0 k1 k2 : Nat} {p1 p2 p3 p4 p5 p6 p7 p8 p9 q1 q2 q3 q4 q5 q6 q7 r1 r2 r3 r4 r5 r6 r7 pp : Pos} (T : MetC X.K X.mg Ce Cn Cs)
    (h1 : sg.names.lookup ("InvalidProgram" : Str) = some .globalImplicit) (h2 : sg.names.lookup ("UnknownName" : Str) = some .globalImplicit) (h3 : sg.names.lookup ("UnknownSite" : Str) = some .globalImplicit)
    (nd : Ng.Nodup) (hi : Ng[1]? = some e) (hle : sg.names.lookup e = some .local) (h0 : ∀ f : Addr, (L2.start Ng [V.ref f])[0]? = some (some (V.ref f)))
    (he1 : (e == ("__debug__" : Str)) = false) (he2 : (e == ("__classdict__" : Str)) = false) (hne : Ng.length = 2) :
    GivesTo X Ng nm sg g cdg [.Try [.Return (some (.Call (.Name a p1) [] [] p2)) p3] [
      .ExceptHandler (some (.Name "InvalidProgram" p4)) none [.Return (some (.Tuple [.Constant (.str "refused") j0 p5, .Constant (.int 0) j1 p6] k0 p7)) p8] p9,
      .ExceptHandler (some (.Name "UnknownName" q1)) (some e) [.Return (some (.Tuple [.Constant (.str "name") j2 q2, .Attribute (.Name e q3) "name" q4] k1 q5)) q6] q7,
      .ExceptHandler (some (.Name "UnknownSite" r1)) (some e) [.Return (some (.Tuple [.Constant (.str "site") j3 r2, .Attribute (.Name e r3) "site" r4] k2 r5)) r6] r7] [] [] pp] a q (TMetP Ce Cn Cs) := by
  intro f c' s H Q tl act hc h
  let Z : Cx := (cxOf C8.CX0 X.prog X.w X.K X.mg X.base Ng nm sg g cdg X.A X.stack s H C8.E0).nox
  have g1 : Gl Z "InvalidProgram" := h1
  have g2 : Gl Z "UnknownName" := h2
  have g3 : Gl Z "UnknownSite" := h3
  have named : ∀ {C : Addr} {fd : Str} {jj kk : Nat} {b1 b2 b3 b4 b5 : Pos}, XfC X.K C → PySem.W.findIn X.K (.ref C) fd = some none → SuiteOk Z [.Return (some (.Tuple [.Constant (.str fd) jj b1, .Attribute (.Name e b2) fd b3] kk b4)) b5] fun a cls d D σ H => cls = .ref C ∧ (1 < σ.length → σ[1]? = some (some (.ref a))) ∧ fldB fd d H D.rt := fun {C fd jj kk b1 b2 b3 b4 b5} TX hno a oe cls d pn hz hf => by
    refine ⟨fun pins s' σ H' D I h' => ?_⟩
    obtain ⟨rfl, k1, dd, v, rfl, k2, k3⟩ := h'
    have ln : 1 < σ.length := by
      have := I.len
      have e1 : σ.length = Ng.length := this
      omega
    have hv : PE (Z.suite a ((a, oe) :: pn)) (.Name e b2) _ := pe_var (i := 1) hi (.inl hle) he1 he2
    have hx : PE (Z.suite a ((a, oe) :: pn)) (.Attribute (.Name e b2) fd b3) _ := pe_xf (X := Z) TX hno hz hf hv
    have hc : PE (Z.suite a ((a, oe) :: pn)) (.Constant (.str fd) jj b1) _ := pe_str
    have ht : PE (Z.suite a ((a, oe) :: pn)) (.Tuple [.Constant (.str fd) jj b1, .Attribute (.Name e b2) fd b3] kk b4) _ := pe_tup (pa_cons hc (pa_cons hx pa_nil))
    refine (pss_one (ps_ret (pos := b5) ht)).run pins s' σ H' D I ?_
    exact ⟨_, k1 ln, rfl, rfl, dd, _, v, rfl, k2, by simp [List.lookup], len_ok, fun p np => k3 p np⟩
  refine ⟨_, pss_one (ps_try_any (X := Z) (Wout := fun _ _ _ _ => False)
      (l := [(.ref Ce, none, fun _ _ _ D _ H => backs [.str "refused", .int 0] H D.rt), (.ref Cn, some 1, fun a cls d D σ H => cls = .ref Cn ∧ (1 < σ.length → σ[1]? = some (some (.ref a))) ∧ fldB "name" d H D.rt), (.ref Cs, some 1, fun a cls d D σ H => cls = .ref Cs ∧ (1 < σ.length → σ[1]? = some (some (.ref a))) ∧ fldB "site" d H D.rt)])
      (tb := fun W D σ H => ∃ Ech : XK, (∀ cls d σ' H', Ech cls d H' → W cls d σ' H') ∧ σ[0]? = some (some (.ref f)) ∧ H c' = some (CodeO c' q) ∧ tl Ech H D.rt)
      rfl rfl L2.takes0 (fun W pn xe tk _ => ?_) (.plain ⟨g1, by decide, .inl T.e.gC⟩ (fun a oe cls d pn hz hf => ?_) (.named ⟨g2, by decide, .inl T.gn⟩ nd hi hle (named T.xn T.nn) (.named ⟨g3, by decide, .inl T.gs⟩ nd hi hle (named T.xs T.ns) .nil)))), ?_⟩
  · refine ⟨fun pins s' σ H' D I h' => ?_⟩
    obtain ⟨Ech, hW, k1, k2, k3⟩ := h'
    exact (pss_one (ps_ret (pos := p3) (act W pn xe Ech p1 p2 tk hW))).run pins s' σ H' D I ⟨k1, k2, k3⟩
  · refine ⟨fun pins s' σ H' D I h' => ?_⟩
    have ht : PE (Z.suite a ((a, oe) :: pn)) (.Tuple [.Constant (.str "refused") j0 p5, .Constant (.int 0) j1 p6] k0 p7) _ := pe_tup (pa_cons pe_str (pa_cons pe_int pa_nil))
    exact (pss_one (ps_ret (pos := p8) ht)).run pins s' σ H' D I ⟨len_ok, fun p np => h' p np⟩
  · refine ⟨metE Ce Cn Cs Q, fun cls d σ' H' hw => ?_, h0 f, hc, h⟩
    have s1 : ∀ a : Addr, 1 < (σ'.set 1 (some (.ref a))).length → (σ'.set 1 (some (V.ref a)))[1]? = some (some (.ref a)) := fun a hl => List.getElem?_set_self (by rw [List.length_set] at hl; exact hl)
    rcases hw with ⟨rfl, hq⟩ | ⟨rfl, hq⟩ | ⟨rfl, hq⟩
    · exact ⟨true, T.e.exm, fun _ a ha => hq, fun z => nomatch z⟩
    · exact ⟨false, T.ne, (fun z => nomatch z), fun _ => ⟨true, T.n1, fun _ a ha => ⟨rfl, s1 a, hq⟩, fun z => nomatch z⟩⟩
    · exact ⟨false, T.se, (fun z => nomatch z), fun _ => ⟨false, T.sn, (fun z => nomatch z), fun _ => ⟨true, T.s1, fun _ a ha => ⟨rfl, s1 a, hq⟩, fun z => nomatch z⟩⟩⟩
end
end Cn

/-! tuples that are known to have no dict: made by tuple(list), asked by t.index(x) -/
namespace Fz
open PySem PySem.Spec PyProof.Rows L2
/-- a tuple on the heap that is known to have no dict -/
def FzT (H : Hp) (p : Addr) (xs : List V) : Prop := ∃ o : Obj, o.dict = none ∧ H p = some (.frz o (.tup xs))
theorem FzT.same {H H' : Hp} {p : Addr} {xs : List V} (h : FzT H p xs) (s : ∀ b o, H b = some o → H' b = some o) : FzT H' p xs := by
  obtain ⟨o, d, e⟩ := h
  exact ⟨o, d, s _ _ e⟩
theorem FzT.sq {K : PySem.W.Frag} {H : Hp} {p : Addr} {xs : List V} (h : FzT H p xs) : SqT K H p xs := by
  obtain ⟨o, d, e⟩ := h
  exact .inl (.inr ⟨o, e⟩)
theorem FzT.put {H : Hp} {p q : Addr} {xs : List V} {o : HO} (h : FzT H p xs) (n : p ≠ q) : FzT (upd H q o) p xs := by
  obtain ⟨o, d, e⟩ := h
  exact ⟨o, d, (upd_ne n).trans e⟩
section
variable {X : Cx}
theorem call_tuple_frz : CallR X (.type "tuple") (fun xs H Q => ∃ p ys, xs = [.ref p] ∧ SqL X.K H p ys ∧ ∀ l, H l = none → ∀ o : Obj, o.dict = none → Q (.ref l) (upd H l (.frz o (.tup ys)))) := by
  intro pins s σ H xs us Q I r h
  obtain ⟨p, ys, rfl, hq, q⟩ := h
  obtain ⟨u, rfl, rx⟩ := vals1 r
  cases rx
  obtain ⟨its, r', pl, hz⟩ := I.list hq
  have hlen := r'.length
  refine call_tuple_list pl.isList (fun h' kp => ?_) (by simp only [List.size_toArray] <;> omega)
  have I1 : Inv X pins σ H { s with heap := h' } := I.kept (t' := s.toks) kp
  have I2 : Inv X pins σ (upd H h'.objs.size (.frz { cls := .type "tuple", data := .seq its.toArray } (.tup ys))) { s with heap := h'.push { cls := .type "tuple", data := .seq its.toArray } } :=
    I1.laid (t' := s.toks) (fun b o e => Heap.get?_push_of_some _ e) (Nat.le_refl _) (show ObjOk X.prog X.w _ _ _ (.frz { cls := .type "tuple", data := .seq its.toArray } (.tup ys)) from ⟨Heap.get?_push_size _ rfl, hz, its, r', IsTup.new _ _⟩)
  exact ⟨.ref h'.objs.size, _, I2, rfl, q _ (I1.hok.fresh (Nat.le_refl _)) _ rfl⟩
def tIdx (r : V → List V → Hp → VK → Prop) (to : TE) (t : TA) : TE := fun σ H Q => to σ H fun x H1 => (∃ p ys, x = .ref p ∧ FzT H1 p ys) ∧ t σ H1 fun xs H2 => r x xs H2 Q
theorem frz_is {pins : List (Addr × Obj)} {σ : L2.St} {H : Hp} {s : Shared} {x : V} {v : Value} (I : Inv X pins σ H s) (r : RelV x v) (ty : ∃ p ys, x = .ref p ∧ FzT H p ys) :
    s.TypeIs v "tuple" ∧ ∀ a, v = .ref a → ∃ ob, s.heap.get? a = some ob ∧ ob.dict = none := by
  obtain ⟨p, ys, rfl, o, d, e⟩ := ty
  cases r
  obtain ⟨ho, _, _, _, o', e', c, _⟩ := (show ObjOk X.prog X.w H s.heap p (.frz o (.tup ys)) from I.hok p _ e)
  refine ⟨⟨o', e', c⟩, fun a z => ?_⟩
  cases z
  exact ⟨o, ho, d⟩
theorem pe_index {o e : Expr} {es : List Expr} {to : TE} {t : TA} {apos cpos : Pos} {r : V → List V → Hp → VK → Prop} (hm : MtR X "tuple.index" r) (ho : PE X o to) (ha : PA X (e :: es) t)
    (hbase : attributeBase o "index" X.env (eval o X.env) = eval o X.env := by rfl)
    (hfew : ((backTo cpos (starEach (e :: es) X.env)).all (fun x => !x.1) && (backToKw cpos (keywordEach [] X.env)).all (fun x => x.1.isSome)
      && decide ((e :: es).length + ([] : List Keyword).length + (if ([] : List Keyword).isEmpty then 0 else 1) < 30)) = true := by rfl)
    (hline : (apos.endLine == cpos.line) = true := by rfl) (hs : starEach (e :: es) X.env = (false, eval e X.env) :: starEach es X.env := by rfl) (hplain : (backTo cpos (starEach es X.env)).any (·.1) = false := by rfl) :
    PE X (.Call (.Attribute o "index" apos) (e :: es) [] cpos) (tIdx r to t) := by
  refine ⟨fun pins s σ H Q I h => ?_⟩
  refine wpAny_Call_method_late hbase hfew hline rfl (thn (ho.run pins s σ H _ I h) fun v s1 ⟨x, H1, I1, r1, ty, q1⟩ => ?_)
  obtain ⟨h1, h2⟩ := frz_is I1 r1 ty
  refine ⟨"tuple", "tuple.index", PySem.F.plainAttrs_tuple, PySem.F.slot_tuple_index, PySem.F.type_tuple_index, h1, h2, ?_⟩
  have hA := ha.run cpos pins s1 σ H1 _ I1 q1
  rw [hs] at hA ⊢
  refine Calls.callWith_builtin (by show (false || (backTo cpos (starEach es X.env)).any (·.1)) = false; rw [hplain] <;> rfl) (Calls.evalArgs_plain ?_)
  exact thn hA fun us s2 ⟨vs, H2, I2, r2, q2⟩ => hm pins s2 σ H2 x vs v us Q I2 r1 r2 q2
end
end Fz

namespace My
open PySem PySem.Spec PyProof.Rows L2 Sh Dt
open Cl (ErrC)
theorem passC0 (X : Cx) : Passes CX0 X E0 := fun _ _ _ _ _ _ _ h => h.elim
/-! ### bags -/
def isGe (n : Int) : PyData → Bool
  | .int i => decide (n ≤ i)
  | _ => false
def isBagL (n : Int) : PyData → Bool
  | .tuple ds => decide (1 ≤ ds.length) && (decide (ds.length ≤ 5) && ds.all (isGe n))
  | _ => false
def spEnt : Sp := fun vs H Q _ => ∃ v d n, vs = [v, .int n] ∧ D H v d ∧ sm d = true ∧ ∀ H', Same H H' → Q (.bl (isBagL n d)) H'
/-! ### procedures in a row -/
inductive PAll (C : Addr) (H : Hp) : List V → List Row → Prop
  | nil : PAll C H [] []
  | cons {a : Addr} {r : Row} {vs : List V} {rs : List Row} : Pr C H a r.1 r.2.1 r.2.2 → PAll C H vs rs → PAll C H (.ref a :: vs) (r :: rs)
theorem PAll.same {C : Addr} {H H' : Hp} {vs : List V} {rs : List Row} (s : Same H H') (h : PAll C H vs rs) : PAll C H' vs rs := by
  induction h with
  | nil => exact .nil
  | cons a _ ih => exact .cons (a.same s) ih
theorem PAll.len {C : Addr} {H : Hp} {vs : List V} {rs : List Row} (h : PAll C H vs rs) : vs.length = rs.length := by
  induction h with
  | nil => rfl
  | cons _ _ ih => rw [List.length_cons, List.length_cons, ih]
theorem PAll.get {C : Addr} {H : Hp} {vs : List V} {rs : List Row} (h : PAll C H vs rs) : ∀ {i : Nat} {v : V}, vs[i]? = some v → ∃ a r, v = .ref a ∧ rs[i]? = some r ∧ Pr C H a r.1 r.2.1 r.2.2 := by
  induction h with
  | nil => intro i v e; simp at e
  | @cons a r vs rs p _ ih =>
    intro i v e
    cases i with
    | zero =>
      cases e
      exact ⟨a, r, rfl, rfl, p⟩
    | succ i => exact ih e
theorem PAll.good {C : Addr} {H : Hp} {vs : List V} {rs : List Row} (h : PAll C H vs rs) : ∀ r ∈ rs, Good r.1 r.2.1 r.2.2 := by
  induction h with
  | nil => exact fun r hr => nomatch hr
  | cons p _ ih =>
    intro r hr
    rcases List.mem_cons.mp hr with rfl | hr
    · obtain ⟨_, _, _, _, _, _, g⟩ := p
      exact g
    · exact ih r hr
inductive OAll (C : Addr) (H : Hp) : List V → List (Option Row) → Prop
  | nil : OAll C H [] []
  | cons {a : Addr} {r : Row} {vs : List V} {os : List (Option Row)} : Pr C H a r.1 r.2.1 r.2.2 → OAll C H vs os → OAll C H (.ref a :: vs) (some r :: os)
  | str {z : Str} {vs : List V} {os : List (Option Row)} : OAll C H vs os → OAll C H (.str z :: vs) (none :: os)
theorem OAll.same {C : Addr} {H H' : Hp} {vs : List V} {os : List (Option Row)} (s : Same H H') (h : OAll C H vs os) : OAll C H' vs os := by
  induction h with
  | nil => exact .nil
  | cons a _ ih => exact .cons (a.same s) ih
  | str _ ih => exact .str ih
theorem OAll.len {C : Addr} {H : Hp} {vs : List V} {os : List (Option Row)} (h : OAll C H vs os) : vs.length = os.length := by
  induction h with
  | nil => rfl
  | cons _ _ ih => rw [List.length_cons, List.length_cons, ih]
  | str _ ih => rw [List.length_cons, List.length_cons, ih]
theorem OAll.get {C : Addr} {H : Hp} {vs : List V} {os : List (Option Row)} (h : OAll C H vs os) : ∀ {i : Nat} {v : V}, vs[i]? = some v → (∃ a r, v = .ref a ∧ os[i]? = some (some r) ∧ Pr C H a r.1 r.2.1 r.2.2) ∨ ∃ z, v = .str z ∧ os[i]? = some none := by
  induction h with
  | nil => intro i v e; simp at e
  | @cons a r vs os p _ ih =>
    intro i v e
    cases i with
    | zero =>
      cases e
      exact .inl ⟨a, r, rfl, rfl, p⟩
    | succ i => exact ih e
  | @str z vs os _ ih =>
    intro i v e
    cases i with
    | zero =>
      cases e
      exact .inr ⟨z, rfl, rfl⟩
    | succ i => exact ih e
theorem PAll.o {C : Addr} {H : Hp} {vs : List V} {rs : List Row} (h : PAll C H vs rs) : OAll C H vs (rs.map some) := by
  induction h with
  | nil => exact .nil
  | cons p _ ih => exact .cons p ih
theorem OAll.p {C : Addr} {H : Hp} {vs : List V} {os : List (Option Row)} (h : OAll C H vs os) (e : os.all Option.isSome = true) : ∃ rs, os = rs.map some ∧ PAll C H vs rs := by
  induction h with
  | nil => exact ⟨[], rfl, .nil⟩
  | @cons a r vs os p _ ih =>
    obtain ⟨rs, h1, h2⟩ := ih (by simpa using e)
    exact ⟨r :: rs, by rw [h1]; rfl, .cons p h2⟩
  | str _ _ => exact absurd e (by simp)
def rowsO (os : List (Option Row)) : List Row := os.filterMap id
theorem rowsO_some (rs : List Row) : rowsO (rs.map some) = rs := by
  induction rs with
  | nil => rfl
  | cons r rs ih =>
    show r :: rowsO (rs.map some) = _
    rw [ih]
theorem all_some (rs : List Row) : (rs.map some).all Option.isSome = true := by
  rw [List.all_map, List.all_eq_true]
  exact fun _ _ => rfl
def joined (n : Int) (rs : List Row) : Bool := rs.all fun r => areMoves r.2.1 n r.2.2 && r.2.2.all (nameOk (rs.map (·.1)))
def procsOk (os : List (Option Row)) : Bool := os.all Option.isSome && decide ((rowsO os).map (·.1)).Nodup
def spNamesOf (C : Addr) : Sp := fun vs H Q _ => ∃ t xs rs, vs = [.ref t] ∧ H t = some (.tup xs) ∧ PAll C H xs rs ∧ rs.length ≤ 60 ∧ ∀ p H', Same H H' → H p = none → Fz.FzT H' p ((rs.map (·.1)).map V.str) → Q (.ref p) H'
def spProcs (C : Addr) : Sp := fun vs H Q _ => ∃ t xs os, vs = [.ref t] ∧ H t = some (.tup xs) ∧ OAll C H xs os ∧ os.length ≤ 60 ∧ ∀ H', Same H H' → Q (.bl (procsOk os)) H'
def spJoined (C : Addr) : Sp := fun vs H Q _ => ∃ t xs rs n, vs = [.ref t, .int n] ∧ H t = some (.tup xs) ∧ PAll C H xs rs ∧ rs.length ≤ 60 ∧ (∀ r ∈ rs, ∀ m ∈ r.2.2, sm m = true) ∧ ∀ H', Same H H' → Q (.bl (joined n rs)) H'
theorem good_len {z : Str} {p : Int} {ms : List PyData} (g : Good z p ms) : ms.length ≤ 12 := by
  have := g.moves
  unfold areMoves at this
  rw [Bool.and_eq_true, decide_eq_true_iff] at this
  exact this.1
abbrev s_has_entries : Stmt := topS 15
abbrev Nhas_entries : List Str := ["value", "low", "entry"]
theorem sc_has_entries : FnScope Nhas_entries ["value", "low"] (defScope s_has_entries) := ⟨rfl, rfl, rfl, by decide +kernel, rfl, by decide +kernel, by decide +kernel⟩
abbrev s_is_bag : Stmt := topS 16
abbrev Nis_bag : List Str := ["value"]
theorem sc_is_bag : FnScope Nis_bag ["value"] (defScope s_is_bag) := ⟨rfl, rfl, rfl, by decide +kernel, rfl, by decide +kernel, by decide +kernel⟩
abbrev s_names_of : Stmt := topS 34
abbrev Nnames_of : List Str := ["procedures", "procedure"]
theorem sc_names_of : FnScope Nnames_of ["procedures"] (defScope s_names_of) := ⟨rfl, rfl, rfl, by decide +kernel, rfl, by decide +kernel, by decide +kernel⟩
abbrev s_are_procedures : Stmt := topS 32
abbrev Nare_procedures : List Str := ["values", "value"]
theorem sc_are_procedures : FnScope Nare_procedures ["values"] (defScope s_are_procedures) := ⟨rfl, rfl, rfl, by decide +kernel, rfl, by decide +kernel, by decide +kernel⟩
abbrev s_are_joined : Stmt := topS 33
abbrev Nare_joined : List Str := ["procedures", "modes", "names", "procedure", "move"]
theorem sc_are_joined : FnScope Nare_joined ["procedures", "modes"] (defScope s_are_joined) := ⟨rfl, rfl, rfl, by decide +kernel, rfl, by decide +kernel, by decide +kernel⟩
abbrev s_sites_of : Stmt := topS 35
abbrev Nsites_of : List Str := ["procedures", "kind", "procedure", "index", "move"]
theorem sc_sites_of : FnScope Nsites_of ["procedures", "kind"] (defScope s_sites_of) := ⟨rfl, rfl, rfl, by decide +kernel, rfl, by decide +kernel, by decide +kernel⟩
section
variable {P : Program} {w : World} {K : PySem.W.Frag} {mg : Str → Option Value} {base : Heap} {C Ce fI fO pO fE fL fS p1 g1 p2 g2 p3 g3 : Addr} {mc : Value}
theorem ok_has_entries {f f_is_integer : Addr} {fd fd_is_integer : FuncData} (F : Fun K "has_entries" "has_entries" s_has_entries f fd) (G_is_integer : FnOk P w K mg base CX0 1 f_is_integer fd_is_integer ["value"] (spOn isN)) (F_is_integer : Fun K "is_integer" "is_integer" s_is_integer f_is_integer fd_is_integer) (b_is_integer : Binds K fd_is_integer ["value"] []) (g_is_integer : mg "is_integer" = some (.ref f_is_integer)) {tk : Tok} (g_MOST_PROCEDURES : mg "MOST_PROCEDURES" = some (.int 5 tk)) (m_isinstance : mg "isinstance" = none) (m_tuple : mg "tuple" = none) (m_len : mg "len" = none) (m_all : mg "all" = none) :
    FnOk P w K mg base CX0 2 f fd ["value", "low"] spEnt := by
  refine F.ok sc_has_entries (fun vs H Q E h => ?_) (fun cdv A outer s H vs Q E hr h => ?_)
  · obtain ⟨v, d, n, rfl, _⟩ := h
    rfl
  · obtain ⟨v, d, n, rfl, hd, hs, q⟩ := h
    refine ⟨_, (pss_cons (ps_if (PW.pt (pw_or (pt_not (pt_val (pe_callB call_isD (by rfl) m_isinstance (by decide +kernel) (pa_cons (pv 0) (pa_cons (pe_bltn (v := .ty "tuple") (by rfl) m_tuple (by decide +kernel) rfl) pa_nil))))) (pw_or1 (pt_not (pt_chain op_le op_le pe_int (pe_callB call_len_seq (by rfl) m_len (by decide +kernel) (pa_cons (pv 0) pa_nil)) (pe_glob (v := .int 5) rfl g_MOST_PROCEDURES ⟨_, rfl⟩))))))
        (pss_one (ps_ret pe_bl))
        pss_nil)
      (pss_one (ps_ret (pe_callB (cr_all rfl) (by rfl) m_all (by decide +kernel) (pa_cons (pe_lc (own := [("entry", 2)]) (g := (gName 2)) (tt := tYes) rfl sc_has_entries.nd (pi_tup (pv 0)) (blkOk_by (N := Nhas_entries) (sc := defScope s_has_entries) (by decide +kernel))
      (fun _ _ _ _ _ => (pg_name (i := 2) sc_has_entries.nd rfl (Or.inl rfl))) (fun _ _ _ _ _ => pts_nil) (fun _ _ _ _ _ => (pe_and (pe_call G_is_integer (hr.mono (by decide)) (by rfl) g_is_integer F_is_integer.kp b_is_integer .nil pass0 (pa_cons (pv 2) pa_nil)) (pe_one (pe_cmpR op_ge (pv 2) (pv 1) (nomark _)))))) pa_nil))))), ?_⟩
    refine ⟨_, rfl, _, d, _, _, rfl, hd, kT d, _, rfl, ?_⟩
    cases d with
    | tuple ds =>
      cases hd with
      | @tup p xs ds e a =>
      obtain ⟨l60, sms⟩ := sm_tup.mp hs
      have ln := a.len
      refine iteF ⟨_, rfl, p, xs, rfl, .inr (.inl (.inl e)), 1, _, rfl, rfl, _, rfl, ite2 (fun e1 => ?_) (fun e1 => ?_)⟩
      · have l1 : 1 ≤ ds.length := by have := of_decide_eq_true e1; omega
        refine ⟨_, 5, rfl, rfl, _, rfl, ?_⟩
        by_cases e2 : ((xs.length : Nat) : Int) ≤ 5
        · rw [decide_eq_true e2]
          refine iteF ⟨_, rfl, p, rfl, ⟨_, .inl (.inl e)⟩, fun E0 nE => lc_all (f := isGe n) nE e a (by omega) (fun x d1 H2 hx mem s2 R hr => ⟨rfl, _, rfl, _, d1, rfl, hx, sms d1 mem, fun H3 s3 => ⟨_, rfl, ?_⟩⟩) (fun H3 s3 h3 => ⟨E0, _, rfl, .inl (.inl h3), ?_⟩)⟩
          · cases d1 with
            | int i =>
              cases hx
              exact iteT ⟨_, rfl, _, rfl, i, n, rfl, rfl, hr H3 s3⟩
            | _ => exact iteF (hr H3 s3)
          · have q : Q (.bl (decide (1 ≤ ds.length) && (decide (ds.length ≤ 5) && ds.all (isGe n)))) H3 := q H3 s3
            rw [decide_eq_true l1, decide_eq_true (show ds.length ≤ 5 by omega), Bool.true_and, Bool.true_and] at q
            rw [List.all_map]
            exact q
        · rw [decide_eq_false e2]
          have q : Q (.bl (decide (1 ≤ ds.length) && (decide (ds.length ≤ 5) && ds.all (isGe n)))) H := q H (Same.refl H)
          rw [decide_eq_false (show ¬ ds.length ≤ 5 by omega), Bool.false_and, Bool.and_false] at q
          exact iteT q
      · have e1 : ¬ (1 : Int) ≤ ((xs.length : Nat) : Int) := fun z => e1 (decide_eq_true z)
        have q : Q (.bl (decide (1 ≤ ds.length) && (decide (ds.length ≤ 5) && ds.all (isGe n)))) H := q H (Same.refl H)
        rw [decide_eq_false (show ¬ 1 ≤ ds.length by omega), Bool.false_and] at q
        exact ⟨false, rfl, iteT q⟩
    | _ => exact iteT (iteT (q H (Same.refl H)))
theorem ok_is_bag {f f_has_entries : Addr} {fd fd_has_entries : FuncData} (F : Fun K "is_bag" "is_bag" s_is_bag f fd) (G_has_entries : FnOk P w K mg base CX0 2 f_has_entries fd_has_entries ["value", "low"] spEnt) (F_has_entries : Fun K "has_entries" "has_entries" s_has_entries f_has_entries fd_has_entries) (b_has_entries : Binds K fd_has_entries ["value", "low"] []) (g_has_entries : mg "has_entries" = some (.ref f_has_entries)) : FnOk P w K mg base CX0 3 f fd ["value"] (spOn (isBagL 0)) := by
  refine F.ok sc_is_bag (fun vs H Q E h => ?_) (fun cdv A outer s H vs Q E hr h => ?_)
  · obtain ⟨v, d, rfl, _⟩ := h
    rfl
  · obtain ⟨v, d, rfl, hd, hs, q⟩ := h
    refine ⟨_, (pss_one (ps_ret (pe_call G_has_entries (hr.mono (by decide)) (by rfl) g_has_entries F_has_entries.kp b_has_entries .nil pass0 (pa_cons (pv 0) (pa_cons pe_int pa_nil))))), ?_⟩
    exact ⟨_, rfl, v, d, 0, rfl, hd, hs, q⟩
theorem ok_names_of {f : Addr} {fd : FuncData} (F : Fun K "names_of" "names_of" s_names_of f fd) (c : PcdC K mg C fI fO pO fE fL fS p1 g1 p2 g2 p3 g3 mc) {fdg1 : FuncData} (G_g1 : FnOk P w K mg base CX0 1 g1 fdg1 ["self"] (getSp C "_called")) (b_g1 : Binds K fdg1 ["self"] []) {fdg2 : FuncData} (G_g2 : FnOk P w K mg base CX0 1 g2 fdg2 ["self"] (getSp C "_points")) (b_g2 : Binds K fdg2 ["self"] []) {fdg3 : FuncData} (G_g3 : FnOk P w K mg base CX0 1 g3 fdg3 ["self"] (getSp C "_moves")) (b_g3 : Binds K fdg3 ["self"] []) (m_tuple : mg "tuple" = none) : FnOk P w K mg base CX0 3 f fd ["procedures"] (spNamesOf C) := by
  refine F.ok sc_names_of (fun vs H Q E h => ?_) (fun cdv A outer s H vs Q E hr h => ?_)
  · obtain ⟨t, xs, rs, rfl, _⟩ := h
    rfl
  · obtain ⟨t, xs, rs, rfl, ht, hp, l60, q⟩ := h
    refine ⟨_, (pss_one (ps_ret (pe_callTy Fz.call_tuple_frz (by rfl) m_tuple (by decide +kernel) (pa_cons (pe_lc (own := [("procedure", 1)]) (g := (gName 1)) (tt := tYes) rfl sc_names_of.nd (pi_tup (pv 0)) (blkOk_by (N := Nnames_of) (sc := defScope s_names_of) (by decide +kernel))
      (fun _ _ _ _ _ => (pg_name (i := 1) sc_names_of.nd rfl (Or.inl rfl))) (fun _ _ _ _ _ => pts_nil) (fun _ _ _ _ _ => (pe_prop (pv 1) c.cls c.q1 G_g1 (hr.mono (by decide)) b_g1 .nil (passC0 _) rfl))) pa_nil)))), ?_⟩
    have ln := hp.len
    refine ⟨_, rfl, t, rfl, ⟨_, .inl (.inl ht)⟩, fun D0 nD => ?_⟩
    refine lc_tup (xs := xs) (fun i H1 => Same H H1 ∧ H1 D0 = some (.lst (((rs.take i).map (·.1)).map V.str))) ⟨same_new (Same.refl H) nD, upd_same⟩ (fun i H1 _ hq => .inl (.inl (hq.1 _ _ ht))) (fun i x H1 hx hq => ?_) (fun H1 hq => ?_)
    · obtain ⟨s1, l1⟩ := hq
      obtain ⟨a, r, rfl, hr, dx, u, ys, a1, a2, a3, ga⟩ := hp.get hx
      refine ⟨rfl, _, rfl, a, dx, _, rfl, s1 _ _ a1, a, dx, _, _, rfl, s1 _ _ a1, rfl, _, l1, ?_, same_put s1 nD, ?_⟩
      · rw [List.length_map, List.length_map, List.length_take]
        exact small1000 (Nat.le_trans (Nat.min_le_left _ _) (by have := (List.getElem?_eq_some_iff.mp hr).1; omega))
      · rw [upd_same, List.take_add_one, hr, List.map_append, List.map_append]
        rfl
    · obtain ⟨s1, l1⟩ := hq
      rw [ln, List.take_of_length_le (Nat.le_refl _)] at l1
      exact ⟨D0, _, rfl, .inl (.inl l1), fun p np o od => q p _ (same_new s1 np) (s1.free np) ⟨o, od, upd_same⟩⟩
theorem ok_are_procedures {f f_names_of : Addr} {fd fd_names_of : FuncData} (F : Fun K "are_procedures" "are_procedures" s_are_procedures f fd) (c : PcdC K mg C fI fO pO fE fL fS p1 g1 p2 g2 p3 g3 mc) (G_names_of : FnOk P w K mg base CX0 3 f_names_of fd_names_of ["procedures"] (spNamesOf C)) (F_names_of : Fun K "names_of" "names_of" s_names_of f_names_of fd_names_of) (b_names_of : Binds K fd_names_of ["procedures"] []) (g_names_of : mg "names_of" = some (.ref f_names_of)) (m_isinstance : mg "isinstance" = none) (m_all : mg "all" = none) (m_len : mg "len" = none) (m_set : mg "set" = none) : FnOk P w K mg base CX0 4 f fd ["values"] (spProcs C) := by
  refine F.ok sc_are_procedures (fun vs H Q E h => ?_) (fun cdv A outer s H vs Q E hr h => ?_)
  · obtain ⟨t, xs, os, rfl, _⟩ := h
    rfl
  · obtain ⟨t, xs, os, rfl, ht, ho, l60, q⟩ := h
    refine ⟨_, (pss_cons (ps_if (pt_not (pt_val (pe_callB (cr_all rfl) (by rfl) m_all (by decide +kernel) (pa_cons (pe_lc (own := [("value", 1)]) (g := (gName 1)) (tt := tYes) rfl sc_are_procedures.nd (pi_tup (pv 0)) (blkOk_by (N := Nare_procedures) (sc := defScope s_are_procedures) (by decide +kernel))
      (fun _ _ _ _ _ => (pg_name (i := 1) sc_are_procedures.nd rfl (Or.inl rfl))) (fun _ _ _ _ _ => pts_nil) (fun _ _ _ _ _ => (pe_callB (id := "isinstance") (r := rIsi K) call_isi (by rfl) m_isinstance (by decide +kernel) (pa_cons (pv 1) (pa_cons (pe_glob (v := .ref C) rfl c.gP rfl) pa_nil))))) pa_nil))))
        (pss_one (ps_ret pe_bl))
        pss_nil)
      (pss_one (ps_ret (pe_cmpR op_eq (St.pe_lenStrs rfl (by rfl) m_len (by rfl) m_set (pe_call G_names_of (hr.mono (by decide)) (by rfl) g_names_of F_names_of.kp b_names_of .nil pass0 (pa_cons (pv 0) pa_nil))) (pe_callB call_len_seq (by rfl) m_len (by decide +kernel) (pa_cons (pv 0) pa_nil)) (nomark _))))), ?_⟩
    have ln := ho.len
    refine ⟨_, rfl, t, rfl, ⟨_, .inl (.inl ht)⟩, fun D0 nD => ?_⟩
    refine lc_tup (xs := xs) (fun i H1 => Same H H1 ∧ H1 D0 = some (.lst (((os.take i).map Option.isSome).map V.bl))) ⟨same_new (Same.refl H) nD, upd_same⟩ (fun i H1 _ hq => .inl (.inl (hq.1 _ _ ht))) (fun i x H1 hx hq => ?_) (fun H1 hq => ?_)
    · obtain ⟨s1, l1⟩ := hq
      have hi := (List.getElem?_eq_some_iff.mp hx).1
      have fin : ∀ b : Bool, (os.map Option.isSome)[i]? = some b → ∃ acc, H1 D0 = some (.lst acc) ∧ acc.length < sizeLine ∧ (Same H (upd H1 D0 (.lst (acc ++ [V.bl b]))) ∧ (upd H1 D0 (.lst (acc ++ [V.bl b]))) D0 = some (.lst (((os.take (i + 1)).map Option.isSome).map V.bl))) := fun b hb => by
        refine ⟨_, l1, ?_, same_put s1 nD, ?_⟩
        · rw [List.length_map, List.length_map, List.length_take]
          exact small1000 (Nat.le_trans (Nat.min_le_left _ _) (by omega))
        · rw [List.getElem?_map] at hb
          rw [upd_same, List.take_add_one]
          cases e : os[i]? with
          | none =>
            rw [e] at hb
            cases hb
          | some o =>
            rw [e] at hb
            cases hb
            rw [List.map_append, List.map_append]
            rfl
      rcases ho.get hx with ⟨a, r, rfl, hr, dx, u, ys, a1, a2, a3, ga⟩ | ⟨z, rfl, hr⟩
      · exact ⟨rfl, _, rfl, _, _, _, _, true, rfl, .own C, .base (.ins (s1 _ _ a1) c.cls c.c1 c.c2 c.c3 c.c4), c.k1, fin true (by rw [List.getElem?_map, hr]; rfl)⟩
      · exact ⟨rfl, _, rfl, _, _, _, _, false, rfl, .own C, .base (.str z), c.k3, fin false (by rw [List.getElem?_map, hr]; rfl)⟩
    · obtain ⟨s1, l1⟩ := hq
      rw [ln, List.take_of_length_le (Nat.le_refl _)] at l1
      refine ⟨D0, _, rfl, .inl (.inl l1), _, rfl, ?_⟩
      rw [List.all_map]
      cases e1 : os.all (id ∘ Option.isSome) with
      | false =>
        refine iteT ?_
        have := q H1 s1
        unfold procsOk at this
        rw [show os.all Option.isSome = false from e1] at this
        exact this
      | true =>
        obtain ⟨rs, rfl, hp⟩ := ho.p e1
        rw [List.length_map] at l60 ln
        refine iteF ⟨_, rfl, t, xs, rs, rfl, s1 _ _ ht, hp.same s1, l60, fun p H2 s2 np hpn => ⟨p, rs.map (·.1), rfl, .inr hpn.sq, by rw [List.length_map]; omega, fun cn hcn => ⟨_, rfl, t, xs, rfl, .inr (.inl (.inl (s2 _ _ (s1 _ _ ht)))), ?_⟩⟩⟩
        have := q H2 (s1.trans s2)
        unfold procsOk at this
        rw [all_some, rowsO_some, Bool.true_and] at this
        have eb : decide (V.int (cn : Int) = V.int ((xs.length : Nat) : Int)) = decide (rs.map (·.1)).Nodup := by
          refine decide_eq_decide.mpr ⟨fun z => ?_, fun z => ?_⟩
          · by_cases nd : (rs.map (·.1)).Nodup
            · exact nd
            · have := hcn.2 nd
              rw [List.length_map] at this
              have := V.int.inj z
              omega
          · have := hcn.1 z
            rw [List.length_map] at this
            rw [this, ln]
        refine ⟨rfl, ?_⟩
        show Q (.bl (decide (V.int (cn : Int) = V.int ((xs.length : Nat) : Int)))) H2
        rw [eb]
        exact this
end
end My

/-! comprehensions with two for: the outer walk and the inner one by their invariants -/
namespace Lw
open PySem PySem.Spec PyProof.Rows L2
/-- the inner walk -/
def In2 (g1 : TG) (tt1 : TT) (te : TE) (vs1 : List Nat) (D : Addr) (J1 : It) (σ2 : L2.St) (H4 : Hp) (Nx : Hp → Prop) : Prop := ∃ W1 : Nat → Nat → Hp → Prop, (∃ m, W1 0 m H4) ∧ ∀ j k H, W1 j k H →
  (J1.stop j H ∧ Nx H) ∨ (J1.go j H ∧ ∃ Nx1 : Hp → Prop, (∀ H', Nx1 H' → ∃ k', k' < k ∧ W1 (j + 1) k' H') ∧ ∀ x H', J1.yld j H x H' → g1 x (wipe σ2 vs1) H' fun σ3 H5 => wipe σ3 vs1 = wipe σ2 vs1 ∧ tt1 σ3 H5 fun b H6 =>
    if b = true then te σ3 H6 fun y H7 => ∃ acc, H7 D = some (.lst acc) ∧ acc.length < sizeLine ∧ Nx1 (upd H7 D (.lst (acc ++ [y]))) else Nx1 H6)
section
variable {J : It} {n : Nat} {G : Hp → Prop} {Y : Nat → Hp → V → Hp → Prop} {g g1 : TG} {tt tt1 : TT} {te : TE} {wi1 : TI} {vs vs1 : List Nat} {σ σ2 : L2.St} {H1 H4 : Hp} {D : Addr} {Qd Nx : Hp → Prop}
theorem in2_it (w : Walk J n G Y) (Pv : Nat → Hp → Prop) (h0 : Pv 0 H4) (hG : ∀ i H, i ≤ n → Pv i H → G H)
    (hs : ∀ i x H H', i < n → Pv i H → Y i H x H' → g1 x (wipe σ2 vs1) H' fun σ3 H5 => wipe σ3 vs1 = wipe σ2 vs1 ∧ tt1 σ3 H5 fun b H6 => if b = true then te σ3 H6 fun y H7 => ∃ acc, H7 D = some (.lst acc) ∧ acc.length < sizeLine ∧ Pv (i + 1) (upd H7 D (.lst (acc ++ [y]))) else Pv (i + 1) H6)
    (hd : ∀ H, Pv n H → Nx H) : In2 g1 tt1 te vs1 D J σ2 H4 Nx := by
  refine ⟨fun i m H => m = n - i ∧ i ≤ n ∧ Pv i H, ⟨n, rfl, Nat.zero_le _, h0⟩, ?_⟩
  rintro i m H ⟨rfl, hi, p⟩
  have q := hG i H hi p
  rcases Nat.lt_or_ge i n with lt | ge
  · exact .inr ⟨w.goes i H lt q, Pv (i + 1), fun H' p' => ⟨n - (i + 1), by omega, rfl, lt, p'⟩, fun x H' y => hs i x H H' lt p (w.yields i H x H' lt q y)⟩
  · have e : i = n := Nat.le_antisymm hi ge
    subst e
    exact .inl ⟨w.stops H q, hd H p⟩
theorem lc2_it (w : Walk J n G Y) (Pv : Nat → Hp → Prop) (h0 : Pv 0 (upd H1 D (.lst []))) (hG : ∀ i H, i ≤ n → Pv i H → G H)
    (hs : ∀ i x H H', i < n → Pv i H → Y i H x H' → g x (wipe σ vs) H' fun σ2 H2 => wipe σ2 vs = wipe σ vs ∧ tt σ2 H2 fun b H3 => if b = true then wi1 σ2 H3 fun J1 H4 => In2 g1 tt1 te vs1 D J1 σ2 H4 (Pv (i + 1)) else Pv (i + 1) H3)
    (hd : ∀ H, Pv n H → Qd H) :
    ∃ W : Nat → Nat → Hp → Prop, (∃ m, W 0 m (upd H1 D (.lst []))) ∧ ∀ i m H, W i m H → (J.stop i H ∧ Qd H) ∨ (J.go i H ∧ ∃ Nx : Hp → Prop, (∀ H', Nx H' → ∃ m', m' < m ∧ W (i + 1) m' H') ∧ ∀ x H', J.yld i H x H' → g x (wipe σ vs) H' fun σ2 H2 => wipe σ2 vs = wipe σ vs ∧ tt σ2 H2 fun b H3 =>
      if b = true then wi1 σ2 H3 fun J1 H4 => In2 g1 tt1 te vs1 D J1 σ2 H4 Nx else Nx H3) := by
  refine ⟨fun i m H => m = n - i ∧ i ≤ n ∧ Pv i H, ⟨n, rfl, Nat.zero_le _, h0⟩, ?_⟩
  rintro i m H ⟨rfl, hi, p⟩
  have q := hG i H hi p
  rcases Nat.lt_or_ge i n with lt | ge
  · exact .inr ⟨w.goes i H lt q, Pv (i + 1), fun H' p' => ⟨n - (i + 1), by omega, rfl, lt, p'⟩, fun x H' y => hs i x H H' lt p (w.yields i H x H' lt q y)⟩
  · have e : i = n := Nat.le_antisymm hi ge
    subst e
    exact .inl ⟨w.stops H q, hd H p⟩
end
end Lw

namespace My
open PySem PySem.Spec PyProof.Rows L2 Sh Dt
open Cl (ErrC)
theorem move_parts {p n : Int} {m : PyData} (h : isMove p n m = true) : ∃ w a x r, m = .tuple (w :: a :: x :: r) ∧ (strIn w ["call", "post"] = true → ∃ z y, r = [.str z, y]) := by
  match m, h with
  | .tuple (w :: a :: x :: r), h =>
    refine ⟨w, a, x, r, rfl, fun hw => ?_⟩
    simp only [isMove, Bool.and_eq_true] at h
    obtain ⟨ha, h⟩ := h
    obtain ⟨y, rfl⟩ := in_str hw
    by_cases e1 : PyData.eqv (.str y) (.str "leave") = true
    · exfalso
      have : y = "leave" := by simpa [PyData.eqv] using e1
      subst this
      exact absurd hw (by decide +kernel)
    · rw [if_neg e1, Bool.and_eq_true] at h
      obtain ⟨hx, h⟩ := h
      by_cases e2 : PyData.eqv (.str y) (.str "go") = true
      · exfalso
        have : y = "go" := by simpa [PyData.eqv] using e2
        subst this
        exact absurd hw (by decide +kernel)
      · rw [if_neg e2, Bool.and_eq_true] at h
        match r, h.2 with
        | [b, y], h =>
          rw [Bool.and_eq_true] at h
          cases b with
          | str z => exact ⟨z, y, rfl⟩
          | _ => exact absurd h.1 (by simp [nameD])
theorem strIn_mem (z : Str) (zs : List Str) : strIn (.str z) zs = decide (z ∈ zs) := by
  unfold strIn
  rw [Bool.eq_iff_iff, List.any_eq_true, decide_eq_true_iff]
  constructor
  · rintro ⟨y, hy, e⟩
    have : y = z := by simpa [PyData.eqv] using e
    rw [← this]
    exact hy
  · exact fun h => ⟨z, h, by simp [PyData.eqv]⟩
theorem nameOk_task {zs : List Str} {w a x : PyData} {z : Str} {r : List PyData} (h : strIn w ["call", "post"] = true) : nameOk zs (.tuple (w :: a :: x :: .str z :: r)) = decide (z ∈ zs) := by
  show (!strIn w ["call", "post"] || decide (z ∈ zs)) = _
  rw [h]
  rfl
theorem nameOk_other {zs : List Str} {w : PyData} {r : List PyData} (h : strIn w ["call", "post"] = false) : nameOk zs (.tuple (w :: r)) = true := by
  show (!strIn w ["call", "post"] || _) = _
  rw [h]
  rfl
/-! ### sites -/
def wordIs (kind : Str) : PyData → Bool
  | .tuple (w :: _) => PyData.eqv w (.str kind)
  | _ => false
def sitesUp (z kind : Str) (ms : List PyData) (i : Nat) : List PyData := ((List.range i).filter fun j => wordIs kind (ms.getD j .none)).map fun j => .tuple [.str z, .int (j : Nat)]
theorem sitesUp_succ (z kind : Str) (ms : List PyData) (i : Nat) : sitesUp z kind ms (i + 1) = sitesUp z kind ms i ++ (if wordIs kind (ms.getD i .none) = true then [.tuple [.str z, .int (i : Nat)]] else []) := by
  unfold sitesUp
  rw [List.range_succ, List.filter_append, List.map_append]
  congr 1
  have ef : List.filter (fun j => wordIs kind (ms.getD j .none)) [i] = if wordIs kind (ms.getD i .none) = true then [i] else [] := by
    rw [List.filter_cons]
    rfl
  rw [ef]
  split <;> rfl
theorem sitesUp_len (z kind : Str) (ms : List PyData) (i : Nat) : (sitesUp z kind ms i).length ≤ i := by
  unfold sitesUp
  rw [List.length_map]
  exact Nat.le_trans (List.length_filter_le _ _) (by rw [List.length_range]; exact Nat.le_refl _)
def sitesD (kind : Str) (rs : List Row) : List PyData := rs.flatMap fun r => sitesUp r.1 kind r.2.2 r.2.2.length
theorem sitesD_take {kind : Str} {rs : List Row} {i : Nat} {r : Row} (h : rs[i]? = some r) : sitesD kind (rs.take (i + 1)) = sitesD kind (rs.take i) ++ sitesUp r.1 kind r.2.2 r.2.2.length := by
  unfold sitesD
  rw [List.take_add_one, h, List.flatMap_append]
  simp
theorem sitesD_len {kind : Str} {N : Nat} : ∀ {rs : List Row}, (∀ r ∈ rs, r.2.2.length ≤ N) → (sitesD kind rs).length ≤ rs.length * N
  | [], _ => Nat.zero_le _
  | r :: rs, h => by
    have h1 := h r List.mem_cons_self
    have h2 := sitesD_len (kind := kind) fun x hx => h x (List.mem_cons_of_mem _ hx)
    have h3 := sitesUp_len r.1 kind r.2.2 r.2.2.length
    show (sitesUp r.1 kind r.2.2 r.2.2.length ++ sitesD kind rs).length ≤ _
    rw [List.length_append, List.length_cons, Nat.add_mul]
    omega
def spSites (C : Addr) : Sp := fun vs H Q _ => ∃ t xs rs kind, vs = [.ref t, .str kind] ∧ H t = some (.tup xs) ∧ PAll C H xs rs ∧ rs.length ≤ 60 ∧ ∀ p ys H', Same H H' → H' p = some (.tup ys) → DAll H' ys (sitesD kind rs) → Q (.ref p) H'
section
variable {P : Program} {w : World} {K : PySem.W.Frag} {mg : Str → Option Value} {base : Heap} {C Ce fI fO pO fE fL fS p1 g1 p2 g2 p3 g3 : Addr} {mc : Value}
theorem ok_are_joined {f f_names_of f_are_moves f_names_task : Addr} {fd fd_names_of fd_are_moves fd_names_task : FuncData} (F : Fun K "are_joined" "are_joined" s_are_joined f fd) (c : PcdC K mg C fI fO pO fE fL fS p1 g1 p2 g2 p3 g3 mc) (G_names_of : FnOk P w K mg base CX0 3 f_names_of fd_names_of ["procedures"] (spNamesOf C)) (F_names_of : Fun K "names_of" "names_of" s_names_of f_names_of fd_names_of) (b_names_of : Binds K fd_names_of ["procedures"] []) (g_names_of : mg "names_of" = some (.ref f_names_of))(G_are_moves : FnOk P w K mg base CX0 6 f_are_moves fd_are_moves ["values", "points", "modes"] spMoves) (F_are_moves : Fun K "are_moves" "are_moves" s_are_moves f_are_moves fd_are_moves) (b_are_moves : Binds K fd_are_moves ["values", "points", "modes"] []) (g_are_moves : mg "are_moves" = some (.ref f_are_moves))(G_names_task : FnOk P w K mg base CX0 1 f_names_task fd_names_task ["move"] spTask) (F_names_task : Fun K "names_task" "names_task" s_names_task f_names_task fd_names_task) (b_names_task : Binds K fd_names_task ["move"] []) (g_names_task : mg "names_task" = some (.ref f_names_task)){fdg1 : FuncData} (G_g1 : FnOk P w K mg base CX0 1 g1 fdg1 ["self"] (getSp C "_called")) (b_g1 : Binds K fdg1 ["self"] []) {fdg2 : FuncData} (G_g2 : FnOk P w K mg base CX0 1 g2 fdg2 ["self"] (getSp C "_points")) (b_g2 : Binds K fdg2 ["self"] []) {fdg3 : FuncData} (G_g3 : FnOk P w K mg base CX0 1 g3 fdg3 ["self"] (getSp C "_moves")) (b_g3 : Binds K fdg3 ["self"] []) (m_all : mg "all" = none) : FnOk P w K mg base CX0 7 f fd ["procedures", "modes"] (spJoined C) := by
  refine F.ok sc_are_joined (fun vs H Q E h => ?_) (fun cdv A outer s H vs Q E hr h => ?_)
  · obtain ⟨t, xs, rs, n, rfl, _⟩ := h
    rfl
  · obtain ⟨t, xs, rs, n, rfl, ht, hp, l60, sms, q⟩ := h
    refine ⟨_, (pss_cons (ps_set (i := 2) sc_are_joined.nd rfl (by first | exact Or.inl rfl | exact Or.inr rfl) (pe_call G_names_of (hr.mono (by decide)) (by rfl) g_names_of F_names_of.kp b_names_of .nil pass0 (pa_cons (pv 0) pa_nil)))
      (pss_cons (ps_for PassesOwn.never rfl (pi_tup (pv 0)) (pg_name (i := 3) sc_are_joined.nd rfl (by first | exact Or.inl rfl | exact Or.inr rfl))
        (pss_cons (ps_if (pt_not (pt_val (pe_call G_are_moves (hr.mono (by decide)) (by rfl) g_are_moves F_are_moves.kp b_are_moves .nil pass0 (pa_cons (pe_prop (pv 3) c.cls c.q3 G_g3 (hr.mono (by decide)) b_g3 .nil (passC0 _) rfl) (pa_cons (pe_prop (pv 3) c.cls c.q2 G_g2 (hr.mono (by decide)) b_g2 .nil (passC0 _) rfl) (pa_cons (pv 1) pa_nil))))))
          (pss_one (ps_ret pe_bl))
          pss_nil)
        (pss_one (ps_if (pt_not (pt_val (pe_callB (cr_all rfl) (by rfl) m_all (by decide +kernel) (pa_cons (pe_lc (own := [("move", 4)]) (g := (gName 4)) rfl sc_are_joined.nd (pi_tup (pe_prop (pv 3) c.cls c.q3 G_g3 (hr.mono (by decide)) b_g3 .nil (passC0 _) rfl)) (blkOk_by (N := Nare_joined) (sc := defScope s_are_joined) (by decide +kernel))
      (fun _ _ _ _ _ => (pg_name (i := 4) sc_are_joined.nd rfl (Or.inl rfl))) (fun _ _ _ _ _ => (pts_one (pt_val (pe_call G_names_task (hr.mono (by decide)) (by rfl) g_names_task F_names_task.kp b_names_task .nil pass0 (pa_cons (pv 4) pa_nil))))) (fun _ _ _ _ _ => (pe_cmpR (r := rInS K false) (op_inS hr.units) (pe_ix (r := rIxT K) ix_tup (pv 4) pe_int (fun _ _ => rfl)) (pv 2) (by with_unfolding_all rfl)))) pa_nil))))
          (pss_one (ps_ret pe_bl))
          pss_nil))))
      (pss_one (ps_ret pe_bl)))), ?_⟩
    have ln := hp.len
    refine ⟨_, rfl, t, xs, rs, rfl, ht, hp, l60, fun pn H1 s1 np hpn => ?_⟩
    have bad : ∀ {r : Row} {H' : Hp}, r ∈ rs → (areMoves r.2.1 n r.2.2 && r.2.2.all (nameOk (rs.map (·.1)))) = false → Same H H' → Q (.bl false) H' := fun {r H'} hr e s' => by
      have := q H' s'
      have e2 : joined n rs = false := by
        cases z : joined n rs with
        | false => rfl
        | true =>
          have := List.all_eq_true.mp z r hr
          rw [e] at this
          cases this
      rw [e2] at this
      exact this
    refine ⟨_, rfl, t, rfl, ⟨_, .inl (.inl (s1 _ _ ht))⟩, for_tup (xs := xs) (fun i σ H2 => (∃ y3 y4, σ = [some (.ref t), some (.int n), some (.ref pn), y3, y4]) ∧ Same H1 H2 ∧ (rs.take i).all (fun r => areMoves r.2.1 n r.2.2 && r.2.2.all (nameOk (rs.map (·.1)))) = true) ⟨⟨_, _, rfl⟩, Same.refl H1, by simp⟩ (fun i σ H2 _ hq => .inl (.inl (hq.2.1 _ _ (s1 _ _ ht)))) (fun i x σ H2 hx hq => ?_) (fun σ H2 hq => ?_)⟩
    · obtain ⟨⟨y3, y4, rfl⟩, s2, al⟩ := hq
      have s12 := s1.trans s2
      obtain ⟨a, r, rfl, hr, dx, u, ys, a1, a2, a3, ga⟩ := hp.get hx
      have mr := List.mem_of_getElem? hr
      have A1 := s12 _ _ a1
      refine ⟨_, rfl, a, dx, _, rfl, A1, a, dx, _, _, rfl, A1, rfl, _, rfl, a, dx, _, rfl, A1, a, dx, _, _, rfl, A1, rfl, _, rfl, u, ys, r.2.1, n, r.2.2, rfl, s12 _ _ a2, a3.same s12, by have := good_len ga; omega, sms r mr, fun H3 s3 => ⟨_, rfl, ?_⟩⟩
      cases e1 : areMoves r.2.1 n r.2.2 with
      | false => exact iteT (bad mr (by rw [e1]; rfl) (s12.trans s3))
      | true =>
      have s13 := s12.trans s3
      have A3 := s13 _ _ a1
      have mvs : ∀ m ∈ r.2.2, isMove r.2.1 n m = true := by
        unfold areMoves at e1
        rw [Bool.and_eq_true] at e1
        exact List.all_eq_true.mp e1.2
      refine iteF ⟨_, rfl, a, dx, _, rfl, A3, a, dx, _, _, rfl, A3, rfl, u, rfl, ⟨_, .inl (.inl (s13 _ _ a2))⟩, fun D0 nD => ?_⟩
      have l3 := a3.len
      refine lc_tup (xs := ys) (fun i H4 => Same H3 H4 ∧ ∃ bs : List Bool, H4 D0 = some (.lst (bs.map V.bl)) ∧ bs.length ≤ i ∧ bs.all id = (r.2.2.take i).all (nameOk (rs.map (·.1)))) ⟨same_new (Same.refl H3) nD, [], upd_same, Nat.le_refl _, by simp⟩ (fun i H4 _ hq => .inl (.inl (hq.1 _ _ (s13 _ _ a2)))) (fun i x H4 hx hq => ?_) (fun H4 hq => ?_)
      · obtain ⟨s4, bs, hb, lb, eb⟩ := hq
        obtain ⟨m, hm, hxm⟩ := a3.get hx
        have hi := (List.getElem?_eq_some_iff.mp hm).1
        obtain ⟨w, b, c3, rr, rfl, hw⟩ := move_parts (mvs m (List.mem_of_getElem? hm))
        have hxm := (hxm.same s13).same s4
        cases hxm with
        | @tup p zs ds e az =>
        cases az with
        | @cons v0 _ vs0 _ d0 ar =>
        refine ⟨rfl, _, rfl, p, v0, vs0, w, rfl, e, d0, fun H5 s5 => ?_⟩
        have et : (r.2.2.take (i + 1)).all (nameOk (rs.map (·.1))) = (bs.all id && nameOk (rs.map (·.1)) (.tuple (w :: b :: c3 :: rr))) := by
          rw [List.take_add_one, hm, List.all_append, eb]
          simp
        refine ⟨_, rfl, ite2 (fun ew => ?_) (fun ew => ?_)⟩
        · obtain ⟨z, y, rfl⟩ := hw ew
          have ar := ar.same s5
          match vs0, ar, e with
          | [v1, v2, v3, v4], .cons d1 (.cons d2 (.cons d3 (.cons d4 .nil))), e =>
            refine ⟨_, rfl, p, _, 3, v3, rfl, rfl, .inl (.inl (s5 _ _ e)), rfl, _, rfl, .str z, pn, rs.map (·.1), d3, rfl, ((((hpn.same s2).same s3).same s4).same s5).sq, ?_⟩
            refine ⟨_, s5 _ _ hb, by rw [List.length_map]; exact small1000 (by have := good_len ga; omega), same_put (s4.trans s5) nD, bs ++ [strIn (.str z) (rs.map (·.1))], by rw [upd_same, List.map_append]; rfl, by rw [List.length_append]; simp; omega, ?_⟩
            rw [et, nameOk_task ew, List.all_append, strIn_mem]
            simp
        · refine ⟨s4.trans s5, bs, s5 _ _ hb, by omega, ?_⟩
          rw [et, nameOk_other ((Bool.not_eq_true _).mp ew), Bool.and_true]
      · obtain ⟨s4, bs, hb, lb, eb⟩ := hq
        rw [l3, List.take_of_length_le (Nat.le_refl _)] at eb
        refine ⟨D0, bs, rfl, .inl (.inl hb), _, rfl, ?_⟩
        rw [eb]
        cases e2 : r.2.2.all (nameOk (rs.map (·.1))) with
        | false => exact iteT (bad mr (by rw [e1, e2]; rfl) (s13.trans s4))
        | true =>
          refine iteF ⟨⟨_, _, rfl⟩, (s2.trans s3).trans s4, ?_⟩
          rw [List.take_add_one, hr, List.all_append, al]
          simp only [Option.toList, List.all_cons, List.all_nil, e1, e2]
          rfl
    · obtain ⟨⟨y3, y4, rfl⟩, s2, al⟩ := hq
      rw [ln, List.take_of_length_le (Nat.le_refl _)] at al
      have := q H2 (s1.trans s2)
      rw [show joined n rs = true from al] at this
      exact this
theorem ok_sites_of {f : Addr} {fd : FuncData} (F : Fun K "sites_of" "sites_of" s_sites_of f fd) (c : PcdC K mg C fI fO pO fE fL fS p1 g1 p2 g2 p3 g3 mc) {fdg1 : FuncData} (G_g1 : FnOk P w K mg base CX0 1 g1 fdg1 ["self"] (getSp C "_called")) (b_g1 : Binds K fdg1 ["self"] []) {fdg2 : FuncData} (G_g2 : FnOk P w K mg base CX0 1 g2 fdg2 ["self"] (getSp C "_points")) (b_g2 : Binds K fdg2 ["self"] []) {fdg3 : FuncData} (G_g3 : FnOk P w K mg base CX0 1 g3 fdg3 ["self"] (getSp C "_moves")) (b_g3 : Binds K fdg3 ["self"] []) (m_tuple : mg "tuple" = none) (m_enumerate : mg "enumerate" = none) : FnOk P w K mg base CX0 3 f fd ["procedures", "kind"] (spSites C) := by
  refine F.ok sc_sites_of (fun vs H Q E h => ?_) (fun cdv A outer s H vs Q E hr h => ?_)
  · obtain ⟨t, xs, rs, kind, rfl, _⟩ := h
    rfl
  · obtain ⟨t, xs, rs, kind, rfl, ht, hp, l60, q⟩ := h
    refine ⟨_, (pss_one (ps_ret (pe_callTy call_tuple_of (by rfl) m_tuple (by decide +kernel) (pa_cons (pe_lc2 (own := [("procedure", 2), ("index", 3), ("move", 4)]) (vs1 := [3, 4]) (g := gName 2) (tt := tYes) (wi1 := En.iEt K (tCons (tProp C (getSp C "_moves") [] E0 (tVar 2)) tNil)) (g1 := gTup K 2 (gCons (gName 3) (gCons (gName 4) gNil))) rfl sc_sites_of.nd (pi_tup (pv 0)) (blkOk_by (N := Nsites_of) (sc := defScope s_sites_of) (by decide +kernel)) (by decide)
      (fun _ _ _ _ _ => pg_name (i := 2) sc_sites_of.nd rfl (Or.inl rfl)) (fun _ _ _ _ _ => pts_nil) (fun _ _ _ _ _ => En.pi_et (by rfl) m_enumerate (pa_cons (pe_prop (pv 2) c.cls c.q3 G_g3 (hr.mono (by decide)) b_g3 .nil (passC0 _) rfl) pa_nil)) (fun _ _ _ _ _ => pg_tup rfl (pgs_cons (pg_name (i := 3) sc_sites_of.nd rfl (Or.inl rfl)) (pgs_cons (pg_name (i := 4) sc_sites_of.nd rfl (Or.inl rfl)) pgs_nil)))
      (fun _ _ _ _ _ => pts_one (pt_cmpR (r := rEqH) (op_eqH hr.units) (pe_ix (r := rIxT K) ix_tup (pv 4) pe_int (fun _ _ => rfl)) (pv 1) (nomark _))) (fun _ _ _ _ _ => pe_tup (pa_cons (pe_prop (pv 2) c.cls c.q1 G_g1 (hr.mono (by decide)) b_g1 .nil (passC0 _) rfl) (pa_cons (pv 3) pa_nil)))) pa_nil)))), ?_⟩
    have ln := hp.len
    have few : ∀ r ∈ rs, r.2.2.length ≤ 12 := fun r hr => good_len (hp.good r hr)
    have fewT : ∀ i, (sitesD kind (rs.take i)).length ≤ 60 * 12 := fun i => by
      have := sitesD_len (kind := kind) (N := 12) (rs := rs.take i) fun r hr => few r (List.mem_of_mem_take hr)
      have l : (rs.take i).length ≤ 60 := by rw [List.length_take]; omega
      exact Nat.le_trans this (Nat.mul_le_mul_right _ l)
    refine ⟨_, rfl, t, rfl, ⟨_, .inl (.inl ht)⟩, fun D0 nD => ?_⟩
    refine Lw.lc2_it (walk_tup (xs := xs)) (fun i H1 => Same H H1 ∧ ∃ ys, H1 D0 = some (.lst ys) ∧ D0 ∉ ([] : List Addr) ∧ DAll (hide [D0] H1) ys (sitesD kind (rs.take i))) ⟨same_new (Same.refl H) nD, [], upd_same, by simp, .nil⟩ (fun i H1 _ hq => .inl (.inl (hq.1 _ _ ht))) (fun i x H1 H2 hi hq hy => ?_) (fun H1 hq => ?_)
    · obtain ⟨s1, ys, hl, _, hd⟩ := hq
      obtain ⟨rfl, hx⟩ := hy
      obtain ⟨a, r, rfl, hr, dx, u, zs, a1, a2, a3, ga⟩ := hp.get hx
      have A1 := s1 _ _ a1
      have lz := a3.len
      have l12 := good_len ga
      refine ⟨rfl, _, rfl, a, dx, _, rfl, A1, a, dx, _, _, rfl, A1, rfl, u, zs, rfl, .inl (.inl (s1 _ _ a2)), ?_⟩
      refine Lw.in2_it (En.walk_et (xs := zs)) (fun j H3 => Same H H3 ∧ ∃ ys, H3 D0 = some (.lst ys) ∧ DAll (hide [D0] H3) ys (sitesD kind (rs.take i) ++ sitesUp r.1 kind r.2.2 j)) ⟨s1, ys, hl, by simpa [sitesUp] using hd⟩ (fun j H3 _ hq => .inl (.inl (hq.1 _ _ a2))) (fun j x H3 H4 hj hq hy => ?_) (fun H3 hq => ?_)
      · obtain ⟨s3, ys, hl, hd⟩ := hq
        obtain ⟨T, x1, x2, rfl, nT, rfl, e1, hx2⟩ := hy
        cases e1
        obtain ⟨m, hm, hxm⟩ := a3.get hx2
        have mvs : isMove r.2.1 5 m = true := by
          have := ga.moves
          unfold areMoves at this
          rw [Bool.and_eq_true] at this
          exact List.all_eq_true.mp this.2 m (List.mem_of_getElem? hm)
        obtain ⟨w, b, c3, rr, rfl, hw⟩ := move_parts mvs
        have s4 : Same H (upd H3 T (.tup [.int (j : Nat), x2])) := same_new s3 nT
        have hl4 := upd_keep (o := .tup [.int (j : Nat), x2]) hl nT
        have TD : T ≠ D0 := fun z => by
          rw [z, hl] at nT
          cases nT
        have gd : r.2.2.getD j .none = .tuple (w :: b :: c3 :: rr) := by
          rw [List.getD_eq_getElem?_getD, hm]
          rfl
        have hxm := hxm.same s4
        cases hxm with
        | @tup p ws ds e az =>
        cases az with
        | @cons v0 _ vs0 _ d0 ar =>
        refine ⟨T, _, rfl, .inl (.inl upd_same), rfl, .int (j : Nat), [.ref p], rfl, .ref p, [], rfl, rfl, rfl, ?_⟩
        refine ⟨_, rfl, p, _, 0, v0, rfl, rfl, .inl (.inl e), atI_nat (j := 0) rfl, .str kind, rfl, w, .str kind, d0, .str kind, rfl, strP.2, ?_⟩
        have em : wordIs kind (r.2.2.getD j .none) = PyData.eqv w (.str kind) := by rw [gd]; rfl
        have lS := fewT (i + 1)
        rw [sitesD_take hr, List.length_append] at lS
        refine ⟨_, rfl, ite2 (fun ew => ?_) (fun ew => ?_)⟩
        · have A4 := s4 _ _ a1
          refine ⟨_, rfl, a, dx, _, rfl, A4, a, dx, _, _, rfl, A4, rfl, _, rfl, len_ok, fun N nN => ?_⟩
          have s5 := same_new s4 nN (o := .tup [.str r.1, .int (j : Nat)])
          have ND : N ≠ D0 := fun z => by
            rw [z, hl4] at nN
            cases nN
          refine ⟨ys, upd_keep hl4 nN, ?_, same_put s5 nD, ys ++ [.ref N], upd_same, ?_⟩
          · have := hd.len
            rw [this, List.length_append]
            have := sitesUp_len r.1 kind r.2.2 j
            have : (sitesD kind (rs.take i)).length ≤ 60 * 12 := fewT i
            have : j ≤ 12 := by omega
            exact small1000 (by omega)
          · rw [sitesUp_succ, em, if_pos ew, ← List.append_assoc]
            have h1 : DAll (hide [D0] (upd (upd H3 T (.tup [.int (j : Nat), .ref p])) N (.tup [.str r.1, .int (j : Nat)]))) ys _ := (hd.same (hide_same (same_new (Same.refl H3) nT))).same (hide_same (same_new (Same.refl _) nN))
            have h2 : D (hide [D0] (upd (upd H3 T (.tup [.int (j : Nat), .ref p])) N (.tup [.str r.1, .int (j : Nat)]))) (.ref N) (.tuple [.str r.1, .int (j : Nat)]) := .tup (hide_some (by simpa using ND) upd_same) (.cons (.str _) (.cons (.int _) .nil))
            exact (DAll.app (.cons h2 .nil) h1).same hide_upd
        · refine ⟨s4, ys, hl4, ?_⟩
          rw [sitesUp_succ, em, if_neg ew, List.append_nil]
          exact hd.same (hide_same (same_new (Same.refl H3) nT))
      · obtain ⟨s3, ys, hl, hd⟩ := hq
        rw [lz, ← sitesD_take hr] at hd
        exact ⟨s3, ys, hl, by simp, hd⟩
    · obtain ⟨s1, ys, hl, _, hd⟩ := hq
      rw [ln, List.take_of_length_le (Nat.le_refl _)] at hd
      refine ⟨D0, ys, rfl, .inl ⟨.inl (.inl hl), fun p np => ?_⟩⟩
      exact q p ys _ (same_new s1 np) upd_same ((hd.same hide_sub).same (same_new (Same.refl H1) np))
end
end My

/-! != of two instances of one own class -/
namespace Cn
open PySem PySem.Spec PyProof.Rows L2 Sh Ow
def rNeS (C : Addr) (sp : Sp) (E : XK) : R2 := fun x y H Q => ∃ a dx fs b dy gs, x = .ref a ∧ y = .ref b ∧ H a = some (.ins C dx fs) ∧ H b = some (.ins C dy gs) ∧ sp [x, y] H (fun v H' => ∃ b, v = .bl b ∧ Q (.bl !b) H') E
theorem op_neS {X : Cx} {CX : CXT} {C g : Addr} {n : Nat} {sp : Sp} {E : XK} (hn : W.findIn X.K (.ref C) "__ne__" = some (some (.builtin "object.__ne__"))) (hm : W.mroIn X.K C (.type "object") = some true) (hs : W.findIn X.K (.ref C) "__eq__" = some (some (.ref g))) (hf : W.isFn X.K (.ref g) = true) (F : FnR X.prog X.w X.K X.mg X.base CX n g sp) (hr : Room (n + 1) X.A) (hx : Passes CX X E) : OpR X (compareOp .NotEq) (rNeS C sp E) := by
  intro pins s σ H x y v u Q I rx ry h
  obtain ⟨a, dx, fs, b, dy, gs, rfl, rfl, ha, hb, q⟩ := h
  cases rx
  cases ry
  obtain ⟨od, ia⟩ := ins_at I ha
  obtain ⟨od2, ib⟩ := ins_at I hb
  have k := I.kIn
  have t1 := ia.type (M := model X.prog X.w)
  have t2 := ib.type (M := model X.prog X.w)
  have hu := hr.units
  have ru := SlX.run_at F (room_ne hr ⟨[.ref a, .ref b], []⟩) (env_ne I.env0 _) hx I (show Vals [V.ref a, V.ref b] [Value.ref a, Value.ref b] from .cons rfl (.cons rfl .nil)) q
  refine W.cmp_ofNotEq ?_
  unfold richCompare
  rw [oneThing_ref]
  generalize hT : tryCompare = tc
  cases s with
  | mk h g d t os =>
  repeat (first
    | with_reducible refine wpAny_cRoomFor (by omega) ?_
    | with_reducible refine t1.at ?_
    | with_reducible refine t2.at ?_
    | wp_step)
  subst hT
  show wpAny _ _ (tryCompare (Value.ref a) "__ne__" (Value.ref b)) _ _ _
  refine try_ne k ia hn (call_ne (by omega) k ia hm hs hf ?_)
  refine codeAny_mono ru fun r s' z => ?_
  cases r with
  | error e => exact z
  | ok fl =>
    cases fl with
    | ret w =>
      obtain ⟨z1, H', I', rz, b, rfl, q⟩ := z
      cases (show w = Value.bool b from rz)
      exact ⟨b, rfl, _, rfl, wpAny_pure ⟨.bl !b, H', I', rfl, q⟩⟩
    | next => exact z
    | brk => exact z
    | cont => exact z
end Cn

namespace My
open PySem PySem.Spec PyProof.Rows L2 Sh Dt
open Cl (ErrC)
open Eo (OexG ps_ostG)
structure PgmC (K : PySem.W.Frag) (mg : Str → Option Value) (Cg fIg fOg pOg fEg fLg fSg fGg fCg fMg fHg pg1 gg1 pg2 gg2 pg3 gg3 pg4 gg4 pg5 gg5 pg6 gg6 pg7 gg7 : Addr) (mcg : Value) : Prop where
  gP : mg "Program" = some (.ref Cg)
  cls : Cls K Cg
  make : Mk K Cg fIg
  cr : ClX.CRead K Cg mcg
  cm : ClX.CMet K Cg mcg "of" pOg fOg
  n1 : NoAttr K Cg "_modes"
  n2 : NoAttr K Cg "_starts"
  n3 : NoAttr K Cg "_begin"
  n4 : NoAttr K Cg "_procedures"
  n5 : NoAttr K Cg "_names"
  n6 : NoAttr K Cg "lore"
  n7 : NoAttr K Cg "notes"
  q1 : PropOf K Cg "modes" pg1 gg1
  q2 : PropOf K Cg "starts" pg2 gg2
  q3 : PropOf K Cg "begin" pg3 gg3
  q4 : PropOf K Cg "procedures" pg4 gg4
  q5 : PropOf K Cg "names" pg5 gg5
  q6 : PropOf K Cg "posts" pg6 gg6
  q7 : PropOf K Cg "calls" pg7 gg7
  eq : PySem.W.findIn K (.ref Cg) "__eq__" = some (some (.ref fEg))
  eqf : PySem.W.isFn K (.ref fEg) = true
  ne : PySem.W.findIn K (.ref Cg) "__ne__" = some (some (.builtin "object.__ne__"))
  ln : PySem.W.findIn K (.ref Cg) "__len__" = some (some (.ref fLg))
  lnf : PySem.W.isFn K (.ref fLg) = true
  st : PySem.W.findIn K (.ref Cg) "__str__" = some (some (.ref fSg))
  stf : PySem.W.isFn K (.ref fSg) = true
  gi : PySem.W.findIn K (.ref Cg) "__getitem__" = some (some (.ref fGg))
  gif : PySem.W.fnIn K fGg = true
  gifn : PySem.W.isFn K (.ref fGg) = true
  ct : PySem.W.findIn K (.ref Cg) "__contains__" = some (some (.ref fCg))
  ctf : PySem.W.isFn K (.ref fCg) = true
  mm : Meth K Cg "move" fMg
  mh : Meth K Cg "_has_site" fHg
  c1 : PySem.W.findIn K (.ref Cg) "__class__" = some (some (.builtin "object.__class__"))
  c2 : PySem.W.specialIn K (.builtin "object.__class__") "__get__" = some (some (.builtin "getset_descriptor.__get__"))
  c3 : PySem.W.takesIn K (.builtin "object.__class__") = some true
  c4 : PySem.W.mroIn K Cg (.type "object") = some true
  k1 : PySem.W.kitOne K (.ref Cg) (.ref Cg) = some true
  kP : ∀ C, mg "Procedure" = some (.ref C) → PySem.W.kitOne K (.ref C) (.ref Cg) = some false
  kt0 : PySem.W.kitOne K (.type "NoneType") (.ref Cg) = some false
  ks0 : PySem.W.subIn K (.type "NoneType") (.ref Cg) = some false
  kt1 : PySem.W.kitOne K (.type "int") (.ref Cg) = some false
  ks1 : PySem.W.subIn K (.type "int") (.ref Cg) = some false
  kt2 : PySem.W.kitOne K (.type "bool") (.ref Cg) = some false
  ks2 : PySem.W.subIn K (.type "bool") (.ref Cg) = some false
  kt3 : PySem.W.kitOne K (.type "str") (.ref Cg) = some false
  ks3 : PySem.W.subIn K (.type "str") (.ref Cg) = some false
  kt4 : PySem.W.kitOne K (.type "list") (.ref Cg) = some false
  ks4 : PySem.W.subIn K (.type "list") (.ref Cg) = some false
  kt5 : PySem.W.kitOne K (.type "tuple") (.ref Cg) = some false
  ks5 : PySem.W.subIn K (.type "tuple") (.ref Cg) = some false
  kt6 : PySem.W.kitOne K (.type "dict") (.ref Cg) = some false
  ks6 : PySem.W.subIn K (.type "dict") (.ref Cg) = some false
  sP : ∀ C, mg "Procedure" = some (.ref C) → PySem.W.subIn K (.ref C) (.ref Cg) = some false

abbrev bmKE : List Value := [.type "KeyError", .type "LookupError", .type "Exception", .type "BaseException", .type "object"]
theorem tlKE : PySem.Eo.Tail "LookupError" bmKE := ⟨by decide +kernel, by decide +kernel, by decide +kernel⟩
/-- an error class over KeyError with one field -/
structure FldC (K : PySem.W.Frag) (mg : Str → Option Value) (x f : Str) (C fi : Addr) : Prop where
  gC : mg x = some (.ref C)
  t : OexG K C bmKE "LookupError.__new__"
  bC : PySem.W.subIn K (.ref C) (.type "BaseException") = some true
  tC : PySem.W.typeIn K (.ref C) = some (.type "type")
  iC : PySem.W.findIn K (.ref C) "__init__" = some (some (.ref fi))
  tI : PySem.W.typeIn K (.ref fi) = some (.type "function")
  no : PySem.W.findIn K (.ref C) f = some none
def spInit1 (C : Addr) (f : Str) : Sp := fun vs H Q _ => ∃ (a : Addr) (y : V), vs = [.ref a, y] ∧ H a = some (exo a C none) ∧ ∀ dx, H dx = none → dx ≠ a → Q .non (upd (upd H dx (exd dx [(f, y)])) a (exo a C (some dx)))
/-- what a raised error with a field leaves -/
theorem raised {C : Addr} {f : Str} {v : V} {H : Hp} {E : XK} (q : ∀ d G, Same H G → G d = some (.xd [(f, v)]) → E (.ref C) (some d) G) : ([v] : List V).length ≤ 1000 ∧ ∀ a, H a = none → spInit1 C f (.ref a :: ([v] ++ [])) (upd H a (exo a C none))
    (fun u H2 => u = .non ∧ ∃ (d : Addr) (fs : List (Str × V)), H2 a = some (exo a C (some d)) ∧ H2 d = some (exd d fs) ∧ H d = none ∧ E (.ref C) (some d) (upd (del H2 a) d (.xd fs))) (fun _ _ _ => False) := by
  refine ⟨by simp, fun a na => ⟨a, v, rfl, upd_same, fun dx nd ne => ⟨rfl, dx, _, upd_same, (upd_ne ne).trans upd_same, ?_, q _ _ (fun b o e => ?_) upd_same⟩⟩⟩
  · rw [upd_ne ne] at nd
    exact nd
  · have nda : H dx = none := by
      rw [upd_ne ne] at nd
      exact nd
    have b1 : b ≠ a := ne_of_none e na
    have b2 : b ≠ dx := ne_of_none e nda
    rw [upd_ne b2, del_ne b1, upd_ne b1, upd_ne b2, upd_ne b1]
    exact e
/-! ### programs -/
def lenD : PyData → Nat
  | .tuple xs => xs.length
  | _ => 0
def goodG (dm ds db : PyData) (os : List (Option Row)) : Bool := isNr 5 dm && isSet (intOf dm) ds && isBagL 0 db && decide (lenD db = os.length) && procsOk os && joined (intOf dm) (rowsO os)
structure GoodG (n : Int) (ds db : PyData) (rs : List Row) : Prop where
  lo : 1 ≤ n
  hi : n ≤ 5
  st : isSet n ds = true
  bg : isBagL 0 db = true
  ln : lenD db = rs.length
  nd : (rs.map (·.1)).Nodup
  jo : joined n rs = true
  sd : sm ds = true
  sb : sm db = true
def Pg (C Cg : Addr) (H : Hp) (a : Addr) (n : Int) (ds db : PyData) (rs : List Row) : Prop := ∃ dx sv bv t xs u l m, H a = some (.ins Cg dx [("_modes", .int n), ("_starts", sv), ("_begin", bv), ("_procedures", .ref t), ("_names", .ref u), ("lore", .ref l), ("notes", .ref m)]) ∧
  D H sv ds ∧ D H bv db ∧ H t = some (.tup xs) ∧ PAll C H xs rs ∧ Fz.FzT H u ((rs.map (·.1)).map V.str) ∧ GoodG n ds db rs
theorem Pg.same {C Cg : Addr} {H H' : Hp} {a : Addr} {n : Int} {ds db : PyData} {rs : List Row} (s : Same H H') (h : Pg C Cg H a n ds db rs) : Pg C Cg H' a n ds db rs := by
  obtain ⟨dx, sv, bv, t, xs, u, l, m, h1, h2, h3, h4, h5, h6, g⟩ := h
  exact ⟨dx, sv, bv, t, xs, u, l, m, s _ _ h1, h2.same s, h3.same s, s _ _ h4, h5.same s, h6.same s, g⟩
theorem bag_len {d : PyData} (h : isBagL 0 d = true) : 1 ≤ lenD d ∧ lenD d ≤ 5 := by
  cases d with
  | tuple ds =>
    have h : (decide (1 ≤ ds.length) && (decide (ds.length ≤ 5) && ds.all (isGe 0))) = true := h
    rw [Bool.and_eq_true, Bool.and_eq_true, decide_eq_true_iff, decide_eq_true_iff] at h
    exact ⟨h.1, h.2.1⟩
  | _ => exact absurd h (by intro z; cases z)
theorem GoodG.few {n : Int} {ds db : PyData} {rs : List Row} (g : GoodG n ds db rs) : 1 ≤ rs.length ∧ rs.length ≤ 5 := by
  have := bag_len g.bg
  rw [g.ln] at this
  exact this
theorem goodG_of {dm ds db : PyData} {rs : List Row} (h : goodG dm ds db (rs.map some) = true) (sd : sm ds = true) (sb : sm db = true) : ∃ n, dm = .int n ∧ GoodG n ds db rs := by
  unfold goodG at h
  simp only [Bool.and_eq_true, decide_eq_true_iff] at h
  obtain ⟨⟨⟨⟨⟨h1, h2⟩, h3⟩, h4⟩, h5⟩, h6⟩ := h
  unfold procsOk at h5
  rw [all_some, rowsO_some, Bool.true_and, decide_eq_true_iff] at h5
  rw [rowsO_some] at h6
  rw [List.length_map] at h4
  cases dm with
  | int n =>
    have h1 : (decide (1 ≤ n) && decide (n ≤ 5)) = true := h1
    rw [Bool.and_eq_true, decide_eq_true_iff, decide_eq_true_iff] at h1
    exact ⟨n, rfl, h1.1, h1.2, h2, h3, h4, h5, h6, sd, sb⟩
  | _ => exact absurd h1 (by simp [isNr])
/-! ### beside an instance that is being made -/
def ExtI (H H' : Hp) : Prop := ∀ b o, H b = some o → (∀ C dx, o ≠ .ins C dx []) → H' b = some o
mutual
theorem D.exti {H H' : Hp} (s : ExtI H H') : ∀ {v : V} {d : PyData}, D H v d → D H' v d
  | _, _, .non => .non
  | _, _, .bl b => .bl b
  | _, _, .int i => .int i
  | _, _, .str z => .str z
  | _, _, .lst h a => .lst (s _ _ h (fun _ _ z => by cases z)) (DAll.exti s a)
  | _, _, .tup h a => .tup (s _ _ h (fun _ _ z => by cases z)) (DAll.exti s a)
  | _, _, .dic h => .dic (s _ _ h (fun _ _ z => by cases z))
theorem DAll.exti {H H' : Hp} (s : ExtI H H') : ∀ {vs : List V} {ds : List PyData}, DAll H vs ds → DAll H' vs ds
  | _, _, .nil => .nil
  | _, _, .cons h a => .cons (D.exti s h) (DAll.exti s a)
end
theorem Pr.exti {C : Addr} {H H' : Hp} {a : Addr} {z : Str} {p : Int} {ms : List PyData} (s : ExtI H H') (h : Pr C H a z p ms) : Pr C H' a z p ms := by
  obtain ⟨dx, t, xs, h1, h2, h3, g⟩ := h
  exact ⟨dx, t, xs, s _ _ h1 (fun _ _ z => by cases z), s _ _ h2 (fun _ _ z => by cases z), DAll.exti s h3, g⟩
theorem PAll.exti {C : Addr} {H H' : Hp} {vs : List V} {rs : List Row} (s : ExtI H H') (h : PAll C H vs rs) : PAll C H' vs rs := by
  induction h with
  | nil => exact .nil
  | cons a _ ih => exact .cons (a.exti s) ih
theorem exti_put {H : Hp} {x C dx : Addr} {o : HO} (hx : H x = some (.ins C dx [])) : ExtI H (upd H x o) := fun b u e n => by
  have : b ≠ x := fun z => by
    rw [z, hx] at e
    exact n _ _ (Option.some.inj e).symm
  rw [upd_ne this]
  exact e
theorem but_at {x : Addr} {H G : Hp} {o : HO} (h : But x H G) : But x H (upd G x o) := fun b u n e => (upd_ne n).trans (h b u n e)
theorem But.ext {x : Addr} {H G : Hp} (h : Same H G) : But x H G := fun b u _ e => h b u e
def GA (C Cg : Addr) (H : Hp) (x : Addr) (mv sv bv : V) (t : Addr) (rs : List Row) : Prop := ∃ dx u l m, H x = some (.ins Cg dx [("_modes", mv), ("_starts", sv), ("_begin", bv), ("_procedures", .ref t), ("_names", .ref u), ("lore", .ref l), ("notes", .ref m)]) ∧ Fz.FzT H u ((rs.map (·.1)).map V.str)
def spInitG (C Cg Ce : Addr) : Sp := fun vs H Q E => ∃ x dx mv sv bv t xs dm ds db os, vs = [.ref x, mv, sv, bv, .ref t] ∧ H x = some (.ins Cg dx []) ∧ H t = some (.tup xs) ∧ D H mv dm ∧ D H sv ds ∧ D H bv db ∧ OAll C H xs os ∧ os.length ≤ 60 ∧ sm dm = true ∧ sm ds = true ∧ sm db = true ∧ (∀ r ∈ rowsO os, ∀ m ∈ r.2.2, sm m = true) ∧
  (goodG dm ds db os = true → ∀ H', But x H H' → GA C Cg H' x mv sv bv t (rowsO os) → Q .non H') ∧ (goodG dm ds db os = false → ∀ H', Same H H' → E (.ref Ce) none H')
abbrev s_ginit : Stmt := inClass (topS 29) 0
abbrev Nginit : List Str := ["self", "modes", "starts", "begin", "procedures"]
theorem sc_ginit : FnScope Nginit ["self", "modes", "starts", "begin", "procedures"] (defScope s_ginit) := ⟨rfl, rfl, rfl, by decide +kernel, rfl, by decide +kernel, by decide +kernel⟩
abbrev s_gof : Stmt := inClass (topS 29) 1
abbrev Ngof : List Str := ["cls", "modes", "starts", "begin", "procedures"]
theorem sc_gof : FnScope Ngof ["cls", "modes", "starts", "begin", "procedures"] (defScope s_gof) := ⟨rfl, rfl, rfl, by decide +kernel, rfl, by decide +kernel, by decide +kernel⟩
abbrev s_gg_modes : Stmt := inClass (topS 29) 2
abbrev Ngg_modes : List Str := ["self"]
theorem sc_gg_modes : FnScope Ngg_modes ["self"] (defScope s_gg_modes) := ⟨rfl, rfl, rfl, by decide +kernel, rfl, by decide +kernel, by decide +kernel⟩
abbrev s_gg_starts : Stmt := inClass (topS 29) 3
abbrev Ngg_starts : List Str := ["self"]
theorem sc_gg_starts : FnScope Ngg_starts ["self"] (defScope s_gg_starts) := ⟨rfl, rfl, rfl, by decide +kernel, rfl, by decide +kernel, by decide +kernel⟩
abbrev s_gg_begin : Stmt := inClass (topS 29) 4
abbrev Ngg_begin : List Str := ["self"]
theorem sc_gg_begin : FnScope Ngg_begin ["self"] (defScope s_gg_begin) := ⟨rfl, rfl, rfl, by decide +kernel, rfl, by decide +kernel, by decide +kernel⟩
abbrev s_gg_procedures : Stmt := inClass (topS 29) 5
abbrev Ngg_procedures : List Str := ["self"]
theorem sc_gg_procedures : FnScope Ngg_procedures ["self"] (defScope s_gg_procedures) := ⟨rfl, rfl, rfl, by decide +kernel, rfl, by decide +kernel, by decide +kernel⟩
abbrev s_gg_names : Stmt := inClass (topS 29) 6
abbrev Ngg_names : List Str := ["self"]
theorem sc_gg_names : FnScope Ngg_names ["self"] (defScope s_gg_names) := ⟨rfl, rfl, rfl, by decide +kernel, rfl, by decide +kernel, by decide +kernel⟩
abbrev s_gposts : Stmt := inClass (topS 29) 7
abbrev Ngposts : List Str := ["self"]
theorem sc_gposts : FnScope Ngposts ["self"] (defScope s_gposts) := ⟨rfl, rfl, rfl, by decide +kernel, rfl, by decide +kernel, by decide +kernel⟩
abbrev s_gcalls : Stmt := inClass (topS 29) 8
abbrev Ngcalls : List Str := ["self"]
theorem sc_gcalls : FnScope Ngcalls ["self"] (defScope s_gcalls) := ⟨rfl, rfl, rfl, by decide +kernel, rfl, by decide +kernel, by decide +kernel⟩
abbrev s_gmove : Stmt := inClass (topS 29) 9
abbrev Ngmove : List Str := ["self", "site"]
theorem sc_gmove : FnScope Ngmove ["self", "site"] (defScope s_gmove) := ⟨rfl, rfl, rfl, by decide +kernel, rfl, by decide +kernel, by decide +kernel⟩
abbrev s_gget : Stmt := inClass (topS 29) 17
abbrev Ngget : List Str := ["self", "name"]
theorem sc_gget : FnScope Ngget ["self", "name"] (defScope s_gget) := ⟨rfl, rfl, rfl, by decide +kernel, rfl, by decide +kernel, by decide +kernel⟩
abbrev s_gcont : Stmt := inClass (topS 29) 19
abbrev Ngcont : List Str := ["self", "value"]
theorem sc_gcont : FnScope Ngcont ["self", "value"] (defScope s_gcont) := ⟨rfl, rfl, rfl, by decide +kernel, rfl, by decide +kernel, by decide +kernel⟩
abbrev s_glen : Stmt := inClass (topS 29) 20
abbrev Nglen : List Str := ["self"]
theorem sc_glen : FnScope Nglen ["self"] (defScope s_glen) := ⟨rfl, rfl, rfl, by decide +kernel, rfl, by decide +kernel, by decide +kernel⟩
abbrev s_geq : Stmt := inClass (topS 29) 21
abbrev Ngeq : List Str := ["self", "other"]
theorem sc_geq : FnScope Ngeq ["self", "other"] (defScope s_geq) := ⟨rfl, rfl, rfl, by decide +kernel, rfl, by decide +kernel, by decide +kernel⟩
abbrev s_gstr : Stmt := inClass (topS 29) 22
abbrev Ngstr : List Str := ["self"]
theorem sc_gstr : FnScope Ngstr ["self"] (defScope s_gstr) := ⟨rfl, rfl, rfl, by decide +kernel, rfl, by decide +kernel, by decide +kernel⟩
abbrev s_ghas : Stmt := inClass (topS 29) 23
abbrev Nghas : List Str := ["self", "value"]
theorem sc_ghas : FnScope Nghas ["self", "value"] (defScope s_ghas) := ⟨rfl, rfl, rfl, by decide +kernel, rfl, by decide +kernel, by decide +kernel⟩
abbrev s_iUn : Stmt := inClass (topS 11) 0
abbrev NiUn : List Str := ["self", "name"]
theorem sc_iUn : FnScope NiUn ["self", "name"] (defScope s_iUn) := ⟨rfl, rfl, rfl, by decide +kernel, rfl, by decide +kernel, by decide +kernel⟩
abbrev s_iUs : Stmt := inClass (topS 12) 0
abbrev NiUs : List Str := ["self", "site"]
theorem sc_iUs : FnScope NiUs ["self", "site"] (defScope s_iUs) := ⟨rfl, rfl, rfl, by decide +kernel, rfl, by decide +kernel, by decide +kernel⟩
section
variable {P : Program} {w : World} {K : PySem.W.Frag} {mg : Str → Option Value} {base : Heap} {C Ce fI fO pO fE fL fS p1 g1 p2 g2 p3 g3 : Addr} {mc : Value}{Cg Cn Cs fIg fOg pOg fEg fLg fSg fGg fCg fMg fHg pg1 gg1 pg2 gg2 pg3 gg3 pg4 gg4 pg5 gg5 pg6 gg6 pg7 gg7 : Addr} {mcg : Value}
theorem ok_iUn {f : Addr} {fd : FuncData} {k : Nat} (F : L2.Fun K "__init__" "UnknownName.__init__" s_iUn f fd) (T : OexG K C bmKE "LookupError.__new__") (hno : PySem.W.findIn K (.ref C) "name" = some none) : FnOk P w K mg base CX0 (k + 1) f fd ["self", "name"] (spInit1 C "name") := by
  refine F.ok sc_iUn (fun vs H Q E h => ?_) (fun cdv A outer s H vs Q E hr h => ?_)
  · obtain ⟨a, y, rfl, _⟩ := h
    rfl
  · obtain ⟨a, y, rfl, ha, q⟩ := h
    refine ⟨_, (pss_one (ps_ostG PySem.F.keS T (pv 0) (pv 1))), ?_⟩
    exact ⟨y, rfl, .ref a, rfl, a, rfl, hno, ha, fun dx n ne => q dx n ne⟩
theorem ok_iUs {f : Addr} {fd : FuncData} {k : Nat} (F : L2.Fun K "__init__" "UnknownSite.__init__" s_iUs f fd) (T : OexG K C bmKE "LookupError.__new__") (hno : PySem.W.findIn K (.ref C) "site" = some none) : FnOk P w K mg base CX0 (k + 1) f fd ["self", "site"] (spInit1 C "site") := by
  refine F.ok sc_iUs (fun vs H Q E h => ?_) (fun cdv A outer s H vs Q E hr h => ?_)
  · obtain ⟨a, y, rfl, _⟩ := h
    rfl
  · obtain ⟨a, y, rfl, ha, q⟩ := h
    refine ⟨_, (pss_one (ps_ostG PySem.F.keS T (pv 0) (pv 1))), ?_⟩
    exact ⟨y, rfl, .ref a, rfl, a, rfl, hno, ha, fun dx n ne => q dx n ne⟩
theorem ok_ginit {f f_is_number f_is_mode_set f_is_bag f_are_procedures f_are_joined f_names_of : Addr} {fd fd_is_number fd_is_mode_set fd_is_bag fd_are_procedures fd_are_joined fd_names_of : FuncData} {oc kV dc0 pm ct cd : Value} {od an : Option Addr} {sl : Array (Option Value)}
    (lk : K.lookup f = some ⟨oc, od, .func (PySem.W.fnOf "__init__" "Program.__init__" (defArgs s_ginit) (defBody s_ginit) (defScope s_ginit) .none kV dc0 pm an cd ct), sl⟩) (hc : PySem.W.codeIn K cd "Program.__init__" = true) (T : ErrC K mg "InvalidProgram" Ce) (cg : PgmC K mg Cg fIg fOg pOg fEg fLg fSg fGg fCg fMg fHg pg1 gg1 pg2 gg2 pg3 gg3 pg4 gg4 pg5 gg5 pg6 gg6 pg7 gg7 mcg) (G_is_number : FnOk P w K mg base CX0 2 f_is_number fd_is_number ["value", "most"] (spOn1 isNr)) (F_is_number : Fun K "is_number" "is_number" s_is_number f_is_number fd_is_number) (b_is_number : Binds K fd_is_number ["value", "most"] []) (g_is_number : mg "is_number" = some (.ref f_is_number))(G_is_mode_set : FnOk P w K mg base CX0 3 f_is_mode_set fd_is_mode_set ["value", "modes"] (spOn1 isSet)) (F_is_mode_set : Fun K "is_mode_set" "is_mode_set" s_is_mode_set f_is_mode_set fd_is_mode_set) (b_is_mode_set : Binds K fd_is_mode_set ["value", "modes"] []) (g_is_mode_set : mg "is_mode_set" = some (.ref f_is_mode_set))(G_is_bag : FnOk P w K mg base CX0 3 f_is_bag fd_is_bag ["value"] (spOn (isBagL 0))) (F_is_bag : Fun K "is_bag" "is_bag" s_is_bag f_is_bag fd_is_bag) (b_is_bag : Binds K fd_is_bag ["value"] []) (g_is_bag : mg "is_bag" = some (.ref f_is_bag))(G_are_procedures : FnOk P w K mg base CX0 4 f_are_procedures fd_are_procedures ["values"] (spProcs C)) (F_are_procedures : Fun K "are_procedures" "are_procedures" s_are_procedures f_are_procedures fd_are_procedures) (b_are_procedures : Binds K fd_are_procedures ["values"] []) (g_are_procedures : mg "are_procedures" = some (.ref f_are_procedures))(G_are_joined : FnOk P w K mg base CX0 7 f_are_joined fd_are_joined ["procedures", "modes"] (spJoined C)) (F_are_joined : Fun K "are_joined" "are_joined" s_are_joined f_are_joined fd_are_joined) (b_are_joined : Binds K fd_are_joined ["procedures", "modes"] []) (g_are_joined : mg "are_joined" = some (.ref f_are_joined))(G_names_of : FnOk P w K mg base CX0 3 f_names_of fd_names_of ["procedures"] (spNamesOf C)) (F_names_of : Fun K "names_of" "names_of" s_names_of f_names_of fd_names_of) (b_names_of : Binds K fd_names_of ["procedures"] []) (g_names_of : mg "names_of" = some (.ref f_names_of)) {tk : Tok} (g_MOST_MODES : mg "MOST_MODES" = some (.int 5 tk)) (m_len : mg "len" = none) :
    FnR P w K mg base (L2.CX P w) 8 f fun vs H Q E => ∃ ws rest, vs = ws ++ rest ∧ ws.length = (["self", "modes", "starts", "begin"] : List Str).length ∧ rest.length ≤ sizeLine ∧ ∀ p : Addr, H p = none → spInitG C Cg Ce (ws ++ [V.ref p]) (upd H p (.tup rest)) Q E := by
  refine StX.fn_star (N := Nginit) (pv := "procedures") lk hc sc_ginit StX.cxUp (fun us rest hl => ?_) (fun A outer s H vs Q E hr h => ?_)
  · match us, hl, rest with
    | [_, _, _, _], _, [] => rfl
    | [_, _, _, _], _, _ :: _ => rfl
  · obtain ⟨x, dx, mv, sv, bv, t, xs, dm, ds, db, os, rfl, hx, ht, hdm, hds, hdb, hos, l60, s1, s2, s3, s4, qy, qn⟩ := h
    refine ⟨_, (pss_cons (ps_if (PW.pt (pw_or (pt_not (pt_val (pe_call G_is_number (hr.mono (by decide)) (by rfl) g_is_number F_is_number.kp b_is_number .nil pass0 (pa_cons (pv 1) (pa_cons (pe_glob (v := .int 5) rfl g_MOST_MODES ⟨_, rfl⟩) pa_nil))))) (pw_or1 (pt_not (pt_val (pe_call G_is_mode_set (hr.mono (by decide)) (by rfl) g_is_mode_set F_is_mode_set.kp b_is_mode_set .nil pass0 (pa_cons (pv 2) (pa_cons (pv 1) pa_nil))))))))
        (pss_one (ps_raise rfl (takes_of rfl rfl rfl rfl) (pmk_own PySem.F.excBase_ValueError T.ex T.gC T.kC (raises_own T.bC T.tC) rfl)))
        pss_nil)
      (pss_cons (ps_if (PW.pt (pw_or (pt_not (pt_val (pe_call G_is_bag (hr.mono (by decide)) (by rfl) g_is_bag F_is_bag.kp b_is_bag .nil pass0 (pa_cons (pv 3) pa_nil)))) (pw_or1 (pt_cmpR op_ne (pe_callB call_len_seq (by rfl) m_len (by decide +kernel) (pa_cons (pv 3) pa_nil)) (pe_callB call_len_seq (by rfl) m_len (by decide +kernel) (pa_cons (pv 4) pa_nil)) (nomark _)))))
        (pss_one (ps_raise rfl (takes_of rfl rfl rfl rfl) (pmk_own PySem.F.excBase_ValueError T.ex T.gC T.kC (raises_own T.bC T.tC) rfl)))
        pss_nil)
      (pss_cons (ps_if (PW.pt (pw_or (pt_not (pt_val (pe_call G_are_procedures (hr.mono (by decide)) (by rfl) g_are_procedures F_are_procedures.kp b_are_procedures .nil pass0 (pa_cons (pv 4) pa_nil)))) (pw_or1 (pt_not (pt_val (pe_call G_are_joined (hr.mono (by decide)) (by rfl) g_are_joined F_are_joined.kp b_are_joined .nil pass0 (pa_cons (pv 4) (pa_cons (pv 1) pa_nil))))))))
        (pss_one (ps_raise rfl (takes_of rfl rfl rfl rfl) (pmk_own PySem.F.excBase_ValueError T.ex T.gC T.kC (raises_own T.bC T.tC) rfl)))
        pss_nil)
      (pss_cons (ps_fld (pv 0) (pv 1) rfl)
      (pss_cons (ps_fld (pv 0) (pv 2) rfl)
      (pss_cons (ps_fld (pv 0) (pv 3) rfl)
      (pss_cons (ps_fld (pv 0) (pv 4) rfl)
      (pss_cons (ps_fld (pv 0) (pe_call G_names_of (hr.mono (by decide)) (by rfl) g_names_of F_names_of.kp b_names_of .nil pass0 (pa_cons (pv 4) pa_nil)) rfl)
      (pss_cons (ps_fld (pv 0) pe_dnewK rfl)
      (pss_one (ps_fld (pv 0) pe_dnewK rfl))))))))))), ?_⟩
    have lo := hos.len
    refine ⟨_, rfl, _, _, dm, rfl, hdm, s1, fun H1 e1 => ⟨_, rfl, ?_⟩⟩
    cases n1 : isNr 5 dm with
    | false => exact iteT (qn (by unfold goodG; rw [n1]; rfl) H1 e1)
    | true =>
    cases dm with
    | int n =>
      cases hdm
      refine iteF ⟨_, rfl, _, rfl, _, _, ds, rfl, hds.same e1, s2, fun H2 e2' => ⟨_, rfl, ?_⟩⟩
      have e2 := e1.trans e2'
      cases n2 : isSet n ds with
      | false => exact iteT (qn (by unfold goodG; rw [n1, show isSet (intOf (.int n)) ds = false from n2]; rfl) H2 e2)
      | true =>
      refine iteF ⟨_, rfl, _, db, rfl, hdb.same e2, s3, fun H3 e3' => ⟨_, rfl, ?_⟩⟩
      have e3 := e2.trans e3'
      cases n3 : isBagL 0 db with
      | false => exact iteT (qn (by unfold goodG; rw [n1, show isSet (intOf (.int n)) ds = true from n2, n3]; rfl) H3 e3)
      | true =>
      cases db with
      | tuple bs =>
        cases hdb with
        | @tup pb zs bs eb ab =>
        have lb := ab.len
        refine iteF ⟨_, rfl, pb, zs, rfl, .inr (.inl (.inl (e3 _ _ eb))), _, rfl, t, xs, rfl, .inr (.inl (.inl (e3 _ _ ht))), rfl, _, rfl, ?_⟩
        by_cases n4 : zs.length = xs.length
        · refine ifNY (by rw [n4]) ?_
          have n4' : decide (lenD (.tuple bs) = os.length) = true := decide_eq_true (by show bs.length = os.length; omega)
          refine ⟨_, rfl, t, xs, os, rfl, e3 _ _ ht, hos.same e3, l60, fun H4 e4' => ⟨_, rfl, ?_⟩⟩
          have e4 := e3.trans e4'
          cases n5 : procsOk os with
          | false => exact iteT (qn (by unfold goodG; rw [n5]; simp) H4 e4)
          | true =>
          obtain ⟨rs, rfl, hp⟩ := hos.p (by unfold procsOk at n5; rw [Bool.and_eq_true] at n5; exact n5.1)
          rw [rowsO_some] at s4
          rw [List.length_map] at l60
          refine iteF ⟨_, rfl, _, rfl, t, xs, rs, n, rfl, e4 _ _ ht, hp.same e4, l60, s4, fun H5 e5' => ⟨_, rfl, ?_⟩⟩
          have e5 := e4.trans e5'
          cases n6 : joined n rs with
          | false => exact iteT (qn (by unfold goodG; rw [rowsO_some, show joined (intOf (.int n)) rs = false from n6, Bool.and_false]) H5 e5)
          | true =>
          refine iteF ?_
          have q := qy (by unfold goodG; rw [n1, show isSet (intOf (.int n)) ds = true from n2, n3, n4', n5, rowsO_some, show joined (intOf (.int n)) rs = true from n6]; rfl)
          refine ⟨_, rfl, _, rfl, x, Cg, dx, [], rfl, e5 _ _ hx, cg.cls, cg.n1, by decide, ?_⟩
          refine ⟨_, rfl, _, rfl, x, Cg, dx, _, rfl, upd_same, cg.cls, cg.n2, (by show (1 : Nat) < 1000; decide), ?_⟩
          refine ⟨_, rfl, _, rfl, x, Cg, dx, _, rfl, upd_same, cg.cls, cg.n3, (by show (2 : Nat) < 1000; decide), ?_⟩
          refine ⟨_, rfl, _, rfl, x, Cg, dx, _, rfl, upd_same, cg.cls, cg.n4, (by show (3 : Nat) < 1000; decide), ?_⟩
          rw [upd_upd, upd_upd, upd_upd]
          have ex5 : ExtI H5 (upd H5 x (.ins Cg dx [("_modes", .int n), ("_starts", sv), ("_begin", .ref pb), ("_procedures", .ref t)])) := exti_put (e5 _ _ hx)
          have b6 : But x H (upd H5 x (.ins Cg dx [("_modes", .int n), ("_starts", sv), ("_begin", .ref pb), ("_procedures", .ref t)])) := but_at (But.ext e5)
          refine ⟨_, rfl, t, xs, rs, rfl, ex5 _ _ (e5 _ _ ht) (fun _ _ z => by cases z), (hp.same e5).exti ex5, l60, fun u H7 s7 nu ⟨uo, ud, hu⟩ => ⟨_, rfl, x, Cg, dx, _, rfl, s7 _ _ upd_same, cg.cls, cg.n5, (by show (4 : Nat) < 1000; decide), fun l nl => ?_⟩⟩
          have ux : u ≠ x := fun z => by
            rw [z, s7 _ _ upd_same] at hu
            cases hu
          have lx : l ≠ x := fun z => by
            rw [z, upd_same] at nl
            cases nl
          have lu : l ≠ u := fun z => by
            rw [z, upd_ne ux, hu] at nl
            cases nl
          refine ⟨_, rfl, x, Cg, dx, _, rfl, (upd_ne lx.symm).trans upd_same, cg.cls, cg.n6, (by show (5 : Nat) < 1000; decide), fun m nm => ?_⟩
          have mx : m ≠ x := fun z => by
            rw [z, upd_same] at nm
            cases nm
          have mu : m ≠ u := fun z => by
            rw [z, upd_ne ux, upd_ne lu.symm, upd_ne ux, hu] at nm
            cases nm
          refine ⟨_, rfl, x, Cg, dx, _, rfl, (upd_ne mx.symm).trans upd_same, cg.cls, cg.n7, (by show (6 : Nat) < 1000; decide), ?_⟩
          have b7 : But x H H7 := b6.same s7
          refine q _ (fun b o nb e => ?_) ⟨dx, u, l, m, upd_same, ?_⟩
          · have h7 := b7 b o nb e
            have bl : b ≠ l := fun z => by
              rw [z] at h7
              rw [upd_ne lx, h7] at nl
              cases nl
            have bm : b ≠ m := fun z => by
              rw [z] at h7 bl
              rw [upd_ne mx, upd_ne bl, upd_ne mx, h7] at nm
              cases nm
            rw [upd_ne nb, upd_ne bm, upd_ne nb, upd_ne bl, upd_ne nb]
            exact h7
          · refine ⟨uo, ud, ?_⟩
            rw [upd_ne ux, upd_ne mu.symm, upd_ne ux, upd_ne lu.symm, upd_ne ux, rowsO_some]
            exact hu
        · refine ifNN (fun z => n4 (by have := V.int.inj z; omega)) (qn ?_ H3 e3)
          unfold goodG
          rw [decide_eq_false (show ¬ lenD (.tuple bs) = os.length from fun z => n4 (by have z : bs.length = os.length := z; omega))]
          simp
      | _ => exact absurd n3 (by simp [isBagL])
    | _ => exact absurd n1 (by simp [isNr])
end
end My

namespace My
open PySem PySem.Spec PyProof.Rows L2 Sh Dt
open Cl (ErrC)
open Eo (OexG ps_ostG)
def findR (rs : List Row) (z : Str) : Option Row := rs.find? fun r => r.1 == z
def siteOf (rs : List Row) : PyData → Option PyData
  | .tuple [.str z, .int i] => (findR rs z).bind fun r => if 0 ≤ i ∧ i < r.2.2.length then r.2.2[i.toNat]? else none
  | _ => none
abbrev spIG (C Cg Ce : Addr) : Sp := fun vs H Q E => ∃ ws rest, vs = ws ++ rest ∧ ws.length = (["self", "modes", "starts", "begin"] : List Str).length ∧ rest.length ≤ sizeLine ∧ ∀ p : Addr, H p = none → spInitG C Cg Ce (ws ++ [V.ref p]) (upd H p (.tup rest)) Q E
def spOfG (C Cg Ce : Addr) : Sp := fun vs H Q E => ∃ mv sv bv t dm ds db, vs = [.ref Cg, mv, sv, bv, .ref t] ∧ D H mv dm ∧ D H sv ds ∧ D H bv db ∧ sm dm = true ∧ sm ds = true ∧ sm db = true ∧
  ((∃ xs os, H t = some (.tup xs) ∧ OAll C H xs os ∧ os.length ≤ 60 ∧ (∀ r ∈ rowsO os, ∀ m ∈ r.2.2, sm m = true) ∧ (goodG dm ds db os = true → ∀ H' a n, Same H H' → dm = .int n → H a = none → Pg C Cg H' a n ds db (rowsO os) → Q (.ref a) H') ∧ (goodG dm ds db os = false → ∀ H', Same H H' → E (.ref Ce) none H')) ∨
  ∃ xs, H t = some (.lst xs) ∧ ∀ H', Same H H' → E (.ref Ce) none H')
def spPosts (C Cg : Addr) (kind : Str) : Sp := fun vs H Q _ => ∃ a n ds db rs, vs = [.ref a] ∧ Pg C Cg H a n ds db rs ∧ ∀ p ys H', Same H H' → H' p = some (.tup ys) → DAll H' ys (sitesD kind rs) → Q (.ref p) H'
def spCont (C Cg : Addr) : Sp := fun vs H Q _ => ∃ a x n ds db rs d, vs = [.ref a, x] ∧ Pg C Cg H a n ds db rs ∧ D H x d ∧ Q (.bl (strIn d (rs.map (·.1)))) H
def spGet (C Cg Cn : Addr) : Sp := fun vs H Q E => ∃ a x n ds db rs d, vs = [.ref a, x] ∧ Pg C Cg H a n ds db rs ∧ D H x d ∧ ((∃ z r, d = .str z ∧ findR rs z = some r ∧ ∀ b, Pr C H b r.1 r.2.1 r.2.2 → Q (.ref b) H) ∨ (strIn d (rs.map (·.1)) = false ∧ ∀ dd H', Same H H' → H' dd = some (.xd [("name", x)]) → E (.ref Cn) (some dd) H'))
def spHas (C Cg : Addr) : Sp := fun vs H Q _ => ∃ a x n ds db rs d, vs = [.ref a, x] ∧ Pg C Cg H a n ds db rs ∧ D H x d ∧ sm d = true ∧ ∀ H', Same H H' → Q (.bl (siteOf rs d).isSome) H'
def spMoveG (C Cg Cs : Addr) : Sp := fun vs H Q E => ∃ a x n ds db rs d, vs = [.ref a, x] ∧ Pg C Cg H a n ds db rs ∧ D H x d ∧ sm d = true ∧ ((∃ m, siteOf rs d = some m ∧ ∀ v H', Same H H' → D H' v m → Q v H') ∨ (siteOf rs d = none ∧ ∀ dd H', Same H H' → H' dd = some (.xd [("site", x)]) → E (.ref Cs) (some dd) H'))
def spLenG (C Cg : Addr) : Sp := fun vs H Q _ => ∃ a n ds db rs, vs = [.ref a] ∧ Pg C Cg H a n ds db rs ∧ Q (.int rs.length) H
def textG (k : Nat) (n : Int) : Str := (((("program of " : Str) ++ (toString (k : Int) : String)) ++ (" procedures, " : Str)) ++ (toString n : String)) ++ (" modes" : Str)
def spStrG (C Cg : Addr) : Sp := fun vs H Q _ => ∃ a n ds db rs, vs = [.ref a] ∧ Pg C Cg H a n ds db rs ∧ Q (.str (textG rs.length n)) H
def spEqG (K : PySem.W.Frag) (C Cg : Addr) : Sp := fun vs H Q _ => ∃ a y n ds db rs, vs = [.ref a, y] ∧ Pg C Cg H a n ds db rs ∧ ((∃ b, y = .ref b ∧ Pg C Cg H b n ds db rs ∧ ds.plain = true ∧ db.plain = true ∧ ds.depth ≤ 60 ∧ db.depth ≤ 60 ∧ PyData.eqv ds ds = true ∧ PyData.eqv db db = true ∧ (∀ r ∈ rs, PyData.eqv (.tuple r.2.2) (.tuple r.2.2) = true) ∧ ∀ H', Same H H' → Q (.bl true) H') ∨ ∃ T, TyX K H y T ∧ PySem.W.kitOne K T (.ref Cg) = some false ∧ Q (.bl false) H)
theorem passH {P : Program} {w : World} {X : Cx} : Passes (L2.CX P w) X E0 := fun pins σ H s e s' I h => by
  obtain ⟨a, B, H', cls, d, _, _, _, _, _, _, _, h⟩ := h
  exact h.elim
theorem findR_none {rs : List Row} {z : Str} (h : findR rs z = none) : z ∉ rs.map (·.1) := fun m => by
  obtain ⟨r, hr, e⟩ := List.mem_map.mp m
  have := List.find?_eq_none.mp h r hr
  simp [e] at this
theorem findR_some {rs : List Row} {z : Str} {r : Row} (h : findR rs z = some r) : r ∈ rs ∧ r.1 = z := ⟨List.mem_of_find?_eq_some h, by simpa using List.find?_some h⟩
theorem findR_at {rs : List Row} {z : Str} {r : Row} (h : findR rs z = some r) : ∃ j : Nat, rs[j]? = some r ∧ (rs.map (·.1))[j]? = some z ∧ ∀ m : Nat, m < j → (rs.map (·.1))[m]? ≠ some z := by
  obtain ⟨_, i, hi, e1, e2⟩ := List.find?_eq_some_iff_getElem.mp h
  obtain ⟨mr, ez⟩ := findR_some h
  refine ⟨i, by rw [List.getElem?_eq_getElem hi, e1], by rw [List.getElem?_map, List.getElem?_eq_getElem hi, e1, ← ez]; rfl, fun m hm z2 => ?_⟩
  have := e2 m hm
  rw [List.getElem?_map, List.getElem?_eq_getElem (by omega)] at z2
  have z3 : (rs[m]'(by omega)).1 = z := Option.some.inj z2
  simp [z3] at this
theorem find_mem {rs : List Row} {z : Str} (h : z ∈ rs.map (·.1)) : ∃ r, findR rs z = some r := by
  cases e : findR rs z with
  | some r => exact ⟨r, rfl⟩
  | none => exact absurd h (findR_none e)
section
variable {P : Program} {w : World} {K : PySem.W.Frag} {mg : Str → Option Value} {base : Heap} {C Ce fI fO pO fE fL fS p1 g1 p2 g2 p3 g3 : Addr} {mc : Value}{Cg Cn Cs fIg fOg pOg fEg fLg fSg fGg fCg fMg fHg pg1 gg1 pg2 gg2 pg3 gg3 pg4 gg4 pg5 gg5 pg6 gg6 pg7 gg7 : Addr} {mcg : Value}
theorem ok_gof {f : Addr} {fd : FuncData} (F : Fun K "of" "Program.of" s_gof f fd) (FI : FnR P w K mg base (L2.CX P w) 8 fIg (spIG C Cg Ce)) (T : ErrC K mg "InvalidProgram" Ce) (cg : PgmC K mg Cg fIg fOg pOg fEg fLg fSg fGg fCg fMg fHg pg1 gg1 pg2 gg2 pg3 gg3 pg4 gg4 pg5 gg5 pg6 gg6 pg7 gg7 mcg)  (m_isinstance : mg "isinstance" = none) (m_tuple : mg "tuple" = none) :
    FnOk P w K mg base (L2.CX P w) 10 f fd ["cls", "modes", "starts", "begin", "procedures"] (spOfG C Cg Ce) := by
  refine F.okX sc_gof (fun vs H Q E h => ?_) (fun cdv A outer s H vs Q E hr h => ?_)
  · obtain ⟨mv, sv, bv, t, dm, ds, db, rfl, _⟩ := h
    rfl
  · obtain ⟨mv, sv, bv, t, dm, ds, db, rfl, hm, hs, hb, s1, s2, s3, h⟩ := h
    refine ⟨_, (pss_cons (ps_if (pt_not (pt_val (pe_callB call_isi (by rfl) m_isinstance (by decide +kernel) (pa_cons (pv 4) (pa_cons (pe_bltn (v := .ty "tuple") (by rfl) m_tuple (by decide +kernel) rfl) pa_nil)))))
        (pss_one (ps_raise rfl (takes_of rfl rfl rfl rfl) (pmk_own PySem.F.excBase_ValueError T.ex T.gC T.kC (raises_own T.bC T.tC) rfl)))
        pss_nil)
      (pss_one (ps_ret (Cl.pe_makeL cg.make FI (hr.mono (by decide)) (pv 0) (Cl.passE (takes_of rfl rfl rfl rfl)) (pa_cons (pv 1) (pa_cons (pv 2) (pa_cons (pv 3) (StX.pa_star (pv 4) pa_nil)))))))), ?_⟩
    rcases h with ⟨xs, os, e, ho, l60, s4, qy, qn⟩ | ⟨xs, e, qn⟩
    · have ln := ho.len
      refine ⟨_, rfl, _, _, _, _, true, rfl, .ty "tuple", .base (.tup e), kit_ty (by decide +kernel), _, rfl, iteF ⟨_, rfl, rfl, _, rfl, _, rfl, _, rfl, _, rfl, t, xs, rfl, .inl (.inl (.inl e)), fun x dx nx nd ne => ?_⟩⟩
      have sA := same_new (same_new (Same.refl H) nd (o := .own x)) ((upd_ne ne.symm).trans nx) (o := .ins Cg dx [])
      refine ⟨[.ref x, mv, sv, bv], xs ++ [], rfl, rfl, (by rw [List.append_nil]; exact Nat.le_of_lt (small1000 (by omega))), fun p np => ?_⟩
      have sB := same_new sA np (o := .tup (xs ++ []))
      rw [List.append_nil] at sB ⊢
      have xp : x ≠ p := fun z => by
        rw [← z, upd_same] at np
        cases np
      refine ⟨x, dx, mv, sv, bv, p, xs, dm, ds, db, os, rfl, upd_keep upd_same np, upd_same, hm.same sB, hs.same sB, hb.same sB, ho.same sB, l60, s1, s2, s3, s4, fun g H' b' ga => ⟨rfl, ?_⟩, fun g H' e' => ?_⟩
      · have al : os.all Option.isSome = true := by
          unfold goodG procsOk at g
          simp only [Bool.and_eq_true] at g
          exact g.1.2.1
        obtain ⟨rs, rfl, hp⟩ := ho.p al
        obtain ⟨n, rfl, gg⟩ := goodG_of g s2 s3
        rw [rowsO_some] at ga
        obtain ⟨dx', u, l, m, g1, g2⟩ := ga
        cases hm
        have sH : Same H H' := fun b o eb => b' b o (ne_of_none eb nx) (sB b o eb)
        refine qy g H' x n sH rfl nx ?_
        rw [rowsO_some]
        exact ⟨dx', sv, bv, p, xs, u, l, m, g1, hs.same sH, hb.same sH, b' _ _ xp.symm upd_same, hp.same sH, g2, gg⟩
      · exact qn g H' (sB.trans e')
    · exact ⟨_, rfl, _, _, _, _, false, rfl, .ty "tuple", .base (.lst e), kit_ty (by decide +kernel), _, rfl, iteT (qn H (Same.refl H))⟩
theorem ok_gcont {f : Addr} {fd : FuncData} {k : Nat} (F : Fun K "__contains__" "Program.__contains__" s_gcont f fd) (cg : PgmC K mg Cg fIg fOg pOg fEg fLg fSg fGg fCg fMg fHg pg1 gg1 pg2 gg2 pg3 gg3 pg4 gg4 pg5 gg5 pg6 gg6 pg7 gg7 mcg)  : FnOk P w K mg base CX0 (k + 1) f fd ["self", "value"] (spCont C Cg) := by
  refine F.ok sc_gcont (fun vs H Q E h => ?_) (fun cdv A outer s H vs Q E hr h => ?_)
  · obtain ⟨a, x, n, ds, db, rs, d, rfl, _⟩ := h
    rfl
  · obtain ⟨a, x, n, ds, db, rs, d, rfl, ⟨dx, sv, bv, t, xs, u, l, m, h1, h2, h3, h4, h5, h6, g⟩, hd, q⟩ := h
    refine ⟨_, (pss_one (ps_ret (pe_cmpR (op_inS hr.units) (pv 1) (pe_fld (pv 0) rfl) (by with_unfolding_all rfl)))), ?_⟩
    exact ⟨_, rfl, _, rfl, a, Cg, dx, _, _, rfl, h1, cg.cls, cg.n5, rfl, d, u, _, hd, rfl, h6.sq, q⟩
theorem ok_glen {f : Addr} {fd : FuncData} {k : Nat} (F : Fun K "__len__" "Program.__len__" s_glen f fd) (cg : PgmC K mg Cg fIg fOg pOg fEg fLg fSg fGg fCg fMg fHg pg1 gg1 pg2 gg2 pg3 gg3 pg4 gg4 pg5 gg5 pg6 gg6 pg7 gg7 mcg)  (m_len : mg "len" = none) : FnOk P w K mg base CX0 (k + 1) f fd ["self"] (spLenG C Cg) := by
  refine F.ok sc_glen (fun vs H Q E h => ?_) (fun cdv A outer s H vs Q E hr h => ?_)
  · obtain ⟨a, n, ds, db, rs, rfl, _⟩ := h
    rfl
  · obtain ⟨a, n, ds, db, rs, rfl, ⟨dx, sv, bv, t, xs, u, l, m, h1, h2, h3, h4, h5, h6, g⟩, q⟩ := h
    refine ⟨_, (pss_one (ps_ret (pe_callB call_len_seq (by rfl) m_len (by decide +kernel) (pa_cons (pe_fld (pv 0) rfl) pa_nil)))), ?_⟩
    refine ⟨_, rfl, a, Cg, dx, _, _, rfl, h1, cg.cls, cg.n4, rfl, t, xs, rfl, .inr (.inl (.inl h4)), ?_⟩
    rw [h5.len]
    exact q
theorem ok_gstr {f : Addr} {fd : FuncData} {k : Nat} (F : Fun K "__str__" "Program.__str__" s_gstr f fd) (cg : PgmC K mg Cg fIg fOg pOg fEg fLg fSg fGg fCg fMg fHg pg1 gg1 pg2 gg2 pg3 gg3 pg4 gg4 pg5 gg5 pg6 gg6 pg7 gg7 mcg)  (m_len : mg "len" = none) : FnOk P w K mg base CX0 (k + 1) f fd ["self"] (spStrG C Cg) := by
  refine F.ok sc_gstr (fun vs H Q E h => ?_) (fun cdv A outer s H vs Q E hr h => ?_)
  · obtain ⟨a, n, ds, db, rs, rfl, _⟩ := h
    rfl
  · obtain ⟨a, n, ds, db, rs, rfl, ⟨dx, sv, bv, t, xs, u, l, m, h1, h2, h3, h4, h5, h6, g⟩, q⟩ := h
    refine ⟨_, (pss_one (ps_ret (pe_joined (.cons pe_str (.cons (pe_fmt (pe_callB call_len_seq (by rfl) m_len (by decide +kernel) (pa_cons (pe_fld (pv 0) rfl) pa_nil))) (.cons pe_str (.cons (pe_fmt (pe_fld (pv 0) rfl)) (.cons pe_str .nil)))))))), ?_⟩
    have few := g.few
    obtain ⟨pn, rfl⟩ := Int.eq_ofNat_of_zero_le (show 0 ≤ n by have := g.lo; omega)
    have lp : pn ≤ 60 := by have := g.hi; omega
    have k0 : (Str.empty ++ ("program of " : Str)).length ≤ 20 := by decide +kernel
    have k1 := le_app k0 (dig_len rs.length (by omega)) (k := 30) (by decide)
    have k2 := le_app k1 (show (" procedures, " : Str).length ≤ 15 by decide +kernel) (k := 50) (by decide)
    have k3 := le_app k2 (dig_len pn lp) (k := 60) (by decide)
    have k4 := le_app k3 (show (" modes" : Str).length ≤ 10 by decide +kernel) (k := 80) (by decide)
    have sl : ∀ {y : Str}, y.length ≤ 80 → y.length ≤ sizeLine := fun h => Nat.le_of_lt (small1000 (by omega))
    have l2 : ∀ n : Nat, n ≤ 60 → (n : Int).natAbs.log2 < 1920 := fun n h => by
      have := Nat.log2_le_self n
      rw [Int.natAbs_natCast]
      omega
    have ex := h5.len
    refine ⟨_, rfl, sl (Nat.le_trans k0 (by decide)), _, rfl, a, Cg, dx, _, _, rfl, h1, cg.cls, cg.n4, rfl, t, xs, rfl, .inr (.inl (.inl h4)), .inr ⟨((rs.length : Nat) : Int), by rw [ex], l2 _ (by omega), _, rfl, sl (by omega), _, rfl, sl (by omega), _, rfl, a, Cg, dx, _, _, rfl, h1, cg.cls, cg.n1, rfl, .inr ⟨(pn : Int), rfl, l2 pn lp, _, rfl, sl (by omega), _, rfl, sl (by omega), ?_⟩⟩⟩
    have e0 : (Str.empty ++ ("program of " : Str)) = ("program of " : Str) := by decide +kernel
    show Q (.str ((((((Str.empty ++ ("program of " : Str)) ++ _) ++ _) ++ _) ++ _))) H
    rw [e0]
    exact q
theorem ok_gposts {f f_sites_of : Addr} {fd fd_sites_of : FuncData} (F : Fun K "posts" "Program.posts" s_gposts f fd) (cg : PgmC K mg Cg fIg fOg pOg fEg fLg fSg fGg fCg fMg fHg pg1 gg1 pg2 gg2 pg3 gg3 pg4 gg4 pg5 gg5 pg6 gg6 pg7 gg7 mcg) (G_sites_of : FnOk P w K mg base CX0 3 f_sites_of fd_sites_of ["procedures", "kind"] (spSites C)) (F_sites_of : Fun K "sites_of" "sites_of" s_sites_of f_sites_of fd_sites_of) (b_sites_of : Binds K fd_sites_of ["procedures", "kind"] []) (g_sites_of : mg "sites_of" = some (.ref f_sites_of)) : FnOk P w K mg base CX0 4 f fd ["self"] (spPosts C Cg "post") := by
  refine F.ok sc_gposts (fun vs H Q E h => ?_) (fun cdv A outer s H vs Q E hr h => ?_)
  · obtain ⟨a, n, ds, db, rs, rfl, _⟩ := h
    rfl
  · obtain ⟨a, n, ds, db, rs, rfl, ⟨dx, sv, bv, t, xs, u, l, m, h1, h2, h3, h4, h5, h6, g⟩, q⟩ := h
    refine ⟨_, (pss_one (ps_ret (pe_call G_sites_of (hr.mono (by decide)) (by rfl) g_sites_of F_sites_of.kp b_sites_of .nil pass0 (pa_cons (pe_fld (pv 0) rfl) (pa_cons pe_str pa_nil))))), ?_⟩
    exact ⟨_, rfl, a, Cg, dx, _, _, rfl, h1, cg.cls, cg.n4, rfl, t, xs, rs, "post", rfl, h4, h5, by have := g.few; omega, q⟩
theorem ok_gcalls {f f_sites_of : Addr} {fd fd_sites_of : FuncData} (F : Fun K "calls" "Program.calls" s_gcalls f fd) (cg : PgmC K mg Cg fIg fOg pOg fEg fLg fSg fGg fCg fMg fHg pg1 gg1 pg2 gg2 pg3 gg3 pg4 gg4 pg5 gg5 pg6 gg6 pg7 gg7 mcg) (G_sites_of : FnOk P w K mg base CX0 3 f_sites_of fd_sites_of ["procedures", "kind"] (spSites C)) (F_sites_of : Fun K "sites_of" "sites_of" s_sites_of f_sites_of fd_sites_of) (b_sites_of : Binds K fd_sites_of ["procedures", "kind"] []) (g_sites_of : mg "sites_of" = some (.ref f_sites_of)) : FnOk P w K mg base CX0 4 f fd ["self"] (spPosts C Cg "call") := by
  refine F.ok sc_gcalls (fun vs H Q E h => ?_) (fun cdv A outer s H vs Q E hr h => ?_)
  · obtain ⟨a, n, ds, db, rs, rfl, _⟩ := h
    rfl
  · obtain ⟨a, n, ds, db, rs, rfl, ⟨dx, sv, bv, t, xs, u, l, m, h1, h2, h3, h4, h5, h6, g⟩, q⟩ := h
    refine ⟨_, (pss_one (ps_ret (pe_call G_sites_of (hr.mono (by decide)) (by rfl) g_sites_of F_sites_of.kp b_sites_of .nil pass0 (pa_cons (pe_fld (pv 0) rfl) (pa_cons pe_str pa_nil))))), ?_⟩
    exact ⟨_, rfl, a, Cg, dx, _, _, rfl, h1, cg.cls, cg.n4, rfl, t, xs, rs, "call", rfl, h4, h5, by have := g.few; omega, q⟩
end
end My

namespace My
open PySem PySem.Spec PyProof.Rows L2 Sh Dt
open Cl (ErrC)
open Eo (OexG ps_ostG)
/-- two procedures of the same row -/
def PrRel (C : Addr) (a b : Addr) (H : Hp) : Prop := ∃ z p ms, Pr C H a z p ms ∧ Pr C H b z p ms ∧ PyData.eqv (.tuple ms) (.tuple ms) = true
theorem prMon {C : Addr} : ∀ a b H H', Ext H H' → PrRel C a b H → PrRel C a b H' := fun a b H H' e ⟨z, p, ms, h1, h2, h3⟩ => ⟨z, p, ms, h1.same e, h2.same e, h3⟩
theorem peqR {K : PySem.W.Frag} {C : Addr} : ∀ vs H Q E, L2.spEq (PrRel C) vs H Q E → spEqP K C vs H Q E := fun vs H Q E ⟨a, b, e, ⟨z, p, ms, h1, h2, h3⟩, q⟩ =>
  ⟨a, .ref b, z, p, ms, e, h1, .inl ⟨b, z, p, ms, rfl, h2, by rw [h3]; simpa using q H Ext.rfl'⟩⟩
theorem PAll.prs {C : Addr} {H : Hp} {xs ys : List V} {rs : List Row} (h : PAll C H xs rs) (g : PAll C H ys rs) (e : ∀ r ∈ rs, PyData.eqv (.tuple r.2.2) (.tuple r.2.2) = true) : Prs (DIns C (PrRel C)) xs ys H := by
  refine ⟨by rw [h.len, g.len], fun i x y h1 h2 => ?_⟩
  obtain ⟨a, r, rfl, hr, p1⟩ := h.get h1
  obtain ⟨b, r2, rfl, hr2, p2⟩ := g.get h2
  rw [hr] at hr2
  cases hr2
  have p1' := p1
  have p2' := p2
  obtain ⟨dx, t, us, a1, _⟩ := p1
  obtain ⟨dy, u, vs, b1, _⟩ := p2
  exact ⟨a, b, dx, dy, _, _, rfl, rfl, a1, b1, _, _, _, p1', p2', e r (List.mem_of_getElem? hr)⟩
theorem strIn_true {d : PyData} {zs : List Str} (h : strIn d zs = true) : ∃ z, d = .str z ∧ z ∈ zs := by
  unfold strIn at h
  obtain ⟨y, hy, e⟩ := List.any_eq_true.mp h
  cases d with
  | str z =>
    have : y = z := by simpa [PyData.eqv] using e
    exact ⟨z, rfl, this ▸ hy⟩
  | _ => exact absurd e (by simp [PyData.eqv])
theorem siteOf_out {rs : List Row} {d0 d1 : PyData} (h : strIn d0 (rs.map (·.1)) = false) : siteOf rs (.tuple [d0, d1]) = none := by
  cases d0 with
  | str z =>
    rw [strIn_mem] at h
    have hn : z ∉ rs.map (·.1) := of_decide_eq_false h
    have e : findR rs z = none := by
      cases e : findR rs z with
      | none => rfl
      | some r =>
        obtain ⟨m, rfl⟩ := findR_some e
        exact absurd (List.mem_map.mpr ⟨r, m, rfl⟩) hn
    cases d1 with
    | int i =>
      show (findR rs z).bind _ = none
      rw [e]
      rfl
    | _ => rfl
  | _ => rfl
theorem siteOf_len {rs : List Row} {ds : List PyData} (h : ds.length ≠ 2) : siteOf rs (.tuple ds) = none := by
  match ds, h with
  | [], _ => rfl
  | [a], _ => cases a <;> rfl
  | [a, b], h => exact absurd rfl h
  | a :: b :: c :: r, _ => cases a <;> try rfl
                           cases b <;> rfl
theorem siteOf_in {rs : List Row} {z : Str} {r : Row} {d1 : PyData} (h : findR rs z = some r) : (siteOf rs (.tuple [.str z, d1])).isSome = isNum (r.2.2.length : Int) d1 := by
  cases d1 with
  | int i =>
    show ((findR rs z).bind fun r => if 0 ≤ i ∧ i < r.2.2.length then r.2.2[i.toNat]? else none).isSome = (decide (0 ≤ i) && decide (i < (r.2.2.length : Int)))
    rw [h, ← Bool.decide_and]
    by_cases c : 0 ≤ i ∧ i < r.2.2.length
    · show (if 0 ≤ i ∧ i < r.2.2.length then r.2.2[i.toNat]? else none).isSome = _
      rw [if_pos c, decide_eq_true c, List.getElem?_eq_getElem (by omega)]
      rfl
    · show (if 0 ≤ i ∧ i < r.2.2.length then r.2.2[i.toNat]? else none).isSome = _
      rw [if_neg c, decide_eq_false c]
      rfl
  | _ => rfl
theorem siteOf_some {rs : List Row} {d m : PyData} (h : siteOf rs d = some m) : ∃ z i r, d = .tuple [.str z, .int ((i : Nat) : Int)] ∧ findR rs z = some r ∧ r.2.2[i]? = some m := by
  unfold siteOf at h
  split at h
  · rename_i z i
    cases e : findR rs z with
    | none =>
      rw [e] at h
      cases h
    | some r =>
      rw [e] at h
      have h : (if 0 ≤ i ∧ i < r.2.2.length then r.2.2[i.toNat]? else none) = some m := h
      by_cases c : 0 ≤ i ∧ i < r.2.2.length
      · rw [if_pos c] at h
        exact ⟨z, i.toNat, r, by rw [Int.toNat_of_nonneg c.1], e, h⟩
      · rw [if_neg c] at h
        cases h
  · cases h
section
variable {P : Program} {w : World} {K : PySem.W.Frag} {mg : Str → Option Value} {base : Heap} {C Ce fI fO pO fE fL fS p1 g1 p2 g2 p3 g3 : Addr} {mc : Value}{Cg Cn Cs fIg fOg pOg fEg fLg fSg fGg fCg fMg fHg pg1 gg1 pg2 gg2 pg3 gg3 pg4 gg4 pg5 gg5 pg6 gg6 pg7 gg7 : Addr} {mcg : Value}
theorem ok_gget {f : Addr} {fd : FuncData} (F : Fun K "__getitem__" "Program.__getitem__" s_gget f fd) (cg : PgmC K mg Cg fIg fOg pOg fEg fLg fSg fGg fCg fMg fHg pg1 gg1 pg2 gg2 pg3 gg3 pg4 gg4 pg5 gg5 pg6 gg6 pg7 gg7 mcg) (FC : FnR P w K mg base CX0 1 fCg (spCont C Cg)) {fin : Addr} {fdin : FuncData} (XN : FldC K mg "UnknownName" "name" Cn fin) (FIn : L2.Fun K "__init__" "UnknownName.__init__" s_iUn fin fdin) (bIn : Binds K fdin ["self", "name"] []) : FnOk P w K mg base (L2.CX P w) 3 f fd ["self", "name"] (spGet C Cg Cn) := by
  refine F.okX sc_gget (fun vs H Q E h => ?_) (fun cdv A outer s H vs Q E hr h => ?_)
  · obtain ⟨a, x, n, ds, db, rs, d, rfl, _⟩ := h
    rfl
  · obtain ⟨a, x, n, ds, db, rs, d, rfl, pg, hd, q⟩ := h
    have pg' := pg
    obtain ⟨dx, sv, bv, t, xs, u, l, m, h1, h2, h3, h4, h5, h6, g⟩ := pg
    refine ⟨_, (pss_cons (ps_if (pt_cmpR (_root_.Cn.op_ninO cg.ct cg.ctf FC (hr.mono (by decide)) (passC0 _)) (pv 1) (pv 0) (by with_unfolding_all rfl))
        (pss_one (ps_raise rfl (takes_of rfl rfl rfl rfl) (_root_.Cn.pmk_field PySem.F.excBase_LookupError tlKE XN.t XN.bC XN.tC XN.iC XN.tI (ok_iUn (k := 0) FIn XN.t XN.no) (hr.mono (by decide)) bIn (passC0 _) (by rfl) XN.gC (pa_cons (pv 1) pa_nil))))
        pss_nil)
      (pss_one (ps_ret (pe_ix ix_tup (pe_fld (pv 0) rfl) (Fz.pe_index mt_tup_index (pe_fld (pv 0) rfl) (pa_cons (pv 1) pa_nil)) (fun _ _ => rfl))))), ?_⟩
    rcases q with ⟨z, r, rfl, hf, q⟩ | ⟨hn, q⟩
    · obtain ⟨j, e1, e2, e3⟩ := findR_at hf
      have hin : strIn (.str z) (rs.map (·.1)) = true := by
        rw [strIn_mem]
        exact decide_eq_true (List.mem_of_getElem? e2)
      refine ⟨_, rfl, _, rfl, a, dx, _, rfl, h1, ⟨a, x, n, ds, db, rs, _, rfl, pg', hd, _, rfl, _, rfl, ?_⟩⟩
      rw [hin]
      cases hd
      obtain ⟨v, hv⟩ : ∃ v, xs[j]? = some v := ⟨_, List.getElem?_eq_getElem (by have := (List.getElem?_eq_some_iff.mp e1).1; have := h5.len; omega)⟩
      obtain ⟨b, r2, rfl, hr2, pr⟩ := h5.get hv
      rw [e1] at hr2
      cases hr2
      exact iteF ⟨_, rfl, a, Cg, dx, _, _, rfl, h1, cg.cls, cg.n4, rfl, _, rfl, a, Cg, dx, _, _, rfl, h1, cg.cls, cg.n5, rfl, ⟨u, _, rfl, h6⟩, _, rfl, u, rs.map (·.1), z, j, rfl, rfl, h6.sq, e2, e3, t, xs, (j : Int), .ref b, rfl, rfl, .inl (.inl h4), atI_nat hv, q b pr⟩
    · refine ⟨_, rfl, _, rfl, a, dx, _, rfl, h1, ⟨a, x, n, ds, db, rs, _, rfl, pg', hd, _, rfl, _, rfl, ?_⟩⟩
      rw [hn]
      exact iteT ⟨_, rfl, raised q⟩
theorem ok_ghas {f f_is_index : Addr} {fd fd_is_index : FuncData}(F : Fun K "_has_site" "Program._has_site" s_ghas f fd) (c : PcdC K mg C fI fO pO fE fL fS p1 g1 p2 g2 p3 g3 mc) (cg : PgmC K mg Cg fIg fOg pOg fEg fLg fSg fGg fCg fMg fHg pg1 gg1 pg2 gg2 pg3 gg3 pg4 gg4 pg5 gg5 pg6 gg6 pg7 gg7 mcg) (G_is_index : FnOk P w K mg base CX0 2 f_is_index fd_is_index ["value", "many"] (spOn1 isNum)) (F_is_index : Fun K "is_index" "is_index" s_is_index f_is_index fd_is_index) (b_is_index : Binds K fd_is_index ["value", "many"] []) (g_is_index : mg "is_index" = some (.ref f_is_index))(FC : FnR P w K mg base CX0 1 fCg (spCont C Cg)) (FG : FnR P w K mg base (L2.CX P w) 3 fGg (spGet C Cg Cn)) (FLp : FnR P w K mg base CX0 1 fL (spLenP C))  (m_isinstance : mg "isinstance" = none) (m_tuple : mg "tuple" = none) (m_len : mg "len" = none) : FnOk P w K mg base (L2.CX P w) 5 f fd ["self", "value"] (spHas C Cg) := by
  refine F.okX sc_ghas (fun vs H Q E h => ?_) (fun cdv A outer s H vs Q E hr h => ?_)
  · obtain ⟨a, x, n, ds, db, rs, d, rfl, _⟩ := h
    rfl
  · obtain ⟨a, x, n, ds, db, rs, d, rfl, pg, hd, hs, q⟩ := h
    have pg' := pg
    obtain ⟨dx, sv, bv, t, us, u, l, m, h1, h2, h3, h4, h5, h6, g⟩ := pg
    refine ⟨_, (pss_cons (ps_if (PW.pt (pw_or (pt_not (pt_val (pe_callB call_isD (by rfl) m_isinstance (by decide +kernel) (pa_cons (pv 1) (pa_cons (pe_bltn (v := .ty "tuple") (by rfl) m_tuple (by decide +kernel) rfl) pa_nil))))) (pw_or (pt_cmpR op_ne (pe_callB call_len_seq (by rfl) m_len (by decide +kernel) (pa_cons (pv 1) pa_nil)) pe_int (nomark _)) (pw_or1 (pt_cmpR (_root_.Cn.op_ninO cg.ct cg.ctf FC (hr.mono (by decide)) (passC0 _)) (pe_ix ix_tup (pv 1) pe_int (fun _ _ => rfl)) (pv 0) (by with_unfolding_all rfl))))))
        (pss_one (ps_ret pe_bl))
        pss_nil)
      (pss_one (ps_ret (pe_call G_is_index (hr.mono (by decide)) (by rfl) g_is_index F_is_index.kp b_is_index .nil pass0 (pa_cons (pe_ix ix_tup (pv 1) pe_int (fun _ _ => rfl)) (pa_cons (pe_callB (Cl.call_lenO c.ln c.lnf FLp (hr.mono (by decide)) (passC0 _)) (by rfl) m_len (by decide +kernel) (pa_cons (_root_.Cn.pe_getO cg.gi cg.gif cg.gifn FG (hr.mono (by decide)) Cl.passF (pv 0) (pe_ix ix_tup (pv 1) pe_int (fun _ _ => rfl))) pa_nil)) pa_nil)))))), ?_⟩
    refine ⟨_, rfl, _, d, _, _, rfl, hd, kT d, _, rfl, ?_⟩
    cases d with
    | tuple ds =>
      cases hd with
      | @tup p xs ds e a2 =>
      obtain ⟨l60, sms⟩ := sm_tup.mp hs
      have ln := a2.len
      refine iteF ⟨_, rfl, p, xs, rfl, .inr (.inl (.inl e)), rfl, _, rfl, ?_⟩
      match ds, xs, a2 with
      | [], _, .nil => exact ifNN (intN (by decide)) (q H (Same.refl H))
      | [_], _, .cons _ .nil => exact ifNN (intN (by simp)) (by have := q H (Same.refl H); rw [siteOf_len (by simp)] at this; exact this)
      | x :: y :: z :: r, _, .cons _ (.cons _ (.cons (vs := vs) _ ar)) => exact ifNN (intN (by simp)) (by have := q H (Same.refl H); rw [siteOf_len (by simp)] at this; exact this)
      | [d0, d1], _, .cons (v := x0) a0 (.cons (v := x1) a1 .nil) =>
        refine ifNY rfl ?_
        refine ⟨_, rfl, p, _, 0, x0, rfl, rfl, .inl (.inl e), rfl, _, rfl, a, dx, _, rfl, h1, ⟨a, x0, n, _, _, rs, d0, rfl, pg', a0, _, rfl, _, rfl, ?_⟩⟩
        cases e0 : strIn d0 (rs.map (·.1)) with
        | false =>
          refine iteT ?_
          rw [siteOf_out e0] at q
          exact q H (Same.refl H)
        | true =>
          obtain ⟨z, rfl, hz⟩ := strIn_true e0
          obtain ⟨r, hf⟩ := find_mem hz
          refine iteF ⟨_, rfl, p, _, 1, x1, rfl, rfl, .inl (.inl e), rfl, _, rfl, _, rfl, p, _, 0, x0, rfl, rfl, .inl (.inl e), rfl, a, dx, _, rfl, h1, ⟨a, x0, n, _, _, rs, _, rfl, pg', a0, .inl ⟨z, r, rfl, hf, fun b pr => ?_⟩⟩⟩
          have pr' := pr
          obtain ⟨db, tb, xb, b1, b2, b3, gb⟩ := pr
          have lg := good_len gb
          refine ⟨b, db, _, rfl, b1, ⟨b, _, _, _, rfl, pr', (r.2.2.length : Int), rfl, by omega, by omega, x1, _, d1, rfl, a1, sms d1 (by simp), fun H1 s1 => ?_⟩⟩
          have q := q H1 s1
          rw [siteOf_in hf] at q
          exact q
    | _ => exact iteT (iteT (q H (Same.refl H)))
theorem ok_gmove {f : Addr} {fd : FuncData} (F : Fun K "move" "Program.move" s_gmove f fd) (c : PcdC K mg C fI fO pO fE fL fS p1 g1 p2 g2 p3 g3 mc) (cg : PgmC K mg Cg fIg fOg pOg fEg fLg fSg fGg fCg fMg fHg pg1 gg1 pg2 gg2 pg3 gg3 pg4 gg4 pg5 gg5 pg6 gg6 pg7 gg7 mcg) {fdg1 : FuncData} (G_g1 : FnOk P w K mg base CX0 1 g1 fdg1 ["self"] (getSp C "_called")) (b_g1 : Binds K fdg1 ["self"] []) {fdg2 : FuncData} (G_g2 : FnOk P w K mg base CX0 1 g2 fdg2 ["self"] (getSp C "_points")) (b_g2 : Binds K fdg2 ["self"] []) {fdg3 : FuncData} (G_g3 : FnOk P w K mg base CX0 1 g3 fdg3 ["self"] (getSp C "_moves")) (b_g3 : Binds K fdg3 ["self"] []){fdh : FuncData} (G_has : FnOk P w K mg base (L2.CX P w) 5 fHg fdh ["self", "value"] (spHas C Cg)) (b_has : Binds K fdh ["self", "value"] []) (FG : FnR P w K mg base (L2.CX P w) 3 fGg (spGet C Cg Cn)) {fis : Addr} {fdis : FuncData} (XS : FldC K mg "UnknownSite" "site" Cs fis) (FIs : L2.Fun K "__init__" "UnknownSite.__init__" s_iUs fis fdis) (bIs : Binds K fdis ["self", "site"] []) : FnOk P w K mg base (L2.CX P w) 6 f fd ["self", "site"] (spMoveG C Cg Cs) := by
  refine F.okX sc_gmove (fun vs H Q E h => ?_) (fun cdv A outer s H vs Q E hr h => ?_)
  · obtain ⟨a, x, n, ds, db, rs, d, rfl, _⟩ := h
    rfl
  · obtain ⟨a, x, n, ds, db, rs, d, rfl, pg, hd, hs, q⟩ := h
    have pg' := pg
    obtain ⟨dx, sv, bv, t, us, u, l, m, h1, h2, h3, h4, h5, h6, g⟩ := pg
    refine ⟨_, (pss_cons (ps_if (pt_not (pt_val (pe_meth (pv 0) cg.cls cg.mh G_has (hr.mono (by decide)) b_has .nil (Cl.passF) (pa_cons (pv 1) pa_nil))))
        (pss_one (ps_raise rfl (takes_of rfl rfl rfl rfl) (_root_.Cn.pmk_field PySem.F.excBase_LookupError tlKE XS.t XS.bC XS.tC XS.iC XS.tI (ok_iUs (k := 0) FIs XS.t XS.no) (hr.mono (by decide)) bIs (passC0 _) (by rfl) XS.gC (pa_cons (pv 1) pa_nil))))
        pss_nil)
      (pss_one (ps_ret (pe_ix ix_tup (pe_prop (_root_.Cn.pe_getO cg.gi cg.gif cg.gifn FG (hr.mono (by decide)) (Cl.passE (takes_of rfl rfl rfl rfl)) (pv 0) (pe_ix ix_tup (pv 1) pe_int (fun _ _ => rfl))) c.cls c.q3 G_g3 (hr.mono (by decide)) b_g3 .nil (passC0 _) rfl) (pe_ix ix_tup (pv 1) pe_int (fun _ _ => rfl)) (fun _ _ => rfl))))), ?_⟩
    refine ⟨_, rfl, a, dx, _, rfl, h1, rfl, _, rfl, a, x, n, ds, db, rs, d, rfl, pg', hd, hs, fun H1 s1 => ?_⟩
    rcases q with ⟨mv, e, q⟩ | ⟨e, q⟩
    · rw [e]
      obtain ⟨z, i, r, rfl, hf, hm⟩ := siteOf_some e
      cases hd with
      | @tup p xs _ ep a2 =>
      match xs, a2 with
      | [x0, x1], .cons a0 (.cons a1 .nil) =>
        cases a1
        refine ⟨_, rfl, iteF ⟨_, rfl, _, rfl, p, _, 0, x0, rfl, rfl, .inl (.inl (s1 _ _ ep)), rfl, a, dx, _, rfl, s1 _ _ h1, ⟨a, x0, n, ds, db, rs, .str z, rfl, pg'.same s1, a0.same s1, .inl ⟨z, r, rfl, hf, fun b pr => ?_⟩⟩⟩⟩
        obtain ⟨dy, tb, xb, b1, b2, b3, gb⟩ := pr
        obtain ⟨v, hv, dv⟩ := b3.get' hm
        exact ⟨b, dy, _, rfl, b1, b, dy, _, _, rfl, b1, rfl, _, rfl, p, _, 1, .int (i : Nat), rfl, rfl, .inl (.inl (s1 _ _ ep)), rfl, tb, xb, (i : Int), v, rfl, rfl, .inl (.inl b2), atI_nat hv, q v H1 s1 dv⟩
    · rw [e]
      exact ⟨_, rfl, iteT ⟨_, rfl, raised fun dd G sg hg => q dd G (s1.trans sg) hg⟩⟩
theorem ok_geq {f : Addr} {fd : FuncData} (F : Fun K "__eq__" "Program.__eq__" s_geq f fd) (c : PcdC K mg C fI fO pO fE fL fS p1 g1 p2 g2 p3 g3 mc) (cg : PgmC K mg Cg fIg fOg pOg fEg fLg fSg fGg fCg fMg fHg pg1 gg1 pg2 gg2 pg3 gg3 pg4 gg4 pg5 gg5 pg6 gg6 pg7 gg7 mcg) {fde : FuncData} (FEq : FnOk P w K mg base CX0 1 fE fde ["self", "other"] (spEqP K C)) (bEq : Binds K fde ["self", "other"] [])  (m_isinstance : mg "isinstance" = none) : FnOk P w K mg base CX0 4 f fd ["self", "other"] (spEqG K C Cg) := by
  refine F.ok sc_geq (fun vs H Q E h => ?_) (fun cdv A outer s H vs Q E hr h => ?_)
  · obtain ⟨a, y, n, ds, db, rs, rfl, _⟩ := h
    rfl
  · obtain ⟨a, y, n, ds, db, rs, rfl, pg, q⟩ := h
    have pg' := pg
    obtain ⟨dx, sv, bv, t, us, u, l, m, h1, h2, h3, h4, h5, h6, g⟩ := pg
    refine ⟨_, (pss_cons (ps_if (pt_not (pt_val (pe_callB call_isi (by rfl) m_isinstance (by decide +kernel) (pa_cons (pv 1) (pa_cons (pe_glob (v := .ref Cg) rfl cg.gP rfl) pa_nil)))))
        (pss_one (ps_ret pe_bl))
        pss_nil)
      (pss_cons (ps_if (PW.pt (pw_or (pt_cmpR op_ne (pe_fld (pv 0) rfl) (pe_fld (pv 1) rfl) (nomark _)) (pw_or1 (pt_cmpR (op_neH hr.units) (pe_fld (pv 0) rfl) (pe_fld (pv 1) rfl) (nomark _)))))
        (pss_one (ps_ret pe_bl))
        pss_nil)
      (pss_one (ps_ret (pe_and (pe_cmpR (op_eqH hr.units) (pe_fld (pv 0) rfl) (pe_fld (pv 1) rfl) (nomark _)) (pe_one (pe_cmpR (op_eqG (rcG_tup (mon_ins prMon) (eqG_ins (FEq.imp peqR) c.eq c.eqf bEq (passC0 _))) (hr.mono (by decide))) (pe_fld (pv 0) rfl) (pe_fld (pv 1) rfl) (nomark _)))))))), ?_⟩
    rcases q with ⟨b, rfl, pgb, hs1, hb1, d1, d2, r1, r2, r3, q⟩ | ⟨T, ty, hk, q⟩
    · obtain ⟨dx2, sv2, bv2, t2, us2, u2, l2, m2, k1, k2, k3, k4, k5, k6, _⟩ := pgb
      have nn : decide (V.int n = V.int n) = true := decide_eq_true rfl
      refine ⟨_, rfl, _, _, _, _, true, rfl, .own Cg, .base (.ins k1 cg.cls cg.c1 cg.c2 cg.c3 cg.c4), cg.k1, _, rfl, iteF ?_⟩
      refine ⟨_, rfl, a, Cg, dx, _, _, rfl, h1, cg.cls, cg.n1, rfl, _, rfl, b, Cg, dx2, _, _, rfl, k1, cg.cls, cg.n1, rfl, rfl, _, rfl, ?_⟩
      rw [nn]
      refine iteF ⟨_, rfl, a, Cg, dx, _, _, rfl, h1, cg.cls, cg.n2, rfl, _, rfl, b, Cg, dx2, _, _, rfl, k1, cg.cls, cg.n2, rfl, ds, ds, h2, k2, hs1, hs1, d1, d1, g.sd, g.sd, _, rfl, ?_⟩
      rw [r1]
      refine iteF ⟨_, rfl, a, Cg, dx, _, _, rfl, h1, cg.cls, cg.n3, rfl, _, rfl, b, Cg, dx2, _, _, rfl, k1, cg.cls, cg.n3, rfl, db, db, h3, k3, hb1, d2, ?_⟩
      rw [r2]
      exact ⟨true, rfl, iteT ⟨_, rfl, a, Cg, dx, _, _, rfl, h1, cg.cls, cg.n4, rfl, _, rfl, b, Cg, dx2, _, _, rfl, k1, cg.cls, cg.n4, rfl, ⟨t, t2, us, us2, rfl, rfl, .inl (.inl h4), .inl (.inl k4), h5.prs k5 r3⟩, fun H' e => q H' e⟩⟩
    · exact ⟨_, rfl, _, _, _, _, false, rfl, .own Cg, ty, hk, _, rfl, iteT q⟩
end
end My

namespace My
open PySem PySem.Spec PyProof.Rows L2 Sh Dt
open Cl (ErrC)
def bagOf (k : Nat) : PyData → Bool
  | .tuple ds => decide (ds.length = k) && ds.all (isGe 0)
  | _ => false
def spBagOf : Sp := fun vs H Q _ => ∃ (v : V) (k : Nat) (d : PyData), vs = [v, .int (k : Nat), .int 0] ∧ D H v d ∧ sm d = true ∧ ∀ H', Same H H' → Q (.bl (bagOf k d)) H'
def fitsOf (n : Int) (zs : List Str) (r : Row) : Bool := r.2.2.all fun m => isMove r.2.1 n m && nameOk zs m
def spFits : Sp := fun vs H Q _ => ∃ n B t N xs zs r, vs = [.int n, .ref B, .ref N] ∧ H B = some (.lst [.str r.1, .int r.2.1, .ref t]) ∧ H t = some (.tup xs) ∧ DAll H xs r.2.2 ∧ r.2.2.length ≤ 60 ∧ (∀ m ∈ r.2.2, sm m = true) ∧ H N = some (.lst (zs.map V.str)) ∧ ∀ H', Same H H' → Q (.bl (fitsOf n zs r)) H'
theorem inV_str (z : Str) (zs : List Str) : inV (.str z) (zs.map V.str) = decide (z ∈ zs) := by
  unfold inV
  rw [List.any_map, Bool.eq_iff_iff, List.any_eq_true, decide_eq_true_iff]
  constructor
  · rintro ⟨y, hy, e⟩
    have e : eqV (.str y) (.str z) = true := e
    have : y = z := by simpa [eqV] using e
    rw [← this]
    exact hy
  · exact fun h => ⟨z, h, by simp [eqV]⟩
abbrev Nlaw_is_bag_of : List Str := ["value", "size", "low", "wrong", "one"]
abbrev Nlaw_fits : List Str := ["total", "band", "names", "move"]
abbrev Nlaw_is_due : List Str := ["total", "starts", "begin", "rows", "names", "band"]
abbrev s_law_made_of : Stmt := topS 45
abbrev Nlaw_made_of : List Str := ["plain", "made", "band"]
theorem sc_law_made_of : FnScope Nlaw_made_of ["plain"] (defScope s_law_made_of) := ⟨rfl, rfl, rfl, by decide +kernel, rfl, by decide +kernel, by decide +kernel⟩
section
variable {P : Program} {w : World} {K : PySem.W.Frag} {mg : Str → Option Value} {base : Heap}
end
end My

namespace My
open PySem PySem.Spec PyProof.Rows L2 Sh Dt
open Cl (ErrC)
/-- a plain procedure as a list on the heap -/
def BandD (H : Hp) (b : V) (r : Row) : Prop := ∃ B t xs, b = .ref B ∧ H B = some (.lst [.str r.1, .int r.2.1, .ref t]) ∧ H t = some (.tup xs) ∧ DAll H xs r.2.2
def BandsD (H : Hp) (bs : List V) (rs : List Row) : Prop := bs.length = rs.length ∧ ∀ (i : Nat) b, bs[i]? = some b → ∃ r, rs[i]? = some r ∧ BandD H b r
theorem BandD.same {H H' : Hp} {b : V} {r : Row} (s : Same H H') (h : BandD H b r) : BandD H' b r := by
  obtain ⟨B, t, xs, e, h1, h2, h3⟩ := h
  exact ⟨B, t, xs, e, s _ _ h1, s _ _ h2, h3.same s⟩
theorem BandsD.same {H H' : Hp} {bs : List V} {rs : List Row} (s : Same H H') (h : BandsD H bs rs) : BandsD H' bs rs :=
  ⟨h.1, fun i b e => let ⟨r, hr, hb⟩ := h.2 i b e; ⟨r, hr, hb.same s⟩⟩
structure RowsOk (rs : List Row) : Prop where
  few : rs.length ≤ 60
  l12 : ∀ r ∈ rs, r.2.2.length ≤ 12
  sms : ∀ r ∈ rs, ∀ m ∈ r.2.2, sm m = true
def spDueG : Sp := fun vs H Q _ => ∃ vt va vb R bs dt ds db rs, vs = [vt, va, vb, .ref R] ∧ D H vt dt ∧ D H va ds ∧ D H vb db ∧ sm dt = true ∧ sm ds = true ∧ sm db = true ∧ H R = some (.lst bs) ∧ BandsD H bs rs ∧ RowsOk rs ∧ ∀ H', Same H H' → Q (.bl (goodG dt ds db (rs.map some))) H'
theorem all_both {α : Type} (p q : α → Bool) : ∀ l : List α, (l.all p && l.all q) = l.all fun x => p x && q x
  | [] => rfl
  | a :: l => by
    rw [List.all_cons, List.all_cons, List.all_cons, ← all_both p q l]
    cases p a <;> cases q a <;> cases l.all p <;> rfl
theorem all_cong {α : Type} {p q : α → Bool} : ∀ {l : List α}, (∀ x ∈ l, p x = q x) → l.all p = l.all q
  | [], _ => rfl
  | a :: l, h => by rw [List.all_cons, List.all_cons, h a (by simp), all_cong fun x hx => h x (by simp [hx])]
theorem inV_false {α : Type} (f : α → Bool) : ∀ l : List α, inV (.bl false) (l.map fun r => V.bl (f r)) = !l.all f
  | [] => rfl
  | a :: l => by
    show (eqV (.bl (f a)) (.bl false) || inV (.bl false) (l.map fun r => V.bl (f r))) = !(f a && l.all f)
    rw [inV_false f l]
    cases f a <;> cases l.all f <;> rfl
theorem goodG_parts (n : Int) (ds db : PyData) (rs : List Row) (h : RowsOk rs) : goodG (.int n) ds db (rs.map some) = (decide (1 ≤ n) && decide (n ≤ 5) && isSet n ds && decide (1 ≤ rs.length) && decide (rs.length ≤ 5) && decide (rs.map (·.1)).Nodup && bagOf rs.length db && rs.all (fitsOf n (rs.map (·.1)))) := by
  have ej : joined n rs = rs.all (fitsOf n (rs.map (·.1))) := by
    unfold joined
    refine all_cong fun r hr => ?_
    unfold areMoves fitsOf
    rw [decide_eq_true (h.l12 r hr), Bool.true_and, all_both]
  have eb : (isBagL 0 db && decide (lenD db = (rs.map some).length)) = (decide (1 ≤ rs.length) && decide (rs.length ≤ 5) && bagOf rs.length db) := by
    rw [List.length_map]
    cases db with
    | tuple xs =>
      show (decide (1 ≤ xs.length) && (decide (xs.length ≤ 5) && xs.all (isGe 0)) && decide (xs.length = rs.length)) = (decide (1 ≤ rs.length) && decide (rs.length ≤ 5) && (decide (xs.length = rs.length) && xs.all (isGe 0)))
      by_cases e : xs.length = rs.length
      · rw [e]
        simp [Bool.and_assoc]
      · rw [decide_eq_false e]
        simp
    | _ => simp [isBagL, bagOf]
  have ep : procsOk (rs.map some) = decide (rs.map (·.1)).Nodup := by
    unfold procsOk
    rw [all_some, rowsO_some, Bool.true_and]
  unfold goodG
  rw [ep, rowsO_some, show joined (intOf (.int n)) rs = _ from ej, show isNr 5 (.int n) = (decide (1 ≤ n) && decide (n ≤ 5)) from rfl, show isSet (intOf (.int n)) ds = isSet n ds from rfl, Bool.and_assoc (_ && _) (isBagL 0 db), eb]
  simp only [Bool.and_assoc]
  congr 3
  rw [← Bool.and_assoc (bagOf _ _), Bool.and_comm (bagOf _ _), Bool.and_assoc]
def okNum (d : PyData) : Bool := isNum 6 d && !PyData.eqv d (.int 0)
theorem goodG_num {dt ds db : PyData} {os : List (Option Row)} (h : isNum 6 dt = false) : goodG dt ds db os = false := by
  have : isNr 5 dt = false := by
    cases dt with
    | int n =>
      have h : (decide (0 ≤ n) && decide (n < 6)) = false := h
      show (decide (1 ≤ n) && decide (n ≤ 5)) = false
      rw [← Bool.decide_and, decide_eq_false_iff_not] at h ⊢
      omega
    | _ => rfl
  unfold goodG
  rw [this]
  rfl

section
variable {P : Program} {w : World} {K : PySem.W.Frag} {mg : Str → Option Value} {base : Heap} {C Ce fI fO pO fE fL fS p1 g1 p2 g2 p3 g3 : Addr} {mc : Value}{Cg Cn Cs fIg fOg pOg fEg fLg fSg fGg fCg fMg fHg pg1 gg1 pg2 gg2 pg3 gg3 pg4 gg4 pg5 gg5 pg6 gg6 pg7 gg7 : Addr} {mcg : Value}
end
end My

namespace My
open PySem PySem.Spec PyProof.Rows L2 Sh Dt
open Cl (ErrC)
theorem PAll.snoc {C : Addr} {H : Hp} {vs : List V} {rs : List Row} (h : PAll C H vs rs) {a : Addr} {r : Row} (p : Pr C H a r.1 r.2.1 r.2.2) : PAll C H (vs ++ [.ref a]) (rs ++ [r]) := by
  induction h with
  | nil => exact .cons p .nil
  | cons q _ ih => exact .cons q ih
theorem Pr_off {C : Addr} {H : Hp} {a M : Addr} {z : Str} {p : Int} {ms : List PyData} {ys : List V} {o : HO} (hM : H M = some (.lst ys)) (n : nlAll ms = true) (h : Pr C H a z p ms) : Pr C (upd H M o) a z p ms := by
  obtain ⟨dx, t, xs, h1, h2, h3, g⟩ := h
  have ne : ∀ {b : Addr} {u : HO}, H b = some u → (∀ ys, u ≠ .lst ys) → b ≠ M := fun e hn z => by
    rw [z, hM] at e
    exact hn _ (Option.some.inj e).symm
  have h4 : DAll (hide [M] H) xs ms := nl_hideAll hM (h3.same fun b u e => hide_some (by simp) e) n
  exact ⟨dx, t, xs, (upd_ne (ne h1 fun _ z => by cases z)).trans h1, (upd_ne (ne h2 fun _ z => by cases z)).trans h2, (h4.same (hide_upd (o := o))).same hide_sub, g⟩
theorem PAll.off {C : Addr} {H : Hp} {M : Addr} {vs ys : List V} {rs : List Row} {o : HO} (hM : H M = some (.lst ys)) (h : PAll C H vs rs) (n : ∀ r ∈ rs, nlAll r.2.2 = true) : PAll C (upd H M o) vs rs := by
  induction h with
  | nil => exact .nil
  | cons p _ ih => exact .cons (Pr_off hM (n _ (by simp)) p) (ih fun r hr => n r (by simp [hr]))
/-- a row of which a procedure can be made -/
structure GoodRow (r : Row) : Prop where
  g : Good r.1 r.2.1 r.2.2
  sz : sm (.str r.1) = true
  ms : sm (.tuple r.2.2) = true
  nl : nlAll r.2.2 = true
theorem of_row {C Ce : Addr} {r : Row} (g : GoodRow r) {G : Hp} {t : Addr} {Q : VK} {E : XK} (hv : D G (.ref t) (.tuple r.2.2)) (hq : ∀ G' a, Same G G' → G a = none → Pr C G' a r.1 r.2.1 r.2.2 → Q (.ref a) G') : spOf C Ce [V.ref C, .str r.1, .int r.2.1, .ref t] G Q E := by
  have dueT : due (.str r.1) (.int r.2.1) (.tuple r.2.2) = true := by
    unfold due goodD
    show (true && (nameOf r.1 && (decide (1 ≤ r.2.1) && decide (r.2.1 ≤ 6)) && areMoves r.2.1 5 r.2.2)) = true
    rw [g.g.name, decide_eq_true g.g.lo, decide_eq_true g.g.hi, g.g.moves]
    rfl
  exact ⟨.str r.1, .int r.2.1, .ref t, .str r.1, .int r.2.1, .tuple r.2.2, rfl, .str r.1, .int r.2.1, hv, g.sz, rfl, g.ms, fun _ G' a z' p' s' e1 e2 na pr => by
        cases e1
        cases e2
        exact hq G' a s' na pr, fun h => by rw [dueT] at h; cases h⟩
theorem GoodRow.rows {rs : List Row} (l : rs.length ≤ 60) (h : ∀ r ∈ rs, GoodRow r) : RowsOk rs := ⟨l, fun r hr => by
  have := (h r hr).g.moves
  unfold areMoves at this
  rw [Bool.and_eq_true, decide_eq_true_iff] at this
  exact this.1, fun r hr => (sm_tup.mp (h r hr).ms).2⟩
def spMade (C Cg : Addr) : Sp := fun vs H Q _ => ∃ V0 va vb R bs n ds db rs, vs = [.ref V0] ∧ H V0 = some (.lst [.int n, va, vb, .ref R]) ∧ D H va ds ∧ D H vb db ∧ sm ds = true ∧ sm db = true ∧ H R = some (.lst bs) ∧ BandsD H bs rs ∧ rs.length ≤ 60 ∧ (∀ r ∈ rs, GoodRow r) ∧ goodG (.int n) ds db (rs.map some) = true ∧ ∀ H' a, Same H H' → H a = none → Pg C Cg H' a n ds db rs → Q (.ref a) H'
section
variable {P : Program} {w : World} {K : PySem.W.Frag} {mg : Str → Option Value} {base : Heap} {C Ce fI fO pO fE fL fS p1 g1 p2 g2 p3 g3 : Addr} {mc : Value}{Cg Cn Cs fIg fOg pOg fEg fLg fSg fGg fCg fMg fHg pg1 gg1 pg2 gg2 pg3 gg3 pg4 gg4 pg5 gg5 pg6 gg6 pg7 gg7 : Addr} {mcg : Value}
theorem ok_law_made_of {f : Addr} {fd : FuncData} (F : Fun K "_law_made_of" "_law_made_of" s_law_made_of f fd) (c : PcdC K mg C fI fO pO fE fL fS p1 g1 p2 g2 p3 g3 mc) (cg : PgmC K mg Cg fIg fOg pOg fEg fLg fSg fGg fCg fMg fHg pg1 gg1 pg2 gg2 pg3 gg3 pg4 gg4 pg5 gg5 pg6 gg6 pg7 gg7 mcg) (FO : FnR P w K mg base (L2.CX P w) 9 fO (spOf C Ce)) (FOg : FnR P w K mg base (L2.CX P w) 10 fOg (spOfG C Cg Ce))  (m_tuple : mg "tuple" = none) : FnOk P w K mg base CX0 11 f fd ["plain"] (spMade C Cg) := by
  refine F.ok sc_law_made_of (fun vs H Q E h => ?_) (fun cdv A outer s H vs Q E hr h => ?_)
  · obtain ⟨V0, va, vb, R, bs, n, ds, db, rs, rfl, _⟩ := h
    rfl
  · obtain ⟨V0, va, vb, R, bs, n, ds, db, rs, rfl, hV, ha, hb, sa, sb, hR, hbs, l60, gr, gg, q⟩ := h
    refine ⟨_, (pss_cons (ps_setLc (i := 1) (own := [("band", 2)]) (g := (gName 2)) (tt := tYes) rfl sc_law_made_of.nd rfl rfl (sw_true rfl rfl rfl (by decide +kernel)) (pi_list (pe_ix ix_list (pv 0) pe_int (fun _ _ => rfl))) (blkOk_by (N := Nlaw_made_of) (sc := defScope s_law_made_of) (by decide +kernel))
      (fun _ _ _ _ _ => (pg_name (i := 2) sc_law_made_of.nd rfl (Or.inl rfl))) (fun _ _ _ _ _ => pts_nil) (fun _ _ _ _ _ => (ClX.pe_cmeth (pe_glob (v := .ref C) rfl c.gP rfl) c.cr c.cm FO (hr.mono (by decide)) Cl.passF (pa_cons (pe_ix (r := rIxL K) ix_list (pv 2) pe_int (fun _ _ => rfl)) (pa_cons (pe_ix (r := rIxL K) ix_list (pv 2) pe_int (fun _ _ => rfl)) (pa_cons (pe_ix (r := rIxL K) ix_list (pv 2) pe_int (fun _ _ => rfl)) pa_nil))))))
      (pss_one (ps_ret (ClX.pe_cmeth (pe_glob (v := .ref Cg) rfl cg.gP rfl) cg.cr cg.cm FOg (hr.mono (by decide)) Cl.passF (pa_cons (pe_ix ix_list (pv 0) pe_int (fun _ _ => rfl)) (pa_cons (pe_ix ix_list (pv 0) pe_int (fun _ _ => rfl)) (pa_cons (pe_ix ix_list (pv 0) pe_int (fun _ _ => rfl)) (pa_cons (pe_callTy call_tuple_of (by rfl) m_tuple (by decide +kernel) (pa_cons (pv 1) pa_nil)) pa_nil)))))))), ?_⟩
    have lb := hbs.1
    refine ⟨_, rfl, V0, _, 3, .ref R, rfl, rfl, .inl (.inl hV), rfl, R, rfl, ⟨_, .inl (.inl hR)⟩, fun D0 nD => ?_⟩
    refine lc_list (xs := bs) (fun i G => Same H G ∧ ∃ ps, G D0 = some (.lst ps) ∧ PAll C G ps (rs.take i)) ⟨same_new (Same.refl H) nD, [], upd_same, .nil⟩ (fun i G _ hq => .inl (.inl (hq.1 _ _ hR))) (fun i x G hx hq => ?_) (fun G hq => ?_)
    · obtain ⟨s1, ps, l1, hp⟩ := hq
      obtain ⟨r, hr', B, t, xs, rfl, hB, htt, hxx⟩ := hbs.2 i x hx
      have mr := List.mem_of_getElem? hr'
      refine ⟨rfl, rfl, _, rfl, B, _, 0, _, rfl, rfl, .inl (.inl (s1 _ _ hB)), rfl, _, rfl, B, _, 1, _, rfl, rfl, .inl (.inl (s1 _ _ hB)), rfl, _, rfl, B, _, 2, _, rfl, rfl, .inl (.inl (s1 _ _ hB)), rfl, ?_⟩
      dsimp only [tNil]
      refine of_row (gr r mr) (.tup (s1 _ _ htt) (hxx.same s1)) fun G2 a s2 na pr => ?_
      have lp := hp.len
      refine ⟨_, s2 _ _ l1, ?_, same_put (s1.trans s2) nD, _, upd_same, ?_⟩
      · rw [lp, List.length_take]
        exact small1000 (Nat.le_trans (Nat.min_le_left _ _) (by have := (List.getElem?_eq_some_iff.mp hr').1; omega))
      · rw [List.take_add_one, hr']
        exact ((hp.same s2).snoc pr).off (s2 _ _ l1) fun r' hr2 => by
          rcases List.mem_append.mp hr2 with h | h
          · exact (gr r' (List.mem_of_mem_take h)).nl
          · simp at h
            rw [h]
            exact (gr r mr).nl
    · obtain ⟨s1, ps, l1, hp⟩ := hq
      rw [lb, List.take_of_length_le (Nat.le_refl _)] at hp
      have hV1 := s1 _ _ hV
      refine ⟨rfl, _, rfl, V0, _, 0, _, rfl, rfl, .inl (.inl hV1), rfl, _, rfl, V0, _, 1, _, rfl, rfl, .inl (.inl hV1), rfl, _, rfl, V0, _, 2, _, rfl, rfl, .inl (.inl hV1), rfl, _, rfl, D0, ps, rfl, .inl ⟨.inl (.inl l1), fun p np => ?_⟩⟩
      dsimp only [tNil]
      have s2 := same_new s1 np (o := .tup ps)
      have s12 := same_new (Same.refl G) np (o := .tup ps)
      refine ⟨.int n, va, vb, p, .int n, ds, db, rfl, .int n, ha.same s2, hb.same s2, rfl, sa, sb, .inl ⟨ps, rs.map some, upd_same, (hp.same s12).o, by rw [List.length_map]; exact l60, fun r hr m hm => ?_, fun _ H' a m s3 em na pg => ?_, fun z => by rw [gg] at z; cases z⟩⟩
      · rw [rowsO_some] at hr
        exact (sm_tup.mp (gr r hr).ms).2 m hm
      · cases em
        rw [rowsO_some] at pg
        exact q H' a (s2.trans s3) (s2.free na) pg
end
end My

namespace My
open PySem PySem.Spec PyProof.Rows L2 Sh Dt
open Cl (ErrC)
abbrev Nlaw_coded : List Str := ["plain", "code", "name", "points", "moves", "band"]
/-- what is read of the dicts of a plain program; the moves stood in Hb -/
def CodeAt (Hb H : Hp) (c : Addr) (rs : List Row) : Prop := ∃ cs m mk, H c = some (.dK cs) ∧ valV cs (.inr "moves") = some (.ref m) ∧ H m = some (.dK mk) ∧ ∀ r ∈ rs, ∃ t xs, valV mk (.inr r.1) = some (.ref t) ∧ Hb t = some (.tup xs) ∧ DAll Hb xs r.2.2
theorem nodup_row : ∀ {rs : List Row} {a b : Row}, (rs.map (·.1)).Nodup → a ∈ rs → b ∈ rs → a.1 = b.1 → a = b
  | [], _, _, _, h, _, _ => nomatch h
  | r :: rs, a, b, nd, ha, hb, e => by
    rw [List.map_cons, List.nodup_cons] at nd
    rcases List.mem_cons.mp ha with ea | ma
    · rcases List.mem_cons.mp hb with eb | mb
      · rw [ea, eb]
      · exact absurd (List.mem_map.mpr ⟨b, mb, by rw [← e, ea]⟩) nd.1
    · rcases List.mem_cons.mp hb with eb | mb
      · exact absurd (List.mem_map.mpr ⟨a, ma, by rw [e, eb]⟩) nd.1
      · exact nodup_row nd.2 ma mb e
def spCoded : Sp := fun vs H Q _ => ∃ V0 va vb R bs n rs Hb, vs = [.ref V0] ∧ H V0 = some (.lst [.int n, va, vb, .ref R]) ∧ H R = some (.lst bs) ∧ Same Hb H ∧ BandsD Hb bs rs ∧ rs.length ≤ 60 ∧ (rs.map (·.1)).Nodup ∧ ∀ H' c, Same H H' → CodeAt Hb H' c rs → Q (.ref c) H'
section
variable {P : Program} {w : World} {K : PySem.W.Frag} {mg : Str → Option Value} {base : Heap}
end
end My

namespace My
open PySem PySem.Spec PyProof.Rows L2 Sh Dt
open Cl (ErrC)
abbrev Nlaw_near : List Str := ["die", "plain", "odd", "total", "starts", "begin", "rows", "other", "wide", "letter", "some"]
/-- each is a row of which a procedure can be made -/
def AllB (S : List Addr) (H : Hp) (bs : List V) : Prop := ∀ b ∈ bs, ∃ r, Band S H b r ∧ GoodRow r
theorem AllB.mono {S S' : List Addr} {H H' : Hp} {bs : List V} (h : AllB S H bs) (s : Same (hide S H) (hide S' H')) : AllB S' H' bs := fun b hb => let ⟨r, h1, h2⟩ := h b hb; ⟨r, h1.mono s, h2⟩
theorem AllB.bands {S : List Addr} {H : Hp} : ∀ {bs : List V}, AllB S H bs → ∃ rs, Bands S H bs rs ∧ ∀ r ∈ rs, GoodRow r
  | [], _ => ⟨[], .nil, fun r hr => nomatch hr⟩
  | b :: bs, h => by
    obtain ⟨r, h1, h2⟩ := h b (by simp)
    obtain ⟨rs, h3, h4⟩ := AllB.bands (bs := bs) fun c hc => h c (by simp [hc])
    exact ⟨r :: rs, .cons h1 h3, fun q hq => by
      rcases List.mem_cons.mp hq with rfl | hq
      · exact h2
      · exact h4 q hq⟩
/-- something near a plain program -/
def NearOk (S : List Addr) (H : Hp) (v : V) : Prop := ∃ N vt va vb R dt ds db bs, v = .ref N ∧ N ∉ S ∧ H N = some (.lst [vt, va, vb, .ref R]) ∧ Vd S H vt dt ∧ Vd S H va ds ∧ Vd S H vb db ∧ R ∉ S ∧ H R = some (.lst bs) ∧ AllB S H bs ∧ bs.length ≤ 60
theorem NearOk.mono {S S' : List Addr} {H H' : Hp} {v : V} (h : NearOk S H v) (s : Same (hide S H) (hide S' H')) : NearOk S' H' v := by
  obtain ⟨N, vt, va, vb, R, dt, ds, db, bs, e, n1, h1, h2, h3, h4, n5, h5, h6, h7⟩ := h
  obtain ⟨m1, g1⟩ := hide_in (s _ _ (hide_some n1 h1))
  obtain ⟨m5, g5⟩ := hide_in (s _ _ (hide_some n5 h5))
  exact ⟨N, vt, va, vb, R, dt, ds, db, bs, e, m1, g1, h2.mono s, h3.mono s, h4.mono s, m5, g5, h6.mono s, h7⟩
theorem near_mk {d N R : Addr} {G : Hp} {vt va vb : V} {dt ds db : PyData} {bs : List V} (hd : DieAt G d) (nN : G N = none) (h2 : Vd [d] G vt dt) (h3 : Vd [d] G va ds) (h4 : Vd [d] G vb db) (nR : R ≠ d) (h5 : G R = some (.lst bs)) (h6 : AllB [d] G bs) (h7 : bs.length ≤ 60) : NearOk [d] (upd G N (.lst [vt, va, vb, .ref R])) (.ref N) := by
  have s := hide_same (S := [d]) (same_new (Same.refl G) nN (o := .lst [vt, va, vb, .ref R]))
  exact ⟨N, vt, va, vb, R, dt, ds, db, bs, rfl, by simpa using hd.free nN, upd_same, h2.mono s, h3.mono s, h4.mono s, by simpa using nR, upd_keep h5 nN, h6.mono s, h7⟩
def spNear : Sp := fun vs H Q _ => ∃ d V0 odd tot A B R ns gs bs e, vs = [.ref d, .ref V0, odd] ∧ DieAt H d ∧ H V0 = some (.lst [.int tot, .ref A, .ref B, .ref R]) ∧ Vd [d] H (.ref A) (.tuple (ns.map PyData.int)) ∧ Vd [d] H (.ref B) (.tuple (gs.map PyData.int)) ∧ ns ≠ [] ∧ ns.length ≤ 5 ∧ gs ≠ [] ∧ gs.length ≤ 5 ∧
  R ≠ d ∧ H R = some (.lst bs) ∧ AllB [d] H bs ∧ bs ≠ [] ∧ bs.length ≤ 5 ∧ Vd [d] H odd e ∧ ∀ v H', But d H H' → DieAt H' d → NearOk [d] H' v → Q v H'
theorem cut_letters : ∀ k : Nat, k < 3 → ∀ c ∈ (cutS "abcde" (some (k : Int)) none).cps.toList, (("z" : Str) ++ (⟨#[c]⟩ : Str)) ∈ (["za", "zb", "zc", "zd", "ze"] : List Str) := by decide +kernel
theorem cut_size : ∀ k : Nat, k < 3 → 3 ≤ (cutS "abcde" (some (k : Int)) none).cps.size ∧ (cutS "abcde" (some (k : Int)) none).cps.size ≤ 5 := by decide +kernel
theorem len_zc (c : Nat) : ("z" : Str).length + (⟨#[c]⟩ : Str).length ≤ sizeLine := by
  have e1 : ("z" : Str).length = 1 := by decide +kernel
  have e2 : (⟨#[c]⟩ : Str).length = 1 := rfl
  rw [e1, e2]
  exact Nat.le_of_lt (small1000 (by decide))
def NrL (d : Addr) (X : Hp) (S : Addr) (k : Nat) : Prop := S ≠ d ∧ ∃ vs, X S = some (.lst vs) ∧ vs.length = k ∧ ∀ v ∈ vs, NearOk [d] X v
theorem tupleP (ns : List Int) : (PyData.tuple (ns.map PyData.int)).plain = true ∧ (PyData.tuple (ns.map PyData.int)).depth ≤ 60 := by
  have := intsP ns
  exact ⟨by simp [PyData.plain, this.1], by simp [PyData.depth, this.2]⟩
theorem nr_step {d : Addr} {X : Hp} {vs : List V} {c1 c2 : V} {T S' : Addr} (hd : DieAt X d) (h : ∀ v ∈ vs, NearOk [d] X v) (h1 : NearOk [d] X c1) (h2 : NearOk [d] X c2) (nT : X T = none) (nS : upd X T (.lst [c1, c2]) S' = none) :
    S' ≠ d ∧ (upd (upd X T (.lst [c1, c2])) S' (.lst (vs ++ [c1, c2]))) S' = some (.lst (vs ++ [c1, c2])) ∧ DieAt (upd (upd X T (.lst [c1, c2])) S' (.lst (vs ++ [c1, c2]))) d ∧ Same X (upd (upd X T (.lst [c1, c2])) S' (.lst (vs ++ [c1, c2]))) ∧ ∀ v ∈ vs ++ [c1, c2], NearOk [d] (upd (upd X T (.lst [c1, c2])) S' (.lst (vs ++ [c1, c2]))) v := by
  have s := same_new (same_new (Same.refl X) nT (o := .lst [c1, c2])) nS (o := .lst (vs ++ [c1, c2]))
  have k := hide_same (S := [d]) s
  have d1 := hd.new nT (o := .lst [c1, c2])
  refine ⟨d1.free nS, upd_same, d1.new nS, s, fun v hv => ?_⟩
  rcases List.mem_append.mp hv with hv | hv
  · exact (h v hv).mono k
  · simp at hv
    rcases hv with rfl | rfl
    · exact h1.mono k
    · exact h2.mono k
theorem AllB.sub {S : List Addr} {H : Hp} {bs cs : List V} (h : AllB S H bs) (e : ∀ c ∈ cs, c ∈ bs) : AllB S H cs := fun b hb => h b (e b hb)
theorem mem_rep {α : Type} {x : α} {xs : List α} {n : Nat} (h : x ∈ (List.replicate n xs).flatten) : x ∈ xs := by
  obtain ⟨l, hl, hx⟩ := List.mem_flatten.mp h
  rw [(List.mem_replicate.mp hl).2] at hx
  exact hx
theorem len_rep {α : Type} (xs : List α) : ∀ n : Nat, (List.replicate n xs).flatten.length = n * xs.length
  | 0 => by simp
  | n + 1 => by
    rw [List.replicate_succ, List.flatten_cons, List.length_append, len_rep xs n, Nat.succ_mul, Nat.add_comm]
theorem rep_zero : ∀ n : Nat, (List.replicate n [V.int 0]).flatten = (List.replicate n (0 : Int)).map V.int
  | 0 => rfl
  | n + 1 => by
    rw [List.replicate_succ, List.flatten_cons, rep_zero n, List.replicate_succ]
    rfl
theorem GoodRow.zz {r : Row} (g : GoodRow r) : GoodRow ("zz", r.2.1, r.2.2) := ⟨⟨(show nameOf "zz" = true by decide +kernel), g.g.lo, g.g.hi, g.g.moves⟩, (show sm (.str "zz") = true by decide +kernel), g.ms, g.nl⟩
theorem wide_row {z : Str} (h : z ∈ (["za", "zb", "zc", "zd", "ze"] : List Str)) : GoodRow (z, 1, []) := by
  refine ⟨⟨?_, by show (1 : Int) ≤ 1; decide, by show (1 : Int) ≤ 6; decide, rfl⟩, ?_, rfl, rfl⟩
  · revert z
    decide +kernel
  · revert z
    decide +kernel
section
variable {P : Program} {w : World} {K : PySem.W.Frag} {mg : Str → Option Value} {base : Heap}
end
end My

/-! repr of lists of data without dicts -/
namespace Dt
open PySem PySem.Spec PyProof.Rows L2 Sh
mutual
theorem plain_nodict : ∀ (d : PyData), d.plain = true → d.hasDict = false
  | .none, _ => by simp only [PyData.hasDict]
  | .bool _, _ => by simp only [PyData.hasDict]
  | .int _, _ => by simp only [PyData.hasDict]
  | .str z, _ => by simp only [PyData.hasDict]
  | .list xs, h => by
    simp only [PyData.hasDict]
    exact plain_nodicts xs (by simpa [PyData.plain] using h)
  | .tuple xs, h => by
    simp only [PyData.hasDict]
    exact plain_nodicts xs (by simpa [PyData.plain] using h)
  | .dict _, h => by cases h
theorem plain_nodicts : ∀ (ds : List PyData), PyData.plainAll ds = true → PyData.hasDictAll ds = false
  | [], _ => by simp [PyData.hasDictAll]
  | d :: r, h => by
    simp only [PyData.plainAll, Bool.and_eq_true] at h
    simp [PyData.hasDictAll, plain_nodict d h.1, plain_nodicts r h.2]
end
/-- what repr of a list wants -/
structure Rl (ds : List PyData) : Prop where
  pl : PyData.plainAll ds = true
  s : smAll ds = true
  sh : PyData.showableAll ds = true
  dp : PyData.depthAll ds ≤ 50
  ih : PyData.intsShortAll 13 ds = true
  wt : PyData.weightAll ds ≤ 2 ^ 20
theorem Rl.each {ds : List PyData} (h : Rl ds) : ∀ d ∈ ds, d.plain = true ∧ d.showable = true ∧ d.shown.length ≤ sizeLine := by
  obtain ⟨p, s, sh, dp, i, w⟩ := h
  induction ds with
  | nil => exact fun d hd => nomatch hd
  | cons d r ih =>
    simp only [PyData.plainAll, smAll, PyData.intsShortAll, PyData.showableAll, Bool.and_eq_true] at p s i sh
    simp only [PyData.depthAll] at dp
    simp only [PyData.weightAll] at w
    intro x hx
    rcases List.mem_cons.mp hx with rfl | hx
    · exact ⟨p.1, sh.1, PyData.shown_fits (B := 13) (by decide) (by decide) (PyData.leavesShort_of_canLay0 13 _ (plain_lay _ p.1 s.1) i.1) (by omega)⟩
    · exact ih p.2 s.2 sh.2 (Nat.le_trans (Nat.le_max_right _ _) dp) i.2 (by omega) x hx
theorem Rl.all {ds : List PyData} (h : Rl ds) : (listText (PyData.shownAll ds)).length ≤ sizeLine := by
  have := PyData.shown_fits (B := 13) (d := .list ds) (by decide) (by decide) (by
    simp only [PyData.leavesShort]
    exact PyData.leavesShortAll_of_canLay0 13 ds (plain_lays ds h.pl h.s) h.ih) (by simp only [PyData.weight]; exact h.wt)
  simpa only [PyData.shown] using this
theorem rd_all {P : Program} {w : World} {H : Hp} {h : Heap} (ok : HOk P w H h) : ∀ {vs : List V} {us : List Value} {ds : List PyData}, Vals vs us → DAll H vs ds → (∀ d ∈ ds, d.plain = true ∧ d.showable = true ∧ d.shown.length ≤ sizeLine) →
    (∃ as, ReadsAll h us ds as) ∧ ∃ bs, ReadAtMost h (PyData.depthAll ds) bs ∧ ReprAllK P w bs h (PyData.depthAll ds) us (PyData.shownAll ds)
  | _, _, _, .nil, .nil, _ => by
    refine ⟨⟨_, .nil⟩, [], (fun _ z => nomatch z), ?_⟩
    simp only [PyData.shownAll]
    exact .nil
  | _, _, _, .cons r rs, .cons (d := d) (ds := ds) q qs, g => by
    obtain ⟨as, rd⟩ := D.reads ok q r
    obtain ⟨g1, g2, g3⟩ := g d (.head _)
    have s2 := plain_nodict d g1
    obtain ⟨b1, m1, k1⟩ := ReprK.of_reads (prog := P) (w := w) rd g2 (fun z => by rw [s2] at z; cases z) g3
    obtain ⟨⟨as2, rd2⟩, b2, m2, k2⟩ := rd_all ok rs qs fun z hz => g z (.tail _ hz)
    refine ⟨⟨_, .cons rd rd2⟩, b1 ++ b2, fun b hb => ?_, ?_⟩
    · simp only [PyData.depthAll]
      rcases List.mem_append.mp hb with hb | hb
      · obtain ⟨d', a', r', l'⟩ := m1 b hb
        exact ⟨d', a', r', Nat.le_trans l' (Nat.le_max_left _ _)⟩
      · obtain ⟨d', a', r', l'⟩ := m2 b hb
        exact ⟨d', a', r', Nat.le_trans l' (Nat.le_max_right _ _)⟩
    · simp only [PyData.depthAll, PyData.shownAll]
      refine .cons ((k1.more fun b hb => List.mem_append_left _ hb).level_le ?_) (k2.more_le (fun b hb => List.mem_append_right _ hb) ?_)
      · exact Nat.le_max_left _ _
      · exact Nat.le_max_right _ _
def rReprD : List V → Hp → VK → Prop := fun vs H Q => ∃ p xs ds, vs = [.ref p] ∧ H p = some (.lst xs) ∧ xs ≠ [] ∧ DAll H xs ds ∧ Rl ds ∧ Q (.str (listText (PyData.shownAll ds))) H
theorem call_reprD {X : Cx} (hg : X.A.guards = some []) (hu : X.A.units + 64 < cLine) : CallR X (.builtin "repr") rReprD := by
  intro pins s σ H xs us Q I r h
  obtain ⟨p, xs, ds, rfl, hp, hne, ra, gd, q⟩ := h
  obtain ⟨u, rfl, r1⟩ := vals1 r
  cases r1
  obtain ⟨_, its, n, rv, h1⟩ := I.hok p _ hp
  obtain ⟨⟨as, rd⟩, bs, mb, ka⟩ := rd_all I.hok rv ra gd.each
  have hd := gd.dp
  have na : p ∉ bs := not_mem_of_deeper (Reads.list h1 rfl rfl rd) (by simp only [PyData.depth]; omega) mb
  have hsz := gd.all
  cases rv with
  | nil => exact absurd rfl hne
  | @cons x0 u0 xs0 us0 a b =>
    refine call_repr_slot (by omega) ⟨_, h1, rfl⟩ F.slot_list_repr.toG ?_
    refine call_list_reprK (A := X.A.in1) h1 rfl rfl na (by simpa using ka.length_eq) (fun i y e => ka.item i y (by simpa using e)) hg (fun b _ => Clear.nil b) ?_ (fun _ _ z => z) (fun h' u tk k => ?_) hsz
    · show X.A.units + 1 + _ < _
      omega
    · exact ⟨_, _, rfl, .str _, H, I.kept k, ⟨_, rfl⟩, q⟩
end Dt

/-! repr of lists and tuples of data, also with the empty dict, also with a tuple that is known to have no dict -/
namespace Dt
open PySem PySem.Spec PyProof.Rows L2 Sh
theorem readMost_two {h : Heap} {n m : Nat} {b1 b2 : List Addr} (m1 : ReadAtMost h n b1) (m2 : ReadAtMost h m b2) : ReadAtMost h (max n m) (b1 ++ b2) := fun b hb => by
  rcases List.mem_append.mp hb with hb | hb
  · obtain ⟨d', a', r', l'⟩ := m1 b hb
    exact ⟨d', a', r', Nat.le_trans l' (Nat.le_max_left _ _)⟩
  · obtain ⟨d', a', r', l'⟩ := m2 b hb
    exact ⟨d', a', r', Nat.le_trans l' (Nat.le_max_right _ _)⟩
mutual
theorem D.rK {P : Program} {w : World} {H : Hp} {h : Heap} (ok : HOk P w H h) : ∀ {v : V} {d : PyData} {u : Value}, D H v d → RelV v u → d.showable = true → d.shown.length ≤ sizeLine → (∃ as, Reads h u d as) ∧ ∃ bs, ReadAtMost h d.depth bs ∧ ReprK P w bs h d.depth u d.shown
  | _, _, _, .non, r, hs, hz => by
    obtain ⟨as, rd⟩ := D.reads ok .non r
    exact ⟨⟨as, rd⟩, ReprK.of_reads (prog := P) (w := w) rd hs (fun z => by simp [PyData.hasDict] at z) hz⟩
  | _, _, _, .bl b, r, hs, hz => by
    obtain ⟨as, rd⟩ := D.reads ok (.bl b) r
    exact ⟨⟨as, rd⟩, ReprK.of_reads (prog := P) (w := w) rd hs (fun z => by simp [PyData.hasDict] at z) hz⟩
  | _, _, _, .int i, r, hs, hz => by
    obtain ⟨as, rd⟩ := D.reads ok (.int i) r
    exact ⟨⟨as, rd⟩, ReprK.of_reads (prog := P) (w := w) rd hs (fun z => by simp [PyData.hasDict] at z) hz⟩
  | _, _, _, .str z, r, hs, hz => by
    obtain ⟨as, rd⟩ := D.reads ok (.str z) r
    exact ⟨⟨as, rd⟩, ReprK.of_reads (prog := P) (w := w) rd hs (fun z => by simp [PyData.hasDict] at z) hz⟩
  | _, _, _, .lst (p := p) (xs := xs) (ds := ds) e a, r, hs, hz => by
    cases r
    obtain ⟨_, us, n, rv, h1⟩ := ok p _ e
    have hz' : (listText (PyData.shownAll ds)).length ≤ sizeLine := by simpa only [PyData.shown] using hz
    obtain ⟨⟨as, ra⟩, bs, mb, ka⟩ := DAll.rK ok a rv (by simpa [PyData.showable] using hs) (fun t ht => Nat.le_trans (listText_mem_le ht) hz')
    have rd : Reads h (.ref p) (.list ds) _ := .list h1 rfl rfl ra
    have hna : p ∉ bs := not_mem_of_deeper rd (by simp only [PyData.depth]; omega) mb
    refine ⟨⟨_, rd⟩, p :: bs, ReadAtMost.cons rd (by simp only [PyData.depth]; omega) mb, ?_⟩
    simp only [PyData.depth, PyData.shown]
    cases rv with
    | nil =>
      cases a
      simp only [PyData.shownAll, listText_nil]
      exact ReprK.listEmpty h1 rfl rfl
    | cons x l => exact ReprK.list h1 rfl rfl hna (by simpa using ka.length_eq) (fun i y e => ka.item i y (by simpa using e))
  | _, _, _, .tup (p := p) (xs := xs) (ds := ds) e a, r, hs, hz => by
    cases r
    obtain ⟨_, us, rv, o, h1, h2, n, h3⟩ := ok p _ e
    have hz' : (tupleText (PyData.shownAll ds)).length ≤ sizeLine := by simpa only [PyData.shown] using hz
    obtain ⟨⟨as, ra⟩, bs, mb, ka⟩ := DAll.rK ok a rv (by simpa [PyData.showable] using hs) (fun t ht => Nat.le_trans (tupleText_mem_le ht) hz')
    have rd : Reads h (.ref p) (.tuple ds) _ := .tuple h1 h2 h3 ra
    have hna : p ∉ bs := not_mem_of_deeper rd (by simp only [PyData.depth]; omega) mb
    refine ⟨⟨_, rd⟩, p :: bs, ReadAtMost.cons rd (by simp only [PyData.depth]; omega) mb, ?_⟩
    simp only [PyData.depth, PyData.shown]
    exact ReprK.tuple h1 h2 h3 hna (by simpa using ka)
  | _, _, _, .dic (p := p) e, r, hs, hz => by
    have e0 := e
    obtain ⟨as, rd⟩ := D.reads ok (.dic e) r
    cases r
    obtain ⟨_, lo, vs, kv, o, es, ep, h1, h2, h3, h4, h5, h6⟩ := ok p _ e
    cases kv
    have ee : es = #[] := by
      apply Array.toList_inj.mp
      generalize es.toList = l at h5
      cases h5
      rfl
    subst ee
    refine ⟨⟨as, rd⟩, [p], fun b hb => ?_, ?_⟩
    · rw [List.mem_singleton.mp hb]
      exact ⟨_, _, rd, Nat.le_refl _⟩
    · simp only [PyData.depth, PyData.depthKv, PyData.shown, PyData.shownKv]
      exact ReprK.dict h1 h2.1 h3 lo (by simp) .nil
theorem DAll.rK {P : Program} {w : World} {H : Hp} {h : Heap} (ok : HOk P w H h) : ∀ {vs : List V} {ds : List PyData} {us : List Value}, DAll H vs ds → Vals vs us → PyData.showableAll ds = true → (∀ t ∈ PyData.shownAll ds, t.length ≤ sizeLine) →
    (∃ as, ReadsAll h us ds as) ∧ ∃ bs, ReadAtMost h (PyData.depthAll ds) bs ∧ ReprAllK P w bs h (PyData.depthAll ds) us (PyData.shownAll ds)
  | _, _, _, .nil, .nil, _, _ => by
    refine ⟨⟨_, .nil⟩, [], (fun _ z => nomatch z), ?_⟩
    simp only [PyData.shownAll]
    exact .nil
  | _, _, _, .cons (d := d) (ds := ds) q qs, .cons r rs, hs, hz => by
    have hs' : d.showable = true ∧ PyData.showableAll ds = true := by simpa [PyData.showableAll] using hs
    obtain ⟨⟨as, rd⟩, b1, m1, k1⟩ := D.rK ok q r hs'.1 (hz _ (by simp only [PyData.shownAll]; exact List.mem_cons_self ..))
    obtain ⟨⟨as2, rd2⟩, b2, m2, k2⟩ := DAll.rK ok qs rs hs'.2 (fun t ht => hz t (by simp only [PyData.shownAll]; exact List.mem_cons_of_mem _ ht))
    refine ⟨⟨_, .cons rd rd2⟩, b1 ++ b2, ?_, ?_⟩
    · simp only [PyData.depthAll]
      exact readMost_two m1 m2
    · simp only [PyData.depthAll, PyData.shownAll]
      exact .cons ((k1.more fun b hb => List.mem_append_left _ hb).level_le (Nat.le_max_left _ _)) (k2.more_le (fun b hb => List.mem_append_right _ hb) (Nat.le_max_right _ _))
end
theorem strs_all {H : Hp} : ∀ zs : List Str, DAll H (zs.map V.str) (zs.map PyData.str)
  | [] => .nil
  | z :: zs => .cons (.str z) (strs_all zs)
/-- data, or a tuple of texts that is known to have no dict -/
inductive DF (H : Hp) : V → PyData → Prop
  | d {v : V} {e : PyData} : D H v e → DF H v e
  | fz {p : Addr} {zs : List Str} : Fz.FzT H p (zs.map V.str) → DF H (.ref p) (.tuple (zs.map PyData.str))
inductive DFAll (H : Hp) : List V → List PyData → Prop
  | nil : DFAll H [] []
  | cons {v : V} {e : PyData} {vs : List V} {es : List PyData} : DF H v e → DFAll H vs es → DFAll H (v :: vs) (e :: es)
theorem DF.rK {P : Program} {w : World} {H : Hp} {h : Heap} (ok : HOk P w H h) {v : V} {d : PyData} {u : Value} (q : DF H v d) (r : RelV v u) (hs : d.showable = true) (hz : d.shown.length ≤ sizeLine) : (∃ as, Reads h u d as) ∧ ∃ bs, ReadAtMost h d.depth bs ∧ ReprK P w bs h d.depth u d.shown := by
  cases q with
  | d q => exact q.rK ok r hs hz
  | @fz p zs q =>
    cases r
    obtain ⟨ob, _, e⟩ := q
    obtain ⟨_, _, us, rv, o, h1, h2, n, h3⟩ := (show ObjOk P w H h p (.frz ob (.tup (zs.map V.str))) from ok p _ e)
    have hz' : (tupleText (PyData.shownAll (zs.map PyData.str))).length ≤ sizeLine := by simpa only [PyData.shown] using hz
    obtain ⟨⟨as, ra⟩, bs, mb, ka⟩ := DAll.rK ok (strs_all zs) rv (by simpa [PyData.showable] using hs) (fun t ht => Nat.le_trans (tupleText_mem_le ht) hz')
    have rd : Reads h (.ref p) (.tuple (zs.map PyData.str)) _ := .tuple h1 h2 h3 ra
    have hna : p ∉ bs := not_mem_of_deeper rd (by simp only [PyData.depth]; omega) mb
    refine ⟨⟨_, rd⟩, p :: bs, ReadAtMost.cons rd (by simp only [PyData.depth]; omega) mb, ?_⟩
    simp only [PyData.depth, PyData.shown]
    exact ReprK.tuple h1 h2 h3 hna (by simpa using ka)
theorem DFAll.rK {P : Program} {w : World} {H : Hp} {h : Heap} (ok : HOk P w H h) {vs : List V} {ds : List PyData} (a : DFAll H vs ds) : ∀ {us : List Value}, Vals vs us → PyData.showableAll ds = true → (∀ t ∈ PyData.shownAll ds, t.length ≤ sizeLine) →
    (∃ as, ReadsAll h us ds as) ∧ ∃ bs, ReadAtMost h (PyData.depthAll ds) bs ∧ ReprAllK P w bs h (PyData.depthAll ds) us (PyData.shownAll ds) := by
  induction a with
  | nil =>
    intro us rv _ _
    cases rv
    refine ⟨⟨_, .nil⟩, [], (fun _ z => nomatch z), ?_⟩
    simp only [PyData.shownAll]
    exact .nil
  | @cons v d vs ds q qs ih =>
    intro us rv hs hz
    cases rv with
    | cons r rs =>
    have hs' : d.showable = true ∧ PyData.showableAll ds = true := by simpa [PyData.showableAll] using hs
    obtain ⟨⟨as, rd⟩, b1, m1, k1⟩ := q.rK ok r hs'.1 (hz _ (by simp only [PyData.shownAll]; exact List.mem_cons_self ..))
    obtain ⟨⟨as2, rd2⟩, b2, m2, k2⟩ := ih rs hs'.2 (fun t ht => hz t (by simp only [PyData.shownAll]; exact List.mem_cons_of_mem _ ht))
    refine ⟨⟨_, .cons rd rd2⟩, b1 ++ b2, ?_, ?_⟩
    · simp only [PyData.depthAll]
      exact readMost_two m1 m2
    · simp only [PyData.depthAll, PyData.shownAll]
      exact .cons ((k1.more fun b hb => List.mem_append_left _ hb).level_le (Nat.le_max_left _ _)) (k2.more_le (fun b hb => List.mem_append_right _ hb) (Nat.le_max_right _ _))
theorem DAll.df {H : Hp} : ∀ {vs : List V} {ds : List PyData}, DAll H vs ds → DFAll H vs ds
  | _, _, .nil => .nil
  | _, _, .cons h a => .cons (.d h) (DAll.df a)
/-- what repr of these wants -/
structure RlF (d : PyData) : Prop where
  sh : d.showable = true
  dp : d.depth ≤ 51
  le : d.shown.length ≤ sizeLine
theorem Rl.f {ds : List PyData} (h : Rl ds) : RlF (.list ds) := ⟨by simpa [PyData.showable] using h.sh, by simp only [PyData.depth]; have := h.dp; omega, by simpa only [PyData.shown] using h.all⟩
def rReprA : List V → Hp → VK → Prop := fun vs H Q => (∃ p xs ds, vs = [.ref p] ∧ H p = some (.lst xs) ∧ xs ≠ [] ∧ DFAll H xs ds ∧ RlF (.list ds) ∧ Q (.str (PyData.list ds).shown) H) ∨ ∃ p xs ds, vs = [.ref p] ∧ H p = some (.tup xs) ∧ DAll H xs ds ∧ RlF (.tuple ds) ∧ Q (.str (PyData.tuple ds).shown) H
theorem call_reprA {X : Cx} (hg : X.A.guards = some []) (hu : X.A.units + 64 < cLine) : CallR X (.builtin "repr") rReprA := by
  intro pins s σ H xs us Q I r h
  rcases h with ⟨p, xs, ds, rfl, hp, hne, ra, gd, q⟩ | ⟨p, xs, ds, rfl, hp, ra, gd, q⟩
  · obtain ⟨u, rfl, r1⟩ := vals1 r
    cases r1
    obtain ⟨_, its, n, rv, h1⟩ := I.hok p _ hp
    have hz : (listText (PyData.shownAll ds)).length ≤ sizeLine := by simpa only [PyData.shown] using gd.le
    have hd : PyData.depthAll ds ≤ 50 := by have := gd.dp; simp only [PyData.depth] at this; omega
    obtain ⟨⟨as, rd⟩, bs, mb, ka⟩ := ra.rK I.hok rv (by simpa [PyData.showable] using gd.sh) (fun t ht => Nat.le_trans (listText_mem_le ht) hz)
    have na : p ∉ bs := not_mem_of_deeper (Reads.list h1 rfl rfl rd) (by simp only [PyData.depth]; omega) mb
    simp only [PyData.shown] at q
    cases rv with
    | nil => exact absurd rfl hne
    | @cons x0 u0 xs0 us0 a b =>
      refine call_repr_slot (by omega) ⟨_, h1, rfl⟩ F.slot_list_repr.toG ?_
      refine call_list_reprK (A := X.A.in1) h1 rfl rfl na (by simpa using ka.length_eq) (fun i y e => ka.item i y (by simpa using e)) hg (fun b _ => Clear.nil b) ?_ (fun _ _ z => z) (fun h' u tk k => ?_) hz
      · show X.A.units + 1 + _ < _
        omega
      · exact ⟨_, _, rfl, .str _, H, I.kept k, ⟨_, rfl⟩, q⟩
  · obtain ⟨u, rfl, r1⟩ := vals1 r
    cases r1
    obtain ⟨_, its, rv, o, h1, h2, n, h3⟩ := I.hok p _ hp
    have hz : (tupleText (PyData.shownAll ds)).length ≤ sizeLine := by simpa only [PyData.shown] using gd.le
    have hd : PyData.depthAll ds ≤ 50 := by have := gd.dp; simp only [PyData.depth] at this; omega
    obtain ⟨⟨as, rd⟩, bs, mb, ka⟩ := ra.rK I.hok rv (by simpa [PyData.showable] using gd.sh) (fun t ht => Nat.le_trans (tupleText_mem_le ht) hz)
    have na : p ∉ bs := not_mem_of_deeper (Reads.tuple h1 h2 h3 rd) (by simp only [PyData.depth]; omega) mb
    simp only [PyData.shown] at q
    refine call_repr_slot (by omega) ⟨_, h1, h2⟩ F.slot_tuple_repr ?_
    refine call_tuple_reprK (A := X.A.in1) h1 h2 h3 na (by simpa using ka) hg (fun b _ => Clear.nil b) ?_ (fun _ _ z => z) (fun h' u tk k => ?_) hz
    · show X.A.units + 1 + _ < _
      omega
    · exact ⟨_, _, rfl, .str _, H, I.kept k, ⟨_, rfl⟩, q⟩
end Dt

namespace Xc
open PySem PySem.Spec PyProof.Rows L2 LamX Sh Zt
section
variable {X : Cx}
/-- {t: v}, t a tuple of whole numbers -/
def tDisp1 (tk tv : TE) : TE := fun σ H Q => ∀ p, H p = none → tPairs [(tk, tv)] σ (upd H p (.dT [])) fun ps H2 => ∃ (b : Addr) (ns : List Int) (y : V), H2 p = some (.dT []) ∧ ps = [(.ref b, y)] ∧ H2 b = some (.tup (ns.map V.int)) ∧ Q (.ref p) (upd H2 p (.dT [(ns.map Sum.inl, y)]))
theorem pe_disp1 {k v : Expr} {tk tv : TE} {pos : Pos} (hu : X.A.units + 64 < cLine) (hk : PE X k tk) (hv : PE X v tv) : PE X (.Dict [some k] [v] pos) (tDisp1 tk tv) := by
  refine ⟨fun pins s σ H Q I q => ?_⟩
  have hn := I.hok.fresh (Nat.le_refl s.heap.objs.size)
  have I1 := I.laid (a := s.heap.objs.size) (o := .dT []) (h' := s.heap.push { cls := .type "dict", data := .dict #[] }) (t' := s.toks) (fun _ _ q => Heap.get?_push_of_some _ q) (Nat.le_refl _) (dt_empty s.heap I.big)
  have h := pps_cons (pos := pos) hk hv (pps_nil (X := X) (pos := pos))
  rw [arm_eval_Dict, zip_pairTrees [some k] [v] X.env pos rfl rfl, dictDisplay_pairs (pairTrees [some k] [v] X.env pos) (by intro z; cases z) (by show 1 < 17; decide)]
  refine wpAny_bind (wpAny_standAt (wpAny_bind (wpAny_subDictH (knd := tupleKind (mixKind X.prog X.w)) (by show X.A.units < cLine; omega) (by show 1 ≤ 15; decide) ?_)))
  refine wpAny_mono (h.run pins _ σ _ _ I1 (q _ hn)) (fun ws s2 hw => ?_) fun _ _ e => e
  obtain ⟨ps, H2, I2, rel, b, ns, y, e, rfl, hb, q2⟩ := hw
  cases rel with
  | @cons _ kv _ rest r1 rel =>
    cases rel
    obtain ⟨ku, vu⟩ := kv
    obtain ⟨rk, rv⟩ := r1
    obtain rfl : ku = Value.ref b := rk
    obtain ⟨z, hd, xs, kt, dd⟩ := dt_of I2.hok e
    cases kt
    have ek : (ns.map V.int) = ((ns.map Sum.inl : List Key).map kV) := by
      rw [List.map_map]
      rfl
    have key := key_of (P := X.prog) (w := X.w) I2.hok (show H2 b = some (.tup ((ns.map Sum.inl : List Key).map kV)) by rw [← ek]; exact hb)
    refine ⟨[(ns.map Sum.inl, b, vu)], ⟨rfl, rfl, key, True.intro⟩, dd, fun h' tk2 dd' hs => wpAny_pure ⟨.ref s.heap.objs.size, _, ?_, rfl, q2⟩⟩
    obtain ⟨o, es, ep, ho, hx, hdat, hes, his, hnd⟩ := dd'
    have ne : b ≠ s.heap.objs.size := ne_of hb e fun z => by cases z
    refine d_write I2 (by rw [e]; exact True.intro) hs ⟨o, ho⟩ ⟨by rw [sizeLine_eq]; exact (by decide : 1 ≤ 16777216), hd, [(ns.map Sum.inl, b, vu)], .cons ⟨rfl, ?_, rv⟩ .nil, o, es, ep, ho, hx, hdat, hes, hnd⟩
    rw [← ek]
    exact (upd_ne ne).trans hb
end
/-! ### a call that the helper makes -/
theorem two_met {C : Addr} {u v : V} {o1 o2 : Option (List V)} {H : Hp} {Q : VK} (h1 : Sees H u o1) (h2 : Sees H v o2) (q : ∀ H', Same H H' → Q (.bl (!pairOk o1 o2)) H') : spTwo C [u, v] H (fun _ H' => Q (.bl false) H') (fun cls d H' => cls = .ref C ∧ d = none ∧ Q (.bl true) H') :=
  ⟨u, v, o1, o2, rfl, h1, h2, fun e r H' s => by
    have := q H' s
    rw [e] at this
    exact this, fun e H' s => ⟨rfl, rfl, by
    have := q H' s
    rw [e] at this
    exact this⟩⟩
theorem row_met {C p : Addr} {xs : List V} {os : List (Option (List V))} {H : Hp} {Q : VK} (hp : H p = some (.tup xs)) (hs : SeesAll H xs os) (few : xs.length < 64) (q : ∀ H', Same H H' → Q (.bl (!allOk os)) H') : spRow C [.ref p] H (fun _ H' => Q (.bl false) H') (fun cls d H' => cls = .ref C ∧ d = none ∧ Q (.bl true) H') :=
  ⟨.ref p, rfl, .inr ⟨p, xs, os, rfl, hp, hs, few, fun e r H' s => by
    have := q H' s
    rw [e] at this
    exact this, fun e H' s => ⟨rfl, rfl, by
    have := q H' s
    rw [e] at this
    exact this⟩⟩⟩
theorem non_met {C : Addr} {u : V} {H : Hp} {Q : VK} (h : NoTup H u ∨ ∃ p xs, u = .ref p ∧ H p = some (.dT xs)) (q : ∀ H', Same H H' → Q (.bl true) H') : spRow C [u] H (fun _ H' => Q (.bl false) H') (fun cls d H' => cls = .ref C ∧ d = none ∧ Q (.bl true) H') :=
  ⟨u, rfl, .inl ⟨h, fun H' s => ⟨rfl, rfl, q H' s⟩⟩⟩
def ExtD (d : Addr) (H H' : Hp) : Prop := ∀ b o, b ≠ d → H b = some o → (∀ ps, o ≠ .tbl ps) → H' b = some o
theorem ExtD.of {d : Addr} {H H' : Hp} (h : ExtN H H') : ExtD d H H' := fun b o _ e n => h b o e n
theorem ExtD.but {d : Addr} {H H' : Hp} (h : But d H H') : ExtD d H H' := fun b o hb e _ => h b o hb e
theorem ExtD.trans {d : Addr} {H H1 H2 : Hp} (a : ExtD d H H1) (b : ExtD d H1 H2) : ExtD d H H2 := fun c o n e z => b c o n (a c o n e z) z
def spRightT (TS : List (Addr × Str)) : Sp := fun vs H Q _ => ∃ d, vs = [.ref d] ∧ DieAt H d ∧ Tabs TS H ∧ ∀ H', ExtD d H H' → DieAt H' d → Tabs TS H' → Q (.bl true) H'
def fine (n : Nat) (o : Option (List V)) : Bool := wideO o && decide (lenO o = n)
theorem fine1 {ns : List Int} (w : Wide ns) (o : Option (List V)) : pairOk (some (ns.map V.int)) o = fine ns.length o := by
  unfold pairOk fine
  rw [wideO_wide w, Bool.true_and]
  congr 1
  exact decide_eq_decide.mpr ⟨fun z => by rw [← z]; exact List.length_map _, fun z => by rw [z]; exact List.length_map _⟩
theorem fine2 {ns : List Int} (w : Wide ns) (o : Option (List V)) : pairOk o (some (ns.map V.int)) = fine ns.length o := by
  unfold pairOk fine
  rw [wideO_wide w, Bool.and_true]
  congr 1
  exact decide_eq_decide.mpr ⟨fun z => by rw [z]; exact List.length_map _, fun z => by rw [z]; exact (List.length_map _).symm⟩
theorem fine3 {ns : List Int} (w : Wide ns) (o : Option (List V)) : allOk [some (ns.map V.int), o] = fine ns.length o := by
  rw [← fine1 w]
  unfold allOk pairOk
  simp only [List.all_cons, List.all_nil, List.headD_cons, Bool.and_true, decide_true, Bool.true_and, wideO_wide w]
  congr 1
  exact decide_eq_decide.mpr ⟨fun z => z.symm, fun z => z.symm⟩
theorem fine4 {ns : List Int} (w : Wide ns) (o : Option (List V)) : allOk [o, some (ns.map V.int), some (ns.map V.int)] = fine ns.length o := by
  rw [← fine2 w]
  unfold allOk pairOk
  simp only [List.all_cons, List.all_nil, List.headD_cons, Bool.and_true, decide_true, Bool.true_and, wideO_wide w, Bool.and_self]
  congr 1
  exact decide_eq_decide.mpr ⟨fun z => z.symm, fun z => z.symm⟩
/-! ### the lambdas' readings -/
section
variable {TS : List (Addr × Str)} {C : Addr} {σ : L2.St} {H : Hp} {Q : VK}
theorem lam_two {i j : Nat} {u v : V} {o1 o2 : Option (List V)} {b : Bool} (hi : σ[i]? = some (some u)) (hj : σ[j]? = some (some v)) (hT : Tabs TS H) (h1 : Sees H u o1) (h2 : Sees H v o2) (hb : (!pairOk o1 o2) = b) (q : ∀ H', ExtN H H' → Tabs TS H' → Q (.bl b) H') :
    LamX.tLam TS (TMet C) (fun E => tCallS (spTwo C) (fun σ => WE (fun cls d x H => E cls d H) σ) (tCons (tVar i) (tCons (tVar j) tNil))) σ H Q := by
  subst hb
  exact ⟨hT, fun G1 e1 T1 => ⟨u, hi, v, hj, two_met (h1.ext e1) (h2.ext e1) fun G2 s2 => q G2 (ExtN.same e1 s2) (tabs_same s2 T1)⟩⟩
theorem lam_two2 {ta tb : TE} {o1 o2 : Option (List V)} {b : Bool} (hT : Tabs TS H) (ha : ∀ H1, ExtN H H1 → Tabs TS H1 → ∀ R : VK, (∀ u H2, Same H1 H2 → Sees H2 u o1 → R u H2) → ta σ H1 R) (hb' : ∀ H1, ExtN H H1 → Tabs TS H1 → ∀ R : VK, (∀ v H2, Same H1 H2 → Sees H2 v o2 → R v H2) → tb σ H1 R)
    (hb : (!pairOk o1 o2) = b) (q : ∀ H', ExtN H H' → Tabs TS H' → Q (.bl b) H') :
    LamX.tLam TS (TMet C) (fun E => tCallS (spTwo C) (fun σ => WE (fun cls d x H => E cls d H) σ) (tCons ta (tCons tb tNil))) σ H Q := by
  subst hb
  refine ⟨hT, fun G1 e1 T1 => ha G1 e1 T1 _ fun u G2 s2 h1 => hb' G2 (ExtN.same e1 s2) (tabs_same s2 T1) _ fun v G3 s3 h2 => ?_⟩
  exact two_met (h1.same s3) h2 fun G4 s4 => q G4 (ExtN.same (ExtN.same (ExtN.same e1 s2) s3) s4) (tabs_same s4 (tabs_same s3 (tabs_same s2 T1)))
/-- over a tuple of the maker's names -/
theorem lam_row {ta : TE} {xs : List V} {os : List (Option (List V))} {b : Bool} (hT : Tabs TS H) (ha : ∀ H1, ExtN H H1 → Tabs TS H1 → ∀ R : VK, (∀ p H2, Same H1 H2 → H2 p = some (.tup xs) → SeesAll H2 xs os → R (.ref p) H2) → ta σ H1 R) (few : xs.length < 64) (hb : (!allOk os) = b) (q : ∀ H', ExtN H H' → Tabs TS H' → Q (.bl b) H') :
    LamX.tLam TS (TMet C) (fun E => tCallS (spRow C) (fun σ => WE (fun cls d x H => E cls d H) σ) (tCons ta tNil)) σ H Q := by
  subst hb
  refine ⟨hT, fun G1 e1 T1 => ha G1 e1 T1 _ fun p G2 s2 hp hs => ?_⟩
  exact row_met hp hs few fun G3 s3 => q G3 (ExtN.same (ExtN.same e1 s2) s3) (tabs_same s3 (tabs_same s2 T1))
theorem lam_row2 {ta : TE} {os : List (Option (List V))} {b : Bool} (hT : Tabs TS H) (ha : ∀ H1, ExtN H H1 → Tabs TS H1 → ∀ R : VK, (∀ xs p H2, Same H1 H2 → H2 p = some (.tup xs) → SeesAll H2 xs os → R (.ref p) H2) → ta σ H1 R) (few : os.length < 64) (hb : (!allOk os) = b) (q : ∀ H', ExtN H H' → Tabs TS H' → Q (.bl b) H') :
    LamX.tLam TS (TMet C) (fun E => tCallS (spRow C) (fun σ => WE (fun cls d x H => E cls d H) σ) (tCons ta tNil)) σ H Q := by
  subst hb
  refine ⟨hT, fun G1 e1 T1 => ha G1 e1 T1 _ fun xs p G2 s2 hp hs => ?_⟩
  exact row_met hp hs (by rw [hs.len]; exact few) fun G3 s3 => q G3 (ExtN.same (ExtN.same e1 s2) s3) (tabs_same s3 (tabs_same s2 T1))
theorem lam_non {i : Nat} {u : V} (hi : σ[i]? = some (some u)) (hT : Tabs TS H) (h : ∀ H1, ExtN H H1 → NoTup H1 u ∨ ∃ p xs, u = .ref p ∧ H1 p = some (.dT xs)) (q : ∀ H', ExtN H H' → Tabs TS H' → Q (.bl true) H') :
    LamX.tLam TS (TMet C) (fun E => tCallS (spRow C) (fun σ => WE (fun cls d x H => E cls d H) σ) (tCons (tVar i) tNil)) σ H Q := by
  refine ⟨hT, fun G1 e1 T1 => ⟨u, hi, ?_⟩⟩
  exact non_met (h G1 e1) fun G2 s2 => q G2 (ExtN.same e1 s2) (tabs_same s2 T1)
end
theorem tabs_upl {T : List (Addr × Str)} {H : Hp} {L : Addr} {xs ys : List V} (hL : H L = some (.lst xs)) (t : Tabs T H) : Tabs T (upd H L (.lst ys)) := fun p hp => by
  obtain ⟨ps, h1, h2, h3⟩ := t p hp
  refine ⟨ps, (upd_ne (ne_of h1 hL fun z => by cases z)).trans h1, h2, fun pos cv hc => ?_⟩
  obtain ⟨c, e1, e2⟩ := h3 pos cv hc
  exact ⟨c, e1, (upd_ne (ne_of e2 hL fun z => by unfold CodeO at z; cases z)).trans e2⟩
theorem Sees.upl {H : Hp} {L : Addr} {xs ys : List V} {v : V} (hL : H L = some (.lst xs)) : ∀ {o : Option (List V)}, Sees H v o → Sees (upd H L (.lst ys)) v o
  | none, h => NoTup.upl hL h
  | some zs, ⟨p, e, h, l, k⟩ => ⟨p, e, tup_upl hL h, l, fun x hx => (k x hx).upl hL⟩
/-- what is held while the row of answers grows -/
structure Box (TS : List (Addr × Str)) (H0 H : Hp) (d p : Addr) (near : V) (o : Option (List V)) (ns : List Int) (L : Addr) (xs : List V) : Prop where
  hp : H p = some (.tup (ns.map V.int))
  hS : Sees H near o
  hD : DieAt H d
  hT : Tabs TS H
  ex : ExtD d H0 H
  hL : H L = some (.lst xs)
  n0 : ∀ u, H0 L = some u → ¬ ∀ ps, u ≠ .tbl ps
  n1 : L ≠ d
section
variable {TS : List (Addr × Str)} {H0 H H' : Hp} {d p L : Addr} {near : V} {o : Option (List V)} {ns : List Int} {xs : List V}
theorem Box.ext (b : Box TS H0 H d p near o ns L xs) (x : ExtN H H') (t : Tabs TS H') : Box TS H0 H' d p near o ns L xs := ⟨ExtN.tup x b.hp, b.hS.ext x, ExtN.die x b.hD, t, b.ex.trans (ExtD.of x), ExtN.lst x b.hL, b.n0, b.n1⟩
theorem Box.put (b : Box TS H0 H d p near o ns L xs) (ys : List V) : Box TS H0 (upd H L (.lst ys)) d p near o ns L ys :=
  ⟨tup_upl b.hL b.hp, b.hS.upl b.hL, b.hD.put b.n1, tabs_upl b.hL b.hT, fun c u hc e n => by
    have ne : c ≠ L := fun z => b.n0 u (by rw [← z]; exact e) n
    exact (upd_ne ne).trans (b.ex c u hc e n), upd_same, b.n0, b.n1⟩
end
theorem fine5 {ns : List Int} (w : Wide ns) : (!allOk [some (ns.map V.int)]) = false := by
  unfold allOk
  simp only [List.all_cons, List.all_nil, List.headD_cons, Bool.and_true, decide_true, Bool.true_and, wideO_wide w, Bool.and_self]
  rfl
/-- no tuple at all -/
def Non (H : Hp) (v : V) : Prop := NoTup H v ∨ ∃ p xs, v = .ref p ∧ H p = some (.dT xs)
theorem Non.die {H H' : Hp} {d : Addr} {v : V} (hd : DieAt H d) (n : NewDie H d H') (h : Non H v) : Non H' v := by
  rcases h with h | ⟨p, xs, e, h⟩
  · exact .inl (NoTup.die hd n h)
  · exact .inr ⟨p, xs, e, n.but _ _ (hd.ne h fun _ _ _ z => by cases z) h⟩
theorem Non.ext {H H' : Hp} {v : V} (x : ExtN H H') (h : Non H v) : Non H' v := by
  rcases h with h | ⟨p, xs, e, h⟩
  · exact .inl (ExtN.notup x h)
  · exact .inr ⟨p, xs, e, x _ _ h fun _ z => by cases z⟩
theorem Non.upl {H : Hp} {L : Addr} {xs ys : List V} {v : V} (hL : H L = some (.lst xs)) (h : Non H v) : Non (upd H L (.lst ys)) v := by
  rcases h with h | ⟨p, zs, e, h⟩
  · exact .inl (NoTup.upl hL h)
  · exact .inr ⟨p, zs, e, (upd_ne (ne_of h hL fun z => by cases z)).trans h⟩
theorem extn_seq {K : PySem.W.Frag} {H H' : Hp} {a : Addr} {xs : List V} (x : ExtN H H') (h : SqL K H a xs) : SqL K H' a xs := by
  rcases h with (h | ⟨o, h⟩) | h
  · exact .inl (.inl (x _ _ h fun _ z => by cases z))
  · exact .inl (.inr ⟨o, x _ _ h fun _ z => by cases z⟩)
  · exact .inr h
theorem extd_new {H H' : Hp} {p : Addr} {o : HO} (hp : H p = none) (x : ExtD p (upd H p o) H') : ExtN H H' := fun b u e n => by
  have ne : b ≠ p := fun z => by rw [z, hp] at e; cases e
  exact x b u ne ((upd_ne ne).trans e) n
def spLawT (K : PySem.W.Frag) (TS : List (Addr × Str)) : Sp := fun vs H Q _ => ∃ a, ∃ ns : List Int, vs = [.ref a] ∧ SqL K H a (ns.map V.int) ∧ ns.length ≤ 63 ∧ Tabs TS H ∧ ∀ H', Q (.bl true) H'
end Xc

namespace My
open PySem PySem.Spec PyProof.Rows L2 Sh Dt
open LamX (ExtN)
/-! ### the weight of moves -/
structure gp (d : PyData) (W : Nat) : Prop where
  sh : d.showable = true
  ih : PyData.intsShort 13 d = true
  wt : d.weight ≤ W
theorem gp.mono {d : PyData} {W V : Nat} (h : gp d W) (l : W ≤ V) : gp d V := ⟨h.sh, h.ih, Nat.le_trans h.wt l⟩
theorem gp_all {W : Nat} : ∀ {ds : List PyData}, (∀ d ∈ ds, gp d W) → PyData.showableAll ds = true ∧ PyData.intsShortAll 13 ds = true ∧ PyData.weightAll ds ≤ ds.length * (W + 1)
  | [], _ => ⟨by simp [PyData.showableAll], by simp [PyData.intsShortAll], by simp [PyData.weightAll]⟩
  | d :: r, h => by
    have h1 := h d List.mem_cons_self
    have h2 := gp_all fun x hx => h x (List.mem_cons_of_mem _ hx)
    refine ⟨by simp [PyData.showableAll, h1.sh, h2.1], by simp [PyData.intsShortAll, h1.ih, h2.2.1], ?_⟩
    have a1 := h1.wt
    have a2 := h2.2.2
    simp only [PyData.weightAll, List.length_cons, Nat.add_mul, Nat.one_mul]
    simp only [Nat.mul_add] at a2 ⊢
    omega
theorem gp_tuple {W : Nat} {ds : List PyData} (h : ∀ d ∈ ds, gp d W) : gp (.tuple ds) (ds.length * (W + 1)) := by
  have := gp_all h
  exact ⟨by simp only [PyData.showable]; exact this.1, by simp only [PyData.intsShort]; exact this.2.1, by simp only [PyData.weight]; exact this.2.2⟩
theorem gp_tuple' {W n V : Nat} {ds : List PyData} (h : ∀ d ∈ ds, gp d W) (l : ds.length ≤ n) (m : n * (W + 1) ≤ V) : gp (.tuple ds) V := (gp_tuple h).mono (Nat.le_trans (Nat.mul_le_mul_right _ l) m)
theorem gp_int {i : Int} (h0 : 0 ≤ i) (h1 : i < 100) : gp (.int i) 8 := by
  refine ⟨?_, ?_, ?_⟩
  · simp only [PyData.showable, decide_eq_true_iff]
    have := Nat.log2_le_self i.natAbs
    omega
  · simp only [PyData.intsShort, decide_eq_true_iff]
    exact PyData.shown_int_le (by omega)
  · simp only [PyData.weight]
    split
    · omega
    · have : i.natAbs.log2 < 7 := (Nat.log2_lt (by
        intro z
        rename_i e
        apply e
        have : i = 0 := by omega
        subst this
        rfl)).mpr (by omega)
      omega
theorem gp_num {n : Int} {d : PyData} (hn : n ≤ 100) (h : isNum n d = true) : gp d 8 := by
  cases d with
  | int i =>
    have h : (decide (0 ≤ i) && decide (i < n)) = true := h
    rw [Bool.and_eq_true, decide_eq_true_iff, decide_eq_true_iff] at h
    exact gp_int h.1 (by omega)
  | _ => exact absurd h (by intro z; cases z)
theorem gp_str {z : Str} {W : Nat} (h : z.length ≤ W) (s : PyData.strOk z = true) : gp (.str z) W := ⟨by simp only [PyData.showable] <;> exact s, by simp only [PyData.intsShort], by simp only [PyData.weight]; exact h⟩
theorem gp_set {n : Int} {d : PyData} (hn : n ≤ 100) (h : isSet n d = true) (s : sm d = true) : gp d 540 := by
  cases d with
  | tuple ds =>
    have h : (!ds.isEmpty && ds.all (isNum n) && asc ltI (ds.map intOf)) = true := h
    rw [Bool.and_eq_true, Bool.and_eq_true] at h
    exact gp_tuple' (W := 8) (n := 60) (fun d hd => gp_num hn (List.all_eq_true.mp h.1.2 d hd)) (sm_tup.mp s).1 (by decide)
  | _ => exact absurd h (by intro z; cases z)
theorem gp_pair {n : Int} {d : PyData} (hn : n ≤ 100) (h : isPair n d = true) : gp d 18 := by
  match d, h with
  | .tuple [a, b], h =>
    have h : (isNum n a && isNum n b) = true := h
    rw [Bool.and_eq_true] at h
    refine gp_tuple' (W := 8) (n := 2) (fun d hd => ?_) (by simp) (by decide)
    simp at hd
    rcases hd with rfl | rfl
    · exact gp_num hn h.1
    · exact gp_num hn h.2
theorem gp_pairs {n : Int} {d : PyData} (hn : n ≤ 100) (h : isPairs n d = true) (s : sm d = true) : gp d 1140 := by
  cases d with
  | tuple ds =>
    have h : (!ds.isEmpty && ds.all (isPair n) && asc HT.lexLt (ds.map rowOf)) = true := h
    rw [Bool.and_eq_true, Bool.and_eq_true] at h
    exact gp_tuple' (W := 18) (n := 60) (fun d hd => gp_pair hn (List.all_eq_true.mp h.1.2 d hd)) (sm_tup.mp s).1 (by decide)
  | _ => exact absurd h (by intro z; cases z)
theorem gp_sm {z : Str} (s : sm (.str z) = true) : gp (.str z) 1140 := by
  simp only [sm, Bool.and_eq_true, decide_eq_true_iff] at s
  exact gp_str (by omega) s.2
theorem gp_move {p n : Int} {d : PyData} (hp : p ≤ 100) (hn : n ≤ 100) (h : isMove p n d = true) (s : sm d = true) : gp d 5705 := by
  match d, h with
  | .tuple (w :: a :: x :: r), h =>
    obtain ⟨_, s⟩ := sm_tup.mp s
    have sw := s w (by simp)
    simp only [isMove, Bool.and_eq_true] at h
    obtain ⟨ha, h⟩ := h
    have p0 := (gp_num hp ha).mono (show 8 ≤ 1140 by omega)
    by_cases e1 : PyData.eqv w (.str "leave") = true
    · rw [if_pos e1, Bool.and_eq_true] at h
      obtain ⟨y, rfl⟩ := eqv_strR e1
      have hr : r = [] := by simpa using h.1
      subst hr
      refine gp_tuple' (W := 1140) (n := 5) (fun d hd => ?_) (by simp) (by decide)
      simp at hd
      rcases hd with rfl | rfl | rfl
      · exact gp_sm sw
      · exact p0
      · exact (gp_set hn h.2 (s _ (by simp))).mono (by omega)
    · rw [if_neg e1, Bool.and_eq_true] at h
      obtain ⟨hx, h⟩ := h
      have p1 := (gp_num hp hx).mono (show 8 ≤ 1140 by omega)
      by_cases e2 : PyData.eqv w (.str "go") = true
      · rw [if_pos e2] at h
        obtain ⟨y, rfl⟩ := eqv_strR e2
        match r, h with
        | [y], h =>
          refine gp_tuple' (W := 1140) (n := 5) (fun d hd => ?_) (by simp) (by decide)
          simp at hd
          rcases hd with rfl | rfl | rfl | rfl
          · exact gp_sm sw
          · exact p0
          · exact p1
          · exact gp_pairs hn h (s _ (by simp))
      · rw [if_neg e2, Bool.and_eq_true] at h
        obtain ⟨hw, h⟩ := h
        obtain ⟨y, rfl⟩ := in_str hw
        match r, h with
        | [y, z], h =>
          rw [Bool.and_eq_true] at h
          have sy := s y (by simp)
          refine gp_tuple' (W := 1140) (n := 5) (fun d hd => ?_) (by simp) (by decide)
          simp at hd
          rcases hd with rfl | rfl | rfl | rfl | rfl
          · exact gp_sm sw
          · exact p0
          · exact p1
          · cases d with
            | str t => exact gp_sm sy
            | _ => exact absurd h.1 (by simp [nameD])
          · exact (gp_set hn h.2 (s _ (by simp))).mono (by omega)
/-- what is told of a procedure can be shown -/
theorem rl_band {z : Str} {p : Int} {ms rest : List PyData} (g : Good z p ms) (sz : sm (.str z) = true) (sms : sm (.tuple ms) = true) (hr : ∀ d ∈ rest, pl 4 d ∧ gp d 70000 ∧ sm d = true) (l : rest.length ≤ 5) : Rl (([.str z, .int p, .tuple ms] : List PyData) ++ rest) := by
  have gm := g.moves
  have gl := g.lo
  have gh := g.hi
  have e := gm
  unfold areMoves at e
  rw [Bool.and_eq_true, decide_eq_true_iff] at e
  have all : ∀ d ∈ (([.str z, .int p, .tuple ms] : List PyData) ++ rest), pl 4 d ∧ gp d 70000 ∧ sm d = true := fun d hd => by
    rcases List.mem_append.mp hd with hd | hd
    · simp at hd
      rcases hd with rfl | rfl | rfl
      · exact ⟨(pl_str z).mono (by omega), (gp_sm sz).mono (by omega), sz⟩
      · exact ⟨⟨rfl, by simp [PyData.depth]⟩, (gp_int (by omega) (by omega)).mono (by omega), rfl⟩
      · exact ⟨pl_moves gm, gp_tuple' (W := 5705) (n := 12) (fun d hd => gp_move (by omega) (by decide) (List.all_eq_true.mp e.2 d hd) ((sm_tup.mp sms).2 d hd)) e.1 (by decide), sms⟩
    · exact hr d hd
  have a1 := pl_tup fun d hd => (all d hd).1
  have a2 := gp_all fun d hd => (all d hd).2.1
  refine ⟨a1.1, smAll_mem.mpr fun d hd => (all d hd).2.2, a2.1, by omega, a2.2.1, Nat.le_trans a2.2.2 ?_⟩
  have : (([.str z, .int p, .tuple ms] : List PyData) ++ rest).length ≤ 8 := by simp; omega
  exact Nat.le_trans (Nat.mul_le_mul_right _ this) (by decide)
theorem pl_mem {k : Nat} : ∀ {ds : List PyData} {d : PyData}, PyData.plainAll ds = true → PyData.depthAll ds ≤ k → d ∈ ds → pl k d
  | [], _, _, _, h => nomatch h
  | x :: r, d, h1, h2, h => by
    simp only [PyData.plainAll, Bool.and_eq_true] at h1
    simp only [PyData.depthAll] at h2
    rcases List.mem_cons.mp h with rfl | h
    · exact ⟨h1.1, Nat.le_trans (Nat.le_max_left _ _) h2⟩
    · exact pl_mem h1.2 (Nat.le_trans (Nat.le_max_right _ _) h2) h

/-! ### what stays beside the tables -/
mutual
theorem D.extn {H H' : Hp} (s : ExtN H H') : ∀ {v : V} {d : PyData}, D H v d → D H' v d
  | _, _, .non => .non
  | _, _, .bl b => .bl b
  | _, _, .int i => .int i
  | _, _, .str z => .str z
  | _, _, .lst h a => .lst (s _ _ h (fun _ z => by cases z)) (DAll.extn s a)
  | _, _, .tup h a => .tup (s _ _ h (fun _ z => by cases z)) (DAll.extn s a)
  | _, _, .dic h => .dic (s _ _ h (fun _ z => by cases z))
theorem DAll.extn {H H' : Hp} (s : ExtN H H') : ∀ {vs : List V} {ds : List PyData}, DAll H vs ds → DAll H' vs ds
  | _, _, .nil => .nil
  | _, _, .cons h a => .cons (D.extn s h) (DAll.extn s a)
end
theorem Pr.extn {C : Addr} {H H' : Hp} {a : Addr} {z : Str} {p : Int} {ms : List PyData} (s : ExtN H H') (h : Pr C H a z p ms) : Pr C H' a z p ms := by
  obtain ⟨dx, t, xs, h1, h2, h3, g⟩ := h
  exact ⟨dx, t, xs, s _ _ h1 (fun _ z => by cases z), s _ _ h2 (fun _ z => by cases z), DAll.extn s h3, g⟩
theorem PAll.extn {C : Addr} {H H' : Hp} {vs : List V} {rs : List Row} (s : ExtN H H') (h : PAll C H vs rs) : PAll C H' vs rs := by
  induction h with
  | nil => exact .nil
  | cons a _ ih => exact .cons (a.extn s) ih
theorem Pg.extn {C Cg : Addr} {H H' : Hp} {a : Addr} {n : Int} {ds db : PyData} {rs : List Row} (s : ExtN H H') (h : Pg C Cg H a n ds db rs) : Pg C Cg H' a n ds db rs := by
  obtain ⟨dx, sv, bv, t, xs, u, l, m, h1, h2, h3, h4, h5, ⟨o, od, h6⟩, g⟩ := h
  exact ⟨dx, sv, bv, t, xs, u, l, m, s _ _ h1 (fun _ z => by cases z), D.extn s h2, D.extn s h3, s _ _ h4 (fun _ z => by cases z), h5.extn s, ⟨o, od, s _ _ h6 (fun _ z => by cases z)⟩, g⟩
theorem BandD.extn {H H' : Hp} {b : V} {r : Row} (s : ExtN H H') (h : BandD H b r) : BandD H' b r := by
  obtain ⟨B, t, xs, e, h1, h2, h3⟩ := h
  exact ⟨B, t, xs, e, s _ _ h1 (fun _ z => by cases z), s _ _ h2 (fun _ z => by cases z), DAll.extn s h3⟩
theorem BandsD.extn {H H' : Hp} {bs : List V} {rs : List Row} (s : ExtN H H') (h : BandsD H bs rs) : BandsD H' bs rs :=
  ⟨h.1, fun i b e => let ⟨r, hr, hb⟩ := h.2 i b e; ⟨r, hr, hb.extn s⟩⟩
/-- a plain program on the heap -/
def PlainAt (H : Hp) (V0 : Addr) (tot : Int) (ns gs : List Int) (rs : List Row) : Prop := ∃ va vb R bs, H V0 = some (.lst [.int tot, va, vb, .ref R]) ∧ D H va (.tuple (ns.map PyData.int)) ∧ D H vb (.tuple (gs.map PyData.int)) ∧ H R = some (.lst bs) ∧ BandsD H bs rs
theorem PlainAt.same {H H' : Hp} {V0 : Addr} {tot : Int} {ns gs : List Int} {rs : List Row} (s : Same H H') (h : PlainAt H V0 tot ns gs rs) : PlainAt H' V0 tot ns gs rs := by
  obtain ⟨va, vb, R, bs, h1, h2, h3, h4, h5⟩ := h
  exact ⟨va, vb, R, bs, s _ _ h1, h2.same s, h3.same s, s _ _ h4, h5.same s⟩
theorem PlainAt.extn {H H' : Hp} {V0 : Addr} {tot : Int} {ns gs : List Int} {rs : List Row} (s : ExtN H H') (h : PlainAt H V0 tot ns gs rs) : PlainAt H' V0 tot ns gs rs := by
  obtain ⟨va, vb, R, bs, h1, h2, h3, h4, h5⟩ := h
  exact ⟨va, vb, R, bs, s _ _ h1 (fun _ z => by cases z), D.extn s h2, D.extn s h3, s _ _ h4 (fun _ z => by cases z), h5.extn s⟩
end My

namespace My
open PySem PySem.Spec PyProof.Rows L2 Sh Dt
open Eo (FnG pe_callG fnG_ok)
open LamX (Tabs ExtN TabB pe_lamcall lamS_by)
open Cl (ErrC)
open Xc (ExtD spRightT spLawT tabs_but tabs_same)
abbrev lamQ (st : Stmt) (x : Str) : Str := (envOfC x (defScope st) 0 0 .none).qual ++ "<lambda>"
abbrev Nlaw_met : List Str := ["call", "error"]
abbrev Nlaw_told_right : List Str := ["plain", "program", "every", "code", "name", "points", "moves", "told", "calls", "posts", "names", "site", "late", "text", "at", "move", "band", "one"]
def spTold (TS : List (Addr × Str)) (C Cg : Addr) : Sp := fun vs H Q _ => ∃ V0 a tot ns gs rs, vs = [.ref V0, .ref a] ∧ PlainAt H V0 tot ns gs rs ∧ Pg C Cg H a tot (.tuple (ns.map PyData.int)) (.tuple (gs.map PyData.int)) rs ∧ Plain tot ns gs rs ∧ (∀ r ∈ rs, GoodRow r) ∧ Tabs TS H ∧ ∀ H', ExtN H H' → Tabs TS H' → Q (.bl true) H'
def sitesAll (rs : List Row) : List (Row × Nat) := rs.flatMap fun r => (List.range r.2.2.length).map fun i => (r, i)
theorem sitesAll_mem {rs : List Row} {s : Row × Nat} (h : s ∈ sitesAll rs) : s.1 ∈ rs ∧ s.2 < s.1.2.2.length := by
  obtain ⟨r, hr, hs⟩ := List.mem_flatMap.mp h
  obtain ⟨i, hi, rfl⟩ := List.mem_map.mp hs
  exact ⟨hr, List.mem_range.mp hi⟩
theorem sitesAll_snoc (rs : List Row) (r : Row) : sitesAll (rs ++ [r]) = sitesAll rs ++ (List.range r.2.2.length).map fun i => (r, i) := by
  unfold sitesAll
  rw [List.flatMap_append]
  simp
theorem sitesAll_len {n k : Nat} : ∀ {rs : List Row}, (∀ r ∈ rs, r.2.2.length ≤ n) → rs.length ≤ k → (sitesAll rs).length ≤ k * n
  | [], _, _ => by simp [sitesAll]
  | r :: rs, h, l => by
    obtain ⟨k, rfl⟩ : ∃ j, k = j + 1 := ⟨k - 1, by simp at l; omega⟩
    have ih := sitesAll_len (n := n) (k := k) (rs := rs) (fun q hq => h q (by simp [hq])) (by simpa using l)
    have : sitesAll (r :: rs) = (List.range r.2.2.length).map (fun i => (r, i)) ++ sitesAll rs := by simp [sitesAll]
    rw [this, List.length_append, List.length_map, List.length_range, Nat.succ_mul]
    have := h r (by simp)
    omega
def siteV (s : Row × Nat) : List V := [.str s.1.1, .int (s.2 : Nat)]
def siteD (s : Row × Nat) : PyData := .tuple [.str s.1.1, .int (s.2 : Nat)]
def TK (G G' : Hp) : Prop := ∀ T ys, G T = some (.tup ys) → G' T = some (.tup ys)
theorem tk_same {G G' : Hp} (s : Same G G') : TK G G' := fun T ys h => s _ _ h
theorem tk_extn {G G' : Hp} (s : ExtN G G') : TK G G' := fun T ys h => s _ _ h fun _ z => by cases z
theorem tk_put {G : Hp} {M : Addr} {ys : List V} {o : HO} (h : G M = some (.lst ys)) : TK G (upd G M o) := fun T zs e => (upd_ne (fun z => by rw [z, h] at e; cases e)).trans e
theorem TK.trans {G G1 G2 : Hp} (a : TK G G1) (b : TK G1 G2) : TK G G2 := fun T ys h => b T ys (a T ys h)
def SitesAt (G : Hp) (xs : List V) (ss : List (Row × Nat)) : Prop := xs.length = ss.length ∧ ∀ (i : Nat) v, xs[i]? = some v → ∃ s T, ss[i]? = some s ∧ v = .ref T ∧ G T = some (.tup (siteV s))
theorem SitesAt.keep {G G' : Hp} {xs : List V} {ss : List (Row × Nat)} (h : SitesAt G xs ss) (k : TK G G') : SitesAt G' xs ss := ⟨h.1, fun i v e => let ⟨s, T, h1, h2, h3⟩ := h.2 i v e; ⟨s, T, h1, h2, k _ _ h3⟩⟩
theorem SitesAt.app {G : Hp} {xs ys : List V} {ss ts : List (Row × Nat)} (h : SitesAt G xs ss) (g : SitesAt G ys ts) : SitesAt G (xs ++ ys) (ss ++ ts) := by
  refine ⟨by rw [List.length_append, List.length_append, h.1, g.1], fun i v e => ?_⟩
  by_cases l : i < xs.length
  · rw [List.getElem?_append_left l] at e
    obtain ⟨s, T, h1, h2⟩ := h.2 i v e
    exact ⟨s, T, by rw [List.getElem?_append_left (by have := h.1; omega)]; exact h1, h2⟩
  · rw [List.getElem?_append_right (by omega)] at e
    obtain ⟨s, T, h1, h2⟩ := g.2 _ v e
    exact ⟨s, T, by rw [List.getElem?_append_right (by have := h.1; omega), ← h.1]; exact h1, h2⟩
theorem SitesAt.one {G : Hp} {T : Addr} {s : Row × Nat} (h : G T = some (.tup (siteV s))) : SitesAt G [.ref T] [s] := ⟨rfl, fun i v e => by
  cases i with
  | zero =>
    cases e
    exact ⟨s, T, rfl, rfl, h⟩
  | succ i => simp at e⟩
def ToldAt (Hb G : Hp) (xs : List V) (ss : List (Row × Nat)) : Prop := xs.length = ss.length ∧ ∀ (i : Nat) v, xs[i]? = some v → ∃ s T S mv m, ss[i]? = some s ∧ v = .ref T ∧ G T = some (.tup [.ref S, mv]) ∧ G S = some (.tup (siteV s)) ∧ D Hb mv m ∧ s.1.2.2[s.2]? = some m
theorem ToldAt.keep {Hb G G' : Hp} {xs : List V} {ss : List (Row × Nat)} (h : ToldAt Hb G xs ss) (k : TK G G') : ToldAt Hb G' xs ss := ⟨h.1, fun i v e => let ⟨s, T, S, mv, m, h1, h2, h3, h4, h5⟩ := h.2 i v e; ⟨s, T, S, mv, m, h1, h2, k _ _ h3, k _ _ h4, h5⟩⟩
theorem ToldAt.snoc {Hb G : Hp} {xs : List V} {ss : List (Row × Nat)} {s : Row × Nat} {T S : Addr} {mv : V} {m : PyData} (h : ToldAt Hb G xs ss) (h3 : G T = some (.tup [.ref S, mv])) (h4 : G S = some (.tup (siteV s))) (h5 : D Hb mv m) (h6 : s.1.2.2[s.2]? = some m) : ToldAt Hb G (xs ++ [.ref T]) (ss ++ [s]) := by
  refine ⟨by rw [List.length_append, List.length_append, h.1]; rfl, fun i v e => ?_⟩
  by_cases l : i < xs.length
  · rw [List.getElem?_append_left l] at e
    obtain ⟨s', T', S', mv', m', h1, h2⟩ := h.2 i v e
    exact ⟨s', T', S', mv', m', by rw [List.getElem?_append_left (by have := h.1; omega)]; exact h1, h2⟩
  · have ei : i = xs.length := by
      have := (List.getElem?_eq_some_iff.mp e).1
      rw [List.length_append] at this
      simp at this
      omega
    subst ei
    rw [List.getElem?_append_right (Nat.le_refl _)] at e
    simp at e
    subst e
    exact ⟨s, T, S, mv, m, by rw [h.1, List.getElem?_append_right (Nat.le_refl _)]; simp, rfl, h3, h4, h5, h6⟩
theorem tabs_put {T : List (Addr × Str)} {H : Hp} {M : Addr} {ys : List V} {o : HO} (h : H M = some (.lst ys)) (t : Tabs T H) : Tabs T (upd H M o) := fun p hp => by
  have ne : ∀ {b : Addr} {u : HO}, H b = some u → u ≠ .lst ys → b ≠ M := fun e hn z => by
    rw [z, h] at e
    exact hn (Option.some.inj e).symm
  obtain ⟨ps, h1, h2, h3⟩ := t p hp
  refine ⟨ps, (upd_ne (ne h1 fun z => by cases z)).trans h1, h2, fun pos cv hc => ?_⟩
  obtain ⟨c, e1, e2⟩ := h3 pos cv hc
  exact ⟨c, e1, (upd_ne (ne e2 fun z => by unfold LamX.CodeO at z; cases z)).trans e2⟩
/-- of the kind -/
def isK (kind : Str) (s : Row × Nat) : Bool := wordIs kind (s.1.2.2.getD s.2 .none)
theorem sites_kind (kind : Str) (rs : List Row) : ((sitesAll rs).filter (isK kind)).map siteD = sitesD kind rs := by
  unfold sitesAll sitesD
  induction rs with
  | nil => rfl
  | cons r rs ih =>
    rw [List.flatMap_cons, List.flatMap_cons, List.filter_append, List.map_append, ih]
    congr 1
    unfold sitesUp
    rw [List.filter_map, List.map_map]
    rfl
theorem told_word {tot : Int} {ns gs : List Int} {rs : List Row} {H : Hp} {s : Row × Nat} {mv : V} {m : PyData} (pl : Plain tot ns gs rs) (hs : s ∈ sitesAll rs) (h : s.1.2.2[s.2]? = some m) (d : D H mv m) : ∃ p v0 vr w, mv = .ref p ∧ H p = some (.tup (v0 :: vr)) ∧ D H v0 w ∧ ∀ kind : Str, isK kind s = PyData.eqv w (.str kind) := by
  obtain ⟨hr, hi⟩ := sitesAll_mem hs
  obtain ⟨ds, rfl, mvv⟩ := (pl.ok s.1 hr).mv m (List.mem_of_getElem? h)
  cases d with
  | @tup p vs ds e a =>
    cases a with
    | nil => exact absurd mvv.lo (by simp)
    | @cons v0 w vs ds d0 ar =>
      refine ⟨p, v0, vs, w, rfl, e, d0, fun kind => ?_⟩
      unfold isK
      rw [List.getD_eq_getElem?_getD, h]
      rfl
theorem SitesAt.dall {G : Hp} : ∀ {xs : List V} {ss : List (Row × Nat)}, SitesAt G xs ss → DAll G xs (ss.map siteD)
  | [], [], _ => .nil
  | [], s :: ss, h => absurd h.1 (by simp)
  | x :: xs, [], h => absurd h.1 (by simp)
  | x :: xs, s :: ss, h => by
    obtain ⟨s', T, h1, rfl, h3⟩ := h.2 0 x rfl
    cases h1
    exact .cons (.tup h3 (.cons (.str _) (.cons (.int _) .nil))) (SitesAt.dall ⟨by simpa using h.1, fun i v e => h.2 (i + 1) v e⟩)
theorem rl_of {W : Nat} {ds : List PyData} (all : ∀ d ∈ ds, pl 4 d ∧ gp d W ∧ sm d = true) (l : ds.length * (W + 1) ≤ 2 ^ 20) : Rl ds := by
  have a1 := pl_tup fun d hd => (all d hd).1
  have a2 := gp_all fun d hd => (all d hd).2.1
  exact ⟨a1.1, smAll_mem.mpr fun d hd => (all d hd).2.2, a2.1, by omega, a2.2.1, Nat.le_trans a2.2.2 l⟩
theorem rlF_of {W : Nat} {d : PyData} (p : pl 50 d) (g : gp d W) (s : sm d = true) (l : W ≤ 2 ^ 20) : RlF d :=
  ⟨g.sh, Nat.le_trans p.2 (by decide), PyData.shown_fits (B := 13) (by decide) (by decide) (PyData.leavesShort_of_canLay0 13 _ (plain_lay _ p.1 s) g.ih) (Nat.le_trans g.wt l)⟩
def toldD (tot : Int) (ns gs : List Int) (rs : List Row) : List PyData := [.int tot, .tuple (ns.map PyData.int), .tuple (gs.map PyData.int), .tuple ((rs.map (·.1)).map PyData.str), .tuple (sitesD "call" rs), .tuple (sitesD "post" rs)]
theorem site_ok {r : Row} {i : Nat} (hs : sm (.str r.1) = true) (hi : i < 100) : pl 1 (.tuple [.str r.1, .int (i : Nat)]) ∧ gp (.tuple [.str r.1, .int (i : Nat)]) 2282 ∧ sm (.tuple [.str r.1, .int (i : Nat)]) = true := by
  refine ⟨pl_tuple fun d hd => ?_, gp_tuple' (W := 1140) (n := 2) (fun d hd => ?_) (by simp) (by decide), sm_tup.mpr ⟨by simp, fun d hd => ?_⟩⟩
  · simp at hd
    rcases hd with rfl | rfl
    · exact pl_str _
    · exact ⟨rfl, by simp [PyData.depth]⟩
  · simp at hd
    rcases hd with rfl | rfl
    · exact gp_sm hs
    · exact (gp_int (by omega) (by omega)).mono (by omega)
  · simp at hd
    rcases hd with rfl | rfl
    · exact hs
    · rfl
theorem ints_ok {ns : List Int} (l : ns.length ≤ 5) (h : ∀ k ∈ ns, 0 ≤ k ∧ k < 100) : pl 4 (.tuple (ns.map PyData.int)) ∧ gp (.tuple (ns.map PyData.int)) 45 ∧ sm (.tuple (ns.map PyData.int)) = true := by
  refine ⟨(pl_tuple (k := 0) fun d hd => ?_).mono (by omega), gp_tuple' (W := 8) (n := 5) (fun d hd => ?_) (by rw [List.length_map]; exact l) (by decide), sm_tup.mpr ⟨by rw [List.length_map]; omega, fun d hd => ?_⟩⟩
  · obtain ⟨k, hk, rfl⟩ := List.mem_map.mp hd
    exact ⟨rfl, by simp [PyData.depth]⟩
  · obtain ⟨k, hk, rfl⟩ := List.mem_map.mp hd
    exact gp_int (h k hk).1 (h k hk).2
  · obtain ⟨k, hk, rfl⟩ := List.mem_map.mp hd
    rfl
theorem sites_ok {tot : Int} {ns gs : List Int} {rs : List Row} (pl' : Plain tot ns gs rs) (gr : ∀ r ∈ rs, GoodRow r) (kind : Str) : pl 4 (.tuple (sitesD kind rs)) ∧ gp (.tuple (sitesD kind rs)) 40000 ∧ sm (.tuple (sitesD kind rs)) = true := by
  have each : ∀ d ∈ sitesD kind rs, pl 1 d ∧ gp d 2282 ∧ sm d = true := fun d hd => by
    rw [← sites_kind] at hd
    obtain ⟨s, hs, rfl⟩ := List.mem_map.mp hd
    obtain ⟨h1, h2⟩ := sitesAll_mem (List.mem_filter.mp hs).1
    exact site_ok (gr _ h1).sz (by have := (pl'.ok _ h1).hi; omega)
  have len : (sitesD kind rs).length ≤ 15 := by
    have := sitesD_len (kind := kind) (N := 5) (rs := rs) fun r hr => (pl'.ok r hr).hi
    have := pl'.r3
    omega
  exact ⟨(pl_tuple fun d hd => (each d hd).1).mono (by omega), gp_tuple' (W := 2282) (n := 15) (fun d hd => (each d hd).2.1) len (by decide), sm_tup.mpr ⟨by omega, fun d hd => (each d hd).2.2⟩⟩
theorem told_rl {tot : Int} {ns gs : List Int} {rs : List Row} (pl' : Plain tot ns gs rs) (gr : ∀ r ∈ rs, GoodRow r) : Rl (toldD tot ns gs rs) := by
  refine rl_of (W := 40000) (fun d hd => ?_) (by unfold toldD; simp)
  have t1 := pl'.t1
  have t3 := pl'.t3
  unfold toldD at hd
  simp only [List.mem_cons, List.not_mem_nil, or_false] at hd
  rcases hd with rfl | rfl | rfl | rfl | rfl | rfl
  · exact ⟨⟨rfl, by simp [PyData.depth]⟩, (gp_int (by omega) (by omega)).mono (by omega), rfl⟩
  · have := ints_ok pl'.s5 fun k hk => ⟨(pl'.sn k hk).1, by have := (pl'.sn k hk).2; omega⟩
    exact ⟨this.1, this.2.1.mono (by omega), this.2.2⟩
  · have := ints_ok (ns := gs) (by have := pl'.gl; have := pl'.r3; omega) fun k hk => ⟨(pl'.g2 k hk).1, by have := (pl'.g2 k hk).2; omega⟩
    exact ⟨this.1, this.2.1.mono (by omega), this.2.2⟩
  · refine ⟨(pl_tuple (k := 0) fun d hd => ?_).mono (by omega), gp_tuple' (W := 1140) (n := 3) (fun d hd => ?_) (by rw [List.length_map, List.length_map]; exact pl'.r3) (by decide), sm_tup.mpr ⟨by rw [List.length_map, List.length_map]; have := pl'.r3; omega, fun d hd => ?_⟩⟩
    · obtain ⟨k, hk, rfl⟩ := List.mem_map.mp hd
      exact pl_str _
    · obtain ⟨k, hk, rfl⟩ := List.mem_map.mp hd
      obtain ⟨r, hr, rfl⟩ := List.mem_map.mp hk
      exact gp_sm (gr r hr).sz
    · obtain ⟨k, hk, rfl⟩ := List.mem_map.mp hd
      obtain ⟨r, hr, rfl⟩ := List.mem_map.mp hk
      exact (gr r hr).sz
  · exact sites_ok pl' gr "call"
  · exact sites_ok pl' gr "post"
theorem findR_self {rs : List Row} (nd : (rs.map (·.1)).Nodup) {r : Row} (h : r ∈ rs) : findR rs r.1 = some r := by
  obtain ⟨r', e⟩ := find_mem (List.mem_map.mpr ⟨r, h, rfl⟩)
  obtain ⟨m, e2⟩ := findR_some e
  rw [e, nodup_row nd m h e2]
theorem siteOf_at {rs : List Row} (nd : (rs.map (·.1)).Nodup) {s : Row × Nat} (h : s.1 ∈ rs) (l : s.2 < s.1.2.2.length) : siteOf rs (siteD s) = s.1.2.2[s.2]? := by
  show (findR rs s.1.1).bind _ = _
  rw [findR_self nd h]
  show (if 0 ≤ ((s.2 : Nat) : Int) ∧ ((s.2 : Nat) : Int) < s.1.2.2.length then s.1.2.2[((s.2 : Nat) : Int).toNat]? else none) = _
  rw [if_pos ⟨by omega, by omega⟩]
  rfl
theorem siteOf_late {rs : List Row} (nd : (rs.map (·.1)).Nodup) {r : Row} (h : r ∈ rs) : siteOf rs (.tuple [.str r.1, .int ((r.2.2.length : Nat) : Int)]) = none := by
  show (findR rs r.1).bind _ = _
  rw [findR_self nd h]
  show (if 0 ≤ ((r.2.2.length : Nat) : Int) ∧ ((r.2.2.length : Nat) : Int) < r.2.2.length then _ else none) = _
  rw [if_neg (by omega)]
theorem eqv_self {d : PyData} (h : d.plain = true) : PyData.eqv d d = true := by
  have := PySem.SeqAt.eqvAll_refl_plain [d] (by simp [PyData.plainAll, h])
  simpa [PyData.eqvAll] using this
theorem plate {z : Str} {n : Nat} (h : pl 1 (.tuple [.str z, .int (n : Nat)]) ∧ gp (.tuple [.str z, .int (n : Nat)]) 2282 ∧ sm (.tuple [.str z, .int (n : Nat)]) = true) : (PyData.tuple [.str "site", .tuple [.str z, .int (n : Nat)]]).plain = true ∧ (PyData.tuple [.str "site", .tuple [.str z, .int (n : Nat)]]).depth ≤ 60 ∧ sm (.tuple [.str "site", .tuple [.str z, .int (n : Nat)]]) = true := by
  have := pl_tuple (k := 1) (ds := [.str "site", .tuple [.str z, .int (n : Nat)]]) fun d hd => by
    simp at hd
    rcases hd with rfl | rfl
    · exact (pl_str _).mono (by omega)
    · exact h.1
  refine ⟨this.1, Nat.le_trans this.2 (by decide), sm_tup.mpr ⟨by simp, fun d hd => ?_⟩⟩
  simp at hd
  rcases hd with rfl | rfl
  · exact (by decide +kernel : sm (.str "site") = true)
  · exact h.2.2
theorem rep_one {α : Type} (x : α) : ∀ n : Nat, (List.replicate n [x]).flatten = List.replicate n x
  | 0 => rfl
  | n + 1 => by
    rw [List.replicate_succ, List.flatten_cons, rep_one x n, List.replicate_succ]
    rfl
theorem trues_all {H : Hp} : ∀ n : Nat, DAll H (List.replicate n (V.bl true)) (List.replicate n (PyData.bool true))
  | 0 => .nil
  | n + 1 => by
    rw [List.replicate_succ, List.replicate_succ]
    exact .cons (.bl true) (trues_all n)
theorem trues_ok (n : Nat) : pl 1 (.list (List.replicate n (PyData.bool true))) := pl_list fun d hd => by
  rw [(List.mem_replicate.mp hd).2]
  exact ⟨rfl, by simp [PyData.depth]⟩
theorem rows_ok {rs : List Row} (l : rs.length ≤ 60) (gr : ∀ r ∈ rs, GoodRow r) : pl 5 (.list (rs.map fun r => PyData.tuple r.2.2)) ∧ sm (.list (rs.map fun r => PyData.tuple r.2.2)) = true := by
  refine ⟨pl_list fun d hd => ?_, ?_⟩
  · obtain ⟨r, hr, rfl⟩ := List.mem_map.mp hd
    exact pl_moves (gr r hr).g.moves
  · simp only [Dt.sm, Bool.and_eq_true, decide_eq_true_iff, smAll_mem]
    refine ⟨by rw [List.length_map]; exact l, fun d hd => ?_⟩
    obtain ⟨r, hr, rfl⟩ := List.mem_map.mp hd
    exact (gr r hr).ms
section
variable {P : Program} {w : World} {K : PySem.W.Frag} {mg : Str → Option Value} {base : Heap} {C Ce fI fO pO fE fL fS p1 g1 p2 g2 p3 g3 : Addr} {mc : Value}{Cg Cn Cs fIg fOg pOg fEg fLg fSg fGg fCg fMg fHg pg1 gg1 pg2 gg2 pg3 gg3 pg4 gg4 pg5 gg5 pg6 gg6 pg7 gg7 : Addr} {mcg : Value}
end
end My

namespace My
open PySem PySem.Spec PyProof.Rows L2 Sh Dt
open LamX (Tabs ExtN)
open Xc (ExtD)
theorem isNum_mono {n m : Int} (h : n ≤ m) {d : PyData} (e : isNum n d = true) : isNum m d = true := by
  cases d with
  | int i =>
    have e : (decide (0 ≤ i) && decide (i < n)) = true := e
    show (decide (0 ≤ i) && decide (i < m)) = true
    rw [← Bool.decide_and, decide_eq_true_iff] at e ⊢
    omega
  | _ => exact e
theorem isSet_mono {n m : Int} (h : n ≤ m) {d : PyData} (e : isSet n d = true) : isSet m d = true := by
  cases d with
  | tuple ds =>
    simp only [isSet, Bool.and_eq_true] at e ⊢
    exact ⟨⟨e.1.1, List.all_eq_true.mpr fun x hx => isNum_mono h (List.all_eq_true.mp e.1.2 x hx)⟩, e.2⟩
  | _ => exact e
theorem isPair_mono {n m : Int} (h : n ≤ m) {d : PyData} (e : isPair n d = true) : isPair m d = true := by
  match d, e with
  | .tuple [a, b], e =>
    simp only [isPair, Bool.and_eq_true] at e ⊢
    exact ⟨isNum_mono h e.1, isNum_mono h e.2⟩
theorem isPairs_mono {n m : Int} (h : n ≤ m) {d : PyData} (e : isPairs n d = true) : isPairs m d = true := by
  cases d with
  | tuple ds =>
    simp only [isPairs, Bool.and_eq_true] at e ⊢
    exact ⟨⟨e.1.1, List.all_eq_true.mpr fun x hx => isPair_mono h (List.all_eq_true.mp e.1.2 x hx)⟩, e.2⟩
  | _ => exact e
theorem isMove_mono {p n m : Int} (h : n ≤ m) {d : PyData} (e : isMove p n d = true) : isMove p m d = true := by
  match d, e with
  | .tuple (w :: a :: x :: r), e =>
    simp only [isMove, Bool.and_eq_true] at e ⊢
    refine ⟨e.1, ?_⟩
    have e := e.2
    by_cases c1 : PyData.eqv w (.str "leave") = true
    · rw [if_pos c1, Bool.and_eq_true] at e ⊢
      exact ⟨e.1, isSet_mono h e.2⟩
    · rw [if_neg c1, Bool.and_eq_true] at e ⊢
      refine ⟨e.1, ?_⟩
      have e := e.2
      by_cases c2 : PyData.eqv w (.str "go") = true
      · rw [if_pos c2] at e ⊢
        match r, e with
        | [y], e => exact isPairs_mono h e
      · rw [if_neg c2, Bool.and_eq_true] at e ⊢
        refine ⟨e.1, ?_⟩
        have e := e.2
        match r, e with
        | [y, z], e =>
          simp only [Bool.and_eq_true] at e ⊢
          exact ⟨e.1, isSet_mono h e.2⟩
theorem good_row {tot : Int} {zs : List Str} {r : Row} (ok : RowOk tot zs r) (t : tot ≤ 5) (s : sm (.tuple r.2.2) = true) : GoodRow r := by
  refine ⟨⟨ok.nm.1, ok.p1, by have := ok.p3; omega, ?_⟩, ok.nm.2, s, ?_⟩
  · unfold areMoves
    rw [decide_eq_true (by have := ok.hi; omega), Bool.true_and]
    exact List.all_eq_true.mpr fun m hm => by
      obtain ⟨ds, rfl, mv⟩ := ok.mv m hm
      exact isMove_mono t mv.ok
  · exact nlAll_mem.mpr fun m hm => by
      obtain ⟨ds, rfl, mv⟩ := ok.mv m hm
      exact mv.nol
theorem goodG_plain {tot : Int} {ns gs : List Int} {rs : List Row} (pl' : Plain tot ns gs rs) (gr : ∀ r ∈ rs, GoodRow r) : goodG (.int tot) (.tuple (ns.map PyData.int)) (.tuple (gs.map PyData.int)) (rs.map some) = true := by
  have l3 := pl'.r3
  have l1 := List.length_pos_iff.mpr pl'.r0
  rw [goodG_parts _ _ _ _ (GoodRow.rows (by omega) gr)]
  simp only [Bool.and_eq_true, decide_eq_true_iff]
  refine ⟨⟨⟨⟨⟨⟨⟨pl'.t1, by have := pl'.t3; omega⟩, set_ok pl'.s0 pl'.sa pl'.sn⟩, l1⟩, by omega⟩, pl'.nd⟩, ?_⟩, ?_⟩
  · show (decide ((gs.map PyData.int).length = rs.length) && (gs.map PyData.int).all (isGe 0)) = true
    rw [Bool.and_eq_true, decide_eq_true_iff, List.length_map]
    refine ⟨pl'.gl, List.all_eq_true.mpr fun d hd => ?_⟩
    obtain ⟨k, hk, rfl⟩ := List.mem_map.mp hd
    exact decide_eq_true (pl'.g2 k hk).1
  · exact List.all_eq_true.mpr fun r hr => List.all_eq_true.mpr fun m hm => by
      obtain ⟨ds, rfl, mv⟩ := (pl'.ok r hr).mv m hm
      rw [mv.ok, mv.nm]
      rfl
theorem band_of {H : Hp} {b : V} {r : Row} (h : D H b (rowDa r)) : BandD H b r := by
  unfold rowDa at h
  cases h with
  | @lst B xs ds e a =>
  match xs, a with
  | [x0, x1, x2], .cons a0 (.cons a1 (.cons a2 .nil)) =>
    cases a0
    cases a1
    cases a2 with
    | @tup t us ds e2 au => exact ⟨B, t, us, rfl, e, e2, au⟩
theorem bands_of {H : Hp} : ∀ {bs : List V} {rs : List Row}, DAll H bs (rs.map rowDa) → BandsD H bs rs
  | [], [], _ => ⟨rfl, fun i b e => by simp at e⟩
  | b :: bs, r :: rs, .cons h a => by
    obtain ⟨l, g⟩ := bands_of a
    refine ⟨by rw [List.length_cons, List.length_cons, l], fun i c e => ?_⟩
    cases i with
    | zero =>
      cases e
      exact ⟨r, rfl, band_of h⟩
    | succ i => exact g i c e
theorem plain_at {d : Addr} {H : Hp} {v : V} {tot : Int} {ns gs : List Int} {rs : List Row} (h : Vd [d] H v (plainD tot ns gs rs)) : ∃ V0, v = .ref V0 ∧ V0 ≠ d ∧ PlainAt (hide [d] H) V0 tot ns gs rs ∧ ∀ r ∈ rs, sm (.tuple r.2.2) = true := by
  obtain ⟨h, s⟩ := h
  unfold plainD at h s
  have sl : ∀ r ∈ rs, sm (.tuple r.2.2) = true := fun r hr => by
    simp only [Dt.sm, Bool.and_eq_true, decide_eq_true_iff, smAll_mem] at s
    have := s.2 (.list (rs.map rowDa)) (by simp)
    simp only [Dt.sm, Bool.and_eq_true, decide_eq_true_iff, smAll_mem] at this
    have := this.2 (rowDa r) (List.mem_map.mpr ⟨r, hr, rfl⟩)
    unfold rowDa at this
    simp only [Dt.sm, Bool.and_eq_true, decide_eq_true_iff, smAll_mem] at this
    have := this.2 (.tuple r.2.2) (by simp)
    simp only [Dt.sm, Bool.and_eq_true, decide_eq_true_iff, smAll_mem]
    simpa only [Dt.sm, Bool.and_eq_true, decide_eq_true_iff, smAll_mem] using this
  cases h with
  | @lst V0 xs ds e a =>
  match xs, a with
  | [x0, x1, x2, x3], .cons a0 (.cons a1 (.cons a2 (.cons a3 .nil))) =>
    cases a0
    cases a3 with
    | @lst R bs ds e3 ab =>
      have n := (hide_in e).1
      exact ⟨V0, rfl, by simpa using n, ⟨x1, x2, R, bs, e, a1, a2, e3, bands_of ab⟩, sl⟩
theorem PlainAt.hid {d : Addr} {H : Hp} {V0 : Addr} {tot : Int} {ns gs : List Int} {rs : List Row} (h : PlainAt (hide [d] H) V0 tot ns gs rs) : PlainAt H V0 tot ns gs rs := h.same hide_sub
theorem allB_of {d : Addr} {H : Hp} {bs : List V} {rs : List Row} (h : BandsD (hide [d] H) bs rs) (gr : ∀ r ∈ rs, GoodRow r) : AllB [d] H bs := fun b hb => by
  obtain ⟨i, hi⟩ := List.getElem?_of_mem hb
  obtain ⟨r, hr, B, t, xs, rfl, e1, e2, e3⟩ := h.2 i b hi
  have g := gr r (List.mem_of_getElem? hr)
  obtain ⟨n1, h1⟩ := hide_in e1
  exact ⟨r, ⟨B, t, rfl, n1, h1, ⟨.tup e2 e3, g.ms⟩⟩, g⟩
theorem allB_bandsD {S : List Addr} {H : Hp} {bs : List V} {rs : List Row} (h : Bands S H bs rs) : BandsD H bs rs := by
  induction h with
  | nil => exact ⟨rfl, fun i b e => by simp at e⟩
  | @cons b r bs rs h _ ih =>
    refine ⟨by rw [List.length_cons, List.length_cons, ih.1], fun i c e => ?_⟩
    cases i with
    | zero =>
      cases e
      obtain ⟨B, t, rfl, n, e1, v⟩ := h
      have dv := v.d
      cases dv with
      | @tup t us ds e2 au => exact ⟨r, rfl, B, t, us, rfl, e1, e2, au⟩
    | succ i => exact ih.2 i c e
theorem nl_ints' (ns : List Int) : nl (.tuple (ns.map PyData.int)) = true := nl_ints ns
theorem pg_hide {C Cg d a : Addr} {H : Hp} {n : Int} {ns gs : List Int} {rs : List Row} (hd : DieAt H d) (gr : ∀ r ∈ rs, GoodRow r) (h : Pg C Cg H a n (.tuple (ns.map PyData.int)) (.tuple (gs.map PyData.int)) rs) : Pg C Cg (hide [d] H) a n (.tuple (ns.map PyData.int)) (.tuple (gs.map PyData.int)) rs := by
  obtain ⟨x, y, z, hM⟩ := hd
  have hd' : DieAt H d := ⟨x, y, z, hM⟩
  have out : ∀ {b : Addr} {o : HO}, H b = some o → (∀ ys, o ≠ .lst ys) → hide [d] H b = some o := fun {b o} e n => hide_some (by
    simp only [List.mem_singleton]
    exact hd'.ne e fun _ _ _ => n _) e
  have dn : ∀ {v : V} {e : PyData}, D H v e → nl e = true → D (hide [d] H) v e := fun h n => nl_hide hM (h.same fun b o e => hide_some (by simp) e) n
  obtain ⟨dx, sv, bv, t, xs, u, l, m, h1, h2, h3, h4, h5, ⟨o, od, h6⟩, g⟩ := h
  refine ⟨dx, sv, bv, t, xs, u, l, m, out h1 (fun _ z => by cases z), dn h2 (nl_ints ns), dn h3 (nl_ints gs), out h4 (fun _ z => by cases z), ?_, ⟨o, od, out h6 (fun _ z => by cases z)⟩, g⟩
  clear h4 h6 g
  induction h5 with
  | nil => exact .nil
  | @cons b r vs rs p _ ih =>
    obtain ⟨dy, tb, us, p1, p2, p3, pg⟩ := p
    exact .cons ⟨dy, tb, us, out p1 (fun _ z => by cases z), out p2 (fun _ z => by cases z), nl_hideAll hM (p3.same fun b o e => hide_some (by simp) e) (gr r (by simp)).nl, pg⟩ (ih fun q hq => gr q (by simp [hq]))
theorem hide_extd {d : Addr} {H H' : Hp} (h : ExtD d H H') : ExtN (hide [d] H) (hide [d] H') := fun b o e n => by
  obtain ⟨m, e⟩ := hide_in e
  exact hide_some m (h b o (fun z => m (by simp [z])) e n)
theorem Vd_extn {S S' : List Addr} {H H' : Hp} {v : V} {e : PyData} (h : Vd S H v e) (s : ExtN (hide S H) (hide S' H')) : Vd S' H' v e := ⟨D.extn s h.1, h.2⟩
theorem die_extn {d : Addr} {H H' : Hp} (h : DieAt H d) (s : ExtN H H') : DieAt H' d := by
  obtain ⟨x, y, z, e⟩ := h
  exact ⟨x, y, z, s _ _ e fun _ z => by cases z⟩
end My

namespace My
open PySem PySem.Spec PyProof.Rows L2 Sh Dt
abbrev s_as_go : Stmt := topS 24
abbrev Nas_go : List Str := ["post", "mode"]
theorem sc_as_go : FnScope Nas_go ["post"] (defScope s_as_go) := ⟨rfl, rfl, rfl, by decide +kernel, rfl, by decide +kernel, by decide +kernel⟩
/-- a post as a go that keeps its modes -/
def goD (x y : PyData) (ns : List Int) : PyData := .tuple [.str "go", x, y, .tuple (ns.map fun n => .tuple [.int n, .int n])]
def spAsGo : Sp := fun vs H Q _ => ∃ p w x y z ns, vs = [.ref p] ∧ D H (.ref p) (.tuple [w, x, y, z, .tuple (ns.map PyData.int)]) ∧ ns.length ≤ 60 ∧ ∀ v H', Same H H' → D H' v (goD x y ns) → Q v H'
theorem pairs_all {G : Hp} : ∀ {ns : List Int} {ys : List V}, ys.length = ns.length → (∀ (j : Nat) v, ys[j]? = some v → ∃ n T, ns[j]? = some n ∧ v = .ref T ∧ G T = some (.tup [.int n, .int n])) → DAll G ys (ns.map fun n => PyData.tuple [.int n, .int n])
  | [], [], _, _ => .nil
  | [], y :: ys, l, _ => absurd l (by simp)
  | n :: ns, [], l, _ => absurd l (by simp)
  | n :: ns, y :: ys, l, h => by
    obtain ⟨n', T, h1, rfl, h3⟩ := h 0 y rfl
    cases h1
    exact .cons (.tup h3 (.cons (.int _) (.cons (.int _) .nil))) (pairs_all (by simpa using l) fun j v hv => h (j + 1) v hv)
section
variable {P : Program} {w : World} {K : PySem.W.Frag} {mg : Str → Option Value} {base : Heap}
theorem ok_as_go {f : Addr} {fd : FuncData} (F : Fun K "as_go" "as_go" s_as_go f fd) (m_tuple : mg "tuple" = none) : FnOk P w K mg base CX0 1 f fd ["post"] spAsGo := by
  refine F.ok sc_as_go (fun vs H Q E h => ?_) (fun cdv A outer s H vs Q E hr h => ?_)
  · obtain ⟨p, w0, x, y, z, ns, rfl, _⟩ := h
    rfl
  · obtain ⟨p, w0, x, y, z, ns, rfl, hd, l60, q⟩ := h
    refine ⟨_, (pss_one (ps_ret (pe_tup (pa_cons pe_str (pa_cons (pe_ix ix_tup (pv 0) pe_int (fun _ _ => rfl)) (pa_cons (pe_ix ix_tup (pv 0) pe_int (fun _ _ => rfl)) (pa_cons (pe_callTy call_tuple_of (by rfl) m_tuple (by decide +kernel) (pa_cons (pe_lc (own := [("mode", 1)]) (g := (gName 1)) (tt := tYes) rfl sc_as_go.nd (pi_tup (pe_ix ix_tup (pv 0) pe_int (fun _ _ => rfl))) (blkOk_by (N := Nas_go) (sc := defScope s_as_go) (by decide +kernel))
      (fun _ _ _ _ _ => (pg_name (i := 1) sc_as_go.nd rfl (Or.inl rfl))) (fun _ _ _ _ _ => pts_nil) (fun _ _ _ _ _ => (pe_tup (pa_cons (pv 1) (pa_cons (pv 1) pa_nil))))) pa_nil)) pa_nil))))))), ?_⟩
    cases hd with
    | @tup p xs ds e a =>
    match xs, a with
    | [v0, v1, v2, v3, v4], .cons a0 (.cons a1 (.cons a2 (.cons a3 (.cons a4 .nil)))) =>
      cases a4 with
      | @tup t us ds e4 au =>
      have eu := vals_ints au
      subst eu
      refine ⟨_, rfl, p, _, 1, v1, rfl, rfl, .inl (.inl e), rfl, _, rfl, p, _, 2, v2, rfl, rfl, .inl (.inl e), rfl, _, rfl, p, _, 4, .ref t, rfl, rfl, .inl (.inl e), rfl, t, rfl, ⟨_, .inl (.inl e4)⟩, fun D0 nD => ?_⟩
      refine lc_tup (xs := ns.map V.int) (fun i G => Same H G ∧ ∃ ys, G D0 = some (.lst ys) ∧ ys.length = i ∧ ∀ (j : Nat) v, ys[j]? = some v → ∃ n T, ns[j]? = some n ∧ v = .ref T ∧ G T = some (.tup [.int n, .int n])) ⟨same_new (Same.refl H) nD, [], upd_same, rfl, fun j v hv => by simp at hv⟩ (fun i G _ hq => .inl (.inl (hq.1 _ _ e4))) (fun i x G hx hq => ?_) (fun G hq => ?_)
      · obtain ⟨s1, ys, l1, ly, hy⟩ := hq
        rw [List.getElem?_map] at hx
        cases ez : ns[i]? with
        | none =>
          rw [ez] at hx
          cases hx
        | some n =>
        rw [ez] at hx
        cases hx
        have hi := (List.getElem?_eq_some_iff.mp ez).1
        refine ⟨rfl, _, rfl, _, rfl, len_ok, fun T nT => ⟨_, upd_keep l1 nT, small1000 (by omega), same_put (same_new s1 nT) nD, ys ++ [.ref T], upd_same, by rw [List.length_append, ly]; rfl, fun j v hv => ?_⟩⟩
        have TD : T ≠ D0 := fun z => by
          rw [z, l1] at nT
          cases nT
        by_cases hj : j < ys.length
        · rw [List.getElem?_append_left hj] at hv
          obtain ⟨n', T', h1, h2, h3⟩ := hy j v hv
          exact ⟨n', T', h1, h2, (upd_ne (fun z => by rw [z, l1] at h3; cases h3)).trans (upd_keep h3 nT)⟩
        · have ej : j = ys.length := by
            have := (List.getElem?_eq_some_iff.mp hv).1
            rw [List.length_append] at this
            simp at this
            omega
          subst ej
          rw [List.getElem?_append_right (Nat.le_refl _)] at hv
          simp at hv
          subst hv
          exact ⟨n, T, by rw [ly]; exact ez, rfl, (upd_ne TD).trans upd_same⟩
      · obtain ⟨s1, ys, l1, ly, hy⟩ := hq
        rw [List.length_map] at ly
        refine ⟨D0, ys, rfl, .inl ⟨.inl (.inl l1), fun p1 n1 => ⟨len_ok, fun p2 n2 => ?_⟩⟩⟩
        have s2 := same_new (same_new s1 n1 (o := .tup ys)) n2 (o := .tup [.str "go", v1, v2, .ref p1])
        have sG := same_new (same_new (Same.refl G) n1 (o := .tup ys)) n2 (o := .tup [.str "go", v1, v2, .ref p1])
        refine q _ _ s2 (.tup upd_same (.cons (.str _) (.cons (a1.same s2) (.cons (a2.same s2) (.cons (.tup (upd_keep upd_same n2) ((pairs_all ly hy).same sG)) .nil)))))
end
end My

/-! x in a tuple of data, x and the items without dicts -/
namespace Dt
open PySem PySem.Spec PyProof.Rows L2 Sh PySem.SeqAt
section
variable {X : Cx}
def rInD (neg : Bool) : R2 := fun x y H Q => ∃ d p xs ds, D H x d ∧ y = .ref p ∧ H p = some (.tup xs) ∧ DAll H xs ds ∧ d.plain = true ∧ PyData.plainAll ds = true ∧ d.depth ≤ 60 ∧ Q (.bl (if neg then !ds.any (fun e => PyData.eqv e d) else ds.any fun e => PyData.eqv e d)) H
theorem any_reads {h : Heap} {vs : Array Value} {ds : List PyData} {d : PyData} {as : List Addr} (rs : ReadsAll h vs.toList ds as) (hxs : PyData.plainAll ds = true) : vs.any (fun y => PyData.eqv (readOf h y) d) = ds.any fun e => PyData.eqv e d := by
  rw [← readsAll_map_plain ds _ _ hxs rs, List.any_map]
  simp [Function.comp_def]
theorem op_inD (hu : X.A.units + 64 < cLine) : OpR X (compareOp .In) (rInD false) := by
  intro pins s σ H x y v u Q I rx ry h
  obtain ⟨d, p, xs, ds, hd, rfl, hp, hds, pd, pds, dd, q⟩ := h
  cases ry
  obtain ⟨its, r, pl, hz⟩ := I.tuple (.inl (.inl hp))
  obtain ⟨as, rd⟩ := D.reads I.hok hd rx
  obtain ⟨bs, rds⟩ := DAll.reads I.hok hds r
  have rds' : ReadsAll s.heap its.toArray.toList ds bs := by simpa using rds
  refine SeqAt.in_tupleAt (fun y => PyData.eqv (readOf s.heap y) d) pl (items_plain rds' rd pds pd (by have := Nat.min_le_right (PyData.depthAll ds) d.depth; omega)) ⟨.bl _, H, I, rfl, ?_⟩
  rw [any_reads rds' pds]
  exact q
theorem op_ninD (hu : X.A.units + 64 < cLine) : OpR X (compareOp .NotIn) (rInD true) := by
  intro pins s σ H x y v u Q I rx ry h
  obtain ⟨d, p, xs, ds, hd, rfl, hp, hds, pd, pds, dd, q⟩ := h
  cases ry
  obtain ⟨its, r, pl, hz⟩ := I.tuple (.inl (.inl hp))
  obtain ⟨as, rd⟩ := D.reads I.hok hd rx
  obtain ⟨bs, rds⟩ := DAll.reads I.hok hds r
  have rds' : ReadsAll s.heap its.toArray.toList ds bs := by simpa using rds
  refine SeqAt.notIn_tupleAt (fun y => PyData.eqv (readOf s.heap y) d) pl (items_plain rds' rd pds pd (by have := Nat.min_le_right (PyData.depthAll ds) d.depth; omega)) ⟨.bl _, H, I, rfl, ?_⟩
  rw [any_reads rds' pds]
  exact q
/-- in a list -/
def rInDL (neg : Bool) : R2 := fun x y H Q => ∃ d p xs ds, D H x d ∧ y = .ref p ∧ H p = some (.lst xs) ∧ DAll H xs ds ∧ d.plain = true ∧ PyData.plainAll ds = true ∧ d.depth ≤ 60 ∧ Q (.bl (if neg then !ds.any (fun e => PyData.eqv e d) else ds.any fun e => PyData.eqv e d)) H
theorem op_inDL (hu : X.A.units + 64 < cLine) : OpR X (compareOp .In) (rInDL false) := by
  intro pins s σ H x y v u Q I rx ry h
  obtain ⟨d, p, xs, ds, hd, rfl, hp, hds, pd, pds, dd, q⟩ := h
  cases ry
  obtain ⟨its, r, pl, hz⟩ := I.list (.inl (.inl hp))
  obtain ⟨as, rd⟩ := D.reads I.hok hd rx
  obtain ⟨bs, rds⟩ := DAll.reads I.hok hds r
  have rds' : ReadsAll s.heap its.toArray.toList ds bs := by simpa using rds
  refine SeqAt.in_listAt (fun y => PyData.eqv (readOf s.heap y) d) pl.isList (items_plain rds' rd pds pd (by have := Nat.min_le_right (PyData.depthAll ds) d.depth; omega)) ⟨.bl _, H, I, rfl, ?_⟩
  rw [any_reads rds' pds]
  exact q
theorem op_ninDL (hu : X.A.units + 64 < cLine) : OpR X (compareOp .NotIn) (rInDL true) := by
  intro pins s σ H x y v u Q I rx ry h
  obtain ⟨d, p, xs, ds, hd, rfl, hp, hds, pd, pds, dd, q⟩ := h
  cases ry
  obtain ⟨its, r, pl, hz⟩ := I.list (.inl (.inl hp))
  obtain ⟨as, rd⟩ := D.reads I.hok hd rx
  obtain ⟨bs, rds⟩ := DAll.reads I.hok hds r
  have rds' : ReadsAll s.heap its.toArray.toList ds bs := by simpa using rds
  refine SeqAt.notIn_listAt (fun y => PyData.eqv (readOf s.heap y) d) pl.isList (items_plain rds' rd pds pd (by have := Nat.min_le_right (PyData.depthAll ds) d.depth; omega)) ⟨.bl _, H, I, rfl, ?_⟩
  rw [any_reads rds' pds]
  exact q
/-- in either -/
theorem op_inDS (hu : X.A.units + 64 < cLine) : OpR X (compareOp .In) (fun x y H Q => rInD false x y H Q ∨ rInDL false x y H Q) := OpR.or (op_inD hu) (op_inDL hu)
end
end Dt

namespace My
open PySem PySem.Spec PyProof.Rows L2 Sh Dt
abbrev s_hushed_procedure : Stmt := topS 36
abbrev Nhushed_procedure : List Str := ["procedure", "sites", "moves", "index", "move"]
theorem sc_hushed_procedure : FnScope Nhushed_procedure ["procedure", "sites"] (defScope s_hushed_procedure) := ⟨rfl, rfl, rfl, by decide +kernel, rfl, by decide +kernel, by decide +kernel⟩
/-- whether the site is told -/
def hit (z : Str) (ds : List PyData) (i : Nat) : Bool := ds.any fun e => PyData.eqv e (.tuple [.str z, .int (i : Nat)])
def intsOf : PyData → List Int
  | .tuple ds => ds.map intOf
  | _ => []
def hushD : PyData → PyData
  | .tuple [_, x, y, _, ms] => goD x y (intsOf ms)
  | m => m
def hushM (z : Str) (ds ms : List PyData) (i : Nat) : PyData := if hit z ds i then hushD (ms.getD i .none) else ms.getD i .none
def hushMs (z : Str) (ds ms : List PyData) : List PyData := (List.range ms.length).map (hushM z ds ms)
/-- a post of a procedure -/
def PostD (m : PyData) : Prop := ∃ (x y : PyData) (zt : Str) (ns : List Int), m = .tuple [.str "post", x, y, .str zt, .tuple (ns.map PyData.int)] ∧ ns.length ≤ 60 ∧ nl x = true ∧ nl y = true
theorem nl_go {x y : PyData} {ns : List Int} (n1 : nl x = true) (n2 : nl y = true) : nl (goD x y ns) = true := by
  have h : nl (.tuple (ns.map fun n => PyData.tuple [.int n, .int n])) = true := by
    simp only [nl]
    exact nlAll_mem.mpr fun d hd => by
      obtain ⟨k, _, rfl⟩ := List.mem_map.mp hd
      rfl
  unfold goD
  simp only [nl, nlAll, Bool.and_eq_true] at h ⊢
  exact ⟨trivial, n1, n2, h, trivial⟩
def spHush (C : Addr) : Sp := fun vs H Q _ => ∃ b sp z p ms xs ds, vs = [.ref b, .ref sp] ∧ Pr C H b z p ms ∧ nlAll ms = true ∧ H sp = some (.tup xs) ∧ DAll H xs ds ∧ PyData.plainAll ds = true ∧ (∀ (i : Nat) m, ms[i]? = some m → hit z ds i = true → PostD m) ∧ GoodRow (z, p, hushMs z ds ms) ∧ ∀ H' a, Same H H' → H a = none → Pr C H' a z p (hushMs z ds ms) → Q (.ref a) H'
section
variable {P : Program} {w : World} {K : PySem.W.Frag} {mg : Str → Option Value} {base : Heap} {C Ce fI fO pO fE fL fS p1 g1 p2 g2 p3 g3 : Addr} {mc : Value}
theorem ok_hushed {f f_as_go : Addr} {fd fd_as_go : FuncData}(F : Fun K "hushed_procedure" "hushed_procedure" s_hushed_procedure f fd) (c : PcdC K mg C fI fO pO fE fL fS p1 g1 p2 g2 p3 g3 mc) (FO : FnR P w K mg base (L2.CX P w) 9 fO (spOf C Ce)) {fdg1 : FuncData} (G_g1 : FnOk P w K mg base CX0 1 g1 fdg1 ["self"] (getSp C "_called")) (b_g1 : Binds K fdg1 ["self"] []) {fdg2 : FuncData} (G_g2 : FnOk P w K mg base CX0 1 g2 fdg2 ["self"] (getSp C "_points")) (b_g2 : Binds K fdg2 ["self"] []) {fdg3 : FuncData} (G_g3 : FnOk P w K mg base CX0 1 g3 fdg3 ["self"] (getSp C "_moves")) (b_g3 : Binds K fdg3 ["self"] [])(G_as_go : FnOk P w K mg base CX0 1 f_as_go fd_as_go ["post"] spAsGo) (F_as_go : Fun K "as_go" "as_go" s_as_go f_as_go fd_as_go) (b_as_go : Binds K fd_as_go ["post"] []) (g_as_go : mg "as_go" = some (.ref f_as_go)) (m_tuple : mg "tuple" = none) (m_enumerate : mg "enumerate" = none) : FnOk P w K mg base CX0 11 f fd ["procedure", "sites"] (spHush C) := by
  refine F.ok sc_hushed_procedure (fun vs H Q E h => ?_) (fun cdv A outer s H vs Q E hr h => ?_)
  · obtain ⟨b, sp, z, p, ms, xs, ds, rfl, _⟩ := h
    rfl
  · obtain ⟨b, sp, z, p, ms, xs, ds, rfl, pr, nlm, hsp, hds, pds, hpost, gr, q⟩ := h
    obtain ⟨dx, t, us, h1, h2, h3, g⟩ := pr
    have l12 := good_len g
    have lu := h3.len
    refine ⟨_, (pss_cons (ps_setLc (i := 2) (own := [("index", 3), ("move", 4)]) (g := (gTup K 2 (gCons (gName 3) (gCons (gName 4) gNil)))) (tt := tYes) rfl sc_hushed_procedure.nd rfl rfl (sw_true rfl rfl rfl (by decide +kernel)) (En.pi_et (by rfl) m_enumerate (pa_cons (pe_prop (pv 0) c.cls c.q3 G_g3 (hr.mono (by decide)) b_g3 .nil (passC0 _) rfl) pa_nil)) (blkOk_by (N := Nhushed_procedure) (sc := defScope s_hushed_procedure) (by decide +kernel))
      (fun _ _ _ _ _ => (pg_tup rfl (pgs_cons (pg_name (i := 3) sc_hushed_procedure.nd rfl (Or.inl rfl)) (pgs_cons (pg_name (i := 4) sc_hushed_procedure.nd rfl (Or.inl rfl)) pgs_nil)))) (fun _ _ _ _ _ => pts_nil) (fun _ _ _ _ _ => (pe_ifExp (pt_cmpR (r := rInD false) (op_inD hr.units) (pe_tup (pa_cons (pe_prop (pv 0) c.cls c.q1 G_g1 (hr.mono (by decide)) b_g1 .nil (passC0 _) rfl) (pa_cons (pv 3) pa_nil))) (pv 1) (by with_unfolding_all rfl)) (pe_call G_as_go (hr.mono (by decide)) (by rfl) g_as_go F_as_go.kp b_as_go .nil pass0 (pa_cons (pv 4) pa_nil)) (pv 4))))
      (pss_one (ps_ret (ClX.pe_cmeth (pe_glob (v := .ref C) rfl c.gP rfl) c.cr c.cm FO (hr.mono (by decide)) Cl.passF (pa_cons (pe_prop (pv 0) c.cls c.q1 G_g1 (hr.mono (by decide)) b_g1 .nil (passC0 _) rfl) (pa_cons (pe_prop (pv 0) c.cls c.q2 G_g2 (hr.mono (by decide)) b_g2 .nil (passC0 _) rfl) (pa_cons (pe_callTy call_tuple_of (by rfl) m_tuple (by decide +kernel) (pa_cons (pv 2) pa_nil)) pa_nil))))))), ?_⟩
    refine ⟨_, rfl, b, dx, _, rfl, h1, b, dx, _, _, rfl, h1, rfl, t, us, rfl, .inl (.inl h2), fun D0 nD => ?_⟩
    refine lc_it (En.walk_et (xs := us)) (fun i G => Same H G ∧ ∃ ys, G D0 = some (.lst ys) ∧ DAll (hide [D0] G) ys ((List.range i).map (hushM z ds ms))) ⟨same_new (Same.refl H) nD, [], upd_same, .nil⟩ (fun i G _ hq => .inl (.inl (hq.1 _ _ h2))) (fun i x G G' hi hq hy => ?_) (fun G hq => ?_)
    · obtain ⟨s1, ys, l1, hd⟩ := hq
      obtain ⟨T, x1, x2, rfl, nT, rfl, e1, hx2⟩ := hy
      cases e1
      obtain ⟨m, hm, hxm⟩ := h3.get hx2
      have sT := same_new (Same.refl G) nT (o := .tup [.int (i : Nat), x2])
      have s2 := s1.trans sT
      have hi2 : i < us.length := hi
      have ly := hd.len
      rw [List.length_map, List.length_range] at ly
      have hTT : upd G T (.tup [.int (i : Nat), x2]) T = some (.tup [.int (i : Nat), x2]) := upd_same
      have l2 := upd_keep (o := .tup [.int (i : Nat), x2]) l1 nT
      have hd2 := hd.same (hide_same (S := [D0]) sT)
      generalize upd G T (.tup [.int (i : Nat), x2]) = G2 at s2 hTT l2 hd2 sT
      have fin : ∀ {G' : Hp} {v : V}, Same G2 G' → D G' v (hushM z ds ms i) → nl (hushM z ds ms i) = true → ∃ acc, G' D0 = some (.lst acc) ∧ acc.length < sizeLine ∧ (Same H (upd G' D0 (.lst (acc ++ [v]))) ∧ ∃ ys, upd G' D0 (.lst (acc ++ [v])) D0 = some (.lst ys) ∧ DAll (hide [D0] (upd G' D0 (.lst (acc ++ [v])))) ys ((List.range (i + 1)).map (hushM z ds ms))) := fun {G' v} s' dv nv => by
        have l3 := s' _ _ l2
        refine ⟨ys, l3, small1000 (by omega), same_put (s2.trans s') nD, ys ++ [v], upd_same, ?_⟩
        rw [List.range_succ, List.map_append]
        have dv2 : D (hide [D0] G') v (hushM z ds ms i) := nl_hide l3 (dv.same fun b o e => hide_some (by simp) e) nv
        exact DAll.app (.cons (dv2.same hide_upd) .nil) ((hd2.same (hide_same s')).same hide_upd)
      have A1 := s2 _ _ h1
      refine ⟨T, _, rfl, .inl (.inl hTT), rfl, _, _, rfl, _, _, rfl, rfl, rfl, _, rfl, b, dx, _, rfl, A1, b, dx, _, _, rfl, A1, rfl, _, rfl, len_ok, fun S nS => ⟨_, rfl, ?_⟩⟩
      have sS := same_new (Same.refl G2) nS (o := .tup [.str z, .int (i : Nat)])
      refine ⟨.tuple [.str z, .int (i : Nat)], sp, xs, ds, .tup upd_same (.cons (.str _) (.cons (.int _) .nil)), rfl, sS _ _ (s2 _ _ hsp), hds.same (s2.trans sS), rfl, pds, by simp [PyData.depth, PyData.depthAll], ?_⟩
      have em : ms.getD i .none = m := by rw [List.getD_eq_getElem?_getD, hm]; rfl
      have nm := nlAll_mem.mp nlm m (List.mem_of_getElem? hm)
      have eh : hushM z ds ms i = if hit z ds i then hushD m else m := by
        unfold hushM
        rw [em]
      have hxm2 := hxm.same (s2.trans sS)
      cases eb : hit z ds i with
      | true =>
        have eb' : (ds.any fun e => PyData.eqv e (.tuple [.str z, .int (i : Nat)])) = true := eb
        obtain ⟨x, y, zt, ns, rfl, ln, n1, n2⟩ := hpost i m hm eb
        rw [if_neg (by decide), eb']
        have e2 : hushM z ds ms i = goD x y ns := by
          rw [eh, eb]
          show goD x y ((ns.map PyData.int).map intOf) = goD x y ns
          rw [List.map_map, show intOf ∘ PyData.int = id from rfl, List.map_id]
        cases hxm2 with
        | @tup p2 vs _ ep av =>
        refine ⟨_, rfl, iteT ⟨_, rfl, p2, .str "post", x, y, .str zt, ns, rfl, .tup ep av, ln, fun v H' s' dv => ?_⟩⟩
        rw [← e2] at dv
        exact fin (sS.trans s') dv (by rw [e2]; exact nl_go n1 n2)
      | false =>
        have eb' : (ds.any fun e => PyData.eqv e (.tuple [.str z, .int (i : Nat)])) = false := eb
        rw [if_neg (by decide), eb']
        have e2 : hushM z ds ms i = m := by rw [eh, eb]; rfl
        refine ⟨_, rfl, iteF ⟨_, rfl, ?_⟩⟩
        exact fin sS (by rw [e2]; exact hxm2) (by rw [e2]; exact nm)
    · obtain ⟨s1, ys, l1, hd⟩ := hq
      have eu : (List.range us.length).map (hushM z ds ms) = hushMs z ds ms := by rw [lu]; rfl
      rw [eu] at hd
      have A1 := s1 _ _ h1
      refine ⟨rfl, _, rfl, b, dx, _, rfl, A1, b, dx, _, _, rfl, A1, rfl, _, rfl, b, dx, _, rfl, A1, b, dx, _, _, rfl, A1, rfl, _, rfl, D0, ys, rfl, .inl ⟨.inl (.inl l1), fun P1 nP => ?_⟩⟩
      dsimp only [tNil]
      have s2 := same_new s1 nP (o := .tup ys)
      have s3 := same_new (Same.refl G) nP (o := .tup ys)
      exact of_row gr (.tup upd_same ((hd.same hide_sub).same s3)) fun G' a s' na pr => q G' a (s2.trans s') (s2.free na) pr
end
end My

namespace My
open PySem PySem.Spec PyProof.Rows L2 Sh Dt
open Cl (ErrC)
open Eo (OexG ps_ostG)
abbrev s_gcheck : Stmt := inClass (topS 29) 15
abbrev Ngcheck : List Str := ["self", "sites", "site"]
theorem sc_gcheck : FnScope Ngcheck ["self", "sites"] (defScope s_gcheck) := ⟨rfl, rfl, rfl, by decide +kernel, rfl, by decide +kernel, by decide +kernel⟩
/-- a site of a post -/
def postAt (rs : List Row) (e : PyData) : Bool := match siteOf rs e with
  | some (.tuple (w :: _)) => PyData.eqv w (.str "post")
  | _ => false
theorem word_pl {w : PyData} {r : List PyData} (h : pl 3 (.tuple (w :: r))) : w.plain = true ∧ w.depth ≤ 60 := by
  obtain ⟨p, d⟩ := h
  simp only [PyData.plain, PyData.plainAll, Bool.and_eq_true] at p
  simp only [PyData.depth, PyData.depthAll] at d
  exact ⟨p.1, by have := Nat.le_max_left w.depth (PyData.depthAll r); omega⟩
def spCheck (K : PySem.W.Frag) (C Cg Cs : Addr) : Sp := fun vs H Q E => ∃ a sv n ds db rs, vs = [.ref a, sv] ∧ Pg C Cg H a n ds db rs ∧ (∀ r ∈ rs, ∀ m ∈ r.2.2, sm m = true) ∧ (
  (∃ T, TyX K H sv T ∧ PySem.W.kitOne K T (.type "tuple") = some false ∧ ∀ dd H', Same H H' → H' dd = some (.xd [("site", sv)]) → E (.ref Cs) (some dd) H') ∨
  ∃ p xs es, sv = .ref p ∧ H p = some (.tup xs) ∧ DAll H xs es ∧ (∀ e ∈ es, sm e = true) ∧ ((∀ e ∈ es, postAt rs e = true) → ∀ H', Same H H' → Q .non H') ∧ ∀ (i : Nat) x e, xs[i]? = some x → es[i]? = some e → postAt rs e = false → (∀ e' ∈ es.take i, postAt rs e' = true) → ∀ dd H', Same H H' → H' dd = some (.xd [("site", x)]) → E (.ref Cs) (some dd) H')
section
variable {P : Program} {w : World} {K : PySem.W.Frag} {mg : Str → Option Value} {base : Heap} {C Ce fI fO pO fE fL fS p1 g1 p2 g2 p3 g3 : Addr} {mc : Value}{Cg Cn Cs fIg fOg pOg fEg fLg fSg fGg fCg fMg fHg pg1 gg1 pg2 gg2 pg3 gg3 pg4 gg4 pg5 gg5 pg6 gg6 pg7 gg7 : Addr} {mcg : Value}
theorem ok_gcheck {f : Addr} {fd : FuncData} (F : Fun K "check_posts" "Program.check_posts" s_gcheck f fd) (cg : PgmC K mg Cg fIg fOg pOg fEg fLg fSg fGg fCg fMg fHg pg1 gg1 pg2 gg2 pg3 gg3 pg4 gg4 pg5 gg5 pg6 gg6 pg7 gg7 mcg) {fdmv : FuncData} (G_mv : FnOk P w K mg base (L2.CX P w) 6 fMg fdmv ["self", "site"] (spMoveG C Cg Cs)) (b_mv : Binds K fdmv ["self", "site"] []) {fis : Addr} {fdis : FuncData} (XS : FldC K mg "UnknownSite" "site" Cs fis) (FIs : L2.Fun K "__init__" "UnknownSite.__init__" s_iUs fis fdis) (bIs : Binds K fdis ["self", "site"] []) (m_isinstance : mg "isinstance" = none) (m_tuple : mg "tuple" = none) : FnOk P w K mg base (L2.CX P w) 8 f fd ["self", "sites"] (spCheck K C Cg Cs) := by
  refine F.okX sc_gcheck (fun vs H Q E h => ?_) (fun cdv A outer s H vs Q E hr h => ?_)
  · obtain ⟨a, sv, n, ds, db, rs, rfl, _⟩ := h
    rfl
  · obtain ⟨a, sv, n, ds, db, rs, rfl, pg, sms, h⟩ := h
    have pg' := pg
    obtain ⟨dx, sv1, bv, t, us, u, l, m, h1, h2, h3, h4, h5, h6, g⟩ := pg
    refine ⟨_, (pss_cons (ps_if (pt_not (pt_val (pe_callB call_isi (by rfl) m_isinstance (by decide +kernel) (pa_cons (pv 1) (pa_cons (pe_bltn (v := .ty "tuple") (by rfl) m_tuple (by decide +kernel) rfl) pa_nil)))))
        (pss_one (ps_raise rfl (takes_of rfl rfl rfl rfl) (_root_.Cn.pmk_field PySem.F.excBase_LookupError tlKE XS.t XS.bC XS.tC XS.iC XS.tI (ok_iUs (k := 0) FIs XS.t XS.no) (hr.mono (by decide)) bIs (passC0 _) (by rfl) XS.gC (pa_cons (pv 1) pa_nil))))
        pss_nil)
      (pss_one (ps_for (passes_of rfl) rfl (pi_tup (pv 1)) (pg_name (i := 2) sc_gcheck.nd rfl (by first | exact Or.inl rfl | exact Or.inr rfl))
        (pss_one (ps_if (pt_cmpR (op_neH hr.units) (pe_ix ix_tup (pe_meth (pv 0) cg.cls cg.mm G_mv (hr.mono (by decide)) b_mv .nil (Cl.passE (takes_of rfl rfl rfl rfl)) (pa_cons (pv 2) pa_nil)) pe_int (fun _ _ => rfl)) pe_str (nomark _))
          (pss_one (ps_raise rfl (takes_of rfl rfl rfl rfl) (_root_.Cn.pmk_field PySem.F.excBase_LookupError tlKE XS.t XS.bC XS.tC XS.iC XS.tI (ok_iUs (k := 0) FIs XS.t XS.no) (hr.mono (by decide)) bIs (passC0 _) (by rfl) XS.gC (pa_cons (pv 2) pa_nil))))
          pss_nil))))), ?_⟩
    rcases h with ⟨T, ty, hk, q⟩ | ⟨p, xs, es, rfl, hp, ha, hsm, qy, qn⟩
    · exact ⟨_, rfl, _, _, _, _, false, rfl, .ty "tuple", ty, hk, _, rfl, iteT ⟨_, rfl, raised q⟩⟩
    · have le := ha.len
      refine ⟨_, rfl, _, _, _, _, true, rfl, .ty "tuple", .base (.tup hp), kit_ty (by decide +kernel), _, rfl, iteF ⟨_, rfl, p, rfl, ⟨_, .inl (.inl hp)⟩, for_tup (xs := xs) (fun i σ G => (∃ y, σ = [some (.ref a), some (.ref p), y]) ∧ Same H G ∧ ∀ e ∈ es.take i, postAt rs e = true) ⟨⟨_, rfl⟩, Same.refl H, by simp⟩ (fun i σ G _ hq => .inl (.inl (hq.2.1 _ _ hp))) (fun i x σ G hx hq => ?_) (fun σ G hq => ?_)⟩⟩
      · obtain ⟨⟨y, rfl⟩, s1, al⟩ := hq
        obtain ⟨e, he, dx1⟩ := ha.get hx
        have me := List.mem_of_getElem? he
        have bad : postAt rs e = false → ∀ {G' : Hp} {dd : Addr}, Same G G' → G' dd = some (.xd [("site", x)]) → E (.ref Cs) (some dd) G' := fun hb {G' dd} s' e' => qn i x e hx he hb al dd G' (s1.trans s') e'
        have h1G := s1 _ _ h1
        cases es' : siteOf rs e with
        | none =>
          have hb : postAt rs e = false := by unfold postAt; rw [es']
          exact ⟨_, rfl, a, dx, _, rfl, h1G, rfl, _, rfl, a, x, n, ds, db, rs, e, rfl, pg'.same s1, dx1.same s1, hsm e me, .inr ⟨es', fun dd G' s' e' => bad hb s' e'⟩⟩
        | some mv =>
          obtain ⟨z, j, r, rfl, hf, hm⟩ := siteOf_some es'
          obtain ⟨mr, _⟩ := findR_some hf
          have gd := (h5.good r mr).moves
          unfold areMoves at gd
          rw [Bool.and_eq_true] at gd
          have im := List.all_eq_true.mp gd.2 mv (List.mem_of_getElem? hm)
          obtain ⟨w0, a0, x0, rr, rfl, _⟩ := move_parts im
          have plm := pl_move im
          have sw : sm w0 = true := (sm_tup.mp (sms r mr _ (List.mem_of_getElem? hm))).2 w0 (by simp)
          have pw := word_pl plm
          refine ⟨_, rfl, a, dx, _, rfl, h1G, rfl, _, rfl, a, x, n, ds, db, rs, _, rfl, pg'.same s1, dx1.same s1, hsm _ me, .inl ⟨_, es', fun v G2 s2 dv => ?_⟩⟩
          cases dv with
          | @tup p2 vs _ ep av =>
          cases av with
          | @cons v0 _ vs0 _ d0 ar =>
          have ep' : postAt rs (.tuple [.str z, .int (j : Nat)]) = PyData.eqv w0 (.str "post") := by unfold postAt; rw [es']
          refine ⟨p2, _, 0, v0, rfl, rfl, .inl (.inl ep), atI_nat (j := 0) rfl, w0, .str "post", d0, .str _, pw.1, rfl, pw.2, by decide, sw, by decide +kernel, _, rfl, ?_⟩
          cases eq' : PyData.eqv w0 (.str "post") with
          | true =>
            refine iteF ⟨⟨_, rfl⟩, s1.trans s2, fun e' h' => ?_⟩
            rw [List.take_add_one, he] at h'
            rcases List.mem_append.mp h' with h' | h'
            · exact al e' h'
            · simp at h'
              rw [h', ep', eq']
          | false => exact iteT ⟨_, rfl, raised fun dd G' s' e' => bad (by rw [ep', eq']) (s2.trans s') e'⟩
      · obtain ⟨⟨y, rfl⟩, s1, al⟩ := hq
        rw [le, List.take_of_length_le (Nat.le_refl _)] at al
        exact qy al G s1
end
end My

namespace My
open PySem PySem.Spec PyProof.Rows L2 Sh Dt
open Cl (ErrC)
abbrev s_gremade : Stmt := inClass (topS 29) 25
abbrev Ngremade : List Str := ["self", "starts", "begin", "procedures"]
theorem sc_gremade : FnScope Ngremade ["self", "starts", "begin", "procedures"] (defScope s_gremade) := ⟨rfl, rfl, rfl, by decide +kernel, rfl, by decide +kernel, by decide +kernel⟩
def spRemade (C Cg : Addr) : Sp := fun vs H Q _ => ∃ a sv bv t n ds0 db0 rs0 ds db xs rs, vs = [.ref a, sv, bv, .ref t] ∧ Pg C Cg H a n ds0 db0 rs0 ∧ D H sv ds ∧ D H bv db ∧ sm ds = true ∧ sm db = true ∧ H t = some (.tup xs) ∧ PAll C H xs rs ∧ rs.length ≤ 60 ∧ (∀ r ∈ rs, ∀ m ∈ r.2.2, sm m = true) ∧ goodG (.int n) ds db (rs.map some) = true ∧ ∀ H' a', Same H H' → H a' = none → Pg C Cg H' a' n ds db rs → Q (.ref a') H'
section
variable {P : Program} {w : World} {K : PySem.W.Frag} {mg : Str → Option Value} {base : Heap} {C Ce fI fO pO fE fL fS p1 g1 p2 g2 p3 g3 : Addr} {mc : Value}{Cg Cn Cs fIg fOg pOg fEg fLg fSg fGg fCg fMg fHg pg1 gg1 pg2 gg2 pg3 gg3 pg4 gg4 pg5 gg5 pg6 gg6 pg7 gg7 : Addr} {mcg : Value}
theorem ok_gremade {f : Addr} {fd : FuncData} (F : Fun K "_remade" "Program._remade" s_gremade f fd) (cg : PgmC K mg Cg fIg fOg pOg fEg fLg fSg fGg fCg fMg fHg pg1 gg1 pg2 gg2 pg3 gg3 pg4 gg4 pg5 gg5 pg6 gg6 pg7 gg7 mcg) (T : ErrC K mg "InvalidProgram" Ce) (FOg : FnR P w K mg base (L2.CX P w) 10 fOg (spOfG C Cg Ce)) : FnOk P w K mg base CX0 13 f fd ["self", "starts", "begin", "procedures"] (spRemade C Cg) := by
  refine F.ok sc_gremade (fun vs H Q E h => ?_) (fun cdv A outer s H vs Q E hr h => ?_)
  · obtain ⟨a, sv, bv, t, n, ds0, db0, rs0, ds, db, xs, rs, rfl, _⟩ := h
    rfl
  · obtain ⟨a, sv, bv, t, n, ds0, db0, rs0, ds, db, xs, rs, rfl, pg, hs, hb, ss, sb, ht, hp, l60, sms, gg, q⟩ := h
    obtain ⟨dx, sv1, bv1, t1, us, u, l, m, h1, _⟩ := pg
    refine ⟨_, (pss_one (_root_.Cn.ps_try_any (X := (cxOf CX0 P w K mg base Ngremade "Program._remade" (defScope s_gremade) f cdv A outer s H E).nox) (Wout := fun _ _ _ _ => False) (l := [(.ref Ce, none, fun _ _ _ _ _ _ => False)]) rfl rfl L2.takes0
      (fun W pn xe tk _ => pss_one (ps_ret (ClX.pe_cmeth (X := ((cxOf CX0 P w K mg base Ngremade "Program._remade" (defScope s_gremade) f cdv A outer s H E).nox.tr pn xe)) (pe_glob (v := .ref Cg) rfl cg.gP rfl) cg.cr cg.cm FOg (hr.mono (by decide)) (show Passes (L2.CX P w) _ E0 from Cl.passF) (pa_cons (show PE ((cxOf CX0 P w K mg base Ngremade "Program._remade" (defScope s_gremade) f cdv A outer s H E).nox.tr pn xe) _ (tFld K (tVar 0) "_modes") from pe_fld (pv 0) rfl) (pa_cons (pv 1) (pa_cons (pv 2) (pa_cons (pv 3) pa_nil)))))))
      (.plain ⟨rfl, by decide, .inl T.gC⟩ (fun a oe cls d pn hz hf => pss_one ps_never) .nil))), ?_⟩
    refine ⟨rfl, _, rfl, a, Cg, dx, _, _, rfl, h1, cg.cls, cg.n1, rfl, _, rfl, _, rfl, _, rfl, ?_⟩
    dsimp only [tNil]
    refine ⟨.int n, sv, bv, t, .int n, ds, db, rfl, .int n, hs, hb, rfl, ss, sb, .inl ⟨xs, rs.map some, ht, hp.o, by rw [List.length_map]; exact l60, fun r hr m hm => ?_, fun _ H' a' n' s' e na pg' => ?_, fun z => by rw [gg] at z; cases z⟩⟩
    · rw [rowsO_some] at hr
      exact sms r hr m hm
    · cases e
      rw [rowsO_some] at pg'
      exact q H' a' s' na pg'
end
end My

namespace My
open PySem PySem.Spec PyProof.Rows L2 Sh Dt
open Cl (ErrC)
abbrev s_gwo : Stmt := inClass (topS 29) 14
abbrev Ngwo : List Str := ["self", "sites", "procedures", "procedure"]
theorem sc_gwo : FnScope Ngwo ["self", "sites"] (defScope s_gwo) := ⟨rfl, rfl, rfl, by decide +kernel, rfl, by decide +kernel, by decide +kernel⟩
/-- the rows without these posts -/
def hushR (es : List PyData) (rs : List Row) : List Row := rs.map fun r => (r.1, r.2.1, hushMs r.1 es r.2.2)
def spWithout (K : PySem.W.Frag) (C Cg Cs : Addr) : Sp := fun vs H Q E => ∃ a sv n ds db rs, vs = [.ref a, sv] ∧ Pg C Cg H a n ds db rs ∧ (∀ r ∈ rs, GoodRow r) ∧ (
  (∃ T, TyX K H sv T ∧ PySem.W.kitOne K T (.type "tuple") = some false ∧ ∀ dd H', Same H H' → H' dd = some (.xd [("site", sv)]) → E (.ref Cs) (some dd) H') ∨
  ∃ p xs es, sv = .ref p ∧ H p = some (.tup xs) ∧ DAll H xs es ∧ (∀ e ∈ es, sm e = true) ∧
    ((∀ e ∈ es, postAt rs e = true) → PyData.plainAll es = true ∧ (∀ r ∈ rs, ∀ (i : Nat) m, r.2.2[i]? = some m → hit r.1 es i = true → PostD m) ∧ (∀ r ∈ hushR es rs, GoodRow r) ∧ goodG (.int n) ds db ((hushR es rs).map some) = true ∧ ∀ H' a', Same H H' → H a' = none → Pg C Cg H' a' n ds db (hushR es rs) → Q (.ref a') H') ∧
    ∀ (i : Nat) x e, xs[i]? = some x → es[i]? = some e → postAt rs e = false → (∀ e' ∈ es.take i, postAt rs e' = true) → ∀ dd H', Same H H' → H' dd = some (.xd [("site", x)]) → E (.ref Cs) (some dd) H')
section
variable {P : Program} {w : World} {K : PySem.W.Frag} {mg : Str → Option Value} {base : Heap} {C Ce fI fO pO fE fL fS p1 g1 p2 g2 p3 g3 : Addr} {mc : Value}{Cg Cn Cs fIg fOg pOg fEg fLg fSg fGg fCg fMg fHg pg1 gg1 pg2 gg2 pg3 gg3 pg4 gg4 pg5 gg5 pg6 gg6 pg7 gg7 : Addr} {mcg : Value}
theorem ok_gwo {f f_hushed_procedure : Addr} {fd fd_hushed_procedure : FuncData}{fKg fRg : Addr} {fdk fdr : FuncData} (F : Fun K "without_posts" "Program.without_posts" s_gwo f fd) (c : PcdC K mg C fI fO pO fE fL fS p1 g1 p2 g2 p3 g3 mc) (cg : PgmC K mg Cg fIg fOg pOg fEg fLg fSg fGg fCg fMg fHg pg1 gg1 pg2 gg2 pg3 gg3 pg4 gg4 pg5 gg5 pg6 gg6 pg7 gg7 mcg) (G_hushed_procedure : FnOk P w K mg base CX0 11 f_hushed_procedure fd_hushed_procedure ["procedure", "sites"] (spHush C)) (F_hushed_procedure : Fun K "hushed_procedure" "hushed_procedure" s_hushed_procedure f_hushed_procedure fd_hushed_procedure) (b_hushed_procedure : Binds K fd_hushed_procedure ["procedure", "sites"] []) (g_hushed_procedure : mg "hushed_procedure" = some (.ref f_hushed_procedure))(mck : Meth K Cg "check_posts" fKg) (mrm : Meth K Cg "_remade" fRg) (G_ck : FnOk P w K mg base (L2.CX P w) 8 fKg fdk ["self", "sites"] (spCheck K C Cg Cs)) (b_ck : Binds K fdk ["self", "sites"] []) (G_rm : FnOk P w K mg base CX0 13 fRg fdr ["self", "starts", "begin", "procedures"] (spRemade C Cg)) (b_rm : Binds K fdr ["self", "starts", "begin", "procedures"] []) (m_tuple : mg "tuple" = none) : FnOk P w K mg base (L2.CX P w) 15 f fd ["self", "sites"] (spWithout K C Cg Cs) := by
  refine F.okX sc_gwo (fun vs H Q E h => ?_) (fun cdv A outer s H vs Q E hr h => ?_)
  · obtain ⟨a, sv, n, ds, db, rs, rfl, _⟩ := h
    rfl
  · obtain ⟨a, sv, n, ds, db, rs, rfl, pg, gr, h⟩ := h
    have pg' := pg
    obtain ⟨dx, sv1, bv, t, us, u, l, m, h1, h2, h3, h4, h5, h6, g⟩ := pg
    have sms : ∀ r ∈ rs, ∀ m ∈ r.2.2, sm m = true := fun r hr => (sm_tup.mp (gr r hr).ms).2
    refine ⟨_, (pss_cons (ps_expr (pe_meth (pv 0) cg.cls mck G_ck (hr.mono (by decide)) b_ck .nil (Cl.passE (takes_of rfl rfl rfl rfl)) (pa_cons (pv 1) pa_nil)))
      (pss_cons (ps_set (i := 2) sc_gwo.nd rfl (by first | exact Or.inl rfl | exact Or.inr rfl) (pe_callTy call_tuple_of (by rfl) m_tuple (by decide +kernel) (pa_cons (pe_lc (own := [("procedure", 3)]) (g := (gName 3)) (tt := tYes) rfl sc_gwo.nd (pi_tup (pe_fld (pv 0) rfl)) (blkOk_by (N := Ngwo) (sc := defScope s_gwo) (by decide +kernel))
      (fun _ _ _ _ _ => (pg_name (i := 3) sc_gwo.nd rfl (Or.inl rfl))) (fun _ _ _ _ _ => pts_nil) (fun _ _ _ _ _ => (pe_call G_hushed_procedure (hr.mono (by decide)) (by rfl) g_hushed_procedure F_hushed_procedure.kp b_hushed_procedure .nil pass0 (pa_cons (pv 3) (pa_cons (pv 1) pa_nil))))) pa_nil)))
      (pss_one (ps_ret (pe_meth (pv 0) cg.cls mrm G_rm (hr.mono (by decide)) b_rm .nil (passC0 _) (pa_cons (pe_fld (pv 0) rfl) (pa_cons (pe_fld (pv 0) rfl) (pa_cons (pv 2) pa_nil)))))))), ?_⟩
    rcases h with ⟨T, ty, hk, q⟩ | ⟨p, xs, es, rfl, hp, ha, hsm, qy, qn⟩
    · exact ⟨_, rfl, a, dx, _, rfl, h1, rfl, _, rfl, a, sv, n, ds, db, rs, rfl, pg', sms, .inl ⟨T, ty, hk, q⟩⟩
    · refine ⟨_, rfl, a, dx, _, rfl, h1, rfl, _, rfl, a, .ref p, n, ds, db, rs, rfl, pg', sms, .inr ⟨p, xs, es, rfl, hp, ha, hsm, fun al H1 s1 => ?_, qn⟩⟩
      obtain ⟨pes, hpost, gr', gg, q⟩ := qy al
      have few := g.few
      have l5 := h5.len
      refine ⟨_, rfl, a, Cg, dx, _, _, rfl, s1 _ _ h1, cg.cls, cg.n4, rfl, t, rfl, ⟨_, .inl (.inl (s1 _ _ h4))⟩, fun D0 nD => ?_⟩
      refine lc_tup (xs := us) (fun i G => Same H1 G ∧ ∃ ps, G D0 = some (.lst ps) ∧ PAll C G ps (hushR es (rs.take i))) ⟨same_new (Same.refl H1) nD, [], upd_same, .nil⟩ (fun i G _ hq => .inl (.inl (hq.1 _ _ (s1 _ _ h4)))) (fun i x G hx hq => ?_) (fun G hq => ?_)
      · obtain ⟨s2, ps, l1, hps⟩ := hq
        have s12 := s1.trans s2
        obtain ⟨b, r, rfl, hr', pr⟩ := h5.get hx
        have mr := List.mem_of_getElem? hr'
        have hi := (List.getElem?_eq_some_iff.mp hr').1
        have lp := hps.len
        unfold hushR at lp
        rw [List.length_map, List.length_take] at lp
        refine ⟨rfl, _, rfl, _, rfl, b, p, r.1, r.2.1, r.2.2, xs, es, rfl, pr.same s12, (gr r mr).nl, s12 _ _ hp, ha.same s12, pes, hpost r mr, gr' _ (List.mem_map.mpr ⟨r, mr, rfl⟩), fun G2 a2 s3 na pr2 => ⟨_, s3 _ _ l1, small1000 (by omega), same_put (s2.trans s3) nD, _, upd_same, ?_⟩⟩
        rw [List.take_add_one, hr']
        show PAll C _ _ (hushR es (rs.take i ++ [r]))
        unfold hushR
        rw [List.map_append]
        exact ((hps.same s3).snoc (r := (r.1, r.2.1, hushMs r.1 es r.2.2)) pr2).off (s3 _ _ l1) fun r' hr2 => by
          rcases List.mem_append.mp hr2 with h | h
          · obtain ⟨r0, h0, rfl⟩ := List.mem_map.mp h
            exact (gr' _ (List.mem_map.mpr ⟨r0, List.mem_of_mem_take h0, rfl⟩)).nl
          · rw [List.mem_singleton.mp h]
            exact (gr' _ (List.mem_map.mpr ⟨r, mr, rfl⟩)).nl
      · obtain ⟨s2, ps, l1, hps⟩ := hq
        rw [l5, List.take_of_length_le (Nat.le_refl _)] at hps
        have s12 := s1.trans s2
        refine ⟨D0, ps, rfl, .inl ⟨.inl (.inl l1), fun P1 nP => ?_⟩⟩
        have s3 := same_new (Same.refl G) nP (o := .tup ps)
        have s13 := s12.trans s3
        have h13 := s13 _ _ h1
        refine ⟨_, rfl, a, dx, _, rfl, h13, rfl, _, rfl, a, Cg, dx, _, _, rfl, h13, cg.cls, cg.n2, rfl, _, rfl, a, Cg, dx, _, _, rfl, h13, cg.cls, cg.n3, rfl, _, rfl, ?_⟩
        dsimp only [tNil, List.append_nil, List.cons_append, List.nil_append]
        refine ⟨a, sv1, bv, P1, n, ds, db, rs, ds, db, ps, hushR es rs, rfl, pg'.same s13, h2.same s13, h3.same s13, g.sd, g.sb, upd_same, hps.same s3, by unfold hushR; rw [List.length_map]; omega, fun r hr => (sm_tup.mp (gr' r hr).ms).2, gg, fun H' a' s' na pgn => q H' a' (s13.trans s') (s13.free na) pgn⟩
end
end My

namespace My
open PySem PySem.Spec PyProof.Rows L2 Sh Dt
abbrev s_law_bared_of : Stmt := topS 47
abbrev Nlaw_bared_of : List Str := ["plain", "sites", "found", "name", "points", "moves", "some", "at", "move", "is_out", "mode"]
theorem sc_law_bared_of : FnScope Nlaw_bared_of ["plain", "sites"] (defScope s_law_bared_of) := ⟨rfl, rfl, rfl, by decide +kernel, rfl, by decide +kernel, by decide +kernel⟩
def spBared : Sp := fun vs H Q _ => ∃ V0 S va vb R bs n rs xs es, vs = [.ref V0, .ref S] ∧ H V0 = some (.lst [.int n, va, vb, .ref R]) ∧ H R = some (.lst bs) ∧ BandsD H bs rs ∧ rs.length ≤ 60 ∧ (∀ r ∈ rs, r.2.2.length ≤ 60) ∧ (H S = some (.tup xs) ∨ H S = some (.lst xs)) ∧ DAll H xs es ∧ PyData.plainAll es = true ∧ (∀ r ∈ rs, ∀ (i : Nat) m, r.2.2[i]? = some m → hit r.1 es i = true → PostD m) ∧
  ∀ H' V1 R' bs', Same H H' → H' V1 = some (.lst [.int n, va, vb, .ref R']) → H' R' = some (.lst bs') → BandsD H' bs' (hushR es rs) → Q (.ref V1) H'
theorem BandsD.snoc {H : Hp} {bs : List V} {rs : List Row} {b : V} {r : Row} (h : BandsD H bs rs) (g : BandD H b r) : BandsD H (bs ++ [b]) (rs ++ [r]) := by
  refine ⟨by rw [List.length_append, List.length_append, h.1]; rfl, fun i x hx => ?_⟩
  by_cases hi : i < bs.length
  · rw [List.getElem?_append_left hi] at hx
    obtain ⟨r', h1, h2⟩ := h.2 i x hx
    exact ⟨r', by rw [List.getElem?_append_left (h.1 ▸ hi)]; exact h1, h2⟩
  · have e : i = bs.length := by
      have := (List.getElem?_eq_some_iff.mp hx).1
      rw [List.length_append] at this
      simp at this
      omega
    subst e
    rw [List.getElem?_append_right (Nat.le_refl _)] at hx
    simp at hx
    subst hx
    exact ⟨r, by rw [h.1, List.getElem?_append_right (Nat.le_refl _)]; simp, g⟩
section
variable {P : Program} {w : World} {K : PySem.W.Frag} {mg : Str → Option Value} {base : Heap}
theorem ok_law_bared_of {f : Addr} {fd : FuncData} (F : Fun K "_law_bared_of" "_law_bared_of" s_law_bared_of f fd) (m_tuple : mg "tuple" = none) (m_range : mg "range" = none) (m_len : mg "len" = none) : FnOk P w K mg base CX0 1 f fd ["plain", "sites"] spBared := by
  refine F.ok sc_law_bared_of (fun vs H Q E h => ?_) (fun cdv A outer s H vs Q E hr h => ?_)
  · obtain ⟨V0, S, va, vb, R, bs, n, rs, xs, es, rfl, _⟩ := h
    rfl
  · obtain ⟨V0, S, va, vb, R, bs, n, rs, xs, es, rfl, hV, hR, hbs, l60, lm, hS, hes, pes, hpost, q⟩ := h
    refine ⟨_, (pss_cons (ps_set (i := 2) sc_law_bared_of.nd rfl (by first | exact Or.inl rfl | exact Or.inr rfl) (pe_lst pa_nil))
      (pss_cons (ps_for PassesOwn.never rfl (pi_list (pe_ix ix_list (pv 0) pe_int (fun _ _ => rfl))) (pg_unl rfl (pgs_cons (pg_name (i := 3) sc_law_bared_of.nd rfl (by first | exact Or.inl rfl | exact Or.inr rfl)) (pgs_cons (pg_name (i := 4) sc_law_bared_of.nd rfl (by first | exact Or.inl rfl | exact Or.inr rfl)) (pgs_cons (pg_name (i := 5) sc_law_bared_of.nd rfl (by first | exact Or.inl rfl | exact Or.inr rfl)) pgs_nil))))
        (pss_cons (ps_set (i := 6) sc_law_bared_of.nd rfl (by first | exact Or.inl rfl | exact Or.inr rfl) (pe_lst pa_nil))
        (pss_cons (ps_for PassesOwn.never rfl (pi_range1 rfl m_range (pa_cons (pe_callB call_len_seq (by rfl) m_len (by decide +kernel) (pa_cons (pv 5) pa_nil)) pa_nil)) (pg_name (i := 7) sc_law_bared_of.nd rfl (by first | exact Or.inl rfl | exact Or.inr rfl))
          (pss_cons (ps_set (i := 8) sc_law_bared_of.nd rfl (by first | exact Or.inl rfl | exact Or.inr rfl) (pe_ix ix_tup (pv 5) (pv 7) (fun _ _ => rfl)))
          (pss_cons (ps_set (i := 9) sc_law_bared_of.nd rfl (by first | exact Or.inl rfl | exact Or.inr rfl) (pe_cmpR (op_inDS hr.units) (pe_tup (pa_cons (pv 3) (pa_cons (pv 7) pa_nil))) (pv 1) (by with_unfolding_all rfl)))
          (pss_one (ps_expr (pe_bm PySem.F.plainAttrs_list PySem.F.slot_list_append PySem.F.type_list_append mt_append (pv 6) (pa_cons (pe_ifExp (pt_val (pv 9)) (pe_tup (pa_cons pe_str (pa_cons (pe_ix ix_tup (pv 8) pe_int (fun _ _ => rfl)) (pa_cons (pe_ix ix_tup (pv 8) pe_int (fun _ _ => rfl)) (pa_cons (pe_callTy call_tuple_of (by rfl) m_tuple (by decide +kernel) (pa_cons (pe_lc (own := [("mode", 10)]) (g := (gName 10)) (tt := tYes) rfl sc_law_bared_of.nd (pi_tup (pe_ix ix_tup (pv 8) pe_int (fun _ _ => rfl))) (blkOk_by (N := Nlaw_bared_of) (sc := defScope s_law_bared_of) (by decide +kernel))
      (fun _ _ _ _ _ => (pg_name (i := 10) sc_law_bared_of.nd rfl (Or.inl rfl))) (fun _ _ _ _ _ => pts_nil) (fun _ _ _ _ _ => (pe_tup (pa_cons (pv 10) (pa_cons (pv 10) pa_nil))))) pa_nil)) pa_nil))))) (pv 8)) pa_nil)))))))
        (pss_one (ps_expr (pe_bm PySem.F.plainAttrs_list PySem.F.slot_list_append PySem.F.type_list_append mt_append (pv 2) (pa_cons (pe_lst (pa_cons (pv 3) (pa_cons (pv 4) (pa_cons (pe_callTy call_tuple_of (by rfl) m_tuple (by decide +kernel) (pa_cons (pv 6) pa_nil)) pa_nil)))) pa_nil)))))))
      (pss_one (ps_ret (pe_lst (pa_cons (pe_ix ix_list (pv 0) pe_int (fun _ _ => rfl)) (pa_cons (pe_ix ix_list (pv 0) pe_int (fun _ _ => rfl)) (pa_cons (pe_ix ix_list (pv 0) pe_int (fun _ _ => rfl)) (pa_cons (pv 2) pa_nil))))))))), ?_⟩
    have lb := hbs.1
    refine ⟨len_ok, fun F nF => ?_⟩
    have s1 := same_new (Same.refl H) nF (o := .lst [])
    refine ⟨_, rfl, V0, _, 3, .ref R, rfl, rfl, .inl (.inl (s1 _ _ hV)), rfl, R, rfl, ⟨_, .inl (.inl (s1 _ _ hR))⟩, for_list (xs := bs) (fun i σ G => (∃ y3 y4 y5 y6 y7 y8 y9 y10, σ = [some (.ref V0), some (.ref S), some (.ref F), y3, y4, y5, y6, y7, y8, y9, y10]) ∧ Same H G ∧ ∃ fs, G F = some (.lst fs) ∧ BandsD (hide [F] G) fs (hushR es (rs.take i))) ⟨⟨_, _, _, _, _, _, _, _, rfl⟩, s1, [], upd_same, rfl, fun j b hb => by simp at hb⟩ (fun i σ G _ hq => .inl (.inl (hq.2.1 _ _ hR))) (fun i x σ G hx hq => ?_) (fun σ G hq => ?_)⟩
    · obtain ⟨⟨y3, y4, y5, y6, y7, y8, y9, y10, rfl⟩, s2, fs, hF, hfs⟩ := hq
      obtain ⟨r, hr', B, t, us, rfl, hB, htt, hxx⟩ := hbs.2 i x hx
      have mr := List.mem_of_getElem? hr'
      have hi := (List.getElem?_eq_some_iff.mp hr').1
      have lus := hxx.len
      have l60m := lm r mr
      refine ⟨B, _, rfl, .inl (.inl (s2 _ _ hB)), rfl, _, _, rfl, _, _, rfl, _, _, rfl, rfl, ?_⟩
      refine ⟨len_ok, fun L nL => ?_⟩
      have sL := same_new (Same.refl G) nL (o := .lst [])
      have s3 := s2.trans sL
      have LF : L ≠ F := fun z => by
        rw [z, hF] at nL
        cases nL
      have nLH : H L = none := s2.free nL
      have hF3 := upd_keep (o := .lst []) hF nL
      have hL3 : upd G L (.lst []) L = some (.lst []) := upd_same
      have hfs3 : BandsD (hide [L, F] (upd G L (.lst []))) fs (hushR es (rs.take i)) := hfs.same fun b o e => by
        obtain ⟨n1, e1⟩ := hide_in e
        have bL : b ≠ L := fun z => by
          rw [z, nL] at e1
          cases e1
        exact hide_some (by simpa [bL] using n1) ((upd_ne bL).trans e1)
      refine ⟨_, rfl, t, us, rfl, .inr (.inl (.inl (s3 _ _ htt))), ((us.length : Nat) : Int), rfl, by omega, by omega, ?_⟩
      have en : (((us.length : Nat) : Int)).toNat = us.length := by omega
      rw [en]
      generalize upd G L (.lst []) = G3 at s3 hF3 hL3 hfs3 sL
      clear sL
      refine for_range (lo := 0) (n := us.length) (fun k σ G4 => (∃ y7 y8 y9 y10, σ = [some (.ref V0), some (.ref S), some (.ref F), some (.str r.1), some (.int r.2.1), some (.ref t), some (.ref L), y7, y8, y9, y10]) ∧ Same H G4 ∧ G4 F = some (.lst fs) ∧ BandsD (hide [L, F] G4) fs (hushR es (rs.take i)) ∧ ∃ ys, G4 L = some (.lst ys) ∧ DAll (hide [L, F] G4) ys ((List.range k).map (hushM r.1 es r.2.2))) ⟨⟨_, _, _, _, rfl⟩, s3, hF3, hfs3, [], hL3, .nil⟩ (fun k σ G4 hk hq => ?_) (fun σ G4 hq => ?_)
      · obtain ⟨⟨y7, y8, y9, y10, rfl⟩, s4, hF4, hfs4, ys, l4, hd⟩ := hq
        have hk2 : k < us.length := hk
        obtain ⟨m, hm, hxm⟩ := hxx.get (List.getElem?_eq_getElem hk2)
        have ly := hd.len
        rw [List.length_map, List.length_range] at ly
        have em : r.2.2.getD k .none = m := by rw [List.getD_eq_getElem?_getD, hm]; rfl
        have eh : hushM r.1 es r.2.2 k = if hit r.1 es k then hushD m else m := by
          unfold hushM
          rw [em]
        have hes4 := hes.same s4
        refine ⟨_, rfl, _, rfl, t, us, 0 + (k : Int), us[k], rfl, rfl, .inl (.inl (s4 _ _ htt)), by rw [Int.zero_add]; exact atI_nat (List.getElem?_eq_getElem hk2), _, rfl, _, rfl, len_ok, fun T nT => ⟨_, rfl, ?_⟩⟩
        have sT := same_new (Same.refl G4) nT (o := .tup [.str r.1, .int (0 + (k : Int))])
        have s5 := s4.trans sT
        have hT : upd G4 T (.tup [.str r.1, .int (0 + (k : Int))]) T = some (.tup [.str r.1, .int (k : Int)]) := by rw [upd_same, Int.zero_add]
        have hF5 := sT _ _ hF4
        have hfs5 := hfs4.same (hide_same (S := [L, F]) sT)
        have l5 := sT _ _ l4
        have hd5 := hd.same (hide_same (S := [L, F]) sT)
        generalize upd G4 T (.tup [.str r.1, .int (0 + (k : Int))]) = G5 at s5 hT hF5 hfs5 l5 hd5 sT
        clear sT hF4 hfs4 l4 hd hes4
        have hTd : D G5 (.ref T) (.tuple [.str r.1, .int (k : Nat)]) := .tup hT (.cons (.str _) (.cons (.int _) .nil))
        have stepF : ∀ {G' : Hp} {v : V}, Same G5 G' → D (hide [L, F] G') v (hushM r.1 es r.2.2 k) → G' L = some (.lst ys) ∧ Same H (upd G' L (.lst (ys ++ [v]))) ∧ upd G' L (.lst (ys ++ [v])) F = some (.lst fs) ∧ BandsD (hide [L, F] (upd G' L (.lst (ys ++ [v])))) fs (hushR es (rs.take i)) ∧ ∃ ys', upd G' L (.lst (ys ++ [v])) L = some (.lst ys') ∧ DAll (hide [L, F] (upd G' L (.lst (ys ++ [v])))) ys' ((List.range (k + 1)).map (hushM r.1 es r.2.2)) := fun {G' v} s' dv => by
          have l6 := s' _ _ l5
          refine ⟨l6, same_put (s5.trans s') nLH, (upd_ne LF.symm).trans (s' _ _ hF5), ?_, ys ++ [v], upd_same, ?_⟩
          · exact (hfs5.same (hide_same (S := [L, F]) s')).same hide_upd
          · rw [List.range_succ, List.map_append]
            exact DAll.app (.cons (dv.same hide_upd) .nil) ((hd5.same (hide_same s')).same hide_upd)
        have hin : ∀ {Q' : V → Hp → Prop}, Q' (.bl (hit r.1 es k)) G5 → (rInD false (.ref T) (.ref S) G5 Q' ∨ rInDL false (.ref T) (.ref S) G5 Q') := fun {Q'} qq => by
          rcases hS with hS | hS
          · exact .inl ⟨_, S, xs, es, hTd, rfl, s5 _ _ hS, hes.same s5, rfl, pes, by simp [PyData.depth, PyData.depthAll], qq⟩
          · exact .inr ⟨_, S, xs, es, hTd, rfl, s5 _ _ hS, hes.same s5, rfl, pes, by simp [PyData.depth, PyData.depthAll], qq⟩
        refine hin ?_
        have hxm5 := hxm.same s5
        refine ⟨.ref L, rfl, ?_⟩
        cases eb : hit r.1 es k with
        | true =>
          obtain ⟨x, y, zt, ns, rfl, ln, n1, n2⟩ := hpost r mr k m hm eb
          have e2 : hushM r.1 es r.2.2 k = goD x y ns := by
            rw [eh, eb]
            show goD x y ((ns.map PyData.int).map intOf) = goD x y ns
            rw [List.map_map, show intOf ∘ PyData.int = id from rfl, List.map_id]
          refine ⟨.inl ⟨rfl, _, .inl (.inl l5)⟩, _, rfl, true, rfl, iteT ?_⟩
          generalize us[k] = um at hxm5
          cases hxm5 with
          | @tup p xs' ds' e a =>
          match xs', a with
          | [v0, v1, v2, v3, v4], .cons a0 (.cons a1 (.cons a2 (.cons a3 (.cons a4 .nil)))) =>
            cases a4 with
            | @tup t4 us4 ds4 e4 au =>
            have eu := vals_ints au
            subst eu
            refine ⟨_, rfl, p, _, 1, v1, rfl, rfl, .inl (.inl e), rfl, _, rfl, p, _, 2, v2, rfl, rfl, .inl (.inl e), rfl, _, rfl, p, _, 4, .ref t4, rfl, rfl, .inl (.inl e), rfl, t4, rfl, ⟨_, .inl (.inl e4)⟩, fun D0 nD => ?_⟩
            refine lc_tup (xs := ns.map V.int) (fun i G => Same G5 G ∧ ∃ ys, G D0 = some (.lst ys) ∧ ys.length = i ∧ ∀ (j : Nat) v, ys[j]? = some v → ∃ n T, ns[j]? = some n ∧ v = .ref T ∧ G T = some (.tup [.int n, .int n])) ⟨same_new (Same.refl G5) nD, [], upd_same, rfl, fun j v hv => by simp at hv⟩ (fun i G _ hq => .inl (.inl (hq.1 _ _ e4))) (fun i x G hx hq => ?_) (fun G6 hq => ?_)
            · obtain ⟨s6, zs, l1, lz, hz⟩ := hq
              rw [List.getElem?_map] at hx
              cases ez : ns[i]? with
              | none =>
                rw [ez] at hx
                cases hx
              | some n =>
              rw [ez] at hx
              cases hx
              have hi := (List.getElem?_eq_some_iff.mp ez).1
              refine ⟨rfl, _, rfl, _, rfl, len_ok, fun T nT => ⟨_, upd_keep l1 nT, small1000 (by omega), same_put (same_new s6 nT) nD, zs ++ [.ref T], upd_same, by rw [List.length_append, lz]; rfl, fun j v hv => ?_⟩⟩
              have TD : T ≠ D0 := fun z => by
                rw [z, l1] at nT
                cases nT
              by_cases hj : j < zs.length
              · rw [List.getElem?_append_left hj] at hv
                obtain ⟨n', T', h1, h2, h3⟩ := hz j v hv
                exact ⟨n', T', h1, h2, (upd_ne (fun z => by rw [z, l1] at h3; cases h3)).trans (upd_keep h3 nT)⟩
              · have ej : j = zs.length := by
                  have := (List.getElem?_eq_some_iff.mp hv).1
                  rw [List.length_append] at this
                  simp at this
                  omega
                subst ej
                rw [List.getElem?_append_right (Nat.le_refl _)] at hv
                simp at hv
                subst hv
                exact ⟨n, T, by rw [lz]; exact ez, rfl, (upd_ne TD).trans upd_same⟩
            · obtain ⟨s6, zs, l1, lz, hz⟩ := hq
              rw [List.length_map] at lz
              refine ⟨D0, zs, rfl, .inl ⟨.inl (.inl l1), fun p1 n1' => ⟨len_ok, fun p2 n2' => ?_⟩⟩⟩
              have s7 := same_new (same_new s6 n1' (o := .tup zs)) n2' (o := .tup [.str "go", v1, v2, .ref p1])
              have sG := same_new (same_new (Same.refl G6) n1' (o := .tup zs)) n2' (o := .tup [.str "go", v1, v2, .ref p1])
              have dv : D (upd (upd G6 p1 (.tup zs)) p2 (.tup [.str "go", v1, v2, .ref p1])) (.ref p2) (goD x y ns) := .tup upd_same (.cons (.str _) (.cons (a1.same s7) (.cons (a2.same s7) (.cons (.tup (upd_keep upd_same n2') ((pairs_all lz hz).same sG)) .nil))))
              have dv2 : D (hide [L, F] (upd (upd G6 p1 (.tup zs)) p2 (.tup [.str "go", v1, v2, .ref p1]))) (.ref p2) (hushM r.1 es (r.2.2) k) := by
                rw [e2]
                exact nl_hide (S := [F]) (s7 _ _ l5) (nl_hide (S := []) (s7 _ _ hF5) (dv.same fun b o e => hide_some (by simp) e) (nl_go n1 n2)) (nl_go n1 n2)
              obtain ⟨c1, c2, c3, c4, c5⟩ := stepF s7 dv2
              exact ⟨L, _, _, rfl, rfl, c1, small1000 (by omega), ⟨_, _, _, _, rfl⟩, c2, c3, c4, c5⟩
        | false =>
          have e2 : hushM r.1 es r.2.2 k = m := by rw [eh, eb]; rfl
          have dv : D (hide [L, F] G5) us[k] (hushM r.1 es r.2.2 k) := by
            rw [e2]
            exact hxm.same fun b o e => hide_some (by simp only [List.mem_cons, List.not_mem_nil, or_false, not_or]; exact ⟨ne_of_none e nLH, ne_of_none e nF⟩) (s5 _ _ e)
          obtain ⟨c1, c2, c3, c4, c5⟩ := stepF (Same.refl G5) dv
          refine ⟨.inl ⟨rfl, _, .inl (.inl l5)⟩, _, rfl, false, rfl, iteF ⟨_, rfl, ?_⟩⟩
          exact ⟨L, _, _, rfl, rfl, c1, small1000 (by omega), ⟨_, _, _, _, rfl⟩, c2, c3, c4, c5⟩
      · obtain ⟨⟨y7, y8, y9, y10, rfl⟩, s4, hF4, hfs4, ys, l4, hd⟩ := hq
        have eu : (List.range us.length).map (hushM r.1 es r.2.2) = hushMs r.1 es r.2.2 := by rw [lus]; rfl
        rw [eu] at hd
        have lf := hfs4.1
        unfold hushR at lf
        rw [List.length_map, List.length_take] at lf
        refine ⟨_, rfl, .inl ⟨rfl, _, .inl (.inl hF4)⟩, _, rfl, _, rfl, _, rfl, L, ys, rfl, .inl ⟨.inl (.inl l4), fun P1 nP => ⟨len_ok, fun B2 nB => ?_⟩⟩⟩
        have s5 := same_new (same_new s4 nP (o := .tup ys)) nB (o := .lst [.str r.1, .int r.2.1, .ref P1])
        have s6 := same_new (same_new (Same.refl G4) nP (o := .tup ys)) nB (o := .lst [.str r.1, .int r.2.1, .ref P1])
        have hF6 := s6 _ _ hF4
        have hP : upd (upd G4 P1 (.tup ys)) B2 (.lst [.str r.1, .int r.2.1, .ref P1]) P1 = some (.tup ys) := upd_keep upd_same nB
        have hB2 : upd (upd G4 P1 (.tup ys)) B2 (.lst [.str r.1, .int r.2.1, .ref P1]) B2 = some (.lst [.str r.1, .int r.2.1, .ref P1]) := upd_same
        have nB4 : G4 B2 = none := (same_new (Same.refl G4) nP (o := .tup ys)).free nB
        refine ⟨F, _, _, rfl, rfl, hF6, small1000 (by omega), ⟨_, _, _, _, _, _, _, _, rfl⟩, same_put s5 nF, fs ++ [.ref B2], upd_same, ?_⟩
        rw [List.take_add_one, hr']
        show BandsD _ _ (hushR es (rs.take i ++ [r]))
        unfold hushR
        rw [List.map_append]
        have subF : Same (hide [L, F] G4) (hide [F] (upd (upd G4 P1 (.tup ys)) B2 (.lst [.str r.1, .int r.2.1, .ref P1]))) := fun b o e => by
          obtain ⟨n1, e1⟩ := hide_in e
          simp only [List.mem_cons, List.not_mem_nil, or_false, not_or] at n1
          exact hide_some (by simpa using n1.2) (s6 _ _ e1)
        refine BandsD.snoc (r := (r.1, r.2.1, hushMs r.1 es r.2.2)) ((hfs4.same subF).same hide_upd) ?_
        refine BandD.same hide_upd ⟨B2, P1, ys, rfl, hide_some (by simp only [List.mem_singleton]; exact ne_of_none hF4 nB4 |>.symm) hB2, hide_some ?_ hP, ?_⟩
        · simp only [List.mem_singleton]
          exact fun z => by
            rw [z, hF4] at nP
            cases nP
        · exact hd.same subF
    · obtain ⟨⟨y3, y4, y5, y6, y7, y8, y9, y10, rfl⟩, s2, fs, hF, hfs⟩ := hq
      rw [lb, List.take_of_length_le (Nat.le_refl _)] at hfs
      refine ⟨_, rfl, V0, _, 0, _, rfl, rfl, .inl (.inl (s2 _ _ hV)), rfl, _, rfl, V0, _, 1, _, rfl, rfl, .inl (.inl (s2 _ _ hV)), rfl, _, rfl, V0, _, 2, _, rfl, rfl, .inl (.inl (s2 _ _ hV)), rfl, _, rfl, len_ok, fun V1 nV => ?_⟩
      have s3 := same_new (Same.refl G) nV (o := .lst [.int n, va, vb, .ref F])
      exact q _ V1 F fs (s2.trans s3) upd_same (s3 _ _ hF) ((hfs.same hide_sub).same s3)
end
end My

/-! == of tuples of own objects, whatever it answers -/
namespace Eb
open PySem PySem.SeqAt
open AutoSeq1 (wpAny_loadPart')
open MeetsSeq MeetsSeq2 MeetsSeq3 SeqRoads2
open GQ (FinOf)
section
variable {prog : Program} {w : World} {A : Around} {R : Result → Shared → Prop}
theorem all_false {e : Nat → Bool} {n i : Nat} (h : i < n) (f : e i = false) : (List.range n).all e = false := by
  rw [List.all_eq_false]
  exact ⟨i, List.mem_range.mpr h, by rw [f]; exact Bool.false_ne_true⟩
theorem all_true {e : Nat → Bool} {n : Nat} (h : ∀ j, j < n → e j = true) : (List.range n).all e = true := by
  rw [List.all_eq_true]
  exact fun i hi => h i (List.mem_range.mp hi)
theorem tuple_eqB (l b : Addr) (items items2 : Array Value) (n n2 : Nat) (dd dd2 : Option Addr) (sl sl2 : Array (Option Value)) (hsz : items.size = items2.size) (e : Nat → Bool) (I : Shared → Prop)
    (turn : ∀ i (h1 : i < items.size) (h2 : i < items2.size) s, I s → wpAny (model prog w) A.in1 (eqBool items[i] items2[i]) (fun r s' => r = e i ∧ I s') (fun e s' => R (.error e) s') s)
    (fin : ∀ s, I s → R (.ok (.ret (.bool ((List.range items.size).all e)))) s) {s : Shared} (hl1 : s.heap.get? l = some { cls := .type "tuple", dict := dd, data := .seq items n, slots := sl }) (hb1 : s.heap.get? b = some { cls := .type "tuple", dict := dd2, data := .seq items2 n2, slots := sl2 }) (h : I s) :
    wpAny (model prog w) A.in1 (Builtin.«tuple.__eq__» ⟨[.ref l, .ref b], []⟩) (FinOf prog w A R) (fun e s' => R (.error e) s') s := by
  have f2 := AutoSeq1.sub_tuple_tuple
  have hZ : (items.toList.zip items2.toList).length = items.size := by simp [hsz]
  have h0 := h
  obtain ⟨hp, g, d, tk, os⟩ := s
  wp_walk using wpAny_loadPart' hl1, wpAny_loadPart' hb1, wpAny_forIn_list _ (fun rest b s' => b.1 = none ∧ ∃ i, rest = (items.toList.zip items2.toList).drop i ∧ i ≤ items.size ∧ I s' ∧ ∀ j, j < i → e j = true) _
  case turn =>
    rintro ⟨y, x⟩ rest b s' ⟨hb', i, hz, hi, hI, hj⟩
    have hlt : i < (items.toList.zip items2.toList).length := by
      rcases Nat.lt_or_ge i (items.toList.zip items2.toList).length with h' | h'
      · exact h'
      · rw [List.drop_of_length_le h'] at hz; cases hz
    have h1 : i < items.size := hZ ▸ hlt
    have h2 : i < items2.size := hsz ▸ h1
    rw [List.drop_eq_getElem_cons hlt] at hz
    injection hz with hyx hrest
    have hy : y = items[i] := by have := congrArg Prod.fst hyx; simpa using this
    have hx : x = items2[i] := by have := congrArg Prod.snd hyx; simpa using this
    subst hy hx
    refine wpAny_bind (wpAny_mono (turn i h1 h2 s' hI) (fun r s2 q2 => ?_) fun _ _ x => x)
    obtain ⟨hr, q2⟩ := q2
    subst hr
    cases hy : e i with
    | true =>
      wp_walk
      exact ⟨rfl, i + 1, hrest, h1, q2, fun j hj2 => by
        rcases Nat.lt_succ_iff_lt_or_eq.mp hj2 with h | h
        · exact hj j h
        · rw [h]; exact hy⟩
    | false =>
      have hR := fin s2 q2
      rw [all_false h1 hy] at hR
      wp_walk
      simpa using hR
  case fin =>
    rintro ⟨b1, b2⟩ s' ⟨hb', i, hz, hi, hI, hj⟩
    simp only at hb'
    subst hb'
    have hge : items.size ≤ i := by
      rcases Nat.lt_or_ge i (items.toList.zip items2.toList).length with h' | h'
      · rw [List.drop_eq_getElem_cons h'] at hz; cases hz
      · exact hZ ▸ h'
    have hi' : i = items.size := by omega
    have hR := fin s' hI
    rw [all_true (hi' ▸ hj)] at hR
    wp_walk
    simpa [Builtin.Tuple.tupleCompareSizes, hsz] using hR
  case h =>
    exact ⟨rfl, 0, rfl, Nat.zero_le _, h0, fun j hj => absurd hj (Nat.not_lt_zero j)⟩
end
section
variable {prog : Program} {w : World} {A : Around} {E : Value → Shared → Prop} {s : Shared}
theorem rc_tupB {l b : Addr} {items items2 : Array Value} {Q : Value → Shared → Prop} (hsz : items.size = items2.size) (hu : A.units < cLine) (e : Nat → Bool) (I : Shared → Prop)
    (hl : s.heap.IsTuple l items) (hb : s.heap.IsTuple b items2)
    (turn : ∀ i (h1 : i < items.size) (h2 : i < items2.size) s, I s → wpAny (model prog w) A.in1 (eqBool items[i] items2[i]) (fun r s' => r = e i ∧ I s') E s)
    (fin : ∀ s, I s → Q (.bool ((List.range items.size).all e)) s) (h : I s) : wpAny (model prog w) A (richCompare .Eq (.ref l) (.ref b)) Q E s := by
  obtain ⟨⟨cls, dd, data, sl⟩, ho, hc, n, hd⟩ := id hl
  obtain ⟨⟨cls2, dd2, data2, sl2⟩, ho2, hc2, n2, hd2⟩ := id hb
  simp only at hc hd hc2 hd2
  subst hc hd hc2 hd2
  refine wpAny_richCompare_same_room (op := .Eq) ⟨_, ho, rfl⟩ ⟨_, ho2, rfl⟩ F.slot_tuple_eq (GQ.call_here F.slot_tuple_eq ⟨_, ho, rfl⟩ F.entry_tuple_eq (F.args_tuple_eq_2 _ _) ?_) hu
  exact tuple_eqB (R := wants (fun v s' => v ≠ .notImplemented ∧ Q v s') E) l b items items2 n n2 dd dd2 sl sl2 hsz e I turn (fun s' q => ⟨(fun x => nomatch x), fin s' q⟩) ho ho2 h
end
open PySem.Spec PyProof.Rows L2
abbrev EqvB := V → V → Hp → Bool → Prop
def MonB (D : EqvB) : Prop := ∀ x y H H' b, Ext H H' → D x y H b → D x y H' b
def EqB (X : Cx) (n : Nat) (D : EqvB) : Prop :=
  ∀ (A : Around) (pins : List (Addr × Obj)) (s : Shared) (σ : L2.St) (H : Hp) (x y : V) (u v : Value) (b : Bool), Sub X n A → Inv X pins σ H s → RelV x u → RelV y v → D x y H b →
    wpAny (model X.prog X.w) A (eqBool u v) (fun r s' => r = b ∧ ∃ H', Inv X pins σ H' s' ∧ Ext H H') X.xe s
def RcB (X : Cx) (n : Nat) (D : EqvB) : Prop :=
  ∀ (A : Around) (pins : List (Addr × Obj)) (s : Shared) (σ : L2.St) (H : Hp) (x y : V) (u v : Value) (b : Bool), Sub X n A → Inv X pins σ H s → RelV x u → RelV y v → D x y H b →
    wpAny (model X.prog X.w) A (richCompare .Eq u v) (fun r s' => r = .bool b ∧ ∃ H', Inv X pins σ H' s' ∧ Ext H H') X.xe s
def PrsB (D : EqvB) (xs ys : List V) (H : Hp) (b : Bool) : Prop := xs.length = ys.length ∧ ∃ e : Nat → Bool, (∀ (i : Nat) x y, xs[i]? = some x → ys[i]? = some y → D x y H (e i)) ∧ b = (List.range xs.length).all e
def DTupB (K : PySem.W.Frag) (D : EqvB) : EqvB := fun x y H r => ∃ a b xs ys, x = .ref a ∧ y = .ref b ∧ SqT K H a xs ∧ SqT K H b ys ∧ PrsB D xs ys H r
section
variable {X : Cx} {n m : Nat} {D D' : EqvB}
theorem turnB (hD : MonB D) (h : EqB X n D) {A : Around} (sb : Sub X (n + 1) A) {pins : List (Addr × Obj)} {σ : L2.St} {H : Hp} {xs ys : List V} {its its2 : List Value} {e : Nat → Bool} (hl : xs.length = ys.length) (p : ∀ (i : Nat) x y, xs[i]? = some x → ys[i]? = some y → D x y H (e i)) (r : Vals xs its) (r2 : Vals ys its2)
    (i : Nat) (h1 : i < its.toArray.size) (h2 : i < its2.toArray.size) (s' : Shared) (l : LoopI X pins σ H s') :
    wpAny (model X.prog X.w) A.in1 (eqBool its.toArray[i] its2.toArray[i]) (fun r s2 => r = e i ∧ LoopI X pins σ H s2) X.xe s' := by
  obtain ⟨H1, I1, e1⟩ := l
  have g1 : its[i]? = some its.toArray[i] := by
    have h1' : i < its.length := by simpa using h1
    rw [List.getElem?_eq_getElem h1'] <;> simp
  have g2 : its2[i]? = some its2.toArray[i] := by
    have h2' : i < its2.length := by simpa using h2
    rw [List.getElem?_eq_getElem h2'] <;> simp
  have k1 : i < xs.length := by rw [r.length]; simpa using h1
  have k2 : i < ys.length := by rw [r2.length]; simpa using h2
  obtain ⟨u, hu, ru⟩ := r.get (List.getElem?_eq_getElem k1)
  obtain ⟨v, hv, rv⟩ := r2.get (List.getElem?_eq_getElem k2)
  rw [g1] at hu
  rw [g2] at hv
  rw [Option.some.inj hu, Option.some.inj hv]
  refine wpAny_mono (h A.in1 pins s' σ H1 _ _ u v (e i) sb.in1 I1 ru rv (hD _ _ _ _ _ e1 (p i _ _ (List.getElem?_eq_getElem k1) (List.getElem?_eq_getElem k2)))) (fun r s2 q => ?_) fun _ _ x => x
  obtain ⟨hr, H2, I2, e2⟩ := q
  exact ⟨hr, H2, I2, e1.trans e2⟩
theorem rcB_tup (hD : MonB D) (h : EqB X n D) : RcB X (n + 1) (DTupB X.K D) := by
  intro A pins s σ H x y u v bb sb I rx ry d
  obtain ⟨a, b, xs, ys, rfl, rfl, ha, hb, hl, e, p, rfl⟩ := d
  cases rx
  cases ry
  obtain ⟨its, r, e1, z⟩ := I.tuple ha
  obtain ⟨its2, r2, e2, z2⟩ := I.tuple hb
  have hsz : its.toArray.size = its2.toArray.size := by rw [List.size_toArray, List.size_toArray, ← r.length, ← r2.length]; exact hl
  have hn : its.toArray.size = xs.length := by rw [List.size_toArray, ← r.length]
  refine rc_tupB hsz sb.room.units0 e (fun s' => LoopI X pins σ H s') e1 e2 (fun i h1 h2 s' q => turnB hD h sb hl p r r2 i h1 h2 s' q) (fun s' q => ?_) ⟨H, I, Ext.rfl'⟩
  rw [hn]
  exact ⟨rfl, q⟩
def DInsB (C : Addr) (R : Addr → Addr → Hp → Bool → Prop) : EqvB := fun x y H r => ∃ a b dx dy fs gs, x = .ref a ∧ y = .ref b ∧ H a = some (.ins C dx fs) ∧ H b = some (.ins C dy gs) ∧ R a b H r ∧ (a = b → r = true)
theorem monB_ins {C : Addr} {R : Addr → Addr → Hp → Bool → Prop} (hR : ∀ a b H H' r, Ext H H' → R a b H r → R a b H' r) : MonB (DInsB C R) := fun x y H H' t e d => by
  obtain ⟨a, b, dx, dy, fs, gs, hx, hy, h1, h2, r, s⟩ := d
  exact ⟨a, b, dx, dy, fs, gs, hx, hy, e _ _ h1, e _ _ h2, hR a b H H' t e r, s⟩
def spEqB (R : Addr → Addr → Hp → Bool → Prop) : Sp := fun vs H Q _ => ∃ a b r, vs = [.ref a, .ref b] ∧ R a b H r ∧ ∀ H', Ext H H' → Q (.bl r) H'
theorem rcB_ins {CX : CXT} {C f : Addr} {fd : FuncData} {ps : List Str} {R : Addr → Addr → Hp → Bool → Prop} {E : XK} (F : FnOk X.prog X.w X.K X.mg X.base CX n f fd ps (spEqB R))
    (hs : PySem.W.findIn X.K (.ref C) "__eq__" = some (some (.ref f))) (hf : PySem.W.isFn X.K (.ref f) = true) (hb : Binds X.K fd ps []) (hx : Passes CX X E) : RcB X n (DInsB C R) := by
  intro A pins s σ H x y u v bb sb I rx ry d
  obtain ⟨a, b, dx, dy, fs, gs, rfl, rfl, ha, hb', hr, _⟩ := d
  cases rx
  cases ry
  obtain ⟨mA, J, _⟩ := ins_get I.hok ha
  obtain ⟨mB, J', _⟩ := ins_get I.hok hb'
  obtain ⟨od, J, _⟩ := J.look
  obtain ⟨od', J', _⟩ := J'.look
  obtain ⟨m, hF⟩ := I.fr
  refine PySem.W.cmp_K (op := .Eq) (tb := .ref C) sb.room.units0 hF I.ok.mod.kin J J'.type (by simp [PySem.W.notFirst]) hs hf ?_
  have hsp : spEqB R [.ref a, .ref b] H (fun v H' => v = .bl bb ∧ Ext H H') E := ⟨a, b, bb, rfl, hr, fun H' e => ⟨rfl, e⟩⟩
  have e0 : Env0 X.prog X.w X.K X.mg X.base A X.stack s H := by
    have e := I.env0
    exact ⟨by rw [sb.fr]; exact e.frames, e.mod, e.bs, e.bsz, e.funs, e.frf, e.hok, e.bare⟩
  have hl := F.len _ _ _ _ hsp
  have r2 : Vals [V.ref a, V.ref b] [Value.ref a, Value.ref b] := .cons rfl (.cons rfl .nil)
  refine wpAny_call (codeAny_mono (F.run A X.stack s H ⟨[.ref a, .ref b], []⟩ [.ref a, .ref b] [.ref a, .ref b] _ E sb.room e0 (by
    have := hb s [.ref a, .ref b] I.kIn (by simpa using hl)
    simpa using this) r2 hsp) fun r s' hq => ?_)
  cases r with
  | error e => exact hx pins σ H s e s' I hq
  | ok fl =>
    cases fl with
    | ret w =>
      obtain ⟨z, H', I', rz, ez, ex⟩ := I.after hq
      subst ez
      cases rz
      exact ⟨rfl, H', I', ex⟩
    | next => exact False.elim hq
    | brk => exact False.elim hq
    | cont => exact False.elim hq
theorem RcB.eqB (h : RcB X n D) (hr : ∀ x y H r, D x y H r → ∃ a b, x = .ref a ∧ y = .ref b ∧ (a = b → r = true)) : EqB X n D := by
  intro A pins s σ H x y u v bb sb I rx ry d
  obtain ⟨a, b, rfl, rfl, hs⟩ := hr _ _ _ _ d
  cases rx
  cases ry
  by_cases hab : a = b
  · subst hab
    rw [hs rfl]
    exact SeqAt.EqAt.same (A := A) (s := s) (.ref a) X.prog X.w X.xe _ ⟨rfl, H, I, Ext.rfl'⟩
  · refine GQ.eqBool_refG hab (wpAny_mono (h A pins s σ H (.ref a) (.ref b) _ _ bb sb I rfl rfl d) (fun r s' q => ?_) fun _ _ x => x)
    obtain ⟨hr', q⟩ := q
    exact ⟨bb, hr', rfl, q⟩
theorem eqB_ins {CX : CXT} {C f : Addr} {fd : FuncData} {ps : List Str} {R : Addr → Addr → Hp → Bool → Prop} {E : XK} (F : FnOk X.prog X.w X.K X.mg X.base CX n f fd ps (spEqB R))
    (hs : PySem.W.findIn X.K (.ref C) "__eq__" = some (some (.ref f))) (hf : PySem.W.isFn X.K (.ref f) = true) (hb : Binds X.K fd ps []) (hx : Passes CX X E) : EqB X n (DInsB C R) :=
  (rcB_ins F hs hf hb hx).eqB fun _ _ _ _ d => let ⟨a, b, _, _, _, _, hx, hy, _, _, _, hs⟩ := d; ⟨a, b, hx, hy, hs⟩
/-- x == y as an expression -/
def rEqB (D : EqvB) : R2 := fun x y H Q => ∃ b, D x y H b ∧ ∀ H', Ext H H' → Q (.bl b) H'
theorem op_eqB (h : RcB X n D) (hr : Room n X.A) : OpR X (compareOp .Eq) (rEqB D) := by
  intro pins s σ H x y v u Q I rx ry hq
  obtain ⟨b, d, q⟩ := hq
  show wpAny (model X.prog X.w) X.A (richCompare .Eq v u) (EP X pins σ Q) X.xe s
  refine wpAny_mono (h X.A pins s σ H x y v u b ⟨hr, rfl⟩ I rx ry d) (fun r s' z => ?_) fun _ _ x => x
  obtain ⟨hr', H', I', e⟩ := z
  subst hr'
  exact ⟨.bl b, H', I', rfl, q H' e⟩
end
end Eb

namespace Dt
open PySem PySem.Spec PyProof.Rows L2 Sh
mutual
theorem D.det {H : Hp} : ∀ {v : V} {d e : PyData}, D H v d → D H v e → d = e
  | _, _, _, .non, h => by cases h; rfl
  | _, _, _, .bl b, h => by cases h; rfl
  | _, _, _, .int i, h => by cases h; rfl
  | _, _, _, .str z, h => by cases h; rfl
  | _, _, _, .lst hp a, h => by
    cases h with
    | lst hq b => rw [hp] at hq; cases hq; rw [DAll.det a b]
    | tup hq b => rw [hp] at hq; cases hq
    | dic hq => rw [hp] at hq; cases hq
  | _, _, _, .tup hp a, h => by
    cases h with
    | lst hq b => rw [hp] at hq; cases hq
    | tup hq b => rw [hp] at hq; cases hq; rw [DAll.det a b]
    | dic hq => rw [hp] at hq; cases hq
  | _, _, _, .dic hp, h => by
    cases h with
    | lst hq b => rw [hp] at hq; cases hq
    | tup hq b => rw [hp] at hq; cases hq
    | dic hq => rfl
theorem DAll.det {H : Hp} : ∀ {vs : List V} {ds es : List PyData}, DAll H vs ds → DAll H vs es → ds = es
  | _, _, _, .nil, h => by cases h; rfl
  | _, _, _, .cons a b, h => by
    cases h with
    | cons c d => rw [D.det a c, DAll.det b d]
end
end Dt
namespace My
open PySem PySem.Spec PyProof.Rows L2 Sh Dt
open Eb
def rowEq (r r' : Row) : Bool := decide (r.1 = r'.1) && decide (r.2.1 = r'.2.1) && PyData.eqv (.tuple r.2.2) (.tuple r'.2.2)
def eqAt (rs rs' : List Row) (i : Nat) : Bool := match rs[i]?, rs'[i]? with
  | some r, some r' => rowEq r r'
  | _, _ => true
def rowsEq (rs rs' : List Row) : Bool := (List.range rs.length).all (eqAt rs rs')
def PrRelB (C : Addr) (a b : Addr) (H : Hp) (t : Bool) : Prop := ∃ r r' : Row, Pr C H a r.1 r.2.1 r.2.2 ∧ Pr C H b r'.1 r'.2.1 r'.2.2 ∧ t = rowEq r r'
theorem prMonB {C : Addr} : ∀ a b H H' t, Ext H H' → PrRelB C a b H t → PrRelB C a b H' t := fun a b H H' t e ⟨r, r', h1, h2, h3⟩ => ⟨r, r', h1.same e, h2.same e, h3⟩
theorem peqB {K : PySem.W.Frag} {C : Addr} : ∀ vs H Q E, spEqB (PrRelB C) vs H Q E → spEqP K C vs H Q E := fun vs H Q E ⟨a, b, t, e, ⟨r, r', h1, h2, h3⟩, q⟩ =>
  ⟨a, .ref b, r.1, r.2.1, r.2.2, e, h1, .inl ⟨b, r'.1, r'.2.1, r'.2.2, rfl, h2, by
    have := q H Ext.rfl'
    rw [h3] at this
    exact this⟩⟩
theorem eqvS {d : PyData} (h : d.plain = true) : PyData.eqv d d = true := by
  have := PySem.SeqAt.eqvAll_refl_plain [d] (by simp [PyData.plainAll, h])
  simpa [PyData.eqvAll] using this
theorem good_plain {z : Str} {p : Int} {ms : List PyData} (g : Good z p ms) : (PyData.tuple ms).plain = true := (pl_moves g.moves).1
theorem rowEq_self {r : Row} (g : Good r.1 r.2.1 r.2.2) : rowEq r r = true := by
  unfold rowEq
  rw [decide_eq_true rfl, decide_eq_true rfl, eqvS (good_plain g)]
  rfl
theorem Pr.det {C : Addr} {H : Hp} {a : Addr} {r r' : Row} (h : Pr C H a r.1 r.2.1 r.2.2) (g : Pr C H a r'.1 r'.2.1 r'.2.2) : r = r' := by
  obtain ⟨dx, t, xs, a1, a2, a3, _⟩ := h
  obtain ⟨dy, u, ys, b1, b2, b3, _⟩ := g
  rw [a1] at b1
  injection b1 with b1
  injection b1 with _ _ b1
  injection b1 with e1 b1
  injection b1 with e2 b1
  injection b1 with e3 _
  injection e1 with _ e1
  injection e2 with _ e2
  injection e3 with _ e3
  injection e1 with e1
  injection e2 with e2
  injection e3 with e3
  subst e3
  rw [a2] at b2
  injection b2 with b2
  injection b2 with b2
  subst b2
  have e4 := a3.det b3
  obtain ⟨z, p, ms⟩ := r
  obtain ⟨z', p', ms'⟩ := r'
  simp only at e1 e2 e4
  rw [e1, e2, e4]
theorem PAll.prsB {C : Addr} {H : Hp} {xs ys : List V} {rs rs' : List Row} (h : PAll C H xs rs) (g : PAll C H ys rs') (l : rs.length = rs'.length) : PrsB (DInsB C (PrRelB C)) xs ys H (rowsEq rs rs') := by
  refine ⟨by rw [h.len, g.len, l], eqAt rs rs', fun i x y h1 h2 => ?_, by unfold rowsEq; rw [h.len]⟩
  obtain ⟨a, r, rfl, hr, p1⟩ := h.get h1
  obtain ⟨b, r2, rfl, hr2, p2⟩ := g.get h2
  have e : eqAt rs rs' i = rowEq r r2 := by unfold eqAt; rw [hr, hr2]
  rw [e]
  have p1' := p1
  have p2' := p2
  obtain ⟨dx, t, us, a1, _⟩ := p1
  obtain ⟨dy, u, vs, b1, _⟩ := p2
  refine ⟨a, b, dx, dy, _, _, rfl, rfl, a1, b1, ⟨r, r2, p1', p2', rfl⟩, fun ab => ?_⟩
  subst ab
  rw [← Pr.det p1' p2']
  obtain ⟨_, _, _, _, _, _, g⟩ := p1'
  exact rowEq_self g
def spEqGB (K : PySem.W.Frag) (C Cg : Addr) : Sp := fun vs H Q _ => ∃ a b n ds db rs rs', vs = [.ref a, .ref b] ∧ Pg C Cg H a n ds db rs ∧ Pg C Cg H b n ds db rs' ∧ rs.length = rs'.length ∧ ds.plain = true ∧ db.plain = true ∧ ds.depth ≤ 60 ∧ db.depth ≤ 60 ∧ ∀ H', Same H H' → Q (.bl (rowsEq rs rs')) H'
section
variable {P : Program} {w : World} {K : PySem.W.Frag} {mg : Str → Option Value} {base : Heap} {C Ce fI fO pO fE fL fS p1 g1 p2 g2 p3 g3 : Addr} {mc : Value}{Cg Cn Cs fIg fOg pOg fEg fLg fSg fGg fCg fMg fHg pg1 gg1 pg2 gg2 pg3 gg3 pg4 gg4 pg5 gg5 pg6 gg6 pg7 gg7 : Addr} {mcg : Value}
theorem ok_geqB {f : Addr} {fd : FuncData} (F : Fun K "__eq__" "Program.__eq__" s_geq f fd) (c : PcdC K mg C fI fO pO fE fL fS p1 g1 p2 g2 p3 g3 mc) (cg : PgmC K mg Cg fIg fOg pOg fEg fLg fSg fGg fCg fMg fHg pg1 gg1 pg2 gg2 pg3 gg3 pg4 gg4 pg5 gg5 pg6 gg6 pg7 gg7 mcg) {fde : FuncData} (FEq : FnOk P w K mg base CX0 1 fE fde ["self", "other"] (spEqP K C)) (bEq : Binds K fde ["self", "other"] [])  (m_isinstance : mg "isinstance" = none) : FnOk P w K mg base CX0 4 f fd ["self", "other"] (spEqGB K C Cg) := by
  refine F.ok sc_geq (fun vs H Q E h => ?_) (fun cdv A outer s H vs Q E hr h => ?_)
  · obtain ⟨a, y, n, ds, db, rs, rs', rfl, _⟩ := h
    rfl
  · obtain ⟨a, b, n, ds, db, rs, rs', rfl, pg, pgb, hl, hs1, hb1, d1, d2, q⟩ := h
    obtain ⟨dx, sv, bv, t, us, u, l, m, h1, h2, h3, h4, h5, h6, g⟩ := pg
    have r1 := eqvS hs1
    have r2 := eqvS hb1
    refine ⟨_, (pss_cons (ps_if (pt_not (pt_val (pe_callB call_isi (by rfl) m_isinstance (by decide +kernel) (pa_cons (pv 1) (pa_cons (pe_glob (v := .ref Cg) rfl cg.gP rfl) pa_nil)))))
        (pss_one (ps_ret pe_bl))
        pss_nil)
      (pss_cons (ps_if (PW.pt (pw_or (pt_cmpR op_ne (pe_fld (pv 0) rfl) (pe_fld (pv 1) rfl) (nomark _)) (pw_or1 (pt_cmpR (op_neH hr.units) (pe_fld (pv 0) rfl) (pe_fld (pv 1) rfl) (nomark _)))))
        (pss_one (ps_ret pe_bl))
        pss_nil)
      (pss_one (ps_ret (pe_and (pe_cmpR (op_eqH hr.units) (pe_fld (pv 0) rfl) (pe_fld (pv 1) rfl) (nomark _)) (pe_one (pe_cmpR (op_eqB (rcB_tup (monB_ins prMonB) (eqB_ins (FEq.imp peqB) c.eq c.eqf bEq (passC0 _))) (hr.mono (by decide))) (pe_fld (pv 0) rfl) (pe_fld (pv 1) rfl) (nomark _)))))))), ?_⟩
    obtain ⟨dx2, sv2, bv2, t2, us2, u2, l2, m2, k1, k2, k3, k4, k5, k6, _⟩ := pgb
    have nn : decide (V.int n = V.int n) = true := decide_eq_true rfl
    refine ⟨_, rfl, _, _, _, _, true, rfl, .own Cg, .base (.ins k1 cg.cls cg.c1 cg.c2 cg.c3 cg.c4), cg.k1, _, rfl, iteF ?_⟩
    refine ⟨_, rfl, a, Cg, dx, _, _, rfl, h1, cg.cls, cg.n1, rfl, _, rfl, b, Cg, dx2, _, _, rfl, k1, cg.cls, cg.n1, rfl, rfl, _, rfl, ?_⟩
    rw [nn]
    refine iteF ⟨_, rfl, a, Cg, dx, _, _, rfl, h1, cg.cls, cg.n2, rfl, _, rfl, b, Cg, dx2, _, _, rfl, k1, cg.cls, cg.n2, rfl, ds, ds, h2, k2, hs1, hs1, d1, d1, g.sd, g.sd, _, rfl, ?_⟩
    rw [r1]
    refine iteF ⟨_, rfl, a, Cg, dx, _, _, rfl, h1, cg.cls, cg.n3, rfl, _, rfl, b, Cg, dx2, _, _, rfl, k1, cg.cls, cg.n3, rfl, db, db, h3, k3, hb1, d2, ?_⟩
    rw [r2]
    exact ⟨true, rfl, iteT ⟨_, rfl, a, Cg, dx, _, _, rfl, h1, cg.cls, cg.n4, rfl, _, rfl, b, Cg, dx2, _, _, rfl, k1, cg.cls, cg.n4, rfl, ⟨rowsEq rs rs', ⟨t, t2, us, us2, rfl, rfl, .inl (.inl h4), .inl (.inl k4), h5.prsB k5 hl⟩, fun H' e => q H' e⟩⟩⟩
end
end My

/-! posts left out: what becomes of plain rows -/
namespace My
open PySem PySem.Spec PyProof.Rows L2 Sh Dt
theorem isNum_inv {n : Int} {d : PyData} (h : isNum n d = true) : ∃ k : Nat, d = .int (k : Int) ∧ (k : Int) < n := by
  cases d with
  | int i =>
    have h : (decide (0 ≤ i) && decide (i < n)) = true := h
    simp only [Bool.and_eq_true, decide_eq_true_iff] at h
    exact ⟨i.toNat, by rw [Int.toNat_of_nonneg h.1], by omega⟩
  | _ => exact absurd h (by simp [isNum])
theorem isSet_inv {n : Int} {d : PyData} (h : isSet n d = true) : ∃ ns : List Int, d = .tuple (ns.map PyData.int) ∧ ns ≠ [] ∧ asc ltI ns = true ∧ ∀ k ∈ ns, 0 ≤ k ∧ k < n := by
  cases d with
  | tuple ds =>
    have h : (!ds.isEmpty && ds.all (isNum n) && asc ltI (ds.map intOf)) = true := h
    simp only [Bool.and_eq_true] at h
    obtain ⟨⟨h0, h1⟩, h2⟩ := h
    refine ⟨ds.map intOf, by rw [← ints_of_all h1], ?_, h2, fun k hk => ?_⟩
    · cases ds with
      | nil => cases h0
      | cons a r => simp
    · obtain ⟨d, hd, rfl⟩ := List.mem_map.mp hk
      obtain ⟨j, rfl, hj⟩ := isNum_inv (List.all_eq_true.mp h1 d hd)
      exact ⟨by show (0:Int) ≤ (j:Int); omega, hj⟩
  | _ => exact absurd h (by simp [isSet])
theorem str_of {w : PyData} {z : Str} (h : PyData.eqv w (.str z) = true) : w = .str z := by
  obtain ⟨y, rfl⟩ := eqv_strR h
  have : y = z := by simpa [PyData.eqv] using h
  rw [this]
/-- a post of a plain program -/
structure PostF (n p : Int) (m : PyData) (a b : Nat) (z : Str) (ks : List Int) : Prop where
  eq : m = .tuple [.str "post", .int (a : Int), .int (b : Int), .str z, .tuple (ks.map PyData.int)]
  la : (a : Int) < p
  lb : (b : Int) < p
  k0 : ks ≠ []
  k5 : ks.length ≤ 5
  ka : asc ltI ks = true
  kn : ∀ k ∈ ks, 0 ≤ k ∧ k < n
theorem post_form {n p : Int} {zs : List Str} {m : PyData} (mv : ∃ ds, m = .tuple ds ∧ Mv n zs p ds) (h : wordIs "post" m = true) : ∃ (a b : Nat) (z : Str) (ks : List Int), PostF n p m a b z ks := by
  obtain ⟨ds, rfl, mv⟩ := mv
  have ok := mv.ok
  match ds, mv, ok, h with
  | [], mv, _, _ => exact absurd mv.lo (by simp)
  | [_], mv, _, _ => exact absurd mv.lo (by simp)
  | [_, _], mv, _, _ => exact absurd mv.lo (by simp)
  | w :: a :: x :: r, mv, ok, h =>
    have ew := str_of (show PyData.eqv w (.str "post") = true from h)
    subst ew
    have e1 : PyData.eqv (.str "post") (.str "leave") = false := by decide +kernel
    have e2 : PyData.eqv (.str "post") (.str "go") = false := by decide +kernel
    have e3 : strIn (.str "post") ["call", "post"] = true := by decide +kernel
    simp only [isMove, e1, e2, e3, Bool.and_eq_true, Bool.false_eq_true, if_false, true_and] at ok
    obtain ⟨oa, ox, or⟩ := ok
    match r, or with
    | [y, z], or =>
      simp only [Bool.and_eq_true] at or
      obtain ⟨a', rfl, la⟩ := isNum_inv oa
      obtain ⟨b', rfl, lb⟩ := isNum_inv ox
      obtain ⟨ks, rfl, k0, ka, kn⟩ := isSet_inv or.2
      have k5 := (mv.inn (ks.map PyData.int) (by simp)).2
      rw [List.length_map] at k5
      cases y with
      | str t => exact ⟨a', b', t, ks, rfl, la, lb, k0, k5, ka, kn⟩
      | _ => exact absurd or.1 (by simp [nameD])
    | [], or => exact absurd or (by simp)
    | [_], or => exact absurd or (by simp)
    | _ :: _ :: _ :: _, or => exact absurd or (by simp)
theorem hush_post {n p : Int} {m : PyData} {a b : Nat} {z : Str} {ks : List Int} (f : PostF n p m a b z ks) : hushD m = goD (.int (a : Int)) (.int (b : Int)) ks := by
  rw [f.eq]
  show goD _ _ ((ks.map PyData.int).map intOf) = goD _ _ ks
  rw [List.map_map, show intOf ∘ PyData.int = id from rfl, List.map_id]
theorem ltI_tr : ∀ x y z : Int, ltI x y = true → ltI y z = true → ltI x z = true := fun x y z h1 h2 => by
  simp only [ltI, decide_eq_true_iff] at *
  omega
theorem asc_pairs {ks : List Int} (h : asc ltI ks = true) : Zt.Asc (ks.map fun k => [k, k]) := by
  have := (asc_pw ltI_tr ks).mp h
  show List.Pairwise _ _
  rw [List.pairwise_map]
  refine this.imp fun {a b} hab => ?_
  simp only [ltI, decide_eq_true_iff] at hab
  simp [Zt.lx, hab]
  omega
theorem go_mv {n p : Int} {zs : List Str} {m : PyData} {a b : Nat} {z : Str} {ks : List Int} (f : PostF n p m a b z ks) : ∃ ds, hushD m = .tuple ds ∧ Mv n zs p ds := by
  have h := mv_go (zs := zs) f.la f.lb (ks := ks.map fun k => [k, k]) (by simpa using f.k0) (by rw [List.length_map]; exact f.k5) (asc_pairs f.ka) (fun k hk => by
    obtain ⟨j, hj, rfl⟩ := List.mem_map.mp hk
    have := f.kn j hj
    exact ⟨j, j, rfl, this.1, this.2, this.1, this.2⟩)
  rw [List.map_map] at h
  exact ⟨_, by rw [hush_post f]; rfl, h⟩
def siteP (z : Str) (j : Nat) : PyData := .tuple [.str z, .int (j : Nat)]
theorem eqv_site (z z' : Str) (j j' : Nat) : PyData.eqv (siteP z j) (siteP z' j') = (decide (z = z') && decide (j = j')) := by
  unfold siteP
  by_cases h : z = z' <;> by_cases g : j = j' <;> simp [PyData.eqv, PyData.eqvAll, h, g] <;> omega
theorem sitesUp_mem {z kind : Str} {ms : List PyData} {n : Nat} {e : PyData} : e ∈ sitesUp z kind ms n ↔ ∃ j, j < n ∧ wordIs kind (ms.getD j .none) = true ∧ e = siteP z j := by
  unfold sitesUp
  rw [List.mem_map]
  constructor
  · rintro ⟨j, hj, rfl⟩
    rw [List.mem_filter, List.mem_range] at hj
    exact ⟨j, hj.1, hj.2, rfl⟩
  · rintro ⟨j, h1, h2, rfl⟩
    exact ⟨j, List.mem_filter.mpr ⟨List.mem_range.mpr h1, h2⟩, rfl⟩
theorem sitesD_mem {kind : Str} {rs : List Row} {e : PyData} : e ∈ sitesD kind rs ↔ ∃ r ∈ rs, ∃ j, j < r.2.2.length ∧ wordIs kind (r.2.2.getD j .none) = true ∧ e = siteP r.1 j := by
  unfold sitesD
  rw [List.mem_flatMap]
  simp only [sitesUp_mem]
/-- sites of posts -/
def Posts (rs : List Row) (es : List PyData) : Prop := ∀ e ∈ es, e ∈ sitesD "post" rs
theorem Posts.site {rs : List Row} {es : List PyData} (h : Posts rs es) {e : PyData} (m : e ∈ es) : ∃ r ∈ rs, ∃ j, j < r.2.2.length ∧ wordIs "post" (r.2.2.getD j .none) = true ∧ e = siteP r.1 j := sitesD_mem.mp (h e m)
theorem hit_iff {rs : List Row} {es : List PyData} (h : Posts rs es) {z : Str} {j : Nat} : hit z es j = true ↔ siteP z j ∈ es := by
  unfold hit
  rw [List.any_eq_true]
  constructor
  · rintro ⟨e, he, ee⟩
    obtain ⟨r, _, i, _, _, rfl⟩ := h.site he
    have ee : PyData.eqv (siteP r.1 i) (siteP z j) = true := ee
    rw [eqv_site, Bool.and_eq_true, decide_eq_true_iff, decide_eq_true_iff] at ee
    rw [← ee.1, ← ee.2]
    exact he
  · intro m
    refine ⟨_, m, ?_⟩
    show PyData.eqv (siteP z j) (siteP z j) = true
    rw [eqv_site]
    simp
theorem row_eq : ∀ {rs : List Row} {a b : Row}, (rs.map (·.1)).Nodup → a ∈ rs → b ∈ rs → a.1 = b.1 → a = b
  | [], _, _, _, h, _, _ => nomatch h
  | r :: rs, a, b, nd, ha, hb, e => by
    rw [List.map_cons, List.nodup_cons] at nd
    rcases List.mem_cons.mp ha with ea | ma
    · rcases List.mem_cons.mp hb with eb | mb
      · rw [ea, eb]
      · exact absurd (List.mem_map.mpr ⟨b, mb, by rw [← e, ea]⟩) nd.1
    · rcases List.mem_cons.mp hb with eb | mb
      · exact absurd (List.mem_map.mpr ⟨a, ma, by rw [e, eb]⟩) nd.1
      · exact row_eq nd.2 ma mb e
theorem hit_post {rs : List Row} {es : List PyData} (nd : (rs.map (·.1)).Nodup) (h : Posts rs es) {r : Row} (m : r ∈ rs) {j : Nat} (e : hit r.1 es j = true) : j < r.2.2.length ∧ wordIs "post" (r.2.2.getD j .none) = true := by
  obtain ⟨r', m', i, h1, h2, h3⟩ := h.site ((hit_iff h).mp e)
  have h3 : PyData.eqv (siteP r.1 j) (siteP r'.1 i) = true := by
    rw [h3, eqv_site]
    simp
  rw [eqv_site, Bool.and_eq_true, decide_eq_true_iff, decide_eq_true_iff] at h3
  have := row_eq nd m m' h3.1
  subst this
  rw [h3.2]
  exact ⟨h1, h2⟩
theorem hushMs_len (z : Str) (es ms : List PyData) : (hushMs z es ms).length = ms.length := by
  unfold hushMs
  rw [List.length_map, List.length_range]
theorem hushMs_get {z : Str} {es ms : List PyData} {j : Nat} (h : j < ms.length) : (hushMs z es ms)[j]? = some (hushM z es ms j) := by
  unfold hushMs
  rw [List.getElem?_map, List.getElem?_range h]
  rfl
theorem hushMs_getD {z : Str} {es ms : List PyData} {j : Nat} (h : j < ms.length) : (hushMs z es ms).getD j .none = hushM z es ms j := by
  rw [List.getD_eq_getElem?_getD, hushMs_get h]
  rfl
theorem hushMs_mem {z : Str} {es ms : List PyData} {m : PyData} (h : m ∈ hushMs z es ms) : ∃ j, j < ms.length ∧ m = hushM z es ms j := by
  unfold hushMs at h
  obtain ⟨j, hj, rfl⟩ := List.mem_map.mp h
  exact ⟨j, List.mem_range.mp hj, rfl⟩
theorem getD_mem {ms : List PyData} {j : Nat} (h : j < ms.length) : ms.getD j .none ∈ ms := by
  rw [List.getD_eq_getElem?_getD, List.getElem?_eq_getElem h]
  exact List.getElem_mem h
theorem hushR_mem {es : List PyData} {rs : List Row} {r' : Row} (h : r' ∈ hushR es rs) : ∃ r ∈ rs, r' = (r.1, r.2.1, hushMs r.1 es r.2.2) := by
  unfold hushR at h
  obtain ⟨r, hr, rfl⟩ := List.mem_map.mp h
  exact ⟨r, hr, rfl⟩
theorem hushR_names (es : List PyData) (rs : List Row) : (hushR es rs).map (·.1) = rs.map (·.1) := by
  unfold hushR
  rw [List.map_map]
  rfl
theorem hushR_len (es : List PyData) (rs : List Row) : (hushR es rs).length = rs.length := by
  unfold hushR
  rw [List.length_map]
theorem hush_mv {tot : Int} {ns gs : List Int} {rs : List Row} {es : List PyData} (pl' : Plain tot ns gs rs) (h : Posts rs es) {r : Row} (m : r ∈ rs) {j : Nat} (hj : j < r.2.2.length) : ∃ ds, hushM r.1 es r.2.2 j = .tuple ds ∧ Mv tot (rs.map (·.1)) r.2.1 ds := by
  have mv := (pl'.ok r m).mv _ (getD_mem hj)
  unfold hushM
  cases e : hit r.1 es j with
  | false => exact mv
  | true =>
    obtain ⟨a, b, z, ks, f⟩ := post_form mv (hit_post pl'.nd h m e).2
    exact go_mv f
theorem plain_hush {tot : Int} {ns gs : List Int} {rs : List Row} {es : List PyData} (pl' : Plain tot ns gs rs) (h : Posts rs es) : Plain tot ns gs (hushR es rs) := by
  refine ⟨pl'.t1, pl'.t3, pl'.s0, pl'.s5, pl'.sa, pl'.sn, by rw [hushR_len]; exact pl'.gl, pl'.g2, fun z => pl'.r0 ?_, by rw [hushR_len]; exact pl'.r3, by rw [hushR_names]; exact pl'.nd, fun r' hr' => ?_, by rw [hushR_names]; exact pl'.nq⟩
  · exact List.length_eq_zero_iff.mp (by rw [← hushR_len es rs, z]; rfl)
  · obtain ⟨r, m, rfl⟩ := hushR_mem hr'
    have ok := pl'.ok r m
    rw [hushR_names]
    refine ⟨ok.nm, ok.p1, ok.p3, by rw [hushMs_len]; exact ok.lo, by rw [hushMs_len]; exact ok.hi, fun x hx => ?_⟩
    obtain ⟨j, hj, rfl⟩ := hushMs_mem hx
    exact hush_mv pl' h m hj
def SmR (rs : List Row) : Prop := ∀ r ∈ rs, sm (.tuple r.2.2) = true
theorem sm_go (a b : Int) {ks : List Int} (h : ks.length ≤ 5) : sm (goD (.int a) (.int b) ks) = true := by
  unfold goD
  refine sm_tup.mpr ⟨by simp, fun d hd => ?_⟩
  simp only [List.mem_cons, List.not_mem_nil, or_false] at hd
  rcases hd with rfl | rfl | rfl | rfl
  · decide +kernel
  · rfl
  · rfl
  · refine sm_tup.mpr ⟨by rw [List.length_map]; omega, fun d hd => ?_⟩
    obtain ⟨k, _, rfl⟩ := List.mem_map.mp hd
    rfl
theorem sm_hush {tot : Int} {ns gs : List Int} {rs : List Row} {es : List PyData} (pl' : Plain tot ns gs rs) (h : Posts rs es) (s : SmR rs) : SmR (hushR es rs) := fun r' hr' => by
  obtain ⟨r, m, rfl⟩ := hushR_mem hr'
  have hs := sm_tup.mp (s r m)
  refine sm_tup.mpr ⟨by rw [hushMs_len]; exact hs.1, fun d hd => ?_⟩
  obtain ⟨j, hj, rfl⟩ := hushMs_mem hd
  unfold hushM
  cases e : hit r.1 es j with
  | false => exact hs.2 _ (getD_mem hj)
  | true =>
    obtain ⟨a, b, z, ks, f⟩ := post_form ((pl'.ok r m).mv _ (getD_mem hj)) (hit_post pl'.nd h m e).2
    show sm (hushD _) = true
    rw [hush_post f]
    exact sm_go _ _ f.k5
theorem good_rows {tot : Int} {ns gs : List Int} {rs : List Row} (pl' : Plain tot ns gs rs) (s : SmR rs) : ∀ r ∈ rs, GoodRow r := fun r hr => good_row (pl'.ok r hr) (by have := pl'.t3; omega) (s r hr)
theorem posts_D {tot : Int} {ns gs : List Int} {rs : List Row} {es : List PyData} (pl' : Plain tot ns gs rs) (h : Posts rs es) : ∀ r ∈ rs, ∀ (i : Nat) m, r.2.2[i]? = some m → hit r.1 es i = true → PostD m := fun r hr i m hm e => by
  have em : r.2.2.getD i .none = m := by rw [List.getD_eq_getElem?_getD, hm]; rfl
  have hp := hit_post pl'.nd h hr e
  rw [em] at hp
  obtain ⟨a, b, z, ks, f⟩ := post_form ((pl'.ok r hr).mv m (List.mem_of_getElem? hm)) hp.2
  exact ⟨.int a, .int b, z, ks, f.eq, by have := f.k5; omega, rfl, rfl⟩
end My

namespace My
open PySem PySem.Spec PyProof.Rows L2 Sh Dt
theorem flatMap_congr' {α β : Type} {f g : α → List β} : ∀ {l : List α}, (∀ x ∈ l, f x = g x) → l.flatMap f = l.flatMap g
  | [], _ => rfl
  | a :: l, h => by
    rw [List.flatMap_cons, List.flatMap_cons, h a List.mem_cons_self, flatMap_congr' fun x hx => h x (List.mem_cons_of_mem _ hx)]
theorem hit_nil (z : Str) (j : Nat) : hit z [] j = false := rfl
theorem hushMs_nil (z : Str) (ms : List PyData) : hushMs z [] ms = ms := by
  refine List.ext_getElem? fun j => ?_
  by_cases h : j < ms.length
  · rw [hushMs_get h, List.getElem?_eq_getElem h]
    unfold hushM
    rw [hit_nil, List.getD_eq_getElem?_getD, List.getElem?_eq_getElem h]
    rfl
  · rw [List.getElem?_eq_none (by rw [hushMs_len]; omega), List.getElem?_eq_none (by omega)]
theorem hushR_nil (rs : List Row) : hushR [] rs = rs := by
  unfold hushR
  conv => rhs; rw [← List.map_id rs]
  exact List.map_congr_left fun r _ => by rw [hushMs_nil]; rfl
theorem hit_app (z : Str) (es fs : List PyData) (j : Nat) : hit z (es ++ fs) j = (hit z es j || hit z fs j) := by
  unfold hit
  rw [List.any_append]
theorem hushD_idem (m : PyData) : hushD (hushD m) = hushD m := by
  cases m with
  | tuple ds =>
    match ds with
    | [] => rfl
    | [_] => rfl
    | [_, _] => rfl
    | [_, _, _] => rfl
    | [_, _, _, _] => rfl
    | [_, _, _, _, _] => rfl
    | _ :: _ :: _ :: _ :: _ :: _ :: _ => rfl
  | _ => rfl
theorem hushMs_two (z : Str) (es fs ms : List PyData) : hushMs z fs (hushMs z es ms) = hushMs z (es ++ fs) ms := by
  refine List.ext_getElem? fun j => ?_
  by_cases h : j < ms.length
  · rw [hushMs_get (by rw [hushMs_len]; exact h), hushMs_get h]
    congr 1
    unfold hushM
    rw [hushMs_getD h, hit_app]
    unfold hushM
    cases hit z es j <;> cases hit z fs j <;> simp [hushD_idem]
  · rw [List.getElem?_eq_none (by rw [hushMs_len, hushMs_len]; omega), List.getElem?_eq_none (by rw [hushMs_len]; omega)]
theorem hushR_two (es fs : List PyData) (rs : List Row) : hushR fs (hushR es rs) = hushR (es ++ fs) rs := by
  unfold hushR
  rw [List.map_map]
  exact List.map_congr_left fun r _ => by
    show (r.1, r.2.1, hushMs r.1 fs (hushMs r.1 es r.2.2)) = _
    rw [hushMs_two]
/-- what kind a move is of when posts are left out -/
theorem word_hush {tot : Int} {ns gs : List Int} {rs : List Row} {es : List PyData} (pl' : Plain tot ns gs rs) (h : Posts rs es) {r : Row} (m : r ∈ rs) {j : Nat} (hj : j < r.2.2.length) :
    (hit r.1 es j = true → wordIs "post" (r.2.2.getD j .none) = true ∧ wordIs "call" (r.2.2.getD j .none) = false ∧ wordIs "post" (hushM r.1 es r.2.2 j) = false ∧ wordIs "call" (hushM r.1 es r.2.2 j) = false) ∧ (hit r.1 es j = false → hushM r.1 es r.2.2 j = r.2.2.getD j .none) := by
  refine ⟨fun e => ?_, fun e => by unfold hushM; rw [e]; rfl⟩
  have hp := (hit_post pl'.nd h m e).2
  obtain ⟨a, b, z, ks, f⟩ := post_form ((pl'.ok r m).mv _ (getD_mem hj)) hp
  have e2 : hushM r.1 es r.2.2 j = goD (.int (a : Int)) (.int (b : Int)) ks := by
    unfold hushM
    rw [e]
    exact hush_post f
  refine ⟨hp, ?_, ?_, ?_⟩
  · rw [f.eq]
    show PyData.eqv (.str "post") (.str "call") = false
    decide +kernel
  · rw [e2]
    show PyData.eqv (.str "go") (.str "post") = false
    decide +kernel
  · rw [e2]
    show PyData.eqv (.str "go") (.str "call") = false
    decide +kernel
theorem sites_call {tot : Int} {ns gs : List Int} {rs : List Row} {es : List PyData} (pl' : Plain tot ns gs rs) (h : Posts rs es) : sitesD "call" (hushR es rs) = sitesD "call" rs := by
  unfold sitesD hushR
  rw [List.flatMap_map]
  refine flatMap_congr' fun r m => ?_
  show sitesUp r.1 "call" (hushMs r.1 es r.2.2) (hushMs r.1 es r.2.2).length = _
  rw [hushMs_len]
  unfold sitesUp
  congr 1
  refine List.filter_congr fun j hj => ?_
  have hj := List.mem_range.mp hj
  obtain ⟨w1, w2⟩ := word_hush pl' h m hj
  rw [hushMs_getD hj]
  cases e : hit r.1 es j with
  | true => rw [(w1 e).2.2.2, (w1 e).2.1]
  | false => rw [w2 e]
def left (es : List PyData) (e : PyData) : Bool := !es.any fun g => PyData.eqv g e
theorem sites_post {tot : Int} {ns gs : List Int} {rs : List Row} {es : List PyData} (pl' : Plain tot ns gs rs) (h : Posts rs es) : sitesD "post" (hushR es rs) = (sitesD "post" rs).filter (left es) := by
  unfold sitesD hushR
  rw [List.flatMap_map, List.filter_flatMap]
  refine flatMap_congr' fun r m => ?_
  show sitesUp r.1 "post" (hushMs r.1 es r.2.2) (hushMs r.1 es r.2.2).length = _
  rw [hushMs_len]
  unfold sitesUp
  rw [List.filter_map, List.filter_filter]
  congr 1
  refine List.filter_congr fun j hj => ?_
  have hj := List.mem_range.mp hj
  obtain ⟨w1, w2⟩ := word_hush pl' h m hj
  rw [hushMs_getD hj]
  show _ = ((!hit r.1 es j) && wordIs "post" (r.2.2.getD j .none))
  cases e : hit r.1 es j with
  | true => rw [(w1 e).2.2.1]; rfl
  | false => rw [w2 e]; rfl
end My

namespace My
open PySem PySem.Spec PyProof.Rows L2 Sh Dt
theorem siteOf_P {rs : List Row} (nd : (rs.map (·.1)).Nodup) {r : Row} (m : r ∈ rs) (j : Nat) : siteOf rs (siteP r.1 j) = r.2.2[j]? := by
  show (findR rs r.1).bind _ = _
  rw [findR_self nd m]
  show (if 0 ≤ (j : Int) ∧ (j : Int) < (r.2.2.length : Nat) then r.2.2[(j : Int).toNat]? else none) = _
  by_cases h : j < r.2.2.length
  · rw [if_pos ⟨by omega, by omega⟩, Int.toNat_natCast]
  · rw [if_neg (fun z => h (by omega)), List.getElem?_eq_none (by omega)]
theorem postAt_P {rs : List Row} (nd : (rs.map (·.1)).Nodup) {r : Row} (m : r ∈ rs) {j : Nat} (h : j < r.2.2.length) : postAt rs (siteP r.1 j) = wordIs "post" (r.2.2.getD j .none) := by
  unfold postAt
  rw [siteOf_P nd m, List.getD_eq_getElem?_getD, List.getElem?_eq_getElem h]
  show _ = wordIs "post" (r.2.2[j])
  cases r.2.2[j] with
  | tuple ds => cases ds <;> rfl
  | _ => rfl
theorem postAt_of {rs : List Row} (nd : (rs.map (·.1)).Nodup) {e : PyData} (h : e ∈ sitesD "post" rs) : postAt rs e = true := by
  obtain ⟨r, m, j, hj, w, rfl⟩ := sitesD_mem.mp h
  rw [postAt_P nd m hj]
  exact w
theorem postAt_none {rs : List Row} {e : PyData} (h : siteOf rs e = none) : postAt rs e = false := by
  unfold postAt
  rw [h]
theorem nodup_sites (kind : Str) {rs : List Row} (nd : (rs.map (·.1)).Nodup) : (sitesD kind rs).Nodup := by
  unfold sitesD
  show List.Pairwise _ _
  rw [List.pairwise_flatMap]
  refine ⟨fun r _ => ?_, ?_⟩
  · unfold sitesUp
    rw [List.pairwise_map]
    refine (List.Pairwise.filter _ (List.nodup_range (n := r.2.2.length))).imp fun {a b} hab e => hab ?_
    have e : siteP r.1 a = siteP r.1 b := e
    have : PyData.eqv (siteP r.1 a) (siteP r.1 b) = true := by
      rw [e, eqv_site]
      simp
    rw [eqv_site, Bool.and_eq_true, decide_eq_true_iff, decide_eq_true_iff] at this
    exact this.2
  · have nd : List.Pairwise _ _ := nd
    rw [List.pairwise_map] at nd
    refine nd.imp fun {a b} hab x hx y hy e => hab ?_
    obtain ⟨i, _, _, rfl⟩ := sitesUp_mem.mp hx
    obtain ⟨j, _, _, rfl⟩ := sitesUp_mem.mp hy
    have : PyData.eqv (siteP a.1 i) (siteP b.1 j) = true := by
      rw [e, eqv_site]
      simp
    rw [eqv_site, Bool.and_eq_true, decide_eq_true_iff, decide_eq_true_iff] at this
    exact this.1
theorem left_iff {rs : List Row} {es : List PyData} (h : Posts rs es) {z : Str} {j : Nat} : left es (siteP z j) = true ↔ siteP z j ∉ es := by
  rw [← hit_iff h]
  show (!hit z es j) = true ↔ ¬ hit z es j = true
  cases hit z es j <;> simp
theorem left_post {tot : Int} {ns gs : List Int} {rs : List Row} {es : List PyData} (pl' : Plain tot ns gs rs) (h : Posts rs es) {e : PyData} (m : e ∈ sitesD "post" rs) (n : e ∉ es) : e ∈ sitesD "post" (hushR es rs) := by
  rw [sites_post pl' h]
  refine List.mem_filter.mpr ⟨m, ?_⟩
  obtain ⟨r, _, j, _, _, rfl⟩ := sitesD_mem.mp m
  exact (left_iff h).mpr n
theorem rowsEq_self {rs : List Row} (g : ∀ r ∈ rs, GoodRow r) : rowsEq rs rs = true := by
  unfold rowsEq
  rw [List.all_eq_true]
  intro i hi
  have hi := List.mem_range.mp hi
  unfold eqAt
  rw [List.getElem?_eq_getElem hi]
  exact rowEq_self (g _ (List.getElem_mem hi)).g
theorem eqvAll_get : ∀ {xs ys : List PyData} {j : Nat} {x y : PyData}, PyData.eqvAll xs ys = true → xs[j]? = some x → ys[j]? = some y → PyData.eqv x y = true
  | [], _, _, _, _, _, h, _ => by simp at h
  | _ :: _, [], _, _, _, _, _, h => by simp at h
  | a :: xs, b :: ys, 0, x, y, h, h1, h2 => by
    simp at h1 h2
    subst h1
    subst h2
    simp only [PyData.eqvAll, Bool.and_eq_true] at h
    exact h.1
  | a :: xs, b :: ys, j + 1, x, y, h, h1, h2 => by
    simp at h1 h2
    simp only [PyData.eqvAll, Bool.and_eq_true] at h
    exact eqvAll_get h.2 h1 h2
/-- one post more left out: not the same program -/
theorem rowsEq_less {tot : Int} {ns gs : List Int} {rs : List Row} {e : PyData} (pl' : Plain tot ns gs rs) (m : e ∈ sitesD "post" rs) : rowsEq (hushR [e] rs) rs = false := by
  have hp : Posts rs [e] := fun x hx => by rw [List.mem_singleton.mp hx]; exact m
  obtain ⟨r, mr, j, hj, w, rfl⟩ := sitesD_mem.mp m
  have hh : hit r.1 [siteP r.1 j] j = true := (hit_iff hp).mpr (by simp)
  obtain ⟨a, b, z, ks, f⟩ := post_form ((pl'.ok r mr).mv _ (getD_mem hj)) w
  cases q : rowsEq (hushR [siteP r.1 j] rs) rs with
  | false => rfl
  | true =>
    exfalso
    unfold rowsEq at q
    rw [List.all_eq_true] at q
    obtain ⟨i, hi⟩ := List.getElem?_of_mem mr
    have il := (List.getElem?_eq_some_iff.mp hi).1
    have qi := q i (List.mem_range.mpr (by rw [hushR_len]; exact il))
    unfold eqAt hushR at qi
    rw [List.getElem?_map, hi] at qi
    have qi : rowEq (r.1, r.2.1, hushMs r.1 [siteP r.1 j] r.2.2) r = true := qi
    unfold rowEq at qi
    simp only [Bool.and_eq_true] at qi
    have q2 : PyData.eqvAll (hushMs r.1 [siteP r.1 j] r.2.2) r.2.2 = true := by
      have := qi.2
      simpa [PyData.eqv] using this
    have q3 := eqvAll_get q2 (hushMs_get hj) (List.getElem?_eq_getElem hj)
    have e1 : r.2.2.getD j .none = r.2.2[j] := by rw [List.getD_eq_getElem?_getD, List.getElem?_eq_getElem hj]; rfl
    unfold hushM at q3
    rw [hh] at q3
    have q3 : PyData.eqv (hushD (r.2.2.getD j .none)) (r.2.2[j]) = true := q3
    rw [← e1, hush_post f, f.eq] at q3
    unfold goD at q3
    simp [PyData.eqv, PyData.eqvAll] at q3
/-- what is drawn in another order -/
theorem perm_data {H : Hp} {ws xs : List V} (p : ws.Perm xs) : ∀ {ds : List PyData}, DAll H xs ds → ∃ es, DAll H ws es ∧ es.Perm ds := by
  induction p with
  | nil =>
    intro ds h
    cases h
    exact ⟨[], .nil, List.Perm.refl _⟩
  | cons x p ih =>
    intro ds h
    cases h with
    | cons a b =>
      obtain ⟨es, h1, h2⟩ := ih b
      exact ⟨_, .cons a h1, h2.cons _⟩
  | swap x y l =>
    intro ds h
    cases h with
    | cons a b =>
      cases b with
      | cons b c => exact ⟨_, .cons b (.cons a c), List.Perm.swap _ _ _⟩
  | trans p q ih1 ih2 =>
    intro ds h
    obtain ⟨es, h1, h2⟩ := ih2 h
    obtain ⟨fs, h3, h4⟩ := ih1 h1
    exact ⟨fs, h3, h4.trans h2⟩
end My

namespace My
open PySem PySem.Spec PyProof.Rows L2 Sh Dt
def spShuffleV : Sp := fun vs H Q _ => ∃ (d l : Addr) (zs : List V), vs = [.ref d, .ref l] ∧ DieAt H d ∧ l ≠ d ∧ H l = some (.lst zs) ∧ zs.length ≤ 60 ∧ ∀ (p : Addr) (ws : List V) H', But d H H' → DieAt H' d → H p = none → H' p = some (.lst ws) → ws.Perm zs → Q (.ref p) H'
section
variable {P : Program} {w : World} {K : PySem.W.Frag} {mg : Str → Option Value} {base : Heap}
theorem ok_shuffleV {f f__law_cast : Addr} {fd fd__law_cast : FuncData} (F : Fun K "_law_shuffle" "_law_shuffle" s_law_shuffle f fd) (G__law_cast : FnOk P w K mg base CX0 1 f__law_cast fd__law_cast ["die", "total"] spCast) (F__law_cast : Fun K "_law_cast" "_law_cast" s_law_cast f__law_cast fd__law_cast) (b__law_cast : Binds K fd__law_cast ["die", "total"] []) (g__law_cast : mg "_law_cast" = some (.ref f__law_cast)) (m_list : mg "list" = none) (m_range : mg "range" = none) (m_len : mg "len" = none) :
    FnOk P w K mg base CX0 2 f fd ["die", "items"] spShuffleV := by
  refine F.ok sc_law_shuffle (fun vs H Q E h => ?_) (fun cdv A outer s H vs Q E hr h => ?_)
  · obtain ⟨d, l, zs, rfl, _⟩ := h
    rfl
  · obtain ⟨d, l, zs, rfl, hD, ld, hl, n60, q⟩ := h
    refine ⟨_, (pss_cons (ps_set (i := 2) sc_law_shuffle.nd rfl (by first | exact Or.inl rfl | exact Or.inr rfl) (pe_callTy call_list_of (by rfl) m_list (by decide +kernel) (pa_cons (pv 1) pa_nil)))
      (pss_one (ps_ret (pe_lc (own := [("turn", 3)]) (g := (gName 3)) (tt := tYes) rfl sc_law_shuffle.nd (pi_range1 rfl m_range (pa_cons (pe_callB call_len_seq (by rfl) m_len (by decide +kernel) (pa_cons (pv 1) pa_nil)) pa_nil)) (blkOk_by (N := Nlaw_shuffle) (sc := defScope s_law_shuffle) (by decide +kernel))
      (fun _ _ _ _ _ => (pg_name (i := 3) sc_law_shuffle.nd rfl (Or.inl rfl))) (fun _ _ _ _ _ => pts_nil) (fun _ _ _ _ _ => (show PE _ _ (tBM K "list" rPopAt _ _) from (pe_bm (r := rPopAt) (id := "list.pop") PySem.F.plainAttrs_list PySem.F.slot_list_pop PySem.F.type_list_pop mt_popAtR (pv 2) (pa_cons (pe_call G__law_cast (hr.mono (by decide)) (by rfl) g__law_cast F__law_cast.kp b__law_cast .nil pass0 (pa_cons (pv 0) (pa_cons (pe_callB (id := "len") (r := rLenS K) call_len_seq (by rfl) m_len (by decide +kernel) (pa_cons (pv 2) pa_nil)) pa_nil))) pa_nil)))))))), ?_⟩
    refine ⟨_, rfl, l, _, rfl, .inl (.inl (.inl hl)), fun B nB => ?_⟩
    have lB : l ≠ B := fun z => by
      rw [z, nB] at hl
      cases hl
    have nBd : B ≠ d := hD.free nB
    refine ⟨_, rfl, l, _, rfl, .inl (.inl (.inl (upd_keep hl nB))), _, rfl, by omega, by omega, fun D0 nD => ?_⟩
    rw [Int.toNat_natCast]
    have nDd : D0 ≠ d := (hD.new nB).free nD
    have DB : D0 ≠ B := fun z => by
      rw [z, upd_same] at nD
      cases nD
    have nD0 : H D0 = none := by
      rw [upd_ne DB] at nD
      exact nD
    refine lc_range (lo := 0) (n := zs.length) (fun i H1 => But d H H1 ∧ DieAt H1 d ∧ ∃ ps as : List V, H1 B = some (.lst (ps)) ∧ H1 D0 = some (.lst (as)) ∧ ps.length + i = zs.length ∧ as.length = i ∧ (∀ z ∈ ps, z ∈ zs) ∧ (∀ z ∈ as, z ∈ zs) ∧ (as ++ ps).Perm zs) ⟨((But.refl d H).new nB).new nD, (hD.new nB).new nD, zs, [], upd_keep upd_same nD, upd_same, rfl, rfl, fun z hz => hz, (fun z hz => nomatch hz), List.Perm.refl _⟩ (fun i H1 hi hq => ?_) (fun H1 hq => ?_)
    · obtain ⟨b1, d1, ps, as, hB, hA, l1, l2, m1, m2, pm⟩ := hq
      refine ⟨rfl, _, rfl, .inl ⟨rfl, _, .inl (.inl hB)⟩, _, rfl, _, rfl, B, _, rfl, .inl (.inl (.inl hB)), d, _, rfl, d1, by omega, by omega, fun r H2 hr2 hN => ?_⟩
      skip
      have hr3 : r < ps.length := by omega
      have hB2 := (hN.ne nBd).trans hB
      have hA2 := (hN.ne nDd).trans hA
      refine ⟨B, ps, (r : Int), r, ps[r], rfl, rfl, hB2, by omega, by omega, ?_, List.getElem?_eq_getElem hr3, ?_⟩
      · exact seq_nat hr3
      · refine ⟨as, (upd_ne DB).trans hA2, small1000 (by omega), ?_, (hN.die.put nBd).put nDd, ps.eraseIdx r, as ++ [ps[r]], ?_, ?_, ?_, ?_, fun z hz => m1 z (List.mem_of_mem_eraseIdx hz), fun z hz => ?_, ?_⟩
        · exact ((b1.trans hN.but).put nB).put nD0
        · rw [upd_ne DB.symm, upd_same]
        · rw [upd_same]
        · rw [List.length_eraseIdx_of_lt hr3]
          omega
        · rw [List.length_append, l2]
          rfl
        · rcases List.mem_append.mp hz with hz | hz
          · exact m2 z hz
          · rw [List.mem_singleton.mp hz]
            exact m1 _ (List.getElem_mem hr3)
        · refine List.Perm.trans ?_ pm
          rw [List.append_assoc]
          exact List.Perm.append_left as (erase_perm ps r hr3)
    · obtain ⟨b1, d1, ps, as, hB, hA, l1, l2, m1, m2, pm⟩ := hq
      have p0 : ps = [] := List.length_eq_zero_iff.mp (by omega)
      rw [p0, List.append_nil] at pm
      exact q D0 as H1 b1 d1 nD0 hA pm
end
end My

/-! a helper that tells how a call was refused, by the error of sites alone -/
namespace Cn
open PySem PySem.Spec PyProof.Rows L2 Sh Eo LamX Xc Cl
structure MetS (K : PySem.W.Frag) (mg : Str → Option Value) (Cs : Addr) : Prop where
  gs : mg "UnknownSite" = some (.ref Cs)
  xs : XfC K Cs
  ns : PySem.W.findIn K (.ref Cs) "site" = some none
  s1 : PySem.W.exmOne K (.ref Cs) (.ref Cs) = some true
def metES (Cs : Addr) (Q : VK) : XK := fun cls d H => cls = .ref Cs ∧ fldB "site" d H Q
def TMetS (Cs : Addr) : (XK → Hp → VK → Prop) → Hp → VK → Prop := fun tl H Q => tl (metES Cs Q) H Q
section
variable {X : Cx}
theorem metS_gives {Ng : List Str} {nm a e q : Str} {sg : Scope} {g Cs : Addr} {cdg : Value} {j3 k2 : Nat} {p1 p2 p3 r1 r2 r3 r4 r5 r6 r7 pp : Pos} (T : MetS X.K X.mg Cs)
    (h3 : sg.names.lookup ("UnknownSite" : Str) = some .globalImplicit)
    (nd : Ng.Nodup) (hi : Ng[1]? = some e) (hle : sg.names.lookup e = some .local) (h0 : ∀ f : Addr, (L2.start Ng [V.ref f])[0]? = some (some (V.ref f)))
    (he1 : (e == ("__debug__" : Str)) = false) (he2 : (e == ("__classdict__" : Str)) = false) (hne : Ng.length = 2) :
    GivesTo X Ng nm sg g cdg [.Try [.Return (some (.Call (.Name a p1) [] [] p2)) p3] [
      .ExceptHandler (some (.Name "UnknownSite" r1)) (some e) [.Return (some (.Tuple [.Constant (.str "site") j3 r2, .Attribute (.Name e r3) "site" r4] k2 r5)) r6] r7] [] [] pp] a q (TMetS Cs) := by
  intro f c' s H Q tl act hc h
  let Z : Cx := (cxOf C8.CX0 X.prog X.w X.K X.mg X.base Ng nm sg g cdg X.A X.stack s H C8.E0).nox
  have g3 : Gl Z "UnknownSite" := h3
  have named : ∀ {C : Addr} {fd : Str} {jj kk : Nat} {b1 b2 b3 b4 b5 : Pos}, XfC X.K C → PySem.W.findIn X.K (.ref C) fd = some none → SuiteOk Z [.Return (some (.Tuple [.Constant (.str fd) jj b1, .Attribute (.Name e b2) fd b3] kk b4)) b5] fun a cls d D σ H => cls = .ref C ∧ (1 < σ.length → σ[1]? = some (some (.ref a))) ∧ fldB fd d H D.rt := fun {C fd jj kk b1 b2 b3 b4 b5} TX hno a oe cls d pn hz hf => by
    refine ⟨fun pins s' σ H' D I h' => ?_⟩
    obtain ⟨rfl, k1, dd, v, rfl, k2, k3⟩ := h'
    have ln : 1 < σ.length := by
      have := I.len
      have e1 : σ.length = Ng.length := this
      omega
    have hv : PE (Z.suite a ((a, oe) :: pn)) (.Name e b2) _ := pe_var (i := 1) hi (.inl hle) he1 he2
    have hx : PE (Z.suite a ((a, oe) :: pn)) (.Attribute (.Name e b2) fd b3) _ := pe_xf (X := Z) TX hno hz hf hv
    have hc : PE (Z.suite a ((a, oe) :: pn)) (.Constant (.str fd) jj b1) _ := pe_str
    have ht : PE (Z.suite a ((a, oe) :: pn)) (.Tuple [.Constant (.str fd) jj b1, .Attribute (.Name e b2) fd b3] kk b4) _ := pe_tup (pa_cons hc (pa_cons hx pa_nil))
    refine (pss_one (ps_ret (pos := b5) ht)).run pins s' σ H' D I ?_
    exact ⟨_, k1 ln, rfl, rfl, dd, _, v, rfl, k2, by simp [List.lookup], len_ok, fun p np => k3 p np⟩
  refine ⟨_, pss_one (ps_try_any (X := Z) (Wout := fun _ _ _ _ => False)
      (l := [(.ref Cs, some 1, fun a cls d D σ H => cls = .ref Cs ∧ (1 < σ.length → σ[1]? = some (some (.ref a))) ∧ fldB "site" d H D.rt)])
      (tb := fun W D σ H => ∃ Ech : XK, (∀ cls d σ' H', Ech cls d H' → W cls d σ' H') ∧ σ[0]? = some (some (.ref f)) ∧ H c' = some (CodeO c' q) ∧ tl Ech H D.rt)
      rfl rfl L2.takes0 (fun W pn xe tk _ => ?_) (.named ⟨g3, by decide, .inl T.gs⟩ nd hi hle (named T.xs T.ns) .nil)), ?_⟩
  · refine ⟨fun pins s' σ H' D I h' => ?_⟩
    obtain ⟨Ech, hW, k1, k2, k3⟩ := h'
    exact (pss_one (ps_ret (pos := p3) (act W pn xe Ech p1 p2 tk hW))).run pins s' σ H' D I ⟨k1, k2, k3⟩
  · refine ⟨metES Cs Q, fun cls d σ' H' hw => ?_, h0 f, hc, h⟩
    have s1 : ∀ a : Addr, 1 < (σ'.set 1 (some (.ref a))).length → (σ'.set 1 (some (V.ref a)))[1]? = some (some (.ref a)) := fun a hl => List.getElem?_set_self (by rw [List.length_set] at hl; exact hl)
    obtain ⟨rfl, hq⟩ := hw
    exact ⟨true, T.s1, fun _ a ha => ⟨rfl, s1 a, hq⟩, fun z => nomatch z⟩
end
end Cn

/-! != of two tuples of the same items, objects of any kind among them -/
namespace Sm
open PySem PySem.Spec PyProof.Rows L2 PySem.SeqAt
def OneV (v : V) : Prop := (flatV v = true ∧ eqV v v = true) ∨ ∃ a, v = .ref a
def rNeSame (K : PySem.W.Frag) : R2 := fun x y H Q => ∃ p q xs, x = .ref p ∧ y = .ref q ∧ SqT K H p xs ∧ SqT K H q xs ∧ (∀ v ∈ xs, OneV v) ∧ Q (.bl false) H
theorem op_neSame {X : Cx} (hu : X.A.units + 64 < cLine) : OpR X (compareOp .NotEq) (rNeSame X.K) := by
  intro pins s σ H x y v u Q I rx ry h
  obtain ⟨p, q, xs, rfl, rfl, hp, hq, ho, qq⟩ := h
  cases rx
  cases ry
  obtain ⟨its, r, e1, z1⟩ := I.tuple hp
  obtain ⟨its2, r2, e2, z2⟩ := I.tuple hq
  have l1 := r.length
  have l2 := r2.length
  have hs : its.toArray.size = its2.toArray.size := by rw [List.size_toArray, List.size_toArray, ← l1, ← l2]
  show wpAny (model X.prog X.w) X.A (richCompare .NotEq (.ref p) (.ref q)) (EP X pins σ Q) X.xe s
  refine RcNeAt.tuples (e := fun _ => true) e1 e2 (by omega) (fun j h1 h2 => ?_) X.prog X.w X.xe _ ?_
  · have k1 : j < xs.length := by rw [l1]; simpa using h1
    obtain ⟨a, ha, ra⟩ := r.get (List.getElem?_eq_getElem k1)
    obtain ⟨b, hb, rb⟩ := r2.get (List.getElem?_eq_getElem k1)
    have g1 : its.toArray[j] = a := by
      have h1' : j < its.length := by simpa using h1
      rw [List.getElem?_eq_getElem h1'] at ha
      simpa using ha
    have g2 : its2.toArray[j] = b := by
      have h2' : j < its2.length := by simpa using h2
      rw [List.getElem?_eq_getElem h2'] at hb
      simpa using hb
    rw [g1, g2]
    rcases ho _ (List.getElem_mem k1) with ⟨f, e⟩ | ⟨c, e⟩
    · have := eqAt_V (A := X.A.in1) (s := s) ra rb f f
      rw [e] at this
      exact this
    · rw [e] at ra rb
      cases ra
      cases rb
      exact EqAt.same _
  · rw [hs]
    refine ⟨.bl false, H, I, ?_, qq⟩
    show _ = _
    simp
end Sm

namespace My
open PySem PySem.Spec PyProof.Rows L2 Sh Dt
open Eo (FnG pe_callG fnG_ok)
open LamX (Tabs ExtN TabB pe_lamcall lamS_by)
open Cl (ErrC)
open Xc (ExtD spRightT spLawT tabs_but tabs_same)
abbrev iD (ns : List Int) : PyData := .tuple (ns.map PyData.int)
theorem starts_sm {tot : Int} {ns gs : List Int} {rs : List Row} (pl' : Plain tot ns gs rs) : sm (iD ns) = true ∧ sm (iD gs) = true :=
  ⟨(ints_ok pl'.s5 fun k hk => ⟨(pl'.sn k hk).1, by have := (pl'.sn k hk).2; have := pl'.t3; omega⟩).2.2, (ints_ok (ns := gs) (by have := pl'.gl; have := pl'.r3; omega) fun k hk => ⟨(pl'.g2 k hk).1, by have := (pl'.g2 k hk).2; omega⟩).2.2⟩
theorem made_ok {C Cg V1 : Addr} {G : Hp} {Q : VK} {E : XK} {tot : Int} {ns gs : List Int} {rs : List Row} (pl' : Plain tot ns gs rs) (s : SmR rs) (hp : PlainAt G V1 tot ns gs rs) (qq : ∀ G' a, Same G G' → G a = none → Pg C Cg G' a tot (iD ns) (iD gs) rs → Q (.ref a) G') : spMade C Cg [.ref V1] G Q E := by
  obtain ⟨va, vb, R, bs, e1, e2, e3, e4, e5⟩ := hp
  have ss := starts_sm pl'
  have gr := good_rows pl' s
  exact ⟨V1, va, vb, R, bs, tot, _, _, rs, rfl, e1, e2, e3, ss.1, ss.2, e4, e5, by have := pl'.r3; omega, gr, goodG_plain pl' gr, qq⟩
theorem posts_plain {rs : List Row} : ∀ {es : List PyData}, Posts rs es → PyData.plainAll es = true
  | [], _ => rfl
  | e :: es, h => by
    obtain ⟨r, _, j, _, _, rfl⟩ := h.site List.mem_cons_self
    simp only [PyData.plainAll, Bool.and_eq_true]
    exact ⟨rfl, posts_plain fun x hx => h x (List.mem_cons_of_mem _ hx)⟩
theorem bared_ok {V0 S : Addr} {G : Hp} {Q : VK} {E : XK} {tot : Int} {ns gs : List Int} {rs : List Row} {xs : List V} {es : List PyData} (pl' : Plain tot ns gs rs) (h : Posts rs es) (hp : PlainAt G V0 tot ns gs rs) (hS : G S = some (.tup xs) ∨ G S = some (.lst xs)) (ha : DAll G xs es) (qq : ∀ G' V1, Same G G' → PlainAt G' V1 tot ns gs (hushR es rs) → Q (.ref V1) G') : spBared [.ref V0, .ref S] G Q E := by
  obtain ⟨va, vb, R, bs, e1, e2, e3, e4, e5⟩ := hp
  refine ⟨V0, S, va, vb, R, bs, tot, rs, xs, es, rfl, e1, e4, e5, by have := pl'.r3; omega, fun r hr => by have := (pl'.ok r hr).hi; omega, hS, ha, posts_plain h, posts_D pl' h, fun H' V1 R' bs' s h1 h2 h3 => qq H' V1 s ⟨va, vb, R', bs', h1, e2.same s, e3.same s, h2, h3⟩⟩
theorem posts_sm {tot : Int} {ns gs : List Int} {rs : List Row} {es : List PyData} (pl' : Plain tot ns gs rs) (h : Posts rs es) : ∀ e ∈ es, sm e = true := fun e he => by
  obtain ⟨r, m, j, _, _, rfl⟩ := h.site he
  exact sm_tup.mpr ⟨by simp, fun d hd => by
    simp only [List.mem_cons, List.not_mem_nil, or_false] at hd
    rcases hd with rfl | rfl
    · exact (pl'.ok r m).nm.2
    · rfl⟩
theorem without_ok {K : PySem.W.Frag} {C Cg Cs a p : Addr} {G : Hp} {Q : VK} {E : XK} {tot : Int} {ns gs : List Int} {rs : List Row} {xs : List V} {es : List PyData} (pl' : Plain tot ns gs rs) (s : SmR rs) (h : Posts rs es) (pg : Pg C Cg G a tot (iD ns) (iD gs) rs) (hp : G p = some (.tup xs)) (ha : DAll G xs es) (qq : ∀ G' a', Same G G' → G a' = none → Pg C Cg G' a' tot (iD ns) (iD gs) (hushR es rs) → Q (.ref a') G') : spWithout K C Cg Cs [.ref a, .ref p] G Q E := by
  have gr' := good_rows (plain_hush pl' h) (sm_hush pl' h s)
  refine ⟨a, .ref p, tot, _, _, rs, rfl, pg, good_rows pl' s, .inr ⟨p, xs, es, rfl, hp, ha, posts_sm pl' h, fun _ => ⟨posts_plain h, posts_D pl' h, gr', goodG_plain (plain_hush pl' h) gr', qq⟩, fun i x e _ he hf _ => ?_⟩⟩
  have := postAt_of pl'.nd (h e (List.mem_of_getElem? he))
  rw [this] at hf
  cases hf
theorem without_bad {K : PySem.W.Frag} {C Cg Cs a p : Addr} {G : Hp} {Q : VK} {E : XK} {tot : Int} {ns gs : List Int} {rs : List Row} {xs : List V} {es : List PyData} {vo : V} {eo : PyData} (pl' : Plain tot ns gs rs) (s : SmR rs) (h : Posts rs es) (pg : Pg C Cg G a tot (iD ns) (iD gs) rs) (hp : G p = some (.tup (xs ++ [vo, .non]))) (ha : DAll G xs es) (ho : D G vo eo) (so : sm eo = true) (no : postAt rs eo = false) (qq : ∀ dd H', Same G H' → H' dd = some (.xd [("site", vo)]) → E (.ref Cs) (some dd) H') : spWithout K C Cg Cs [.ref a, .ref p] G Q E := by
  have la := ha.len
  refine ⟨a, .ref p, tot, _, _, rs, rfl, pg, good_rows pl' s, .inr ⟨p, _, es ++ [eo, .none], rfl, hp, DAll.app (.cons ho (.cons .non .nil)) ha, fun e he => ?_, fun al => ?_, fun i x e hx he hf hb => ?_⟩⟩
  · rcases List.mem_append.mp he with he | he
    · exact posts_sm pl' h e he
    · simp only [List.mem_cons, List.not_mem_nil, or_false] at he
      rcases he with rfl | rfl
      · exact so
      · rfl
  · have := al eo (by simp)
    rw [this] at no
    cases no
  · by_cases h1 : i < es.length
    · rw [List.getElem?_append_left h1] at he
      rw [postAt_of pl'.nd (h e (List.mem_of_getElem? he))] at hf
      cases hf
    · by_cases h2 : i = es.length
      · have : x = vo := by
          rw [h2, ← la, List.getElem?_append_right (Nat.le_refl _)] at hx
          simp at hx
          exact hx.symm
        rw [this]
        exact qq
      · have := hb eo (by
          rw [List.take_append, List.take_of_length_le (by omega)]
          obtain ⟨k, hk⟩ : ∃ k, i - es.length = k + 1 := ⟨i - es.length - 1, by omega⟩
          rw [hk]
          simp)
        rw [this] at no
        cases no
theorem without_type {K : PySem.W.Frag} {C Cg Cs a : Addr} {G : Hp} {Q : VK} {E : XK} {tot : Int} {ns gs : List Int} {rs : List Row} {v : V} {T : Value} (pl' : Plain tot ns gs rs) (s : SmR rs) (pg : Pg C Cg G a tot (iD ns) (iD gs) rs) (ty : TyX K G v T) (k : PySem.W.kitOne K T (.type "tuple") = some false) (qq : ∀ dd H', Same G H' → H' dd = some (.xd [("site", v)]) → E (.ref Cs) (some dd) H') : spWithout K C Cg Cs [.ref a, v] G Q E :=
  ⟨a, v, tot, _, _, rs, rfl, pg, good_rows pl' s, .inl ⟨T, ty, k, qq⟩⟩
theorem eqGB {K : PySem.W.Frag} {C Cg a b : Addr} {G : Hp} {Q : VK} {E : XK} {tot : Int} {ns gs : List Int} {rs rs' : List Row} {t : Bool} (pg : Pg C Cg G a tot (iD ns) (iD gs) rs) (pg' : Pg C Cg G b tot (iD ns) (iD gs) rs') (l : rs.length = rs'.length) (e : rowsEq rs rs' = t) (q : ∀ H', Same G H' → Q (.bl t) H') : spEqGB K C Cg [.ref a, .ref b] G Q E := by
  subst e
  exact ⟨a, b, tot, _, _, rs, rs', rfl, pg, pg', l, (tupleP ns).1, (tupleP gs).1, (tupleP ns).2, (tupleP gs).2, q⟩
theorem ne_same {K : PySem.W.Frag} {C Cg a b : Addr} {G : Hp} {Q : VK} {E : XK} {tot : Int} {ns gs : List Int} {rs : List Row} (gr : ∀ r ∈ rs, GoodRow r) (pg : Pg C Cg G a tot (iD ns) (iD gs) rs) (pg' : Pg C Cg G b tot (iD ns) (iD gs) rs) (q : ∀ H', Same G H' → Q (.bl false) H') : _root_.Cn.rNeS Cg (spEqGB K C Cg) E (.ref a) (.ref b) G Q := by
  have p := pg
  have p' := pg'
  obtain ⟨dx, _, _, _, _, _, _, _, h1, _⟩ := p
  obtain ⟨dy, _, _, _, _, _, _, _, h2, _⟩ := p'
  exact ⟨a, dx, _, b, dy, _, rfl, rfl, h1, h2, eqGB pg pg' rfl (rowsEq_self gr) fun H' s => ⟨true, rfl, q H' s⟩⟩
theorem eq_any {K : PySem.W.Frag} {mg : Str → Option Value} {mcg : Value} {C Cg fIg fOg pOg fEg fLg fSg fGg fCg fMg fHg pg1 gg1 pg2 gg2 pg3 gg3 pg4 gg4 pg5 gg5 pg6 gg6 pg7 gg7 : Addr} (cg : PgmC K mg Cg fIg fOg pOg fEg fLg fSg fGg fCg fMg fHg pg1 gg1 pg2 gg2 pg3 gg3 pg4 gg4 pg5 gg5 pg6 gg6 pg7 gg7 mcg) {a b : Addr} {G : Hp} {Q : VK} {E : XK} {tot : Int} {ns gs : List Int} {rs rs' : List Row} {t : Bool} (pg : Pg C Cg G a tot (iD ns) (iD gs) rs) (pg' : Pg C Cg G b tot (iD ns) (iD gs) rs') (l : rs.length = rs'.length) (e : rowsEq rs rs' = t) (q : ∀ H', Same G H' → Q (.bl t) H') : Ow.rEqO K Cg (spEqGB K C Cg) E (.ref a) (.ref b) G Q := by
  have p := pg
  have p' := pg'
  obtain ⟨dx, _, _, _, _, _, _, _, h1, _⟩ := p
  obtain ⟨dy, _, _, _, _, _, _, _, h2, _⟩ := p'
  exact ⟨a, dx, _, .ref Cg, rfl, h1, .base (.ins h2 cg.cls cg.c1 cg.c2 cg.c3 cg.c4), by unfold PySem.W.notFirst; simp, eqGB pg pg' l e q⟩
end My

namespace My
open PySem PySem.Spec PyProof.Rows L2 Sh Dt
open Eo (FnG pe_callG fnG_ok)
open LamX (Tabs ExtN TabB pe_lamcall lamS_by)
open Cl (ErrC)
open Xc (ExtD spRightT spLawT tabs_but tabs_same)
abbrev s_law_met : Stmt := topS 46
theorem sc_law_met : FnScope Nlaw_met ["call"] (defScope s_law_met) := ⟨rfl, rfl, rfl, by decide +kernel, rfl, by decide +kernel, by decide +kernel⟩
abbrev s_law_right : Stmt := topS 48
abbrev Nlaw_right : List Str := ["die", "plain", "program", "first", "posts", "bare", "gone", "site", "before", "some", "others", "name", "points", "moves", "odd", "wrong", "one", "turn", "at"]
theorem sc_law_right : FnScope Nlaw_right ["die"] (defScope s_law_right) := ⟨rfl, rfl, rfl, by decide +kernel, rfl, by decide +kernel, by decide +kernel⟩
theorem sub_hide {E0 E1 ES : Hp} {d L : Addr} (n : E0 L = none) (s : Same E0 E1) (b : But d E1 ES) : Same (hide [d] E0) (hide [d] (hide [L] ES)) := fun c o e => by
  obtain ⟨h1, h2⟩ := hide_in e
  have h1' : c ≠ d := by simpa using h1
  exact hide_some h1 (hide_some (by simp only [List.mem_singleton]; exact ne_of_none h2 n) (b c o h1' (s _ _ h2)))
theorem tabs_hide {T : List (Addr × Str)} {H : Hp} {M : Addr} {ys : List V} (h : H M = some (.lst ys)) (t : Tabs T H) : Tabs T (hide [M] H) := fun p hp => by
  have ne : ∀ {b : Addr} {u : HO}, H b = some u → u ≠ .lst ys → b ∉ [M] := fun e hn z => by
    rw [List.mem_singleton.mp z, h] at e
    exact hn (Option.some.inj e).symm
  obtain ⟨ps, h1, h2, h3⟩ := t p hp
  refine ⟨ps, hide_some (ne h1 fun z => by cases z) h1, h2, fun pos cv hc => ?_⟩
  obtain ⟨c, e1, e2⟩ := h3 pos cv hc
  exact ⟨c, e1, hide_some (ne e2 fun z => by unfold LamX.CodeO at z; cases z) e2⟩
theorem posts_nl {rs : List Row} {kind : Str} : nlAll (sitesD kind rs) = true := nlAll_mem.mpr fun e he => by
  obtain ⟨r, _, j, _, _, rfl⟩ := sitesD_mem.mp he
  rfl
theorem posts_few {tot : Int} {ns gs : List Int} {rs : List Row} (pl' : Plain tot ns gs rs) (kind : Str) : (sitesD kind rs).length ≤ 15 := by
  have h1 : ∀ {z : Str} {ms : List PyData} {n : Nat}, (sitesUp z kind ms n).length ≤ n := fun {z ms n} => by
    unfold sitesUp
    rw [List.length_map]
    exact Nat.le_trans (List.length_filter_le _ _) (by rw [List.length_range]; exact Nat.le_refl _)
  have h2 : ∀ {k : Nat} {rs : List Row}, (∀ r ∈ rs, r.2.2.length ≤ 5) → rs.length ≤ k → (sitesD kind rs).length ≤ k * 5 := fun {k rs} h l => by
    induction rs generalizing k with
    | nil => simp [sitesD]
    | cons r rs ih =>
      obtain ⟨j, rfl⟩ : ∃ j, k = j + 1 := ⟨k - 1, by simp at l; omega⟩
      have a := ih (k := j) (fun q hq => h q (List.mem_cons_of_mem _ hq)) (by simpa using l)
      have b := h r List.mem_cons_self
      have c := h1 (z := r.1) (ms := r.2.2) (n := r.2.2.length)
      have e : sitesD kind (r :: rs) = sitesUp r.1 kind r.2.2 r.2.2.length ++ sitesD kind rs := by simp [sitesD]
      rw [e, List.length_append, Nat.succ_mul]
      omega
  exact h2 (k := 3) (fun r hr => (pl'.ok r hr).hi) pl'.r3
theorem pg_hideL {C Cg d a : Addr} {H : Hp} {n : Int} {ns gs : List Int} {rs : List Row} {zs : List V} (hM : H d = some (.lst zs)) (gr : ∀ r ∈ rs, GoodRow r) (h : Pg C Cg H a n (iD ns) (iD gs) rs) : Pg C Cg (hide [d] H) a n (iD ns) (iD gs) rs := by
  have out : ∀ {b : Addr} {o : HO}, H b = some o → (∀ ys, o ≠ .lst ys) → hide [d] H b = some o := fun {b o} e n => hide_some (by
    simp only [List.mem_singleton]
    exact fun z => by
      rw [z, hM] at e
      exact n _ (Option.some.inj e).symm) e
  have dn : ∀ {v : V} {e : PyData}, D H v e → nl e = true → D (hide [d] H) v e := fun h n => nl_hide hM (h.same fun b o e => hide_some (by simp) e) n
  obtain ⟨dx, sv, bv, t, xs, u, l, m, h1, h2, h3, h4, h5, ⟨o, od, h6⟩, g⟩ := h
  refine ⟨dx, sv, bv, t, xs, u, l, m, out h1 (fun _ z => by cases z), dn h2 (nl_ints ns), dn h3 (nl_ints gs), out h4 (fun _ z => by cases z), ?_, ⟨o, od, out h6 (fun _ z => by cases z)⟩, g⟩
  clear h4 h6 g
  induction h5 with
  | nil => exact .nil
  | @cons b r vs rs p _ ih =>
    obtain ⟨dy, tb, us, p1, p2, p3, pg⟩ := p
    exact .cons ⟨dy, tb, us, out p1 (fun _ z => by cases z), out p2 (fun _ z => by cases z), nl_hideAll hM (p3.same fun b o e => hide_some (by simp) e) (gr r (by simp)).nl, pg⟩ (ih fun q hq => gr q (by simp [hq]))
theorem nodup_take {es : List PyData} (n : es.Nodup) {i : Nat} {e : PyData} (h : es[i]? = some e) : e ∉ es.take i := fun m => by
  obtain ⟨j, hj⟩ := List.mem_iff_getElem?.mp m
  obtain ⟨hi, ei⟩ := List.getElem?_eq_some_iff.mp h
  obtain ⟨hj1, ej⟩ := List.getElem?_eq_some_iff.mp hj
  rw [List.length_take] at hj1
  rw [List.getElem_take] at ej
  exact (List.pairwise_iff_getElem.mp n) j i (by omega) hi (by omega) (ej.trans ei.symm)
theorem posts_left {tot : Int} {ns gs : List Int} {rs : List Row} {es fs : List PyData} (pl' : Plain tot ns gs rs) (h : Posts rs es) (g : Posts rs fs) (n : ∀ e ∈ fs, e ∉ es) : Posts (hushR es rs) fs := fun e he => left_post pl' h (g e he) (n e he)
abbrev gFs (n : Int) (sv bv : V) (t u l m : Addr) : List (Str × V) := [("_modes", .int n), ("_starts", sv), ("_begin", bv), ("_procedures", .ref t), ("_names", .ref u), ("lore", .ref l), ("notes", .ref m)]
theorem pg_ins {C Cg a : Addr} {H : Hp} {n : Int} {ds db : PyData} {rs : List Row} (h : Pg C Cg H a n ds db rs) : ∃ dx sv bv t u l m, H a = some (.ins Cg dx (gFs n sv bv t u l m)) := by
  obtain ⟨dx, sv, bv, t, xs, u, l, m, h1, _⟩ := h
  exact ⟨dx, sv, bv, t, u, l, m, h1⟩
theorem sd_ok {tot : Int} {ns gs : List Int} {rs : List Row} (pl' : Plain tot ns gs rs) (kind : Str) : ((PyData.list (sitesD kind rs)).plain = true ∧ (PyData.list (sitesD kind rs)).depth ≤ 60 ∧ sm (.list (sitesD kind rs)) = true) ∧ ((PyData.tuple (sitesD kind rs)).plain = true ∧ (PyData.tuple (sitesD kind rs)).depth ≤ 60 ∧ sm (.tuple (sitesD kind rs)) = true) := by
  have l := posts_few pl' kind
  have s : ∀ e ∈ sitesD kind rs, sm e = true := fun e he => by
    obtain ⟨r, m, j, _, _, rfl⟩ := sitesD_mem.mp he
    exact sm_tup.mpr ⟨by simp, fun d hd => by
      simp only [List.mem_cons, List.not_mem_nil, or_false] at hd
      rcases hd with rfl | rfl
      · exact (pl'.ok r m).nm.2
      · rfl⟩
  have p : ∀ {es : List PyData}, (∀ e ∈ es, ∃ z j, e = siteP z j) → PyData.plainAll es = true ∧ PyData.depthAll es ≤ 2 := fun {es} h => by
    induction es with
    | nil => exact ⟨rfl, by simp [PyData.depthAll]⟩
    | cons e es ih =>
      obtain ⟨z, j, rfl⟩ := h e List.mem_cons_self
      obtain ⟨a, b⟩ := ih fun x hx => h x (List.mem_cons_of_mem _ hx)
      refine ⟨by simp only [PyData.plainAll, Bool.and_eq_true]; exact ⟨rfl, a⟩, ?_⟩
      simp only [PyData.depthAll]
      exact Nat.max_le.mpr ⟨by simp [siteP, PyData.depth, PyData.depthAll], b⟩
  obtain ⟨a, b⟩ := p (es := sitesD kind rs) fun e he => by
    obtain ⟨r, m, j, _, _, rfl⟩ := sitesD_mem.mp he
    exact ⟨_, _, rfl⟩
  refine ⟨⟨by simpa [PyData.plain] using a, by simp only [PyData.depth]; omega, ?_⟩, by simpa [PyData.plain] using a, by simp only [PyData.depth]; omega, sm_tup.mpr ⟨by omega, s⟩⟩
  simp only [Dt.sm, Bool.and_eq_true, decide_eq_true_iff, smAll_mem]
  exact ⟨by omega, s⟩
theorem site_pl {kind : Str} {rs : List Row} {e : PyData} (h : e ∈ sitesD kind rs) : e.plain = true ∧ e.depth ≤ 60 := by
  obtain ⟨r, _, j, _, _, rfl⟩ := sitesD_mem.mp h
  exact ⟨rfl, by simp [siteP, PyData.depth, PyData.depthAll]⟩
theorem ne_nil (ps : List PyData) : (!PyData.eqv (.list ps) (.list [])) = !ps.isEmpty := by cases ps <;> simp [PyData.eqv, PyData.eqvAll]
theorem turns_n (r : Nat) (hr : (r : Int) < 6) (ps : List PyData) : ∃ n : Nat, (r : Int) * (if (!ps.isEmpty) = true then 1 else 0) = (n : Int) ∧ n ≤ 5 ∧ (0 < n → ps ≠ []) := by
  cases ps with
  | nil => exact ⟨0, by simp, by omega, by omega⟩
  | cons a l => exact ⟨r, by simp, by omega, by simp⟩
theorem nil_ok : (PyData.list []).plain = true ∧ (PyData.list []).depth ≤ 60 ∧ sm (.list []) = true := ⟨rfl, by simp [PyData.depth, PyData.depthAll], rfl⟩
theorem move_word {tot : Int} {ns gs : List Int} {rs : List Row} {H : Hp} {mv : V} {m : PyData} (pl' : Plain tot ns gs rs) (s : SmR rs) {r : Row} (hr : r ∈ rs) (hm : m ∈ r.2.2) (d : D H mv m) : ∃ p v0 vr w, mv = .ref p ∧ H p = some (.tup (v0 :: vr)) ∧ D H v0 w ∧ w.plain = true ∧ w.depth ≤ 60 ∧ sm w = true ∧ ∀ kind : Str, wordIs kind m = PyData.eqv w (.str kind) := by
  obtain ⟨ds, rfl, mvv⟩ := (pl'.ok r hr).mv m hm
  have gr := good_rows pl' s r hr
  obtain ⟨p1, p2⟩ := pl_moves gr.g.moves
  have sm1 := (sm_tup.mp (s r hr)).2 _ hm
  cases d with
  | @tup p vs ds e a =>
    cases a with
    | nil => exact absurd mvv.lo (by simp)
    | @cons v0 w vs ds d0 ar =>
      simp only [PyData.plain] at p1
      simp only [PyData.depth] at p2
      have q1 := pl_mem (k := 60) p1 (by omega) hm
      have q2 := q1.1
      have q3 := q1.2
      simp only [PyData.plain] at q2
      simp only [PyData.depth] at q3
      have q4 := pl_mem (k := 60) q2 (by omega) List.mem_cons_self
      exact ⟨p, v0, vs, w, rfl, e, d0, q4.1, q4.2, (sm_tup.mp sm1).2 _ List.mem_cons_self, fun kind => rfl⟩
/-- a site that is no post -/
def Oth (rs : List Row) (e : PyData) : Prop := ∃ r ∈ rs, ∃ j, j < r.2.2.length ∧ wordIs "post" (r.2.2.getD j .none) = false ∧ e = siteP r.1 j
def oddL : List PyData := [.none, .int 0, .tuple [], .tuple [.str "p"], .tuple [.str "zz", .int 0], .tuple [.str "main", .int 99], .list [.str "p", .int 0], .tuple [.str "p", .bool true], .str "p", .dict []]
structure OkOdd (rs : List Row) (e : PyData) : Prop where
  s : sm e = true
  no : postAt rs e = false
  rl : RlF (.tuple [.str "site", e])
theorem rl_ofS {e : PyData} (h : (PyData.tuple [.str "site", e]).showable = true ∧ (PyData.tuple [.str "site", e]).depth ≤ 20 ∧ (PyData.tuple [.str "site", e]).shown.length ≤ 1000) : RlF (.tuple [.str "site", e]) := ⟨h.1, by have := h.2.1; omega, Nat.le_of_lt (small1000 h.2.2)⟩
theorem rl_oth : ∀ z ∈ (["main", "p", "q"] : List Str), ∀ j ∈ List.range 5, ((PyData.tuple [.str "site", siteP z j]).showable && decide ((PyData.tuple [.str "site", siteP z j]).depth ≤ 20) && decide ((PyData.tuple [.str "site", siteP z j]).shown.length ≤ 1000)) = true := by decide +kernel
theorem rl_odd : ∀ e ∈ oddL, (sm e && (PyData.tuple [.str "site", e]).showable && decide ((PyData.tuple [.str "site", e]).depth ≤ 20) && decide ((PyData.tuple [.str "site", e]).shown.length ≤ 1000)) = true := fun e he => by
  simp only [oddL, List.mem_cons, List.not_mem_nil, or_false] at he
  rcases he with rfl | rfl | rfl | rfl | rfl | rfl | rfl | rfl | rfl | rfl <;> decide +kernel
theorem odd_okS {tot : Int} {ns gs : List Int} {rs : List Row} {fo : List PyData} (pl' : Plain tot ns gs rs) (ho : ∀ e ∈ fo, Oth rs e) : ∀ e ∈ oddL ++ fo, OkOdd rs e := fun e he => by
  rcases List.mem_append.mp he with he | he
  · have h := rl_odd e he
    simp only [Bool.and_eq_true, decide_eq_true_iff] at h
    refine ⟨h.1.1.1, postAt_none ?_, rl_ofS ⟨h.1.1.2, h.1.2, h.2⟩⟩
    simp only [oddL, List.mem_cons, List.not_mem_nil, or_false] at he
    rcases he with rfl | rfl | rfl | rfl | rfl | rfl | rfl | rfl | rfl | rfl
    · rfl
    · rfl
    · rfl
    · rfl
    · show (findR rs "zz").bind _ = none
      cases e : findR rs "zz" with
      | none => rfl
      | some r =>
        obtain ⟨mr, er⟩ := findR_some e
        have := pl'.nq r.1 (List.mem_map_of_mem mr)
        rw [er] at this
        exact absurd this (by decide +kernel)
    · show (findR rs "main").bind _ = none
      cases e : findR rs "main" with
      | none => rfl
      | some r =>
        obtain ⟨mr, er⟩ := findR_some e
        have := (pl'.ok r mr).hi
        show (if _ then _ else _) = none
        rw [if_neg (by omega)]
    · rfl
    · rfl
    · rfl
    · rfl
  · obtain ⟨r, mr, j, hj, hw, rfl⟩ := ho e he
    have h5 := (pl'.ok r mr).hi
    have h := rl_oth r.1 (pl'.nq r.1 (List.mem_map_of_mem mr)) j (List.mem_range.mpr (by omega))
    simp only [Bool.and_eq_true, decide_eq_true_iff] at h
    refine ⟨sm_tup.mpr ⟨by simp, fun d hd => ?_⟩, by rw [postAt_P pl'.nd mr hj]; exact hw, rl_ofS ⟨h.1.1, h.1.2, h.2⟩⟩
    simp only [List.mem_cons, List.not_mem_nil, or_false] at hd
    rcases hd with rfl | rfl
    · exact (pl'.ok r mr).nm.2
    · rfl
section
variable {P : Program} {w : World} {K : PySem.W.Frag} {mg : Str → Option Value} {base : Heap} {C Ce fI fO pO fE fL fS p1 g1 p2 g2 p3 g3 : Addr} {mc : Value}{Cg Cn Cs fIg fOg pOg fEg fLg fSg fGg fCg fMg fHg pg1 gg1 pg2 gg2 pg3 gg3 pg4 gg4 pg5 gg5 pg6 gg6 pg7 gg7 : Addr} {mcg : Value}{fW : Addr}
theorem ok_right {f__law_any_plain f__law_made_of f__law_bared_of f__law_shuffle f__law_pick f__law_cast : Addr} {fd__law_any_plain fd__law_made_of fd__law_bared_of fd__law_shuffle fd__law_pick fd__law_cast : FuncData}
    {f cR PR : Addr} {oc0 kV0 dc0 pm0 ct0 : Value} {od0 an0 : Option Addr} {sl0 : Array (Option Value)} {TS : List (Addr × Str)}
    (l0 : K.lookup f = some ⟨oc0, od0, .func (PySem.W.fnOf "_law_right" "_law_right" (defArgs s_law_right) (defBody s_law_right) (defScope s_law_right) .none kV0 dc0 pm0 an0 (.ref cR) ct0), sl0⟩) (hc0 : PySem.W.codeIn K (.ref cR) "_law_right" = true) (TB : TabB base mg cR PR)
    (hmT : (PR, lamQ s_law_right "_law_right") ∈ TS) (hu : ∀ p ∈ TS, p.1 = PR → p.2 = lamQ s_law_right "_law_right")
    {fM : Addr} {odM anM : Option Addr} {ocM kVM dcM pmM cdM ctM : Value} {slM : Array (Option Value)} (gM : mg "_law_met" = some (.ref fM)) (kM : PySem.W.keepIn K (.ref fM) = true)
    (lM : K.lookup fM = some ⟨ocM, odM, .func (PySem.W.fnOf "_law_met" "_law_met" (defArgs s_law_met) (defBody s_law_met) (defScope s_law_met) .none kVM dcM pmM anM cdM ctM), slM⟩) (hcM : PySem.W.codeIn K cdM "_law_met" = true) (bM : Binds K (PySem.W.fnOf "_law_met" "_law_met" (defArgs s_law_met) (defBody s_law_met) (defScope s_law_met) .none kVM dcM pmM anM cdM ctM) ["call"] [])
    (MS : _root_.Cn.MetS K mg Cs) (c : PcdC K mg C fI fO pO fE fL fS p1 g1 p2 g2 p3 g3 mc) (cg : PgmC K mg Cg fIg fOg pOg fEg fLg fSg fGg fCg fMg fHg pg1 gg1 pg2 gg2 pg3 gg3 pg4 gg4 pg5 gg5 pg6 gg6 pg7 gg7 mcg) {fdm6 : FuncData} (G_m6 : FnOk P w K mg base CX0 4 gg6 fdm6 ["self"] (spPosts C Cg "post")) (b_m6 : Binds K fdm6 ["self"] []) {fdm7 : FuncData} (G_m7 : FnOk P w K mg base CX0 4 gg7 fdm7 ["self"] (spPosts C Cg "call")) (b_m7 : Binds K fdm7 ["self"] []) (mwo : Meth K Cg "without_posts" fW) {fdw : FuncData} (G_wo : FnOk P w K mg base (L2.CX P w) 15 fW fdw ["self", "sites"] (spWithout K C Cg Cs)) (b_wo : Binds K fdw ["self", "sites"] []) (FEGB : FnR P w K mg base CX0 4 fEg (spEqGB K C Cg)) (G__law_any_plain : FnOk P w K mg base CX0 4 f__law_any_plain fd__law_any_plain ["die"] spAnyPlain) (F__law_any_plain : Fun K "_law_any_plain" "_law_any_plain" s_law_any_plain f__law_any_plain fd__law_any_plain) (b__law_any_plain : Binds K fd__law_any_plain ["die"] []) (g__law_any_plain : mg "_law_any_plain" = some (.ref f__law_any_plain))(G__law_made_of : FnOk P w K mg base CX0 11 f__law_made_of fd__law_made_of ["plain"] (spMade C Cg)) (F__law_made_of : Fun K "_law_made_of" "_law_made_of" s_law_made_of f__law_made_of fd__law_made_of) (b__law_made_of : Binds K fd__law_made_of ["plain"] []) (g__law_made_of : mg "_law_made_of" = some (.ref f__law_made_of))(G__law_bared_of : FnOk P w K mg base CX0 1 f__law_bared_of fd__law_bared_of ["plain", "sites"] spBared) (F__law_bared_of : Fun K "_law_bared_of" "_law_bared_of" s_law_bared_of f__law_bared_of fd__law_bared_of) (b__law_bared_of : Binds K fd__law_bared_of ["plain", "sites"] []) (g__law_bared_of : mg "_law_bared_of" = some (.ref f__law_bared_of))(G__law_shuffle : FnOk P w K mg base CX0 2 f__law_shuffle fd__law_shuffle ["die", "items"] spShuffleV) (F__law_shuffle : Fun K "_law_shuffle" "_law_shuffle" s_law_shuffle f__law_shuffle fd__law_shuffle) (b__law_shuffle : Binds K fd__law_shuffle ["die", "items"] []) (g__law_shuffle : mg "_law_shuffle" = some (.ref f__law_shuffle))(G__law_pick : FnOk P w K mg base CX0 2 f__law_pick fd__law_pick ["die", "items"] (spPick K)) (F__law_pick : Fun K "_law_pick" "_law_pick" s_law_pick f__law_pick fd__law_pick) (b__law_pick : Binds K fd__law_pick ["die", "items"] []) (g__law_pick : mg "_law_pick" = some (.ref f__law_pick))(G__law_cast : FnOk P w K mg base CX0 1 f__law_cast fd__law_cast ["die", "total"] spCast) (F__law_cast : Fun K "_law_cast" "_law_cast" s_law_cast f__law_cast fd__law_cast) (b__law_cast : Binds K fd__law_cast ["die", "total"] []) (g__law_cast : mg "_law_cast" = some (.ref f__law_cast)) (m_len : mg "len" = none) (m_repr : mg "repr" = none) (m_range : mg "range" = none) (m_tuple : mg "tuple" = none) (m_list : mg "list" = none) (m_int : mg "int" = none) (kgt : PySem.W.kitOne K (.ref Cg) (.type "tuple") = some false) :
    FnG P w K mg base 20 f (PySem.W.fnOf "_law_right" "_law_right" (defArgs s_law_right) (defBody s_law_right) (defScope s_law_right) .none kV0 dc0 pm0 an0 (.ref cR) ct0) ["die"] (spRightT TS) := by
  refine Cl.fnG_of l0 hc0 sc_law_right (fun vs H Q E h => ?_) (fun A outer s H vs Q E hg hr h => ?_)
  · obtain ⟨d, rfl, _⟩ := h
    rfl
  · obtain ⟨d, rfl, hD0, hT0, q⟩ := h
    refine ⟨_, (pss_cons (ps_set (i := 1) sc_law_right.nd rfl (by first | exact Or.inl rfl | exact Or.inr rfl) (pe_call G__law_any_plain (hr.mono (by decide)) (by rfl) g__law_any_plain F__law_any_plain.kp b__law_any_plain .nil pass0 (pa_cons (pv 0) pa_nil)))
      (pss_cons (ps_asg (pe_tup (pa_cons (pe_call G__law_made_of (hr.mono (by decide)) (by rfl) g__law_made_of F__law_made_of.kp b__law_made_of .nil pass0 (pa_cons (pv 1) pa_nil)) (pa_cons (pe_call G__law_made_of (hr.mono (by decide)) (by rfl) g__law_made_of F__law_made_of.kp b__law_made_of .nil pass0 (pa_cons (pv 1) pa_nil)) pa_nil))) (pg_tup rfl (pgs_cons (pg_name (i := 2) sc_law_right.nd rfl (by first | exact Or.inl rfl | exact Or.inr rfl)) (pgs_cons (pg_name (i := 3) sc_law_right.nd rfl (by first | exact Or.inl rfl | exact Or.inr rfl)) pgs_nil))))
      (pss_cons (ps_set (i := 4) sc_law_right.nd rfl (by first | exact Or.inl rfl | exact Or.inr rfl) (pe_callTy call_list_of (by rfl) m_list (by decide +kernel) (pa_cons (pe_prop (pv 2) cg.cls cg.q6 G_m6 (hr.mono (by decide)) b_m6 .nil (passC0 _) rfl) pa_nil)))
      (pss_cons (ps_asg (pe_tup (pa_cons (pv 2) (pa_cons (pe_lst pa_nil) pa_nil))) (pg_tup rfl (pgs_cons (pg_name (i := 5) sc_law_right.nd rfl (by first | exact Or.inl rfl | exact Or.inr rfl)) (pgs_cons (pg_name (i := 6) sc_law_right.nd rfl (by first | exact Or.inl rfl | exact Or.inr rfl)) pgs_nil))))
      (pss_cons (ps_for PassesOwn.never rfl (pi_list (pe_call G__law_shuffle (hr.mono (by decide)) (by rfl) g__law_shuffle F__law_shuffle.kp b__law_shuffle .nil pass0 (pa_cons (pv 0) (pa_cons (pv 4) pa_nil)))) (pg_name (i := 7) sc_law_right.nd rfl (by first | exact Or.inl rfl | exact Or.inr rfl))
        (pss_cons (ps_expr (pe_bm PySem.F.plainAttrs_list PySem.F.slot_list_append PySem.F.type_list_append mt_append (pv 6) (pa_cons (pv 7) pa_nil)))
        (pss_cons (ps_par (i := 8) (j := 5) rfl sc_law_right.nd rfl rfl (by decide) rfl rfl (pa_cons (pv 5) (pa_cons (pe_meth (pv 5) cg.cls mwo G_wo (hr.mono (by decide)) b_wo .nil (Cl.passF) (pa_cons (pe_tup (pa_cons (pv 7) pa_nil)) pa_nil)) pa_nil)) rfl)
        (pss_cons (ps_if (PW.pt (pw_or (pt_cmpR (_root_.Cn.op_neS cg.ne cg.c4 cg.eq cg.eqf FEGB (hr.mono (by decide)) (passC0 _)) (pv 5) (pe_call G__law_made_of (hr.mono (by decide)) (by rfl) g__law_made_of F__law_made_of.kp b__law_made_of .nil pass0 (pa_cons (pe_call G__law_bared_of (hr.mono (by decide)) (by rfl) g__law_bared_of F__law_bared_of.kp b__law_bared_of .nil pass0 (pa_cons (pv 1) (pa_cons (pv 6) pa_nil))) pa_nil)) (nomark _)) (pw_or1 (pt_cmpR (Ow.op_eqO cg.eq cg.eqf FEGB (hr.mono (by decide)) (passC0 _)) (pv 5) (pv 8) (nomark _)))))
          (pss_one (ps_ret pe_bl))
          pss_nil)
        (pss_cons (ps_if (pt_cmpR (op_neH hr.units) (pe_callTy call_list_of (by rfl) m_list (by decide +kernel) (pa_cons (pe_prop (pv 5) cg.cls cg.q6 G_m6 (hr.mono (by decide)) b_m6 .nil (passC0 _) rfl) pa_nil)) (pe_lc (own := [("one", 16)]) (g := (gName 16)) rfl sc_law_right.nd (pi_list (pv 4)) (blkOk_by (N := Nlaw_right) (sc := defScope s_law_right) (by decide +kernel))
      (fun _ _ _ _ _ => (pg_name (i := 16) sc_law_right.nd rfl (Or.inl rfl))) (fun _ _ _ _ _ => (pts_one (pt_cmpR (op_ninDL hr.units) (pv 16) (pv 6) (by with_unfolding_all rfl)))) (fun _ _ _ _ _ => (pv 16))) (nomark _))
          (pss_one (ps_ret pe_bl))
          pss_nil)
        (pss_one (ps_if (pt_cmpR (op_neH hr.units) (pe_prop (pv 5) cg.cls cg.q7 G_m7 (hr.mono (by decide)) b_m7 .nil (passC0 _) rfl) (pe_prop (pv 2) cg.cls cg.q7 G_m7 (hr.mono (by decide)) b_m7 .nil (passC0 _) rfl) (nomark _))
          (pss_one (ps_ret pe_bl))
          pss_nil)))))))
      (pss_cons (ps_set (i := 9) sc_law_right.nd rfl (by first | exact Or.inl rfl | exact Or.inr rfl) (pe_callTy call_tuple_of (by rfl) m_tuple (by decide +kernel) (pa_cons (pe_lc (own := [("turn", 17)]) (g := (gName 17)) (tt := tYes) rfl sc_law_right.nd (pi_range1 rfl m_range (pa_cons (pe_op op_mul (pe_call G__law_cast (hr.mono (by decide)) (by rfl) g__law_cast F__law_cast.kp b__law_cast .nil pass0 (pa_cons (pv 0) (pa_cons pe_int pa_nil))) (pe_callTy call_int1 (by rfl) m_int (by decide +kernel) (pa_cons (pe_cmpR (op_neH hr.units) (pv 4) (pe_lst pa_nil) (nomark _)) pa_nil))) pa_nil)) (blkOk_by (N := Nlaw_right) (sc := defScope s_law_right) (by decide +kernel))
      (fun _ _ _ _ _ => (pg_name (i := 17) sc_law_right.nd rfl (Or.inl rfl))) (fun _ _ _ _ _ => pts_nil) (fun _ _ _ _ _ => (pe_call G__law_pick (hr.mono (by decide)) (by rfl) g__law_pick F__law_pick.kp b__law_pick .nil pass0 (pa_cons (pv 0) (pa_cons (pv 4) pa_nil))))) pa_nil)))
      (pss_cons (ps_if (pt_cmpR (_root_.Cn.op_neS cg.ne cg.c4 cg.eq cg.eqf FEGB (hr.mono (by decide)) (passC0 _)) (pe_meth (pv 2) cg.cls mwo G_wo (hr.mono (by decide)) b_wo .nil (Cl.passF) (pa_cons (pv 9) pa_nil)) (pe_call G__law_made_of (hr.mono (by decide)) (by rfl) g__law_made_of F__law_made_of.kp b__law_made_of .nil pass0 (pa_cons (pe_call G__law_bared_of (hr.mono (by decide)) (by rfl) g__law_bared_of F__law_bared_of.kp b__law_bared_of .nil pass0 (pa_cons (pv 1) (pa_cons (pv 9) pa_nil))) pa_nil)) (nomark _))
        (pss_one (ps_ret pe_bl))
        pss_nil)
      (pss_cons (ps_if (pt_cmpR (_root_.Cn.op_neS cg.ne cg.c4 cg.eq cg.eqf FEGB (hr.mono (by decide)) (passC0 _)) (pv 2) (pv 3) (nomark _))
        (pss_one (ps_ret pe_bl))
        pss_nil)
      (pss_cons (ps_set (i := 10) sc_law_right.nd rfl (by first | exact Or.inl rfl | exact Or.inr rfl) (pe_lst pa_nil))
      (pss_cons (ps_for PassesOwn.never rfl (pi_list (pe_ix ix_list (pv 1) pe_int (fun _ _ => rfl))) (pg_unl rfl (pgs_cons (pg_name (i := 11) sc_law_right.nd rfl (by first | exact Or.inl rfl | exact Or.inr rfl)) (pgs_cons (pg_name (i := 12) sc_law_right.nd rfl (by first | exact Or.inl rfl | exact Or.inr rfl)) (pgs_cons (pg_name (i := 13) sc_law_right.nd rfl (by first | exact Or.inl rfl | exact Or.inr rfl)) pgs_nil))))
        (pss_one (ps_expr (pe_bm PySem.F.plainAttrs_list PySem.F.slot_list_extend PySem.F.type_list_extend mt_extend (pv 10) (pa_cons (pe_lc (own := [("at", 18)]) (g := (gName 18)) rfl sc_law_right.nd (pi_range1 rfl m_range (pa_cons (pe_callB call_len_seq (by rfl) m_len (by decide +kernel) (pa_cons (pv 13) pa_nil)) pa_nil)) (blkOk_by (N := Nlaw_right) (sc := defScope s_law_right) (by decide +kernel))
      (fun _ _ _ _ _ => (pg_name (i := 18) sc_law_right.nd rfl (Or.inl rfl))) (fun _ _ _ _ _ => (pts_one (pt_cmpR (r := rNeH) (op_neH hr.units) (pe_ix (r := rIxT K) ix_tup (pe_ix (r := rIxT K) ix_tup (pv 13) (pv 18) (fun _ _ => rfl)) pe_int (fun _ _ => rfl)) pe_str (nomark _)))) (fun _ _ _ _ _ => (pe_tup (pa_cons (pv 11) (pa_cons (pv 18) pa_nil))))) pa_nil)))))
      (pss_cons (ps_set (i := 14) sc_law_right.nd rfl (by first | exact Or.inl rfl | exact Or.inr rfl) (pe_call G__law_pick (hr.mono (by decide)) (by rfl) g__law_pick F__law_pick.kp b__law_pick .nil pass0 (pa_cons (pv 0) (pa_cons (pe_op op_cat (pe_lst (pa_cons pe_non (pa_cons pe_int (pa_cons (pe_tup pa_nil) (pa_cons (pe_tup (pa_cons pe_str pa_nil)) (pa_cons (pe_tup (pa_cons pe_str (pa_cons pe_int pa_nil))) (pa_cons (pe_tup (pa_cons pe_str (pa_cons pe_int pa_nil))) (pa_cons (pe_lst (pa_cons pe_str (pa_cons pe_int pa_nil))) (pa_cons (pe_tup (pa_cons pe_str (pa_cons pe_bl pa_nil))) (pa_cons pe_str (pa_cons pe_dnewK pa_nil))))))))))) (pv 10)) pa_nil))))
      (pss_cons (ps_if (pt_cmpR op_ne (pe_callB (call_reprA hg hr.units) (by rfl) m_repr (by decide +kernel) (pa_cons (pe_lamcall (k := 16) (T := TS) (TT := _root_.Cn.TMetS Cs) (c := cR) (P := PR) (by rfl) gM kM lM hcM bM sc_law_met rfl (Or.inl rfl) (_root_.Cn.metS_gives MS rfl sc_law_met.nd rfl rfl (fun _ => rfl) (by decide) (by decide) rfl) TB rfl hmT hu (hr.mono (by decide)) (lamS_by (sc := defScope s_law_right) (by decide +kernel)) rfl (fun _ _ _ _ _ => rfl)
      (fun A outer s H E f c' hr => (pe_meth (pv 2) cg.cls mwo G_wo (hr.mono (by decide)) b_wo .nil (Cl.passE (takes_of rfl rfl rfl rfl)) (pa_cons (pe_op op_catW (pv 9) (pe_tup (pa_cons (pv 14) (pa_cons pe_non pa_nil)))) pa_nil)))) pa_nil)) (pe_callB (call_reprA hg hr.units) (by rfl) m_repr (by decide +kernel) (pa_cons (pe_tup (pa_cons pe_str (pa_cons (pv 14) pa_nil))) pa_nil)) (nomark _))
        (pss_one (ps_ret pe_bl))
        pss_nil)
      (pss_cons (ps_set (i := 15) sc_law_right.nd rfl (by first | exact Or.inl rfl | exact Or.inr rfl) (pe_call G__law_pick (hr.mono (by decide)) (by rfl) g__law_pick F__law_pick.kp b__law_pick .nil pass0 (pa_cons (pv 0) (pa_cons (pe_lst (pa_cons pe_non (pa_cons pe_int (pa_cons (pe_callTy call_list_of (by rfl) m_list (by decide +kernel) (pa_cons (pv 9) pa_nil)) (pa_cons pe_dnewK (pa_cons pe_str (pa_cons pe_bl (pa_cons (pv 2) pa_nil)))))))) pa_nil))))
      (pss_cons (ps_if (pt_cmpR (Sm.op_neSame hr.units) (pe_lamcall (k := 16) (T := TS) (TT := _root_.Cn.TMetS Cs) (c := cR) (P := PR) (by rfl) gM kM lM hcM bM sc_law_met rfl (Or.inl rfl) (_root_.Cn.metS_gives MS rfl sc_law_met.nd rfl rfl (fun _ => rfl) (by decide) (by decide) rfl) TB rfl hmT hu (hr.mono (by decide)) (lamS_by (sc := defScope s_law_right) (by decide +kernel)) rfl (fun _ _ _ _ _ => rfl)
      (fun A outer s H E f c' hr => (pe_meth (pv 2) cg.cls mwo G_wo (hr.mono (by decide)) b_wo .nil (Cl.passE (takes_of rfl rfl rfl rfl)) (pa_cons (pv 15) pa_nil)))) (pe_tup (pa_cons pe_str (pa_cons (pv 15) pa_nil))) (nomark _))
        (pss_one (ps_ret pe_bl))
        pss_nil)
      (pss_one (ps_ret (pe_cmpR (Ow.op_eqO cg.eq cg.eqf FEGB (hr.mono (by decide)) (passC0 _)) (pe_meth (pv 2) cg.cls mwo G_wo (hr.mono (by decide)) b_wo .nil (Cl.passF) (pa_cons (pe_tup pa_nil) pa_nil)) (pv 3) (nomark _)))))))))))))))))), ?_⟩
    refine ⟨_, rfl, d, rfl, hD0, fun v tot ns gs rs H1 b1 d1 hv pl => ?_⟩
    obtain ⟨V0, rfl, V0d, hp1, sms⟩ := plain_at hv
    have gr : ∀ r ∈ rs, GoodRow r := good_rows pl sms
    have t1 : Tabs TS H1 := tabs_but hD0 b1 hT0
    refine ⟨_, rfl, ?_⟩
    dsimp only [tNil, List.append_nil, List.cons_append, List.nil_append]
    refine made_ok pl sms hp1.hid fun H2 a s2 na pg2 => ?_
    refine ⟨_, rfl, ?_⟩
    dsimp only [tNil, List.append_nil, List.cons_append, List.nil_append]
    refine made_ok pl sms (hp1.hid.same s2) fun H3 fst s3 nf pgF => ⟨len_ok, fun T0 nT0 => ⟨T0, _, rfl, .inl (.inl upd_same), rfl, _, _, rfl, _, _, rfl, rfl, ?_⟩⟩
    have sT := same_new (Same.refl H3) nT0 (o := .tup [.ref a, .ref fst])
    have s4 := (s2.trans s3).trans sT
    have pgA := pg2.same (s3.trans sT)
    have pgF := pgF.same sT
    generalize upd H3 T0 (.tup [.ref a, .ref fst]) = G0 at sT s4 pgA pgF
    have x0 : ExtD d H G0 := (ExtD.but b1).trans (ExtD.of (ExtN.of s4))
    have d0 := d1.same s4
    have t0 := tabs_same s4 t1
    have hp0 := hp1.same (hide_same s4)
    have pgA := pg_hide d0 gr pgA
    have pgF := pg_hide d0 gr pgF
    clear nT0 sT s4 s2 s3 na nf pg2 hp1 t1 d1 b1 hv
    -- posts
    have pgA' := pgA.same hide_sub
    obtain ⟨dx, _, _, _, _, _, _, hA⟩ := pg_ins pgA'
    refine ⟨_, rfl, a, dx, _, rfl, hA, a, tot, _, _, rs, rfl, pgA', fun p ys H4 s4 hp hys => ⟨p, ys, rfl, .inr (.inl (.inl hp)), fun PL nPL => ?_⟩⟩
    have lps : (sitesD "post" rs).length ≤ 15 := posts_few pl "post"
    have lys := hys.len
    have sP := same_new (Same.refl H4) nPL (o := .lst ys)
    have s5 := s4.trans sP
    have PLd : PL ≠ d := fun z => by
      rw [z] at nPL
      obtain ⟨x, y, zz, e⟩ := d0.same s4
      rw [e] at nPL
      cases nPL
    have hPL : upd H4 PL (.lst ys) PL = some (.lst ys) := upd_same
    have hys := hys.same sP
    generalize upd H4 PL (.lst ys) = G1 at sP s5 hPL hys
    have d1 := d0.same s5
    have hys1 : DAll (hide [d] G1) ys (sitesD "post" rs) := by
      obtain ⟨x, y, zz, e⟩ := d1
      exact nl_hideAll e (hys.same fun b o h => hide_some (by simp) h) posts_nl
    have x1 := x0.trans (ExtD.of (ExtN.of s5))
    have t1 := tabs_same s5 t0
    have hp1 := hp0.same (hide_same s5)
    have pgA1 := pgA.same (hide_same s5)
    have pgF1 := pgF.same (hide_same s5)
    clear s4 hp nPL sP s5 hys pgA pgA' pgF hp0 t0 d0 x0 hA
    refine ⟨_, rfl, len_ok, fun L nL => ⟨len_ok, fun T nT => ⟨T, _, rfl, .inl (.inl upd_same), rfl, _, _, rfl, _, _, rfl, rfl, ?_⟩⟩⟩
    have sL := (same_new (Same.refl G1) nL (o := .lst [])).trans (same_new (Same.refl _) nT (o := .tup [.ref a, .ref L]))
    have hL : upd (upd G1 L (.lst [])) T (.tup [.ref a, .ref L]) L = some (.lst []) := upd_keep upd_same nT
    have hPL2 := sL _ _ hPL
    have d2 := d1.same sL
    have t2 := tabs_same sL t1
    generalize upd (upd G1 L (.lst [])) T (.tup [.ref a, .ref L]) = G2 at sL hL hPL2 d2 t2
    refine ⟨_, rfl, _, rfl, d, PL, ys, rfl, d2, PLd, hPL2, by omega, fun p ws G3 b3 d3 np hp pm => ⟨p, rfl, ⟨_, .inl (.inl hp)⟩, ?_⟩⟩
    have Ld : L ≠ d := fun z => by
      obtain ⟨x, y, zz, e⟩ := d1
      rw [z, e] at nL
      cases nL
    have hL3 : G3 L = some (.lst []) := b3 _ _ Ld hL
    have pL : p ≠ L := fun z => by
      rw [z, hL] at np
      cases np
    have t3 := tabs_hide hL3 (tabs_but d2 b3 t2)
    have sB := sub_hide nL sL b3
    have hp3 := hp1.same sB
    have pgA3 := pgA1.same sB
    have pgF3 := pgF1.same sB
    have hys3 := hys1.same sB
    have xB : ExtD d G1 (hide [L] G3) := fun b o n e z => hide_some (by simp only [List.mem_singleton]; exact ne_of_none e nL) (b3 _ _ n (sL _ _ e))
    have x3 := x1.trans xB
    have pB : hide [L] G3 p = some (.lst ws) := hide_some (by simpa using pL) hp
    have PLB : hide [L] G3 PL = some (.lst ys) := hide_some (by simp only [List.mem_singleton]; exact ne_of_none hPL nL) (b3 _ _ PLd hPL2)
    have dB : DieAt (hide [L] G3) d := by
      obtain ⟨x, y, zz, e⟩ := d3
      exact ⟨x, y, zz, hide_some (by simpa using Ld.symm) e⟩
    obtain ⟨es, hes, epm⟩ := perm_data pm hys3
    have esP : Posts rs es := fun e he => epm.subset he
    have esN : es.Nodup := epm.nodup_iff.mpr (nodup_sites "post" pl.nd)
    have les := epm.length_eq
    have lws := hes.len
    clear b3 d2 d1 hp1 pgA1 pgF1 hys1 sB sL nL nT hPL2 hL t2 t1 x1 xB np pm epm d3
    have s0 : Same (hide [L] G3) G3 := hide_sub
    obtain ⟨dxA, _, _, _, _, _, _, hAB⟩ := pg_ins (pgA3.same hide_sub)
    generalize hB : hide [L] G3 = B at hAB t3 hp3 pgA3 pgF3 hys3 x3 pB PLB dB hes s0
    have BL : B L = none := by
      rw [← hB]
      exact if_pos (List.mem_singleton.mpr rfl)
    have pgB0 : Pg C Cg (hide [L] G3) a tot (iD ns) (iD gs) (hushR (es.take 0) rs) := by
      rw [hB, List.take_zero, hushR_nil]
      exact pgA3.same hide_sub
    clear hB
    refine for_list (xs := ws) (fun i σ G => (∃ bi y7 y8 y9 y10 y11 y12 y13 y14 y15 y16 y17 y18, σ = [some (.ref d), some (.ref V0), some (.ref a), some (.ref fst), some (.ref PL), some (.ref bi), some (.ref L), y7, y8, y9, y10, y11, y12, y13, y14, y15, y16, y17, y18] ∧ Pg C Cg (hide [L] G) bi tot (iD ns) (iD gs) (hushR (es.take i) rs)) ∧ Same B G ∧ G L = some (.lst (ws.take i))) ⟨⟨a, _, _, _, _, _, _, _, _, _, _, _, _, rfl, pgB0⟩, s0, hL3⟩ (fun i σ G _ hq => .inl (.inl (hq.2.1 _ _ pB))) (fun i x σ G hx hq => ?_) (fun σ G hq => ?_)
    · obtain ⟨⟨bi, y7, y8, y9, y10, y11, y12, y13, y14, y15, y16, y17, y18, rfl, pgb⟩, sG, hLG⟩ := hq
      obtain ⟨e, he, hxe⟩ := hes.get hx
      have hi := (List.getElem?_eq_some_iff.mp hx).1
      have lt : (ws.take i).length = i := by rw [List.length_take]; omega
      refine ⟨_, rfl, .inl ⟨rfl, _, .inl (.inl hLG)⟩, _, rfl, L, _, _, rfl, rfl, hLG, small1000 (by omega), ?_⟩
      have lP : ws.take i ++ [x] = ws.take (i + 1) := by rw [List.take_add_one, hx]; rfl
      have eP : es.take i ++ [e] = es.take (i + 1) := by rw [List.take_add_one, he]; rfl
      rw [lP]
      have sG1 := same_put (o := .lst (ws.take (i + 1))) sG BL
      have hL1 : upd G L (.lst (ws.take (i + 1))) L = some (.lst (ws.take (i + 1))) := upd_same
      have pgb1 := pgb.same (hide_upd (S := []) (p := L) (o := .lst (ws.take (i + 1))))
      generalize upd G L (.lst (ws.take (i + 1))) = G4 at sG1 hL1 pgb1
      clear sG hLG pgb G
      have P0 : Posts rs (es.take i) := fun z hz => esP z (List.mem_of_mem_take hz)
      have P1 : Posts rs (es.take (i + 1)) := fun z hz => esP z (List.mem_of_mem_take hz)
      have me := List.mem_of_getElem? he
      have Pe : Posts (hushR (es.take i) rs) [e] := posts_left pl P0 (fun z hz => by rw [List.mem_singleton.mp hz]; exact esP e me) fun z hz => by
        rw [List.mem_singleton.mp hz]
        exact nodup_take esN he
      have plI := plain_hush pl P0
      have smI := sm_hush pl P0 sms
      have plJ := plain_hush pl P1
      have smJ := sm_hush pl P1 sms
      have eJ : hushR [e] (hushR (es.take i) rs) = hushR (es.take (i + 1)) rs := by rw [hushR_two, eP]
      have pgb2 := pgb1.same hide_sub
      obtain ⟨dxb, _, _, _, _, _, _, hI⟩ := pg_ins pgb2
      refine ⟨_, rfl, _, rfl, bi, dxb, _, rfl, hI, rfl, _, rfl, len_ok, fun T nT => ?_⟩
      dsimp only [tNil]
      have sT := same_new (Same.refl G4) nT (o := .tup [x])
      refine without_ok plI smI Pe (pgb2.same sT) upd_same (.cons ((hxe.same hide_sub).same (sG1.trans sT)) .nil) fun G5 b' s5 nb pgb' => ?_
      rw [eJ] at pgb'
      have sG5 := sG1.trans (sT.trans s5)
      have hL5 := (sT.trans s5) _ _ hL1
      have pgb5 := pgb1.same (hide_same (S := [L]) (sT.trans s5))
      have pgb5' := pg_hideL hL5 (good_rows plJ smJ) pgb'
      clear pgb2 hI nT sT s5 nb pgb' pgb1 sG1 hL1 G4
      have lens : (hushR (es.take (i + 1)) rs).length = rs.length := hushR_len _ _
      have gJ := good_rows plJ smJ
      -- bare != what is made of the plain one, or bare == before
      have hpG := (hp3.same hide_sub).same sG5
      refine ⟨.ref bi, .ref b', rfl, ?_⟩
      refine ⟨_, rfl, _, rfl, _, rfl, ?_⟩
      dsimp only [tNil, List.append_nil, List.cons_append, List.nil_append]
      refine bared_ok pl P1 hpG (.inr hL5) (((hes.same hide_sub).same sG5).take (i + 1)) fun G6 V1 s6 hpV => ?_
      refine made_ok plJ smJ hpV fun G7 m s7 nm pgm => ?_
      refine ne_same gJ ((pgb5'.same hide_sub).same (s6.trans s7)) pgm fun G8 s8 => ⟨_, rfl, iteF ?_⟩
      have s58 := (s6.trans s7).trans s8
      have sG8 := sG5.trans s58
      have hL8 := s58 _ _ hL5
      have pgo := pgb5.same (hide_same (S := [L]) s58)
      have pgn := pgb5'.same (hide_same (S := [L]) s58)
      clear s6 s7 nm hpV pgm s8 s58 sG5 hL5 pgb5 pgb5' hpG
      obtain ⟨dxn, _, _, _, _, _, _, hN⟩ := pg_ins (pgn.same hide_sub)
      refine ⟨_, rfl, _, rfl, eq_any cg (pgn.same hide_sub) (pgo.same hide_sub) (by rw [hushR_len, hushR_len]) (by rw [← eJ]; exact rowsEq_less plI (Pe e (by simp))) fun G9 s9 => ⟨_, rfl, iteF ?_⟩⟩
      have sG9 := sG8.trans s9
      have hL9 := s9 _ _ hL8
      have pgn := pgn.same (hide_same (S := [L]) s9)
      have hN := s9 _ _ hN
      clear s9 pgo sG8 hL8
      -- the posts that are left
      refine ⟨_, rfl, b', dxn, _, rfl, hN, b', tot, _, _, _, rfl, pgn.same hide_sub, fun p1 ys1 G10 s10 hp1 hys1 => ⟨p1, ys1, rfl, .inr (.inl (.inl hp1)), fun L1 nL1 => ?_⟩⟩
      have hL1 : upd G10 L1 (.lst ys1) L1 = some (.lst ys1) := upd_same
      have s11 := same_new s10 nL1 (o := .lst ys1)
      have hys1 := hys1.same (same_new (Same.refl G10) nL1 (o := .lst ys1))
      generalize upd G10 L1 (.lst ys1) = G11 at hL1 s11 hys1
      have sG11 := sG9.trans s11
      have hL11 := s11 _ _ hL9
      refine ⟨_, rfl, PL, rfl, ⟨_, .inl (.inl (sG11 _ _ PLB))⟩, fun D0 nD0 => ?_⟩
      have nD0B : B D0 = none := sG11.free nD0
      refine lc_list (xs := ys) (fun k Gx => Same G11 Gx ∧ ∃ zs, Gx D0 = some (.lst zs) ∧ zs.length ≤ k ∧ DAll B zs (((sitesD "post" rs).take k).filter (left (es.take (i + 1))))) ⟨same_new (Same.refl G11) nD0, [], upd_same, Nat.le_refl _, .nil⟩ (fun k Gx _ hq => .inl (.inl (hq.1 _ _ (sG11 _ _ PLB)))) (fun k y Gx hy hq => ?_) (fun Gx hq => ?_)
      · obtain ⟨sx, zs, hD, lz, ha⟩ := hq
        obtain ⟨e1, he1, hd1⟩ := hys3.get hy
        have hk := (List.getElem?_eq_some_iff.mp hy).1
        have sBx := sG11.trans sx
        have hd1' := hd1.same hide_sub
        refine ⟨rfl, _, rfl, _, rfl, e1, L, ws.take (i + 1), es.take (i + 1), hd1'.same sBx, rfl, sx _ _ hL11, ((hes.same hide_sub).same sBx).take (i + 1), ?_⟩
        have ep := site_pl (List.mem_of_getElem? he1)
        refine ⟨ep.1, posts_plain P1, ep.2, _, rfl, ?_⟩
        rw [if_pos rfl]
        rw [List.take_add_one (l := sitesD "post" rs), he1, List.filter_append]
        cases ek : left (es.take (i + 1)) e1 with
        | true =>
          have ek' : (!(es.take (i + 1)).any fun e => PyData.eqv e e1) = true := ek
          rw [ek']
          refine iteT ⟨_, rfl, _, hD, small1000 (by omega), same_put sx nD0, _, upd_same, by rw [List.length_append]; simp; omega, ?_⟩
          show DAll B _ (_ ++ [e1].filter (left (es.take (i + 1))))
          rw [List.filter_cons, ek]
          exact DAll.app (.cons hd1' .nil) ha
        | false =>
          have ek' : (!(es.take (i + 1)).any fun e => PyData.eqv e e1) = false := ek
          rw [ek']
          refine iteF ⟨sx, zs, hD, by omega, ?_⟩
          show DAll B _ (_ ++ [e1].filter (left (es.take (i + 1))))
          rw [List.filter_cons, ek]
          simpa using ha
      · obtain ⟨sx, zs, hD, lz, ha⟩ := hq
        rw [lys, List.take_of_length_le (Nat.le_refl _), ← sites_post pl P1] at ha
        have sGx := sG11.trans sx
        have ok1 := (sd_ok plJ "post").1
        refine ⟨.list (sitesD "post" (hushR (es.take (i + 1)) rs)), .list (sitesD "post" (hushR (es.take (i + 1)) rs)), .lst (sx _ _ hL1) (hys1.same sx), .lst hD (ha.same sGx), ok1.1, ok1.1, ok1.2.1, ok1.2.1, ok1.2.2, ok1.2.2, ?_⟩
        rw [eqv_self ok1.1]
        refine ⟨_, rfl, iteF ?_⟩
        have hNx := (s11.trans sx) _ _ hN
        have pgnx := (pgn.same hide_sub).same (s11.trans sx)
        have hAx := sGx _ _ hAB
        have pgnL := pgn.same (hide_same (S := [L]) (s11.trans sx))
        have pgAx := (pgA3.same hide_sub).same sGx
        have hLx := sx _ _ hL11
        clear ha hD lz sx sG11 hL11 nD0 nD0B hys1 s11 hL1 nL1 hp1 s10 pgn hN sG9 hL9
        refine ⟨_, rfl, b', dxn, _, rfl, hNx, b', tot, _, _, _, rfl, pgnx, fun pc yc Gc sc hpc hyc => ⟨_, rfl, a, dxA, _, rfl, sc _ _ hAx, a, tot, _, _, rs, rfl, pgAx.same sc, fun pd yd Gd sd hpd hyd => ?_⟩⟩
        have ok2 := (sd_ok plJ "call").2
        refine ⟨.tuple (sitesD "call" (hushR (es.take (i + 1)) rs)), .tuple (sitesD "call" (hushR (es.take (i + 1)) rs)), .tup (sd _ _ hpc) (hyc.same sd), .tup hpd (by rw [sites_call pl P1]; exact hyd), ok2.1, ok2.1, ok2.2.1, ok2.2.1, ok2.2.2, ok2.2.2, ?_⟩
        rw [eqv_self ok2.1]
        have scd := sc.trans sd
        exact ⟨_, rfl, iteF ⟨⟨b', _, _, _, _, _, _, _, _, _, _, _, _, rfl, pgnL.same (hide_same scd)⟩, sGx.trans scd, scd _ _ hLx⟩⟩
    · obtain ⟨⟨bi, y7, y8, y9, y10, y11, y12, y13, y14, y15, y16, y17, y18, rfl, pgz⟩, sG, hLG⟩ := hq
      clear pgz
      have dG := dB.same sG
      have hp4 := hp3.same (hide_same sG)
      have pgA4 := pgA3.same (hide_same sG)
      have pgF4 := pgF3.same (hide_same sG)
      have hys4 := hys3.same (hide_same sG)
      have t4 := tabs_same sG t3
      have x4 := x3.trans (ExtD.of (ExtN.of sG))
      have PL4 := sG _ _ PLB
      clear sG hLG s0 pgB0 BL hes dB hys3 pgF3 pgA3 hp3 x3 PLB pB t3 hAB B esN esP les lws
      refine ⟨_, rfl, d, 6, rfl, dG, by decide, by decide, fun r G1 hr hN => ⟨_, rfl, len_ok, fun L0 nL0 => ?_⟩⟩
      have bL := hN.but.new nL0 (o := .lst [])
      have dL := hN.die.new nL0 (o := .lst [])
      have hL0 : upd G1 L0 (.lst []) L0 = some (.lst []) := upd_same
      generalize upd G1 L0 (.lst []) = G2 at bL dL hL0
      clear hN nL0
      have kL : Same (hide [d] G) (hide [d] G2) := hide_but (by simp) bL
      have hysL := hys4.same kL
      have ok1 := (sd_ok pl "post").1
      refine ⟨.list (sitesD "post" rs), .list [], .lst (bL _ _ PLd PL4) (hysL.same hide_sub), .lst hL0 .nil, ok1.1, nil_ok.1, ok1.2.1, nil_ok.2.1, ok1.2.2, nil_ok.2.2, ?_⟩
      rw [ne_nil]
      obtain ⟨n, en, n5, nz⟩ := turns_n r hr (sitesD "post" rs)
      refine .inr ⟨_, rfl, r, _, rfl, rfl, .inl ⟨by omega, by omega⟩, ?_⟩
      refine ⟨(n : Int), congrArg (fun j => [V.int j]) en, by omega, by omega, fun D0 nD => ?_⟩
      rw [Int.toNat_natCast]
      have D0d : D0 ≠ d := dL.free nD
      have nD4 : G D0 = none := by
        cases e : G D0 with
        | none => rfl
        | some o =>
          rw [bL _ _ D0d e] at nD
          cases nD
      refine lc_range (lo := 0) (n := n) (fun k Gx => But d G Gx ∧ DieAt Gx d ∧ ∃ zs fs, Gx D0 = some (.lst zs) ∧ zs.length = k ∧ DAll (hide [d] G) zs fs ∧ Posts rs fs) ⟨bL.new nD, dL.new nD, [], [], upd_same, rfl, .nil, fun e he => by cases he⟩ (fun k Gx hk hq => ?_) (fun Gx hq => ?_)
      · obtain ⟨bx, dx', zs, fs, hD, lz, ha, pf⟩ := hq
        have yn : ys ≠ [] := fun z => by
          rw [z] at lys
          exact nz (by omega) (List.length_eq_zero_iff.mp lys.symm)
        refine ⟨rfl, _, rfl, _, rfl, d, dx', .inl ⟨PL, ys, rfl, PLd, .inl (.inl (.inl (bx _ _ PLd PL4))), yn, by omega, fun j v Gy hv hN => ?_⟩⟩
        obtain ⟨e1, he1, hd1⟩ := hys4.get hv
        have nDG := hN.ne D0d
        refine ⟨zs, nDG.trans hD, small1000 (by omega), (bx.trans hN.but).put nD4, hN.die.put D0d, zs ++ [v], fs ++ [e1], upd_same, by rw [List.length_append, lz]; rfl, DAll.app (.cons hd1 .nil) ha, fun e he => ?_⟩
        rcases List.mem_append.mp he with he | he
        · exact pf e he
        · rw [List.mem_singleton.mp he]
          exact List.mem_of_getElem? he1
      · obtain ⟨bx, dx', zs, fs, hD, lz, ha, pf⟩ := hq
        refine ⟨D0, zs, rfl, .inl ⟨.inl (.inl hD), fun S nS => ?_⟩⟩
        have Sd : S ≠ d := dx'.free nS
        have hS : upd Gx S (.tup zs) S = some (.tup zs) := upd_same
        have nS4 : hide [d] G S = none := by
          cases e : hide [d] G S with
          | none => rfl
          | some o =>
            rw [(hide_in ((hide_but (S := [d]) (by simp) bx) _ _ e)).2] at nS
            cases nS
        have bS := bx.new nS (o := .tup zs)
        have dS := dx'.new nS (o := .tup zs)
        generalize upd Gx S (.tup zs) = G5 at hS bS dS
        have k5 : Same (hide [d] G) (hide [d] G5) := hide_but (by simp) bS
        have hp5 := hp4.same k5
        have pgA5 := pgA4.same k5
        have pgF5 := pgF4.same k5
        have hs5 := ha.same k5
        have t5 := tabs_but dG bS t4
        have x5 := x4.trans (ExtD.but bS)
        have hS5 : hide [d] G5 S = some (.tup zs) := hide_some (by simpa using Sd) hS
        have lf := hs5.len
        clear k5 bS bx dx' ha nS hD t4 x4 hp4 pgA4 pgF4 hys4 PL4 hysL kL hL0 dL bL nD4 nS4 nD D0d dG
        have hS5' := hide_sub _ _ hS5
        have hs5' := hs5.same hide_sub
        have pgA5' := pgA5.same hide_sub
        obtain ⟨dxA, _, _, _, _, _, _, hA5⟩ := pg_ins pgA5'
        refine ⟨_, rfl, a, dxA, _, rfl, hA5, rfl, _, rfl, ?_⟩
        dsimp only [tNil, List.append_nil, List.cons_append, List.nil_append]
        have plS := plain_hush pl pf
        have smS := sm_hush pl pf sms
        refine without_ok pl sms pf pgA5' hS5' hs5' fun G6 a6 s6 na6 pg6 => ⟨_, rfl, _, rfl, ?_⟩
        dsimp only [tNil, List.append_nil, List.cons_append, List.nil_append]
        refine bared_ok pl pf ((hp5.same hide_sub).same s6) (.inl (s6 _ _ hS5')) (hs5'.same s6) fun G7 V1 s7 hpV => ?_
        refine made_ok plS smS hpV fun G8 m s8 nm pgm => ?_
        refine ne_same (good_rows plS smS) ((pg6.same s7).same s8) pgm fun G9 s9 => ⟨_, rfl, iteF ?_⟩
        have s59 := ((s6.trans s7).trans s8).trans s9
        clear pg6 hpV pgm s6 s7 s8 s9 na6 nm
        refine ⟨_, rfl, _, rfl, ne_same gr (pgA5'.same s59) ((pgF5.same hide_sub).same s59) fun G10 s10 => ⟨_, rfl, iteF ⟨len_ok, fun O nO => ?_⟩⟩⟩
        have s5O := s59.trans s10
        have nO5 := s5O.free nO
        obtain ⟨va, vb, R, bs, e1, e2, e3, e4, e5⟩ := (hp5.same hide_sub).same s5O
        have lb := e5.1
        have l3 := pl.r3
        refine ⟨_, rfl, V0, _, 3, .ref R, rfl, rfl, .inl (.inl (upd_keep e1 nO)), rfl, R, rfl, ⟨_, .inl (.inl (upd_keep e4 nO))⟩, for_list (xs := bs) (fun i σ G => (∃ y11 y12 y13 y14 y15 y16 y17 y18, σ = [some (.ref d), some (.ref V0), some (.ref a), some (.ref fst), some (.ref PL), some (.ref bi), some (.ref L), y7, y8, some (.ref S), some (.ref O), y11, y12, y13, y14, y15, y16, y17, y18]) ∧ Same G10 G ∧ ∃ os fs, G O = some (.lst os) ∧ DAll (hide [O] G) os fs ∧ fs.length ≤ i * 5 ∧ ∀ e ∈ fs, Oth rs e) ⟨⟨_, _, _, _, _, _, _, _, rfl⟩, same_new (Same.refl _) nO, [], [], upd_same, .nil, Nat.zero_le _, fun e he => by cases he⟩ (fun i σ G _ hq => .inl (.inl (hq.2.1 _ _ e4))) (fun i x σ G hx hq => ?_) (fun σ G hq => ?_)⟩
        · obtain ⟨⟨y11, y12, y13, y14, y15, y16, y17, y18, rfl⟩, s11, os, fs', hO, hfs, lfs, ho⟩ := hq
          obtain ⟨r, hr', B, t, us, rfl, hB, htt, hxx⟩ := e5.2 i x hx
          have mr := List.mem_of_getElem? hr'
          have lus := hxx.len
          have rok := (pl.ok r mr).hi
          have hi := (List.getElem?_eq_some_iff.mp hr').1
          refine ⟨B, _, rfl, .inl (.inl (s11 _ _ hB)), rfl, _, _, rfl, _, _, rfl, _, _, rfl, rfl, ?_⟩
          refine ⟨_, rfl, .inl ⟨rfl, _, .inl (.inl hO)⟩, _, rfl, t, us, rfl, .inr (.inl (.inl (s11 _ _ htt))), ((us.length : Nat) : Int), rfl, by omega, by omega, fun D0 nD => ?_⟩
          have en : (((us.length : Nat) : Int)).toNat = us.length := by omega
          rw [en]
          have OD : O ≠ D0 := fun z => by
            rw [z, nD] at hO
            cases hO
          refine lc_range (lo := 0) (n := us.length) (fun k G2 => Same G G2 ∧ ∃ zs ds, G2 D0 = some (.lst zs) ∧ ds.length ≤ k ∧ DAll (hide [D0, O] G2) zs ds ∧ ∀ e ∈ ds, Oth rs e) ⟨same_new (Same.refl G) nD, [], [], upd_same, Nat.zero_le _, .nil, fun e he => by cases he⟩ (fun k G2 hk hq => ?_) (fun G2 hq => ?_)
          · obtain ⟨s12, zs, ds, hD, lz, hds, hod⟩ := hq
            have hk2 : k < us.length := hk
            obtain ⟨mm, hm, hxm⟩ := hxx.get (List.getElem?_eq_getElem hk2)
            have sB := s11.trans s12
            obtain ⟨pw, v0, vr, w0, eu, hpw, dw, q1, q2, q3, hkk⟩ := move_word pl sms mr (List.mem_of_getElem? hm) (hxm.same sB)
            have lzs := hds.len
            refine ⟨rfl, _, rfl, _, rfl, t, us, 0 + (k : Int), us[k], rfl, rfl, .inl (.inl (sB _ _ htt)), by rw [Int.zero_add]; exact atI_nat (List.getElem?_eq_getElem hk2), pw, _, 0, v0, eu, rfl, .inl (.inl hpw), atI_nat (j := 0) rfl, w0, .str "post", dw, .str _, q1, rfl, q2, (by decide), q3, (by decide +kernel), ?_⟩
            rw [← hkk "post"]
            refine ⟨_, rfl, ?_⟩
            have eg : r.2.2.getD k .none = mm := by rw [List.getD_eq_getElem?_getD, hm]; rfl
            cases ek : wordIs "post" mm with
            | true => exact iteF ⟨s12, zs, ds, hD, by omega, hds, hod⟩
            | false =>
              refine iteT ⟨_, rfl, _, rfl, len_ok, fun T nT => ⟨zs, upd_keep hD nT, small1000 (by omega), same_put (same_new s12 nT) nD, zs ++ [.ref T], ds ++ [siteP r.1 k], upd_same, by rw [List.length_append]; simp; omega, ?_, fun e he => ?_⟩⟩
              · refine DAll.app (.cons ?_ .nil) ?_
                · refine D.same hide_upd (.tup (hide_some ?_ upd_same) (.cons (.str _) (.cons ?_ .nil)))
                  · simp only [List.mem_cons, List.not_mem_nil, or_false, not_or]
                    exact ⟨(ne_of_none hD nT).symm, (ne_of_none (s12 _ _ hO) nT).symm⟩
                  · rw [Int.zero_add]
                    exact .int _
                · exact (hds.same (hide_same (same_new (Same.refl G2) nT))).same hide_upd
              · rcases List.mem_append.mp he with he | he
                · exact hod e he
                · rw [List.mem_singleton.mp he]
                  exact ⟨r, mr, k, by omega, by rw [eg]; exact ek, rfl⟩
          · obtain ⟨s12, zs, ds, hD, lz, hds, hod⟩ := hq
            have lzs := hds.len
            have los := hfs.len
            have b1 := Nat.mul_le_mul_right 5 (show i ≤ 2 by omega)
            refine ⟨O, D0, os, zs, rfl, rfl, s12 _ _ hO, hD, Nat.le_of_lt (small1000 (by omega)), ⟨_, _, _, _, _, _, _, _, rfl⟩, same_put (s11.trans s12) nO, os ++ zs, fs' ++ ds, upd_same, ?_, by rw [List.length_append]; omega, fun e he => ?_⟩
            · exact DAll.app ((hds.same hide_tail).same hide_upd) ((hfs.same (hide_same s12)).same hide_upd)
            · rcases List.mem_append.mp he with he | he
              · exact ho e he
              · exact hod e he
        · obtain ⟨⟨y11, y12, y13, y14, y15, y16, y17, y18, rfl⟩, s11, os, fo, hO, hfo, lfo, ho⟩ := hq
          rw [lb] at lfo
          have b15 := Nat.mul_le_mul_right 5 l3
          have los := hfo.len
          have s5G := s5O.trans s11
          have dE := dS.same s5G
          have hpE := hp5.same (hide_same s5G)
          have pgAE := pgA5.same (hide_same s5G)
          have pgFE := pgF5.same (hide_same s5G)
          have hsE := hs5.same (hide_same s5G)
          have hSE := hide_same s5G _ _ hS5
          have tE := tabs_same s5G t5
          have xE := x5.trans (ExtD.of (ExtN.of s5G))
          have hfE : DAll (hide [d] G) os fo := by
            obtain ⟨z1, z2, z3, e⟩ := dE
            exact nl_hideAll e ((hfo.same hide_sub).same fun b o h => hide_some (by simp) h) (nlAll_mem.mpr fun e he => by
              obtain ⟨r, _, j, _, _, rfl⟩ := ho e he
              rfl)
          clear hfo s5G s11 hS5 hs5 pgF5 pgA5 hp5 x5 t5 dS hS nO e1 e2 e3 e4 e5 s5O nO5 s10 s59 hA5 pgA5' hs5' hS5'
          refine ⟨_, rfl, len_ok, fun u1 n1 => ⟨len_ok, fun u2 n2 => ⟨len_ok, fun u3 n3 => ⟨len_ok, fun u4 n4 => ⟨len_ok, fun u5 n5 => ⟨len_ok, fun u6 n6 => fun u7 n7 => ⟨len_ok, fun L8 n8 => ⟨_, rfl, ?_⟩⟩⟩⟩⟩⟩⟩⟩
          have q1 := same_new (Same.refl G) n1 (o := .tup [])
          have e1 := dE.new n1 (o := .tup [])
          have f1 := dE.free n1
          have q2 := same_new (Same.refl _) n2 (o := .tup [.str "p"])
          have e2 := e1.new n2 (o := .tup [.str "p"])
          have f2 := e1.free n2
          have q3 := same_new (Same.refl _) n3 (o := .tup [.str "zz", .int 0])
          have e3 := e2.new n3 (o := .tup [.str "zz", .int 0])
          have f3 := e2.free n3
          have q4 := same_new (Same.refl _) n4 (o := .tup [.str "main", .int 99])
          have e4 := e3.new n4 (o := .tup [.str "main", .int 99])
          have f4 := e3.free n4
          have q5 := same_new (Same.refl _) n5 (o := .lst [.str "p", .int 0])
          have e5 := e4.new n5 (o := .lst [.str "p", .int 0])
          have f5 := e4.free n5
          have q6 := same_new (Same.refl _) n6 (o := .tup [.str "p", .bl true])
          have e6 := e5.new n6 (o := .tup [.str "p", .bl true])
          have f6 := e5.free n6
          have q7 := same_new (Same.refl _) n7 (o := .dK [])
          have e7 := e6.new n7 (o := .dK [])
          have f7 := e6.free n7
          have q8 := same_new (Same.refl _) n8 (o := .lst [.non, .int 0, .ref u1, .ref u2, .ref u3, .ref u4, .ref u5, .ref u6, .str "p", .ref u7])
          have e8 := e7.new n8 (o := .lst [.non, .int 0, .ref u1, .ref u2, .ref u3, .ref u4, .ref u5, .ref u6, .str "p", .ref u7])
          have f8 := e7.free n8
          have w1 := ((((((q2.trans q3).trans q4).trans q5).trans q6).trans q7).trans q8) _ _ (show upd _ u1 (.tup []) u1 = some (.tup []) from upd_same)
          have w2 := (((((q3.trans q4).trans q5).trans q6).trans q7).trans q8) _ _ (show upd _ u2 (.tup [.str "p"]) u2 = some (.tup [.str "p"]) from upd_same)
          have w3 := ((((q4.trans q5).trans q6).trans q7).trans q8) _ _ (show upd _ u3 (.tup [.str "zz", .int 0]) u3 = some (.tup [.str "zz", .int 0]) from upd_same)
          have w4 := (((q5.trans q6).trans q7).trans q8) _ _ (show upd _ u4 (.tup [.str "main", .int 99]) u4 = some (.tup [.str "main", .int 99]) from upd_same)
          have w5 := ((q6.trans q7).trans q8) _ _ (show upd _ u5 (.lst [.str "p", .int 0]) u5 = some (.lst [.str "p", .int 0]) from upd_same)
          have w6 := (q7.trans q8) _ _ (show upd _ u6 (.tup [.str "p", .bl true]) u6 = some (.tup [.str "p", .bl true]) from upd_same)
          have w7 := q8 _ _ (show upd _ u7 (.dK []) u7 = some (.dK []) from upd_same)
          have w8 : (upd (upd (upd (upd (upd (upd (upd (upd G u1 (.tup [])) u2 (.tup [.str "p"])) u3 (.tup [.str "zz", .int 0])) u4 (.tup [.str "main", .int 99])) u5 (.lst [.str "p", .int 0])) u6 (.tup [.str "p", .bl true])) u7 (.dK [])) L8 (.lst [.non, .int 0, .ref u1, .ref u2, .ref u3, .ref u4, .ref u5, .ref u6, .str "p", .ref u7])) L8 = some (.lst [.non, .int 0, .ref u1, .ref u2, .ref u3, .ref u4, .ref u5, .ref u6, .str "p", .ref u7]) := upd_same
          have sF := (((((((q1.trans q2).trans q3).trans q4).trans q5).trans q6).trans q7).trans q8)
          clear q1 q2 q3 q4 q5 q6 q7 q8 e1 e2 e3 e4 e5 e6 e7
          generalize (upd (upd (upd (upd (upd (upd (upd (upd G u1 (.tup [])) u2 (.tup [.str "p"])) u3 (.tup [.str "zz", .int 0])) u4 (.tup [.str "main", .int 99])) u5 (.lst [.str "p", .int 0])) u6 (.tup [.str "p", .bl true])) u7 (.dK [])) L8 (.lst [.non, .int 0, .ref u1, .ref u2, .ref u3, .ref u4, .ref u5, .ref u6, .str "p", .ref u7])) = GF at w1 w2 w3 w4 w5 w6 w7 w8 sF e8
          clear n1 n2 n3 n4 n5 n6 n7 n8
          have hOF := sF _ _ hO
          refine ⟨L8, O, _, _, rfl, rfl, w8, hOF, Nat.le_of_lt (small1000 (by show 10 + os.length ≤ 1000; omega)), fun M nM => ?_⟩
          have Md := e8.free nM
          have sM := same_new (Same.refl GF) nM (o := .lst ([.non, .int 0, .ref u1, .ref u2, .ref u3, .ref u4, .ref u5, .ref u6, .str "p", .ref u7] ++ os))
          have eM := e8.new nM (o := .lst ([.non, .int 0, .ref u1, .ref u2, .ref u3, .ref u4, .ref u5, .ref u6, .str "p", .ref u7] ++ os))
          have hM : upd GF M (.lst ([.non, .int 0, .ref u1, .ref u2, .ref u3, .ref u4, .ref u5, .ref u6, .str "p", .ref u7] ++ os)) M = some (.lst ([.non, .int 0, .ref u1, .ref u2, .ref u3, .ref u4, .ref u5, .ref u6, .str "p", .ref u7] ++ os)) := upd_same
          have hid : ∀ {u : Addr} {o : HO}, u ≠ d → GF u = some o → hide [d] GF u = some o := fun n e => hide_some (by simpa using n) e
          have dall : DAll (hide [d] GF) ([.non, .int 0, .ref u1, .ref u2, .ref u3, .ref u4, .ref u5, .ref u6, .str "p", .ref u7] ++ os) (oddL ++ fo) := DAll.app (hfE.same (hide_same sF)) (.cons .non (.cons (.int 0) (.cons (.tup (hid f1 w1) .nil) (.cons (.tup (hid f2 w2) (.cons (.str _) .nil)) (.cons (.tup (hid f3 w3) (.cons (.str _) (.cons (.int _) .nil))) (.cons (.tup (hid f4 w4) (.cons (.str _) (.cons (.int _) .nil))) (.cons (.lst (hid f5 w5) (.cons (.str _) (.cons (.int _) .nil))) (.cons (.tup (hid f6 w6) (.cons (.str _) (.cons (.bl _) .nil))) (.cons (.str _) (.cons (.dic (hid f7 w7)) .nil))))))))))
          have dall2 := dall.same (hide_same sM)
          have lx : ([.non, .int 0, .ref u1, .ref u2, .ref u3, .ref u4, .ref u5, .ref u6, .str "p", .ref u7] ++ os : List V).length = 10 + os.length := by rw [List.length_append]; rfl
          have nx0 : ([.non, .int 0, .ref u1, .ref u2, .ref u3, .ref u4, .ref u5, .ref u6, .str "p", .ref u7] ++ os : List V) ≠ [] := List.cons_ne_nil _ _
          generalize ([.non, .int 0, .ref u1, .ref u2, .ref u3, .ref u4, .ref u5, .ref u6, .str "p", .ref u7] ++ os : List V) = xo at sM eM hM dall dall2 lx nx0
          generalize upd GF M (.lst xo) = GM at sM eM hM dall2
          refine ⟨d, eM, .inl ⟨M, xo, rfl, Md, .inl (.inl (.inl hM)), nx0, by omega, fun j vo G8 hvo hN => ?_⟩⟩
          obtain ⟨eo, heo, hdo⟩ := dall2.get hvo
          have ook := odd_okS pl ho eo (List.mem_of_getElem? heo)
          have k8 : Same (hide [d] G) (hide [d] G8) := (hide_same (sF.trans sM)).trans (hide_but (by simp) hN.but)
          have hdo := hdo.same (hide_but (S := [d]) (by simp) hN.but)
          have d8 := hN.die
          have hp8 := hpE.same k8
          have pgA8 := pgAE.same k8
          have pgF8 := pgFE.same k8
          have hs8 := hsE.same k8
          have hS8 := k8 _ _ hSE
          have t8 := tabs_but eM hN.but (tabs_same (sF.trans sM) tE)
          have x8 := (xE.trans (ExtD.of (ExtN.of (sF.trans sM)))).trans (ExtD.but hN.but)
          clear k8 hN dall dall2 hM sM eM nx0 lx Md nM sF w1 w2 w3 w4 w5 w6 w7 w8 f1 f2 f3 f4 f5 f6 f7 f8 e8 hid hfE xE tE hSE hsE pgFE pgAE hpE dE hO hOF hvo heo
          obtain ⟨dxB, _, _, _, _, _, _, hA8⟩ := pg_ins (pgA8.same hide_sub)
          have lzf := hs8.len
          refine ⟨t8, fun H9 x9 t9 => ?_⟩
          have hA9 := x9 _ _ hA8 fun _ z => by cases z
          have hS9 := x9 _ _ (hide_sub _ _ hS8) fun _ z => by cases z
          refine ⟨_, rfl, a, dxB, _, rfl, hA9, rfl, _, rfl, _, rfl, len_ok, fun W nW => ?_⟩
          refine ⟨S, W, zs, _, rfl, rfl, upd_keep hS9 nW, upd_same, Nat.le_of_lt (small1000 (by show zs.length + 2 ≤ 1000; omega)), fun p0 HC sC hp0 => ?_⟩
          have sW := same_new (Same.refl H9) nW (o := .tup [vo, .non])
          have s9C := sW.trans sC
          dsimp only [tNil, List.append_nil, List.cons_append, List.nil_append]
          have hdo' := hdo.same hide_sub
          refine without_bad pl sms pf (((pgA8.same hide_sub).extn x9).same s9C) hp0 ((DAll.extn x9 (hs8.same hide_sub)).same s9C) ((D.extn x9 hdo').same s9C) ook.s ook.no fun dd HD sD hdd => ⟨rfl, dd, vo, rfl, hdd, fun P1 nP1 => ?_⟩
          have s9D := s9C.trans sD
          have hdoD := (D.extn x9 hdo').same s9D
          have sP1 := same_new (Same.refl HD) nP1 (o := .tup [.str "site", vo])
          refine .inr ⟨P1, _, [.str "site", eo], rfl, upd_same, .cons (.str _) (.cons (hdoD.same sP1) .nil), ook.rl, ?_⟩
          refine ⟨_, rfl, len_ok, fun P2 nP2 => ?_⟩
          have sP2 := same_new sP1 nP2 (o := .tup [.str "site", vo])
          refine .inr ⟨P2, _, [.str "site", eo], rfl, upd_same, .cons (.str _) (.cons (hdoD.same sP2) .nil), ook.rl, ⟨rfl, _, rfl, ifNY rfl ?_⟩⟩
          have s9Z := s9D.trans sP2
          have xZ : ExtN G8 (upd (upd HD P1 (.tup [.str "site", vo])) P2 (.tup [.str "site", vo])) := x9.trans (ExtN.of s9Z)
          have tZ := tabs_same s9Z t9
          generalize upd (upd HD P1 (.tup [.str "site", vo])) P2 (.tup [.str "site", vo]) = GZ at xZ tZ
          have kZ : ExtN (hide [d] G8) (hide [d] GZ) := hide_extd (ExtD.of xZ)
          have dZ := die_extn d8 xZ
          have pgAZ := pgA8.extn kZ
          have pgFZ := pgF8.extn kZ
          have hSZ := kZ _ _ hS8 fun _ z => by cases z
          have xZZ := x8.trans (ExtD.of xZ)
          clear kZ xZ s9Z sP2 sP1 hdoD s9D hdd sD hdo' s9C sW hp0 sC nW x9 t9 x8 t8 hS8 hs8 pgF8 pgA8 hp8 d8 hdo nP1 nP2 hA8 hA9 hS9
          -- what is no tuple
          refine ⟨_, rfl, _, rfl, S, zs, rfl, .inr (.inl (.inl (hide_sub _ _ hSZ))), fun L1 nL1 => fun u2 nu2 => ⟨_, rfl, len_ok, fun L3 n3 => ?_⟩⟩
          have r1 := same_new (Same.refl GZ) nL1 (o := .lst zs)
          have r2 := same_new (Same.refl _) nu2 (o := .dK [])
          have r3 := same_new (Same.refl _) n3 (o := .lst [.non, .int 0, .ref L1, .ref u2, .str "p", .bl true, .ref a])
          have d3 := ((dZ.new nL1 (o := .lst zs)).new nu2 (o := .dK [])).new n3 (o := .lst [.non, .int 0, .ref L1, .ref u2, .str "p", .bl true, .ref a])
          have L1d := dZ.free nL1
          have u2d := (dZ.new nL1 (o := .lst zs)).free nu2
          have L3d := ((dZ.new nL1 (o := .lst zs)).new nu2 (o := .dK [])).free n3
          have w1 := (r2.trans r3) _ _ (show upd GZ L1 (.lst zs) L1 = some (.lst zs) from upd_same)
          have w2 := r3 _ _ (show upd (upd GZ L1 (.lst zs)) u2 (.dK []) u2 = some (.dK []) from upd_same)
          have w3 : upd (upd (upd GZ L1 (.lst zs)) u2 (.dK [])) L3 (.lst [.non, .int 0, .ref L1, .ref u2, .str "p", .bl true, .ref a]) L3 = some (.lst [.non, .int 0, .ref L1, .ref u2, .str "p", .bl true, .ref a]) := upd_same
          have rr := (r1.trans r2).trans r3
          generalize upd (upd (upd GZ L1 (.lst zs)) u2 (.dK [])) L3 (.lst [.non, .int 0, .ref L1, .ref u2, .str "p", .bl true, .ref a]) = G3' at w1 w2 w3 rr d3
          clear r1 r2 r3 nL1 nu2 n3
          refine ⟨d, d3, .inl ⟨L3, _, rfl, L3d, .inl (.inl (.inl w3)), List.cons_ne_nil _ _, by show 7 < 1073741824; decide, fun j vw G9 hvw hN => ?_⟩⟩
          have kR : Same (hide [d] GZ) (hide [d] G9) := (hide_same rr).trans (hide_but (by simp) hN.but)
          have d9 := hN.die
          have t9 := tabs_but d3 hN.but (tabs_same rr tZ)
          have x9 := (xZZ.trans (ExtD.of (ExtN.of rr))).trans (ExtD.but hN.but)
          have w1 := hN.but _ _ L1d w1
          have w2 := hN.but _ _ u2d w2
          have pgA9 := pgAZ.same kR
          have pgF9 := pgFZ.same kR
          clear kR rr w3 d3 pgAZ pgFZ hSZ tZ xZZ dZ hN L1d u2d L3d
          obtain ⟨dxC, _, _, _, _, _, _, hA9⟩ := pg_ins (pgA9.same hide_sub)
          have wk : Sm.OneV vw ∧ ∃ T, (∀ G', ExtN G9 G' → TyX K G' vw T) ∧ PySem.W.kitOne K T (.type "tuple") = some false := by
            match j, hvw with
            | 0, h => cases h; exact ⟨.inl ⟨rfl, rfl⟩, _, fun G' x => (D.non : D G' .non .none).ty, kit_ty (by decide +kernel)⟩
            | 1, h => cases h; exact ⟨.inl ⟨rfl, rfl⟩, _, fun G' x => (D.int 0 : D G' (.int 0) (.int 0)).ty, kit_ty (by decide +kernel)⟩
            | 2, h => cases h; exact ⟨.inr ⟨_, rfl⟩, .type "list", fun G' x => .base (.lst (x _ _ w1 fun _ z => by cases z)), kit_ty (by decide +kernel)⟩
            | 3, h => cases h; exact ⟨.inr ⟨_, rfl⟩, _, fun G' x => (D.dic (x _ _ w2 fun _ z => by cases z) : D G' (.ref u2) (.dict [])).ty, kit_ty (by decide +kernel)⟩
            | 4, h => cases h; exact ⟨.inl ⟨rfl, by decide +kernel⟩, _, fun G' x => (D.str "p" : D G' (.str "p") (.str "p")).ty, kit_ty (by decide +kernel)⟩
            | 5, h => cases h; exact ⟨.inl ⟨rfl, rfl⟩, _, fun G' x => (D.bl true : D G' (.bl true) (.bool true)).ty, kit_ty (by decide +kernel)⟩
            | 6, h => cases h; exact ⟨.inr ⟨_, rfl⟩, .ref Cg, fun G' x => .base (.ins (x _ _ hA9 fun _ z => by cases z) cg.cls cg.c1 cg.c2 cg.c3 cg.c4), kgt⟩
            | (n + 7), h => simp at h
          clear hvw w1 w2
          obtain ⟨ov, T, ty, kT⟩ := wk
          refine ⟨t9, fun H9 y9 s9 => ?_⟩
          have hA10 := y9 _ _ hA9 fun _ z => by cases z
          refine ⟨_, rfl, a, dxC, _, rfl, hA10, rfl, _, rfl, ?_⟩
          dsimp only [tNil, List.append_nil, List.cons_append, List.nil_append]
          refine without_type pl sms ((pgA9.same hide_sub).extn y9) (ty _ y9) kT fun dd HD sD hdd => ⟨rfl, dd, vw, rfl, hdd, fun P1 nP1 => ⟨_, rfl, len_ok, fun P2 nP2 => ?_⟩⟩
          have sP := same_new (same_new sD nP1 (o := .tup [.str "site", vw])) nP2 (o := .tup [.str "site", vw])
          have hP1 : upd (upd HD P1 (.tup [.str "site", vw])) P2 (.tup [.str "site", vw]) P1 = some (.tup [.str "site", vw]) := upd_keep upd_same nP2
          have xP : ExtN G9 _ := y9.trans (ExtN.of sP)
          have tP := tabs_same sP s9
          refine ⟨P1, P2, _, rfl, rfl, .inl (.inl hP1), .inl (.inl upd_same), fun v hv => ?_, ⟨_, rfl, iteF ?_⟩⟩
          · simp only [List.mem_cons, List.not_mem_nil, or_false] at hv
            rcases hv with rfl | rfl
            · exact .inl ⟨rfl, by decide +kernel⟩
            · exact ov
          · generalize upd (upd HD P1 (.tup [.str "site", vw])) P2 (.tup [.str "site", vw]) = GY at xP tP
            have kY : ExtN (hide [d] G9) (hide [d] GY) := hide_extd (ExtD.of xP)
            have pgAY := (pgA9.extn kY).same hide_sub
            have pgFY := (pgF9.extn kY).same hide_sub
            have dY := die_extn d9 xP
            have hAY := xP _ _ hA9 fun _ z => by cases z
            refine ⟨_, rfl, a, dxC, _, rfl, hAY, rfl, len_ok, fun T1 nT1 => ?_⟩
            dsimp only [tNil, List.append_nil, List.cons_append, List.nil_append]
            have sT1 := same_new (Same.refl GY) nT1 (o := .tup [])
            have noP : Posts rs [] := fun e he => nomatch he
            refine without_ok pl sms noP (pgAY.same sT1) upd_same .nil fun GV av sV nv pgV => ⟨_, rfl, ?_⟩
            rw [hushR_nil] at pgV
            have sYV := sT1.trans sV
            refine eq_any cg pgV (pgFY.same sYV) rfl (rowsEq_self gr) fun GU sU => ?_
            have sYU := sYV.trans sU
            exact q GU ((x9.trans (ExtD.of xP)).trans (ExtD.of (ExtN.of sYU))) (dY.same sYU) (tabs_same sYU tP)
end
end My

namespace My
open PySem PySem.Spec PyProof.Rows L2 Sh Dt
open Eo (FnG pe_callG fnG_ok)
open LamX (Tabs ExtN TabB pe_lamcall lamS_by)
open Cl (ErrC)
open Xc (ExtD spRightT spLawT tabs_but tabs_same)
abbrev s_law : Stmt := topS 49
abbrev Nlaw : List Str := ["script", "at", "moves", "program", "bare", "told", "due"]
theorem sc_law : FnScope Nlaw ["script"] (defScope s_law) := ⟨rfl, rfl, rfl, by decide +kernel, rfl, by decide +kernel, by decide +kernel⟩
theorem prog_any {C Cg Ce : Addr} {G : Hp} {mv sv bv : V} {xs : List V} {dm ds db : PyData} {os : List (Option Row)} {Q : VK} {E : XK} (hm : D G mv dm) (hs : D G sv ds) (hb : D G bv db) (ho : OAll C G xs os) (l60 : os.length ≤ 60) (s1 : sm dm = true) (s2 : sm ds = true) (s3 : sm db = true) (s4 : ∀ r ∈ rowsO os, ∀ m ∈ r.2.2, sm m = true)
    {x dx : Addr} (nx : G x = none) (nd : G dx = none) (ne : dx ≠ x) (qy : goodG dm ds db os = true → ∀ G' n, Same G G' → dm = .int n → Pg C Cg G' x n ds db (rowsO os) → Q .non G') (qn : goodG dm ds db os = false → ∀ G', Same G G' → E (.ref Ce) none G') :
    spIG C Cg Ce (.ref x :: mv :: sv :: bv :: xs) (upd (upd G dx (.own x)) x (.ins Cg dx [])) Q E := by
  have ln := ho.len
  have sA := same_new (same_new (Same.refl G) nd (o := .own x)) ((upd_ne ne.symm).trans nx) (o := .ins Cg dx [])
  refine ⟨[.ref x, mv, sv, bv], xs, rfl, rfl, Nat.le_of_lt (small1000 (by omega)), fun p np => ?_⟩
  have sB := same_new sA np (o := .tup xs)
  have xp : x ≠ p := fun z => by
    rw [← z, upd_same] at np
    cases np
  refine ⟨x, dx, mv, sv, bv, p, xs, dm, ds, db, os, rfl, upd_keep upd_same np, upd_same, hm.same sB, hs.same sB, hb.same sB, ho.same sB, l60, s1, s2, s3, s4, fun g H' b' ga => ?_, fun g H' e' => qn g H' (sB.trans e')⟩
  have al : os.all Option.isSome = true := by
    unfold goodG procsOk at g
    simp only [Bool.and_eq_true] at g
    exact g.1.2.1
  obtain ⟨rs, rfl, hp⟩ := ho.p al
  obtain ⟨n, rfl, gg⟩ := goodG_of g s2 s3
  rw [rowsO_some] at ga
  obtain ⟨dx', u, l, m, g1, g2⟩ := ga
  cases hm
  have sH : Same G H' := fun b o eb => b' b o (ne_of_none eb nx) (sB b o eb)
  refine qy g H' n sH rfl ?_
  rw [rowsO_some]
  exact ⟨dx', sv, bv, p, xs, u, l, m, g1, hs.same sH, hb.same sH, b' _ _ xp.symm upd_same, hp.same sH, g2, gg⟩
theorem d_one {G : Hp} {p : Addr} {i : Int} (h : G p = some (.tup [.int i])) : D G (.ref p) (.tuple [.int i]) := .tup h (.cons (.int _) .nil)
def mvsK : List PyData := [.tuple [.str "post", .int 0, .int 1, .str "p", .tuple [.int 0, .int 2]], .tuple [.str "go", .int 0, .int 0, .tuple [.tuple [.int 1, .int 1]]], .tuple [.str "post", .int 1, .int 0, .str "p", .tuple [.int 1]]]
def rowK : Row := ("p", 2, mvsK)
def esK : List PyData := [siteP "p" 2, siteP "p" 0, siteP "p" 2]
def mvsB : List PyData := [.tuple [.str "go", .int 0, .int 1, .tuple [.tuple [.int 0, .int 0], .tuple [.int 2, .int 2]]], .tuple [.str "go", .int 0, .int 0, .tuple [.tuple [.int 1, .int 1]]], .tuple [.str "go", .int 1, .int 0, .tuple [.tuple [.int 1, .int 1]]]]
def rowB : Row := ("p", 2, mvsB)
theorem rowK_good : GoodRow rowK := ⟨⟨by decide +kernel, by decide +kernel, by decide +kernel, by decide +kernel⟩, by decide +kernel, by decide +kernel, by decide +kernel⟩
theorem rowB_good : GoodRow rowB := ⟨⟨by decide +kernel, by decide +kernel, by decide +kernel, by decide +kernel⟩, by decide +kernel, by decide +kernel, by decide +kernel⟩
theorem hushK : hushR esK [rowK] = [rowB] := by
  show [(("p" : Str), (2 : Int), (List.range 3).map (hushM "p" esK mvsK))] = [rowB]
  have h0 : hushM "p" esK mvsK 0 = mvsB.getD 0 .none := by
    show (if hit "p" esK 0 = true then hushD (mvsK.getD 0 .none) else mvsK.getD 0 .none) = _
    rw [show hit "p" esK 0 = true by decide +kernel]
    rfl
  have h1 : hushM "p" esK mvsK 1 = mvsB.getD 1 .none := by
    show (if hit "p" esK 1 = true then hushD (mvsK.getD 1 .none) else mvsK.getD 1 .none) = _
    rw [show hit "p" esK 1 = false by decide +kernel]
    rfl
  have h2 : hushM "p" esK mvsK 2 = mvsB.getD 2 .none := by
    show (if hit "p" esK 2 = true then hushD (mvsK.getD 2 .none) else mvsK.getD 2 .none) = _
    rw [show hit "p" esK 2 = true by decide +kernel]
    rfl
  rw [show List.range 3 = [0, 1, 2] from rfl, List.map_cons, List.map_cons, List.map_cons, List.map_nil, h0, h1, h2]
  rfl
theorem postsK : ∀ e ∈ esK, postAt [rowK] e = true := fun e he => by
  simp only [esK, List.mem_cons, List.not_mem_nil, or_false] at he
  rcases he with rfl | rfl | rfl <;> decide +kernel
theorem smK : ∀ e ∈ esK, sm e = true := fun e he => by
  simp only [esK, List.mem_cons, List.not_mem_nil, or_false] at he
  rcases he with rfl | rfl | rfl <;> decide +kernel
theorem postDK : ∀ r ∈ [rowK], ∀ (i : Nat) m, r.2.2[i]? = some m → hit r.1 esK i = true → PostD m := fun r hr i m hm hh => by
  rw [List.mem_singleton.mp hr] at hm hh
  match i, hm with
  | 0, e => cases e; exact ⟨.int 0, .int 1, "p", [0, 2], rfl, by decide, rfl, rfl⟩
  | 1, e => exact absurd hh (by decide +kernel)
  | 2, e => cases e; exact ⟨.int 1, .int 0, "p", [1], rfl, by decide, rfl, rfl⟩
  | (n + 3), e => simp [rowK, mvsK] at e
theorem goodGK : goodG (.int 3) (.tuple [.int 0]) (.tuple [.int 5]) [some rowK] = true := by decide +kernel
theorem goodGB : goodG (.int 3) (.tuple [.int 0]) (.tuple [.int 5]) ((hushR esK [rowK]).map some) = true := by
  rw [hushK]
  decide +kernel
theorem sitesK : sitesD "post" [rowK] = [siteP "p" 0, siteP "p" 2] := by rfl
theorem sitesB : sitesD "post" [rowB] = [] := by rfl
def toldK : PyData := .list [.tuple mvsB, .tuple [], .tuple [.int 5], .tuple [siteP "p" 0, siteP "p" 2]]
theorem toldK_ok : toldK.plain = true ∧ toldK.depth ≤ 60 ∧ PyData.eqv toldK toldK = true := ⟨by decide +kernel, by decide +kernel, by decide +kernel⟩
section
variable {P : Program} {w : World} {K : PySem.W.Frag} {mg : Str → Option Value} {base : Heap} {C Ce fI fO pO fE fL fS p1 g1 p2 g2 p3 g3 : Addr} {mc : Value}{Cg Cn Cs fIg fOg pOg fEg fLg fSg fGg fCg fMg fHg pg1 gg1 pg2 gg2 pg3 gg3 pg4 gg4 pg5 gg5 pg6 gg6 pg7 gg7 : Addr} {mcg : Value}{fW : Addr}
theorem ok_law {f__law_numbers : Addr} {fd__law_numbers : FuncData}{f : Addr} {oc0 kV0 dc0 pm0 cd0 ct0 : Value} {od0 an0 : Option Addr} {sl0 : Array (Option Value)} {TS : List (Addr × Str)}
    (l0 : K.lookup f = some ⟨oc0, od0, .func (PySem.W.fnOf "law" "law" (defArgs s_law) (defBody s_law) (defScope s_law) .none kV0 dc0 pm0 an0 cd0 ct0), sl0⟩) (hc0 : PySem.W.codeIn K cd0 "law" = true)
    (c : PcdC K mg C fI fO pO fE fL fS p1 g1 p2 g2 p3 g3 mc) (cg : PgmC K mg Cg fIg fOg pOg fEg fLg fSg fGg fCg fMg fHg pg1 gg1 pg2 gg2 pg3 gg3 pg4 gg4 pg5 gg5 pg6 gg6 pg7 gg7 mcg) (FO : FnR P w K mg base (L2.CX P w) 9 fO (spOf C Ce)) (FIg : FnR P w K mg base (L2.CX P w) 8 fIg (spIG C Cg Ce)) {fd_g3 : FuncData} (G_g3 : FnOk P w K mg base CX0 1 g3 fd_g3 ["self"] (getSp C "_moves")) (b_g3 : Binds K fd_g3 ["self"] []) {fdm3 : FuncData} (G_m3 : FnOk P w K mg base CX0 1 gg3 fdm3 ["self"] (getSp Cg "_begin")) (b_m3 : Binds K fdm3 ["self"] []) {fdm6 : FuncData} (G_m6 : FnOk P w K mg base CX0 4 gg6 fdm6 ["self"] (spPosts C Cg "post")) (b_m6 : Binds K fdm6 ["self"] []) {fdm7 : FuncData} (G_m7 : FnOk P w K mg base CX0 4 gg7 fdm7 ["self"] (spPosts C Cg "call")) (b_m7 : Binds K fdm7 ["self"] []) (FGt : FnR P w K mg base (L2.CX P w) 3 fGg (spGet C Cg Cn)) (FLp : FnR P w K mg base CX0 1 fL (spLenP C)) (mwo : Meth K Cg "without_posts" fW) {fdw : FuncData} (G_wo : FnOk P w K mg base (L2.CX P w) 15 fW fdw ["self", "sites"] (spWithout K C Cg Cs)) (b_wo : Binds K fdw ["self", "sites"] []) (G__law_numbers : FnOk P w K mg base CX0 1 f__law_numbers fd__law_numbers ["script", "at"] (spNumbers K)) (F__law_numbers : Fun K "_law_numbers" "_law_numbers" s_law_numbers f__law_numbers fd__law_numbers) (b__law_numbers : Binds K fd__law_numbers ["script", "at"] []) (g__law_numbers : mg "_law_numbers" = some (.ref f__law_numbers)){f__law_right : Addr} {fd__law_right : FuncData} (G__law_right : FnG P w K mg base 20 f__law_right fd__law_right ["die"] (spRightT TS)) (F__law_right : Fun K "_law_right" "_law_right" s_law_right f__law_right fd__law_right) (b__law_right : Binds K fd__law_right ["die"] []) (g__law_right : mg "_law_right" = some (.ref f__law_right))  (m_len : mg "len" = none) (m_max : mg "max" = none) (m_min : mg "min" = none) (m_range : mg "range" = none) :
    FnG P w K mg base 21 f (PySem.W.fnOf "law" "law" (defArgs s_law) (defBody s_law) (defScope s_law) .none kV0 dc0 pm0 an0 cd0 ct0) ["script"] (spLawT K TS) := by
  refine Cl.fnG_of l0 hc0 sc_law (fun vs H Q E h => ?_) (fun A outer s H vs Q E hg hr h => ?_)
  · obtain ⟨a, ns, rfl, _⟩ := h
    rfl
  · obtain ⟨a, ns, rfl, hS, h63, hT, q⟩ := h
    refine ⟨_, (pss_cons (ps_for PassesOwn.never rfl (pi_range1 rfl m_range (pa_cons (pe_callB (call_max2 rfl) (by rfl) m_max (by decide +kernel) (pa_cons pe_int (pa_cons (pe_callB (call_min2 rfl) (by rfl) m_min (by decide +kernel) (pa_cons pe_int (pa_cons (pe_callB call_len_seq (by rfl) m_len (by decide +kernel) (pa_cons (pv 0) pa_nil)) pa_nil))) pa_nil))) pa_nil)) (pg_name (i := 1) sc_law.nd rfl (by first | exact Or.inl rfl | exact Or.inr rfl))
        (pss_one (ps_if (pt_not (pt_val (pe_callG G__law_right hg (hr.mono (by decide)) (by rfl) g__law_right F__law_right.kp b__law_right (pa_cons (pe_call G__law_numbers (hr.mono (by decide)) (by rfl) g__law_numbers F__law_numbers.kp b__law_numbers .nil pass0 (pa_cons (pv 0) (pa_cons (pv 1) pa_nil))) pa_nil))))
          (pss_one (ps_ret pe_bl))
          pss_nil)))
      (pss_cons (ps_set (i := 2) sc_law.nd rfl (by first | exact Or.inl rfl | exact Or.inr rfl) (pe_tup (pa_cons (pe_tup (pa_cons pe_str (pa_cons pe_int (pa_cons pe_int (pa_cons pe_str (pa_cons (pe_tup (pa_cons pe_int (pa_cons pe_int pa_nil))) pa_nil)))))) (pa_cons (pe_tup (pa_cons pe_str (pa_cons pe_int (pa_cons pe_int (pa_cons (pe_tup (pa_cons (pe_tup (pa_cons pe_int (pa_cons pe_int pa_nil))) pa_nil)) pa_nil))))) (pa_cons (pe_tup (pa_cons pe_str (pa_cons pe_int (pa_cons pe_int (pa_cons pe_str (pa_cons (pe_tup (pa_cons pe_int pa_nil)) pa_nil)))))) pa_nil)))))
      (pss_cons (ps_set (i := 3) sc_law.nd rfl (by first | exact Or.inl rfl | exact Or.inr rfl) (StX.pe_makeR cg.make FIg (hr.mono (by decide)) rfl cg.gP Cl.passF (pa_cons pe_int (pa_cons (pe_tup (pa_cons pe_int pa_nil)) (pa_cons (pe_tup (pa_cons pe_int pa_nil)) (pa_cons (ClX.pe_cmeth (pe_glob (v := .ref C) rfl c.gP rfl) c.cr c.cm FO (hr.mono (by decide)) Cl.passF (pa_cons pe_str (pa_cons pe_int (pa_cons (pv 2) pa_nil)))) pa_nil))))))
      (pss_cons (ps_set (i := 4) sc_law.nd rfl (by first | exact Or.inl rfl | exact Or.inr rfl) (pe_meth (pv 3) cg.cls mwo G_wo (hr.mono (by decide)) b_wo .nil (Cl.passF) (pa_cons (pe_tup (pa_cons (pe_tup (pa_cons pe_str (pa_cons pe_int pa_nil))) (pa_cons (pe_tup (pa_cons pe_str (pa_cons pe_int pa_nil))) (pa_cons (pe_tup (pa_cons pe_str (pa_cons pe_int pa_nil))) pa_nil)))) pa_nil)))
      (pss_cons (ps_set (i := 5) sc_law.nd rfl (by first | exact Or.inl rfl | exact Or.inr rfl) (pe_lst (pa_cons (pe_prop (_root_.Cn.pe_getO cg.gi cg.gif cg.gifn FGt (hr.mono (by decide)) (Cl.passF) (pv 4) pe_str) c.cls c.q3 G_g3 (hr.mono (by decide)) b_g3 .nil (passC0 _) rfl) (pa_cons (pe_prop (pv 4) cg.cls cg.q6 G_m6 (hr.mono (by decide)) b_m6 .nil (passC0 _) rfl) (pa_cons (pe_prop (pv 4) cg.cls cg.q3 G_m3 (hr.mono (by decide)) b_m3 .nil (passC0 _) rfl) (pa_cons (pe_prop (pv 3) cg.cls cg.q6 G_m6 (hr.mono (by decide)) b_m6 .nil (passC0 _) rfl) pa_nil))))))
      (pss_cons (ps_set (i := 6) sc_law.nd rfl (by first | exact Or.inl rfl | exact Or.inr rfl) (pe_lst (pa_cons (pe_tup (pa_cons (pe_tup (pa_cons pe_str (pa_cons pe_int (pa_cons pe_int (pa_cons (pe_tup (pa_cons (pe_tup (pa_cons pe_int (pa_cons pe_int pa_nil))) (pa_cons (pe_tup (pa_cons pe_int (pa_cons pe_int pa_nil))) pa_nil))) pa_nil))))) (pa_cons (pe_tup (pa_cons pe_str (pa_cons pe_int (pa_cons pe_int (pa_cons (pe_tup (pa_cons (pe_tup (pa_cons pe_int (pa_cons pe_int pa_nil))) pa_nil)) pa_nil))))) (pa_cons (pe_tup (pa_cons pe_str (pa_cons pe_int (pa_cons pe_int (pa_cons (pe_tup (pa_cons (pe_tup (pa_cons pe_int (pa_cons pe_int pa_nil))) pa_nil)) pa_nil))))) pa_nil)))) pa_nil)))
      (pss_one (ps_ret (pe_and (pe_cmpR (op_eqH hr.units) (pv 5) (pe_op op_cat (pv 6) (pe_lst (pa_cons (pe_tup pa_nil) (pa_cons (pe_tup (pa_cons pe_int pa_nil)) (pa_cons (pe_tup (pa_cons (pe_tup (pa_cons pe_str (pa_cons pe_int pa_nil))) (pa_cons (pe_tup (pa_cons pe_str (pa_cons pe_int pa_nil))) pa_nil))) pa_nil))))) (nomark _)) (pe_one (pe_cmpR op_eq (pe_callB (Cl.call_lenO c.ln c.lnf FLp (hr.mono (by decide)) (passC0 _)) (by rfl) m_len (by decide +kernel) (pa_cons (_root_.Cn.pe_getO cg.gi cg.gif cg.gifn FGt (hr.mono (by decide)) (Cl.passF) (pv 4) pe_str) pa_nil)) pe_int (nomark _)))))))))))), ?_⟩
    have hb := turns_ok (c := 6) (n := (ns.map V.int).length) (by rw [List.length_map]; exact h63) (by decide) (by decide)
    refine ⟨.ref a, rfl, a, ns.map V.int, rfl, .inl hS, 6, _, rfl, 1, _, rfl, _, rfl, hb.1, hb.2, for_range (lo := 0)
      (fun k σ H' => (∃ y1 y2 y3 y4 y5 y6, σ = [some (.ref a), y1, y2, y3, y4, y5, y6]) ∧ ExtN H H' ∧ Tabs TS H') ⟨⟨_, _, _, _, _, _, rfl⟩, ExtN.refl H, hT⟩ (fun k σ H' _ hp => ?_) (fun σ H' hp => ?_)⟩
    · obtain ⟨⟨y1, y2, y3, y4, y5, y6, rfl⟩, e1, hT'⟩ := hp
      refine ⟨.ref a, rfl, _, rfl, a, ns, 0 + (k : Int), rfl, by omega, Xc.extn_seq e1 hS, fun p x y np => ?_⟩
      have s1 := same_new (Same.refl H') np (o := .lst [.int x, .int y, .int 0])
      exact ⟨p, rfl, ⟨_, _, _, upd_same⟩, tabs_same s1 hT', fun H3 e3 d3 t3 => ⟨true, rfl, iteF ⟨⟨_, _, _, _, _, _, rfl⟩, e1.trans (Xc.extd_new np e3), t3⟩⟩⟩
    · obtain ⟨⟨y1, y2, y3, y4, y5, y6, rfl⟩, e1, hT1⟩ := hp
      clear hb e1 hS hT hT1
      refine ⟨len_ok, fun a1 na1 => ⟨len_ok, fun m1 nm1 => ⟨len_ok, fun b1 nb1 => ⟨len_ok, fun b2 nb2 => ⟨len_ok, fun m2 nm2 => ⟨len_ok, fun c1 nc1 => ⟨len_ok, fun m3 nm3 => ⟨len_ok, fun MT nMT => ?_⟩⟩⟩⟩⟩⟩⟩⟩
      have q1 := same_new (Same.refl H') na1 (o := .tup [.int 0, .int 2])
      have q2 := same_new (Same.refl _) nm1 (o := .tup [.str "post", .int 0, .int 1, .str "p", .ref a1])
      have q3 := same_new (Same.refl _) nb1 (o := .tup [.int 1, .int 1])
      have q4 := same_new (Same.refl _) nb2 (o := .tup [.ref b1])
      have q5 := same_new (Same.refl _) nm2 (o := .tup [.str "go", .int 0, .int 0, .ref b2])
      have q6 := same_new (Same.refl _) nc1 (o := .tup [.int 1])
      have q7 := same_new (Same.refl _) nm3 (o := .tup [.str "post", .int 1, .int 0, .str "p", .ref c1])
      have q8 := same_new (Same.refl _) nMT (o := .tup [.ref m1, .ref m2, .ref m3])
      have wa1 := ((((((q2.trans q3).trans q4).trans q5).trans q6).trans q7).trans q8) _ _ (show upd _ a1 (.tup [.int 0, .int 2]) a1 = some (.tup [.int 0, .int 2]) from upd_same)
      have wm1 := (((((q3.trans q4).trans q5).trans q6).trans q7).trans q8) _ _ (show upd _ m1 (.tup [.str "post", .int 0, .int 1, .str "p", .ref a1]) m1 = some (.tup [.str "post", .int 0, .int 1, .str "p", .ref a1]) from upd_same)
      have wb1 := ((((q4.trans q5).trans q6).trans q7).trans q8) _ _ (show upd _ b1 (.tup [.int 1, .int 1]) b1 = some (.tup [.int 1, .int 1]) from upd_same)
      have wb2 := (((q5.trans q6).trans q7).trans q8) _ _ (show upd _ b2 (.tup [.ref b1]) b2 = some (.tup [.ref b1]) from upd_same)
      have wm2 := ((q6.trans q7).trans q8) _ _ (show upd _ m2 (.tup [.str "go", .int 0, .int 0, .ref b2]) m2 = some (.tup [.str "go", .int 0, .int 0, .ref b2]) from upd_same)
      have wc1 := (q7.trans q8) _ _ (show upd _ c1 (.tup [.int 1]) c1 = some (.tup [.int 1]) from upd_same)
      have wm3 := q8 _ _ (show upd _ m3 (.tup [.str "post", .int 1, .int 0, .str "p", .ref c1]) m3 = some (.tup [.str "post", .int 1, .int 0, .str "p", .ref c1]) from upd_same)
      have wMT : (upd (upd (upd (upd (upd (upd (upd (upd H' a1 (.tup [.int 0, .int 2])) m1 (.tup [.str "post", .int 0, .int 1, .str "p", .ref a1])) b1 (.tup [.int 1, .int 1])) b2 (.tup [.ref b1])) m2 (.tup [.str "go", .int 0, .int 0, .ref b2])) c1 (.tup [.int 1])) m3 (.tup [.str "post", .int 1, .int 0, .str "p", .ref c1])) MT (.tup [.ref m1, .ref m2, .ref m3])) MT = some (.tup [.ref m1, .ref m2, .ref m3]) := upd_same
      have sM := (((((((q1.trans q2).trans q3).trans q4).trans q5).trans q6).trans q7).trans q8)
      clear q1 q2 q3 q4 q5 q6 q7 q8
      generalize (upd (upd (upd (upd (upd (upd (upd (upd H' a1 (.tup [.int 0, .int 2])) m1 (.tup [.str "post", .int 0, .int 1, .str "p", .ref a1])) b1 (.tup [.int 1, .int 1])) b2 (.tup [.ref b1])) m2 (.tup [.str "go", .int 0, .int 0, .ref b2])) c1 (.tup [.int 1])) m3 (.tup [.str "post", .int 1, .int 0, .str "p", .ref c1])) MT (.tup [.ref m1, .ref m2, .ref m3])) = G1 at wa1 wm1 wb1 wb2 wm2 wc1 wm3 wMT sM
      clear na1 nm1 nb1 nb2 nm2 nc1 nm3 nMT
      have dM : D G1 (.ref MT) (.tuple mvsK) := .tup wMT (.cons (.tup wm1 (.cons (.str _) (.cons (.int _) (.cons (.int _) (.cons (.str _) (.cons (.tup wa1 (.cons (.int _) (.cons (.int _) .nil))) .nil)))))) (.cons (.tup wm2 (.cons (.str _) (.cons (.int _) (.cons (.int _) (.cons (.tup wb2 (.cons (.tup wb1 (.cons (.int _) (.cons (.int _) .nil))) .nil)) .nil))))) (.cons (.tup wm3 (.cons (.str _) (.cons (.int _) (.cons (.int _) (.cons (.str _) (.cons (.tup wc1 (.cons (.int _) .nil)) .nil)))))) .nil)))
      clear wMT wm1 wa1 wm2 wb2 wb1 wm3 wc1 sM
      refine ⟨len_ok, fun s0 ns0 => ⟨len_ok, fun g0 ng0 => ⟨rfl, _, rfl, ?_⟩⟩⟩
      have s2 := same_new (same_new (Same.refl G1) ns0 (o := .tup [.int 0])) ng0 (o := .tup [.int 5])
      have ws := upd_keep (o := .tup [.int 5]) (show upd G1 s0 (.tup [.int 0]) s0 = some (.tup [.int 0]) from upd_same) ng0
      have wg : upd (upd G1 s0 (.tup [.int 0])) g0 (.tup [.int 5]) g0 = some (.tup [.int 5]) := upd_same
      generalize upd (upd G1 s0 (.tup [.int 0])) g0 (.tup [.int 5]) = G2 at s2 ws wg
      clear ns0 ng0
      dsimp only [tNil, List.append_nil, List.cons_append, List.nil_append]
      refine of_row rowK_good (dM.same s2) fun G3 pb s3 npb pr => ?_
      have ws := s3 _ _ ws
      have wg := s3 _ _ wg
      clear s2 s3 npb dM
      intro x dx nx nd ne
      refine prog_any (dm := .int 3) (ds := .tuple [.int 0]) (db := .tuple [.int 5]) (os := [some rowK]) (.int 3) (d_one ws) (d_one wg) (.cons pr .nil) (by decide) rfl (by decide +kernel) (by decide +kernel) (by decide +kernel) nx nd ne (fun _ G4 n s4 en pgK => ⟨rfl, ?_⟩) (fun g => absurd g (by rw [goodGK]; simp))
      cases en
      have pgK : Pg C Cg G4 x 3 (.tuple [.int 0]) (.tuple [.int 5]) [rowK] := pgK
      obtain ⟨dk, _, _, _, _, _, _, hK⟩ := pg_ins pgK
      clear s4 ws wg pr nx nd ne
      refine ⟨_, rfl, x, dk, _, rfl, hK, rfl, len_ok, fun t1 nt1 => ⟨len_ok, fun t2 nt2 => ⟨len_ok, fun t3 nt3 => ⟨len_ok, fun T nT => ?_⟩⟩⟩⟩
      have q1 := same_new (Same.refl G4) nt1 (o := .tup [.str "p", .int 2])
      have q2 := same_new (Same.refl _) nt2 (o := .tup [.str "p", .int 0])
      have q3 := same_new (Same.refl _) nt3 (o := .tup [.str "p", .int 2])
      have q4 := same_new (Same.refl _) nT (o := .tup [.ref t1, .ref t2, .ref t3])
      have wt1 := ((q2.trans q3).trans q4) _ _ (show upd _ t1 (.tup [.str "p", .int 2]) t1 = some (.tup [.str "p", .int 2]) from upd_same)
      have wt2 := (q3.trans q4) _ _ (show upd _ t2 (.tup [.str "p", .int 0]) t2 = some (.tup [.str "p", .int 0]) from upd_same)
      have wt3 := q4 _ _ (show upd _ t3 (.tup [.str "p", .int 2]) t3 = some (.tup [.str "p", .int 2]) from upd_same)
      have wT : (upd (upd (upd (upd G4 t1 (.tup [.str "p", .int 2])) t2 (.tup [.str "p", .int 0])) t3 (.tup [.str "p", .int 2])) T (.tup [.ref t1, .ref t2, .ref t3])) T = some (.tup [.ref t1, .ref t2, .ref t3]) := upd_same
      have sS := (((q1.trans q2).trans q3).trans q4)
      clear q1 q2 q3 q4
      generalize (upd (upd (upd (upd G4 t1 (.tup [.str "p", .int 2])) t2 (.tup [.str "p", .int 0])) t3 (.tup [.str "p", .int 2])) T (.tup [.ref t1, .ref t2, .ref t3])) = G5 at wt1 wt2 wt3 wT sS
      clear nt1 nt2 nt3 nT
      dsimp only [tNil, List.append_nil, List.cons_append, List.nil_append]
      refine ⟨x, .ref T, 3, _, _, [rowK], rfl, pgK.same sS, fun r hr => by rw [List.mem_singleton.mp hr]; exact rowK_good, .inr ⟨T, _, esK, rfl, wT, .cons (.tup wt1 (.cons (.str _) (.cons (.int _) .nil))) (.cons (.tup wt2 (.cons (.str _) (.cons (.int _) .nil))) (.cons (.tup wt3 (.cons (.str _) (.cons (.int _) .nil))) .nil)), smK, fun _ => ⟨by decide +kernel, postDK, fun r hr => ?_, goodGB, fun G6 b s6 nb pgB => ?_⟩, fun i y e hy he hf _ => ?_⟩⟩
      · rw [hushK] at hr
        rw [List.mem_singleton.mp hr]
        exact rowB_good
      · rw [hushK] at pgB
        have pgK := pgK.same (sS.trans s6)
        clear s6 nb wT wt1 wt2 wt3 sS
        have pgB0 := pgB
        obtain ⟨db, sv, bv, tb, xb, ub, lb, mb, hB, hsv, hbv, _, _, _, _⟩ := pgB0
        obtain ⟨dk, _, _, _, _, _, _, hK⟩ := pg_ins pgK
        refine ⟨_, rfl, b, db, _, rfl, hB, ⟨b, .str "p", 3, _, _, [rowB], .str "p", rfl, pgB, .str "p", .inl ⟨"p", rowB, rfl, rfl, fun bp prB => ?_⟩⟩⟩
        obtain ⟨dp, tm, um, hp1, hp2, hp3, gp⟩ := prB
        refine ⟨bp, dp, _, rfl, hp1, bp, dp, _, _, rfl, hp1, rfl, ?_⟩
        refine ⟨_, rfl, b, db, _, rfl, hB, b, 3, _, _, [rowB], rfl, pgB, fun p1 ys1 G7 s7 hq1 hys1 => ?_⟩
        have hB7 := s7 _ _ hB
        refine ⟨_, rfl, b, db, _, rfl, hB7, b, db, _, _, rfl, hB7, rfl, ?_⟩
        refine ⟨_, rfl, x, dk, _, rfl, s7 _ _ hK, x, 3, _, _, [rowK], rfl, pgK.same s7, fun p2 ys2 G8 s8 hq2 hys2 => ⟨len_ok, fun TL nTL => ?_⟩⟩
        have sT := same_new (Same.refl G8) nTL (o := .lst [.ref tm, .ref p1, bv, .ref p2])
        have s68 := (s7.trans s8).trans sT
        rw [sitesB] at hys1
        rw [sitesK] at hys2
        have dTold : D (upd G8 TL (.lst [.ref tm, .ref p1, bv, .ref p2])) (.ref TL) toldK := .lst upd_same (.cons (.tup (s68 _ _ hp2) (hp3.same s68)) (.cons (.tup ((s8.trans sT) _ _ hq1) (hys1.same (s8.trans sT))) (.cons (hbv.same s68) (.cons (.tup (sT _ _ hq2) (hys2.same sT)) .nil))))
        have hB9 := s68 _ _ hB
        have pgB9 := pgB.same s68
        generalize upd G8 TL (.lst [.ref tm, .ref p1, bv, .ref p2]) = G9 at dTold hB9 pgB9
        refine ⟨len_ok, fun d1 nd1 => ⟨len_ok, fun d2 nd2 => ⟨len_ok, fun d3 nd3 => ⟨len_ok, fun d4 nd4 => ⟨len_ok, fun u1 nu1 => ⟨len_ok, fun u2 nu2 => ⟨len_ok, fun u3 nu3 => ⟨len_ok, fun v1 nv1 => ⟨len_ok, fun v2 nv2 => ⟨len_ok, fun v3 nv3 => ⟨len_ok, fun dt ndt => ⟨len_ok, fun DL nDL => ?_⟩⟩⟩⟩⟩⟩⟩⟩⟩⟩⟩⟩
        have q1 := same_new (Same.refl G9) nd1 (o := .tup [.int 0, .int 0])
        have q2 := same_new (Same.refl _) nd2 (o := .tup [.int 2, .int 2])
        have q3 := same_new (Same.refl _) nd3 (o := .tup [.ref d1, .ref d2])
        have q4 := same_new (Same.refl _) nd4 (o := .tup [.str "go", .int 0, .int 1, .ref d3])
        have q5 := same_new (Same.refl _) nu1 (o := .tup [.int 1, .int 1])
        have q6 := same_new (Same.refl _) nu2 (o := .tup [.ref u1])
        have q7 := same_new (Same.refl _) nu3 (o := .tup [.str "go", .int 0, .int 0, .ref u2])
        have q8 := same_new (Same.refl _) nv1 (o := .tup [.int 1, .int 1])
        have q9 := same_new (Same.refl _) nv2 (o := .tup [.ref v1])
        have q10 := same_new (Same.refl _) nv3 (o := .tup [.str "go", .int 1, .int 0, .ref v2])
        have q11 := same_new (Same.refl _) ndt (o := .tup [.ref d4, .ref u3, .ref v3])
        have q12 := same_new (Same.refl _) nDL (o := .lst [.ref dt])
        have wd1 := ((((((((((q2.trans q3).trans q4).trans q5).trans q6).trans q7).trans q8).trans q9).trans q10).trans q11).trans q12) _ _ (show upd _ d1 (.tup [.int 0, .int 0]) d1 = some (.tup [.int 0, .int 0]) from upd_same)
        have wd2 := (((((((((q3.trans q4).trans q5).trans q6).trans q7).trans q8).trans q9).trans q10).trans q11).trans q12) _ _ (show upd _ d2 (.tup [.int 2, .int 2]) d2 = some (.tup [.int 2, .int 2]) from upd_same)
        have wd3 := ((((((((q4.trans q5).trans q6).trans q7).trans q8).trans q9).trans q10).trans q11).trans q12) _ _ (show upd _ d3 (.tup [.ref d1, .ref d2]) d3 = some (.tup [.ref d1, .ref d2]) from upd_same)
        have wd4 := (((((((q5.trans q6).trans q7).trans q8).trans q9).trans q10).trans q11).trans q12) _ _ (show upd _ d4 (.tup [.str "go", .int 0, .int 1, .ref d3]) d4 = some (.tup [.str "go", .int 0, .int 1, .ref d3]) from upd_same)
        have wu1 := ((((((q6.trans q7).trans q8).trans q9).trans q10).trans q11).trans q12) _ _ (show upd _ u1 (.tup [.int 1, .int 1]) u1 = some (.tup [.int 1, .int 1]) from upd_same)
        have wu2 := (((((q7.trans q8).trans q9).trans q10).trans q11).trans q12) _ _ (show upd _ u2 (.tup [.ref u1]) u2 = some (.tup [.ref u1]) from upd_same)
        have wu3 := ((((q8.trans q9).trans q10).trans q11).trans q12) _ _ (show upd _ u3 (.tup [.str "go", .int 0, .int 0, .ref u2]) u3 = some (.tup [.str "go", .int 0, .int 0, .ref u2]) from upd_same)
        have wv1 := (((q9.trans q10).trans q11).trans q12) _ _ (show upd _ v1 (.tup [.int 1, .int 1]) v1 = some (.tup [.int 1, .int 1]) from upd_same)
        have wv2 := ((q10.trans q11).trans q12) _ _ (show upd _ v2 (.tup [.ref v1]) v2 = some (.tup [.ref v1]) from upd_same)
        have wv3 := (q11.trans q12) _ _ (show upd _ v3 (.tup [.str "go", .int 1, .int 0, .ref v2]) v3 = some (.tup [.str "go", .int 1, .int 0, .ref v2]) from upd_same)
        have wdt := q12 _ _ (show upd _ dt (.tup [.ref d4, .ref u3, .ref v3]) dt = some (.tup [.ref d4, .ref u3, .ref v3]) from upd_same)
        have wDL : (upd (upd (upd (upd (upd (upd (upd (upd (upd (upd (upd (upd G9 d1 (.tup [.int 0, .int 0])) d2 (.tup [.int 2, .int 2])) d3 (.tup [.ref d1, .ref d2])) d4 (.tup [.str "go", .int 0, .int 1, .ref d3])) u1 (.tup [.int 1, .int 1])) u2 (.tup [.ref u1])) u3 (.tup [.str "go", .int 0, .int 0, .ref u2])) v1 (.tup [.int 1, .int 1])) v2 (.tup [.ref v1])) v3 (.tup [.str "go", .int 1, .int 0, .ref v2])) dt (.tup [.ref d4, .ref u3, .ref v3])) DL (.lst [.ref dt])) DL = some (.lst [.ref dt]) := upd_same
        have sD := (((((((((((q1.trans q2).trans q3).trans q4).trans q5).trans q6).trans q7).trans q8).trans q9).trans q10).trans q11).trans q12)
        clear q1 q2 q3 q4 q5 q6 q7 q8 q9 q10 q11 q12
        generalize (upd (upd (upd (upd (upd (upd (upd (upd (upd (upd (upd (upd G9 d1 (.tup [.int 0, .int 0])) d2 (.tup [.int 2, .int 2])) d3 (.tup [.ref d1, .ref d2])) d4 (.tup [.str "go", .int 0, .int 1, .ref d3])) u1 (.tup [.int 1, .int 1])) u2 (.tup [.ref u1])) u3 (.tup [.str "go", .int 0, .int 0, .ref u2])) v1 (.tup [.int 1, .int 1])) v2 (.tup [.ref v1])) v3 (.tup [.str "go", .int 1, .int 0, .ref v2])) dt (.tup [.ref d4, .ref u3, .ref v3])) DL (.lst [.ref dt])) = GA at wd1 wd2 wd3 wd4 wu1 wu2 wu3 wv1 wv2 wv3 wdt wDL sD
        refine ⟨_, rfl, ⟨_, rfl, len_ok, fun z1 nz1 => ⟨len_ok, fun z2 nz2 => ⟨len_ok, fun z3 nz3 => ⟨len_ok, fun z4 nz4 => ⟨len_ok, fun z5 nz5 => ⟨len_ok, fun ZL nZL => ?_⟩⟩⟩⟩⟩⟩⟩
        have q1 := same_new (Same.refl GA) nz1 (o := .tup [])
        have q2 := same_new (Same.refl _) nz2 (o := .tup [.int 5])
        have q3 := same_new (Same.refl _) nz3 (o := .tup [.str "p", .int 0])
        have q4 := same_new (Same.refl _) nz4 (o := .tup [.str "p", .int 2])
        have q5 := same_new (Same.refl _) nz5 (o := .tup [.ref z3, .ref z4])
        have q6 := same_new (Same.refl _) nZL (o := .lst [.ref z1, .ref z2, .ref z5])
        have wz1 := ((((q2.trans q3).trans q4).trans q5).trans q6) _ _ (show upd _ z1 (.tup []) z1 = some (.tup []) from upd_same)
        have wz2 := (((q3.trans q4).trans q5).trans q6) _ _ (show upd _ z2 (.tup [.int 5]) z2 = some (.tup [.int 5]) from upd_same)
        have wz3 := ((q4.trans q5).trans q6) _ _ (show upd _ z3 (.tup [.str "p", .int 0]) z3 = some (.tup [.str "p", .int 0]) from upd_same)
        have wz4 := (q5.trans q6) _ _ (show upd _ z4 (.tup [.str "p", .int 2]) z4 = some (.tup [.str "p", .int 2]) from upd_same)
        have wz5 := q6 _ _ (show upd _ z5 (.tup [.ref z3, .ref z4]) z5 = some (.tup [.ref z3, .ref z4]) from upd_same)
        have wZL : (upd (upd (upd (upd (upd (upd GA z1 (.tup [])) z2 (.tup [.int 5])) z3 (.tup [.str "p", .int 0])) z4 (.tup [.str "p", .int 2])) z5 (.tup [.ref z3, .ref z4])) ZL (.lst [.ref z1, .ref z2, .ref z5])) ZL = some (.lst [.ref z1, .ref z2, .ref z5]) := upd_same
        have sZ := (((((q1.trans q2).trans q3).trans q4).trans q5).trans q6)
        clear q1 q2 q3 q4 q5 q6
        generalize (upd (upd (upd (upd (upd (upd GA z1 (.tup [])) z2 (.tup [.int 5])) z3 (.tup [.str "p", .int 0])) z4 (.tup [.str "p", .int 2])) z5 (.tup [.ref z3, .ref z4])) ZL (.lst [.ref z1, .ref z2, .ref z5])) = GB at wz1 wz2 wz3 wz4 wz5 wZL sZ
        refine ⟨DL, ZL, _, _, rfl, rfl, sZ _ _ wDL, wZL, Nat.le_of_lt (small1000 (by show 4 ≤ 1000; decide)), fun M nM => ?_⟩
        have sM := same_new (Same.refl GB) nM (o := .lst ([.ref dt] ++ [.ref z1, .ref z2, .ref z5]))
        have sZM := sZ.trans sM
        have hM : upd GB M (.lst ([.ref dt] ++ [.ref z1, .ref z2, .ref z5])) M = some (.lst [.ref dt, .ref z1, .ref z2, .ref z5]) := upd_same
        generalize upd GB M (.lst ([.ref dt] ++ [.ref z1, .ref z2, .ref z5])) = GC at sM sZM hM
        have dDue : D GC (.ref M) toldK := .lst hM (.cons (.tup (sZM _ _ wdt) (.cons (.tup (sZM _ _ wd4) (.cons (.str _) (.cons (.int _) (.cons (.int _) (.cons (.tup (sZM _ _ wd3) (.cons (.tup (sZM _ _ wd1) (.cons (.int _) (.cons (.int _) .nil))) (.cons (.tup (sZM _ _ wd2) (.cons (.int _) (.cons (.int _) .nil))) .nil))) .nil))))) (.cons (.tup (sZM _ _ wu3) (.cons (.str _) (.cons (.int _) (.cons (.int _) (.cons (.tup (sZM _ _ wu2) (.cons (.tup (sZM _ _ wu1) (.cons (.int _) (.cons (.int _) .nil))) .nil)) .nil))))) (.cons (.tup (sZM _ _ wv3) (.cons (.str _) (.cons (.int _) (.cons (.int _) (.cons (.tup (sZM _ _ wv2) (.cons (.tup (sZM _ _ wv1) (.cons (.int _) (.cons (.int _) .nil))) .nil)) .nil))))) .nil)))) (.cons (.tup (sM _ _ wz1) .nil) (.cons (.tup (sM _ _ wz2) (.cons (.int _) .nil)) (.cons (.tup (sM _ _ wz5) (.cons (.tup (sM _ _ wz3) (.cons (.str _) (.cons (.int _) .nil))) (.cons (.tup (sM _ _ wz4) (.cons (.str _) (.cons (.int _) .nil))) .nil))) .nil))))
        have sAll := sD.trans sZM
        refine ⟨toldK, toldK, dTold.same sAll, dDue, toldK_ok.1, toldK_ok.2.1, ?_⟩
        rw [toldK_ok.2.2]
        refine ⟨true, rfl, iteT ⟨_, rfl, b, db, _, rfl, sAll _ _ hB9, ⟨b, .str "p", 3, _, _, [rowB], .str "p", rfl, pgB9.same sAll, .str "p", .inl ⟨"p", rowB, rfl, rfl, fun bp prB => ?_⟩⟩⟩⟩
        have prB' := prB
        obtain ⟨dp, tm, um, hp1, hp2, hp3, gp⟩ := prB'
        refine ⟨bp, dp, _, rfl, hp1, bp, _, _, _, rfl, prB, _, rfl, by decide, by decide, rfl, ?_⟩
        exact q _
      · rw [postsK e (List.mem_of_getElem? he)] at hf
        cases hf
end
end My

namespace My
open PySem PySem.Spec PyProof.Rows L2 RZ Sh Zt Xc
open Eo (OexG)
open LamX (Tabs ExtN TabB pe_lamcall lamS_by)
theorem raw0 {P : Program} {w : World} {K : PySem.W.Frag} {mg : Str → Option Value} {base : Heap} {CX : CXT} {k : Nat} {f : Addr} {sp : Sp} {fd : FuncData} {ps : List Str} (G : FnOk P w K mg base CX k f fd ps sp) (b : Binds K fd ps []) : FnR P w K mg base CX k f sp := by
  have := G.raw b .nil
  intro A outer s H us vs Q E hr e0 r h
  exact this A outer s H us vs Q E hr e0 r (by simpa using h)
theorem all_mk {l : PySem.W.OpenLaw} {w : World} {K : PySem.W.Frag} {h : Heap} {mg : Str → Option Value} {fa f0 f1 f2 f3 f4 f5 f6 f7 f8 f9 f10 f11 f12 f13 f14 f15 f16 f17 f18 f19 f20 f21 f22 f23 f24 f25 f26 f27 f28 f29 f30 cR PR C Ce fI fO pO fE fL fS p1 g1 p2 g2 p3 g3 Cg Cn Cs fin fis fW fKg fRg fIg fOg pOg fEg fLg fSg fGg fCg fMg fHg pg1 gg1 pg2 gg2 pg3 gg3 pg4 gg4 pg5 gg5 pg6 gg6 pg7 gg7 : Addr} (X : K.In h) (G : h.Ns mainGlobals mg) (hfa : mg "law" = some (.ref fa))
    (tabs : ∀ y ∈ (["_law_right"] : List Str), ∀ c P, PySem.W.tabIn K y = some (c, P) → PySem.W.CodeHd h c P ∧ h.get? P = some (PySem.W.tabObj #[]))
    {od0 an0 od1 an1 od2 an2 od3 an3 od4 an4 od5 an5 od6 an6 od7 an7 od8 an8 od9 an9 od10 an10 od11 an11 od12 an12 od13 an13 od14 an14 od15 an15 od16 an16 od17 an17 od18 an18 od19 an19 od20 an20 od21 an21 od22 an22 od23 an23 od24 an24 od25 an25 od26 an26 od27 an27 od28 an28 od29 an29 od30 an30 : Option Addr} {sl0 sl1 sl2 sl3 sl4 sl5 sl6 sl7 sl8 sl9 sl10 sl11 sl12 sl13 sl14 sl15 sl16 sl17 sl18 sl19 sl20 sl21 sl22 sl23 sl24 sl25 sl26 sl27 sl28 sl29 sl30 : Array (Option Value)} {oc0 kV0 dc0 pm0 ct0 cd0 oc1 kV1 dc1 pm1 ct1 cd1 oc2 kV2 dc2 pm2 ct2 cd2 oc3 kV3 dc3 pm3 ct3 cd3 oc4 kV4 dc4 pm4 ct4 cd4 oc5 kV5 dc5 pm5 ct5 cd5 oc6 kV6 dc6 pm6 ct6 cd6 oc7 kV7 dc7 pm7 ct7 cd7 oc8 kV8 dc8 pm8 ct8 cd8 oc9 kV9 dc9 pm9 ct9 cd9 oc10 kV10 dc10 pm10 ct10 cd10 oc11 kV11 dc11 pm11 ct11 cd11 oc12 kV12 dc12 pm12 ct12 cd12 oc13 kV13 dc13 pm13 ct13 cd13 oc14 kV14 dc14 pm14 ct14 cd14 oc15 kV15 dc15 pm15 ct15 cd15 oc16 kV16 dc16 pm16 ct16 cd16 oc17 kV17 dc17 pm17 ct17 cd17 oc18 kV18 dc18 pm18 ct18 cd18 oc19 kV19 dc19 pm19 ct19 cd19 oc20 kV20 dc20 pm20 ct20 cd20 oc21 kV21 dc21 pm21 ct21 cd21 oc22 kV22 dc22 pm22 ct22 cd22 oc23 kV23 dc23 pm23 ct23 cd23 oc24 kV24 dc24 pm24 ct24 cd24 oc25 kV25 dc25 pm25 ct25 cd25 oc26 kV26 dc26 pm26 ct26 cd26 oc27 kV27 dc27 pm27 ct27 cd27 oc28 kV28 dc28 pm28 ct28 cd28 oc29 kV29 dc29 pm29 ct29 oc30 kV30 dc30 pm30 ct30 cd30 : Value}
    {e_cR : Value} {dd_cR : Option Addr} {vs_cR : Array Value} {sc_cR : Array (Option Value)}
    {tk_LONGEST_NAME tk_MOST_MODES tk_MOST_POINTS tk_MOST_MOVES tk_MOST_PROCEDURES : Tok}
    {odmI anmI odmO anmO odm1 anm1 odm2 anm2 odm3 anm3 odmE anmE odmL anmL odmS anmS odmWg anmWg odmKg anmKg odmRg anmRg odmIg anmIg odmOg anmOg odmEg anmEg odmLg anmLg odmSg anmSg odmGg anmGg odmCg anmCg odmMg anmMg odmHg anmHg odmm1 anmm1 odmm2 anmm2 odmm3 anmm3 odmm4 anmm4 odmm5 anmm5 odmm6 anmm6 odmm7 anmm7 odun anun odus anus : Option Addr} {slmI slmO slm1 slm2 slm3 slmE slmL slmS slmWg slmKg slmRg slmIg slmOg slmEg slmLg slmSg slmGg slmCg slmMg slmHg slmm1 slmm2 slmm3 slmm4 slmm5 slmm6 slmm7 slun slus : Array (Option Value)} {ocmI kVmI dcmI pmmI cdmI ctmI ocmO kVmO dcmO pmmO cdmO ctmO ocm1 kVm1 dcm1 pmm1 cdm1 ctm1 ocm2 kVm2 dcm2 pmm2 cdm2 ctm2 ocm3 kVm3 dcm3 pmm3 cdm3 ctm3 ocmE kVmE dcmE pmmE cdmE ctmE ocmL kVmL dcmL pmmL cdmL ctmL ocmS kVmS dcmS pmmS cdmS ctmS ocmWg kVmWg dcmWg pmmWg cdmWg ctmWg ocmKg kVmKg dcmKg pmmKg cdmKg ctmKg ocmRg kVmRg dcmRg pmmRg cdmRg ctmRg ocmIg kVmIg dcmIg pmmIg cdmIg ctmIg ocmOg kVmOg dcmOg pmmOg cdmOg ctmOg ocmEg kVmEg dcmEg pmmEg cdmEg ctmEg ocmLg kVmLg dcmLg pmmLg cdmLg ctmLg ocmSg kVmSg dcmSg pmmSg cdmSg ctmSg ocmGg kVmGg dcmGg pmmGg cdmGg ctmGg ocmCg kVmCg dcmCg pmmCg cdmCg ctmCg ocmMg kVmMg dcmMg pmmMg cdmMg ctmMg ocmHg kVmHg dcmHg pmmHg cdmHg ctmHg ocmm1 kVmm1 dcmm1 pmmm1 cdmm1 ctmm1 ocmm2 kVmm2 dcmm2 pmmm2 cdmm2 ctmm2 ocmm3 kVmm3 dcmm3 pmmm3 cdmm3 ctmm3 ocmm4 kVmm4 dcmm4 pmmm4 cdmm4 ctmm4 ocmm5 kVmm5 dcmm5 pmmm5 cdmm5 ctmm5 ocmm6 kVmm6 dcmm6 pmmm6 cdmm6 ctmm6 ocmm7 kVmm7 dcmm7 pmmm7 cdmm7 ctmm7 ocun kVun dcun pmun cdun ctun ocus kVus dcus pmus cdus ctus : Value} {rsO rs1 rs2 rs3 rsOg rsg1 rsg2 rsg3 rsg4 rsg5 rsg6 rsg7 : List Value}
    (a0 : PySem.W.nsIn K mainGlobals "is_name" = some (some (.ref f0))) (l0 : K.lookup f0 = some ⟨oc0, od0, .func (PySem.W.fnOf "is_name" "is_name" (defArgs s_is_name) (defBody s_is_name) (defScope s_is_name) .none kV0 dc0 pm0 an0 cd0 ct0), sl0⟩) (c0 : PySem.W.codeIn K cd0 "is_name" = true) (k0 : PySem.W.keepIn K (.ref f0) = true)
    (a1 : PySem.W.nsIn K mainGlobals "is_integer" = some (some (.ref f1))) (l1 : K.lookup f1 = some ⟨oc1, od1, .func (PySem.W.fnOf "is_integer" "is_integer" (defArgs s_is_integer) (defBody s_is_integer) (defScope s_is_integer) .none kV1 dc1 pm1 an1 cd1 ct1), sl1⟩) (c1 : PySem.W.codeIn K cd1 "is_integer" = true) (k1 : PySem.W.keepIn K (.ref f1) = true)
    (a2 : PySem.W.nsIn K mainGlobals "is_index" = some (some (.ref f2))) (l2 : K.lookup f2 = some ⟨oc2, od2, .func (PySem.W.fnOf "is_index" "is_index" (defArgs s_is_index) (defBody s_is_index) (defScope s_is_index) .none kV2 dc2 pm2 an2 cd2 ct2), sl2⟩) (c2 : PySem.W.codeIn K cd2 "is_index" = true) (k2 : PySem.W.keepIn K (.ref f2) = true)
    (a3 : PySem.W.nsIn K mainGlobals "ascends" = some (some (.ref f3))) (l3 : K.lookup f3 = some ⟨oc3, od3, .func (PySem.W.fnOf "ascends" "ascends" (defArgs s_ascends) (defBody s_ascends) (defScope s_ascends) .none kV3 dc3 pm3 an3 cd3 ct3), sl3⟩) (c3 : PySem.W.codeIn K cd3 "ascends" = true) (k3 : PySem.W.keepIn K (.ref f3) = true)
    (a4 : PySem.W.nsIn K mainGlobals "is_mode_set" = some (some (.ref f4))) (l4 : K.lookup f4 = some ⟨oc4, od4, .func (PySem.W.fnOf "is_mode_set" "is_mode_set" (defArgs s_is_mode_set) (defBody s_is_mode_set) (defScope s_is_mode_set) .none kV4 dc4 pm4 an4 cd4 ct4), sl4⟩) (c4 : PySem.W.codeIn K cd4 "is_mode_set" = true) (k4 : PySem.W.keepIn K (.ref f4) = true)
    (a5 : PySem.W.nsIn K mainGlobals "is_pair" = some (some (.ref f5))) (l5 : K.lookup f5 = some ⟨oc5, od5, .func (PySem.W.fnOf "is_pair" "is_pair" (defArgs s_is_pair) (defBody s_is_pair) (defScope s_is_pair) .none kV5 dc5 pm5 an5 cd5 ct5), sl5⟩) (c5 : PySem.W.codeIn K cd5 "is_pair" = true) (k5 : PySem.W.keepIn K (.ref f5) = true)
    (a6 : PySem.W.nsIn K mainGlobals "is_pair_set" = some (some (.ref f6))) (l6 : K.lookup f6 = some ⟨oc6, od6, .func (PySem.W.fnOf "is_pair_set" "is_pair_set" (defArgs s_is_pair_set) (defBody s_is_pair_set) (defScope s_is_pair_set) .none kV6 dc6 pm6 an6 cd6 ct6), sl6⟩) (c6 : PySem.W.codeIn K cd6 "is_pair_set" = true) (k6 : PySem.W.keepIn K (.ref f6) = true)
    (a7 : PySem.W.nsIn K mainGlobals "is_move" = some (some (.ref f7))) (l7 : K.lookup f7 = some ⟨oc7, od7, .func (PySem.W.fnOf "is_move" "is_move" (defArgs s_is_move) (defBody s_is_move) (defScope s_is_move) .none kV7 dc7 pm7 an7 cd7 ct7), sl7⟩) (c7 : PySem.W.codeIn K cd7 "is_move" = true) (k7 : PySem.W.keepIn K (.ref f7) = true)
    (a8 : PySem.W.nsIn K mainGlobals "names_task" = some (some (.ref f8))) (l8 : K.lookup f8 = some ⟨oc8, od8, .func (PySem.W.fnOf "names_task" "names_task" (defArgs s_names_task) (defBody s_names_task) (defScope s_names_task) .none kV8 dc8 pm8 an8 cd8 ct8), sl8⟩) (c8 : PySem.W.codeIn K cd8 "names_task" = true) (k8 : PySem.W.keepIn K (.ref f8) = true)
    (a9 : PySem.W.nsIn K mainGlobals "is_number" = some (some (.ref f9))) (l9 : K.lookup f9 = some ⟨oc9, od9, .func (PySem.W.fnOf "is_number" "is_number" (defArgs s_is_number) (defBody s_is_number) (defScope s_is_number) .none kV9 dc9 pm9 an9 cd9 ct9), sl9⟩) (c9 : PySem.W.codeIn K cd9 "is_number" = true) (k9 : PySem.W.keepIn K (.ref f9) = true)
    (a10 : PySem.W.nsIn K mainGlobals "are_moves" = some (some (.ref f10))) (l10 : K.lookup f10 = some ⟨oc10, od10, .func (PySem.W.fnOf "are_moves" "are_moves" (defArgs s_are_moves) (defBody s_are_moves) (defScope s_are_moves) .none kV10 dc10 pm10 an10 cd10 ct10), sl10⟩) (c10 : PySem.W.codeIn K cd10 "are_moves" = true) (k10 : PySem.W.keepIn K (.ref f10) = true)
    (a11 : PySem.W.nsIn K mainGlobals "has_entries" = some (some (.ref f11))) (l11 : K.lookup f11 = some ⟨oc11, od11, .func (PySem.W.fnOf "has_entries" "has_entries" (defArgs s_has_entries) (defBody s_has_entries) (defScope s_has_entries) .none kV11 dc11 pm11 an11 cd11 ct11), sl11⟩) (c11 : PySem.W.codeIn K cd11 "has_entries" = true) (k11 : PySem.W.keepIn K (.ref f11) = true)
    (a12 : PySem.W.nsIn K mainGlobals "is_bag" = some (some (.ref f12))) (l12 : K.lookup f12 = some ⟨oc12, od12, .func (PySem.W.fnOf "is_bag" "is_bag" (defArgs s_is_bag) (defBody s_is_bag) (defScope s_is_bag) .none kV12 dc12 pm12 an12 cd12 ct12), sl12⟩) (c12 : PySem.W.codeIn K cd12 "is_bag" = true) (k12 : PySem.W.keepIn K (.ref f12) = true)
    (a13 : PySem.W.nsIn K mainGlobals "names_of" = some (some (.ref f13))) (l13 : K.lookup f13 = some ⟨oc13, od13, .func (PySem.W.fnOf "names_of" "names_of" (defArgs s_names_of) (defBody s_names_of) (defScope s_names_of) .none kV13 dc13 pm13 an13 cd13 ct13), sl13⟩) (c13 : PySem.W.codeIn K cd13 "names_of" = true) (k13 : PySem.W.keepIn K (.ref f13) = true)
    (a14 : PySem.W.nsIn K mainGlobals "are_procedures" = some (some (.ref f14))) (l14 : K.lookup f14 = some ⟨oc14, od14, .func (PySem.W.fnOf "are_procedures" "are_procedures" (defArgs s_are_procedures) (defBody s_are_procedures) (defScope s_are_procedures) .none kV14 dc14 pm14 an14 cd14 ct14), sl14⟩) (c14 : PySem.W.codeIn K cd14 "are_procedures" = true) (k14 : PySem.W.keepIn K (.ref f14) = true)
    (a15 : PySem.W.nsIn K mainGlobals "are_joined" = some (some (.ref f15))) (l15 : K.lookup f15 = some ⟨oc15, od15, .func (PySem.W.fnOf "are_joined" "are_joined" (defArgs s_are_joined) (defBody s_are_joined) (defScope s_are_joined) .none kV15 dc15 pm15 an15 cd15 ct15), sl15⟩) (c15 : PySem.W.codeIn K cd15 "are_joined" = true) (k15 : PySem.W.keepIn K (.ref f15) = true)
    (a16 : PySem.W.nsIn K mainGlobals "sites_of" = some (some (.ref f16))) (l16 : K.lookup f16 = some ⟨oc16, od16, .func (PySem.W.fnOf "sites_of" "sites_of" (defArgs s_sites_of) (defBody s_sites_of) (defScope s_sites_of) .none kV16 dc16 pm16 an16 cd16 ct16), sl16⟩) (c16 : PySem.W.codeIn K cd16 "sites_of" = true) (k16 : PySem.W.keepIn K (.ref f16) = true)
    (a17 : PySem.W.nsIn K mainGlobals "as_go" = some (some (.ref f17))) (l17 : K.lookup f17 = some ⟨oc17, od17, .func (PySem.W.fnOf "as_go" "as_go" (defArgs s_as_go) (defBody s_as_go) (defScope s_as_go) .none kV17 dc17 pm17 an17 cd17 ct17), sl17⟩) (c17 : PySem.W.codeIn K cd17 "as_go" = true) (k17 : PySem.W.keepIn K (.ref f17) = true)
    (a18 : PySem.W.nsIn K mainGlobals "hushed_procedure" = some (some (.ref f18))) (l18 : K.lookup f18 = some ⟨oc18, od18, .func (PySem.W.fnOf "hushed_procedure" "hushed_procedure" (defArgs s_hushed_procedure) (defBody s_hushed_procedure) (defScope s_hushed_procedure) .none kV18 dc18 pm18 an18 cd18 ct18), sl18⟩) (c18 : PySem.W.codeIn K cd18 "hushed_procedure" = true) (k18 : PySem.W.keepIn K (.ref f18) = true)
    (a19 : PySem.W.nsIn K mainGlobals "_law_numbers" = some (some (.ref f19))) (l19 : K.lookup f19 = some ⟨oc19, od19, .func (PySem.W.fnOf "_law_numbers" "_law_numbers" (defArgs s_law_numbers) (defBody s_law_numbers) (defScope s_law_numbers) .none kV19 dc19 pm19 an19 cd19 ct19), sl19⟩) (c19 : PySem.W.codeIn K cd19 "_law_numbers" = true) (k19 : PySem.W.keepIn K (.ref f19) = true)
    (a20 : PySem.W.nsIn K mainGlobals "_law_cast" = some (some (.ref f20))) (l20 : K.lookup f20 = some ⟨oc20, od20, .func (PySem.W.fnOf "_law_cast" "_law_cast" (defArgs s_law_cast) (defBody s_law_cast) (defScope s_law_cast) .none kV20 dc20 pm20 an20 cd20 ct20), sl20⟩) (c20 : PySem.W.codeIn K cd20 "_law_cast" = true) (k20 : PySem.W.keepIn K (.ref f20) = true)
    (a21 : PySem.W.nsIn K mainGlobals "_law_pick" = some (some (.ref f21))) (l21 : K.lookup f21 = some ⟨oc21, od21, .func (PySem.W.fnOf "_law_pick" "_law_pick" (defArgs s_law_pick) (defBody s_law_pick) (defScope s_law_pick) .none kV21 dc21 pm21 an21 cd21 ct21), sl21⟩) (c21 : PySem.W.codeIn K cd21 "_law_pick" = true) (k21 : PySem.W.keepIn K (.ref f21) = true)
    (a22 : PySem.W.nsIn K mainGlobals "_law_shuffle" = some (some (.ref f22))) (l22 : K.lookup f22 = some ⟨oc22, od22, .func (PySem.W.fnOf "_law_shuffle" "_law_shuffle" (defArgs s_law_shuffle) (defBody s_law_shuffle) (defScope s_law_shuffle) .none kV22 dc22 pm22 an22 cd22 ct22), sl22⟩) (c22 : PySem.W.codeIn K cd22 "_law_shuffle" = true) (k22 : PySem.W.keepIn K (.ref f22) = true)
    (a23 : PySem.W.nsIn K mainGlobals "_law_subset" = some (some (.ref f23))) (l23 : K.lookup f23 = some ⟨oc23, od23, .func (PySem.W.fnOf "_law_subset" "_law_subset" (defArgs s_law_subset) (defBody s_law_subset) (defScope s_law_subset) .none kV23 dc23 pm23 an23 cd23 ct23), sl23⟩) (c23 : PySem.W.codeIn K cd23 "_law_subset" = true) (k23 : PySem.W.keepIn K (.ref f23) = true)
    (a24 : PySem.W.nsIn K mainGlobals "_law_a_move" = some (some (.ref f24))) (l24 : K.lookup f24 = some ⟨oc24, od24, .func (PySem.W.fnOf "_law_a_move" "_law_a_move" (defArgs s_law_a_move) (defBody s_law_a_move) (defScope s_law_a_move) .none kV24 dc24 pm24 an24 cd24 ct24), sl24⟩) (c24 : PySem.W.codeIn K cd24 "_law_a_move" = true) (k24 : PySem.W.keepIn K (.ref f24) = true)
    (a25 : PySem.W.nsIn K mainGlobals "_law_any_plain" = some (some (.ref f25))) (l25 : K.lookup f25 = some ⟨oc25, od25, .func (PySem.W.fnOf "_law_any_plain" "_law_any_plain" (defArgs s_law_any_plain) (defBody s_law_any_plain) (defScope s_law_any_plain) .none kV25 dc25 pm25 an25 cd25 ct25), sl25⟩) (c25 : PySem.W.codeIn K cd25 "_law_any_plain" = true) (k25 : PySem.W.keepIn K (.ref f25) = true)
    (a26 : PySem.W.nsIn K mainGlobals "_law_met" = some (some (.ref f26))) (l26 : K.lookup f26 = some ⟨oc26, od26, .func (PySem.W.fnOf "_law_met" "_law_met" (defArgs s_law_met) (defBody s_law_met) (defScope s_law_met) .none kV26 dc26 pm26 an26 cd26 ct26), sl26⟩) (c26 : PySem.W.codeIn K cd26 "_law_met" = true) (k26 : PySem.W.keepIn K (.ref f26) = true)
    (a27 : PySem.W.nsIn K mainGlobals "_law_made_of" = some (some (.ref f27))) (l27 : K.lookup f27 = some ⟨oc27, od27, .func (PySem.W.fnOf "_law_made_of" "_law_made_of" (defArgs s_law_made_of) (defBody s_law_made_of) (defScope s_law_made_of) .none kV27 dc27 pm27 an27 cd27 ct27), sl27⟩) (c27 : PySem.W.codeIn K cd27 "_law_made_of" = true) (k27 : PySem.W.keepIn K (.ref f27) = true)
    (a28 : PySem.W.nsIn K mainGlobals "_law_bared_of" = some (some (.ref f28))) (l28 : K.lookup f28 = some ⟨oc28, od28, .func (PySem.W.fnOf "_law_bared_of" "_law_bared_of" (defArgs s_law_bared_of) (defBody s_law_bared_of) (defScope s_law_bared_of) .none kV28 dc28 pm28 an28 cd28 ct28), sl28⟩) (c28 : PySem.W.codeIn K cd28 "_law_bared_of" = true) (k28 : PySem.W.keepIn K (.ref f28) = true)
    (a29 : PySem.W.nsIn K mainGlobals "_law_right" = some (some (.ref f29))) (l29 : K.lookup f29 = some ⟨oc29, od29, .func (PySem.W.fnOf "_law_right" "_law_right" (defArgs s_law_right) (defBody s_law_right) (defScope s_law_right) .none kV29 dc29 pm29 an29 (.ref cR) ct29), sl29⟩) (c29 : PySem.W.codeIn K (.ref cR) "_law_right" = true) (k29 : PySem.W.keepIn K (.ref f29) = true)
    (a30 : PySem.W.nsIn K mainGlobals "law" = some (some (.ref f30))) (l30 : K.lookup f30 = some ⟨oc30, od30, .func (PySem.W.fnOf "law" "law" (defArgs s_law) (defBody s_law) (defScope s_law) .none kV30 dc30 pm30 an30 cd30 ct30), sl30⟩) (c30 : PySem.W.codeIn K cd30 "law" = true) (k30 : PySem.W.keepIn K (.ref f30) = true)
    (lc_cR : K.lookup cR = some ⟨e_cR, dd_cR, .fields vs_cR, sc_cR⟩) (hv_cR : (vs_cR[11]? : Option Value) = some (.ref PR)) (nl_cR : K.lookup PR = none)
    (z_isinstance : PySem.W.nsIn K mainGlobals "isinstance" = some none)
    (z_int : PySem.W.nsIn K mainGlobals "int" = some none)
    (z_bool : PySem.W.nsIn K mainGlobals "bool" = some none)
    (z_str : PySem.W.nsIn K mainGlobals "str" = some none)
    (z_tuple : PySem.W.nsIn K mainGlobals "tuple" = some none)
    (z_list : PySem.W.nsIn K mainGlobals "list" = some none)
    (z_len : PySem.W.nsIn K mainGlobals "len" = some none)
    (z_all : PySem.W.nsIn K mainGlobals "all" = some none)
    (z_range : PySem.W.nsIn K mainGlobals "range" = some none)
    (z_abs : PySem.W.nsIn K mainGlobals "abs" = some none)
    (z_max : PySem.W.nsIn K mainGlobals "max" = some none)
    (z_min : PySem.W.nsIn K mainGlobals "min" = some none)
    (z_set : PySem.W.nsIn K mainGlobals "set" = some none)
    (z_sorted : PySem.W.nsIn K mainGlobals "sorted" = some none)
    (z_repr : PySem.W.nsIn K mainGlobals "repr" = some none)
    (z_enumerate : PySem.W.nsIn K mainGlobals "enumerate" = some none)
    (y_LONGEST_NAME : PySem.W.nsIn K mainGlobals "LONGEST_NAME" = some (some (.int 8 tk_LONGEST_NAME)))
    (y_MOST_MODES : PySem.W.nsIn K mainGlobals "MOST_MODES" = some (some (.int 5 tk_MOST_MODES)))
    (y_MOST_POINTS : PySem.W.nsIn K mainGlobals "MOST_POINTS" = some (some (.int 6 tk_MOST_POINTS)))
    (y_MOST_MOVES : PySem.W.nsIn K mainGlobals "MOST_MOVES" = some (some (.int 12 tk_MOST_MOVES)))
    (y_MOST_PROCEDURES : PySem.W.nsIn K mainGlobals "MOST_PROCEDURES" = some (some (.int 5 tk_MOST_PROCEDURES)))
    (qe0 : PySem.W.nsIn K mainGlobals "InvalidProgram" = some (some (.ref Ce)))
    (qe1 : PySem.W.excIn K Ce [.type "ValueError", .type "Exception", .type "BaseException", .type "object"] "ValueError.__new__" = true)
    (qe2 : PySem.W.keepIn K (.ref Ce) = true)
    (qe3 : PySem.W.subIn K (.ref Ce) (.type "BaseException") = some true)
    (qe4 : PySem.W.typeIn K (.ref Ce) = some (.type "type"))
    (qe5 : PySem.W.subIn K (.ref Ce) (.ref Ce) = some true)
    (r0 : PySem.W.findIn K (.ref Ce) "__getattribute__" = some (some (.builtin "BaseException.__getattribute__")))
    (r1 : PySem.W.findIn K (.ref Ce) "__getattr__" = some none)
    (r3 : PySem.W.hasDictIn K Ce = true)
    (r4 : PySem.W.findIn K (.ref Ce) "__class__" = some (some (.builtin "object.__class__")))
    (r7 : PySem.W.mroIn K Ce (.type "object") = some true)
    (r5 : PySem.W.specialIn K (.builtin "object.__class__") "__get__" = some (some (.builtin "getset_descriptor.__get__")))
    (r6 : PySem.W.takesIn K (.builtin "object.__class__") = some true)
    (un0 : PySem.W.nsIn K mainGlobals "UnknownName" = some (some (.ref Cn)))
    (unr0 : PySem.W.findIn K (.ref Cn) "__getattribute__" = some (some (.builtin "BaseException.__getattribute__")))
    (unr1 : PySem.W.findIn K (.ref Cn) "__getattr__" = some none)
    (unr3 : PySem.W.hasDictIn K Cn = true)
    (unr4 : PySem.W.findIn K (.ref Cn) "__class__" = some (some (.builtin "object.__class__")))
    (unr7 : PySem.W.mroIn K Cn (.type "object") = some true)
    (unb : PySem.W.subIn K (.ref Cn) (.type "BaseException") = some true)
    (unt : PySem.W.typeIn K (.ref Cn) = some (.type "type"))
    (uni : PySem.W.findIn K (.ref Cn) "__init__" = some (some (.ref fin)))
    (unj : PySem.W.typeIn K (.ref fin) = some (.type "function"))
    (unn : PySem.W.findIn K (.ref Cn) "name" = some none)
    (une : PySem.W.excInitIn K Cn bmKE "LookupError.__new__" = true)
    (uno : PySem.W.excOver K Cn bmKE = true)
    (uns : PySem.W.findIn K (.ref Cn) "__setattr__" = some (some (.builtin "object.__setattr__")))
    (unk : PySem.W.keepIn K (.ref Cn) = true)
    (unl : K.lookup fin = some ⟨ocun, odun, .func (PySem.W.fnOf "__init__" "UnknownName.__init__" (defArgs s_iUn) (defBody s_iUn) (defScope s_iUn) .none kVun dcun pmun anun cdun ctun), slun⟩)
    (unc : PySem.W.codeIn K cdun "UnknownName.__init__" = true)
    (unf : PySem.W.keepIn K (.ref fin) = true)
    (us0 : PySem.W.nsIn K mainGlobals "UnknownSite" = some (some (.ref Cs)))
    (usr0 : PySem.W.findIn K (.ref Cs) "__getattribute__" = some (some (.builtin "BaseException.__getattribute__")))
    (usr1 : PySem.W.findIn K (.ref Cs) "__getattr__" = some none)
    (usr3 : PySem.W.hasDictIn K Cs = true)
    (usr4 : PySem.W.findIn K (.ref Cs) "__class__" = some (some (.builtin "object.__class__")))
    (usr7 : PySem.W.mroIn K Cs (.type "object") = some true)
    (usb : PySem.W.subIn K (.ref Cs) (.type "BaseException") = some true)
    (ust : PySem.W.typeIn K (.ref Cs) = some (.type "type"))
    (usi : PySem.W.findIn K (.ref Cs) "__init__" = some (some (.ref fis)))
    (usj : PySem.W.typeIn K (.ref fis) = some (.type "function"))
    (usn : PySem.W.findIn K (.ref Cs) "site" = some none)
    (use : PySem.W.excInitIn K Cs bmKE "LookupError.__new__" = true)
    (uso : PySem.W.excOver K Cs bmKE = true)
    (uss : PySem.W.findIn K (.ref Cs) "__setattr__" = some (some (.builtin "object.__setattr__")))
    (usk : PySem.W.keepIn K (.ref Cs) = true)
    (usl : K.lookup fis = some ⟨ocus, odus, .func (PySem.W.fnOf "__init__" "UnknownSite.__init__" (defArgs s_iUs) (defBody s_iUs) (defScope s_iUs) .none kVus dcus pmus anus cdus ctus), slus⟩)
    (usc : PySem.W.codeIn K cdus "UnknownSite.__init__" = true)
    (usf : PySem.W.keepIn K (.ref fis) = true)
    (xs1 : PySem.W.exmOne K (.ref Cs) (.ref Cs) = some true)
    (p0 : PySem.W.nsIn K mainGlobals "Procedure" = some (some (.ref C)))
    (p1a : PySem.W.plainGet K C Str.empty = true)
    (p1b : PySem.W.hasDictIn K C = true)
    (p1c : PySem.W.plainOver K C = true)
    (p1d : PySem.W.findIn K (.ref C) "__setattr__" = some (some (.builtin "object.__setattr__")))
    (p2a : PySem.W.makesIn K C = true)
    (p2b : PySem.W.findIn K (.ref C) "__init__" = some (some (.ref fI)))
    (p2c : PySem.W.isFn K (.ref fI) = true)
    (p2d : PySem.W.keepIn K (.ref C) = true)
    (p3a : PySem.W.readsIn K C (.type "type") = true)
    (p3b : PySem.W.specialIn K (.ref C) "__getattribute__" = some (some (.builtin "type.__getattribute__")))
    (p4a : PySem.W.findCls K (.ref C) (.type "type") "of" = some (.get (.builtin "classmethod.__get__") (.ref pO) .none (.ref C)))
    (p4b : PySem.W.recIn K pO "classmethod" = some (.ref fO :: rsO))
    (p4c : PySem.W.fnIn K fO = true)
    (n1 : PySem.W.findIn K (.ref C) "_called" = some none)
    (q1a : PySem.W.findIn K (.ref C) "called" = some (some (.ref p1)))
    (q1b : PySem.W.specialIn K (.ref p1) "__get__" = some (some (.builtin "property.__get__")))
    (q1c : PySem.W.takesIn K (.ref p1) = some true)
    (q1d : PySem.W.recIn K p1 "property" = some (.ref g1 :: rs1))
    (n2 : PySem.W.findIn K (.ref C) "_points" = some none)
    (q2a : PySem.W.findIn K (.ref C) "points" = some (some (.ref p2)))
    (q2b : PySem.W.specialIn K (.ref p2) "__get__" = some (some (.builtin "property.__get__")))
    (q2c : PySem.W.takesIn K (.ref p2) = some true)
    (q2d : PySem.W.recIn K p2 "property" = some (.ref g2 :: rs2))
    (n3 : PySem.W.findIn K (.ref C) "_moves" = some none)
    (q3a : PySem.W.findIn K (.ref C) "moves" = some (some (.ref p3)))
    (q3b : PySem.W.specialIn K (.ref p3) "__get__" = some (some (.builtin "property.__get__")))
    (q3c : PySem.W.takesIn K (.ref p3) = some true)
    (q3d : PySem.W.recIn K p3 "property" = some (.ref g3 :: rs3))
    (e1 : PySem.W.findIn K (.ref C) "__eq__" = some (some (.ref fE)))
    (e2 : PySem.W.isFn K (.ref fE) = true)
    (e3 : PySem.W.findIn K (.ref C) "__ne__" = some (some (.builtin "object.__ne__")))
    (e4 : PySem.W.findIn K (.ref C) "__len__" = some (some (.ref fL)))
    (e5 : PySem.W.isFn K (.ref fL) = true)
    (e6 : PySem.W.findIn K (.ref C) "__str__" = some (some (.ref fS)))
    (e7 : PySem.W.isFn K (.ref fS) = true)
    (cc1 : PySem.W.findIn K (.ref C) "__class__" = some (some (.builtin "object.__class__")))
    (cc4 : PySem.W.mroIn K C (.type "object") = some true)
    (kk1 : PySem.W.kitOne K (.ref C) (.ref C) = some true)
    (kk2 : PySem.W.kitOne K (.type "NoneType") (.ref C) = some false)
    (kk3 : PySem.W.kitOne K (.type "str") (.ref C) = some false)
    (kk4 : PySem.W.kitOne K (.type "tuple") (.ref C) = some false)
    (ss1 : PySem.W.subIn K (.type "NoneType") (.ref C) = some false)
    (ss2 : PySem.W.subIn K (.type "str") (.ref C) = some false)
    (ss3 : PySem.W.subIn K (.type "tuple") (.ref C) = some false)
    (P0 : PySem.W.nsIn K mainGlobals "Program" = some (some (.ref Cg)))
    (P1a : PySem.W.plainGet K Cg Str.empty = true)
    (P1b : PySem.W.hasDictIn K Cg = true)
    (P1c : PySem.W.plainOver K Cg = true)
    (P1d : PySem.W.findIn K (.ref Cg) "__setattr__" = some (some (.builtin "object.__setattr__")))
    (P2a : PySem.W.makesIn K Cg = true)
    (P2b : PySem.W.findIn K (.ref Cg) "__init__" = some (some (.ref fIg)))
    (P2c : PySem.W.isFn K (.ref fIg) = true)
    (P2d : PySem.W.keepIn K (.ref Cg) = true)
    (P3a : PySem.W.readsIn K Cg (.type "type") = true)
    (P3b : PySem.W.specialIn K (.ref Cg) "__getattribute__" = some (some (.builtin "type.__getattribute__")))
    (P4a : PySem.W.findCls K (.ref Cg) (.type "type") "of" = some (.get (.builtin "classmethod.__get__") (.ref pOg) .none (.ref Cg)))
    (P4b : PySem.W.recIn K pOg "classmethod" = some (.ref fOg :: rsOg))
    (P4c : PySem.W.fnIn K fOg = true)
    (gn1 : PySem.W.findIn K (.ref Cg) "_modes" = some none)
    (gn2 : PySem.W.findIn K (.ref Cg) "_starts" = some none)
    (gn3 : PySem.W.findIn K (.ref Cg) "_begin" = some none)
    (gn4 : PySem.W.findIn K (.ref Cg) "_procedures" = some none)
    (gn5 : PySem.W.findIn K (.ref Cg) "_names" = some none)
    (gn6 : PySem.W.findIn K (.ref Cg) "lore" = some none)
    (gn7 : PySem.W.findIn K (.ref Cg) "notes" = some none)
    (gq1a : PySem.W.findIn K (.ref Cg) "modes" = some (some (.ref pg1)))
    (gq1b : PySem.W.specialIn K (.ref pg1) "__get__" = some (some (.builtin "property.__get__")))
    (gq1c : PySem.W.takesIn K (.ref pg1) = some true)
    (gq1d : PySem.W.recIn K pg1 "property" = some (.ref gg1 :: rsg1))
    (gq2a : PySem.W.findIn K (.ref Cg) "starts" = some (some (.ref pg2)))
    (gq2b : PySem.W.specialIn K (.ref pg2) "__get__" = some (some (.builtin "property.__get__")))
    (gq2c : PySem.W.takesIn K (.ref pg2) = some true)
    (gq2d : PySem.W.recIn K pg2 "property" = some (.ref gg2 :: rsg2))
    (gq3a : PySem.W.findIn K (.ref Cg) "begin" = some (some (.ref pg3)))
    (gq3b : PySem.W.specialIn K (.ref pg3) "__get__" = some (some (.builtin "property.__get__")))
    (gq3c : PySem.W.takesIn K (.ref pg3) = some true)
    (gq3d : PySem.W.recIn K pg3 "property" = some (.ref gg3 :: rsg3))
    (gq4a : PySem.W.findIn K (.ref Cg) "procedures" = some (some (.ref pg4)))
    (gq4b : PySem.W.specialIn K (.ref pg4) "__get__" = some (some (.builtin "property.__get__")))
    (gq4c : PySem.W.takesIn K (.ref pg4) = some true)
    (gq4d : PySem.W.recIn K pg4 "property" = some (.ref gg4 :: rsg4))
    (gq5a : PySem.W.findIn K (.ref Cg) "names" = some (some (.ref pg5)))
    (gq5b : PySem.W.specialIn K (.ref pg5) "__get__" = some (some (.builtin "property.__get__")))
    (gq5c : PySem.W.takesIn K (.ref pg5) = some true)
    (gq5d : PySem.W.recIn K pg5 "property" = some (.ref gg5 :: rsg5))
    (gq6a : PySem.W.findIn K (.ref Cg) "posts" = some (some (.ref pg6)))
    (gq6b : PySem.W.specialIn K (.ref pg6) "__get__" = some (some (.builtin "property.__get__")))
    (gq6c : PySem.W.takesIn K (.ref pg6) = some true)
    (gq6d : PySem.W.recIn K pg6 "property" = some (.ref gg6 :: rsg6))
    (gq7a : PySem.W.findIn K (.ref Cg) "calls" = some (some (.ref pg7)))
    (gq7b : PySem.W.specialIn K (.ref pg7) "__get__" = some (some (.builtin "property.__get__")))
    (gq7c : PySem.W.takesIn K (.ref pg7) = some true)
    (gq7d : PySem.W.recIn K pg7 "property" = some (.ref gg7 :: rsg7))
    (ge1a : PySem.W.findIn K (.ref Cg) "__eq__" = some (some (.ref fEg)))
    (ge1b : PySem.W.isFn K (.ref fEg) = true)
    (ge3 : PySem.W.findIn K (.ref Cg) "__ne__" = some (some (.builtin "object.__ne__")))
    (ge4a : PySem.W.findIn K (.ref Cg) "__len__" = some (some (.ref fLg)))
    (ge4b : PySem.W.isFn K (.ref fLg) = true)
    (ge6a : PySem.W.findIn K (.ref Cg) "__str__" = some (some (.ref fSg)))
    (ge6b : PySem.W.isFn K (.ref fSg) = true)
    (ge8a : PySem.W.findIn K (.ref Cg) "__getitem__" = some (some (.ref fGg)))
    (ge8b : PySem.W.isFn K (.ref fGg) = true)
    (ge8c : PySem.W.fnIn K fGg = true)
    (ge9a : PySem.W.findIn K (.ref Cg) "__contains__" = some (some (.ref fCg)))
    (ge9b : PySem.W.isFn K (.ref fCg) = true)
    (gm1a : PySem.W.findIn K (.ref Cg) "move" = some (some (.ref fMg)))
    (gm1b : PySem.W.isFn K (.ref fMg) = true)
    (gm1c : PySem.W.keepIn K (.ref fMg) = true)
    (gm2a : PySem.W.findIn K (.ref Cg) "_has_site" = some (some (.ref fHg)))
    (gm2b : PySem.W.isFn K (.ref fHg) = true)
    (gm2c : PySem.W.keepIn K (.ref fHg) = true)
    (gc1 : PySem.W.findIn K (.ref Cg) "__class__" = some (some (.builtin "object.__class__")))
    (gc4 : PySem.W.mroIn K Cg (.type "object") = some true)
    (gk1 : PySem.W.kitOne K (.ref Cg) (.ref Cg) = some true)
    (gkP : PySem.W.kitOne K (.ref C) (.ref Cg) = some false)
    (gsP : PySem.W.subIn K (.ref C) (.ref Cg) = some false)
    (gkt0 : PySem.W.kitOne K (.type "NoneType") (.ref Cg) = some false)
    (gks0 : PySem.W.subIn K (.type "NoneType") (.ref Cg) = some false)
    (gkt1 : PySem.W.kitOne K (.type "int") (.ref Cg) = some false)
    (gks1 : PySem.W.subIn K (.type "int") (.ref Cg) = some false)
    (gkt2 : PySem.W.kitOne K (.type "bool") (.ref Cg) = some false)
    (gks2 : PySem.W.subIn K (.type "bool") (.ref Cg) = some false)
    (gkt3 : PySem.W.kitOne K (.type "str") (.ref Cg) = some false)
    (gks3 : PySem.W.subIn K (.type "str") (.ref Cg) = some false)
    (gkt4 : PySem.W.kitOne K (.type "list") (.ref Cg) = some false)
    (gks4 : PySem.W.subIn K (.type "list") (.ref Cg) = some false)
    (gkt5 : PySem.W.kitOne K (.type "tuple") (.ref Cg) = some false)
    (gks5 : PySem.W.subIn K (.type "tuple") (.ref Cg) = some false)
    (gkt6 : PySem.W.kitOne K (.type "dict") (.ref Cg) = some false)
    (gks6 : PySem.W.subIn K (.type "dict") (.ref Cg) = some false)
    (gm3a : PySem.W.findIn K (.ref Cg) "without_posts" = some (some (.ref fW)))
    (gm3b : PySem.W.isFn K (.ref fW) = true)
    (gm3c : PySem.W.keepIn K (.ref fW) = true)
    (gm4a : PySem.W.findIn K (.ref Cg) "check_posts" = some (some (.ref fKg)))
    (gm4b : PySem.W.isFn K (.ref fKg) = true)
    (gm4c : PySem.W.keepIn K (.ref fKg) = true)
    (gm5a : PySem.W.findIn K (.ref Cg) "_remade" = some (some (.ref fRg)))
    (gm5b : PySem.W.isFn K (.ref fRg) = true)
    (gm5c : PySem.W.keepIn K (.ref fRg) = true)
    (gk9 : PySem.W.kitOne K (.ref Cg) (.type "tuple") = some false)
    (lmI : K.lookup fI = some ⟨ocmI, odmI, .func (PySem.W.fnOf "__init__" "Procedure.__init__" (defArgs s_init) (defBody s_init) (defScope s_init) .none kVmI dcmI pmmI anmI cdmI ctmI), slmI⟩)
    (cmI : PySem.W.codeIn K cdmI "Procedure.__init__" = true)
    (kmI : PySem.W.keepIn K (.ref fI) = true)
    (lmO : K.lookup fO = some ⟨ocmO, odmO, .func (PySem.W.fnOf "of" "Procedure.of" (defArgs s_of) (defBody s_of) (defScope s_of) .none kVmO dcmO pmmO anmO cdmO ctmO), slmO⟩)
    (cmO : PySem.W.codeIn K cdmO "Procedure.of" = true)
    (kmO : PySem.W.keepIn K (.ref fO) = true)
    (lm1 : K.lookup g1 = some ⟨ocm1, odm1, .func (PySem.W.fnOf "called" "Procedure.called" (defArgs s_gcalled) (defBody s_gcalled) (defScope s_gcalled) .none kVm1 dcm1 pmm1 anm1 cdm1 ctm1), slm1⟩)
    (cm1 : PySem.W.codeIn K cdm1 "Procedure.called" = true)
    (km1 : PySem.W.keepIn K (.ref g1) = true)
    (lm2 : K.lookup g2 = some ⟨ocm2, odm2, .func (PySem.W.fnOf "points" "Procedure.points" (defArgs s_gpoints) (defBody s_gpoints) (defScope s_gpoints) .none kVm2 dcm2 pmm2 anm2 cdm2 ctm2), slm2⟩)
    (cm2 : PySem.W.codeIn K cdm2 "Procedure.points" = true)
    (km2 : PySem.W.keepIn K (.ref g2) = true)
    (lm3 : K.lookup g3 = some ⟨ocm3, odm3, .func (PySem.W.fnOf "moves" "Procedure.moves" (defArgs s_gmoves) (defBody s_gmoves) (defScope s_gmoves) .none kVm3 dcm3 pmm3 anm3 cdm3 ctm3), slm3⟩)
    (cm3 : PySem.W.codeIn K cdm3 "Procedure.moves" = true)
    (km3 : PySem.W.keepIn K (.ref g3) = true)
    (lmE : K.lookup fE = some ⟨ocmE, odmE, .func (PySem.W.fnOf "__eq__" "Procedure.__eq__" (defArgs s_peq) (defBody s_peq) (defScope s_peq) .none kVmE dcmE pmmE anmE cdmE ctmE), slmE⟩)
    (cmE : PySem.W.codeIn K cdmE "Procedure.__eq__" = true)
    (kmE : PySem.W.keepIn K (.ref fE) = true)
    (lmL : K.lookup fL = some ⟨ocmL, odmL, .func (PySem.W.fnOf "__len__" "Procedure.__len__" (defArgs s_plen) (defBody s_plen) (defScope s_plen) .none kVmL dcmL pmmL anmL cdmL ctmL), slmL⟩)
    (cmL : PySem.W.codeIn K cdmL "Procedure.__len__" = true)
    (kmL : PySem.W.keepIn K (.ref fL) = true)
    (lmS : K.lookup fS = some ⟨ocmS, odmS, .func (PySem.W.fnOf "__str__" "Procedure.__str__" (defArgs s_pstr) (defBody s_pstr) (defScope s_pstr) .none kVmS dcmS pmmS anmS cdmS ctmS), slmS⟩)
    (cmS : PySem.W.codeIn K cdmS "Procedure.__str__" = true)
    (kmS : PySem.W.keepIn K (.ref fS) = true)
    (lmWg : K.lookup fW = some ⟨ocmWg, odmWg, .func (PySem.W.fnOf "without_posts" "Program.without_posts" (defArgs s_gwo) (defBody s_gwo) (defScope s_gwo) .none kVmWg dcmWg pmmWg anmWg cdmWg ctmWg), slmWg⟩)
    (cmWg : PySem.W.codeIn K cdmWg "Program.without_posts" = true)
    (kmWg : PySem.W.keepIn K (.ref fW) = true)
    (lmKg : K.lookup fKg = some ⟨ocmKg, odmKg, .func (PySem.W.fnOf "check_posts" "Program.check_posts" (defArgs s_gcheck) (defBody s_gcheck) (defScope s_gcheck) .none kVmKg dcmKg pmmKg anmKg cdmKg ctmKg), slmKg⟩)
    (cmKg : PySem.W.codeIn K cdmKg "Program.check_posts" = true)
    (kmKg : PySem.W.keepIn K (.ref fKg) = true)
    (lmRg : K.lookup fRg = some ⟨ocmRg, odmRg, .func (PySem.W.fnOf "_remade" "Program._remade" (defArgs s_gremade) (defBody s_gremade) (defScope s_gremade) .none kVmRg dcmRg pmmRg anmRg cdmRg ctmRg), slmRg⟩)
    (cmRg : PySem.W.codeIn K cdmRg "Program._remade" = true)
    (kmRg : PySem.W.keepIn K (.ref fRg) = true)
    (lmIg : K.lookup fIg = some ⟨ocmIg, odmIg, .func (PySem.W.fnOf "__init__" "Program.__init__" (defArgs s_ginit) (defBody s_ginit) (defScope s_ginit) .none kVmIg dcmIg pmmIg anmIg cdmIg ctmIg), slmIg⟩)
    (cmIg : PySem.W.codeIn K cdmIg "Program.__init__" = true)
    (kmIg : PySem.W.keepIn K (.ref fIg) = true)
    (lmOg : K.lookup fOg = some ⟨ocmOg, odmOg, .func (PySem.W.fnOf "of" "Program.of" (defArgs s_gof) (defBody s_gof) (defScope s_gof) .none kVmOg dcmOg pmmOg anmOg cdmOg ctmOg), slmOg⟩)
    (cmOg : PySem.W.codeIn K cdmOg "Program.of" = true)
    (kmOg : PySem.W.keepIn K (.ref fOg) = true)
    (lmEg : K.lookup fEg = some ⟨ocmEg, odmEg, .func (PySem.W.fnOf "__eq__" "Program.__eq__" (defArgs s_geq) (defBody s_geq) (defScope s_geq) .none kVmEg dcmEg pmmEg anmEg cdmEg ctmEg), slmEg⟩)
    (cmEg : PySem.W.codeIn K cdmEg "Program.__eq__" = true)
    (kmEg : PySem.W.keepIn K (.ref fEg) = true)
    (lmLg : K.lookup fLg = some ⟨ocmLg, odmLg, .func (PySem.W.fnOf "__len__" "Program.__len__" (defArgs s_glen) (defBody s_glen) (defScope s_glen) .none kVmLg dcmLg pmmLg anmLg cdmLg ctmLg), slmLg⟩)
    (cmLg : PySem.W.codeIn K cdmLg "Program.__len__" = true)
    (kmLg : PySem.W.keepIn K (.ref fLg) = true)
    (lmSg : K.lookup fSg = some ⟨ocmSg, odmSg, .func (PySem.W.fnOf "__str__" "Program.__str__" (defArgs s_gstr) (defBody s_gstr) (defScope s_gstr) .none kVmSg dcmSg pmmSg anmSg cdmSg ctmSg), slmSg⟩)
    (cmSg : PySem.W.codeIn K cdmSg "Program.__str__" = true)
    (kmSg : PySem.W.keepIn K (.ref fSg) = true)
    (lmGg : K.lookup fGg = some ⟨ocmGg, odmGg, .func (PySem.W.fnOf "__getitem__" "Program.__getitem__" (defArgs s_gget) (defBody s_gget) (defScope s_gget) .none kVmGg dcmGg pmmGg anmGg cdmGg ctmGg), slmGg⟩)
    (cmGg : PySem.W.codeIn K cdmGg "Program.__getitem__" = true)
    (kmGg : PySem.W.keepIn K (.ref fGg) = true)
    (lmCg : K.lookup fCg = some ⟨ocmCg, odmCg, .func (PySem.W.fnOf "__contains__" "Program.__contains__" (defArgs s_gcont) (defBody s_gcont) (defScope s_gcont) .none kVmCg dcmCg pmmCg anmCg cdmCg ctmCg), slmCg⟩)
    (cmCg : PySem.W.codeIn K cdmCg "Program.__contains__" = true)
    (kmCg : PySem.W.keepIn K (.ref fCg) = true)
    (lmMg : K.lookup fMg = some ⟨ocmMg, odmMg, .func (PySem.W.fnOf "move" "Program.move" (defArgs s_gmove) (defBody s_gmove) (defScope s_gmove) .none kVmMg dcmMg pmmMg anmMg cdmMg ctmMg), slmMg⟩)
    (cmMg : PySem.W.codeIn K cdmMg "Program.move" = true)
    (kmMg : PySem.W.keepIn K (.ref fMg) = true)
    (lmHg : K.lookup fHg = some ⟨ocmHg, odmHg, .func (PySem.W.fnOf "_has_site" "Program._has_site" (defArgs s_ghas) (defBody s_ghas) (defScope s_ghas) .none kVmHg dcmHg pmmHg anmHg cdmHg ctmHg), slmHg⟩)
    (cmHg : PySem.W.codeIn K cdmHg "Program._has_site" = true)
    (kmHg : PySem.W.keepIn K (.ref fHg) = true)
    (lmm1 : K.lookup gg1 = some ⟨ocmm1, odmm1, .func (PySem.W.fnOf "modes" "Program.modes" (defArgs s_gg_modes) (defBody s_gg_modes) (defScope s_gg_modes) .none kVmm1 dcmm1 pmmm1 anmm1 cdmm1 ctmm1), slmm1⟩)
    (cmm1 : PySem.W.codeIn K cdmm1 "Program.modes" = true)
    (kmm1 : PySem.W.keepIn K (.ref gg1) = true)
    (lmm2 : K.lookup gg2 = some ⟨ocmm2, odmm2, .func (PySem.W.fnOf "starts" "Program.starts" (defArgs s_gg_starts) (defBody s_gg_starts) (defScope s_gg_starts) .none kVmm2 dcmm2 pmmm2 anmm2 cdmm2 ctmm2), slmm2⟩)
    (cmm2 : PySem.W.codeIn K cdmm2 "Program.starts" = true)
    (kmm2 : PySem.W.keepIn K (.ref gg2) = true)
    (lmm3 : K.lookup gg3 = some ⟨ocmm3, odmm3, .func (PySem.W.fnOf "begin" "Program.begin" (defArgs s_gg_begin) (defBody s_gg_begin) (defScope s_gg_begin) .none kVmm3 dcmm3 pmmm3 anmm3 cdmm3 ctmm3), slmm3⟩)
    (cmm3 : PySem.W.codeIn K cdmm3 "Program.begin" = true)
    (kmm3 : PySem.W.keepIn K (.ref gg3) = true)
    (lmm4 : K.lookup gg4 = some ⟨ocmm4, odmm4, .func (PySem.W.fnOf "procedures" "Program.procedures" (defArgs s_gg_procedures) (defBody s_gg_procedures) (defScope s_gg_procedures) .none kVmm4 dcmm4 pmmm4 anmm4 cdmm4 ctmm4), slmm4⟩)
    (cmm4 : PySem.W.codeIn K cdmm4 "Program.procedures" = true)
    (kmm4 : PySem.W.keepIn K (.ref gg4) = true)
    (lmm5 : K.lookup gg5 = some ⟨ocmm5, odmm5, .func (PySem.W.fnOf "names" "Program.names" (defArgs s_gg_names) (defBody s_gg_names) (defScope s_gg_names) .none kVmm5 dcmm5 pmmm5 anmm5 cdmm5 ctmm5), slmm5⟩)
    (cmm5 : PySem.W.codeIn K cdmm5 "Program.names" = true)
    (kmm5 : PySem.W.keepIn K (.ref gg5) = true)
    (lmm6 : K.lookup gg6 = some ⟨ocmm6, odmm6, .func (PySem.W.fnOf "posts" "Program.posts" (defArgs s_gposts) (defBody s_gposts) (defScope s_gposts) .none kVmm6 dcmm6 pmmm6 anmm6 cdmm6 ctmm6), slmm6⟩)
    (cmm6 : PySem.W.codeIn K cdmm6 "Program.posts" = true)
    (kmm6 : PySem.W.keepIn K (.ref gg6) = true)
    (lmm7 : K.lookup gg7 = some ⟨ocmm7, odmm7, .func (PySem.W.fnOf "calls" "Program.calls" (defArgs s_gcalls) (defBody s_gcalls) (defScope s_gcalls) .none kVmm7 dcmm7 pmmm7 anmm7 cdmm7 ctmm7), slmm7⟩)
    (cmm7 : PySem.W.codeIn K cdmm7 "Program.calls" = true)
    (kmm7 : PySem.W.keepIn K (.ref gg7) = true)
    : Cl.LawAtG l w K 21 63 "script" mg fa h := by
  have e := hfa.symm.trans (PySem.W.mg_of X G a30)
  cases e
  have F_is_name := fun_mk (st := s_is_name) l0 c0 k0
  have b_is_name := F_is_name.binds (ps := ["value"]) fun _ _ _ _ _ _ us hl => match us, hl with | [_], _ => rfl
  have g_is_name := PySem.W.mg_of X G a0
  have F_is_integer := fun_mk (st := s_is_integer) l1 c1 k1
  have b_is_integer := F_is_integer.binds (ps := ["value"]) fun _ _ _ _ _ _ us hl => match us, hl with | [_], _ => rfl
  have g_is_integer := PySem.W.mg_of X G a1
  have F_is_index := fun_mk (st := s_is_index) l2 c2 k2
  have b_is_index := F_is_index.binds (ps := ["value", "many"]) fun _ _ _ _ _ _ us hl => match us, hl with | [_, _], _ => rfl
  have g_is_index := PySem.W.mg_of X G a2
  have F_ascends := fun_mk (st := s_ascends) l3 c3 k3
  have b_ascends := F_ascends.binds (ps := ["items"]) fun _ _ _ _ _ _ us hl => match us, hl with | [_], _ => rfl
  have g_ascends := PySem.W.mg_of X G a3
  have F_is_mode_set := fun_mk (st := s_is_mode_set) l4 c4 k4
  have b_is_mode_set := F_is_mode_set.binds (ps := ["value", "modes"]) fun _ _ _ _ _ _ us hl => match us, hl with | [_, _], _ => rfl
  have g_is_mode_set := PySem.W.mg_of X G a4
  have F_is_pair := fun_mk (st := s_is_pair) l5 c5 k5
  have b_is_pair := F_is_pair.binds (ps := ["value", "modes"]) fun _ _ _ _ _ _ us hl => match us, hl with | [_, _], _ => rfl
  have g_is_pair := PySem.W.mg_of X G a5
  have F_is_pair_set := fun_mk (st := s_is_pair_set) l6 c6 k6
  have b_is_pair_set := F_is_pair_set.binds (ps := ["value", "modes"]) fun _ _ _ _ _ _ us hl => match us, hl with | [_, _], _ => rfl
  have g_is_pair_set := PySem.W.mg_of X G a6
  have F_is_move := fun_mk (st := s_is_move) l7 c7 k7
  have b_is_move := F_is_move.binds (ps := ["value", "points", "modes"]) fun _ _ _ _ _ _ us hl => match us, hl with | [_, _, _], _ => rfl
  have g_is_move := PySem.W.mg_of X G a7
  have F_names_task := fun_mk (st := s_names_task) l8 c8 k8
  have b_names_task := F_names_task.binds (ps := ["move"]) fun _ _ _ _ _ _ us hl => match us, hl with | [_], _ => rfl
  have g_names_task := PySem.W.mg_of X G a8
  have F_is_number := fun_mk (st := s_is_number) l9 c9 k9
  have b_is_number := F_is_number.binds (ps := ["value", "most"]) fun _ _ _ _ _ _ us hl => match us, hl with | [_, _], _ => rfl
  have g_is_number := PySem.W.mg_of X G a9
  have F_are_moves := fun_mk (st := s_are_moves) l10 c10 k10
  have b_are_moves := F_are_moves.binds (ps := ["values", "points", "modes"]) fun _ _ _ _ _ _ us hl => match us, hl with | [_, _, _], _ => rfl
  have g_are_moves := PySem.W.mg_of X G a10
  have F_has_entries := fun_mk (st := s_has_entries) l11 c11 k11
  have b_has_entries := F_has_entries.binds (ps := ["value", "low"]) fun _ _ _ _ _ _ us hl => match us, hl with | [_, _], _ => rfl
  have g_has_entries := PySem.W.mg_of X G a11
  have F_is_bag := fun_mk (st := s_is_bag) l12 c12 k12
  have b_is_bag := F_is_bag.binds (ps := ["value"]) fun _ _ _ _ _ _ us hl => match us, hl with | [_], _ => rfl
  have g_is_bag := PySem.W.mg_of X G a12
  have F_names_of := fun_mk (st := s_names_of) l13 c13 k13
  have b_names_of := F_names_of.binds (ps := ["procedures"]) fun _ _ _ _ _ _ us hl => match us, hl with | [_], _ => rfl
  have g_names_of := PySem.W.mg_of X G a13
  have F_are_procedures := fun_mk (st := s_are_procedures) l14 c14 k14
  have b_are_procedures := F_are_procedures.binds (ps := ["values"]) fun _ _ _ _ _ _ us hl => match us, hl with | [_], _ => rfl
  have g_are_procedures := PySem.W.mg_of X G a14
  have F_are_joined := fun_mk (st := s_are_joined) l15 c15 k15
  have b_are_joined := F_are_joined.binds (ps := ["procedures", "modes"]) fun _ _ _ _ _ _ us hl => match us, hl with | [_, _], _ => rfl
  have g_are_joined := PySem.W.mg_of X G a15
  have F_sites_of := fun_mk (st := s_sites_of) l16 c16 k16
  have b_sites_of := F_sites_of.binds (ps := ["procedures", "kind"]) fun _ _ _ _ _ _ us hl => match us, hl with | [_, _], _ => rfl
  have g_sites_of := PySem.W.mg_of X G a16
  have F_as_go := fun_mk (st := s_as_go) l17 c17 k17
  have b_as_go := F_as_go.binds (ps := ["post"]) fun _ _ _ _ _ _ us hl => match us, hl with | [_], _ => rfl
  have g_as_go := PySem.W.mg_of X G a17
  have F_hushed_procedure := fun_mk (st := s_hushed_procedure) l18 c18 k18
  have b_hushed_procedure := F_hushed_procedure.binds (ps := ["procedure", "sites"]) fun _ _ _ _ _ _ us hl => match us, hl with | [_, _], _ => rfl
  have g_hushed_procedure := PySem.W.mg_of X G a18
  have F__law_numbers := fun_mk (st := s_law_numbers) l19 c19 k19
  have b__law_numbers := F__law_numbers.binds (ps := ["script", "at"]) fun _ _ _ _ _ _ us hl => match us, hl with | [_, _], _ => rfl
  have g__law_numbers := PySem.W.mg_of X G a19
  have F__law_cast := fun_mk (st := s_law_cast) l20 c20 k20
  have b__law_cast := F__law_cast.binds (ps := ["die", "total"]) fun _ _ _ _ _ _ us hl => match us, hl with | [_, _], _ => rfl
  have g__law_cast := PySem.W.mg_of X G a20
  have F__law_pick := fun_mk (st := s_law_pick) l21 c21 k21
  have b__law_pick := F__law_pick.binds (ps := ["die", "items"]) fun _ _ _ _ _ _ us hl => match us, hl with | [_, _], _ => rfl
  have g__law_pick := PySem.W.mg_of X G a21
  have F__law_shuffle := fun_mk (st := s_law_shuffle) l22 c22 k22
  have b__law_shuffle := F__law_shuffle.binds (ps := ["die", "items"]) fun _ _ _ _ _ _ us hl => match us, hl with | [_, _], _ => rfl
  have g__law_shuffle := PySem.W.mg_of X G a22
  have F__law_subset := fun_mk (st := s_law_subset) l23 c23 k23
  have b__law_subset := F__law_subset.binds (ps := ["die", "total"]) fun _ _ _ _ _ _ us hl => match us, hl with | [_, _], _ => rfl
  have g__law_subset := PySem.W.mg_of X G a23
  have F__law_a_move := fun_mk (st := s_law_a_move) l24 c24 k24
  have b__law_a_move := F__law_a_move.binds (ps := ["die", "total", "points", "names"]) fun _ _ _ _ _ _ us hl => match us, hl with | [_, _, _, _], _ => rfl
  have g__law_a_move := PySem.W.mg_of X G a24
  have F__law_any_plain := fun_mk (st := s_law_any_plain) l25 c25 k25
  have b__law_any_plain := F__law_any_plain.binds (ps := ["die"]) fun _ _ _ _ _ _ us hl => match us, hl with | [_], _ => rfl
  have g__law_any_plain := PySem.W.mg_of X G a25
  have F__law_met := fun_mk (st := s_law_met) l26 c26 k26
  have b__law_met := F__law_met.binds (ps := ["call"]) fun _ _ _ _ _ _ us hl => match us, hl with | [_], _ => rfl
  have g__law_met := PySem.W.mg_of X G a26
  have F__law_made_of := fun_mk (st := s_law_made_of) l27 c27 k27
  have b__law_made_of := F__law_made_of.binds (ps := ["plain"]) fun _ _ _ _ _ _ us hl => match us, hl with | [_], _ => rfl
  have g__law_made_of := PySem.W.mg_of X G a27
  have F__law_bared_of := fun_mk (st := s_law_bared_of) l28 c28 k28
  have b__law_bared_of := F__law_bared_of.binds (ps := ["plain", "sites"]) fun _ _ _ _ _ _ us hl => match us, hl with | [_, _], _ => rfl
  have g__law_bared_of := PySem.W.mg_of X G a28
  have F__law_right := fun_mk (st := s_law_right) l29 c29 k29
  have b__law_right := F__law_right.binds (ps := ["die"]) fun _ _ _ _ _ _ us hl => match us, hl with | [_], _ => rfl
  have g__law_right := PySem.W.mg_of X G a29
  have F_law := fun_mk (st := s_law) l30 c30 k30
  have b_law := F_law.binds (ps := ["script"]) fun _ _ _ _ _ _ us hl => match us, hl with | [_], _ => rfl
  have g_law := PySem.W.mg_of X G a30
  have m_isinstance := PySem.W.mg_none_of X G z_isinstance
  have m_int := PySem.W.mg_none_of X G z_int
  have m_bool := PySem.W.mg_none_of X G z_bool
  have m_str := PySem.W.mg_none_of X G z_str
  have m_tuple := PySem.W.mg_none_of X G z_tuple
  have m_list := PySem.W.mg_none_of X G z_list
  have m_len := PySem.W.mg_none_of X G z_len
  have m_all := PySem.W.mg_none_of X G z_all
  have m_range := PySem.W.mg_none_of X G z_range
  have m_abs := PySem.W.mg_none_of X G z_abs
  have m_max := PySem.W.mg_none_of X G z_max
  have m_min := PySem.W.mg_none_of X G z_min
  have m_set := PySem.W.mg_none_of X G z_set
  have m_sorted := PySem.W.mg_none_of X G z_sorted
  have m_repr := PySem.W.mg_none_of X G z_repr
  have m_enumerate := PySem.W.mg_none_of X G z_enumerate
  have g_LONGEST_NAME := PySem.W.mg_of X G y_LONGEST_NAME
  have g_MOST_MODES := PySem.W.mg_of X G y_MOST_MODES
  have g_MOST_POINTS := PySem.W.mg_of X G y_MOST_POINTS
  have g_MOST_MOVES := PySem.W.mg_of X G y_MOST_MOVES
  have g_MOST_PROCEDURES := PySem.W.mg_of X G y_MOST_PROCEDURES
  have tb_cR := tabs "_law_right" (by simp) _ _ (tab_in a29 l29 rfl lc_cR hv_cR)
  refine ⟨PySem.W.fnOf "law" "law" (defArgs s_law) (defBody s_law) (defScope s_law) .none kV30 dc30 pm30 an30 cd30 ct30, [(cR, PR)], spLawT K [(PR, lamQ s_law_right "_law_right")], allC tb_cR.2 allN, allC nl_cR allN, allC tb_cR.1 allN, fun s v => .of_eq rfl, fun H a ns hl hT hS => ⟨a, ns, rfl, hS, hl, ?_, fun _ => rfl⟩, fun base _ _ hTB => ?_⟩
  · refine allC ?_ allN
    · exact LamX.TabS.nil (hT (cR, PR) (by simp))
  have TB_cR := hTB (cR, PR) (by simp)
  have hm_cR : (PR, lamQ s_law_right "_law_right") ∈ [(PR, lamQ s_law_right "_law_right")] := by simp
  have hu_cR : ∀ p ∈ [(PR, lamQ s_law_right "_law_right")], p.1 = PR → p.2 = lamQ s_law_right "_law_right" := by
    refine allC ?_ allN
    · exact fun _ => rfl
  have T : Cl.ErrC K mg "InvalidProgram" Ce := ⟨PySem.W.mg_of X G qe0, qe1, qe2, qe3, qe4, qe5, ⟨r0, r1, qe3, r3, r4, r5, r6, r7⟩⟩
  have c : PcdC K mg C fI fO pO fE fL fS p1 g1 p2 g2 p3 g3 (.type "type") := ⟨PySem.W.mg_of X G p0, ⟨p1a, p1b, p1c, p1d⟩, ⟨p2a, p2b, p2c, p2d⟩, ⟨p3a, p3b⟩, ⟨p4a, ⟨_, p4b⟩, p4c⟩, n1, n2, n3, ⟨q1a, q1b, q1c, ⟨_, q1d⟩⟩, ⟨q2a, q2b, q2c, ⟨_, q2d⟩⟩, ⟨q3a, q3b, q3c, ⟨_, q3d⟩⟩, e1, e2, e3, e4, e5, e6, e7, cc1, r5, r6, cc4, kk1, kk2, kk3, kk4, ss1, ss2, ss3⟩
  have xcn : OexG K Cn bmKE "LookupError.__new__" := ⟨une, uno, uns, unk, ⟨unr0, unr1, unb, unr3, unr4, r5, r6, unr7⟩⟩
  have xcs : OexG K Cs bmKE "LookupError.__new__" := ⟨use, uso, uss, usk, ⟨usr0, usr1, usb, usr3, usr4, r5, r6, usr7⟩⟩
  have XN : FldC K mg "UnknownName" "name" Cn fin := ⟨PySem.W.mg_of X G un0, xcn, unb, unt, uni, unj, unn⟩
  have XS : FldC K mg "UnknownSite" "site" Cs fis := ⟨PySem.W.mg_of X G us0, xcs, usb, ust, usi, usj, usn⟩
  have MS : _root_.Cn.MetS K mg Cs := ⟨XS.gC, ⟨usr0, usr1, usb, usr3⟩, usn, xs1⟩
  have FIn := fun_mk (st := s_iUn) unl unc unf
  have bIn := FIn.binds (ps := ["self", "name"]) fun _ _ _ _ _ _ us hl => match us, hl with | [_, _], _ => rfl
  have FIs := fun_mk (st := s_iUs) usl usc usf
  have bIs := FIs.binds (ps := ["self", "site"]) fun _ _ _ _ _ _ us hl => match us, hl with | [_, _], _ => rfl
  have cg : PgmC K mg Cg fIg fOg pOg fEg fLg fSg fGg fCg fMg fHg pg1 gg1 pg2 gg2 pg3 gg3 pg4 gg4 pg5 gg5 pg6 gg6 pg7 gg7 (.type "type") := ⟨PySem.W.mg_of X G P0, ⟨P1a, P1b, P1c, P1d⟩, ⟨P2a, P2b, P2c, P2d⟩, ⟨P3a, P3b⟩, ⟨P4a, ⟨_, P4b⟩, P4c⟩, gn1, gn2, gn3, gn4, gn5, gn6, gn7, ⟨gq1a, gq1b, gq1c, ⟨_, gq1d⟩⟩, ⟨gq2a, gq2b, gq2c, ⟨_, gq2d⟩⟩, ⟨gq3a, gq3b, gq3c, ⟨_, gq3d⟩⟩, ⟨gq4a, gq4b, gq4c, ⟨_, gq4d⟩⟩, ⟨gq5a, gq5b, gq5c, ⟨_, gq5d⟩⟩, ⟨gq6a, gq6b, gq6c, ⟨_, gq6d⟩⟩, ⟨gq7a, gq7b, gq7c, ⟨_, gq7d⟩⟩, ge1a, ge1b, ge3, ge4a, ge4b, ge6a, ge6b, ge8a, ge8c, ge8b, ge9a, ge9b, ⟨gm1a, gm1b, gm1c⟩, ⟨gm2a, gm2b, gm2c⟩, gc1, r5, r6, gc4, gk1, (fun D h => by rw [c.gP] at h; cases h; exact gkP), gkt0, gks0, gkt1, gks1, gkt2, gks2, gkt3, gks3, gkt4, gks4, gkt5, gks5, gkt6, gks6, (fun D h => by rw [c.gP] at h; cases h; exact gsP)⟩
  have FMO := fun_mk (st := s_of) lmO cmO kmO
  have bMO := FMO.binds (ps := ["cls", "called", "points", "moves"]) fun _ _ _ _ _ _ us hl => match us, hl with | [_, _, _, _], _ => rfl
  have FM1 := fun_mk (st := s_gcalled) lm1 cm1 km1
  have bM1 := FM1.binds (ps := ["self"]) fun _ _ _ _ _ _ us hl => match us, hl with | [_], _ => rfl
  have FM2 := fun_mk (st := s_gpoints) lm2 cm2 km2
  have bM2 := FM2.binds (ps := ["self"]) fun _ _ _ _ _ _ us hl => match us, hl with | [_], _ => rfl
  have FM3 := fun_mk (st := s_gmoves) lm3 cm3 km3
  have bM3 := FM3.binds (ps := ["self"]) fun _ _ _ _ _ _ us hl => match us, hl with | [_], _ => rfl
  have FME := fun_mk (st := s_peq) lmE cmE kmE
  have bME := FME.binds (ps := ["self", "other"]) fun _ _ _ _ _ _ us hl => match us, hl with | [_, _], _ => rfl
  have FML := fun_mk (st := s_plen) lmL cmL kmL
  have bML := FML.binds (ps := ["self"]) fun _ _ _ _ _ _ us hl => match us, hl with | [_], _ => rfl
  have FMS := fun_mk (st := s_pstr) lmS cmS kmS
  have bMS := FMS.binds (ps := ["self"]) fun _ _ _ _ _ _ us hl => match us, hl with | [_], _ => rfl
  have FMWg := fun_mk (st := s_gwo) lmWg cmWg kmWg
  have bMWg := FMWg.binds (ps := ["self", "sites"]) fun _ _ _ _ _ _ us hl => match us, hl with | [_, _], _ => rfl
  have FMKg := fun_mk (st := s_gcheck) lmKg cmKg kmKg
  have bMKg := FMKg.binds (ps := ["self", "sites"]) fun _ _ _ _ _ _ us hl => match us, hl with | [_, _], _ => rfl
  have FMRg := fun_mk (st := s_gremade) lmRg cmRg kmRg
  have bMRg := FMRg.binds (ps := ["self", "starts", "begin", "procedures"]) fun _ _ _ _ _ _ us hl => match us, hl with | [_, _, _, _], _ => rfl
  have FMOg := fun_mk (st := s_gof) lmOg cmOg kmOg
  have bMOg := FMOg.binds (ps := ["cls", "modes", "starts", "begin", "procedures"]) fun _ _ _ _ _ _ us hl => match us, hl with | [_, _, _, _, _], _ => rfl
  have FMEg := fun_mk (st := s_geq) lmEg cmEg kmEg
  have bMEg := FMEg.binds (ps := ["self", "other"]) fun _ _ _ _ _ _ us hl => match us, hl with | [_, _], _ => rfl
  have FMLg := fun_mk (st := s_glen) lmLg cmLg kmLg
  have bMLg := FMLg.binds (ps := ["self"]) fun _ _ _ _ _ _ us hl => match us, hl with | [_], _ => rfl
  have FMSg := fun_mk (st := s_gstr) lmSg cmSg kmSg
  have bMSg := FMSg.binds (ps := ["self"]) fun _ _ _ _ _ _ us hl => match us, hl with | [_], _ => rfl
  have FMGg := fun_mk (st := s_gget) lmGg cmGg kmGg
  have bMGg := FMGg.binds (ps := ["self", "name"]) fun _ _ _ _ _ _ us hl => match us, hl with | [_, _], _ => rfl
  have FMCg := fun_mk (st := s_gcont) lmCg cmCg kmCg
  have bMCg := FMCg.binds (ps := ["self", "value"]) fun _ _ _ _ _ _ us hl => match us, hl with | [_, _], _ => rfl
  have FMMg := fun_mk (st := s_gmove) lmMg cmMg kmMg
  have bMMg := FMMg.binds (ps := ["self", "site"]) fun _ _ _ _ _ _ us hl => match us, hl with | [_, _], _ => rfl
  have FMHg := fun_mk (st := s_ghas) lmHg cmHg kmHg
  have bMHg := FMHg.binds (ps := ["self", "value"]) fun _ _ _ _ _ _ us hl => match us, hl with | [_, _], _ => rfl
  have FMm1 := fun_mk (st := s_gg_modes) lmm1 cmm1 kmm1
  have bMm1 := FMm1.binds (ps := ["self"]) fun _ _ _ _ _ _ us hl => match us, hl with | [_], _ => rfl
  have FMm2 := fun_mk (st := s_gg_starts) lmm2 cmm2 kmm2
  have bMm2 := FMm2.binds (ps := ["self"]) fun _ _ _ _ _ _ us hl => match us, hl with | [_], _ => rfl
  have FMm3 := fun_mk (st := s_gg_begin) lmm3 cmm3 kmm3
  have bMm3 := FMm3.binds (ps := ["self"]) fun _ _ _ _ _ _ us hl => match us, hl with | [_], _ => rfl
  have FMm4 := fun_mk (st := s_gg_procedures) lmm4 cmm4 kmm4
  have bMm4 := FMm4.binds (ps := ["self"]) fun _ _ _ _ _ _ us hl => match us, hl with | [_], _ => rfl
  have FMm5 := fun_mk (st := s_gg_names) lmm5 cmm5 kmm5
  have bMm5 := FMm5.binds (ps := ["self"]) fun _ _ _ _ _ _ us hl => match us, hl with | [_], _ => rfl
  have FMm6 := fun_mk (st := s_gposts) lmm6 cmm6 kmm6
  have bMm6 := FMm6.binds (ps := ["self"]) fun _ _ _ _ _ _ us hl => match us, hl with | [_], _ => rfl
  have FMm7 := fun_mk (st := s_gcalls) lmm7 cmm7 kmm7
  have bMm7 := FMm7.binds (ps := ["self"]) fun _ _ _ _ _ _ us hl => match us, hl with | [_], _ => rfl
  have G_g1 : FnOk l.prog w K mg base CX0 1 g1 _ ["self"] (getSp C "_called") := fn_getter lm1 cm1 sc_gcalled rfl rfl c.cls c.n1
  have G_g2 : FnOk l.prog w K mg base CX0 1 g2 _ ["self"] (getSp C "_points") := fn_getter lm2 cm2 sc_gpoints rfl rfl c.cls c.n2
  have G_g3 : FnOk l.prog w K mg base CX0 1 g3 _ ["self"] (getSp C "_moves") := fn_getter lm3 cm3 sc_gmoves rfl rfl c.cls c.n3
  have G_m1 : FnOk l.prog w K mg base CX0 1 gg1 _ ["self"] (getSp Cg "_modes") := fn_getter lmm1 cmm1 sc_gg_modes rfl rfl cg.cls cg.n1
  have G_m2 : FnOk l.prog w K mg base CX0 1 gg2 _ ["self"] (getSp Cg "_starts") := fn_getter lmm2 cmm2 sc_gg_starts rfl rfl cg.cls cg.n2
  have G_m3 : FnOk l.prog w K mg base CX0 1 gg3 _ ["self"] (getSp Cg "_begin") := fn_getter lmm3 cmm3 sc_gg_begin rfl rfl cg.cls cg.n3
  have G_m4 : FnOk l.prog w K mg base CX0 1 gg4 _ ["self"] (getSp Cg "_procedures") := fn_getter lmm4 cmm4 sc_gg_procedures rfl rfl cg.cls cg.n4
  have G_m5 : FnOk l.prog w K mg base CX0 1 gg5 _ ["self"] (getSp Cg "_names") := fn_getter lmm5 cmm5 sc_gg_names rfl rfl cg.cls cg.n5
  have G__law_numbers : FnOk l.prog w K mg base CX0 1 _ _ ["script", "at"] (spNumbers K) := ok_numbers F__law_numbers m_len m_int m_abs m_max
  have G__law_cast : FnOk l.prog w K mg base CX0 1 _ _ ["die", "total"] spCast := ok_cast F__law_cast m_int
  have G__law_pick : FnOk l.prog w K mg base CX0 2 _ _ ["die", "items"] (spPick K) := ok_pick F__law_pick F__law_cast b__law_cast g__law_cast m_len m_int
  have G_is_name : FnOk l.prog w K mg base CX0 1 _ _ ["value"] spName := ok_is_name F_is_name m_isinstance m_str m_len m_all g_LONGEST_NAME
  have G_is_integer : FnOk l.prog w K mg base CX0 1 _ _ ["value"] (spOn Dt.isN) := ok_is_integer F_is_integer m_isinstance m_int m_bool
  have G_is_index : FnOk l.prog w K mg base CX0 2 _ _ ["value", "many"] (spOn1 Dt.isNum) := ok_is_index F_is_index G_is_integer F_is_integer b_is_integer g_is_integer
  have G_ascends : FnOk l.prog w K mg base CX0 1 _ _ ["items"] spAsc := ok_ascends F_ascends m_all m_range m_len
  have G_is_mode_set : FnOk l.prog w K mg base CX0 3 _ _ ["value", "modes"] (spOn1 Dt.isSet) := ok_is_mode_set F_is_mode_set G_is_index F_is_index b_is_index g_is_index G_ascends F_ascends b_ascends g_ascends m_isinstance m_tuple m_all
  have G_is_pair : FnOk l.prog w K mg base CX0 3 _ _ ["value", "modes"] (spOn1 Dt.isPair) := ok_is_pair F_is_pair G_is_index F_is_index b_is_index g_is_index m_isinstance m_tuple m_len
  have G_is_pair_set : FnOk l.prog w K mg base CX0 4 _ _ ["value", "modes"] (spOn1 Dt.isPairs) := ok_is_pair_set F_is_pair_set G_is_pair F_is_pair b_is_pair g_is_pair G_ascends F_ascends b_ascends g_ascends m_isinstance m_tuple m_all
  have G_names_task : FnOk l.prog w K mg base CX0 1 _ _ ["move"] spTask := ok_names_task F_names_task
  have G_is_number : FnOk l.prog w K mg base CX0 2 _ _ ["value", "most"] (spOn1 isNr) := ok_is_number F_is_number G_is_integer F_is_integer b_is_integer g_is_integer
  have G_is_move : FnOk l.prog w K mg base CX0 5 _ _ ["value", "points", "modes"] spMove := ok_is_move F_is_move G_is_index F_is_index b_is_index g_is_index G_is_mode_set F_is_mode_set b_is_mode_set g_is_mode_set G_is_pair_set F_is_pair_set b_is_pair_set g_is_pair_set G_names_task F_names_task b_names_task g_names_task G_is_name F_is_name b_is_name g_is_name m_isinstance m_tuple m_len
  have G_are_moves : FnOk l.prog w K mg base CX0 6 _ _ ["values", "points", "modes"] spMoves := ok_are_moves F_are_moves G_is_move F_is_move b_is_move g_is_move g_MOST_MOVES m_len m_all
  have G_has_entries : FnOk l.prog w K mg base CX0 2 _ _ ["value", "low"] spEnt := ok_has_entries F_has_entries G_is_integer F_is_integer b_is_integer g_is_integer g_MOST_PROCEDURES m_isinstance m_tuple m_len m_all
  have G_is_bag : FnOk l.prog w K mg base CX0 3 _ _ ["value"] (spOn (isBagL 0)) := ok_is_bag F_is_bag G_has_entries F_has_entries b_has_entries g_has_entries
  have G_names_of : FnOk l.prog w K mg base CX0 3 _ _ ["procedures"] (spNamesOf C) := ok_names_of F_names_of c G_g1 bM1 G_g2 bM2 G_g3 bM3 m_tuple
  have G_are_procedures : FnOk l.prog w K mg base CX0 4 _ _ ["values"] (spProcs C) := ok_are_procedures F_are_procedures c G_names_of F_names_of b_names_of g_names_of m_isinstance m_all m_len m_set
  have G_are_joined : FnOk l.prog w K mg base CX0 7 _ _ ["procedures", "modes"] (spJoined C) := ok_are_joined F_are_joined c G_names_of F_names_of b_names_of g_names_of G_are_moves F_are_moves b_are_moves g_are_moves G_names_task F_names_task b_names_task g_names_task G_g1 bM1 G_g2 bM2 G_g3 bM3 m_all
  have G_sites_of : FnOk l.prog w K mg base CX0 3 _ _ ["procedures", "kind"] (spSites C) := ok_sites_of F_sites_of c G_g1 bM1 G_g2 bM2 G_g3 bM3 m_tuple m_enumerate
  have FI : FnR l.prog w K mg base (L2.CX l.prog w) 7 fI (spI C Ce) := ok_init lmI cmI T c G_is_name F_is_name b_is_name g_is_name G_is_number F_is_number b_is_number g_is_number G_are_moves F_are_moves b_are_moves g_are_moves g_MOST_POINTS g_MOST_MODES
  have FO : FnR l.prog w K mg base (L2.CX l.prog w) 9 fO (spOf C Ce) := raw0 (ok_of FMO FI T c m_isinstance m_tuple) bMO
  have FEo : FnOk l.prog w K mg base CX0 1 fE _ ["self", "other"] (spEqP K C) := ok_peq FME c m_isinstance
  have FLp : FnR l.prog w K mg base CX0 1 fL (spLenP C) := raw0 (ok_plen FML c m_len) bML
  have FIg : FnR l.prog w K mg base (L2.CX l.prog w) 8 fIg (spIG C Cg Ce) := ok_ginit (fd := PySem.W.fnOf "is_name" "is_name" (defArgs s_is_name) (defBody s_is_name) (defScope s_is_name) .none kV0 dc0 pm0 an0 cd0 ct0) lmIg cmIg T cg G_is_number F_is_number b_is_number g_is_number G_is_mode_set F_is_mode_set b_is_mode_set g_is_mode_set G_is_bag F_is_bag b_is_bag g_is_bag G_are_procedures F_are_procedures b_are_procedures g_are_procedures G_are_joined F_are_joined b_are_joined g_are_joined G_names_of F_names_of b_names_of g_names_of g_MOST_MODES m_len
  have FOg : FnR l.prog w K mg base (L2.CX l.prog w) 10 fOg (spOfG C Cg Ce) := raw0 (ok_gof FMOg FIg T cg m_isinstance m_tuple) bMOg
  have FC : FnR l.prog w K mg base CX0 1 fCg (spCont C Cg) := raw0 (ok_gcont FMCg cg) bMCg
  have FLg : FnR l.prog w K mg base CX0 1 fLg (spLenG C Cg) := raw0 (ok_glen FMLg cg m_len) bMLg
  have FSg : FnR l.prog w K mg base CX0 1 fSg (spStrG C Cg) := raw0 (ok_gstr FMSg cg m_len) bMSg
  have FGt : FnR l.prog w K mg base (L2.CX l.prog w) 3 fGg (spGet C Cg Cn) := raw0 (ok_gget FMGg cg FC XN FIn bIn) bMGg
  have G_has : FnOk l.prog w K mg base (L2.CX l.prog w) 5 fHg _ ["self", "value"] (spHas C Cg) := ok_ghas FMHg c cg G_is_index F_is_index b_is_index g_is_index FC FGt FLp m_isinstance m_tuple m_len
  have G_mv : FnOk l.prog w K mg base (L2.CX l.prog w) 6 fMg _ ["self", "site"] (spMoveG C Cg Cs) := ok_gmove FMMg c cg G_g1 bM1 G_g2 bM2 G_g3 bM3 G_has bMHg FGt XS FIs bIs
  have FEGB : FnR l.prog w K mg base CX0 4 fEg (spEqGB K C Cg) := raw0 (ok_geqB FMEg c cg FEo bME m_isinstance) bMEg
  have G_m6 : FnOk l.prog w K mg base CX0 4 gg6 _ ["self"] (spPosts C Cg "post") := ok_gposts FMm6 cg G_sites_of F_sites_of b_sites_of g_sites_of
  have G_m7 : FnOk l.prog w K mg base CX0 4 gg7 _ ["self"] (spPosts C Cg "call") := ok_gcalls FMm7 cg G_sites_of F_sites_of b_sites_of g_sites_of
  have G__law_subset : FnOk l.prog w K mg base CX0 2 _ _ ["die", "total"] spSubset := ok_subset F__law_subset G__law_cast F__law_cast b__law_cast g__law_cast m_tuple m_range
  have G__law_shuffle : FnOk l.prog w K mg base CX0 2 _ _ ["die", "items"] spShuffle := ok_shuffle F__law_shuffle G__law_cast F__law_cast b__law_cast g__law_cast m_list m_range m_len
  have G__law_a_move : FnOk l.prog w K mg base CX0 3 _ _ ["die", "total", "points", "names"] spAMove := ok_a_move F__law_a_move G__law_cast F__law_cast b__law_cast g__law_cast G__law_pick F__law_pick b__law_pick g__law_pick G__law_subset F__law_subset b__law_subset g__law_subset m_set m_sorted m_tuple m_range
  have G__law_any_plain : FnOk l.prog w K mg base CX0 4 _ _ ["die"] spAnyPlain := ok_any_plain F__law_any_plain G__law_cast F__law_cast b__law_cast g__law_cast G__law_pick F__law_pick b__law_pick g__law_pick G__law_subset F__law_subset b__law_subset g__law_subset G__law_shuffle F__law_shuffle b__law_shuffle g__law_shuffle G__law_a_move F__law_a_move b__law_a_move g__law_a_move m_tuple m_range
  have G__law_made_of : FnOk l.prog w K mg base CX0 11 _ _ ["plain"] (spMade C Cg) := ok_law_made_of F__law_made_of c cg FO FOg m_tuple
  have G_as_go : FnOk l.prog w K mg base CX0 1 _ _ ["post"] spAsGo := ok_as_go F_as_go m_tuple
  have G_hushed_procedure : FnOk l.prog w K mg base CX0 11 _ _ ["procedure", "sites"] (spHush C) := ok_hushed F_hushed_procedure c FO G_g1 bM1 G_g2 bM2 G_g3 bM3 G_as_go F_as_go b_as_go g_as_go m_tuple m_enumerate
  have G__law_bared_of : FnOk l.prog w K mg base CX0 1 _ _ ["plain", "sites"] spBared := ok_law_bared_of F__law_bared_of m_tuple m_range m_len
  have G_shufV : FnOk l.prog w K mg base CX0 2 _ _ ["die", "items"] spShuffleV := ok_shuffleV F__law_shuffle G__law_cast F__law_cast b__law_cast g__law_cast m_list m_range m_len
  have mck : Meth K Cg "check_posts" fKg := ⟨gm4a, gm4b, gm4c⟩
  have mrm : Meth K Cg "_remade" fRg := ⟨gm5a, gm5b, gm5c⟩
  have mwo : Meth K Cg "without_posts" fW := ⟨gm3a, gm3b, gm3c⟩
  have G_ck : FnOk l.prog w K mg base (L2.CX l.prog w) 8 fKg _ ["self", "sites"] (spCheck K C Cg Cs) := ok_gcheck FMKg cg G_mv bMMg XS FIs bIs m_isinstance m_tuple
  have G_rm : FnOk l.prog w K mg base CX0 13 fRg _ ["self", "starts", "begin", "procedures"] (spRemade C Cg) := ok_gremade FMRg cg T FOg
  have G_wo : FnOk l.prog w K mg base (L2.CX l.prog w) 15 fW _ ["self", "sites"] (spWithout K C Cg Cs) := ok_gwo FMWg c cg G_hushed_procedure F_hushed_procedure b_hushed_procedure g_hushed_procedure mck mrm G_ck bMKg G_rm bMRg m_tuple
  have G__law_right := ok_right (P := l.prog) (w := w) (base := base) l29 c29 TB_cR hm_cR hu_cR g__law_met k26 l26 c26 b__law_met MS c cg G_m6 bMm6 G_m7 bMm7 mwo G_wo bMWg FEGB G__law_any_plain F__law_any_plain b__law_any_plain g__law_any_plain G__law_made_of F__law_made_of b__law_made_of g__law_made_of G__law_bared_of F__law_bared_of b__law_bared_of g__law_bared_of G_shufV F__law_shuffle b__law_shuffle g__law_shuffle G__law_pick F__law_pick b__law_pick g__law_pick G__law_cast F__law_cast b__law_cast g__law_cast m_len m_repr m_range m_tuple m_list m_int gk9
  exact ok_law (P := l.prog) (w := w) (base := base) l30 c30 c cg FO FIg G_g3 bM3 G_m3 bMm3 G_m6 bMm6 G_m7 bMm7 FGt FLp mwo G_wo bMWg G__law_numbers F__law_numbers b__law_numbers g__law_numbers G__law_right F__law_right b__law_right g__law_right m_len m_max m_min m_range
end My

open PySem PySem.W PyProof.Rows
set_option maxHeartbeats 0 in
theorem PySem.Challenge.cw_postedbag_k12_posts_left_out_holds : PySem.Challenge.rw_postedbag_k12_posts_left_out.Holds := by
  w_on; o_law; k_head; (case hw => w_witness2)
  k_fill
  refine Cl.walk_tabsG (l := PySem.Challenge.rw_postedbag_k12_posts_left_out) (n := 63) (k := 21) (x := "script") ["_law_right"] (by decide +kernel) rfl (by decide) rfl ⟨rfl, by decide, by decide⟩ (fun w h Y => PySem.W.km_in_of Y) ?F
  case F =>
    intro w mg fa h KX G hmg tabs
    refine' My.all_mk KX G hmg tabs ?a0 ?l0 ?c0 ?k0 ?a1 ?l1 ?c1 ?k1 ?a2 ?l2 ?c2 ?k2 ?a3 ?l3 ?c3 ?k3 ?a4 ?l4 ?c4 ?k4 ?a5 ?l5 ?c5 ?k5 ?a6 ?l6 ?c6 ?k6 ?a7 ?l7 ?c7 ?k7 ?a8 ?l8 ?c8 ?k8 ?a9 ?l9 ?c9 ?k9 ?a10 ?l10 ?c10 ?k10 ?a11 ?l11 ?c11 ?k11 ?a12 ?l12 ?c12 ?k12 ?a13 ?l13 ?c13 ?k13 ?a14 ?l14 ?c14 ?k14 ?a15 ?l15 ?c15 ?k15 ?a16 ?l16 ?c16 ?k16 ?a17 ?l17 ?c17 ?k17 ?a18 ?l18 ?c18 ?k18 ?a19 ?l19 ?c19 ?k19 ?a20 ?l20 ?c20 ?k20 ?a21 ?l21 ?c21 ?k21 ?a22 ?l22 ?c22 ?k22 ?a23 ?l23 ?c23 ?k23 ?a24 ?l24 ?c24 ?k24 ?a25 ?l25 ?c25 ?k25 ?a26 ?l26 ?c26 ?k26 ?a27 ?l27 ?c27 ?k27 ?a28 ?l28 ?c28 ?k28 ?a29 ?l29 ?c29 ?k29 ?a30 ?l30 ?c30 ?k30 ?lc_cR ?hv_cR ?nl_cR ?z_isinstance ?z_int ?z_bool ?z_str ?z_tuple ?z_list ?z_len ?z_all ?z_range ?z_abs ?z_max ?z_min ?z_set ?z_sorted ?z_repr ?z_enumerate ?y_LONGEST_NAME ?y_MOST_MODES ?y_MOST_POINTS ?y_MOST_MOVES ?y_MOST_PROCEDURES ?qe0 ?qe1 ?qe2 ?qe3 ?qe4 ?qe5 ?r0 ?r1 ?r3 ?r4 ?r7 ?r5 ?r6 ?un0 ?unr0 ?unr1 ?unr3 ?unr4 ?unr7 ?unb ?unt ?uni ?unj ?unn ?une ?uno ?uns ?unk ?unl ?unc ?unf ?us0 ?usr0 ?usr1 ?usr3 ?usr4 ?usr7 ?usb ?ust ?usi ?usj ?usn ?use ?uso ?uss ?usk ?usl ?usc ?usf ?xs1 ?p0 ?p1a ?p1b ?p1c ?p1d ?p2a ?p2b ?p2c ?p2d ?p3a ?p3b ?p4a ?p4b ?p4c ?n1 ?q1a ?q1b ?q1c ?q1d ?n2 ?q2a ?q2b ?q2c ?q2d ?n3 ?q3a ?q3b ?q3c ?q3d ?e1 ?e2 ?e3 ?e4 ?e5 ?e6 ?e7 ?cc1 ?cc4 ?kk1 ?kk2 ?kk3 ?kk4 ?ss1 ?ss2 ?ss3 ?P0 ?P1a ?P1b ?P1c ?P1d ?P2a ?P2b ?P2c ?P2d ?P3a ?P3b ?P4a ?P4b ?P4c ?gn1 ?gn2 ?gn3 ?gn4 ?gn5 ?gn6 ?gn7 ?gq1a ?gq1b ?gq1c ?gq1d ?gq2a ?gq2b ?gq2c ?gq2d ?gq3a ?gq3b ?gq3c ?gq3d ?gq4a ?gq4b ?gq4c ?gq4d ?gq5a ?gq5b ?gq5c ?gq5d ?gq6a ?gq6b ?gq6c ?gq6d ?gq7a ?gq7b ?gq7c ?gq7d ?ge1a ?ge1b ?ge3 ?ge4a ?ge4b ?ge6a ?ge6b ?ge8a ?ge8b ?ge8c ?ge9a ?ge9b ?gm1a ?gm1b ?gm1c ?gm2a ?gm2b ?gm2c ?gc1 ?gc4 ?gk1 ?gkP ?gsP ?gkt0 ?gks0 ?gkt1 ?gks1 ?gkt2 ?gks2 ?gkt3 ?gks3 ?gkt4 ?gks4 ?gkt5 ?gks5 ?gkt6 ?gks6 ?gm3a ?gm3b ?gm3c ?gm4a ?gm4b ?gm4c ?gm5a ?gm5b ?gm5c ?gk9 ?lmI ?cmI ?kmI ?lmO ?cmO ?kmO ?lm1 ?cm1 ?km1 ?lm2 ?cm2 ?km2 ?lm3 ?cm3 ?km3 ?lmE ?cmE ?kmE ?lmL ?cmL ?kmL ?lmS ?cmS ?kmS ?lmWg ?cmWg ?kmWg ?lmKg ?cmKg ?kmKg ?lmRg ?cmRg ?kmRg ?lmIg ?cmIg ?kmIg ?lmOg ?cmOg ?kmOg ?lmEg ?cmEg ?kmEg ?lmLg ?cmLg ?kmLg ?lmSg ?cmSg ?kmSg ?lmGg ?cmGg ?kmGg ?lmCg ?cmCg ?kmCg ?lmMg ?cmMg ?kmMg ?lmHg ?cmHg ?kmHg ?lmm1 ?cmm1 ?kmm1 ?lmm2 ?cmm2 ?kmm2 ?lmm3 ?cmm3 ?kmm3 ?lmm4 ?cmm4 ?kmm4 ?lmm5 ?cmm5 ?kmm5 ?lmm6 ?cmm6 ?kmm6 ?lmm7 ?cmm7 ?kmm7
    (case a0 => k_is); (case l0 => k_is); (case c0 => k_is); (case k0 => k_is); (case a1 => k_is); (case l1 => k_is); (case c1 => k_is); (case k1 => k_is); (case a2 => k_is); (case l2 => k_is); (case c2 => k_is); (case k2 => k_is); (case a3 => k_is); (case l3 => k_is); (case c3 => k_is); (case k3 => k_is); (case a4 => k_is); (case l4 => k_is); (case c4 => k_is); (case k4 => k_is); (case a5 => k_is); (case l5 => k_is); (case c5 => k_is); (case k5 => k_is); (case a6 => k_is); (case l6 => k_is); (case c6 => k_is); (case k6 => k_is); (case a7 => k_is); (case l7 => k_is); (case c7 => k_is); (case k7 => k_is); (case a8 => k_is); (case l8 => k_is); (case c8 => k_is); (case k8 => k_is); (case a9 => k_is); (case l9 => k_is); (case c9 => k_is); (case k9 => k_is); (case a10 => k_is); (case l10 => k_is); (case c10 => k_is); (case k10 => k_is); (case a11 => k_is); (case l11 => k_is); (case c11 => k_is); (case k11 => k_is); (case a12 => k_is); (case l12 => k_is); (case c12 => k_is); (case k12 => k_is); (case a13 => k_is); (case l13 => k_is); (case c13 => k_is); (case k13 => k_is); (case a14 => k_is); (case l14 => k_is); (case c14 => k_is); (case k14 => k_is); (case a15 => k_is); (case l15 => k_is); (case c15 => k_is); (case k15 => k_is); (case a16 => k_is); (case l16 => k_is); (case c16 => k_is); (case k16 => k_is); (case a17 => k_is); (case l17 => k_is); (case c17 => k_is); (case k17 => k_is); (case a18 => k_is); (case l18 => k_is); (case c18 => k_is); (case k18 => k_is); (case a19 => k_is); (case l19 => k_is); (case c19 => k_is); (case k19 => k_is); (case a20 => k_is); (case l20 => k_is); (case c20 => k_is); (case k20 => k_is); (case a21 => k_is); (case l21 => k_is); (case c21 => k_is); (case k21 => k_is); (case a22 => k_is); (case l22 => k_is); (case c22 => k_is); (case k22 => k_is); (case a23 => k_is); (case l23 => k_is); (case c23 => k_is); (case k23 => k_is); (case a24 => k_is); (case l24 => k_is); (case c24 => k_is); (case k24 => k_is); (case a25 => k_is); (case l25 => k_is); (case c25 => k_is); (case k25 => k_is); (case a26 => k_is); (case l26 => k_is); (case c26 => k_is); (case k26 => k_is); (case a27 => k_is); (case l27 => k_is); (case c27 => k_is); (case k27 => k_is); (case a28 => k_is); (case l28 => k_is); (case c28 => k_is); (case k28 => k_is); (case a29 => k_is); (case l29 => k_is); (case c29 => k_is); (case k29 => k_is); (case a30 => k_is); (case l30 => k_is); (case c30 => k_is); (case k30 => k_is)
    (case lc_cR => k_is); (case hv_cR => rfl); (case nl_cR => kernel_rfl)
    (case z_isinstance => k_is); (case z_int => k_is); (case z_bool => k_is); (case z_str => k_is); (case z_tuple => k_is); (case z_list => k_is); (case z_len => k_is); (case z_all => k_is); (case z_range => k_is); (case z_abs => k_is); (case z_max => k_is); (case z_min => k_is); (case z_set => k_is); (case z_sorted => k_is); (case z_repr => k_is); (case z_enumerate => k_is); (case y_LONGEST_NAME => k_is); (case y_MOST_MODES => k_is); (case y_MOST_POINTS => k_is); (case y_MOST_MOVES => k_is); (case y_MOST_PROCEDURES => k_is)
    (case qe0 => k_is); (case qe1 => k_exc); (case qe2 => k_is); (case qe3 => k_is); (case qe4 => k_is); (case qe5 => k_is); (case r0 => k_is); (case r1 => k_is); (case r3 => k_is); (case r4 => k_is); (case r7 => k_is); (case r5 => k_is); (case r6 => k_is); (case un0 => k_is); (case unr0 => k_is); (case unr1 => k_is); (case unr3 => k_is); (case unr4 => k_is); (case unr7 => k_is); (case unb => k_is); (case unt => k_is); (case uni => k_is); (case unj => k_is); (case unn => k_is); (case une => kernel_rfl); (case uno => kernel_rfl); (case uns => k_is); (case unk => k_is); (case unl => k_is); (case unc => k_is); (case unf => k_is); (case us0 => k_is); (case usr0 => k_is); (case usr1 => k_is); (case usr3 => k_is); (case usr4 => k_is); (case usr7 => k_is); (case usb => k_is); (case ust => k_is); (case usi => k_is); (case usj => k_is); (case usn => k_is); (case use => kernel_rfl); (case uso => kernel_rfl); (case uss => k_is); (case usk => k_is); (case usl => k_is); (case usc => k_is); (case usf => k_is); (case xs1 => kernel_rfl); (case p0 => k_is); (case p1a => k_is); (case p1b => k_is); (case p1c => k_is); (case p1d => k_is); (case p2a => k_is); (case p2b => k_is); (case p2c => k_is); (case p2d => k_is); (case p3a => k_is); (case p3b => k_is); (case p4a => k_is); (case p4b => k_is); (case p4c => k_is); (case n1 => k_is); (case q1a => k_is); (case q1b => k_is); (case q1c => k_is); (case q1d => k_is); (case n2 => k_is); (case q2a => k_is); (case q2b => k_is); (case q2c => k_is); (case q2d => k_is); (case n3 => k_is); (case q3a => k_is); (case q3b => k_is); (case q3c => k_is); (case q3d => k_is); (case e1 => k_is); (case e2 => k_is); (case e3 => k_is); (case e4 => k_is); (case e5 => k_is); (case e6 => k_is); (case e7 => k_is); (case cc1 => k_is); (case cc4 => k_is); (case kk1 => kernel_rfl); (case kk2 => kernel_rfl); (case kk3 => kernel_rfl); (case kk4 => kernel_rfl); (case ss1 => k_is); (case ss2 => k_is); (case ss3 => k_is); (case P0 => k_is); (case P1a => k_is); (case P1b => k_is); (case P1c => k_is); (case P1d => k_is); (case P2a => k_is); (case P2b => k_is); (case P2c => k_is); (case P2d => k_is); (case P3a => k_is); (case P3b => k_is); (case P4a => k_is); (case P4b => k_is); (case P4c => k_is); (case gn1 => k_is); (case gn2 => k_is); (case gn3 => k_is); (case gn4 => k_is); (case gn5 => k_is); (case gn6 => k_is); (case gn7 => k_is); (case gq1a => k_is); (case gq1b => k_is); (case gq1c => k_is); (case gq1d => k_is); (case gq2a => k_is); (case gq2b => k_is); (case gq2c => k_is); (case gq2d => k_is); (case gq3a => k_is); (case gq3b => k_is); (case gq3c => k_is); (case gq3d => k_is); (case gq4a => k_is); (case gq4b => k_is); (case gq4c => k_is); (case gq4d => k_is); (case gq5a => k_is); (case gq5b => k_is); (case gq5c => k_is); (case gq5d => k_is); (case gq6a => k_is); (case gq6b => k_is); (case gq6c => k_is); (case gq6d => k_is); (case gq7a => k_is); (case gq7b => k_is); (case gq7c => k_is); (case gq7d => k_is); (case ge1a => k_is); (case ge1b => k_is); (case ge3 => k_is); (case ge4a => k_is); (case ge4b => k_is); (case ge6a => k_is); (case ge6b => k_is); (case ge8a => k_is); (case ge8b => k_is); (case ge8c => k_is); (case ge9a => k_is); (case ge9b => k_is); (case gm1a => k_is); (case gm1b => k_is); (case gm1c => k_is); (case gm2a => k_is); (case gm2b => k_is); (case gm2c => k_is); (case gc1 => k_is); (case gc4 => k_is); (case gk1 => kernel_rfl); (case gkP => kernel_rfl); (case gsP => k_is); (case gkt0 => kernel_rfl); (case gks0 => k_is); (case gkt1 => kernel_rfl); (case gks1 => k_is); (case gkt2 => kernel_rfl); (case gks2 => k_is); (case gkt3 => kernel_rfl); (case gks3 => k_is); (case gkt4 => kernel_rfl); (case gks4 => k_is); (case gkt5 => kernel_rfl); (case gks5 => k_is); (case gkt6 => kernel_rfl); (case gks6 => k_is); (case gm3a => k_is); (case gm3b => k_is); (case gm3c => k_is); (case gm4a => k_is); (case gm4b => k_is); (case gm4c => k_is); (case gm5a => k_is); (case gm5b => k_is); (case gm5c => k_is); (case gk9 => kernel_rfl); (case lmI => k_is); (case cmI => k_is); (case kmI => k_is); (case lmO => k_is); (case cmO => k_is); (case kmO => k_is); (case lm1 => k_is); (case cm1 => k_is); (case km1 => k_is); (case lm2 => k_is); (case cm2 => k_is); (case km2 => k_is); (case lm3 => k_is); (case cm3 => k_is); (case km3 => k_is); (case lmE => k_is); (case cmE => k_is); (case kmE => k_is); (case lmL => k_is); (case cmL => k_is); (case kmL => k_is); (case lmS => k_is); (case cmS => k_is); (case kmS => k_is); (case lmWg => k_is); (case cmWg => k_is); (case kmWg => k_is); (case lmKg => k_is); (case cmKg => k_is); (case kmKg => k_is); (case lmRg => k_is); (case cmRg => k_is); (case kmRg => k_is); (case lmIg => k_is); (case cmIg => k_is); (case kmIg => k_is); (case lmOg => k_is); (case cmOg => k_is); (case kmOg => k_is); (case lmEg => k_is); (case cmEg => k_is); (case kmEg => k_is); (case lmLg => k_is); (case cmLg => k_is); (case kmLg => k_is); (case lmSg => k_is); (case cmSg => k_is); (case kmSg => k_is); (case lmGg => k_is); (case cmGg => k_is); (case kmGg => k_is); (case lmCg => k_is); (case cmCg => k_is); (case kmCg => k_is); (case lmMg => k_is); (case cmMg => k_is); (case kmMg => k_is); (case lmHg => k_is); (case cmHg => k_is); (case kmHg => k_is); (case lmm1 => k_is); (case cmm1 => k_is); (case kmm1 => k_is); (case lmm2 => k_is); (case cmm2 => k_is); (case kmm2 => k_is); (case lmm3 => k_is); (case cmm3 => k_is); (case kmm3 => k_is); (case lmm4 => k_is); (case cmm4 => k_is); (case kmm4 => k_is); (case lmm5 => k_is); (case cmm5 => k_is); (case kmm5 => k_is); (case lmm6 => k_is); (case cmm6 => k_is); (case kmm6 => k_is); (case lmm7 => k_is); (case cmm7 => k_is); (case kmm7 => k_is)
