import PyProof.Rows.All
import Wide.All
import OpenK.AllK
import Wide.FinOn
import HandS.Base
import HandS.Call
import HandS.List
import HandS.Comp
import HandS.Ends
import HandS.Dict
import HandS.Iter
import HandS.Text
import HandS.Words
import HandS.Codes
import HandS.IsInst
import HandS.Walk
import HandS.Wide
import KE.KxText
import PySem.Challenge.RW_postedbag_k01_names
set_option Elab.async false
set_option linter.all false
set_option maxRecDepth 100000
/-! the law's own draws, over any row -/
namespace Sh
open PySem PySem.Spec PyProof.Rows L2

/-! ### rules -/
section
variable {X : Cx}
/-- ** of two numbers, the first one below 2 ^ 64 or both named by a bound -/
def CPowB (i j : Int) : Prop := 0 ≤ j ∧ (Builtin.Int.intBits i : Int) * j ≤ 2 ^ 27
theorem op_powB : OpR X (binaryOp .Pow) (rI CPowB fun i j => .int (i ^ j.toNat)) := opI fun _ _ _ _ _ _ _ hc q => pow_int hc.1 hc.2 q
theorem call_repr_bl : CallR X (.builtin "repr") (fun xs H Q => ∃ b : Bool, xs = [.bl b] ∧ Q (.str (if b then "True" else "False")) H) := by
  intro pins s σ H xs us Q I r h
  obtain ⟨b, rfl, q⟩ := h
  obtain ⟨u, rfl, rfl⟩ := vals1 r
  exact PySem.P.repr_of_bool ⟨.str _, H, I.tok _, ⟨_, rfl⟩, q⟩
/-- a list == [] -/
def rEqNil (K : PySem.W.Frag) : V → V → Hp → VK → Prop := fun x y H Q => ∃ a b xs, x = .ref a ∧ y = .ref b ∧ SqL K H a xs ∧ SqL K H b [] ∧ Q (.bl xs.isEmpty) H
theorem op_eqNil (hu : X.A.units + 64 < cLine) : OpR X (compareOp .Eq) (rEqNil X.K) := by
  intro pins s σ H x y v u Q I rx ry h
  obtain ⟨a, b, xs, rfl, rfl, h1, h2, q⟩ := h
  cases xs with
  | nil => exact op_eqD hu pins s σ H _ _ v u Q I rx ry ⟨.list [], .list [], .lst h1 .nil, .lst h2 .nil, by decide, by decide, q⟩
  | cons z zs =>
    cases (show v = Value.ref a from rx)
    cases (show u = Value.ref b from ry)
    obtain ⟨us, r1, l1, _⟩ := I.list h1
    obtain ⟨ws, r2, l2, _⟩ := I.list h2
    cases r1
    cases r2
    obtain ⟨o1, n1, e1, c1, d1, k1⟩ := l1
    obtain ⟨o2, n2, e2, c2, d2, k2⟩ := l2
    exact SeqAt.eq_list_lengthsAt ⟨o1, e1, c1, n1, k1⟩ ⟨o2, e2, c2, n2, k2⟩ rfl (by omega) ⟨.bl false, H, I, rfl, q⟩
end

/-! ### the die -/
def DieAt (H : Hp) (d : Addr) : Prop := ∃ a b c : Int, H d = some (.lst [.int a, .int b, .int c])
def NewDie (H : Hp) (d : Addr) (H' : Hp) : Prop := ∃ a b c : Int, H' = upd H d (.lst [.int a, .int b, .int c])
theorem NewDie.die {H H' : Hp} {d : Addr} (h : NewDie H d H') : DieAt H' d := by
  obtain ⟨a, b, c, rfl⟩ := h
  exact ⟨a, b, c, upd_same⟩
theorem NewDie.ne {H H' : Hp} {d p : Addr} (h : NewDie H d H') (hp : p ≠ d) : H' p = H p := by
  obtain ⟨a, b, c, rfl⟩ := h
  exact upd_ne hp
/-- all but the die as it was -/
def But (d : Addr) (H H' : Hp) : Prop := ∀ b o, b ≠ d → H b = some o → H' b = some o
theorem But.refl (d : Addr) (H : Hp) : But d H H := fun _ _ _ h => h
theorem But.trans {d : Addr} {H H1 H2 : Hp} (a : But d H H1) (b : But d H1 H2) : But d H H2 := fun c o n h => b c o n (a c o n h)
theorem But.same {d : Addr} {H H1 H2 : Hp} (a : But d H H1) (b : Same H1 H2) : But d H H2 := fun c o n h => b c o (a c o n h)
theorem NewDie.but {H H' : Hp} {d : Addr} (h : NewDie H d H') : But d H H' := fun _ _ n e => by
  rw [h.ne n]
  exact e
theorem But.new {d : Addr} {H H1 : Hp} {p : Addr} {o : HO} (a : But d H H1) (h : H1 p = none) : But d H (upd H1 p o) := fun c u n e => by
  rw [upd_ne (ne_of_none (a c u n e) h)]
  exact a c u n e
theorem But.seq {K : PySem.W.Frag} {d : Addr} {H H' : Hp} {a : Addr} {xs : List V} (e : But d H H') (n : a ≠ d) (h : SqL K H a xs) : SqL K H' a xs := by
  rcases h with (h | ⟨o, h⟩) | h
  · exact .inl (.inl (e _ _ n h))
  · exact .inl (.inr ⟨o, e _ _ n h⟩)
  · exact .inr h
theorem But.seqT {K : PySem.W.Frag} {d : Addr} {H H' : Hp} {a : Addr} {xs : List V} (e : But d H H') (n : a ≠ d) (h : SqT K H a xs) : SqT K H' a xs := by
  rcases h with (h | ⟨o, h⟩) | h
  · exact .inl (.inl (e _ _ n h))
  · exact .inl (.inr ⟨o, e _ _ n h⟩)
  · exact .inr h
theorem DieAt.new {H : Hp} {d p : Addr} {o : HO} (h : DieAt H d) (n : H p = none) : DieAt (upd H p o) d := by
  obtain ⟨a, b, c, h⟩ := h
  exact ⟨a, b, c, by rw [upd_ne (ne_of_none h n)]; exact h⟩

theorem upd_keep {H : Hp} {a p : Addr} {o u : HO} (h : H a = some u) (n : H p = none) : upd H p o a = some u := (upd_ne (ne_of_none h n)).trans h
theorem same_new {H H1 : Hp} {p : Addr} {o : HO} (s : Same H H1) (h : H1 p = none) : Same H (upd H1 p o) := fun b u e => upd_keep (s b u e) h
theorem same_put {H H1 : Hp} {p : Addr} {o : HO} (s : Same H H1) (h : H p = none) : Same H (upd H1 p o) := fun b u e => by
  rw [upd_ne (ne_of_none e h)]
  exact s b u e
theorem all_nil {P : V → Prop} : ∀ v ∈ ([] : List V), P v := fun _ h => by cases h
theorem all_cons {P : V → Prop} {a : V} {l : List V} (h : P a) (t : ∀ v ∈ l, P v) : ∀ v ∈ a :: l, P v := fun v hv => by
  rcases List.mem_cons.mp hv with rfl | hv
  · exact h
  · exact t v hv

theorem DieAt.free {H : Hp} {d p : Addr} (h : DieAt H d) (n : H p = none) : p ≠ d := fun e => by
  obtain ⟨a, b, c, h⟩ := h
  rw [e, h] at n
  cases n
theorem But.put {d : Addr} {H H2 : Hp} {D : Addr} {o : HO} (b : But d H H2) (n : H D = none) : But d H (upd H2 D o) := fun c u hc e => by
  rw [upd_ne (ne_of_none e n)]
  exact b c u hc e
theorem DieAt.put {H : Hp} {d p : Addr} {o : HO} (h : DieAt H d) (n : p ≠ d) : DieAt (upd H p o) d := by
  obtain ⟨a, b, c, h⟩ := h
  exact ⟨a, b, c, by rw [upd_ne n.symm]; exact h⟩
theorem DieAt.same {H H' : Hp} {d : Addr} (h : DieAt H d) (s : Same H H') : DieAt H' d := by
  obtain ⟨a, b, c, h⟩ := h
  exact ⟨a, b, c, s _ _ h⟩
theorem But.free {d : Addr} {H H' : Hp} {p : Addr} (b : But d H H') (hp : p ≠ d) (n : H' p = none) : H p = none := by
  cases e : H p with
  | none => rfl
  | some o =>
    rw [b p o hp e] at n
    cases n
/-- a die that was laid since: nothing of before is changed -/
theorem Same.but {d : Addr} {H0 H H' : Hp} (s : Same H0 H) (n : H0 d = none) (b : But d H H') : Same H0 H' := fun p o e => b p o (fun z => by subst z; rw [n] at e; cases e) (s p o e)
theorem sum_ones (ys : List Str) (h : ∀ y ∈ ys, y.length = 1) : (ys.map (·.length)).sum = ys.length := by
  induction ys with
  | nil => rfl
  | cons y r ih =>
    rw [List.map_cons, List.sum_cons, h y List.mem_cons_self, ih fun z hz => h z (List.mem_cons_of_mem _ hz), List.length_cons]
    omega
theorem len_ok {xs : List V} (h : Nat.ble xs.length 1000 = true := by rfl) : xs.length ≤ sizeLine := Nat.le_of_lt (small1000 (Nat.le_of_ble_eq_true h))
/-! ### the odd ones -/
def Flat (v : V) : Prop := v = .non ∨ (∃ i : Int, v = .int i) ∨ (∃ b, v = .bl b) ∨ ∃ z : Str, v = .str z ∧ z.length ≤ 9
def Flat2 (H : Hp) (v : V) : Prop := Flat v ∨ ∃ q ys, v = .ref q ∧ H q = some (.tup ys) ∧ ys.length ≤ 2 ∧ ∀ y ∈ ys, Flat y
def Odd (H : Hp) (v : V) : Prop := Flat v ∨ (∃ p xs, v = .ref p ∧ H p = some (.tup xs) ∧ xs.length ≤ 2 ∧ ∀ x ∈ xs, Flat2 H x) ∨ (∃ p, v = .ref p ∧ H p = some (.lst [.int 0])) ∨ ∃ p, v = .ref p ∧ H p = some (.dK [])
theorem DieAt.ne {H : Hp} {d p : Addr} {o : HO} (h : DieAt H d) (hp : H p = some o) (ho : ∀ a b c : Int, o ≠ .lst [.int a, .int b, .int c]) : p ≠ d := fun e => by
  obtain ⟨a, b, c, h⟩ := h
  subst e
  rw [h] at hp
  exact ho a b c (Option.some.inj hp).symm
theorem Flat2.but {d : Addr} {H H' : Hp} {v : V} (b : But d H H') (hd : DieAt H d) (h : Flat2 H v) : Flat2 H' v := by
  rcases h with h | ⟨q, ys, e, hq, hl, hy⟩
  · exact .inl h
  · exact .inr ⟨q, ys, e, b _ _ (hd.ne hq fun _ _ _ z => by cases z) hq, hl, hy⟩
theorem Odd.but {d : Addr} {H H' : Hp} {v : V} (b : But d H H') (hd : DieAt H d) (h : Odd H v) : Odd H' v := by
  rcases h with h | ⟨q, ys, e, hq, hl, hy⟩ | ⟨q, e, hq⟩ | ⟨q, e, hq⟩
  · exact .inl h
  · exact .inr (.inl ⟨q, ys, e, b _ _ (hd.ne hq fun _ _ _ z => by cases z) hq, hl, fun x hx => (hy x hx).but b hd⟩)
  · exact .inr (.inr (.inl ⟨q, e, b _ _ (hd.ne hq fun _ _ _ z => by cases z) hq⟩))
  · exact .inr (.inr (.inr ⟨q, e, b _ _ (hd.ne hq fun _ _ _ z => by cases z) hq⟩))
theorem flat_non : Flat .non := .inl rfl
theorem flat_int (i : Int) : Flat (.int i) := .inr (.inl ⟨i, rfl⟩)
theorem flat_bl (b : Bool) : Flat (.bl b) := .inr (.inr (.inl ⟨b, rfl⟩))
theorem flat_str {z : Str} (h : z.length ≤ 9) : Flat (.str z) := .inr (.inr (.inr ⟨z, rfl, h⟩))

/-! ### the promises of the three that draw -/
def spNumbers (K : PySem.W.Frag) : Sp := fun vs H Q _ => ∃ (a : Addr) (ns : List Int) (i : Int), vs = [.ref a, .int i] ∧ 0 ≤ i ∧ SqL K H a (ns.map V.int) ∧
  ∀ p x y, H p = none → Q (.ref p) (upd H p (.lst [.int x, .int y, .int 0]))
def spCast : Sp := fun vs H Q _ => ∃ (d : Addr) (n : Int), vs = [.ref d, .int n] ∧ DieAt H d ∧ 0 < n ∧ n < 1073741824 ∧
  ∀ (r : Nat) H', (r : Int) < n → NewDie H d H' → Q (.int r) H'
def spPick (K : PySem.W.Frag) : Sp := fun vs H Q _ => ∃ (d : Addr), DieAt H d ∧
  ((∃ p xs, vs = [.ref d, .ref p] ∧ p ≠ d ∧ (SqL K H p xs ∨ SqT K H p xs) ∧ xs ≠ [] ∧ xs.length < 1073741824 ∧ ∀ (j : Nat) v H', xs[j]? = some v → NewDie H d H' → Q v H')
  ∨ (∃ z : Str, vs = [.ref d, .str z] ∧ 0 < z.length ∧ z.length ≤ 1000 ∧ ∀ (j : Nat) c H', z.cps.toList[j]? = some c → NewDie H d H' → Q (.str ⟨#[c]⟩) H'))
theorem turns_ok {c : Int} {n : Nat} (h : n ≤ 63) (h0 : 0 ≤ c) (h1 : c ≤ 1000) : -(2 ^ 62) ≤ (if (if (n : Int) < c then (n : Int) else c) > 1 then (if (n : Int) < c then (n : Int) else c) else 1) ∧ (if (if (n : Int) < c then (n : Int) else c) > 1 then (if (n : Int) < c then (n : Int) else c) else 1) < 2 ^ 62 := by
  split <;> split <;> omega
/-- the law itself -/
def spLaw (K : PySem.W.Frag) : Sp := fun vs H Q _ => ∃ (a : Addr) (ns : List Int), vs = [.ref a] ∧ SqL K H a (ns.map V.int) ∧ ns.length ≤ 63 ∧ ∀ H', Q (.bl true) H'
/-- one round of the law -/
def spRight : Sp := fun vs H Q _ => ∃ (d : Addr), vs = [.ref d] ∧ DieAt H d ∧ ∀ H', But d H H' → DieAt H' d → Q (.bl true) H'
/-- one of the odd values, at an address that did not hold anything -/
def spOdd : Sp := fun vs H Q _ => ∃ (d : Addr), vs = [.ref d] ∧ DieAt H d ∧ ∀ v H', Odd H' v → But d H H' → DieAt H' d → Q v H'
end Sh

namespace My
open PySem PySem.Spec PyProof.Rows L2 Sh

abbrev topS (i : Nat) : Stmt := PySem.Challenge.pw_postedbag_k01_names.main.body.getD i (.Pass ⟨0, 0, 0, 0⟩)
abbrev s_law_numbers : Stmt := topS 4
abbrev Nlaw_numbers : List Str := ["script", "at", "cell", "whole", "mixed"]
theorem sc_law_numbers : FnScope Nlaw_numbers ["script", "at"] (defScope s_law_numbers) := ⟨rfl, rfl, rfl, by decide +kernel, rfl, by decide +kernel, by decide +kernel⟩
abbrev s_law_cast : Stmt := topS 5
abbrev Nlaw_cast : List Str := ["die", "total", "found", "one", "two"]
theorem sc_law_cast : FnScope Nlaw_cast ["die", "total"] (defScope s_law_cast) := ⟨rfl, rfl, rfl, by decide +kernel, rfl, by decide +kernel, by decide +kernel⟩
abbrev s_law_pick : Stmt := topS 6
abbrev Nlaw_pick : List Str := ["die", "items"]
theorem sc_law_pick : FnScope Nlaw_pick ["die", "items"] (defScope s_law_pick) := ⟨rfl, rfl, rfl, by decide +kernel, rfl, by decide +kernel, by decide +kernel⟩
section
variable {P : Program} {w : World} {K : PySem.W.Frag} {mg : Str → Option Value} {base : Heap}
theorem ok_numbers {f : Addr} {fd : FuncData} {k : Nat} (F : Fun K "_law_numbers" "_law_numbers" s_law_numbers f fd) (m_len : mg "len" = none) (m_int : mg "int" = none) (m_abs : mg "abs" = none) (m_max : mg "max" = none) :
    FnOk P w K mg base CX0 (k + 1) f fd ["script", "at"] (spNumbers K) := by
  refine F.ok sc_law_numbers (fun vs H Q E h => ?_) (fun cdv A outer s H vs Q E hr h => ?_)
  · obtain ⟨a, ns, i, rfl, _⟩ := h
    rfl
  · obtain ⟨a, ns, i, rfl, hi0, hS, q⟩ := h
    obtain ⟨i, rfl⟩ := Int.eq_ofNat_of_zero_le hi0
    refine ⟨_, (C8.pss_cut (ps_set (i := 2) sc_law_numbers.nd rfl (by first | exact Or.inl rfl | exact Or.inr rfl) (pe_ifExp (pt_cmpR op_lt (pv 1) (pe_callB call_len_seq (by rfl) m_len (by decide +kernel) (pa_cons (pv 0) pa_nil)) (nomark _)) (pe_ix ix_list (pv 0) (pv 1) (fun _ _ => rfl)) (pe_op op_add (pe_op op_mul pe_int (pv 1)) pe_int)))
      (pss_cons (ps_set (i := 3) sc_law_numbers.nd rfl (by first | exact Or.inl rfl | exact Or.inr rfl) (pe_op op_mod (pe_callTy call_int1 (by rfl) m_int (by decide +kernel) (pa_cons (pe_callB call_abs (by rfl) m_abs (by decide +kernel) (pa_cons (pv 2) pa_nil)) pa_nil)) (pe_op op_powB (pe_op op_powB pe_int pe_int) pe_int)))
      (pss_cons (ps_set (i := 4) sc_law_numbers.nd rfl (by first | exact Or.inl rfl | exact Or.inr rfl) (pe_op op_add (pe_op op_add (pe_op op_add (pe_op op_mul (pv 3) pe_int) (pe_op op_mul pe_int (pv 1))) (pe_op op_mul pe_int (pe_callTy call_int1 (by rfl) m_int (by decide +kernel) (pa_cons (pe_cmpR op_lt (pv 2) pe_int (nomark _)) pa_nil)))) pe_int))
      (pss_one (ps_ret (pe_lst (pa_cons (pe_callB (call_max2 rfl) (by rfl) m_max (by decide +kernel) (pa_cons pe_int (pa_cons (pe_op op_sub (pv 3) (pe_op op_powB pe_int pe_int)) pa_nil))) (pa_cons (pe_op op_mod (pe_callTy call_int1 (by rfl) m_int (by decide +kernel) (pa_cons (pv 4) pa_nil)) pe_int) (pa_cons pe_int pa_nil))))))))), ?_⟩
    refine ⟨fun σ' H' => ∃ c : Int, σ' = [some (.ref a), some (.int i), some (.int c), none, none] ∧ H' = H, ?_, fun σ' H' hM => ?_⟩
    · refine ⟨.int i, rfl, .ref a, rfl, a, ns.map V.int, rfl, .inl hS, i, _, rfl, rfl, _, rfl, ite2 (fun e => ?_) (fun e => ?_)⟩
      · have hi : i < ns.length := by
          have := of_decide_eq_true e
          rw [List.length_map] at this
          omega
        refine ⟨.ref a, rfl, .int i, rfl, a, _, i, .int ns[i], rfl, rfl, hS, atI_nat (by rw [List.getElem?_map, List.getElem?_eq_getElem hi]; rfl), ?_⟩
        exact ⟨_, rfl, rfl⟩
      · refine ⟨.int i, rfl, 67, i, rfl, rfl, .inl ⟨by decide, by decide⟩, 67 * i, 23, rfl, rfl, ?_⟩
        exact ⟨_, rfl, rfl⟩
    · obtain ⟨c, rfl, rfl⟩ := hM
      refine ⟨.int c, rfl, c, rfl, .inl ⟨_, rfl, 10, 57, rfl, rfl, ⟨by decide, by decide +kernel⟩, _, 11, rfl, rfl, ⟨by decide, by decide +kernel⟩, _, _, rfl, rfl, (by show (0 : Int) < (10 ^ (57 : Int).toNat) ^ (11 : Int).toNat; decide +kernel), ?_⟩⟩
      show tSeq _ _ _ [_, _, _, some (.int ((if c < 0 then -c else c) % (10 ^ (57 : Int).toNat) ^ (11 : Int).toNat)), _] _
      generalize (if c < 0 then -c else c) % (10 ^ (57 : Int).toNat) ^ (11 : Int).toNat = wh
      refine ⟨.int wh, rfl, wh, 1000151, rfl, rfl, .inr ⟨by decide, by decide⟩, .int i, rfl, 8243, i, rfl, rfl, .inl ⟨by decide, by decide⟩, _, _, rfl, rfl, .int c, rfl, c, 0, rfl, rfl, .inr ⟨_, rfl, 43, _, rfl, rfl, .inl ⟨by decide, by decide⟩, _, _, rfl, rfl, _, 9, rfl, rfl, ?_⟩⟩
      refine ⟨.int wh, rfl, 10, 16, rfl, rfl, ⟨by decide, by decide +kernel⟩, _, _, rfl, rfl, 0, _, rfl, _, rfl, .inl ⟨_, rfl, _, _, rfl, rfl, (by show (0 : Int) < 1152921504606846877; decide), by show 3 ≤ sizeLine; decide, fun p hp => ?_⟩⟩
      exact q p _ _ hp
theorem ok_cast {f : Addr} {fd : FuncData} {k : Nat} (F : Fun K "_law_cast" "_law_cast" s_law_cast f fd) (m_int : mg "int" = none) :
    FnOk P w K mg base CX0 (k + 1) f fd ["die", "total"] spCast := by
  refine F.ok sc_law_cast (fun vs H Q E h => ?_) (fun cdv A outer s H vs Q E hr h => ?_)
  · obtain ⟨d, n, rfl, _⟩ := h
    rfl
  · obtain ⟨d, n, rfl, ⟨a, b, c, hD⟩, n0, n1, q⟩ := h
    have sq : SqL K H d [.int a, .int b, .int c] := .inl (.inl hD)
    refine ⟨_, (pss_cons (ps_if (pt_cmpR op_gt (pe_ix ix_list (pv 0) pe_int (fun _ _ => rfl)) pe_int (nomark _))
        (pss_cons (ps_set (i := 2) sc_law_cast.nd rfl (by first | exact Or.inl rfl | exact Or.inr rfl) (pe_op op_mod (pe_callTy call_int1 (by rfl) m_int (by decide +kernel) (pa_cons (pe_ix ix_list (pv 0) pe_int (fun _ _ => rfl)) pa_nil)) (pv 1)))
        (pss_cons (ps_asg (pe_op op_fdiv (pe_ix ix_list (pv 0) pe_int (fun _ _ => rfl)) (pv 1)) (pg_sub (pv 0) pe_int set_list))
        (pss_one (ps_ret (pv 2)))))
        pss_nil)
      (pss_cons (ps_asg (pe_op op_add (pe_ix ix_list (pv 0) pe_int (fun _ _ => rfl)) pe_int) (pg_sub (pv 0) pe_int set_list))
      (pss_cons (ps_set (i := 3) sc_law_cast.nd rfl (by first | exact Or.inl rfl | exact Or.inr rfl) (pe_op op_mod (pe_callTy call_int1 (by rfl) m_int (by decide +kernel) (pa_cons (pe_op op_add (pe_ix ix_list (pv 0) pe_int (fun _ _ => rfl)) (pe_op op_mul pe_int (pe_ix ix_list (pv 0) pe_int (fun _ _ => rfl)))) pa_nil)) pe_int))
      (pss_cons (ps_set (i := 4) sc_law_cast.nd rfl (by first | exact Or.inl rfl | exact Or.inr rfl) (pe_op op_add (pe_op op_mul (pe_op op_mod (pe_callTy call_int1 (by rfl) m_int (by decide +kernel) (pa_cons (pe_op op_mul (pv 3) (pv 3)) pa_nil)) pe_int) (pv 3)) (pe_op op_mul pe_int (pe_ix ix_list (pv 0) pe_int (fun _ _ => rfl)))))
      (pss_one (ps_ret (pe_op op_mod (pe_callTy call_int1 (by rfl) m_int (by decide +kernel) (pa_cons (pe_op op_fdiv (pe_op op_mod (pe_callTy call_int1 (by rfl) m_int (by decide +kernel) (pa_cons (pe_op op_add (pv 4) (pe_ix ix_list (pv 0) pe_int (fun _ _ => rfl))) pa_nil)) pe_int) pe_int) pa_nil)) (pv 1)))))))), ?_⟩
    refine ⟨.ref d, rfl, d, _, 0, .int a, rfl, rfl, sq, rfl, _, 0, rfl, rfl, _, rfl, ite2 (fun e => ?_) (fun e => ?_)⟩
    · refine ⟨.ref d, rfl, d, _, 0, .int a, rfl, rfl, sq, rfl, .inl ⟨a, rfl, .int n, rfl, a, n, rfl, rfl, n0, ?_⟩⟩
      refine ⟨.ref d, rfl, d, _, 0, .int a, rfl, rfl, sq, rfl, .int n, rfl, a, n, rfl, rfl, ⟨n0, n1⟩, .ref d, rfl, d, _, 0, 0, rfl, rfl, hD, rfl, ?_⟩
      refine ⟨_, rfl, ?_⟩
      have h1 : 0 ≤ a % n := Int.emod_nonneg _ (by omega)
      have h2 : a % n < n := Int.emod_lt_of_pos _ n0
      have h3 := q (a % n).toNat (upd H d (.lst [.int (a / n), .int b, .int c])) (by omega) ⟨_, _, _, rfl⟩
      rw [Int.toNat_of_nonneg h1] at h3
      exact h3
    · refine ⟨.ref d, rfl, d, _, 2, .int c, rfl, rfl, sq, rfl, c, 1, rfl, rfl, .ref d, rfl, d, _, 2, 2, rfl, rfl, hD, rfl, ?_⟩
      have sq2 : SqL K (upd H d (.lst [.int a, .int b, .int (c + 1)])) d [.int a, .int b, .int (c + 1)] := .inl (.inl upd_same)
      refine ⟨.ref d, rfl, d, _, 1, .int b, rfl, rfl, sq2, rfl, .ref d, rfl, d, _, 2, .int (c + 1), rfl, rfl, sq2, rfl, 654188429, c + 1, rfl, rfl, .inl ⟨by decide, by decide⟩, b, _, rfl, rfl, .inl ⟨_, rfl, _, _, rfl, rfl, (by show (0 : Int) < 2305843009213693913; decide), ?_⟩⟩
      have one0 : 0 ≤ (b + 654188429 * (c + 1)) % 2305843009213693913 := Int.emod_nonneg _ (by decide)
      have one1 : (b + 654188429 * (c + 1)) % 2305843009213693913 < 2305843009213693913 := Int.emod_lt_of_pos _ (by decide)
      show tSeq _ _ _ [_, _, _, some (.int ((b + 654188429 * (c + 1)) % 2305843009213693913)), _] _
      generalize (b + 654188429 * (c + 1)) % 2305843009213693913 = one at one0 one1
      refine ⟨.int one, rfl, .int one, rfl, one, one, rfl, rfl, .inl ⟨by omega, by omega⟩, .inl ⟨_, rfl, _, _, rfl, rfl, (by show (0 : Int) < 1152921504606846689; decide), .int one, rfl, _, one, rfl, rfl, .inr ⟨by omega, by omega⟩, .ref d, rfl, d, _, 2, .int (c + 1), rfl, rfl, sq2, rfl, 7213, c + 1, rfl, rfl, .inl ⟨by decide, by decide⟩, _, _, rfl, rfl, ?_⟩⟩
      refine ⟨_, rfl, .ref d, rfl, d, _, 1, .int b, rfl, rfl, sq2, rfl, _, b, rfl, rfl, .inl ⟨_, rfl, _, _, rfl, rfl, (by show (0 : Int) < 8796093022121; decide), _, 64, rfl, rfl, ⟨by decide, by decide⟩, .inl ⟨_, rfl, .int n, rfl, _, n, rfl, rfl, n0, ?_⟩⟩⟩
      show Q (.int ((one * one % 1152921504606846689 * one + 7213 * (c + 1) + b) % 8796093022121 / 64 % n)) _
      generalize (one * one % 1152921504606846689 * one + 7213 * (c + 1) + b) % 8796093022121 / 64 = x
      have h1 : 0 ≤ x % n := Int.emod_nonneg _ (by omega)
      have h2 : x % n < n := Int.emod_lt_of_pos _ n0
      have h3 := q (x % n).toNat (upd H d (.lst [.int a, .int b, .int (c + 1)])) (by omega) ⟨_, _, _, rfl⟩
      rw [Int.toNat_of_nonneg h1] at h3
      exact h3
theorem ok_pick {f fC : Addr} {fd fdC : FuncData} (F : Fun K "_law_pick" "_law_pick" s_law_pick f fd) (F__law_cast : Fun K "_law_cast" "_law_cast" s_law_cast fC fdC) (b__law_cast : Binds K fdC ["die", "total"] []) (g__law_cast : mg "_law_cast" = some (.ref fC)) (m_len : mg "len" = none) (m_int : mg "int" = none) :
    FnOk P w K mg base CX0 2 f fd ["die", "items"] (spPick K) := by
  have G__law_cast : FnOk P w K mg base CX0 1 fC fdC ["die", "total"] spCast := ok_cast F__law_cast m_int
  refine F.ok sc_law_pick (fun vs H Q E h => ?_) (fun cdv A outer s H vs Q E hr h => ?_)
  · obtain ⟨d, _, h⟩ := h
    rcases h with ⟨p, xs, rfl, _⟩ | ⟨z, rfl, _⟩ <;> rfl
  · obtain ⟨d, hD, h⟩ := h
    refine ⟨_, (pss_one (ps_ret (pe_ix ix_seq (pv 1) (pe_call G__law_cast (hr.mono (by decide)) (by rfl) g__law_cast F__law_cast.kp b__law_cast .nil pass0 (pa_cons (pv 0) (pa_cons (pe_callB (call_len_seq.or call_len_str) (by rfl) m_len (by decide +kernel) (pa_cons (pv 1) pa_nil)) pa_nil))) (fun _ _ => rfl)))), ?_⟩
    rcases h with ⟨p, xs, rfl, np, hS, h0, h1, q⟩ | ⟨z, rfl, h0, h1, q⟩
    · have h2 : 0 < xs.length := List.length_pos_iff.mpr h0
      refine ⟨.ref p, rfl, .ref d, rfl, .ref p, rfl, .inl ⟨p, xs, rfl, hS, d, _, rfl, hD, by omega, by omega, fun r H' hr' hN => ?_⟩⟩
      have hj : r < xs.length := by omega
      rcases hS with hS | hS
      · exact .inl ⟨p, xs, r, xs[r], rfl, rfl, hN.but.seq np hS, atI_nat (List.getElem?_eq_getElem hj), q r _ H' (List.getElem?_eq_getElem hj) hN⟩
      · exact .inr (.inl ⟨p, xs, r, xs[r], rfl, rfl, hN.but.seqT np hS, atI_nat (List.getElem?_eq_getElem hj), q r _ H' (List.getElem?_eq_getElem hj) hN⟩)
    · refine ⟨.str z, rfl, .ref d, rfl, .str z, rfl, .inr ⟨z, rfl, Nat.le_of_lt (small1000 h1), d, _, rfl, hD, by omega, by omega, fun r H' hr' hN => ?_⟩⟩
      have hj : r < z.cps.toList.length := by
        show r < z.cps.toList.length
        have : z.cps.toList.length = z.length := by simp [Str.length]
        omega
      exact .inr (.inr ⟨z, r, z.cps.toList[r], rfl, rfl, Nat.le_of_lt (small1000 h1), atI_nat (List.getElem?_eq_getElem hj), q r _ H' (List.getElem?_eq_getElem hj) hN⟩)
end

abbrev s_law_odd_one : Stmt := topS 8
abbrev Nlaw_odd_one : List Str := ["die", "some"]
theorem sc_law_odd_one : FnScope Nlaw_odd_one ["die"] (defScope s_law_odd_one) := ⟨rfl, rfl, rfl, by decide +kernel, rfl, by decide +kernel, by decide +kernel⟩
section
variable {P : Program} {w : World} {K : PySem.W.Frag} {mg : Str → Option Value} {base : Heap}
theorem ok_odd_one {f fP : Addr} {fd fdP : FuncData} (F : Fun K "_law_odd_one" "_law_odd_one" s_law_odd_one f fd) (G__law_pick : FnOk P w K mg base CX0 2 fP fdP ["die", "items"] (spPick K)) (F__law_pick : Fun K "_law_pick" "_law_pick" s_law_pick fP fdP) (b__law_pick : Binds K fdP ["die", "items"] []) (g__law_pick : mg "_law_pick" = some (.ref fP)) :
    FnOk P w K mg base CX0 3 f fd ["die"] spOdd := by
  refine F.ok sc_law_odd_one (fun vs H Q E h => ?_) (fun cdv A outer s H vs Q E hr h => ?_)
  · obtain ⟨d, rfl, _⟩ := h
    rfl
  · obtain ⟨d, rfl, hD, q⟩ := h
    refine ⟨_, (pss_cons (ps_set (i := 1) sc_law_odd_one.nd rfl (by first | exact Or.inl rfl | exact Or.inr rfl) (pe_lst (pa_cons pe_non (pa_cons pe_int (pa_cons pe_int (pa_cons pe_int (pa_cons pe_int (pa_cons (pe_un un_neg pe_int) (pa_cons pe_bl (pa_cons pe_bl (pa_cons pe_str (pa_cons pe_str (pa_cons pe_str (pa_cons pe_str (pa_cons (pe_tup pa_nil) (pa_cons (pe_tup (pa_cons pe_int pa_nil)) (pa_cons (pe_tup (pa_cons pe_int (pa_cons pe_int pa_nil))) (pa_cons (pe_tup (pa_cons pe_int (pa_cons pe_int pa_nil))) (pa_cons (pe_lst (pa_cons pe_int pa_nil)) (pa_cons pe_dnewK (pa_cons pe_str pa_nil)))))))))))))))))))))
      (pss_cons (ps_set (i := 1) sc_law_odd_one.nd rfl (by first | exact Or.inl rfl | exact Or.inr rfl) (pe_op op_cat (pv 1) (pe_lst (pa_cons (pe_op op_powB pe_int pe_int) (pa_cons (pe_tup (pa_cons pe_non pa_nil)) (pa_cons (pe_tup (pa_cons (pe_tup (pa_cons pe_int (pa_cons pe_int pa_nil))) pa_nil)) (pa_cons (pe_tup (pa_cons (pe_tup (pa_cons pe_int (pa_cons pe_int pa_nil))) (pa_cons (pe_tup (pa_cons pe_int (pa_cons pe_int pa_nil))) pa_nil))) (pa_cons (pe_tup (pa_cons pe_str pa_nil)) (pa_cons (pe_tup (pa_cons pe_str (pa_cons pe_int pa_nil))) (pa_cons pe_str (pa_cons pe_str (pa_cons pe_str pa_nil))))))))))))
      (pss_one (ps_ret (pe_call G__law_pick (hr.mono (by decide)) (by rfl) g__law_pick F__law_pick.kp b__law_pick .nil pass0 (pa_cons (pv 0) (pa_cons (pv 1) pa_nil))))))), ?_⟩
    refine ⟨1, rfl, len_ok, fun t0 n0 => ⟨len_ok, fun t1 n1 => ⟨len_ok, fun t2 n2 => ⟨len_ok, fun t3 n3 => ⟨len_ok, fun l0 n4 => fun d0 n5 => ⟨len_ok, fun L nL => ?_⟩⟩⟩⟩⟩⟩
    refine ⟨_, rfl, 10, 39, rfl, rfl, ⟨by decide, by decide +kernel⟩, len_ok, fun u0 m0 => ⟨len_ok, fun u1 m1 => ⟨len_ok, fun u2 m2 => ⟨len_ok, fun u3 m3 => ⟨len_ok, fun u4 m4 => ⟨len_ok, fun u5 m5 => ⟨len_ok, fun u6 m6 => ⟨len_ok, fun u7 m7 => ⟨len_ok, fun M mM => ?_⟩⟩⟩⟩⟩⟩⟩⟩⟩
    refine ⟨L, M, _, _, rfl, rfl, (by (repeat (first | exact upd_same | refine upd_keep ?_ (by assumption)))), upd_same, Nat.le_of_lt (small1000 (Nat.le_of_ble_eq_true rfl)), fun R nR => ?_⟩
    refine ⟨.ref d, rfl, .ref R, rfl, d, (by (repeat (refine DieAt.new ?_ (by assumption))); exact hD), .inl ⟨R, _, rfl, DieAt.free (by (repeat (refine DieAt.new ?_ (by assumption))); exact hD) nR, .inl (.inl (.inl upd_same)), List.cons_ne_nil _ _, Nat.lt_of_le_of_lt (Nat.le_of_ble_eq_true (show Nat.ble _ 1000 = true from rfl)) (by decide), fun j v H' hj hN => ?_⟩⟩
    refine q v H' (Odd.but hN.but (by (repeat (refine DieAt.new ?_ (by assumption))); exact hD) ?_) (But.trans (by (repeat (refine But.new ?_ (by assumption))); exact But.refl d H) hN.but) hN.die
    have hm := List.mem_of_getElem? hj
    clear hj q hN
    revert v
    show ∀ v ∈ [_, _, _, _, _, _, _, _, _, _, _, _, _, _, _, _, _, _, _, _, _, _, _, _, _, _, _, _], Odd _ v
    have tp : ∀ (Hh : Hp) (p : Addr) (xs : List V), Hh p = some (.tup xs) → xs.length ≤ 2 → (∀ x ∈ xs, Flat2 Hh x) → Odd Hh (.ref p) := fun Hh p xs h1 h2 h3 => .inr (.inl ⟨p, xs, rfl, h1, h2, h3⟩)
    have t2 : ∀ (Hh : Hp) (p : Addr) (xs : List V), Hh p = some (.tup xs) → xs.length ≤ 2 → (∀ x ∈ xs, Flat x) → Flat2 Hh (.ref p) := fun Hh p xs h1 h2 h3 => .inr ⟨p, xs, rfl, h1, h2, h3⟩
    have f : ∀ {v : V} {Hh : Hp}, Flat v → Odd Hh v := .inl
    have f2 : ∀ {v : V} {Hh : Hp}, Flat v → Flat2 Hh v := .inl
    refine all_cons (f flat_non) (all_cons (f (flat_int _)) (all_cons (f (flat_int _)) (all_cons (f (flat_int _)) (all_cons (f (flat_int _)) (all_cons (f (flat_int _)) (all_cons (f (flat_bl _)) (all_cons (f (flat_bl _)) (all_cons (f (flat_str (by decide))) (all_cons (f (flat_str (by decide))) (all_cons (f (flat_str (by decide))) (all_cons (f (flat_str (by decide))) ?_)))))))))))
    refine all_cons (tp _ _ [] ?_ (by decide) all_nil) ?_
    · (repeat (first | exact upd_same | refine upd_keep ?_ (by assumption)))
    refine all_cons (tp _ _ [_] ?_ (by decide) (all_cons (f2 (flat_int 0)) all_nil)) ?_
    · (repeat (first | exact upd_same | refine upd_keep ?_ (by assumption)))
    refine all_cons (tp _ _ [_, _] ?_ (by decide) (all_cons (f2 (flat_int 1)) (all_cons (f2 (flat_int 0)) all_nil))) ?_
    · (repeat (first | exact upd_same | refine upd_keep ?_ (by assumption)))
    refine all_cons (tp _ _ [_, _] ?_ (by decide) (all_cons (f2 (flat_int 0)) (all_cons (f2 (flat_int 0)) all_nil))) ?_
    · (repeat (first | exact upd_same | refine upd_keep ?_ (by assumption)))
    refine all_cons (.inr (.inr (.inl ⟨_, rfl, ?_⟩))) ?_
    · (repeat (first | exact upd_same | refine upd_keep ?_ (by assumption)))
    refine all_cons (.inr (.inr (.inr ⟨_, rfl, ?_⟩))) ?_
    · (repeat (first | exact upd_same | refine upd_keep ?_ (by assumption)))
    refine all_cons (f (flat_str (by decide))) (all_cons (f (flat_int _)) ?_)
    refine all_cons (tp _ _ [_] ?_ (by decide) (all_cons (f2 flat_non) all_nil)) ?_
    · (repeat (first | exact upd_same | refine upd_keep ?_ (by assumption)))
    refine all_cons (tp _ _ [.ref u1] ?_ (Nat.le_of_ble_eq_true rfl) (all_cons (t2 _ _ [_, _] ?_ (by decide) (all_cons (flat_int 0) (all_cons (flat_int 0) all_nil))) all_nil)) ?_
    · (repeat (first | exact upd_same | refine upd_keep ?_ (by assumption)))
    · (repeat (first | exact upd_same | refine upd_keep ?_ (by assumption)))
    refine all_cons (tp _ _ [.ref u3, .ref u4] ?_ (Nat.le_of_ble_eq_true rfl) (all_cons (t2 _ _ [_, _] ?_ (by decide) (all_cons (flat_int 0) (all_cons (flat_int 0) all_nil))) (all_cons (t2 _ _ [_, _] ?_ (by decide) (all_cons (flat_int 0) (all_cons (flat_int 0) all_nil))) all_nil))) ?_
    · (repeat (first | exact upd_same | refine upd_keep ?_ (by assumption)))
    · (repeat (first | exact upd_same | refine upd_keep ?_ (by assumption)))
    · (repeat (first | exact upd_same | refine upd_keep ?_ (by assumption)))
    refine all_cons (tp _ _ [_] ?_ (by decide) (all_cons (f2 (flat_str (z := "a") (by decide))) all_nil)) ?_
    · (repeat (first | exact upd_same | refine upd_keep ?_ (by assumption)))
    refine all_cons (tp _ _ [_, _] ?_ (by decide) (all_cons (f2 (flat_str (z := "p") (by decide))) (all_cons (f2 (flat_int 0)) all_nil))) ?_
    · (repeat (first | exact upd_same | refine upd_keep ?_ (by assumption)))
    exact all_cons (f (flat_str (by decide))) (all_cons (f (flat_str (by decide))) (all_cons (f (flat_str (by decide))) all_nil))
end
end My

namespace My
open PySem PySem.Spec PyProof.Rows L2 Sh

/-! ### words -/
def g1 (c : Nat) : Bool := !decide ((⟨#[c]⟩ : Str).cps.toList < (Str.ofString "a").cps.toList)
def g2 (c : Nat) : Bool := !decide ((Str.ofString "z").cps.toList < (⟨#[c]⟩ : Str).cps.toList)
def gg (c : Nat) : Bool := g1 c && g2 c
def nameOf (z : Str) : Bool := decide (1 ≤ z.length) && decide (z.length ≤ 8) && (z.cps.toList.map gg).all id
theorem filter_all (l : List Nat) : (l.filter fun c => !gg c).isEmpty = (l.map gg).all id := by
  induction l with
  | nil => rfl
  | cons c r ih =>
    rw [List.map_cons, List.all_cons, List.filter_cons]
    cases e : gg c with
    | true => rw [if_neg (by decide)]; simpa using ih
    | false => rw [if_pos (by decide)]; rfl
/-- no text -/
def NoStr (H : Hp) (v : V) : Prop := v = .non ∨ (∃ i : Int, v = .int i) ∨ (∃ b, v = .bl b) ∨ (∃ p xs, v = .ref p ∧ H p = some (.lst xs)) ∨ (∃ p xs, v = .ref p ∧ H p = some (.tup xs)) ∨ ∃ p xs, v = .ref p ∧ H p = some (.dK xs)
/-- what is_name is asked -/
def Jud (H : Hp) (v : V) : Prop := (∃ z : Str, v = .str z ∧ z.length ≤ sizeLine) ∨ NoStr H v
theorem NoStr.ty {K : PySem.W.Frag} {H : Hp} {v : V} (h : NoStr H v) : ∃ T, TyX K H v (.type T) ∧ kitB T "str" = some false := by
  rcases h with rfl | ⟨i, rfl⟩ | ⟨b, rfl⟩ | ⟨p, xs, rfl, h⟩ | ⟨p, xs, rfl, h⟩ | ⟨p, xs, rfl, h⟩
  · exact ⟨_, .base .non, by decide +kernel⟩
  · exact ⟨_, .base (.int i), by decide +kernel⟩
  · exact ⟨_, .base (.bl b), by decide +kernel⟩
  · exact ⟨_, .base (.lst h), by decide +kernel⟩
  · exact ⟨_, .base (.tup h), by decide +kernel⟩
  · exact ⟨_, .base (.dK h), by decide +kernel⟩
theorem NoStr.same {H H' : Hp} {v : V} (s : Same H H') (h : NoStr H v) : NoStr H' v := by
  rcases h with h | h | h | ⟨p, xs, e, h⟩ | ⟨p, xs, e, h⟩ | ⟨p, xs, e, h⟩
  · exact .inl h
  · exact .inr (.inl h)
  · exact .inr (.inr (.inl h))
  · exact .inr (.inr (.inr (.inl ⟨p, xs, e, s _ _ h⟩)))
  · exact .inr (.inr (.inr (.inr (.inl ⟨p, xs, e, s _ _ h⟩))))
  · exact .inr (.inr (.inr (.inr (.inr ⟨p, xs, e, s _ _ h⟩))))
theorem Jud.same {H H' : Hp} {v : V} (s : Same H H') (h : Jud H v) : Jud H' v := h.imp id (NoStr.same s)
theorem Odd.jud {H : Hp} {v : V} (h : Odd H v) : Jud H v := by
  rcases h with (h | h | h | ⟨z, h, l⟩) | ⟨p, xs, e, h, _⟩ | ⟨p, e, h⟩ | ⟨p, e, h⟩
  · exact .inr (.inl h)
  · exact .inr (.inr (.inl h))
  · exact .inr (.inr (.inr (.inl h)))
  · exact .inl ⟨z, h, Nat.le_of_lt (small1000 (by omega))⟩
  · exact .inr (.inr (.inr (.inr (.inr (.inl ⟨p, xs, e, h⟩)))))
  · exact .inr (.inr (.inr (.inr (.inl ⟨p, _, e, h⟩))))
  · exact .inr (.inr (.inr (.inr (.inr (.inr ⟨p, _, e, h⟩)))))
def nameV : V → Bool
  | .str z => nameOf z
  | _ => false
def spName : Sp := fun vs H Q _ => ∃ v, vs = [v] ∧ Jud H v ∧ ∀ H', Same H H' → Q (.bl (nameV v)) H'
theorem jud_false {K : PySem.W.Frag} {H : Hp} {v : V} {T : String} (t : TyX K H v (.type T)) (k : kitB T "str" = some false) : nameV v = false := by
  cases v with
  | str z =>
    cases t with
    | base b =>
      cases b
      exact absurd k (by decide +kernel)
  | _ => rfl
abbrev s_is_name : Stmt := topS 2
abbrev Nis_name : List Str := ["value", "letter"]
theorem sc_is_name : FnScope Nis_name ["value"] (defScope s_is_name) := ⟨rfl, rfl, rfl, by decide +kernel, rfl, by decide +kernel, by decide +kernel⟩
abbrev s_law_is_word : Stmt := topS 7
abbrev Nlaw_is_word : List Str := ["value", "one"]
theorem sc_law_is_word : FnScope Nlaw_is_word ["value"] (defScope s_law_is_word) := ⟨rfl, rfl, rfl, by decide +kernel, rfl, by decide +kernel, by decide +kernel⟩
section
variable {P : Program} {w : World} {K : PySem.W.Frag} {mg : Str → Option Value} {base : Heap}
theorem ok_is_name {f : Addr} {fd : FuncData} {k : Nat} (F : Fun K "is_name" "is_name" s_is_name f fd) {tk : Tok} (m_isinstance : mg "isinstance" = none) (m_str : mg "str" = none) (m_len : mg "len" = none) (m_all : mg "all" = none) (g_LONGEST_NAME : mg "LONGEST_NAME" = some (.int 8 tk)) :
    FnOk P w K mg base CX0 (k + 1) f fd ["value"] spName := by
  refine F.ok sc_is_name (fun vs H Q E h => ?_) (fun cdv A outer s H vs Q E hr h => ?_)
  · obtain ⟨v, rfl, _⟩ := h
    rfl
  · obtain ⟨v, rfl, hJ, q⟩ := h
    refine ⟨_, (pss_cons (ps_if (PW.pt (pw_or (pt_not (pt_val (pe_callB call_isi (by rfl) m_isinstance (by decide +kernel) (pa_cons (pv 0) (pa_cons (pe_bltn (v := .ty "str") (by rfl) m_str (by decide +kernel) rfl) pa_nil))))) (pw_or1 (pt_not (pt_chain op_le op_le pe_int (pe_callB call_len_str (by rfl) m_len (by decide +kernel) (pa_cons (pv 0) pa_nil)) (pe_glob (v := .int 8) rfl g_LONGEST_NAME ⟨_, rfl⟩))))))
        (pss_one (ps_ret pe_bl))
        pss_nil)
      (pss_one (ps_ret (pe_callB (cr_all rfl) (by rfl) m_all (by decide +kernel) (pa_cons (pe_lc (own := [("letter", 1)]) (g := gName 1) (tt := tYes) rfl sc_is_name.nd (pi_str (pv 0)) (blkOk_by (N := Nis_name) (sc := defScope s_is_name) (by decide +kernel))
      (fun _ _ _ _ _ => pg_name (i := 1) sc_is_name.nd rfl (Or.inl rfl)) (fun _ _ _ _ _ => pts_nil) (fun _ _ _ _ _ => (pe_chain op_le_str op_le_str pe_str (pv 1) pe_str))) pa_nil))))), ?_⟩
    rcases hJ with ⟨z, rfl, hz⟩ | hJ
    · refine ⟨_, rfl, _, _, _, _, true, rfl, .ty "str", .base (.str z), kit_ty (by decide +kernel), true, rfl, iteF ?_⟩
      refine ⟨_, rfl, z, rfl, hz, 1, _, rfl, rfl, _, rfl, ite2 (fun e1 => ?_) (fun e1 => ?_)⟩
      · refine ⟨_, 8, rfl, rfl, _, rfl, ?_⟩
        have l1 : 1 ≤ z.length := by have := of_decide_eq_true e1; omega
        by_cases e2 : ((z.length : Nat) : Int) ≤ 8
        · have l2 : z.length ≤ 8 := by omega
          rw [decide_eq_true e2]
          refine iteF ?_
          refine ⟨_, rfl, z, rfl, fun D hD => lc_it walk_str (fun i H1 => Same H H1 ∧ H1 D = some (.lst ((z.cps.toList.take i).map fun c => V.bl (gg c)))) ⟨same_new (Same.refl H) hD, upd_same⟩ (fun _ _ _ _ => trivial) ?_ ?_⟩
          · intro i x H1 H2 hi hp hy
            obtain ⟨rfl, c, hc, rfl⟩ := hy
            obtain ⟨sm, hl⟩ := hp
            have hi9 : i < 9 := Nat.lt_of_lt_of_le hi (Nat.le_trans (show z.cps.size ≤ 8 from l2) (by omega))
            have fin : ∀ b, b = gg c → ∃ acc, H2 D = some (.lst acc) ∧ acc.length < sizeLine ∧ (Same H (upd H2 D (.lst (acc ++ [V.bl b]))) ∧ (upd H2 D (.lst (acc ++ [V.bl b]))) D = some (.lst ((z.cps.toList.take (i + 1)).map fun c => V.bl (gg c)))) := fun b hb => by
              refine ⟨_, hl, ?_, same_put sm hD, ?_⟩
              · rw [List.length_map, List.length_take]
                exact small1000 (Nat.le_trans (Nat.min_le_left _ _) (by omega))
              · rw [upd_same, hb, List.take_add_one, Array.getElem?_toList, hc, List.map_append]
                rfl
            refine ⟨rfl, ?_⟩
            refine ⟨_, rfl, _, _, rfl, rfl, _, rfl, ite2 (fun e3 => ⟨_, _, rfl, rfl, fin _ ?_⟩) (fun e3 => fin _ ?_)⟩
            · show g2 c = (g1 c && g2 c)
              rw [show g1 c = true from e3, Bool.true_and]
            · show false = (g1 c && g2 c)
              rw [show g1 c = false from (Bool.not_eq_true _).mp e3, Bool.false_and]
          · intro H1 hp
            obtain ⟨sm, hl⟩ := hp
            refine ⟨D, (z.cps.toList.map gg), rfl, ?_, ?_⟩
            · refine .inl (.inl ?_)
              rw [hl, List.take_of_length_le (by simp), List.map_map]
              rfl
            · have e3 : nameV (.str z) = (z.cps.toList.map gg).all id := by
                show (decide (1 ≤ z.length) && decide (z.length ≤ 8) && _) = _
                rw [decide_eq_true l1, decide_eq_true l2, Bool.true_and, Bool.true_and]
              rw [e3] at q
              exact q H1 sm
        · rw [decide_eq_false e2]
          refine iteT ?_
          have e3 : nameV (.str z) = false := by
            show (decide (1 ≤ z.length) && decide (z.length ≤ 8) && _) = false
            rw [decide_eq_false (show ¬ z.length ≤ 8 by omega), Bool.and_false, Bool.false_and]
          rw [e3] at q
          exact q H (Same.refl H)
      · have e2 : nameV (.str z) = false := by
          have : ¬ (1 ≤ z.length) := fun c => e1 (decide_eq_true (by omega))
          show (decide (1 ≤ z.length) && _ && _) = false
          rw [decide_eq_false this, Bool.false_and, Bool.false_and]
        rw [e2] at q
        exact ⟨false, rfl, iteT (q H (Same.refl H))⟩
    · obtain ⟨T, hT, hk⟩ := hJ.ty (K := K)
      refine ⟨_, rfl, _, _, _, _, false, rfl, .ty "str", hT, kit_ty hk, false, rfl, iteT (iteT ?_)⟩
      have := q H (Same.refl H)
      rw [jud_false hT hk] at this
      exact this

theorem ok__law_is_word {f : Addr} {fd : FuncData} {k : Nat} (F : Fun K "_law_is_word" "_law_is_word" s_law_is_word f fd) (m_isinstance : mg "isinstance" = none) (m_str : mg "str" = none) (m_len : mg "len" = none) :
    FnOk P w K mg base CX0 (k + 1) f fd ["value"] spName := by
  refine F.ok sc_law_is_word (fun vs H Q E h => ?_) (fun cdv A outer s H vs Q E hr h => ?_)
  · obtain ⟨v, rfl, _⟩ := h
    rfl
  · obtain ⟨v, rfl, hJ, q⟩ := h
    refine ⟨_, (pss_cons (ps_if (PW.pt (pw_or (pt_not (pt_val (pe_callB call_isi (by rfl) m_isinstance (by decide +kernel) (pa_cons (pv 0) (pa_cons (pe_bltn (v := .ty "str") (by rfl) m_str (by decide +kernel) rfl) pa_nil))))) (pw_or1 (pt_not (pt_chain op_le op_le pe_int (pe_callB call_len_str (by rfl) m_len (by decide +kernel) (pa_cons (pv 0) pa_nil)) pe_int)))))
        (pss_one (ps_ret pe_bl))
        pss_nil)
      (pss_one (ps_ret (pe_cmpR (op_eqNil hr.units) (pe_lc (own := [("one", 1)]) (g := gName 1) rfl sc_law_is_word.nd (pi_str (pv 0)) (blkOk_by (N := Nlaw_is_word) (sc := defScope s_law_is_word) (by decide +kernel))
      (fun _ _ _ _ _ => pg_name (i := 1) sc_law_is_word.nd rfl (Or.inl rfl)) (fun _ _ _ _ _ => (pts_one (pt_not (pt_chain op_le_str op_le_str pe_str (pv 1) pe_str)))) (fun _ _ _ _ _ => (pv 1))) (pe_lst pa_nil) (nomark _))))), ?_⟩
    rcases hJ with ⟨z, rfl, hz⟩ | hJ
    · refine ⟨_, rfl, _, _, _, _, true, rfl, .ty "str", .base (.str z), kit_ty (by decide +kernel), true, rfl, iteF ?_⟩
      refine ⟨_, rfl, z, rfl, hz, 1, _, rfl, rfl, _, rfl, ite2 (fun e1 => ?_) (fun e1 => ?_)⟩
      · refine ⟨_, 8, rfl, rfl, _, rfl, ?_⟩
        have l1 : 1 ≤ z.length := by have := of_decide_eq_true e1; omega
        by_cases e2 : ((z.length : Nat) : Int) ≤ 8
        · have l2 : z.length ≤ 8 := by omega
          rw [decide_eq_true e2]
          refine iteF ?_
          refine ⟨_, rfl, z, rfl, fun D hD => lc_it walk_str (fun i H1 => Same H H1 ∧ H1 D = some (.lst (((z.cps.toList.take i).filter fun c => !gg c).map fun c => V.str ⟨#[c]⟩))) ⟨same_new (Same.refl H) hD, upd_same⟩ (fun _ _ _ _ => trivial) ?_ ?_⟩
          · intro i x H1 H2 hi hp hy
            obtain ⟨rfl, c, hc, rfl⟩ := hy
            obtain ⟨sm, hl⟩ := hp
            have hi9 : i < 9 := Nat.lt_of_lt_of_le hi (Nat.le_trans (show z.cps.size ≤ 8 from l2) (by omega))
            have tk : (z.cps.toList.take (i + 1)).filter (fun c => !gg c) = (z.cps.toList.take i).filter (fun c => !gg c) ++ [c].filter (fun c => !gg c) := by
              rw [List.take_add_one, Array.getElem?_toList, hc, List.filter_append]
              rfl
            have fin : gg c = false → ∃ acc, H2 D = some (.lst acc) ∧ acc.length < sizeLine ∧ (Same H (upd H2 D (.lst (acc ++ [V.str ⟨#[c]⟩]))) ∧ (upd H2 D (.lst (acc ++ [V.str ⟨#[c]⟩]))) D = some (.lst (((z.cps.toList.take (i + 1)).filter fun c => !gg c).map fun c => V.str ⟨#[c]⟩))) := fun hb => by
              refine ⟨_, hl, ?_, same_put sm hD, ?_⟩
              · rw [List.length_map]
                refine Nat.lt_of_le_of_lt (List.length_filter_le _ _) ?_
                rw [List.length_take]
                exact small1000 (Nat.le_trans (Nat.min_le_left _ _) (by omega))
              · rw [upd_same, tk, List.map_append, List.filter_cons, hb]
                rfl
            have nofin : gg c = true → (Same H H2 ∧ H2 D = some (.lst (((z.cps.toList.take (i + 1)).filter fun c => !gg c).map fun c => V.str ⟨#[c]⟩))) := fun hb => by
              refine ⟨sm, ?_⟩
              rw [hl, tk, List.filter_cons, hb]
              simp
            refine ⟨rfl, ⟨_, rfl, _, _, rfl, rfl, _, rfl, ite2 (fun e3 => ⟨_, _, rfl, rfl, _, rfl, ?_⟩) (fun e3 => ⟨false, rfl, iteT ⟨_, rfl, fin ?_⟩⟩)⟩⟩
            · show if (!g2 c) = true then _ else _
              have e4 : g1 c = true := e3
              cases e5 : g2 c with
              | true => exact iteF (nofin (by unfold gg; rw [e4, e5]; rfl))
              | false => exact iteT ⟨_, rfl, fin (by unfold gg; rw [e4, e5]; rfl)⟩
            · show (g1 c && g2 c) = false
              rw [show g1 c = false from (Bool.not_eq_true _).mp e3, Bool.false_and]
          · intro H1 hp
            obtain ⟨sm, hl⟩ := hp
            refine ⟨Nat.zero_le _, fun N hN => ⟨D, N, (((z.cps.toList.take z.cps.size).filter fun c => !gg c).map fun c => V.str ⟨#[c]⟩), rfl, rfl, .inl (.inl ?_), .inl (.inl upd_same), ?_⟩⟩
            · exact (upd_ne (ne_of_none hl hN)).trans hl
            · have e3 : nameV (.str z) = (((z.cps.toList.take z.cps.size).filter fun c => !gg c).map fun c => V.str ⟨#[c]⟩).isEmpty := by
                show (decide (1 ≤ z.length) && decide (z.length ≤ 8) && _) = _
                rw [decide_eq_true l1, decide_eq_true l2, Bool.true_and, Bool.true_and, ← filter_all, List.take_of_length_le (by simp), List.isEmpty_map]
              rw [e3] at q
              exact q _ (fun b o e => (upd_ne (ne_of_none (sm b o e) hN)).trans (sm b o e))
        · rw [decide_eq_false e2]
          refine iteT ?_
          have e3 : nameV (.str z) = false := by
            show (decide (1 ≤ z.length) && decide (z.length ≤ 8) && _) = false
            rw [decide_eq_false (show ¬ z.length ≤ 8 by omega), Bool.and_false, Bool.false_and]
          rw [e3] at q
          exact q H (Same.refl H)
      · have e2 : nameV (.str z) = false := by
          have : ¬ (1 ≤ z.length) := fun c => e1 (decide_eq_true (by omega))
          show (decide (1 ≤ z.length) && _ && _) = false
          rw [decide_eq_false this, Bool.false_and, Bool.false_and]
        rw [e2] at q
        exact ⟨false, rfl, iteT (q H (Same.refl H))⟩
    · obtain ⟨T, hT, hk⟩ := hJ.ty (K := K)
      refine ⟨_, rfl, _, _, _, _, false, rfl, .ty "str", hT, kit_ty hk, false, rfl, iteT (iteT ?_)⟩
      have := q H (Same.refl H)
      rw [jud_false hT hk] at this
      exact this
end
end My

namespace My
open PySem PySem.Spec PyProof.Rows L2 Sh
abbrev s_law_right : Stmt := topS 9
abbrev Nlaw_right : List Str := ["die", "letters", "word", "at", "odd", "some", "value", "turn"]
theorem sc_law_right : FnScope Nlaw_right ["die"] (defScope s_law_right) := ⟨rfl, rfl, rfl, by decide +kernel, rfl, by decide +kernel, by decide +kernel⟩
section
variable {P : Program} {w : World} {K : PySem.W.Frag} {mg : Str → Option Value} {base : Heap}
theorem ok_right {f fC fP fO fN fW : Addr} {fd fdC fdP fdO fdN fdW : FuncData} (F : Fun K "_law_right" "_law_right" s_law_right f fd)
    (G__law_cast : FnOk P w K mg base CX0 1 fC fdC ["die", "total"] spCast) (F__law_cast : Fun K "_law_cast" "_law_cast" s_law_cast fC fdC) (b__law_cast : Binds K fdC ["die", "total"] []) (g__law_cast : mg "_law_cast" = some (.ref fC))
    (G__law_pick : FnOk P w K mg base CX0 2 fP fdP ["die", "items"] (spPick K)) (F__law_pick : Fun K "_law_pick" "_law_pick" s_law_pick fP fdP) (b__law_pick : Binds K fdP ["die", "items"] []) (g__law_pick : mg "_law_pick" = some (.ref fP))
    (G__law_odd_one : FnOk P w K mg base CX0 3 fO fdO ["die"] spOdd) (F__law_odd_one : Fun K "_law_odd_one" "_law_odd_one" s_law_odd_one fO fdO) (b__law_odd_one : Binds K fdO ["die"] []) (g__law_odd_one : mg "_law_odd_one" = some (.ref fO))
    (G_is_name : FnOk P w K mg base CX0 1 fN fdN ["value"] spName) (F_is_name : Fun K "is_name" "is_name" s_is_name fN fdN) (b_is_name : Binds K fdN ["value"] []) (g_is_name : mg "is_name" = some (.ref fN))
    (G__law_is_word : FnOk P w K mg base CX0 1 fW fdW ["value"] spName) (F__law_is_word : Fun K "_law_is_word" "_law_is_word" s_law_is_word fW fdW) (b__law_is_word : Binds K fdW ["value"] []) (g__law_is_word : mg "_law_is_word" = some (.ref fW))
    (m_range : mg "range" = none) (m_len : mg "len" = none) (m_repr : mg "repr" = none) :
    FnOk P w K mg base CX0 4 f fd ["die"] spRight := by
  refine F.ok sc_law_right (fun vs H Q E h => ?_) (fun cdv A outer s H vs Q E hr h => ?_)
  · obtain ⟨d, rfl, _⟩ := h
    rfl
  · obtain ⟨d, rfl, hDie, q⟩ := h
    refine ⟨_, (pss_cons (ps_set (i := 1) sc_law_right.nd rfl (by first | exact Or.inl rfl | exact Or.inr rfl) pe_str)
      (pss_cons (ps_set (i := 2) sc_law_right.nd rfl (by first | exact Or.inl rfl | exact Or.inr rfl) (pe_join pe_str (pe_lc (own := [("turn", 7)]) (g := gName 7) (tt := tYes) rfl sc_law_right.nd (pi_range1 rfl m_range (pa_cons (pe_call G__law_cast (hr.mono (by decide)) (by rfl) g__law_cast F__law_cast.kp b__law_cast .nil pass0 (pa_cons (pv 0) (pa_cons pe_int pa_nil))) pa_nil)) (blkOk_by (N := Nlaw_right) (sc := defScope s_law_right) (by decide +kernel))
      (fun _ _ _ _ _ => pg_name (i := 7) sc_law_right.nd rfl (Or.inl rfl)) (fun _ _ _ _ _ => pts_nil) (fun _ _ _ _ _ => (pe_call G__law_pick (hr.mono (by decide)) (by rfl) g__law_pick F__law_pick.kp b__law_pick .nil pass0 (pa_cons (pv 0) (pa_cons (pv 1) pa_nil)))))))
      (pss_cons (ps_par (i := 3) (j := 4) rfl sc_law_right.nd rfl rfl (by decide) rfl rfl (pa_cons (pe_call G__law_cast (hr.mono (by decide)) (by rfl) g__law_cast F__law_cast.kp b__law_cast .nil pass0 (pa_cons (pv 0) (pa_cons (pe_op op_add (pe_callB call_len_str (by rfl) m_len (by decide +kernel) (pa_cons (pv 2) pa_nil)) pe_int) pa_nil))) (pa_cons (pe_call G__law_pick (hr.mono (by decide)) (by rfl) g__law_pick F__law_pick.kp b__law_pick .nil pass0 (pa_cons (pv 0) (pa_cons (pe_lst (pa_cons pe_str (pa_cons pe_str (pa_cons pe_str (pa_cons pe_str (pa_cons pe_str (pa_cons pe_str (pa_cons pe_str (pa_cons pe_str (pa_cons pe_str (pa_cons pe_str pa_nil))))))))))) pa_nil))) pa_nil)) rfl)
      (pss_cons (ps_set (i := 5) sc_law_right.nd rfl (by first | exact Or.inl rfl | exact Or.inr rfl) (pe_lst (pa_cons (pv 2) (pa_cons (pe_op op_add_str (pe_op op_add_str (pe_slice sl_str (pv 2) po_none (po_some (pv 3))) (pv 4)) (pe_slice sl_str (pv 2) (po_some (pv 3)) po_none)) (pa_cons (pe_slice sl_str (pv 2) po_none (po_some (pv 3))) (pa_cons (pe_upper (pv 2)) (pa_cons (pe_op op_add_str (pv 2) (pv 2)) (pa_cons (pe_lst (pa_cons (pv 2) pa_nil)) (pa_cons (pe_tup (pa_cons (pv 2) pa_nil)) (pa_cons (pe_call G__law_odd_one (hr.mono (by decide)) (by rfl) g__law_odd_one F__law_odd_one.kp b__law_odd_one .nil pass0 (pa_cons (pv 0) pa_nil)) pa_nil))))))))))
      (pss_cons (ps_for PassesOwn.never rfl (pi_list (pv 5)) (pg_name (i := 6) sc_law_right.nd rfl (by first | exact Or.inl rfl | exact Or.inr rfl))
        (pss_one (ps_if (pt_cmpR op_ne (pe_callB call_repr_bl (by rfl) m_repr (by decide +kernel) (pa_cons (pe_call G_is_name (hr.mono (by decide)) (by rfl) g_is_name F_is_name.kp b_is_name .nil pass0 (pa_cons (pv 6) pa_nil)) pa_nil)) (pe_callB call_repr_bl (by rfl) m_repr (by decide +kernel) (pa_cons (pe_call G__law_is_word (hr.mono (by decide)) (by rfl) g__law_is_word F__law_is_word.kp b__law_is_word .nil pass0 (pa_cons (pv 6) pa_nil)) pa_nil)) (nomark _))
          (pss_one (ps_ret pe_bl))
          pss_nil)))
      (pss_one (ps_ret pe_bl))))))), ?_⟩
    refine ⟨⟨_, rfl⟩, .ref d, rfl, d, 10, rfl, hDie, by decide, by decide, fun r H1 hr1 hN1 => ⟨(r : Int), rfl, by omega, by omega, fun D hD => ?_⟩⟩
    have nD : D ≠ d := hN1.die.free hD
    have hD0 : H D = none := hN1.but.free nD hD
    refine lc_range (lo := 0) (n := r) (fun i H2 => ∃ ys : List Str, ys.length = i ∧ (∀ y ∈ ys, y.length = 1) ∧ H2 D = some (.lst (ys.map V.str)) ∧ DieAt H2 d ∧ But d H H2) ⟨[], rfl, (fun _ h => by cases h), upd_same, hN1.die.new hD, hN1.but.new hD⟩ (fun i H2 hi hp => ?_) (fun H2 hp => ?_)
    · obtain ⟨ys, hlen, h1, hl, hDe, hb⟩ := hp
      refine ⟨rfl, .ref d, rfl, _, rfl, d, hDe, .inr ⟨_, rfl, by decide, by decide, fun j c H3 hj hN3 => ?_⟩⟩
      refine ⟨ys.map V.str, (hN3.ne nD).trans hl, ?_, ys ++ [⟨#[c]⟩], ?_, ?_, ?_, hN3.die.put nD, (hb.trans hN3.but).put hD0⟩
      · rw [List.length_map, hlen]
        exact small1000 (by omega)
      · rw [List.length_append, hlen]
        rfl
      · intro y hy
        rcases List.mem_append.mp hy with hy | hy
        · exact h1 y hy
        · rw [List.mem_singleton.mp hy]
          rfl
      · rw [upd_same, List.map_append]
        rfl
    · obtain ⟨ys, hlen, h1, hl, hDe, hb⟩ := hp
      have hw : (Txt.join (Str.ofString "") ys).length ≤ 9 := by
        rw [PySem.W.KT.join_ones ys h1]
        omega
      refine ⟨_, D, ys, rfl, rfl, .inl (.inl (.inl hl)), ?_, ?_⟩
      · rw [sum_ones ys h1]
        show ys.length + ys.length * 0 ≤ 16777216
        omega
      show tSeq _ _ _ [some (.ref d), _, some (.str (Txt.join (Str.ofString "") ys)), _, _, _, _, _] _
      clear hl h1 hlen
      generalize Txt.join (Str.ofString "") ys = z at hw
      have hzl : z.length ≤ sizeLine := Nat.le_of_lt (small1000 (by omega))
      refine ⟨.ref d, rfl, .str z, rfl, z, rfl, hzl, _, 1, rfl, rfl, d, _, rfl, hDe, by omega, by omega, fun at_ H3 hat hN3 => ?_⟩
      refine ⟨.ref d, rfl, len_ok, fun M mM => ⟨d, hN3.die.new mM, .inl ⟨M, _, rfl, hN3.die.free mM, .inl (.inl (.inl upd_same)), List.cons_ne_nil _ _, Nat.lt_of_le_of_lt (Nat.le_of_ble_eq_true (show Nat.ble _ 1000 = true from rfl)) (by decide), fun j v H4 hj hN4 => ?_⟩⟩⟩
      have ho : ∃ o : Str, v = .str o ∧ o.length ≤ 2 := by
        have hm := List.mem_of_getElem? hj
        clear hj
        revert v
        refine all_cons ⟨_, rfl, by decide⟩ (all_cons ⟨_, rfl, by decide⟩ (all_cons ⟨_, rfl, by decide⟩ (all_cons ⟨_, rfl, by decide⟩ (all_cons ⟨_, rfl, by decide⟩ (all_cons ⟨_, rfl, by decide⟩ (all_cons ⟨_, rfl, by decide⟩ (all_cons ⟨_, rfl, by decide⟩ (all_cons ⟨_, rfl, by decide⟩ (all_cons ⟨_, rfl, by decide⟩ all_nil)))))))))
      obtain ⟨o, rfl, ho⟩ := ho
      have hb4 : But d H H4 := ((hb.trans hN3.but).new mM).trans hN4.but
      have hD4 : DieAt H4 d := hN4.die
      have c1 := cutS_length z none (some at_)
      have c2 := cutS_length z (some at_) none
      have cu := PyProof.Rows.len_upper z
      have k1 : (cutS z none (some at_) ++ o).length = (cutS z none (some at_)).length + o.length := PySem.strLen_append _ _
      have k2 : (cutS z none (some at_) ++ o ++ cutS z (some at_) none).length = (cutS z none (some at_)).length + o.length + (cutS z (some at_) none).length := by rw [PySem.strLen_append, PySem.strLen_append]
      have k3 : (z ++ z).length = z.length + z.length := PySem.strLen_append _ _
      refine ⟨_, _, rfl, ?_⟩
      refine ⟨.str z, rfl, .str z, rfl, .int at_, rfl, at_, rfl, z, rfl, hzl, .str o, rfl, _, o, rfl, rfl, Nat.le_of_lt (small1000 (by omega)), .str z, rfl, .int at_, rfl, at_, rfl, z, rfl, hzl, _, _, rfl, rfl, Nat.le_of_lt (small1000 (by omega)), .str z, rfl, .int at_, rfl, at_, rfl, z, rfl, hzl, ?_⟩
      refine ⟨.str z, rfl, ⟨_, rfl⟩, z, rfl, rfl, by omega, .str z, rfl, .str z, rfl, z, z, rfl, rfl, Nat.le_of_lt (small1000 (by omega)), .str z, rfl, len_ok, fun L nL => ⟨.str z, rfl, len_ok, fun T nT => ⟨.ref d, rfl, d, rfl, (hD4.new nL).new nT, fun v H5 hO hB5 hD5 => ⟨len_ok, fun S nS => ?_⟩⟩⟩⟩
      have hb5 : But d H H5 := (((hb4.new nL).new nT)).trans hB5
      have eL : H5 L = some (.lst [.str z]) := hB5 _ _ (hD4.free nL) (upd_keep upd_same nT)
      have eT : H5 T = some (.tup [.str z]) := hB5 _ _ ((hD4.new nL).free nT) upd_same
      have hJ : ∀ x ∈ [.str z, .str (cutS z none (some at_) ++ o ++ cutS z (some at_) none), .str (cutS z none (some at_)), .str (Txt.upper z), .str (z ++ z), .ref L, .ref T, v], Jud H5 x := by
        refine all_cons (.inl ⟨_, rfl, hzl⟩) (all_cons (.inl ⟨_, rfl, Nat.le_of_lt (small1000 (by omega))⟩) (all_cons (.inl ⟨_, rfl, Nat.le_of_lt (small1000 (by omega))⟩) (all_cons (.inl ⟨_, rfl, Nat.le_of_lt (small1000 (by omega))⟩) (all_cons (.inl ⟨_, rfl, Nat.le_of_lt (small1000 (by omega))⟩) (all_cons (.inr (.inr (.inr (.inr (.inl ⟨L, _, rfl, eL⟩))))) (all_cons (.inr (.inr (.inr (.inr (.inr (.inl ⟨T, _, rfl, eT⟩)))))) (all_cons (Odd.jud hO) all_nil)))))))
      have sS : Same H5 (upd H5 S (.lst [.str z, .str (cutS z none (some at_) ++ o ++ cutS z (some at_) none), .str (cutS z none (some at_)), .str (Txt.upper z), .str (z ++ z), .ref L, .ref T, v])) := same_new (Same.refl H5) nS
      refine ⟨.ref S, rfl, S, rfl, ⟨_, .inl (.inl upd_same)⟩, for_list (xs := [.str z, .str (cutS z none (some at_) ++ o ++ cutS z (some at_) none), .str (cutS z none (some at_)), .str (Txt.upper z), .str (z ++ z), .ref L, .ref T, v])
        (fun i σ H' => (∃ y6 y7 y2 y3 y4 y1, σ = [some (.ref d), y1, y2, y3, y4, some (.ref S), y6, y7]) ∧ Same (upd H5 S (.lst [.str z, .str (cutS z none (some at_) ++ o ++ cutS z (some at_) none), .str (cutS z none (some at_)), .str (Txt.upper z), .str (z ++ z), .ref L, .ref T, v])) H')
        ⟨⟨_, _, _, _, _, _, rfl⟩, Same.refl _⟩ (fun i σ H' _ hp => hp.2.seq (.inl (.inl upd_same))) (fun i x σ H' hx hp => ?_) (fun σ H' hp => ?_)⟩
      · obtain ⟨⟨y6, y7, y2, y3, y4, y1, rfl⟩, sm⟩ := hp
        have hj : Jud H' x := (hJ x (List.mem_of_getElem? hx)).same (sS.trans sm)
        refine ⟨x, rfl, x, rfl, hj, fun H6 s6 => ⟨_, rfl, x, rfl, x, rfl, hj.same s6, fun H7 s7 => ⟨_, rfl, rfl, _, rfl, iteNS rfl ?_⟩⟩⟩
        exact ⟨⟨_, _, _, _, _, _, rfl⟩, (sm.trans s6).trans s7⟩
      · obtain ⟨⟨y6, y7, y2, y3, y4, y1, rfl⟩, sm⟩ := hp
        exact q H' ((hb5.new nS).same sm) ((hD5.new nS).same sm)
end
end My

namespace My
open PySem PySem.Spec PyProof.Rows L2 Sh
abbrev s_law : Stmt := topS 10
abbrev Nlaw : List Str := ["script", "at", "die", "turn", "told", "word"]
theorem sc_law : FnScope Nlaw ["script"] (defScope s_law) := ⟨rfl, rfl, rfl, by decide +kernel, rfl, by decide +kernel, by decide +kernel⟩
section
variable {P : Program} {w : World} {K : PySem.W.Frag} {mg : Str → Option Value} {base : Heap}
theorem ok_law {f fM fR fN : Addr} {fd fdM fdR fdN : FuncData} (F : Fun K "law" "law" s_law f fd)
    (G__law_numbers : FnOk P w K mg base CX0 1 fM fdM ["script", "at"] (spNumbers K)) (F__law_numbers : Fun K "_law_numbers" "_law_numbers" s_law_numbers fM fdM) (b__law_numbers : Binds K fdM ["script", "at"] []) (g__law_numbers : mg "_law_numbers" = some (.ref fM))
    (G__law_right : FnOk P w K mg base CX0 4 fR fdR ["die"] spRight) (F__law_right : Fun K "_law_right" "_law_right" s_law_right fR fdR) (b__law_right : Binds K fdR ["die"] []) (g__law_right : mg "_law_right" = some (.ref fR))
    (G_is_name : FnOk P w K mg base CX0 1 fN fdN ["value"] spName) (F_is_name : Fun K "is_name" "is_name" s_is_name fN fdN) (b_is_name : Binds K fdN ["value"] []) (g_is_name : mg "is_name" = some (.ref fN))
    (m_range : mg "range" = none) (m_len : mg "len" = none) (m_max : mg "max" = none) (m_min : mg "min" = none) :
    FnOk P w K mg base CX0 5 f fd ["script"] (spLaw K) := by
  refine F.ok sc_law (fun vs H Q E h => ?_) (fun cdv A outer s H vs Q E hr h => ?_)
  · obtain ⟨a, ns, rfl, _⟩ := h
    rfl
  · obtain ⟨a, ns, rfl, hS, h63, q⟩ := h
    refine ⟨_, (pss_cons (ps_for PassesOwn.never rfl (pi_range1 rfl m_range (pa_cons (pe_callB (call_max2 rfl) (by rfl) m_max (by decide +kernel) (pa_cons pe_int (pa_cons (pe_callB (call_min2 rfl) (by rfl) m_min (by decide +kernel) (pa_cons pe_int (pa_cons (pe_callB call_len_seq (by rfl) m_len (by decide +kernel) (pa_cons (pv 0) pa_nil)) pa_nil))) pa_nil))) pa_nil)) (pg_name (i := 1) sc_law.nd rfl (by first | exact Or.inl rfl | exact Or.inr rfl))
        (pss_cons (ps_set (i := 2) sc_law.nd rfl (by first | exact Or.inl rfl | exact Or.inr rfl) (pe_call G__law_numbers (hr.mono (by decide)) (by rfl) g__law_numbers F__law_numbers.kp b__law_numbers .nil pass0 (pa_cons (pv 0) (pa_cons (pv 1) pa_nil))))
        (pss_one (ps_for PassesOwn.never rfl (pi_range1 rfl m_range (pa_cons pe_int pa_nil)) (pg_name (i := 3) sc_law.nd rfl (by first | exact Or.inl rfl | exact Or.inr rfl))
          (pss_one (ps_if (pt_not (pt_val (pe_call G__law_right (hr.mono (by decide)) (by rfl) g__law_right F__law_right.kp b__law_right .nil pass0 (pa_cons (pv 2) pa_nil))))
            (pss_one (ps_ret pe_bl))
            pss_nil))))))
      (pss_cons (ps_setLc (i := 4) (own := [("word", 5)]) (g := gName 5) (tt := tYes) rfl sc_law.nd rfl rfl (sw_true rfl rfl rfl (by decide +kernel)) (pi_tup (pe_tup (pa_cons pe_str (pa_cons pe_str (pa_cons pe_str (pa_cons pe_str (pa_cons pe_str (pa_cons pe_str (pa_cons pe_str (pa_cons pe_str pa_nil)))))))))) (blkOk_by (N := Nlaw) (sc := defScope s_law) (by decide +kernel))
      (fun _ _ _ _ _ => pg_name (i := 5) sc_law.nd rfl (Or.inl rfl)) (fun _ _ _ _ _ => pts_nil) (fun _ _ _ _ _ => (pe_call G_is_name (hr.mono (by decide)) (by rfl) g_is_name F_is_name.kp b_is_name .nil pass0 (pa_cons (pv 5) pa_nil))))
      (pss_one (ps_ret (pe_cmpR (op_eqD hr.units) (pv 4) (pe_lst (pa_cons pe_bl (pa_cons pe_bl (pa_cons pe_bl (pa_cons pe_bl (pa_cons pe_bl (pa_cons pe_bl (pa_cons pe_bl (pa_cons pe_bl pa_nil))))))))) (nomark _)))))), ?_⟩
    have hb := turns_ok (c := 8) (n := (ns.map V.int).length) (by rw [List.length_map]; exact h63) (by decide) (by decide)
    refine ⟨.ref a, rfl, a, ns.map V.int, rfl, .inl hS, 8, _, rfl, 1, _, rfl, _, rfl, hb.1, hb.2, for_range (lo := 0)
      (fun k σ H' => (∃ y1 y2 y3 y4 y5, σ = [some (.ref a), y1, y2, y3, y4, y5]) ∧ Same H H') ⟨⟨_, _, _, _, _, rfl⟩, Same.refl H⟩ (fun k σ H' _ hp => ?_) (fun σ H' hp => ?_)⟩
    · obtain ⟨⟨y1, y2, y3, y4, y5, rfl⟩, sm⟩ := hp
      refine ⟨.ref a, rfl, _, rfl, a, ns, 0 + (k : Int), rfl, by omega, sm.seq hS, fun p x y np => ?_⟩
      have np0 : H p = none := sm.free np
      refine ⟨6, rfl, by decide, by decide, for_range (lo := 0) (n := 6)
        (fun k2 σ H2 => (∃ y1 y3 y4 y5, σ = [some (.ref a), y1, some (.ref p), y3, y4, y5]) ∧ Same H H2 ∧ DieAt H2 p) ⟨⟨_, _, _, _, rfl⟩, same_new sm np, ⟨_, _, _, upd_same⟩⟩ (fun k2 σ H2 _ hp => ?_) (fun σ H2 hp => ?_)⟩
      · obtain ⟨⟨y1, y3, y4, y5, rfl⟩, sm2, hD2⟩ := hp
        refine ⟨.ref p, rfl, p, rfl, hD2, fun H3 hb3 hD3 => ⟨true, rfl, iteF ?_⟩⟩
        exact ⟨⟨_, _, _, _, rfl⟩, Same.but sm2 np0 hb3, hD3⟩
      · obtain ⟨⟨y1, y3, y4, y5, rfl⟩, sm2, hD2⟩ := hp
        exact ⟨⟨_, _, _, _, _, rfl⟩, sm2⟩
    · obtain ⟨⟨y1, y2, y3, y4, y5, rfl⟩, sm⟩ := hp
      refine ⟨len_ok, fun t nt => ⟨t, rfl, ⟨_, .inl (.inl upd_same)⟩, fun D hD => ?_⟩⟩
      refine lc_tup (xs := [V.str "a", V.str "zzzzzzzz", V.str "aaaaaaaaa", V.str "", V.str "go", V.str "Main", V.str "a1", V.str "begin"]) (fun i H2 => H2 t = some (.tup [V.str "a", V.str "zzzzzzzz", V.str "aaaaaaaaa", V.str "", V.str "go", V.str "Main", V.str "a1", V.str "begin"]) ∧ Same (upd H' t (.tup [V.str "a", V.str "zzzzzzzz", V.str "aaaaaaaaa", V.str "", V.str "go", V.str "Main", V.str "a1", V.str "begin"])) H2 ∧ H2 D = some (.lst (([V.str "a", V.str "zzzzzzzz", V.str "aaaaaaaaa", V.str "", V.str "go", V.str "Main", V.str "a1", V.str "begin"].take i).map fun v => V.bl (nameV v)))) ⟨upd_keep upd_same hD, same_new (Same.refl _) hD, upd_same⟩ (fun i H2 _ hp => .inl (.inl hp.1)) (fun i x H2 hx hp => ?_) (fun H2 hp => ?_)
      · obtain ⟨h1, h2, h3⟩ := hp
        have hi : i < 8 := (List.getElem?_eq_some_iff.mp hx).1
        have hj : Jud H2 x := by
          have hm := List.mem_of_getElem? hx
          clear hx
          revert x
          refine all_cons (.inl ⟨_, rfl, by decide⟩) (all_cons (.inl ⟨_, rfl, by decide⟩) (all_cons (.inl ⟨_, rfl, by decide⟩) (all_cons (.inl ⟨_, rfl, by decide⟩) (all_cons (.inl ⟨_, rfl, by decide⟩) (all_cons (.inl ⟨_, rfl, by decide⟩) (all_cons (.inl ⟨_, rfl, by decide⟩) (all_cons (.inl ⟨_, rfl, by decide⟩) all_nil)))))))
        refine ⟨rfl, x, rfl, x, rfl, hj, fun H3 s3 => ⟨_, s3 _ _ h3, ?_, ?_, same_put (h2.trans s3) hD, ?_⟩⟩
        · rw [List.length_map, List.length_take]
          exact small1000 (Nat.le_trans (Nat.min_le_left _ _) (by omega))
        · refine (upd_ne ?_).trans (s3 _ _ h1)
          exact fun e => by rw [← e, upd_same] at hD; cases hD
        · rw [upd_same, List.take_add_one, hx, List.map_append]
          rfl
      · obtain ⟨h1, h2, h3⟩ := hp
        have e8 : ([V.str "a", V.str "zzzzzzzz", V.str "aaaaaaaaa", V.str "", V.str "go", V.str "Main", V.str "a1", V.str "begin"].take 8).map (fun v => V.bl (nameV v)) = [.bl true, .bl true, .bl false, .bl false, .bl true, .bl false, .bl false, .bl true] := by decide +kernel
        have h3' : H2 D = some (.lst [.bl true, .bl true, .bl false, .bl false, .bl true, .bl false, .bl false, .bl true]) := h3.trans (congrArg (fun z => some (HO.lst z)) e8)
        refine ⟨_, rfl, len_ok, fun M nM => ⟨.list [.bool true, .bool true, .bool false, .bool false, .bool true, .bool false, .bool false, .bool true], .list [.bool true, .bool true, .bool false, .bool false, .bool true, .bool false, .bool false, .bool true], .lst (.inl (.inl (upd_keep h3' nM))) ?_, .lst (.inl (.inl upd_same)) ?_, by decide, by decide, q _⟩⟩
        · exact .cons (.bl _) (.cons (.bl _) (.cons (.bl _) (.cons (.bl _) (.cons (.bl _) (.cons (.bl _) (.cons (.bl _) (.cons (.bl _) .nil)))))))
        · exact .cons (.bl _) (.cons (.bl _) (.cons (.bl _) (.cons (.bl _) (.cons (.bl _) (.cons (.bl _) (.cons (.bl _) (.cons (.bl _) .nil)))))))
end
end My

namespace My
open PySem PySem.Spec PyProof.Rows L2 Sh
theorem all_mk {l : PySem.W.OpenLaw} {w : World} {K : PySem.W.Frag} {h : Heap} {mg : Str → Option Value} {fa f0 f1 f2 f3 f4 f5 f6 f7 : Addr} (X : K.In h) (G : h.Ns mainGlobals mg) (hfa : mg "law" = some (.ref fa))
    {od0 an0 od1 an1 od2 an2 od3 an3 od4 an4 od5 an5 od6 an6 od7 an7 : Option Addr} {sl0 sl1 sl2 sl3 sl4 sl5 sl6 sl7 : Array (Option Value)} {oc0 kV0 dc0 pm0 cd0 ct0 oc1 kV1 dc1 pm1 cd1 ct1 oc2 kV2 dc2 pm2 cd2 ct2 oc3 kV3 dc3 pm3 cd3 ct3 oc4 kV4 dc4 pm4 cd4 ct4 oc5 kV5 dc5 pm5 cd5 ct5 oc6 kV6 dc6 pm6 cd6 ct6 oc7 kV7 dc7 pm7 cd7 ct7 : Value}
    {tk_LONGEST_NAME : Tok}
    (a0 : PySem.W.nsIn K mainGlobals "is_name" = some (some (.ref f0))) (l0 : K.lookup f0 = some ⟨oc0, od0, .func (PySem.W.fnOf "is_name" "is_name" (defArgs s_is_name) (defBody s_is_name) (defScope s_is_name) .none kV0 dc0 pm0 an0 cd0 ct0), sl0⟩) (c0 : PySem.W.codeIn K cd0 "is_name" = true) (k0 : PySem.W.keepIn K (.ref f0) = true)
    (a1 : PySem.W.nsIn K mainGlobals "_law_numbers" = some (some (.ref f1))) (l1 : K.lookup f1 = some ⟨oc1, od1, .func (PySem.W.fnOf "_law_numbers" "_law_numbers" (defArgs s_law_numbers) (defBody s_law_numbers) (defScope s_law_numbers) .none kV1 dc1 pm1 an1 cd1 ct1), sl1⟩) (c1 : PySem.W.codeIn K cd1 "_law_numbers" = true) (k1 : PySem.W.keepIn K (.ref f1) = true)
    (a2 : PySem.W.nsIn K mainGlobals "_law_cast" = some (some (.ref f2))) (l2 : K.lookup f2 = some ⟨oc2, od2, .func (PySem.W.fnOf "_law_cast" "_law_cast" (defArgs s_law_cast) (defBody s_law_cast) (defScope s_law_cast) .none kV2 dc2 pm2 an2 cd2 ct2), sl2⟩) (c2 : PySem.W.codeIn K cd2 "_law_cast" = true) (k2 : PySem.W.keepIn K (.ref f2) = true)
    (a3 : PySem.W.nsIn K mainGlobals "_law_pick" = some (some (.ref f3))) (l3 : K.lookup f3 = some ⟨oc3, od3, .func (PySem.W.fnOf "_law_pick" "_law_pick" (defArgs s_law_pick) (defBody s_law_pick) (defScope s_law_pick) .none kV3 dc3 pm3 an3 cd3 ct3), sl3⟩) (c3 : PySem.W.codeIn K cd3 "_law_pick" = true) (k3 : PySem.W.keepIn K (.ref f3) = true)
    (a4 : PySem.W.nsIn K mainGlobals "_law_is_word" = some (some (.ref f4))) (l4 : K.lookup f4 = some ⟨oc4, od4, .func (PySem.W.fnOf "_law_is_word" "_law_is_word" (defArgs s_law_is_word) (defBody s_law_is_word) (defScope s_law_is_word) .none kV4 dc4 pm4 an4 cd4 ct4), sl4⟩) (c4 : PySem.W.codeIn K cd4 "_law_is_word" = true) (k4 : PySem.W.keepIn K (.ref f4) = true)
    (a5 : PySem.W.nsIn K mainGlobals "_law_odd_one" = some (some (.ref f5))) (l5 : K.lookup f5 = some ⟨oc5, od5, .func (PySem.W.fnOf "_law_odd_one" "_law_odd_one" (defArgs s_law_odd_one) (defBody s_law_odd_one) (defScope s_law_odd_one) .none kV5 dc5 pm5 an5 cd5 ct5), sl5⟩) (c5 : PySem.W.codeIn K cd5 "_law_odd_one" = true) (k5 : PySem.W.keepIn K (.ref f5) = true)
    (a6 : PySem.W.nsIn K mainGlobals "_law_right" = some (some (.ref f6))) (l6 : K.lookup f6 = some ⟨oc6, od6, .func (PySem.W.fnOf "_law_right" "_law_right" (defArgs s_law_right) (defBody s_law_right) (defScope s_law_right) .none kV6 dc6 pm6 an6 cd6 ct6), sl6⟩) (c6 : PySem.W.codeIn K cd6 "_law_right" = true) (k6 : PySem.W.keepIn K (.ref f6) = true)
    (a7 : PySem.W.nsIn K mainGlobals "law" = some (some (.ref f7))) (l7 : K.lookup f7 = some ⟨oc7, od7, .func (PySem.W.fnOf "law" "law" (defArgs s_law) (defBody s_law) (defScope s_law) .none kV7 dc7 pm7 an7 cd7 ct7), sl7⟩) (c7 : PySem.W.codeIn K cd7 "law" = true) (k7 : PySem.W.keepIn K (.ref f7) = true)
    (z_isinstance : PySem.W.nsIn K mainGlobals "isinstance" = some none)
    (z_str : PySem.W.nsIn K mainGlobals "str" = some none)
    (z_len : PySem.W.nsIn K mainGlobals "len" = some none)
    (z_all : PySem.W.nsIn K mainGlobals "all" = some none)
    (z_int : PySem.W.nsIn K mainGlobals "int" = some none)
    (z_abs : PySem.W.nsIn K mainGlobals "abs" = some none)
    (z_max : PySem.W.nsIn K mainGlobals "max" = some none)
    (z_min : PySem.W.nsIn K mainGlobals "min" = some none)
    (z_range : PySem.W.nsIn K mainGlobals "range" = some none)
    (z_repr : PySem.W.nsIn K mainGlobals "repr" = some none)
    (y_LONGEST_NAME : PySem.W.nsIn K mainGlobals "LONGEST_NAME" = some (some (.int 8 tk_LONGEST_NAME)))
    : ∃ fd : FuncData, (∀ (s : Shared) (v : Value), BindsTo s fd ⟨[v], []⟩ [("script", v)]) ∧ ∀ base : Heap, K.In base → base.Ns mainGlobals mg → FnOk l.prog w K mg base CX0 5 fa fd ["script"] (spLaw K) := by
  have e := hfa.symm.trans (PySem.W.mg_of X G a7)
  cases e
  have F_is_name := fun_mk (st := s_is_name) l0 c0 k0
  have b_is_name := F_is_name.binds (ps := ["value"]) fun _ _ _ _ _ _ us hl => match us, hl with | [_], _ => rfl
  have g_is_name := PySem.W.mg_of X G a0
  have F__law_numbers := fun_mk (st := s_law_numbers) l1 c1 k1
  have b__law_numbers := F__law_numbers.binds (ps := ["script", "at"]) fun _ _ _ _ _ _ us hl => match us, hl with | [_, _], _ => rfl
  have g__law_numbers := PySem.W.mg_of X G a1
  have F__law_cast := fun_mk (st := s_law_cast) l2 c2 k2
  have b__law_cast := F__law_cast.binds (ps := ["die", "total"]) fun _ _ _ _ _ _ us hl => match us, hl with | [_, _], _ => rfl
  have g__law_cast := PySem.W.mg_of X G a2
  have F__law_pick := fun_mk (st := s_law_pick) l3 c3 k3
  have b__law_pick := F__law_pick.binds (ps := ["die", "items"]) fun _ _ _ _ _ _ us hl => match us, hl with | [_, _], _ => rfl
  have g__law_pick := PySem.W.mg_of X G a3
  have F__law_is_word := fun_mk (st := s_law_is_word) l4 c4 k4
  have b__law_is_word := F__law_is_word.binds (ps := ["value"]) fun _ _ _ _ _ _ us hl => match us, hl with | [_], _ => rfl
  have g__law_is_word := PySem.W.mg_of X G a4
  have F__law_odd_one := fun_mk (st := s_law_odd_one) l5 c5 k5
  have b__law_odd_one := F__law_odd_one.binds (ps := ["die"]) fun _ _ _ _ _ _ us hl => match us, hl with | [_], _ => rfl
  have g__law_odd_one := PySem.W.mg_of X G a5
  have F__law_right := fun_mk (st := s_law_right) l6 c6 k6
  have b__law_right := F__law_right.binds (ps := ["die"]) fun _ _ _ _ _ _ us hl => match us, hl with | [_], _ => rfl
  have g__law_right := PySem.W.mg_of X G a6
  have F_law := fun_mk (st := s_law) l7 c7 k7
  have b_law := F_law.binds (ps := ["script"]) fun _ _ _ _ _ _ us hl => match us, hl with | [_], _ => rfl
  have g_law := PySem.W.mg_of X G a7
  have m_isinstance := PySem.W.mg_none_of X G z_isinstance
  have m_str := PySem.W.mg_none_of X G z_str
  have m_len := PySem.W.mg_none_of X G z_len
  have m_all := PySem.W.mg_none_of X G z_all
  have m_int := PySem.W.mg_none_of X G z_int
  have m_abs := PySem.W.mg_none_of X G z_abs
  have m_max := PySem.W.mg_none_of X G z_max
  have m_min := PySem.W.mg_none_of X G z_min
  have m_range := PySem.W.mg_none_of X G z_range
  have m_repr := PySem.W.mg_none_of X G z_repr
  have g_LONGEST_NAME := PySem.W.mg_of X G y_LONGEST_NAME
  refine ⟨PySem.W.fnOf "law" "law" (defArgs s_law) (defBody s_law) (defScope s_law) .none kV7 dc7 pm7 an7 cd7 ct7, fun s v => .of_eq rfl, fun base _ _ => ?_⟩
  have G__law_numbers : FnOk l.prog w K mg base CX0 1 _ _ ["script", "at"] (spNumbers K) := ok_numbers F__law_numbers m_len m_int m_abs m_max
  have G__law_cast : FnOk l.prog w K mg base CX0 1 _ _ ["die", "total"] spCast := ok_cast F__law_cast m_int
  have G__law_pick : FnOk l.prog w K mg base CX0 2 _ _ ["die", "items"] (spPick K) := ok_pick F__law_pick F__law_cast b__law_cast g__law_cast m_len m_int
  have G__law_odd_one : FnOk l.prog w K mg base CX0 3 _ _ ["die"] spOdd := ok_odd_one F__law_odd_one G__law_pick F__law_pick b__law_pick g__law_pick
  have G_is_name : FnOk l.prog w K mg base CX0 1 _ _ ["value"] spName := ok_is_name F_is_name m_isinstance m_str m_len m_all g_LONGEST_NAME
  have G__law_is_word : FnOk l.prog w K mg base CX0 1 _ _ ["value"] spName := ok__law_is_word F__law_is_word m_isinstance m_str m_len
  have G__law_right : FnOk l.prog w K mg base CX0 4 _ _ ["die"] spRight := ok_right F__law_right G__law_cast F__law_cast b__law_cast g__law_cast G__law_pick F__law_pick b__law_pick g__law_pick G__law_odd_one F__law_odd_one b__law_odd_one g__law_odd_one G_is_name F_is_name b_is_name g_is_name G__law_is_word F__law_is_word b__law_is_word g__law_is_word m_range m_len m_repr
  exact ok_law F_law G__law_numbers F__law_numbers b__law_numbers g__law_numbers G__law_right F__law_right b__law_right g__law_right G_is_name F_is_name b_is_name g_is_name m_range m_len m_max m_min
end My
open PySem PySem.W PyProof.Rows
set_option maxHeartbeats 0 in
theorem PySem.Challenge.cw_postedbag_k01_names_holds : PySem.Challenge.rw_postedbag_k01_names.Holds := by
  w_on; o_law; k_head; (case hw => w_witness2)
  k_fill
  refine L2.walk_of (l := PySem.Challenge.rw_postedbag_k01_names) (n := 63) (k := 5) (x := "script") (CX := fun _ => L2.CX0) (sp := fun w => Sh.spLaw _) rfl (by decide) rfl ⟨rfl, by decide, by decide⟩ (fun w h Y => PySem.W.kIn_of Y) ?F (fun _ _ a ns hl _ hS => ⟨a, ns, rfl, hS, hl, fun _ => rfl⟩) (fun _ _ _ _ _ h => h)
  case F =>
    intro w mg fa h KX G hmg
    refine' My.all_mk KX G hmg ?a0 ?l0 ?c0 ?k0 ?a1 ?l1 ?c1 ?k1 ?a2 ?l2 ?c2 ?k2 ?a3 ?l3 ?c3 ?k3 ?a4 ?l4 ?c4 ?k4 ?a5 ?l5 ?c5 ?k5 ?a6 ?l6 ?c6 ?k6 ?a7 ?l7 ?c7 ?k7 ?z_isinstance ?z_str ?z_len ?z_all ?z_int ?z_abs ?z_max ?z_min ?z_range ?z_repr ?y_LONGEST_NAME
    (case a0 => k_is); (case l0 => k_is); (case c0 => k_is); (case k0 => k_is); (case a1 => k_is); (case l1 => k_is); (case c1 => k_is); (case k1 => k_is); (case a2 => k_is); (case l2 => k_is); (case c2 => k_is); (case k2 => k_is); (case a3 => k_is); (case l3 => k_is); (case c3 => k_is); (case k3 => k_is); (case a4 => k_is); (case l4 => k_is); (case c4 => k_is); (case k4 => k_is); (case a5 => k_is); (case l5 => k_is); (case c5 => k_is); (case k5 => k_is); (case a6 => k_is); (case l6 => k_is); (case c6 => k_is); (case k6 => k_is); (case a7 => k_is); (case l7 => k_is); (case c7 => k_is); (case k7 => k_is); (case z_isinstance => k_is); (case z_str => k_is); (case z_len => k_is); (case z_all => k_is); (case z_int => k_is); (case z_abs => k_is); (case z_max => k_is); (case z_min => k_is); (case z_range => k_is); (case z_repr => k_is); (case y_LONGEST_NAME => k_is)
