/- tree.given, opRight, countRight, namesRight, fieldsRight: a node's fields. -/
import Derived.Test.YtjlpklhibdkmeaaGreatDoorFld
namespace Go.Proofs.YtjlpklhibdkmeaaGreatDoor
open Go.RowKit

def opK (k op : Int) : Bool := if k = 12 then decide (1 ≤ op) && decide (op ≤ 19) else if k = 13 then decide (20 ≤ op) && decide (op ≤ 23) else true
def countK (k n : Int) : Bool := if k = 11 then n == 0 || n == 1 else if k = 20 ∨ k = 27 then decide (1 ≤ n) else true
def namesK (k : Int) (n : Nat) : Bool := if k = 19 ∨ k = 27 then decide (1 ≤ n) else if k = 26 ∨ k = 28 then decide (n = 1) else true
def giv4 (a b c d : Bool) : Int :=
  let x := if a then bits .or .i64 0 1 else 0
  let y := if b then bits .or .i64 x 2 else x
  let z := if c then bits .or .i64 y 4 else y
  if d then bits .or .i64 z 8 else z
def givK (x : Nd) : Int := giv4 (x.op != 0) (x.num != 0) (!x.s.toList.isEmpty) (decide (0 < x.names.length))
set_option maxHeartbeats 2000000 in
theorem opR_any (x : Nd) (A B : Option Addr) (a c b d : Nat) (w : World) : Calls Tryz.prog 20 #[nodeV x (.slice A a c) (.slice B b d)] w fun e w' => e = .returned (.bool (opK x.kind x.op)) ∧ Below w.heap.size w w' := by
  obtain ⟨kind, line, op, num, s, names, kids⟩ := x
  unfold nodeV
  simp only
  go_enter Tryz.func20, Tryz.ntmps20
  go_wp2_with fail
  all_goals
    go_ret
    refine ⟨ret_bool ?_, b_alloc w _⟩
    simp only [opK]
    simp_all
    try omega
set_option maxHeartbeats 2000000 in
theorem countR_any (x : Nd) (A B : Option Addr) (a c b d : Nat) (w : World) : Calls Tryz.prog 21 #[nodeV x (.slice A a c) (.slice B b d)] w fun e w' => e = .returned (.bool (countK x.kind x.num)) ∧ Below w.heap.size w w' := by
  obtain ⟨kind, line, op, num, s, names, kids⟩ := x
  unfold nodeV
  simp only
  go_enter Tryz.func21, Tryz.ntmps21
  go_wp2_with fail
  all_goals
    go_ret
    refine ⟨ret_bool ?_, b_alloc w _⟩
    simp only [countK]
    simp_all
    try omega
set_option maxHeartbeats 2000000 in
theorem namesR_any (x : Nd) (A B : Option Addr) (c b d : Nat) (w : World) : Calls Tryz.prog 22 #[nodeV x (.slice A x.names.length c) (.slice B b d)] w fun e w' => e = .returned (.bool (namesK x.kind x.names.length)) ∧ Below w.heap.size w w' := by
  obtain ⟨kind, line, op, num, s, names, kids⟩ := x
  unfold nodeV
  simp only
  generalize names.length = a
  go_enter Tryz.func22, Tryz.ntmps22
  go_wp2_with fail
  all_goals
    go_ret
    refine ⟨ret_bool ?_, b_alloc w _⟩
    simp only [namesK]
    first
      | (simp_all; done)
      | (simp_all; omega)
      | (simp_all; rw [Bool.eq_iff_iff]; simp; omega)
set_option maxHeartbeats 4000000 in
theorem given_any (x : Nd) (A B : Option Addr) (c b d : Nat) (w : World) : Calls Tryz.prog 18 #[nodeV x (.slice A x.names.length c) (.slice B b d)] w fun e w' => e = .returned (.int .i64 (givK x)) ∧ Below w.heap.size w w' := by
  obtain ⟨kind, line, op, num, s, names, kids⟩ := x
  unfold nodeV
  unfold givK
  simp only
  generalize names.length = a
  cases e1 : (op != 0) <;> cases e2 : (num != 0) <;> cases e3 : s.toList.isEmpty <;> by_cases e4 : 0 < a
  all_goals
    first
      | rw [decide_eq_true e4]
      | rw [decide_eq_false e4]
    simp only [giv4, Bool.not_true, Bool.not_false, if_true, Bool.false_eq_true, if_false]
    go_enter Tryz.func18, Tryz.ntmps18
    go_wp2_with fail
    go_ret
    exact ⟨rfl, b_alloc w _⟩
end Go.Proofs.YtjlpklhibdkmeaaGreatDoor
