/- str.bound, first, last, Sub and the document's first: plain functions of places and lists. -/
import Derived.Test.YtnpmnielknmboaaGreatDoorRows
import Derived.Test.YtnpmnielknmboaaGreatDoorSSMath
import Derived.WalkKit
import Derived.WalkSpells
import Derived.WalkLawsBesides
import Derived.Lib.QuietBelow
import Derived.BigQuiet
import Derived.Lib.Hide
import Derived.IntWalk
namespace Go.Proofs.YtnpmnielknmboaaGreatDoor
open Go.RowKit Go.Sort

theorem ret_i64 {a b : Int} (h : a = b) : Ending.returned (.int .i64 a) = .returned (.int .i64 b) := by rw [h]
theorem ret_str {a b : ByteArray} (h : a = b) : Ending.returned (.string a) = .returned (.string b) := by rw [h]

set_option maxHeartbeats 400000 in
theorem bound_any (m : Int) (w : World) (h : m ≤ 2147483647) : Calls Tryz.prog 29 #[.int .i64 m] w fun e w' => e = .returned (.int .i64 (max 0 m)) ∧ w = w' := by
  go_enter Tryz.func29, Tryz.ntmps29
  go_wp2
  all_goals
    go_ret
    exact ⟨ret_i64 (by omega), rfl⟩

set_option maxHeartbeats 400000 in
theorem first_any (i : Int) (n : Nat) (w : World) (h0 : -9223372036854775808 ≤ i) (h1 : i ≤ 9223372036854775807) (hn : n ≤ 140737488355328) :
    Calls Tryz.prog 22 #[.int .i64 i, .int .i64 (n : Int)] w fun e w' => e = .returned (.int .i64 (fstP i n)) ∧ w = w' := by
  by_cases hi : i < 0
  all_goals
    go_enter Tryz.func22, Tryz.ntmps22
    go_wp2
    all_goals
      go_ret
      exact ⟨ret_i64 (by unfold fstP; split <;> omega), rfl⟩

set_option maxHeartbeats 400000 in
theorem rfirst_any (i : Int) (n : Nat) (w : World) (h0 : -9223372036854775808 ≤ i) (h1 : i ≤ 9223372036854775807) (hn : n ≤ 140737488355328) :
    Calls Tryz.prog 24 #[.int .i64 (n : Int), .int .i64 i] w fun e w' => e = .returned (.int .i64 (fstP i n)) ∧ w = w' := by
  by_cases hi : i < 0
  all_goals
    go_enter Tryz.func24, Tryz.ntmps24
    go_wp2
    all_goals
      go_ret
      exact ⟨ret_i64 (by unfold fstP; split <;> omega), rfl⟩

set_option maxHeartbeats 400000 in
theorem last_any (j : Int) (n : Nat) (w : World) (h0 : -9223372036854775808 ≤ j) (h1 : j ≤ 9223372036854775807) (hn : n ≤ 140737488355328) :
    Calls Tryz.prog 23 #[.int .i64 j, .int .i64 (n : Int)] w fun e w' => e = .returned (.int .i64 (lstP j n)) ∧ w = w' := by
  by_cases hi : j < 0
  all_goals
    go_enter Tryz.func23, Tryz.ntmps23
    go_wp2
    all_goals
      go_ret
      exact ⟨ret_i64 (by unfold lstP; split <;> omega), rfl⟩

theorem slice_mid (s : ByteArray) (a b : Nat) : s.extract a b = ⟨((s.data.toList.take b).drop a).toArray⟩ := by
  apply ByteArray.ext
  rw [ByteArray.data_extract]
  apply Array.ext'
  simp [List.drop_take, List.extract_eq_take_drop]
theorem slice_end (s : ByteArray) (a : Nat) : s.extract a s.size = ⟨(s.data.toList.drop a).toArray⟩ := by
  rw [slice_mid, List.take_of_length_le (by simp)]

set_option maxHeartbeats 400000 in
theorem sub_any (s : ByteArray) (i j : Int) (w : World) (hs : s.size ≤ 140737488355328) (h0 : -9223372036854775808 ≤ i) (h1 : i ≤ 9223372036854775807) (g0 : -9223372036854775808 ≤ j) (g1 : j ≤ 9223372036854775807) :
    Calls Tryz.prog 7 #[.string s, .int .i64 i, .int .i64 j] w fun e w' => e = .returned (.string ⟨(subL s.data.toList i j).toArray⟩) ∧ w = w' := by
  have hf := fst_ge i s.size
  have hl := lst_le j s.size
  by_cases hc : lstP j s.size < fstP i s.size
  · have HC := Lib.hid (sub_none (l := s.data.toList) (i := i) (j := j) (by rw [← Lib.size_eq]; exact hc))
    go_enter Tryz.func7, Tryz.ntmps7
    go_wp2_with (first
      | (go_at_call 22; refine (first_any _ _ _ h0 h1 hs).mono ?_; rintro e w' ⟨rfl, rfl⟩)
      | (go_at_call 23; refine (last_any _ _ _ g0 g1 hs).mono ?_; rintro e w' ⟨rfl, rfl⟩))
    go_ret
    exact ⟨ret_str (by rw [HC.out]), rfl⟩
  · have HC := Lib.hid (sub_some (l := s.data.toList) (i := i) (j := j) (by rw [← Lib.size_eq]; exact hc))
    go_enter Tryz.func7, Tryz.ntmps7
    go_wp2_with (first
      | (go_at_call 22; refine (first_any _ _ _ h0 h1 hs).mono ?_; rintro e w' ⟨rfl, rfl⟩)
      | (go_at_call 23; refine (last_any _ _ _ g0 g1 hs).mono ?_; rintro e w' ⟨rfl, rfl⟩))
    go_ret
    exact ⟨ret_str (by rw [HC.out, ← Lib.size_eq, slice_mid, show (fstP i s.size).toNat - 1 = (fstP i s.size - 1).toNat from by omega]), rfl⟩
end Go.Proofs.YtnpmnielknmboaaGreatDoor
