/- Kinds of bytes, as the program asks for them; lex.run at each of them. -/
import Derived.Test.YtbeckfamnhfaeaaGreatDoorRd
namespace Go.Proofs.YtbeckfamnhfaeaaGreatDoor
open Go.RowKit

theorem ret_bool {a b : Bool} (h : a = b) : Ending.returned (.bool a) = .returned (.bool b) := by rw [h]
set_option maxHeartbeats 1000000 in
theorem blank_is (c : UInt8) (r : Bool) (w : World) (h : blB c = r) : Calls Tryz.prog 23 #[.int .u8 (c.toNat : Int)] w fun e w' => e = .returned (.bool r) ∧ w = w' := by
  subst h
  unfold blB
  have hc := c.toNat_lt
  generalize c.toNat = n at *
  go_enter Tryz.func23, Tryz.ntmps23
  go_wp2
  all_goals go_ret
  all_goals exact ⟨ret_bool (by unfold blkB; rw [Bool.eq_iff_iff]; simp; omega), rfl⟩
set_option maxHeartbeats 1000000 in
theorem letter_is (c : UInt8) (r : Bool) (w : World) (h : ltB c = r) : Calls Tryz.prog 26 #[.int .u8 (c.toNat : Int)] w fun e w' => e = .returned (.bool r) ∧ w = w' := by
  subst h
  unfold ltB
  have hc := c.toNat_lt
  generalize c.toNat = n at *
  go_enter Tryz.func26, Tryz.ntmps26
  go_wp2
  all_goals go_ret
  all_goals exact ⟨ret_bool (by rw [Bool.eq_iff_iff]; simp; omega), rfl⟩
set_option maxHeartbeats 1000000 in
theorem digit_is (c : UInt8) (r : Bool) (w : World) (h : dgB c = r) : Calls Tryz.prog 28 #[.int .u8 (c.toNat : Int)] w fun e w' => e = .returned (.bool r) ∧ w = w' := by
  subst h
  unfold dgB
  have hc := c.toNat_lt
  generalize c.toNat = n at *
  go_enter Tryz.func28, Tryz.ntmps28
  go_wp2
  all_goals go_ret
  all_goals exact ⟨ret_bool (by rw [Bool.eq_iff_iff]; simp; omega), rfl⟩
set_option maxHeartbeats 1000000 in
theorem quote_is (c : UInt8) (r : Bool) (w : World) (h : quB c = r) : Calls Tryz.prog 31 #[.int .u8 (c.toNat : Int)] w fun e w' => e = .returned (.bool r) ∧ w = w' := by
  subst h
  unfold quB
  have hc := c.toNat_lt
  generalize c.toNat = n at *
  go_enter Tryz.func31, Tryz.ntmps31
  go_wp2
  all_goals go_ret
  all_goals exact ⟨ret_bool (by rw [Bool.eq_iff_iff]; simp; omega), rfl⟩
set_option maxHeartbeats 1000000 in
theorem name_is (c : UInt8) (r : Bool) (w : World) (h : nmB c = r) : Calls Tryz.prog 46 #[.int .u8 (c.toNat : Int)] w fun e w' => e = .returned (.bool r) ∧ w = w' := by
  unfold nmB at h
  cases e1 : ltB c <;> cases e2 : dgB c <;> rw [e1, e2] at h <;> subst h <;>
    (have L1 := Lib.hid (fun W => letter_is c _ W e1)
     have L2 := Lib.hid (fun W => digit_is c _ W e2)
     clear e1 e2
     go_enter Tryz.func46, Tryz.ntmps46
     go_wp2_with (first
       | (go_at_call 26; refine (L1.out _).mono ?_; rintro e w' ⟨rfl, rfl⟩)
       | (go_at_call 28; refine (L2.out _).mono ?_; rintro e w' ⟨rfl, rfl⟩))
     go_ret
     exact ⟨rfl, rfl⟩)
set_option maxHeartbeats 1000000 in
theorem number_is (c : UInt8) (r : Bool) (w : World) (h : nuB c = r) : Calls Tryz.prog 30 #[.int .u8 (c.toNat : Int)] w fun e w' => e = .returned (.bool r) ∧ w = w' := by
  unfold nuB at h
  cases e1 : nmB c <;> rw [e1] at h
  · have L1 := Lib.hid (fun W => name_is c _ W e1)
    clear e1
    subst h
    go_enter Tryz.func30, Tryz.ntmps30
    go_wp2_with (go_at_call 46; refine (L1.out _).mono ?_; rintro e w' ⟨rfl, rfl⟩)
    go_ret
    exact ⟨ret_bool (by rw [Bool.eq_iff_iff]; simp; omega), rfl⟩
  · have L1 := Lib.hid (fun W => name_is c _ W e1)
    clear e1
    subst h
    go_enter Tryz.func30, Tryz.ntmps30
    go_wp2_with (go_at_call 46; refine (L1.out _).mono ?_; rintro e w' ⟨rfl, rfl⟩)
    go_ret
    exact ⟨rfl, rfl⟩
set_option maxHeartbeats 1000000 in
theorem hex_is (c : UInt8) (r : Bool) (w : World) (h : hxB c = r) : Calls Tryz.prog 67 #[.int .u8 (c.toNat : Int)] w fun e w' => e = .returned (.bool r) ∧ w = w' := by
  unfold hxB at h
  cases e1 : dgB c <;> rw [e1] at h
  · have L1 := Lib.hid (fun W => digit_is c _ W e1)
    clear e1
    subst h
    have hc := c.toNat_lt
    generalize c.toNat = n at *
    go_enter Tryz.func67, Tryz.ntmps67
    go_wp2_with (go_at_call 28; refine (L1.out _).mono ?_; rintro e w' ⟨rfl, rfl⟩)
    all_goals go_ret
    all_goals exact ⟨ret_bool (by rw [Bool.eq_iff_iff]; simp; omega), rfl⟩
  · have L1 := Lib.hid (fun W => digit_is c _ W e1)
    clear e1
    subst h
    go_enter Tryz.func67, Tryz.ntmps67
    go_wp2_with (go_at_call 28; refine (L1.out _).mono ?_; rintro e w' ⟨rfl, rfl⟩)
    go_ret
    exact ⟨rfl, rfl⟩
end Go.Proofs.YtbeckfamnhfaeaaGreatDoor
