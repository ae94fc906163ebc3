/- lex.run at each kind of bytes: how many of them a text begins with. -/
import Derived.Test.YtbeckfamnhfaeaaGreatDoorKd
namespace Go.Proofs.YtbeckfamnhfaeaaGreatDoor
open Go.RowKit

theorem run_more {p : UInt8 → Bool} {l : List UInt8} {k : Nat} {c : UInt8} (h : k ≤ runN p l) (hc : l[k]? = some c) (hp : p c = true) : k + 1 ≤ runN p l := by
  induction l generalizing k with
  | nil => simp at hc
  | cons a t ih =>
    unfold runN at *
    cases k with
    | zero =>
      simp at hc
      subst hc
      simp [hp]
    | succ k =>
      cases e : p a
      · simp [e] at h
      · simp [e] at h ⊢
        exact ih h (by simpa using hc)
theorem run_stop {p : UInt8 → Bool} {l : List UInt8} {k : Nat} {c : UInt8} (h : k ≤ runN p l) (hc : l[k]? = some c) (hp : p c = false) : k = runN p l := by
  induction l generalizing k with
  | nil => simp at hc
  | cons a t ih =>
    unfold runN at *
    cases k with
    | zero =>
      simp at hc
      subst hc
      simp [hp]
    | succ k =>
      cases e : p a
      · simp [e] at h
      · simp [e] at h ⊢
        exact ih h (by simpa using hc)
theorem ret_i64 {a b : Int} (h : a = b) : Ending.returned (.int .i64 a) = .returned (.int .i64 b) := by rw [h]

set_option maxHeartbeats 1000000 in
theorem run_blank (s : ByteArray) (w : World) (hs : s.size ≤ 100000) : Calls Tryz.prog 21 #[.string s, .func (.func 23) #[] #[]] w fun e w' => e = .returned (.int .i64 (runN blB s.data.toList : Int)) ∧ w = w' := by
  have hle : runN blB s.data.toList ≤ s.size := by
    have := run_le blB s.data.toList
    rwa [← Lib.size_eq] at this
  obtain ⟨m, hm⟩ : ∃ m : Nat, m = runN blB s.data.toList := ⟨_, rfl⟩
  rw [← hm] at hle ⊢
  have HM := Lib.hid hm
  clear hm
  go_enter Tryz.func21, Tryz.ntmps21
  go_wp2_with fail
  go_loop [5] (fun i => ∃ k : Nat, k ≤ m ∧ i = .int .i64 k) (fun i => s.size - (intOf i).toNat)
  case atStart => exact ⟨0, Nat.zero_le _, rfl⟩
  case round =>
    obtain ⟨k, hk, rfl⟩ := hrel
    by_cases hlt : k < s.size
    · have hg : s.data.toList[k]? = some s[k] := List.getElem?_eq_getElem (l := s.data.toList) (i := k) (by simpa using hlt)
      cases e : blB s[k]
      · have hstop := run_stop (by rw [← HM.out]; exact hk) hg e
        have HK := Lib.hid (fun W => blank_is s[k] _ W e)
        clear hg e
        have HS := Lib.hid (hstop.trans HM.out.symm)
        clear hstop
        go_wp2_with (go_at_call 23; refine (HK.out _).mono ?_; rintro e w' ⟨rfl, rfl⟩)
        go_ret
        exact ⟨ret_i64 (by rw [HS.out]), rfl⟩
      · have hmore := run_more (by rw [← HM.out]; exact hk) hg e
        have HK := Lib.hid (fun W => blank_is s[k] _ W e)
        clear hg e
        rw [← HM.out] at hmore
        go_wp2_with (go_at_call 23; refine (HK.out _).mono ?_; rintro e w' ⟨rfl, rfl⟩)
        go_round
        case rel => exact ⟨k + 1, hmore, by go_num⟩
        case measure => simp [intOf]; omega
    · have hkm : k = m := by omega
      go_wp2_with fail
      go_ret
      exact ⟨ret_i64 (by omega), rfl⟩

set_option maxHeartbeats 1000000 in
theorem run_name (s : ByteArray) (w : World) (hs : s.size ≤ 100000) : Calls Tryz.prog 21 #[.string s, .func (.func 46) #[] #[]] w fun e w' => e = .returned (.int .i64 (runN nmB s.data.toList : Int)) ∧ w = w' := by
  have hle : runN nmB s.data.toList ≤ s.size := by
    have := run_le nmB s.data.toList
    rwa [← Lib.size_eq] at this
  obtain ⟨m, hm⟩ : ∃ m : Nat, m = runN nmB s.data.toList := ⟨_, rfl⟩
  rw [← hm] at hle ⊢
  have HM := Lib.hid hm
  clear hm
  go_enter Tryz.func21, Tryz.ntmps21
  go_wp2_with fail
  go_loop [5] (fun i => ∃ k : Nat, k ≤ m ∧ i = .int .i64 k) (fun i => s.size - (intOf i).toNat)
  case atStart => exact ⟨0, Nat.zero_le _, rfl⟩
  case round =>
    obtain ⟨k, hk, rfl⟩ := hrel
    by_cases hlt : k < s.size
    · have hg : s.data.toList[k]? = some s[k] := List.getElem?_eq_getElem (l := s.data.toList) (i := k) (by simpa using hlt)
      cases e : nmB s[k]
      · have hstop := run_stop (by rw [← HM.out]; exact hk) hg e
        have HK := Lib.hid (fun W => name_is s[k] _ W e)
        clear hg e
        have HS := Lib.hid (hstop.trans HM.out.symm)
        clear hstop
        go_wp2_with (go_at_call 46; refine (HK.out _).mono ?_; rintro e w' ⟨rfl, rfl⟩)
        go_ret
        exact ⟨ret_i64 (by rw [HS.out]), rfl⟩
      · have hmore := run_more (by rw [← HM.out]; exact hk) hg e
        have HK := Lib.hid (fun W => name_is s[k] _ W e)
        clear hg e
        rw [← HM.out] at hmore
        go_wp2_with (go_at_call 46; refine (HK.out _).mono ?_; rintro e w' ⟨rfl, rfl⟩)
        go_round
        case rel => exact ⟨k + 1, hmore, by go_num⟩
        case measure => simp [intOf]; omega
    · have hkm : k = m := by omega
      go_wp2_with fail
      go_ret
      exact ⟨ret_i64 (by omega), rfl⟩

set_option maxHeartbeats 1000000 in
theorem run_number (s : ByteArray) (w : World) (hs : s.size ≤ 100000) : Calls Tryz.prog 21 #[.string s, .func (.func 30) #[] #[]] w fun e w' => e = .returned (.int .i64 (runN nuB s.data.toList : Int)) ∧ w = w' := by
  have hle : runN nuB s.data.toList ≤ s.size := by
    have := run_le nuB s.data.toList
    rwa [← Lib.size_eq] at this
  obtain ⟨m, hm⟩ : ∃ m : Nat, m = runN nuB s.data.toList := ⟨_, rfl⟩
  rw [← hm] at hle ⊢
  have HM := Lib.hid hm
  clear hm
  go_enter Tryz.func21, Tryz.ntmps21
  go_wp2_with fail
  go_loop [5] (fun i => ∃ k : Nat, k ≤ m ∧ i = .int .i64 k) (fun i => s.size - (intOf i).toNat)
  case atStart => exact ⟨0, Nat.zero_le _, rfl⟩
  case round =>
    obtain ⟨k, hk, rfl⟩ := hrel
    by_cases hlt : k < s.size
    · have hg : s.data.toList[k]? = some s[k] := List.getElem?_eq_getElem (l := s.data.toList) (i := k) (by simpa using hlt)
      cases e : nuB s[k]
      · have hstop := run_stop (by rw [← HM.out]; exact hk) hg e
        have HK := Lib.hid (fun W => number_is s[k] _ W e)
        clear hg e
        have HS := Lib.hid (hstop.trans HM.out.symm)
        clear hstop
        go_wp2_with (go_at_call 30; refine (HK.out _).mono ?_; rintro e w' ⟨rfl, rfl⟩)
        go_ret
        exact ⟨ret_i64 (by rw [HS.out]), rfl⟩
      · have hmore := run_more (by rw [← HM.out]; exact hk) hg e
        have HK := Lib.hid (fun W => number_is s[k] _ W e)
        clear hg e
        rw [← HM.out] at hmore
        go_wp2_with (go_at_call 30; refine (HK.out _).mono ?_; rintro e w' ⟨rfl, rfl⟩)
        go_round
        case rel => exact ⟨k + 1, hmore, by go_num⟩
        case measure => simp [intOf]; omega
    · have hkm : k = m := by omega
      go_wp2_with fail
      go_ret
      exact ⟨ret_i64 (by omega), rfl⟩

set_option maxHeartbeats 1000000 in
theorem run_digit (s : ByteArray) (w : World) (hs : s.size ≤ 100000) : Calls Tryz.prog 21 #[.string s, .func (.func 28) #[] #[]] w fun e w' => e = .returned (.int .i64 (runN dgB s.data.toList : Int)) ∧ w = w' := by
  have hle : runN dgB s.data.toList ≤ s.size := by
    have := run_le dgB s.data.toList
    rwa [← Lib.size_eq] at this
  obtain ⟨m, hm⟩ : ∃ m : Nat, m = runN dgB s.data.toList := ⟨_, rfl⟩
  rw [← hm] at hle ⊢
  have HM := Lib.hid hm
  clear hm
  go_enter Tryz.func21, Tryz.ntmps21
  go_wp2_with fail
  go_loop [5] (fun i => ∃ k : Nat, k ≤ m ∧ i = .int .i64 k) (fun i => s.size - (intOf i).toNat)
  case atStart => exact ⟨0, Nat.zero_le _, rfl⟩
  case round =>
    obtain ⟨k, hk, rfl⟩ := hrel
    by_cases hlt : k < s.size
    · have hg : s.data.toList[k]? = some s[k] := List.getElem?_eq_getElem (l := s.data.toList) (i := k) (by simpa using hlt)
      cases e : dgB s[k]
      · have hstop := run_stop (by rw [← HM.out]; exact hk) hg e
        have HK := Lib.hid (fun W => digit_is s[k] _ W e)
        clear hg e
        have HS := Lib.hid (hstop.trans HM.out.symm)
        clear hstop
        go_wp2_with (go_at_call 28; refine (HK.out _).mono ?_; rintro e w' ⟨rfl, rfl⟩)
        go_ret
        exact ⟨ret_i64 (by rw [HS.out]), rfl⟩
      · have hmore := run_more (by rw [← HM.out]; exact hk) hg e
        have HK := Lib.hid (fun W => digit_is s[k] _ W e)
        clear hg e
        rw [← HM.out] at hmore
        go_wp2_with (go_at_call 28; refine (HK.out _).mono ?_; rintro e w' ⟨rfl, rfl⟩)
        go_round
        case rel => exact ⟨k + 1, hmore, by go_num⟩
        case measure => simp [intOf]; omega
    · have hkm : k = m := by omega
      go_wp2_with fail
      go_ret
      exact ⟨ret_i64 (by omega), rfl⟩

set_option maxHeartbeats 1000000 in
theorem run_hex (s : ByteArray) (w : World) (hs : s.size ≤ 100000) : Calls Tryz.prog 21 #[.string s, .func (.func 67) #[] #[]] w fun e w' => e = .returned (.int .i64 (runN hxB s.data.toList : Int)) ∧ w = w' := by
  have hle : runN hxB s.data.toList ≤ s.size := by
    have := run_le hxB s.data.toList
    rwa [← Lib.size_eq] at this
  obtain ⟨m, hm⟩ : ∃ m : Nat, m = runN hxB s.data.toList := ⟨_, rfl⟩
  rw [← hm] at hle ⊢
  have HM := Lib.hid hm
  clear hm
  go_enter Tryz.func21, Tryz.ntmps21
  go_wp2_with fail
  go_loop [5] (fun i => ∃ k : Nat, k ≤ m ∧ i = .int .i64 k) (fun i => s.size - (intOf i).toNat)
  case atStart => exact ⟨0, Nat.zero_le _, rfl⟩
  case round =>
    obtain ⟨k, hk, rfl⟩ := hrel
    by_cases hlt : k < s.size
    · have hg : s.data.toList[k]? = some s[k] := List.getElem?_eq_getElem (l := s.data.toList) (i := k) (by simpa using hlt)
      cases e : hxB s[k]
      · have hstop := run_stop (by rw [← HM.out]; exact hk) hg e
        have HK := Lib.hid (fun W => hex_is s[k] _ W e)
        clear hg e
        have HS := Lib.hid (hstop.trans HM.out.symm)
        clear hstop
        go_wp2_with (go_at_call 67; refine (HK.out _).mono ?_; rintro e w' ⟨rfl, rfl⟩)
        go_ret
        exact ⟨ret_i64 (by rw [HS.out]), rfl⟩
      · have hmore := run_more (by rw [← HM.out]; exact hk) hg e
        have HK := Lib.hid (fun W => hex_is s[k] _ W e)
        clear hg e
        rw [← HM.out] at hmore
        go_wp2_with (go_at_call 67; refine (HK.out _).mono ?_; rintro e w' ⟨rfl, rfl⟩)
        go_round
        case rel => exact ⟨k + 1, hmore, by go_num⟩
        case measure => simp [intOf]; omega
    · have hkm : k = m := by omega
      go_wp2_with fail
      go_ret
      exact ⟨ret_i64 (by omega), rfl⟩
end Go.Proofs.YtbeckfamnhfaeaaGreatDoor
