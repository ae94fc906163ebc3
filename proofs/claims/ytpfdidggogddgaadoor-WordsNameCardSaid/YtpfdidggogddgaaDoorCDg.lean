/- conv.digit, conv.whole and the document's digit, digits: how a byte counts, and the number that digits of a base are; the base is from 2 to 36. -/
import Derived.Test.YtpfdidggogddgaaDoorRows
import Derived.Test.YtpfdidggogddgaaDoorCMath
import Derived.WalkKit
import Derived.WalkSpells
import Derived.WalkLawsBesides
import Derived.Lib.QuietBelow
import Derived.BigQuiet
import Derived.Lib.Hide
import Derived.IntWalk
namespace Go.Proofs.YtpfdidggogddgaaDoor
open Go.RowKit Go.Sort

theorem ret_u64 {a b : Int} (h : a = b) : Ending.returned (.int .u64 a) = .returned (.int .u64 b) := by rw [h]

theorem bytes5 (c : Nat) : c < 48 ∨ (48 ≤ c ∧ c ≤ 57) ∨ (58 ≤ c ∧ c ≤ 64) ∨ (65 ≤ c ∧ c ≤ 90) ∨ (91 ≤ c ∧ c ≤ 96) ∨ (97 ≤ c ∧ c ≤ 122) ∨ 123 ≤ c := by omega

set_option maxHeartbeats 400000 in
theorem digit_any (c : Nat) (w : World) (h : c ≤ 255) :
    Calls Tryd.prog 75 #[.int .u8 c] w fun e w' => e = .returned (.int .u64 (dgv c : Int)) ∧ w = w' := by
  rcases bytes5 c with h1 | h1 | h1 | h1 | h1 | h1 | h1
  all_goals
    go_enter Tryd.func75, Tryd.ntmps75
    go_wp2
    go_ret
    refine ⟨ret_u64 ?_, rfl⟩
    unfold dgv
    repeat (first | rw [if_pos (by omega)] | rw [if_neg (by omega)])
    first | rfl | omega

theorem rbytes (c : Nat) (h : dgv c < 36) : (48 ≤ c ∧ c ≤ 57) ∨ (65 ≤ c ∧ c ≤ 90) ∨ (97 ≤ c ∧ c ≤ 122) := by
  unfold dgv at h
  split at h
  · omega
  · split at h
    · omega
    · split at h <;> omega
theorem rbytes_no (c : Nat) (h : 36 ≤ dgv c) : c < 48 ∨ (58 ≤ c ∧ c ≤ 64) ∨ (91 ≤ c ∧ c ≤ 96) ∨ 123 ≤ c := by
  unfold dgv at h
  split at h
  · omega
  · split at h
    · omega
    · split at h <;> omega

set_option maxHeartbeats 400000 in
theorem rdigit_yes (c : Nat) (w : World) (h : c ≤ 255) (hd : dgv c < 36) :
    Calls Tryd.prog 77 #[.int .u8 c] w fun e w' => e = .returned (.int .u64 (dgv c : Int)) ∧ w = w' := by
  have hd' := rbytes c hd
  clear hd
  rcases hd' with h1 | h1 | h1
  all_goals
    go_enter Tryd.func77, Tryd.ntmps77
    go_wp2
    go_ret
    refine ⟨ret_u64 ?_, rfl⟩
    unfold dgv
    repeat (first | rw [if_pos (by omega)] | rw [if_neg (by omega)])
    omega

set_option maxHeartbeats 400000 in
theorem rdigit_no (c : Nat) (w : World) (h : c ≤ 255) (hd : 36 ≤ dgv c) :
    Calls Tryd.prog 77 #[.int .u8 c] w fun e w' => e = .returned (.int .u64 99) ∧ w = w' := by
  have hd' := rbytes_no c hd
  clear hd
  rcases hd' with h1 | h1 | h1 | h1
  all_goals
    go_enter Tryd.func77, Tryd.ntmps77
    go_wp2
    go_ret
    exact ⟨rfl, rfl⟩

theorem u8le (c : UInt8) : c.toNat ≤ 255 := by have := c.toNat_lt; omega
theorem emp_no (s : ByteArray) (h : 0 < s.size) : s.data.toList ≠ [] := by
  intro e
  have := Lib.size_eq s
  rw [e, List.length_nil] at this
  omega
theorem emp_yes (s : ByteArray) (h : ¬ 0 < s.size) : s.data.toList = [] := by
  have := Lib.size_eq s
  exact List.eq_nil_of_length_eq_zero (by omega)
theorem okD_no_nil {b : Nat} {l : List UInt8} (h : l = []) : okD b l = false := by subst h; rfl
theorem okD_all {b : Nat} {l : List UInt8} (h : l ≠ []) (h' : allD b l = true) : okD b l = true := by
  unfold okD
  cases l with
  | nil => exact absurd rfl h
  | cons => simpa using h'
theorem okD_bad {b : Nat} {l : List UInt8} {c : UInt8} (h : c ∈ l) (hc : b ≤ dgv c.toNat) : okD b l = false := by
  unfold okD
  rw [allD_of_mem h hc]
  simp
theorem ret_wh {a a' : Int} {o o' : Bool} (h : a = a') (h' : o = o') : Ending.returned (.tuple #[.int .u64 a, .bool o]) = .returned (.tuple #[.int .u64 a', .bool o']) := by rw [h, h']

theorem step_u64 (v b d : Nat) : IntKind.u64.wrap (IntKind.u64.wrap ((v : Int) % 18446744073709551616 * (b : Int)) + (d : Int)) = ((v * b + d) % 18446744073709551616 : Nat) := by
  rw [IntKind.wrap_u64, IntKind.wrap_u64]
  have e : (v : Int) % 18446744073709551616 * (b : Int) % 18446744073709551616 = (v * b : Int) % 18446744073709551616 := by
    rw [Int.mul_emod, Int.emod_emod_of_dvd _ (Int.dvd_refl _), ← Int.mul_emod]
  rw [e]
  have : ((v * b : Nat) : Int) = (v * b : Int) := by simp
  rw [← this]
  omega

set_option maxHeartbeats 1600000 in
theorem whole_any (s : ByteArray) (b : Nat) (w : World) (hs : s.size ≤ 9223372036854775807) :
    Calls Tryd.prog 62 #[.string s, .int .u64 b] w fun e w' => e = .returned (.tuple #[.int .u64 (whN b s.data.toList : Int), .bool (okD b s.data.toList)]) ∧ w = w' := by
  by_cases h0 : 0 < s.size
  · have hl := emp_no s h0
    have he : (s.toList.isEmpty) = false := by rw [Lib.toList_data]; simpa using hl
    have HL := Lib.hid hl
    clear hl
    go_enter Tryd.func62, Tryd.ntmps62
    go_wp2
    go_loop [6, 13] (fun n i => ∃ k : Nat, k ≤ s.size ∧ i = .int .i64 k ∧ n = .int .u64 ((val b (s.data.toList.take k) % 18446744073709551616 : Nat) : Int) ∧ allD b (s.data.toList.take k) = true) (fun _ i => s.size - (intOf i).toNat)
    case atStart => exact ⟨0, Nat.zero_le _, rfl, rfl, rfl⟩
    case round =>
      obtain ⟨k, hk, rfl, rfl, ha⟩ := hrel
      have HA := Lib.hid ha
      clear ha
      by_cases hlt : k < s.size
      · have hts := Lib.hid (take_snoc s k hlt)
        by_cases hd : dgv s[k].toNat < b
        · have hm : val b (s.data.toList.take k) % 18446744073709551616 < 18446744073709551616 := Nat.mod_lt _ (by decide)
          have hvs := Lib.hid (val_snoc b (s.data.toList.take k) s[k])
          have has := Lib.hid (allD_snoc b (s.data.toList.take k) s[k])
          generalize hv : val b (s.data.toList.take k) = v at hm hvs ⊢
          clear hv
          go_wp2_with (go_at_call 75; (with_reducible refine (digit_any _ _ (u8le _)).mono ?_); rintro e w' ⟨rfl, rfl⟩)
          go_round
          case rel => exact ⟨k + 1, by omega, by go_num, by rw [hts.out, hvs.out]; exact congrArg _ (step_u64 v b _), by rw [hts.out, has.out, HA.out]; simpa using hd⟩
          case measure => simp [intOf]; omega
        · have hbad := Lib.hid (okD_bad (b := b) (get_mem s k hlt) (by omega))
          go_wp2_with (go_at_call 75; (with_reducible refine (digit_any _ _ (u8le _)).mono ?_); rintro e w' ⟨rfl, rfl⟩)
          go_ret2
          exact ⟨ret_wh (by rw [whN_no hbad.out]; rfl) hbad.out.symm, rfl⟩
      · have hk' : k = s.size := by omega
        have ha := HA.out
        rw [hk', Lib.size_eq, List.take_length] at ha
        have hok := okD_all HL.out ha
        have HO := Lib.hid hok
        have HK := Lib.hid hk'
        clear hok hk' ha
        go_wp2
        go_ret2
        exact ⟨ret_wh (by rw [whN_ok HO.out, HK.out, Lib.size_eq, List.take_length]; omega) HO.out.symm, rfl⟩
  · have hl := emp_yes s h0
    have he : (s.toList.isEmpty) = true := by rw [Lib.toList_data, hl]; rfl
    rw [whN_no (okD_no_nil hl), okD_no_nil hl]
    clear hl
    go_enter Tryd.func62, Tryd.ntmps62
    go_wp2
    all_goals
      go_ret2
      exact ⟨rfl, rfl⟩

theorem ret_dg {a a' : Int} {o o' p p' : Bool} (h : a = a') (h' : o = o') (h'' : p = p') : Ending.returned (.tuple #[.int .u64 a, .bool o, .bool p]) = .returned (.tuple #[.int .u64 a', .bool o', .bool p']) := by rw [h, h', h'']
theorem rnd_set (v b d : Nat) (hb : 1 ≤ b) (h : ((18446744073709551615 : Int) - (d : Int)) / (b : Int) < (v : Int) % 18446744073709551616) : true = decide (18446744073709551616 ≤ v * b + d) := by
  symm
  rw [decide_eq_true_eq]
  have hvb : v * 1 ≤ v * b := Nat.mul_le_mul_left _ hb
  by_cases hv : 18446744073709551616 ≤ v
  · omega
  · have e : (v : Int) % 18446744073709551616 = v := by omega
    rw [e] at h
    have h' := Int.lt_mul_of_ediv_lt (by omega) h
    have : ((v * b : Nat) : Int) = (v : Int) * (b : Int) := by simp
    rw [← this] at h'
    omega
theorem rnd_keep (v b d : Nat) (hb : 1 ≤ b) (h : (v : Int) % 18446744073709551616 ≤ ((18446744073709551615 : Int) - (d : Int)) / (b : Int)) : decide (18446744073709551616 ≤ v) = decide (18446744073709551616 ≤ v * b + d) := by
  have hvb : v * 1 ≤ v * b := Nat.mul_le_mul_left _ hb
  by_cases hv : 18446744073709551616 ≤ v
  · rw [decide_eq_true hv, decide_eq_true (show _ ≤ v * b + d by omega)]
  · have e : (v : Int) % 18446744073709551616 = v := by omega
    rw [e] at h
    have h' := Int.mul_le_of_le_ediv (by omega) h
    have : ((v * b : Nat) : Int) = (v : Int) * (b : Int) := by simp
    rw [← this] at h'
    rw [decide_eq_false hv, decide_eq_false (by omega)]

set_option maxHeartbeats 1600000 in
theorem digits_yes (s : ByteArray) (b : Nat) (w : World) (hs : s.size ≤ 9223372036854775807) (hb0 : 2 ≤ b) (hb1 : b ≤ 36) :
    Calls Tryd.prog 65 #[.string s, .int .u64 b] w fun e w' => e = .returned (.tuple #[.int .u64 (whN b s.data.toList : Int), .bool (rndB b s.data.toList), .bool (okD b s.data.toList)]) ∧ w = w' := by
  go_enter Tryd.func65, Tryd.ntmps65
  go_wp2
  go_loop [7, 8, 9] (fun n r i => ∃ k : Nat, k ≤ s.size ∧ i = .int .i64 k ∧ n = .int .u64 ((val b (s.data.toList.take k) % 18446744073709551616 : Nat) : Int) ∧ r = .bool (decide (18446744073709551616 ≤ val b (s.data.toList.take k))) ∧ allD b (s.data.toList.take k) = true) (fun _ _ i => s.size - (intOf i).toNat)
  case atStart => exact ⟨0, Nat.zero_le _, rfl, rfl, rfl, rfl⟩
  case round =>
    obtain ⟨k, hk, rfl, rfl, rfl, ha⟩ := hrel
    have HA := Lib.hid ha
    clear ha
    by_cases hlt : k < s.size
    · have hts := Lib.hid (take_snoc s k hlt)
      by_cases hd : dgv s[k].toNat < b
      · have hm : val b (s.data.toList.take k) % 18446744073709551616 < 18446744073709551616 := Nat.mod_lt _ (by decide)
        have hvs := Lib.hid (val_snoc b (s.data.toList.take k) s[k])
        have has := Lib.hid (allD_snoc b (s.data.toList.take k) s[k])
        generalize hv : val b (s.data.toList.take k) = v at hm hvs ⊢
        clear hv
        go_wp2_with (go_at_call 77; (with_reducible refine (rdigit_yes _ _ (u8le _) (by omega)).mono ?_); rintro e w' ⟨rfl, rfl⟩)
        all_goals
          go_round
          case rel => exact ⟨k + 1, by omega, by go_num, by rw [hts.out, hvs.out]; exact congrArg _ (step_u64 v b _), by rw [hts.out, hvs.out]; first | exact congrArg _ (rnd_set v b _ (by omega) (by assumption)) | exact congrArg _ (rnd_keep v b _ (by omega) (by assumption)), by rw [hts.out, has.out, HA.out]; simpa using hd⟩
          case measure => simp [intOf]; omega
      · have hbad := Lib.hid (okD_bad (b := b) (get_mem s k hlt) (by omega))
        by_cases h36 : dgv s[k].toNat < 36
        all_goals
          go_wp2_with (first
            | (go_at_call 77; (with_reducible refine (rdigit_yes _ _ (u8le _) h36).mono ?_); rintro e w' ⟨rfl, rfl⟩)
            | (go_at_call 77; (with_reducible refine (rdigit_no _ _ (u8le _) (Nat.le_of_not_lt h36)).mono ?_); rintro e w' ⟨rfl, rfl⟩))
          go_ret3
          exact ⟨ret_dg (by rw [whN_no hbad.out]; rfl) (by unfold rndB; rw [hbad.out]; rfl) hbad.out.symm, rfl⟩
    · have hk' : k = s.size := by omega
      have ha := HA.out
      rw [hk', Lib.size_eq, List.take_length] at ha
      have hE := Lib.hid ha
      have HK := Lib.hid hk'
      clear hk' ha
      by_cases h0 : 0 < s.size
      · have HO := Lib.hid (okD_all (emp_no s h0) hE.out)
        go_wp2
        go_ret3
        exact ⟨ret_dg (by rw [whN_ok HO.out, HK.out, Lib.size_eq, List.take_length]; omega) (by unfold rndB; rw [HO.out, HK.out, Lib.size_eq, List.take_length]; rfl) HO.out.symm, rfl⟩
      · have HO := Lib.hid (okD_no_nil (b := b) (emp_yes s h0))
        have HE := Lib.hid (emp_yes s h0)
        go_wp2
        go_ret3
        exact ⟨ret_dg (by rw [whN_no HO.out, HE.out]; simp [val]) (by unfold rndB; rw [HO.out, HE.out]; simp [val]) HO.out.symm, rfl⟩
end Go.Proofs.YtpfdidggogddgaaDoor
