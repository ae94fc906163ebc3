/- The document's own shifts (operators 9 and 10 of bits, package selkieref02): what they return, for any 64 bits and any number of places. -/
import Derived.Test.YticlejfonicfcaaRefB
namespace Go.Proofs.Yticlejfonicfcaa
open Go.RowKit Go.Sort

theorem is_far (op : Int) (u : Nat) (b : Int) (k : Nat) (h : op = 9 ∨ op = 10) (hf : b ≤ -64 ∨ 64 ≤ b) : isB op u b k = false := by
  have : (decide (-64 < b) && decide (b < 64)) = false := by simp; omega
  rcases h with rfl | rfl <;> simp [isB, ← Bool.and_assoc, this]
theorem is_near9 (u : Nat) (b : Int) (k : Nat) (h0 : -64 < b) (h1 : b < 64) : isB 9 u b k = bitB u (k - b) := by simp [isB, h0, h1]
theorem is_near10 (u : Nat) (b : Int) (k : Nat) (h0 : -64 < b) (h1 : b < 64) : isB 10 u b k = bitB u (k + b) := by simp [isB, h0, h1]

set_option maxHeartbeats 1000000 in
theorem bits_far (op : Int) (h : op = 9 ∨ op = 10) (u : Nat) (b : Int) (w : World) (hu : u < 18446744073709551616) (hf : b ≤ -64 ∨ 64 ≤ b) :
    Calls Try.prog 21 #[I op, .int .u64 u, I b] w fun e w' => e = .returned (I (wrap64 ((bsum (isB op u b) 64 : Nat) : Int))) ∧ w = w' := by
  have HB := Lib.hid (u64_uN b)
  have Hv := uN_lt b
  have Is := Lib.hid (fun k => is_far op u b k h hf)
  generalize hp : isB op u b = p at *
  clear hp
  rcases h with rfl | rfl <;> rcases hf with hf | hf
  all_goals
    first
      | (have g1 : decide (-64 < b) = false := by simp; omega)
      | (have g1 : decide (-64 < b) = true := by simp; omega)
    have g2 : decide (b < 64) = false ∨ decide (b < 64) = true := by cases decide (b < 64) <;> simp
    go_enter Try.func21, Try.ntmps21
    go_wp2
    go_loop [7, 8] (fun o i => ∃ k : Nat, k ≤ 64 ∧ i = .int .i64 k ∧ o = .int .u64 ((bsum p k : Nat) : Int)) (fun _ i => 64 - (intOf i).toNat)
    case atStart => exact ⟨0, Nat.zero_le _, rfl, rfl⟩
    case round =>
      obtain ⟨k, hk, rfl, rfl⟩ := hrel
      by_cases hlt : k < 64
      · have hk' : (k : Int) < 64 := by omega
        have Ik := Lib.hid (Is.out k)
        go_wp2_with fail
        refine (bit_is u k _ _ hu (Lib.hid rfl)).mono ?_; rintro e w1 ⟨rfl, rfl⟩
        go_wp2_with fail
        rw [HB.out]
        refine (bit_is (uN b) k _ _ Hv (Lib.hid rfl)).mono ?_; rintro e w1 ⟨rfl, rfl⟩
        go_wp2_with fail
        go_round
        case rel => exact ⟨k + 1, by omega, by go_num, by rw [bsum_no p k Ik.out]⟩
        case measure => simp [intOf]; omega
      · have e : k = 64 := by omega
        subst e
        go_wp2
        go_ret
        exact ⟨rfl, rfl⟩

set_option maxHeartbeats 1000000 in
theorem bits_near9 (u : Nat) (b : Int) (w : World) (hu : u < 18446744073709551616) (h0 : -64 < b) (h1 : b < 64) :
    Calls Try.prog 21 #[I 9, .int .u64 u, I b] w fun e w' => e = .returned (I (wrap64 ((bsum (isB 9 u b) 64 : Nat) : Int))) ∧ w = w' := by
  have HB := Lib.hid (u64_uN b)
  have Hv := uN_lt b
  have Is := Lib.hid (fun k => is_near9 u b k h0 h1)
  generalize hp : isB 9 u b = p at *
  clear hp
  go_enter Try.func21, Try.ntmps21
  go_wp2
  go_loop [7, 8] (fun o i => ∃ k : Nat, k ≤ 64 ∧ i = .int .i64 k ∧ o = .int .u64 ((bsum p k : Nat) : Int)) (fun _ i => 64 - (intOf i).toNat)
  case atStart => exact ⟨0, Nat.zero_le _, rfl, rfl⟩
  case round =>
    obtain ⟨k, hk, rfl, rfl⟩ := hrel
    by_cases hlt : k < 64
    · have hk' : (k : Int) < 64 := by omega
      have Ik := Lib.hid (Is.out k)
      cases hx : p k
      all_goals
        rw [hx] at Ik
        have Hx := Lib.hid hx
        have Hy := Lib.hid Ik.out.symm
        clear hx
        go_wp2_with fail
        refine (bit_is u k _ _ hu (Lib.hid rfl)).mono ?_; rintro e w1 ⟨rfl, rfl⟩
        go_wp2_with fail
        rw [HB.out]
        refine (bit_is (uN b) k _ _ Hv (Lib.hid rfl)).mono ?_; rintro e w1 ⟨rfl, rfl⟩
        go_wp2_with fail
        refine (bit_is u (k - b) _ _ hu Hy).mono ?_; rintro e w1 ⟨rfl, rfl⟩
        go_wp2_with (go_at_call 24; refine (power_any k _ hlt).mono ?_; rintro e w1 ⟨rfl, rfl⟩)
        go_round
        case rel => exact ⟨k + 1, by omega, by go_num, by first | exact u64_eq (bsum_yes p k hlt Hx.out) | rw [bsum_no p k Hx.out]⟩
        case measure => simp [intOf]; omega
    · have e : k = 64 := by omega
      subst e
      go_wp2
      go_ret
      exact ⟨rfl, rfl⟩

set_option maxHeartbeats 1000000 in
theorem bits_near10 (u : Nat) (b : Int) (w : World) (hu : u < 18446744073709551616) (h0 : -64 < b) (h1 : b < 64) :
    Calls Try.prog 21 #[I 10, .int .u64 u, I b] w fun e w' => e = .returned (I (wrap64 ((bsum (isB 10 u b) 64 : Nat) : Int))) ∧ w = w' := by
  have HB := Lib.hid (u64_uN b)
  have Hv := uN_lt b
  have Is := Lib.hid (fun k => is_near10 u b k h0 h1)
  generalize hp : isB 10 u b = p at *
  clear hp
  go_enter Try.func21, Try.ntmps21
  go_wp2
  go_loop [7, 8] (fun o i => ∃ k : Nat, k ≤ 64 ∧ i = .int .i64 k ∧ o = .int .u64 ((bsum p k : Nat) : Int)) (fun _ i => 64 - (intOf i).toNat)
  case atStart => exact ⟨0, Nat.zero_le _, rfl, rfl⟩
  case round =>
    obtain ⟨k, hk, rfl, rfl⟩ := hrel
    by_cases hlt : k < 64
    · have hk' : (k : Int) < 64 := by omega
      have Ik := Lib.hid (Is.out k)
      cases hx : p k
      all_goals
        rw [hx] at Ik
        have Hx := Lib.hid hx
        have Hy := Lib.hid Ik.out.symm
        clear hx
        go_wp2_with fail
        refine (bit_is u k _ _ hu (Lib.hid rfl)).mono ?_; rintro e w1 ⟨rfl, rfl⟩
        go_wp2_with fail
        rw [HB.out]
        refine (bit_is (uN b) k _ _ Hv (Lib.hid rfl)).mono ?_; rintro e w1 ⟨rfl, rfl⟩
        go_wp2_with fail
        refine (bit_is u (k + b) _ _ hu Hy).mono ?_; rintro e w1 ⟨rfl, rfl⟩
        go_wp2_with (go_at_call 24; refine (power_any k _ hlt).mono ?_; rintro e w1 ⟨rfl, rfl⟩)
        go_round
        case rel => exact ⟨k + 1, by omega, by go_num, by first | exact u64_eq (bsum_yes p k hlt Hx.out) | rw [bsum_no p k Hx.out]⟩
        case measure => simp [intOf]; omega
    · have e : k = 64 := by omega
      subst e
      go_wp2
      go_ret
      exact ⟨rfl, rfl⟩

/-- All five. -/
def bitsV (op a b : Int) : Int := if op = 6 then bits .and .i64 a b else if op = 7 then bits .or .i64 a b else if op = 8 then bits .xor .i64 a b else if op = 9 then leftV a b else leftV a (wrap64 (-b))
theorem bits_any (op : Int) (h0 : 6 ≤ op) (h1 : op ≤ 10) (a b : Int) (w : World) (hb0 : -9223372036854775808 ≤ b) (hb1 : b ≤ 9223372036854775807) :
    Calls Try.prog 21 #[I op, .int .u64 (uN a), I b] w fun e w' => e = .returned (I (bitsV op a b)) ∧ w = w' := by
  have hu := uN_lt a
  rcases (show op = 6 ∨ op = 7 ∨ op = 8 ∨ op = 9 ∨ op = 10 by omega) with rfl | rfl | rfl | rfl | rfl
  · have e : bitsV 6 a b = wrap64 ((bsum (isB 6 (uN a) b) 64 : Nat) : Int) := by rw [is_and, ← band64]; rfl
    rw [e]; exact bits_both 6 (by decide) _ b w hu
  · have e : bitsV 7 a b = wrap64 ((bsum (isB 7 (uN a) b) 64 : Nat) : Int) := by rw [is_or, ← bor64]; rfl
    rw [e]; exact bits_both 7 (by decide) _ b w hu
  · have e : bitsV 8 a b = wrap64 ((bsum (isB 8 (uN a) b) 64 : Nat) : Int) := by rw [is_xor, ← bxor64]; rfl
    rw [e]; exact bits_both 8 (by decide) _ b w hu
  · have e : bitsV 9 a b = wrap64 ((bsum (isB 9 (uN a) b) 64 : Nat) : Int) := (is_left a b hb0 hb1).symm
    rw [e]
    by_cases hf : b ≤ -64 ∨ 64 ≤ b
    · exact bits_far 9 (by decide) _ b w hu hf
    · exact bits_near9 _ b w hu (by omega) (by omega)
  · have e : bitsV 10 a b = wrap64 ((bsum (isB 10 (uN a) b) 64 : Nat) : Int) := (is_right a b hb0 hb1).symm
    rw [e]
    by_cases hf : b ≤ -64 ∨ 64 ≤ b
    · exact bits_far 10 (by decide) _ b w hu hf
    · exact bits_near10 _ b w hu (by omega) (by omega)
end Go.Proofs.Yticlejfonicfcaa
