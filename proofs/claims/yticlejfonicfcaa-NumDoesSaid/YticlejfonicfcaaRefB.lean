/- The document's own power, bit and bits (package selkieref02): what they return, for bits from 0 to 63 and any number. -/
import Derived.Test.YticlejfonicfcaaNum
namespace Go.Proofs.Yticlejfonicfcaa
open Go.RowKit Go.Sort

def pw (k : Nat) : Int := ((2 ^ k : Nat) : Int)
theorem pw_zero : pw 0 = 1 := rfl
theorem pw_succ (k : Nat) (h : k < 63) : IntKind.u64.wrap (2 * pw k) = pw (k + 1) := by
  have : 2 ^ k < 2 ^ 63 := Nat.pow_lt_pow_right (by decide) h
  unfold pw
  rw [Nat.pow_succ]
  generalize 2 ^ k = q at *
  refine (IntWalk.u64_in _ ?_).trans ?_ <;> omega

set_option maxHeartbeats 400000 in
theorem power_any (n : Nat) (w : World) (hn : n < 64) :
    Calls Try.prog 24 #[I n] w fun e w' => e = .returned (.int .u64 (pw n)) ∧ w = w' := by
  go_enter Try.func24, Try.ntmps24
  go_wp2
  go_loop [0, 3] (fun i p => ∃ k : Nat, k ≤ n ∧ i = .int .i64 ((n - k : Nat) : Int) ∧ p = .int .u64 (pw k)) (fun i _ => (intOf i).toNat)
  case atStart => exact ⟨0, Nat.zero_le _, rfl, rfl⟩
  case round =>
    obtain ⟨k, hk, rfl, rfl⟩ := hrel
    by_cases hlt : k < n
    · have H := Lib.hid (pw_succ k (by omega))
      have h1 : (0 : Int) < ((n - k : Nat) : Int) := by omega
      go_wp2
      go_round
      case rel => exact ⟨k + 1, by omega, by congr 1; omega, by rw [← H.out]⟩
      case measure => simp [intOf]; omega
    · have h1 : ¬ (0 : Int) < ((n - k : Nat) : Int) := by omega
      have e : k = n := by omega
      subst e
      go_wp2
      go_ret
      exact ⟨rfl, rfl⟩

theorem bit_num (u k : Nat) (hu : u < 18446744073709551616) (r : Bool) (h : u.testBit k = r) : ((IntKind.u64.wrap ((u : Int) / pw k)).tmod 2 == 1) = r := by
  subst h
  rw [Nat.testBit_eq_decide_div_mod_eq, show ((u : Int) / pw k) = ((u / 2 ^ k : Nat) : Int) from (Int.natCast_ediv _ _).symm]
  have hq : u / 2 ^ k < 18446744073709551616 := Nat.lt_of_le_of_lt (Nat.div_le_self _ _) hu
  generalize u / 2 ^ k = q at *
  rw [IntKind.wrap_u64, Int.emod_eq_of_lt (by omega) (by omega), Int.tmod_eq_emod_of_nonneg (by omega)]
  by_cases hq : q % 2 = 1
  · have : (q : Int) % 2 = 1 := by omega
    simp [hq, this]
  · have : ¬ (q : Int) % 2 = 1 := by omega
    simp [hq, this]
theorem pw_ne (k : Nat) : ¬ pw k = 0 := by
  have := Nat.two_pow_pos k
  unfold pw; omega

set_option maxHeartbeats 400000 in
theorem bit_is (u : Nat) (i : Int) (r : Bool) (w : World) (hu : u < 18446744073709551616) (h : Hid (bitB u i = r)) :
    Calls Try.prog 23 #[.int .u64 u, I i] w fun e w' => e = .returned (.bool r) ∧ w = w' := by
  by_cases h0 : 0 ≤ i
  · by_cases h1 : i < 64
    · obtain ⟨k, rfl⟩ := Int.eq_ofNat_of_zero_le h0
      have ht : u.testBit k = r := by
        have := h.out
        rw [bitB_nat u k (by omega)] at this
        exact this
      have B := Lib.hid (bit_num u k hu r ht)
      have N := Lib.hid (pw_ne k)
      have hk : k < 64 := by omega
      clear h ht hu
      go_enter Try.func23, Try.ntmps23
      go_wp2_with fail
      refine (power_any k _ hk).mono ?_; rintro e w1 ⟨rfl, rfl⟩
      have N' := N.out
      go_wp2_with fail
      go_ret
      exact ⟨congrArg (fun b => Ending.returned (.bool b)) B.out, rfl⟩
    · have hr : r = false := by rw [← h.out]; simp [bitB, h1]
      subst hr
      have g0 : decide (0 ≤ i) = true := by simpa using h0
      have g1 : decide (i < 64) = false := by simpa using h1
      clear h hu h1
      go_enter Try.func23, Try.ntmps23
      go_wp2_with fail
      go_ret
      exact ⟨rfl, rfl⟩
  · have hr : r = false := by rw [← h.out]; simp [bitB, h0]
    subst hr
    have g0 : decide (0 ≤ i) = false := by simpa using h0
    clear h hu h0
    go_enter Try.func23, Try.ntmps23
    go_wp2_with fail
    go_ret
    exact ⟨rfl, rfl⟩

theorem bsum_yes (p : Nat → Bool) (k : Nat) (hk : k < 64) (h : p k = true) : IntKind.u64.wrap ((bsum p k : Nat) + pw k) = ((bsum p (k + 1) : Nat) : Int) := by
  have h0 := bsum_lt p k
  have h1 : 2 ^ k ≤ 2 ^ 63 := Nat.pow_le_pow_right (by decide) (by omega)
  rw [bsum, if_pos h]
  unfold pw
  generalize 2 ^ k = q at *
  generalize bsum p k = x at *
  refine (IntWalk.u64_in _ ?_).trans ?_ <;> omega
theorem bsum_no (p : Nat → Bool) (k : Nat) (h : p k = false) : bsum p (k + 1) = bsum p k := by
  rw [bsum, if_neg (by rw [h]; decide)]; rfl
theorem u64_eq {a b : Int} (h : a = b) : Value.int .u64 a = .int .u64 b := by rw [h]

/-- The three operators that look at both numbers' bits. -/
def bitOp (op : Int) (x y : Bool) : Bool := if op = 6 then x && y else if op = 7 then x || y else x != y
theorem is_bitOp (op : Int) (u : Nat) (b : Int) (k : Nat) (h : op = 6 ∨ op = 7 ∨ op = 8) : isB op u b k = bitOp op (bitB u k) (bitB (uN b) k) := by
  rcases h with rfl | rfl | rfl <;> simp [isB, bitOp]

set_option maxHeartbeats 1000000 in
theorem bits_both (op : Int) (h : op = 6 ∨ op = 7 ∨ op = 8) (u : Nat) (b : Int) (w : World) (hu : u < 18446744073709551616) :
    Calls Try.prog 21 #[I op, .int .u64 u, I b] w fun e w' => e = .returned (I (wrap64 ((bsum (isB op u b) 64 : Nat) : Int))) ∧ w = w' := by
  have HB := Lib.hid (u64_uN b)
  have Hv := uN_lt b
  have Is := Lib.hid (fun k => is_bitOp op u b k h)
  generalize hp : isB op u b = p at *
  clear hp
  rcases h with rfl | rfl | rfl
  all_goals
    go_enter Try.func21, Try.ntmps21
    go_wp2
    go_loop [7, 8] (fun o i => ∃ k : Nat, k ≤ 64 ∧ i = .int .i64 k ∧ o = .int .u64 ((bsum p k : Nat) : Int)) (fun _ i => 64 - (intOf i).toNat)
    case atStart => exact ⟨0, Nat.zero_le _, rfl, rfl⟩
    case round =>
      obtain ⟨k, hk, rfl, rfl⟩ := hrel
      by_cases hlt : k < 64
      · have hk' : (k : Int) < 64 := by omega
        have Ik := Lib.hid (Is.out k)
        cases hx : bitB u k <;> cases hy : bitB (uN b) k
        all_goals
          have Hx := Lib.hid hx
          have Hy := Lib.hid hy
          rw [hx, hy] at Ik
          clear hx hy
          go_wp2_with fail
          refine (bit_is u k _ _ hu Hx).mono ?_; rintro e w1 ⟨rfl, rfl⟩
          go_wp2_with fail
          rw [HB.out]
          refine (bit_is (uN b) k _ _ Hv Hy).mono ?_; rintro e w1 ⟨rfl, rfl⟩
          go_wp2_with (go_at_call 24; refine (power_any k _ hlt).mono ?_; rintro e w1 ⟨rfl, rfl⟩)
          go_round
          case rel => exact ⟨k + 1, by omega, by go_num, by first | exact u64_eq (bsum_yes p k hlt Ik.out) | rw [bsum_no p k Ik.out]⟩
          case measure => simp [intOf]; omega
      · have e : k = 64 := by omega
        subst e
        go_wp2
        go_ret
        exact ⟨rfl, rfl⟩
end Go.Proofs.Yticlejfonicfcaa
