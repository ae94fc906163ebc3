/- Plain arithmetic for layer num: 64 bits that go round, floor division, shifts, bits, counts. Nothing of the program is in it; each lemma bears its conditions. -/
import Derived.RowKit
import Derived.Laws.Entries
import Derived.Laws.Bits64
import Derived.Laws.Bits64b
import Derived.IntWalk
namespace Go.Proofs.Yticlejfonicfcaa
open Go.RowKit

/-- A number as 64 bits without a sign. -/
def uN (a : Int) : Nat := (a % 18446744073709551616).toNat

theorem uN_lt (a : Int) : uN a < 18446744073709551616 := by unfold uN; omega
theorem uN_cast (a : Int) : ((uN a : Nat) : Int) = a % 18446744073709551616 := by unfold uN; omega
theorem u64_uN (a : Int) : IntKind.u64.wrap a = ((uN a : Nat) : Int) := by rw [IntKind.wrap_u64, uN_cast]
theorem w64_uN (a : Int) (h0 : -9223372036854775808 ≤ a) (h1 : a ≤ 9223372036854775807) : wrap64 ((uN a : Nat) : Int) = a := by rw [uN_cast]; unfold wrap64; omega
theorem w64_mod (x : Int) : wrap64 x % 18446744073709551616 = x % 18446744073709551616 := by unfold wrap64; omega
theorem uN_w64 (n : Int) : uN (wrap64 n) = uN n := by unfold uN; rw [w64_mod]
theorem uN_nat (u : Nat) (h : u < 18446744073709551616) : uN (u : Int) = u := by unfold uN; omega
theorem w64_congr {x y : Int} (h : x % 18446744073709551616 = y % 18446744073709551616) : wrap64 x = wrap64 y := by unfold wrap64; omega
theorem w64_rng (x : Int) : -9223372036854775808 ≤ wrap64 x ∧ wrap64 x ≤ 9223372036854775807 := by unfold wrap64; omega
theorem w64_in (x : Int) (h0 : -9223372036854775808 ≤ x) (h1 : x ≤ 9223372036854775807) : wrap64 x = x := by unfold wrap64; omega
theorem w64_w64 (x : Int) : wrap64 (wrap64 x) = wrap64 x := w64_congr (w64_mod x)
theorem w64_mulL (x y : Int) : wrap64 (wrap64 x * y) = wrap64 (x * y) := w64_congr (by rw [Int.mul_emod, w64_mod, ← Int.mul_emod])
theorem w64_mulR (x y : Int) : wrap64 (x * wrap64 y) = wrap64 (x * y) := w64_congr (by rw [Int.mul_emod, w64_mod, ← Int.mul_emod])
theorem w64_addL (x y : Int) : wrap64 (wrap64 x + y) = wrap64 (x + y) := w64_congr (by have := w64_mod x; omega)
theorem w64_addR (x y : Int) : wrap64 (x + wrap64 y) = wrap64 (x + y) := w64_congr (by have := w64_mod y; omega)
theorem w64_u64 (x : Int) : wrap64 (IntKind.u64.wrap x) = wrap64 x := w64_congr (by rw [IntKind.wrap_u64]; omega)

/-! ### Shifts -/
def leftV (a p : Int) : Int :=
  if p < 0 then wrap64 (IntKind.u64.wrap a / 2 ^ min (IntKind.u64.wrap (-IntKind.u64.wrap p)).toNat 64)
  else wrap64 (IntKind.u64.wrap (IntKind.u64.wrap a * 2 ^ min (IntKind.u64.wrap p).toNat 64))

theorem two64 : (2 : Nat) ^ 64 = 18446744073709551616 := by decide
theorem big_pow {n : Nat} (h : 64 ≤ n) : 18446744073709551616 ≤ 2 ^ n := by rw [← two64]; exact Nat.pow_le_pow_right (by decide) h

theorem leftV_pos (a p : Int) (h0 : 0 ≤ p) (h1 : p ≤ 9223372036854775807) : leftV a p = wrap64 ((uN a * 2 ^ p.toNat % 18446744073709551616 : Nat) : Int) := by
  unfold leftV
  rw [if_neg (by omega), IntKind.wrap_u64 p, Int.emod_eq_of_lt h0 (by omega), u64_uN a, IntKind.wrap_u64]
  generalize p.toNat = n
  generalize uN a = u
  congr 1
  by_cases h : n ≤ 64
  · rw [Nat.min_eq_left h, Int.natCast_emod, Int.natCast_mul, Int.natCast_pow]; rfl
  · rw [Nat.min_eq_right (by omega)]
    have e1 : u * 2 ^ n % 18446744073709551616 = 0 := by
      rw [show n = 64 + (n - 64) from by omega, Nat.pow_add, two64, Nat.mul_left_comm]
      exact Nat.mul_mod_right _ _
    rw [e1]
    have e2 : ((u : Int) * 2 ^ 64) = 18446744073709551616 * (u : Int) := by rw [show (2 : Int) ^ 64 = 18446744073709551616 from by decide, Int.mul_comm]
    rw [e2]
    exact Int.mul_emod_right _ _

theorem leftV_neg (a p : Int) (h0 : p < 0) (h1 : -9223372036854775808 ≤ p) : leftV a p = wrap64 ((uN a / 2 ^ (-p).toNat : Nat) : Int) := by
  unfold leftV
  have e : IntKind.u64.wrap (-IntKind.u64.wrap p) = -p := by rw [IntKind.wrap_u64, IntKind.wrap_u64]; omega
  rw [if_pos h0, e, u64_uN a]
  have hu := uN_lt a
  generalize (-p).toNat = n
  generalize uN a = u at *
  congr 1
  by_cases h : n ≤ 64
  · rw [Nat.min_eq_left h, Int.natCast_ediv, Int.natCast_pow]; rfl
  · rw [Nat.min_eq_right (by omega), Nat.div_eq_of_lt (Nat.lt_of_lt_of_le hu (big_pow (by omega)))]
    exact Int.ediv_eq_zero_of_lt (by omega) (by rw [show (2 : Int) ^ 64 = 18446744073709551616 from by decide]; omega)

theorem leftV_rng (a p : Int) : -9223372036854775808 ≤ leftV a p ∧ leftV a p ≤ 9223372036854775807 := by
  unfold leftV; split <;> exact w64_rng _
theorem w64_zero : wrap64 0 = 0 := by unfold wrap64; decide

theorem leftV_far (a p : Int) (h0 : -9223372036854775808 ≤ p) (h1 : p ≤ 9223372036854775807) (h : 64 ≤ p ∨ p ≤ -64) : leftV a p = 0 := by
  rcases h with h | h
  · rw [leftV_pos a p (by omega) h1]
    have e : uN a * 2 ^ p.toNat % 18446744073709551616 = 0 := by
      rw [show p.toNat = 64 + (p.toNat - 64) from by omega, Nat.pow_add, two64, Nat.mul_left_comm]
      exact Nat.mul_mod_right _ _
    rw [e]; exact w64_zero
  · rw [leftV_neg a p (by omega) h0, Nat.div_eq_of_lt (Nat.lt_of_lt_of_le (uN_lt a) (big_pow (by omega)))]; exact w64_zero
theorem leftV_zero (a : Int) (h0 : -9223372036854775808 ≤ a) (h1 : a ≤ 9223372036854775807) : leftV a 0 = a := by
  rw [leftV_pos a 0 (by omega) (by omega)]
  show wrap64 ((uN a * 2 ^ 0 % 18446744073709551616 : Nat) : Int) = a
  rw [Nat.pow_zero, Nat.mul_one, Nat.mod_eq_of_lt (uN_lt a)]
  exact w64_uN a h0 h1
theorem leftV_one (a n : Int) (h0 : 0 ≤ n) (h1 : n < 63) : leftV (leftV a n) 1 = leftV a (n + 1) := by
  rw [leftV_pos (leftV a n) 1 (by omega) (by omega), leftV_pos a n h0 (by omega), leftV_pos a (n + 1) (by omega) (by omega), uN_w64, uN_nat _ (Nat.mod_lt _ (by decide))]
  congr 2
  rw [show (n + 1).toNat = n.toNat + 1 from by omega, Nat.pow_succ]
  show uN a * 2 ^ n.toNat % 18446744073709551616 * 2 ^ 1 % 18446744073709551616 = _
  rw [Nat.pow_one, ← Nat.mul_assoc]
  omega
/-- Twice the other way round. -/
theorem neg_neg (n : Int) (h0 : -9223372036854775808 ≤ n) (h1 : n ≤ 9223372036854775807) : wrap64 (-wrap64 (-n)) = n := by unfold wrap64; omega

/-! ### There and back -/
theorem back_nat (u n : Nat) (hn : n < 64) : (u * 2 ^ n % 18446744073709551616) / 2 ^ n = u &&& (18446744073709551615 / 2 ^ n) := by
  have e64 : 18446744073709551616 = 2 ^ (64 - n) * 2 ^ n := by rw [← Nat.pow_add, show 64 - n + n = 64 from by omega, two64]
  have e : 18446744073709551615 / 2 ^ n = 2 ^ (64 - n) - 1 := by
    have hp : 0 < 2 ^ n := Nat.two_pow_pos n
    have hq : 0 < 2 ^ (64 - n) := Nat.two_pow_pos _
    rw [show 18446744073709551615 = 2 ^ (64 - n) * 2 ^ n - 1 from by omega]
    rw [show 2 ^ (64 - n) * 2 ^ n - 1 = (2 ^ n - 1) + (2 ^ (64 - n) - 1) * 2 ^ n from by
      have : (2 ^ (64 - n) - 1) * 2 ^ n = 2 ^ (64 - n) * 2 ^ n - 2 ^ n := by rw [Nat.sub_mul, Nat.one_mul]
      have : 2 ^ n ≤ 2 ^ (64 - n) * 2 ^ n := Nat.le_mul_of_pos_left _ hq
      omega]
    rw [Nat.add_mul_div_right _ _ hp, Nat.div_eq_of_lt (by omega)]; omega
  rw [e, Nat.and_two_pow_sub_one_eq_mod]
  rw [e64, Nat.mul_mod_mul_right, Nat.mul_div_cancel _ (Nat.two_pow_pos n)]

theorem forth_nat (u n : Nat) : (u / 2 ^ n * 2 ^ n) % 18446744073709551616 = u &&& (18446744073709551615 * 2 ^ n % 18446744073709551616) := by
  rw [← two64]
  apply Nat.eq_of_testBit_eq
  intro i
  rw [show 18446744073709551615 = 2 ^ 64 - 1 from by decide]
  simp only [Nat.testBit_and, Nat.testBit_mod_two_pow, Nat.testBit_mul_two_pow, Nat.testBit_div_two_pow, Nat.testBit_two_pow_sub_one]
  by_cases h : i < 64 <;> by_cases h2 : n ≤ i <;> simp [h, h2]
  intro _
  omega

/-! ### Bits -/
theorem bvN (x : Int) : (BitVec.ofInt 64 x).toNat = uN x := by
  rw [BitVec.toNat_ofInt]; unfold uN; congr 1
theorem w64_i64 (x : Int) : IntKind.i64.wrap x = wrap64 x := by rw [IntKind.wrap_i64]; unfold wrap64; rfl
theorem band64 (a b : Int) : bits .and .i64 a b = wrap64 ((uN a &&& uN b : Nat) : Int) := by
  rw [← w64_i64]
  show IntKind.i64.wrap (((BitVec.ofInt 64 a &&& BitVec.ofInt 64 b).toNat : Nat) : Int) = _
  rw [BitVec.toNat_and, bvN, bvN]
theorem bor64 (a b : Int) : bits .or .i64 a b = wrap64 ((uN a ||| uN b : Nat) : Int) := by
  rw [← w64_i64]
  show IntKind.i64.wrap (((BitVec.ofInt 64 a ||| BitVec.ofInt 64 b).toNat : Nat) : Int) = _
  rw [BitVec.toNat_or, bvN, bvN]
theorem bxor64 (a b : Int) : bits .xor .i64 a b = wrap64 ((uN a ^^^ uN b : Nat) : Int) := by
  rw [← w64_i64]
  show IntKind.i64.wrap (((BitVec.ofInt 64 a ^^^ BitVec.ofInt 64 b).toNat : Nat) : Int) = _
  rw [BitVec.toNat_xor, bvN, bvN]
theorem and_lt64 (x y : Nat) (h : x < 18446744073709551616) : x &&& y < 18446744073709551616 := Nat.lt_of_le_of_lt Nat.and_le_left h
theorem or_lt64 (x y : Nat) (h : x < 18446744073709551616) (h' : y < 18446744073709551616) : x ||| y < 18446744073709551616 := by
  rw [← two64] at *; exact Nat.or_lt_two_pow h h'
theorem xor_lt64 (x y : Nat) (h : x < 18446744073709551616) (h' : y < 18446744073709551616) : x ^^^ y < 18446744073709551616 := by
  rw [← two64] at *; exact Nat.xor_lt_two_pow h h'

theorem and_add_or (x y : Nat) : (x &&& y) + (x ||| y) = x + y := by
  induction x using Nat.strongRecOn generalizing y with
  | _ x ih =>
    by_cases h0 : x = 0
    · subst h0; simp
    · have h := ih (x / 2) (by omega) (y / 2)
      rw [← Nat.and_div_two, ← Nat.or_div_two] at h
      have a1 := Nat.and_mod_two_pow (a := x) (b := y) (n := 1)
      have a2 := Nat.or_mod_two_pow (a := x) (b := y) (n := 1)
      have t : (x % 2 ^ 1 &&& y % 2 ^ 1) + (x % 2 ^ 1 ||| y % 2 ^ 1) = x % 2 + y % 2 := by
        rw [Nat.pow_one]
        rcases Nat.mod_two_eq_zero_or_one x with hx | hx <;> rcases Nat.mod_two_eq_zero_or_one y with hy | hy <;> rw [hx, hy] <;> decide
      generalize (x % 2 ^ 1 &&& y % 2 ^ 1) = p at *
      generalize (x % 2 ^ 1 ||| y % 2 ^ 1) = q at *
      rw [Nat.pow_one] at a1 a2
      generalize (x &&& y) = A at *
      generalize (x ||| y) = B at *
      clear ih
      omega
theorem xor_add_and (x y : Nat) : (x ^^^ y) + (x &&& y) = (x ||| y) := by
  induction x using Nat.strongRecOn generalizing y with
  | _ x ih =>
    by_cases h0 : x = 0
    · subst h0; simp
    · have h := ih (x / 2) (by omega) (y / 2)
      rw [← Nat.and_div_two, ← Nat.or_div_two, ← Nat.xor_div_two] at h
      have a1 := Nat.and_mod_two_pow (a := x) (b := y) (n := 1)
      have a2 := Nat.or_mod_two_pow (a := x) (b := y) (n := 1)
      have a3 := Nat.xor_mod_two_pow (a := x) (b := y) (n := 1)
      have t : (x % 2 ^ 1 ^^^ y % 2 ^ 1) + (x % 2 ^ 1 &&& y % 2 ^ 1) = (x % 2 ^ 1 ||| y % 2 ^ 1) := by
        rw [Nat.pow_one]
        rcases Nat.mod_two_eq_zero_or_one x with hx | hx <;> rcases Nat.mod_two_eq_zero_or_one y with hy | hy <;> rw [hx, hy] <;> decide
      generalize (x % 2 ^ 1 &&& y % 2 ^ 1) = p at *
      generalize (x % 2 ^ 1 ||| y % 2 ^ 1) = q at *
      generalize (x % 2 ^ 1 ^^^ y % 2 ^ 1) = r at *
      rw [Nat.pow_one] at a1 a2 a3
      generalize (x &&& y) = A at *
      generalize (x ||| y) = B at *
      generalize (x ^^^ y) = C at *
      clear ih
      omega

theorem law_xor_self (a : Int) : bits .xor .i64 a a = 0 := by rw [bxor64, Nat.xor_self]; exact w64_zero
theorem law_share (a b : Int) : wrap64 (bits .and .i64 a b + bits .or .i64 a b) = wrap64 (a + b) := by
  rw [band64, bor64, w64_addL, w64_addR]
  apply w64_congr
  have h := and_add_or (uN a) (uN b)
  have ha := uN_cast a
  have hb := uN_cast b
  generalize (uN a ||| uN b) = x at *
  generalize (uN a &&& uN b) = y at *
  generalize uN a = u at *
  generalize uN b = v at *
  omega
theorem law_xor_back (a b : Int) (h0 : -9223372036854775808 ≤ a) (h1 : a ≤ 9223372036854775807) : bits .xor .i64 (bits .xor .i64 a b) b = a := by
  rw [bxor64, bxor64, uN_w64, uN_nat _ (xor_lt64 _ _ (uN_lt a) (uN_lt b)), Nat.xor_assoc, Nat.xor_self, Nat.xor_zero]
  exact w64_uN a h0 h1
theorem law_less (a b : Int) : wrap64 (bits .or .i64 a b - bits .and .i64 a b) = bits .xor .i64 a b := by
  rw [band64, bor64, bxor64]
  apply w64_congr
  have h := xor_add_and (uN a) (uN b)
  generalize (uN a ||| uN b) = x at *
  generalize (uN a &&& uN b) = y at *
  generalize (uN a ^^^ uN b) = z at *
  have ha := w64_mod (x : Int)
  have hb := w64_mod (y : Int)
  subst h
  generalize wrap64 ((z + y : Nat) : Int) = X at *
  generalize wrap64 (y : Int) = Y at *
  omega
theorem uN_m1 : uN (-1) = 18446744073709551615 := by unfold uN; omega
theorem law_not (a : Int) (h0 : -9223372036854775808 ≤ a) (h1 : a ≤ 9223372036854775807) : bits .xor .i64 (-1) a = -1 - a := by
  rw [bxor64]
  have hu := uN_lt a
  have hc := uN_cast a
  have h := and_add_or (uN (-1)) (uN a)
  have h' := xor_add_and (uN (-1)) (uN a)
  have ha : uN (-1) &&& uN a = uN a := by rw [Nat.and_comm, uN_m1, show 18446744073709551615 = 2 ^ 64 - 1 from by decide, Nat.and_two_pow_sub_one_eq_mod, two64, Nat.mod_eq_of_lt hu]
  rw [ha] at h h'
  rw [uN_m1] at *
  generalize (18446744073709551615 ^^^ uN a) = x at *
  generalize (18446744073709551615 ||| uN a) = y at *
  generalize uN a = u at *
  clear ha
  unfold wrap64
  omega

/-! ### Quotient and rest -/
def adj (a b : Int) : Bool := (a.tmod b != 0) && (decide (a.tmod b < 0) != decide (b < 0))
def quoV (a b : Int) : Int := if b = 0 then 0 else if adj a b = true then wrap64 (wrap64 (a.tdiv b) - 1) else wrap64 (a.tdiv b)
def remV (a b : Int) : Int := if b = 0 then 0 else if adj a b = true then wrap64 (a.tmod b + b) else a.tmod b

theorem tmod_bd (a b : Int) : (0 < b → -b < a.tmod b ∧ a.tmod b < b) ∧ (b < 0 → b < a.tmod b ∧ a.tmod b < -b) := by
  have key : ∀ c : Int, 0 < c → -c < a.tmod c ∧ a.tmod c < c := fun c hc => by
    refine ⟨?_, Int.tmod_lt_of_pos a hc⟩
    have h := Int.tmod_lt_of_pos (-a) hc
    rw [Int.neg_tmod] at h
    omega
  refine ⟨key b, fun h => ?_⟩
  have := key (-b) (by omega)
  rw [Int.tmod_neg] at this
  omega

theorem rem_rng (a b : Int) (hb : b ≠ 0) (h0 : -9223372036854775808 ≤ b) (h1 : b ≤ 9223372036854775807) :
    (remV a b = 0 ∨ (0 < b ∧ 0 < remV a b ∧ remV a b < b) ∨ (b < 0 ∧ remV a b < 0 ∧ b < remV a b)) := by
  have t := tmod_bd a b
  unfold remV
  rw [if_neg hb]
  generalize ht : a.tmod b = r at *
  by_cases hz : r = 0
  · left
    rw [if_neg (by simp [adj, ht, hz])]; exact hz
  · rcases Int.lt_or_gt_of_ne hb with hn | hp
    · have := t.2 hn
      by_cases hr : r < 0
      · rw [if_neg (by simp [adj, ht, hr, hn])]; omega
      · rw [if_pos (by simp [adj, ht, hz, hn, hr]), w64_in _ (by omega) (by omega)]; omega
    · have := t.1 hp
      have hp' : ¬ b < 0 := by omega
      by_cases hr : r < 0
      · rw [if_pos (by simp [adj, ht, hz, hp', hr]), w64_in _ (by omega) (by omega)]; omega
      · rw [if_neg (by simp [adj, ht, hp', hr])]; omega

theorem div_back (a b : Int) (hb : b ≠ 0) (h0 : -9223372036854775808 ≤ a) (h1 : a ≤ 9223372036854775807) : wrap64 (wrap64 (quoV a b * b) + remV a b) = a := by
  rw [w64_addL]
  have e := Int.mul_tdiv_add_tmod a b
  unfold quoV remV
  rw [if_neg hb, if_neg hb]
  by_cases ha : adj a b = true
  · rw [if_pos ha, if_pos ha, w64_addR, ← w64_addL, w64_mulL, w64_addL]
    have d : (wrap64 (a.tdiv b) - 1) * b = wrap64 (a.tdiv b) * b - b := by rw [Int.sub_mul, Int.one_mul]
    rw [d, show wrap64 (a.tdiv b) * b - b + (a.tmod b + b) = wrap64 (a.tdiv b) * b + a.tmod b from by omega, ← w64_addL, w64_mulL, w64_addL, Int.mul_comm (a.tdiv b) b, e]
    exact w64_in a h0 h1
  · rw [if_neg ha, if_neg ha, ← w64_addL, w64_mulL, w64_addL, Int.mul_comm, e]
    exact w64_in a h0 h1
theorem quo_m1 (a : Int) : quoV a (-1) = wrap64 (-a) := by
  unfold quoV adj
  rw [if_neg (by decide)]
  have : a.tmod (-1) = 0 := by rw [Int.tmod_neg]; simp
  rw [this, if_neg (by decide), Int.tdiv_neg, Int.tdiv_one]
theorem rem_m1 (a : Int) : remV a (-1) = 0 := by
  unfold remV adj
  rw [if_neg (by decide)]
  have : a.tmod (-1) = 0 := by rw [Int.tmod_neg]; simp
  rw [this, if_neg (by decide)]

/-! ### How often -/
def roundsV (low high size : Int) : Int :=
  if high < low then 0 else
  if IntKind.u64.wrap ((IntKind.u64.wrap (IntKind.u64.wrap high - IntKind.u64.wrap low)).tdiv size) = 18446744073709551615 then 18446744073709551615
  else IntKind.u64.wrap (IntKind.u64.wrap ((IntKind.u64.wrap (IntKind.u64.wrap high - IntKind.u64.wrap low)).tdiv size) + 1)
def countV (f t s : Int) : Int :=
  if s = 0 then 0 else if 0 < s then roundsV f t (IntKind.u64.wrap s) else roundsV t f (IntKind.u64.wrap (-IntKind.u64.wrap s))
def countE (s : Int) : Int := if s = 0 then 1 else 0

theorem rounds_small (low high size : Int) (h0 : low ≤ high) (h1 : high - low < 9223372036854775808) (h2 : 0 < size) : roundsV low high size = (high - low) / size + 1 := by
  unfold roundsV
  rw [if_neg (by omega)]
  have e : IntKind.u64.wrap (IntKind.u64.wrap high - IntKind.u64.wrap low) = high - low := by simp only [IntKind.wrap_u64]; omega
  rw [e, Int.tdiv_eq_ediv_of_nonneg (by omega)]
  have b0 : 0 ≤ (high - low) / size := Int.ediv_nonneg (by omega) (by omega)
  have b1 : (high - low) / size ≤ high - low := Int.ediv_le_self _ (by omega)
  generalize (high - low) / size = q at *
  rw [IntKind.wrap_u64 q, Int.emod_eq_of_lt b0 (by omega), if_neg (by omega), IntKind.wrap_u64]
  omega
theorem rounds_none (low high size : Int) (h0 : high < low) : roundsV low high size = 0 := by unfold roundsV; rw [if_pos h0]

/-! ### The document's own bits -/
def bsum (p : Nat → Bool) : Nat → Nat
  | 0 => 0
  | k + 1 => bsum p k + if p k = true then 2 ^ k else 0
theorem bsum_lt (p : Nat → Bool) (n : Nat) : bsum p n < 2 ^ n := by
  induction n with
  | zero => simp [bsum]
  | succ k ih =>
    rw [bsum, Nat.pow_succ]
    split <;> omega
theorem bsum_of (p : Nat → Bool) (x n : Nat) (h : ∀ i, i < n → p i = x.testBit i) : bsum p n = x % 2 ^ n := by
  induction n with
  | zero => simp [bsum, Nat.mod_one]
  | succ k ih =>
    rw [bsum, ih (fun i hi => h i (by omega)), h k (by omega), Nat.testBit_eq_decide_div_mod_eq, Nat.mod_pow_succ]
    rcases Nat.mod_two_eq_zero_or_one (x / 2 ^ k) with e | e <;> rw [e] <;> simp

def bitB (u : Nat) (i : Int) : Bool := decide (0 ≤ i) && (decide (i < 64) && u.testBit i.toNat)
def isB (op : Int) (u : Nat) (b : Int) (i : Nat) : Bool :=
  if op = 6 then bitB u i && bitB (uN b) i else if op = 7 then bitB u i || bitB (uN b) i else if op = 8 then bitB u i != bitB (uN b) i else
  if op = 9 then decide (-64 < b) && (decide (b < 64) && bitB u (i - b)) else decide (-64 < b) && (decide (b < 64) && bitB u (i + b))
theorem bitB_nat (u i : Nat) (h : i < 64) : bitB u (i : Int) = u.testBit i := by
  have h1 : ((i : Int) < 64) := by omega
  simp [bitB, h1]

theorem is_and (a b : Int) : bsum (isB 6 (uN a) b) 64 = uN a &&& uN b := by
  rw [bsum_of _ (uN a &&& uN b) 64 (fun i hi => by simp [isB, bitB_nat _ i hi]), two64, Nat.mod_eq_of_lt (and_lt64 _ _ (uN_lt a))]
theorem is_or (a b : Int) : bsum (isB 7 (uN a) b) 64 = uN a ||| uN b := by
  rw [bsum_of _ (uN a ||| uN b) 64 (fun i hi => by simp [isB, bitB_nat _ i hi]), two64, Nat.mod_eq_of_lt (or_lt64 _ _ (uN_lt a) (uN_lt b))]
theorem is_xor (a b : Int) : bsum (isB 8 (uN a) b) 64 = uN a ^^^ uN b := by
  rw [bsum_of _ (uN a ^^^ uN b) 64 (fun i hi => by simp [isB, bitB_nat _ i hi]), two64, Nat.mod_eq_of_lt (xor_lt64 _ _ (uN_lt a) (uN_lt b))]
theorem bsum_none (p : Nat → Bool) (h : ∀ i, p i = false) (n : Nat) : bsum p n = 0 := by
  rw [bsum_of p 0 n (fun i _ => by rw [h i]; simp)]; simp

theorem is_left (a b : Int) (h0 : -9223372036854775808 ≤ b) (h1 : b ≤ 9223372036854775807) : wrap64 ((bsum (isB 9 (uN a) b) 64 : Nat) : Int) = leftV a b := by
  have hu := uN_lt a
  by_cases hf : 64 ≤ b ∨ b ≤ -64
  · rw [leftV_far a b h0 h1 hf, bsum_none _ (fun i => by
      have : (decide (-64 < b) && decide (b < 64)) = false := by simp; omega
      rw [isB, if_neg (by decide), if_neg (by decide), if_neg (by decide), if_pos rfl, ← Bool.and_assoc, this, Bool.false_and])]
    exact w64_zero
  · have e : ∀ i, isB 9 (uN a) b i = bitB (uN a) (i - b) := fun i => by
      have x1 : -64 < b := by omega
      have x2 : b < 64 := by omega
      simp [isB, x1, x2]
    by_cases hp : 0 ≤ b
    · rw [leftV_pos a b hp h1, bsum_of _ (uN a * 2 ^ b.toNat) 64 (fun i hi => by
        rw [e i, Nat.testBit_mul_two_pow]
        by_cases hle : b.toNat ≤ i
        · have x1 : b ≤ (i : Int) := by omega
          have x2 : (i : Int) - b < 64 := by omega
          have x3 : ((i : Int) - b).toNat = i - b.toNat := by omega
          simp [bitB, x1, x2, x3, hle]
        · have x1 : ¬ b ≤ (i : Int) := by omega
          simp [bitB, x1, hle]), two64]
    · rw [leftV_neg a b (by omega) h0, bsum_of _ (uN a / 2 ^ (-b).toNat) 64 (fun i hi => by
        rw [e i, Nat.testBit_div_two_pow]
        have x1 : b ≤ (i : Int) := by omega
        have x3 : ((i : Int) - b).toNat = i + (-b).toNat := by omega
        by_cases hle : (i : Int) - b < 64
        · simp [bitB, x1, x3, hle]
        · have : (uN a).testBit (i + (-b).toNat) = false := Nat.testBit_lt_two_pow (Nat.lt_of_lt_of_le hu (big_pow (by omega)))
          simp [bitB, hle, this]), two64, Nat.mod_eq_of_lt (Nat.lt_of_le_of_lt (Nat.div_le_self _ _) hu)]
theorem is_right (a b : Int) (h0 : -9223372036854775808 ≤ b) (h1 : b ≤ 9223372036854775807) : wrap64 ((bsum (isB 10 (uN a) b) 64 : Nat) : Int) = leftV a (wrap64 (-b)) := by
  by_cases hf : 64 ≤ b ∨ b ≤ -64
  · have hw : 64 ≤ wrap64 (-b) ∨ wrap64 (-b) ≤ -64 := by unfold wrap64; omega
    rw [leftV_far a _ (w64_rng _).1 (w64_rng _).2 hw, bsum_none _ (fun i => by
      have : (decide (-64 < b) && decide (b < 64)) = false := by simp; omega
      rw [isB, if_neg (by decide), if_neg (by decide), if_neg (by decide), if_neg (by decide), ← Bool.and_assoc, this, Bool.false_and])]
    exact w64_zero
  · rw [w64_in (-b) (by omega) (by omega), ← is_left a (-b) (by omega) (by omega)]
    have : isB 10 (uN a) b = isB 9 (uN a) (-b) := funext fun i => by
      have x1 : -64 < b := by omega
      have x2 : b < 64 := by omega
      have x4 : -b < 64 := by omega
      have x5 : (i : Int) - -b = i + b := by omega
      simp [isB, x1, x2, x4, x5]
    rw [this]
end Go.Proofs.Yticlejfonicfcaa
