/- What a text is as a numeral, as a number, of a base: the plain functions that both the program and the document come to. -/
import Derived.Test.YtpfdidggogddgaaDoorCMath
namespace Go.Proofs.YtpfdidggogddgaaDoor

/-- It begins with 0x or 0X. -/
def hexB (l : List UInt8) : Bool := Lib.hasPrefix l [48, 120] || Lib.hasPrefix l [48, 88]
/-- Whether decimal digits come to at most most. -/
def decO (most : Int) (l : List UInt8) : Bool := okD 10 l && decide ((val 10 l : Int) ≤ most)
def decN (most : Int) (l : List UInt8) : Nat := if decO most l then val 10 l else 0
/-- Whether a text is a numeral whose decimal digits come to at most most. -/
def numO (most : Int) (l : List UInt8) : Bool := if hexB l then okD 16 (l.drop 2) else decO most l
/-- Its number, modulo 2^64. -/
def numN (most : Int) (l : List UInt8) : Nat := if hexB l then whN 16 (l.drop 2) else decN most l
/-- A number modulo 2^64, as one from -2^63 on. -/
def sgn (n : Int) : Int := (n + 9223372036854775808) % 18446744073709551616 - 9223372036854775808
/-- A text less its blanks begins with a -. -/
def minB (l : List UInt8) : Bool := Lib.hasPrefix l [45]
def toO (l : List UInt8) : Bool := if minB (trm l) then numO 9223372036854775808 ((trm l).drop 1) else numO 9223372036854775807 (Lib.trimPrefix (trm l) [43])
def toN (l : List UInt8) : Int := if minB (trm l) then sgn (-(numN 9223372036854775808 ((trm l).drop 1) : Int)) else sgn (numN 9223372036854775807 (Lib.trimPrefix (trm l) [43]) : Int)
def basO (b : Int) (l : List UInt8) : Bool := if 2 ≤ b ∧ b ≤ 36 then okD b.toNat (Lib.trimPrefix (trm l) [45]) else false
def basN (b : Int) (l : List UInt8) : Int := if 2 ≤ b ∧ b ≤ 36 then (if minB (trm l) then sgn (-(whN b.toNat (Lib.trimPrefix (trm l) [45]) : Int)) else sgn (whN b.toNat (Lib.trimPrefix (trm l) [45]) : Int)) else 0

theorem val_zero (l : List UInt8) : val 10 (48 :: l) = val 10 l := rfl
theorem val_ge_foldl (l : List UInt8) : ∀ n : Nat, n * 10 ^ l.length ≤ l.foldl (fun n c => n * 10 + dgv c.toNat) n := by
  induction l with
  | nil => intro n; simp
  | cons c t ih =>
    intro n
    have h := ih (n * 10 + dgv c.toNat)
    rw [List.foldl_cons, List.length_cons, Nat.pow_succ]
    refine Nat.le_trans ?_ h
    rw [Nat.add_mul, show n * (10 ^ t.length * 10) = n * 10 * 10 ^ t.length by rw [Nat.mul_assoc, Nat.mul_comm 10]]
    exact Nat.le_add_right _ _
theorem val_lt_foldl (l : List UInt8) (h : allD 10 l = true) : ∀ n m : Nat, n < m → l.foldl (fun n c => n * 10 + dgv c.toNat) n < m * 10 ^ l.length := by
  induction l with
  | nil => intro n m h; simpa using h
  | cons c t ih =>
    intro n m hm
    simp only [allD, List.all_cons, Bool.and_eq_true, decide_eq_true_eq] at h
    have hh := ih h.2 (n * 10 + dgv c.toNat) (m * 10) (by omega)
    rw [List.foldl_cons, List.length_cons, Nat.pow_succ, Nat.mul_comm (10 ^ t.length), ← Nat.mul_assoc]
    exact hh

/-- Noughts ahead say nothing. -/
theorem val_trim (l : List UInt8) : val 10 (Lib.trimLeftB l 48) = val 10 l := by
  unfold Lib.trimLeftB
  induction l with
  | nil => rfl
  | cons c t ih =>
    by_cases h : c = 48
    · subst h
      rw [val_zero, List.dropWhile, show ((48 : UInt8) == 48) = true from rfl]
      exact ih
    · rw [List.dropWhile, show (c == 48) = false by simpa using h]
theorem allD_trim {l : List UInt8} (h : allD 10 l = true) : allD 10 (Lib.trimLeftB l 48) = true := by
  unfold allD at *
  rw [List.all_eq_true] at *
  exact fun x hx => h x ((List.dropWhile_sublist _).subset hx)
theorem short_val {l : List UInt8} (h : allD 10 l = true) (hl : (Lib.trimLeftB l 48).length ≤ 19) : val 10 l < 10000000000000000000 := by
  rw [← val_trim]
  have := val_lt_foldl _ (allD_trim h) 0 1 (by omega)
  rw [Nat.one_mul] at this
  have h2 : 10 ^ (Lib.trimLeftB l 48).length ≤ 10 ^ 19 := Nat.pow_le_pow_right (by omega) hl
  have h3 : (10 : Nat) ^ 19 = 10000000000000000000 := by decide
  unfold val
  omega
theorem trim_head (l : List UInt8) : ∀ c t, Lib.trimLeftB l 48 = c :: t → c ≠ 48 := by
  unfold Lib.trimLeftB
  induction l with
  | nil => intro c t h; cases h
  | cons a r ih =>
    intro c t h
    by_cases e : a = 48
    · subst e
      rw [List.dropWhile, show ((48 : UInt8) == 48) = true from rfl] at h
      exact ih c t h
    · rw [List.dropWhile, show (a == 48) = false by simpa using e] at h
      injection h with h1 h2
      exact h1 ▸ e
theorem dgv_pos {c : UInt8} (h : dgv c.toNat < 10) (hc : c ≠ 48) : 1 ≤ dgv c.toNat := by
  have hn : c.toNat ≠ 48 := fun e => hc (UInt8.toNat_inj.1 e)
  unfold dgv at *
  split at h
  · rename_i hh; rw [if_pos hh]; omega
  · split at h
    · omega
    · split at h <;> omega
theorem long_val {l : List UInt8} (h : allD 10 l = true) (hl : 19 < (Lib.trimLeftB l 48).length) : 10000000000000000000 ≤ val 10 l := by
  rw [← val_trim]
  have ha := allD_trim h
  have hh := trim_head l
  generalize Lib.trimLeftB l 48 = m at *
  cases m with
  | nil => simp at hl
  | cons c t =>
    simp only [allD, List.all_cons, Bool.and_eq_true, decide_eq_true_eq] at ha
    have h1 := dgv_pos ha.1 (hh c t rfl)
    have h2 := val_ge_foldl t (dgv c.toNat)
    have h3 : 10 ^ 19 ≤ 10 ^ t.length := Nat.pow_le_pow_right (by omega) (by simp at hl; omega)
    have h4 : 1 * 10 ^ t.length ≤ dgv c.toNat * 10 ^ t.length := Nat.mul_le_mul_right _ h1
    have h5 : (10 : Nat) ^ 19 = 10000000000000000000 := by decide
    have h6 : val 10 (c :: t) = t.foldl (fun n c => n * 10 + dgv c.toNat) (dgv c.toNat) := by simp [val]
    rw [h6]
    omega
theorem ok_all {b : Nat} {l : List UInt8} (h : okD b l = true) : allD b l = true := by
  unfold okD at h
  rw [Bool.and_eq_true] at h
  exact h.2

/-- What the program's 'decimal' asks is whether the number is at most most. -/
theorem dec_short {l : List UInt8} (ho : okD 10 l = true) (hl : (Lib.trimLeftB l 48).length ≤ 19) : whN 10 l = val 10 l := by
  have := short_val (ok_all ho) hl
  rw [whN_ok ho]
  omega
theorem decO_not {m : Int} {l : List UInt8} (ho : okD 10 l = false) : decO m l = false := by unfold decO; rw [ho]; rfl
theorem decO_long {m : Int} {l : List UInt8} (hm : m ≤ 9223372036854775808) (ho : okD 10 l = true) (hl : 19 < (Lib.trimLeftB l 48).length) : decO m l = false := by
  have := long_val (ok_all ho) hl
  unfold decO
  rw [ho, Bool.true_and, decide_eq_false_iff_not]
  omega
theorem decO_is {m : Int} {l : List UInt8} (ho : okD 10 l = true) (h : (val 10 l : Int) ≤ m) : decO m l = true := by unfold decO; rw [ho, Bool.true_and, decide_eq_true_eq]; exact h
theorem decO_more {m : Int} {l : List UInt8} (h : m < (val 10 l : Int)) : decO m l = false := by unfold decO; rw [Bool.and_eq_false_iff, decide_eq_false_iff_not]; right; omega
theorem decN_no {m : Int} {l : List UInt8} (h : decO m l = false) : decN m l = 0 := by unfold decN; simp [h]
theorem decN_is {m : Int} {l : List UInt8} (h : decO m l = true) : decN m l = val 10 l := by unfold decN; simp [h]
/-- And so is what the document's 'plain' asks. -/
theorem pl_short {l : List UInt8} (ho : okD 10 l = true) (hr : rndB 10 l = false) : whN 10 l = val 10 l := by
  unfold rndB at hr
  rw [ho, Bool.true_and, decide_eq_false_iff_not] at hr
  rw [whN_ok ho]
  omega
theorem decO_round {m : Int} {l : List UInt8} (hm : m ≤ 9223372036854775808) (hr : rndB 10 l = true) : decO m l = false := by
  unfold rndB at hr
  rw [Bool.and_eq_true, decide_eq_true_eq] at hr
  exact decO_more (by omega)
theorem decN_lt {m : Int} (l : List UInt8) (hm : m ≤ 9223372036854775808) : (decN m l : Int) ≤ 9223372036854775808 := by
  cases h : decO m l
  · rw [decN_no h]; decide
  · rw [decN_is h]
    unfold decO at h
    rw [Bool.and_eq_true, decide_eq_true_eq] at h
    omega
end Go.Proofs.YtpfdidggogddgaaDoor
