/- Plain mathematics of numerals: how a byte counts, what digits of a base come to, texts less their blanks. No program is named here. -/
import Derived.Lib.SlTrimSet
import Derived.Lib.Strings
import Derived.Lib.ItoaNum
namespace Go.Proofs.YtpfdidggogddgaaDoor

/-- How a byte counts as a digit; 36: it is none. -/
def dgv (c : Nat) : Nat := if 48 ≤ c ∧ c ≤ 57 then c - 48 else if 97 ≤ c ∧ c ≤ 122 then c - 87 else if 65 ≤ c ∧ c ≤ 90 then c - 55 else 36
theorem dgv_lt (c : Nat) : dgv c ≤ 36 := by unfold dgv; split <;> (try split) <;> (try split) <;> omega

/-- The number that digits of a base are. -/
def val (b : Nat) (l : List UInt8) : Nat := l.foldl (fun n c => n * b + dgv c.toNat) 0
theorem val_snoc (b : Nat) (l : List UInt8) (c : UInt8) : val b (l ++ [c]) = val b l * b + dgv c.toNat := by simp [val]
theorem val_nil (b : Nat) : val b [] = 0 := rfl

/-- All are digits of a base. -/
def allD (b : Nat) (l : List UInt8) : Bool := l.all fun c => decide (dgv c.toNat < b)
def okD (b : Nat) (l : List UInt8) : Bool := !l.isEmpty && allD b l
theorem allD_snoc (b : Nat) (l : List UInt8) (c : UInt8) : allD b (l ++ [c]) = (allD b l && decide (dgv c.toNat < b)) := by simp [allD]
theorem allD_of_mem {b : Nat} {l : List UInt8} {c : UInt8} (h : c ∈ l) (hc : b ≤ dgv c.toNat) : allD b l = false := by
  unfold allD
  rw [List.all_eq_false]
  exact ⟨c, h, by simpa using hc⟩

/-- What the program's 'whole' answers: the number modulo 2^64. -/
def whN (b : Nat) (l : List UInt8) : Nat := if okD b l then val b l % 18446744073709551616 else 0
theorem whN_lt (b : Nat) (l : List UInt8) : whN b l < 18446744073709551616 := by unfold whN; split <;> omega
theorem whN_no {b : Nat} {l : List UInt8} (h : okD b l = false) : whN b l = 0 := by unfold whN; simp [h]
theorem whN_ok {b : Nat} {l : List UInt8} (h : okD b l = true) : whN b l = val b l % 18446744073709551616 := by unfold whN; simp [h]

theorem take_snoc (s : ByteArray) (k : Nat) (h : k < s.size) : s.data.toList.take (k + 1) = s.data.toList.take k ++ [s[k]] := by
  rw [List.take_succ_eq_append_getElem (by simpa using h)]; rfl
theorem get_mem (s : ByteArray) (k : Nat) (h : k < s.size) : s[k] ∈ s.data.toList := List.getElem_mem (l := s.data.toList) (n := k) (by simpa using h)

/-- Whether the number went round: the document's flag. -/
def rndB (b : Nat) (l : List UInt8) : Bool := okD b l && decide (18446744073709551616 ≤ val b l)

theorem val_ge (b : Nat) (l : List UInt8) (c : UInt8) (hb : 1 ≤ b) : val b l ≤ val b (l ++ [c]) := by
  rw [val_snoc]
  have : val b l * 1 ≤ val b l * b := Nat.mul_le_mul_left _ hb
  omega

/-! Blanks at both ends. -/
def blanks : List UInt8 := [9, 10, 11, 12, 13, 32]
def blkB (c : Nat) : Bool := decide (9 ≤ c ∧ c ≤ 13) || decide (c = 32)
theorem u8_all {P : UInt8 → Prop} (h : ∀ i : Fin 256, P (UInt8.ofNat i.val)) (c : UInt8) : P c := by
  have := h ⟨c.toNat, c.toNat_lt⟩
  simpa using this
theorem blanks_has : ∀ c : UInt8, blanks.contains c = blkB c.toNat := u8_all (by decide +kernel)
def trm (l : List UInt8) : List UInt8 := Lib.trimS l blanks

theorem dropWhile_snoc {p : UInt8 → Bool} (l : List UInt8) (c : UInt8) : (l ++ [c]).dropWhile p = if l.dropWhile p = [] then (if p c then [] else [c]) else l.dropWhile p ++ [c] := by
  induction l with
  | nil => simp [List.dropWhile]; cases p c <;> simp
  | cons a t ih =>
    by_cases h : p a = true
    · simp only [List.cons_append, List.dropWhile, h]
      exact ih
    · simp [List.dropWhile, h]

theorem dw_nil {p : UInt8 → Bool} (l : List UInt8) : l.dropWhile p = [] ↔ ∀ x ∈ l, p x = true := by
  induction l with
  | nil => simp
  | cons a t ih =>
    cases h : p a
    · simp [List.dropWhile, h]
    · simp [List.dropWhile, h, ih]

theorem dropWhile_rev_nil {p : UInt8 → Bool} (l : List UInt8) : l.reverse.dropWhile p = [] → l.dropWhile p = [] := by
  intro h
  rw [dw_nil] at h ⊢
  intro x hx
  exact h x (by simpa using hx)

theorem trim_both {p : UInt8 → Bool} (l : List UInt8) : (l.reverse.dropWhile p).reverse.dropWhile p = ((l.dropWhile p).reverse.dropWhile p).reverse := by
  induction l with
  | nil => rfl
  | cons c t ih =>
    rw [List.reverse_cons, dropWhile_snoc]
    by_cases h0 : t.reverse.dropWhile p = []
    · rw [if_pos h0]
      have h1 := dropWhile_rev_nil t h0
      cases hc : p c
      · simp [List.dropWhile, hc, dropWhile_snoc, h0]
      · simp [List.dropWhile, hc, h1]
    · rw [if_neg h0]
      cases hc : p c
      · simp [List.dropWhile, hc, dropWhile_snoc, h0]
      · simp [List.dropWhile, hc, ih]

theorem trm_other (l : List UInt8) : Lib.trimRightS (Lib.trimLeftS l blanks) blanks = trm l := (trim_both l).symm
theorem trm_le (l : List UInt8) : (trm l).length ≤ l.length := by
  rw [← trm_other]
  unfold Lib.trimRightS Lib.trimLeftS
  rw [List.length_reverse]
  have h1 := (List.dropWhile_sublist (fun x => blanks.contains x) (l := (List.dropWhile (fun x => blanks.contains x) l).reverse)).length_le
  have h2 := (List.dropWhile_sublist (fun x => blanks.contains x) (l := l)).length_le
  rw [List.length_reverse] at h1
  omega
end Go.Proofs.YtpfdidggogddgaaDoor
