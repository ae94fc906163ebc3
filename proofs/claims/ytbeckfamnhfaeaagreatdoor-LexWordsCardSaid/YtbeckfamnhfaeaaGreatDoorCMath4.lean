/- Numbers written in any base, small letters or capitals: plain mathematics. No program is named here. -/
import Derived.Test.YtbeckfamnhfaeaaGreatDoorCMath3
namespace Go.Proofs.YtbeckfamnhfaeaaGreatDoor

theorem foldl_val (b : Nat) (l : List UInt8) : ∀ n : Nat, l.foldl (fun n c => n * b + dgv c.toNat) n = n * b ^ l.length + val b l := by
  induction l with
  | nil => intro n; simp [val]
  | cons c t ih =>
    intro n
    have e : val b (c :: t) = dgv c.toNat * b ^ t.length + val b t := by
      show t.foldl _ (0 * b + dgv c.toNat) = _
      rw [ih]
      simp
    rw [List.foldl_cons, ih, e, List.length_cons, Nat.pow_succ, Nat.add_mul, Nat.mul_assoc, Nat.mul_comm b, Nat.add_assoc]
theorem val_cons (b : Nat) (c : UInt8) (l : List UInt8) : val b (c :: l) = dgv c.toNat * b ^ l.length + val b l := by
  show l.foldl _ (0 * b + dgv c.toNat) = _
  rw [foldl_val]
  simp

/-- What has been written of n when x is left. -/
structure Wr (b n x : Nat) (l : List UInt8) : Prop where
  sum : n = x * b ^ l.length + val b l
  dig : allD b l = true
  len : l.length ≤ 63
theorem Wr.start (b n : Nat) : Wr b n n [] := ⟨by simp [val], rfl, by simp⟩
theorem Wr.step {b n x : Nat} {l : List UInt8} (h : Wr b n x l) (hb : 2 ≤ b) (hn : n < 9223372036854775808) (hx : 0 < x ∨ l = []) {c : UInt8} (hc : dgv c.toNat = x % b) : Wr b n (x / b) (c :: l) := by
  refine ⟨?_, ?_, ?_⟩
  · have hd : x = b * (x / b) + x % b := (Nat.div_add_mod x b).symm
    have hs := h.sum
    rw [val_cons, hc, List.length_cons, Nat.pow_succ]
    have e : x / b * (b ^ l.length * b) + (x % b * b ^ l.length + val b l) = (b * (x / b) + x % b) * b ^ l.length + val b l := by
      rw [Nat.add_mul, Nat.add_assoc, Nat.mul_comm (b ^ l.length) b, ← Nat.mul_assoc, Nat.mul_comm (x / b) b]
    rw [e, ← hd]
    exact hs
  · have := h.dig
    unfold allD at *
    rw [List.all_cons, this, hc]
    have : x % b < b := Nat.mod_lt _ (by omega)
    simpa using this
  · rcases hx with hx | rfl
    · have h1 : x * b ^ l.length ≤ n := by have := h.sum; omega
      have h2 : 2 ^ l.length ≤ b ^ l.length := Nat.pow_le_pow_left hb _
      have h3 : 1 * b ^ l.length ≤ x * b ^ l.length := Nat.mul_le_mul_right _ hx
      rw [List.length_cons]
      by_cases hl : l.length ≤ 62
      · omega
      · have h4 : 2 ^ 63 ≤ 2 ^ l.length := Nat.pow_le_pow_right (by omega) (by omega)
        have h5 : (2 : Nat) ^ 63 = 9223372036854775808 := by decide
        omega
    · simp
theorem Wr.short {b n x : Nat} {l : List UInt8} (h : Wr b n x l) : l.length ≤ 63 := h.len

theorem noblk_of {b : Nat} (hb : b ≤ 36) {l : List UInt8} (h : allD b l = true) : ∀ c ∈ l, blkB c.toNat = false := by
  intro c hc
  have := allD_mem h hc
  unfold blkB
  rw [Bool.or_eq_false_iff, decide_eq_false_iff_not, decide_eq_false_iff_not]
  unfold dgv at this
  split at this
  · omega
  · split at this
    · omega
    · split at this <;> omega
theorem min_of {b : Nat} (hb : b ≤ 36) {l : List UInt8} (h : allD b l = true) (t : List UInt8) (hl : l ≠ []) : minB (l ++ t) = false := by
  cases l with
  | nil => exact absurd rfl hl
  | cons c r =>
    have h1 := allD_mem h (c := c) (by simp)
    have hne : ((45 : UInt8) == c) = false := by
      rw [beq_eq_false_iff_ne]
      rintro rfl
      have : dgv (45 : UInt8).toNat = 36 := by decide
      omega
    simp [minB, Lib.hasPrefix, List.isPrefixOf, hne]
theorem trm_id {x : List UInt8} (hx : ∀ c ∈ x, blkB c.toNat = false) (hn : x ≠ []) : trm x = x := by
  have := trm_mid [] x [] (fun c hc => by cases hc) (fun c hc => by cases hc) hx hn
  simpa using this
theorem okD_slash {b : Nat} (hb : b ≤ 36) (l : List UInt8) : okD b (l ++ [47]) = false := by
  unfold okD
  rw [allD_snoc]
  have : dgv (47 : UInt8).toNat = 36 := by decide
  rw [this]
  have h : decide (36 < b) = false := by simpa using hb
  rw [h]
  simp

/-- A number that is written in a base is read as it is, with a - ahead of it too; with a sign more it is none. -/
theorem bases_read {b n : Nat} {l : List UInt8} (h2 : 2 ≤ b) (h36 : b ≤ 36) (hn : n ≤ 9223372036854775807) (h : Wr b n 0 l) (hl : l ≠ []) :
    basN b l = n ∧ basO b l = true ∧ basO b (l ++ [47]) = false ∧ basN b (45 :: l) = -n ∧ basO b (45 :: l) = true ∧ basO b (45 :: l ++ [47]) = false := by
  have hv : val b l = n := by have := h.sum; omega
  have hok := allD_ok h.dig hl
  have hw : (whN b l : Int) = n := by rw [whN_ok hok, hv]; omega
  have nb := noblk_of h36 h.dig
  have nb47 : blkB (47 : UInt8).toNat = false := by decide
  have nb45 : blkB (45 : UInt8).toNat = false := by decide
  have nb1 : ∀ c ∈ l ++ [47], blkB c.toNat = false := fun c hc => by
    rcases List.mem_append.1 hc with hc | hc
    · exact nb c hc
    · obtain rfl : c = 47 := by simpa using hc
      exact nb47
  have m0 := min_of h36 h.dig [] hl
  rw [List.append_nil] at m0
  obtain ⟨a, b'⟩ := bas_plain h2 h36 (trm_id nb hl) m0
  obtain ⟨_, c'⟩ := bas_plain h2 h36 (trm_id nb1 (by simp)) (min_of h36 h.dig [47] hl)
  obtain ⟨d, e⟩ := bas_minus (l := 45 :: l) h2 h36 (trm_id (fun c hc => by
    rcases List.mem_cons.1 hc with rfl | hc
    · exact nb45
    · exact nb c hc) (by simp))
  obtain ⟨_, f⟩ := bas_minus (l := 45 :: l ++ [47]) (d := l ++ [47]) h2 h36 (trm_id (fun c hc => by
    rw [List.cons_append] at hc
    rcases List.mem_cons.1 hc with rfl | hc
    · exact nb45
    · exact nb1 c hc) (by simp))
  refine ⟨?_, b'.trans hok, c'.trans (okD_slash h36 l), ?_, e.trans hok, f.trans (okD_slash h36 l)⟩
  · rw [a, hw, sgn_in (by omega) (by omega)]
  · rw [d, hw, sgn_in (by omega) (by omega)]

/-- The digits. -/
def smalls36 : ByteArray := ⟨#[48, 49, 50, 51, 52, 53, 54, 55, 56, 57, 97, 98, 99, 100, 101, 102, 103, 104, 105, 106, 107, 108, 109, 110, 111, 112, 113, 114, 115, 116, 117, 118, 119, 120, 121, 122]⟩
def greats36 : ByteArray := ⟨#[48, 49, 50, 51, 52, 53, 54, 55, 56, 57, 65, 66, 67, 68, 69, 70, 71, 72, 73, 74, 75, 76, 77, 78, 79, 80, 81, 82, 83, 84, 85, 86, 87, 88, 89, 90]⟩
theorem small_fin : ∀ d : Fin 36, smalls36.extract d.val (d.val + 1) = ⟨#[smalls36.data[d.val]!]⟩ ∧ dgv (smalls36.data[d.val]!).toNat = d.val := by decide +kernel
theorem great_fin : ∀ d : Fin 36, greats36.extract d.val (d.val + 1) = ⟨#[greats36.data[d.val]!]⟩ ∧ dgv (greats36.data[d.val]!).toNat = d.val := by decide +kernel
theorem small_at (d : Nat) (h : d < 36) : ∃ c : UInt8, smalls36.extract d (d + 1) = ⟨#[c]⟩ ∧ dgv c.toNat = d := ⟨_, small_fin ⟨d, h⟩⟩
theorem great_at (d : Nat) (h : d < 36) : ∃ c : UInt8, greats36.extract d (d + 1) = ⟨#[c]⟩ ∧ dgv c.toNat = d := ⟨_, great_fin ⟨d, h⟩⟩
end Go.Proofs.YtbeckfamnhfaeaaGreatDoor
