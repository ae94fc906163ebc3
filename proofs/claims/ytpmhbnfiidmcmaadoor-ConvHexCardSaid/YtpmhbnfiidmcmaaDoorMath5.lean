/- Hex digits, small and great: plain mathematics. No program is named here. -/
import Derived.Test.YtpmhbnfiidmcmaaDoorMath4
namespace Go.Proofs.YtpmhbnfiidmcmaaDoor

/-- A hex digit in small letters. -/
def lowB (c : Nat) : Bool := decide (48 ≤ c ∧ c ≤ 57) || decide (97 ≤ c ∧ c ≤ 102)
def allL (l : List UInt8) : Bool := l.all fun c => lowB c.toNat
theorem allL_snoc (l : List UInt8) (c : UInt8) : allL (l ++ [c]) = (allL l && lowB c.toNat) := by simp [allL]
theorem low_bytes (c : Nat) : (lowB c = true ∧ ((48 ≤ c ∧ c ≤ 57) ∨ (97 ≤ c ∧ c ≤ 102))) ∨ (lowB c = false ∧ (c < 48 ∨ (57 < c ∧ c < 97) ∨ 102 < c)) := by
  unfold lowB
  by_cases h : (48 ≤ c ∧ c ≤ 57) ∨ (97 ≤ c ∧ c ≤ 102)
  · left
    refine ⟨?_, h⟩
    simp only [Bool.or_eq_true, decide_eq_true_eq]
    exact h
  · right
    refine ⟨?_, by omega⟩
    simp only [Bool.or_eq_false_iff, decide_eq_false_iff_not]
    omega
/-- The same digit as a great letter. -/
def upc (c : UInt8) : UInt8 := if 97 ≤ c.toNat then UInt8.ofNat (c.toNat - 32) else c
theorem low_fin : ∀ i : Fin 256, lowB i.val = true → dgv i.val < 16 ∧ dgv (upc (UInt8.ofNat i.val)).toNat = dgv i.val := by decide +kernel
theorem low_dgv {c : UInt8} (h : lowB c.toNat = true) : dgv c.toNat < 16 ∧ dgv (upc c).toNat = dgv c.toNat := by
  have := low_fin ⟨c.toNat, c.toNat_lt⟩ h
  simpa using this
theorem upc_num {c : UInt8} (h : 97 ≤ c.toNat) : ((upc c).toNat : Int) = (c.toNat : Int) - 32 := by
  unfold upc
  rw [if_pos h, UInt8.toNat_ofNat']
  have := c.toNat_lt
  omega
theorem upc_same {c : UInt8} (h : ¬ 97 ≤ c.toNat) : upc c = c := by unfold upc; rw [if_neg h]
theorem allL_mem {l : List UInt8} (h : allL l = true) {c : UInt8} (hc : c ∈ l) : lowB c.toNat = true := by
  unfold allL at h
  rw [List.all_eq_true] at h
  exact h c hc
theorem allL_dig {l : List UInt8} (h : allL l = true) : allD 16 l = true := by
  unfold allD
  rw [List.all_eq_true]
  intro c hc
  simpa using (low_dgv (allL_mem h hc)).1
theorem up_dig {l : List UInt8} (h : allL l = true) : allD 16 (l.map upc) = true := by
  unfold allD
  rw [List.all_eq_true]
  intro c hc
  obtain ⟨x, hx, rfl⟩ := List.mem_map.1 hc
  obtain ⟨a, b⟩ := low_dgv (allL_mem h hx)
  rw [b]
  simpa using a
theorem up_val {l : List UInt8} (h : allL l = true) : val 16 (l.map upc) = val 16 l := by
  induction l with
  | nil => rfl
  | cons c t ih =>
    have ht : allL t = true := by unfold allL at *; rw [List.all_cons, Bool.and_eq_true] at h; exact h.2
    rw [List.map_cons, val_cons, val_cons, ih ht, List.length_map, (low_dgv (allL_mem h (by simp))).2]

theorem hex_small (l : List UInt8) : hexB (48 :: 120 :: l) = true := by simp [hexB, Lib.hasPrefix, List.isPrefixOf]
theorem hex_great (l : List UInt8) : hexB (48 :: 88 :: l) = true := by simp [hexB, Lib.hasPrefix, List.isPrefixOf]
theorem num_small (m : Int) (l : List UInt8) : numO m (48 :: 120 :: l) = okD 16 l ∧ numN m (48 :: 120 :: l) = whN 16 l := by
  unfold numO numN
  rw [if_pos (hex_small l), if_pos (hex_small l)]
  exact ⟨rfl, rfl⟩
theorem num_great (m : Int) (l : List UInt8) : numO m (48 :: 88 :: l) = okD 16 l ∧ numN m (48 :: 88 :: l) = whN 16 l := by
  unfold numO numN
  rw [if_pos (hex_great l), if_pos (hex_great l)]
  exact ⟨rfl, rfl⟩

/-- Hex digits are read as base 16 reads them. -/
theorem hex_read {l : List UInt8} (h : allL l = true) (hl : l ≠ []) :
    numO 9223372036854775807 (48 :: 120 :: l) = true ∧ numN 9223372036854775807 (48 :: 120 :: l) = whN 16 l ∧
    numO 9223372036854775807 (48 :: 88 :: l.map upc) = true ∧ numN 9223372036854775807 (48 :: 88 :: l.map upc) = whN 16 l ∧
    basO 16 l = true ∧ basN 16 l = sgn (whN 16 l : Int) ∧ toO (45 :: 48 :: 120 :: l) = true ∧ toN (45 :: 48 :: 120 :: l) = sgn (-(whN 16 l : Int)) := by
  have hd := allL_dig h
  have hu := up_dig h
  have hok := allD_ok hd hl
  have hok' := allD_ok hu (by simpa using hl)
  have hw : whN 16 (l.map upc) = whN 16 l := by rw [whN_ok hok, whN_ok hok', up_val h]
  have nb := noblk_of (by omega) hd
  have m0 := min_of (by omega) hd [] hl
  rw [List.append_nil] at m0
  obtain ⟨a, b⟩ := bas_plain (b := 16) (by omega) (by omega) (trm_id nb hl) m0
  have ht : trm (45 :: 48 :: 120 :: l) = 45 :: 48 :: 120 :: l := trm_id (fun c hc => by
    rcases List.mem_cons.1 hc with rfl | hc
    · decide
    · rcases List.mem_cons.1 hc with rfl | hc
      · decide
      · rcases List.mem_cons.1 hc with rfl | hc
        · decide
        · exact nb c hc) (by simp)
  refine ⟨(num_small _ l).1.trans hok, (num_small _ l).2, (num_great _ _).1.trans hok', (num_great _ _).2.trans hw, b.trans hok, a, ?_, ?_⟩
  · rw [toO_minus ht]
    exact (num_small _ l).1.trans hok
  · rw [toN_minus ht, (num_small _ l).2]
theorem hex_more {l : List UInt8} {c : UInt8} (hc : 16 ≤ dgv c.toNat) : numO 9223372036854775807 (48 :: 120 :: (l ++ [c])) = false := by
  refine (num_small _ _).1.trans ?_
  unfold okD
  rw [allD_snoc, decide_eq_false (by omega)]
  simp
theorem no_hex_dgv {c : Nat} (h : ¬ ((48 ≤ c ∧ c ≤ 57) ∨ (97 ≤ c ∧ c ≤ 102) ∨ (65 ≤ c ∧ c ≤ 70))) : 16 ≤ dgv c := by
  unfold dgv
  split
  · omega
  · split
    · omega
    · split <;> omega
end Go.Proofs.YtpmhbnfiidmcmaaDoor
