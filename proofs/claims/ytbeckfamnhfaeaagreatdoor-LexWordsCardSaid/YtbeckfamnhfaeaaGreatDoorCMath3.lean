/- What is printed is read: plain mathematics of decimal numerals with blanks around them and noughts ahead. No program is named here. -/
import Derived.Test.YtbeckfamnhfaeaaGreatDoorCMath2
namespace Go.Proofs.YtbeckfamnhfaeaaGreatDoor

theorem dec_one (u : Nat) (h : u < 10) : Lib.decDigits u = [UInt8.ofNat (48 + u)] := by
  rw [Lib.decDigits, dif_pos h]
theorem dec_snoc (u : Nat) (h : 10 ≤ u) : Lib.decDigits u = Lib.decDigits (u / 10) ++ [UInt8.ofNat (48 + u % 10)] := by
  rw [Lib.decDigits, dif_neg (by omega)]
theorem dg_dec (d : Nat) (h : d < 10) : dgv (UInt8.ofNat (48 + d)).toNat = d := by
  have e : (UInt8.ofNat (48 + d)).toNat = 48 + d := by
    rw [UInt8.toNat_ofNat']
    omega
  rw [e]
  unfold dgv
  rw [if_pos (by omega)]
  omega
theorem val_dec (k : Nat) : ∀ u, u ≤ k → val 10 (Lib.decDigits u) = u := by
  induction k with
  | zero =>
    intro u hu
    obtain rfl : u = 0 := by omega
    rw [dec_one 0 (by omega), show ([UInt8.ofNat (48 + 0)] : List UInt8) = [] ++ [UInt8.ofNat (48 + 0)] from rfl, val_snoc, dg_dec 0 (by omega)]
    rfl
  | succ k ih =>
    intro u hu
    by_cases h : u < 10
    · rw [dec_one u h, show ([UInt8.ofNat (48 + u)] : List UInt8) = [] ++ [UInt8.ofNat (48 + u)] from rfl, val_snoc, dg_dec u h, val_nil]
      omega
    · rw [dec_snoc u (by omega), val_snoc, ih (u / 10) (by omega), dg_dec _ (by omega)]
      omega
theorem allD_dec (k : Nat) : ∀ u, u ≤ k → allD 10 (Lib.decDigits u) = true := by
  induction k with
  | zero =>
    intro u hu
    obtain rfl : u = 0 := by omega
    rw [dec_one 0 (by omega), show ([UInt8.ofNat (48 + 0)] : List UInt8) = [] ++ [UInt8.ofNat (48 + 0)] from rfl, allD_snoc, dg_dec 0 (by omega)]
    rfl
  | succ k ih =>
    intro u hu
    by_cases h : u < 10
    · rw [dec_one u h, show ([UInt8.ofNat (48 + u)] : List UInt8) = [] ++ [UInt8.ofNat (48 + u)] from rfl, allD_snoc, dg_dec u h]
      simp [allD, h]
    · rw [dec_snoc u (by omega), allD_snoc, ih (u / 10) (by omega), dg_dec _ (by omega)]
      simp
      omega
theorem dec_some (u : Nat) : Lib.decDigits u ≠ [] := by
  by_cases h : u < 10
  · rw [dec_one u h]; simp
  · rw [dec_snoc u (by omega)]; simp

/-- A decimal digit's byte. -/
theorem dg10 {c : UInt8} (h : dgv c.toNat < 10) : 48 ≤ c.toNat ∧ c.toNat ≤ 57 := by
  unfold dgv at h
  split at h
  · assumption
  · split at h
    · omega
    · split at h <;> omega
theorem allD_mem {b : Nat} {l : List UInt8} (h : allD b l = true) {c : UInt8} (hc : c ∈ l) : dgv c.toNat < b := by
  unfold allD at h
  rw [List.all_eq_true] at h
  simpa using h c hc
theorem pre_no {l : List UInt8} (h : allD 10 l = true) (x : UInt8) (hx : x.toNat < 48 ∨ 57 < x.toNat) : Lib.hasPrefix l [x] = false := by
  cases l with
  | nil => rfl
  | cons c t =>
    have := dg10 (allD_mem h (List.mem_cons_self ..))
    have hne : (x == c) = false := by
      rw [beq_eq_false_iff_ne]
      rintro rfl
      omega
    simp [Lib.hasPrefix, List.isPrefixOf, hne]
theorem pre2_no {l : List UInt8} (h : allD 10 l = true) (a x : UInt8) (hx : x.toNat < 48 ∨ 57 < x.toNat) : Lib.hasPrefix l [a, x] = false := by
  match l, h with
  | [], _ => rfl
  | [_], _ => simp [Lib.hasPrefix, List.isPrefixOf]
  | c :: d :: t, h =>
    have := dg10 (allD_mem h (c := d) (by simp))
    have hne : (x == d) = false := by
      rw [beq_eq_false_iff_ne]
      rintro rfl
      omega
    simp [Lib.hasPrefix, List.isPrefixOf, hne]
theorem hexB_no {l : List UInt8} (h : allD 10 l = true) : hexB l = false := by
  unfold hexB
  rw [pre2_no h 48 120 (by decide), pre2_no h 48 88 (by decide)]
  rfl
theorem allD_ok {b : Nat} {l : List UInt8} (h : allD b l = true) (hl : l ≠ []) : okD b l = true := by
  unfold okD
  rw [h]
  cases l with
  | nil => exact absurd rfl hl
  | cons => rfl

/-- A text of decimal digits as a numeral. -/
theorem numO_digits {m : Int} {l : List UInt8} (h : allD 10 l = true) (hl : l ≠ []) (hv : (val 10 l : Int) ≤ m) : numO m l = true := by
  unfold numO
  rw [hexB_no h, if_neg (by decide)]
  exact decO_is (allD_ok h hl) hv
theorem numN_digits {m : Int} {l : List UInt8} (h : allD 10 l = true) (hl : l ≠ []) (hv : (val 10 l : Int) ≤ m) : numN m l = val 10 l := by
  unfold numN
  rw [hexB_no h, if_neg (by decide)]
  exact decN_is (decO_is (allD_ok h hl) hv)

/-- Blanks around a text that holds none are struck. -/
theorem dw_all {p : UInt8 → Bool} (a b : List UInt8) (h : ∀ c ∈ a, p c = true) : (a ++ b).dropWhile p = b.dropWhile p := by
  induction a with
  | nil => rfl
  | cons c t ih =>
    rw [List.cons_append, List.dropWhile, h c (by simp)]
    exact ih fun x hx => h x (by simp [hx])
theorem dw_none {p : UInt8 → Bool} (a b : List UInt8) (ha : a ≠ []) (h : ∀ c ∈ a, p c = false) : (a ++ b).dropWhile p = a ++ b := by
  cases a with
  | nil => exact absurd rfl ha
  | cons c t => rw [List.cons_append, List.dropWhile, h c (by simp)]
theorem trm_mid (p x q : List UInt8) (hp : ∀ c ∈ p, blkB c.toNat = true) (hq : ∀ c ∈ q, blkB c.toNat = true) (hx : ∀ c ∈ x, blkB c.toNat = false) (hn : x ≠ []) : trm (p ++ x ++ q) = x := by
  rw [← trm_other]
  unfold Lib.trimLeftS Lib.trimRightS
  have e1 : List.dropWhile (fun y => blanks.contains y) (p ++ x ++ q) = x ++ q := by
    rw [List.append_assoc, dw_all p (x ++ q) (fun c hc => by rw [blanks_has]; exact hp c hc), dw_none x q hn (fun c hc => by rw [blanks_has]; exact hx c hc)]
  rw [e1, List.reverse_append, dw_all q.reverse x.reverse (fun c hc => by rw [blanks_has]; exact hq c (by simpa using hc))]
  have e2 := dw_none (p := fun y => blanks.contains y) x.reverse [] (by simpa using hn) (fun c hc => by rw [blanks_has]; exact hx c (by simpa using hc))
  rw [List.append_nil] at e2
  rw [e2, List.reverse_reverse]
theorem digit_noblk {l : List UInt8} (h : allD 10 l = true) : ∀ c ∈ l, blkB c.toNat = false := by
  intro c hc
  have := dg10 (allD_mem h hc)
  unfold blkB
  rw [Bool.or_eq_false_iff, decide_eq_false_iff_not, decide_eq_false_iff_not]
  omega

/-- What ToInt and Base make of a text whose blanks are struck. -/
theorem toN_minus {l d : List UInt8} (ht : trm l = 45 :: d) : toN l = sgn (-(numN 9223372036854775808 d : Int)) := by
  unfold toN
  rw [ht, if_pos (by rfl)]
  rfl
theorem toO_minus {l d : List UInt8} (ht : trm l = 45 :: d) : toO l = numO 9223372036854775808 d := by
  unfold toO
  rw [ht, if_pos (by rfl)]
  rfl
theorem toN_digits {l d : List UInt8} (ht : trm l = d) (h : allD 10 d = true) : toN l = sgn (numN 9223372036854775807 d : Int) := by
  unfold toN minB Lib.trimPrefix
  rw [ht, pre_no h 45 (by decide), pre_no h 43 (by decide), if_neg (by decide), if_neg (by decide)]
theorem toO_digits {l d : List UInt8} (ht : trm l = d) (h : allD 10 d = true) : toO l = numO 9223372036854775807 d := by
  unfold toO minB Lib.trimPrefix
  rw [ht, pre_no h 45 (by decide), pre_no h 43 (by decide), if_neg (by decide), if_neg (by decide)]
theorem toN_plus {l d : List UInt8} (ht : trm l = 43 :: d) : toN l = sgn (numN 9223372036854775807 d : Int) := by
  unfold toN
  rw [ht, if_neg (by simp [minB, Lib.hasPrefix, List.isPrefixOf])]
  have e : Lib.trimPrefix (43 :: d) [43] = d := by simp [Lib.trimPrefix, Lib.hasPrefix, List.isPrefixOf]
  rw [e]
theorem toO_plus {l d : List UInt8} (ht : trm l = 43 :: d) : toO l = numO 9223372036854775807 d := by
  unfold toO
  rw [ht, if_neg (by simp [minB, Lib.hasPrefix, List.isPrefixOf])]
  have e : Lib.trimPrefix (43 :: d) [43] = d := by simp [Lib.trimPrefix, Lib.hasPrefix, List.isPrefixOf]
  rw [e]
theorem bas_minus {b : Nat} {l d : List UInt8} (h2 : 2 ≤ b) (h36 : b ≤ 36) (ht : trm l = 45 :: d) : basN b l = sgn (-(whN b d : Int)) ∧ basO b l = okD b d := by
  unfold basN basO
  have e : Lib.trimPrefix (45 :: d) [45] = d := by simp [Lib.trimPrefix, Lib.hasPrefix, List.isPrefixOf]
  have hb : 2 ≤ (b : Int) ∧ (b : Int) ≤ 36 := by omega
  have hm : minB (45 :: d) = true := by simp [minB, Lib.hasPrefix, List.isPrefixOf]
  rw [ht, if_pos hb, if_pos hb, if_pos hm, e, Int.toNat_natCast]
  exact ⟨rfl, rfl⟩
theorem bas_plain {b : Nat} {l d : List UInt8} (h2 : 2 ≤ b) (h36 : b ≤ 36) (ht : trm l = d) (h : minB d = false) : basN b l = sgn (whN b d : Int) ∧ basO b l = okD b d := by
  unfold basN basO
  have e : Lib.trimPrefix d [45] = d := by unfold Lib.trimPrefix; unfold minB at h; rw [h, if_neg (by decide)]
  have hb : 2 ≤ (b : Int) ∧ (b : Int) ≤ 36 := by omega
  have hm : ¬ minB d = true := by rw [h]; decide
  rw [ht, if_pos hb, if_pos hb, if_neg hm, e, Int.toNat_natCast]
  exact ⟨rfl, rfl⟩

theorem sgn_in {n : Int} (h0 : -9223372036854775808 ≤ n) (h1 : n ≤ 9223372036854775807) : sgn n = n := by unfold sgn; omega
theorem whN_dec {u : Nat} (h : u ≤ 9223372036854775808) : whN 10 (Lib.decDigits u) = u := by
  rw [whN_ok (allD_ok (allD_dec u u (Nat.le_refl _)) (dec_some u)), val_dec u u (Nat.le_refl _)]
  omega

/-- What is printed, with blanks around it, is read. -/
theorem back_read (n : Int) (p : List UInt8) (h0 : -9223372036854775808 ≤ n) (h1 : n ≤ 9223372036854775807) (hp : ∀ c ∈ p, blkB c.toNat = true) :
    toN (p ++ Lib.itoa n ++ p) = n ∧ toO (p ++ Lib.itoa n ++ p) = true ∧ basN 10 (p ++ Lib.itoa n ++ p) = n ∧ basO 10 (p ++ Lib.itoa n ++ p) = true := by
  by_cases hn : n < 0
  · have ei : Lib.itoa n = 45 :: Lib.decDigits n.natAbs := by unfold Lib.itoa; rw [if_pos hn]
    have ha := allD_dec n.natAbs n.natAbs (Nat.le_refl _)
    have hv := val_dec n.natAbs n.natAbs (Nat.le_refl _)
    have ht : trm (p ++ Lib.itoa n ++ p) = 45 :: Lib.decDigits n.natAbs := by
      rw [ei]
      refine trm_mid p _ p hp hp (fun c hc => ?_) (by simp)
      rcases List.mem_cons.1 hc with rfl | hc
      · rfl
      · exact digit_noblk ha c hc
    have hle : (val 10 (Lib.decDigits n.natAbs) : Int) ≤ 9223372036854775808 := by rw [hv]; omega
    obtain ⟨hb, hb'⟩ := bas_minus (b := 10) (by omega) (by omega) ht
    refine ⟨?_, ?_, ?_, ?_⟩
    · rw [toN_minus ht, numN_digits ha (dec_some _) hle, hv, sgn_in (by omega) (by omega)]; omega
    · rw [toO_minus ht, numO_digits ha (dec_some _) hle]
    · refine Eq.trans hb ?_
      rw [whN_dec (by omega), sgn_in (by omega) (by omega)]; omega
    · exact hb'.trans (allD_ok ha (dec_some _))
  · have ei : Lib.itoa n = Lib.decDigits n.toNat := by unfold Lib.itoa; rw [if_neg hn]
    have ha := allD_dec n.toNat n.toNat (Nat.le_refl _)
    have hv := val_dec n.toNat n.toNat (Nat.le_refl _)
    have ht : trm (p ++ Lib.itoa n ++ p) = Lib.decDigits n.toNat := by
      rw [ei]
      exact trm_mid p _ p hp hp (digit_noblk ha) (dec_some _)
    have hle : (val 10 (Lib.decDigits n.toNat) : Int) ≤ 9223372036854775807 := by rw [hv]; omega
    obtain ⟨hb, hb'⟩ := bas_plain (b := 10) (by omega) (by omega) ht (pre_no ha 45 (by decide))
    refine ⟨?_, ?_, ?_, ?_⟩
    · rw [toN_digits ht ha, numN_digits ha (dec_some _) hle, hv, sgn_in (by omega) (by omega)]; omega
    · rw [toO_digits ht ha, numO_digits ha (dec_some _) hle]
    · refine Eq.trans hb ?_
      rw [whN_dec (by omega), sgn_in (by omega) (by omega)]; omega
    · exact hb'.trans (allD_ok ha (dec_some _))

/-- Noughts ahead. -/
def zers (k : Nat) (l : List UInt8) : List UInt8 := List.replicate k 48 ++ l
theorem zers_succ (k : Nat) (l : List UInt8) : zers (k + 1) l = [48] ++ zers k l := by simp [zers, List.replicate_succ]
theorem val_zers (k : Nat) (l : List UInt8) : val 10 (zers k l) = val 10 l := by
  induction k with
  | zero => rfl
  | succ k ih => rw [zers_succ]; exact (val_zero _).trans ih
theorem allD_zers (k : Nat) {l : List UInt8} (h : allD 10 l = true) : allD 10 (zers k l) = true := by
  induction k with
  | zero => exact h
  | succ k ih =>
    rw [zers_succ]
    unfold allD at *
    rw [List.all_append, ih]
    decide
theorem zers_read (n : Int) (k : Nat) (h0 : 0 ≤ n) (h1 : n ≤ 9223372036854775807) :
    sgn (numN 9223372036854775807 (zers k (Lib.itoa n)) : Int) = n ∧ numO 9223372036854775807 (zers k (Lib.itoa n)) = true ∧ toN (43 :: zers k (Lib.itoa n)) = n ∧ toO (43 :: zers k (Lib.itoa n)) = true := by
  have ei : Lib.itoa n = Lib.decDigits n.toNat := by unfold Lib.itoa; rw [if_neg (by omega)]
  have ha := allD_zers k (allD_dec n.toNat n.toNat (Nat.le_refl _))
  have hv := (val_zers k _).trans (val_dec n.toNat n.toNat (Nat.le_refl _))
  have hne : zers k (Lib.decDigits n.toNat) ≠ [] := by
    unfold zers
    intro e
    exact dec_some _ (List.append_eq_nil_iff.1 e).2
  rw [← ei] at ha hv hne
  have hle : (val 10 (zers k (Lib.itoa n)) : Int) ≤ 9223372036854775807 := by rw [hv]; omega
  have ht : trm (43 :: zers k (Lib.itoa n)) = 43 :: zers k (Lib.itoa n) := by
    have := trm_mid [] (43 :: zers k (Lib.itoa n)) [] (fun c hc => by cases hc) (fun c hc => by cases hc) (fun c hc => by
      rcases List.mem_cons.1 hc with rfl | hc
      · rfl
      · exact digit_noblk ha c hc) (by simp)
    simpa using this
  have e1 : sgn (numN 9223372036854775807 (zers k (Lib.itoa n)) : Int) = n := by
    rw [numN_digits ha hne hle, hv, sgn_in (by omega) (by omega)]; omega
  exact ⟨e1, numO_digits ha hne hle, (toN_plus ht).trans e1, (toO_plus ht).trans (numO_digits ha hne hle)⟩

/-- The blanks that the law lays around. -/
def padL : Nat → List UInt8
  | 0 => []
  | k + 1 => padL k ++ [blanks.getD (k % 6) 0]
theorem padL_blk : ∀ k, ∀ c ∈ padL k, blkB c.toNat = true
  | 0, c, hc => by cases hc
  | k + 1, c, hc => by
    rcases List.mem_append.1 hc with hc | hc
    · exact padL_blk k c hc
    · obtain rfl : c = blanks.getD (k % 6) 0 := by simpa using hc
      have h : k % 6 < 6 := Nat.mod_lt _ (by decide)
      generalize k % 6 = j at h
      match j, h with
      | 0, _ => rfl
      | 1, _ => rfl
      | 2, _ => rfl
      | 3, _ => rfl
      | 4, _ => rfl
      | 5, _ => rfl
theorem padL_len : ∀ k, (padL k).length = k
  | 0 => rfl
  | k + 1 => by simp [padL, padL_len k]
end Go.Proofs.YtbeckfamnhfaeaaGreatDoor
