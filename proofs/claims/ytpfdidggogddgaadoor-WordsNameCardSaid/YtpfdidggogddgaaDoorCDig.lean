/- selkieref01.Digits, the document's own numeral, is the decimal numeral of every int64. -/
import Derived.Test.YtpfdidggogddgaaDoorCPrt
import Derived.Deep.RegionWith
import Derived.Deep.RegionHeld3
import Derived.Laws.BytesArg
import Derived.IntWalk
namespace Go.Proofs.YtpfdidggogddgaaDoor
open Go.RowKit Go.Sort


theorem conv1 (W : World) (b : Nat) (u : Int) (h : W.cell? ⟨b, 0, none⟩ = some (.int .u8 u)) :
    (convert 43 9 (.slice (some ⟨b, 0, none⟩) 1 1)).run Tryd.prog W = .ok (.string (strOfNums [u])) W :=
  run_convert_bytes_arg W 43 5 Tryd.underlying43 Tryd.underlying5 b 0 1 1 [u] rfl (fun i hi => by
    obtain rfl : i = 0 := by omega
    exact h) 9 Tryd.underlying9
theorem conv2 (W : World) (b : Nat) (u v : Int) (h : W.cell? ⟨b, 0, none⟩ = some (.int .u8 u)) (h' : W.cell? ⟨b, 1, none⟩ = some (.int .u8 v)) :
    (convert 43 9 (.slice (some ⟨b, 0, none⟩) 2 2)).run Tryd.prog W = .ok (.string (strOfNums [u, v])) W :=
  run_convert_bytes_arg W 43 5 Tryd.underlying43 Tryd.underlying5 b 0 2 2 [u, v] rfl (fun i hi => by
    rcases (show i = 0 ∨ i = 1 by omega) with rfl | rfl
    · exact h
    · exact h') 9 Tryd.underlying9

set_option maxHeartbeats 800000 in
theorem dig_small (n : Int) (w : World) (h0 : 0 ≤ n) (h1 : n < 10) :
    Calls Tryd.prog 38 #[.int .i64 n] w fun e w' => e = .returned (.string (strOfNums [48 + n])) ∧ Below w.heap.size w w' := by
  have hcv := fun (x : World) => conv1 (x.alloc (.cells #[.int .u8 (48 + n)] 5)) x.heap.size (48 + n) (by simp [go_sem])
  go_enter Tryd.func38, Tryd.ntmps38
  go_wp2_with fail
  go_ret
  exact ⟨rfl, below1 _ _⟩

set_option maxHeartbeats 800000 in
theorem dig_neg (n : Int) (w : World) (h0 : n < 0) (h1 : -10 < n) :
    Calls Tryd.prog 38 #[.int .i64 n] w fun e w' => e = .returned (.string (strOfNums [45, 48 - n])) ∧ Below w.heap.size w w' := by
  have g : decide (0 ≤ n) = false := by simp; omega
  have hcv := fun (x : World) => conv2 (x.alloc (.cells #[.int .u8 45, .int .u8 (48 - n)] 5)) x.heap.size 45 (48 - n) (by simp [go_sem]) (by simp [go_sem])
  go_enter Tryd.func38, Tryd.ntmps38
  go_wp2_with fail
  go_ret
  exact ⟨rfl, below1 _ _⟩

theorem undrew {w w' : World} (h : Below w.drew.heap.size w.drew w') : Below w.heap.size w w' := ⟨h.os, h.tape, h.output, h.size, h.block⟩
theorem strOfNums1_size (u : Int) : (strOfNums [u]).size = 1 := rfl

set_option maxHeartbeats 1600000 in
theorem dig_pos (n : Int) (s : ByteArray) (w : World) (h0 : 10 ≤ n) (h1 : n ≤ 9223372036854775807) (hs : s.size ≤ 100)
   (ih : ∀ w, Calls Tryd.prog 38 #[.int .i64 (n / 10)] w fun e w' => e = .returned (.string s) ∧ Below w.heap.size w w') :
    Calls Tryd.prog 38 #[.int .i64 n] w fun e w' => e = .returned (.string (s ++ strOfNums [48 + n % 10])) ∧ Below w.heap.size w w' := by
  have g : decide (n < 10) = false := by simp; omega
  have g' : decide (n < 0) = false := by simp; omega
  have IH := Lib.hid ih
  have hcv := fun (W : World) (b : Nat) => conv1 W b (48 + n % 10)
  have hz := strOfNums1_size (48 + n % 10)
  clear ih
  generalize strOfNums [48 + n % 10] = d at hcv hz ⊢
  have hsum : ¬ 9223372036854775807 < s.size + d.size := by omega
  have hsum' : ¬ (9223372036854775807 : Int) < (s.size : Int) + (d.size : Int) := by omega
  clear hz hs
  have q1 : n.tdiv 10 = n / 10 := Int.tdiv_eq_ediv_of_nonneg (by omega)
  have q2 : IntKind.i64.wrap (n / 10) = n / 10 := IntWalk.i64_in _ (by omega)
  have q3 : IntKind.i64.wrap (48 + n % 10) = 48 + n % 10 := IntWalk.i64_in _ (by omega)
  have q4 : IntKind.u8.wrap (48 + n % 10) = 48 + n % 10 := IntWalk.u8_in _ (by omega)
  go_enter Tryd.func38, Tryd.ntmps38
  go_wp2_with fail
  go_region_with ((go_at_call 38; (with_reducible refine (IH.out _).mono ?_); rintro e w' ⟨rfl, hb⟩; obtain ⟨hc, hf⟩ := bcell hb))
  all_goals
    go_wp2_with fail
    go_ret
    exact ⟨rfl, by first | exact (undrew hb).alloc (undrew hb).size _ | exact thenB (below1 _ _) (undrew hb)⟩
set_option maxHeartbeats 1600000 in
theorem dig_low1 (n : Int) (s : ByteArray) (w : World) (h0 : n ≤ -10) (h1 : -9223372036854775808 ≤ n) (hs : s.size ≤ 100) (hm : n.tmod 10 < 0)
   (ih : ∀ w, Calls Tryd.prog 38 #[.int .i64 (n.tdiv 10)] w fun e w' => e = .returned (.string s) ∧ Below w.heap.size w w') :
    Calls Tryd.prog 38 #[.int .i64 n] w fun e w' => e = .returned (.string (s ++ strOfNums [48 + -(n.tmod 10)])) ∧ Below w.heap.size w w' := by
  have m1 : -9 ≤ n.tmod 10 := by
    have e : n.tmod 10 = -((-n) % 10) := by rw [← Int.tmod_eq_emod_of_nonneg (by omega), Int.neg_tmod, Int.neg_neg]
    omega
  have m2 : -922337203685477580 ≤ n.tdiv 10 ∧ n.tdiv 10 ≤ -1 := by
    have e : n.tdiv 10 = -((-n) / 10) := by rw [← Int.tdiv_eq_ediv_of_nonneg (by omega), Int.neg_tdiv, Int.neg_neg]
    omega
  have g : decide (0 ≤ n) = false := by simp; omega
  have g' : decide (-10 < n) = false := by simp; omega
  have IH := Lib.hid ih
  have hcv := fun (W : World) (b : Nat) => conv1 W b (48 + -(n.tmod 10))
  have hz := strOfNums1_size (48 + -(n.tmod 10))
  clear ih
  generalize strOfNums [48 + -(n.tmod 10)] = d at hcv hz ⊢
  have hsum : ¬ 9223372036854775807 < s.size + d.size := by omega
  have hsum' : ¬ (9223372036854775807 : Int) < (s.size : Int) + (d.size : Int) := by omega
  clear hz hs
  have q2 : IntKind.i64.wrap (n.tdiv 10) = n.tdiv 10 := IntWalk.i64_in _ (by omega)
  have q3 : IntKind.i64.wrap (48 + -(n.tmod 10)) = 48 + -(n.tmod 10) := IntWalk.i64_in _ (by omega)
  have q4 : IntKind.u8.wrap (48 + -(n.tmod 10)) = 48 + -(n.tmod 10) := IntWalk.u8_in _ (by omega)
  go_enter Tryd.func38, Tryd.ntmps38
  go_wp2_with fail
  go_region_with ((go_at_call 38; (with_reducible refine (IH.out _).mono ?_); rintro e w' ⟨rfl, hb⟩; obtain ⟨hc, hf⟩ := bcell hb))
  all_goals
    go_wp2_with fail
    go_ret
    exact ⟨rfl, by first | exact (undrew hb).alloc (undrew hb).size _ | exact thenB (below1 _ _) (undrew hb)⟩

set_option maxHeartbeats 1600000 in
theorem dig_low0 (n : Int) (s : ByteArray) (w : World) (h0 : n ≤ -10) (h1 : -9223372036854775808 ≤ n) (hs : s.size ≤ 100) (hm : n.tmod 10 = 0)
   (ih : ∀ w, Calls Tryd.prog 38 #[.int .i64 (n.tdiv 10)] w fun e w' => e = .returned (.string s) ∧ Below w.heap.size w w') :
    Calls Tryd.prog 38 #[.int .i64 n] w fun e w' => e = .returned (.string (s ++ strOfNums [48])) ∧ Below w.heap.size w w' := by
  have m2 : -922337203685477580 ≤ n.tdiv 10 ∧ n.tdiv 10 ≤ -1 := by
    have e : n.tdiv 10 = -((-n) / 10) := by rw [← Int.tdiv_eq_ediv_of_nonneg (by omega), Int.neg_tdiv, Int.neg_neg]
    omega
  have g : decide (0 ≤ n) = false := by simp; omega
  have g' : decide (-10 < n) = false := by simp; omega
  have IH := Lib.hid ih
  have hcv := fun (W : World) (b : Nat) => conv1 W b (48)
  have hz := strOfNums1_size (48)
  clear ih
  generalize strOfNums [48] = d at hcv hz ⊢
  have hsum : ¬ 9223372036854775807 < s.size + d.size := by omega
  have hsum' : ¬ (9223372036854775807 : Int) < (s.size : Int) + (d.size : Int) := by omega
  clear hz hs
  have q3 : IntKind.i64.wrap 48 = 48 := IntWalk.i64_in _ (by omega)
  have q4 : IntKind.u8.wrap 48 = 48 := IntWalk.u8_in _ (by omega)
  have q2 : IntKind.i64.wrap (n.tdiv 10) = n.tdiv 10 := IntWalk.i64_in _ (by omega)
  go_enter Tryd.func38, Tryd.ntmps38
  go_wp2_with fail
  go_region_with ((go_at_call 38; (with_reducible refine (IH.out _).mono ?_); rintro e w' ⟨rfl, hb⟩; obtain ⟨hc, hf⟩ := bcell hb))
  all_goals
    go_wp2_with fail
    go_ret
    exact ⟨rfl, by first | exact (undrew hb).alloc (undrew hb).size _ | exact thenB (below1 _ _) (undrew hb)⟩

theorem dec_small (u : Nat) (h : u < 10) : Lib.decDigits u = [UInt8.ofNat (48 + u)] := by
  rw [Lib.decDigits, dif_pos h]
theorem dec_more (u : Nat) (h : 10 ≤ u) : Lib.decDigits u = Lib.decDigits (u / 10) ++ [UInt8.ofNat (48 + u % 10)] := by
  rw [Lib.decDigits, dif_neg (by omega)]
theorem dec_len : ∀ (k u : Nat), u < 10 ^ (k + 1) → (Lib.decDigits u).length ≤ k + 1
  | 0, u, h => by rw [dec_small u (by simpa using h)]; simp
  | k + 1, u, h => by
    by_cases hu : u < 10
    · rw [dec_small u hu]; simp
    · have := dec_len k (u / 10) (by rw [Nat.pow_succ] at h; omega)
      rw [dec_more u (by omega)]
      simp
      omega
theorem digS_size (n : Int) (h0 : -9223372036854775808 ≤ n) (h1 : n ≤ 9223372036854775807) : (digS n).size ≤ 100 := by
  show (Lib.itoa n).toArray.size ≤ 100
  simp only [Lib.itoa, List.size_toArray]
  split
  · have := dec_len 19 n.natAbs (by omega)
    simp
    omega
  · have := dec_len 19 n.toNat (by omega)
    omega

theorem append_str (l m : List UInt8) : (⟨l.toArray⟩ : ByteArray) ++ ⟨m.toArray⟩ = ⟨(l ++ m).toArray⟩ := by
  apply ByteArray.ext
  simp
theorem nums1 (u : Int) : strOfNums [u] = ⟨#[UInt8.ofNat u.toNat]⟩ := rfl
theorem nums2 (u v : Int) : strOfNums [u, v] = ⟨#[UInt8.ofNat u.toNat, UInt8.ofNat v.toNat]⟩ := rfl

theorem one_dig (n : Int) (h0 : 0 ≤ n) (h1 : n < 10) : strOfNums [48 + n] = digS n := by
  rw [nums1]
  simp only [digS, Lib.itoa]
  rw [if_neg (by omega), dec_small _ (by omega), show (48 + n).toNat = 48 + n.toNat by omega]

theorem digits_any (k : Nat) : ∀ (n : Int) (w : World), n.natAbs ≤ k → -9223372036854775808 ≤ n → n ≤ 9223372036854775807 →
    Calls Tryd.prog 38 #[.int .i64 n] w fun e w' => e = .returned (.string (digS n)) ∧ Below w.heap.size w w' := by
  induction k with
  | zero =>
    intro n w hk h0 h1
    obtain rfl : n = 0 := by omega
    have h := dig_small 0 w (by omega) (by omega)
    rw [one_dig 0 (by omega) (by omega)] at h
    exact h
  | succ k ih =>
    intro n w hk h0 h1
    by_cases a1 : 0 ≤ n
    · by_cases a2 : n < 10
      · have h := dig_small n w a1 a2
        rw [one_dig n a1 a2] at h
        exact h
      · have h := dig_pos n (digS (n / 10)) w (by omega) h1 (digS_size _ (by omega) (by omega)) (fun w => ih (n / 10) w (by omega) (by omega) (by omega))
        have e : digS (n / 10) ++ strOfNums [48 + n % 10] = digS n := by
          rw [nums1]
          simp only [digS, Lib.itoa]
          rw [if_neg (by omega), if_neg (by omega), dec_more n.toNat (by omega), show (n / 10).toNat = n.toNat / 10 by omega, show (48 + n % 10).toNat = 48 + n.toNat % 10 by omega]
          exact append_str _ [_]
        rw [e] at h
        exact h
    · by_cases a2 : -10 < n
      · have h := dig_neg n w (by omega) a2
        have e : strOfNums [45, 48 - n] = digS n := by
          rw [nums2]
          simp only [digS, Lib.itoa]
          rw [if_pos (by omega), dec_small _ (by omega), show (48 - n).toNat = 48 + n.natAbs by omega]
          rfl
        rw [e] at h
        exact h
      · have t1 : n.tdiv 10 = -((-n) / 10) := by rw [← Int.tdiv_eq_ediv_of_nonneg (by omega), Int.neg_tdiv, Int.neg_neg]
        have t2 : n.tmod 10 = -((-n) % 10) := by rw [← Int.tmod_eq_emod_of_nonneg (by omega), Int.neg_tmod, Int.neg_neg]
        have e : ∀ u : Int, u = 48 + -(n.tmod 10) → digS (n.tdiv 10) ++ strOfNums [u] = digS n := by
          rintro u rfl
          rw [nums1]
          simp only [digS, Lib.itoa]
          rw [if_pos (by omega), if_pos (by omega), dec_more n.natAbs (by omega), show (n.tdiv 10).natAbs = n.natAbs / 10 by omega, show (48 + -(n.tmod 10)).toNat = 48 + n.natAbs % 10 by omega]
          exact append_str (_ :: _) [_]
        by_cases hm : n.tmod 10 = 0
        · have h := dig_low0 n (digS (n.tdiv 10)) w (by omega) h0 (digS_size _ (by omega) (by omega)) hm (fun w => ih (n.tdiv 10) w (by omega) (by omega) (by omega))
          rw [e 48 (by omega)] at h
          exact h
        · have h := dig_low1 n (digS (n.tdiv 10)) w (by omega) h0 (digS_size _ (by omega) (by omega)) (by omega) (fun w => ih (n.tdiv 10) w (by omega) (by omega) (by omega))
          rw [e _ rfl] at h
          exact h
end Go.Proofs.YtpfdidggogddgaaDoor
