/- (*reader).name and (*reader).sign. -/
import Derived.Test.YtbeckfamnhfaeaaGreatDoorBk
import Derived.Test.YtbeckfamnhfaeaaGreatDoorRu
import Derived.Test.YtbeckfamnhfaeaaGreatDoorWd
import Derived.Test.YtbeckfamnhfaeaaGreatDoorSk
namespace Go.Proofs.YtbeckfamnhfaeaaGreatDoor
open Go.RowKit

theorem take_min (l : List UInt8) (i : Nat) : l.take i = l.take (min i l.length) := by
  by_cases h : i ≤ l.length
  · rw [Nat.min_eq_left h]
  · rw [Nat.min_eq_right (by omega), List.take_of_length_le (by omega), List.take_of_length_le (Nat.le_refl _)]
theorem sgn_zero : sgnB [] = false := by decide
theorem sgn_no {l : List UInt8} {j i : Nat} (h : ∀ m, j < m → m ≤ min 3 l.length → sgnB (l.take m) = false) (hi : i ≤ 3) (hj : j < min i l.length) : sgnB (l.take i) = false := by
  rw [take_min]
  exact h _ hj (by omega)
theorem sign_none {l : List UInt8} (h : ∀ m, 0 < m → m ≤ min 3 l.length → sgnB (l.take m) = false) : sign l = none := by
  have h' : ∀ i, i ≤ 3 → sgnB (l.take i) = false := fun i hi => by
    by_cases h0 : 0 < min i l.length
    · exact sgn_no h hi h0
    · rw [take_min, show min i l.length = 0 by omega]
      exact sgn_zero
  unfold sign
  rw [h' 3 (by omega), h' 2 (by omega), h' 1 (by omega)]
  rfl
theorem sign_some {l : List UInt8} {j : Nat} (h : ∀ m, j < m → m ≤ min 3 l.length → sgnB (l.take m) = false) (h0 : 0 < j) (hj : j ≤ min 3 l.length) (hs : sgnB (l.take j) = true) : sign l = some (l.take j, l.drop j) := by
  have big : ∀ i, j < i → i ≤ 3 → sgnB (l.take i) = true → l.take i = l.take j ∧ l.drop i = l.drop j := fun i h1 h2 h3 => by
    by_cases hl : j < l.length
    · rw [sgn_no h h2 (by omega)] at h3
      cases h3
    · have e : l.length = j := by omega
      rw [List.take_of_length_le (by omega), List.take_of_length_le (by omega), List.drop_eq_nil_of_le (by omega), List.drop_eq_nil_of_le (by omega)]
      exact ⟨rfl, rfl⟩
  unfold sign
  cases e3 : sgnB (l.take 3)
  · cases e2 : sgnB (l.take 2)
    · have : j = 1 := by
        rcases (show j = 1 ∨ j = 2 ∨ j = 3 by omega) with rfl | rfl | rfl
        · rfl
        · rw [hs] at e2; cases e2
        · rw [hs] at e3; cases e3
      subst this
      rw [hs]
      rfl
    · by_cases h2 : j = 2
      · subst h2; rfl
      · by_cases h3 : j = 3
        · subst h3; rw [hs] at e3; cases e3
        · obtain ⟨a, b⟩ := big 2 (by omega) (by omega) e2
          simp only [Bool.false_eq_true, if_false, if_true]
          rw [a, b]
  · by_cases h3 : j = 3
    · subst h3; rfl
    · obtain ⟨a, b⟩ := big 3 (by omega) (by omega) e3
      simp only [if_true]
      rw [a, b]

set_option maxHeartbeats 2000000 in
theorem sign_any (b : Nat) (s : ByteArray) (k : Nat) (w : World) (h : Rd w b s k) : Calls Tryz.prog 35 #[.pointer (some ⟨b, 0, none⟩)] w (TextPost b s k w (sign (sfx s k))) := by
  have htop := h.top
  have hle := h.le
  have HR := Lib.hid h
  clear h
  obtain ⟨Y, hY⟩ : ∃ Y : ByteArray, Y = s.extract k s.size := ⟨_, rfl⟩
  have C1 := Lib.hid (fun W h => rest_any b s k W h)
  rw [← hY] at C1
  have hYs : Y.size = s.size - k := by rw [hY, rest_size s k hle]
  have hYl : Y.data.toList = sfx s k := by rw [hY, sfx_rest]
  have HYl := Lib.hid hYl
  have S1 := Lib.hid (fun (n : Nat) W => isSign_any (Y.extract 0 n) W)
  obtain ⟨M, hM⟩ : ∃ M : Nat, M = min 3 Y.size := ⟨_, rfl⟩
  have hMi : min (3 : Int) (Y.size : Int) = (M : Int) := by omega
  have hMl : M ≤ Y.size := by omega
  have hM3 : M ≤ 3 := by omega
  have hMeq : M = min 3 (sfx s k).length := by rw [hM, ← hYl, ← Lib.size_eq]
  have HMeq := Lib.hid hMeq
  have hYk : k + Y.size ≤ s.size := by omega
  clear hY hYs hYl hM hMeq
  go_enter Tryz.func35, Tryz.ntmps35
  go_wp2_with fail
  refine (C1.out _ HR.out).mono ?_; rintro e w1 ⟨rfl, r1, k1⟩
  have R1 := Lib.hid r1
  have K1 := Lib.hid k1
  clear r1 k1
  go_wp2_with fail
  clear hMi
  go_loop [5] (fun i => ∃ n : Nat, n ≤ M ∧ i = .int .i64 n ∧ ∀ m, n < m → m ≤ M → sgnB ((sfx s k).take m) = false) (fun i => (intOf i).toNat)
  case atStart => exact ⟨M, Nat.le_refl _, rfl, fun m h1 h2 => by omega⟩
  case round =>
    obtain ⟨n, hn, rfl, hall⟩ := hrel
    have HA := Lib.hid hall
    clear hall
    by_cases hpos : 0 < n
    · have hlist : (Y.extract 0 n).data.toList = (sfx s k).take n := by
        rw [← HYl.out, ByteArray.data_extract]
        simp
      have S2 := Lib.hid (fun W => S1.out n W)
      cases e : sgnB ((sfx s k).take n)
      · rw [hlist, e] at S2
        have HE := Lib.hid e
        clear e hlist
        go_wp2_with (go_at_call 52; refine (S2.out _).mono ?_; rintro e w' ⟨rfl, rfl⟩)
        go_round
        case rel => exact ⟨n - 1, by omega, by go_num, fun m h1 h2 => by
          by_cases hm : m = n
          · rw [hm]; exact HE.out
          · exact HA.out m (by omega) h2⟩
        case measure => simp [intOf]; omega
      · rw [hlist, e] at S2
        have HS := Lib.hid (sign_some (l := sfx s k) (j := n) (by rw [← HMeq.out]; exact HA.out) hpos (by rw [← HMeq.out]; exact hn) e)
        have T1 := Lib.hid (fun W h => take_any b s k n W h (by omega))
        clear e hlist
        go_wp2_with (first
          | (go_at_call 52; refine (S2.out _).mono ?_; rintro e w' ⟨rfl, rfl⟩)
          | (go_at_call 20; refine (T1.out _ R1.out).mono ?_; rintro e w2 ⟨rfl, r2, k2⟩))
        go_ret2
        refine ⟨K1.out.trans k2, ?_⟩
        rw [HS.out]
        exact ⟨k + n, by rw [← sfx_take]; rfl, r2, by rw [sfx_drop], by omega⟩
    · have hn0 : n = 0 := by omega
      have HS := Lib.hid (sign_none (l := sfx s k) (by rw [← HMeq.out, ← hn0]; exact HA.out))
      subst hn0
      go_wp2_with fail
      go_ret2
      refine ⟨K1.out, ?_⟩
      rw [HS.out]
      rfl

set_option maxHeartbeats 2000000 in
theorem name_any (b : Nat) (s : ByteArray) (k : Nat) (w : World) (h : Rd w b s k) : Calls Tryz.prog 27 #[.pointer (some ⟨b, 0, none⟩)] w fun e w' =>
    e = .returned (.tuple #[.int .i64 (if wordB ((sfx s k).takeWhile nmB) then 2 else 1), .string ⟨((sfx s k).takeWhile nmB).toArray⟩]) ∧ Rd w' b s (k + runN nmB (sfx s k)) ∧ Kp b w w' := by
  have htop := h.top
  have hle := h.le
  have HR := Lib.hid h
  clear h
  obtain ⟨m, hm⟩ : ∃ m : Nat, m = runN nmB (sfx s k) := ⟨_, rfl⟩
  have C1 := Lib.hid (fun W => run_name (s.extract k s.size) W (by rw [rest_size s _ hle]; omega))
  rw [sfx_rest, ← hm] at C1
  have hml := run_le nmB (sfx s k)
  rw [sfx_len, ← hm] at hml
  rw [← hm]
  obtain ⟨X, hX⟩ : ∃ X : ByteArray, X = ⟨((sfx s k).takeWhile nmB).toArray⟩ := ⟨_, rfl⟩
  have hXe : s.extract k (k + m) = X := by
    rw [hX]
    apply of_list
    rw [sfx_take, hm, take_run]
  have T1 := Lib.hid (fun W h => take_any b s k m W h (by omega))
  rw [hXe] at T1
  have W1 := Lib.hid (fun W => word_any X W)
  rw [show X.data.toList = (sfx s k).takeWhile nmB by rw [hX]] at W1
  rw [← hX]
  obtain ⟨o, ho⟩ : ∃ o : Bool, o = wordB ((sfx s k).takeWhile nmB) := ⟨_, rfl⟩
  rw [← ho] at W1 ⊢
  clear hm hX hXe ho
  cases o
  · go_enter Tryz.func27, Tryz.ntmps27
    go_wp2_with fail
    refine (rest_any _ _ _ _ HR.out).mono ?_; rintro e w1 ⟨rfl, r1, k1⟩
    have R1 := Lib.hid r1
    have K1 := Lib.hid k1
    clear r1 k1
    go_wp2_with fail
    refine (C1.out _).mono ?_; rintro e w1' ⟨rfl, rfl⟩
    go_wp2_with fail
    refine (T1.out _ R1.out).mono ?_; rintro e w2 ⟨rfl, r2, k2⟩
    have R2 := Lib.hid r2
    have K2 := hid_kp K1 k2
    clear r2 k2
    go_wp2_with (go_at_call 8; refine (W1.out _).mono ?_; rintro e w' ⟨rfl, rfl⟩)
    go_ret2
    exact ⟨rfl, R2.out, K2.out⟩
  · go_enter Tryz.func27, Tryz.ntmps27
    go_wp2_with fail
    refine (rest_any _ _ _ _ HR.out).mono ?_; rintro e w1 ⟨rfl, r1, k1⟩
    have R1 := Lib.hid r1
    have K1 := Lib.hid k1
    clear r1 k1
    go_wp2_with fail
    refine (C1.out _).mono ?_; rintro e w1' ⟨rfl, rfl⟩
    go_wp2_with fail
    refine (T1.out _ R1.out).mono ?_; rintro e w2 ⟨rfl, r2, k2⟩
    have R2 := Lib.hid r2
    have K2 := hid_kp K1 k2
    clear r2 k2
    go_wp2_with (go_at_call 8; refine (W1.out _).mono ?_; rintro e w' ⟨rfl, rfl⟩)
    go_ret2
    exact ⟨rfl, R2.out, K2.out⟩
end Go.Proofs.YtbeckfamnhfaeaaGreatDoor
