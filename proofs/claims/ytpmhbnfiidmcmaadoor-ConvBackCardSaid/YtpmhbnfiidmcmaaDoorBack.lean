/- selkielaw03.ConvBack answers true at any int64, any noughts and any blanks, wherever the table of powers lies as the program's text lays it. -/
import Derived.Test.YtpmhbnfiidmcmaaDoorMath3
import Derived.Test.YtpmhbnfiidmcmaaDoorDig
import Derived.LoopTactic
namespace Go.Proofs.YtpmhbnfiidmcmaaDoor
open Go.RowKit Go.Sort

abbrev sixB : Value := .agg #[.int .u8 9, .int .u8 10, .int .u8 11, .int .u8 12, .int .u8 13, .int .u8 32]
theorem six0 (w : World) : (Instr.index 34 sixB (.int .i64 ((0 : Nat) : Int))).run Tryd.prog w = .ok (.int .u8 ((blanks.getD 0 0).toNat : Int)) w := by kernel_rfl
theorem six1 (w : World) : (Instr.index 34 sixB (.int .i64 ((1 : Nat) : Int))).run Tryd.prog w = .ok (.int .u8 ((blanks.getD 1 0).toNat : Int)) w := by kernel_rfl
theorem six2 (w : World) : (Instr.index 34 sixB (.int .i64 ((2 : Nat) : Int))).run Tryd.prog w = .ok (.int .u8 ((blanks.getD 2 0).toNat : Int)) w := by kernel_rfl
theorem six3 (w : World) : (Instr.index 34 sixB (.int .i64 ((3 : Nat) : Int))).run Tryd.prog w = .ok (.int .u8 ((blanks.getD 3 0).toNat : Int)) w := by kernel_rfl
theorem six4 (w : World) : (Instr.index 34 sixB (.int .i64 ((4 : Nat) : Int))).run Tryd.prog w = .ok (.int .u8 ((blanks.getD 4 0).toNat : Int)) w := by kernel_rfl
theorem six5 (w : World) : (Instr.index 34 sixB (.int .i64 ((5 : Nat) : Int))).run Tryd.prog w = .ok (.int .u8 ((blanks.getD 5 0).toNat : Int)) w := by kernel_rfl
theorem six_at (j : Nat) (h : j < 6) (w : World) : (Instr.index 34 sixB (.int .i64 (j : Int))).run Tryd.prog w = .ok (.int .u8 ((blanks.getD j 0).toNat : Int)) w :=
  match j, h with
  | 0, _ => six0 w
  | 1, _ => six1 w
  | 2, _ => six2 w
  | 3, _ => six3 w
  | 4, _ => six4 w
  | 5, _ => six5 w

theorem six_mod (k : Nat) (w : World) : (Instr.index 34 sixB (.int .i64 ((k : Int) % 6))).run Tryd.prog w = .ok (.int .u8 ((blanks.getD (k % 6) 0).toNat : Int)) w := by
  have h := six_at (k % 6) (Nat.mod_lt _ (by decide)) w
  rw [show ((k % 6 : Nat) : Int) = (k : Int) % 6 by omega] at h
  exact h
theorem byte1 (c : UInt8) : strOfNums [(c.toNat : Int)] = ⟨#[c]⟩ := by
  rw [nums1]
  simp

theorem str_add (a b : List UInt8) : (⟨a.toArray⟩ : ByteArray) ++ ⟨b.toArray⟩ = ⟨(a ++ b).toArray⟩ := by
  apply ByteArray.ext
  simp

theorem back_calls (n : Int) (k : Nat) (S P : ByteArray) (h0 : -9223372036854775808 ≤ n) (h1 : n ≤ 9223372036854775807) (hk : k ≤ 20) (hS : S = digS n) (hP : P = ⟨(padL k).toArray⟩) :
    (∀ w : World, Calls Tryd.prog 11 #[.string (P ++ S ++ P)] w fun e w' => e = .returned (.tuple #[.int .i64 n, .bool true]) ∧ Below w.heap.size w w') ∧
    (∀ w : World, Calls Tryd.prog 13 #[.string (P ++ S ++ P), .int .i64 10] w fun e w' => e = .returned (.tuple #[.int .i64 n, .bool true]) ∧ Below w.heap.size w w') := by
  have hz := digS_size n h0 h1
  have e : P ++ S ++ P = ⟨(padL k ++ Lib.itoa n ++ padL k).toArray⟩ := by rw [hP, hS, str_add, str_add]
  have hsz : (⟨(padL k ++ Lib.itoa n ++ padL k).toArray⟩ : ByteArray).size ≤ 9223372036854775807 := by
    rw [Lib.size_mk, List.length_append, List.length_append, padL_len]
    have : (Lib.itoa n).length = (digS n).size := (Lib.size_mk _).symm
    omega
  obtain ⟨a, b, c, d⟩ := back_read n (padL k) h0 h1 (padL_blk k)
  rw [e]
  refine ⟨fun w => ?_, fun w => ?_⟩
  · have h := cToInt ⟨(padL k ++ Lib.itoa n ++ padL k).toArray⟩ w hsz
    rw [show (⟨(padL k ++ Lib.itoa n ++ padL k).toArray⟩ : ByteArray).data.toList = padL k ++ Lib.itoa n ++ padL k from rfl, a, b] at h
    exact h
  · have h := cBase ⟨(padL k ++ Lib.itoa n ++ padL k).toArray⟩ 10 w hsz
    rw [show (⟨(padL k ++ Lib.itoa n ++ padL k).toArray⟩ : ByteArray).data.toList = padL k ++ Lib.itoa n ++ padL k from rfl, c, d] at h
    exact h
theorem zers_len (k : Nat) (l : List UInt8) : (zers k l).length = k + l.length := by simp [zers]
theorem zero_calls (n : Int) (k : Nat) (Z : ByteArray) (h0 : 0 ≤ n) (h1 : n ≤ 9223372036854775807) (hk : k ≤ 30) (hZ : Z = ⟨(zers k (Lib.itoa n)).toArray⟩) :
    (∀ w : World, Calls Tryd.prog 9 #[.string Z] w fun e w' => e = .returned (.tuple #[.int .i64 n, .bool true]) ∧ w = w') ∧
    (∀ w : World, Calls Tryd.prog 11 #[.string (⟨#[43]⟩ ++ Z)] w fun e w' => e = .returned (.tuple #[.int .i64 n, .bool true]) ∧ Below w.heap.size w w') := by
  have hz := digS_size n (by omega) h1
  have hl : (Lib.itoa n).length = (digS n).size := (Lib.size_mk _).symm
  obtain ⟨a, b, c, d⟩ := zers_read n k h0 h1
  subst hZ
  refine ⟨fun w => ?_, fun w => ?_⟩
  · have h := cNumeral ⟨(zers k (Lib.itoa n)).toArray⟩ w (by rw [Lib.size_mk, zers_len]; omega)
    rw [show (⟨(zers k (Lib.itoa n)).toArray⟩ : ByteArray).data.toList = zers k (Lib.itoa n) from rfl, a, b] at h
    exact h
  · have e : (⟨#[43]⟩ : ByteArray) ++ ⟨(zers k (Lib.itoa n)).toArray⟩ = ⟨(43 :: zers k (Lib.itoa n)).toArray⟩ := str_add [43] _
    have h := cToInt ⟨(43 :: zers k (Lib.itoa n)).toArray⟩ w (by rw [Lib.size_mk, List.length_cons, zers_len]; omega)
    rw [show (⟨(43 :: zers k (Lib.itoa n)).toArray⟩ : ByteArray).data.toList = 43 :: zers k (Lib.itoa n) from rfl, c, d] at h
    rw [e]
    exact h

set_option maxHeartbeats 6400000 in
set_option maxRecDepth 100000 in
theorem back_any (n z b : Int) (w : World) (hT : Tab w) (h0 : -9223372036854775808 ≤ n) (h1 : n ≤ 9223372036854775807) (hz0 : 0 ≤ z) (hz1 : z ≤ 255) (hb0 : 0 ≤ b) (hb1 : b ≤ 255) :
    Calls Tryd.prog 5 #[.int .i64 n, .int .u8 z, .int .u8 b] w fun e w' => e = .returned (.bool true) ∧ Below w.heap.size w w' := by
  have HT := Lib.hid hT; have H0 := Lib.hid h0; have H1 := Lib.hid h1
  have hsz := digS_size n h0 h1
  clear hT h0 h1
  obtain ⟨S, hS⟩ : ∃ S : ByteArray, S = digS n := ⟨_, rfl⟩
  rw [← hS] at hsz
  have HS := Lib.hid hS
  have HP := Lib.hid (fun (w : World) (hT : Tab w) => hS ▸ cPrint n w hT H0.out H1.out)
  clear hS
  go_enter Tryd.func5, Tryd.ntmps5
  go_wp2_with fail
  refine (alive_any _ HT.out).mono ?_; rintro e w1 ⟨rfl, b1⟩
  go_wp2_with fail
  refine (HP.out _ (HT.out.below b1)).mono ?_; rintro e w2 ⟨rfl, b2⟩
  have B2 := Lib.hid (thenB b1 b2)
  clear b1 b2
  go_wp2_with fail
  have hm0 : 0 ≤ b % 20 := by omega
  have hm1 : b % 20 < 20 := by omega
  go_loopw [8, 25] (fun v i wr => ∃ k : Nat, (k : Int) ≤ b % 20 ∧ i = .int .i64 k ∧ v = .string ⟨(padL k).toArray⟩ ∧ Below w2.heap.size w2 wr) (fun _ i _ => (b % 20).toNat - (intOf i).toNat)
  case atStart => exact ⟨0, hm0, rfl, rfl, Below.refl _ _⟩
  case round =>
    obtain ⟨k, hk, rfl, rfl, hB⟩ := hrel
    have HB := Lib.hid hB
    clear hB
    have hpl : (⟨(padL k).toArray⟩ : ByteArray).size = k := by rw [Lib.size_mk, padL_len]
    by_cases hlt : (k : Int) < b % 20
    · have hix := fun (x : World) => six_mod k x
      have HPL := Lib.hid (show (⟨(padL k).toArray⟩ : ByteArray) ++ ⟨#[blanks.getD (k % 6) 0]⟩ = ⟨(padL (k + 1)).toArray⟩ from str_add (padL k) [blanks.getD (k % 6) 0])
      generalize blanks.getD (k % 6) 0 = c at hix HPL
      have hcv := fun (x : World) => byte1 c ▸ conv1 (x.alloc (.cells #[.int .u8 (c.toNat : Int)] 5)) x.heap.size (c.toNat : Int) (by simp [go_sem])
      generalize (⟨(padL k).toArray⟩ : ByteArray) = P at hpl HPL ⊢
      have hcs : (⟨#[c]⟩ : ByteArray).size = 1 := rfl
      go_wp2_with fail
      exact ⟨⟨k + 1, by omega, by go_num, by rw [HPL.out], HB.out.alloc HB.out.size _⟩, by simp [intOf]; omega⟩
    · obtain ⟨P, hP⟩ : ∃ P : ByteArray, P = ⟨(padL k).toArray⟩ := ⟨_, rfl⟩
      have hps : P.size = k := by rw [hP]; exact hpl
      have HC := Lib.hid (back_calls n k S P H0.out H1.out (by omega) HS.out hP)
      rw [← hP]
      clear hP hpl
      go_wp2_with fail
      refine (HC.out.1 _).mono ?_; rintro e w3 ⟨rfl, b3⟩
      have B3 := Lib.hid (thenB B2.out (thenB HB.out b3))
      clear b3
      go_wp2_with fail
      refine (HC.out.2 _).mono ?_; rintro e w4 ⟨rfl, b4⟩
      have B4 := Lib.hid (thenB B3.out b4)
      clear b4 B3 HC
      by_cases hn : n < 0
      · go_wp2_with fail
        go_ret
        exact ⟨rfl, B4.out⟩
      · have hz2 : 0 ≤ z % 30 := by omega
        have hz3 : z % 30 < 30 := by omega
        have hn' : decide (n < 0) = false := by simpa using hn
        go_wp2_with fail
        go_loop [7, 75] (fun v i => ∃ j : Nat, (j : Int) ≤ z % 30 ∧ i = .int .u8 j ∧ v = .string ⟨(zers j (Lib.itoa n)).toArray⟩) (fun _ i => (z % 30).toNat - (intOf i).toNat)
        case atStart => exact ⟨0, hz2, rfl, congrArg Value.string HS.out⟩
        case round =>
          obtain ⟨j, hj, rfl, rfl⟩ := hrel
          have hzl : (⟨(zers j (Lib.itoa n)).toArray⟩ : ByteArray).size ≤ 200 := by
            have hl : (Lib.itoa n).length = S.size := by rw [HS.out]; exact (Lib.size_mk _).symm
            rw [Lib.size_mk, zers_len]
            omega
          by_cases hlj : (j : Int) < z % 30
          · have HZ := Lib.hid (show (⟨#[48]⟩ : ByteArray) ++ ⟨(zers j (Lib.itoa n)).toArray⟩ = ⟨(zers (j + 1) (Lib.itoa n)).toArray⟩ by rw [zers_succ]; exact str_add [48] _)
            generalize (⟨(zers j (Lib.itoa n)).toArray⟩ : ByteArray) = Z at hzl HZ ⊢
            have h48 : (⟨#[48]⟩ : ByteArray).size = 1 := rfl
            go_wp2_with fail
            exact ⟨⟨j + 1, by omega, by go_num, by rw [HZ.out]⟩, by simp [intOf]; omega⟩
          · obtain ⟨Z, hZ⟩ : ∃ Z : ByteArray, Z = ⟨(zers j (Lib.itoa n)).toArray⟩ := ⟨_, rfl⟩
            rw [← hZ] at hzl
            have HC := Lib.hid (zero_calls n j Z (by omega) H1.out (by omega) hZ)
            rw [← hZ]
            clear hZ
            have h43 : (⟨#[43]⟩ : ByteArray).size = 1 := rfl
            go_wp2_with fail
            refine (HC.out.1 _).mono ?_; rintro e w5 ⟨rfl, rfl⟩
            go_wp2_with fail
            refine (HC.out.2 _).mono ?_; rintro e w5 ⟨rfl, b5⟩
            go_wp2_with fail
            go_ret
            exact ⟨rfl, thenB B4.out b5⟩
end Go.Proofs.YtpmhbnfiidmcmaaDoor
