/- selkielaw04.StrFinds answers true at any strings and any place. -/
import Derived.Test.YtnpmnielknmboaaDoorLive
namespace Go.Proofs.YtnpmnielknmboaaDoor
open Go.RowKit Go.Sort

set_option maxHeartbeats 1000000 in
set_option maxRecDepth 100000 in
theorem finds_far (s what : ByteArray) (i : Int) (w : World) (hM : Mx w) (h : 500 < s.size ∨ 500 < what.size) :
    Calls Tryd.prog 4 #[.string s, .string what, .int .i64 i] w fun e w' => e = .returned (.bool true) ∧ Below w.heap.size w w' := by
  have HM := Lib.hid hM
  clear hM
  by_cases h1 : 500 < s.size
  · go_enter Tryd.func4, Tryd.ntmps4
    go_wp2_with fail
    refine (alive_any _ HM.out).mono ?_; rintro e w1 ⟨rfl, b1⟩
    go_wp2_with fail
    go_ret
    exact ⟨rfl, b1⟩
  · have h2 : 500 < what.size := by omega
    have hd : decide (500 < s.size) = false := decide_eq_false h1
    clear h
    go_enter Tryd.func4, Tryd.ntmps4
    go_wp2_with fail
    refine (alive_any _ HM.out).mono ?_; rintro e w1 ⟨rfl, b1⟩
    go_wp2_with fail
    go_ret
    exact ⟨rfl, b1⟩

set_option maxHeartbeats 2000000 in
set_option maxRecDepth 100000 in
theorem finds_near (s what : ByteArray) (i : Int) (w : World) (hM : Mx w) (hs : s.size ≤ 500) (hw : what.size ≤ 500) (h0 : -9223372036854775808 ≤ i) (h1 : i ≤ 9223372036854775807) :
    Calls Tryd.prog 4 #[.string s, .string what, .int .i64 i] w fun e w' => e = .returned (.bool true) ∧ Below w.heap.size w w' := by
  have HM := Lib.hid hM
  clear hM
  have hg1 : decide (500 < s.size) = false := decide_eq_false (by omega)
  have hg2 : decide (500 < what.size) = false := decide_eq_false (by omega)
  have hf := fun W hW => find_any s what i W (by omega) (by omega) h0 h1 hW
  have hr := fun W => rfind_any s what i W (by omega) (by omega) h0 h1
  by_cases hz : findL s.data.toList what.data.toList i = 0
  · rw [hz, (findE_no hz).1, (findE_no hz).2] at hf hr
    have HF := Lib.hid hf
    have HR := Lib.hid hr
    clear hf hr hz
    go_enter Tryd.func4, Tryd.ntmps4
    go_wp2_with fail
    refine (alive_any _ HM.out).mono ?_; rintro e w1 ⟨rfl, b1⟩
    go_wp2_with fail
    refine (HF.out _ (HM.out.below b1)).mono ?_; rintro e w' ⟨rfl, rfl⟩
    go_wp2_with fail
    refine (HR.out _).mono ?_; rintro e w' ⟨rfl, rfl⟩
    go_wp2_with fail
    go_ret
    exact ⟨rfl, b1⟩
  · obtain ⟨p, hp, hp1, hp2, hocc, _⟩ := find_spec hz
    have he := (findE_yes hz).1
    have hag := fun (q : Int) => find_again (q := q) hz
    rw [← Lib.size_eq] at hp1 hp2 he hag
    rw [← Lib.size_eq] at hp2
    rw [(findE_yes hz).2] at hf hr
    obtain ⟨A, hA⟩ : ∃ A : Int, A = findL s.data.toList what.data.toList i := ⟨_, rfl⟩
    obtain ⟨E, hE⟩ : ∃ E : Int, E = findE s.data.toList what.data.toList i := ⟨_, rfl⟩
    rw [← hA] at hf hr hp he hag
    rw [← hE] at hf hr he
    have HS : Hid (∃ r : ByteArray, (∀ W, Calls Tryd.prog 14 #[.string s, .int .i64 A, .int .i64 E] W fun e w' => e = .returned (.string r) ∧ W = w') ∧ (0 < what.size → r = what)) := by
      apply Lib.hid
      refine ⟨_, fun W => sub_any s A E W (by omega) (by omega) (by omega) (by omega) (by omega), fun h => ?_⟩
      rw [he, hp, Lib.size_eq what, sub_at hocc (by rw [← Lib.size_eq]; exact h)]
    have HA : Hid (∀ q : Int, fstP i s.size ≤ q → q ≤ A → ∃ E' B', ∀ W, Mx W → Calls Tryd.prog 12 #[.string s, .string what, .int .i64 q] W fun e w' => e = .returned (.tuple #[.int .i64 A, .int .i64 E', .bool B']) ∧ W = w') := by
      apply Lib.hid
      intro q hq1 hq2
      have hf1 := fst_ge i s.size
      refine ⟨findE s.data.toList what.data.toList q, findB s.data.toList what.data.toList q, fun W hW => ?_⟩
      have := find_any s what q W (by omega) (by omega) (by omega) (by omega) hW
      rw [hag q hq1 hq2] at this
      exact this
    have hE1 : E - A + 1 = (what.size : Int) := by omega
    have hA1 : 1 ≤ A := by omega
    have hA2 : A ≤ 501 := by omega
    have hA3 : fstP i s.size ≤ A := by omega
    have hf1 := fst_ge i s.size
    have hEb : E ≤ 1002 := by omega
    have hEc : 0 ≤ E := by omega
    have hA0 : (A == 0) = false := beq_eq_false_iff_ne.2 (by omega)
    have HF := Lib.hid hf
    have HR := Lib.hid hr
    clear hf hr hz hp hp1 hp2 hocc he hag hA hE
    obtain ⟨r, hr1, hr2⟩ := HS.out
    have HR1 := Lib.hid hr1
    have HR2 : Hid (0 < what.size → r = what) := Lib.hid hr2
    clear hr1 hr2
    rcases Int.lt_or_le i 0 with hi | hi
    all_goals
      by_cases hwz : 0 < what.size
      · obtain rfl : r = what := HR2.out hwz
        clear HR2 HS
        go_enter Tryd.func4, Tryd.ntmps4
        go_wp2_with fail
        refine (alive_any _ HM.out).mono ?_; rintro e w1 ⟨rfl, b1⟩
        have HM1 := Lib.hid (HM.out.below b1)
        have B1 := Lib.hid b1
        clear b1
        go_wp2_with fail
        refine (HF.out _ HM1.out).mono ?_; rintro e w' ⟨rfl, rfl⟩
        go_wp2_with fail
        refine (HR.out _).mono ?_; rintro e w' ⟨rfl, rfl⟩
        go_wp2_with fail
        refine (HR1.out _).mono ?_; rintro e w' ⟨rfl, rfl⟩
        go_wp2_with fail
        all_goals
          go_loop [13] (fun p => ∃ q : Int, fstP i s.size ≤ q ∧ q ≤ A ∧ p = .int .i64 q) (fun p => (A - intOf p).toNat)
          case atStart => exact ⟨_, by unfold fstP; split <;> omega, by unfold fstP at hA3; split at hA3 <;> omega, rfl⟩
          case round =>
            obtain ⟨q, hq1, hq2, rfl⟩ := hrel
            by_cases hlt : q < A
            · obtain ⟨E', B', hc⟩ := HA.out q hq1 hq2
              have HC := Lib.hid hc
              clear hc
              go_wp2_with fail
              refine (HC.out _ HM1.out).mono ?_; rintro e w' ⟨rfl, rfl⟩
              go_wp2_with fail
              go_round
              case rel => exact ⟨q + 1, by omega, by omega, rfl⟩
              case measure => simp [intOf]; omega
            · go_wp2_with fail
              go_ret
              exact ⟨rfl, B1.out⟩
      · obtain rfl : what = ⟨#[]⟩ := by
          apply ByteArray.ext
          apply Array.ext'
          rw [List.eq_nil_of_length_eq_zero (l := what.data.toList) (by rw [← Lib.size_eq]; omega)]
        clear HR2 HS hwz
        cases hb : r.toList.isEmpty
        all_goals
          go_enter Tryd.func4, Tryd.ntmps4
          go_wp2_with fail
          refine (alive_any _ HM.out).mono ?_; rintro e w1 ⟨rfl, b1⟩
          have HM1 := Lib.hid (HM.out.below b1)
          have B1 := Lib.hid b1
          clear b1
          go_wp2_with fail
          refine (HF.out _ HM1.out).mono ?_; rintro e w' ⟨rfl, rfl⟩
          go_wp2_with fail
          refine (HR.out _).mono ?_; rintro e w' ⟨rfl, rfl⟩
          go_wp2_with fail
          refine (HR1.out _).mono ?_; rintro e w' ⟨rfl, rfl⟩
          go_wp2_with fail
          all_goals
            go_loop [13] (fun p => ∃ q : Int, fstP i s.size ≤ q ∧ q ≤ A ∧ p = .int .i64 q) (fun p => (A - intOf p).toNat)
            case atStart => exact ⟨_, by unfold fstP; split <;> omega, by unfold fstP at hA3; split at hA3 <;> omega, rfl⟩
            case round =>
              obtain ⟨q, hq1, hq2, rfl⟩ := hrel
              by_cases hlt : q < A
              · obtain ⟨E', B', hc⟩ := HA.out q hq1 hq2
                have HC := Lib.hid hc
                clear hc
                go_wp2_with fail
                refine (HC.out _ HM1.out).mono ?_; rintro e w' ⟨rfl, rfl⟩
                go_wp2_with fail
                go_round
                case rel => exact ⟨q + 1, by omega, by omega, rfl⟩
                case measure => simp [intOf]; omega
              · go_wp2_with fail
                go_ret
                exact ⟨rfl, B1.out⟩

theorem finds_any (s what : ByteArray) (i : Int) (w : World) (hM : Mx w) (h0 : -9223372036854775808 ≤ i) (h1 : i ≤ 9223372036854775807) :
    Calls Tryd.prog 4 #[.string s, .string what, .int .i64 i] w fun e w' => e = .returned (.bool true) ∧ Below w.heap.size w w' := by
  by_cases h : 500 < s.size ∨ 500 < what.size
  · exact finds_far s what i w hM h
  · exact finds_near s what i w hM (by omega) (by omega) h0 h1
end Go.Proofs.YtnpmnielknmboaaDoor
