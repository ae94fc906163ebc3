/- The document's own answers of layer 1 on one value (Truth, Type, Own, Key, Print), told as the same plain functions as the program's; Print asks that the number is an int64. -/
import Derived.Test.YtodlamblemmckaaDoorDig
namespace Go.Proofs.YtodlamblemmckaaDoor
open Go.RowKit Go.Sort

set_option maxHeartbeats 400000 in
theorem rtruth_any (k n : Int) (s : ByteArray) (w : World) :
    Calls Tryd.prog 13 #[V k n s] w fun e w' => e = .returned (.bool (truB k n)) ∧ Below w.heap.size w w' := by
  rcases kinds k with rfl | rfl | rfl | rfl | rfl | rfl | rfl | rfl | h | h
  · go_enter Tryd.func13, Tryd.ntmps13
    go_wp2
    go_ret
    exact ⟨rfl, below2 _ _ _⟩
  · by_cases h : n = 0
    · subst h
      go_enter Tryd.func13, Tryd.ntmps13
      go_wp2
      go_ret
      exact ⟨rfl, below2 _ _ _⟩
    · have e : truB 1 n = true := by simp [truB, h]
      rw [e]
      have g : (n == 0) = false := by simpa using h
      clear e
      go_enter Tryd.func13, Tryd.ntmps13
      go_wp2
      go_ret
      exact ⟨rfl, below2 _ _ _⟩
  iterate 6
    · go_enter Tryd.func13, Tryd.ntmps13
      go_wp2
      go_ret
      exact ⟨rfl, below2 _ _ _⟩
  all_goals
    have e : truB k n = false := by unfold truB strB; repeat rw [if_neg (by omega)]
                                    simp [h]
    rw [e]
    clear e
  · go_enter Tryd.func13, Tryd.ntmps13
    go_wp2
    go_ret
    exact ⟨rfl, below2 _ _ _⟩
  · have g : decide (k < 0) = false := by simp; omega
    go_enter Tryd.func13, Tryd.ntmps13
    go_wp2
    go_ret
    exact ⟨rfl, below2 _ _ _⟩

theorem word0 (w : World) (a b c d e f g h : ByteArray) : (Instr.index 44 (.agg #[.string a, .string b, .string c, .string d, .string e, .string f, .string g, .string h]) (.int .i64 0)).run Tryd.prog w = .ok (.string a) w := by kernel_rfl
theorem word1 (w : World) (a b c d e f g h : ByteArray) : (Instr.index 44 (.agg #[.string a, .string b, .string c, .string d, .string e, .string f, .string g, .string h]) (.int .i64 1)).run Tryd.prog w = .ok (.string b) w := by kernel_rfl
theorem word2 (w : World) (a b c d e f g h : ByteArray) : (Instr.index 44 (.agg #[.string a, .string b, .string c, .string d, .string e, .string f, .string g, .string h]) (.int .i64 2)).run Tryd.prog w = .ok (.string c) w := by kernel_rfl
theorem word3 (w : World) (a b c d e f g h : ByteArray) : (Instr.index 44 (.agg #[.string a, .string b, .string c, .string d, .string e, .string f, .string g, .string h]) (.int .i64 3)).run Tryd.prog w = .ok (.string d) w := by kernel_rfl
theorem word4 (w : World) (a b c d e f g h : ByteArray) : (Instr.index 44 (.agg #[.string a, .string b, .string c, .string d, .string e, .string f, .string g, .string h]) (.int .i64 4)).run Tryd.prog w = .ok (.string e) w := by kernel_rfl
theorem word5 (w : World) (a b c d e f g h : ByteArray) : (Instr.index 44 (.agg #[.string a, .string b, .string c, .string d, .string e, .string f, .string g, .string h]) (.int .i64 5)).run Tryd.prog w = .ok (.string f) w := by kernel_rfl
theorem word6 (w : World) (a b c d e f g h : ByteArray) : (Instr.index 44 (.agg #[.string a, .string b, .string c, .string d, .string e, .string f, .string g, .string h]) (.int .i64 6)).run Tryd.prog w = .ok (.string g) w := by kernel_rfl
theorem word7 (w : World) (a b c d e f g h : ByteArray) : (Instr.index 44 (.agg #[.string a, .string b, .string c, .string d, .string e, .string f, .string g, .string h]) (.int .i64 7)).run Tryd.prog w = .ok (.string h) w := by kernel_rfl

set_option maxHeartbeats 400000 in
theorem rtype_any (k n : Int) (s : ByteArray) (w : World) :
    Calls Tryd.prog 15 #[V k n s] w fun e w' => e = .returned (.string (typB k)) ∧ Below w.heap.size w w' := by
  have i0 := word0; have i1 := word1; have i2 := word2; have i3 := word3; have i4 := word4; have i5 := word5; have i6 := word6; have i7 := word7
  rcases kinds k with rfl | rfl | rfl | rfl | rfl | rfl | rfl | rfl | h | h
  iterate 8
    · go_enter Tryd.func15, Tryd.ntmps15
      go_wp2
      go_ret
      exact ⟨rfl, below2 _ _ _⟩
  all_goals
    have e : typB k = noS := by unfold typB; repeat rw [if_neg (by omega)]
    rw [e]
    clear e
  · go_enter Tryd.func15, Tryd.ntmps15
    go_wp2
    go_ret
    exact ⟨rfl, below2 _ _ _⟩
  · have g : decide (k < 0) = false := by simp; omega
    go_enter Tryd.func15, Tryd.ntmps15
    go_wp2
    go_ret
    exact ⟨rfl, below2 _ _ _⟩

set_option maxHeartbeats 400000 in
theorem rown_any (k n : Int) (s : ByteArray) (w : World) :
    Calls Tryd.prog 19 #[V k n s] w fun e w' => e = .returned (V (ownK k) (ownN k n) (ownS k s)) ∧ Below w.heap.size w w' := by
  rcases kinds k with rfl | rfl | rfl | rfl | rfl | rfl | rfl | rfl | h | h
  · go_enter Tryd.func19, Tryd.ntmps19
    go_wp2
    exact bodyPost_ret (v := V 0 0 noS) (by simp [results, Tryd.results19, go_sem]) rfl ⟨rfl, below3 _ _ _ _⟩
  · by_cases h : n = 0
    · subst h
      go_enter Tryd.func19, Tryd.ntmps19
      go_wp2
      exact bodyPost_ret (v := V 1 0 noS) (by simp [results, Tryd.results19, go_sem]) rfl ⟨rfl, below3 _ _ _ _⟩
    · have e : ownN 1 n = 1 := by simp [ownN, h]
      rw [e]
      have g : (n != 0) = true := by simpa using h
      clear e
      go_enter Tryd.func19, Tryd.ntmps19
      go_wp2
      exact bodyPost_ret (v := V 1 1 noS) (by simp [results, Tryd.results19, go_sem]) rfl ⟨rfl, below3 _ _ _ _⟩
  · go_enter Tryd.func19, Tryd.ntmps19
    go_wp2
    exact bodyPost_ret (v := V 2 n noS) (by simp [results, Tryd.results19, go_sem]) rfl ⟨rfl, below3 _ _ _ _⟩
  · go_enter Tryd.func19, Tryd.ntmps19
    go_wp2
    exact bodyPost_ret (v := V 3 0 s) (by simp [results, Tryd.results19, go_sem]) rfl ⟨rfl, below3 _ _ _ _⟩
  · go_enter Tryd.func19, Tryd.ntmps19
    go_wp2
    exact bodyPost_ret (v := V 4 n noS) (by simp [results, Tryd.results19, go_sem]) rfl ⟨rfl, below3 _ _ _ _⟩
  · go_enter Tryd.func19, Tryd.ntmps19
    go_wp2
    exact bodyPost_ret (v := V 5 n noS) (by simp [results, Tryd.results19, go_sem]) rfl ⟨rfl, below3 _ _ _ _⟩
  · go_enter Tryd.func19, Tryd.ntmps19
    go_wp2
    exact bodyPost_ret (v := V 6 n noS) (by simp [results, Tryd.results19, go_sem]) rfl ⟨rfl, below3 _ _ _ _⟩
  · go_enter Tryd.func19, Tryd.ntmps19
    go_wp2
    exact bodyPost_ret (v := V 7 n noS) (by simp [results, Tryd.results19, go_sem]) rfl ⟨rfl, below3 _ _ _ _⟩
  all_goals
    have e0 : strB k = true := by simp [strB]; omega
    have e1 : ownK k = 0 := by simp [ownK, e0]
    have e2 : ownN k n = 0 := by unfold ownN; rw [if_neg (by omega), if_pos (by simp [e0])]
    have e3 : ownS k s = noS := by unfold ownS; rw [if_neg (by omega)]
    rw [e1, e2, e3]
    clear e0 e1 e2 e3
  · go_enter Tryd.func19, Tryd.ntmps19
    go_wp2
    exact bodyPost_ret (v := V 0 0 noS) (by simp [results, Tryd.results19, go_sem]) rfl ⟨rfl, below3 _ _ _ _⟩
  · have g : decide (k < 0) = false := by simp; omega
    go_enter Tryd.func19, Tryd.ntmps19
    go_wp2
    exact bodyPost_ret (v := V 0 0 noS) (by simp [results, Tryd.results19, go_sem]) rfl ⟨rfl, below3 _ _ _ _⟩

set_option maxHeartbeats 400000 in
theorem rkey_no (k n : Int) (s : ByteArray) (w : World) (h : k = 0 ∨ k < 0 ∨ 7 < k) :
    Calls Tryd.prog 11 #[V k n s] w fun e w' => e = .returned (.tuple #[V 0 0 noS, .int .i64 15]) ∧ Below w.heap.size w w' := by
  rcases h with rfl | h | h
  · go_enter Tryd.func11, Tryd.ntmps11
    go_wp2
    exact bodyPost_ret (v := .tuple #[V 0 0 noS, .int .i64 15]) (by simp [results, Tryd.results11, go_sem]) rfl ⟨rfl, below3 _ _ _ _⟩
  · go_enter Tryd.func11, Tryd.ntmps11
    go_wp2
    exact bodyPost_ret (v := .tuple #[V 0 0 noS, .int .i64 15]) (by simp [results, Tryd.results11, go_sem]) rfl ⟨rfl, below3 _ _ _ _⟩
  · have g1 : decide (k < 0) = false := by simp; omega
    go_enter Tryd.func11, Tryd.ntmps11
    go_wp2
    exact bodyPost_ret (v := .tuple #[V 0 0 noS, .int .i64 15]) (by simp [results, Tryd.results11, go_sem]) rfl ⟨rfl, below3 _ _ _ _⟩

set_option maxHeartbeats 400000 in
theorem rkey_yes (k n : Int) (s : ByteArray) (w : World) (h1 : 1 ≤ k) (h2 : k ≤ 7) :
    Calls Tryd.prog 11 #[V k n s] w fun e w' => e = .returned (.tuple #[V (ownK k) (ownN k n) (ownS k s), .int .i64 0]) ∧ Below w.heap.size w w' := by
  have g0 : (k == 0) = false := by simp; omega
  have g1 : decide (k < 0) = false := by simp; omega
  have g2 : decide (7 < k) = false := by simp; omega
  go_enter Tryd.func11, Tryd.ntmps11
  go_wp2_with (first | (go_at_call 19; refine (rown_any _ _ _ _).mono ?_; rintro e w' ⟨rfl, hb⟩; obtain ⟨hc, hf⟩ := bcell hb) | go_in)
  obtain ⟨c0, c1, c2⟩ : At w' (w.heap.size + 1) 0 0 noS := ((at_new1 w (vcells k n s) 0 0 noS).alloc (vcells k n s)).below hb
  refine bodyPost_ret (v := .tuple #[V (ownK k) (ownN k n) (ownS k s), .int .i64 0]) (by simp [results, Tryd.results11, go_sem, c0, c1, c2]) rfl ⟨rfl, ?_⟩
  have hB : Below w.heap.size w w' := (below3 w _ _ _).trans (hb.mono (by simp; omega))
  exact ((hB.setCell (by simp) _).setCell (by simp) _).setCell (by simp) _

set_option maxHeartbeats 400000 in
theorem rprint_any (k n : Int) (s : ByteArray) (w : World) (hn0 : -9223372036854775808 ≤ n) (hn1 : n ≤ 9223372036854775807) :
    Calls Tryd.prog 17 #[V k n s] w fun e w' => e = .returned (.string (prnB k n s)) ∧ Below w.heap.size w w' := by
  by_cases h1 : k = 1
  · subst h1
    by_cases h : n = 0
    · subst h
      clear hn0 hn1
      go_enter Tryd.func17, Tryd.ntmps17
      go_wp2_with fail
      go_ret
      exact ⟨rfl, below1 _ _⟩
    · have e : prnB 1 n s = ⟨#[116, 114, 117, 101]⟩ := by simp [prnB, h]
      rw [e]
      have g : (n == 0) = false := by simpa using h
      clear e h hn0 hn1
      go_enter Tryd.func17, Tryd.ntmps17
      go_wp2_with fail
      go_ret
      exact ⟨rfl, below1 _ _⟩
  · by_cases h2 : k = 2
    · subst h2
      have e : prnB 2 n s = digS n := by simp [prnB]
      rw [e]
      have H0 := Lib.hid hn0
      have H1 := Lib.hid hn1
      clear e h1 hn0 hn1
      go_enter Tryd.func17, Tryd.ntmps17
      go_wp2_with (go_at_call 31; refine (digits_any n.natAbs n _ (Nat.le_refl _) H0.out H1.out).mono ?_; rintro e w' ⟨rfl, hb⟩)
      go_ret
      exact ⟨rfl, thenB (below1 _ _) hb⟩
    · by_cases h3 : k = 3
      · subst h3
        have e : prnB 3 n s = s := by simp [prnB]
        rw [e]
        clear e h1 h2 hn0 hn1
        go_enter Tryd.func17, Tryd.ntmps17
        go_wp2_with fail
        go_ret
        exact ⟨rfl, below1 _ _⟩
      · have e : prnB k n s = typB k := by simp [prnB, h1, h2, h3]
        rw [e]
        have g1 : (k == 1) = false := by simpa using h1
        have g2 : (k == 2) = false := by simpa using h2
        have g3 : (k == 3) = false := by simpa using h3
        clear e h1 h2 h3 hn0 hn1
        go_enter Tryd.func17, Tryd.ntmps17
        go_wp2_with (go_at_call 15; refine (rtype_any _ _ _ _).mono ?_; rintro e w' ⟨rfl, hb⟩)
        go_ret
        exact ⟨rfl, thenB (below1 _ _) hb⟩
end Go.Proofs.YtodlamblemmckaaDoor
