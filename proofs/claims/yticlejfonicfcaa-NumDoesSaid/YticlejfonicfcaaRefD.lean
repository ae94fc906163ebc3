/- The document's own Do, One and Count (package selkieref02) return what package num's do, for all 64-bit numbers and every operator. -/
import Derived.Test.YticlejfonicfcaaRefS
namespace Go.Proofs.Yticlejfonicfcaa
open Go.RowKit Go.Sort

theorem u_add (a b : Int) : wrap64 (IntKind.u64.wrap (IntKind.u64.wrap a + IntKind.u64.wrap b)) = wrap64 (a + b) := by
  rw [w64_u64]; apply w64_congr; simp only [IntKind.wrap_u64]; omega
theorem u_sub (a b : Int) : wrap64 (IntKind.u64.wrap (IntKind.u64.wrap a - IntKind.u64.wrap b)) = wrap64 (a - b) := by
  rw [w64_u64]; apply w64_congr; simp only [IntKind.wrap_u64]; omega
theorem u_mul (a b : Int) : wrap64 (IntKind.u64.wrap (IntKind.u64.wrap a * IntKind.u64.wrap b)) = wrap64 (a * b) := by
  rw [w64_u64]; apply w64_congr; simp only [IntKind.wrap_u64]
  rw [← Int.mul_emod]
theorem u_neg (a : Int) : wrap64 (IntKind.u64.wrap (-IntKind.u64.wrap a)) = wrap64 (-a) := by
  rw [w64_u64]; apply w64_congr; simp only [IntKind.wrap_u64]; omega
theorem u_not (a : Int) (h0 : -9223372036854775808 ≤ a) (h1 : a ≤ 9223372036854775807) : wrap64 (IntKind.u64.wrap (18446744073709551615 - IntKind.u64.wrap a)) = bits .xor .i64 (-1) a := by
  rw [law_not a h0 h1, w64_u64]
  simp only [IntKind.wrap_u64]; unfold wrap64; omega

set_option maxHeartbeats 1000000 in
theorem refDo_any (op a b : Int) (w : World) (hb0 : -9223372036854775808 ≤ b) (hb1 : b ≤ 9223372036854775807) :
    Calls Try.prog 11 #[I op, I a, I b] w fun e w' => e = .returned (.tuple #[I (doV op a b), I (doE op b)]) ∧ Below w.heap.size w w' := by
  rcases ops op with rfl | rfl | rfl | rfl | rfl | rfl | rfl | rfl | rfl | rfl | h | h
  · have E := Lib.hid (u_add a b)
    clear hb0 hb1
    go_enter Try.func11, Try.ntmps11
    go_wp2
    go_ret2
    exact ⟨ret2 E.out rfl, Below.refl _ _⟩
  · have E := Lib.hid (u_sub a b)
    clear hb0 hb1
    go_enter Try.func11, Try.ntmps11
    go_wp2
    go_ret2
    exact ⟨ret2 E.out rfl, Below.refl _ _⟩
  · have E := Lib.hid (u_mul a b)
    clear hb0 hb1
    go_enter Try.func11, Try.ntmps11
    go_wp2
    go_ret2
    exact ⟨ret2 E.out rfl, Below.refl _ _⟩
  iterate 2
    · clear hb0 hb1
      by_cases hz : b = 0
      · subst hz
        go_enter Try.func11, Try.ntmps11
        go_wp2
        go_ret2
        exact ⟨ret2 (by simp [doV, quoV, remV]) rfl, Below.refl _ _⟩
      · by_cases hm : b = -1
        · subst hm
          have E := Lib.hid (u_neg a)
          have Q := Lib.hid (quo_m1 a)
          have R := Lib.hid (rem_m1 a)
          go_enter Try.func11, Try.ntmps11
          go_wp2
          go_ret2
          first
            | exact ⟨ret2 (E.out.trans Q.out.symm) rfl, Below.refl _ _⟩
            | exact ⟨ret2 R.out.symm rfl, Below.refl _ _⟩
        · have h1 : (b == 0) = false := by simpa using hz
          have h2 : (b == -1) = false := by simpa using hm
          have E := Lib.hid (show divE b = 0 from if_neg hz)
          have R := Lib.hid (show remV a b = if adj a b = true then wrap64 (a.tmod b + b) else a.tmod b from if_neg hz)
          have Q := Lib.hid (show quoV a b = if adj a b = true then wrap64 (wrap64 (a.tdiv b) - 1) else wrap64 (a.tdiv b) from if_neg hz)
          go_enter Try.func11, Try.ntmps11
          go_wp2
          go_region
          go_wp2
          all_goals
            go_ret2
            refine ⟨ret2 ?_ E.out.symm, (Below.refl _ _).drew⟩
            first | show _ = quoV a b | show _ = remV a b
            first | rw [Q.out] | rw [R.out]
            clear R Q E
            simp_all [adj]
  iterate 5
    · have E := Lib.hid (u64_uN a)
      go_enter Try.func11, Try.ntmps11
      go_wp2_with fail
      rw [E.out]
      refine (bits_any _ (by decide) (by decide) a b _ hb0 hb1).mono ?_; rintro e w1 ⟨rfl, rfl⟩
      go_wp2_with fail
      go_ret2
      exact ⟨rfl, Below.refl _ _⟩
  all_goals
    clear hb0 hb1
    have e1 : doV op a b = 0 := by unfold doV; repeat rw [if_neg (by omega)]
    have e2 : doE op b = 1 := by unfold doE; repeat rw [if_neg (by omega)]
    rw [e1, e2]
    have g1 : (op == 1) = false := by simp; omega
    have g2 : (op == 2) = false := by simp; omega
    have g3 : (op == 3) = false := by simp; omega
    have g4 : (op == 4) = false := by simp; omega
    have g5 : (op == 5) = false := by simp; omega
    have g6 : (op == 6) = false := by simp; omega
    have g7 : (op == 7) = false := by simp; omega
    have g8 : (op == 8) = false := by simp; omega
    have g9 : (op == 9) = false := by simp; omega
    have g10 : (op == 10) = false := by simp; omega
    clear e1 e2
    go_enter Try.func11, Try.ntmps11
    go_wp2
    go_ret2
    exact ⟨rfl, Below.refl _ _⟩

set_option maxHeartbeats 400000 in
theorem refOne_any (op a : Int) (w : World) (h0 : -9223372036854775808 ≤ a) (h1 : a ≤ 9223372036854775807) :
    Calls Try.prog 13 #[I op, I a] w fun e w' => e = .returned (.tuple #[I (oneV op a), I (oneE op)]) ∧ w = w' := by
  by_cases k1 : op = 20
  · subst k1
    have E := Lib.hid (u_neg a)
    clear h0 h1
    go_enter Try.func13, Try.ntmps13
    go_wp2
    go_ret2
    exact ⟨ret2 E.out rfl, rfl⟩
  · by_cases k2 : op = 21
    · subst k2
      have E := Lib.hid (u_not a h0 h1)
      clear h0 h1
      go_enter Try.func13, Try.ntmps13
      go_wp2
      go_ret2
      exact ⟨ret2 E.out rfl, rfl⟩
    · have e1 : oneV op a = 0 := by simp [oneV, k1, k2]
      have e2 : oneE op = 1 := by simp [oneE, k1, k2]
      rw [e1, e2]
      have g1 : (op == 20) = false := by simpa using k1
      have g2 : (op == 21) = false := by simpa using k2
      clear e1 e2 h0 h1
      go_enter Try.func13, Try.ntmps13
      go_wp2
      go_ret2
      exact ⟨rfl, rfl⟩

set_option maxHeartbeats 400000 in
theorem refCount_any (a b c : Int) (w : World) (h0 : -9223372036854775808 ≤ c) (h1 : c ≤ 9223372036854775807) :
    Calls Try.prog 15 #[I a, I b, I c] w fun e w' => e = .returned (.tuple #[.int .u64 (countV a b c), I (countE c)]) ∧ w = w' := by
  by_cases hc : c = 0
  · subst hc
    clear h0 h1
    go_enter Try.func15, Try.ntmps15
    go_wp2
    go_ret2
    exact ⟨rfl, rfl⟩
  · have g : (c == 0) = false := by simpa using hc
    have N := u64_ne c hc h0 h1
    have N0 := N.1
    have N1 := N.2
    have E := Lib.hid (show countE c = 0 from if_neg hc)
    have E0 := Lib.hid hc
    clear h0 h1 hc N
    by_cases hp : 0 < c
    · have g1 : decide (c < 0) = false := by simp; omega
      have C := Lib.hid (show countV a b c = roundsV a b (IntKind.u64.wrap c) by unfold countV; rw [if_neg E0.out, if_pos hp])
      go_enter Try.func15, Try.ntmps15
      go_wp2
      all_goals
        go_ret2
        refine ⟨ret2 ?_ E.out.symm, rfl⟩
        rw [C.out]
        unfold roundsV
        first | (simp_all; done) | (rw [if_neg (by omega)]; simp_all)
    · have g1 : decide (c < 0) = true := by simp; have := E0.out; omega
      have C := Lib.hid (show countV a b c = roundsV b a (IntKind.u64.wrap (-IntKind.u64.wrap c)) by unfold countV; rw [if_neg E0.out, if_neg hp])
      go_enter Try.func15, Try.ntmps15
      go_wp2
      all_goals
        go_ret2
        refine ⟨ret2 ?_ E.out.symm, rfl⟩
        rw [C.out]
        unfold roundsV
        first | (simp_all; done) | (rw [if_neg (by omega)]; simp_all)
end Go.Proofs.Yticlejfonicfcaa
