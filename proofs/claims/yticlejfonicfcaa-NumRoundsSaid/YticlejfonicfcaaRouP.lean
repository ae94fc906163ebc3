/- selkielaw02.NumRounds answers true for every three numbers and leaves them as they were; no condition. -/
import Derived.Test.YticlejfonicfcaaRowK
namespace Go.Proofs.Yticlejfonicfcaa
open Go.ChangeShapes Go.WideShapes Go.ChangeAt Go.RowKit Go.Sort

set_option maxHeartbeats 400000 in
theorem cdo_any (op a b : Int) (w : World) : Calls Try.prog 16 #[I op, I a, I b] w fun e w' => e = .returned (I (doV op a b)) ∧ Below w.heap.size w w' := by
  go_enter Try.func16, Try.ntmps16
  go_wp2_with fail
  refine (do_any _ _ _ _).mono ?_; rintro e w1 ⟨rfl, b1⟩
  go_wp2
  go_ret
  exact ⟨rfl, b1⟩
set_option maxHeartbeats 400000 in
theorem cone_any (op a : Int) (w : World) : Calls Try.prog 17 #[I op, I a] w fun e w' => e = .returned (I (oneV op a)) ∧ Below w.heap.size w w' := by
  go_enter Try.func17, Try.ntmps17
  go_wp2_with fail
  refine (one_any _ _ _).mono ?_; rintro e w1 ⟨rfl, rfl⟩
  go_wp2
  go_ret
  exact ⟨rfl, Below.refl _ _⟩
theorem cdo (op a b x : Int) (h : Hid (doV op a b = x)) (w : World) : Calls Try.prog 16 #[I op, I a, I b] w fun e w' => e = .returned (I x) ∧ Below w.heap.size w w' := by
  have := h.out; subst this; exact cdo_any op a b w
theorem cone (op a x : Int) (h : Hid (oneV op a = x)) (w : World) : Calls Try.prog 17 #[I op, I a] w fun e w' => e = .returned (I x) ∧ Below w.heap.size w w' := by
  have := h.out; subst this; exact cone_any op a w

theorem r2 (a b : Int) (h0 : -9223372036854775808 ≤ a) (h1 : a ≤ 9223372036854775807) : doV 2 (wrap64 (a + b)) b = a := by
  show wrap64 (wrap64 (a + b) - b) = a
  unfold wrap64; omega
theorem r4 (a b : Int) : doV 1 b a = wrap64 (a + b) := by rw [Int.add_comm]; rfl
theorem r6 (a b : Int) : doV 3 b a = wrap64 (a * b) := by rw [Int.mul_comm]; rfl
theorem r11 (a b c : Int) : doV 1 (wrap64 (c * a)) (wrap64 (c * b)) = wrap64 (c * wrap64 (a + b)) := by
  show wrap64 (wrap64 (c * a) + wrap64 (c * b)) = _
  rw [w64_addL, w64_addR, w64_mulR, Int.mul_add]
theorem r13 (a : Int) (h0 : -9223372036854775808 ≤ a) (h1 : a ≤ 9223372036854775807) : oneV 20 (wrap64 (-a)) = a := neg_neg a h0 h1
theorem r14 (a : Int) (h0 : -9223372036854775808 ≤ a) (h1 : a ≤ 9223372036854775807) : oneV 21 a = -1 - a := law_not a h0 h1
theorem r15 (a : Int) (h0 : -9223372036854775808 ≤ a) (h1 : a ≤ 9223372036854775807) : oneV 21 (-1 - a) = a := by
  have : oneV 21 (-1 - a) = -1 - (-1 - a) := law_not (-1 - a) (by omega) (by omega)
  omega
theorem r18 (a : Int) : doV 1 (-1 - a) 1 = wrap64 (-a) := by
  show wrap64 (-1 - a + 1) = _
  congr 1; omega
theorem r19 (a : Int) : doV 2 0 a = wrap64 (-a) := by
  show wrap64 (0 - a) = _
  congr 1; omega

set_option maxHeartbeats 2000000 in
set_option maxRecDepth 100000 in
theorem rounds_law (a b c s m t x y n k : Int) (w : World) (h1 : Hid (doV 1 a b = s)) (h2 : Hid (doV 2 s b = a)) (h4 : Hid (doV 1 b a = s)) (h5 : Hid (doV 3 a b = m)) (h6 : Hid (doV 3 b a = m))
    (h8 : Hid (doV 3 c s = t)) (h9 : Hid (doV 3 c a = x)) (h10 : Hid (doV 3 c b = y)) (h11 : Hid (doV 1 x y = t)) (h12 : Hid (oneV 20 a = n)) (h13 : Hid (oneV 20 n = a)) (h14 : Hid (oneV 21 a = k)) (h15 : Hid (oneV 21 k = a))
    (h18 : Hid (doV 1 k 1 = n)) (h19 : Hid (doV 2 0 a = n)) :
    Calls Try.prog 5 #[I a, I b, I c] w fun e w' => e = .returned (.bool true) ∧ Below w.heap.size w w' := by
  go_enter Try.func5, Try.ntmps5
  go_wp2_with fail
  refine (alive_any _).mono ?_; rintro e w0 ⟨rfl, c0⟩
  go_wp2_with fail
  refine (cdo 1 a b s h1 _).mono ?_; rintro e w1 ⟨rfl, c1⟩
  replace c1 := thenB c0 c1; clear c0
  go_wp2_with fail
  refine (cdo 2 s b a h2 _).mono ?_; rintro e w2 ⟨rfl, c2⟩
  replace c2 := thenB c1 c2; clear c1
  go_wp2_with fail
  refine (cdo 1 a b s h1 _).mono ?_; rintro e w1 ⟨rfl, c1⟩
  replace c1 := thenB c2 c1; clear c2
  go_wp2_with fail
  refine (cdo 1 b a s h4 _).mono ?_; rintro e w2 ⟨rfl, c2⟩
  replace c2 := thenB c1 c2; clear c1
  go_wp2_with fail
  refine (cdo 3 a b m h5 _).mono ?_; rintro e w1 ⟨rfl, c1⟩
  replace c1 := thenB c2 c1; clear c2
  go_wp2_with fail
  refine (cdo 3 b a m h6 _).mono ?_; rintro e w2 ⟨rfl, c2⟩
  replace c2 := thenB c1 c2; clear c1
  go_wp2_with fail
  refine (cdo 1 a b s h1 _).mono ?_; rintro e w1 ⟨rfl, c1⟩
  replace c1 := thenB c2 c1; clear c2
  go_wp2_with fail
  refine (cdo 3 c s t h8 _).mono ?_; rintro e w2 ⟨rfl, c2⟩
  replace c2 := thenB c1 c2; clear c1
  go_wp2_with fail
  refine (cdo 3 c a x h9 _).mono ?_; rintro e w1 ⟨rfl, c1⟩
  replace c1 := thenB c2 c1; clear c2
  go_wp2_with fail
  refine (cdo 3 c b y h10 _).mono ?_; rintro e w2 ⟨rfl, c2⟩
  replace c2 := thenB c1 c2; clear c1
  go_wp2_with fail
  refine (cdo 1 x y t h11 _).mono ?_; rintro e w1 ⟨rfl, c1⟩
  replace c1 := thenB c2 c1; clear c2
  go_wp2_with fail
  refine (cone 20 a n h12 _).mono ?_; rintro e w2 ⟨rfl, c2⟩
  replace c2 := thenB c1 c2; clear c1
  go_wp2_with fail
  refine (cone 20 n a h13 _).mono ?_; rintro e w1 ⟨rfl, c1⟩
  replace c1 := thenB c2 c1; clear c2
  go_wp2_with fail
  refine (cone 21 a k h14 _).mono ?_; rintro e w2 ⟨rfl, c2⟩
  replace c2 := thenB c1 c2; clear c1
  go_wp2_with fail
  refine (cone 21 k a h15 _).mono ?_; rintro e w1 ⟨rfl, c1⟩
  replace c1 := thenB c2 c1; clear c2
  go_wp2_with fail
  refine (cone 20 a n h12 _).mono ?_; rintro e w2 ⟨rfl, c2⟩
  replace c2 := thenB c1 c2; clear c1
  go_wp2_with fail
  refine (cone 21 a k h14 _).mono ?_; rintro e w1 ⟨rfl, c1⟩
  replace c1 := thenB c2 c1; clear c2
  go_wp2_with fail
  refine (cdo 1 k 1 n h18 _).mono ?_; rintro e w2 ⟨rfl, c2⟩
  replace c2 := thenB c1 c2; clear c1
  go_wp2_with fail
  refine (cdo 2 0 a n h19 _).mono ?_; rintro e w1 ⟨rfl, c1⟩
  replace c1 := thenB c2 c1; clear c2
  go_wp2_with fail
  refine (cone 20 a n h12 _).mono ?_; rintro e w2 ⟨rfl, c2⟩
  replace c2 := thenB c1 c2; clear c1
  go_wp2
  go_ret
  exact ⟨rfl, c2⟩

theorem roundsLaw_any (a b c : Int) (w : World) (wa : (Lit.int .i64 a).wf = true) (_wb : (Lit.int .i64 b).wf = true) (_wc : (Lit.int .i64 c).wf = true) :
    Calls Try.prog 5 #[I a, I b, I c] w fun e w' => e = .returned (.bool true) ∧ Below w.heap.size w w' :=
  have a0 := i64_lo wa
  have a1 := i64_hi wa
  rounds_law a b c _ _ _ _ _ _ _ w (Lib.hid rfl) (Lib.hid (r2 a b a0 a1)) (Lib.hid (r4 a b)) (Lib.hid rfl) (Lib.hid (r6 a b)) (Lib.hid rfl) (Lib.hid rfl) (Lib.hid rfl) (Lib.hid (r11 a b c))
    (Lib.hid rfl) (Lib.hid (r13 a a0 a1)) (Lib.hid (r14 a a0 a1)) (Lib.hid (r15 a a0 a1)) (Lib.hid (r18 a)) (Lib.hid (r19 a))

set_option maxRecDepth 100000 in
theorem roundsLaw_lifted (os : Os) (started : os.Started) (H : Type) (enc : TypeId × Value → H) :
    ReturnsInHanded {} Try.checked os 5 .any (Rows.numRoundsSpec.pre6 enc Try.prog Try.f5 Rows.numRoundsRow.domain false) (Rows.numRoundsSpec.post enc Try.prog Try.f5 false true false false) := by
  refine returnsInHanded_of_change (C := Try.checked) own started (by kernel_rfl) Try.func5
    (ChangeSpec.witness6 (enc := enc) (C := Try.checked) false ⟨#[], #[.int .i64 0, .int .i64 0, .int .i64 0], []⟩ 8 (by kernel_rfl) (by kernel_rfl) (by kernel_rfl) (by kernel_rfl)) ?_
  intro W base args ds gs before hval0 hW _ _
  have hval : ∀ (j : Nat) t v, Try.f5.params[j]? = some t → args[j]? = some v → Value.okWide Try.prog W .any base t v := hval0
  have hW' := hW
  obtain ⟨p, q, hA0, hV, rfl, hfz, hnd⟩ := hW
  have hA : DataW.TrodAll enc Try.prog W 0 (fun _ => true) true Try.f5.params.toList args.toList ds p := hA0
  rw [Try.params5] at hA hval
  obtain ⟨v0, vs0, d0, ds0, p0, q0, hargs, rfl, rfl, h0, r0⟩ := trodAll_cons hA
  obtain ⟨v1, vs1, d1, ds1, p1, q1, rfl, rfl, rfl, h1, r1⟩ := trodAll_cons r0
  obtain ⟨v2, vs2, d2, ds2, p2, q2, rfl, rfl, rfl, h2, r2⟩ := trodAll_cons r1
  obtain ⟨rfl, rfl, rfl⟩ := trodAll_nil r2
  obtain rfl : args = #[v0, v1, v2] := by cases args; simp_all
  obtain ⟨rfl, rfl⟩ := trodVars_none hV
  obtain ⟨a0, rfl, rfl, rfl, w0⟩ := open_int Try.underlying2 (hval 0 2 v0 rfl rfl) h0
  obtain ⟨a1, rfl, rfl, rfl, w1⟩ := open_int Try.underlying2 (hval 1 2 v1 rfl rfl) h1
  obtain ⟨a2, rfl, rfl, rfl, w2⟩ := open_int Try.underlying2 (hval 2 2 v2 rfl rfl) h2
  clear hA0 hval0
  simp only [List.append_nil] at hW'
  refine (roundsLaw_any a0 a1 a2 W w0 w1 w2).mono fun e W' ⟨he, hb⟩ => ?_
  subst he
  exact ⟨_, rfl, _, _, _, [], [], [], hW', trodAll_cons_mk (shut_bool Try.underlying4 _) trodAll_mk0, (trodAll_cons_mk (shut_int Try.underlying2 w0) (trodAll_cons_mk (shut_int Try.underlying2 w1) (trodAll_cons_mk (shut_int Try.underlying2 w2) trodAll_mk0))), rfl, hb.frame _, fun h => by cases h⟩

theorem roundsLaw_holds : Rows.NumRoundsSaid :=
  OpenClaim.holds_of_wide 5 Try.f5 rfl rfl rfl rfl rfl rfl rfl ⟨rfl, rfl, rfl, rfl, rfl⟩ rfl rfl rfl rfl rfl (by kernel_rfl) Try.func5 (by kernel_rfl)
    (of_decide_eq_true (by kernel_rfl)) (by unfold Func.isWrapper; first | (rw [if_pos (by decide +kernel)]; kernel_rfl) | (rw [if_neg (by decide +kernel)]; exact ⟨rfl, rfl⟩))
    (fun os started H enc _ => roundsLaw_lifted os started H enc)
end Go.Proofs.Yticlejfonicfcaa
