/- selkielaw02.NumDivides answers true for every two numbers and leaves them as they were; no condition. -/
import Derived.Test.YticlejfonicfcaaRowK
namespace Go.Proofs.Yticlejfonicfcaa
open Go.ChangeShapes Go.WideShapes Go.ChangeAt Go.RowKit Go.Sort

set_option maxHeartbeats 1000000 in
theorem divides_any (a b : Int) (w : World) (wa : (Lit.int .i64 a).wf = true) (wb : (Lit.int .i64 b).wf = true) :
    Calls Try.prog 4 #[I a, I b] w fun e w' => e = .returned (.bool true) ∧ Below w.heap.size w w' := by
  have a0 := i64_lo wa
  have a1 := i64_hi wa
  have b0 := i64_lo wb
  have b1 := i64_hi wb
  clear wa wb
  by_cases hb : b = 0
  · subst hb
    clear a0 a1 b0 b1
    go_enter Try.func4, Try.ntmps4
    go_wp2_with fail
    refine (alive_any _).mono ?_; rintro e w1 ⟨rfl, c1⟩
    go_wp2_with fail
    refine (lit_do 4 a 0 0 2 _ (by simp [doV, quoV]) (by simp [doE, divE])).mono ?_; rintro e w2 ⟨rfl, c2⟩
    replace c2 := thenB c1 c2; clear c1
    go_wp2_with fail
    refine (lit_do 5 a 0 0 2 _ (by simp [doV, remV]) (by simp [doE, divE])).mono ?_; rintro e w3 ⟨rfl, c3⟩
    replace c3 := thenB c2 c3; clear c2
    go_wp2
    go_ret
    exact ⟨rfl, c3⟩
  · have hback := Lib.hid (div_back a b hb a0 a1)
    have hr := rem_rng a b hb b0 b1
    have hE := Lib.hid (show divE b = 0 from if_neg hb)
    have g : (b == 0) = false := by simpa using hb
    clear a0 a1 b0 b1
    have mulq := Lib.hid (show doV 3 (quoV a b) b = wrap64 (quoV a b * b) from rfl)
    generalize hq : quoV a b = q at *
    generalize hm : remV a b = m at *
    have Hq := Lib.hid hq
    have Hm := Lib.hid hm
    clear hq hm
    rcases hr with hr | hr | hr
    · subst hr
      clear hb
      go_enter Try.func4, Try.ntmps4
      go_wp2_with fail
      refine (alive_any _).mono ?_; rintro e w1 ⟨rfl, c1⟩
      go_wp2_with fail
      refine (lit_do 4 a b q 0 _ Hq.out hE.out).mono ?_; rintro e w2 ⟨rfl, c2⟩
      replace c2 := thenB c1 c2; clear c1
      go_wp2_with fail
      refine (lit_do 5 a b 0 0 _ Hm.out hE.out).mono ?_; rintro e w3 ⟨rfl, c3⟩
      replace c3 := thenB c2 c3; clear c2
      go_wp2_with fail
      refine (lit_do 3 q b _ 0 _ mulq.out rfl).mono ?_; rintro e w4 ⟨rfl, c4⟩
      replace c4 := thenB c3 c4; clear c3
      go_wp2_with fail
      refine (lit_do 1 (wrap64 (q * b)) 0 a 0 _ hback.out rfl).mono ?_; rintro e w5 ⟨rfl, c5⟩
      replace c5 := thenB c4 c5; clear c4
      go_wp2
      go_ret
      exact ⟨rfl, c5⟩
    all_goals
      obtain ⟨r0, r1, r2⟩ := hr
      have g2 : (m == 0) = false := by simp; omega
      clear hb
      go_enter Try.func4, Try.ntmps4
      go_wp2_with fail
      refine (alive_any _).mono ?_; rintro e w1 ⟨rfl, c1⟩
      go_wp2_with fail
      refine (lit_do 4 a b q 0 _ Hq.out hE.out).mono ?_; rintro e w2 ⟨rfl, c2⟩
      replace c2 := thenB c1 c2; clear c1
      go_wp2_with fail
      refine (lit_do 5 a b m 0 _ Hm.out hE.out).mono ?_; rintro e w3 ⟨rfl, c3⟩
      replace c3 := thenB c2 c3; clear c2
      go_wp2_with fail
      refine (lit_do 3 q b _ 0 _ mulq.out rfl).mono ?_; rintro e w4 ⟨rfl, c4⟩
      replace c4 := thenB c3 c4; clear c3
      go_wp2_with fail
      refine (lit_do 1 (wrap64 (q * b)) m a 0 _ hback.out rfl).mono ?_; rintro e w5 ⟨rfl, c5⟩
      replace c5 := thenB c4 c5; clear c4
      go_wp2
      go_ret
      exact ⟨by simp_all, c5⟩

set_option maxRecDepth 100000 in
theorem divides_lifted (os : Os) (started : os.Started) (H : Type) (enc : TypeId × Value → H) :
    ReturnsInHanded {} Try.checked os 4 .any (Rows.numDividesSpec.pre6 enc Try.prog Try.f4 Rows.numDividesRow.domain false) (Rows.numDividesSpec.post enc Try.prog Try.f4 false true false false) := by
  refine returnsInHanded_of_change (C := Try.checked) own started (by kernel_rfl) Try.func4
    (ChangeSpec.witness6 (enc := enc) (C := Try.checked) false ⟨#[], #[.int .i64 0, .int .i64 0], []⟩ 8 (by kernel_rfl) (by kernel_rfl) (by kernel_rfl) (by kernel_rfl)) ?_
  intro W base args ds gs before hval0 hW _ _
  have hval : ∀ (j : Nat) t v, Try.f4.params[j]? = some t → args[j]? = some v → Value.okWide Try.prog W .any base t v := hval0
  have hW' := hW
  obtain ⟨p, q, hA0, hV, rfl, hfz, hnd⟩ := hW
  have hA : DataW.TrodAll enc Try.prog W 0 (fun _ => true) true Try.f4.params.toList args.toList ds p := hA0
  rw [Try.params4] at hA hval
  obtain ⟨v0, vs0, d0, ds0, p0, q0, hargs, rfl, rfl, h0, r0⟩ := trodAll_cons hA
  obtain ⟨v1, vs1, d1, ds1, p1, q1, rfl, rfl, rfl, h1, r1⟩ := trodAll_cons r0
  obtain ⟨rfl, rfl, rfl⟩ := trodAll_nil r1
  obtain rfl : args = #[v0, v1] := by cases args; simp_all
  obtain ⟨rfl, rfl⟩ := trodVars_none hV
  obtain ⟨a0, rfl, rfl, rfl, w0⟩ := open_int Try.underlying2 (hval 0 2 v0 rfl rfl) h0
  obtain ⟨a1, rfl, rfl, rfl, w1⟩ := open_int Try.underlying2 (hval 1 2 v1 rfl rfl) h1
  clear hA0 hval0
  simp only [List.append_nil] at hW'
  refine (divides_any a0 a1 W w0 w1).mono fun e W' ⟨he, hb⟩ => ?_
  subst he
  exact ⟨_, rfl, _, _, _, [], [], [], hW', trodAll_cons_mk (shut_bool Try.underlying4 _) trodAll_mk0, (trodAll_cons_mk (shut_int Try.underlying2 w0) (trodAll_cons_mk (shut_int Try.underlying2 w1) trodAll_mk0)), rfl, hb.frame _, fun h => by cases h⟩

theorem divides_holds : Rows.NumDividesSaid :=
  OpenClaim.holds_of_wide 4 Try.f4 rfl rfl rfl rfl rfl rfl rfl ⟨rfl, rfl, rfl, rfl, rfl⟩ rfl rfl rfl rfl rfl (by kernel_rfl) Try.func4 (by kernel_rfl)
    (of_decide_eq_true (by kernel_rfl)) (by unfold Func.isWrapper; first | (rw [if_pos (by decide +kernel)]; kernel_rfl) | (rw [if_neg (by decide +kernel)]; exact ⟨rfl, rfl⟩))
    (fun os started H enc _ => divides_lifted os started H enc)
end Go.Proofs.Yticlejfonicfcaa
