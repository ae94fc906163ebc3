/- selkielaw02.NumShifts answers true for every number and every count of places and leaves them as they were; no condition. -/
import Derived.Test.YticlejfonicfcaaRowK
namespace Go.Proofs.Yticlejfonicfcaa
open Go.ChangeShapes Go.WideShapes Go.ChangeAt Go.RowKit Go.Sort

set_option maxHeartbeats 2000000 in
set_option maxRecDepth 100000 in
theorem shifts_law (a y l k r f : Int) (w : World) (n0 : 0 ≤ y) (n1 : y ≤ 255) (h1 : Hid (doV 9 a (y % 64) = l)) (h2 : Hid (doV 10 l (y % 64) = k)) (h3 : Hid (doV 10 a (y % 64) = r)) (h4 : Hid (doV 9 r (y % 64) = f))
    (h5 : (IntKind.u64.wrap k == bits .and .u64 (IntKind.u64.wrap a) (18446744073709551615 / 2 ^ (y % 64).toNat)) = true)
    (h6 : (IntKind.u64.wrap f == bits .and .u64 (IntKind.u64.wrap a) (IntKind.u64.wrap (18446744073709551615 * 2 ^ (y % 64).toNat))) = true) :
    Calls Try.prog 8 #[I a, .int .u8 y] w fun e w' => e = .returned (.bool true) ∧ Below w.heap.size w w' := by
  go_enter Try.func8, Try.ntmps8
  go_wp2_with fail
  refine (alive_any _).mono ?_; rintro e w0 ⟨rfl, c0⟩
  go_wp2_with fail
  refine (lit_do 9 a (y % 64) l 0 _ h1.out rfl).mono ?_; rintro e w1 ⟨rfl, c1⟩
  replace c1 := thenB c0 c1; clear c0
  go_wp2_with fail
  refine (lit_do 10 l (y % 64) k 0 _ h2.out rfl).mono ?_; rintro e w0 ⟨rfl, c0⟩
  replace c0 := thenB c1 c0; clear c1
  go_wp2_with fail
  refine (lit_do 10 a (y % 64) r 0 _ h3.out rfl).mono ?_; rintro e w1 ⟨rfl, c1⟩
  replace c1 := thenB c0 c1; clear c0
  go_wp2_with fail
  refine (lit_do 9 r (y % 64) f 0 _ h4.out rfl).mono ?_; rintro e w0 ⟨rfl, c0⟩
  replace c0 := thenB c1 c0; clear c1
  go_wp2_with fail
  go_ret
  exact ⟨rfl, c0⟩

theorem u8_rng {n : Int} (h : (Lit.int .u8 n).wf = true) : 0 ≤ n ∧ n ≤ 255 := by
  have h' : (decide (IntKind.u8.min ≤ n) && decide (n ≤ IntKind.u8.max)) = true := h
  simp only [Bool.and_eq_true, decide_eq_true_eq] at h'
  exact h'

/-- To the left and back. -/
theorem back_law (a n : Int) (h0 : 0 ≤ n) (h1 : n < 64) :
    IntKind.u64.wrap (leftV (leftV a n) (wrap64 (-n))) = bits .and .u64 (IntKind.u64.wrap a) (18446744073709551615 / 2 ^ n.toNat) := by
  have hu := uN_lt a
  rw [u64_uN a, show (18446744073709551615 / 2 ^ n.toNat : Int) = ((18446744073709551615 / 2 ^ n.toNat : Nat) : Int) from by rw [Int.natCast_ediv, Int.natCast_pow]; rfl,
    bits_and_u64_nat _ _ hu (Nat.lt_of_le_of_lt (Nat.div_le_self _ _) (by decide)), ← back_nat _ _ (by omega), u64_uN]
  congr 1
  rw [w64_in (-n) (by omega) (by omega)]
  by_cases hz : n = 0
  · subst hz
    rw [show (-0 : Int) = 0 from rfl, leftV_pos _ 0 (by decide) (by decide), leftV_pos a 0 (by decide) (by decide)]
    rw [show Int.toNat 0 = 0 from rfl, Nat.pow_zero, Nat.mul_one, Nat.mul_one, Nat.div_one, Nat.mod_eq_of_lt hu, uN_w64, uN_w64, uN_nat _ hu, Nat.mod_eq_of_lt hu, uN_nat _ hu]
  · rw [leftV_neg _ (-n) (by omega) (by omega), Int.neg_neg, leftV_pos a n h0 (by omega), uN_w64, uN_w64, uN_nat _ (Nat.mod_lt _ (by decide)), uN_nat _ (Nat.lt_of_le_of_lt (Nat.div_le_self _ _) (Nat.mod_lt _ (by decide)))]

/-- To the right and back. -/
theorem forth_law (a n : Int) (h0 : 0 ≤ n) (h1 : n < 64) :
    IntKind.u64.wrap (leftV (leftV a (wrap64 (-n))) n) = bits .and .u64 (IntKind.u64.wrap a) (IntKind.u64.wrap (18446744073709551615 * 2 ^ n.toNat)) := by
  have hu := uN_lt a
  rw [u64_uN a, show IntKind.u64.wrap (18446744073709551615 * 2 ^ n.toNat : Int) = ((18446744073709551615 * 2 ^ n.toNat % 18446744073709551616 : Nat) : Int) from by rw [IntKind.wrap_u64, Int.natCast_emod, Int.natCast_mul, Int.natCast_pow]; rfl,
    bits_and_u64_nat _ _ hu (Nat.mod_lt _ (by decide)), ← forth_nat, u64_uN]
  congr 1
  rw [w64_in (-n) (by omega) (by omega)]
  by_cases hz : n = 0
  · subst hz
    rw [show (-0 : Int) = 0 from rfl, leftV_pos _ 0 (by decide) (by decide), leftV_pos a 0 (by decide) (by decide)]
    rw [show Int.toNat 0 = 0 from rfl, Nat.pow_zero, Nat.mul_one, Nat.mul_one, Nat.div_one, Nat.mul_one, Nat.mod_eq_of_lt hu, uN_w64, uN_w64, uN_nat _ hu, Nat.mod_eq_of_lt hu, uN_nat _ hu]
  · rw [leftV_pos _ n h0 (by omega), leftV_neg a (-n) (by omega) (by omega), Int.neg_neg, uN_w64, uN_w64, uN_nat _ (Nat.lt_of_le_of_lt (Nat.div_le_self _ _) hu), uN_nat _ (Nat.mod_lt _ (by decide))]

theorem shifts_any (a y : Int) (w : World) (_wa : (Lit.int .i64 a).wf = true) (wy : (Lit.int .u8 y).wf = true) :
    Calls Try.prog 8 #[I a, .int .u8 y] w fun e w' => e = .returned (.bool true) ∧ Below w.heap.size w w' := by
  obtain ⟨y0, y1⟩ := u8_rng wy
  exact shifts_law a y _ _ _ _ w y0 y1 (Lib.hid rfl) (Lib.hid rfl) (Lib.hid rfl) (Lib.hid rfl)
    (beq_iff_eq.2 (back_law a (y % 64) (by omega) (by omega))) (beq_iff_eq.2 (forth_law a (y % 64) (by omega) (by omega)))

set_option maxRecDepth 100000 in
theorem shifts_lifted (os : Os) (started : os.Started) (H : Type) (enc : TypeId × Value → H) :
    ReturnsInHanded {} Try.checked os 8 .any (Rows.numShiftsSpec.pre6 enc Try.prog Try.f8 Rows.numShiftsRow.domain false) (Rows.numShiftsSpec.post enc Try.prog Try.f8 false true false false) := by
  refine returnsInHanded_of_change (C := Try.checked) own started (by kernel_rfl) Try.func8
    (ChangeSpec.witness6 (enc := enc) (C := Try.checked) false ⟨#[], #[.int .i64 0, .int .u8 0], []⟩ 8 (by kernel_rfl) (by kernel_rfl) (by kernel_rfl) (by kernel_rfl)) ?_
  intro W base args ds gs before hval0 hW _ _
  have hval : ∀ (j : Nat) t v, Try.f8.params[j]? = some t → args[j]? = some v → Value.okWide Try.prog W .any base t v := hval0
  have hW' := hW
  obtain ⟨p, q, hA0, hV, rfl, hfz, hnd⟩ := hW
  have hA : DataW.TrodAll enc Try.prog W 0 (fun _ => true) true Try.f8.params.toList args.toList ds p := hA0
  rw [Try.params8] at hA hval
  obtain ⟨v0, vs0, d0, ds0, p0, q0, hargs, rfl, rfl, h0, r0⟩ := trodAll_cons hA
  obtain ⟨v1, vs1, d1, ds1, p1, q1, rfl, rfl, rfl, h1, r1⟩ := trodAll_cons r0
  obtain ⟨rfl, rfl, rfl⟩ := trodAll_nil r1
  obtain rfl : args = #[v0, v1] := by cases args; simp_all
  obtain ⟨rfl, rfl⟩ := trodVars_none hV
  obtain ⟨a0, rfl, rfl, rfl, w0⟩ := open_int Try.underlying2 (hval 0 2 v0 rfl rfl) h0
  obtain ⟨a1, rfl, rfl, rfl, w1⟩ := open_int Try.underlying5 (hval 1 5 v1 rfl rfl) h1
  clear hA0 hval0
  simp only [List.append_nil] at hW'
  refine (shifts_any a0 a1 W w0 w1).mono fun e W' ⟨he, hb⟩ => ?_
  subst he
  exact ⟨_, rfl, _, _, _, [], [], [], hW', trodAll_cons_mk (shut_bool Try.underlying4 _) trodAll_mk0, (trodAll_cons_mk (shut_int Try.underlying2 w0) (trodAll_cons_mk (shut_int Try.underlying5 w1) trodAll_mk0)), rfl, hb.frame _, fun h => by cases h⟩

theorem shifts_holds : Rows.NumShiftsSaid :=
  OpenClaim.holds_of_wide 8 Try.f8 rfl rfl rfl rfl rfl rfl rfl ⟨rfl, rfl, rfl, rfl, rfl⟩ rfl rfl rfl rfl rfl (by kernel_rfl) Try.func8 (by kernel_rfl)
    (of_decide_eq_true (by kernel_rfl)) (by unfold Func.isWrapper; first | (rw [if_pos (by decide +kernel)]; kernel_rfl) | (rw [if_neg (by decide +kernel)]; exact ⟨rfl, rfl⟩))
    (fun os started H enc _ => shifts_lifted os started H enc)
end Go.Proofs.Yticlejfonicfcaa
