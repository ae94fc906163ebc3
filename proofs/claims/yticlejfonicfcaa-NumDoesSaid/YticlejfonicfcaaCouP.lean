/- selkielaw02.NumCounts answers true for every loop and leaves it as it was; no condition. -/
import Derived.Test.YticlejfonicfcaaRowK
import Derived.Lib.SmallJoins
namespace Go.Proofs.Yticlejfonicfcaa
open Go.ChangeShapes Go.WideShapes Go.ChangeAt Go.RowKit Go.Sort
abbrev Lp (f y s r : Int) : Value := .agg #[I f, .int .u32 y, .int .i32 s, .int .u16 r]

structure Four (W : World) (b : Nat) (v0 v1 v2 v3 : Value) : Prop where
  c0 : W.cell? ⟨b, 0, Option.none⟩ = some v0
  c1 : W.cell? ⟨b, 1, Option.none⟩ = some v1
  c2 : W.cell? ⟨b, 2, Option.none⟩ = some v2
  c3 : W.cell? ⟨b, 3, Option.none⟩ = some v3
theorem four_new (w : World) (v0 v1 v2 v3 : Value) (t : TypeId) : Four (w.alloc (.cells #[v0, v1, v2, v3] t)) w.heap.size v0 v1 v2 v3 := by
  refine ⟨?_, ?_, ?_, ?_⟩ <;> simp [go_sem]
theorem Four.below {W W' : World} {b : Nat} {v0 v1 v2 v3 : Value} (h : Four W b v0 v1 v2 v3) (hb : Below W.heap.size W W') : Four W' b v0 v1 v2 v3 :=
  have lt := block_lt_of_cell h.c0
  ⟨(hb.cell (p := ⟨b, 0, Option.none⟩) lt).trans h.c0, (hb.cell (p := ⟨b, 1, Option.none⟩) lt).trans h.c1, (hb.cell (p := ⟨b, 2, Option.none⟩) lt).trans h.c2, (hb.cell (p := ⟨b, 3, Option.none⟩) lt).trans h.c3⟩
theorem boxB {w w' : World} {o : Obj} (h : Below (w.alloc o).heap.size (w.alloc o) w') : Below w.heap.size w w' := thenB ((Below.refl _ _).alloc (Nat.le_refl _) _) h

set_option maxHeartbeats 1000000 in
set_option maxRecDepth 100000 in
theorem counts_zero (f y r : Int) (w : World) (y0 : 0 ≤ y) (y1 : y ≤ 4294967295) :
    Calls Try.prog 7 #[Lp f y 0 r] w fun e w' => e = .returned (.bool true) ∧ Below w.heap.size w w' := by
  go_enter Try.func7, Try.ntmps7
  go_wp2_with fail
  refine (alive_any _).mono ?_; rintro e w0 ⟨rfl, c0⟩
  have B := Lib.hid (boxB c0)
  obtain ⟨k0, k1, k2, k3⟩ := (four_new w _ _ _ _ _).below c0
  clear c0
  go_wp2_with fail
  go_region
  go_wp2_with fail
  refine (lit_count f f 0 0 1 _ (by decide) (by decide) rfl rfl).mono ?_; rintro e w1 ⟨rfl, rfl⟩
  go_wp2_with fail
  go_ret
  exact ⟨rfl, B.out.drew⟩

theorem retb {b : Bool} (h : b = true) : Ending.returned (.bool b) = .returned (.bool true) := by rw [h]

set_option maxHeartbeats 2000000 in
set_option maxRecDepth 100000 in
theorem counts_pos (f y s r : Int) (w : World) (y0 : 0 ≤ y) (y1 : y ≤ 4294967295) (s0 : 0 < s) (s1 : s ≤ 2147483647) (r0 : 0 ≤ r) (r1 : r ≤ 65535)
    (f0 : -1099511627776 < f.tmod 1099511627776) (f1 : f.tmod 1099511627776 < 1099511627776) (p0 : 0 ≤ y % 1000000 * s) (p1 : y % 1000000 * s ≤ 2147483648000000) (q0 : 0 ≤ r % s) (q1 : r % s ≤ 65535) (m : Int)
    (h1 : Hid (countV (f.tmod 1099511627776) (f.tmod 1099511627776 + y % 1000000 * s + r % s) s = y % 1000000 + 1)) (h2 : Hid (countV (f.tmod 1099511627776 + y % 1000000 * s + r % s) (f.tmod 1099511627776) s = m)) (h3 : Hid (countE s = 0)) 
    (h4 : Hid ((m == 0) = (f.tmod 1099511627776 + y % 1000000 * s + r % s != f.tmod 1099511627776))) :
    Calls Try.prog 7 #[Lp f y s r] w fun e w' => e = .returned (.bool true) ∧ Below w.heap.size w w' := by
  have g0 : (s == 0) = false := by simp; omega
  go_enter Try.func7, Try.ntmps7
  go_wp2_with fail
  refine (alive_any _).mono ?_; rintro e w0 ⟨rfl, c0⟩
  have B := Lib.hid (boxB c0)
  obtain ⟨k0, k1, k2, k3⟩ := (four_new w _ _ _ _ _).below c0
  clear c0
  go_wp2_with fail
  go_region
  go_wp2_with fail
  refine (lit_count _ _ s _ 0 _ (by omega) (by omega) h1.out h3.out).mono ?_; rintro e w1 ⟨rfl, rfl⟩
  go_wp2_with fail
  refine (lit_count _ _ s m 0 _ (by omega) (by omega) h2.out h3.out).mono ?_; rintro e w1 ⟨rfl, rfl⟩
  go_wp2_with fail
  go_ret
  exact ⟨retb (by rw [h4.out]; simp), B.out.drew⟩

set_option maxHeartbeats 2000000 in
set_option maxRecDepth 100000 in
theorem counts_neg (f y z r : Int) (w : World) (y0 : 0 ≤ y) (y1 : y ≤ 4294967295) (s0 : 0 < z) (s1 : z ≤ 2147483648) (r0 : 0 ≤ r) (r1 : r ≤ 65535)
    (f0 : -1099511627776 < f.tmod 1099511627776) (f1 : f.tmod 1099511627776 < 1099511627776) (p0 : 0 ≤ y % 1000000 * z) (p1 : y % 1000000 * z ≤ 2147483648000000) (q0 : 0 ≤ r % z) (q1 : r % z ≤ 65535) (m : Int)
    (h1 : Hid (countV (f.tmod 1099511627776) (f.tmod 1099511627776 - y % 1000000 * z - r % z) (-z) = y % 1000000 + 1)) (h2 : Hid (countV (f.tmod 1099511627776 - y % 1000000 * z - r % z) (f.tmod 1099511627776) (-z) = m)) (h3 : Hid (countE (-z) = 0)) 
    (h4 : Hid ((m == 0) = (f.tmod 1099511627776 - y % 1000000 * z - r % z != f.tmod 1099511627776))) :
    Calls Try.prog 7 #[Lp f y (-z) r] w fun e w' => e = .returned (.bool true) ∧ Below w.heap.size w w' := by
  have g0 : (-z == 0) = false := by simp; omega
  have g1 : (-z : Int) < 0 := by omega
  go_enter Try.func7, Try.ntmps7
  go_wp2_with fail
  refine (alive_any _).mono ?_; rintro e w0 ⟨rfl, c0⟩
  have B := Lib.hid (boxB c0)
  obtain ⟨k0, k1, k2, k3⟩ := (four_new w _ _ _ _ _).below c0
  clear c0
  go_wp2_with fail
  go_region
  go_wp2_with fail
  refine (lit_count _ _ (-z) _ 0 _ (by omega) (by omega) h1.out h3.out).mono ?_; rintro e w1 ⟨rfl, rfl⟩
  go_wp2_with fail
  refine (lit_count _ _ (-z) m 0 _ (by omega) (by omega) h2.out h3.out).mono ?_; rintro e w1 ⟨rfl, rfl⟩
  go_wp2_with fail
  go_ret
  exact ⟨retb (by rw [h4.out]; simp), B.out.drew⟩

/-! ### How often such a loop goes -/
theorem cnt_pos (F A s R : Int) (s0 : 0 < s) (s1 : s ≤ 2147483647) (p0 : 0 ≤ A * s) (p1 : A * s ≤ 2147483648000000) (q0 : 0 ≤ R) (q1 : R < s) : countV F (F + A * s + R) s = A + 1 := by
  unfold countV
  rw [if_neg (by omega), if_pos s0, IntKind.wrap_u64, Int.emod_eq_of_lt (by omega) (by omega), rounds_small _ _ _ (by omega) (by omega) s0]
  rw [show F + A * s + R - F = R + A * s from by omega, Int.add_mul_ediv_right _ _ (by omega), Int.ediv_eq_zero_of_lt q0 q1]
  omega
theorem cnt_back (F A s R : Int) (s0 : 0 < s) (s1 : s ≤ 2147483647) (p0 : 0 ≤ A * s) (q0 : 0 ≤ R) :
    countV (F + A * s + R) F s = if A * s + R = 0 then 1 else 0 := by
  unfold countV
  rw [if_neg (by omega), if_pos s0, IntKind.wrap_u64, Int.emod_eq_of_lt (by omega) (by omega)]
  by_cases h : A * s + R = 0
  · rw [if_pos h, show F + A * s + R = F from by omega, rounds_small _ _ _ (by omega) (by omega) s0, Int.sub_self, Int.zero_ediv]; rfl
  · rw [if_neg h, rounds_none _ _ _ (by omega)]
theorem neg_size (z : Int) (s0 : 0 < z) (s1 : z ≤ 2147483648) : IntKind.u64.wrap (-IntKind.u64.wrap (-z)) = z := by
  simp only [IntKind.wrap_u64]; omega
theorem cnt_neg (F A z R : Int) (s0 : 0 < z) (s1 : z ≤ 2147483648) (p0 : 0 ≤ A * z) (p1 : A * z ≤ 2147483648000000) (q0 : 0 ≤ R) (q1 : R < z) : countV F (F - A * z - R) (-z) = A + 1 := by
  unfold countV
  rw [if_neg (by omega), if_neg (by omega), neg_size z s0 s1, rounds_small _ _ _ (by omega) (by omega) s0]
  rw [show F - (F - A * z - R) = R + A * z from by omega, Int.add_mul_ediv_right _ _ (by omega), Int.ediv_eq_zero_of_lt q0 q1]
  omega
theorem cnt_nback (F A z R : Int) (s0 : 0 < z) (s1 : z ≤ 2147483648) (p0 : 0 ≤ A * z) (q0 : 0 ≤ R) :
    countV (F - A * z - R) F (-z) = if A * z + R = 0 then 1 else 0 := by
  unfold countV
  rw [if_neg (by omega), if_neg (by omega), neg_size z s0 s1]
  by_cases h : A * z + R = 0
  · rw [if_pos h, show F - A * z - R = F from by omega, rounds_small _ _ _ (by omega) (by omega) s0, Int.sub_self, Int.zero_ediv]; rfl
  · rw [if_neg h, rounds_none _ _ _ (by omega)]
theorem tells (P R F : Int) : ((if P + R = 0 then (1 : Int) else 0) == 0) = (F + P + R != F) := by
  by_cases h : P + R = 0
  · rw [if_pos h, show F + P + R = F from by omega]; simp
  · rw [if_neg h]
    have : ¬ F + P + R = F := by omega
    simp [bne, this]
theorem tellsN (P R F : Int) : ((if P + R = 0 then (1 : Int) else 0) == 0) = (F - P - R != F) := by
  by_cases h : P + R = 0
  · rw [if_pos h, show F - P - R = F from by omega]; simp
  · rw [if_neg h]
    have : ¬ F - P - R = F := by omega
    simp [bne, this]
theorem prod_rng (y s : Int) (s0 : 0 < s) (s1 : s ≤ 2147483648) : 0 ≤ y % 1000000 * s ∧ y % 1000000 * s ≤ 2147483648000000 := by
  refine ⟨Int.mul_nonneg (by omega) (by omega), ?_⟩
  have h : y % 1000000 * s ≤ 1000000 * 2147483648 := Int.mul_le_mul (by omega) s1 (by omega) (by omega)
  omega
theorem emod_low (r s : Int) (r0 : 0 ≤ r) (s0 : 0 < s) : r % s ≤ r := by
  have h := Int.mul_ediv_add_emod r s
  have h' := Int.mul_nonneg (show 0 ≤ s by omega) (Int.ediv_nonneg r0 (show 0 ≤ s by omega))
  generalize s * (r / s) = q at *
  omega
theorem mod40 (f : Int) : -1099511627776 < f.tmod 1099511627776 ∧ f.tmod 1099511627776 < 1099511627776 := (tmod_bd f 1099511627776).1 (by decide)

theorem kind_rng {k : IntKind} {n : Int} (h : (Lit.int k n).wf = true) : k.min ≤ n ∧ n ≤ k.max := by
  have h' : (decide (k.min ≤ n) && decide (n ≤ k.max)) = true := h
  simpa only [Bool.and_eq_true, decide_eq_true_eq] using h'

theorem counts_any (f y s r : Int) (w : World) (_wf : (Lit.int .i64 f).wf = true) (wy : (Lit.int .u32 y).wf = true) (ws : (Lit.int .i32 s).wf = true) (wr : (Lit.int .u16 r).wf = true) :
    Calls Try.prog 7 #[Lp f y s r] w fun e w' => e = .returned (.bool true) ∧ Below w.heap.size w w' := by
  obtain ⟨y0, y1⟩ : 0 ≤ y ∧ y ≤ 4294967295 := kind_rng wy
  obtain ⟨s0, s1⟩ : -2147483648 ≤ s ∧ s ≤ 2147483647 := kind_rng ws
  obtain ⟨r0, r1⟩ : 0 ≤ r ∧ r ≤ 65535 := kind_rng wr
  obtain ⟨f0, f1⟩ := mod40 f
  by_cases hz : s = 0
  · subst hz; exact counts_zero f y r w y0 y1
  · by_cases hp : 0 < s
    · obtain ⟨p0, p1⟩ := prod_rng y s hp (by omega)
      have q0 := Int.emod_nonneg r (show s ≠ 0 by omega)
      have q1 := Int.emod_lt_of_pos r hp
      have q2 : r % s ≤ r := emod_low r s r0 hp
      exact counts_pos f y s r w y0 y1 hp s1 r0 r1 f0 f1 p0 p1 q0 (by omega) _ (Lib.hid (cnt_pos _ _ _ _ hp s1 p0 p1 q0 q1)) (Lib.hid (cnt_back _ _ _ _ hp s1 p0 q0)) (Lib.hid (if_neg hz)) (Lib.hid (tells _ _ _))
    · obtain ⟨z, rfl⟩ : ∃ z, s = -z := ⟨-s, by omega⟩
      have z0 : 0 < z := by omega
      obtain ⟨p0, p1⟩ := prod_rng y z z0 (by omega)
      have q0 := Int.emod_nonneg r (show z ≠ 0 by omega)
      have q1 := Int.emod_lt_of_pos r z0
      have q2 : r % z ≤ r := emod_low r z r0 z0
      exact counts_neg f y z r w y0 y1 z0 (by omega) r0 r1 f0 f1 p0 p1 q0 (by omega) _ (Lib.hid (cnt_neg _ _ _ _ z0 (by omega) p0 p1 q0 q1)) (Lib.hid (cnt_nback _ _ _ _ z0 (by omega) p0 q0)) (Lib.hid (if_neg hz)) (Lib.hid (tellsN _ _ _))

section
open Go.Joins Go.Deep
variable {H : Type} {enc : TypeId × Value → H} {w : World} {base : Nat} {spare : Nat → Bool} {held : Bool}
abbrev Dlp (f y s r : Int) : DataW H := .agg [.lit (.int .i64 f), .lit (.int .u32 y), .lit (.int .i32 s), .lit (.int .u16 r)]
theorem open_lp {r : Reach} {b0 : Nat} {v : Value} {d : DataW H} {p : List MemPlace} (hv : Value.okWide Try.prog w r b0 45 v) (h : DataW.Trod enc Try.prog w base spare held 45 v d p) :
    ∃ a b c e : Int, v = Lp a b c e ∧ d = Dlp a b c e ∧ p = [] ∧ (Lit.int .i64 a).wf = true ∧ (Lit.int .u32 b).wf = true ∧ (Lit.int .i32 c).wf = true ∧ (Lit.int .u16 e).wf = true := by
  obtain ⟨v0, v1, v2, v3, y0, y1, y2, y3, m, rfl, rfl, rfl, t0, t1, t2, t3⟩ := open_agg4 Try.underlying45 (by kernel_rfl) (by kernel_rfl) hv h
  obtain ⟨a, e0, rfl, w0⟩ := DataW.trod_int Try.underlying2 t0
  obtain ⟨b, e1, rfl, w1⟩ := DataW.trod_int Try.underlying42 t1
  obtain ⟨c, e2, rfl, w2⟩ := DataW.trod_int Try.underlying21 t2
  obtain ⟨e, e3, rfl, w3⟩ := DataW.trod_int Try.underlying43 t3
  simp only [List.cons.injEq, and_true] at e0 e1 e2 e3
  subst e0 e1 e2 e3
  exact ⟨a, b, c, e, rfl, rfl, rfl, w0, w1, w2, w3⟩
theorem shut_lp {a b c e : Int} (wa : (Lit.int .i64 a).wf = true) (wb : (Lit.int .u32 b).wf = true) (wc : (Lit.int .i32 c).wf = true) (we : (Lit.int .u16 e).wf = true) :
    DataW.Trod enc Try.prog w base spare held 45 (Lp a b c e) (Dlp a b c e) [] := by
  have h := shut_agg4 (enc := enc) (w := w) (base := base) (spare := spare) (held := held) Try.underlying45 (by kernel_rfl) (by kernel_rfl)
    (v0 := .int .i64 a) (v1 := .int .u32 b) (v2 := .int .i32 c) (v3 := .int .u16 e) (y0 := (.lit (.int .i64 a), [])) (y1 := (.lit (.int .u32 b), [])) (y2 := (.lit (.int .i32 c), [])) (y3 := (.lit (.int .u16 e), []))
    ⟨1, by simp [DataW.trod, Try.underlying2, wa]⟩ ⟨1, by simp [DataW.trod, Try.underlying42, wb]⟩ ⟨1, by simp [DataW.trod, Try.underlying21, wc]⟩ ⟨1, by simp [DataW.trod, Try.underlying43, we]⟩
  exact h
end

set_option maxRecDepth 100000 in
theorem counts_lifted (os : Os) (started : os.Started) (H : Type) (enc : TypeId × Value → H) :
    ReturnsInHanded {} Try.checked os 7 .any (Rows.numCountsSpec.pre6 enc Try.prog Try.f7 Rows.numCountsRow.domain false) (Rows.numCountsSpec.post enc Try.prog Try.f7 false true false false) := by
  refine returnsInHanded_of_change (C := Try.checked) own started (by kernel_rfl) Try.func7
    (ChangeSpec.witness6 (enc := enc) (C := Try.checked) false ⟨#[], #[.agg #[.int .i64 0, .int .u32 0, .int .i32 0, .int .u16 0]], []⟩ 8 (by kernel_rfl) (by kernel_rfl) (by kernel_rfl) (by kernel_rfl)) ?_
  intro W base args ds gs before hval0 hW _ _
  have hval : ∀ (j : Nat) t v, Try.f7.params[j]? = some t → args[j]? = some v → Value.okWide Try.prog W .any base t v := hval0
  have hW' := hW
  obtain ⟨p, q, hA0, hV, rfl, hfz, hnd⟩ := hW
  have hA : DataW.TrodAll enc Try.prog W 0 (fun _ => true) true Try.f7.params.toList args.toList ds p := hA0
  rw [Try.params7] at hA hval
  obtain ⟨v0, vs0, d0, ds0, p0, q0, hargs, rfl, rfl, h0, r0⟩ := trodAll_cons hA
  obtain ⟨rfl, rfl, rfl⟩ := trodAll_nil r0
  obtain rfl : args = #[v0] := by cases args; simp_all
  obtain ⟨rfl, rfl⟩ := trodVars_none hV
  obtain ⟨a0a, a0b, a0c, a0d, rfl, rfl, rfl, w0a, w0b, w0c, w0d⟩ := open_lp (hval 0 45 v0 rfl rfl) h0
  clear hA0 hval0
  simp only [List.append_nil] at hW'
  refine (counts_any a0a a0b a0c a0d W w0a w0b w0c w0d).mono fun e W' ⟨he, hb⟩ => ?_
  subst he
  exact ⟨_, rfl, _, _, _, [], [], [], hW', trodAll_cons_mk (shut_bool Try.underlying4 _) trodAll_mk0, (trodAll_cons_mk (shut_lp w0a w0b w0c w0d) trodAll_mk0), rfl, hb.frame _, fun h => by cases h⟩

theorem counts_holds : Rows.NumCountsSaid :=
  OpenClaim.holds_of_wide 7 Try.f7 rfl rfl rfl rfl rfl rfl rfl ⟨rfl, rfl, rfl, rfl, rfl⟩ rfl rfl rfl rfl rfl (by kernel_rfl) Try.func7 (by kernel_rfl)
    (of_decide_eq_true (by kernel_rfl)) (by unfold Func.isWrapper; first | (rw [if_pos (by decide +kernel)]; kernel_rfl) | (rw [if_neg (by decide +kernel)]; exact ⟨rfl, rfl⟩))
    (fun os started H enc _ => counts_lifted os started H enc)
end Go.Proofs.Yticlejfonicfcaa
