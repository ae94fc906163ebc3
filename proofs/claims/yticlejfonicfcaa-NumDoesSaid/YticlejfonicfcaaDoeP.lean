/- selkielaw02.NumDoes answers true for every operator and every three numbers and leaves them as they were; no condition. -/
import Derived.Test.YticlejfonicfcaaRefD
import Derived.Test.YticlejfonicfcaaCouP
namespace Go.Proofs.Yticlejfonicfcaa
open Go.ChangeShapes Go.WideShapes Go.ChangeAt Go.RowKit Go.Sort

abbrev Ak (o a b c : Int) : Value := .agg #[I o, I a, I b, I c]

set_option maxHeartbeats 2000000 in
set_option maxRecDepth 100000 in
theorem does_law (o a b c x e1 y e2 z e3 : Int) (w : World)
    (h1 : ∀ w, Calls Try.prog 10 #[I o, I a, I b] w fun e w' => e = .returned (.tuple #[I x, I e1]) ∧ Below w.heap.size w w')
    (h2 : ∀ w, Calls Try.prog 11 #[I o, I a, I b] w fun e w' => e = .returned (.tuple #[I x, I e1]) ∧ Below w.heap.size w w')
    (h3 : ∀ w, Calls Try.prog 12 #[I o, I a] w fun e w' => e = .returned (.tuple #[I y, I e2]) ∧ w = w')
    (h4 : ∀ w, Calls Try.prog 13 #[I o, I a] w fun e w' => e = .returned (.tuple #[I y, I e2]) ∧ w = w')
    (h5 : ∀ w, Calls Try.prog 14 #[I a, I b, I c] w fun e w' => e = .returned (.tuple #[.int .u64 z, I e3]) ∧ w = w')
    (h6 : ∀ w, Calls Try.prog 15 #[I a, I b, I c] w fun e w' => e = .returned (.tuple #[.int .u64 z, I e3]) ∧ w = w') :
    Calls Try.prog 3 #[Ak o a b c] w fun e w' => e = .returned (.bool true) ∧ Below w.heap.size w w' := by
  have H1 := Lib.hid h1
  have H2 := Lib.hid h2
  have H3 := Lib.hid h3
  have H4 := Lib.hid h4
  have H5 := Lib.hid h5
  have H6 := Lib.hid h6
  clear h1 h2 h3 h4 h5 h6
  go_enter Try.func3, Try.ntmps3
  go_wp2_with fail
  refine (alive_any _).mono ?_; rintro e w0 ⟨rfl, c0⟩
  have B := Lib.hid (boxB c0)
  obtain ⟨k0, k1, k2, k3⟩ := (four_new w _ _ _ _ _).below c0
  clear c0
  go_wp2_with fail
  go_region
  go_wp2_with fail
  clear k0 k1 k2 k3
  refine (H1.out _).mono ?_; rintro e w1 ⟨rfl, c1⟩
  replace c1 := Lib.hid (thenB B.out.drew c1)
  go_wp2_with fail
  refine (H2.out _).mono ?_; rintro e w2 ⟨rfl, c2⟩
  replace c2 := Lib.hid (thenB c1.out c2)
  clear c1
  go_wp2_with fail
  refine (H3.out _).mono ?_; rintro e w3 ⟨rfl, rfl⟩
  go_wp2_with fail
  refine (H4.out _).mono ?_; rintro e w3 ⟨rfl, rfl⟩
  go_wp2_with fail
  refine (H5.out _).mono ?_; rintro e w3 ⟨rfl, rfl⟩
  go_wp2_with fail
  refine (H6.out _).mono ?_; rintro e w3 ⟨rfl, rfl⟩
  go_wp2_with fail
  go_ret
  exact ⟨rfl, c2.out⟩

theorem does_any (o a b c : Int) (w : World) (_wo : (Lit.int .i64 o).wf = true) (wa : (Lit.int .i64 a).wf = true) (wb : (Lit.int .i64 b).wf = true) (wc : (Lit.int .i64 c).wf = true) :
    Calls Try.prog 3 #[Ak o a b c] w fun e w' => e = .returned (.bool true) ∧ Below w.heap.size w w' :=
  does_law o a b c _ _ _ _ _ _ w (do_any o a b) (fun w => refDo_any o a b w (i64_lo wb) (i64_hi wb)) (one_any o a) (fun w => refOne_any o a w (i64_lo wa) (i64_hi wa))
    (fun w => count_any a b c w (i64_lo wc) (i64_hi wc)) (fun w => refCount_any a b c w (i64_lo wc) (i64_hi wc))

section
open Go.Joins Go.Deep
variable {H : Type} {enc : TypeId × Value → H} {w : World} {base : Nat} {spare : Nat → Bool} {held : Bool}
abbrev Dak (o a b c : Int) : DataW H := .agg [.lit (.int .i64 o), .lit (.int .i64 a), .lit (.int .i64 b), .lit (.int .i64 c)]
theorem open_ak {r : Reach} {b0 : Nat} {v : Value} {d : DataW H} {p : List MemPlace} (hv : Value.okWide Try.prog w r b0 23 v) (h : DataW.Trod enc Try.prog w base spare held 23 v d p) :
    ∃ a b c e : Int, v = Ak a b c e ∧ d = Dak a b c e ∧ p = [] ∧ (Lit.int .i64 a).wf = true ∧ (Lit.int .i64 b).wf = true ∧ (Lit.int .i64 c).wf = true ∧ (Lit.int .i64 e).wf = true := by
  obtain ⟨v0, v1, v2, v3, y0, y1, y2, y3, m, rfl, rfl, rfl, t0, t1, t2, t3⟩ := open_agg4 Try.underlying23 (by kernel_rfl) (by kernel_rfl) hv h
  obtain ⟨a, e0, rfl, w0⟩ := DataW.trod_int Try.underlying3 t0
  obtain ⟨b, e1, rfl, w1⟩ := DataW.trod_int Try.underlying2 t1
  obtain ⟨c, e2, rfl, w2⟩ := DataW.trod_int Try.underlying2 t2
  obtain ⟨e, e3, rfl, w3⟩ := DataW.trod_int Try.underlying2 t3
  simp only [List.cons.injEq, and_true] at e0 e1 e2 e3
  subst e0 e1 e2 e3
  exact ⟨a, b, c, e, rfl, rfl, rfl, w0, w1, w2, w3⟩
theorem shut_ak {a b c e : Int} (wa : (Lit.int .i64 a).wf = true) (wb : (Lit.int .i64 b).wf = true) (wc : (Lit.int .i64 c).wf = true) (we : (Lit.int .i64 e).wf = true) :
    DataW.Trod enc Try.prog w base spare held 23 (Ak a b c e) (Dak a b c e) [] := by
  have h := shut_agg4 (enc := enc) (w := w) (base := base) (spare := spare) (held := held) Try.underlying23 (by kernel_rfl) (by kernel_rfl)
    (v0 := .int .i64 a) (v1 := .int .i64 b) (v2 := .int .i64 c) (v3 := .int .i64 e) (y0 := (.lit (.int .i64 a), [])) (y1 := (.lit (.int .i64 b), [])) (y2 := (.lit (.int .i64 c), [])) (y3 := (.lit (.int .i64 e), []))
    ⟨1, by simp [DataW.trod, Try.underlying3, wa]⟩ ⟨1, by simp [DataW.trod, Try.underlying2, wb]⟩ ⟨1, by simp [DataW.trod, Try.underlying2, wc]⟩ ⟨1, by simp [DataW.trod, Try.underlying2, we]⟩
  exact h
end

set_option maxRecDepth 100000 in
theorem does_lifted (os : Os) (started : os.Started) (H : Type) (enc : TypeId × Value → H) :
    ReturnsInHanded {} Try.checked os 3 .any (Rows.numDoesSpec.pre6 enc Try.prog Try.f3 Rows.numDoesRow.domain false) (Rows.numDoesSpec.post enc Try.prog Try.f3 false true false false) := by
  refine returnsInHanded_of_change (C := Try.checked) own started (by kernel_rfl) Try.func3
    (ChangeSpec.witness6 (enc := enc) (C := Try.checked) false ⟨#[], #[.agg #[.int .i64 0, .int .i64 0, .int .i64 0, .int .i64 0]], []⟩ 8 (by kernel_rfl) (by kernel_rfl) (by kernel_rfl) (by kernel_rfl)) ?_
  intro W base args ds gs before hval0 hW _ _
  have hval : ∀ (j : Nat) t v, Try.f3.params[j]? = some t → args[j]? = some v → Value.okWide Try.prog W .any base t v := hval0
  have hW' := hW
  obtain ⟨p, q, hA0, hV, rfl, hfz, hnd⟩ := hW
  have hA : DataW.TrodAll enc Try.prog W 0 (fun _ => true) true Try.f3.params.toList args.toList ds p := hA0
  rw [Try.params3] at hA hval
  obtain ⟨v0, vs0, d0, ds0, p0, q0, hargs, rfl, rfl, h0, r0⟩ := trodAll_cons hA
  obtain ⟨rfl, rfl, rfl⟩ := trodAll_nil r0
  obtain rfl : args = #[v0] := by cases args; simp_all
  obtain ⟨rfl, rfl⟩ := trodVars_none hV
  obtain ⟨a0a, a0b, a0c, a0d, rfl, rfl, rfl, w0a, w0b, w0c, w0d⟩ := open_ak (hval 0 23 v0 rfl rfl) h0
  clear hA0 hval0
  simp only [List.append_nil] at hW'
  refine (does_any a0a a0b a0c a0d W w0a w0b w0c w0d).mono fun e W' ⟨he, hb⟩ => ?_
  subst he
  exact ⟨_, rfl, _, _, _, [], [], [], hW', trodAll_cons_mk (shut_bool Try.underlying4 _) trodAll_mk0, (trodAll_cons_mk (shut_ak w0a w0b w0c w0d) trodAll_mk0), rfl, hb.frame _, fun h => by cases h⟩

theorem does_holds : Rows.NumDoesSaid :=
  OpenClaim.holds_of_wide 3 Try.f3 rfl rfl rfl rfl rfl rfl rfl ⟨rfl, rfl, rfl, rfl, rfl⟩ rfl rfl rfl rfl rfl (by kernel_rfl) Try.func3 (by kernel_rfl)
    (of_decide_eq_true (by kernel_rfl)) (by unfold Func.isWrapper; first | (rw [if_pos (by decide +kernel)]; kernel_rfl) | (rw [if_neg (by decide +kernel)]; exact ⟨rfl, rfl⟩))
    (fun os started H enc _ => does_lifted os started H enc)
end Go.Proofs.Yticlejfonicfcaa
