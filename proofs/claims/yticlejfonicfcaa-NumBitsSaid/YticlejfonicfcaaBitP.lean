/- selkielaw02.NumBits answers true for every three numbers and leaves them as they were; no condition. -/
import Derived.Test.YticlejfonicfcaaBitMin
import Derived.Test.YticlejfonicfcaaBitHi
import Derived.Test.YticlejfonicfcaaBitLo
import Derived.Test.YticlejfonicfcaaBitNeg
import Derived.Test.YticlejfonicfcaaBitTop
import Derived.Test.YticlejfonicfcaaBitMid
namespace Go.Proofs.Yticlejfonicfcaa
open Go.ChangeShapes Go.WideShapes Go.ChangeAt Go.RowKit

theorem do9 (a n : Int) : doV 9 a n = leftV a n := rfl
theorem do10 (a n : Int) : doV 10 a n = leftV a (wrap64 (-n)) := rfl

theorem bitsLaw_any (a b n : Int) (w : World) (wa : (Lit.int .i64 a).wf = true) (_wb : (Lit.int .i64 b).wf = true) (wn : (Lit.int .i64 n).wf = true) :
    Calls Try.prog 6 #[I a, I b, I n] w fun e w' => e = .returned (.bool true) ∧ Below w.heap.size w w' := by
  have a0 := i64_lo wa
  have a1 := i64_hi wa
  have n0 := i64_lo wn
  have n1 := i64_hi wn
  have x0 := Lib.hid (show doV 8 a a = 0 from law_xor_self a)
  have x1 := Lib.hid (show doV 6 a b = bits .and .i64 a b from rfl)
  have x2 := Lib.hid (show doV 7 a b = bits .or .i64 a b from rfl)
  have x3 := Lib.hid (show doV 1 (bits .and .i64 a b) (bits .or .i64 a b) = wrap64 (a + b) from law_share a b)
  have x4 := Lib.hid (show doV 1 a b = wrap64 (a + b) from rfl)
  have x5 := Lib.hid (show doV 8 a b = bits .xor .i64 a b from rfl)
  have x6 := Lib.hid (show doV 8 (bits .xor .i64 a b) b = a from law_xor_back a b a0 a1)
  have x7 := Lib.hid (show doV 2 (bits .or .i64 a b) (bits .and .i64 a b) = bits .xor .i64 a b from law_less a b)
  have z := Lib.hid (show doV 9 a 0 = a from leftV_zero a a0 a1)
  have s1 := Lib.hid (show doV 9 a n = leftV a n from rfl)
  have s2 := Lib.hid (show doV 10 a (wrap64 (-n)) = leftV a n by show leftV a (wrap64 (-wrap64 (-n))) = _; rw [neg_neg n n0 n1])
  by_cases hm : n = -9223372036854775808
  · subst hm
    exact bitsMin a b _ _ _ _ w (Lib.hid ((do9 a _).trans (leftV_far a (-9223372036854775808) (by decide) (by decide) (.inr (by decide))))) (Lib.hid ((do10 a _).trans (leftV_far a _ (w64_rng _).1 (w64_rng _).2 (.inr (by decide +kernel))))) z x0 x1 x2 x3 x4 x5 x6 x7
  · have g0 : (n != -9223372036854775808) = true := by simpa using hm
    by_cases h64 : 64 ≤ n
    · exact bitsHi a b n _ _ _ _ _ w g0 (by simpa using h64) (by simp; omega) (by simp; omega) s1 s2 (Lib.hid (leftV_far a n n0 n1 (.inl h64)))
        (Lib.hid (leftV_far a _ (w64_rng _).1 (w64_rng _).2 (.inr (by unfold wrap64; omega)))) z x0 x1 x2 x3 x4 x5 x6 x7
    · by_cases hl : n ≤ -64
      · exact bitsLo a b n _ _ _ _ _ w g0 (by simp; omega) (by simpa using hl) (by simp; omega) s1 s2 (Lib.hid (leftV_far a n n0 n1 (.inr hl)))
          (Lib.hid (leftV_far a _ (w64_rng _).1 (w64_rng _).2 (.inl (by unfold wrap64; omega)))) z x0 x1 x2 x3 x4 x5 x6 x7
      · by_cases hp : 0 ≤ n
        · by_cases h63 : n < 63
          · exact bitsMid a b n _ _ _ _ _ _ w g0 (by simp; omega) (by simp; omega) (by simpa using hp) (by simpa using h63) (IntWalk.i64_in _ (by omega)) s1 s2 z
              (Lib.hid (show doV 9 (leftV a n) 1 = leftV a (n + 1) from leftV_one a n hp h63)) (Lib.hid rfl) x0 x1 x2 x3 x4 x5 x6 x7
          · exact bitsTop a b n _ _ _ _ _ w g0 (by simp; omega) (by simp; omega) (by simpa using hp) (by simpa using h63) s1 s2 z x0 x1 x2 x3 x4 x5 x6 x7
        · exact bitsNeg a b n _ _ _ _ _ w g0 (by simp; omega) (by simp; omega) (by simpa using hp) s1 s2 z x0 x1 x2 x3 x4 x5 x6 x7

set_option maxRecDepth 100000 in
theorem bitsLaw_lifted (os : Os) (started : os.Started) (H : Type) (enc : TypeId × Value → H) :
    ReturnsInHanded {} Try.checked os 6 .any (Rows.numBitsSpec.pre6 enc Try.prog Try.f6 Rows.numBitsRow.domain false) (Rows.numBitsSpec.post enc Try.prog Try.f6 false true false false) := by
  refine returnsInHanded_of_change (C := Try.checked) own started (by kernel_rfl) Try.func6
    (ChangeSpec.witness6 (enc := enc) (C := Try.checked) false ⟨#[], #[.int .i64 0, .int .i64 0, .int .i64 0], []⟩ 8 (by kernel_rfl) (by kernel_rfl) (by kernel_rfl) (by kernel_rfl)) ?_
  intro W base args ds gs before hval0 hW _ _
  have hval : ∀ (j : Nat) t v, Try.f6.params[j]? = some t → args[j]? = some v → Value.okWide Try.prog W .any base t v := hval0
  have hW' := hW
  obtain ⟨p, q, hA0, hV, rfl, hfz, hnd⟩ := hW
  have hA : DataW.TrodAll enc Try.prog W 0 (fun _ => true) true Try.f6.params.toList args.toList ds p := hA0
  rw [Try.params6] at hA hval
  obtain ⟨v0, vs0, d0, ds0, p0, q0, hargs, rfl, rfl, h0, r0⟩ := trodAll_cons hA
  obtain ⟨v1, vs1, d1, ds1, p1, q1, rfl, rfl, rfl, h1, r1⟩ := trodAll_cons r0
  obtain ⟨v2, vs2, d2, ds2, p2, q2, rfl, rfl, rfl, h2, r2⟩ := trodAll_cons r1
  obtain ⟨rfl, rfl, rfl⟩ := trodAll_nil r2
  obtain rfl : args = #[v0, v1, v2] := by cases args; simp_all
  obtain ⟨rfl, rfl⟩ := trodVars_none hV
  obtain ⟨a0, rfl, rfl, rfl, w0⟩ := open_int Try.underlying2 (hval 0 2 v0 rfl rfl) h0
  obtain ⟨a1, rfl, rfl, rfl, w1⟩ := open_int Try.underlying2 (hval 1 2 v1 rfl rfl) h1
  obtain ⟨a2, rfl, rfl, rfl, w2⟩ := open_int Try.underlying2 (hval 2 2 v2 rfl rfl) h2
  clear hA0 hval0
  simp only [List.append_nil] at hW'
  refine (bitsLaw_any a0 a1 a2 W w0 w1 w2).mono fun e W' ⟨he, hb⟩ => ?_
  subst he
  exact ⟨_, rfl, _, _, _, [], [], [], hW', trodAll_cons_mk (shut_bool Try.underlying4 _) trodAll_mk0, (trodAll_cons_mk (shut_int Try.underlying2 w0) (trodAll_cons_mk (shut_int Try.underlying2 w1) (trodAll_cons_mk (shut_int Try.underlying2 w2) trodAll_mk0))), rfl, hb.frame _, fun h => by cases h⟩

theorem bitsLaw_holds : Rows.NumBitsSaid :=
  OpenClaim.holds_of_wide 6 Try.f6 rfl rfl rfl rfl rfl rfl rfl ⟨rfl, rfl, rfl, rfl, rfl⟩ rfl rfl rfl rfl rfl (by kernel_rfl) Try.func6 (by kernel_rfl)
    (of_decide_eq_true (by kernel_rfl)) (by unfold Func.isWrapper; first | (rw [if_pos (by decide +kernel)]; kernel_rfl) | (rw [if_neg (by decide +kernel)]; exact ⟨rfl, rfl⟩))
    (fun os started H enc _ => bitsLaw_lifted os started H enc)
end Go.Proofs.Yticlejfonicfcaa
