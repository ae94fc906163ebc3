/- A value of the program, and a number with its base, that come in by value: how they read, opened to their fields and shut again; what an int64 and a byte may be. -/
import Derived.Test.YtpmhbnfiidmcmaaDoorLaid
import Derived.Lib.SmallJoins
namespace Go.Proofs.YtpmhbnfiidmcmaaDoor
open Go.Joins Go.ChangeShapes Go.WideShapes Go.ChangeAt Go.RowKit Go.ChangeMaps Go.Deep

section
variable {H : Type} {enc : TypeId × Value → H} {w : World} {base : Nat} {spare : Nat → Bool} {held : Bool}

abbrev Dval (k n : Int) (s : ByteArray) : DataW H := .agg [.lit (.int .i64 k), .lit (.int .i64 n), .lit (.string s.data.toList)]

theorem open_val {r : Reach} {b0 : Nat} {v : Value} {d : DataW H} {p : List MemPlace} (hv : Value.okWide Tryd.prog w r b0 28 v) (h : DataW.Trod enc Tryd.prog w base spare held 28 v d p) :
    ∃ (k n : Int) (s : ByteArray), v = V k n s ∧ d = Dval k n s ∧ p = [] ∧ (Lit.int .i64 k).wf = true ∧ (Lit.int .i64 n).wf = true ∧ s.size ≤ maxLen := by
  obtain ⟨v0, v1, v2, y0, y1, y2, m, rfl, rfl, rfl, t0, t1, t2⟩ := open_agg3 Tryd.underlying28 (by kernel_rfl) (by kernel_rfl) hv h
  obtain ⟨k, e0, rfl, w0⟩ := DataW.trod_int Tryd.underlying3 t0
  obtain ⟨n, e1, rfl, w1⟩ := DataW.trod_int Tryd.underlying2 t1
  obtain ⟨s, e2, rfl, w2⟩ := DataW.trod_string Tryd.underlying9 t2
  simp only [List.cons.injEq, and_true] at e0 e1 e2
  subst e0 e1 e2
  exact ⟨k, n, s, rfl, rfl, rfl, w0, w1, w2⟩

theorem shut_val {k n : Int} {s : ByteArray} (wk : (Lit.int .i64 k).wf = true) (wn : (Lit.int .i64 n).wf = true) (ws : s.size ≤ maxLen) :
    DataW.Trod enc Tryd.prog w base spare held 28 (V k n s) (Dval k n s) [] := by
  have h := shut_agg3 (enc := enc) (w := w) (base := base) (spare := spare) (held := held) Tryd.underlying28 (by kernel_rfl) (by kernel_rfl)
    (v0 := .int .i64 k) (v1 := .int .i64 n) (v2 := .string s) (y0 := (.lit (.int .i64 k), [])) (y1 := (.lit (.int .i64 n), [])) (y2 := (.lit (.string s.data.toList), []))
    ⟨1, by simp [DataW.trod, Tryd.underlying3, wk]⟩ ⟨1, by simp [DataW.trod, Tryd.underlying2, wn]⟩ ⟨1, by simp [DataW.trod, Tryd.underlying9, ws]⟩
  exact h

abbrev B4 (n b : Int) (c m : Bool) : Value := .agg #[.int .i64 n, .int .u8 b, .bool c, .bool m]
abbrev Dbas (n b : Int) (c m : Bool) : DataW H := .agg [.lit (.int .i64 n), .lit (.int .u8 b), .lit (.bool c), .lit (.bool m)]
theorem open_bas {r : Reach} {b0 : Nat} {v : Value} {d : DataW H} {p : List MemPlace} (hv : Value.okWide Tryd.prog w r b0 39 v) (h : DataW.Trod enc Tryd.prog w base spare held 39 v d p) :
    ∃ (n b : Int) (c m : Bool), v = B4 n b c m ∧ d = Dbas n b c m ∧ p = [] ∧ (Lit.int .i64 n).wf = true ∧ (Lit.int .u8 b).wf = true := by
  obtain ⟨v0, v1, v2, v3, y0, y1, y2, y3, m, rfl, rfl, rfl, t0, t1, t2, t3⟩ := open_agg4 Tryd.underlying39 (by kernel_rfl) (by kernel_rfl) hv h
  obtain ⟨n, e0, rfl, w0⟩ := DataW.trod_int Tryd.underlying2 t0
  obtain ⟨b, e1, rfl, w1⟩ := DataW.trod_int Tryd.underlying5 t1
  obtain ⟨c, e2, rfl⟩ := DataW.trod_bool Tryd.underlying4 t2
  obtain ⟨x, e3, rfl⟩ := DataW.trod_bool Tryd.underlying4 t3
  simp only [List.cons.injEq, and_true] at e0 e1 e2 e3
  subst e0 e1 e2 e3
  exact ⟨n, b, c, x, rfl, rfl, rfl, w0, w1⟩
theorem shut_bas {n b : Int} {c m : Bool} (wn : (Lit.int .i64 n).wf = true) (wb : (Lit.int .u8 b).wf = true) :
    DataW.Trod enc Tryd.prog w base spare held 39 (B4 n b c m) (Dbas n b c m) [] := by
  have h := shut_agg4 (enc := enc) (w := w) (base := base) (spare := spare) (held := held) Tryd.underlying39 (by kernel_rfl) (by kernel_rfl)
    (v0 := .int .i64 n) (v1 := .int .u8 b) (v2 := .bool c) (v3 := .bool m) (y0 := (.lit (.int .i64 n), [])) (y1 := (.lit (.int .u8 b), [])) (y2 := (.lit (.bool c), [])) (y3 := (.lit (.bool m), []))
    ⟨1, by simp [DataW.trod, Tryd.underlying2, wn]⟩ ⟨1, by simp [DataW.trod, Tryd.underlying5, wb]⟩ ⟨1, by simp [DataW.trod, Tryd.underlying4]⟩ ⟨1, by simp [DataW.trod, Tryd.underlying4]⟩
  exact h
end

theorem i64_lo {n : Int} (h : (Lit.int .i64 n).wf = true) : -9223372036854775808 ≤ n := by
  have h' : (decide (IntKind.i64.min ≤ n) && decide (n ≤ IntKind.i64.max)) = true := h
  simp only [Bool.and_eq_true, decide_eq_true_eq] at h'
  exact h'.1
theorem i64_hi {n : Int} (h : (Lit.int .i64 n).wf = true) : n ≤ 9223372036854775807 := by
  have h' : (decide (IntKind.i64.min ≤ n) && decide (n ≤ IntKind.i64.max)) = true := h
  simp only [Bool.and_eq_true, decide_eq_true_eq] at h'
  exact h'.2
theorem u8_lo {n : Int} (h : (Lit.int .u8 n).wf = true) : 0 ≤ n := by
  have h' : (decide (IntKind.u8.min ≤ n) && decide (n ≤ IntKind.u8.max)) = true := h
  simp only [Bool.and_eq_true, decide_eq_true_eq] at h'
  exact h'.1
theorem u8_hi {n : Int} (h : (Lit.int .u8 n).wf = true) : n ≤ 255 := by
  have h' : (decide (IntKind.u8.min ≤ n) && decide (n ≤ IntKind.u8.max)) = true := h
  simp only [Bool.and_eq_true, decide_eq_true_eq] at h'
  exact h'.2
end Go.Proofs.YtpmhbnfiidmcmaaDoor
