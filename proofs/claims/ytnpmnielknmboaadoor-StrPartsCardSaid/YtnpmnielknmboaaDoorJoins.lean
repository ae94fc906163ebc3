/- The arguments of this seat's laws: strings, slices of strings, two structs by value, opened to their fields. -/
import Derived.Test.YtnpmnielknmboaaDoorLaid
import Derived.Test.YtnpmnielknmboaaDoorJoin
import Derived.Lib.SmallJoins
import Derived.SliceStrings
namespace Go.Proofs.YtnpmnielknmboaaDoor
open Go.Joins Go.ChangeShapes Go.WideShapes Go.ChangeAt Go.RowKit Go.ChangeMaps Go.Deep

theorem plain_at {w : World} {a : Addr} {v : Value} (h : w.cell? a = some v) : a = ⟨a.block, a.off, none⟩ := by
  have := World.cell?_spot h
  cases a
  simp_all
theorem add_at (b o i : Nat) : (⟨b, o, none⟩ : Addr).add i = ⟨b, o + i, none⟩ := by unfold Addr.add; split <;> simp_all
theorem add_none (a : Addr) : a.add 0 = a := by unfold Addr.add; simp

section
variable {H : Type} {enc : TypeId × Value → H} {w : World} {base : Nat} {spare : Nat → Bool} {held : Bool}

/-- A slice of strings, nil let in. -/
theorem strs_of {fuel : Nat} {v : Value} {x : DataW H × List MemPlace} (h : DataW.trod enc Tryd.prog w base (fun _ => true) held fuel 22 [v] = some x) (hlt : ∀ y ∈ x.2, y.block < w.heap.size) :
    ∃ xs : List ByteArray, Strs w v xs := by
  rcases open_strings Tryd.underlying22 Tryd.underlying9 (by kernel_rfl) h with ⟨hcs, hx⟩ | ⟨a, len, cap, ss, hcs, _, hl, hm, hz, hx, hcell, hws⟩
  · simp only [List.cons.injEq, and_true] at hcs
    exact ⟨[], .inl ⟨_, _, hcs, rfl⟩⟩
  · simp only [List.cons.injEq, and_true] at hcs
    simp only [if_true] at hz
    subst hcs
    rcases Nat.eq_zero_or_pos len with h0 | h0
    · subst h0
      exact ⟨[], .inl ⟨_, _, rfl, rfl⟩⟩
    · have ha := plain_at (hcell 0 (by omega))
      have ha0 : a = ⟨a.block, a.off, none⟩ := by
        rw [add_none] at ha
        exact ha
      have hll : (ss.take len).length = len := by rw [List.length_take]; omega
      have hbk : a.block < w.heap.size := by
        rw [hx] at hlt
        exact hlt (.cell a.block a.off) (by
          rw [ha0]
          exact MemPlace.mem_row.2 ⟨0, by omega, by simp⟩)
      refine ⟨ss.take len, .inr ⟨a.block, a.off, cap, by rw [hll, ← ha0], by rw [hll]; exact h0, hbk, by rw [hll]; exact hl, fun j y hj => ?_⟩⟩
      have hj' : j < len := by
        have := (List.getElem?_eq_some_iff.1 hj).1
        omega
      have hc := hcell j (by omega)
      rw [ha0, add_at] at hc
      rw [hc]
      rw [List.getElem?_take_of_lt hj'] at hj
      simp [List.getD, hj]

/-- A struct of five fields of one cell each, by value: its fields, each as it reads. -/
theorem five {P : Program} {r : Reach} {b0 : Nat} {t : TypeId} {f0 f1 f2 f3 f4 : Field} {v : Value} {d : DataW H} {p : List MemPlace} (hs : P.underlying t = some (.struct #[f0, f1, f2, f3, f4]))
    (hone : oneCellFields P #[f0, f1, f2, f3, f4] = true) (hC : P.cellsOf t = 5) (hv : Value.okWide P w r b0 t v) (h : DataW.Trod enc P w base spare held t v d p) :
    ∃ (u0 u1 u2 u3 u4 : Value) (y0 y1 y2 y3 y4 : DataW H × List MemPlace) (n : Nat), v = .agg #[u0, u1, u2, u3, u4] ∧ (∀ z ∈ y3.2, z ∈ p) ∧
      DataW.trod enc P w base spare held n f0.type [u0] = some y0 ∧ DataW.trod enc P w base spare held n f1.type [u1] = some y1 ∧ DataW.trod enc P w base spare held n f2.type [u2] = some y2 ∧
      DataW.trod enc P w base spare held n f3.type [u3] = some y3 ∧ DataW.trod enc P w base spare held n f4.type [u4] = some y4 := by
  obtain ⟨cs, rfl, hsz⟩ := okWide_struct hs hv
  obtain ⟨ls⟩ := cs
  obtain ⟨fuel, hf⟩ := h
  obtain ⟨ys, n, _, hx, _, hlen, hg⟩ := DataW.trod_struct hs hf
  have hl : ls.length = 5 := hsz.trans hC
  obtain ⟨u0, u1, u2, u3, u4, rfl⟩ : ∃ a b c e f, ls = [a, b, c, e, f] := by
    match ls, hl with
    | [a, b, c, e, f], _ => exact ⟨a, b, c, e, f, rfl⟩
  obtain ⟨y0, y1, y2, y3, y4, rfl⟩ : ∃ a b c e f, ys = [a, b, c, e, f] := by
    match ys, hlen with
    | [a, b, c, e, f], _ => exact ⟨a, b, c, e, f, rfl⟩
  have go : ∀ (j : Nat) f, (#[f0, f1, f2, f3, f4] : Array Field)[j]? = some f → DataW.trod enc P w base spare held n f.type (List.take 1 (List.drop j [u0, u1, u2, u3, u4])) = [y0, y1, y2, y3, y4][j]? := by
    intro j f hj
    have h1 := hg j f hj
    obtain ⟨ho, hk⟩ := hone_of hone j f hj
    rw [ho, hk] at h1
    simpa [Value.cells] using h1
  simp only [Prod.mk.injEq] at hx
  refine ⟨u0, u1, u2, u3, u4, y0, y1, y2, y3, y4, n, rfl, fun z hz => ?_, go 0 f0 rfl, go 1 f1 rfl, go 2 f2 rfl, go 3 f3 rfl, go 4 f4 rfl⟩
  rw [hx.2]
  simp [hz]

set_option maxRecDepth 100000 in
/-- A string, a number, a string, a slice of strings and a number, by value. -/
theorem open_cop {r : Reach} {b0 : Nat} {v : Value} {d : DataW H} {p : List MemPlace} (hv : Value.okWide Tryd.prog w r b0 24 v) (h : DataW.Trod enc Tryd.prog w base (fun _ => true) held 24 v d p) (hlt : ∀ y ∈ p, y.block < w.heap.size) :
    ∃ (S : ByteArray) (n : Int) (B : ByteArray) (l : Value) (m : Int) (xs : List ByteArray), v = .agg #[.string S, .int .i64 n, .string B, l, .int .i64 m] ∧ Strs w l xs ∧ (Lit.int .i64 n).wf = true ∧ (Lit.int .i64 m).wf = true := by
  obtain ⟨u0, u1, u2, u3, u4, y0, y1, y2, y3, y4, n, rfl, hp, t0, t1, t2, t3, t4⟩ := five Tryd.underlying24 (by kernel_rfl) (by kernel_rfl) hv h
  obtain ⟨S, e0, rfl, _⟩ := DataW.trod_string Tryd.underlying9 t0
  obtain ⟨k, e1, rfl, w1⟩ := DataW.trod_int Tryd.underlying2 t1
  obtain ⟨B, e2, rfl, _⟩ := DataW.trod_string Tryd.underlying9 t2
  obtain ⟨m, e4, rfl, w4⟩ := DataW.trod_int Tryd.underlying3 t4
  obtain ⟨xs, hxs⟩ := strs_of t3 (fun y hy => hlt y (hp y hy))
  simp only [List.cons.injEq, and_true] at e0 e1 e2 e4
  subst e0 e1 e2 e4
  exact ⟨S, k, B, u3, m, xs, rfl, hxs, w1, w4⟩

set_option maxRecDepth 100000 in
/-- A string, two small numbers and a string, by value. -/
theorem open_bak {r : Reach} {b0 : Nat} {v : Value} {d : DataW H} {p : List MemPlace} (hv : Value.okWide Tryd.prog w r b0 40 v) (h : DataW.Trod enc Tryd.prog w base spare held 40 v d p) :
    ∃ (S : ByteArray) (c n : Int) (B : ByteArray), v = .agg #[.string S, .int .u16 c, .int .u8 n, .string B] ∧ (Lit.int .u16 c).wf = true ∧ (Lit.int .u8 n).wf = true := by
  obtain ⟨u0, u1, u2, u3, y0, y1, y2, y3, m, rfl, rfl, rfl, t0, t1, t2, t3⟩ := open_agg4 Tryd.underlying40 (by kernel_rfl) (by kernel_rfl) hv h
  obtain ⟨S, e0, rfl, _⟩ := DataW.trod_string Tryd.underlying9 t0
  obtain ⟨c, e1, rfl, w1⟩ := DataW.trod_int Tryd.underlying38 t1
  obtain ⟨n, e2, rfl, w2⟩ := DataW.trod_int Tryd.underlying5 t2
  obtain ⟨B, e3, rfl, _⟩ := DataW.trod_string Tryd.underlying9 t3
  simp only [List.cons.injEq, and_true] at e0 e1 e2 e3
  subst e0 e1 e2 e3
  exact ⟨S, c, n, B, rfl, w1, w2⟩

set_option maxRecDepth 100000 in
theorem open_strs {r : Reach} {b0 : Nat} {v : Value} {d : DataW H} {p : List MemPlace} (hv : Value.okWide Tryd.prog w r b0 22 v) (h : DataW.Trod enc Tryd.prog w base (fun _ => true) held 22 v d p) (hlt : ∀ y ∈ p, y.block < w.heap.size) :
    ∃ xs : List ByteArray, Strs w v xs := by
  obtain ⟨a0, len, cap, rfl⟩ := okWide_slice Tryd.underlying22 hv
  obtain ⟨fuel, hf⟩ := h
  exact strs_of (x := (d, p)) hf hlt
end
end Go.Proofs.YtnpmnielknmboaaDoor
