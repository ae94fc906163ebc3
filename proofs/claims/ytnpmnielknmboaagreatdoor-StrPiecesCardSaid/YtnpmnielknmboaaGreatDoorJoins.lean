/- The arguments of this seat's law: a struct of a string and two places by value, and a slice of numbers. -/
import Derived.Test.YtnpmnielknmboaaGreatDoorLaid
import Derived.Test.YtnpmnielknmboaaGreatDoorPrf2
import Derived.Lib.SmallJoins
import Derived.ChangeSlices
namespace Go.Proofs.YtnpmnielknmboaaGreatDoor
open Go.Joins Go.ChangeShapes Go.WideShapes Go.ChangeAt Go.RowKit Go.ChangeMaps Go.Deep

theorem plain_at {w : World} {a : Addr} {v : Value} (h : w.cell? a = some v) : a = ⟨a.block, a.off, none⟩ := by
  have := World.cell?_spot h
  cases a
  simp_all
theorem add_at (b o i : Nat) : (⟨b, o, none⟩ : Addr).add i = ⟨b, o + i, none⟩ := by unfold Addr.add; split <;> simp_all
theorem add_none (a : Addr) : a.add 0 = a := by unfold Addr.add; simp

section
variable {H : Type} {enc : TypeId × Value → H} {w : World} {base : Nat} {spare : Nat → Bool} {held : Bool}
set_option maxRecDepth 100000 in
theorem open_cut {r : Reach} {b0 : Nat} {v : Value} {d : DataW H} {p : List MemPlace} (hv : Value.okWide Tryz.prog w r b0 23 v) (h : DataW.Trod enc Tryz.prog w base spare held 23 v d p) :
    ∃ (S : ByteArray) (i j : Int), v = .agg #[.string S, .int .i64 i, .int .i64 j] ∧ (Lit.int .i64 i).wf = true ∧ (Lit.int .i64 j).wf = true := by
  obtain ⟨u0, u1, u2, y0, y1, y2, m, rfl, rfl, rfl, t0, t1, t2⟩ := open_agg3 Tryz.underlying23 (by kernel_rfl) (by kernel_rfl) hv h
  obtain ⟨S, e0, rfl, _⟩ := DataW.trod_string Tryz.underlying9 t0
  obtain ⟨i, e1, rfl, w1⟩ := DataW.trod_int Tryz.underlying2 t1
  obtain ⟨j, e2, rfl, w2⟩ := DataW.trod_int Tryz.underlying2 t2
  simp only [List.cons.injEq, and_true] at e0 e1 e2
  subst e0 e1 e2
  exact ⟨S, i, j, rfl, w1, w2⟩
set_option maxRecDepth 100000 in
theorem open_nums {r : Reach} {b0 : Nat} {v : Value} {d : DataW H} {p : List MemPlace} (hv : Value.okWide Tryz.prog w r b0 24 v) (h : DataW.Trod enc Tryz.prog w base (fun _ => true) held 24 v d p) (hlt : ∀ y ∈ p, y.block < w.heap.size) :
    ∃ zs : List Int, Nums w v zs := by
  obtain ⟨a0, len0, cap0, rfl⟩ := okWide_slice Tryz.underlying24 hv
  obtain ⟨fuel, hf⟩ := h
  rcases open_ints (x := (d, p)) Tryz.underlying24 Tryz.underlying2 (by kernel_rfl) hf with ⟨hcs, hx⟩ | ⟨a, len, cap, ss, hcs, _, hl, hm, hz, hx, hcell, hws⟩
  · simp [Value.cells] at hcs
    obtain ⟨rfl, rfl, rfl⟩ := hcs
    exact ⟨[], .inl ⟨_, _, rfl, rfl⟩⟩
  · simp [Value.cells] at hcs
    obtain ⟨rfl, rfl, rfl⟩ := hcs
    simp only [if_true] at hz
    rcases Nat.eq_zero_or_pos len0 with h0 | h0
    · subst h0
      exact ⟨[], .inl ⟨_, _, rfl, rfl⟩⟩
    · have ha := plain_at (hcell 0 (by omega))
      have ha0 : a = ⟨a.block, a.off, none⟩ := by
        rw [add_none] at ha
        exact ha
      have hll : (ss.take len0).length = len0 := by rw [List.length_take]; omega
      simp only [Prod.mk.injEq] at hx
      have hbk : a.block < w.heap.size := by
        rw [hx.2] at hlt
        exact hlt (.cell a.block a.off) (by
          rw [ha0]
          exact MemPlace.mem_row.2 ⟨0, by omega, by simp⟩)
      refine ⟨ss.take len0, .inr ⟨a.block, a.off, cap0, by rw [hll, ← ha0], by rw [hll]; exact h0, hbk, fun j y hj => ?_⟩⟩
      have hj' : j < len0 := by
        have := (List.getElem?_eq_some_iff.1 hj).1
        omega
      have hc := hcell j (by omega)
      rw [ha0, add_at] at hc
      rw [hc]
      rw [List.getElem?_take_of_lt hj'] at hj
      simp [List.getD, hj]
end
end Go.Proofs.YtnpmnielknmboaaGreatDoor
