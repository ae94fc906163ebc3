/- selkielaw05.Told at a fault of Lex: ErrLex and its line. -/
import Derived.Test.YtbeckfamnhfaeaaGreatDoorIs
import Derived.Test.YtbeckfamnhfaeaaGreatDoorAs
import Derived.Test.YtbeckfamnhfaeaaGreatDoorLx
namespace Go.Proofs.YtbeckfamnhfaeaaGreatDoor
open Go.RowKit

/-- What the laws need of the package-level variables: errors.errorType holds the handle of error, internal/bytealg.MaxLen a number. -/
structure Env (w : World) : Prop where
  mx : Mx w
  et : w.cell? ⟨0, 0, none⟩ = some (.iface 98 (.agg #[.pointer (some ⟨7, 26, none⟩)]))
  big : 7 ≤ w.heap.size
theorem Env.below {w w' : World} (h : Env w) (hb : Below w.heap.size w w') : Env w' :=
  ⟨h.mx.below hb, (hb.cell (p := ⟨0, 0, none⟩) (by have := h.big; show 0 < _; omega)).trans h.et, Nat.le_trans h.big hb.size⟩

theorem as_told (g : Nat) (w : World) (h : Env w) : Calls Tryz.prog 18 #[.iface 49 (.pointer (some ⟨g, 0, none⟩)), .iface 51 (.pointer (some ⟨w.heap.size, 0, none⟩))] (w.alloc (.cells #[.pointer none] 49)) fun e w' =>
    e = .returned (.bool true) ∧ w'.cell? ⟨w.heap.size, 0, none⟩ = some (.pointer (some ⟨g, 0, none⟩)) ∧ Below w.heap.size w w' := by
  have hB := (Below.refl w.heap.size w).alloc (Nat.le_refl _) (.cells #[.pointer none] 49)
  have hE := h.below hB
  have hx := Boxed.new w 49 (.pointer none)
  refine (as_hit ⟨g, 0, none⟩ ⟨w.heap.size, 0, none⟩ (.pointer none) (w.alloc (.cells #[.pointer none] 49)) hE.et hx.cell hx.frozen).mono ?_
  rintro e w' ⟨rfl, rfl⟩
  exact ⟨rfl, (((((hx.alloc _).alloc _).alloc _).alloc _).set _).cell, (((((hB.alloc (by simp) _).alloc (by simp; omega) _).alloc (by simp; omega) _).alloc (by simp; omega) _)).setCell (Nat.le_refl _) _⟩
set_option maxHeartbeats 2000000 in
theorem told_any (v : Value) (n : Int) (w : World) (h : Env w) (hf : Flt w v n) : Calls Tryz.prog 12 #[v] w fun e w' => e = .returned (.tuple #[.int .i64 5, .int .i64 n]) ∧ Below w.heap.size w w' := by
  obtain ⟨g, rfl, hg⟩ := hf
  have hgl : g < w.heap.size := (Array.getElem?_eq_some_iff.1 hg).1
  have A1 := Lib.hid (as_told g w h)
  have HG := Lib.hid hg
  clear h hg
  go_enter Tryz.func12, Tryz.ntmps12
  go_wp2_with fail
  refine A1.out.mono ?_; rintro e w1 ⟨rfl, hc, hb⟩
  have hg1 : w1.heap[g]? = _ := (hb.block g hgl).trans HG.out
  have HB := Lib.hid hb
  have I5 := Lib.hid (is_five g n w1 hg1)
  have N1 := Lib.hid (is_not g n 1 w1 Tryz.eql1 hg1)
  have N2 := Lib.hid (is_not g n 2 w1 Tryz.eql2 hg1)
  have N3 := Lib.hid (is_not g n 3 w1 Tryz.eql3 hg1)
  have N4 := Lib.hid (is_not g n 4 w1 Tryz.eql4 hg1)
  have hc0 : w1.cell? ⟨g, 0, none⟩ = some (.int .i64 n) := by simp [World.cell?, hg1]
  clear hg1 hb
  go_wp2_with fail
  go_loop [5] (fun i => ∃ k : Nat, 1 ≤ k ∧ k ≤ 5 ∧ i = .int .i64 k) (fun i => 5 - (intOf i).toNat)
  case atStart => exact ⟨1, by omega, by omega, rfl⟩
  case round =>
    obtain ⟨k, hk1, hk5, rfl⟩ := hrel
    rcases (show k = 1 ∨ k = 2 ∨ k = 3 ∨ k = 4 ∨ k = 5 by omega) with rfl | rfl | rfl | rfl | rfl
    · go_wp2_with (go_at_call 19; refine N1.out.mono ?_; rintro e w' ⟨rfl, rfl⟩)
      go_round
      case rel => exact ⟨2, by omega, by omega, rfl⟩
      case measure => simp [intOf]
    · go_wp2_with (go_at_call 19; refine N2.out.mono ?_; rintro e w' ⟨rfl, rfl⟩)
      go_round
      case rel => exact ⟨3, by omega, by omega, rfl⟩
      case measure => simp [intOf]
    · go_wp2_with (go_at_call 19; refine N3.out.mono ?_; rintro e w' ⟨rfl, rfl⟩)
      go_round
      case rel => exact ⟨4, by omega, by omega, rfl⟩
      case measure => simp [intOf]
    · go_wp2_with (go_at_call 19; refine N4.out.mono ?_; rintro e w' ⟨rfl, rfl⟩)
      go_round
      case rel => exact ⟨5, by omega, by omega, rfl⟩
      case measure => simp [intOf]
    · go_wp2_with (go_at_call 19; refine I5.out.mono ?_; rintro e w' ⟨rfl, rfl⟩)
      go_quiet (fail)
      go_wp2_with fail
      go_ret2
      exact ⟨rfl, HB.out.trans ⟨rfl, rfl, rfl, Nat.le_refl _, fun _ _ => rfl⟩⟩
end Go.Proofs.YtbeckfamnhfaeaaGreatDoor
