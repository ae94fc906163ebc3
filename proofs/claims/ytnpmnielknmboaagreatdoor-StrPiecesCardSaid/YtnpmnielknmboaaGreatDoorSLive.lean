/- The document's examples: alive answers true. -/
import Derived.Test.YtnpmnielknmboaaGreatDoorSFmt
namespace Go.Proofs.YtnpmnielknmboaaGreatDoor
open Go.RowKit Go.Sort

theorem find_live (w : World) (h : Mx w) : Calls Tryz.prog 18 #[.string ⟨#[104, 101, 108, 108, 111]⟩, .string ⟨#[108]⟩, .int .i64 4] w fun e w' => e = .returned (.tuple #[.int .i64 4, .int .i64 4, .bool true]) ∧ w = w' :=
  (find_any ⟨#[104, 101, 108, 108, 111]⟩ ⟨#[108]⟩ 4 w (by decide) (by decide) (by omega) (by omega) h).mono fun _ _ ⟨he, hw⟩ => ⟨he.trans (ret_iib (by decide +kernel) (by decide +kernel) (by decide +kernel)), hw⟩
theorem rep_live7 (w : World) : Calls Tryz.prog 20 #[.string ⟨#[97, 98]⟩, .int .i64 3, .string ⟨#[45]⟩, .int .i64 7] w fun e w' => e = .returned (.tuple #[.string ⟨#[]⟩, .int .i64 3]) ∧ Below w.heap.size w w' :=
  (rep_any ⟨#[97, 98]⟩ ⟨#[45]⟩ 3 7 w (by omega) (by omega) (by decide) (by decide)).mono fun _ _ ⟨he, hw⟩ => ⟨he.trans (ret_si (by decide +kernel) (by decide +kernel)), hw⟩
theorem rep_live8 (w : World) : Calls Tryz.prog 20 #[.string ⟨#[97, 98]⟩, .int .i64 3, .string ⟨#[45]⟩, .int .i64 8] w fun e w' => e = .returned (.tuple #[.string ⟨#[97, 98, 45, 97, 98, 45, 97, 98]⟩, .int .i64 0]) ∧ Below w.heap.size w w' :=
  (rep_any ⟨#[97, 98]⟩ ⟨#[45]⟩ 3 8 w (by omega) (by omega) (by decide) (by decide)).mono fun _ _ ⟨he, hw⟩ => ⟨he.trans (ret_si (by decide +kernel) (by decide +kernel)), hw⟩
theorem sub_live (w : World) : Calls Tryz.prog 7 #[.string ⟨#[104, 101, 108, 108, 111]⟩, .int .i64 2, .int .i64 (-2)] w fun e w' => e = .returned (.string ⟨#[101, 108, 108]⟩) ∧ w = w' :=
  (sub_any ⟨#[104, 101, 108, 108, 111]⟩ 2 (-2) w (by decide) (by omega) (by omega) (by omega) (by omega)).mono fun _ _ ⟨he, hw⟩ => ⟨he.trans (ret_str (by decide +kernel)), hw⟩

theorem fmt_live (b : Nat) (w : World) (hM : Mx w) (hb : b < w.heap.size) (c0 : w.cell? ⟨b, 0, none⟩ = some (.int .i64 2)) (c1 : w.cell? ⟨b, 1, none⟩ = some (.int .i64 7)) (c2 : w.cell? ⟨b, 2, none⟩ = some (.string ⟨#[]⟩))
    (c3 : w.cell? ⟨b, 3, none⟩ = some (.int .i64 1)) (c4 : w.cell? ⟨b, 4, none⟩ = some (.int .i64 1)) (c5 : w.cell? ⟨b, 5, none⟩ = some (.string ⟨#[]⟩)) :
    Calls Tryz.prog 19 #[.string ⟨#[37, 100, 58, 32, 37, 115, 37, 37]⟩, .slice (some ⟨b, 0, none⟩) 2 2, .int .i64 99] w fun e w' => e = .returned (.tuple #[.string ⟨#[55, 58, 32, 116, 114, 117, 101, 37]⟩, .int .i64 2, .int .i64 0]) ∧ Below w.heap.size w w' := by
  have hh := fmt_any ⟨#[37, 100, 58, 32, 37, 115, 37, 37]⟩ b 0 2 2
    [(⟨#[55]⟩, ⟨#[58, 32, 37, 115, 37, 37]⟩, 1), (⟨#[58, 32]⟩, ⟨#[37, 115, 37, 37]⟩, 0), (⟨#[116, 114, 117, 101]⟩, ⟨#[37, 37]⟩, 1), (⟨#[37]⟩, ⟨#[]⟩, 0)] 99 w (by omega) (by unfold maxLen; omega) (by omega) ?_ (by decide +kernel) (by decide +kernel) (by decide +kernel)
  · exact hh.mono fun _ _ ⟨he, hw⟩ => ⟨he.trans (ret_sii (by decide +kernel) (by decide +kernel) rfl), hw⟩
  · refine ⟨by decide, fun W hW => ⟨fun _ => ?_, fun h => absurd h (by omega)⟩, by decide, fun W hW => ⟨fun _ => ?_, fun h => absurd h (by omega)⟩, by decide, fun W hW => ⟨fun _ => ?_, fun h => absurd h (by omega)⟩, by decide, fun W hW => ⟨fun h => absurd rfl h, fun _ v => ?_⟩, rfl⟩
    · exact next_d ⟨#[37, 100, 58, 32, 37, 115, 37, 37]⟩ b 0 2 2 2 7 ⟨#[]⟩ ⟨#[55]⟩ W (by decide) (by decide) rfl rfl (by omega) (put_seven _) ((hW.cell hb).trans c0) ((hW.cell hb).trans c1) ((hW.cell hb).trans c2)
    · exact next_plain ⟨#[58, 32, 37, 115, 37, 37]⟩ ⟨#[58, 32]⟩ _ W (by decide) (by decide) (by decide) (hM.below hW) (by decide +kernel) (by decide)
    · exact next_s ⟨#[37, 115, 37, 37]⟩ b 3 1 1 1 1 ⟨#[]⟩ ⟨#[116, 114, 117, 101]⟩ W (by decide) (by decide) rfl rfl (by omega) (put_bool _) ((hW.cell hb).trans c3) ((hW.cell hb).trans c4) ((hW.cell hb).trans c5)
    · exact next_pct ⟨#[37, 37]⟩ v W (by decide) (by decide) rfl rfl

theorem fmt_new (w : World) (t : TypeId) (hM : Mx w) :
    Calls Tryz.prog 19 #[.string ⟨#[37, 100, 58, 32, 37, 115, 37, 37]⟩, .slice (some ⟨w.heap.size, 0, none⟩) 2 2, .int .i64 99] (w.alloc (.cells #[.int .i64 2, .int .i64 7, .string ⟨#[]⟩, .int .i64 1, .int .i64 1, .string ⟨#[]⟩] t))
      fun e w' => e = .returned (.tuple #[.string ⟨#[55, 58, 32, 116, 114, 117, 101, 37]⟩, .int .i64 2, .int .i64 0]) ∧ Below w.heap.size w w' := by
  have hc := fun i => cell_of_row (w.alloc (.cells #[.int .i64 2, .int .i64 7, .string ⟨#[]⟩, .int .i64 1, .int .i64 1, .string ⟨#[]⟩] t)) w.heap.size i _ t (0, 0) (heap_alloc_new w _)
  exact (fmt_live w.heap.size _ (hM.below (belowA _ _)) (by simp) (hc 0) (hc 1) (hc 2) (hc 3) (hc 4) (hc 5)).mono fun _ _ ⟨he, hb⟩ => ⟨he, thenB (belowA _ _) hb⟩

set_option maxHeartbeats 4000000 in
set_option maxRecDepth 100000 in
theorem alive_any (w : World) (hM : Mx w) : Calls Tryz.prog 4 #[] w fun e w' => e = .returned (.bool true) ∧ Below w.heap.size w w' := by
  have HM := Lib.hid hM
  clear hM
  go_enter Tryz.func4, Tryz.ntmps4
  go_wp2_with fail
  refine (find_live _ HM.out).mono ?_; rintro e w' ⟨rfl, rfl⟩
  go_wp2_with fail
  refine (fmt_new _ _ HM.out).mono ?_; rintro e w1 ⟨rfl, b1⟩
  have B1 := Lib.hid b1
  clear b1
  go_wp2_with fail
  refine (rep_live7 _).mono ?_; rintro e w2 ⟨rfl, b2⟩
  have B2 := Lib.hid b2
  clear b2
  go_wp2_with fail
  refine (rep_live8 _).mono ?_; rintro e w3 ⟨rfl, b3⟩
  have B3 := Lib.hid b3
  clear b3
  go_wp2_with fail
  refine (sub_live _).mono ?_; rintro e w' ⟨rfl, rfl⟩
  go_wp2_with fail
  go_ret
  exact ⟨rfl, thenB (thenB B1.out B2.out) B3.out⟩
end Go.Proofs.YtnpmnielknmboaaGreatDoor
