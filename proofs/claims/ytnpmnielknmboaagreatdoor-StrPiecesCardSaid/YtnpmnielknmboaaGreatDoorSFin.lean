/- str.Find: where a string stands in another one, from a place on. -/
import Derived.Test.YtnpmnielknmboaaGreatDoorSRep
import Derived.Lib.IndexBytes
namespace Go.Proofs.YtnpmnielknmboaaGreatDoor
open Go.RowKit Go.Sort

/-- The library's own number lies where the program's text lays it. -/
def Mx (w : World) : Prop := ∃ m : Int, w.cell? ⟨0, 0, none⟩ = some (.int .i64 m)
theorem Mx.below {w w' : World} (h : Mx w) (hb : Below w.heap.size w w') : Mx w' := by
  obtain ⟨m, hm⟩ := h
  exact ⟨m, (hb.cell (p := ⟨0, 0, none⟩) (World.block_lt_of_cell? w _ hm)).trans hm⟩
theorem index_call (s sub : ByteArray) (w : World) (hs : s.size ≤ 1000000) (h : Mx w) : Calls Tryz.prog 28 #[.string s, .string sub] w fun e w' => e = .returned (.int .i64 (Lib.index s.data.toList sub.data.toList)) ∧ w = w' := by
  obtain ⟨m, hm⟩ := h
  exact (Tryz.strings_Index s sub m w (by omega) hm).mono fun _ _ ⟨h, h'⟩ => ⟨h, h'.symm⟩

theorem findE_no {l what : List UInt8} {i : Int} (h : findL l what i = 0) : findE l what i = 0 ∧ findB l what i = false := by unfold findE findB; rw [h]; exact ⟨rfl, rfl⟩
theorem findE_yes {l what : List UInt8} {i : Int} (h : findL l what i ≠ 0) : findE l what i = findL l what i + what.length - 1 ∧ findB l what i = true := by
  unfold findE findB
  rw [if_neg h, beq_eq_false_iff_ne.2 h]
  exact ⟨rfl, rfl⟩

set_option maxHeartbeats 1000000 in
theorem find_any (s what : ByteArray) (i : Int) (w : World) (hs : s.size ≤ 1000000) (hwh : what.size ≤ 1000000) (h0 : -9223372036854775808 ≤ i) (h1 : i ≤ 9223372036854775807) (hM : Mx w) :
    Calls Tryz.prog 18 #[.string s, .string what, .int .i64 i] w fun e w' => e = .returned (.tuple #[.int .i64 (findL s.data.toList what.data.toList i), .int .i64 (findE s.data.toList what.data.toList i), .bool (findB s.data.toList what.data.toList i)]) ∧ w = w' := by
  have hf := fst_ge i s.size
  have HMx := Lib.hid hM
  clear hM
  by_cases hc : (s.size : Int) + 1 < fstP i s.size
  · have hz := find_far (l := s.data.toList) (what := what.data.toList) (i := i) (by rw [← Lib.size_eq]; exact hc)
    have HZ := Lib.hid (And.intro hz (findE_no hz))
    clear hz
    go_enter Tryz.func18, Tryz.ntmps18
    go_wp2_with (go_at_call 22; refine (first_any _ _ _ h0 h1 (by omega)).mono ?_; rintro e w' ⟨rfl, rfl⟩)
    go_ret3
    exact ⟨ret_iib HZ.out.1.symm HZ.out.2.1.symm HZ.out.2.2.symm, rfl⟩
  · have hc' : ¬ (s.data.toList.length : Int) + 1 < fstP i s.data.toList.length := by rw [← Lib.size_eq]; exact hc
    have hno := find_no (what := what.data.toList) hc'
    have hye := find_yes (what := what.data.toList) hc'
    rw [← Lib.size_eq] at hno hye
    obtain ⟨r, hr⟩ : ∃ r : Int, r = Lib.index (s.data.toList.drop (fstP i s.size - 1).toNat) what.data.toList := ⟨_, rfl⟩
    rw [← hr] at hno hye
    have hrl : r ≤ 1000000 := by
      rcases Lib.index_spec (s.data.toList.drop (fstP i s.size - 1).toNat) what.data.toList with ⟨e, _⟩ | ⟨k, e, hk, _⟩
      · rw [hr, e]; omega
      · rw [hr, e]; rw [List.length_drop, ← Lib.size_eq] at hk; omega
    have hr0 : -1 ≤ r := by rw [hr]; exact Lib.index_ge _ _
    have HI : Hid (∀ W, Mx W → Calls Tryz.prog 28 #[.string (s.extract ((fstP i s.size).toNat - 1) s.size), .string what] W fun e w' => e = .returned (.int .i64 r) ∧ W = w') := by
      apply Lib.hid
      intro W hW
      have hh := index_call (s.extract ((fstP i s.size).toNat - 1) s.size) what W (by rw [slice_end, Lib.size_mk, List.length_drop, ← Lib.size_eq]; omega) hW
      rw [slice_end, mk_list, show (fstP i s.size).toNat - 1 = (fstP i s.size - 1).toNat from by omega, ← hr] at hh
      rw [slice_end, show (fstP i s.size).toNat - 1 = (fstP i s.size - 1).toNat from by omega]
      exact hh
    have HNo := Lib.hid hno
    have HYe := Lib.hid hye
    clear hno hye hr hc'
    by_cases hneg : r < 0
    · have hz := HNo.out hneg
      have HZ := Lib.hid (And.intro hz (findE_no hz))
      clear hz
      go_enter Tryz.func18, Tryz.ntmps18
      go_wp2_with (first
        | (go_at_call 22; refine (first_any _ _ _ h0 h1 (by omega)).mono ?_; rintro e w' ⟨rfl, rfl⟩)
        | (go_at_call 28; refine (HI.out _ HMx.out).mono ?_; rintro e w' ⟨rfl, rfl⟩))
      go_ret3
      exact ⟨ret_iib HZ.out.1.symm HZ.out.2.1.symm HZ.out.2.2.symm, rfl⟩
    · have hz := HYe.out hneg
      have HZ := Lib.hid (And.intro hz (findE_yes (by rw [hz]; omega)))
      clear hz
      go_enter Tryz.func18, Tryz.ntmps18
      go_wp2_with (first
        | (go_at_call 22; refine (first_any _ _ _ h0 h1 (by omega)).mono ?_; rintro e w' ⟨rfl, rfl⟩)
        | (go_at_call 28; refine (HI.out _ HMx.out).mono ?_; rintro e w' ⟨rfl, rfl⟩))
      go_ret3
      exact ⟨ret_iib HZ.out.1.symm (by rw [HZ.out.2.1, HZ.out.1, ← Lib.size_eq]) HZ.out.2.2.symm, rfl⟩

end Go.Proofs.YtnpmnielknmboaaGreatDoor
