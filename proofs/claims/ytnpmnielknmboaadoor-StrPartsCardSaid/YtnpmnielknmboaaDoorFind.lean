/- str.Find and the document's: where a string stands in another one, from a place on. -/
import Derived.Test.YtnpmnielknmboaaDoorRep
import Derived.Lib.IndexBytes
namespace Go.Proofs.YtnpmnielknmboaaDoor
open Go.RowKit Go.Sort

/-- The library's own number lies where the program's text lays it. -/
def Mx (w : World) : Prop := ∃ m : Int, w.cell? ⟨0, 0, none⟩ = some (.int .i64 m)
theorem Mx.below {w w' : World} (h : Mx w) (hb : Below w.heap.size w w') : Mx w' := by
  obtain ⟨m, hm⟩ := h
  exact ⟨m, (hb.cell (p := ⟨0, 0, none⟩) (World.block_lt_of_cell? w _ hm)).trans hm⟩
theorem index_call (s sub : ByteArray) (w : World) (hs : s.size ≤ 1000000) (h : Mx w) : Calls Tryd.prog 25 #[.string s, .string sub] w fun e w' => e = .returned (.int .i64 (Lib.index s.data.toList sub.data.toList)) ∧ w = w' := by
  obtain ⟨m, hm⟩ := h
  exact (Tryd.strings_Index s sub m w (by omega) hm).mono fun _ _ ⟨h, h'⟩ => ⟨h, h'.symm⟩

theorem findE_no {l what : List UInt8} {i : Int} (h : findL l what i = 0) : findE l what i = 0 ∧ findB l what i = false := by unfold findE findB; rw [h]; exact ⟨rfl, rfl⟩
theorem findE_yes {l what : List UInt8} {i : Int} (h : findL l what i ≠ 0) : findE l what i = findL l what i + what.length - 1 ∧ findB l what i = true := by
  unfold findE findB
  rw [if_neg h, beq_eq_false_iff_ne.2 h]
  exact ⟨rfl, rfl⟩

set_option maxHeartbeats 1000000 in
theorem find_any (s what : ByteArray) (i : Int) (w : World) (hs : s.size ≤ 1000000) (hwh : what.size ≤ 1000000) (h0 : -9223372036854775808 ≤ i) (h1 : i ≤ 9223372036854775807) (hM : Mx w) :
    Calls Tryd.prog 12 #[.string s, .string what, .int .i64 i] w fun e w' => e = .returned (.tuple #[.int .i64 (findL s.data.toList what.data.toList i), .int .i64 (findE s.data.toList what.data.toList i), .bool (findB s.data.toList what.data.toList i)]) ∧ w = w' := by
  have hf := fst_ge i s.size
  have HMx := Lib.hid hM
  clear hM
  by_cases hc : (s.size : Int) + 1 < fstP i s.size
  · have hz := find_far (l := s.data.toList) (what := what.data.toList) (i := i) (by rw [← Lib.size_eq]; exact hc)
    have HZ := Lib.hid (And.intro hz (findE_no hz))
    clear hz
    go_enter Tryd.func12, Tryd.ntmps12
    go_wp2_with (go_at_call 24; refine (first_any _ _ _ h0 h1 (by omega)).mono ?_; rintro e w' ⟨rfl, rfl⟩)
    go_ret3
    exact ⟨ret_iib HZ.out.1.symm HZ.out.2.1.symm HZ.out.2.2.symm, rfl⟩
  · have hc' : ¬ (s.data.toList.length : Int) + 1 < fstP i s.data.toList.length := by rw [← Lib.size_eq]; exact hc
    have hno := find_no (what := what.data.toList) hc'
    have hye := find_yes (what := what.data.toList) hc'
    rw [← Lib.size_eq] at hno hye
    obtain ⟨r, hr⟩ : ∃ r : Int, r = Lib.index (s.data.toList.drop (fstP i s.size - 1).toNat) what.data.toList := ⟨_, rfl⟩
    rw [← hr] at hno hye
    have hrl : r ≤ 1000000 := by
      rcases Lib.index_spec (s.data.toList.drop (fstP i s.size - 1).toNat) what.data.toList with ⟨e, _⟩ | ⟨k, e, hk, _⟩
      · rw [hr, e]; omega
      · rw [hr, e]; rw [List.length_drop, ← Lib.size_eq] at hk; omega
    have hr0 : -1 ≤ r := by rw [hr]; exact Lib.index_ge _ _
    have HI : Hid (∀ W, Mx W → Calls Tryd.prog 25 #[.string (s.extract ((fstP i s.size).toNat - 1) s.size), .string what] W fun e w' => e = .returned (.int .i64 r) ∧ W = w') := by
      apply Lib.hid
      intro W hW
      have hh := index_call (s.extract ((fstP i s.size).toNat - 1) s.size) what W (by rw [slice_end, Lib.size_mk, List.length_drop, ← Lib.size_eq]; omega) hW
      rw [slice_end, mk_list, show (fstP i s.size).toNat - 1 = (fstP i s.size - 1).toNat from by omega, ← hr] at hh
      rw [slice_end, show (fstP i s.size).toNat - 1 = (fstP i s.size - 1).toNat from by omega]
      exact hh
    have HNo := Lib.hid hno
    have HYe := Lib.hid hye
    clear hno hye hr hc'
    by_cases hneg : r < 0
    · have hz := HNo.out hneg
      have HZ := Lib.hid (And.intro hz (findE_no hz))
      clear hz
      go_enter Tryd.func12, Tryd.ntmps12
      go_wp2_with (first
        | (go_at_call 24; refine (first_any _ _ _ h0 h1 (by omega)).mono ?_; rintro e w' ⟨rfl, rfl⟩)
        | (go_at_call 25; refine (HI.out _ HMx.out).mono ?_; rintro e w' ⟨rfl, rfl⟩))
      go_ret3
      exact ⟨ret_iib HZ.out.1.symm HZ.out.2.1.symm HZ.out.2.2.symm, rfl⟩
    · have hz := HYe.out hneg
      have HZ := Lib.hid (And.intro hz (findE_yes (by rw [hz]; omega)))
      clear hz
      go_enter Tryd.func12, Tryd.ntmps12
      go_wp2_with (first
        | (go_at_call 24; refine (first_any _ _ _ h0 h1 (by omega)).mono ?_; rintro e w' ⟨rfl, rfl⟩)
        | (go_at_call 25; refine (HI.out _ HMx.out).mono ?_; rintro e w' ⟨rfl, rfl⟩))
      go_ret3
      exact ⟨ret_iib HZ.out.1.symm (by rw [HZ.out.2.1, HZ.out.1, ← Lib.size_eq]) HZ.out.2.2.symm, rfl⟩

theorem occ_end {l what : List UInt8} {q : Nat} (h : l.length < q + what.length) (hq : q ≤ l.length) : Lib.occAt l what q = false := by
  cases ho : Lib.occAt l what q with
  | false => rfl
  | true =>
    rcases Lib.occAt_room ho with h' | h'
    · omega
    · rw [h'] at h; simp at h; omega

set_option maxHeartbeats 2000000 in
theorem rfind_any (s what : ByteArray) (i : Int) (w : World) (hs : s.size ≤ 1000000) (hwh : what.size ≤ 1000000) (h0 : -9223372036854775808 ≤ i) (h1 : i ≤ 9223372036854775807) :
    Calls Tryd.prog 13 #[.string s, .string what, .int .i64 i] w fun e w' => e = .returned (.tuple #[.int .i64 (findL s.data.toList what.data.toList i), .int .i64 (findE s.data.toList what.data.toList i), .bool (findB s.data.toList what.data.toList i)]) ∧ w = w' := by
  have hf := fst_ge i s.size
  by_cases hc : (s.size : Int) + 1 < fstP i s.size
  · have hz := find_far (l := s.data.toList) (what := what.data.toList) (i := i) (by rw [← Lib.size_eq]; exact hc)
    have HZ := Lib.hid (And.intro hz (findE_no hz))
    clear hz
    go_enter Tryd.func13, Tryd.ntmps13
    go_wp2_with (go_at_call 26; refine (rfirst_any _ _ _ h0 h1 (by omega)).mono ?_; rintro e w' ⟨rfl, rfl⟩)
    go_ret3
    exact ⟨ret_iib HZ.out.1.symm HZ.out.2.1.symm HZ.out.2.2.symm, rfl⟩
  · have hc' : ¬ (s.data.toList.length : Int) + 1 < fstP i s.data.toList.length := by rw [← Lib.size_eq]; exact hc
    have HC := Lib.hid hc'
    obtain ⟨f, hfd⟩ : ∃ f : Nat, fstP i s.size = (f : Int) + 1 := ⟨(fstP i s.size - 1).toNat, by omega⟩
    have HF := Lib.hid hfd
    have HFi := Lib.hid (fun W => hfd ▸ rfirst_any i s.size W h0 h1 (by omega))
    have hfn : f ≤ s.size := by omega
    have hcd : decide ((s.size : Int) + 1 < (f : Int) + 1) = false := decide_eq_false (by omega)
    have hcd' : decide (s.size < f) = false := decide_eq_false (by omega)
    clear hf hc hc' hfd
    go_enter Tryd.func13, Tryd.ntmps13
    go_wp2_with (go_at_call 26; refine (HFi.out _).mono ?_; rintro e w' ⟨rfl, rfl⟩)
    go_loop [9] (fun p => ∃ q : Nat, f ≤ q ∧ q ≤ s.size + 1 ∧ p = .int .i64 q ∧ ∀ r : Nat, f ≤ r → r < q → Lib.occAt s.data.toList what.data.toList r = false) (fun p => s.size + 1 - (intOf p).toNat)
    case atStart => exact ⟨f, Nat.le_refl _, by omega, by go_num, fun r _ _ => by omega⟩
    case round =>
      obtain ⟨q, hq0, hq1, rfl, hno⟩ := hrel
      have HNO := Lib.hid hno
      clear hno
      by_cases hlt : q + what.size ≤ s.size
      · have ho := Lib.occ_of_piece s what q hlt
        cases hb : Lib.occAt s.data.toList what.data.toList q with
        | true =>
          rw [hb] at ho
          have hbt := ho.symm
          have hz := find_first (l := s.data.toList) (what := what.data.toList) (i := i) (p := q) (Int.not_lt.2 HC.out) (by rw [← Lib.size_eq, HF.out]; omega) (by rw [← Lib.size_eq]; omega) hb (fun r hr hrq => HNO.out r (by rw [← Lib.size_eq, HF.out] at hr; omega) hrq)
          have HZ := Lib.hid (And.intro hz (findE_yes (by rw [hz]; omega)))
          clear ho hz hb
          go_wp2
          go_ret3
          exact ⟨ret_iib HZ.out.1.symm (by rw [HZ.out.2.1, HZ.out.1, ← Lib.size_eq]; omega) HZ.out.2.2.symm, rfl⟩
        | false =>
          rw [hb] at ho
          have hbt := ho.symm
          have HBo := Lib.hid hb
          clear ho hb
          go_wp2
          go_round
          case rel =>
            refine ⟨q + 1, by omega, by omega, by go_num, fun r hr hrq => ?_⟩
            by_cases e : r = q
            · rw [e]; exact HBo.out
            · exact HNO.out r hr (by omega)
          case measure => simp [intOf]; omega
      · have hz := find_none (l := s.data.toList) (what := what.data.toList) (i := i) (Int.not_lt.2 HC.out) (fun r hr hrl => by
          by_cases e : r < q
          · exact HNO.out r (by rw [← Lib.size_eq, HF.out] at hr; omega) e
          · exact occ_end (by rw [← Lib.size_eq, ← Lib.size_eq]; omega) hrl)
        have HZ := Lib.hid (And.intro hz (findE_no hz))
        clear hz
        go_wp2
        go_ret3
        exact ⟨ret_iib HZ.out.1.symm HZ.out.2.1.symm HZ.out.2.2.symm, rfl⟩
end Go.Proofs.YtnpmnielknmboaaDoor
