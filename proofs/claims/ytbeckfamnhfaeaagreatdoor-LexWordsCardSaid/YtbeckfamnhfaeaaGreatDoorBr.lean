/- Long brackets: lex.opening, lex.begins, (*reader).bracketed. -/
import Derived.Test.YtbeckfamnhfaeaaGreatDoorRd
import Derived.Test.YtbeckfamnhfaeaaGreatDoorKd
namespace Go.Proofs.YtbeckfamnhfaeaaGreatDoor
open Go.RowKit

/-- What isn't read yet. -/
def sfx (s : ByteArray) (k : Nat) : List UInt8 := s.data.toList.drop k
theorem sfx_rest (s : ByteArray) (k : Nat) : (s.extract k s.size).data.toList = sfx s k := drop_extract s k
theorem sfx_len (s : ByteArray) (k : Nat) : (sfx s k).length = s.size - k := by unfold sfx; rw [List.length_drop, ← Lib.size_eq]
theorem sfx_drop (s : ByteArray) (k c : Nat) : (sfx s k).drop c = sfx s (k + c) := by unfold sfx; rw [List.drop_drop]
theorem sfx_take (s : ByteArray) (k c : Nat) : (s.extract k (k + c)).data.toList = (sfx s k).take c := piece_list s k c
theorem rest_size (s : ByteArray) (k : Nat) (h : k ≤ s.size) : (s.extract k s.size).size = s.size - k := by rw [ByteArray.size_extract]; omega
theorem mk_list (l : List UInt8) : (⟨l.toArray⟩ : ByteArray).data.toList = l := rfl
theorem mk_size (l : List UInt8) : (⟨l.toArray⟩ : ByteArray).size = l.length := by show l.toArray.size = _; simp
theorem of_list {s : ByteArray} {l : List UInt8} (h : s.data.toList = l) : s = ⟨l.toArray⟩ := by subst h; rfl

theorem ret_i64' {a b : Int} (h : a = b) : Ending.returned (.int .i64 a) = .returned (.int .i64 b) := by rw [h]

set_option maxHeartbeats 1000000 in
theorem opening_any (s : ByteArray) (w : World) (hs : s.size ≤ 100000) : Calls Tryz.prog 49 #[.string s] w fun e w' => e = .returned (.int .i64 (opn s.data.toList : Int)) ∧ w = w' := by
  obtain ⟨n, hn⟩ : ∃ n : Nat, n = opn s.data.toList := ⟨_, rfl⟩
  rw [← hn]
  unfold opn at hn
  obtain ⟨t1, ht1⟩ : ∃ t : ByteArray, t = ⟨(Lib.trimPrefix s.data.toList [91]).toArray⟩ := ⟨_, rfl⟩
  cases e1 : Lib.hasPrefix s.data.toList [91]
  · have C1 := Lib.hid (fun W => cutP_call s ⟨#[91]⟩ W)
    rw [show (⟨#[91]⟩ : ByteArray).data.toList = [91] from rfl, e1, ← ht1] at C1
    rw [e1] at hn
    have HN := Lib.hid hn
    clear hn e1 ht1
    go_enter Tryz.func49, Tryz.ntmps49
    go_wp2_with (go_at_call 68; refine (C1.out _).mono ?_; rintro e w' ⟨rfl, rfl⟩)
    go_ret
    exact ⟨ret_i64' (by rw [HN.out]; rfl), rfl⟩
  · have C1 := Lib.hid (fun W => cutP_call s ⟨#[91]⟩ W)
    rw [show (⟨#[91]⟩ : ByteArray).data.toList = [91] from rfl, e1, ← ht1] at C1
    have ht1' : t1.data.toList = s.data.toList.drop 1 := by rw [ht1]; show Lib.trimPrefix s.data.toList [91] = _; unfold Lib.trimPrefix; rw [if_pos e1]; rfl
    rw [e1, if_pos rfl, ← ht1'] at hn
    obtain ⟨t2, ht2⟩ : ∃ t : ByteArray, t = ⟨(Lib.trimLeftB t1.data.toList 61).toArray⟩ := ⟨_, rfl⟩
    have C2 := Lib.hid (fun W => trimL_eq t1 W)
    rw [← ht2] at C2
    rw [show Lib.trimLeftB t1.data.toList 61 = t2.data.toList by rw [ht2]] at hn
    obtain ⟨t3, ht3⟩ : ∃ t : ByteArray, t = ⟨(Lib.trimPrefix t2.data.toList [91]).toArray⟩ := ⟨_, rfl⟩
    have C3 := Lib.hid (fun W => cutP_call t2 ⟨#[91]⟩ W)
    cases e2 : Lib.hasPrefix t2.data.toList [91]
    · rw [show (⟨#[91]⟩ : ByteArray).data.toList = [91] from rfl, e2, ← ht3] at C3
      rw [e2] at hn
      have HN := Lib.hid hn
      clear hn e1 e2 ht1 ht2 ht3 ht1'
      go_enter Tryz.func49, Tryz.ntmps49
      go_wp2_with fail
      refine (C1.out _).mono ?_; rintro e w' ⟨rfl, rfl⟩
      go_wp2_with fail
      refine (C2.out _).mono ?_; rintro e w' ⟨rfl, rfl⟩
      go_wp2_with fail
      refine (C3.out _).mono ?_; rintro e w' ⟨rfl, rfl⟩
      go_wp2_with fail
      go_ret
      exact ⟨ret_i64' (by rw [HN.out]; rfl), rfl⟩
    · rw [show (⟨#[91]⟩ : ByteArray).data.toList = [91] from rfl, e2, ← ht3] at C3
      have ht3' : t3.data.toList = t2.data.toList.drop 1 := by rw [ht3]; show Lib.trimPrefix t2.data.toList [91] = _; unfold Lib.trimPrefix; rw [if_pos e2]; rfl
      rw [e2, if_pos rfl, ← ht3', ← Lib.size_eq, ← Lib.size_eq] at hn
      have hle : t3.size ≤ s.size := by
        rw [Lib.size_eq, ht3', ht2, mk_list, ht1', Lib.size_eq s, List.length_drop]
        have h1 := (List.dropWhile_sublist (fun x => x == 61) (l := s.data.toList.drop 1)).length_le
        rw [List.length_drop] at h1
        unfold Lib.trimLeftB
        omega
      have HN := Lib.hid hn
      clear hn e1 e2 ht1 ht2 ht3 ht1' ht3'
      go_enter Tryz.func49, Tryz.ntmps49
      go_wp2_with fail
      refine (C1.out _).mono ?_; rintro e w' ⟨rfl, rfl⟩
      go_wp2_with fail
      refine (C2.out _).mono ?_; rintro e w' ⟨rfl, rfl⟩
      go_wp2_with fail
      refine (C3.out _).mono ?_; rintro e w' ⟨rfl, rfl⟩
      go_wp2_with fail
      go_ret
      exact ⟨ret_i64' (by rw [HN.out]; omega), rfl⟩
set_option maxHeartbeats 1000000 in
theorem begins_is (s : ByteArray) (r : Bool) (w : World) (hs : s.size ≤ 100000) (h : decide (0 < opn s.data.toList) = r) : Calls Tryz.prog 33 #[.string s] w fun e w' => e = .returned (.bool r) ∧ w = w' := by
  have C := Lib.hid (fun W => opening_any s W hs)
  generalize opn s.data.toList = n at *
  go_enter Tryz.func33, Tryz.ntmps33
  go_wp2_with (go_at_call 49; refine (C.out _).mono ?_; rintro e w' ⟨rfl, rfl⟩)
  go_ret
  exact ⟨rfl, rfl⟩
end Go.Proofs.YtbeckfamnhfaeaaGreatDoor
