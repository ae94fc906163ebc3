/- tree.isName, fieldsOf, given, opRight, countRight, namesRight. -/
import Derived.Test.YtjlpklhibdkmeaaGreatDoorKRt
import Derived.Lib.Strings
namespace Go.Proofs.YtjlpklhibdkmeaaGreatDoor
open Go.RowKit

def keys : List (List UInt8) := [[97, 110, 100], [98, 114, 101, 97, 107], [100, 111], [101, 108, 115, 101], [101, 108, 115, 101, 105, 102], [101, 110, 100], [102, 97, 108, 115, 101], [102, 111, 114], [102, 117, 110, 99, 116, 105, 111, 110], [103, 111, 116, 111], [105, 102], [105, 110], [108, 111, 99, 97, 108], [110, 105, 108], [110, 111, 116], [111, 114], [114, 101, 112, 101, 97, 116], [114, 101, 116, 117, 114, 110], [116, 104, 101, 110], [116, 114, 117, 101], [117, 110, 116, 105, 108], [119, 104, 105, 108, 101]]
def wordB (l : List UInt8) : Bool := keys.contains l
def ltB (c : UInt8) : Bool := decide (97 ≤ c.toNat ∧ c.toNat ≤ 122) || decide (65 ≤ c.toNat ∧ c.toNat ≤ 90) || decide (c.toNat = 95)
def dgB (c : UInt8) : Bool := decide (48 ≤ c.toNat ∧ c.toNat ≤ 57)
def nmB (c : UInt8) : Bool := ltB c || dgB c
def firstB (l : List UInt8) : Bool := match l with | [] => false | c :: _ => dgB c
def nameB (s : ByteArray) : Bool := decide (s.size ≠ 0) && decide (s.size ≤ 65536) && !firstB s.data.toList && !wordB s.data.toList && s.data.toList.all nmB
set_option maxHeartbeats 4000000 in
theorem word_any (s : ByteArray) (w : World) : Calls Tryz.prog 31 #[.string s] w fun e w' => e = .returned (.bool (wordB s.data.toList)) ∧ w = w' := by
  rw [← Lib.toList_data]
  go_enter Tryz.func31, Tryz.ntmps31
  go_wp2_with fail
  all_goals first
    | (go_ret; rename_i ha hb; rw [ha] at hb; cases hb; done)
    | (go_ret; exact ⟨ret_bool (by simp only [wordB, keys, List.contains_cons, List.contains_nil, Bool.or_false, Bool.true_or, Bool.or_true, *]), rfl⟩)
theorem letter_is (c : UInt8) (w : World) : Calls Tryz.prog 32 #[.int .u8 (c.toNat : Int)] w fun e w' => e = .returned (.bool (ltB c)) ∧ w = w' := by
  unfold ltB
  have hc := c.toNat_lt
  generalize c.toNat = n at *
  go_enter Tryz.func32, Tryz.ntmps32
  go_wp2_with fail
  all_goals go_ret
  all_goals exact ⟨ret_bool (by rw [Bool.eq_iff_iff]; simp; omega), rfl⟩
theorem digit_is (c : UInt8) (w : World) : Calls Tryz.prog 30 #[.int .u8 (c.toNat : Int)] w fun e w' => e = .returned (.bool (dgB c)) ∧ w = w' := by
  unfold dgB
  have hc := c.toNat_lt
  generalize c.toNat = n at *
  go_enter Tryz.func30, Tryz.ntmps30
  go_wp2_with fail
  all_goals go_ret
  all_goals exact ⟨ret_bool (by rw [Bool.eq_iff_iff]; simp; omega), rfl⟩
theorem all_drop {p : UInt8 → Bool} {l : List UInt8} {k : Nat} {c : UInt8} (h : l[k]? = some c) : (l.drop k).all p = (p c && (l.drop (k + 1)).all p) := by
  rw [drop_cons' h, List.all_cons]
theorem byte_at {s : ByteArray} {k : Nat} (h : k < s.size) : s.data.toList[k]? = some s[k] := by
  rw [Array.getElem?_toList]
  exact Array.getElem?_eq_getElem h
set_option maxHeartbeats 4000000 in
theorem name_any (s : ByteArray) (w : World) : Calls Tryz.prog 19 #[.string s] w fun e w' => e = .returned (.bool (nameB s)) ∧ w = w' := by
  by_cases h0 : s.size = 0
  · obtain rfl : s = ⟨#[]⟩ := by
      have : s.data = #[] := Array.eq_empty_of_size_eq_zero h0
      cases s; simp_all
    go_enter Tryz.func19, Tryz.ntmps19
    go_wp2_with fail
    go_ret
    exact ⟨rfl, rfl⟩
  · have h00 : 0 < s.size := by omega
    have hne : s.toList.isEmpty = false := by
      rw [Lib.toList_data]
      cases e : s.data.toList with
      | nil => exact absurd (by rw [Lib.size_eq, e]; rfl) h0
      | cons a t => rfl
    have hne2 : ¬ s.toList = [] := fun e => by rw [e] at hne; cases hne
    by_cases h1 : s.size ≤ 65536
    · have g1 : decide ((65536 : Int) < (s.size : Int)) = false := decide_eq_false (by omega)
      have hb0 := byte_at (s := s) (k := 0) (by omega)
      have hf : firstB s.data.toList = dgB s[0] := by
        cases e : s.data.toList with
        | nil => rw [e] at hb0; simp at hb0
        | cons a t => rw [e] at hb0; obtain rfl := Option.some.inj hb0; rfl
      have hnb : nameB s = (!dgB s[0] && !wordB s.data.toList && s.data.toList.all nmB) := by
        unfold nameB
        rw [hf, decide_eq_true (show s.size ≠ 0 from h0), decide_eq_true h1]
        rfl
      rw [hnb]
      have HW := Lib.hid (word_any s w)
      have HD := Lib.hid (digit_is s[0] w)
      obtain ⟨D, hD⟩ : ∃ D, D = dgB s[0] := ⟨_, rfl⟩
      obtain ⟨K, hK⟩ : ∃ K, K = wordB s.data.toList := ⟨_, rfl⟩
      rw [← hD] at HD ⊢
      rw [← hK] at HW ⊢
      obtain ⟨AL, hAL⟩ : ∃ AL, AL = s.data.toList.all nmB := ⟨_, rfl⟩
      rw [← hAL]
      have HAL := Lib.hid hAL
      clear hD hK hf hnb hb0 hAL
      cases D with
      | true =>
        go_enter Tryz.func19, Tryz.ntmps19
        go_wp2_with (go_at_call 30; refine HD.out.mono ?_; rintro e w' ⟨rfl, rfl⟩)
        go_ret
        exact ⟨rfl, rfl⟩
      | false =>
        cases K with
        | true =>
          go_enter Tryz.func19, Tryz.ntmps19
          go_wp2_with (first | (go_at_call 30; refine HD.out.mono ?_; rintro e w' ⟨rfl, rfl⟩) | (go_at_call 31; refine HW.out.mono ?_; rintro e w' ⟨rfl, rfl⟩))
          go_ret
          exact ⟨rfl, rfl⟩
        | false =>
          go_enter Tryz.func19, Tryz.ntmps19
          go_wp2_with (first | (go_at_call 30; refine HD.out.mono ?_; rintro e w' ⟨rfl, rfl⟩) | (go_at_call 31; refine HW.out.mono ?_; rintro e w' ⟨rfl, rfl⟩))
          clear HD HW
          go_loop [22] (fun i => ∃ k : Nat, k ≤ s.size ∧ i = .int .i64 (k : Int) ∧ (s.data.toList.drop k).all nmB = AL) (fun i => s.size - (intOf i).toNat)
          case atStart => exact ⟨0, Nat.zero_le _, rfl, HAL.out.symm⟩
          case round =>
            obtain ⟨k, hk, rfl, ha⟩ := hrel
            have HA := Lib.hid ha
            clear ha
            by_cases hlt : k < s.size
            · have hst := all_drop (p := nmB) (byte_at hlt)
              have HST := Lib.hid hst
              have HL := Lib.hid (letter_is s[k] w)
              have HG := Lib.hid (digit_is s[k] w)
              clear hst
              cases e1 : ltB s[k] with
              | true =>
                have hn : nmB s[k] = true := by unfold nmB; rw [e1]; rfl
                rw [e1] at HL
                rw [hn, Bool.true_and] at HST
                clear e1 hn
                go_wp2_with (go_at_call 32; refine HL.out.mono ?_; rintro e w' ⟨rfl, rfl⟩)
                go_round
                case rel => exact ⟨k + 1, by omega, by go_num, by rw [← HST.out]; exact HA.out⟩
                case measure => simp [intOf]; omega
              | false =>
                rw [e1] at HL
                cases e2 : dgB s[k] with
                | true =>
                  have hn : nmB s[k] = true := by unfold nmB; rw [e1, e2]; rfl
                  rw [e2] at HG
                  rw [hn, Bool.true_and] at HST
                  clear e1 e2 hn
                  go_wp2_with (first | (go_at_call 32; refine HL.out.mono ?_; rintro e w' ⟨rfl, rfl⟩) | (go_at_call 30; refine HG.out.mono ?_; rintro e w' ⟨rfl, rfl⟩))
                  go_round
                  case rel => exact ⟨k + 1, by omega, by go_num, by rw [← HST.out]; exact HA.out⟩
                  case measure => simp [intOf]; omega
                | false =>
                  have hn : nmB s[k] = false := by unfold nmB; rw [e1, e2]; rfl
                  rw [e2] at HG
                  rw [hn, Bool.false_and] at HST
                  clear e1 e2 hn
                  go_wp2_with (first | (go_at_call 32; refine HL.out.mono ?_; rintro e w' ⟨rfl, rfl⟩) | (go_at_call 30; refine HG.out.mono ?_; rintro e w' ⟨rfl, rfl⟩))
                  go_ret
                  exact ⟨ret_bool (by rw [← HA.out, HST.out]; rfl), rfl⟩
            · have hd : (s.data.toList.drop k).all nmB = true := by
                rw [List.drop_of_length_le (by rw [← Lib.size_eq]; omega)]; rfl
              have HD := Lib.hid hd
              clear hd
              go_wp2_with fail
              go_ret
              exact ⟨ret_bool (by rw [← HA.out, HD.out]), rfl⟩
    · have g1 : decide ((65536 : Int) < (s.size : Int)) = true := decide_eq_true (by omega)
      have hnb : nameB s = false := by
        unfold nameB
        rw [decide_eq_false h1]; simp
      rw [hnb]
      clear hnb
      go_enter Tryz.func19, Tryz.ntmps19
      go_wp2_with fail
      go_ret
      exact ⟨rfl, rfl⟩

def fldK (k : Int) : Int :=
  if k = 12 ∨ k = 13 then 1 else if k = 4 ∨ k = 20 then 2 else if k = 11 ∨ k = 27 then 10 else if k = 19 ∨ k = 26 ∨ k = 28 then 8 else if k = 7 ∨ k = 10 ∨ k = 31 ∨ k = 32 then 20 else if k = 5 then 4 else 0
theorem or_1 : bits .or .i64 2 8 = 10 := by kernel_rfl
theorem or_2 : bits .or .i64 0 8 = 8 := by kernel_rfl
theorem or_3 : bits .or .i64 16 4 = 20 := by kernel_rfl
theorem or_4 : bits .or .i64 0 4 = 4 := by kernel_rfl
set_option maxHeartbeats 2000000 in
theorem fieldsOf_any (k : Int) (w : World) : Calls Tryz.prog 17 #[.int .i64 k] w fun e w' => e = .returned (.int .i64 (fldK k)) ∧ w = w' := by
  go_enter Tryz.func17, Tryz.ntmps17
  go_wp2_with fail
  all_goals
    go_ret
    refine ⟨ret_i64 ?_, rfl⟩
    simp only [fldK]
    simp_all [or_1, or_2, or_3, or_4]
    try omega
end Go.Proofs.YtjlpklhibdkmeaaGreatDoor
