/- The document's trim: a text less its blanks at both ends. -/
import Derived.Test.YtpfdidggogddgaaDoorCDg
import Derived.Lib.Strings
import Derived.Lib.Walk
namespace Go.Proofs.YtpfdidggogddgaaDoor
open Go.RowKit Go.Sort

theorem bytes_blk (c : Nat) : (blkB c = true ∧ ((9 ≤ c ∧ c ≤ 13) ∨ c = 32)) ∨ (blkB c = false ∧ (c < 9 ∨ (13 < c ∧ c < 32) ∨ 32 < c)) := by
  unfold blkB
  by_cases h : (9 ≤ c ∧ c ≤ 13) ∨ c = 32
  · left
    refine ⟨?_, h⟩
    simp only [Bool.or_eq_true, decide_eq_true_eq]
    exact h
  · right
    refine ⟨?_, by omega⟩
    simp only [Bool.or_eq_false_iff, decide_eq_false_iff_not]
    omega

theorem ret_str {a b : ByteArray} (h : a = b) : Ending.returned (.string a) = .returned (.string b) := by rw [h]
theorem left_done (s t : ByteArray) (k : Nat) (hk : k ≤ s.data.toList.length) (ht : (⟨(s.data.toList.drop k).toArray⟩ : ByteArray) = t)
    (h1 : ∀ (j : Nat) b, j < k → s.data.toList[j]? = some b → blanks.contains b = true) (h2 : ∀ b, s.data.toList[k]? = some b → blanks.contains b = false) :
    t.data.toList = Lib.trimLeftS s.data.toList blanks := by
  rw [Lib.trimLeftS_drop s.data.toList blanks k hk h1 h2, ← ht]
theorem blk_of {l : List UInt8} {k : Nat} {c : UInt8} {r : Bool} (h : l[k]? = some c) (hc : blkB c.toNat = r) : ∀ b, l[k]? = some b → blanks.contains b = r := by
  intro b hb
  rw [h] at hb
  obtain rfl := Option.some.inj hb
  rw [blanks_has, hc]
theorem more_blk {l : List UInt8} {k : Nat} {c : UInt8} (hb : l[k]? = some c) (hc : blkB c.toNat = true)
    (h : ∀ (j : Nat) b, j < k → l[j]? = some b → blanks.contains b = true) : ∀ (j : Nat) b, j < k + 1 → l[j]? = some b → blanks.contains b = true := by
  intro j b hj hjb
  by_cases e : j = k
  · subst e; exact blk_of hb hc b hjb
  · exact h j b (by omega) hjb
theorem more_blk' {l : List UInt8} {k : Nat} {c : UInt8} (h0 : 0 < k) (hb : l[k - 1]? = some c) (hc : blkB c.toNat = true)
    (h : ∀ (j : Nat) b, k ≤ j → l[j]? = some b → blanks.contains b = true) : ∀ (j : Nat) b, k - 1 ≤ j → l[j]? = some b → blanks.contains b = true := by
  intro j b hj hjb
  by_cases e : j = k - 1
  · subst e; exact blk_of hb hc b hjb
  · exact h j b (by omega) hjb

/-- What the document's trim has come to behind its second loop. -/
theorem right_done (s t u : ByteArray) (k : Nat) (hk : k ≤ t.data.toList.length) (ht : t.data.toList = Lib.trimLeftS s.data.toList blanks) (hu : (⟨(t.data.toList.take k).toArray⟩ : ByteArray) = u)
    (h1 : ∀ (j : Nat) b, k ≤ j → t.data.toList[j]? = some b → blanks.contains b = true) (h2 : ∀ b, 0 < k → t.data.toList[k - 1]? = some b → blanks.contains b = false) :
    u = ⟨(trm s.data.toList).toArray⟩ := by
  rw [← trm_other, ← ht, Lib.trimRightS_take t.data.toList blanks k hk h1 h2, hu]

set_option maxHeartbeats 6400000 in
theorem rtrim_any (s : ByteArray) (w : World) (hs : s.size ≤ 9223372036854775807) :
    Calls Tryd.prog 49 #[.string s] w fun e w' => e = .returned (.string ⟨(trm s.data.toList).toArray⟩) ∧ w = w' := by
  go_enter Tryd.func49, Tryd.ntmps49
  go_wp2
  go_loop [0] (fun v => ∃ k : Nat, k ≤ s.size ∧ v = .string ⟨(s.data.toList.drop k).toArray⟩ ∧ ∀ (j : Nat) b, j < k → s.data.toList[j]? = some b → blanks.contains b = true) (fun v => Lib.strSize v)
  case atStart => exact ⟨0, Nat.zero_le _, by simp, fun j b hj => absurd hj (Nat.not_lt_zero _)⟩
  case round =>
    obtain ⟨k, hk, rfl, hc⟩ := hrel
    have hts : (⟨(s.data.toList.drop k).toArray⟩ : ByteArray).size = s.size - k := by rw [Lib.size_mk, List.length_drop, ← Lib.size_eq]
    have hb0 : ∀ h, s.data.toList[k]? = some ((⟨(s.data.toList.drop k).toArray⟩ : ByteArray)[0]'h) := by
      intro h
      rw [← Lib.getElem_mk (s.data.toList.drop k) 0 h, List.getElem?_drop]
      rfl
    have hx1 : (⟨(s.data.toList.drop k).toArray⟩ : ByteArray).extract 1 (s.size - k) = ⟨(s.data.toList.drop (k + 1)).toArray⟩ := by
      rw [Lib.extract_mk, List.drop_drop, List.take_of_length_le (by simp; omega)]
    have HK := Lib.hid hc
    clear hc
    generalize ht : (⟨(s.data.toList.drop k).toArray⟩ : ByteArray) = t at hts hb0 hx1 ⊢
    have HT := Lib.hid ht
    clear ht
    have HKL : Lib.Kept (k ≤ s.data.toList.length) := by rw [← Lib.size_eq]; exact hk
    by_cases h0 : 0 < t.size
    · have HB := Lib.hid (hb0 h0)
      have hle := u8le (t[0]'h0)
      clear hb0
      rcases bytes_blk (t[0]'h0).toNat with ⟨hblk, hr⟩ | ⟨hblk, hr⟩
      · have HBL := Lib.hid hblk
        clear hblk
        rcases hr with hr | hr
        all_goals
          go_wp2
          refine ⟨⟨k + 1, by omega, rfl, more_blk HB.out HBL.out HK.out⟩, ?_⟩
          rw [Lib.strSize_string, Lib.strSize_string, Lib.size_mk, List.length_drop, ← Lib.size_eq]
          omega
      · have HL := Lib.hid (left_done s t k HKL HT.out HK.out (blk_of HB.out hblk))
        have htl : t.size ≤ 9223372036854775807 := by omega
        clear hblk HKL HT HK HB hx1
        have hne : (((t[0]'h0).toNat : Int) == 32) = false := by simp; omega
        rcases hr with hr | hr | hr
        all_goals
          go_wp2
          go_loop [0] (fun v => ∃ k : Nat, k ≤ t.size ∧ v = .string ⟨(t.data.toList.take k).toArray⟩ ∧ ∀ (j : Nat) b, k ≤ j → t.data.toList[j]? = some b → blanks.contains b = true) (fun v => Lib.strSize v)
          case atStart =>
            refine ⟨t.size, Nat.le_refl _, ?_, fun j b hj hb => ?_⟩
            · rw [Lib.size_eq, List.take_length, Lib.mk_data]
            · have : t.data.toList.length ≤ j := by rw [← Lib.size_eq]; exact hj
              simp [List.getElem?_eq_none this] at hb
          case round =>
            obtain ⟨m, hm, rfl, hc⟩ := hrel
            have HK := Lib.hid hc
            clear hc
            have hml : m ≤ t.data.toList.length := by rw [← Lib.size_eq]; exact hm
            have hus : (⟨(t.data.toList.take m).toArray⟩ : ByteArray).size = m := by rw [Lib.size_mk, List.length_take]; omega
            have hb0 : ∀ h, t.data.toList[m - 1]? = some ((⟨(t.data.toList.take m).toArray⟩ : ByteArray)[m - 1]'h) := by
              intro h
              rw [← Lib.getElem_mk (t.data.toList.take m) (m - 1) h, List.getElem?_take]
              rw [hus] at h
              rw [if_pos h]
            have hx1 : (⟨(t.data.toList.take m).toArray⟩ : ByteArray).extract 0 (m - 1) = ⟨(t.data.toList.take (m - 1)).toArray⟩ := by
              rw [Lib.extract_mk, List.drop_zero, List.take_take]
              congr 3
              omega
            have HML := Lib.hid hml
            clear hml
            generalize hu : (⟨(t.data.toList.take m).toArray⟩ : ByteArray) = u at hus hb0 hx1 ⊢
            have HU := Lib.hid hu
            clear hu
            by_cases hm0 : 0 < m
            · have h1 : m - 1 < u.size := by omega
              have hwr : ((m : Int) - 1 + 9223372036854775808) % 18446744073709551616 - 9223372036854775808 = ((m - 1 : Nat) : Int) := by omega
              have HB := Lib.hid (hb0 h1)
              have hle' := u8le (u[m - 1]'h1)
              clear hb0
              rcases bytes_blk (u[m - 1]'h1).toNat with ⟨hblk, hr'⟩ | ⟨hblk, hr'⟩
              · have HBL := Lib.hid hblk
                clear hblk
                rcases hr' with hr' | hr'
                all_goals
                  go_wp2
                  refine ⟨⟨m - 1, by omega, rfl, more_blk' hm0 HB.out HBL.out HK.out⟩, ?_⟩
                  rw [Lib.strSize_string, Lib.strSize_string, Lib.size_mk, List.length_take, ← Lib.size_eq]
                  omega
              · have HD := Lib.hid (right_done s t u m HML.out HL.out HU.out HK.out (fun b _ hb => blk_of HB.out hblk b hb))
                have hne' : (((u[m - 1]'h1).toNat : Int) == 32) = false := by simp; omega
                clear hblk HML HU HK HB hx1
                rcases hr' with hr' | hr' | hr'
                all_goals
                  go_wp2
                  go_ret
                  exact ⟨ret_str HD.out, rfl⟩
            · have HD := Lib.hid (right_done s t u m HML.out HL.out HU.out HK.out (fun b h => absurd h hm0))
              clear hb0 HML HU HK hx1
              go_wp2
              go_ret
              exact ⟨ret_str HD.out, rfl⟩
    · have HL := Lib.hid (left_done s t k HKL HT.out HK.out (fun b hb => by
        have : s.data.toList.length ≤ k := by rw [← Lib.size_eq]; omega
        simp [List.getElem?_eq_none this] at hb))
      have htl : t.size ≤ 9223372036854775807 := by omega
      clear HKL HT HK hb0 hx1
      go_wp2
      go_loop [0] (fun v => ∃ k : Nat, k ≤ t.size ∧ v = .string ⟨(t.data.toList.take k).toArray⟩ ∧ ∀ (j : Nat) b, k ≤ j → t.data.toList[j]? = some b → blanks.contains b = true) (fun v => Lib.strSize v)
      case atStart =>
        refine ⟨t.size, Nat.le_refl _, ?_, fun j b hj hb => ?_⟩
        · rw [Lib.size_eq, List.take_length, Lib.mk_data]
        · have : t.data.toList.length ≤ j := by rw [← Lib.size_eq]; exact hj
          simp [List.getElem?_eq_none this] at hb
      case round =>
        obtain ⟨m, hm, rfl, hc⟩ := hrel
        have HK := Lib.hid hc
        clear hc
        have hml : m ≤ t.data.toList.length := by rw [← Lib.size_eq]; exact hm
        have hus : (⟨(t.data.toList.take m).toArray⟩ : ByteArray).size = m := by rw [Lib.size_mk, List.length_take]; omega
        have hb0 : ∀ h, t.data.toList[m - 1]? = some ((⟨(t.data.toList.take m).toArray⟩ : ByteArray)[m - 1]'h) := by
          intro h
          rw [← Lib.getElem_mk (t.data.toList.take m) (m - 1) h, List.getElem?_take]
          rw [hus] at h
          rw [if_pos h]
        have hx1 : (⟨(t.data.toList.take m).toArray⟩ : ByteArray).extract 0 (m - 1) = ⟨(t.data.toList.take (m - 1)).toArray⟩ := by
          rw [Lib.extract_mk, List.drop_zero, List.take_take]
          congr 3
          omega
        have HML := Lib.hid hml
        clear hml
        generalize hu : (⟨(t.data.toList.take m).toArray⟩ : ByteArray) = u at hus hb0 hx1 ⊢
        have HU := Lib.hid hu
        clear hu
        have hm0 : ¬ 0 < m := by omega
        have HD := Lib.hid (right_done s t u m HML.out HL.out HU.out HK.out (fun b h => absurd h hm0))
        clear hb0 HML HU HK hx1
        go_wp2
        go_ret
        exact ⟨ret_str HD.out, rfl⟩
end Go.Proofs.YtpfdidggogddgaaDoor
