/- The document's own answers of layer 1 on two values (Before, Less, Raw), told as the same plain functions; texts of at most 100000 bytes. -/
import Derived.Test.YtodlamblemmckaaDoorTri
import Derived.LoopTactic
import Derived.Deep.QuietTactic
import Derived.BigQuiet
namespace Go.Proofs.YtodlamblemmckaaDoor
open Go.RowKit Go.Sort

theorem toList_data (a : ByteArray) : a.toList = a.data.toList := ByteArray.toList_eq a

theorem drop_at (a : ByteArray) (k : Nat) (h : k < a.size) : a.data.toList.drop k = a[k] :: a.data.toList.drop (k + 1) := by
  rw [List.drop_eq_getElem_cons (by simpa using h)]; rfl
theorem drop_end (a : ByteArray) (k : Nat) (h : a.size ≤ k) : a.data.toList.drop k = [] := by
  apply List.drop_eq_nil_of_le; simpa using h

theorem below_draws {B : Nat} {a w : World} (h : Below B a w) (n : Nat) : Below B a (w.drewN n) := ⟨h.os, h.tape, h.output, h.size, h.block⟩

set_option maxHeartbeats 800000 in
theorem before_any (a b : ByteArray) (w : World) (ha : a.size ≤ 100000) (hb : b.size ≤ 100000) :
    Calls Tryd.prog 32 #[.string a, .string b] w fun e w' => e = .returned (.bool (Op.bytesLess a.toList b.toList)) ∧ Below w.heap.size w w' := by
  obtain ⟨r, hr⟩ : ∃ r, Op.bytesLess a.toList b.toList = r := ⟨_, rfl⟩
  rw [hr]
  rw [toList_data, toList_data] at hr
  have HR := Lib.hid hr
  clear hr
  go_enter Tryd.func32, Tryd.ntmps32
  go_wp2
  go_loopw [5] (fun i wr => ∃ k : Nat, k ≤ a.size ∧ k ≤ b.size ∧ i = .int .i64 k ∧ Hid (Op.bytesLess (a.data.toList.drop k) (b.data.toList.drop k) = r) ∧ Hid (Below w.heap.size w wr)) (fun i _ => a.size - (intOf i).toNat)
  case atStart => exact ⟨0, by omega, by omega, rfl, HR.out, Below.refl _ _⟩
  case round =>
    obtain ⟨k, hk, hk', rfl, hL, hB⟩ := hrel
    by_cases h1 : k < a.size
    · have g1 : (k : Int) < (a.size : Int) := by omega
      by_cases h2 : k < b.size
      · have g2 : (k : Int) < (b.size : Int) := by omega
        have g0 : (0 : Int) ≤ (k : Int) := by omega
        have hD : Hid (Op.bytesLess (a[k] :: a.data.toList.drop (k + 1)) (b[k] :: b.data.toList.drop (k + 1)) = r) := by
          have h := hL.out
          rw [drop_at a k h1, drop_at b k h2] at h
          exact h
        clear hL HR
        by_cases he : a[k] = b[k]
        · have e1 : ((a[k].toNat : Int) != (b[k].toNat : Int)) = false := by rw [he]; simp
          have HE := Lib.hid he
          clear he
          go_wp2
          go_quiet (fail)
          go_wp2
          go_roundw
          case rel => exact ⟨k + 1, by omega, by omega, by go_num, by
            have h := hD.out
            rw [HE.out] at h
            exact Lib.hid (by simpa [Op.bytesLess] using h), below_draws hB.out _⟩
          case measure => simp [intOf]; omega
        · have e1 : ((a[k].toNat : Int) != (b[k].toNat : Int)) = true := by
            simp only [bne_iff_ne, ne_eq]
            intro h
            exact he (UInt8.toNat_inj.1 (by omega))
          have e2 : decide (a[k].toNat < b[k].toNat) = r := by
            rw [← hD.out]
            simp [Op.bytesLess, he, UInt8.lt_iff_toNat_lt]
          have HE := Lib.hid e2
          clear he e2
          go_wp2
          go_quiet (fail)
          go_wp2
          go_quiet (fail)
          go_wp2
          go_ret
          exact ⟨(show Ending.returned (.bool (decide (a[k].toNat < b[k].toNat))) = _ by rw [HE.out]), below_draws (below_draws hB.out _) _⟩
      · have e : Op.bytesLess (a.data.toList.drop k) (b.data.toList.drop k) = false := by
          rw [drop_end b k (by omega)]; cases a.data.toList.drop k <;> rfl
        have g2 : decide ((k : Int) < (b.size : Int)) = false := by simp; omega
        have g3 : decide (a.size < b.size) = r := by
          rw [← hL.out, e]; simp; omega
        have HE := Lib.hid g3
        clear g3 hL e HR
        go_wp2
        go_ret
        exact ⟨(show Ending.returned (.bool (decide (a.size < b.size))) = _ by rw [HE.out]), hB.out⟩
    · have g2 : decide ((k : Int) < (a.size : Int)) = false := by simp; omega
      have g3 : decide (a.size < b.size) = r := by
        rw [← hL.out, drop_end a k (by omega)]
        by_cases h : k < b.size
        · rw [drop_at b k h]; simp [Op.bytesLess]; omega
        · rw [drop_end b k (by omega)]; simp [Op.bytesLess]; omega
      have HE := Lib.hid g3
      clear g3 hL HR
      go_wp2
      go_ret
      exact ⟨(show Ending.returned (.bool (decide (a.size < b.size))) = _ by rw [HE.out]), hB.out⟩

set_option maxHeartbeats 400000 in
theorem rstrange_any (k n : Int) (s : ByteArray) (w : World) :
    Calls Tryd.prog 28 #[V k n s] w fun e w' => e = .returned (.bool (strB k)) ∧ Below w.heap.size w w' := by
  by_cases h1 : k < 0
  · have e : strB k = true := by simp [strB]; omega
    rw [e]
    go_enter Tryd.func28, Tryd.ntmps28
    go_wp2
    go_ret
    exact ⟨rfl, below1 _ _⟩
  · have h2 : decide (k < 0) = false := by simpa using h1
    have e : strB k = decide (7 < k) := by simp [strB, h2]
    rw [e]
    go_enter Tryd.func28, Tryd.ntmps28
    go_wp2
    go_ret
    exact ⟨rfl, below1 _ _⟩

set_option maxHeartbeats 400000 in
theorem rless_any (k n j m : Int) (s t : ByteArray) (w : World) (hs : s.size ≤ 100000) (ht : t.size ≤ 100000) :
    Calls Tryd.prog 21 #[V k n s, V j m t] w fun e w' => e = .returned (.tuple #[.bool (lesB k n s j m t), .bool (lesO k j)]) ∧ Below w.heap.size w w' := by
  have HS := Lib.hid hs; have HT := Lib.hid ht
  clear hs ht
  by_cases h : k = j
  · subst h
    by_cases h2 : k = 2
    · subst h2
      have e : lesB 2 n s 2 m t = decide (n < m) := by simp [lesB]
      have e' : lesO 2 2 = true := rfl
      rw [e, e']
      clear e e'
      go_enter Tryd.func21, Tryd.ntmps21
      go_wp2
      go_ret2
      exact ⟨rfl, below2 _ _ _⟩
    · by_cases h3 : k = 3
      · subst h3
        have e : lesB 3 n s 3 m t = Op.bytesLess s.toList t.toList := by simp [lesB]
        have e' : lesO 3 3 = true := rfl
        rw [e, e']
        clear e e' h2
        go_enter Tryd.func21, Tryd.ntmps21
        go_wp2_with (go_at_call 32; refine (before_any _ _ _ HS.out HT.out).mono ?_; rintro e w' ⟨rfl, hb⟩)
        go_ret2
        exact ⟨rfl, thenB (below2 _ _ _) hb⟩
      · have e : lesB k n s k m t = false := by simp [lesB, h2, h3]
        have e' : lesO k k = false := by simp [lesO, h2, h3]
        rw [e, e']
        have g1 : (k == 2) = false := by simpa using h2
        have g2 : (k == 3) = false := by simpa using h3
        clear e e' h2 h3
        go_enter Tryd.func21, Tryd.ntmps21
        go_wp2
        go_ret2
        exact ⟨rfl, below2 _ _ _⟩
  · have e : lesB k n s j m t = false := by simp [lesB, h]
    have e' : lesO k j = false := by simp [lesO, h]
    rw [e, e']
    clear e e'
    by_cases h2 : k = 2
    · subst h2
      have g : (j == 2) = false := by simpa using fun e => h e.symm
      clear h
      go_enter Tryd.func21, Tryd.ntmps21
      go_wp2
      go_ret2
      exact ⟨rfl, below2 _ _ _⟩
    · have g1 : (k == 2) = false := by simpa using h2
      by_cases h3 : k = 3
      · subst h3
        have g : (j == 3) = false := by simpa using fun e => h e.symm
        clear h h2 g1
        go_enter Tryd.func21, Tryd.ntmps21
        go_wp2
        go_ret2
        exact ⟨rfl, below2 _ _ _⟩
      · have g2 : (k == 3) = false := by simpa using h3
        clear h h2 h3
        go_enter Tryd.func21, Tryd.ntmps21
        go_wp2
        go_ret2
        exact ⟨rfl, below2 _ _ _⟩

set_option maxHeartbeats 800000 in
theorem rraw_any (k n : Int) (s : ByteArray) (j m : Int) (t : ByteArray) (w : World) :
    Calls Tryd.prog 23 #[V k n s, V j m t] w fun e w' => e = .returned (.bool (rawB k n s j m t)) ∧ Below w.heap.size w w' := by
  by_cases hk : strB k = true
  · have e : rawB k n s j m t = false := by simp [rawB, hk]
    rw [e]
    by_cases h1 : k < 0
    · clear hk e
      go_enter Tryd.func23, Tryd.ntmps23
      go_wp2
      go_ret
      exact ⟨rfl, below3 _ _ _ _⟩
    · have h2 : decide (k < 0) = false := by simpa using h1
      have h3 : 7 < k := by simp [strB, h2] at hk; exact hk
      clear hk e
      go_enter Tryd.func23, Tryd.ntmps23
      go_wp2
      go_ret
      exact ⟨rfl, below3 _ _ _ _⟩
  · have hk0 : strB k = false := by simpa using hk
    have g1 : decide (k < 0) = false := by simp [strB] at hk0; simp; omega
    have g2 : decide (7 < k) = false := by simp [strB] at hk0; simp; omega
    by_cases hj : strB j = true
    · have e : rawB k n s j m t = false := by
        unfold rawB
        refine decide_eq_false fun h => ?_
        rw [h.1] at hk0
        rw [hk0] at hj
        exact Bool.noConfusion hj
      rw [e]
      by_cases h1 : j < 0
      · clear hk hk0 hj e
        go_enter Tryd.func23, Tryd.ntmps23
        go_wp2
        go_ret
        exact ⟨rfl, below4 _ _ _ _ _⟩
      · have h2 : decide (j < 0) = false := by simpa using h1
        have h3 : 7 < j := by simp [strB, h2] at hj; exact hj
        clear hk hk0 hj e
        go_enter Tryd.func23, Tryd.ntmps23
        go_wp2
        go_ret
        exact ⟨rfl, below4 _ _ _ _ _⟩
    · have hj0 : strB j = false := by simpa using hj
      have g3 : decide (j < 0) = false := by simp [strB] at hj0; simp; omega
      have g4 : decide (7 < j) = false := by simp [strB] at hj0; simp; omega
      by_cases hkj : k = j
      · subst hkj
        clear g3 g4 hj hj0 hk
        by_cases h0 : k = 0
        · subst h0
          have e : rawB 0 n s 0 m t = true := by simp [rawB, strB, ownN, ownS]
          rw [e]
          clear e g1 g2 hk0
          go_enter Tryd.func23, Tryd.ntmps23
          go_wp2
          go_ret
          exact ⟨rfl, below4 _ _ _ _ _⟩
        · by_cases h1 : k = 1
          · subst h1
            clear g1 g2 hk0 h0
            by_cases hn : n = 0 <;> by_cases hm : m = 0
            · subst hn; subst hm
              have e : rawB 1 0 s 1 0 t = true := by simp [rawB, strB, ownN, ownS]
              rw [e]
              clear e
              go_enter Tryd.func23, Tryd.ntmps23
              go_wp2
              go_ret
              exact ⟨rfl, below4 _ _ _ _ _⟩
            · subst hn
              have e : rawB 1 0 s 1 m t = false := by simp [rawB, strB, ownN, ownS, hm]
              rw [e]
              have g : (m == 0) = false := by simpa using hm
              clear e hm
              go_enter Tryd.func23, Tryd.ntmps23
              go_wp2
              go_ret
              exact ⟨rfl, below4 _ _ _ _ _⟩
            · subst hm
              have e : rawB 1 n s 1 0 t = false := by simp [rawB, strB, ownN, ownS, hn]
              rw [e]
              have g : (n == 0) = false := by simpa using hn
              clear e hn
              go_enter Tryd.func23, Tryd.ntmps23
              go_wp2
              go_ret
              exact ⟨rfl, below4 _ _ _ _ _⟩
            · have e : rawB 1 n s 1 m t = true := by simp [rawB, strB, ownN, ownS, hm, hn]
              rw [e]
              have g : (m == 0) = false := by simpa using hm
              have g' : (n == 0) = false := by simpa using hn
              clear e hm hn
              go_enter Tryd.func23, Tryd.ntmps23
              go_wp2
              go_ret
              exact ⟨rfl, below4 _ _ _ _ _⟩
          · by_cases h3 : k = 3
            · subst h3
              have e : rawB 3 n s 3 m t = (s.toList == t.toList) := by
                rw [Bool.eq_iff_iff]
                simp [rawB, strB, ownN, ownS]
              rw [e]
              clear g1 g2 hk0 h0 h1 e
              go_enter Tryd.func23, Tryd.ntmps23
              go_wp2
              go_ret
              exact ⟨rfl, below4 _ _ _ _ _⟩
            · have e : rawB k n s k m t = (n == m) := by
                rw [Bool.eq_iff_iff]
                simp [rawB, hk0, ownN, ownS, h0, h1, h3]
              rw [e]
              have g0 : (k == 0) = false := by simpa using h0
              have g3 : (k == 1) = false := by simpa using h1
              have g4 : (k == 3) = false := by simpa using h3
              clear hk0 h0 h1 h3 e
              go_enter Tryd.func23, Tryd.ntmps23
              go_wp2
              go_ret
              exact ⟨rfl, below4 _ _ _ _ _⟩
      · have e : rawB k n s j m t = false := by simp [rawB, hkj]
        rw [e]
        have g : (k != j) = true := by simpa using hkj
        clear hk hk0 hj hj0 hkj e
        go_enter Tryd.func23, Tryd.ntmps23
        go_wp2
        go_ret
        exact ⟨rfl, below4 _ _ _ _ _⟩
end Go.Proofs.YtodlamblemmckaaDoor
