/- str.Upper, Lower, Reverse: a string turned byte by byte, and from its last byte to its first. -/
import Derived.Test.YtnpmnielknmboaaGreatDoorSBuf
import Derived.LoopTactic
import Derived.RegionTactic
import Derived.ChangeAlike
namespace Go.Proofs.YtnpmnielknmboaaGreatDoor
open Go.RowKit Go.Sort

/-- The first n cells of block b are the values f, and none is frozen. -/
def Fam (W : World) (b n : Nat) (f : Nat → Value) : Prop := ∀ j, j < n → W.cell? ⟨b, j, none⟩ = some (f j) ∧ W.frozen? ⟨b, j, none⟩ = false
theorem Fam.eq_ {W : World} {b n : Nat} {f g : Nat → Value} (h : Fam W b n f) (he : ∀ j, j < n → f j = g j) : Fam W b n g := fun j hj => by rw [← he j hj]; exact h j hj
theorem Fam.set_ {W : World} {b n k : Nat} {f : Nat → Value} (h : Fam W b n f) (hk : k < n) (u : Value) : Fam (W.setCell ⟨b, k, none⟩ u) b n (fun j => if j = k then u else f j) := by
  intro j hj
  rw [World.frozen?_setCell]
  show _ = some (if j = k then u else f j) ∧ _
  by_cases e : j = k
  · subst e
    rw [if_pos rfl]
    exact ⟨World.cell?_setCell_same W _ _ (h j hj).1, (h j hj).2⟩
  · rw [if_neg e, World.cell?_setCell_other W _ _ _ (by intro e'; injection e' with _ e2 _; omega)]
    exact h j hj
theorem Fam.drew_ {W : World} {b n : Nat} {f : Nat → Value} (h : Fam W b n f) : Fam W.drew b n f := h
/-- The byte at a place. -/
def bt (l : List UInt8) (j : Nat) : Value := .int .u8 ((l.getD j 0).toNat : Int)

theorem bytes_made (s : ByteArray) (w : World) : ∃ (C : Nat) (W : World), (convert 9 44 (.string s)).run Tryz.prog w = .ok (.slice (some ⟨w.heap.size, 0, none⟩) s.size C) W ∧ Below w.heap.size w W ∧ Fam W w.heap.size s.size (bt s.data.toList) := by
  refine ⟨_, _, run_bytes_of_string w 9 44 5 s Tryz.underlying9 Tryz.underlying44 Tryz.underlying5, ((Below.refl _ _).drew).alloc (Nat.le_refl _) _, ?_⟩
  intro j hj
  have e := World.cell?_alloc_mark w.drew (bytesRow s (grownCap w s.size 0 5)) 5 ((bytesRow s (grownCap w s.size 0 5)).size, (bytesRow s (grownCap w s.size 0 5)).size + 1) j
  have f := World.frozen?_alloc_mark w.drew (bytesRow s (grownCap w s.size 0 5)) 5 (bytesRow s (grownCap w s.size 0 5)).size ((bytesRow s (grownCap w s.size 0 5)).size + 1) j
  have hsz : s.size ≤ (bytesRow s (grownCap w s.size 0 5)).size := by
    unfold bytesRow
    rw [Array.size_append, Array.size_map]
    exact Nat.le_add_right _ _
  have hjl : j < s.data.toList.length := by rw [← Lib.size_eq]; exact hj
  refine ⟨e.trans ?_, f.trans ?_⟩
  · unfold bytesRow
    rw [Array.getElem?_append_left (by rw [Array.size_map]; exact hj), Array.getElem?_map]
    have : s.data[j]? = some (s.data.toList.getD j 0) := by rw [← Array.getElem?_toList, List.getD_eq_getElem?_getD, List.getElem?_eq_getElem hjl]; rfl
    rw [this]
    rfl
  · rw [decide_eq_false (by omega)]
    rfl
theorem bytes_back (l : List UInt8) (C b : Nat) (W : World) (h : Fam W b l.length (bt l)) : (convert 44 9 (.slice (some ⟨b, 0, none⟩) l.length C)).run Tryz.prog W = .ok (.string ⟨l.toArray⟩) W :=
  run_convert_bytes_back (P := Tryz.prog) W 44 9 5 ⟨b, 0, none⟩ C l Tryz.underlying44 Tryz.underlying5 Tryz.underlying9 (fun j hj => by
    have hplain : (⟨b, 0, none⟩ : Addr).add j = ⟨b, j, none⟩ := by unfold Addr.add; split <;> simp_all
    have hh := (h j hj).1
    rw [hplain, hh]
    simp [bt, List.getD, hj])
theorem turn_step {f : UInt8 → UInt8} {l : List UInt8} {k : Nat} {W : World} {b n : Nat} {v : Int} (h : Fam W b n (fun j => if j < k then bt (l.map f) j else bt l j)) (hk : k < n) (hl : k < l.length) (hv : v = ((f (l.getD k 0)).toNat : Int)) :
    Fam (W.setCell ⟨b, k, none⟩ (.int .u8 v)) b n (fun j => if j < k + 1 then bt (l.map f) j else bt l j) := by
  refine (h.set_ hk _).eq_ fun j hj => ?_
  by_cases e : j = k
  · subst e
    rw [if_pos rfl, if_pos (by omega), hv]
    simp [bt, List.getD, hl]
  · rw [if_neg e]
    by_cases hjk : j < k
    · rw [if_pos hjk, if_pos (by omega)]
    · rw [if_neg hjk, if_neg (by omega)]
theorem turn_keep {f : UInt8 → UInt8} {l : List UInt8} {k : Nat} {W : World} {b n : Nat} (h : Fam W b n (fun j => if j < k then bt (l.map f) j else bt l j)) (hl : k < l.length) (hv : f (l.getD k 0) = l.getD k 0) :
    Fam W b n (fun j => if j < k + 1 then bt (l.map f) j else bt l j) := by
  refine h.eq_ fun j hj => ?_
  by_cases e : j = k
  · subst e
    rw [if_neg (by omega), if_pos (by omega)]
    have : (l.map f).getD j 0 = f (l.getD j 0) := by simp [List.getD, hl]
    simp only [bt, this, hv]
  · by_cases hjk : j < k
    · rw [if_pos hjk, if_pos (by omega)]
    · rw [if_neg hjk, if_neg (by omega)]

set_option maxHeartbeats 2000000 in
theorem turned_any (f : UInt8 → UInt8) (a z : Nat) (s : ByteArray) (w : World) (hs : s.size ≤ 1000000) (hin : ∀ c : UInt8, a ≤ c.toNat → c.toNat ≤ z → bits .xor .u8 (c.toNat : Int) 32 = ((f c).toNat : Int)) (hout : ∀ c : UInt8, ¬ (a ≤ c.toNat ∧ c.toNat ≤ z) → f c = c) :
    Calls Tryz.prog 25 #[.string s, .int .u8 (a : Int), .int .u8 (z : Int)] w fun e w' => e = .returned (.string ⟨(s.data.toList.map f).toArray⟩) ∧ Below w.heap.size w w' := by
  obtain ⟨C, W, hcv, hbW, hU⟩ := bytes_made s w
  have BW := Lib.hid hbW
  have HU := Lib.hid hU
  have HO := Lib.hid hout
  have HI := Lib.hid hin
  clear hbW hU hout hin
  go_enter Tryz.func25, Tryz.ntmps25
  go_wp2
  clear hcv
  go_loopw [14] (fun i wr => ∃ k : Nat, k ≤ s.size ∧ i = .int .i64 k ∧ Below w.heap.size w wr ∧ Fam wr w.heap.size s.size (fun j => if j < k then bt (s.data.toList.map f) j else bt s.data.toList j)) (fun i _ => s.size - (intOf i).toNat)
  case atStart => exact ⟨0, Nat.zero_le _, rfl, BW.out, HU.out.eq_ fun j _ => by rw [if_neg (by omega)]⟩
  case round =>
    obtain ⟨k, hk, rfl, hbr, hur⟩ := hrel
    have BR := Lib.hid hbr
    have UR := Lib.hid hur
    by_cases hlt : k < s.size
    · obtain ⟨hcell0, hfr⟩ := hur k hlt
      have hl : k < s.data.toList.length := by rw [← Lib.size_eq]; exact hlt
      have hcell : wr.cell? ⟨w.heap.size, k, none⟩ = some (.int .u8 ((s.data.toList.getD k 0).toNat : Int)) := hcell0.trans (by
        show some (if k < k then _ else bt s.data.toList k) = _
        rw [if_neg (by omega)]
        rfl)
      obtain ⟨c, hc⟩ : ∃ c : UInt8, c = s.data.toList.getD k 0 := ⟨_, rfl⟩
      rw [← hc] at hcell
      have HC := Lib.hid hc
      clear hc hbr hur hcell0
      by_cases h1 : a ≤ c.toNat
      · by_cases h2 : c.toNat ≤ z
        · have HV := Lib.hid (HI.out c h1 h2)
          go_wp2_with fail
          exact ⟨⟨k + 1, by omega, by go_num, BR.out.setCell (Nat.le_refl _) _, turn_step UR.out hlt hl (by rw [← HC.out]; exact HV.out)⟩, by simp [intOf]; omega⟩
        · have g2 : decide (c.toNat ≤ z) = false := decide_eq_false h2
          have HF := Lib.hid (HO.out c (by omega))
          go_wp2_with fail
          go_roundw
          case rel => exact ⟨k + 1, by omega, by go_num, BR.out, turn_keep UR.out hl (by rw [← HC.out]; exact HF.out)⟩
          case measure => simp [intOf]; omega
      · have g1 : decide (a ≤ c.toNat) = false := decide_eq_false h1
        have HF := Lib.hid (HO.out c (by omega))
        go_wp2_with fail
        go_roundw
        case rel => exact ⟨k + 1, by omega, by go_num, BR.out, turn_keep UR.out hl (by rw [← HC.out]; exact HF.out)⟩
        case measure => simp [intOf]; omega
    · have hall : Fam wr w.heap.size (s.data.toList.map f).length (bt (s.data.toList.map f)) := by
        rw [List.length_map, ← Lib.size_eq]
        exact hur.eq_ fun j hj => by rw [if_pos (by omega)]
      have hcv := bytes_back (s.data.toList.map f) C w.heap.size wr hall
      rw [List.length_map, ← Lib.size_eq] at hcv
      clear hall hbr hur
      go_wp2_with fail
      go_ret
      exact ⟨rfl, BR.out⟩

theorem up_xor (c : UInt8) (h1 : 97 ≤ c.toNat) (h2 : c.toNat ≤ 122) : bits .xor .u8 (c.toNat : Int) 32 = ((upC c).toNat : Int) := by
  have : ∀ n : Fin 256, 97 ≤ n.val → n.val ≤ 122 → bits .xor .u8 (n.val : Int) 32 = ((upC (UInt8.ofNat n.val)).toNat : Int) := by decide +kernel
  have h := this ⟨c.toNat, c.toNat_lt⟩ h1 h2
  simpa using h
theorem lo_xor (c : UInt8) (h1 : 65 ≤ c.toNat) (h2 : c.toNat ≤ 90) : bits .xor .u8 (c.toNat : Int) 32 = ((loC c).toNat : Int) := by
  have : ∀ n : Fin 256, 65 ≤ n.val → n.val ≤ 90 → bits .xor .u8 (n.val : Int) 32 = ((loC (UInt8.ofNat n.val)).toNat : Int) := by decide +kernel
  have h := this ⟨c.toNat, c.toNat_lt⟩ h1 h2
  simpa using h
set_option maxHeartbeats 1000000 in
theorem upper_any (s : ByteArray) (w : World) (hs : s.size ≤ 1000000) : Calls Tryz.prog 12 #[.string s] w fun e w' => e = .returned (.string ⟨(s.data.toList.map upC).toArray⟩) ∧ Below w.heap.size w w' := by
  have H := Lib.hid (fun W => turned_any upC 97 122 s W hs up_xor (fun c h => by unfold upC; rw [if_neg h]))
  go_enter Tryz.func12, Tryz.ntmps12
  go_wp2_with fail
  refine (H.out _).mono ?_; rintro e w1 ⟨rfl, b1⟩
  go_wp2_with fail
  go_ret
  exact ⟨rfl, b1⟩
set_option maxHeartbeats 1000000 in
theorem lower_any (s : ByteArray) (w : World) (hs : s.size ≤ 1000000) : Calls Tryz.prog 14 #[.string s] w fun e w' => e = .returned (.string ⟨(s.data.toList.map loC).toArray⟩) ∧ Below w.heap.size w w' := by
  have H := Lib.hid (fun W => turned_any loC 65 90 s W hs lo_xor (fun c h => by unfold loC; rw [if_neg h]))
  go_enter Tryz.func14, Tryz.ntmps14
  go_wp2_with fail
  refine (H.out _).mono ?_; rintro e w1 ⟨rfl, b1⟩
  go_wp2_with fail
  go_ret
  exact ⟨rfl, b1⟩

/-- The byte at a place behind i rounds of turning from both ends. -/
def rv (l : List UInt8) (i j : Nat) : Value := if j < i ∨ l.length ≤ j + i then bt l (l.length - 1 - j) else bt l j
theorem rv_none (l : List UInt8) (j : Nat) (hj : j < l.length) : rv l 0 j = bt l j := by unfold rv; rw [if_neg (by omega)]
theorem rv_all {l : List UInt8} {i j : Nat} (hi : l.length ≤ 2 * i + 1) (hj : j < l.length) : rv l i j = bt l.reverse j := by
  have e : bt l.reverse j = bt l (l.length - 1 - j) := by
    unfold bt
    rw [List.getD_eq_getElem?_getD, List.getD_eq_getElem?_getD, List.getElem?_reverse hj]
  rw [e]
  unfold rv
  by_cases h : j < i ∨ l.length ≤ j + i
  · rw [if_pos h]
  · rw [if_neg h, show l.length - 1 - j = j from by omega]
theorem rv_step {l : List UInt8} {W : World} {b i : Nat} (h : Fam W b l.length (rv l i)) (h2 : 2 * i + 1 < l.length) :
    Fam ((W.setCell ⟨b, i, none⟩ (bt l (l.length - 1 - i))).setCell ⟨b, l.length - 1 - i, none⟩ (bt l i)) b l.length (rv l (i + 1)) := by
  refine ((h.set_ (k := i) (by omega) _).set_ (k := l.length - 1 - i) (by omega) _).eq_ fun j hj => ?_
  show (if j = l.length - 1 - i then bt l i else if j = i then bt l (l.length - 1 - i) else rv l i j) = rv l (i + 1) j
  by_cases e1 : j = l.length - 1 - i
  · rw [if_pos e1]
    unfold rv
    rw [if_pos (by omega), show l.length - 1 - j = i from by omega]
  · rw [if_neg e1]
    by_cases e2 : j = i
    · rw [if_pos e2]
      unfold rv
      rw [if_pos (by omega), e2]
    · rw [if_neg e2]
      unfold rv
      by_cases h : j < i ∨ l.length ≤ j + i
      · rw [if_pos h, if_pos (by omega)]
      · rw [if_neg h, if_neg (by omega)]

set_option maxHeartbeats 2000000 in
set_option maxRecDepth 100000 in
theorem srev_any (l : List UInt8) (b C : Nat) (w : World) (hb : Fam w b l.length (bt l)) (hl : l.length ≤ 1000000) :
    Calls Tryz.prog 27 #[.slice (some ⟨b, 0, none⟩) l.length C] w fun e w' => e = .returned (.tuple #[]) ∧ Fam w' b l.length (bt l.reverse) ∧ Below b w w' := by
  have HB := Lib.hid hb
  clear hb
  go_enter Tryz.func27, Tryz.ntmps27
  go_wp2
  go_loopw [2, 3] (fun x y wr => ∃ i : Nat, 2 * i ≤ l.length + 1 ∧ x = .int .i64 i ∧ y = .int .i64 ((l.length : Int) - 1 - i) ∧ Fam wr b l.length (rv l i) ∧ Below b w wr) (fun x _ _ => l.length - (intOf x).toNat)
  case atStart => exact ⟨0, by omega, rfl, by simp, HB.out.eq_ fun j hj => (rv_none l j hj).symm, below2 _ _⟩
  case round =>
    obtain ⟨i, hi, rfl, rfl, hf, hbl⟩ := hrel
    have HF := Lib.hid hf
    have HBL := Lib.hid hbl
    by_cases hlt : 2 * i + 1 < l.length
    · obtain ⟨ci, fi⟩ := hf i (by omega)
      obtain ⟨cj, fj⟩ := hf (l.length - 1 - i) (by omega)
      have ei : rv l i i = bt l i := by unfold rv; rw [if_neg (by omega)]
      have ej : rv l i (l.length - 1 - i) = bt l (l.length - 1 - i) := by unfold rv; rw [if_neg (by omega)]
      rw [ei] at ci
      rw [ej] at cj
      clear ei ej hf hbl
      unfold bt at ci cj
      obtain ⟨x, hx⟩ : ∃ x : Int, x = ((l.getD i 0).toNat : Int) := ⟨_, rfl⟩
      obtain ⟨y, hy⟩ : ∃ y : Int, y = ((l.getD (l.length - 1 - i) 0).toNat : Int) := ⟨_, rfl⟩
      rw [← hx] at ci
      rw [← hy] at cj
      have HX := Lib.hid hx
      have HY := Lib.hid hy
      clear hx hy
      obtain ⟨k, hk⟩ : ∃ k : Nat, k = l.length - 1 - i := ⟨_, rfl⟩
      have hk' : (l.length : Int) - 1 - (i : Int) = (k : Int) := by omega
      rw [← hk] at cj fj
      have hik : i < k := by omega
      have hkl : k < l.length := by omega
      have HK := Lib.hid hk
      rw [hk']
      clear hk hk'
      go_wp2_with fail
      go_region
      have hst := rv_step HF.out hlt
      unfold bt at hst
      rw [← HX.out, ← HY.out, ← HK.out] at hst
      have HST := Lib.hid hst
      clear hst
      go_wp2
      go_roundw
      case rel => exact ⟨i + 1, by omega, by go_num, by have := HK.out; go_num, HST.out, ((HBL.out.setCell (p := ⟨b, i, none⟩) (Nat.le_refl _) _).setCell (p := ⟨b, k, none⟩) (Nat.le_refl _) _).drew⟩
      case measure => simp [intOf]; omega
    · have hd : decide ((i : Int) < (l.length : Int) - 1 - (i : Int)) = false := decide_eq_false (by omega)
      clear hf hbl
      go_wp2
      go_end0
      exact ⟨rfl, HF.out.eq_ fun j hj => rv_all (by omega) hj, HBL.out⟩

set_option maxHeartbeats 1000000 in
theorem reverse_any (s : ByteArray) (w : World) (hs : s.size ≤ 1000000) : Calls Tryz.prog 16 #[.string s] w fun e w' => e = .returned (.string ⟨s.data.toList.reverse.toArray⟩) ∧ Below w.heap.size w w' := by
  obtain ⟨C, W, hcv, hbW, hU⟩ := bytes_made s w
  have HS := Lib.hid (srev_any s.data.toList w.heap.size C W (by rw [← Lib.size_eq]; exact hU) (by rw [← Lib.size_eq]; exact hs))
  rw [← Lib.size_eq] at HS
  have BW := Lib.hid hbW
  clear hbW hU
  go_enter Tryz.func16, Tryz.ntmps16
  go_wp2_with fail
  refine HS.out.mono ?_; rintro e w1 ⟨rfl, f1, b1⟩
  have hcv2 := bytes_back s.data.toList.reverse C w.heap.size w1 (by rw [List.length_reverse, ← Lib.size_eq]; exact f1)
  rw [List.length_reverse, ← Lib.size_eq] at hcv2
  have B1 := Lib.hid (BW.out.trans b1)
  clear f1 b1 hcv
  go_wp2_with fail
  go_ret
  exact ⟨rfl, B1.out⟩
end Go.Proofs.YtnpmnielknmboaaGreatDoor
