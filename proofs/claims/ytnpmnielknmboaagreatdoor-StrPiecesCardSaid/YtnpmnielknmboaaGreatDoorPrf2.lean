/- The document's Upper, Lower, Reverse and Chars, and the law's comparison of numbers. -/
import Derived.Test.YtnpmnielknmboaaGreatDoorPref
namespace Go.Proofs.YtnpmnielknmboaaGreatDoor
open Go.RowKit Go.Sort

theorem up_num (c : UInt8) (h1 : 97 ≤ c.toNat) (h2 : c.toNat ≤ 122) : ((upC c).toNat : Int) = (c.toNat : Int) + -32 := by
  have : ∀ n : Fin 256, 97 ≤ n.val → n.val ≤ 122 → ((upC (UInt8.ofNat n.val)).toNat : Int) = (n.val : Int) + -32 := by decide +kernel
  have h := this ⟨c.toNat, c.toNat_lt⟩ h1 h2
  simpa using h
theorem lo_num (c : UInt8) (h1 : 65 ≤ c.toNat) (h2 : c.toNat ≤ 90) : ((loC c).toNat : Int) = (c.toNat : Int) + 32 := by
  have : ∀ n : Fin 256, 65 ≤ n.val → n.val ≤ 90 → ((loC (UInt8.ofNat n.val)).toNat : Int) = (n.val : Int) + 32 := by decide +kernel
  have h := this ⟨c.toNat, c.toNat_lt⟩ h1 h2
  simpa using h

set_option maxHeartbeats 2000000 in
theorem rturned_any (f : UInt8 → UInt8) (a z : Nat) (d : Int) (s : ByteArray) (w : World) (hs : s.size ≤ 1000000) (ha : 65 ≤ a) (hz : z ≤ 122) (hd0 : -32 ≤ d) (hd1 : d ≤ 32) (hin : ∀ c : UInt8, a ≤ c.toNat → c.toNat ≤ z → ((f c).toNat : Int) = (c.toNat : Int) + d) (hout : ∀ c : UInt8, ¬ (a ≤ c.toNat ∧ c.toNat ≤ z) → f c = c) :
    Calls Tryz.prog 26 #[.string s, .int .u8 (a : Int), .int .u8 (z : Int), .int .i64 d] w fun e w' => e = .returned (.string ⟨(s.data.toList.map f).toArray⟩) ∧ Below w.heap.size w w' := by
  have HI := Lib.hid hin
  have HO := Lib.hid hout
  clear hin hout
  go_enter Tryz.func26, Tryz.ntmps26
  go_wp2
  go_loopw [9, 10] (fun o i wr => ∃ k : Nat, k ≤ s.size ∧ i = .int .i64 k ∧ BBuf wr w.heap.size o ((s.data.toList.take k).map f) ∧ Below w.heap.size w wr) (fun _ i _ => s.size - (intOf i).toNat)
  case atStart => exact ⟨0, Nat.zero_le _, rfl, BBuf.nil _ _, below2 _ _⟩
  case round =>
    obtain ⟨k, hk, rfl, hrow, hbl⟩ := hrel
    have HR := Lib.hid hrow
    have HBL := Lib.hid hbl
    have hsz := hbl.size
    by_cases hlt : k < s.size
    · have hl : k < s.data.toList.length := by rw [← Lib.size_eq]; exact hlt
      have HT : Hid ((s.data.toList.take (k + 1)).map f = (s.data.toList.take k).map f ++ [f s[k]]) := Lib.hid (by rw [take_more _ _ hl, List.map_append]; rfl)
      have hnl : ((s.data.toList.take k).map f).length ≤ 1000000 := by rw [List.length_map, List.length_take]; omega
      have hle : s[k].toNat ≤ 255 := by have := s[k].toNat_lt; omega
      clear hrow hbl
      by_cases h1 : a ≤ s[k].toNat
      · by_cases h2 : s[k].toNat ≤ z
        · have HV := Lib.hid (HI.out s[k] h1 h2)
          go_wp2_with (at_builtin; refine at_one _ (f s[k]) _ (by rw [HV.out]) rfl _ _ rfl w.heap.size _ _ rfl HR.out rfl hnl hsz ?_; intro v2 w2 hr2 hb2)
          go_roundw
          case rel => exact ⟨k + 1, by omega, by go_num, by rw [HT.out]; exact hr2, HBL.out.trans hb2⟩
          case measure => simp [intOf]; omega
        · have g2 : decide (s[k].toNat ≤ z) = false := decide_eq_false h2
          have HF := Lib.hid (HO.out s[k] (by omega))
          go_wp2_with (at_builtin; refine at_one _ (f s[k]) _ (by rw [HF.out]) rfl _ _ rfl w.heap.size _ _ rfl HR.out rfl hnl hsz ?_; intro v2 w2 hr2 hb2)
          go_roundw
          case rel => exact ⟨k + 1, by omega, by go_num, by rw [HT.out]; exact hr2, HBL.out.trans hb2⟩
          case measure => simp [intOf]; omega
      · have g1 : decide (a ≤ s[k].toNat) = false := decide_eq_false h1
        have HF := Lib.hid (HO.out s[k] (by omega))
        go_wp2_with (at_builtin; refine at_one _ (f s[k]) _ (by rw [HF.out]) rfl _ _ rfl w.heap.size _ _ rfl HR.out rfl hnl hsz ?_; intro v2 w2 hr2 hb2)
        go_roundw
        case rel => exact ⟨k + 1, by omega, by go_num, by rw [HT.out]; exact hr2, HBL.out.trans hb2⟩
        case measure => simp [intOf]; omega
    · have hall : s.data.toList.take k = s.data.toList := List.take_of_length_le (by rw [← Lib.size_eq]; omega)
      rw [hall] at hrow
      have hcv := buf_string hrow
      clear hrow hbl hall
      go_wp2_with fail
      go_ret
      exact ⟨rfl, HBL.out⟩
set_option maxHeartbeats 1000000 in
theorem rupper_any (s : ByteArray) (w : World) (hs : s.size ≤ 1000000) : Calls Tryz.prog 13 #[.string s] w fun e w' => e = .returned (.string ⟨(s.data.toList.map upC).toArray⟩) ∧ Below w.heap.size w w' := by
  have H := Lib.hid (fun W => rturned_any upC 97 122 (-32) s W hs (by omega) (by omega) (by omega) (by omega) up_num (fun c h => by unfold upC; rw [if_neg h]))
  go_enter Tryz.func13, Tryz.ntmps13
  go_wp2_with fail
  refine (H.out _).mono ?_; rintro e w1 ⟨rfl, b1⟩
  go_wp2_with fail
  go_ret
  exact ⟨rfl, b1⟩
set_option maxHeartbeats 1000000 in
theorem rlower_any (s : ByteArray) (w : World) (hs : s.size ≤ 1000000) : Calls Tryz.prog 15 #[.string s] w fun e w' => e = .returned (.string ⟨(s.data.toList.map loC).toArray⟩) ∧ Below w.heap.size w w' := by
  have H := Lib.hid (fun W => rturned_any loC 65 90 32 s W hs (by omega) (by omega) (by omega) (by omega) lo_num (fun c h => by unfold loC; rw [if_neg h]))
  go_enter Tryz.func15, Tryz.ntmps15
  go_wp2_with fail
  refine (H.out _).mono ?_; rintro e w1 ⟨rfl, b1⟩
  go_wp2_with fail
  go_ret
  exact ⟨rfl, b1⟩

theorem drop_rev (l : List UInt8) (k : Nat) (h : k < l.length) : (l.drop k).reverse = (l.drop (k + 1)).reverse ++ [l[k]] := by
  rw [List.drop_eq_getElem_cons h, List.reverse_cons]

set_option maxHeartbeats 2000000 in
theorem rreverse_any (s : ByteArray) (w : World) (hs : s.size ≤ 1000000) : Calls Tryz.prog 17 #[.string s] w fun e w' => e = .returned (.string ⟨s.data.toList.reverse.toArray⟩) ∧ Below w.heap.size w w' := by
  go_enter Tryz.func17, Tryz.ntmps17
  go_wp2
  go_loopw [3, 4] (fun o i wr => ∃ k : Nat, k ≤ s.size ∧ i = .int .i64 ((k : Int) - 1) ∧ BBuf wr w.heap.size o (s.data.toList.drop k).reverse ∧ Below w.heap.size w wr) (fun _ i _ => (intOf i + 1).toNat)
  case atStart => exact ⟨s.size, Nat.le_refl _, rfl, by rw [List.drop_eq_nil_of_le (by rw [← Lib.size_eq]; omega)]; exact BBuf.nil _ _, below2 _ _⟩
  case round =>
    obtain ⟨k, hk, rfl, hrow, hbl⟩ := hrel
    have HR := Lib.hid hrow
    have HBL := Lib.hid hbl
    have hsz := hbl.size
    rcases Nat.eq_zero_or_pos k with h0 | h0
    · subst h0
      rw [List.drop_zero] at hrow
      have hcv := buf_string hrow
      clear hrow hbl
      go_wp2_with fail
      go_ret
      exact ⟨rfl, HBL.out⟩
    · obtain ⟨m, rfl⟩ : ∃ m, k = m + 1 := ⟨k - 1, by omega⟩
      have hm : m < s.size := by omega
      have hl : m < s.data.toList.length := by rw [← Lib.size_eq]; exact hm
      have HT : Hid ((s.data.toList.drop m).reverse = (s.data.toList.drop (m + 1)).reverse ++ [s[m]]) := Lib.hid (drop_rev _ _ hl)
      have hnl : (s.data.toList.drop (m + 1)).reverse.length ≤ 1000000 := by rw [List.length_reverse, List.length_drop, ← Lib.size_eq]; omega
      rw [show (((m + 1 : Nat) : Int)) - 1 = (m : Int) from by omega]
      clear hrow hbl
      go_wp2_with (at_builtin; refine at_one _ s[m] _ rfl rfl _ _ rfl w.heap.size _ _ rfl HR.out rfl hnl hsz ?_; intro v2 w2 hr2 hb2)
      go_roundw
      case rel => exact ⟨m, by omega, rfl, by rw [HT.out]; exact hr2, HBL.out.trans hb2⟩
      case measure => simp [intOf]

set_option maxHeartbeats 1000000 in
theorem rchars_none (A : Option Addr) (c : Nat) (w : World) : Calls Tryz.prog 6 #[.slice A 0 c] w fun e w' => e = .returned (.tuple #[.string ⟨(chS []).toArray⟩, .int .i64 (chN [])]) ∧ Below w.heap.size w w' := by
  have hcv := buf_string (BBuf.nil w 0)
  go_enter Tryz.func6, Tryz.ntmps6
  go_wp2
  go_loop [4, 9] (fun o i => o = .slice none 0 0 ∧ i = .int .i64 0) (fun _ _ => 0)
  case atStart => exact ⟨rfl, rfl⟩
  case round =>
    obtain ⟨rfl, rfl⟩ := hrel
    go_wp2
    go_ret2
    exact ⟨rfl, below2 _ _⟩

set_option maxHeartbeats 2000000 in
theorem rchars_some (bk o c : Nat) (zs : List Int) (w : World) (hl : zs.length ≤ 1000000) (hbk : bk < w.heap.size) (hx : ∀ (j : Nat) z, zs[j]? = some z → w.cell? ⟨bk, o + j, none⟩ = some (.int .i64 z)) :
    Calls Tryz.prog 6 #[.slice (some ⟨bk, o, none⟩) zs.length c] w fun e w' => e = .returned (.tuple #[.string ⟨(chS zs).toArray⟩, .int .i64 (chN zs)]) ∧ Below w.heap.size w w' := by
  have HX := Lib.hid hx
  clear hx
  go_enter Tryz.func6, Tryz.ntmps6
  go_wp2
  go_loopw [4, 9] (fun ot i wr => ∃ k : Nat, k ≤ zs.length ∧ i = .int .i64 k ∧ BBuf wr w.heap.size ot (chL (zs.take k)) ∧ Below w.heap.size w wr ∧ ∀ j z, j < k → zs[j]? = some z → 0 ≤ z ∧ z ≤ 255) (fun _ i _ => zs.length - (intOf i).toNat)
  case atStart => exact ⟨0, Nat.zero_le _, rfl, BBuf.nil _ _, below2 _ _, fun _ _ h => absurd h (by omega)⟩
  case round =>
    obtain ⟨k, hk, rfl, hrow, hbl, hall⟩ := hrel
    have HR := Lib.hid hrow
    have HBL := Lib.hid hbl
    have HA := Lib.hid hall
    have hsz := hbl.size
    by_cases hlt : k < zs.length
    · obtain ⟨z, hz⟩ : ∃ z, zs[k]? = some z := ⟨zs[k], List.getElem?_eq_getElem hlt⟩
      have hzc := (hbl.cell (p := ⟨bk, o + k, none⟩) hbk).trans (HX.out k z hz)
      have HZ := Lib.hid hz
      have HT : Hid (chL (zs.take (k + 1)) = chL (zs.take k) ++ [UInt8.ofNat z.toNat]) := Lib.hid (by
        unfold chL
        rw [List.take_succ_eq_append_getElem hlt, List.map_append]
        rw [List.getElem?_eq_getElem hlt] at hz
        obtain rfl := Option.some.inj hz
        rfl)
      have hnl : (chL (zs.take k)).length ≤ 1000000 := by unfold chL; rw [List.length_map, List.length_take]; omega
      clear hrow hbl hall hz
      by_cases hb : 0 ≤ z ∧ z ≤ 255
      · have HV : Hid (((UInt8.ofNat z.toNat).toNat : Int) = z) := Lib.hid (by rw [UInt8.toNat_ofNat']; omega)
        obtain ⟨hb0, hb1⟩ := hb
        have q1 : decide (z < 0) = false := decide_eq_false (by omega)
        have q2 : decide (255 < z) = false := decide_eq_false (by omega)
        go_wp2_with (at_builtin; refine at_one _ (UInt8.ofNat z.toNat) _ (by rw [HV.out]) rfl _ _ rfl w.heap.size _ _ rfl HR.out rfl hnl hsz ?_; intro v2 w2 hr2 hb2)
        go_roundw
        case rel =>
          refine ⟨k + 1, by omega, by go_num, by rw [HT.out]; exact hr2, HBL.out.trans hb2, fun j y hj hy => ?_⟩
          by_cases e : j = k
          · rw [e, HZ.out] at hy
            obtain rfl := Option.some.inj hy
            exact ⟨hb0, hb1⟩
          · exact HA.out j y (by omega) hy
        case measure => simp [intOf]; omega
      · have HN := Lib.hid (ch_no HZ.out hb)
        by_cases h0 : z < 0
        · clear hb
          go_wp2_with fail
          go_ret2
          exact ⟨ret_si' (by rw [HN.out.1]) HN.out.2.symm, HBL.out⟩
        · have q1 : decide (z < 0) = false := decide_eq_false h0
          have q2 : 255 < z := by omega
          clear hb
          go_wp2_with fail
          go_ret2
          exact ⟨ret_si' (by rw [HN.out.1]) HN.out.2.symm, HBL.out⟩
    · have HN := Lib.hid (ch_yes (zs := zs) (fun j z hj => hall j z (by have := (List.getElem?_eq_some_iff.1 hj).1; omega) hj))
      have ht : zs.take k = zs := List.take_of_length_le (by omega)
      rw [ht] at hrow
      have hcv := buf_string hrow
      clear hrow hbl hall ht
      go_wp2_with fail
      go_ret2
      exact ⟨ret_si' (by rw [HN.out.1]) HN.out.2.symm, HBL.out⟩
theorem rchars_any (v : Value) (zs : List Int) (w : World) (hv : Nums w v zs) (hl : zs.length ≤ 1000000) :
    Calls Tryz.prog 6 #[v] w fun e w' => e = .returned (.tuple #[.string ⟨(chS zs).toArray⟩, .int .i64 (chN zs)]) ∧ Below w.heap.size w w' := by
  rcases hv with ⟨A, c, rfl, rfl⟩ | ⟨bk, o, c, rfl, _, hbk, hx⟩
  · exact rchars_none A c w
  · exact rchars_some bk o c zs w hl hbk hx

theorem below_drew {B : Nat} {a w : World} (h : Below B a w) (n : Nat) : Below B a (w.drewN n) := ⟨h.os, h.tape, h.output, h.size, h.block⟩
set_option maxHeartbeats 1000000 in
theorem ints_none (A A' : Option Addr) (c c' : Nat) (w : World) : Calls Tryz.prog 9 #[.slice A 0 c, .slice A' 0 c'] w fun e w' => e = .returned (.bool true) ∧ Below w.heap.size w w' := by
  go_enter Tryz.func9, Tryz.ntmps9
  go_wp2
  go_loop [13] (fun i => i = .int .i64 0) (fun _ => 0)
  case atStart => exact rfl
  case round =>
    obtain rfl := hrel
    go_wp2
    go_ret
    exact ⟨rfl, below2 _ _⟩
set_option maxHeartbeats 2000000 in
theorem ints_some (bk o c bk' o' c' : Nat) (zs : List Int) (w : World) (hl : zs.length ≤ 1000000) (hx : ∀ (j : Nat) z, zs[j]? = some z → w.cell? ⟨bk, o + j, none⟩ = some (.int .i64 z)) (hx' : ∀ (j : Nat) z, zs[j]? = some z → w.cell? ⟨bk', o' + j, none⟩ = some (.int .i64 z)) :
    Calls Tryz.prog 9 #[.slice (some ⟨bk, o, none⟩) zs.length c, .slice (some ⟨bk', o', none⟩) zs.length c'] w fun e w' => e = .returned (.bool true) ∧ Below w.heap.size w w' := by
  have HX := Lib.hid hx
  have HX' := Lib.hid hx'
  clear hx hx'
  go_enter Tryz.func9, Tryz.ntmps9
  go_wp2
  go_loopw [13] (fun i wr => ∃ k m : Nat, k ≤ zs.length ∧ i = .int .i64 k ∧ wr = w.drewN m) (fun i _ => zs.length - (intOf i).toNat)
  case atStart => exact ⟨0, 0, Nat.zero_le _, rfl, rfl⟩
  case round =>
    obtain ⟨k, m, hk, rfl, rfl⟩ := hrel
    by_cases hlt : k < zs.length
    · obtain ⟨z, hz⟩ : ∃ z, zs[k]? = some z := ⟨zs[k], List.getElem?_eq_getElem hlt⟩
      have c1 := HX.out k z hz
      have c2 := HX'.out k z hz
      clear hz
      go_wp2_with fail
      go_quiet (fail)
      go_wp2_with fail
      go_roundw
      case rel => exact ⟨k + 1, _, by omega, by go_num, by first | rfl | exact World.drewN_drewN _ _ _⟩
      case measure => simp [intOf]; omega
    · go_wp2_with fail
      go_ret
      exact ⟨rfl, below_drew (below2 _ _) _⟩
theorem ints_any (v v' : Value) (zs : List Int) (w : World) (hl : zs.length ≤ 1000000) (h : Nums w v zs) (h' : Nums w v' zs) : Calls Tryz.prog 9 #[v, v'] w fun e w' => e = .returned (.bool true) ∧ Below w.heap.size w w' := by
  rcases h with ⟨A, c, rfl, rfl⟩ | ⟨bk, o, c, rfl, h0, _, hx⟩
  · rcases h' with ⟨A', c', rfl, _⟩ | ⟨_, _, _, _, h0, _⟩
    · exact ints_none A A' c c' w
    · simp at h0
  · rcases h' with ⟨A', c', rfl, rfl⟩ | ⟨bk', o', c', rfl, _, _, hx'⟩
    · simp at h0
    · exact ints_some bk o c bk' o' c' zs w hl hx hx'
end Go.Proofs.YtnpmnielknmboaaGreatDoor
