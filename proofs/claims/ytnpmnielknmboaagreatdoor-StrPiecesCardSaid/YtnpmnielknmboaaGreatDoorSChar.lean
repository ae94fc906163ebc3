/- str.Bytes and Chars: a piece's bytes as numbers, and the string of bytes. -/
import Derived.Test.YtnpmnielknmboaaGreatDoorSTurn
import Derived.Laws.MakeOwn
namespace Go.Proofs.YtnpmnielknmboaaGreatDoor
open Go.RowKit Go.Sort

theorem ret_si' {a a' : ByteArray} {n n' : Int} (h : a = a') (h' : n = n') : Ending.returned (.tuple #[.string a, .int .i64 n]) = .returned (.tuple #[.string a', .int .i64 n']) := by rw [h, h']

theorem below_grown {w w' : World} (h : w.grownBy w' none) : Below w.heap.size w w' := ⟨h.os, h.tape, h.output, h.size, fun i hi => h.block i hi (by simp)⟩
theorem make_nums (n : Nat) (hn : n ≤ 1000000) (w : World) : ∃ W, (Instr.makeSlice 24 (.int .i64 (n : Int)) (.int .i64 (n : Int))).run Tryz.prog w = .ok (.slice (some ⟨w.heap.size, 0, none⟩) n n) W ∧ Below w.heap.size w W ∧ Fam W w.heap.size n (fun _ => .int .i64 0) := by
  obtain ⟨i0, hi0, hz0, hz1, hz2⟩ := info_parts info2
  obtain ⟨W, h1, h2, h3⟩ := run_make_full (P := Tryz.prog) w w.heap.size 24 2 i0 (.int .i64 0) 1 Tryz.underlying24 hi0 hz0 hz1 .i64 .i64 n (by rw [hz2]; omega) (by unfold maxLen; omega) (Nat.le_refl _)
  refine ⟨W, h1, below_grown h3, fun j hj => ⟨?_, h2.frozenAt j⟩⟩
  rw [h2.cellAt j (by omega)]
  show (madeCells #[.int .i64 0] (n * 1)).toList[j]? = _
  rw [toList_madeCells_one, List.getElem?_replicate, if_pos (by omega)]
theorem make_bytes (n : Nat) (hn : n ≤ 1000000) (w : World) : ∃ W, (Instr.makeSlice 44 (.int .i64 (n : Int)) (.int .i64 (n : Int))).run Tryz.prog w = .ok (.slice (some ⟨w.heap.size, 0, none⟩) n n) W ∧ Below w.heap.size w W ∧ Fam W w.heap.size n (fun _ => .int .u8 0) := by
  obtain ⟨i0, hi0, hz0, hz1, hz2⟩ := info_parts info5
  obtain ⟨W, h1, h2, h3⟩ := run_make_full (P := Tryz.prog) w w.heap.size 44 5 i0 (.int .u8 0) 1 Tryz.underlying44 hi0 hz0 hz1 .i64 .i64 n (by rw [hz2]; omega) (by unfold maxLen; omega) (Nat.le_refl _)
  refine ⟨W, h1, below_grown h3, fun j hj => ⟨?_, h2.frozenAt j⟩⟩
  rw [h2.cellAt j (by omega)]
  show (madeCells #[.int .u8 0] (n * 1)).toList[j]? = _
  rw [toList_madeCells_one, List.getElem?_replicate, if_pos (by omega)]

/-- A slice of numbers that reads as zs. -/
def Nums (W : World) (v : Value) (zs : List Int) : Prop :=
  (∃ A c, v = .slice A 0 c ∧ zs = []) ∨
  ∃ bk o c, v = .slice (some ⟨bk, o, none⟩) zs.length c ∧ 0 < zs.length ∧ bk < W.heap.size ∧ ∀ (j : Nat) z, zs[j]? = some z → W.cell? ⟨bk, o + j, none⟩ = some (.int .i64 z)
theorem Nums.below {W W' : World} {v : Value} {zs : List Int} (h : Nums W v zs) (hb : Below W.heap.size W W') : Nums W' v zs := by
  rcases h with h | ⟨bk, o, c, rfl, h0, hbk, hx⟩
  · exact .inl h
  · exact .inr ⟨bk, o, c, rfl, h0, Nat.lt_of_lt_of_le hbk hb.size, fun j x hj => (hb.cell (p := ⟨bk, o + j, none⟩) hbk).trans (hx j x hj)⟩
/-- Bytes as numbers. -/
def nums (l : List UInt8) : List Int := l.map fun c => (c.toNat : Int)

/-- What Bytes answers: a slice of the piece's bytes. -/
def BytesOf (l : List UInt8) (w : World) (e : Ending) (w' : World) : Prop := ∃ v, e = .returned v ∧ Nums w' v (nums l) ∧ Below w.heap.size w w'

set_option maxHeartbeats 2000000 in
theorem bytes_any (s : ByteArray) (i j : Int) (w : World) (hs : s.size ≤ 1000000) (h0 : -9223372036854775808 ≤ i) (h1 : i ≤ 9223372036854775807) (g0 : -9223372036854775808 ≤ j) (g1 : j ≤ 9223372036854775807) :
    Calls Tryz.prog 10 #[.string s, .int .i64 i, .int .i64 j] w (BytesOf (subL s.data.toList i j) w) := by
  obtain ⟨p, hp⟩ : ∃ p : ByteArray, p = ⟨(subL s.data.toList i j).toArray⟩ := ⟨_, rfl⟩
  have HSub := Lib.hid (fun W => hp ▸ sub_any s i j W (by omega) h0 h1 g0 g1)
  have hpl : p.data.toList = subL s.data.toList i j := by rw [hp]
  have hps : p.size ≤ 1000000 := by
    rw [Lib.size_eq, hpl]
    have := sub_len s.data.toList i j
    rw [← Lib.size_eq] at this
    omega
  obtain ⟨W, hmk, hbW, hF⟩ := make_nums p.size hps w
  have BW := Lib.hid hbW
  have HF := Lib.hid hF
  rw [← hpl]
  clear hbW hF hp hpl
  go_enter Tryz.func10, Tryz.ntmps10
  go_wp2_with fail
  refine (HSub.out _).mono ?_; rintro e w' ⟨rfl, rfl⟩
  go_wp2_with fail
  clear hmk
  go_loopw [19] (fun i wr => ∃ k : Nat, k ≤ p.size ∧ i = .int .i64 k ∧ Below w.heap.size w wr ∧ Fam wr w.heap.size p.size (fun j => if j < k then .int .i64 ((p.data.toList.getD j 0).toNat : Int) else .int .i64 0)) (fun i _ => p.size - (intOf i).toNat)
  case atStart => exact ⟨0, Nat.zero_le _, rfl, BW.out, HF.out.eq_ fun j _ => by rw [if_neg (by omega)]⟩
  case round =>
    obtain ⟨k, hk, rfl, hbr, hur⟩ := hrel
    have BR := Lib.hid hbr
    have UR := Lib.hid hur
    by_cases hlt : k < p.size
    · obtain ⟨hcell0, hfr⟩ := hur k hlt
      have hcell : wr.cell? ⟨w.heap.size, k, none⟩ = some (.int .i64 0) := hcell0.trans (by
        show some (if k < k then _ else _) = _
        rw [if_neg (by omega)])
      have hl : k < p.data.toList.length := by rw [← Lib.size_eq]; exact hlt
      have hle : p[k].toNat ≤ 255 := by have := p[k].toNat_lt; omega
      have hg : Hid (((p[k].toNat : Int)) = ((p.data.toList.getD k 0).toNat : Int)) := Lib.hid (by rw [List.getD_eq_getElem?_getD, List.getElem?_eq_getElem hl]; rfl)
      clear hbr hur hcell0
      go_wp2_with fail
      refine ⟨⟨k + 1, by omega, by go_num, BR.out.setCell (Nat.le_refl _) _, (UR.out.set_ hlt _).eq_ fun j hj => ?_⟩, by simp [intOf]; omega⟩
      by_cases e : j = k
      · rw [if_pos e, if_pos (by omega), e, hg.out]
      · rw [if_neg e]
        by_cases hjk : j < k
        · rw [if_pos hjk, if_pos (by omega)]
        · rw [if_neg hjk, if_neg (by omega)]
    · have hN : Nums wr (.slice (some ⟨w.heap.size, 0, none⟩) p.size p.size) (nums p.data.toList) := by
        have hll : (nums p.data.toList).length = p.size := by unfold nums; rw [List.length_map, ← Lib.size_eq]
        rcases Nat.eq_zero_or_pos p.size with h0 | h0
        · exact .inl ⟨_, _, by rw [h0], List.eq_nil_of_length_eq_zero (by omega)⟩
        · refine .inr ⟨w.heap.size, 0, p.size, by rw [hll], by omega, World.block_lt_of_cell? _ _ (hur 0 h0).1, fun j z hj => ?_⟩
          have hjl : j < p.size := by
            have := (List.getElem?_eq_some_iff.1 hj).1
            omega
          have hjl' : j < p.data.toList.length := by rw [← Lib.size_eq]; exact hjl
          rw [Nat.zero_add, (hur j hjl).1]
          show some (if j < k then _ else _) = _
          rw [if_pos (by omega)]
          unfold nums at hj
          rw [List.getElem?_map, List.getElem?_eq_getElem hjl'] at hj
          rw [List.getD_eq_getElem?_getD, List.getElem?_eq_getElem hjl']
          exact congrArg _ (congrArg _ (Option.some.inj hj))
      have HN := Lib.hid hN
      clear hN hbr hur
      go_wp2_with fail
      go_ret
      exact ⟨_, rfl, HN.out, BR.out⟩

/-- The string of bytes, and whether all are bytes. -/
def chB (zs : List Int) : Bool := zs.all fun z => decide (0 ≤ z) && decide (z ≤ 255)
def chL (zs : List Int) : List UInt8 := zs.map fun z => UInt8.ofNat z.toNat
def chS (zs : List Int) : List UInt8 := if chB zs then chL zs else []
def chN (zs : List Int) : Int := if chB zs then 0 else 1
theorem ch_yes {zs : List Int} (h : ∀ (j : Nat) z, zs[j]? = some z → 0 ≤ z ∧ z ≤ 255) : chS zs = chL zs ∧ chN zs = 0 := by
  have hb : chB zs = true := by
    unfold chB
    rw [List.all_eq_true]
    intro z hz
    obtain ⟨j, hj, rfl⟩ := List.getElem_of_mem hz
    have := h j _ (List.getElem?_eq_getElem hj)
    rw [decide_eq_true this.1, decide_eq_true this.2]
    rfl
  unfold chS chN
  rw [hb]
  exact ⟨rfl, rfl⟩
theorem ch_no {zs : List Int} {j : Nat} {z : Int} (hj : zs[j]? = some z) (h : ¬ (0 ≤ z ∧ z ≤ 255)) : chS zs = [] ∧ chN zs = 1 := by
  have hb : chB zs = false := by
    unfold chB
    rw [List.all_eq_false]
    refine ⟨z, List.mem_of_getElem? hj, ?_⟩
    simp only [Bool.and_eq_true, decide_eq_true_eq]
    exact h
  unfold chS chN
  rw [hb]
  exact ⟨rfl, rfl⟩
theorem ch_back (l : List UInt8) : chS (nums l) = l ∧ chN (nums l) = 0 := by
  have h := ch_yes (zs := nums l) (fun j z hj => by
    unfold nums at hj
    rw [List.getElem?_map] at hj
    cases e : l[j]? with
    | none => rw [e] at hj; cases hj
    | some c =>
      rw [e] at hj
      obtain rfl := Option.some.inj hj
      have := c.toNat_lt
      show 0 ≤ (c.toNat : Int) ∧ (c.toNat : Int) ≤ 255
      omega)
  refine ⟨h.1.trans ?_, h.2⟩
  unfold chL nums
  rw [List.map_map]
  conv => rhs; rw [← List.map_id l]
  apply List.map_congr_left
  intro c _
  simp

set_option maxHeartbeats 1000000 in
theorem isbyte_yes (z : Int) (w : World) (h : 0 ≤ z ∧ z ≤ 255) : Calls Tryz.prog 21 #[.int .i64 z] w fun e w' => e = .returned (.bool true) ∧ w = w' := by
  obtain ⟨h0, h1⟩ := h
  go_enter Tryz.func21, Tryz.ntmps21
  go_wp2
  go_ret
  exact ⟨rfl, rfl⟩
set_option maxHeartbeats 1000000 in
theorem isbyte_no (z : Int) (w : World) (h : ¬ (0 ≤ z ∧ z ≤ 255)) : Calls Tryz.prog 21 #[.int .i64 z] w fun e w' => e = .returned (.bool false) ∧ w = w' := by
  by_cases h0 : 0 ≤ z
  · have g : decide (z ≤ 255) = false := decide_eq_false (fun h1 => h ⟨h0, h1⟩)
    go_enter Tryz.func21, Tryz.ntmps21
    go_wp2
    go_ret
    exact ⟨rfl, rfl⟩
  · have g : decide (0 ≤ z) = false := decide_eq_false h0
    go_enter Tryz.func21, Tryz.ntmps21
    go_wp2
    go_ret
    exact ⟨rfl, rfl⟩

set_option maxHeartbeats 1000000 in
set_option maxRecDepth 100000 in
theorem chars_none (A : Option Addr) (c : Nat) (w : World) : Calls Tryz.prog 5 #[.slice A 0 c] w fun e w' => e = .returned (.tuple #[.string ⟨(chS []).toArray⟩, .int .i64 (chN [])]) ∧ Below w.heap.size w w' := by
  obtain ⟨W, hmk, hbW, hF⟩ := make_bytes 0 (by omega) w
  have BW := Lib.hid hbW
  have hcv := bytes_back [] 0 w.heap.size W (fun j hj => absurd hj (by simp))
  rw [List.length_nil] at hcv
  rw [show (((0 : Nat) : Int)) = 0 from rfl] at hmk
  clear hbW hF
  go_enter Tryz.func5, Tryz.ntmps5
  go_wp2
  go_loop [12] (fun i => i = .int .i64 0) (fun _ => 0)
  case atStart => exact rfl
  case round =>
    obtain rfl := hrel
    go_wp2
    go_ret2
    exact ⟨rfl, BW.out⟩

set_option maxHeartbeats 2000000 in
theorem chars_some (bk o c : Nat) (zs : List Int) (w : World) (hl : zs.length ≤ 1000000) (hbk : bk < w.heap.size) (hx : ∀ (j : Nat) z, zs[j]? = some z → w.cell? ⟨bk, o + j, none⟩ = some (.int .i64 z)) :
    Calls Tryz.prog 5 #[.slice (some ⟨bk, o, none⟩) zs.length c] w fun e w' => e = .returned (.tuple #[.string ⟨(chS zs).toArray⟩, .int .i64 (chN zs)]) ∧ Below w.heap.size w w' := by
  obtain ⟨W, hmk, hbW, hF⟩ := make_bytes zs.length hl w
  have BW := Lib.hid hbW
  have HF := Lib.hid hF
  have HX := Lib.hid hx
  clear hbW hF hx
  go_enter Tryz.func5, Tryz.ntmps5
  go_wp2
  clear hmk
  go_loopw [12] (fun i wr => ∃ k : Nat, k ≤ zs.length ∧ i = .int .i64 k ∧ Below w.heap.size w wr ∧ Fam wr w.heap.size zs.length (fun j => if j < k then bt (chL zs) j else .int .u8 0) ∧ ∀ j z, j < k → zs[j]? = some z → 0 ≤ z ∧ z ≤ 255) (fun i _ => zs.length - (intOf i).toNat)
  case atStart => exact ⟨0, Nat.zero_le _, rfl, BW.out, HF.out.eq_ fun j _ => by rw [if_neg (by omega)], fun _ _ h => absurd h (by omega)⟩
  case round =>
    obtain ⟨k, hk, rfl, hbr, hur, hall⟩ := hrel
    have BR := Lib.hid hbr
    have UR := Lib.hid hur
    have HA := Lib.hid hall
    by_cases hlt : k < zs.length
    · obtain ⟨hcell0, hfr⟩ := hur k hlt
      have hcell : wr.cell? ⟨w.heap.size, k, none⟩ = some (.int .u8 0) := hcell0.trans (by
        show some (if k < k then _ else _) = _
        rw [if_neg (by omega)])
      obtain ⟨z, hz⟩ : ∃ z, zs[k]? = some z := ⟨zs[k], List.getElem?_eq_getElem hlt⟩
      have hzc := (hbr.cell (p := ⟨bk, o + k, none⟩) hbk).trans (HX.out k z hz)
      have HZ := Lib.hid hz
      clear hbr hur hcell0 hall hz
      by_cases hb : 0 ≤ z ∧ z ≤ 255
      · have HI := Lib.hid (fun W => isbyte_yes z W hb)
        obtain ⟨hb0, hb1⟩ := hb
        go_wp2_with fail
        refine (HI.out _).mono ?_; rintro e w' ⟨rfl, rfl⟩
        go_wp2_with fail
        refine ⟨⟨k + 1, by omega, by go_num, BR.out.setCell (Nat.le_refl _) _, (UR.out.set_ hlt _).eq_ fun j hj => ?_, fun j y hj hy => ?_⟩, by simp [intOf]; omega⟩
        · by_cases e : j = k
          · rw [if_pos e, if_pos (by omega), e]
            have := HZ.out
            unfold bt chL
            rw [List.getD_eq_getElem?_getD, List.getElem?_map, this]
            show Value.int .u8 z = .int .u8 ((UInt8.ofNat z.toNat).toNat : Int)
            rw [UInt8.toNat_ofNat']
            exact congrArg _ (by omega)
          · rw [if_neg e]
            by_cases hjk : j < k
            · rw [if_pos hjk, if_pos (by omega)]
            · rw [if_neg hjk, if_neg (by omega)]
        · by_cases e : j = k
          · rw [e, HZ.out] at hy
            obtain rfl := Option.some.inj hy
            exact ⟨hb0, hb1⟩
          · exact HA.out j y (by omega) hy
      · have HI := Lib.hid (fun W => isbyte_no z W hb)
        have HR := Lib.hid (ch_no HZ.out hb)
        clear hb
        go_wp2_with fail
        refine (HI.out _).mono ?_; rintro e w' ⟨rfl, rfl⟩
        go_wp2_with fail
        go_ret2
        exact ⟨ret_si' (by rw [HR.out.1]) HR.out.2.symm, BR.out⟩
    · have HR := Lib.hid (ch_yes (zs := zs) (fun j z hj => hall j z (by have := (List.getElem?_eq_some_iff.1 hj).1; omega) hj))
      have hll : (chL zs).length = zs.length := by simp [chL]
      have hcv := bytes_back (chL zs) zs.length w.heap.size wr (by rw [hll]; exact hur.eq_ fun j hj => by rw [if_pos (by omega)])
      rw [hll] at hcv
      clear hbr hur hall hll
      go_wp2_with fail
      go_ret2
      exact ⟨ret_si' (by rw [HR.out.1]) HR.out.2.symm, BR.out⟩

theorem chars_any (v : Value) (zs : List Int) (w : World) (hv : Nums w v zs) (hl : zs.length ≤ 1000000) :
    Calls Tryz.prog 5 #[v] w fun e w' => e = .returned (.tuple #[.string ⟨(chS zs).toArray⟩, .int .i64 (chN zs)]) ∧ Below w.heap.size w w' := by
  rcases hv with ⟨A, c, rfl, rfl⟩ | ⟨bk, o, c, rfl, _, hbk, hx⟩
  · exact chars_none A c w
  · exact chars_some bk o c zs w hl hbk hx
end Go.Proofs.YtnpmnielknmboaaGreatDoor
