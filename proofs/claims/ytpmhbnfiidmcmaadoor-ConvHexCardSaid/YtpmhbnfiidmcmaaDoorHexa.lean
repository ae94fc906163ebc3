/- selkielaw03.ConvHex answers true at any text and any byte, wherever the table of powers lies as the program's text lays it. -/
import Derived.Test.YtpmhbnfiidmcmaaDoorMath5
import Derived.Test.YtpmhbnfiidmcmaaDoorDig
import Derived.LoopTactic
import Derived.Laws.IdiomStrings
namespace Go.Proofs.YtpmhbnfiidmcmaaDoor
open Go.RowKit Go.Sort

theorem str_add (a b : List UInt8) : (⟨a.toArray⟩ : ByteArray) ++ ⟨b.toArray⟩ = ⟨(a ++ b).toArray⟩ := by
  apply ByteArray.ext
  simp
theorem byte1 (c : UInt8) : strOfNums [(c.toNat : Int)] = ⟨#[c]⟩ := by
  rw [nums1]
  simp
theorem mk_list (l : List UInt8) : (⟨l.toArray⟩ : ByteArray).data.toList = l := rfl

/-- The block b holds the bytes l, the first k of them as great letters. -/
def UpTo (W : World) (b : Nat) (l : List UInt8) (k : Nat) : Prop :=
  ∀ (j : Nat) c, l[j]? = some c → W.cell? ⟨b, j, none⟩ = some (.int .u8 ((if j < k then upc c else c).toNat : Int)) ∧ W.frozen? ⟨b, j, none⟩ = false
theorem UpTo.at {W : World} {b : Nat} {l : List UInt8} {k : Nat} (h : UpTo W b l k) {c : UInt8} (hc : l[k]? = some c) : W.cell? ⟨b, k, none⟩ = some (.int .u8 (c.toNat : Int)) ∧ W.frozen? ⟨b, k, none⟩ = false := by
  have := h k c hc
  rw [if_neg (by omega)] at this
  exact this
theorem UpTo.keep {W : World} {b : Nat} {l : List UInt8} {k : Nat} (h : UpTo W b l k) {c : UInt8} (hc : l[k]? = some c) (hl : ¬ 97 ≤ c.toNat) : UpTo W b l (k + 1) := by
  intro j d hd
  by_cases e : j = k
  · subst e
    rw [hc] at hd
    obtain rfl := Option.some.inj hd
    rw [if_pos (by omega), upc_same hl]
    exact h.at hc
  · have := h j d hd
    by_cases hj : j < k
    · rw [if_pos hj] at this; rw [if_pos (by omega)]; exact this
    · rw [if_neg hj] at this; rw [if_neg (by omega)]; exact this
theorem UpTo.set {W : World} {b : Nat} {l : List UInt8} {k : Nat} (h : UpTo W b l k) {c : UInt8} (hc : l[k]? = some c) {v : Int} (hv : v = ((upc c).toNat : Int)) : UpTo (W.setCell ⟨b, k, none⟩ (.int .u8 v)) b l (k + 1) := by
  subst hv
  intro j d hd
  rw [World.frozen?_setCell]
  by_cases e : j = k
  · subst e
    rw [hc] at hd
    obtain rfl := Option.some.inj hd
    rw [if_pos (by omega)]
    exact ⟨World.cell?_setCell_same W _ _ (h.at hc).1, (h.at hc).2⟩
  · have := h j d hd
    rw [World.cell?_setCell_other W _ _ _ (by intro e'; injection e' with _ e2 _; omega)]
    by_cases hj : j < k
    · rw [if_pos hj] at this; rw [if_pos (by omega)]; exact this
    · rw [if_neg hj] at this; rw [if_neg (by omega)]; exact this

theorem bytes_made (s : ByteArray) (w : World) : ∃ (C : Nat) (W : World), (convert 9 35 (.string s)).run Tryd.prog w = .ok (.slice (some ⟨w.heap.size, 0, none⟩) s.size C) W ∧ Below w.heap.size w W ∧ UpTo W w.heap.size s.data.toList 0 := by
  refine ⟨_, _, run_bytes_of_string w 9 35 5 s Tryd.underlying9 Tryd.underlying35 Tryd.underlying5, ((Below.refl _ _).drew).alloc (Nat.le_refl _) _, ?_⟩
  intro j c hc
  have hj : j < s.size := by
    rw [Lib.size_eq]
    exact (List.getElem?_eq_some_iff.1 hc).1
  have e := World.cell?_alloc_mark w.drew (bytesRow s (grownCap w s.size 0 5)) 5 ((bytesRow s (grownCap w s.size 0 5)).size, (bytesRow s (grownCap w s.size 0 5)).size + 1) j
  have f := World.frozen?_alloc_mark w.drew (bytesRow s (grownCap w s.size 0 5)) 5 (bytesRow s (grownCap w s.size 0 5)).size ((bytesRow s (grownCap w s.size 0 5)).size + 1) j
  have hsz : s.size ≤ (bytesRow s (grownCap w s.size 0 5)).size := by
    unfold bytesRow
    rw [Array.size_append, Array.size_map]
    exact Nat.le_add_right _ _
  refine ⟨e.trans ?_, f.trans ?_⟩
  · rw [if_neg (by omega)]
    unfold bytesRow
    rw [Array.getElem?_append_left (by rw [Array.size_map]; exact hj), Array.getElem?_map]
    have : s.data[j]? = some c := by rw [← Array.getElem?_toList]; exact hc
    rw [this]
    rfl
  · rw [decide_eq_false (by omega)]
    rfl
theorem bytes_back (s : ByteArray) (C b : Nat) (W : World) (h : UpTo W b s.data.toList s.size) :
    (convert 35 9 (.slice (some ⟨b, 0, none⟩) s.size C)).run Tryd.prog W = .ok (.string ⟨(s.data.toList.map upc).toArray⟩) W := by
  have e := run_convert_bytes_back (P := Tryd.prog) W 35 9 5 ⟨b, 0, none⟩ C (s.data.toList.map upc) Tryd.underlying35 Tryd.underlying5 Tryd.underlying9 (fun j hj => by
    have hj' : j < s.data.toList.length := by simpa using hj
    have hplain : (⟨b, 0, none⟩ : Addr).add j = ⟨b, j, none⟩ := by unfold Addr.add; split <;> simp_all
    have hh := (h j _ (List.getElem?_eq_getElem hj')).1
    rw [if_pos (by rw [Lib.size_eq]; exact hj')] at hh
    rw [hplain, hh]
    simp)
  rw [List.length_map, ← Lib.size_eq] at e
  exact e

/-- What the program answers of hex digits. -/
theorem hex_calls (s : ByteArray) (hs0 : 0 < s.size) (hs1 : s.size ≤ 100) (h : allL s.data.toList = true) :
    ∃ A : Int, (∀ w : World, Calls Tryd.prog 9 #[.string (⟨#[48, 120]⟩ ++ s)] w fun e w' => e = .returned (.tuple #[.int .i64 A, .bool true]) ∧ w = w') ∧
      (∀ w : World, Calls Tryd.prog 9 #[.string (⟨#[48, 88]⟩ ++ ⟨(s.data.toList.map upc).toArray⟩)] w fun e w' => e = .returned (.tuple #[.int .i64 A, .bool true]) ∧ w = w') ∧
      (∀ w : World, Calls Tryd.prog 13 #[.string s, .int .i64 16] w fun e w' => e = .returned (.tuple #[.int .i64 A, .bool true]) ∧ Below w.heap.size w w') ∧
      (∀ w : World, Calls Tryd.prog 11 #[.string (⟨#[45, 48, 120]⟩ ++ s)] w fun e w' => e = .returned (.tuple #[.int .i64 (wrap64 (-A)), .bool true]) ∧ Below w.heap.size w w') ∧
      (∀ c : UInt8, 16 ≤ dgv c.toNat → ∃ x : Int, ∀ w : World, Calls Tryd.prog 9 #[.string (⟨#[48, 120]⟩ ++ s ++ ⟨#[c]⟩)] w fun e w' => e = .returned (.tuple #[.int .i64 x, .bool false]) ∧ w = w') := by
  have hl := emp_no s hs0
  have hn : s.data.toList.length ≤ 100 := by rw [← Lib.size_eq]; exact hs1
  have es : s = ⟨s.data.toList.toArray⟩ := (Lib.mk_data s).symm
  generalize s.data.toList = l at *
  subst es
  obtain ⟨a1, a2, b1, b2, c1, c2, d1, d2⟩ := hex_read h hl
  refine ⟨sgn (whN 16 l : Int), fun w => ?_, fun w => ?_, fun w => ?_, fun w => ?_, fun c hc => ⟨sgn (numN 9223372036854775807 (48 :: 120 :: (l ++ [c])) : Int), fun w => ?_⟩⟩
  · have hh := cNumeral ⟨(48 :: 120 :: l).toArray⟩ w (by rw [Lib.size_mk]; simp; omega)
    rw [mk_list, a1, a2] at hh
    rw [show (⟨#[48, 120]⟩ : ByteArray) ++ ⟨l.toArray⟩ = ⟨(48 :: 120 :: l).toArray⟩ from str_add [48, 120] l]
    exact hh
  · have hh := cNumeral ⟨(48 :: 88 :: l.map upc).toArray⟩ w (by rw [Lib.size_mk]; simp; omega)
    rw [mk_list, b1, b2] at hh
    rw [show (⟨#[48, 88]⟩ : ByteArray) ++ ⟨(l.map upc).toArray⟩ = ⟨(48 :: 88 :: l.map upc).toArray⟩ from str_add [48, 88] _]
    exact hh
  · have hh := cBase ⟨l.toArray⟩ 16 w (by rw [Lib.size_mk]; omega)
    rw [mk_list, c1, c2] at hh
    exact hh
  · have hh := cToInt ⟨(45 :: 48 :: 120 :: l).toArray⟩ w (by rw [Lib.size_mk]; simp; omega)
    rw [mk_list, d1, d2, ← sgn_neg, ← w64_sgn (-sgn _)] at hh
    rw [show (⟨#[45, 48, 120]⟩ : ByteArray) ++ ⟨l.toArray⟩ = ⟨(45 :: 48 :: 120 :: l).toArray⟩ from str_add [45, 48, 120] l]
    exact hh
  · have hh := cNumeral ⟨(48 :: 120 :: (l ++ [c])).toArray⟩ w (by rw [Lib.size_mk]; simp; omega)
    rw [mk_list, hex_more hc] at hh
    rw [show (⟨#[48, 120]⟩ : ByteArray) ++ ⟨l.toArray⟩ = ⟨(48 :: 120 :: l).toArray⟩ from str_add [48, 120] l, show (⟨(48 :: 120 :: l).toArray⟩ : ByteArray) ++ ⟨#[c]⟩ = ⟨(48 :: 120 :: (l ++ [c])).toArray⟩ from str_add (48 :: 120 :: l) [c]]
    exact hh

set_option maxHeartbeats 6400000 in
set_option maxRecDepth 100000 in
theorem hexa_mid (s : ByteArray) (c : UInt8) (w : World) (hT : Tab w) (hs0 : 0 < s.size) (hs1 : s.size ≤ 100) :
    Calls Tryd.prog 6 #[.string s, .int .u8 (c.toNat : Int)] w fun e w' => e = .returned (.bool true) ∧ Below w.heap.size w w' := by
  have HT := Lib.hid hT
  clear hT
  have hne : ((s.size : Int) == 0) = false := beq_eq_false_iff_ne.2 (by omega)
  go_enter Tryd.func6, Tryd.ntmps6
  go_wp2_with fail
  refine (alive_any _ HT.out).mono ?_; rintro e w1 ⟨rfl, b1⟩
  go_wp2_with fail
  go_loop [31] (fun i => ∃ k : Nat, k ≤ s.size ∧ i = .int .i64 k ∧ allL (s.data.toList.take k) = true) (fun i => s.size - (intOf i).toNat)
  case atStart => exact ⟨0, Nat.zero_le _, rfl, rfl⟩
  case round =>
    obtain ⟨k, hk, rfl, ha⟩ := hrel
    have HA := Lib.hid ha
    clear ha
    by_cases hlt : k < s.size
    · have hts := Lib.hid (take_snoc s k hlt)
      have has := Lib.hid (allL_snoc (s.data.toList.take k) s[k])
      rcases low_bytes s[k].toNat with ⟨hl, hr⟩ | ⟨hl, hr⟩
      · have HL := Lib.hid hl
        clear hl
        rcases hr with hr | hr
        · go_wp2_with fail
          go_round
          case rel => exact ⟨k + 1, by omega, by go_num, by rw [hts.out, has.out, HA.out, HL.out]; rfl⟩
          case measure => simp [intOf]; omega
        · have g1 : decide ((s[k].toNat : Int) ≤ 57) = false := by simp; omega
          have g2 : decide ((s[k].toNat : Int) ≤ 102) = true := by simp; omega
          go_wp2_with fail
          go_round
          case rel => exact ⟨k + 1, by omega, by go_num, by rw [hts.out, has.out, HA.out, HL.out]; rfl⟩
          case measure => simp [intOf]; omega
      · clear hl
        rcases hr with hr | hr | hr
        · have g1 : decide (48 ≤ (s[k].toNat : Int)) = false := by simp; omega
          have g2 : decide (97 ≤ (s[k].toNat : Int)) = false := by simp; omega
          go_wp2_with fail
          go_ret
          exact ⟨rfl, b1⟩
        · have g1 : decide ((s[k].toNat : Int) ≤ 57) = false := by simp; omega
          have g2 : decide (97 ≤ (s[k].toNat : Int)) = false := by simp; omega
          go_wp2_with fail
          all_goals
            go_ret
            exact ⟨rfl, b1⟩
        · have g1 : decide ((s[k].toNat : Int) ≤ 57) = false := by simp; omega
          have g2 : decide ((s[k].toNat : Int) ≤ 102) = false := by simp; omega
          go_wp2_with fail
          go_ret
          exact ⟨rfl, b1⟩
    · have hk' : k = s.size := by omega
      have ha := HA.out
      rw [hk', Lib.size_eq, List.take_length] at ha
      have HL := Lib.hid ha
      clear ha hk' HA
      obtain ⟨C, W, hcv, hbW, hU⟩ := bytes_made s w1
      have BW := Lib.hid hbW
      have HU := Lib.hid hU
      clear hbW hU
      go_wp2_with fail
      clear hcv
      go_loopw [57] (fun i wr => ∃ m : Nat, m ≤ s.size ∧ i = .int .i64 m ∧ Below w1.heap.size w1 wr ∧ UpTo wr w1.heap.size s.data.toList m) (fun i _ => s.size - (intOf i).toNat)
      case atStart => exact ⟨0, Nat.zero_le _, rfl, BW.out, HU.out⟩
      case round =>
        obtain ⟨m, hm, rfl, hbr, hur⟩ := hrel
        have BR := Lib.hid hbr
        have UR := Lib.hid hur
        clear hbr hur
        by_cases hlm : m < s.size
        · have hmc : s.data.toList[m]? = some s[m] := by rw [List.getElem?_eq_getElem (by rw [← Lib.size_eq]; exact hlm)]; rfl
          have HMC := Lib.hid hmc
          clear hmc
          obtain ⟨hcell, hfr⟩ := UR.out.at HMC.out
          have hle := u8le s[m]
          by_cases h97 : 97 ≤ s[m].toNat
          · have HV := Lib.hid (upc_num h97)
            go_wp2_with fail
            exact ⟨⟨m + 1, by omega, by go_num, BR.out.setCell (Nat.le_refl _) _, UR.out.set HMC.out (by rw [HV.out]; omega)⟩, by simp [intOf]; omega⟩
          · have hg : decide (97 ≤ (s[m].toNat : Int)) = false := by simp; omega
            go_wp2_with fail
            exact ⟨⟨m + 1, by omega, by go_num, BR.out, UR.out.keep HMC.out h97⟩, by simp [intOf]; omega⟩
        · obtain rfl : m = s.size := by omega
          have hback := fun (C : Nat) => bytes_back s C w1.heap.size wr UR.out
          obtain ⟨A, k1, k2, k3, k4, k5⟩ := hex_calls s hs0 hs1 HL.out
          have K1 := Lib.hid k1; have K2 := Lib.hid k2; have K3 := Lib.hid k3; have K4 := Lib.hid k4; have K5 := Lib.hid k5
          clear k1 k2 k3 k4 k5
          have hus : (⟨(s.data.toList.map upc).toArray⟩ : ByteArray).size ≤ 100 := by rw [Lib.size_mk, List.length_map, ← Lib.size_eq]; exact hs1
          generalize (⟨(s.data.toList.map upc).toArray⟩ : ByteArray) = U at hback K2 hus
          have B2 := Lib.hid (thenB b1 BR.out)
          clear BR UR BW HU b1
          have z1 : (⟨#[48, 120]⟩ : ByteArray).size = 2 := rfl
          have z2 : (⟨#[48, 88]⟩ : ByteArray).size = 2 := rfl
          have z3 : (⟨#[45, 48, 120]⟩ : ByteArray).size = 3 := rfl
          go_wp2_with fail
          refine (K1.out _).mono ?_; rintro e w2 ⟨rfl, rfl⟩
          go_wp2_with fail
          refine (K2.out _).mono ?_; rintro e w2 ⟨rfl, rfl⟩
          go_wp2_with fail
          refine (K3.out _).mono ?_; rintro e w2 ⟨rfl, b3⟩
          have B3 := Lib.hid (thenB B2.out b3)
          clear b3 B2 hback
          go_wp2_with fail
          refine (K4.out _).mono ?_; rintro e w3 ⟨rfl, b4⟩
          have B4 := Lib.hid (thenB B3.out b4)
          clear b4 B3
          have hcv := fun (x : World) => byte1 c ▸ conv1 (x.alloc (.cells #[.int .u8 (c.toNat : Int)] 5)) x.heap.size (c.toNat : Int) (by simp [go_sem])
          have z4 : (⟨#[c]⟩ : ByteArray).size = 1 := rfl
          have hc1 := u8le c
          go_wp2_with fail
          all_goals
            first
              | (go_ret; exact ⟨rfl, B4.out⟩)
              | (obtain ⟨x, hx⟩ := K5.out c (no_hex_dgv (by omega))
                 refine (hx _).mono ?_
                 rintro e w5 ⟨rfl, rfl⟩
                 go_wp2_with fail
                 go_ret
                 exact ⟨rfl, B4.out.alloc B4.out.size _⟩)

set_option maxHeartbeats 1600000 in
set_option maxRecDepth 100000 in
theorem hexa_out (s : ByteArray) (c : Int) (w : World) (hT : Tab w) (h : s.size = 0 ∨ 100 < s.size) :
    Calls Tryd.prog 6 #[.string s, .int .u8 c] w fun e w' => e = .returned (.bool true) ∧ Below w.heap.size w w' := by
  have HT := Lib.hid hT
  clear hT
  rcases h with h | h
  · have hne : ((s.size : Int) == 0) = true := by rw [h]; rfl
    clear h
    go_enter Tryd.func6, Tryd.ntmps6
    go_wp2_with fail
    refine (alive_any _ HT.out).mono ?_; rintro e w1 ⟨rfl, b1⟩
    go_wp2_with fail
    go_ret
    exact ⟨rfl, b1⟩
  · have hne : ((s.size : Int) == 0) = false := beq_eq_false_iff_ne.2 (by omega)
    go_enter Tryd.func6, Tryd.ntmps6
    go_wp2_with fail
    refine (alive_any _ HT.out).mono ?_; rintro e w1 ⟨rfl, b1⟩
    go_wp2_with fail
    go_ret
    exact ⟨rfl, b1⟩

theorem hexa_any (s : ByteArray) (c : Int) (w : World) (hT : Tab w) (hc0 : 0 ≤ c) (hc1 : c ≤ 255) :
    Calls Tryd.prog 6 #[.string s, .int .u8 c] w fun e w' => e = .returned (.bool true) ∧ Below w.heap.size w w' := by
  by_cases h : s.size = 0 ∨ 100 < s.size
  · exact hexa_out s c w hT h
  · obtain ⟨d, rfl⟩ : ∃ d : UInt8, c = (d.toNat : Int) := ⟨UInt8.ofNat c.toNat, by rw [UInt8.toNat_ofNat']; omega⟩
    exact hexa_mid s d w hT (by omega) (by omega)
end Go.Proofs.YtpmhbnfiidmcmaaDoor
