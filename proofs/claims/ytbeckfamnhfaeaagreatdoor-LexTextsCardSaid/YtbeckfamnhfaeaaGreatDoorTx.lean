/- selkielaw05.LexTexts answers true at any text and number. -/
import Derived.Test.YtbeckfamnhfaeaaGreatDoorEq
import Derived.Test.YtbeckfamnhfaeaaGreatDoorPx
import Derived.Test.YtbeckfamnhfaeaaGreatDoorLexT
import Derived.Test.YtbeckfamnhfaeaaGreatDoorRw
namespace Go.Proofs.YtbeckfamnhfaeaaGreatDoor
open Go.RowKit

set_option maxHeartbeats 2000000 in
set_option maxRecDepth 100000 in
theorem texts_far (s : ByteArray) (n : Int) (w : World) (h : Env w) (hf : 500 < s.size) : Calls Tryz.prog 4 #[.string s, .int .i64 n] w fun e w' => e = .returned (.bool true) ∧ Below w.heap.size w w' := by
  have A1 := Lib.hid (alive_any w h)
  clear h
  go_enter Tryz.func4, Tryz.ntmps4
  go_wp2_with fail
  refine A1.out.mono ?_; rintro e w1 ⟨rfl, b1⟩
  go_wp2_with fail
  go_ret
  exact ⟨rfl, b1⟩

set_option maxHeartbeats 8000000 in
set_option maxRecDepth 100000 in
theorem texts_near (s : ByteArray) (n : Int) (w : World) (h : Env w) (hT : Tab w) (hs : s.size ≤ 500) (hn0 : -9223372036854775808 ≤ n) (hn1 : n ≤ 9223372036854775807) : Calls Tryz.prog 4 #[.string s, .int .i64 n] w fun e w' => e = .returned (.bool true) ∧ Below w.heap.size w w' := by
  have A1 := Lib.hid (alive_any w h)
  have HE := Lib.hid h
  have HT := Lib.hid hT
  have HN0 := Lib.hid hn0
  have HN1 := Lib.hid hn1
  have g1 : decide ((500 : Int) < (s.size : Int)) = false := decide_eq_false (by omega)
  have z48 : (⟨#[48]⟩ : ByteArray).size = 1 := rfl
  have z92 : (⟨#[92]⟩ : ByteArray).size = 1 := rfl
  have z34 : (⟨#[34]⟩ : ByteArray).size = 1 := rfl
  have z61 : (⟨#[61]⟩ : ByteArray).size = 1 := rfl
  have z91 : (⟨#[91]⟩ : ByteArray).size = 1 := rfl
  have z93 : (⟨#[93]⟩ : ByteArray).size = 1 := rfl
  have z9110 : (⟨#[91, 10]⟩ : ByteArray).size = 2 := rfl
  clear h hT hn0 hn1
  go_enter Tryz.func4, Tryz.ntmps4
  go_wp2_with fail
  refine A1.out.mono ?_; rintro e w1 ⟨rfl, b1⟩
  have E1 := Lib.hid (HE.out.below b1)
  have T1 := Lib.hid (HT.out.below b1)
  have B1 := Lib.hid b1
  clear b1
  go_wp2_with fail
  go_loopg [5, 7, 8, 24] s.size (fun z q lo ro ii wr => ∃ (k row lon : Nat) (X : ByteArray), k ≤ s.size ∧ s.size - k ≤ z ∧ ii = .int .i64 k ∧ q = .string X ∧ lo = .int .i64 lon ∧ ro = .int .i64 row ∧ X.data.toList = 34 :: escs (s.data.toList.take k) ∧ X.size = 1 + 4 * k ∧ Runs (s.data.toList.take k) row lon ∧ row ≤ k ∧ lon ≤ k ∧ Below w1.heap.size w1 wr)
  case atStart => exact ⟨0, 0, 0, ⟨#[34]⟩, Nat.zero_le _, by omega, rfl, rfl, rfl, rfl, rfl, rfl, Runs.nil, Nat.le_refl _, Nat.le_refl _, Below.refl _ _⟩
  case round =>
    obtain ⟨k, row, lon, X, hk, hz, rfl, rfl, rfl, rfl, hX, hXs, hrun, hrk, hlk, hbr⟩ := hrel
    have HX := Lib.hid hX
    have HRUN := Lib.hid hrun
    have HBR := Lib.hid hbr
    have HXs := Lib.hid hXs
    have hXb : X.size ≤ 2001 := by omega
    clear hX hrun hbr hXs
    by_cases hlt : k < s.size
    · obtain ⟨c, hc⟩ : ∃ c : UInt8, c = s[k] := ⟨_, rfl⟩
      have htake := take_snoc s k hlt
      rw [← hc] at htake
      have HTK := Lib.hid htake
      obtain ⟨d1, d2, d3', d4, d5, d6⟩ := d3_all c
      have hcl := c.toNat_lt
      have hsk : s[k] = c := hc.symm
      obtain ⟨D, hD⟩ : ∃ D : ByteArray, D = ⟨(Lib.itoa (c.toNat : Int)).toArray⟩ := ⟨_, rfl⟩
      have P1 := Lib.hid (fun W hW => cPrint (c.toNat : Int) W hW (by omega) (by omega))
      rw [← hD] at P1
      have hDs : D.size = (Lib.itoa (c.toNat : Int)).length := by rw [hD, mk_size]
      have HD := Lib.hid hD
      have HDs := Lib.hid hDs
      have HD1 := Lib.hid d1
      clear htake d1 d2 d3' d4 hc hD
      go_wp2_with fail
      refine (P1.out _ (T1.out.below HBR.out)).mono ?_; rintro e w2 ⟨rfl, b2⟩
      have HB2 := Lib.hid (HBR.out.trans (b2.mono HBR.out.size))
      clear b2
      rw [← hDs] at d5 d6
      clear hDs
      go_wp2_with fail
      go_loop [10] (fun dv => ∃ (j : Nat) (Y : ByteArray), dv = .string Y ∧ Y.data.toList = zers j D.data.toList ∧ Y.size = j + D.size ∧ j + D.size ≤ 3) (fun dv => match dv with | .string Y => 3 - Y.size | _ => 0)
      case atStart => exact ⟨0, D, rfl, rfl, by omega, by omega⟩
      case round =>
        obtain ⟨j, Y, rfl, hY, hYs, hj⟩ := hrel
        have HY := Lib.hid hY
        have HYs := Lib.hid hYs
        have hYb : Y.size ≤ 3 := by omega
        clear hY
        by_cases hj3 : Y.size < 3
        · clear hYs
          go_wp2_with fail
          go_round
          case rel => exact ⟨j + 1, _, rfl, by rw [nl_append, HY.out, zers_succ], by rw [ByteArray.size_append, z48, HYs.out]; omega, by have := HYs.out; omega⟩
          case measure => simp [ByteArray.size_append, z48]; omega
        · have hY3 : Y.data.toList = d3 c := by
            rw [HY.out, HD.out]
            show zers j (Lib.itoa (c.toNat : Int)) = zers (3 - (Lib.itoa (c.toNat : Int)).length) (Lib.itoa (c.toNat : Int))
            rw [show j = 3 - (Lib.itoa (c.toNat : Int)).length by have := HDs.out; omega]
          have HY3 := Lib.hid hY3
          clear hYs hY3
          by_cases hc61 : c = 61
          · subst hc61
            go_wp2_with fail
            go_roundg (s.size - (k + 1))
            case measure => omega
            case rel => exact ⟨k + 1, row + 1, max lon (row + 1), X ++ ((⟨#[92]⟩ : ByteArray) ++ Y), by omega, Nat.le_refl _, by go_num, rfl, by congr 1; omega, by go_num, by rw [nl_append, nl_append, HX.out, HY3.out, HTK.out, escs_app]; simp [escs], by rw [ByteArray.size_append, ByteArray.size_append, z92, HXs.out]; omega, by rw [HTK.out]; exact HRUN.out.eq, by omega, by omega, HB2.out⟩
          · have gc : ((c.toNat : Int) == 61) = false := beq_eq_false_iff_ne.2 (fun e => hc61 (UInt8.toNat_inj.1 (by show c.toNat = 61; omega)))
            go_wp2_with fail
            go_roundg (s.size - (k + 1))
            case measure => omega
            case rel => exact ⟨k + 1, 0, max lon 0, X ++ ((⟨#[92]⟩ : ByteArray) ++ Y), by omega, Nat.le_refl _, by go_num, rfl, by congr 1; omega, rfl, by rw [nl_append, nl_append, HX.out, HY3.out, HTK.out, escs_app]; simp [escs], by rw [ByteArray.size_append, ByteArray.size_append, z92, HXs.out]; omega, by rw [HTK.out]; exact HRUN.out.other hc61, by omega, by omega, HB2.out⟩
    · have hks : k = s.size := by omega
      have hka : s.data.toList.take k = s.data.toList := List.take_of_length_le (by rw [← Lib.size_eq]; omega)
      have hX' := HX.out
      have hrun' := HRUN.out
      rw [hka] at hX' hrun'
      have HX2 := Lib.hid hX'
      have HRUN2 := Lib.hid hrun'
      have hlon : lon ≤ 500 := by omega
      clear hX' hrun' hka hks
      go_wp2_with fail
      go_loop [6, 53] (fun lv ii => ∃ (j : Nat) (Y : ByteArray), lv = .string Y ∧ ii = .int .i64 j ∧ Y.data.toList = List.replicate j 61 ∧ Y.size = j ∧ j ≤ lon + 1) (fun _ ii => lon + 1 - (intOf ii).toNat)
      case atStart => exact ⟨0, ⟨#[]⟩, rfl, rfl, rfl, rfl, by omega⟩
      case round =>
        obtain ⟨j, Y, rfl, rfl, hY, hYs, hj⟩ := hrel
        have HY := Lib.hid hY
        have HYs := Lib.hid hYs
        have hYb : Y.size ≤ 501 := by omega
        clear hY hYs
        by_cases hjl : j < lon + 1
        · go_wp2_with fail
          go_round
          case rel => exact ⟨j + 1, _, rfl, by go_num, by rw [nl_append, HY.out, List.replicate_succ'], by rw [ByteArray.size_append, z61, HYs.out], by omega⟩
          case measure => simp [intOf]; omega
        · have hjj : j = lon + 1 := by omega
          have HYL : Hid (Y.data.toList = List.replicate (lon + 1) 61) := Lib.hid (by rw [HY.out, hjj])
          clear hjj
          have hS1 : (X ++ (⟨#[34]⟩ : ByteArray)).data.toList = 34 :: (escs s.data.toList ++ [34]) := by rw [nl_append, HX2.out]; rfl
          obtain ⟨a1, a2, hl1⟩ := text_pure (lastL (X ++ (⟨#[34]⟩ : ByteArray))) s.data.toList
          rw [← hS1] at hl1
          have L1 := Lib.hid (fun W (hW : Env W) => lex_ok (X ++ (⟨#[34]⟩ : ByteArray)) W (by rw [ByteArray.size_append, z34]; omega) hW hl1)
          have hS2 : ((⟨#[91]⟩ : ByteArray) ++ Y ++ (⟨#[91, 10]⟩ : ByteArray) ++ s ++ (⟨#[93]⟩ : ByteArray) ++ Y ++ (⟨#[93]⟩ : ByteArray)).data.toList = longOf lon s.data.toList := by
            rw [nl_append, nl_append, nl_append, nl_append, nl_append, nl_append, HYL.out]
            simp [longOf]
          obtain ⟨c1, c2, hl2⟩ := long_pure (lastL ((⟨#[91]⟩ : ByteArray) ++ Y ++ (⟨#[91, 10]⟩ : ByteArray) ++ s ++ (⟨#[93]⟩ : ByteArray) ++ Y ++ (⟨#[93]⟩ : ByteArray))) HRUN2.out
          rw [← hS2] at hl2
          have L2 := Lib.hid (fun W (hW : Env W) => lex_ok ((⟨#[91]⟩ : ByteArray) ++ Y ++ (⟨#[91, 10]⟩ : ByteArray) ++ s ++ (⟨#[93]⟩ : ByteArray) ++ Y ++ (⟨#[93]⟩ : ByteArray)) W (by rw [ByteArray.size_append, ByteArray.size_append, ByteArray.size_append, ByteArray.size_append, ByteArray.size_append, ByteArray.size_append, z91, z93, z9110]; omega) hW hl2)
          clear hS1 hl1 hS2 hl2
          have Ew := Lib.hid (E1.out.below HBR.out)
          have Tw := Lib.hid (T1.out.below HBR.out)
          have Bw := Lib.hid (then_below B1.out (Nat.le_refl _) HBR.out)
          have hss : s = ⟨s.data.toList.toArray⟩ := rfl
          have HSS := Lib.hid hss
          clear hss
          go_wp2_with fail
          refine (L1.out _ Ew.out).mono ?_; rintro e w3 ⟨v3, rfl, hv3, b3⟩
          obtain ⟨g3, cap3, rfl, hcap3, hgl3, hce3⟩ := hv3.ex
          have p0 : w3.cell? ⟨g3, 0, none⟩ = some (.int .i64 4) := (hce3 0 _ rfl).1
          have p3 : w3.cell? ⟨g3, 3, none⟩ = some (.string s) := (hce3 0 _ rfl).2.2.2
          have E3 := Lib.hid (Ew.out.below b3)
          have T3 := Lib.hid (Tw.out.below b3)
          have B3 := Lib.hid (then_below Bw.out (Nat.le_refl _) b3)
          clear hce3 hv3 b3 hcap3 hgl3
          go_wp2_with fail
          refine (L2.out _ E3.out).mono ?_; rintro e w4 ⟨v4, rfl, hv4, b4⟩
          obtain ⟨g4, cap4, rfl, hcap4, hgl4, hce4⟩ := hv4.ex
          clear p0 p3
          have p0 : w4.cell? ⟨g4, 0, none⟩ = some (.int .i64 4) := (hce4 0 _ rfl).1
          have p3 : w4.cell? ⟨g4, 3, none⟩ = some (.string s) := (hce4 0 _ rfl).2.2.2
          have E4 := Lib.hid (E3.out.below b4)
          have T4 := Lib.hid (T3.out.below b4)
          have B4 := Lib.hid (then_below B3.out (Nat.le_refl _) b4)
          clear hce4 hv4 b4 hcap4 hgl4
          by_cases hneg : n < 0
          · go_wp2_with fail
            go_ret
            exact ⟨rfl, B4.out⟩
          · have hN0 := HN0.out
            have hN1 := HN1.out
            have P5 := Lib.hid (fun W hW => cPrint n W hW hN0 hN1)
            obtain ⟨D, hD⟩ : ∃ D : ByteArray, D = ⟨(Lib.itoa n).toArray⟩ := ⟨_, rfl⟩
            rw [← hD] at P5
            have hDs : D.size ≤ 21 := by rw [hD, mk_size]; exact Lib.itoa_length_le n hN0 hN1
            obtain ⟨e1, e2, hl5⟩ := num_pure (lastL D) n (by omega) hN1
            rw [show Lib.itoa n = D.data.toList by rw [hD]] at hl5
            have L5 := Lib.hid (fun W (hW : Env W) => lex_ok D W (by omega) hW hl5)
            clear hD hl5
            go_wp2_with fail
            refine (P5.out _ T4.out).mono ?_; rintro e w5 ⟨rfl, b5⟩
            have E5 := Lib.hid (E4.out.below b5)
            have B5 := Lib.hid (then_below B4.out (Nat.le_refl _) b5)
            clear b5 p0 p3
            go_wp2_with fail
            refine (L5.out _ E5.out).mono ?_; rintro e w6 ⟨v6, rfl, hv6, b6⟩
            obtain ⟨g6, cap6, rfl, hcap6, hgl6, hce6⟩ := hv6.ex
            have p0 : w6.cell? ⟨g6, 0, none⟩ = some (.int .i64 3) := (hce6 0 _ rfl).1
            have p2 : w6.cell? ⟨g6, 2, none⟩ = some (.int .i64 n) := (hce6 0 _ rfl).2.2.1
            have B6 := Lib.hid (then_below B5.out (Nat.le_refl _) b6)
            clear hce6 hv6 b6 hcap6 hgl6
            go_wp2_with fail
            go_ret
            exact ⟨rfl, B6.out⟩
theorem texts_any (s : ByteArray) (n : Int) (w : World) (h : Env w) (hT : Tab w) (hn0 : -9223372036854775808 ≤ n) (hn1 : n ≤ 9223372036854775807) : Calls Tryz.prog 4 #[.string s, .int .i64 n] w fun e w' => e = .returned (.bool true) ∧ Below w.heap.size w w' := by
  by_cases hf : 500 < s.size
  · exact texts_far s n w h hf
  · exact texts_near s n w h hT (by omega) hn0 hn1
end Go.Proofs.YtbeckfamnhfaeaaGreatDoor
