/- selkielaw04.StrPieces answers true at any string, places and numbers. -/
import Derived.Test.YtnpmnielknmboaaGreatDoorSLive
import Derived.Test.YtnpmnielknmboaaGreatDoorPrf2
import Derived.Deep.RegionHeld3
namespace Go.Proofs.YtnpmnielknmboaaGreatDoor
open Go.RowKit Go.Sort

/-- The law's struct lies in block b. -/
def Cu (W : World) (b : Nat) (S : ByteArray) (i j : Int) : Prop := W.cell? ⟨b, 0, none⟩ = some (.string S) ∧ W.cell? ⟨b, 1, none⟩ = some (.int .i64 i) ∧ W.cell? ⟨b, 2, none⟩ = some (.int .i64 j)
theorem Cu.new (w : World) (t : TypeId) (S : ByteArray) (i j : Int) : Cu (w.alloc (.cells #[.string S, .int .i64 i, .int .i64 j] t)) w.heap.size S i j := by
  have hc := fun k => cell_of_row (w.alloc (.cells #[.string S, .int .i64 i, .int .i64 j] t)) w.heap.size k _ t (0, 0) (heap_alloc_new w _)
  exact ⟨hc 0, hc 1, hc 2⟩
theorem Cu.below {W W' : World} {b : Nat} {S : ByteArray} {i j : Int} (h : Cu W b S i j) (hb : Below W.heap.size W W') : Cu W' b S i j := by
  have hlt : b < W.heap.size := World.block_lt_of_cell? W _ h.1
  exact ⟨(hb.cell (p := ⟨b, 0, none⟩) hlt).trans h.1, (hb.cell (p := ⟨b, 1, none⟩) hlt).trans h.2.1, (hb.cell (p := ⟨b, 2, none⟩) hlt).trans h.2.2⟩
theorem Nums.form {W : World} {v : Value} {zs : List Int} (h : Nums W v zs) : ∃ A c, v = .slice A zs.length c := by
  rcases h with ⟨A, c, rfl, rfl⟩ | ⟨bk, o, c, rfl, _⟩
  · exact ⟨A, c, rfl⟩
  · exact ⟨_, _, rfl⟩

set_option maxHeartbeats 1000000 in
set_option maxRecDepth 100000 in
theorem pieces_far (S : ByteArray) (i j : Int) (A : Option Addr) (n c : Nat) (w : World) (hM : Mx w) (h : 3000 < S.size ∨ 3000 < n) :
    Calls Tryz.prog 3 #[.agg #[.string S, .int .i64 i, .int .i64 j], .slice A n c] w fun e w' => e = .returned (.bool true) ∧ Below w.heap.size w w' := by
  have HM := Lib.hid (hM.below (belowA w (.cells #[.string S, .int .i64 i, .int .i64 j] 23)))
  have HC := Lib.hid (Cu.new w 23 S i j)
  clear hM
  by_cases h1 : 3000 < S.size
  · clear h
    go_enter Tryz.func3, Tryz.ntmps3
    go_wp2_with fail
    refine (alive_any _ HM.out).mono ?_; rintro e w1 ⟨rfl, b1⟩
    obtain ⟨c0, c1, c2⟩ := HC.out.below b1
    have HB := Lib.hid (thenB (belowA w _) b1)
    clear b1
    go_wp2_with fail
    go_ret
    exact ⟨rfl, HB.out⟩
  · have g1 : decide (3000 < S.size) = false := decide_eq_false h1
    have h2 : 3000 < n := by omega
    clear h
    go_enter Tryz.func3, Tryz.ntmps3
    go_wp2_with fail
    refine (alive_any _ HM.out).mono ?_; rintro e w1 ⟨rfl, b1⟩
    obtain ⟨c0, c1, c2⟩ := HC.out.below b1
    have HB := Lib.hid (thenB (belowA w _) b1)
    clear b1
    go_wp2_with fail
    go_ret
    exact ⟨rfl, HB.out⟩

set_option maxHeartbeats 6000000 in
set_option maxRecDepth 100000 in
theorem pieces_near (S : ByteArray) (i j : Int) (A : Option Addr) (c : Nat) (zs : List Int) (w : World) (hM : Mx w) (hN : Nums w (.slice A zs.length c) zs) (hS : S.size ≤ 3000) (hz : zs.length ≤ 3000)
    (h0 : -9223372036854775808 ≤ i) (h1 : i ≤ 9223372036854775807) (g0 : -9223372036854775808 ≤ j) (g1 : j ≤ 9223372036854775807) :
    Calls Tryz.prog 3 #[.agg #[.string S, .int .i64 i, .int .i64 j], .slice A zs.length c] w fun e w' => e = .returned (.bool true) ∧ Below w.heap.size w w' := by
  have HM := Lib.hid (hM.below (belowA w (.cells #[.string S, .int .i64 i, .int .i64 j] 23)))
  have HC := Lib.hid (Cu.new w 23 S i j)
  have HN := Lib.hid hN
  have q1 : decide (3000 < S.size) = false := decide_eq_false (by omega)
  have q2 : decide (3000 < zs.length) = false := decide_eq_false (by omega)
  obtain ⟨cs, hcs⟩ : ∃ cs : ByteArray, cs = ⟨(chS zs).toArray⟩ := ⟨_, rfl⟩
  obtain ⟨cn, hcn⟩ : ∃ cn : Int, cn = chN zs := ⟨_, rfl⟩
  obtain ⟨p, hp⟩ : ∃ p : ByteArray, p = ⟨(subL S.data.toList i j).toArray⟩ := ⟨_, rfl⟩
  have C1 := Lib.hid (fun W hW => hcs ▸ hcn ▸ chars_any (.slice A zs.length c) zs W hW (by omega))
  have C2 := Lib.hid (fun W hW => hcs ▸ hcn ▸ rchars_any (.slice A zs.length c) zs W hW (by omega))
  have S1 := Lib.hid (fun W => hp ▸ sub_any S i j W (by omega) h0 h1 g0 g1)
  have S2 := Lib.hid (fun W => hp ▸ rsub_any S i j W (by omega) h0 h1 g0 g1)
  obtain ⟨u, hu⟩ : ∃ u : ByteArray, u = ⟨(S.data.toList.map upC).toArray⟩ := ⟨_, rfl⟩
  obtain ⟨d, hd⟩ : ∃ d : ByteArray, d = ⟨(S.data.toList.map loC).toArray⟩ := ⟨_, rfl⟩
  obtain ⟨r, hr⟩ : ∃ r : ByteArray, r = ⟨S.data.toList.reverse.toArray⟩ := ⟨_, rfl⟩
  have B1 := Lib.hid (fun W => bytes_any S i j W (by omega) h0 h1 g0 g1)
  have B2 := Lib.hid (fun W => rbytes_any S i j W (by omega) h0 h1 g0 g1)
  have I1 := Lib.hid (fun v v' W => ints_any v v' (nums (subL S.data.toList i j)) W (by unfold nums; rw [List.length_map]; have := sub_len S.data.toList i j; rw [← Lib.size_eq] at this; omega))
  have U1 := Lib.hid (fun W => hu ▸ upper_any S W (by omega))
  have U2 := Lib.hid (fun W => hu ▸ rupper_any S W (by omega))
  have D1 := Lib.hid (fun W => hd ▸ lower_any S W (by omega))
  have D2 := Lib.hid (fun W => hd ▸ rlower_any S W (by omega))
  have R1 := Lib.hid (fun W => hr ▸ reverse_any S W (by omega))
  have R2 := Lib.hid (fun W => hr ▸ rreverse_any S W (by omega))
  clear hM hN hcs hcn hp hu hd hr
  go_enter Tryz.func3, Tryz.ntmps3
  go_wp2_with fail
  refine (alive_any _ HM.out).mono ?_; rintro e w1 ⟨rfl, b1⟩
  have HC1 := Lib.hid (HC.out.below b1)
  obtain ⟨c0, c1, c2⟩ := HC1.out
  have HB := Lib.hid (thenB (belowA w _) b1)
  have HN1 := Lib.hid (HN.out.below HB.out)
  clear b1
  go_wp2_with fail
  refine (C1.out _ HN1.out).mono ?_; rintro e w2 ⟨rfl, b2⟩
  clear c0 c1 c2
  have HC2 := Lib.hid (HC1.out.below b2)
  have HB2 := Lib.hid (thenB HB.out b2)
  have HN2 := Lib.hid (HN1.out.below b2)
  clear b2
  go_wp2_with fail
  refine (C2.out _ HN2.out).mono ?_; rintro e w3 ⟨rfl, b3⟩
  have HC3 := Lib.hid (HC2.out.below b3)
  have HB3 := Lib.hid (thenB HB2.out b3)
  clear b3
  go_wp2_with fail
  clear HM HC HN C1 C2 HC1 HB HN1 HC2 HB2 HN2
  obtain ⟨b, hb⟩ : ∃ b : Nat, b = w.heap.size := ⟨_, rfl⟩
  rw [← hb] at HC3 ⊢
  have HBE := Lib.hid hb
  clear hb
  have k3 : Hid (Cu w3 b S i j) := HC3
  obtain ⟨c0, c1, c2⟩ := HC3.out
  clear HC3
  simp only [List.append_eq, List.cons_append, List.nil_append]
  go_region_held3 (fun w' => w'.cell? ⟨b, 0, none⟩ = some (.string S) ∧ w'.cell? ⟨b, 1, none⟩ = some (.int .i64 i) ∧ w'.cell? ⟨b, 2, none⟩ = some (.int .i64 j))
    (first | exact k17.out | exact k16.out | exact k15.out | exact k14.out | exact k13.out | exact k12.out | exact k9.out | exact k11.out | exact k10.out | exact k3.out)
    (first
      | (go_at_call 7; refine (S1.out _).mono ?_; rintro e w' ⟨rfl, rfl⟩)
      | (go_at_call 8; refine (S2.out _).mono ?_; rintro e w' ⟨rfl, rfl⟩)
      | (go_at_call 10; refine (B1.out _).mono ?_; rintro e w10 ⟨v10, rfl, n10, b10⟩; have N10 := Lib.hid n10; have k10 := Lib.hid (Cu.below (S := S) (i := i) (j := j) (b := b) (by exact k3.out) b10); have B10 := Lib.hid b10; clear n10 b10)
      | (go_at_call 11; refine (B2.out _).mono ?_; rintro e w11 ⟨v11, rfl, n11, b11⟩; have N11 := Lib.hid n11; have N10' := Lib.hid (N10.out.below b11); have k11 := Lib.hid (k10.out.below b11); have B11 := Lib.hid b11; clear n11 b11)
      | (go_at_call 9; refine (I1.out _ _ _ N10'.out N11.out).mono ?_; rintro e w9 ⟨rfl, b9⟩; have k9 := Lib.hid (k11.out.below b9); have B9 := Lib.hid b9; clear b9)
      | (go_at_call 12; refine (U1.out _).mono ?_; rintro e w12 ⟨rfl, b12⟩; have k12 := Lib.hid (k9.out.below b12); have B12 := Lib.hid b12; clear b12)
      | (go_at_call 13; refine (U2.out _).mono ?_; rintro e w13 ⟨rfl, b13⟩; have k13 := Lib.hid (k12.out.below b13); have B13 := Lib.hid b13; clear b13)
      | (go_at_call 14; refine (D1.out _).mono ?_; rintro e w14 ⟨rfl, b14⟩; have k14 := Lib.hid (k13.out.below b14); have B14 := Lib.hid b14; clear b14)
      | (go_at_call 15; refine (D2.out _).mono ?_; rintro e w15 ⟨rfl, b15⟩; have k15 := Lib.hid (k14.out.below b15); have B15 := Lib.hid b15; clear b15)
      | (go_at_call 16; refine (R1.out _).mono ?_; rintro e w16 ⟨rfl, b16⟩; have k16 := Lib.hid (k15.out.below b16); have B16 := Lib.hid b16; clear b16)
      | (go_at_call 17; refine (R2.out _).mono ?_; rintro e w17 ⟨rfl, b17⟩; have k17 := Lib.hid (k16.out.below b17); have B17 := Lib.hid b17; clear b17))
  go_wp2
  go_ret
  exact ⟨rfl, thenB (thenB (thenB (thenB (thenB (thenB (thenB (thenB (thenB HB3.out.drew B10.out) B11.out) B9.out) B12.out) B13.out) B14.out) B15.out) B16.out) B17.out⟩

theorem pieces_any (S : ByteArray) (i j : Int) (v : Value) (zs : List Int) (w : World) (hM : Mx w) (hv : Nums w v zs) (h0 : -9223372036854775808 ≤ i) (h1 : i ≤ 9223372036854775807) (g0 : -9223372036854775808 ≤ j) (g1 : j ≤ 9223372036854775807) :
    Calls Tryz.prog 3 #[.agg #[.string S, .int .i64 i, .int .i64 j], v] w fun e w' => e = .returned (.bool true) ∧ Below w.heap.size w w' := by
  obtain ⟨A, c, rfl⟩ := hv.form
  by_cases h : 3000 < S.size ∨ 3000 < zs.length
  · exact pieces_far S i j A zs.length c w hM h
  · exact pieces_near S i j A c zs w hM hv (by omega) (by omega) h0 h1 g0 g1
end Go.Proofs.YtnpmnielknmboaaGreatDoor
