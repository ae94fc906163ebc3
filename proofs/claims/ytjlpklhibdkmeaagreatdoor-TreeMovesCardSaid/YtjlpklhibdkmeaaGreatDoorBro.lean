/- selkielaw06.TreeBroken answers true at any tree, place and way. -/
import Derived.Test.YtjlpklhibdkmeaaGreatDoorBro3
import Derived.Test.YtjlpklhibdkmeaaGreatDoorRgt
import Derived.Test.YtjlpklhibdkmeaaGreatDoorPrn
import Derived.Test.YtjlpklhibdkmeaaGreatDoorGre
import Derived.Deep.RegionHeld3
import Derived.Deep.RegionLaw
namespace Go.Proofs.YtjlpklhibdkmeaaGreatDoor
open Go.RowKit

set_option maxHeartbeats 8000000 in
set_option maxRecDepth 20000 in
theorem broken_any (nv : Value) (T : List Nd) (r : Int) (at_ how : Int) (w : World) (hA : Arg w nv T) (hT : Tab w) (h0 : 0 ≤ how) (h255 : how ≤ 255) (ha0 : 0 ≤ at_) (ha1 : at_ ≤ 65535) :
    Calls Tryz.prog 5 #[.agg #[nv, .int .i64 r], .int .u16 at_, .int .u8 how] w fun e w' => e = .returned (.bool true) ∧ Below w.heap.size w w' := by
  have HA := Lib.hid hA
  obtain ⟨A, c, rfl, hc, _⟩ := hA.nodes
  have HT := Lib.hid hT
  have HB0 := Lib.hid (b_alloc w (.cells #[.slice A T.length c, .int .i64 r] 24))
  have HBX := Lib.hid (fun W (hW : Below (w.heap.size + 1) (w.alloc (.cells #[.slice A T.length c, .int .i64 r] 24)) W) => And.intro ((hW.cell (p := ⟨w.heap.size, 0, none⟩) (Nat.lt_succ_self _)).trans (acell w #[.slice A T.length c, .int .i64 r] 24 0)) ((hW.cell (p := ⟨w.heap.size, 1, none⟩) (Nat.lt_succ_self _)).trans (acell w #[.slice A T.length c, .int .i64 r] 24 1)))
  have HTV : Hid (∀ W, Below w.heap.size w W → TreeV W (.agg #[.slice A T.length c, .int .i64 r]) T r) := Lib.hid fun W h => ⟨_, rfl, (HA.out.below h).nodes⟩
  clear hA hT
  go_enter Tryz.func5, Tryz.ntmps5
  go_wp2_with fail
  refine (alive_any _ (HT.out.below HB0.out)).mono ?_; rintro e w1 ⟨rfl, b1⟩
  have HB1 := Lib.hid (thenB HB0.out b1)
  rw [asize] at b1
  have HX1 := Lib.hid b1
  obtain ⟨x0, x1⟩ := HBX.out _ b1
  clear b1
  go_wp2_with fail
  refine (great_any _ T r w1 (HTV.out _ HB1.out) HA.out.rd).mono ?_; rintro e w2 ⟨gb, rfl, hgb, b2⟩
  have HB2 := Lib.hid (thenB HB1.out b2)
  have HX2 := Lib.hid (HX1.out.trans (b2.mono (by have := HX1.out.size; rw [asize] at this; exact this)))
  obtain ⟨x0, x1⟩ := HBX.out _ HX2.out
  clear b2
  cases gb with
  | true =>
    clear hgb
    go_wp2_with fail
    go_ret
    exact ⟨rfl, HB2.out⟩
  | false =>
    obtain ⟨hl, hng⟩ := hgb rfl
    have HNG := Lib.hid hng
    have HSM := Lib.hid (HA.out.sm hl hng)
    clear hng hgb
    go_wp2_with fail
    refine (right_any _ T r w2 (HTV.out _ HB2.out) HSM.out.szd).mono ?_; rintro e w3 ⟨rfl, b3⟩
    have HB3 := Lib.hid (thenB HB2.out b3)
    have HX3 := Lib.hid (HX2.out.trans (b3.mono (by have := HX2.out.size; rw [asize] at this; exact this)))
    obtain ⟨x0, x1⟩ := HBX.out _ HX3.out
    clear b3
    cases hrt : rightK T r with
    | false =>
      clear hrt
      go_wp2_with fail
      go_ret
      exact ⟨rfl, HB3.out⟩
    | true =>
      have HRT := Lib.hid hrt
      clear hrt
      go_wp2_with fail
      refine (copy_any _ T r w3 (HA.out.below HB3.out).nodes (HA.out.below HB3.out).nil_ hl HNG.out).mono ?_; rintro e w4 ⟨nvc, vs, rfl, hcop, ⟨NA, nc, rfl⟩, b4⟩
      have HB4 := Lib.hid (thenB HB3.out b4)
      have HX4 := Lib.hid (HX3.out.trans (b4.mono (by have := HX3.out.size; rw [asize] at this; exact this)))
      have hsz4 := b4.size
      have hsz3 := HB3.out.size
      have hlt4 : w.heap.size < w4.heap.size := by have := HX4.out.size; rw [asize] at this; exact this
      obtain ⟨_, hr0, hr1, _⟩ : deepT T r ≠ 0 ∧ 0 ≤ r ∧ r < T.length ∧ True := by
        obtain ⟨d, m, _, h0, h1⟩ := right_snd fieldsK koK soK HRT.out
        exact ⟨((right_split fieldsK koK soK).1 HRT.out).1, h0, by omega, trivial⟩
      have hTn : 0 < T.length := by omega
      obtain ⟨g0, rfl, hcn, hBg, hg4⟩ := cop_some hcop hTn
      obtain ⟨i, hi⟩ : ∃ i : Nat, i = at_.toNat % T.length := ⟨_, rfl⟩
      have hil : i < T.length := by rw [hi]; exact Nat.mod_lt _ hTn
      have hmod : at_.tmod (T.length : Int) = (i : Int) := by
        rw [hi, Int.tmod_eq_emod_of_nonneg ha0, Int.natCast_emod, Int.toNat_of_nonneg ha0]
      obtain ⟨x, hx⟩ : ∃ x, T[i]? = some x := ⟨T[i], List.getElem?_eq_getElem hil⟩
      obtain ⟨p, hp⟩ : ∃ p, vs[i]? = some p := ⟨vs[i]'(by rw [hcop.len]; exact hil), List.getElem?_eq_getElem _⟩
      have hC5 := hcop.below (b_alloc w4 (.cells #[.slice (some ⟨g0, 0, none⟩) T.length nc, .int .i64 r] 24))
      have hbx := heap_alloc_new w4 (.cells #[.slice (some ⟨g0, 0, none⟩) T.length nc, .int .i64 r] 24)
      have HX5 := Lib.hid (HX4.out.trans (((Below.refl w4.heap.size w4).alloc (Nat.le_refl _) (.cells #[.slice (some ⟨g0, 0, none⟩) T.length nc, .int .i64 r] 24)).mono hlt4))
      obtain ⟨w5, hw5⟩ : ∃ w5, w5 = w4.alloc (.cells #[.slice (some ⟨g0, 0, none⟩) T.length nc, .int .i64 r] 24) := ⟨_, rfl⟩
      have hs5 : w5.heap.size = w4.heap.size + 1 := by rw [hw5]; exact asize _ _
      rw [← hw5] at hC5 hbx HX5
      have HW5 := Lib.hid hw5
      obtain ⟨c0, c1, c2, c3, c4, c5, c6⟩ := cop_node hC5 hx hp
      have HN5 := Lib.hid (cop_node hC5 hx hp)
      have f0 := cop_frozen hC5 (i * 7 + 0)
      have f1 := cop_frozen hC5 (i * 7 + 1)
      have f6 := cop_frozen hC5 (i * 7 + 6)
      rw [Nat.add_zero] at f0
      have u0 : w5.cell? ⟨w4.heap.size, 0, none⟩ = some (.slice (some ⟨g0, 0, none⟩) T.length nc) := cell_of_row w5 _ 0 _ 24 (0, 0) hbx
      have u1 : w5.cell? ⟨w4.heap.size, 1, none⟩ = some (.int .i64 r) := cell_of_row w5 _ 1 _ 24 (0, 0) hbx
      have HC4 := Lib.hid hcop
      have HBX5 := Lib.hid hbx
      have HI := Lib.hid hi
      have hne : ¬ (T.length : Int) = 0 := by omega
      rw [hw5] at c0 c1 c2 c3 c4 c5 c6 f0 f1 f6
      clear b4 hcop hC5 hbx hw5 hi u0 u1
      have hq : how.tmod 4 = 0 ∨ how.tmod 4 = 1 ∨ how.tmod 4 = 2 ∨ how.tmod 4 = 3 := by rw [Int.tmod_eq_emod_of_nonneg h0]; omega
      rcases hq with hq | hq | hq | hq
      · have hkl : x.kids.length ≤ 4000 := (HNG.out x (List.mem_of_getElem? hx)).2.2
        have hB5 := b_alloc w4 (.cells #[.slice (some ⟨g0, 0, none⟩) T.length nc, .int .i64 r] 24)
        have HC5 := Lib.hid (HC4.out.below hB5)
        have hB3 : w3.heap.size + 3 ≤ w4.heap.size := by omega
        go_wp2_with fail
        have c1' := acell w4 #[.slice (some ⟨g0, 0, none⟩) T.length nc, .int .i64 r] 24 1
        replace c1' : (w4.alloc (.cells #[.slice (some ⟨g0, 0, none⟩) T.length nc, .int .i64 r] 24)).cell? ⟨w4.heap.size, 1, none⟩ = some (.int .i64 r) := c1'
        have HC6 := Lib.hid c6
        have HBB := Lib.hid (heap_alloc_new w4 (.cells #[.slice (some ⟨g0, 0, none⟩) T.length nc, .int .i64 r] 24))
        have HZ : Hid (((w4.alloc (.cells #[.slice (some ⟨g0, 0, none⟩) T.length nc, .int .i64 r] 24)).alloc (.cells #[.int .i64 r] 3)).drew.heap[w4.heap.size + 1]? = some (.cells #[.int .i64 r] 3 (0, 0))) := Lib.hid (by have h := heap_alloc_new (w4.alloc (.cells #[.slice (some ⟨g0, 0, none⟩) T.length nc, .int .i64 r] 24)) (.cells #[.int .i64 r] 3); rw [asize] at h; exact h)
        go_region_law ((refine step_kid (w4.alloc (.cells #[.slice (some ⟨g0, 0, none⟩) T.length nc, .int .i64 r] 24)) _ r (by rfl) _ _ (by rfl) (w3.heap.size + 3) p.2 x.kids (by rfl) (HC5.out.num i x p hx hp) (fun i ob h => (Below.heap_alloc _ _ i (Array.getElem?_eq_some_iff.1 h).1).trans h) (w4.heap.size + 1) (by simp) (by rfl) HZ.out (by omega) (by simp; omega) (by simp [World.drew]) (b_adrew _ _) ?_; intro A' c' w6 hr6 b6 k6; have q6 := kid_far HC5.out hx hp k6 (i * 7 + 6); have q6c := q6.1.trans HC6.out; have q6f := q6.2; have qu := k6 _ _ HBB.out (kid_ne HC5.out hx hp HBB.out (by decide)); have qu0 : w6.cell? ⟨w4.heap.size, 0, none⟩ = some (.slice (some ⟨g0, 0, none⟩) T.length nc) := cell_of_row w6 _ 0 _ 24 (0, 0) qu; have qu1 : w6.cell? ⟨w4.heap.size, 1, none⟩ = some (.int .i64 r) := cell_of_row w6 _ 1 _ 24 (0, 0) qu; have HR6 := Lib.hid hr6; have B6 := Lib.hid b6; have K6 := Lib.hid k6; have QU := Lib.hid qu; clear hr6 b6 k6 qu q6))
        all_goals
          have hU : rightK (T.set i { x with kids := x.kids ++ [r] }) r = false := broken0 fieldsK koK soK (x := { x with kids := x.kids ++ [r] }) (by rw [List.getElem?_set_self hil]) (by simp)
          have hnu := nodes_kids HC5.out hcn hx hp HR6.out K6.out B6.out.size
          have hsu : Sm (T.set i { x with kids := x.kids ++ [r] }) := set_sm HSM.out hx (HSM.out.l0 x (List.mem_of_getElem? hx)) rfl rfl rfl rfl
          obtain ⟨U, hUe⟩ : ∃ U, U = T.set i { x with kids := x.kids ++ [r] } := ⟨_, rfl⟩
          rw [← hUe] at hU hnu hsu
          have hb6 : Below w.heap.size w w6 := (thenB HB4.out hB5).trans (B6.out.mono (by omega))
          have hb7 := hb6.setCell (p := ⟨g0, i * 7 + 6, none⟩) (by show w.heap.size ≤ g0; omega) (.slice A' (x.kids.length + 1) c')
          have hne0 : g0 ≠ w4.heap.size := by omega
          have u0 := (World.cell?_setCell_other w6 ⟨g0, i * 7 + 6, none⟩ ⟨w4.heap.size, 0, none⟩ (.slice A' (x.kids.length + 1) c') (by intro e; injection e with e1 _ _; exact hne0 e1)).trans qu0
          have u1 := (World.cell?_setCell_other w6 ⟨g0, i * 7 + 6, none⟩ ⟨w4.heap.size, 1, none⟩ (.slice A' (x.kids.length + 1) c') (by intro e; injection e with e1 _ _; exact hne0 e1)).trans qu1
          obtain ⟨W7, hW7⟩ : ∃ W7, W7 = w6.setCell ⟨g0, i * 7 + 6, none⟩ (.slice A' (x.kids.length + 1) c') := ⟨_, rfl⟩
          rw [← hW7] at hnu hb7 u0 u1 ⊢
          have HU := Lib.hid hU
          have HSU := Lib.hid hsu
          have HNU := Lib.hid hnu
          have HB7 := Lib.hid hb7
          have U0 := Lib.hid u0
          have U1 := Lib.hid u1
          clear hU hnu hsu hb7 hb6 hW7 hUe qu0 qu1 q6c q6f HR6 B6 K6 QU hB5
          go_wp2_with (fail)
          refine (right_any _ U r W7 ⟨_, rfl, HNU.out⟩ HSU.out.szd).mono ?_; rintro e w8 ⟨rfl, b8⟩
          rw [HU.out]
          have hlt := block_lt_of_cell u0
          have u0 := (b8.cell (p := ⟨w4.heap.size, 0, none⟩) hlt).trans U0.out
          have u1 := (b8.cell (p := ⟨w4.heap.size, 1, none⟩) hlt).trans U1.out
          have HN8 := Lib.hid (HNU.out.below b8)
          have HB8 := Lib.hid (thenB HB7.out b8)
          clear b8 hlt
          go_wp2_with (fail)
          refine (print_any _ U r w8 ⟨_, rfl, HN8.out⟩ HSU.out (HT.out.below HB8.out)).mono ?_; rintro e w9 ⟨rfl, b9⟩
          rw [print_no HU.out]
          have HB9 := Lib.hid (thenB HB8.out b9)
          clear b9
          go_wp2_with (fail)
          go_ret
          exact ⟨rfl, HB9.out⟩
      · go_wp2_with (fail)
        have hU : rightK (T.set i { x with kind := 33 + how }) r = false := broken1 fieldsK koK soK (x := { x with kind := 33 + how }) (by rw [List.getElem?_set_self hil]) (by show 33 + how ≠ 18; omega) (by show soK (33 + how) = 0; unfold soK; repeat (rw [if_neg (by omega)])) ko_zero
        have hnu := nodes_kind HC4.out hcn hx hp (33 + how)
        have hsu : Sm (T.set i { x with kind := 33 + how }) := set_sm HSM.out hx (HSM.out.l0 x (List.mem_of_getElem? hx)) rfl rfl rfl rfl
        obtain ⟨U, hUe⟩ : ∃ U, U = T.set i { x with kind := 33 + how } := ⟨_, rfl⟩
        rw [← hUe] at hU hnu hsu
        have hbw := HB4.out.setCell (p := ⟨g0, i * 7, none⟩) (by show w.heap.size ≤ g0; omega) (.int .i64 (33 + how))
        obtain ⟨W, hW⟩ : ∃ W, W = w4.setCell ⟨g0, i * 7, none⟩ (.int .i64 (33 + how)) := ⟨_, rfl⟩
        have hWs : W.heap.size = w4.heap.size := by rw [hW]; simp
        rw [← hW] at hnu hbw ⊢
        have HU := Lib.hid hU
        have HSU := Lib.hid hsu
        have HNU := Lib.hid (hnu.below (b_alloc W (.cells #[.slice (some ⟨g0, 0, none⟩) T.length nc, .int .i64 r] 24)))
        have HB5 := Lib.hid (thenB hbw (b_alloc W (.cells #[.slice (some ⟨g0, 0, none⟩) T.length nc, .int .i64 r] 24)))
        have u0 := acell W #[.slice (some ⟨g0, 0, none⟩) T.length nc, .int .i64 r] 24 0
        have u1 := acell W #[.slice (some ⟨g0, 0, none⟩) T.length nc, .int .i64 r] 24 1
        rw [hWs] at u0 u1
        have U0 := Lib.hid u0
        have U1 := Lib.hid u1
        have hlt : w4.heap.size < (W.alloc (.cells #[.slice (some ⟨g0, 0, none⟩) T.length nc, .int .i64 r] 24)).heap.size := by rw [asize, hWs]; exact Nat.lt_succ_self _
        obtain ⟨W5, hW5⟩ : ∃ W5, W5 = W.alloc (.cells #[.slice (some ⟨g0, 0, none⟩) T.length nc, .int .i64 r] 24) := ⟨_, rfl⟩
        rw [← hW5] at HNU HB5 U0 U1 hlt ⊢
        clear hU hnu hsu hbw hW hWs u0 u1 hW5 hUe
        refine (right_any _ U r W5 ⟨_, rfl, HNU.out⟩ HSU.out.szd).mono ?_; rintro e w6 ⟨rfl, b6⟩
        rw [HU.out]
        have u0 := (b6.cell (p := ⟨w4.heap.size, 0, none⟩) hlt).trans U0.out
        have u1 := (b6.cell (p := ⟨w4.heap.size, 1, none⟩) hlt).trans U1.out
        have HN6 := Lib.hid (HNU.out.below b6)
        have HB6 := Lib.hid (thenB HB5.out b6)
        clear b6 hlt U0 U1
        go_wp2_with (fail)
        refine (print_any _ U r w6 ⟨_, rfl, HN6.out⟩ HSU.out (HT.out.below HB6.out)).mono ?_; rintro e w7 ⟨rfl, b7⟩
        rw [print_no HU.out]
        have HB7 := Lib.hid (thenB HB6.out b7)
        clear b7
        go_wp2_with (fail)
        go_ret
        exact ⟨rfl, HB7.out⟩
      · go_wp2_with (fail)
        have hU : rightK (T.set i { x with line := 0 }) r = false := broken2 fieldsK koK soK (x := { x with line := 0 }) (by rw [List.getElem?_set_self hil]) (by show (0 : Int) < 1; decide)
        have hnu := nodes_line HC4.out hcn hx hp 0
        have hsu : Sm (T.set i { x with line := 0 }) := set_sm HSM.out hx ⟨by show _ ≤ (0 : Int); decide, by show (0 : Int) ≤ _; decide⟩ rfl rfl rfl rfl
        obtain ⟨U, hUe⟩ : ∃ U, U = T.set i { x with line := 0 } := ⟨_, rfl⟩
        rw [← hUe] at hU hnu hsu
        have hbw := HB4.out.setCell (p := ⟨g0, i * 7 + 1, none⟩) (by show w.heap.size ≤ g0; omega) (.int .i64 0)
        obtain ⟨W, hW⟩ : ∃ W, W = w4.setCell ⟨g0, i * 7 + 1, none⟩ (.int .i64 0) := ⟨_, rfl⟩
        have hWs : W.heap.size = w4.heap.size := by rw [hW]; simp
        rw [← hW] at hnu hbw ⊢
        have HU := Lib.hid hU
        have HSU := Lib.hid hsu
        have HNU := Lib.hid (hnu.below (b_alloc W (.cells #[.slice (some ⟨g0, 0, none⟩) T.length nc, .int .i64 r] 24)))
        have HB5 := Lib.hid (thenB hbw (b_alloc W (.cells #[.slice (some ⟨g0, 0, none⟩) T.length nc, .int .i64 r] 24)))
        have u0 := acell W #[.slice (some ⟨g0, 0, none⟩) T.length nc, .int .i64 r] 24 0
        have u1 := acell W #[.slice (some ⟨g0, 0, none⟩) T.length nc, .int .i64 r] 24 1
        rw [hWs] at u0 u1
        have U0 := Lib.hid u0
        have U1 := Lib.hid u1
        have hlt : w4.heap.size < (W.alloc (.cells #[.slice (some ⟨g0, 0, none⟩) T.length nc, .int .i64 r] 24)).heap.size := by rw [asize, hWs]; exact Nat.lt_succ_self _
        obtain ⟨W5, hW5⟩ : ∃ W5, W5 = W.alloc (.cells #[.slice (some ⟨g0, 0, none⟩) T.length nc, .int .i64 r] 24) := ⟨_, rfl⟩
        rw [← hW5] at HNU HB5 U0 U1 hlt ⊢
        clear hU hnu hsu hbw hW hWs u0 u1 hW5 hUe
        refine (right_any _ U r W5 ⟨_, rfl, HNU.out⟩ HSU.out.szd).mono ?_; rintro e w6 ⟨rfl, b6⟩
        rw [HU.out]
        have u0 := (b6.cell (p := ⟨w4.heap.size, 0, none⟩) hlt).trans U0.out
        have u1 := (b6.cell (p := ⟨w4.heap.size, 1, none⟩) hlt).trans U1.out
        have HN6 := Lib.hid (HNU.out.below b6)
        have HB6 := Lib.hid (thenB HB5.out b6)
        clear b6 hlt U0 U1
        go_wp2_with (fail)
        refine (print_any _ U r w6 ⟨_, rfl, HN6.out⟩ HSU.out (HT.out.below HB6.out)).mono ?_; rintro e w7 ⟨rfl, b7⟩
        rw [print_no HU.out]
        have HB7 := Lib.hid (thenB HB6.out b7)
        clear b7
        go_wp2_with (fail)
        go_ret
        exact ⟨rfl, HB7.out⟩
      · rcases List.eq_nil_or_concat x.kids with hk0 | ⟨ks, kz, hkk⟩
        · have hpl : ∃ PA pc, p.2 = .slice PA 0 pc := by
            have h := HC4.out.num i x p hx hp
            rw [hk0] at h
            rcases h.2 with ⟨h1, _⟩ | ⟨g, cap, cur, h1, _⟩
            · exact ⟨_, _, h1⟩
            · exact ⟨_, _, h1⟩
          obtain ⟨PA, pc, hpv⟩ := hpl
          rw [hpv] at c6
          have HBF := Lib.hid (thenB HB4.out (b_alloc w4 (.cells #[.slice (some ⟨g0, 0, none⟩) T.length nc, .int .i64 r] 24)))
          clear hpv
          go_wp2_with fail
          go_ret
          exact ⟨rfl, HBF.out⟩
        · rw [List.concat_eq_append] at hkk
          have hpl : ∃ PA pc, p.2 = .slice (some ⟨PA, 0, none⟩) (ks.length + 1) pc ∧ ks.length + 1 ≤ pc := by
            have h := HC4.out.num i x p hx hp
            rw [hkk, List.length_append] at h
            rcases h.2 with ⟨_, h1⟩ | ⟨g, cap, cur, h1, _, _, h2, _⟩
            · cases h1
            · exact ⟨_, _, h1, h2⟩
          obtain ⟨PA, pc, hpv, hpc⟩ := hpl
          have hks : ks.length ≤ 4000 := by
            have := (HNG.out x (List.mem_of_getElem? hx)).2.2
            rw [hkk, List.length_append] at this
            omega
          have hnu := nodes_cut HC4.out hcn hx hp hkk rfl hpv
          rw [hpv] at c6
          have HPV := Lib.hid hpv
          have HKK := Lib.hid hkk
          have HNU0 := Lib.hid hnu
          have g1 : ((ks.length : Int) + 1 == 0) = false := beq_eq_false_iff_ne.2 (by omega)
          clear hpv hkk hnu
          go_wp2_with fail
          have hhi : ((ks.length : Nat) : Int) ≤ (pc : Int) := by omega
          go_region
          have hU : rightK (T.set i { x with kids := ks }) r = false := broken3 fieldsK koK soK HRT.out hx HKK.out
          have hsu : Sm (T.set i { x with kids := ks }) := set_sm HSM.out hx (HSM.out.l0 x (List.mem_of_getElem? hx)) rfl rfl rfl rfl
          have hws : (w4.setCell ⟨g0, i * 7 + 6, none⟩ (.slice (some ⟨PA, 0, none⟩) ks.length pc)).heap.size = w4.heap.size := by simp
          have hbw := HB4.out.setCell (p := ⟨g0, i * 7 + 6, none⟩) (by show w.heap.size ≤ g0; omega) (.slice (some ⟨PA, 0, none⟩) ks.length pc)
          have hnu := HNU0.out.below (b_adrew (w4.setCell ⟨g0, i * 7 + 6, none⟩ (.slice (some ⟨PA, 0, none⟩) ks.length pc)) (.cells #[.slice (some ⟨g0, 0, none⟩) T.length nc, .int .i64 r] 24))
          have hb7 := thenB hbw (b_adrew (w4.setCell ⟨g0, i * 7 + 6, none⟩ (.slice (some ⟨PA, 0, none⟩) ks.length pc)) (.cells #[.slice (some ⟨g0, 0, none⟩) T.length nc, .int .i64 r] 24))
          have u0 : (((w4.setCell ⟨g0, i * 7 + 6, none⟩ (.slice (some ⟨PA, 0, none⟩) ks.length pc)).alloc (.cells #[.slice (some ⟨g0, 0, none⟩) T.length nc, .int .i64 r] 24)).drew).cell? ⟨(w4.setCell ⟨g0, i * 7 + 6, none⟩ (.slice (some ⟨PA, 0, none⟩) ks.length pc)).heap.size, 0, none⟩ = some (.slice (some ⟨g0, 0, none⟩) T.length nc) := acell (w4.setCell ⟨g0, i * 7 + 6, none⟩ (.slice (some ⟨PA, 0, none⟩) ks.length pc)) #[.slice (some ⟨g0, 0, none⟩) T.length nc, .int .i64 r] 24 0
          have u1 : (((w4.setCell ⟨g0, i * 7 + 6, none⟩ (.slice (some ⟨PA, 0, none⟩) ks.length pc)).alloc (.cells #[.slice (some ⟨g0, 0, none⟩) T.length nc, .int .i64 r] 24)).drew).cell? ⟨(w4.setCell ⟨g0, i * 7 + 6, none⟩ (.slice (some ⟨PA, 0, none⟩) ks.length pc)).heap.size, 1, none⟩ = some (.int .i64 r) := acell (w4.setCell ⟨g0, i * 7 + 6, none⟩ (.slice (some ⟨PA, 0, none⟩) ks.length pc)) #[.slice (some ⟨g0, 0, none⟩) T.length nc, .int .i64 r] 24 1
          rw [hws] at u0 u1
          obtain ⟨U, hUe⟩ : ∃ U, U = T.set i { x with kids := ks } := ⟨_, rfl⟩
          rw [← hUe] at hU hnu hsu
          obtain ⟨W7, hW7⟩ : ∃ W7, W7 = ((w4.setCell ⟨g0, i * 7 + 6, none⟩ (.slice (some ⟨PA, 0, none⟩) ks.length pc)).alloc (.cells #[.slice (some ⟨g0, 0, none⟩) T.length nc, .int .i64 r] 24)).drew := ⟨_, rfl⟩
          rw [← hW7] at hnu hb7 u0 u1 ⊢
          have HU := Lib.hid hU
          have HSU := Lib.hid hsu
          have HNU := Lib.hid hnu
          have HB7 := Lib.hid hb7
          have U0 := Lib.hid u0
          have U1 := Lib.hid u1
          clear hU hnu hsu hb7 hbw hW7 hUe hws
          go_wp2_with (fail)
          refine (right_any _ U r W7 ⟨_, rfl, HNU.out⟩ HSU.out.szd).mono ?_; rintro e w8 ⟨rfl, b8⟩
          rw [HU.out]
          have hlt := block_lt_of_cell u0
          have u0 := (b8.cell (p := ⟨w4.heap.size, 0, none⟩) hlt).trans U0.out
          have u1 := (b8.cell (p := ⟨w4.heap.size, 1, none⟩) hlt).trans U1.out
          have HN8 := Lib.hid (HNU.out.below b8)
          have HB8 := Lib.hid (thenB HB7.out b8)
          clear b8 hlt
          go_wp2_with (fail)
          refine (print_any _ U r w8 ⟨_, rfl, HN8.out⟩ HSU.out (HT.out.below HB8.out)).mono ?_; rintro e w9 ⟨rfl, b9⟩
          rw [print_no HU.out]
          have HB9 := Lib.hid (thenB HB8.out b9)
          clear b9
          go_wp2_with (fail)
          go_ret
          exact ⟨rfl, HB9.out⟩
end Go.Proofs.YtjlpklhibdkmeaaGreatDoor
