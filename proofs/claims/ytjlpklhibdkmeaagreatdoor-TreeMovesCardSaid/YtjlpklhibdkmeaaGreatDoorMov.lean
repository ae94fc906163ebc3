/- selkielaw06.TreeMoves answers true at any tree and turn. -/
import Derived.Test.YtjlpklhibdkmeaaGreatDoorMov1
import Derived.Test.YtjlpklhibdkmeaaGreatDoorBro3
import Derived.Test.YtjlpklhibdkmeaaGreatDoorRgt
import Derived.Test.YtjlpklhibdkmeaaGreatDoorPrn
import Derived.Test.YtjlpklhibdkmeaaGreatDoorGre
import Derived.Deep.RegionHeld3
import Derived.Deep.LoopGhost
namespace Go.Proofs.YtjlpklhibdkmeaaGreatDoor
open Go.RowKit

theorem three {G : Prop} (r N : Int) (a : 0 ≤ r → r < N → G) (b : 0 ≤ r → ¬ r < N → G) (c : ¬ 0 ≤ r → G) : G := by
  by_cases h : 0 ≤ r
  · by_cases h' : r < N
    · exact a h h'
    · exact b h h'
  · exact c h
/-- Two ways meet again: what follows is shown once. -/
theorem goOn {G : Prop} {w2 : World} {N : Nat} {r : Int} {P : Nat → Nat → World → Prop} (h1 : Hid (∀ g u W, Stg w2 W g u N r → P g u W) → G) (h2 : ∀ g u W, Stg w2 W g u N r → P g u W) : G := h1 (Lib.hid h2)
set_option maxHeartbeats 8000000 in
set_option maxRecDepth 20000 in
theorem moves_any (nv : Value) (T : List Nd) (r : Int) (turn : Int) (w : World) (hA : Arg w nv T) (hT : Tab w) (ha0 : 0 ≤ turn) (ha1 : turn ≤ 65535) (hr0 : -9223372036854775808 ≤ r) (hr1 : r ≤ 9223372036854775807) :
    Calls Tryz.prog 3 #[.agg #[nv, .int .i64 r], .int .u16 turn] w fun e w' => e = .returned (.bool true) ∧ Below w.heap.size w w' := by
  have HA := Lib.hid hA
  obtain ⟨A, c, rfl, hc, _⟩ := hA.nodes
  have HT := Lib.hid hT
  have HB0 := Lib.hid (b_alloc w (.cells #[.slice A T.length c, .int .i64 r] 24))
  have HBX := Lib.hid (fun W (hW : Below (w.heap.size + 1) (w.alloc (.cells #[.slice A T.length c, .int .i64 r] 24)) W) => And.intro ((hW.cell (p := ⟨w.heap.size, 0, none⟩) (Nat.lt_succ_self _)).trans (acell w #[.slice A T.length c, .int .i64 r] 24 0)) ((hW.cell (p := ⟨w.heap.size, 1, none⟩) (Nat.lt_succ_self _)).trans (acell w #[.slice A T.length c, .int .i64 r] 24 1)))
  have HTV : Hid (∀ W, Below w.heap.size w W → TreeV W (.agg #[.slice A T.length c, .int .i64 r]) T r) := Lib.hid fun W h => ⟨_, rfl, (HA.out.below h).nodes⟩
  clear hA hT
  go_enter Tryz.func3, Tryz.ntmps3
  go_wp2_with fail
  refine (alive_any _ (HT.out.below HB0.out)).mono ?_; rintro e w1 ⟨rfl, b1⟩
  have HB1 := Lib.hid (thenB HB0.out b1)
  rw [asize] at b1
  have HX1 := Lib.hid b1
  obtain ⟨x0, x1⟩ := HBX.out _ b1
  clear b1
  go_wp2_with fail
  refine (great_any _ T r w1 (HTV.out _ HB1.out) HA.out.rd).mono ?_; rintro e w2 ⟨gb, rfl, hgb, b2⟩
  have HB2 := Lib.hid (thenB HB1.out b2)
  have HX2 := Lib.hid (HX1.out.trans (b2.mono (by have := HX1.out.size; rw [asize] at this; exact this)))
  obtain ⟨x0, x1⟩ := HBX.out _ HX2.out
  clear b2
  cases gb with
  | true =>
    clear hgb
    go_wp2_with fail
    go_ret
    exact ⟨rfl, HB2.out⟩
  | false =>
    obtain ⟨hl, hng⟩ := hgb rfl
    have HNG := Lib.hid hng
    have HSM := Lib.hid (HA.out.sm hl hng)
    clear hng hgb
    by_cases hT0 : T.length = 0
    · have g0 : ((T.length : Int) == 0) = true := by rw [hT0]; rfl
      go_wp2_with fail
      go_ret
      exact ⟨rfl, HB2.out⟩
    · have g0 : ((T.length : Int) == 0) = false := beq_eq_false_iff_ne.2 (by omega)
      have hTn : 0 < T.length := by omega
      obtain ⟨k, hk⟩ : ∃ k : Nat, k = turn.toNat % T.length := ⟨_, rfl⟩
      have hkl : k < T.length := by rw [hk]; exact Nat.mod_lt _ hTn
      have hmod : turn.tmod (T.length : Int) = (k : Int) := by
        rw [hk, Int.tmod_eq_emod_of_nonneg ha0, Int.natCast_emod, Int.toNat_of_nonneg ha0]
      have hne : ¬ (T.length : Int) = 0 := by omega
      clear hk
      have hw2 : w.heap.size < w2.heap.size := by have := HX2.out.size; rw [asize] at this; exact this
      obtain ⟨M, hM, hmk⟩ := make_nodes T.length (by omega)
      go_wp2_with fail
      apply goOn (w2 := w2) (N := T.length) (r := r)
      · intro HKEY
        go_region_held3 (fun w' => w'.cell? ⟨w.heap.size, 1, none⟩ = some (.int .i64 r)) (go_keep) (fail)
        · have hst := stg_a w2 M T.length r hM
          obtain ⟨W4, hW4⟩ : ∃ W4, W4 = ((w2.alloc (.cells M 32)).alloc (.cells #[.slice (some ⟨w2.heap.size, 0, none⟩) T.length T.length, .int .i64 r] 24)).drew := ⟨_, rfl⟩
          obtain ⟨uB, huB⟩ : ∃ uB, uB = w2.heap.size + 1 := ⟨_, rfl⟩
          obtain ⟨gU, hgU⟩ : ∃ gU, gU = w2.heap.size := ⟨_, rfl⟩
          have HST : Hid (Stg w2 W4 gU uB T.length r) := Lib.hid (by rw [hW4, huB, hgU]; exact hst)
          rw [← hW4, ← huB, ← hgU]
          exact HKEY.out gU uB W4 HST.out
        · have hst := stg_b w2 M T.length r hM
          obtain ⟨W4, hW4⟩ : ∃ W4, W4 = ((w2.alloc (.cells #[.slice (some ⟨w2.heap.size + 1, 0, none⟩) T.length T.length, .int .i64 r] 24)).alloc (.cells M 32)).drew := ⟨_, rfl⟩
          obtain ⟨gU, hgU⟩ : ∃ gU, gU = w2.heap.size + 1 := ⟨_, rfl⟩
          obtain ⟨uB, huB⟩ : ∃ uB, uB = w2.heap.size := ⟨_, rfl⟩
          have HST : Hid (Stg w2 W4 gU uB T.length r) := Lib.hid (by rw [hW4, huB, hgU]; exact hst)
          rw [← hW4, ← hgU, ← huB]
          exact HKEY.out gU uB W4 HST.out
      · intro gU uB W4 hst
        have HST := Lib.hid hst
        have HX4 := Lib.hid (HX2.out.trans (hst.bel.mono hw2))
        have HB4 := Lib.hid (HB2.out.trans (hst.bel.mono (Nat.le_of_lt hw2)))
        obtain ⟨x0, x1⟩ := HBX.out _ HX4.out
        have u1 : W4.cell? ⟨uB, 1, none⟩ = some (.int .i64 r) := cell_of_row W4 _ 1 _ 24 (0, 0) hst.box
        have u1f : W4.frozen? ⟨uB, 1, none⟩ = false := Lib.frozen_of_heap hst.box 1
        clear hst hmk hM
        refine three r (T.length : Int) ?A ?B ?C
        case' A =>
          intro hra hrb
          have d1 : decide (0 ≤ r) = true := decide_eq_true hra
          have d2 : decide (r < (T.length : Int)) = true := decide_eq_true hrb
          have hmr : (r + (k : Int)).tmod (T.length : Int) = mvKid T.length k r := by
            rw [mvKid_in ⟨hra, hrb⟩]
            unfold pi
            rw [Int.tmod_eq_emod_of_nonneg (by omega), Int.natCast_emod]
            congr 1
            omega
          have hlo : w.heap.size + 1 ≤ uB := Nat.le_trans hw2 HST.out.ul
          have HX5 := Lib.hid (HX4.out.setCell (p := ⟨uB, 1, none⟩) hlo (.int .i64 (mvKid T.length k r)))
          have HB5 := Lib.hid (HB4.out.setCell (p := ⟨uB, 1, none⟩) (Nat.le_of_succ_le hlo) (.int .i64 (mvKid T.length k r)))
          have HST5 := Lib.hid (HST.out.root (mvKid T.length k r))
          obtain ⟨z0, z1⟩ := HBX.out _ HX5.out
          go_wp2_with fail
          obtain ⟨W5, hW5⟩ : ∃ W5, W5 = W4.setCell ⟨uB, 1, none⟩ (.int .i64 (mvKid T.length k r)) := ⟨_, rfl⟩
          rw [← hW5] at z0 z1 HX5 HB5 HST5 ⊢
          clear x0 x1 u1 u1f HST HX4 HB4 hW5 d1 d2 hmr
        case' B =>
          intro hra hrb
          have d1 : decide (0 ≤ r) = true := decide_eq_true hra
          have d2 : decide (r < (T.length : Int)) = false := decide_eq_false hrb
          have hmr : r = mvKid T.length k r := (mvKid_out (fun h => hrb h.2)).symm
          have HX5 := HX4
          have HB5 := HB4
          have HST5 : Hid (Stg w2 W4 gU uB T.length (mvKid T.length k r)) := Lib.hid (by rw [← hmr]; exact HST.out)
          have z0 := x0
          have z1 := x1
          clear hmr
          go_wp2_with fail
          obtain ⟨W5, hW5⟩ : ∃ W5, W5 = W4 := ⟨_, rfl⟩
          rw [← hW5] at z0 z1 HX5 HB5 HST5 ⊢
          clear x0 x1 u1 u1f HST HX4 HB4 hW5 d1 d2
        case' C =>
          intro hra
          have d1 : decide (0 ≤ r) = false := decide_eq_false hra
          have hmr : r = mvKid T.length k r := (mvKid_out (fun h => hra h.1)).symm
          have HX5 := HX4
          have HB5 := HB4
          have HST5 : Hid (Stg w2 W4 gU uB T.length (mvKid T.length k r)) := Lib.hid (by rw [← hmr]; exact HST.out)
          have z0 := x0
          have z1 := x1
          clear hmr
          go_wp2_with fail
          obtain ⟨W5, hW5⟩ : ∃ W5, W5 = W4 := ⟨_, rfl⟩
          rw [← hW5] at z0 z1 HX5 HB5 HST5 ⊢
          clear x0 x1 u1 u1f HST HX4 HB4 hW5 d1
        all_goals
          refine (copy_any _ T r W5 (HA.out.below HB5.out).nodes (HA.out.below HB5.out).nil_ hl HNG.out).mono ?_; rintro e w6 ⟨nvc, vs, rfl, hcop, ⟨NA, nc, rfl⟩, b6⟩
          obtain ⟨g0, rfl, hcn, hBg, hg6⟩ := cop_some hcop hTn
          have hw5 : w.heap.size + 1 ≤ W5.heap.size := by have h1 := HST5.out.us; have h2 := HST5.out.ul; omega
          obtain ⟨ru, hru⟩ : ∃ ru, ru = mvKid T.length k r := ⟨_, rfl⟩
          rw [← hru] at HST5
          try rw [← hru]
          have hgB : gU < W5.heap.size + 3 := by have := HST5.out.gs; omega
          have huB : uB < W5.heap.size + 3 := by have := HST5.out.us; omega
          have hgu : gU ≠ uB := HST5.out.ne
          have hgl : w.heap.size + 1 ≤ gU := Nat.le_trans hw2 HST5.out.gl
          have HLP0 := Lib.hid (Lp.start (k := k) (HX5.out.trans (b6.mono hw5)) (thenB HB5.out b6) (HST5.out.below b6) hcop (by omega))
          obtain ⟨B, hB⟩ : ∃ B, B = W5.heap.size + 3 := ⟨_, rfl⟩
          rw [← hB] at hgB huB HLP0 hBg
          have hfd := fld0 (some ⟨g0, 0, none⟩) T.length nc r w6
          have HRU := Lib.hid hru
          clear hcop b6 z0 z1 hru hB hg6 hw5
          go_wp2_with fail
          clear hfd
          go_loopg [52] T.length (fun z iv wr => ∃ (i : Nat) (T' : List Nd), iv = .int .i64 (i : Int) ∧ i ≤ T.length ∧ T.length - i ≤ z ∧ Lp w wr (.cells #[.slice A T.length c, .int .i64 r] 24) B g0 nc gU uB k ru T T' vs i)
          case atStart => exact ⟨0, T, rfl, Nat.zero_le _, by omega, HLP0.out⟩
          case round =>
            clear HLP0
            obtain ⟨i, T', rfl, hi, hz, hlp⟩ := hrel
            have HLP := Lib.hid hlp
            have hbox := hlp.box
            have hc6 := hlp.cop
            have hml := hlp.mix.len
            have hmx := hlp.mix.todo i (Nat.le_refl _)
            clear hlp
            by_cases hlt : i < T.length
            · obtain ⟨x, hx⟩ : ∃ x, T[i]? = some x := ⟨T[i], List.getElem?_eq_getElem hlt⟩
              rw [hx] at hmx
              have hvl : vs.length = T.length := by have := hc6.len; omega
              obtain ⟨p, hp⟩ : ∃ p, vs[i]? = some p := ⟨vs[i]'(by omega), List.getElem?_eq_getElem _⟩
              rw [← hml] at hc6
              obtain ⟨c0, c1, c2, c3, c4, c5, c6⟩ := cop_node hc6 hmx hp
              have hpl : ∃ PA pc, p.2 = .slice PA x.kids.length pc ∧ (x.kids.length = 0 ∨ ∃ g, PA = some ⟨g, 0, none⟩ ∧ B ≤ g ∧ g < wr.heap.size) := by
                have h := hc6.num i x p hmx hp
                rcases h.2 with ⟨h1, h2⟩ | ⟨g, cap, cur, h1, h2, h3, _⟩
                · exact ⟨none, 0, by rw [h1, h2], .inl h2⟩
                · exact ⟨_, _, h1, .inr ⟨g, rfl, h2, (Array.getElem?_eq_some_iff.1 h3).1⟩⟩
              obtain ⟨PA, pc, hpv, hpa⟩ := hpl
              have hsl : ∃ SA sc, p.1 = .slice SA x.names.length sc := by
                have h := hc6.str i x p hmx hp
                rcases h.2 with ⟨h1, h2⟩ | ⟨g, cap, cur, h1, h2, h3, _⟩
                · exact ⟨none, 0, by rw [h1, h2]⟩
                · exact ⟨_, _, h1⟩
              obtain ⟨SA, sc, hsv⟩ := hsl
              rw [hml] at hc6
              have HC6 := Lib.hid hc6
              have HX := Lib.hid hx
              have HMX := Lib.hid hmx
              have HP := Lib.hid hp
              have HPV := Lib.hid hpv
              have HSV := Lib.hid hsv
              have HPA := Lib.hid hpa
              have hkl : x.kids.length ≤ 4000 := (HNG.out x (List.mem_of_getElem? hx)).2.2
              rw [hpv] at c6
              rw [hsv] at c5
              clear hx hmx hp hpv hsv hpa hc6 hbox
              go_wp2_with fail
              obtain ⟨xo, hxo⟩ : ∃ xo : Obj, xo = .cells #[.int .i64 x.kind, .int .i64 x.line, .int .i64 x.op, .int .i64 x.num, .string x.s, .slice SA x.names.length sc, .slice PA x.kids.length pc] 32 := ⟨_, rfl⟩
              have HXO := Lib.hid hxo
              rw [← hxo]
              have HWA := Lib.hid (b_alloc wr xo)
              have HLI0 := Lib.hid (Li.start (k := k) (n0 := wr.heap.size) HMX.out (HC6.out.below (b_alloc wr xo)) (heap_alloc_new wr xo))
              obtain ⟨n0, hn0⟩ : ∃ n0, n0 = wr.heap.size := ⟨_, rfl⟩
              obtain ⟨wA, hwA⟩ : ∃ wA, wA = wr.alloc xo := ⟨_, rfl⟩
              rw [← hwA, ← hn0] at HLI0 ⊢
              rw [← hwA] at HWA
              have HN0 := Lib.hid hn0
              clear hxo hwA hn0 c0 c1 c2 c3 c4 c5 c6
              go_loopg [60] x.kids.length (fun z jv wr2 => ∃ (j : Nat) (ks : List Int), jv = .int .i64 (j : Int) ∧ j ≤ x.kids.length ∧ x.kids.length - j ≤ z ∧ Li wA wr2 xo B g0 nc n0 T.length k x T' vs i j ks)
              case atStart => exact ⟨0, x.kids, rfl, Nat.zero_le _, by omega, HLI0.out⟩
              case round =>
                clear HLI0
                obtain ⟨j, ks, rfl, hj, hz2, hli⟩ := hrel
                have HLI := Lib.hid hli
                have hb0 := hli.box
                rw [HXO.out] at hb0
                obtain ⟨q0, q1, q2, q3, q4, q5, q6⟩ := node_box hb0
                have qf : ∀ j, wr.frozen? ⟨n0, j, none⟩ = false := fun j => Lib.frozen_of_heap hb0 j
                clear hli hb0
                by_cases hjl : j < x.kids.length
                · obtain ⟨z, hzk⟩ : ∃ z, x.kids[j]? = some z := ⟨x.kids[j], List.getElem?_eq_getElem hjl⟩
                  rcases HPA.out with h0 | ⟨gk, rfl, hgk, hgn⟩
                  · omega
                  have hgne : gk ≠ n0 := by have := HN0.out; omega
                  obtain ⟨kc, kf⟩ := HLI.out.at_ HMX.out HP.out HPV.out hzk
                  have HZ := Lib.hid hzk
                  have HT1 := Lib.hid (HLI.out.turn HMX.out HP.out HPV.out hzk hgk hgne)
                  clear hzk
                  by_cases hzz : 0 ≤ z ∧ z < (T.length : Int)
                  · obtain ⟨hza, hzb⟩ := hzz
                    have d1 : decide (0 ≤ z) = true := decide_eq_true hza
                    have d2 : decide (z < (T.length : Int)) = true := decide_eq_true hzb
                    have hmr : (z + (k : Int)).tmod (T.length : Int) = mvKid T.length k z := by
                      rw [mvKid_in ⟨hza, hzb⟩]
                      unfold pi
                      rw [Int.tmod_eq_emod_of_nonneg (by omega), Int.natCast_emod]
                      congr 1
                      omega
                    go_wp2_with fail
                    go_region
                    go_wp2_with fail
                    go_roundg (x.kids.length - (j + 1))
                    case measure => omega
                    case rel => exact ⟨j + 1, _, by go_num, by omega, Nat.le_refl _, HT1.out.drew⟩
                  · have d0 : (decide (0 ≤ z) && decide (z < (T.length : Int))) = false := by
                      rw [Bool.eq_false_iff]
                      intro h
                      rw [Bool.and_eq_true, decide_eq_true_eq, decide_eq_true_eq] at h
                      exact hzz h
                    have HSK := Lib.hid (HLI.out.skip HZ.out hzz)
                    by_cases hza : 0 ≤ z
                    · have d1 : decide (0 ≤ z) = true := decide_eq_true hza
                      have d2 : decide (z < (T.length : Int)) = false := by rw [d1, Bool.true_and] at d0; exact d0
                      clear d0 hzz
                      go_wp2_with fail
                      go_roundg (x.kids.length - (j + 1))
                      case measure => omega
                      case rel => exact ⟨j + 1, _, by go_num, by omega, Nat.le_refl _, HSK.out⟩
                    · have d1 : decide (0 ≤ z) = false := decide_eq_false hza
                      clear d0 hzz
                      go_wp2_with fail
                      go_roundg (x.kids.length - (j + 1))
                      case measure => omega
                      case rel => exact ⟨j + 1, _, by go_num, by omega, Nat.le_refl _, HSK.out⟩
                · have hje : j = x.kids.length := by omega
                  subst hje
                  obtain ⟨q, hq⟩ : ∃ q, q = pi T.length k i := ⟨_, rfl⟩
                  have hqN : q < T.length := by rw [hq]; exact pi_lt k hlt
                  have hmr : ((i : Int) + (k : Int)).tmod (T.length : Int) = (q : Int) := by
                    rw [hq]
                    unfold pi
                    rw [Int.tmod_eq_emod_of_nonneg (by omega), Int.natCast_emod]
                    congr 1
                  have hbo := (HWA.out.mono HLP.out.size).trans HLI.out.bel
                  have hub := (hbo.block uB huB).trans HLP.out.box
                  have ub0 : wr.cell? ⟨uB, 0, none⟩ = some (.slice (some ⟨gU, 0, none⟩) T.length T.length) := cell_of_row wr _ 0 _ 24 (0, 0) hub
                  have htc := tgt_cells (HLP.out.tgt.below hbo hgB) hqN
                  obtain ⟨e0, t0, s0⟩ := htc 0 (by decide)
                  obtain ⟨e1, t1, s1⟩ := htc 1 (by decide)
                  obtain ⟨e2, t2, s2⟩ := htc 2 (by decide)
                  obtain ⟨e3, t3, s3⟩ := htc 3 (by decide)
                  obtain ⟨e4, t4, s4⟩ := htc 4 (by decide)
                  obtain ⟨e5, t5, s5⟩ := htc 5 (by decide)
                  obtain ⟨e6, t6, s6⟩ := htc 6 (by decide)
                  rw [Nat.add_zero] at t0 s0
                  have HNX := Lib.hid (Lp.next HLP.out HWA.out HLI.out HX.out HP.out hgB huB hgu hgl)
                  rw [← hq] at HNX
                  have hp2 : p = (.slice SA x.names.length sc, .slice PA x.kids.length pc) := Prod.ext HSV.out HPV.out
                  rw [hp2] at HNX
                  clear hbo hub htc hq hp2
                  go_wp2_with fail
                  go_region
                  go_wp2_with fail
                  go_roundg (T.length - (i + 1))
                  case measure => omega
                  case rel => exact ⟨i + 1, _, by go_num, by omega, Nat.le_refl _, HNX.out.drew⟩
            · have hie : i = T.length := by omega
              subst hie
              obtain ⟨U, hU⟩ := moved_is T k
              have hnu := tgt_nodes rfl hU HLP.out.cop (HLP.out.mix.full (Nat.le_refl _)) HLP.out.tgt (Nat.lt_of_lt_of_le hgB HLP.out.size)
              have hsu := moved_sm hU HSM.out
              obtain ⟨R, hR⟩ : ∃ R, R = rightK T r := ⟨_, rfl⟩
              obtain ⟨D, hD⟩ : ∃ D, D = deepT T r := ⟨_, rfl⟩
              obtain ⟨O, hO⟩ : ∃ O : ByteArray, O = ⟨(printK T r).toArray⟩ := ⟨_, rfl⟩
              have hRU : R = rightK U ru := by rw [hR, HRU.out, right_moved hU]
              have hDU : D = deepT U ru := by rw [hD, HRU.out, deep_mv hU]
              have hOU : O = ⟨(printK U ru).toArray⟩ := by rw [hO, HRU.out, print_moved hU]
              have HTA : Hid (∀ W, Below wr.heap.size wr W → Below w.heap.size w W) := Lib.hid fun W h => HLP.out.hb.trans (h.mono HLP.out.hb.size)
              have HTT : Hid (∀ W, Below wr.heap.size wr W → TreeV W (.agg #[.slice A T.length c, .int .i64 r]) T r) := Lib.hid fun W h => HTV.out W (HTA.out W h)
              have HTU : Hid (∀ W, Below wr.heap.size wr W → TreeV W (.agg #[.slice (some ⟨gU, 0, none⟩) T.length T.length, .int .i64 ru]) U ru) := Lib.hid fun W h => ⟨_, rfl, hnu.below h⟩
              have QRU : Hid (∀ W, Below wr.heap.size wr W → Calls Tryz.prog 9 #[.agg #[.slice (some ⟨gU, 0, none⟩) T.length T.length, .int .i64 ru]] W fun e w' => e = .returned (.bool R) ∧ Below W.heap.size W w') := Lib.hid fun W h => by
                have := right_any _ U ru W (HTU.out W h) hsu.szd
                rw [← hRU] at this
                exact this
              have QRT : Hid (∀ W, Below wr.heap.size wr W → Calls Tryz.prog 9 #[.agg #[.slice A T.length c, .int .i64 r]] W fun e w' => e = .returned (.bool R) ∧ Below W.heap.size W w') := Lib.hid fun W h => by
                have := right_any _ T r W (HTT.out W h) HSM.out.szd
                rw [← hR] at this
                exact this
              have QDU : Hid (∀ W, Below wr.heap.size wr W → Calls Tryz.prog 10 #[.agg #[.slice (some ⟨gU, 0, none⟩) T.length T.length, .int .i64 ru]] W fun e w' => e = .returned (.int .i64 (D : Int)) ∧ Below W.heap.size W w') := Lib.hid fun W h => by
                have := deep_any _ U ru W (HTU.out W h)
                rw [← hDU] at this
                exact this
              have QDT : Hid (∀ W, Below wr.heap.size wr W → Calls Tryz.prog 10 #[.agg #[.slice A T.length c, .int .i64 r]] W fun e w' => e = .returned (.int .i64 (D : Int)) ∧ Below W.heap.size W w') := Lib.hid fun W h => by
                have := deep_any _ T r W (HTT.out W h)
                rw [← hD] at this
                exact this
              have QPU : Hid (∀ W, Below wr.heap.size wr W → Calls Tryz.prog 11 #[.agg #[.slice (some ⟨gU, 0, none⟩) T.length T.length, .int .i64 ru]] W fun e w' => e = .returned (.string O) ∧ Below W.heap.size W w') := Lib.hid fun W h => by
                have := print_any _ U ru W (HTU.out W h) hsu (HT.out.below (HTA.out W h))
                rw [← hOU] at this
                exact this
              have QPT : Hid (∀ W, Below wr.heap.size wr W → Calls Tryz.prog 11 #[.agg #[.slice A T.length c, .int .i64 r]] W fun e w' => e = .returned (.string O) ∧ Below W.heap.size W w') := Lib.hid fun W h => by
                have := print_any _ T r W (HTT.out W h) HSM.out (HT.out.below (HTA.out W h))
                rw [← hO] at this
                exact this
              have hubl : uB < wr.heap.size := Nat.lt_of_lt_of_le huB HLP.out.size
              have hwl : w.heap.size + 1 ≤ wr.heap.size := by have := HLP.out.size; omega
              have HK : Hid (∀ W, Below wr.heap.size wr W → W.cell? ⟨w.heap.size, 0, none⟩ = some (.slice A T.length c) ∧ W.cell? ⟨w.heap.size, 1, none⟩ = some (.int .i64 r) ∧ W.cell? ⟨uB, 0, none⟩ = some (.slice (some ⟨gU, 0, none⟩) T.length T.length) ∧ W.cell? ⟨uB, 1, none⟩ = some (.int .i64 ru)) := Lib.hid fun W h => by
                have h1 := HBX.out _ (HLP.out.hx.trans (h.mono hwl))
                have h2 := (h.block uB hubl).trans HLP.out.box
                exact ⟨h1.1, h1.2, cell_of_row W _ 0 _ 24 (0, 0) h2, cell_of_row W _ 1 _ 24 (0, 0) h2⟩
              have cur : Hid (Below wr.heap.size wr wr.drew) := Lib.hid (drewC _ _)
              have kk := Lib.hid (HK.out _ cur.out)
              obtain ⟨x0, x1, u0, u1⟩ := HK.out wr (Below.refl _ _)
              clear hnu hsu hU hR hD hO hRU hDU hOU hbox hc6 hmx hml
              go_wp2_with fail
              go_region_held3 (fun w' => w'.cell? ⟨w.heap.size, 0, none⟩ = some (.slice A T.length c) ∧ w'.cell? ⟨w.heap.size, 1, none⟩ = some (.int .i64 r) ∧ w'.cell? ⟨uB, 0, none⟩ = some (.slice (some ⟨gU, 0, none⟩) T.length T.length) ∧ w'.cell? ⟨uB, 1, none⟩ = some (.int .i64 ru))
                (exact kk.out)
                (first
                  | (go_at_call 9; with_reducible refine (QRU.out _ cur.out).mono ?_; rintro e w20 ⟨rfl, b'⟩; have cur := Lib.hid (thenB cur.out b'); have kk := Lib.hid (HK.out _ cur.out); clear b')
                  | (go_at_call 9; with_reducible refine (QRT.out _ cur.out).mono ?_; rintro e w20 ⟨rfl, b'⟩; have cur := Lib.hid (thenB cur.out b'); have kk := Lib.hid (HK.out _ cur.out); clear b')
                  | (go_at_call 10; with_reducible refine (QDU.out _ cur.out).mono ?_; rintro e w20 ⟨rfl, b'⟩; have cur := Lib.hid (thenB cur.out b'); have kk := Lib.hid (HK.out _ cur.out); clear b')
                  | (go_at_call 10; with_reducible refine (QDT.out _ cur.out).mono ?_; rintro e w20 ⟨rfl, b'⟩; have cur := Lib.hid (thenB cur.out b'); have kk := Lib.hid (HK.out _ cur.out); clear b')
                  | (go_at_call 11; with_reducible refine (QPU.out _ cur.out).mono ?_; rintro e w20 ⟨rfl, b'⟩; have cur := Lib.hid (thenB cur.out b'); have kk := Lib.hid (HK.out _ cur.out); clear b')
                  | (go_at_call 11; with_reducible refine (QPT.out _ cur.out).mono ?_; rintro e w20 ⟨rfl, b'⟩; have cur := Lib.hid (thenB cur.out b'); have kk := Lib.hid (HK.out _ cur.out); clear b'))
              have HFIN := Lib.hid (HTA.out _ cur.out)
              clear x0 x1 u0 u1
              go_wp2_with fail
              go_ret
              exact ⟨rfl, HFIN.out⟩
end Go.Proofs.YtjlpklhibdkmeaaGreatDoor
