/- selkielaw06.TreeGrows answers true at any tree and line. -/
import Derived.Test.YtjlpklhibdkmeaaGreatDoorLw
namespace Go.Proofs.YtjlpklhibdkmeaaGreatDoor
open Go.RowKit

def doN (at_ : Int) (r : Int) : Nd := ⟨22, at_, 0, 0, ⟨#[]⟩, [], [r]⟩
def blN (at_ : Int) (n : Int) : Nd := ⟨18, at_, 0, 0, ⟨#[]⟩, [], [n]⟩
theorem grown_is (T : List Nd) (r at_ : Int) : grown T r (doN at_ 0) (blN at_ 0) = T ++ [doN at_ r, blN at_ (T.length : Int)] := rfl
/-- The tree in its new blocks. -/
theorem grown_nodes {w7 w8 w10 : World} {B gu gk : Nat} {nvc nv' : Value} {T : List Nd} {vs : List (Value × Value)} {r at_ : Int} {u1 u2 : Value} (hC : Cop w7 B nvc T vs)
    (hrow : w8.ownsRow B 32 7 nv' (T ++ [doN at_ r, blN at_ (T.length : Int)]).length (rowc (T ++ [doN at_ r, blN at_ (T.length : Int)]) (vs ++ [(.slice none 0 0, .slice (some ⟨gk, 0, none⟩) 1 1), (.slice none 0 0, .slice (some ⟨gk + 1, 0, none⟩) 1 1)])))
    (hkeep : ∀ (i : Nat) ob, w7.heap[i]? = some ob → some i ≠ nvc.ownBlock → w8.heap[i]? = some ob) (hgu : w8.heap[gu]? = some (.cells #[u1, u2] 24 (0, 0)))
    (h10 : ∀ (i : Nat) ob, w8.heap[i]? = some ob → i ≠ gu → w10.heap[i]? = some ob)
    (hk1 : w7.heap[gk]? = some (.cells #[.int .i64 r] 3 (0, 0))) (hk2 : w7.heap[gk + 1]? = some (.cells #[.int .i64 (T.length : Int)] 3 (0, 0))) : Nodes w10 nv' (grown T r (doN at_ 0) (blN at_ 0)) := by
  have hne : ∀ (g : Nat) (c : Array Value) (e : TypeId) (h : Obj), w8.heap[g]? = some (.cells c e (0, 0)) → e ≠ 24 → g ≠ gu := fun g c e _ hc he hg => by
    rw [hg, hgu] at hc
    injection hc with h1
    injection h1 with _ h2 _
    exact he h2.symm
  have h8 : ∀ (g : Nat) (c : Array Value) (e : TypeId), e ≠ 32 → w7.heap[g]? = some (.cells c e (0, 0)) → w8.heap[g]? = some (.cells c e (0, 0)) := fun g c e he hc => hkeep g _ hc (fun h => by
    obtain ⟨c', fz, hc'⟩ := Lib.ownsRow_kind hC.row g h.symm
    rw [hc] at hc'
    injection hc' with h1
    injection h1 with _ h2 _
    exact he h2)
  have h9 : ∀ (g : Nat) (c : Array Value) (e : TypeId), e ≠ 32 → e ≠ 24 → w7.heap[g]? = some (.cells c e (0, 0)) → w10.heap[g]? = some (.cells c e (0, 0)) := fun g c e he he' hc => h10 g _ (h8 g c e he hc) (hne g c e (.cells c e (0, 0)) (h8 g c e he hc) he')
  rw [grown_is]
  refine nodes_of_row (B := B) (vs := vs ++ [(.slice none 0 0, .slice (some ⟨gk, 0, none⟩) 1 1), (.slice none 0 0, .slice (some ⟨gk + 1, 0, none⟩) 1 1)]) (by simp [hC.len]) (own_kept hrow fun g c hg hc => h10 g _ hc (hne g c 32 (.cells c 32 (0, 0)) hc (by decide))) ?_
  have hk : ∀ (g : Nat) (z : Int), w7.heap[g]? = some (.cells #[.int .i64 z] 3 (0, 0)) → Nums w10 (.slice (some ⟨g, 0, none⟩) 1 1) [z] := fun g z hg => by
    have h := h9 g _ 3 (by decide) (by decide) hg
    exact nums_lit w10 g z (Array.getElem?_eq_some_iff.1 h).1 (cell_of_row w10 g 0 _ 3 (0, 0) h)
  intro i x p hx hp
  rcases Nat.lt_or_ge i T.length with h | h
  · rw [List.getElem?_append_left h] at hx
    rw [List.getElem?_append_left (by rw [hC.len]; exact h)] at hp
    exact ⟨own_strs (own_kept (hC.str i x p hx hp) fun g c _ hc => h9 g c 9 (by decide) (by decide) hc), own_nums (own_kept (hC.num i x p hx hp) fun g c _ hc => h9 g c 3 (by decide) (by decide) hc)⟩
  · rw [List.getElem?_append_right h] at hx
    rw [List.getElem?_append_right (by rw [hC.len]; exact h), hC.len] at hp
    match e : i - T.length, hx, hp with
    | 0, hx, hp =>
      obtain rfl := Option.some.inj hx
      obtain rfl := Option.some.inj hp
      exact ⟨strs_none _, hk gk r hk1⟩
    | 1, hx, hp =>
      obtain rfl := Option.some.inj hx
      obtain rfl := Option.some.inj hp
      exact ⟨strs_none _, hk (gk + 1) _ hk2⟩
    | j + 2, hx, hp => simp at hx
theorem grown_sm {T : List Nd} {r at_ : Int} (h : Sm T) (hl : T.length ≤ 4000) (h0 : 0 ≤ at_) (h1 : at_ ≤ 1000) : Sm (grown T r (doN at_ 0) (blN at_ 0)) := by
  have key : ∀ x ∈ grown T r (doN at_ 0) (blN at_ 0), x ∈ T ∨ x = doN at_ r ∨ x = blN at_ (T.length : Int) := fun x hx => by
    rw [grown_is] at hx
    simpa using hx
  refine ⟨by rw [grown_len]; omega, fun x hx => ?_, fun x hx => ?_, fun x hx => ?_, fun x hx => ?_, fun x hx => ?_⟩
  · rcases key x hx with h2 | rfl | rfl
    · exact h.l0 x h2
    · exact ⟨by show _ ≤ at_; omega, by show at_ ≤ _; omega⟩
    · exact ⟨by show _ ≤ at_; omega, by show at_ ≤ _; omega⟩
  · rcases key x hx with h2 | rfl | rfl
    · exact h.o0 x h2
    · exact ⟨by show _ ≤ (0 : Int); decide, by show (0 : Int) ≤ _; decide⟩
    · exact ⟨by show _ ≤ (0 : Int); decide, by show (0 : Int) ≤ _; decide⟩
  · rcases key x hx with h2 | rfl | rfl
    · exact h.n0 x h2
    · exact ⟨by show _ ≤ (0 : Int); decide, by show (0 : Int) ≤ _; decide⟩
    · exact ⟨by show _ ≤ (0 : Int); decide, by show (0 : Int) ≤ _; decide⟩
  · rcases key x hx with h2 | rfl | rfl
    · exact h.s1 x h2
    · exact Nat.zero_le _
    · exact Nat.zero_le _
  · rcases key x hx with h2 | rfl | rfl
    · exact h.nl x h2
    · exact Nat.zero_le _
    · exact Nat.zero_le _
theorem grown_right {T : List Nd} {r at_ : Int} (h : rightK T r = true) (hl : T.length ≤ 4000) (h1 : 1 ≤ at_) : rightK (grown T r (doN at_ 0) (blN at_ 0)) ((T.length + 1 : Nat) : Int) = decide (deepT T r + 2 ≤ 100) :=
  right_gr fieldsK koK soK h (by omega) ⟨rfl, h1, fields_do (doN at_ 0) [r] ⟨rfl, rfl, rfl, rfl⟩ (.inl rfl)⟩ ⟨rfl, h1, fields_do (blN at_ 0) [(T.length : Int)] ⟨rfl, rfl, rfl, rfl⟩ (.inr rfl)⟩ (ko_do 0) (ko_block 0)
theorem drewB (n : Nat) (w : World) : Below n w w.drew := ⟨rfl, rfl, rfl, Nat.le_refl _, fun _ _ => rfl⟩
theorem size_mk (l : List UInt8) : (⟨l.toArray⟩ : ByteArray).size = l.length := by rw [Lib.size_eq]
theorem grow_split {p q a b : List UInt8} {I O : ByteArray} (hI : I = ⟨p.toArray⟩) (hO : O = ⟨q.toArray⟩) (h : q = a ++ (32 :: (b ++ (32 :: p) ++ [41])) ++ [41]) :
    ∃ n : Nat, 0 < n ∧ O.size = n + I.size + 2 ∧ O.extract n (n + I.size) = I := by
  refine ⟨a.length + 1 + b.length + 1, by omega, ?_, ?_⟩
  · rw [hI, hO, size_mk, size_mk, h]
    simp only [List.length_append, List.length_cons, List.length_nil]
    omega
  · have e : q = (a ++ 32 :: b ++ [32]) ++ (p ++ [41, 41]) := by rw [h]; simp
    have hn : a.length + 1 + b.length + 1 = (a ++ 32 :: b ++ [32]).length := by simp; omega
    apply ByteArray.ext
    rw [ByteArray.data_extract, hI, hO, size_mk, e, hn]
    apply Array.toList_inj.1
    simp
set_option maxHeartbeats 8000000 in
set_option maxRecDepth 20000 in
theorem grows_any (nv : Value) (T : List Nd) (r : Int) (line : Int) (w : World) (hA : Arg w nv T) (hT : Tab w) (h0 : 0 ≤ line) (h255 : line ≤ 255) :
    Calls Tryz.prog 4 #[.agg #[nv, .int .i64 r], .int .u8 line] w fun e w' => e = .returned (.bool true) ∧ Below w.heap.size w w' := by
  have HA := Lib.hid hA
  obtain ⟨A, c, rfl, hc, _⟩ := hA.nodes
  have HT := Lib.hid hT
  have HB0 := Lib.hid (b_alloc w (.cells #[.slice A T.length c, .int .i64 r] 24))
  have HBX := Lib.hid (fun W (hW : Below (w.heap.size + 1) (w.alloc (.cells #[.slice A T.length c, .int .i64 r] 24)) W) => And.intro ((hW.cell (p := ⟨w.heap.size, 0, none⟩) (Nat.lt_succ_self _)).trans (acell w #[.slice A T.length c, .int .i64 r] 24 0)) ((hW.cell (p := ⟨w.heap.size, 1, none⟩) (Nat.lt_succ_self _)).trans (acell w #[.slice A T.length c, .int .i64 r] 24 1)))
  have HTV : Hid (∀ W, Below w.heap.size w W → TreeV W (.agg #[.slice A T.length c, .int .i64 r]) T r) := Lib.hid fun W h => ⟨_, rfl, (HA.out.below h).nodes⟩
  clear hA hT
  go_enter Tryz.func4, Tryz.ntmps4
  go_wp2_with fail
  refine (alive_any _ (HT.out.below HB0.out)).mono ?_; rintro e w1 ⟨rfl, b1⟩
  have HB1 := Lib.hid (thenB HB0.out b1)
  rw [asize] at b1
  have HX1 := Lib.hid b1
  obtain ⟨x0, x1⟩ := HBX.out _ b1
  clear b1
  go_wp2_with fail
  refine (great_any _ T r w1 (HTV.out _ HB1.out) HA.out.rd).mono ?_; rintro e w2 ⟨gb, rfl, hgb, b2⟩
  have HB2 := Lib.hid (thenB HB1.out b2)
  have HX2 := Lib.hid (HX1.out.trans (b2.mono (by have := HX1.out.size; rw [asize] at this; exact this)))
  obtain ⟨x0, x1⟩ := HBX.out _ HX2.out
  clear b2
  cases gb with
  | true =>
    clear hgb
    go_wp2_with fail
    go_ret
    exact ⟨rfl, HB2.out⟩
  | false =>
    obtain ⟨hl, hng⟩ := hgb rfl
    have HNG := Lib.hid hng
    have HSM := Lib.hid (HA.out.sm hl hng)
    clear hng hgb
    go_wp2_with fail
    refine (right_any _ T r w2 (HTV.out _ HB2.out) HSM.out.szd).mono ?_; rintro e w3 ⟨rfl, b3⟩
    have HB3 := Lib.hid (thenB HB2.out b3)
    have HX3 := Lib.hid (HX2.out.trans (b3.mono (by have := HX2.out.size; rw [asize] at this; exact this)))
    obtain ⟨x0, x1⟩ := HBX.out _ HX3.out
    clear b3
    cases hrt : rightK T r with
    | false =>
      clear hrt
      go_wp2_with fail
      go_ret
      exact ⟨rfl, HB3.out⟩
    | true =>
      have HRT := Lib.hid hrt
      clear hrt
      go_wp2_with fail
      refine (copy_any _ T r w3 (HA.out.below HB3.out).nodes (HA.out.below HB3.out).nil_ hl HNG.out).mono ?_; rintro e w4 ⟨nvc, vs, rfl, hcop, ⟨NA, nc, rfl⟩, b4⟩
      have HB4 := Lib.hid (thenB HB3.out b4)
      have HX4 := Lib.hid (HX3.out.trans (b4.mono (by have := HX3.out.size; rw [asize] at this; exact this)))
      have HC4 := Lib.hid hcop
      have hsz4 := b4.size
      have hsz3 := HB3.out.size
      have hlt4 : w.heap.size < w4.heap.size := by have := HX4.out.size; rw [asize] at this; exact this
      obtain ⟨x0, x1⟩ := HBX.out _ HX4.out
      clear b4 hcop
      have hbel7 := thenB (thenB (b_alloc w4 (.cells #[.slice NA T.length nc, .int .i64 r] 24)) (b_alloc _ (.cells #[.int .i64 r] 3))) (b_alloc _ (.cells #[.int .i64 (T.length : Int)] 3))
      have hs5 := asize w4 (.cells #[.slice NA T.length nc, .int .i64 r] 24)
      have hs6 := asize (w4.alloc (.cells #[.slice NA T.length nc, .int .i64 r] 24)) (.cells #[.int .i64 r] 3)
      have hs7 := asize ((w4.alloc (.cells #[.slice NA T.length nc, .int .i64 r] 24)).alloc (.cells #[.int .i64 r] 3)) (.cells #[.int .i64 (T.length : Int)] 3)
      have hgu7 := (b_alloc ((w4.alloc (.cells #[.slice NA T.length nc, .int .i64 r] 24)).alloc (.cells #[.int .i64 r] 3)) (.cells #[.int .i64 (T.length : Int)] 3)).block w4.heap.size (by omega) |>.trans <| (b_alloc (w4.alloc (.cells #[.slice NA T.length nc, .int .i64 r] 24)) (.cells #[.int .i64 r] 3)).block w4.heap.size (by omega) |>.trans <| heap_alloc_new w4 (.cells #[.slice NA T.length nc, .int .i64 r] 24)
      have hk1 := (b_alloc ((w4.alloc (.cells #[.slice NA T.length nc, .int .i64 r] 24)).alloc (.cells #[.int .i64 r] 3)) (.cells #[.int .i64 (T.length : Int)] 3)).block (w4.alloc (.cells #[.slice NA T.length nc, .int .i64 r] 24)).heap.size (by omega) |>.trans <| heap_alloc_new (w4.alloc (.cells #[.slice NA T.length nc, .int .i64 r] 24)) (.cells #[.int .i64 r] 3)
      have hk2 := heap_alloc_new ((w4.alloc (.cells #[.slice NA T.length nc, .int .i64 r] 24)).alloc (.cells #[.int .i64 r] 3)) (.cells #[.int .i64 (T.length : Int)] 3)
      rw [hs5] at hk1 hs6
      rw [hs6] at hk2 hs7
      obtain ⟨w7, hw7⟩ : ∃ w7, w7 = ((w4.alloc (.cells #[.slice NA T.length nc, .int .i64 r] 24)).alloc (.cells #[.int .i64 r] 3)).alloc (.cells #[.int .i64 (T.length : Int)] 3) := ⟨_, rfl⟩
      rw [← hw7] at hbel7 hs7 hgu7 hk1 hk2
      have HW7 := Lib.hid hw7
      have HC7 := Lib.hid (HC4.out.below hbel7)
      have HS7 := Lib.hid hs7
      have HG7 := Lib.hid hgu7
      have HK1 := Lib.hid hk1
      have HK2 := Lib.hid hk2
      have HBL7 := Lib.hid hbel7
      have hown : ∀ g, (Value.slice NA T.length nc).ownBlock = some g → g < w4.heap.size := fun g hg => (HC4.out.row.lt g hg).2
      have HOWN := Lib.hid hown
      clear hbel7 hs5 hs6 hs7 hgu7 hk1 hk2 hw7 hown
      go_wp2_with (
        at_builtin; rw [← HW7.out]; refine at_two w7 (doN (1 + line) r) (blN (1 + line) (T.length : Int)) (.slice none 0 0, .slice (some ⟨w4.heap.size + 1, 0, none⟩) 1 1) (.slice none 0 0, .slice (some ⟨w4.heap.size + 1 + 1, 0, none⟩) 1 1) rfl rfl rfl rfl rfl _ _ rfl (w3.heap.size + 3) (.slice NA T.length nc) T vs HC7.out.len rfl HC7.out.row _ (by rw [HS7.out]) rfl _ rfl T.length rfl (by omega) (by have := HS7.out; omega) ?_; intro A8 c8 w8 hr8' b8' k8'
        have hgu8 := k8' _ _ HG7.out (fun h => by have := HOWN.out _ h.symm; omega)
        have y0 : w8.cell? ⟨w4.heap.size, 0, none⟩ = some (.slice NA T.length nc) := cell_of_row w8 _ 0 _ 24 (0, 0) hgu8
        have y1 : w8.cell? ⟨w4.heap.size, 1, none⟩ = some (.int .i64 r) := cell_of_row w8 _ 1 _ 24 (0, 0) hgu8
        have yf0 : w8.frozen? ⟨w4.heap.size, 0, none⟩ = false := Lib.frozen_of_heap hgu8 0
        have yf1 : w8.frozen? ⟨w4.heap.size, 1, none⟩ = false := Lib.frozen_of_heap hgu8 1
        have hx8 := (HX4.out.trans (HBL7.out.mono hlt4)).trans (b8'.mono (by omega))
        have HX8 := Lib.hid hx8
        obtain ⟨x0', x1'⟩ := HBX.out _ hx8
        have HR8 := Lib.hid hr8'
        have B8 := Lib.hid b8'
        have K8 := Lib.hid k8'
        have HG8 := Lib.hid hgu8
        clear hr8' b8' k8' hx8 hgu8)
      have h10 : ∀ (i : Nat) ob, w8.heap[i]? = some ob → i ≠ w4.heap.size → ((w8.setCell ⟨w4.heap.size, 0, none⟩ (.slice A8 (T.length + 2) c8)).setCell ⟨w4.heap.size, 1, none⟩ (.int .i64 ((T.length : Int) + 1))).heap[i]? = some ob := fun i ob h hne => (Below.heap_setCell _ _ _ i hne).trans ((Below.heap_setCell w8 _ _ i hne).trans h)
      have hnu := grown_nodes HC7.out HR8.out K8.out HG8.out h10 HK1.out HK2.out
      have hx10 := (HX8.out.setCell (p := ⟨w4.heap.size, 0, none⟩) hlt4 (.slice A8 (T.length + 2) c8)).setCell (p := ⟨w4.heap.size, 1, none⟩) hlt4 (.int .i64 ((T.length : Int) + 1))
      have hb10 := HB0.out.trans (hx10.mono (Nat.le_succ _))
      have z0 := World.cell?_setCell_same w8 ⟨w4.heap.size, 0, none⟩ (.slice A8 (T.length + 2) c8) y0
      have z1 := World.cell?_setCell_same (w8.setCell ⟨w4.heap.size, 0, none⟩ (.slice A8 (T.length + 2) c8)) ⟨w4.heap.size, 1, none⟩ (.int .i64 ((T.length : Int) + 1)) ((World.cell?_setCell_other w8 _ _ _ (by intro e; injection e with _ e2 _; exact absurd e2 (by decide))).trans y1)
      have z0' : ((w8.setCell ⟨w4.heap.size, 0, none⟩ (.slice A8 (T.length + 2) c8)).setCell ⟨w4.heap.size, 1, none⟩ (.int .i64 ((T.length : Int) + 1))).cell? ⟨w4.heap.size, 0, none⟩ = some (.slice A8 (T.length + 2) c8) := (World.cell?_setCell_other _ _ _ _ (by intro e; injection e with _ e2 _; exact absurd e2 (by decide))).trans z0
      obtain ⟨w10, hw10⟩ : ∃ w10, w10 = (w8.setCell ⟨w4.heap.size, 0, none⟩ (.slice A8 (T.length + 2) c8)).setCell ⟨w4.heap.size, 1, none⟩ (.int .i64 ((T.length : Int) + 1)) := ⟨_, rfl⟩
      rw [← hw10] at hnu hx10 hb10 z1 z0' ⊢
      obtain ⟨U, hU⟩ : ∃ U, U = grown T r (doN (1 + line) 0) (blN (1 + line) 0) := ⟨_, rfl⟩
      have hdt : deepT T r ≠ 0 := ((right_split fieldsK koK soK).1 HRT.out).1
      have hdu : deepT U ((T.length : Int) + 1) = deepT T r + 2 := by rw [hU]; exact deep_gr (x := doN (1 + line) 0) (y := blN (1 + line) 0) hdt (by omega)
      have hru : rightK U ((T.length : Int) + 1) = decide (deepT T r + 2 ≤ 100) := by rw [hU]; exact grown_right HRT.out hl (by omega)
      have hsu : Sm U := by rw [hU]; exact grown_sm HSM.out hl (by omega) (by omega)
      have hpu : rightK U ((T.length : Int) + 1) = true → printK U ((T.length : Int) + 1) = hdK { blN (1 + line) 0 with kids := [(T.length : Int)] } ++ (32 :: (hdK { doN (1 + line) 0 with kids := [r] } ++ (32 :: printK T r) ++ [41])) ++ [41] := by
        intro h
        rw [hU] at h ⊢
        exact print_gr fieldsK koK soK hdK HRT.out h
      rw [← hU] at hnu
      have HTU : Hid (∀ W, Below w10.heap.size w10 W → TreeV W (.agg #[.slice A8 (T.length + 2) c8, .int .i64 ((T.length : Int) + 1)]) U ((T.length : Int) + 1)) := Lib.hid fun W h => ⟨_, rfl, hnu.below h⟩
      have HUB : Hid (∀ W, Below w10.heap.size w10 W → W.cell? ⟨w4.heap.size, 0, none⟩ = some (.slice A8 (T.length + 2) c8) ∧ W.cell? ⟨w4.heap.size, 1, none⟩ = some (.int .i64 ((T.length : Int) + 1))) := Lib.hid fun W h => by
        have hlt : w4.heap.size < w10.heap.size := block_lt_of_cell z1
        exact ⟨(h.cell (p := ⟨w4.heap.size, 0, none⟩) hlt).trans z0', (h.cell (p := ⟨w4.heap.size, 1, none⟩) hlt).trans z1⟩
      obtain ⟨D, hD⟩ : ∃ D, D = deepT T r := ⟨_, rfl⟩
      rw [← hD] at hdu hru
      have HDU := Lib.hid hdu
      have HRU := Lib.hid hru
      have HSU := Lib.hid hsu
      have HPU := Lib.hid hpu
      have HD := Lib.hid hD
      have HX10 := Lib.hid hx10
      have HB10 := Lib.hid hb10
      have hDl : D ≤ 16385 := by rw [hD]; exact deep_le T r
      have HTA := Lib.hid (fun W (h : Below w.heap.size w W) => HT.out.below h)
      clear hdt hdu hru hsu hpu hnu hD hx10 hb10 z0 hw10 hU y0 y1 yf0 yf1 x0' x1' x0 x1 h10 HC4 HC7 HS7 HG7 HK1 HK2 HBL7 HOWN HR8 B8 K8 HG8 HX8 HW7
      refine (deep_any _ T r w10 (HTV.out _ HB10.out)).mono ?_; rintro e w11 ⟨rfl, b11⟩
      rw [← HD.out]
      have B11 := Lib.hid b11
      have HX11 := Lib.hid (HX10.out.trans (b11.mono (by have := HX10.out.size; rw [asize] at this; exact this)))
      obtain ⟨x0, x1⟩ := HBX.out _ HX11.out
      obtain ⟨u0, u1⟩ := HUB.out _ b11
      clear b11 z0' z1
      go_wp2_with fail
      refine (deep_any _ U ((T.length : Int) + 1) w11 (HTU.out _ B11.out)).mono ?_; rintro e w12 ⟨rfl, b12⟩
      rw [HDU.out, show (((D + 2 : Nat)) : Int) = (D : Int) + 2 by omega]
      have B12 := Lib.hid (thenB B11.out b12)
      have HX12 := Lib.hid (HX11.out.trans (b12.mono (by have := HX11.out.size; rw [asize] at this; exact this)))
      obtain ⟨x0, x1⟩ := HBX.out _ HX12.out
      obtain ⟨u0, u1⟩ := HUB.out _ B12.out
      clear b12
      go_wp2_with fail
      refine (right_any _ U ((T.length : Int) + 1) w12 (HTU.out _ B12.out) HSU.out.szd).mono ?_; rintro e w13 ⟨rfl, b13⟩
      have B13 := Lib.hid (thenB B12.out b13)
      have HX13 := Lib.hid (HX12.out.trans (b13.mono (by have := HX12.out.size; rw [asize] at this; exact this)))
      obtain ⟨x0, x1⟩ := HBX.out _ HX13.out
      obtain ⟨u0, u1⟩ := HUB.out _ B13.out
      clear b13
      obtain ⟨I, hI⟩ : ∃ I : ByteArray, I = ⟨(printK T r).toArray⟩ := ⟨_, rfl⟩
      obtain ⟨O, hO⟩ : ∃ O : ByteArray, O = ⟨(printK U ((T.length : Int) + 1)).toArray⟩ := ⟨_, rfl⟩
      have HP1 := Lib.hid (fun W h => hI ▸ print_any _ T r W (HTV.out W h) HSM.out (HTA.out W h))
      have HP2 := Lib.hid (fun W h h' => hO ▸ print_any _ U ((T.length : Int) + 1) W (HTU.out W h) HSU.out (HTA.out W h'))
      have HI := Lib.hid hI
      have HO := Lib.hid hO
      have k0 : Hid (w13.cell? ⟨w.heap.size, 0, none⟩ = some (.slice A T.length c) ∧ w13.cell? ⟨w.heap.size, 1, none⟩ = some (.int .i64 r) ∧ w13.cell? ⟨w4.heap.size, 0, none⟩ = some (.slice A8 (T.length + 2) c8) ∧ w13.cell? ⟨w4.heap.size, 1, none⟩ = some (.int .i64 ((T.length : Int) + 1))) := Lib.hid ⟨x0, x1, u0, u1⟩
      have HB13 := Lib.hid (HB10.out.trans (B13.out.mono HB10.out.size))
      clear hI hO
      rw [HRU.out]
      by_cases hdeep : D + 2 ≤ 100
      · have g1 : decide ((D : Int) + 2 ≤ 100) = true := decide_eq_true (by omega)
        have g2 : decide ((100 : Int) < (D : Int) + 2) = false := decide_eq_false (by omega)
        rw [decide_eq_true hdeep]
        have hsp := grow_split HI.out HO.out (HPU.out (by rw [HRU.out, decide_eq_true hdeep]))
        have hbn := text_bound HSU.out (by rw [HRU.out, decide_eq_true hdeep])
        obtain ⟨n, hn0, hsz, hex⟩ := hsp
        have hOb : O.size ≤ 140736000000000 := by rw [HO.out, size_mk, print_yes (by rw [HRU.out, decide_eq_true hdeep])]; omega
        have HEX := Lib.hid hex
        clear hex hbn
        have HK : Hid (∀ W, Below w13.heap.size w13 W → W.cell? ⟨w.heap.size, 0, none⟩ = some (.slice A T.length c) ∧ W.cell? ⟨w.heap.size, 1, none⟩ = some (.int .i64 r) ∧ W.cell? ⟨w4.heap.size, 0, none⟩ = some (.slice A8 (T.length + 2) c8) ∧ W.cell? ⟨w4.heap.size, 1, none⟩ = some (.int .i64 ((T.length : Int) + 1))) := Lib.hid fun W h => by
          have h1 := HBX.out _ (HX13.out.trans (h.mono (by have := HX13.out.size; rw [asize] at this; exact this)))
          have h2 := HUB.out _ (thenB B13.out h)
          exact ⟨h1.1, h1.2, h2.1, h2.2⟩
        have HQ1 := Lib.hid (fun W (h : Below w13.heap.size w13 W) => HP1.out W (thenB HB13.out h))
        have HQ2 := Lib.hid (fun W (h : Below w13.heap.size w13 W) => HP2.out W (thenB B13.out h) (thenB HB13.out h))
        go_wp2_with fail
        clear x0 x1 u0 u1
        obtain ⟨x0, x1, u0, u1⟩ := k0.out
        go_region_held3 (fun w' => w'.cell? ⟨w.heap.size, 0, none⟩ = some (.slice A T.length c) ∧ w'.cell? ⟨w.heap.size, 1, none⟩ = some (.int .i64 r) ∧ w'.cell? ⟨w4.heap.size, 0, none⟩ = some (.slice A8 (T.length + 2) c8) ∧ w'.cell? ⟨w4.heap.size, 1, none⟩ = some (.int .i64 ((T.length : Int) + 1)))
          (first | exact k2.out | exact k1.out | exact k0.out)
          (first
            | (go_at_call 11; with_reducible refine (HQ1.out _ cur.out).mono ?_; rintro e w15 ⟨rfl, b'⟩; have cur2 := Lib.hid (thenB cur.out b'); have k2 := Lib.hid (HK.out _ cur2.out); clear b')
            | (go_at_call 11; with_reducible refine (HQ2.out _ cur.out).mono ?_; rintro e w15 ⟨rfl, b'⟩; have cur2 := Lib.hid (thenB cur.out b'); have k2 := Lib.hid (HK.out _ cur2.out); clear b')
            | (go_at_call 11; with_reducible refine (HQ1.out _ (drewB _ _)).mono ?_; rintro e w14 ⟨rfl, b'⟩; have cur := Lib.hid (undrew b'); have k1 := Lib.hid (HK.out _ cur.out); clear b')
            | (go_at_call 11; with_reducible refine (HQ2.out _ (drewB _ _)).mono ?_; rintro e w14 ⟨rfl, b'⟩; have cur := Lib.hid (undrew b'); have k1 := Lib.hid (HK.out _ cur.out); clear b'))
        all_goals
          have HFIN := Lib.hid (thenB HB13.out cur2.out)
          clear k0 k1 k2 x0 x1 u0 u1
          go_wp2_with fail
          have hh : ((O.extract (n + I.size + 2 - I.size - 2) (n + I.size)).toList == I.toList) = true := by
            rw [show n + I.size + 2 - I.size - 2 = n by omega, HEX.out]
            exact beq_self_eq_true _
          rw [hh]
          go_ret
          exact ⟨rfl, HFIN.out⟩
      · have g1 : decide ((D : Int) + 2 ≤ 100) = false := decide_eq_false (by omega)
        have g2 : decide ((100 : Int) < (D : Int) + 2) = true := decide_eq_true (by omega)
        rw [decide_eq_false hdeep]
        obtain rfl : O = ⟨#[]⟩ := by rw [HO.out, print_no (by rw [HRU.out, decide_eq_false hdeep])]
        have HK : Hid (∀ W, Below w13.heap.size w13 W → W.cell? ⟨w.heap.size, 0, none⟩ = some (.slice A T.length c) ∧ W.cell? ⟨w.heap.size, 1, none⟩ = some (.int .i64 r) ∧ W.cell? ⟨w4.heap.size, 0, none⟩ = some (.slice A8 (T.length + 2) c8) ∧ W.cell? ⟨w4.heap.size, 1, none⟩ = some (.int .i64 ((T.length : Int) + 1))) := Lib.hid fun W h => by
          have h1 := HBX.out _ (HX13.out.trans (h.mono (by have := HX13.out.size; rw [asize] at this; exact this)))
          have h2 := HUB.out _ (thenB B13.out h)
          exact ⟨h1.1, h1.2, h2.1, h2.2⟩
        have HQ1 := Lib.hid (fun W (h : Below w13.heap.size w13 W) => HP1.out W (thenB HB13.out h))
        have HQ2 := Lib.hid (fun W (h : Below w13.heap.size w13 W) => HP2.out W (thenB B13.out h) (thenB HB13.out h))
        go_wp2_with fail
        clear x0 x1 u0 u1
        obtain ⟨x0, x1, u0, u1⟩ := k0.out
        go_region_held3 (fun w' => w'.cell? ⟨w.heap.size, 0, none⟩ = some (.slice A T.length c) ∧ w'.cell? ⟨w.heap.size, 1, none⟩ = some (.int .i64 r) ∧ w'.cell? ⟨w4.heap.size, 0, none⟩ = some (.slice A8 (T.length + 2) c8) ∧ w'.cell? ⟨w4.heap.size, 1, none⟩ = some (.int .i64 ((T.length : Int) + 1)))
          (first | exact k2.out | exact k1.out | exact k0.out)
          (first
            | (go_at_call 11; with_reducible refine (HQ1.out _ cur.out).mono ?_; rintro e w15 ⟨rfl, b'⟩; have cur2 := Lib.hid (thenB cur.out b'); have k2 := Lib.hid (HK.out _ cur2.out); clear b')
            | (go_at_call 11; with_reducible refine (HQ2.out _ cur.out).mono ?_; rintro e w15 ⟨rfl, b'⟩; have cur2 := Lib.hid (thenB cur.out b'); have k2 := Lib.hid (HK.out _ cur2.out); clear b')
            | (go_at_call 11; with_reducible refine (HQ1.out _ (drewB _ _)).mono ?_; rintro e w14 ⟨rfl, b'⟩; have cur := Lib.hid (undrew b'); have k1 := Lib.hid (HK.out _ cur.out); clear b')
            | (go_at_call 11; with_reducible refine (HQ2.out _ (drewB _ _)).mono ?_; rintro e w14 ⟨rfl, b'⟩; have cur := Lib.hid (undrew b'); have k1 := Lib.hid (HK.out _ cur.out); clear b'))
        all_goals
          have HFIN := Lib.hid (thenB HB13.out cur2.out)
          clear k0 k1 k2 x0 x1 u0 u1
          go_wp2_with fail
          go_ret
          exact ⟨rfl, HFIN.out⟩
end Go.Proofs.YtjlpklhibdkmeaaGreatDoor
