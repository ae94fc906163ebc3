/- tree.Deep: how deep a tree is. -/
import Derived.Test.YtjlpklhibdkmeaaGreatDoorMem
namespace Go.Proofs.YtjlpklhibdkmeaaGreatDoor
open Go.RowKit

/-- Nodes behind an address. -/
def NodesIn (W : World) (b o : Nat) (T : List Nd) : Prop := ∀ (i : Nat) x, T[i]? = some x → ∃ nv kv, NodeAt W b (o + i * 7) x nv kv ∧ Strs W nv x.names ∧ Nums W kv x.kids
theorem NodesIn.below {W W' : World} {b o : Nat} {T : List Nd} (h : NodesIn W b o T) (hb : Below W.heap.size W W') (hbk : b < W.heap.size) : NodesIn W' b o T := fun j x hj => by
  obtain ⟨nv, kv, h1, h2, h3⟩ := h j x hj
  exact ⟨nv, kv, h1.below hb hbk, h2.below hb, h3.below hb⟩
/-- Places as numbers. -/
def ints (m : List Nat) : List Int := m.map fun (j : Nat) => (j : Int)
theorem ints_len (m : List Nat) : (ints m).length = m.length := by simp [ints]
theorem ints_at {m : List Nat} {a i : Nat} (h : m[a]? = some i) : (ints m)[a]? = some (i : Int) := by simp [ints, h]
theorem ints_app (m : List Nat) (j : Nat) : ints (m ++ [j]) = ints m ++ [(j : Int)] := by simp [ints]
/-- What the search has in memory. -/
structure Srch (w : World) (T : List Nd) (nv : Value) (r : Nat) (a : Nat) (d : Nat → Nat) (m : List Nat) (metv : Value) (wr : World) : Prop where
  below : Below w.heap.size w wr
  size : w.heap.size + 2 ≤ wr.heap.size
  box0 : wr.cell? ⟨w.heap.size, 0, none⟩ = some nv
  box1 : wr.cell? ⟨w.heap.size, 1, none⟩ = some (.int .i64 (r : Int))
  fam : Fam wr (w.heap.size + 1) T.length (fun j => .int .i64 (d j : Int))
  row : NRow wr (w.heap.size + 2) metv (ints m)
theorem Srch.store {w wr : World} {T : List Nd} {nv : Value} {r a : Nat} {d : Nat → Nat} {m : List Nat} {metv : Value} (h : Srch w T nv r a d m metv wr) {k v : Nat} (hk : k < T.length) {x : Int} (hx : x = (v : Int)) : Srch w T nv r a (upd d k v) m metv (wr.setCell ⟨w.heap.size + 1, k, none⟩ (.int .i64 x)) := by
  subst hx
  exact
  ⟨h.below.setCell (Nat.le_succ _) _, by have := h.size; simpa using this,
   (World.cell?_setCell_other wr _ _ _ (by intro e; injection e with e1 _ _; omega)).trans h.box0, (World.cell?_setCell_other wr _ _ _ (by intro e; injection e with e1 _ _; omega)).trans h.box1,
   (h.fam.set_ hk _).eq_ (fun j _ => by
    unfold upd
    by_cases e : j = k
    · rw [if_pos e, if_pos e]
    · rw [if_neg e, if_neg e]), ownsRow_setCell_below h.row (by show w.heap.size + 1 < w.heap.size + 2; omega) _⟩
theorem Srch.grow {w wr w' : World} {T : List Nd} {nv : Value} {r a : Nat} {d : Nat → Nat} {m : List Nat} {metv v' : Value} (h : Srch w T nv r a d m metv wr) {k : Nat} (hr : NRow w' (w.heap.size + 2) v' (ints m ++ [(k : Int)])) (hb : Below (w.heap.size + 2) wr w') : Srch w T nv r a d (m ++ [k]) v' w' :=
  ⟨h.below.trans (hb.mono (by omega)), Nat.le_trans h.size hb.size, (hb.cell (p := ⟨_, 0, none⟩) (by show w.heap.size < _; omega)).trans h.box0, (hb.cell (p := ⟨_, 1, none⟩) (by show w.heap.size < _; omega)).trans h.box1, h.fam.below hb (by omega), by rw [ints_app]; exact hr⟩

theorem srch_start (T : List Nd) (nv : Value) (r : Nat) (w w1 : World) (hr : r < T.length) (hb1 : Below (w.alloc (.cells #[nv, .int .i64 (r : Int)] 24)).heap.size (w.alloc (.cells #[nv, .int .i64 (r : Int)] 24)) w1) (hs1 : w.heap.size + 1 < w1.heap.size)
    (h0 : w1.cell? ⟨w.heap.size, 0, none⟩ = some nv) (h1 : w1.cell? ⟨w.heap.size, 1, none⟩ = some (.int .i64 (r : Int))) (hf : Fam w1 (w.alloc (.cells #[nv, .int .i64 (r : Int)] 24)).heap.size T.length (fun _ => .int .i64 0)) :
    Srch w T nv r 0 (upd (fun _ => 0) r 1) [r] (.slice (some ⟨w1.heap.size, 0, none⟩) 1 1) ((w1.setCell ⟨w.heap.size + 1, r, none⟩ (.int .i64 1)).alloc (.cells #[.int .i64 (r : Int)] 3)) := by
  rw [asize] at hf hb1
  have hA : Below w.heap.size w w1 := ((Below.refl _ _).alloc (Nat.le_refl _) _).trans (hb1.mono (by omega))
  have hB : Below (w.heap.size + 2) (w1.setCell ⟨w.heap.size + 1, r, none⟩ (.int .i64 1)) ((w1.setCell ⟨w.heap.size + 1, r, none⟩ (.int .i64 1)).alloc (.cells #[.int .i64 (r : Int)] 3)) := (Below.refl _ _).alloc (by simp; omega) _
  have e1 : ∀ j : Nat, (⟨w.heap.size + 1, r, none⟩ : Addr) ≠ ⟨w.heap.size, j, none⟩ := fun j e => by injection e with e1 _ _; omega
  refine ⟨(hA.setCell (Nat.le_succ _) _).trans (hB.mono (by omega)), by simp; omega, ?_, ?_, ?_, ?_⟩
  · exact (hB.cell (p := ⟨_, 0, none⟩) (by show w.heap.size < _; omega)).trans ((World.cell?_setCell_other w1 _ _ _ (e1 0)).trans h0)
  · exact (hB.cell (p := ⟨_, 1, none⟩) (by show w.heap.size < _; omega)).trans ((World.cell?_setCell_other w1 _ _ _ (e1 1)).trans h1)
  · refine ((hf.set_ hr (.int .i64 1)).eq_ (fun j _ => ?_)).below hB (by omega)
    unfold upd
    by_cases e : j = r
    · rw [if_pos e, if_pos e]; rfl
    · rw [if_neg e, if_neg e]; rfl
  · have := World.ownsRow_lit (base := w.heap.size + 2) (e := 3) (size := 1) (w1.setCell ⟨w.heap.size + 1, r, none⟩ (.int .i64 1)) #[.int .i64 (r : Int)] 1 (by simp; omega) (by decide) rfl
    simpa [NRow, ints] using this
theorem drop_cons' {α : Type} {l : List α} {k : Nat} {x : α} (h : l[k]? = some x) : l.drop k = x :: l.drop (k + 1) := by
  obtain ⟨hk, rfl⟩ := List.getElem?_eq_some_iff.1 h
  exact List.drop_eq_getElem_cons hk

theorem Srch.drew {w wr : World} {T : List Nd} {nv : Value} {r a : Nat} {d : Nat → Nat} {m : List Nat} {metv : Value} (h : Srch w T nv r a d m metv wr) : Srch w T nv r a d m metv wr.drew :=
  ⟨h.below.drew, h.size, h.box0, h.box1, h.fam, h.row⟩
theorem bfs_none {T : List Nd} {a i : Nat} {d : Nat → Nat} {m : List Nat} (hi : m[a]? = some i) (ha : a ≤ T.length) (h : kidsGo T.length (d i + 1) (kidsAt T i) d m = none) : bfs T (T.length + 1 - a) a d m = none := by
  rw [show T.length + 1 - a = (T.length - a) + 1 by omega]
  simp only [bfs, hi, h]
theorem bfs_next {T : List Nd} {a i : Nat} {d d' : Nat → Nat} {m m' : List Nat} (hi : m[a]? = some i) (ha : a ≤ T.length) (h : kidsGo T.length (d i + 1) (kidsAt T i) d m = some (d', m')) : bfs T (T.length + 1 - a) a d m = bfs T (T.length + 1 - (a + 1)) (a + 1) d' m' := by
  rw [show T.length + 1 - a = (T.length - a) + 1 by omega, show T.length + 1 - (a + 1) = T.length - a by omega]
  simp only [bfs, hi, h]
theorem bfs_end {T : List Nd} {a : Nat} {d : Nat → Nat} {m : List Nat} (hi : m.length ≤ a) : bfs T (T.length + 1 - a) a d m = some (d, m) := by
  cases e : T.length + 1 - a with
  | zero => rfl
  | succ f => simp only [bfs, List.getElem?_eq_none hi]
theorem place_any (p : Int) (A : Option Addr) (n c : Nat) (w : World) : Calls Tryz.prog 14 #[.int .i64 p, .slice A n c] w fun e w' => e = .returned (.bool (decide (0 ≤ p) && decide (p < (n : Int)))) ∧ w = w' := by
  go_enter Tryz.func14, Tryz.ntmps14
  by_cases h : 0 ≤ p
  · have g : decide (0 ≤ p) = true := decide_eq_true h
    go_wp2_with fail
    go_ret
    exact ⟨by simp [g], rfl⟩
  · have g : decide (0 ≤ p) = false := decide_eq_false h
    go_wp2_with fail
    go_ret
    exact ⟨by simp, rfl⟩

theorem place_yes (p : Int) (A : Option Addr) (n c : Nat) (w : World) (h : 0 ≤ p ∧ p < (n : Int)) : Calls Tryz.prog 14 #[.int .i64 p, .slice A n c] w fun e w' => e = .returned (.bool true) ∧ w = w' :=
  (place_any p A n c w).mono fun e w' hh => ⟨by rw [hh.1, decide_eq_true h.1, decide_eq_true h.2]; rfl, hh.2⟩
theorem place_no (p : Int) (A : Option Addr) (n c : Nat) (w : World) (h : ¬ (0 ≤ p ∧ p < (n : Int))) : Calls Tryz.prog 14 #[.int .i64 p, .slice A n c] w fun e w' => e = .returned (.bool false) ∧ w = w' :=
  (place_any p A n c w).mono fun e w' hh => ⟨by
    rw [hh.1]
    by_cases h0 : 0 ≤ p
    · rw [decide_eq_false (fun h1 => h ⟨h0, h1⟩), Bool.and_false]
    · rw [decide_eq_false h0, Bool.false_and], hh.2⟩

set_option maxHeartbeats 4000000 in
theorem deep_main (T : List Nd) (b o c r : Nat) (w : World) (hb : b < w.heap.size) (hN : T.length ≤ 16384) (hr : r < T.length) (hn : NodesIn w b o T) :
    Calls Tryz.prog 10 #[.agg #[.slice (some ⟨b, o, none⟩) T.length c, .int .i64 (r : Int)]] w fun e w' => e = .returned (.int .i64 (deepT T (r : Int) : Int)) ∧ Below w.heap.size w w' := by
  have HT := Lib.hid hn
  have hdeep : deepT T (r : Int) = deepEnd T.length (bfs T (T.length + 1) 0 (upd (fun _ => 0) r 1) [r]) := by
    unfold deepT; rw [if_pos ⟨hN, by omega, by omega⟩, Int.toNat_natCast]
  rw [hdeep]
  obtain ⟨B, hB⟩ : ∃ B, B = bfs T (T.length + 1) 0 (upd (fun _ => 0) r 1) [r] := ⟨_, rfl⟩
  rw [← hB]
  have HB := Lib.hid hB
  have g1 : decide ((16384 : Int) < (T.length : Int)) = false := decide_eq_false (by omega)
  have g2 : decide ((0 : Int) ≤ (r : Int)) = true := decide_eq_true (by omega)
  have g3 : decide ((r : Int) < (T.length : Int)) = true := decide_eq_true (by omega)
  obtain ⟨w1, hmk, hb1, hs1, hf1⟩ := make_ints T.length (by omega) (w.alloc (.cells #[.slice (some ⟨b, o, none⟩) T.length c, .int .i64 (r : Int)] 24))
  have hbox0 : w1.cell? ⟨w.heap.size, 0, none⟩ = some (.slice (some ⟨b, o, none⟩) T.length c) := (hb1.cell (p := ⟨w.heap.size, 0, none⟩) (by simp)).trans (acell w _ _ _)
  have hbox1 : w1.cell? ⟨w.heap.size, 1, none⟩ = some (.int .i64 (r : Int)) := (hb1.cell (p := ⟨w.heap.size, 1, none⟩) (by simp)).trans (acell w _ _ _)
  have hd0 := hf1 r hr
  have HF := Lib.hid hf1
  have HB1 := Lib.hid hb1
  rw [asize] at hs1 hd0 hmk
  clear hn hdeep hB hb1 hf1
  go_enter Tryz.func10, Tryz.ntmps10
  go_wp2_with (go_at_call 14; refine (place_any _ _ _ _ _).mono ?_; rintro e w' ⟨rfl, rfl⟩)
  clear hmk
  have HS := Lib.hid (srch_start T (.slice (some ⟨b, o, none⟩) T.length c) r w w1 hr HB1.out hs1 hbox0 hbox1 HF.out)
  clear HB1 HF hd0 hbox0 hbox1 g2 g3
  go_loopg [4, 5] T.length (fun z metv atv wr => ∃ (a : Nat) (d : Nat → Nat) (m : List Nat), atv = .int .i64 (a : Int) ∧ Srch w T (.slice (some ⟨b, o, none⟩) T.length c) r a d m metv wr ∧ Half T r a d m ∧ T.length - a ≤ z ∧ bfs T (T.length + 1 - a) a d m = B)
  case atStart => exact ⟨0, _, [r], rfl, HS.out, Half.start hr, by omega, HB.out.symm⟩
  case round =>
    clear HS HB
    obtain ⟨a, d, m, rfl, hs, hh, hz, hbf⟩ := hrel
    have hml := hh.inv.len
    have hal := hh.le
    have hm1 : 1 ≤ m.length := by rw [hh.eq]; simp
    obtain ⟨g, cap, rfl, hg, hgl, hgc⟩ := hs.row.form (by rw [ints_len]; omega)
    rw [ints_len] at hs ⊢
    have b0 := hs.box0
    have b1 := hs.box1
    have HS := Lib.hid hs
    have HH := Lib.hid hh
    have HGC := Lib.hid hgc
    have HBF := Lib.hid hbf
    clear hs hh hgc hbf
    by_cases hlt : a < m.length
    · obtain ⟨i, hi⟩ : ∃ i, m[a]? = some i := ⟨m[a], List.getElem?_eq_getElem hlt⟩
      have hiN : i < T.length := HH.out.inv.lt i (List.mem_of_getElem? hi)
      have hx := List.getElem?_eq_getElem hiN
      obtain ⟨nv, kv, hna, _, hks⟩ := HT.out i _ hx
      have c6 := (HS.out.below.cell (p := ⟨b, o + i * 7 + 6, none⟩) hb).trans hna.c6
      have cm := HGC.out a _ (ints_at hi)
      obtain ⟨ks, hksd⟩ : ∃ ks, ks = T[i].kids := ⟨_, rfl⟩
      rw [← hksd] at hks
      have HKS := Lib.hid hksd
      clear hksd
      obtain ⟨KA, kc, rfl, hkc, hka⟩ := hks
      have HX := Lib.hid hx
      have hal' : a ≤ T.length := by omega
      clear hx
      go_wp2_with fail
      go_region
      go_wp2_with fail
      go_loopg [4, 47] ks.length (fun z metv kvv wr2 => ∃ (k : Nat) (d2 : Nat → Nat) (m2 : List Nat), kvv = .int .i64 (k : Int) ∧ k ≤ ks.length ∧ ks.length - k ≤ z ∧ Srch w T (.slice (some ⟨b, o, none⟩) T.length c) r a d2 m2 metv wr2 ∧ Inv T.length d2 m2 ∧ m2.length = m.length + k ∧ m2[a]? = some i ∧ d2 i = d i ∧ (∀ j, d2 j ≤ a + 2) ∧
        kidsGo T.length (d i + 1) (ks.drop k) d2 m2 = kidsGo T.length (d i + 1) ks d m)
      case atStart => exact ⟨0, d, m, rfl, Nat.zero_le _, Nat.le_refl _, HS.out.drew, HH.out.inv, rfl, hi, rfl, fun j => by have := HH.out.bound j; omega, rfl⟩
      case round =>
        obtain ⟨k, d2, m2, rfl, hk, hz2, hs2, hinv2, hlen2, hi2, hdi, hbd2, hgo⟩ := hrel
        have hml2 := hinv2.len
        clear cm hgl b0 b1 HGC
        obtain ⟨g2, cap2, rfl, hg2, hgl2, hgc2⟩ := hs2.row.form (by rw [ints_len]; omega)
        rw [ints_len] at hs2 ⊢
        have b0 := hs2.box0
        have b1 := hs2.box1
        have HS2 := Lib.hid hs2
        have HI2 := Lib.hid hinv2
        have HGO := Lib.hid hgo
        have HBD := Lib.hid hbd2
        have cm2 := hgc2 a _ (ints_at hi2)
        have HI := Lib.hid hi2
        have HDI := Lib.hid hdi
        have HLEN := Lib.hid hlen2
        have hm2a : a < m2.length := (List.getElem?_eq_some_iff.1 HI.out).1
        have hkN : k ≤ 20000 := by omega
        clear hlen2 hs2 hinv2 hgo hbd2 hgc2 hi2 hdi
        by_cases hkl : k < ks.length
        · obtain ⟨z, hzk⟩ : ∃ z, ks[k]? = some z := ⟨ks[k], List.getElem?_eq_getElem hkl⟩
          have hdr := drop_cons' hzk
          rcases hka with hnil | ⟨bk, ok, rfl, hbk, hcell⟩
          · rw [hnil] at hkl; exact absurd hkl (Nat.not_lt_zero _)
          have ck := (HS2.out.below.cell (p := ⟨bk, ok + k, none⟩) hbk).trans (hcell k z hzk)
          have HC := Lib.hid hcell
          have HZ := Lib.hid hzk
          have HDR := Lib.hid hdr
          clear hcell hzk hdr
          by_cases hp : 0 ≤ z ∧ z < (T.length : Int)
          · obtain ⟨q, rfl⟩ : ∃ q : Nat, z = (q : Int) := ⟨z.toNat, by omega⟩
            have hq : q < T.length := by omega
            obtain ⟨cq, fq⟩ := HS2.out.fam q hq
            replace cq : wr.cell? ⟨w.heap.size + 1, q, none⟩ = some (.int .i64 (d2 q : Int)) := cq
            by_cases h0 : d2 q = 0
            · rw [h0] at cq
              have hiN2 := hiN
              obtain ⟨ci, fi⟩ := HS2.out.fam i hiN
              replace ci : wr.cell? ⟨w.heap.size + 1, i, none⟩ = some (.int .i64 (d i : Int)) := by rw [ci]; show some (Value.int .i64 (d2 i : Int)) = _; rw [HDI.out]
              have hdb := HH.out.bound i
              have hsz2 := HS2.out.size
              have hm2N : (ints m2).length ≤ 1000000 := by rw [ints_len]; omega
              have HST := Lib.hid (HS2.out.store (k := q) (v := d i + 1) hq (x := (d i : Int) + 1) (by omega))
              go_wp2_with (first | (go_at_call 14; refine (place_yes _ _ _ _ _ hp).mono ?_; rintro e w' ⟨rfl, rfl⟩) | (at_builtin; refine at_num _ (q : Int) rfl _ _ rfl (w.heap.size + 2) _ (ints m2) rfl HST.out.row _ (by simp) rfl hm2N (by simpa using hsz2) ?_; intro v' w' hr' hb'))
              go_roundg (ks.length - (k + 1))
              case measure => omega
              case rel => exact ⟨k + 1, upd d2 q (d i + 1), m2 ++ [q], by go_num, by omega, Nat.le_refl _, HST.out.grow hr' hb', HI2.out.add hq h0 (by omega), by rw [List.length_append, HLEN.out]; rfl, by rw [List.getElem?_append_left hm2a]; exact HI.out, by
                rw [upd_other _ _ (fun e => by subst e; have := (HH.out.inv.iff i).2 (List.mem_of_getElem? hi); have := HDI.out; omega)]; exact HDI.out, fun j => by
                have := HBD.out j
                by_cases e : j = q
                · subst e; rw [upd_same]; omega
                · rw [upd_other _ _ e]; exact this, by
                rw [← HGO.out, HDR.out, kidsGo, if_pos ⟨by omega, by omega, by simpa using h0⟩, Int.toNat_natCast]⟩
            · have hne : ((d2 q : Int) == 0) = false := beq_eq_false_iff_ne.2 (by omega)
              go_wp2_with (go_at_call 14; refine (place_yes _ _ _ _ _ hp).mono ?_; rintro e w' ⟨rfl, rfl⟩)
              go_ret
              have hg0 : kidsGo T.length (d i + 1) ks d m = none := by
                rw [← HGO.out, HDR.out, kidsGo, if_neg (fun hh => h0 (by simpa using hh.2.2))]
              exact ⟨by rw [← HBF.out, bfs_none hi hal' (by rw [kids_of HX.out, ← HKS.out]; exact hg0)]; rfl, HS2.out.below⟩
          · go_wp2_with (go_at_call 14; refine (place_no _ _ _ _ _ hp).mono ?_; rintro e w' ⟨rfl, rfl⟩)
            go_ret
            have hg0 : kidsGo T.length (d i + 1) ks d m = none := by
              rw [← HGO.out, HDR.out, kidsGo, if_neg (fun hh => hp ⟨hh.1, hh.2.1⟩)]
            exact ⟨by rw [← HBF.out, bfs_none hi hal' (by rw [kids_of HX.out, ← HKS.out]; exact hg0)]; rfl, HS2.out.below⟩
        · have hke : k = ks.length := by omega
          have hg1 : kidsGo T.length (d i + 1) ks d m = some (d2, m2) := by
            rw [← HGO.out, hke, List.drop_length]; rfl
          have hgk : kidsGo T.length (d i + 1) (kidsAt T i) d m = some (d2, m2) := by rw [kids_of HX.out, ← HKS.out]; exact hg1
          have HHn := Lib.hid (HH.out.step hi hgk)
          have HBn := Lib.hid ((bfs_next hi hal' hgk).symm.trans HBF.out)
          clear hg1 hgk hke
          go_wp2_with fail
          go_roundg (T.length - (a + 1))
          case measure => omega
          case rel => exact ⟨a + 1, d2, m2, by go_num, (have h := HS2.out; ⟨h.below, h.size, h.box0, h.box1, h.fam, h.row⟩), HHn.out, Nat.le_refl _, HBn.out⟩
    · have hae : a = m.length := by omega
      have hB : B = some (d, m) := by rw [← HBF.out, bfs_end (by omega)]
      have HBB := Lib.hid hB
      clear hB HBF
      by_cases hfull : m.length < T.length
      · have g5 : decide ((m.length : Int) < (T.length : Int)) = true := decide_eq_true (by omega)
        go_wp2_with fail
        go_ret
        exact ⟨by rw [HBB.out]; exact congrArg (fun x : Nat => Ending.returned (.int .i64 (x : Int))) (if_pos hfull).symm, HS.out.below⟩
      · have g5 : decide ((m.length : Int) < (T.length : Int)) = false := decide_eq_false (by omega)
        obtain ⟨l, hl⟩ : ∃ l, m[m.length - 1]? = some l := ⟨m[m.length - 1], List.getElem?_eq_getElem (by omega)⟩
        have hlN : l < T.length := HH.out.inv.lt l (List.mem_of_getElem? hl)
        have cl := HGC.out (m.length - 1) _ (ints_at hl)
        have cd : wr.cell? ⟨w.heap.size + 1, l, none⟩ = some (.int .i64 (d l : Int)) := (HS.out.fam l hlN).1
        have hlast : m.getLastD 0 = l := by
          rw [List.getLastD_eq_getLast?, List.getLast?_eq_getElem?, hl]; rfl
        have HL := Lib.hid hlast
        clear hlast hl hae
        go_wp2_with fail
        go_ret
        exact ⟨by rw [HBB.out]; exact congrArg (fun x : Nat => Ending.returned (.int .i64 (x : Int))) (by rw [← HL.out]; exact (if_neg hfull).symm), HS.out.below⟩
/-- Where no search begins. -/
theorem deep_none (T : List Nd) (A : Option Addr) (c : Nat) (r : Int) (w : World) (h : ¬ (T.length ≤ 16384 ∧ 0 ≤ r ∧ r < (T.length : Int))) :
    Calls Tryz.prog 10 #[.agg #[.slice A T.length c, .int .i64 r]] w fun e w' => e = .returned (.int .i64 (deepT T r : Int)) ∧ Below w.heap.size w w' := by
  have hd : deepT T r = 0 := by unfold deepT; rw [if_neg h]
  rw [hd]
  have b1 := (Below.refl w.heap.size w).alloc (Nat.le_refl _) (.cells #[.slice A T.length c, .int .i64 r] 24)
  by_cases hN : T.length ≤ 16384
  · have g1 : decide ((16384 : Int) < (T.length : Int)) = false := decide_eq_false (by omega)
    have hp : ¬ (0 ≤ r ∧ r < (T.length : Int)) := fun hh => h ⟨hN, hh⟩
    clear h hd
    go_enter Tryz.func10, Tryz.ntmps10
    go_wp2_with (go_at_call 14; refine (place_no _ _ _ _ _ hp).mono ?_; rintro e w' ⟨rfl, rfl⟩)
    go_ret
    exact ⟨rfl, b1⟩
  · have g1 : decide ((16384 : Int) < (T.length : Int)) = true := decide_eq_true (by omega)
    clear h hd
    go_enter Tryz.func10, Tryz.ntmps10
    go_wp2_with fail
    go_ret
    exact ⟨rfl, b1⟩
/-- A tree by value. -/
def TreeV (W : World) (v : Value) (T : List Nd) (r : Int) : Prop := ∃ nv, v = .agg #[nv, .int .i64 r] ∧ Nodes W nv T
theorem TreeV.below {W W' : World} {v : Value} {T : List Nd} {r : Int} (h : TreeV W v T r) (hb : Below W.heap.size W W') : TreeV W' v T r := by
  obtain ⟨nv, e, hn⟩ := h
  exact ⟨nv, e, hn.below hb⟩
theorem deep_any (v : Value) (T : List Nd) (r : Int) (w : World) (h : TreeV w v T r) : Calls Tryz.prog 10 #[v] w fun e w' => e = .returned (.int .i64 (deepT T r : Int)) ∧ Below w.heap.size w w' := by
  obtain ⟨nv, rfl, A, c, rfl, hc, hn⟩ := h
  by_cases hh : T.length ≤ 16384 ∧ 0 ≤ r ∧ r < (T.length : Int)
  · rcases hn with rfl | ⟨b, o, rfl, hb, hx⟩
    · exfalso
      have := hh.2.2
      simp at this
      omega
    · obtain ⟨q, rfl⟩ : ∃ q : Nat, r = (q : Int) := ⟨r.toNat, by omega⟩
      exact deep_main T b o c q w hb hh.1 (by omega) hx
  · exact deep_none T A c r w hh
theorem deep_le (T : List Nd) (r : Int) : deepT T r ≤ 16385 := by
  by_cases h : deepT T r = 0
  · omega
  · unfold deepT at h ⊢
    split
    · rename_i hh
      rw [if_pos hh] at h
      cases e : bfs T (T.length + 1) 0 (upd (fun _ => 0) r.toNat 1) [r.toNat] with
      | none => rw [e] at h; exact absurd rfl h
      | some p =>
        obtain ⟨d, m⟩ := p
        have hf := bfs_half _ _ _ _ _ _ (Half.start (T := T) (r := r.toNat) (by omega)) (by omega) e
        show (if m.length < T.length then 0 else _) ≤ _
        split
        · omega
        · have := hf.bound (m.getLastD 0)
          have := hf.inv.len
          exact Nat.le_trans (hf.bound (m.getLastD 0)) (by omega)
    · omega
end Go.Proofs.YtjlpklhibdkmeaaGreatDoor
