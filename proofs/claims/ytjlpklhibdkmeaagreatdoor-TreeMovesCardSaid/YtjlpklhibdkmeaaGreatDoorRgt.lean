/- tree.Right: whether a tree may be. -/
import Derived.Test.YtjlpklhibdkmeaaGreatDoorFl3
namespace Go.Proofs.YtjlpklhibdkmeaaGreatDoor
open Go.RowKit

def rightK (T : List Nd) (r : Int) : Bool := rightT fieldsK koK soK T r
def okK (T : List Nd) (x : Nd) : Bool := nodeOk fieldsK koK soK T x
theorem okK_is (T : List Nd) (x : Nd) : okK T x = (decide (1 ≤ x.line) && fieldsK x && koK x.kind x.num (sortsL T x)) := rfl
theorem right_no {T : List Nd} {r : Int} (h : deepT T r = 0 ∨ 100 < deepT T r ∨ kindAt T r.toNat ≠ 18) : rightK T r = false := by
  rw [Bool.eq_false_iff]
  intro hh
  obtain ⟨h1, h2, h3, _⟩ := (right_split fieldsK koK soK).1 hh
  rcases h with h | h | h
  · exact h1 h
  · omega
  · exact h h3
theorem right_yes {T : List Nd} {r : Int} (h1 : deepT T r ≠ 0) (h2 : ¬ 100 < deepT T r) (h3 : kindAt T r.toNat = 18) : rightK T r = T.all (okK T) := by
  unfold rightK rightT
  rw [decide_eq_true h1, decide_eq_true (show deepT T r ≤ 100 by omega), decide_eq_true h3]
  rfl
/-- What a call may ask of the nodes' sizes. -/
def Szd (T : List Nd) : Prop := ∀ x ∈ T, x.names.length ≤ 140737488355328
theorem snd_kids {T : List Nd} {r : Nat} {d : Nat → Nat} {m : List Nat} (hs : Snd T r d m) {i : Nat} {x : Nd} (hx : T[i]? = some x) : (∀ k ∈ x.kids, 0 ≤ k ∧ k < (T.length : Int)) ∧ x.kids.length ≤ T.length := by
  have hi := (List.getElem?_eq_some_iff.1 hx).1
  have h1 : ∀ k ∈ x.kids, 0 ≤ k ∧ k < (T.length : Int) := fun k hk => by
    obtain ⟨a, b, _⟩ := hs.kid i (hs.mem hi) k (by rw [kids_of hx]; exact hk)
    exact ⟨a, b⟩
  refine ⟨h1, ?_⟩
  have hn := hs.kidsNodup hi
  rw [kids_of hx] at hn
  have h2 := nodup_le T.length (x.kids.map Int.toNat) (by
    rw [List.Nodup, List.pairwise_map]
    refine List.Pairwise.imp_of_mem ?_ hn
    intro a b ha hb hab e
    have := h1 a ha
    have := h1 b hb
    exact hab (by omega)) (fun j hj => by
    obtain ⟨k, hk, rfl⟩ := List.mem_map.1 hj
    have := h1 k hk
    omega)
  rw [List.length_map] at h2
  exact h2
set_option maxHeartbeats 4000000 in
set_option maxRecDepth 20000 in
theorem right_any (v : Value) (T : List Nd) (r : Int) (w : World) (h : TreeV w v T r) (hz : Szd T) : Calls Tryz.prog 9 #[v] w fun e w' => e = .returned (.bool (rightK T r)) ∧ Below w.heap.size w w' := by
  have HDP := Lib.hid (fun W (hW : TreeV W v T r) => deep_any v T r W hW)
  have HTV := Lib.hid h
  obtain ⟨nv, rfl, A, c, rfl, hc, hn⟩ := h
  have HN := Lib.hid hn
  have HZ := Lib.hid hz
  obtain ⟨D, hD⟩ : ∃ D, D = deepT T r := ⟨_, rfl⟩
  rw [← hD] at HDP
  have HD := Lib.hid hD
  obtain ⟨R, hR⟩ : ∃ R, R = rightK T r := ⟨_, rfl⟩
  rw [← hR]
  have HR := Lib.hid hR
  clear hR
  have hbx : ∀ W, Below (w.heap.size + 1) (w.alloc (.cells #[.slice A T.length c, .int .i64 r] 24)) W → W.cell? ⟨w.heap.size, 0, none⟩ = some (.slice A T.length c) ∧ W.cell? ⟨w.heap.size, 1, none⟩ = some (.int .i64 r) := fun W hW =>
    ⟨(hW.cell (p := ⟨w.heap.size, 0, none⟩) (Nat.lt_succ_self _)).trans (acell w _ _ _), (hW.cell (p := ⟨w.heap.size, 1, none⟩) (Nat.lt_succ_self _)).trans (acell w _ _ _)⟩
  have HBX := Lib.hid hbx
  have B0 := Lib.hid (b_alloc w (.cells #[.slice A T.length c, .int .i64 r] 24))
  clear hD hbx hn hz
  go_enter Tryz.func9, Tryz.ntmps9
  go_wp2_with fail
  refine (HDP.out _ (HTV.out.below B0.out)).mono ?_; rintro e w1 ⟨rfl, b1⟩
  rw [asize] at b1
  have BW1 := Lib.hid b1
  have B1 := Lib.hid (B0.out.trans (b1.mono (Nat.le_succ _)))
  have hsz1 := b1.size
  rw [asize] at hsz1
  obtain ⟨x0, x1⟩ := HBX.out _ b1
  clear b1 HDP
  by_cases h0 : D = 0
  · have hr0 : R = false := HR.out.trans <| right_no (.inl (by rw [← HD.out]; exact h0))
    subst hr0
    subst h0
    go_wp2_with fail
    go_ret
    exact ⟨rfl, B1.out⟩
  · have g0 : ((D : Int) == 0) = false := beq_eq_false_iff_ne.2 (by omega)
    by_cases h1 : 100 < D
    · have hr0 : R = false := HR.out.trans <| right_no (.inr (.inl (by rw [← HD.out]; exact h1)))
      subst hr0
      have g1 : decide ((100 : Int) < (D : Int)) = true := decide_eq_true (by omega)
      go_wp2_with fail
      go_ret
      exact ⟨rfl, B1.out⟩
    · have g1 : decide ((100 : Int) < (D : Int)) = false := decide_eq_false (by omega)
      obtain ⟨hN, hr0, hr1, d, m, hs⟩ := deep_snd (T := T) (r := r) (by rw [← HD.out]; exact h0)
      rcases HN.out with hT | ⟨b, o, rfl, hb, hx⟩
      · rw [hT] at hr1; simp at hr1; omega
      obtain ⟨q, rfl⟩ : ∃ q : Nat, r = (q : Int) := ⟨r.toNat, by omega⟩
      have hq : q < T.length := by omega
      have hxq := List.getElem?_eq_getElem hq
      obtain ⟨nvq, kvq, hna, _, _⟩ := hx q _ hxq
      have ck := (B1.out.cell (p := ⟨b, o + q * 7, none⟩) hb).trans hna.c0
      obtain ⟨kd, hkd⟩ : ∃ kd, kd = T[q].kind := ⟨_, rfl⟩
      rw [← hkd] at ck
      have hkk : kindAt T (q : Int).toNat = kd := by rw [Int.toNat_natCast, kind_of hxq, hkd]
      have HX := Lib.hid hx
      have HSn := Lib.hid hs
      clear hna hx hs hxq hkd
      by_cases h18 : kd = 18
      · have hry : R = T.all (okK T) := HR.out.trans <| right_yes (T := T) (r := (q : Int)) (by rw [← HD.out]; exact h0) (by rw [← HD.out]; exact h1) (by rw [hkk, h18])
        have HAL := Lib.hid hry
        subst h18
        clear hkk hry HR
        go_wp2_with fail
        go_loopw [27] (fun i wr => ∃ k : Nat, k ≤ T.length ∧ i = .int .i64 (k : Int) ∧ (T.drop k).all (okK T) = R ∧ Below (w.heap.size + 1) (w.alloc (.cells #[.slice (some ⟨b, o, none⟩) T.length c, .int .i64 (q : Int)] 24)) wr) (fun i _ => T.length - (intOf i).toNat)
        case atStart => exact ⟨0, Nat.zero_le _, rfl, HAL.out.symm, BW1.out⟩
        case round =>
          obtain ⟨k, hk, rfl, ha, hbr⟩ := hrel
          have HA := Lib.hid ha
          have HBR := Lib.hid hbr
          have BR := Lib.hid (B0.out.trans (hbr.mono (Nat.le_succ _)))
          have hszr := hbr.size
          rw [asize] at hszr
          clear ha hbr x0 x1 ck
          by_cases hlt : k < T.length
          · obtain ⟨x, hxk⟩ : ∃ x, T[k]? = some x := ⟨T[k], List.getElem?_eq_getElem hlt⟩
            obtain ⟨nvk, kvk, hna, hst, hnu⟩ := HX.out k x hxk
            obtain ⟨c0, c1, c2, c3, c4, c5, c6⟩ := hna.below BR.out hb
            have HST := Lib.hid (all_drop' (p := okK T) hxk)
            have hxz := HZ.out x (List.mem_of_getElem? hxk)
            have hkid := snd_kids HSn.out hxk
            have HSS := Lib.hid hst
            have HNU := Lib.hid hnu
            obtain ⟨SA, sc, rfl, _, _⟩ := hst
            obtain ⟨UA, uc, rfl, _, _⟩ := hnu
            clear hxk hna
            have HWN := Lib.hid (b_alloc wr (.cells #[.int .i64 x.kind, .int .i64 x.line, .int .i64 x.op, .int .i64 x.num, .string x.s, .slice SA x.names.length sc, .slice UA x.kids.length uc] 32))
            have HFL := Lib.hid (fields_any x _ (.slice UA x.kids.length uc) (wr.alloc (.cells #[.int .i64 x.kind, .int .i64 x.line, .int .i64 x.op, .int .i64 x.num, .string x.s, .slice SA x.names.length sc, .slice UA x.kids.length uc] 32)) ((HSS.out.below BR.out).below HWN.out) ⟨_, _, _, rfl⟩ hxz)
            have HBQ := Lib.hid (fun W (h : Below (wr.heap.size + 1) (wr.alloc (.cells #[.int .i64 x.kind, .int .i64 x.line, .int .i64 x.op, .int .i64 x.num, .string x.s, .slice SA x.names.length sc, .slice UA x.kids.length uc] 32)) W) => box_cells (Nat.lt_succ_self _) h)
            have HKD := Lib.hid (fun W hA hB hC => kids_any x (.slice SA x.names.length sc) (.slice UA x.kids.length uc) (.slice (some ⟨b, o, none⟩) T.length c) T W hA hB hC hkid.1 (by have := hkid.2; omega))
            have HOK := Lib.hid (okK_is T x)
            obtain ⟨FL, hFL⟩ : ∃ FL, FL = fieldsK x := ⟨_, rfl⟩
            obtain ⟨KD, hKD⟩ : ∃ KD, KD = koK x.kind x.num (sortsL T x) := ⟨_, rfl⟩
            rw [← hFL] at HFL HOK
            rw [← hKD] at HKD HOK
            obtain ⟨x0, x1⟩ := HBX.out _ (HBR.out.trans (HWN.out.mono hszr))
            unfold nodeV at HFL HKD
            clear hFL hKD hkid hxz
            by_cases hl1 : x.line < 1
            · go_wp2_with fail
              go_ret
              exact ⟨ret_bool (by rw [← HA.out, HST.out, HOK.out, decide_eq_false (by omega)]; rfl), BR.out.trans (HWN.out.mono BR.out.size)⟩
            · have gl : decide (1 ≤ x.line) = true := decide_eq_true (by omega)
              rw [gl, Bool.true_and] at HOK
              go_wp2_with fail
              refine HFL.out.mono ?_; rintro e w3 ⟨rfl, b3⟩
              have B3 := Lib.hid ((BR.out.trans (HWN.out.mono BR.out.size)).trans (b3.mono (by rw [asize]; have := BR.out.size; omega)))
              have BB3 := Lib.hid ((HBR.out.trans (HWN.out.mono hszr)).trans (b3.mono (by rw [asize]; omega)))
              have HQ3 := Lib.hid (HBQ.out _ (by rw [asize] at b3; exact b3))
              clear b3 x0 x1 c0 c1 c2 c3 c4 c5 c6
              cases FL with
              | false =>
                go_wp2_with fail
                go_ret
                exact ⟨ret_bool (by rw [← HA.out, HST.out, HOK.out]; rfl), B3.out⟩
              | true =>
                rw [Bool.true_and] at HOK
                obtain ⟨c0, c1, c2, c3, c4, c5, c6⟩ := HQ3.out
                obtain ⟨x0, x1⟩ := HBX.out _ BB3.out
                go_wp2_with fail
                refine (HKD.out _ (HSS.out.below B3.out) (HNU.out.below B3.out) ?_).mono ?_
                · exact Nodes.below (W := w) ⟨some ⟨b, o, none⟩, c, rfl, hc, .inr ⟨b, o, rfl, hb, HX.out⟩⟩ B3.out
                rintro e w4 ⟨rfl, b4⟩
                have B4 := Lib.hid (thenB' B3.out (Nat.le_refl _) b4)
                have BB4 := Lib.hid (BB3.out.trans (b4.mono (by have := BB3.out.size; rw [asize] at this; exact this)))
                clear b4 x0 x1 c0 c1 c2 c3 c4 c5 c6
                cases KD with
                | false =>
                  go_wp2_with fail
                  go_ret
                  exact ⟨ret_bool (by rw [← HA.out, HST.out, HOK.out]; rfl), B4.out⟩
                | true =>
                  go_wp2_with fail
                  go_roundw
                  case rel => exact ⟨k + 1, by omega, by go_num, by rw [← HA.out, HST.out, HOK.out, Bool.true_and], BB4.out⟩
                  case measure => simp [intOf]; omega
          · have hd : R = true := by rw [← HA.out, List.drop_of_length_le (by omega)]; rfl
            subst hd
            go_wp2_with fail
            go_ret
            exact ⟨rfl, BR.out⟩
      · have hr0 : R = false := HR.out.trans <| right_no (.inr (.inr (by rw [hkk]; exact h18)))
        subst hr0
        have g18 : (kd != 18) = true := bne_iff_ne.2 h18
        clear HR hkk
        go_wp2_with fail
        go_ret
        exact ⟨rfl, B1.out⟩
end Go.Proofs.YtjlpklhibdkmeaaGreatDoor
