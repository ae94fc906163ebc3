/- tree.fieldsRight: a node's fields. -/
import Derived.Test.YtjlpklhibdkmeaaGreatDoorFl2
namespace Go.Proofs.YtjlpklhibdkmeaaGreatDoor
open Go.RowKit

def fieldsK (x : Nd) : Bool :=
  !(bits .andNot .i64 (givK x) (fldK x.kind) != 0) && (!(bits .and .i64 (fldK x.kind) 16 != 0) || nameB x.s) && x.names.all nameB && (opK x.kind x.op && countK x.kind x.num && namesK x.kind x.names.length)
theorem all_drop' {α : Type} {p : α → Bool} {l : List α} {k : Nat} {c : α} (h : l[k]? = some c) : (l.drop k).all p = (p c && (l.drop (k + 1)).all p) := by
  rw [drop_cons' h, List.all_cons]
/-- The cells of a node in a block of its own. -/
theorem box_cells {w w' : World} {B : Nat} {x : Nd} {nv kv : Value} (hB : w.heap.size < B) (hb : Below B (w.alloc (.cells #[.int .i64 x.kind, .int .i64 x.line, .int .i64 x.op, .int .i64 x.num, .string x.s, nv, kv] 32)) w') : NodeAt w' w.heap.size 0 x nv kv := by
  have h : ∀ j : Nat, w'.cell? ⟨w.heap.size, j, none⟩ = (#[.int .i64 x.kind, .int .i64 x.line, .int .i64 x.op, .int .i64 x.num, .string x.s, nv, kv] : Array Value)[j]? := fun j => (hb.cell (p := ⟨w.heap.size, j, none⟩) hB).trans (acell w _ _ _)
  exact ⟨h 0, h 1, h 2, h 3, h 4, h 5, h 6⟩
set_option maxHeartbeats 4000000 in
set_option maxRecDepth 20000 in
theorem fields_any (x : Nd) (nv kv : Value) (w : World) (hnv : Strs w nv x.names) (hkv : ∃ A n c, kv = .slice A n c) (hl : x.names.length ≤ 140737488355328) :
    Calls Tryz.prog 12 #[nodeV x nv kv] w fun e w' => e = .returned (.bool (fieldsK x)) ∧ Below w.heap.size w w' := by
  have HS := Lib.hid hnv
  obtain ⟨NA, nc, rfl, _, hna⟩ := hnv
  obtain ⟨KA, kn, kc, rfl⟩ := hkv
  have HNA := Lib.hid hna
  clear hna
  obtain ⟨F, hF⟩ : ∃ F, F = fldK x.kind := ⟨_, rfl⟩
  obtain ⟨G, hG⟩ : ∃ G, G = givK x := ⟨_, rfl⟩
  obtain ⟨O, hO⟩ : ∃ O, O = opK x.kind x.op := ⟨_, rfl⟩
  obtain ⟨C, hC⟩ : ∃ C, C = countK x.kind x.num := ⟨_, rfl⟩
  obtain ⟨M, hM⟩ : ∃ M, M = namesK x.kind x.names.length := ⟨_, rfl⟩
  obtain ⟨S, hS⟩ : ∃ S, S = nameB x.s := ⟨_, rfl⟩
  obtain ⟨AL, hAL⟩ : ∃ AL, AL = x.names.all nameB := ⟨_, rfl⟩
  have HFo := Lib.hid (fun W => hF ▸ fieldsOf_any x.kind W)
  have HGi := Lib.hid (fun W => hG ▸ given_any x NA KA nc kn kc W)
  have HOp := Lib.hid (fun W => hO ▸ opR_any x NA KA x.names.length nc kn kc W)
  have HCo := Lib.hid (fun W => hC ▸ countR_any x NA KA x.names.length nc kn kc W)
  have HNm := Lib.hid (fun W => hM ▸ namesR_any x NA KA nc kn kc W)
  have HSn := Lib.hid (fun W => hS ▸ name_any x.s W)
  have hfk : fieldsK x = (!(bits .andNot .i64 G F != 0) && (!(bits .and .i64 F 16 != 0) || S) && AL && (O && C && M)) := by
    unfold fieldsK; rw [hF, hG, hO, hC, hM, hS, hAL]
  rw [hfk]
  have HAL := Lib.hid hAL
  clear hF hG hO hC hM hS hAL hfk
  unfold nodeV at HGi HOp HCo HNm ⊢
  have HBX := Lib.hid (fun W (h : Below (w.heap.size + 1) (w.alloc (.cells #[.int .i64 x.kind, .int .i64 x.line, .int .i64 x.op, .int .i64 x.num, .string x.s, .slice NA x.names.length nc, .slice KA kn kc] 32)) W) => box_cells (Nat.lt_succ_self _) h)
  have B0 := Lib.hid (b_alloc w (.cells #[.int .i64 x.kind, .int .i64 x.line, .int .i64 x.op, .int .i64 x.num, .string x.s, .slice NA x.names.length nc, .slice KA kn kc] 32))
  cases e1 : (bits .andNot .i64 G F != 0) with
  | true =>
    go_enter Tryz.func12, Tryz.ntmps12
    go_wp2_with (go_at_call 17; refine (HFo.out _).mono ?_; rintro e w' ⟨rfl, rfl⟩)
    refine (HGi.out _).mono ?_; rintro e w1 ⟨rfl, b1⟩
    rw [asize] at b1
    have B1 := Lib.hid (B0.out.trans (b1.mono (Nat.le_succ _)))
    obtain ⟨c0, c1, c2, c3, c4, c5, c6⟩ := HBX.out _ b1
    clear b1
    go_wp2_with fail
    go_ret
    exact ⟨rfl, B1.out⟩
  | false =>
    have key : ((bits .and .i64 F 16 != 0) = true ∧ S = false) ∨ ((bits .and .i64 F 16 != 0) = true ∧ S = true) ∨ (bits .and .i64 F 16 != 0) = false := by
      cases (bits .and .i64 F 16 != 0) <;> cases S <;> simp
    rcases key with ⟨e2, rfl⟩ | hh
    · rw [e2]
      go_enter Tryz.func12, Tryz.ntmps12
      go_wp2_with (go_at_call 17; refine (HFo.out _).mono ?_; rintro e w' ⟨rfl, rfl⟩)
      refine (HGi.out _).mono ?_; rintro e w1 ⟨rfl, b1⟩
      rw [asize] at b1
      have B1 := Lib.hid (B0.out.trans (b1.mono (Nat.le_succ _)))
      obtain ⟨c0, c1, c2, c3, c4, c5, c6⟩ := HBX.out _ b1
      clear b1
      go_wp2_with (go_at_call 19; refine (HSn.out _).mono ?_; rintro e w' ⟨rfl, rfl⟩)
      go_ret
      exact ⟨rfl, B1.out⟩
    · have hval : (!(bits .and .i64 F 16 != 0) || S) = true := by
        rcases hh with ⟨h1, rfl⟩ | h1 <;> rw [h1] <;> simp
      rw [hval]
      clear hval
      simp only [Bool.not_false, Bool.true_and]
      rcases hh with ⟨e2, rfl⟩ | e2
      all_goals
        go_enter Tryz.func12, Tryz.ntmps12
        go_wp2_with (go_at_call 17; refine (HFo.out _).mono ?_; rintro e w' ⟨rfl, rfl⟩)
        refine (HGi.out _).mono ?_; rintro e w1 ⟨rfl, b1⟩
        rw [asize] at b1
        have BW := Lib.hid b1
        have B1 := Lib.hid (B0.out.trans (b1.mono (Nat.le_succ _)))
        have hsz1 := b1.size
        rw [asize] at hsz1
        obtain ⟨c0, c1, c2, c3, c4, c5, c6⟩ := HBX.out _ b1
        clear b1
        go_wp2_with (go_at_call 19; refine (HSn.out _).mono ?_; rintro e w' ⟨rfl, rfl⟩)
        clear c0 c1 c2 c3 c4 c5 c6
        go_loop [28] (fun i => ∃ k : Nat, k ≤ x.names.length ∧ i = .int .i64 (k : Int) ∧ (x.names.drop k).all nameB = AL) (fun i => x.names.length - (intOf i).toNat)
        case atStart => exact ⟨0, Nat.zero_le _, rfl, HAL.out.symm⟩
        case round =>
          obtain ⟨k, hk, rfl, ha⟩ := hrel
          have HA := Lib.hid ha
          clear ha
          by_cases hlt : k < x.names.length
          · obtain ⟨y, hy⟩ : ∃ y, x.names[k]? = some y := ⟨x.names[k], List.getElem?_eq_getElem hlt⟩
            rcases HNA.out with h0 | ⟨b2, o2, rfl, hb2, hc2⟩
            · rw [h0] at hlt; exact absurd hlt (Nat.not_lt_zero _)
            have ck := (B1.out.cell (p := ⟨b2, o2 + k, none⟩) hb2).trans (hc2 k _ hy)
            have HST := Lib.hid (all_drop' (p := nameB) hy)
            have HN := Lib.hid (name_any y w1)
            cases hb : nameB y with
            | true =>
              rw [hb] at HN HST
              rw [Bool.true_and] at HST
              clear hc2 hy hb
              go_wp2_with (go_at_call 19; refine HN.out.mono ?_; rintro e w' ⟨rfl, rfl⟩)
              go_round
              case rel => exact ⟨k + 1, by omega, by go_num, by rw [← HST.out]; exact HA.out⟩
              case measure => simp [intOf]; omega
            | false =>
              rw [hb] at HN HST
              rw [Bool.false_and] at HST
              clear hc2 hy hb
              go_wp2_with (go_at_call 19; refine HN.out.mono ?_; rintro e w' ⟨rfl, rfl⟩)
              go_ret
              exact ⟨ret_bool (by rw [← HA.out, HST.out]; rfl), B1.out⟩
          · have hd : (x.names.drop k).all nameB = true := by
              rw [List.drop_of_length_le (by omega)]; rfl
            have hal : AL = true := by rw [← HA.out, hd]
            subst hal
            clear hd
            obtain ⟨c0, c1, c2, c3, c4, c5, c6⟩ := HBX.out _ BW.out
            go_wp2_with fail
            refine (HOp.out _).mono ?_; rintro e w2 ⟨rfl, b2⟩
            have HW2 := Lib.hid (thenB' BW.out (by rw [asize]; exact Nat.le_refl _) b2)
            have B2 := Lib.hid (thenB' B1.out (Nat.le_refl _) b2)
            clear c0 c1 c2 c3 c4 c5 c6 b2
            cases O with
            | false =>
              go_wp2_with fail
              go_ret
              exact ⟨rfl, B2.out⟩
            | true =>
              obtain ⟨c0, c1, c2, c3, c4, c5, c6⟩ := HBX.out _ HW2.out
              go_wp2_with fail
              refine (HCo.out _).mono ?_; rintro e w3 ⟨rfl, b3⟩
              have HW3 := Lib.hid (thenB' HW2.out (by rw [asize]; exact Nat.le_refl _) b3)
              have B3 := Lib.hid (thenB' B2.out (Nat.le_refl _) b3)
              clear c0 c1 c2 c3 c4 c5 c6 b3
              cases C with
              | false =>
                go_wp2_with fail
                go_ret
                exact ⟨rfl, B3.out⟩
              | true =>
                obtain ⟨c0, c1, c2, c3, c4, c5, c6⟩ := HBX.out _ HW3.out
                go_wp2_with fail
                refine (HNm.out _).mono ?_; rintro e w4 ⟨rfl, b4⟩
                have B4 := Lib.hid (thenB' B3.out (Nat.le_refl _) b4)
                clear c0 c1 c2 c3 c4 c5 c6 b4
                go_wp2_with fail
                go_ret
                exact ⟨by simp, B4.out⟩
theorem fields_kids (x : Nd) (ks : List Int) : fieldsK { x with kids := ks } = fieldsK x := rfl
theorem fields_do (x : Nd) (ks : List Int) (h : x.op = 0 ∧ x.num = 0 ∧ x.s = ⟨#[]⟩ ∧ x.names = []) (hk : x.kind = 22 ∨ x.kind = 18) : fieldsK { x with kids := ks } = true := by
  obtain ⟨kind, line, op, num, s, names, kids⟩ := x
  simp only at h hk ⊢
  obtain ⟨rfl, rfl, rfl, rfl⟩ := h
  rcases hk with rfl | rfl <;> kernel_rfl
end Go.Proofs.YtjlpklhibdkmeaaGreatDoor
