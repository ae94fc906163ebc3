/- tree.kidsRight. -/
import Derived.Test.YtjlpklhibdkmeaaGreatDoorKOf
namespace Go.Proofs.YtjlpklhibdkmeaaGreatDoor
open Go.RowKit

/-- The sorts of a node's Kids. -/
def sortsL (T : List Nd) (x : Nd) : List Int := x.kids.map fun k => soK (kindAt T k.toNat)
theorem sortsL_len (T : List Nd) (x : Nd) : (sortsL T x).length = x.kids.length := by simp [sortsL]
theorem sortsL_at {T : List Nd} {x : Nd} {j : Nat} {k : Int} (h : x.kids[j]? = some k) : (sortsL T x)[j]? = some (soK (kindAt T k.toNat)) := by simp [sortsL, h]
theorem fam_nums {W : World} {b : Nat} {l : List Int} (h : Fam W b l.length (fun j => .int .i64 (l.getD j 0))) (hb : b < W.heap.size) : Nums W (.slice (some ⟨b, 0, none⟩) l.length l.length) l :=
  ⟨_, _, rfl, Nat.le_refl _, .inr ⟨b, 0, rfl, hb, fun j z hj => by
    have hl := (List.getElem?_eq_some_iff.1 hj).1
    rw [Nat.zero_add, (h j hl).1]
    show some (Value.int .i64 (l.getD j 0)) = _
    rw [List.getD_eq_getElem?_getD, hj]; rfl⟩⟩
set_option maxHeartbeats 2000000 in
set_option maxRecDepth 20000 in
theorem kids_any (x : Nd) (nv kv tv : Value) (T : List Nd) (w : World) (hnv : Strs w nv x.names) (hkv : Nums w kv x.kids) (ht : Nodes w tv T) (hv : ∀ k ∈ x.kids, 0 ≤ k ∧ k < (T.length : Int)) (hl : x.kids.length ≤ 20000) :
    Calls Tryz.prog 13 #[nodeV x nv kv, tv] w fun e w' => e = .returned (.bool (koK x.kind x.num (sortsL T x))) ∧ Below w.heap.size w w' := by
  have HK := Lib.hid hkv
  have HNV := Lib.hid hnv
  obtain ⟨NA, nc, rfl, _, _⟩ := hnv
  obtain ⟨KA, kc, rfl, hkc, hka⟩ := hkv
  obtain ⟨TA, tc, rfl, htc, hta⟩ := ht
  have HOF := Lib.hid (fun W => kof_any x NA KA x.names.length nc x.kids.length kc W)
  have HV := Lib.hid hv
  have HKA := Lib.hid hka
  have HTA := Lib.hid hta
  have hW0 := b_alloc w (.cells #[.int .i64 x.kind, .int .i64 x.line, .int .i64 x.op, .int .i64 x.num, .string x.s, .slice NA x.names.length nc, .slice KA x.kids.length kc] 32)
  obtain ⟨w1, hmk, hb1, hs1, hf1⟩ := make_sorts x.kids.length (by omega) (w.alloc (.cells #[.int .i64 x.kind, .int .i64 x.line, .int .i64 x.op, .int .i64 x.num, .string x.s, .slice NA x.names.length nc, .slice KA x.kids.length kc] 32))
  rw [asize] at hmk hb1 hs1 hf1
  have hbx : ∀ j : Nat, w1.cell? ⟨w.heap.size, j, none⟩ = (#[.int .i64 x.kind, .int .i64 x.line, .int .i64 x.op, .int .i64 x.num, .string x.s, .slice NA x.names.length nc, .slice KA x.kids.length kc] : Array Value)[j]? := fun j => (hb1.cell (p := ⟨w.heap.size, j, none⟩) (Nat.lt_succ_self _)).trans (acell w _ _ _)
  have c6 : w1.cell? ⟨w.heap.size, 6, none⟩ = some (.slice KA x.kids.length kc) := hbx 6
  have HBX := Lib.hid hbx
  have HB1 := Lib.hid (hW0.trans (hb1.mono (Nat.le_succ _)))
  have HF1 := Lib.hid hf1
  clear hv hka hta hW0 hb1 hf1 hbx
  unfold nodeV at HOF ⊢
  go_enter Tryz.func13, Tryz.ntmps13
  go_wp2_with fail
  clear hmk c6
  have hsl : (sortsL T x).length = x.kids.length := sortsL_len T x
  have HSL := Lib.hid hsl
  clear hsl
  go_loopw [15] (fun i wr => ∃ k : Nat, k ≤ x.kids.length ∧ i = .int .i64 (k : Int) ∧ Below (w.heap.size + 1) w1 wr ∧ Fam wr (w.heap.size + 1) x.kids.length (fun j => if j < k then .int .i64 ((sortsL T x).getD j 0) else .int .i64 0)) (fun i _ => x.kids.length - (intOf i).toNat)
  case atStart => exact ⟨0, Nat.zero_le _, rfl, Below.refl _ _, HF1.out.eq_ fun j _ => by rw [if_neg (by omega)]⟩
  case round =>
    obtain ⟨k, hk, rfl, hbr, hfr⟩ := hrel
    have HB := Lib.hid hbr
    have HF := Lib.hid hfr
    have hsz := hbr.size
    have HBW := Lib.hid (HB1.out.trans (hbr.mono (Nat.le_succ _)))
    clear hbr
    by_cases hlt : k < x.kids.length
    · obtain ⟨z, hz⟩ : ∃ z, x.kids[k]? = some z := ⟨x.kids[k], List.getElem?_eq_getElem hlt⟩
      obtain ⟨z0, z1⟩ := HV.out z (List.mem_of_getElem? hz)
      obtain ⟨q, rfl⟩ : ∃ q : Nat, z = (q : Int) := ⟨z.toNat, by omega⟩
      have hq : q < T.length := by omega
      have hx := List.getElem?_eq_getElem hq
      rcases HKA.out with h0 | ⟨b1, o1, rfl, hb1, hc1⟩
      · rw [h0] at hlt; exact absurd hlt (Nat.not_lt_zero _)
      rcases HTA.out with h0 | ⟨b2, o2, rfl, hb2, hc2⟩
      · rw [h0] at hq; exact absurd hq (Nat.not_lt_zero _)
      have ck := (HBW.out.cell (p := ⟨b1, o1 + k, none⟩) hb1).trans (hc1 k _ hz)
      obtain ⟨nv', kv', hna, _, _⟩ := hc2 q _ hx
      have ct := (HBW.out.cell (p := ⟨b2, o2 + q * 7, none⟩) hb2).trans hna.c0
      obtain ⟨fc, ff⟩ := hfr k hlt
      obtain ⟨kd, hkd⟩ : ∃ kd, kd = T[q].kind := ⟨_, rfl⟩
      rw [← hkd] at ct
      have hsk : (sortsL T x).getD k 0 = soK kd := by
        rw [List.getD_eq_getElem?_getD, sortsL_at hz, Int.toNat_natCast, kind_of hx, ← hkd]; rfl
      have HSK := Lib.hid hsk
      replace fc : wr.cell? ⟨w.heap.size + 1, k, none⟩ = some (.int .i64 0) := fc.trans (by
        show some (if k < k then _ else _) = _
        rw [if_neg (by omega)])
      clear hc1 hc2 hna hz hx hsk hkd hfr
      go_wp2_with (go_at_call 23; refine (sorts_any kd _).mono ?_; rintro e w' ⟨rfl, rfl⟩)
      refine ⟨⟨k + 1, by omega, by go_num, HB.out.setCell (Nat.le_refl _) _, (HF.out.set_ hlt _).eq_ fun j hj => ?_⟩, by simp [intOf]; omega⟩
      by_cases e : j = k
      · subst e
        rw [if_pos rfl, if_pos (by omega), HSK.out]
      · rw [if_neg e]
        by_cases h : j < k
        · rw [if_pos h, if_pos (by omega)]
        · rw [if_neg h, if_neg (by omega)]
    · have hfam : Fam wr (w.heap.size + 1) (sortsL T x).length (fun j => .int .i64 ((sortsL T x).getD j 0)) := by
        rw [HSL.out]
        exact HF.out.eq_ fun j hj => by rw [if_pos (by omega)]
      have HN := Lib.hid (fam_nums hfam (by omega))
      clear hfam hfr
      have HC := HBX.out
      have c0 := (HB.out.cell (p := ⟨w.heap.size, 0, none⟩) (Nat.lt_succ_self _)).trans (HC 0)
      have c1 := (HB.out.cell (p := ⟨w.heap.size, 1, none⟩) (Nat.lt_succ_self _)).trans (HC 1)
      have c2 := (HB.out.cell (p := ⟨w.heap.size, 2, none⟩) (Nat.lt_succ_self _)).trans (HC 2)
      have c3 := (HB.out.cell (p := ⟨w.heap.size, 3, none⟩) (Nat.lt_succ_self _)).trans (HC 3)
      have c4 := (HB.out.cell (p := ⟨w.heap.size, 4, none⟩) (Nat.lt_succ_self _)).trans (HC 4)
      have c5 := (HB.out.cell (p := ⟨w.heap.size, 5, none⟩) (Nat.lt_succ_self _)).trans (HC 5)
      have c6 := (HB.out.cell (p := ⟨w.heap.size, 6, none⟩) (Nat.lt_succ_self _)).trans (HC 6)
      clear HC
      go_wp2_with fail
      refine (HOF.out wr).mono ?_; rintro e w2 ⟨v, rfl, hr, b2⟩
      obtain ⟨bp, pv, rfl, hbp, hcp, hpp⟩ := hr
      have HRL := Lib.hid (rule_any _ _ (partsK x.kind x.num) (sortsL T x) bp w2 hcp hpp (HN.out.below b2) (by rw [HSL.out]; omega) (parts_pos _ _) (parts_len _ _))
      have B2 := Lib.hid (thenB' HBW.out (Nat.le_refl _) b2)
      clear hcp hpp b2
      rw [HSL.out] at HRL
      go_wp2_with fail
      refine HRL.out.mono ?_; rintro e w3 ⟨rfl, b3⟩
      have B3 := Lib.hid (thenB' B2.out (Nat.le_refl _) b3)
      clear b3
      go_wp2_with fail
      go_ret
      exact ⟨rfl, B3.out⟩
end Go.Proofs.YtjlpklhibdkmeaaGreatDoor
