/- tree.some, all, just: parts and rules as closures; what they answer. -/
import Derived.Test.YtjlpklhibdkmeaaGreatDoorKid
namespace Go.Proofs.YtjlpklhibdkmeaaGreatDoor
open Go.RowKit

/-- A part: a closure over least, most and the sorts. -/
def Part (W : World) (v : Value) (p : Prt) : Prop :=
  ∃ bm br bl rv, v = .func (.func 41) #[] #[.pointer (some ⟨bm, 0, none⟩), .pointer (some ⟨br, 0, none⟩), .pointer (some ⟨bl, 0, none⟩)] ∧ bm < W.heap.size ∧ br < W.heap.size ∧ bl < W.heap.size ∧
    W.cell? ⟨bm, 0, none⟩ = some (.int .i64 p.2.1) ∧ W.cell? ⟨br, 0, none⟩ = some rv ∧ W.cell? ⟨bl, 0, none⟩ = some (.int .i64 p.1) ∧ Nums W rv p.2.2
theorem Part.below {W W' : World} {v : Value} {p : Prt} (h : Part W v p) (hb : Below W.heap.size W W') : Part W' v p := by
  obtain ⟨bm, br, bl, rv, rfl, h1, h2, h3, c1, c2, c3, hn⟩ := h
  have := hb.size
  exact ⟨bm, br, bl, rv, rfl, by omega, by omega, by omega, (hb.cell (p := ⟨bm, 0, none⟩) h1).trans c1, (hb.cell (p := ⟨br, 0, none⟩) h2).trans c2, (hb.cell (p := ⟨bl, 0, none⟩) h3).trans c3, hn.below hb⟩
theorem acell' (w w' : World) (cs : Array Value) (t : TypeId) (j : Nat) (hb : Below (w.heap.size + 1) (w.alloc (.cells cs t)) w') : w'.cell? ⟨w.heap.size, j, none⟩ = cs[j]? := (hb.cell (p := ⟨w.heap.size, j, none⟩) (Nat.lt_succ_self _)).trans (acell w cs t j)
theorem some_any (l m : Int) (rv : Value) (row : List Int) (w : World) (h : Nums w rv row) : Calls Tryz.prog 35 #[.int .i64 l, .int .i64 m, rv] w fun e w' => ∃ v, e = .returned v ∧ Part w' v (l, m, row) ∧ Below w.heap.size w w' := by
  have HN := Lib.hid h
  obtain ⟨A, c, rfl, hc, _⟩ := h
  go_enter Tryz.func35, Tryz.ntmps35
  go_wp2_with fail
  go_ret
  have b1 := (Below.refl w.heap.size w).alloc (Nat.le_refl _) (.cells #[.int .i64 l] 2)
  have b2 := (Below.refl (w.heap.size + 1) (w.alloc (.cells #[.int .i64 l] 2))).alloc (by rw [asize]; exact Nat.le_refl _) (.cells #[.int .i64 m] 2)
  have b3 := (Below.refl (w.heap.size + 1 + 1) ((w.alloc (.cells #[.int .i64 l] 2)).alloc (.cells #[.int .i64 m] 2))).alloc (by rw [asize, asize]; exact Nat.le_refl _) (.cells #[.slice A row.length c] 52)
  have hb := b1.trans ((b2.trans (b3.mono (by omega))).mono (Nat.le_succ _))
  refine ⟨_, rfl, ⟨_, _, _, _, rfl, by rw [asize, asize, asize]; omega, by rw [asize, asize, asize]; omega, by rw [asize, asize, asize]; omega, ?_, ?_, ?_, HN.out.below hb⟩, hb⟩
  · have := acell' (w.alloc (.cells #[.int .i64 l] 2)) _ #[.int .i64 m] 2 0 (by rw [asize]; exact b3)
    rw [asize] at this
    exact this
  · have := acell ((w.alloc (.cells #[.int .i64 l] 2)).alloc (.cells #[.int .i64 m] 2)) #[.slice A row.length c] 52 0
    rw [asize, asize] at this
    exact this
  · exact acell' w _ #[.int .i64 l] 2 0 (b2.trans (b3.mono (by omega)))

theorem addr_add (b o j : Nat) : (⟨b, o, none⟩ : Addr).add j = ⟨b, o + j, none⟩ := by unfold Addr.add; split <;> simp_all
/-- What stands behind a slice's first elements. -/
theorem nums_drop {W : World} {A : Option Addr} {ks : List Int} {c L : Nat} (h : Nums W (.slice A ks.length c) ks) (hl : L ≤ ks.length) (v : Value) (hv : v = .slice (if c = L then A else A.map fun a => a.add L) (ks.length - L) (c - L)) : Nums W v (ks.drop L) := by
  obtain ⟨A', c', e, hc, hh⟩ := h
  injection e with e1 e2 e3
  subst e1 e3 hv
  refine ⟨_, _, by rw [List.length_drop], by rw [List.length_drop]; omega, ?_⟩
  rcases hh with rfl | ⟨bk, o, rfl, hbk, hx⟩
  · left; simp
  · by_cases hL : c = L
    · left
      exact List.drop_of_length_le (by omega)
    · right
      refine ⟨bk, o + L, by rw [if_neg hL, Option.map_some, addr_add], hbk, fun j z hj => ?_⟩
      rw [List.getElem?_drop] at hj
      have := hx (L + j) z hj
      rw [show o + L + j = o + (L + j) by omega]
      exact this
theorem ret_sb {v : Value} {a b : Bool} (h : a = b) : Ending.returned (.tuple #[v, .bool a]) = .returned (.tuple #[v, .bool b]) := by rw [h]

set_option maxHeartbeats 2000000 in
theorem part_any (kv : Value) (p : Prt) (ks : List Int) (bm br bl : Nat) (rv : Value) (w : World) (hbm : w.cell? ⟨bm, 0, none⟩ = some (.int .i64 p.2.1)) (hbr : w.cell? ⟨br, 0, none⟩ = some rv) (hbl : w.cell? ⟨bl, 0, none⟩ = some (.int .i64 p.1)) (hr : Nums w rv p.2.2)
    (hk : Nums w kv ks) (hl : ks.length ≤ 1000000) (h0 : 0 < p.2.2.length) :
    Calls Tryz.prog 41 #[kv, .pointer (some ⟨bm, 0, none⟩), .pointer (some ⟨br, 0, none⟩), .pointer (some ⟨bl, 0, none⟩)] w fun e w' => ∃ kv', e = .returned (.tuple #[kv', .bool (decide (p.1 ≤ (eat p.2.2 p.2.1 (ks.length + 1) 0 ks).1))]) ∧ Nums w' kv' (eat p.2.2 p.2.1 (ks.length + 1) 0 ks).2 ∧ Below w.heap.size w w' := by
  obtain ⟨least, most, row⟩ := p
  simp only at hbm hbr hbl hr h0 ⊢
  have HR := Lib.hid hr
  obtain ⟨RA, rc, rfl, hrc, _⟩ := hr
  go_enter Tryz.func41, Tryz.ntmps41
  go_wp2_with fail
  go_loop [0, 7] (fun kv t => ∃ (ks' : List Int) (n : Nat), t = .int .i64 (n : Int) ∧ Nums w kv ks' ∧ ks'.length + n ≤ ks.length ∧ eat row most (ks'.length + 1) (n : Int) ks' = eat row most (ks.length + 1) 0 ks) (fun _ t => ks.length - (intOf t).toNat)
  case atStart => exact ⟨ks, 0, rfl, hk, Nat.le_refl _, rfl⟩
  case round =>
    clear hk
    obtain ⟨ks', n, rfl, hk, hn, he⟩ := hrel
    have HK := Lib.hid hk
    obtain ⟨KA, kc, rfl, hkc, _⟩ := hk
    have HE := Lib.hid he
    clear he
    have HB := Lib.hid (begins_any _ _ ks' row w HK.out HR.out (by omega))
    by_cases hm : (n : Int) < most
    · have g : decide ((n : Int) < most) = true := decide_eq_true hm
      cases hb : begB ks' row with
      | true =>
        have hbl' := begB_len hb
        have HS := Lib.hid (eat_step h0 hm hb)
        have HBB := Lib.hid hb
        clear hb
        go_wp2_with (go_at_call 42; refine HB.out.mono ?_; rintro e w' ⟨rfl, rfl⟩; rw [HBB.out])
        refine ⟨⟨ks'.drop row.length, n + 1, by go_num, nums_drop HK.out hbl' _ rfl, by rw [List.length_drop]; omega, ?_⟩, by simp [intOf]; omega⟩
        rw [← HE.out, HS.out]
        rfl
      | false =>
        have HS := Lib.hid (eat_end (row := row) (most := most) (t := (n : Int)) (ks := ks') (by rw [hb]; simp))
        have HBB := Lib.hid hb
        clear hb
        go_wp2_with (go_at_call 42; refine HB.out.mono ?_; rintro e w' ⟨rfl, rfl⟩; rw [HBB.out])
        go_region
        go_wp2_with fail
        go_ret2
        exact ⟨_, ret_sb (by rw [← HE.out, HS.out]), by rw [← HE.out, HS.out]; exact HK.out.below (Below.refl _ _).drew, (Below.refl _ _).drew⟩
    · have g : decide ((n : Int) < most) = false := decide_eq_false hm
      have HS := Lib.hid (eat_end (row := row) (most := most) (t := (n : Int)) (ks := ks') (fun hh => hm hh.1))
      go_wp2_with fail
      go_region
      go_wp2_with fail
      go_ret2
      exact ⟨_, ret_sb (by rw [← HE.out, HS.out]), by rw [← HE.out, HS.out]; exact HK.out.below (Below.refl _ _).drew, (Below.refl _ _).drew⟩

/-- The parts of a rule. -/
def Parts (W : World) (v : Value) (ps : List Prt) : Prop :=
  ∃ A c, v = .slice A ps.length c ∧ (ps = [] ∨ ∃ bk o, A = some ⟨bk, o, none⟩ ∧ bk < W.heap.size ∧ ∀ (j : Nat) p, ps[j]? = some p → ∃ u, W.cell? ⟨bk, o + j, none⟩ = some u ∧ Part W u p)
theorem Parts.below {W W' : World} {v : Value} {ps : List Prt} (h : Parts W v ps) (hb : Below W.heap.size W W') : Parts W' v ps := by
  obtain ⟨A, c, rfl, h | ⟨bk, o, rfl, hbk, hx⟩⟩ := h
  · exact ⟨A, c, rfl, .inl h⟩
  · exact ⟨_, c, rfl, .inr ⟨bk, o, rfl, Nat.lt_of_lt_of_le hbk hb.size, fun j p hj => by
      obtain ⟨u, h1, h2⟩ := hx j p hj
      exact ⟨u, (hb.cell (p := ⟨bk, o + j, none⟩) hbk).trans h1, h2.below hb⟩⟩⟩
/-- A rule: a closure over its parts. -/
def Rule (W : World) (v : Value) (ps : List Prt) : Prop := ∃ bp pv, v = .func (.func 40) #[] #[.pointer (some ⟨bp, 0, none⟩)] ∧ bp < W.heap.size ∧ W.cell? ⟨bp, 0, none⟩ = some pv ∧ Parts W pv ps
theorem all_any (pv : Value) (ps : List Prt) (w : World) (h : Parts w pv ps) : Calls Tryz.prog 34 #[pv] w fun e w' => ∃ v, e = .returned v ∧ Rule w' v ps ∧ Below w.heap.size w w' := by
  have HN := Lib.hid h
  obtain ⟨A, c, rfl, _⟩ := h
  go_enter Tryz.func34, Tryz.ntmps34
  go_wp2_with fail
  go_ret
  have b1 := (Below.refl w.heap.size w).alloc (Nat.le_refl _) (.cells #[.slice A ps.length c] 75)
  exact ⟨_, rfl, ⟨_, _, rfl, by rw [asize]; exact Nat.lt_succ_self _, acell w _ _ _, HN.out.below b1⟩, b1⟩
theorem parts_one {W : World} {b : Nat} {u : Value} {p : Prt} (hb : b < W.heap.size) (h : W.cell? ⟨b, 0, none⟩ = some u) (hp : Part W u p) : Parts W (.slice (some ⟨b, 0, none⟩) 1 1) [p] :=
  ⟨_, 1, rfl, .inr ⟨b, 0, rfl, hb, fun j q hj => by
    cases j with
    | zero => obtain rfl := Option.some.inj hj; exact ⟨u, h, hp⟩
    | succ j => simp at hj⟩⟩
theorem parts_two {W : World} {b : Nat} {u1 u2 : Value} {p1 p2 : Prt} (hb : b < W.heap.size) (h1 : W.cell? ⟨b, 0, none⟩ = some u1) (h2 : W.cell? ⟨b, 1, none⟩ = some u2) (hp1 : Part W u1 p1) (hp2 : Part W u2 p2) : Parts W (.slice (some ⟨b, 0, none⟩) 2 2) [p1, p2] :=
  ⟨_, 2, rfl, .inr ⟨b, 0, rfl, hb, fun j q hj => by
    match j, hj with
    | 0, hj => obtain rfl := Option.some.inj hj; exact ⟨u1, h1, hp1⟩
    | 1, hj => obtain rfl := Option.some.inj hj; exact ⟨u2, h2, hp2⟩
    | j + 2, hj => simp at hj⟩⟩
theorem nums_one (w : World) (z : Int) (t : TypeId) (g : Nat) (hg : g = w.heap.size) : Nums (w.alloc (.cells #[.int .i64 z] t)) (.slice (some ⟨g, 0, none⟩) 1 1) [z] := by
  subst hg
  exact ⟨_, 1, rfl, Nat.le_refl _, .inr ⟨w.heap.size, 0, rfl, by rw [asize]; exact Nat.lt_succ_self _, fun j q hj => by
    cases j with
    | zero => obtain rfl := Option.some.inj hj; exact acell w _ _ _
    | succ j => simp at hj⟩⟩
theorem nums_two (w : World) (y z : Int) (t : TypeId) (g : Nat) (hg : g = w.heap.size) : Nums (w.alloc (.cells #[.int .i64 y, .int .i64 z] t)) (.slice (some ⟨g, 0, none⟩) 2 2) [y, z] := by
  subst hg
  exact ⟨_, 2, rfl, Nat.le_refl _, .inr ⟨w.heap.size, 0, rfl, by rw [asize]; exact Nat.lt_succ_self _, fun j q hj => by
    match j, hj with
    | 0, hj => obtain rfl := Option.some.inj hj; exact acell w _ _ _
    | 1, hj => obtain rfl := Option.some.inj hj; exact acell w _ _ _
    | j + 2, hj => simp at hj⟩⟩
theorem just_any (rv : Value) (row : List Int) (w : World) (h : Nums w rv row) : Calls Tryz.prog 33 #[rv] w fun e w' => ∃ v, e = .returned v ∧ Rule w' v [(1, 1, row)] ∧ Below w.heap.size w w' := by
  have HN := Lib.hid (some_any 1 1 rv row w h)
  obtain ⟨A, c, rfl, _⟩ := h
  go_enter Tryz.func33, Tryz.ntmps33
  go_wp2_with fail
  refine HN.out.mono ?_; rintro e w1 ⟨u, rfl, hp, b1⟩
  have HP := Lib.hid hp
  have B1 := Lib.hid b1
  obtain ⟨bm, br, bl, rv', rfl, _⟩ := hp
  clear b1
  go_wp2_with fail
  have b2 := (Below.refl w1.heap.size w1).alloc (Nat.le_refl _) (.cells #[.func (.func 41) #[] #[.pointer (some ⟨bm, 0, none⟩), .pointer (some ⟨br, 0, none⟩), .pointer (some ⟨bl, 0, none⟩)]] 70)
  refine (all_any _ [(1, 1, row)] _ (parts_one (b := w1.heap.size) (by rw [asize]; exact Nat.lt_succ_self _) (acell w1 _ _ _) (HP.out.below b2))).mono ?_
  rintro e w2 ⟨v, rfl, hr, b3⟩
  have HR := Lib.hid hr
  have B3 := Lib.hid (thenB B1.out (thenB b2 b3))
  obtain ⟨bp, pv, rfl, _⟩ := hr
  clear b2 b3
  go_wp2_with fail
  go_ret
  exact ⟨_, rfl, HR.out, B3.out⟩

set_option maxHeartbeats 2000000 in
theorem rule_any (pv kv : Value) (ps : List Prt) (ks : List Int) (bp : Nat) (w : World) (hbp : w.cell? ⟨bp, 0, none⟩ = some pv) (hp : Parts w pv ps) (hk : Nums w kv ks) (hl : ks.length ≤ 1000000) (h0 : ∀ p ∈ ps, 0 < p.2.2.length) (hps : ps.length ≤ 1000) :
    Calls Tryz.prog 40 #[kv, .pointer (some ⟨bp, 0, none⟩)] w fun e w' => e = .returned (.bool (allL ps ks)) ∧ Below w.heap.size w w' := by
  have HP := Lib.hid hp
  obtain ⟨PA, pc, rfl, hpa⟩ := hp
  have HPA := Lib.hid hpa
  have H0 := Lib.hid h0
  clear hpa h0
  go_enter Tryz.func40, Tryz.ntmps40
  go_wp2_with fail
  go_loopw [0, 10] (fun kv i wr => ∃ (ks' : List Int) (n : Nat), i = .int .i64 (n : Int) ∧ n ≤ ps.length ∧ Nums wr kv ks' ∧ ks'.length ≤ 1000000 ∧ allL (ps.drop n) ks' = allL ps ks ∧ Below w.heap.size w wr) (fun _ i _ => ps.length - (intOf i).toNat)
  case atStart => exact ⟨ks, 0, rfl, Nat.zero_le _, hk, hl, rfl, Below.refl _ _⟩
  case round =>
    clear hk hl
    obtain ⟨ks', n, rfl, hn, hk, hl, he, hbl⟩ := hrel
    have HK := Lib.hid hk
    obtain ⟨KA, kc, rfl, hkc, _⟩ := hk
    have HE := Lib.hid he
    have HB := Lib.hid hbl
    clear he hbl
    by_cases hnl : n < ps.length
    · obtain ⟨p, hpn⟩ : ∃ p, ps[n]? = some p := ⟨ps[n], List.getElem?_eq_getElem hnl⟩
      have hdr := drop_cons' hpn
      rcases HPA.out with hnil | ⟨b1, o1, rfl, hb1, hc1⟩
      · rw [hnil] at hnl; exact absurd hnl (Nat.not_lt_zero _)
      obtain ⟨u, hcu, hpu⟩ := hc1 n p hpn
      have hpu' := hpu.below HB.out
      have hcu' := (HB.out.cell (p := ⟨b1, o1 + n, none⟩) hb1).trans hcu
      obtain ⟨bm, br, bl, rv, rfl, _, _, _, d1, d2, d3, dn⟩ := hpu'
      have HCALL := Lib.hid (part_any _ p ks' bm br bl rv wr d1 d2 d3 dn HK.out hl (H0.out p (List.mem_of_getElem? hpn)))
      have HDR := Lib.hid hdr
      obtain ⟨q, hq⟩ : ∃ q, q = eat p.2.2 p.2.1 (ks'.length + 1) 0 ks' := ⟨_, rfl⟩
      rw [← hq] at HCALL
      have HQ := Lib.hid hq
      have hqlen : q.2.length ≤ ks'.length := by rw [hq]; exact eat_le _ _ _
      clear hc1 hcu hpu d1 d2 d3 dn hdr hpn hq
      go_wp2_with fail
      refine HCALL.out.mono ?_; rintro e w2 ⟨kv', rfl, hk2, b2⟩
      have HK2 := Lib.hid hk2
      obtain ⟨KA2, kc2, rfl, hkc2, _⟩ := hk2
      have B2 := Lib.hid (thenB' HB.out (Nat.le_refl _) b2)
      clear b2
      by_cases hle : p.1 ≤ q.1
      · have g : decide (p.1 ≤ q.1) = true := decide_eq_true hle
        rw [g]
        go_wp2_with fail
        go_roundw
        case rel => exact ⟨q.2, n + 1, by go_num, by omega, HK2.out, by omega, by rw [← HE.out, HDR.out, allL, ← HQ.out, g, Bool.true_and], B2.out⟩
        case measure => simp [intOf]; omega
      · have g : decide (p.1 ≤ q.1) = false := decide_eq_false hle
        rw [g]
        go_wp2_with fail
        go_ret
        exact ⟨ret_bool (by rw [← HE.out, HDR.out, allL, ← HQ.out, g, Bool.false_and]), B2.out⟩
    · have hdr : ps.drop n = [] := List.drop_of_length_le (by omega)
      have HDR := Lib.hid hdr
      clear hdr
      go_wp2_with fail
      go_ret
      refine ⟨ret_bool ?_, HB.out⟩
      rw [← HE.out, HDR.out, allL]
      cases ks' with
      | nil => rfl
      | cons a t => simp; omega
end Go.Proofs.YtjlpklhibdkmeaaGreatDoor
