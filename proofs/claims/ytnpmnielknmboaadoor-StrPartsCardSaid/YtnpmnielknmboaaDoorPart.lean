/- selkielaw04.StrParts answers true at any strings. -/
import Derived.Test.YtnpmnielknmboaaDoorPar
namespace Go.Proofs.YtnpmnielknmboaaDoor
open Go.RowKit Go.Sort

set_option maxHeartbeats 1000000 in
set_option maxRecDepth 100000 in
theorem parts_far (A : Option Addr) (n c : Nat) (b : ByteArray) (w : World) (hM : Mx w) (h : 20 < n ∨ 50 < b.size) :
    Calls Tryd.prog 6 #[.slice A n c, .string b] w fun e w' => e = .returned (.bool true) ∧ Below w.heap.size w w' := by
  have HM := Lib.hid hM
  clear hM
  by_cases h1 : 20 < n
  · clear h
    go_enter Tryd.func6, Tryd.ntmps6
    go_wp2_with fail
    refine (alive_any _ HM.out).mono ?_; rintro e w1 ⟨rfl, b1⟩
    go_wp2_with fail
    go_ret
    exact ⟨rfl, b1⟩
  · have h2 : 50 < b.size := by omega
    have g1 : decide (20 < n) = false := decide_eq_false h1
    clear h
    go_enter Tryd.func6, Tryd.ntmps6
    go_wp2_with fail
    refine (alive_any _ HM.out).mono ?_; rintro e w1 ⟨rfl, b1⟩
    go_wp2_with fail
    go_ret
    exact ⟨rfl, b1⟩

/-- What the program's calls answer of strings that are joined. -/
theorem parts_calls (xs : List ByteArray) (b : ByteArray) (l : Value) (hb : b.size ≤ 50) (hl : xs.length ≤ 20) (hs : ∀ x ∈ xs, x.size ≤ 50) (J : ByteArray) (hJ : J = ⟨(Lib.join (lists xs) b.data.toList).toArray⟩) :
    J.size ≤ 2000 ∧
    (∀ W, Strs W l xs → Calls Tryd.prog 10 #[l, .string b, .int .i64 (J.size : Int)] W fun e w' => e = .returned (.tuple #[.string J, .int .i64 0]) ∧ Below W.heap.size W w') ∧
    (∃ q : ByteArray, ∀ W, Strs W l xs → Calls Tryd.prog 10 #[l, .string b, .int .i64 ((J.size : Int) - 1)] W fun e w' => e = .returned (.tuple #[.string q, .int .i64 (if 0 < J.size then 3 else 0)]) ∧ Below W.heap.size W w') ∧
    (∀ W v, VRow W 0 v (inter xs b xs.length) → Calls Tryd.prog 20 #[.string ⟨(pct (inter xs b xs.length).length).toArray⟩, v, .int .i64 (J.size : Int)] W fun e w' => e = .returned (.tuple #[.string J, .int .i64 ((inter xs b xs.length).length : Int), .int .i64 0]) ∧ Below W.heap.size W w') := by
  have hsz : J.size = (Lib.join (lists xs) b.data.toList).length := by rw [hJ, Lib.size_mk]
  have hlen : J.size ≤ 2000 := by
    rw [hsz]
    have h := join_bound (lists xs) b.data.toList 50 (by rw [← Lib.size_eq]; exact hb) (lists_le hs) xs.length
    rw [join_all _ _ _ (Nat.le_refl _)] at h
    omega
  have hs' : ∀ x ∈ xs, x.size ≤ 3000 := fun x hx => by have := hs x hx; omega
  refine ⟨hlen, fun W hW => ?_, ⟨⟨(joiS xs b ((J.size : Int) - 1)).toArray⟩, fun W hW => ?_⟩, fun W v hv => ?_⟩
  · have h := join_any l xs b J.size W hW (by omega) (by omega) hs' (by omega)
    have hn := joi_no (xs := xs) (b := b) (most := J.size) (by rw [← hsz]; omega)
    rw [hn.1, hn.2, ← hJ] at h
    exact h
  · have h := join_any l xs b ((J.size : Int) - 1) W hW (by omega) (by omega) hs' (by omega)
    have e : joiN xs b ((J.size : Int) - 1) = if 0 < J.size then 3 else 0 := by
      by_cases h0 : 0 < J.size
      · rw [if_pos h0]
        exact (joi_yes (by rw [← hsz]; omega)).2
      · rw [if_neg h0]
        exact (joi_no (by rw [← hsz]; omega)).2
    rw [e] at h
    exact h
  · have hj := inter_join xs b xs.length (Nat.le_refl _)
    rw [join_all _ _ _ (Nat.le_refl _)] at hj
    have hil := inter_len xs b xs.length
    have h := fmt_row J.size hv (by omega) (by omega) (by rw [hj, ← hsz]; omega) (by rw [hj, ← hsz]; omega)
    rw [hj, ← hJ] at h
    exact h

/-- What is found at the k-th one's place. -/
theorem parts_at (xs : List ByteArray) (b J : ByteArray) (hJ : J = ⟨(Lib.join (lists xs) b.data.toList).toArray⟩) (hJs : J.size ≤ 2000) (hs : ∀ x ∈ xs, x.size ≤ 50) (k : Nat) (x : ByteArray) (hx : xs[k]? = some x) (a : Nat)
    (ha : a = (Lib.join ((lists xs).take k) b.data.toList).length + (if k = 0 then 0 else b.size)) :
    a + x.size ≤ J.size ∧ a + x.size = (Lib.join ((lists xs).take (k + 1)) b.data.toList).length ∧
    (∃ E : Int, ∀ W, Mx W → Calls Tryd.prog 12 #[.string J, .string x, .int .i64 ((a : Int) + 1)] W fun e w' => e = .returned (.tuple #[.int .i64 ((a : Int) + 1), .int .i64 E, .bool true]) ∧ W = w') ∧
    (∃ r : ByteArray, (∀ W, Calls Tryd.prog 14 #[.string J, .int .i64 ((a : Int) + 1), .int .i64 ((a : Int) + 1 + x.size - 1)] W fun e w' => e = .returned (.string r) ∧ W = w') ∧ (0 < x.size → r = x)) := by
  have hjl : J.data.toList = Lib.join (lists xs) b.data.toList := by rw [hJ]
  have hxs : x.size ≤ 50 := hs x (List.mem_of_getElem? hx)
  have ho := join_occ (lists xs) b.data.toList k x.data.toList (lists_at hx)
  rw [← Lib.size_eq b, ← ha, ← hjl] at ho
  have hn := congrArg List.length (join_next (lists xs) b.data.toList k _ (lists_at hx))
  have hle := join_take_le (lists xs) b.data.toList (k + 1)
  rw [← hjl, ← Lib.size_eq J] at hle
  have he : a + x.size = (Lib.join ((lists xs).take (k + 1)) b.data.toList).length := by
    rw [hn, List.length_append, List.length_append, ← Lib.size_eq x, ha]
    by_cases e : k = 0
    · rw [if_pos e, if_pos e]; simp
    · rw [if_neg e, if_neg e, Lib.size_eq b]
  have haJ : a + x.size ≤ J.size := by omega
  have hf := find_here (l := J.data.toList) (what := x.data.toList) (k := a) (by rw [← Lib.size_eq]; omega) ho
  refine ⟨haJ, he, ⟨findE J.data.toList x.data.toList ((a : Int) + 1), fun W hW => ?_⟩, ⟨_, fun W => sub_any J ((a : Int) + 1) ((a : Int) + 1 + x.size - 1) W (by omega) (by omega) (by omega) (by omega) (by omega), fun h0 => ?_⟩⟩
  · have h := find_any J x ((a : Int) + 1) W (by omega) (by omega) (by omega) (by omega) hW
    rw [(findE_yes (by rw [hf]; omega)).2, hf] at h
    exact h
  · rw [Lib.size_eq x, sub_at ho (by rw [← Lib.size_eq]; exact h0), Lib.mk_data]

theorem VRow.low {W : World} {B : Nat} {v : Value} {ys : List ByteArray} (h : VRow W B v ys) : VRow W 0 v ys := by
  refine ⟨h.1, ?_⟩
  rcases h.2 with h0 | ⟨g, cap, cur, h1, _, h3⟩
  · exact .inl h0
  · exact .inr ⟨g, cap, cur, h1, Nat.zero_le _, h3⟩
theorem pct_add (m : Nat) : (⟨(pct m).toArray⟩ : ByteArray) ++ ⟨#[37, 115]⟩ = ⟨(pct (m + 1)).toArray⟩ := by
  rw [pct_snoc]
  exact str_add (pct m) [37, 115]

theorem part_len (xs : List ByteArray) (b : ByteArray) (k : Nat) (hk : k ≤ 20) (hb : b.size ≤ 50) (hall : ∀ (j : Nat) x, j < k → xs[j]? = some x → x.size ≤ 50) : (Lib.join ((lists xs).take k) b.data.toList).length ≤ 3000 := by
  have h := join_bound ((lists xs).take k) b.data.toList 50 (by rw [← Lib.size_eq]; exact hb) (fun y hy => by
    obtain ⟨j, hj, rfl⟩ := List.getElem_of_mem hy
    have hjk : j < k := by rw [List.length_take] at hj; omega
    have hjx : j < xs.length := by rw [List.length_take, lists_len] at hj; omega
    have := hall j _ hjk (List.getElem?_eq_getElem hjx)
    rw [List.getElem_take]
    unfold lists
    rw [List.getElem_map, ← Lib.size_eq]
    exact this) k
  rw [List.take_take, Nat.min_self] at h
  omega

set_option maxHeartbeats 8000000 in
set_option maxRecDepth 100000 in
theorem parts_near (A : Option Addr) (c : Nat) (xs : List ByteArray) (b : ByteArray) (w : World) (hM : Mx w) (hst : Strs w (.slice A xs.length c) xs) (hl : xs.length ≤ 20) (hb : b.size ≤ 50)
    (hA : 0 < xs.length → ∃ bk o, A = some ⟨bk, o, none⟩ ∧ bk < w.heap.size ∧ ∀ (j : Nat) x, xs[j]? = some x → w.cell? ⟨bk, o + j, none⟩ = some (.string x)) :
    Calls Tryd.prog 6 #[.slice A xs.length c, .string b] w fun e w' => e = .returned (.bool true) ∧ Below w.heap.size w w' := by
  have HM := Lib.hid hM
  have HST := Lib.hid hst
  have HA := Lib.hid hA
  have g1 : decide (20 < xs.length) = false := decide_eq_false (by omega)
  have g2 : decide (50 < b.size) = false := decide_eq_false (by omega)
  have hps : (⟨#[37, 115]⟩ : ByteArray).size = 2 := rfl
  clear hM hst hA
  go_enter Tryd.func6, Tryd.ntmps6
  go_wp2_with fail
  refine (alive_any _ HM.out).mono ?_; rintro e w1 ⟨rfl, b1⟩
  have HM1 := Lib.hid (HM.out.below b1)
  have HST1 := Lib.hid (HST.out.below b1)
  have B1 := Lib.hid b1
  have hw1 := b1.size
  clear b1
  go_wp2_with fail
  go_loopw [5, 6, 7, 35] (fun f al ar i wr => ∃ (k : Nat) (F : ByteArray), k ≤ xs.length ∧ i = .int .i64 k ∧ f = .string F ∧ F = ⟨(pct (inter xs b k).length).toArray⟩ ∧ al = .int .i64 ((Lib.join ((lists xs).take k) b.data.toList).length : Int) ∧
    VRow wr w1.heap.size ar (inter xs b k) ∧ Below w1.heap.size w1 wr ∧ ∀ j x, j < k → xs[j]? = some x → x.size ≤ 50) (fun _ _ _ i _ => xs.length - (intOf i).toNat)
  case atStart => exact ⟨0, _, Nat.zero_le _, rfl, rfl, rfl, rfl, VRow.nil _ _, below2 _ _, fun _ _ h => absurd h (by omega)⟩
  case round =>
    obtain ⟨k, F, hk, rfl, rfl, hF, rfl, hrow, hbl, hall⟩ := hrel
    have HF := Lib.hid hF
    have HR := Lib.hid hrow
    have HBL := Lib.hid hbl
    have HALL := Lib.hid hall
    have hsz := hbl.size
    have hFs : F.size ≤ 80 := by
      rw [hF, Lib.size_mk, pct_len]
      have := inter_len xs b k
      omega
    have hjl := part_len xs b k (by omega) hb hall
    have hil := inter_len xs b k
    by_cases hlt : k < xs.length
    · obtain ⟨x, hxk⟩ : ∃ x, xs[k]? = some x := ⟨xs[k], List.getElem?_eq_getElem hlt⟩
      obtain ⟨bk, o, hAe, hbk, hcells⟩ := HA.out (by omega)
      have hcell := (hbl.cell (p := ⟨bk, o + k, none⟩) (Nat.lt_of_lt_of_le hbk hw1)).trans ((B1.out.cell (p := ⟨bk, o + k, none⟩) hbk).trans (hcells k x hxk))
      subst hAe
      have HIN := Lib.hid (inter_next (b := b) hxk)
      have HJN := Lib.hid (join_next (lists xs) b.data.toList k _ (lists_at hxk))
      have HXK := Lib.hid hxk
      obtain ⟨jn, hjn⟩ : ∃ jn : Nat, jn = (Lib.join ((lists xs).take k) b.data.toList).length := ⟨_, rfl⟩
      rw [← hjn] at hjl ⊢
      have HJ := Lib.hid hjn
      clear hcells hF hrow hbl hall hxk hjn
      by_cases hbig : 50 < x.size
      · go_wp2_with fail
        go_ret
        exact ⟨rfl, thenB B1.out HBL.out⟩
      · have gx : decide (50 < x.size) = false := decide_eq_false hbig
        rcases Nat.eq_zero_or_pos k with h0 | h0
        · have gk : decide (0 < k) = false := decide_eq_false (by omega)
          have K0 := Lib.hid h0
          clear h0
          go_wp2_with (at_builtin; refine at_addv _ x rfl _ _ rfl w1.heap.size _ _ rfl HR.out rfl (by omega) hsz ?_; intro v2 w2 hr2 hb2)
          go_roundw
          case rel =>
            refine ⟨k + 1, _, by omega, by go_num, rfl, ?_, ?_, ?_, HBL.out.trans hb2, fun j y hj hy => ?_⟩
            · rw [HF.out, pct_add, HIN.out, if_pos K0.out]; simp
            · rw [HJN.out, if_pos K0.out, List.append_nil, List.length_append, ← HJ.out, ← Lib.size_eq]; go_num
            · rw [HIN.out, if_pos K0.out, List.append_nil]; exact hr2
            · by_cases e : j = k
              · rw [e, HXK.out] at hy
                obtain rfl := Option.some.inj hy
                omega
              · exact HALL.out j y (by omega) hy
          case measure => simp [intOf]; omega
        · have gk : decide (0 < k) = true := decide_eq_true h0
          go_wp2_with (first
            | (at_builtin; refine at_addv _ b rfl _ _ rfl w1.heap.size _ _ rfl HR.out rfl (by omega) hsz ?_; intro v2 w2 hr2 hb2; have HR2 := Lib.hid hr2; have HB2 := Lib.hid hb2; have hsz2 := Nat.le_trans hsz hb2.size; clear hr2 hb2)
            | (at_builtin; refine at_addv _ x rfl _ _ rfl w1.heap.size _ _ rfl HR2.out rfl (by rw [List.length_append, List.length_singleton]; omega) hsz2 ?_; intro v3 w3 hr3 hb3))
          go_roundw
          case rel =>
            refine ⟨k + 1, _, by omega, by go_num, rfl, ?_, ?_, ?_, (HBL.out.trans HB2.out).trans hb3, fun j y hj hy => ?_⟩
            · rw [HF.out, pct_add, pct_add, HIN.out, if_neg (by omega)]; simp
            · rw [HJN.out, if_neg (by omega), List.length_append, List.length_append, ← HJ.out, ← Lib.size_eq, ← Lib.size_eq]; go_num
            · rw [HIN.out, if_neg (by omega)]; exact hr3
            · by_cases e : j = k
              · rw [e, HXK.out] at hy
                obtain rfl := Option.some.inj hy
                omega
              · exact HALL.out j y (by omega) hy
          case measure => simp [intOf]; omega
    · have hkx : k = xs.length := by omega
      have hs : ∀ x ∈ xs, x.size ≤ 50 := fun x hx => by
        obtain ⟨j, hj, rfl⟩ := List.getElem_of_mem hx
        exact hall j _ (by omega) (List.getElem?_eq_getElem hj)
      obtain ⟨J, hJ⟩ : ∃ J : ByteArray, J = ⟨(Lib.join (lists xs) b.data.toList).toArray⟩ := ⟨_, rfl⟩
      obtain ⟨hJs, cj, ⟨q, cj1⟩, cf⟩ := parts_calls xs b (.slice A xs.length c) hb hl hs J hJ
      have hat := parts_at xs b J hJ hJs hs
      have hJz : (Lib.join ((lists xs).take k) b.data.toList).length = J.size := by rw [hkx, join_all _ _ _ (Nat.le_refl _), hJ, Lib.size_mk]
      rw [hJz]
      obtain ⟨AV, cV, hform⟩ := hrow.form
      have hrow' := hrow
      rw [hform, hkx] at hrow'
      rw [hkx] at hF
      rw [hform, hkx]
      obtain ⟨L, hL⟩ : ∃ L : Nat, L = (inter xs b xs.length).length := ⟨_, rfl⟩
      have CF : Hid (∀ W, VRow W 0 (.slice AV L cV) (inter xs b xs.length) → Calls Tryd.prog 20 #[.string F, .slice AV L cV, .int .i64 (J.size : Int)] W fun e w' => e = .returned (.tuple #[.string J, .int .i64 (L : Int), .int .i64 0]) ∧ Below W.heap.size W w') := by
        apply Lib.hid
        intro W hW
        rw [hF, hL]
        rw [hL] at hW
        exact cf W _ hW
      rw [← hL] at hrow' ⊢
      have HV := Lib.hid hrow'.low
      have CJ := Lib.hid cj
      have CJ1 := Lib.hid cj1
      have HAT := Lib.hid hat
      have HSS := Lib.hid hs
      have HST2 := Lib.hid (HST1.out.below hbl)
      have HM2 := Lib.hid (HM1.out.below hbl)
      have HBW := Lib.hid (thenB B1.out hbl)
      have HL := Lib.hid hL
      have HJ := Lib.hid hJ
      have hL40 : L ≤ 40 := by rw [hL]; have := inter_len xs b xs.length; omega
      clear hkx hs cj cj1 cf hat hJz hform hrow hrow' hF hL hJ hall hbl HR HBL HALL HF hil hjl hFs
      go_wp2_with fail
      refine (CJ.out _ HST2.out).mono ?_; rintro e w3 ⟨rfl, b3⟩
      have HV3 : Hid (VRow w3 0 (.slice AV L cV) (inter xs b xs.length)) := Lib.hid (HV.out.kept (row := none) ⟨b3.os, b3.tape, b3.output, b3.size, fun i hi _ => b3.block i hi⟩ (by
        rcases HV.out.2 with ⟨h, _⟩ | ⟨g, _, _, h, _⟩
        · left; rw [h]; rfl
        · right; rw [h]; simp [Value.ownBlock]))
      have HST3 := Lib.hid (HST2.out.below b3)
      have HM3 := Lib.hid (HM2.out.below b3)
      have HB3 := Lib.hid (thenB HBW.out b3)
      clear b3
      go_wp2_with fail
      refine (CF.out _ HV3.out).mono ?_; rintro e w4 ⟨rfl, b4⟩
      have HST4 := Lib.hid (HST3.out.below b4)
      have HM4 := Lib.hid (HM3.out.below b4)
      have HB4 := Lib.hid (thenB HB3.out b4)
      clear b4
      go_wp2_with fail
      refine (CJ1.out _ HST4.out).mono ?_; rintro e w5 ⟨rfl, b5⟩
      have HM5 := Lib.hid (HM4.out.below b5)
      have HB5 := Lib.hid (thenB HB4.out b5)
      clear b5
      rcases Nat.eq_zero_or_pos J.size with hj0 | hj0
      · rw [if_neg (by omega)]
        have gj : decide (0 < J.size) = false := decide_eq_false (by omega)
        have HJ0 := Lib.hid hj0
        clear hj0
        go_wp2_with fail
        go_loop [17, 121] (fun at_ i => ∃ k : Nat, k ≤ xs.length ∧ i = .int .i64 k ∧ at_ = .int .i64 (((Lib.join ((lists xs).take k) b.data.toList).length : Int) + 1)) (fun _ i => xs.length - (intOf i).toNat)
        case atStart => exact ⟨0, Nat.zero_le _, rfl, rfl⟩
        case round =>
          obtain ⟨m, hm, rfl, rfl⟩ := hrel
          by_cases hltm : m < xs.length
          · obtain ⟨x, hxm⟩ : ∃ x, xs[m]? = some x := ⟨xs[m], List.getElem?_eq_getElem hltm⟩
            obtain ⟨bk, o, hAe, hbk, hcells⟩ := HA.out (by omega)
            have hcell := (HB5.out.cell (p := ⟨bk, o + m, none⟩) hbk).trans (hcells m x hxm)
            subst hAe
            obtain ⟨a, ha⟩ : ∃ a : Nat, a = (Lib.join ((lists xs).take m) b.data.toList).length + (if m = 0 then 0 else b.size) := ⟨_, rfl⟩
            obtain ⟨haJ, hnext, ⟨E, hE⟩, ⟨r, hr1, hr2⟩⟩ := HAT.out m x hxm a ha
            have HE := Lib.hid hE
            have HR1 := Lib.hid hr1
            have HNX := Lib.hid hnext
            have hxz : x.size ≤ 50 := HSS.out x (List.mem_of_getElem? hxm)
            clear hcells hxm hE hr1 hnext
            have hJs' : a + x.size ≤ 2000 := by omega
            rcases Nat.eq_zero_or_pos m with hm0 | hm0
            · have gm : decide (0 < m) = false := decide_eq_false (by omega)
              rw [if_pos hm0, Nat.add_zero] at ha
              rw [← ha]
              clear ha hm0
              by_cases hx0 : 0 < x.size
              · obtain rfl : r = x := hr2 hx0
                clear hr2
                go_wp2_with fail
                refine (HE.out _ HM5.out).mono ?_; rintro e w' ⟨rfl, rfl⟩
                go_wp2_with fail
                refine (HR1.out _).mono ?_; rintro e w' ⟨rfl, rfl⟩
                go_wp2_with fail
                go_round
                case rel => exact ⟨m + 1, by omega, by go_num, by rw [← HNX.out]; go_num⟩
                case measure => simp [intOf]; omega
              · have hxe := emp_yes (s := x) (by omega)
                clear hr2 hx0
                cases hb0 : r.toList == x.toList
                all_goals
                  go_wp2_with fail
                  refine (HE.out _ HM5.out).mono ?_; rintro e w' ⟨rfl, rfl⟩
                  go_wp2_with fail
                  refine (HR1.out _).mono ?_; rintro e w' ⟨rfl, rfl⟩
                  go_wp2_with fail
                  go_round
                  case rel => exact ⟨m + 1, by omega, by go_num, by rw [← HNX.out]; go_num⟩
                  case measure => simp [intOf]; omega
            · have gm : decide (0 < m) = true := decide_eq_true hm0
              rw [if_neg (by omega)] at ha
              obtain ⟨jl, hjl⟩ : ∃ jl : Nat, jl = (Lib.join ((lists xs).take m) b.data.toList).length := ⟨_, rfl⟩
              rw [← hjl] at ha ⊢
              have hra : (jl : Int) + 1 + (b.size : Int) = (a : Int) + 1 := by omega
              have hjb : jl ≤ 2000 := by omega
              clear ha hjl
              by_cases hx0 : 0 < x.size
              · obtain rfl : r = x := hr2 hx0
                clear hr2
                go_wp2_with fail
                refine (HE.out _ HM5.out).mono ?_; rintro e w' ⟨rfl, rfl⟩
                go_wp2_with fail
                refine (HR1.out _).mono ?_; rintro e w' ⟨rfl, rfl⟩
                go_wp2_with fail
                go_round
                case rel => exact ⟨m + 1, by omega, by go_num, by rw [← HNX.out]; go_num⟩
                case measure => simp [intOf]; omega
              · have hxe := emp_yes (s := x) (by omega)
                clear hr2 hx0
                cases hb0 : r.toList == x.toList
                all_goals
                  go_wp2_with fail
                  refine (HE.out _ HM5.out).mono ?_; rintro e w' ⟨rfl, rfl⟩
                  go_wp2_with fail
                  refine (HR1.out _).mono ?_; rintro e w' ⟨rfl, rfl⟩
                  go_wp2_with fail
                  go_round
                  case rel => exact ⟨m + 1, by omega, by go_num, by rw [← HNX.out]; go_num⟩
                  case measure => simp [intOf]; omega
          · go_wp2_with fail
            go_ret
            exact ⟨rfl, HB5.out⟩
      · rw [if_pos hj0]
        have gj : decide (0 < J.size) = true := decide_eq_true hj0
        go_wp2_with fail
        go_loop [17, 121] (fun at_ i => ∃ k : Nat, k ≤ xs.length ∧ i = .int .i64 k ∧ at_ = .int .i64 (((Lib.join ((lists xs).take k) b.data.toList).length : Int) + 1)) (fun _ i => xs.length - (intOf i).toNat)
        case atStart => exact ⟨0, Nat.zero_le _, rfl, rfl⟩
        case round =>
          obtain ⟨m, hm, rfl, rfl⟩ := hrel
          by_cases hltm : m < xs.length
          · obtain ⟨x, hxm⟩ : ∃ x, xs[m]? = some x := ⟨xs[m], List.getElem?_eq_getElem hltm⟩
            obtain ⟨bk, o, hAe, hbk, hcells⟩ := HA.out (by omega)
            have hcell := (HB5.out.cell (p := ⟨bk, o + m, none⟩) hbk).trans (hcells m x hxm)
            subst hAe
            obtain ⟨a, ha⟩ : ∃ a : Nat, a = (Lib.join ((lists xs).take m) b.data.toList).length + (if m = 0 then 0 else b.size) := ⟨_, rfl⟩
            obtain ⟨haJ, hnext, ⟨E, hE⟩, ⟨r, hr1, hr2⟩⟩ := HAT.out m x hxm a ha
            have HE := Lib.hid hE
            have HR1 := Lib.hid hr1
            have HNX := Lib.hid hnext
            have hxz : x.size ≤ 50 := HSS.out x (List.mem_of_getElem? hxm)
            clear hcells hxm hE hr1 hnext
            have hJs' : a + x.size ≤ 2000 := by omega
            rcases Nat.eq_zero_or_pos m with hm0 | hm0
            · have gm : decide (0 < m) = false := decide_eq_false (by omega)
              rw [if_pos hm0, Nat.add_zero] at ha
              rw [← ha]
              clear ha hm0
              by_cases hx0 : 0 < x.size
              · obtain rfl : r = x := hr2 hx0
                clear hr2
                go_wp2_with fail
                refine (HE.out _ HM5.out).mono ?_; rintro e w' ⟨rfl, rfl⟩
                go_wp2_with fail
                refine (HR1.out _).mono ?_; rintro e w' ⟨rfl, rfl⟩
                go_wp2_with fail
                go_round
                case rel => exact ⟨m + 1, by omega, by go_num, by rw [← HNX.out]; go_num⟩
                case measure => simp [intOf]; omega
              · have hxe := emp_yes (s := x) (by omega)
                clear hr2 hx0
                cases hb0 : r.toList == x.toList
                all_goals
                  go_wp2_with fail
                  refine (HE.out _ HM5.out).mono ?_; rintro e w' ⟨rfl, rfl⟩
                  go_wp2_with fail
                  refine (HR1.out _).mono ?_; rintro e w' ⟨rfl, rfl⟩
                  go_wp2_with fail
                  go_round
                  case rel => exact ⟨m + 1, by omega, by go_num, by rw [← HNX.out]; go_num⟩
                  case measure => simp [intOf]; omega
            · have gm : decide (0 < m) = true := decide_eq_true hm0
              rw [if_neg (by omega)] at ha
              obtain ⟨jl, hjl⟩ : ∃ jl : Nat, jl = (Lib.join ((lists xs).take m) b.data.toList).length := ⟨_, rfl⟩
              rw [← hjl] at ha ⊢
              have hra : (jl : Int) + 1 + (b.size : Int) = (a : Int) + 1 := by omega
              have hjb : jl ≤ 2000 := by omega
              clear ha hjl
              by_cases hx0 : 0 < x.size
              · obtain rfl : r = x := hr2 hx0
                clear hr2
                go_wp2_with fail
                refine (HE.out _ HM5.out).mono ?_; rintro e w' ⟨rfl, rfl⟩
                go_wp2_with fail
                refine (HR1.out _).mono ?_; rintro e w' ⟨rfl, rfl⟩
                go_wp2_with fail
                go_round
                case rel => exact ⟨m + 1, by omega, by go_num, by rw [← HNX.out]; go_num⟩
                case measure => simp [intOf]; omega
              · have hxe := emp_yes (s := x) (by omega)
                clear hr2 hx0
                cases hb0 : r.toList == x.toList
                all_goals
                  go_wp2_with fail
                  refine (HE.out _ HM5.out).mono ?_; rintro e w' ⟨rfl, rfl⟩
                  go_wp2_with fail
                  refine (HR1.out _).mono ?_; rintro e w' ⟨rfl, rfl⟩
                  go_wp2_with fail
                  go_round
                  case rel => exact ⟨m + 1, by omega, by go_num, by rw [← HNX.out]; go_num⟩
                  case measure => simp [intOf]; omega
          · go_wp2_with fail
            go_ret
            exact ⟨rfl, HB5.out⟩

theorem parts_any (v : Value) (xs : List ByteArray) (b : ByteArray) (w : World) (hM : Mx w) (hl : Strs w v xs) :
    Calls Tryd.prog 6 #[v, .string b] w fun e w' => e = .returned (.bool true) ∧ Below w.heap.size w w' := by
  have hl' := hl
  rcases hl with ⟨A, c, rfl, rfl⟩ | ⟨bk, o, c, rfl, h0, hbk, _, hx⟩
  · by_cases h : 20 < 0 ∨ 50 < b.size
    · exact parts_far A 0 c b w hM h
    · exact parts_near A c [] b w hM hl' (by simp) (by omega) (fun h => absurd h (by simp))
  · by_cases h : 20 < xs.length ∨ 50 < b.size
    · exact parts_far _ xs.length c b w hM h
    · exact parts_near _ c xs b w hM hl' (by omega) (by omega) (fun _ => ⟨bk, o, rfl, hbk, hx⟩)
end Go.Proofs.YtnpmnielknmboaaDoor
