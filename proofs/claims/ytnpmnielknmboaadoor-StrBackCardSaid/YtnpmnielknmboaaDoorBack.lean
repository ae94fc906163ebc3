/- selkielaw04.StrBack answers true at any strings and numbers. -/
import Derived.Test.YtnpmnielknmboaaDoorLive
import Derived.Test.YtnpmnielknmboaaDoorChar
namespace Go.Proofs.YtnpmnielknmboaaDoor
open Go.RowKit Go.Sort

/-- A slice of strings of the call's own. -/
def SRow (W : World) (B : Nat) (v : Value) (xs : List ByteArray) : Prop := W.ownsRow B 9 1 v xs.length (xs.map Value.string)
theorem SRow.nil (W : World) (B : Nat) : SRow W B (.slice none 0 0) [] := World.ownsRow_nil W B 9 1
theorem SRow.form {W : World} {B : Nat} {v : Value} {xs : List ByteArray} (h : SRow W B v xs) : ∃ A c, v = .slice A xs.length c := by
  rcases h.2 with ⟨rfl, h0⟩ | ⟨g, cap, _, rfl, _⟩
  · exact ⟨none, 0, by rw [h0]⟩
  · exact ⟨_, _, rfl⟩
theorem SRow.strs {W : World} {B : Nat} {v : Value} {xs : List ByteArray} (h : SRow W B v xs) : Strs W v xs := by
  have hh := h
  rcases h.2 with ⟨rfl, h0⟩ | ⟨g, cap, cur, rfl, _, _, hc, _⟩
  · exact .inl ⟨none, 0, rfl, List.eq_nil_of_length_eq_zero h0⟩
  · rcases Nat.eq_zero_or_pos xs.length with h0 | h0
    · exact .inl ⟨_, _, by rw [h0], List.eq_nil_of_length_eq_zero h0⟩
    · refine .inr ⟨g, 0, cap, rfl, h0, (hh.lt g rfl).2, hc, fun j x hj => ?_⟩
      have hj' : j < xs.length := (List.getElem?_eq_some_iff.1 hj).1
      rw [Nat.zero_add, hh.cellAt j (by omega), List.getElem?_map, hj]
      rfl
/-- append(l, x): one string more. -/
theorem at_add {ops : Array Oper} {rest : List Oper} {o : Oper} {a : Act} {Q : Exit → Act → World → Prop} (w : World) (x : ByteArray) (hgd : o.guard = none) (sl y : Operand)
    (ho : o.op = .call { callee := .builtin .append, args := #[sl, y], argTypes := #[22, 22] }) (B : Nat) (v : Value) (xs : List ByteArray) (hs : a.eval sl = v) (hown : SRow w B v xs) (hy : a.eval y = .slice (some ⟨w.heap.size, 0, none⟩) 1 1)
    (hlen : xs.length ≤ 1000) (hB : B ≤ w.heap.size)
    (h : ∀ v' w', SRow w' B v' (xs ++ [x]) → Below B w w' → wpList Tryd.prog ops Q rest (a.put o.dst v') w') : wpList Tryd.prog ops Q (o :: rest) a (w.alloc (.cells #[.string x] 9)) := by
  obtain ⟨i0, hi0, hz0, hz1, hz2⟩ := info_parts info9
  have hc := cell_of_row (w.alloc (.cells #[.string x] 9)) w.heap.size 0 _ 9 (0, 0) (heap_alloc_new w _)
  refine wpList_append_own (P := Tryd.prog) _ hgd sl y 22 ho B 9 i0 (.string ⟨#[]⟩) 1 16 Tryd.underlying22 hi0 hz0 hz1 hz2 rfl (by omega) v xs.length (xs.map Value.string) hs (hown.alloc _) ⟨w.heap.size, 0, none⟩ 1 1 [.string x] hy rfl
    (fun j u hj => by
      cases j with
      | zero => obtain rfl := Option.some.inj hj; exact hc
      | succ j => simp at hj) (fun u hu => by obtain rfl := List.mem_singleton.1 hu; rfl) (by unfold maxLen; omega) (by omega) (by simp; omega) ?_
  intro v' w' h1 h2 _
  refine h v' w' ?_ (((Below.refl _ _).alloc hB _).grown h2 (by simp; omega) (own_row hown))
  unfold SRow
  rw [List.length_append, List.map_append]
  exact h1

/-- The law's struct lies in block b. -/
def Bak (W : World) (b : Nat) (S : ByteArray) (c n : Int) (B : ByteArray) : Prop :=
  W.cell? ⟨b, 0, none⟩ = some (.string S) ∧ W.cell? ⟨b, 1, none⟩ = some (.int .u16 c) ∧ W.cell? ⟨b, 2, none⟩ = some (.int .u8 n) ∧ W.cell? ⟨b, 3, none⟩ = some (.string B)
theorem Bak.new (w : World) (t : TypeId) (S : ByteArray) (c n : Int) (B : ByteArray) : Bak (w.alloc (.cells #[.string S, .int .u16 c, .int .u8 n, .string B] t)) w.heap.size S c n B := by
  have hc := fun i => cell_of_row (w.alloc (.cells #[.string S, .int .u16 c, .int .u8 n, .string B] t)) w.heap.size i _ t (0, 0) (heap_alloc_new w _)
  exact ⟨hc 0, hc 1, hc 2, hc 3⟩
theorem Bak.below {W W' : World} {b : Nat} {S : ByteArray} {c n : Int} {B : ByteArray} (h : Bak W b S c n B) (hb : Below W.heap.size W W') : Bak W' b S c n B := by
  have hlt : b < W.heap.size := World.block_lt_of_cell? W _ h.1
  exact ⟨(hb.cell (p := ⟨b, 0, none⟩) hlt).trans h.1, (hb.cell (p := ⟨b, 1, none⟩) hlt).trans h.2.1, (hb.cell (p := ⟨b, 2, none⟩) hlt).trans h.2.2.1, (hb.cell (p := ⟨b, 3, none⟩) hlt).trans h.2.2.2⟩

set_option maxHeartbeats 2000000 in
set_option maxRecDepth 100000 in
theorem back_far (S B : ByteArray) (c n : Int) (w : World) (hM : Mx w) (h : 1000 < S.size ∨ 1000 < B.size) :
    Calls Tryd.prog 5 #[.agg #[.string S, .int .u16 c, .int .u8 n, .string B]] w fun e w' => e = .returned (.bool true) ∧ Below w.heap.size w w' := by
  have HM := Lib.hid (hM.below (belowA w (.cells #[.string S, .int .u16 c, .int .u8 n, .string B] 40)))
  have HC := Lib.hid (Bak.new w 40 S c n B)
  clear hM
  by_cases h1 : 1000 < S.size
  · clear h
    go_enter Tryd.func5, Tryd.ntmps5
    go_wp2_with fail
    refine (alive_any _ HM.out).mono ?_; rintro e w1 ⟨rfl, b1⟩
    obtain ⟨c0, c1, c2, c3⟩ := HC.out.below b1
    have HB := Lib.hid (thenB (belowA w _) b1)
    clear b1
    go_wp2_with fail
    go_quiet (fail)
    go_wp2_with fail
    go_ret
    exact ⟨rfl, below_draws HB.out _⟩
  · have g1 : decide (1000 < S.size) = false := decide_eq_false h1
    have h2 : 1000 < B.size := by omega
    clear h
    go_enter Tryd.func5, Tryd.ntmps5
    go_wp2_with fail
    refine (alive_any _ HM.out).mono ?_; rintro e w1 ⟨rfl, b1⟩
    obtain ⟨c0, c1, c2, c3⟩ := HC.out.below b1
    have HB := Lib.hid (thenB (belowA w _) b1)
    clear b1
    go_wp2_with fail
    go_quiet (fail)
    go_wp2_with fail
    go_ret
    exact ⟨rfl, below_draws HB.out _⟩

theorem lst_eq (S : ByteArray) : (⟨S.data.toList.toArray⟩ : ByteArray) = S := Lib.mk_data S

/-- What the program's calls answer of a string that is cut at k. -/
theorem back_calls (S : ByteArray) (k : Nat) (hS : S.size ≤ 1000) (hk : k ≤ S.size) :
    ∃ (p1 p2 r u d : ByteArray), p1 ++ p2 = S ∧ p1.size ≤ 1000 ∧ p2.size ≤ 1000 ∧
      (∀ W, Calls Tryd.prog 14 #[.string S, .int .i64 1, .int .i64 (k : Int)] W fun e w' => e = .returned (.string p1) ∧ W = w') ∧
      (∀ W, Calls Tryd.prog 14 #[.string S, .int .i64 ((k : Int) + 1), .int .i64 (-1)] W fun e w' => e = .returned (.string p2) ∧ W = w') ∧
      (∀ W, Calls Tryd.prog 14 #[.string S, .int .i64 1, .int .i64 (-1)] W fun e w' => e = .returned (.string S) ∧ W = w') ∧
      (∀ W, Calls Tryd.prog 15 #[.string S] W fun e w' => e = .returned (.string r) ∧ Below W.heap.size W w') ∧
      (∀ W, Calls Tryd.prog 15 #[.string r] W fun e w' => e = .returned (.string S) ∧ Below W.heap.size W w') ∧
      (∀ W, Calls Tryd.prog 17 #[.string S] W fun e w' => e = .returned (.string u) ∧ Below W.heap.size W w') ∧
      (∀ W, Calls Tryd.prog 16 #[.string S] W fun e w' => e = .returned (.string d) ∧ Below W.heap.size W w') ∧
      (∀ W, Calls Tryd.prog 16 #[.string u] W fun e w' => e = .returned (.string d) ∧ Below W.heap.size W w') ∧
      (∀ W, Calls Tryd.prog 17 #[.string d] W fun e w' => e = .returned (.string u) ∧ Below W.heap.size W w') ∧
      (∀ W, Calls Tryd.prog 19 #[.string S, .int .i64 1, .int .i64 (-1)] W (BytesOf S.data.toList W)) ∧
      (∀ W v, Nums W v (nums S.data.toList) → Calls Tryd.prog 18 #[v] W fun e w' => e = .returned (.tuple #[.string S, .int .i64 0]) ∧ Below W.heap.size W w') := by
  have hl : S.data.toList.length ≤ 1000 := by rw [← Lib.size_eq]; exact hS
  have hkl : k ≤ S.data.toList.length := by rw [← Lib.size_eq]; exact hk
  have hp : subL S.data.toList 1 k = S.data.toList.take k := by
    rcases Nat.eq_zero_or_pos k with h | h
    · subst h
      rw [sub_none (by unfold lstP fstP; simp; omega)]
      simp
    · exact sub_head h hkl
  have ha := sub_all S.data.toList
  refine ⟨⟨(S.data.toList.take k).toArray⟩, ⟨(S.data.toList.drop k).toArray⟩, ⟨S.data.toList.reverse.toArray⟩, ⟨(S.data.toList.map upC).toArray⟩, ⟨(S.data.toList.map loC).toArray⟩, ?_, ?_, ?_, fun W => ?_, fun W => ?_, fun W => ?_, fun W => ?_, fun W => ?_, fun W => ?_, fun W => ?_, fun W => ?_, fun W => ?_, fun W => ?_, fun W v hv => ?_⟩
  · rw [str_add, List.take_append_drop, lst_eq]
  · rw [Lib.size_mk, List.length_take]; omega
  · rw [Lib.size_mk, List.length_drop]; omega
  · have h := sub_any S 1 k W (by omega) (by omega) (by omega) (by omega) (by omega)
    rw [hp] at h
    exact h
  · have h := sub_any S ((k : Int) + 1) (-1) W (by omega) (by omega) (by omega) (by omega) (by omega)
    rw [sub_rest hkl] at h
    exact h
  · have h := sub_any S 1 (-1) W (by omega) (by omega) (by omega) (by omega) (by omega)
    rw [ha, lst_eq] at h
    exact h
  · exact reverse_any S W (by omega)
  · have h := reverse_any ⟨S.data.toList.reverse.toArray⟩ W (by rw [Lib.size_mk, List.length_reverse]; omega)
    rw [mk_list, List.reverse_reverse, lst_eq] at h
    exact h
  · exact upper_any S W (by omega)
  · exact lower_any S W (by omega)
  · have h := lower_any ⟨(S.data.toList.map upC).toArray⟩ W (by rw [Lib.size_mk, List.length_map]; omega)
    rw [mk_list, List.map_map, show loC ∘ upC = loC from funext lo_up] at h
    exact h
  · have h := upper_any ⟨(S.data.toList.map loC).toArray⟩ W (by rw [Lib.size_mk, List.length_map]; omega)
    rw [mk_list, List.map_map, show upC ∘ loC = upC from funext up_lo] at h
    exact h
  · have h := bytes_any S 1 (-1) W (by omega) (by omega) (by omega) (by omega) (by omega)
    rw [ha] at h
    exact h
  · have h := chars_any v (nums S.data.toList) W hv (by unfold nums; rw [List.length_map]; omega)
    rw [(ch_back _).1, (ch_back _).2, lst_eq] at h
    exact h

/-- So often is joined so often. -/
theorem back_reps (S B : ByteArray) (N : Nat) (hS : S.size ≤ 1000) (hB : B.size ≤ 1000) (hN : N ≤ 19) :
    ∃ x : ByteArray, (∀ W, Calls Tryd.prog 8 #[.string S, .int .i64 (N : Int), .string B, .int .i64 100000] W fun e w' => e = .returned (.tuple #[.string x, .int .i64 0]) ∧ Below W.heap.size W w') ∧
      (∀ W v, Strs W v (List.replicate N S) → Calls Tryd.prog 10 #[v, .string B, .int .i64 100000] W fun e w' => e = .returned (.tuple #[.string x, .int .i64 0]) ∧ Below W.heap.size W w') := by
  have hlr : lists (List.replicate N S) = List.replicate N S.data.toList := by simp [lists]
  have hj : Lib.join (lists (List.replicate N S)) B.data.toList = repL S.data.toList B.data.toList N := by rw [hlr, rep_join]
  have hlen : (repL S.data.toList B.data.toList N).length ≤ 38000 := by
    rw [← hj]
    have h := join_bound (lists (List.replicate N S)) B.data.toList 1000 (by rw [← Lib.size_eq]; exact hB) (lists_le (fun x hx => by rw [(List.mem_replicate.1 hx).2]; exact hS)) N
    rw [join_all _ _ N (by simp)] at h
    omega
  have hb : repB S.data.toList.length B.data.toList.length N 100000 = false := by
    rcases Nat.eq_zero_or_pos N with h | h
    · subst h; exact repB_low (by omega)
    · obtain ⟨m, rfl⟩ : ∃ m, N = m + 1 := ⟨N - 1, by omega⟩
      rw [show (((m + 1 : Nat) : Int)) = (m : Int) + 1 from by omega] at hlen ⊢
      rw [rep_length] at hlen
      rw [repB_is (by omega), show (m : Int) + 1 - 1 = (m : Int) from by omega]
      have e : (m : Int) * ((B.data.toList.length : Int) + S.data.toList.length) = ((m * (B.data.toList.length + S.data.toList.length) : Nat) : Int) := by simp
      rw [e]
      exact decide_eq_false (by omega)
  refine ⟨⟨(repL S.data.toList B.data.toList N).toArray⟩, fun W => ?_, fun W v hv => ?_⟩
  · have h := rep_any S B N 100000 W (by omega) (by omega) (by omega) (by omega)
    rw [(repS_no hb).1, (repS_no hb).2] at h
    exact h
  · have h := join_any v (List.replicate N S) B 100000 W hv (by omega) (by omega) (fun x hx => by rw [(List.mem_replicate.1 hx).2]; omega) (by simp; omega)
    have hn := joi_no (xs := List.replicate N S) (b := B) (most := 100000) (by rw [hj]; omega)
    rw [hn.1, hn.2, hj] at h
    exact h

set_option maxHeartbeats 6000000 in
set_option maxRecDepth 100000 in
theorem back_near (S B : ByteArray) (c n : Int) (w : World) (hM : Mx w) (hS : S.size ≤ 1000) (hB : B.size ≤ 1000) (c0 : 0 ≤ c) (c1 : c ≤ 65535) (n0 : 0 ≤ n) (n1 : n ≤ 255) :
    Calls Tryd.prog 5 #[.agg #[.string S, .int .u16 c, .int .u8 n, .string B]] w fun e w' => e = .returned (.bool true) ∧ Below w.heap.size w w' := by
  have HM := Lib.hid (hM.below (belowA w (.cells #[.string S, .int .u16 c, .int .u8 n, .string B] 40)))
  have HC := Lib.hid (Bak.new w 40 S c n B)
  have g1 : decide (1000 < S.size) = false := decide_eq_false (by omega)
  have g2 : decide (1000 < B.size) = false := decide_eq_false (by omega)
  obtain ⟨k, hk⟩ : ∃ k : Nat, c % ((S.size : Int) + 1) = (k : Int) := ⟨(c % ((S.size : Int) + 1)).toNat, by have := Int.emod_nonneg c (b := (S.size : Int) + 1) (by omega); omega⟩
  have hkS : k ≤ S.size := by have := Int.emod_lt_of_pos c (b := (S.size : Int) + 1) (by omega); omega
  obtain ⟨N, hN⟩ : ∃ N : Nat, n % 20 = (N : Int) := ⟨(n % 20).toNat, by omega⟩
  have hN19 : N ≤ 19 := by omega
  obtain ⟨p1, p2, r, u, d, hcat, hz1, hz2, s1, s2, s3, r1, r2, u1, d1, d2, u2, by1, ch1⟩ := back_calls S k hS hkS
  obtain ⟨x, x1, x2⟩ := back_reps S B N hS hB hN19
  have S1 := Lib.hid s1
  have S2 := Lib.hid s2
  have S3 := Lib.hid s3
  have R1 := Lib.hid r1
  have R2 := Lib.hid r2
  have U1 := Lib.hid u1
  have D1 := Lib.hid d1
  have D2 := Lib.hid d2
  have U2 := Lib.hid u2
  have BY1 := Lib.hid by1
  have CH1 := Lib.hid ch1
  have X1 := Lib.hid x1
  have X2 := Lib.hid x2
  clear hM s1 s2 s3 r1 r2 u1 d1 d2 u2 by1 ch1 x1 x2
  go_enter Tryd.func5, Tryd.ntmps5
  go_wp2_with fail
  refine (alive_any _ HM.out).mono ?_; rintro e w1 ⟨rfl, b1⟩
  obtain ⟨q0, q1, q2, q3⟩ := HC.out.below b1
  have HB := Lib.hid (thenB (belowA w _) b1)
  clear b1
  go_wp2_with fail
  go_quiet (fail)
  clear q0 q1 q2 q3
  have HB1 := Lib.hid (below_draws HB.out nq)
  obtain ⟨wq, hwq⟩ : ∃ wq : World, wq = w1.drewN nq := ⟨_, rfl⟩
  rw [← hwq] at HB1 ⊢
  clear hwq
  go_wp2_with fail
  refine (S1.out _).mono ?_; rintro e w' ⟨rfl, rfl⟩
  go_wp2_with fail
  refine (S2.out _).mono ?_; rintro e w' ⟨rfl, rfl⟩
  go_wp2_with fail
  refine (S3.out _).mono ?_; rintro e w' ⟨rfl, rfl⟩
  go_wp2_with fail
  refine (R1.out _).mono ?_; rintro e w2 ⟨rfl, b2⟩
  have HB2 := Lib.hid (thenB HB1.out b2)
  clear b2
  go_wp2_with fail
  refine (R2.out _).mono ?_; rintro e w3 ⟨rfl, b3⟩
  have HB3 := Lib.hid (thenB HB2.out b3)
  clear b3
  go_wp2_with fail
  refine (U1.out _).mono ?_; rintro e w4 ⟨rfl, b4⟩
  have HB4 := Lib.hid (thenB HB3.out b4)
  clear b4
  go_wp2_with fail
  refine (D2.out _).mono ?_; rintro e w5 ⟨rfl, b5⟩
  have HB5 := Lib.hid (thenB HB4.out b5)
  clear b5
  go_wp2_with fail
  refine (D1.out _).mono ?_; rintro e w6 ⟨rfl, b6⟩
  have HB6 := Lib.hid (thenB HB5.out b6)
  clear b6
  go_wp2_with fail
  refine (D1.out _).mono ?_; rintro e w7 ⟨rfl, b7⟩
  have HB7 := Lib.hid (thenB HB6.out b7)
  clear b7
  go_wp2_with fail
  refine (U2.out _).mono ?_; rintro e w8 ⟨rfl, b8⟩
  have HB8 := Lib.hid (thenB HB7.out b8)
  clear b8
  go_wp2_with fail
  refine (U1.out _).mono ?_; rintro e w9 ⟨rfl, b9⟩
  have HB9 := Lib.hid (thenB HB8.out b9)
  clear b9
  go_wp2_with fail
  refine (BY1.out _).mono ?_; rintro e w10 ⟨v, rfl, hv, b10⟩
  have HB10 := Lib.hid (thenB HB9.out b10)
  have HV := Lib.hid hv
  clear b10 hv
  go_wp2_with fail
  refine (CH1.out _ _ HV.out).mono ?_; rintro e w11 ⟨rfl, b11⟩
  have HB11 := Lib.hid (thenB HB10.out b11)
  clear b11
  go_wp2_with fail
  rw [hN]
  clear hN hk
  go_loopw [10, 97] (fun l i wr => ∃ m : Nat, m ≤ N ∧ i = .int .u8 m ∧ SRow wr w11.heap.size l (List.replicate m S) ∧ Below w11.heap.size w11 wr) (fun _ i _ => N - (intOf i).toNat)
  case atStart => exact ⟨0, Nat.zero_le _, rfl, SRow.nil _ _, below2 _ _⟩
  case round =>
    obtain ⟨m, hm, rfl, hrow, hbl⟩ := hrel
    have HR := Lib.hid hrow
    have HBL := Lib.hid hbl
    have hsz := hbl.size
    by_cases hlt : m < N
    · clear hrow hbl
      go_wp2_with (at_builtin; refine at_add _ S rfl _ _ rfl w11.heap.size _ _ rfl HR.out rfl (by simp; omega) hsz ?_; intro v2 w2 hr2 hb2)
      go_roundw
      case rel => exact ⟨m + 1, by omega, by go_num, by rw [List.replicate_succ']; exact hr2, HBL.out.trans hb2⟩
      case measure => simp [intOf]; omega
    · have hmN : m = N := by omega
      obtain ⟨A, cA, hform⟩ := hrow.form
      rw [List.length_replicate] at hform
      subst hform
      have hst := hrow.strs
      rw [hmN] at hst ⊢
      have HST := Lib.hid hst
      have HB12 := Lib.hid (thenB HB11.out hbl)
      clear hrow hbl hst hmN HR HBL
      go_wp2_with fail
      refine (X1.out _).mono ?_; rintro e w13 ⟨rfl, b13⟩
      have HB13 := Lib.hid (thenB HB12.out b13)
      have HST13 := Lib.hid (HST.out.below b13)
      clear b13
      go_wp2_with fail
      refine (X2.out _ _ HST13.out).mono ?_; rintro e w14 ⟨rfl, b14⟩
      have HB14 := Lib.hid (thenB HB13.out b14)
      clear b14
      go_wp2_with fail
      go_ret
      exact ⟨rfl, HB14.out⟩
theorem back_any (S : ByteArray) (c n : Int) (B : ByteArray) (w : World) (hM : Mx w) (hc : (Lit.int .u16 c).wf = true) (hn : (Lit.int .u8 n).wf = true) :
    Calls Tryd.prog 5 #[.agg #[.string S, .int .u16 c, .int .u8 n, .string B]] w fun e w' => e = .returned (.bool true) ∧ Below w.heap.size w w' := by
  have hc' : (decide (IntKind.u16.min ≤ c) && decide (c ≤ IntKind.u16.max)) = true := hc
  have hn' : (decide (IntKind.u8.min ≤ n) && decide (n ≤ IntKind.u8.max)) = true := hn
  simp only [Bool.and_eq_true, decide_eq_true_eq] at hc' hn'
  by_cases h : 1000 < S.size ∨ 1000 < B.size
  · exact back_far S B c n w hM h
  · exact back_near S B c n w hM (by omega) (by omega) hc'.1 hc'.2 hn'.1 hn'.2
end Go.Proofs.YtnpmnielknmboaaDoor
