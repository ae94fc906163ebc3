/- The document's Sub, Bytes, Chars, Upper, Lower and Reverse, and the law's comparison of numbers: plain functions of lists. -/
import Derived.Test.YtnpmnielknmboaaGreatDoorSChar
import Derived.Deep.QuietTactic
namespace Go.Proofs.YtnpmnielknmboaaGreatDoor
open Go.RowKit Go.Sort

theorem take_eq {k a b : Nat} {l : List UInt8} (h : a = b) : (⟨(List.drop k (List.take a l)).toArray⟩ : ByteArray) = ⟨(List.drop k (List.take b l)).toArray⟩ := by rw [h]
set_option maxHeartbeats 1000000 in
theorem rsub_any (s : ByteArray) (i j : Int) (w : World) (hs : s.size ≤ 140737488355328) (h0 : -9223372036854775808 ≤ i) (h1 : i ≤ 9223372036854775807) (g0 : -9223372036854775808 ≤ j) (g1 : j ≤ 9223372036854775807) :
    Calls Tryz.prog 8 #[.string s, .int .i64 i, .int .i64 j] w fun e w' => e = .returned (.string ⟨(subL s.data.toList i j).toArray⟩) ∧ w = w' := by
  have hf := fst_ge i s.size
  have hl := lst_le j s.size
  obtain ⟨p, hp⟩ : ∃ p : Int, p = fstP i s.size := ⟨_, rfl⟩
  have HFi := Lib.hid (fun W => hp ▸ rfirst_any i s.size W h0 h1 hs)
  rw [← hp] at hf
  have HP := Lib.hid hp
  have hsn := sub_none (l := s.data.toList) (i := i) (j := j)
  have hss := sub_some (l := s.data.toList) (i := i) (j := j)
  rw [← Lib.size_eq, ← hp] at hsn hss
  have hlu : Hid (lstP j s.size = min (if j < 0 then j + s.size + 1 else j) s.size) := Lib.hid rfl
  clear hp hl
  by_cases hc : lstP j s.size < p
  · have HN := Lib.hid (hsn hc)
    have HC := Lib.hid hc
    clear hsn hss hc
    rcases Int.lt_or_le j 0 with hj | hj
    all_goals
      go_enter Tryz.func8, Tryz.ntmps8
      go_wp2_with (go_at_call 24; refine (HFi.out _).mono ?_; rintro e w' ⟨rfl, rfl⟩)
      all_goals
        go_ret
        refine ⟨ret_str ?_, rfl⟩
        first
          | (rw [HN.out]; done)
          | (exfalso; have h1 := HC.out; rw [hlu.out] at h1; split at h1 <;> omega)
  · have HS := Lib.hid (hss hc)
    have HC : Hid (p ≤ lstP j s.size) := Lib.hid (Int.not_lt.1 hc)
    clear hsn hss hc
    rcases Int.lt_or_le j 0 with hj | hj
    all_goals
      go_enter Tryz.func8, Tryz.ntmps8
      go_wp2_with (go_at_call 24; refine (HFi.out _).mono ?_; rintro e w' ⟨rfl, rfl⟩)
      all_goals
        go_ret
        refine ⟨ret_str ?_, rfl⟩
        have h1 := HC.out
        rw [hlu.out] at h1
        first
          | (exfalso; split at h1 <;> omega)
          | (rw [HS.out, slice_mid, show p.toNat - 1 = (p - 1).toNat from by omega]
             refine take_eq ?_
             rw [hlu.out]
             split <;> omega)

/-- append(b, c): one byte. -/
theorem at_one {ops : Array Oper} {rest : List Oper} {o : Oper} {a : Act} {Q : Exit → Act → World → Prop} (w : World) (c : UInt8) (v8 : Int) (hc8 : v8 = (c.toNat : Int)) (hgd : o.guard = none) (sl y : Operand)
    (ho : o.op = .call { callee := .builtin .append, args := #[sl, y], argTypes := #[44, 44] }) (B : Nat) (v : Value) (l : List UInt8) (hs : a.eval sl = v) (hown : BBuf w B v l) (hy : a.eval y = .slice (some ⟨w.heap.size, 0, none⟩) 1 1)
    (hlen : l.length ≤ 1000000) (hB : B ≤ w.heap.size)
    (h : ∀ v' w', BBuf w' B v' (l ++ [c]) → Below B w w' → wpList Tryz.prog ops Q rest (a.put o.dst v') w') : wpList Tryz.prog ops Q (o :: rest) a (w.alloc (.cells #[.int .u8 v8] 5)) := by
  subst hc8
  obtain ⟨i0, hi0, hz0, hz1, hz2⟩ := info_parts info5
  have hc := cell_of_row (w.alloc (.cells #[.int .u8 (c.toNat : Int)] 5)) w.heap.size 0 _ 5 (0, 0) (heap_alloc_new w _)
  refine wpList_append_own (P := Tryz.prog) _ hgd sl y 44 ho B 5 i0 (.int .u8 0) 1 1 Tryz.underlying44 hi0 hz0 hz1 hz2 rfl (by omega) v l.length (bcells l) hs (hown.alloc _) ⟨w.heap.size, 0, none⟩ 1 1 [.int .u8 (c.toNat : Int)] hy rfl
    (fun j u hj => by
      cases j with
      | zero => obtain rfl := Option.some.inj hj; exact hc
      | succ j => simp at hj) (fun u hu => by obtain rfl := List.mem_singleton.1 hu; rfl) (by unfold maxLen; omega) (by omega) (by simp; omega) ?_
  intro v' w' h1 h2 _
  refine h v' w' ?_ (((Below.refl _ _).alloc hB _).grown h2 (by simp; omega) (own_row hown))
  unfold BBuf
  rw [List.length_append, bcells_app]
  exact h1
/-- A slice of numbers of the call's own. -/
def NRow (W : World) (B : Nat) (v : Value) (zs : List Int) : Prop := W.ownsRow B 2 1 v zs.length (zs.map (Value.int .i64))
theorem NRow.nil (W : World) (B : Nat) : NRow W B (.slice none 0 0) [] := World.ownsRow_nil W B 2 1
theorem NRow.nums {W : World} {B : Nat} {v : Value} {zs : List Int} (h : NRow W B v zs) : Nums W v zs := by
  have hh := h
  rcases h.2 with ⟨rfl, h0⟩ | ⟨g, cap, cur, rfl, _, _, hc, _⟩
  · exact .inl ⟨none, 0, rfl, List.eq_nil_of_length_eq_zero h0⟩
  · rcases Nat.eq_zero_or_pos zs.length with h0 | h0
    · exact .inl ⟨_, _, by rw [h0], List.eq_nil_of_length_eq_zero h0⟩
    · refine .inr ⟨g, 0, cap, rfl, h0, (hh.lt g rfl).2, fun j x hj => ?_⟩
      have hj' : j < zs.length := (List.getElem?_eq_some_iff.1 hj).1
      rw [Nat.zero_add, hh.cellAt j (by omega), List.getElem?_map, hj]
      rfl
theorem at_num {ops : Array Oper} {rest : List Oper} {o : Oper} {a : Act} {Q : Exit → Act → World → Prop} (w : World) (z : Int) (hgd : o.guard = none) (sl y : Operand)
    (ho : o.op = .call { callee := .builtin .append, args := #[sl, y], argTypes := #[24, 24] }) (B : Nat) (v : Value) (zs : List Int) (hs : a.eval sl = v) (hown : NRow w B v zs) (hy : a.eval y = .slice (some ⟨w.heap.size, 0, none⟩) 1 1)
    (hlen : zs.length ≤ 1000000) (hB : B ≤ w.heap.size)
    (h : ∀ v' w', NRow w' B v' (zs ++ [z]) → Below B w w' → wpList Tryz.prog ops Q rest (a.put o.dst v') w') : wpList Tryz.prog ops Q (o :: rest) a (w.alloc (.cells #[.int .i64 z] 2)) := by
  obtain ⟨i0, hi0, hz0, hz1, hz2⟩ := info_parts info2
  have hc := cell_of_row (w.alloc (.cells #[.int .i64 z] 2)) w.heap.size 0 _ 2 (0, 0) (heap_alloc_new w _)
  refine wpList_append_own (P := Tryz.prog) _ hgd sl y 24 ho B 2 i0 (.int .i64 0) 1 8 Tryz.underlying24 hi0 hz0 hz1 hz2 rfl (by omega) v zs.length (zs.map (Value.int .i64)) hs (hown.alloc _) ⟨w.heap.size, 0, none⟩ 1 1 [.int .i64 z] hy rfl
    (fun j u hj => by
      cases j with
      | zero => obtain rfl := Option.some.inj hj; exact hc
      | succ j => simp at hj) (fun u hu => by obtain rfl := List.mem_singleton.1 hu; rfl) (by unfold maxLen; omega) (by omega) (by simp; omega) ?_
  intro v' w' h1 h2 _
  refine h v' w' ?_ (((Below.refl _ _).alloc hB _).grown h2 (by simp; omega) (own_row hown))
  unfold NRow
  rw [List.length_append, List.map_append]
  exact h1

theorem take_more (l : List UInt8) (k : Nat) (h : k < l.length) : l.take (k + 1) = l.take k ++ [l[k]] := List.take_succ_eq_append_getElem h

set_option maxHeartbeats 2000000 in
theorem rbytes_any (s : ByteArray) (i j : Int) (w : World) (hs : s.size ≤ 1000000) (h0 : -9223372036854775808 ≤ i) (h1 : i ≤ 9223372036854775807) (g0 : -9223372036854775808 ≤ j) (g1 : j ≤ 9223372036854775807) :
    Calls Tryz.prog 11 #[.string s, .int .i64 i, .int .i64 j] w (BytesOf (subL s.data.toList i j) w) := by
  obtain ⟨p, hp⟩ : ∃ p : ByteArray, p = ⟨(subL s.data.toList i j).toArray⟩ := ⟨_, rfl⟩
  have HSub := Lib.hid (fun W => hp ▸ rsub_any s i j W (by omega) h0 h1 g0 g1)
  have hpl : p.data.toList = subL s.data.toList i j := by rw [hp]
  have hps : p.size ≤ 1000000 := by
    rw [Lib.size_eq, hpl]
    have := sub_len s.data.toList i j
    rw [← Lib.size_eq] at this
    omega
  rw [← hpl]
  clear hp hpl
  go_enter Tryz.func11, Tryz.ntmps11
  go_wp2_with fail
  refine (HSub.out _).mono ?_; rintro e w' ⟨rfl, rfl⟩
  go_wp2_with fail
  go_loopw [7, 9] (fun o i wr => ∃ k : Nat, k ≤ p.size ∧ i = .int .i64 k ∧ NRow wr w.heap.size o (nums (p.data.toList.take k)) ∧ Below w.heap.size w wr) (fun _ i _ => p.size - (intOf i).toNat)
  case atStart => exact ⟨0, Nat.zero_le _, rfl, NRow.nil _ _, below2 _ _⟩
  case round =>
    obtain ⟨k, hk, rfl, hrow, hbl⟩ := hrel
    have HR := Lib.hid hrow
    have HBL := Lib.hid hbl
    have hsz := hbl.size
    by_cases hlt : k < p.size
    · have hl : k < p.data.toList.length := by rw [← Lib.size_eq]; exact hlt
      have HT : Hid (nums (p.data.toList.take (k + 1)) = nums (p.data.toList.take k) ++ [(p[k].toNat : Int)]) := Lib.hid (by rw [take_more _ _ hl]; simp [nums]; rfl)
      have hnl : (nums (p.data.toList.take k)).length ≤ 1000000 := by unfold nums; rw [List.length_map, List.length_take]; omega
      have hle : p[k].toNat ≤ 255 := by have := p[k].toNat_lt; omega
      clear hrow hbl
      go_wp2_with (at_builtin; refine at_num _ (p[k].toNat : Int) rfl _ _ rfl w.heap.size _ _ rfl HR.out rfl hnl hsz ?_; intro v2 w2 hr2 hb2)
      go_roundw
      case rel => exact ⟨k + 1, by omega, by go_num, by rw [HT.out]; exact hr2, HBL.out.trans hb2⟩
      case measure => simp [intOf]; omega
    · have hall : p.data.toList.take k = p.data.toList := List.take_of_length_le (by rw [← Lib.size_eq]; omega)
      rw [hall] at hrow
      have HN := Lib.hid hrow.nums
      clear hrow hbl hall
      go_wp2_with fail
      go_ret
      exact ⟨_, rfl, HN.out, HBL.out⟩
end Go.Proofs.YtnpmnielknmboaaGreatDoor
