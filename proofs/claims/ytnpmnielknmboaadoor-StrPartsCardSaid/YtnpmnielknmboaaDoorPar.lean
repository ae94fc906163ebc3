/- Strings put one behind the other by a format of s-signs: the format, the values, and what comes out. -/
import Derived.Test.YtnpmnielknmboaaDoorLive
namespace Go.Proofs.YtnpmnielknmboaaDoor
open Go.RowKit Go.Sort

/-- So many s-signs. -/
def pct : Nat → List UInt8
  | 0 => []
  | m + 1 => 37 :: 115 :: pct m
theorem pct_len : ∀ m, (pct m).length = 2 * m
  | 0 => rfl
  | m + 1 => by simp only [pct, List.length_cons, pct_len m]; omega
theorem pct_snoc : ∀ m, pct (m + 1) = pct m ++ [37, 115]
  | 0 => rfl
  | m + 1 => by
    show 37 :: 115 :: pct (m + 1) = 37 :: 115 :: (pct m ++ [37, 115])
    rw [pct_snoc m]
/-- The first k strings with another one between, as a list. -/
def inter (xs : List ByteArray) (b : ByteArray) : Nat → List ByteArray
  | 0 => []
  | k + 1 => inter xs b k ++ (if k = 0 then [] else [b]) ++ (xs[k]?).toList
theorem inter_next {xs : List ByteArray} {b : ByteArray} {k : Nat} {x : ByteArray} (h : xs[k]? = some x) : inter xs b (k + 1) = inter xs b k ++ (if k = 0 then [] else [b]) ++ [x] := by
  rw [inter, h]; rfl
theorem inter_len (xs : List ByteArray) (b : ByteArray) : ∀ k, (inter xs b k).length ≤ 2 * k
  | 0 => by simp [inter]
  | k + 1 => by
    rw [inter, List.length_append, List.length_append]
    have := inter_len xs b k
    have h1 : (if k = 0 then [] else [b]).length ≤ 1 := by split <;> simp
    have h2 : (xs[k]?).toList.length ≤ 1 := by cases xs[k]? <;> simp
    omega
theorem inter_join (xs : List ByteArray) (b : ByteArray) : ∀ k, k ≤ xs.length → (lists (inter xs b k)).flatten = Lib.join ((lists xs).take k) b.data.toList
  | 0, _ => rfl
  | k + 1, h => by
    have hx : xs[k]? = some xs[k] := List.getElem?_eq_getElem h
    rw [inter_next hx, join_next _ _ _ _ (lists_at hx), ← inter_join xs b k (by omega)]
    unfold lists
    by_cases e : k = 0 <;> simp [e]

/-- A value's cells: a Str. -/
def vcells (ys : List ByteArray) : List Value := ys.flatMap fun y => [.int .i64 3, .int .i64 0, .string y]
theorem vcells_len (ys : List ByteArray) : (vcells ys).length = ys.length * 3 := by
  induction ys with
  | nil => rfl
  | cons y r ih => simp only [vcells, List.flatMap_cons, List.length_append, List.length_cons, List.length_nil] at ih ⊢; omega
theorem vcells_app (a b : List ByteArray) : vcells (a ++ b) = vcells a ++ vcells b := by simp [vcells]
theorem vcells_at : ∀ (ys : List ByteArray) (t : Nat) (y : ByteArray), ys[t]? = some y → (vcells ys)[t * 3]? = some (.int .i64 3) ∧ (vcells ys)[t * 3 + 1]? = some (.int .i64 0) ∧ (vcells ys)[t * 3 + 2]? = some (.string y)
  | [], _, _, h => by simp at h
  | z :: r, 0, y, h => by
    obtain rfl := Option.some.inj h
    exact ⟨rfl, rfl, rfl⟩
  | z :: r, t + 1, y, h => by
    have ih := vcells_at r t y (by simpa using h)
    have e : ∀ j, (vcells (z :: r))[j + 3]? = (vcells r)[j]? := fun j => rfl
    rw [show (t + 1) * 3 = t * 3 + 3 from by omega, show t * 3 + 3 + 1 = t * 3 + 1 + 3 from by omega, show t * 3 + 3 + 2 = t * 3 + 2 + 3 from by omega, e, e, e]
    exact ih

/-- The pieces of such a format. -/
def psteps : List ByteArray → List (ByteArray × ByteArray × Nat)
  | [] => []
  | y :: r => (y, ⟨(pct r.length).toArray⟩, 1) :: psteps r
theorem psteps_outs : ∀ ys, outs (psteps ys) = (lists ys).flatten
  | [] => rfl
  | y :: r => by
    have ih := psteps_outs r
    unfold outs lists at ih ⊢
    simp only [psteps, List.flatMap_cons, List.map_cons, List.flatten_cons, ih]
theorem psteps_takes : ∀ ys, takes (psteps ys) = ys.length
  | [] => rfl
  | y :: r => by
    have ih := psteps_takes r
    unfold takes at ih ⊢
    simp only [psteps, List.map_cons, List.sum_cons, List.length_cons, ih]
    omega

theorem pct_steps (W : World) (g c : Nat) (all : List ByteArray) (hg : g < W.heap.size) (hc : all.length ≤ c) (hl : all.length ≤ 1000)
    (hcell : ∀ (t : Nat) y, all[t]? = some y → W.cell? ⟨g, t * 3, none⟩ = some (.int .i64 3) ∧ W.cell? ⟨g, t * 3 + 1, none⟩ = some (.int .i64 0) ∧ W.cell? ⟨g, t * 3 + 2, none⟩ = some (.string y)) :
    ∀ (ys : List ByteArray) (t : Nat), all.drop t = ys → t ≤ all.length → Steps W g 0 all.length c ⟨(pct ys.length).toArray⟩ t (psteps ys)
  | [], _, _, _ => rfl
  | y :: r, t, hd, ht => by
    have hy : all[t]? = some y := by
      have h := congrArg (fun l => l[0]?) hd
      simpa using h
    have hlt : t < all.length := (List.getElem?_eq_some_iff.1 hy).1
    have hr : all.drop (t + 1) = r := by
      rw [← List.drop_drop, hd]
      rfl
    have hrl : r.length ≤ 1000 := by rw [← hr, List.length_drop]; omega
    have hsz : (⟨(pct (y :: r).length).toArray⟩ : ByteArray).size = 2 * r.length + 2 := by
      rw [Lib.size_mk, pct_len, List.length_cons]; omega
    refine ⟨by rw [hsz]; omega, fun w hw => ⟨fun _ => ?_, fun h => absurd h (by omega)⟩, pct_steps W g c all hg hc hl hcell r (t + 1) hr hlt⟩
    obtain ⟨c0, c1, c2⟩ := hcell t y hy
    have hn := next_s ⟨(pct (y :: r).length).toArray⟩ g (0 + t * 3) (all.length - t) (c - t) 3 0 y y w (by rw [hsz]; omega) (by rw [hsz]; omega) rfl rfl (by omega) (put_str 0 y)
      ((hw.cell (p := ⟨g, 0 + t * 3, none⟩) hg).trans (by rw [Nat.zero_add]; exact c0)) ((hw.cell (p := ⟨g, 0 + t * 3 + 1, none⟩) hg).trans (by rw [Nat.zero_add]; exact c1)) ((hw.cell (p := ⟨g, 0 + t * 3 + 2, none⟩) hg).trans (by rw [Nat.zero_add]; exact c2))
    have he : (⟨(pct (y :: r).length).toArray⟩ : ByteArray).extract 2 (⟨(pct (y :: r).length).toArray⟩ : ByteArray).size = ⟨(pct r.length).toArray⟩ := by
      rw [slice_end, mk_list]; rfl
    rw [he] at hn
    exact hn

set_option maxHeartbeats 1000000 in
theorem fmt_none (v : Value) (most : Int) (w : World) (hm : most ≤ 2147483647) :
    Calls Tryd.prog 20 #[.string ⟨#[]⟩, v, .int .i64 most] w fun e w' => e = .returned (.tuple #[.string ⟨#[]⟩, .int .i64 0, .int .i64 0]) ∧ Below w.heap.size w w' := by
  have hcv := buf_string (BBuf.nil w 0)
  go_enter Tryd.func20, Tryd.ntmps20
  go_wp2_with (go_at_call 21; refine (bound_any most _ hm).mono ?_; rintro e w' ⟨rfl, rfl⟩)
  go_loop [0, 9, 10] (fun f o t => f = .string ⟨#[]⟩ ∧ o = .slice none 0 0 ∧ t = .int .i64 0) (fun _ _ _ => 0)
  case atStart => exact ⟨rfl, rfl, rfl⟩
  case round =>
    obtain ⟨rfl, rfl, rfl⟩ := hrel
    go_wp2
    go_ret3
    exact ⟨rfl, below2 _ _⟩

/-- A slice of Str values of the call's own. -/
def VRow (W : World) (B : Nat) (v : Value) (ys : List ByteArray) : Prop := W.ownsRow B 48 3 v ys.length (vcells ys)
theorem VRow.nil (W : World) (B : Nat) : VRow W B (.slice none 0 0) [] := World.ownsRow_nil W B 48 3
theorem VRow.form {W : World} {B : Nat} {v : Value} {ys : List ByteArray} (h : VRow W B v ys) : ∃ A c, v = .slice A ys.length c := by
  rcases h.2 with ⟨rfl, h0⟩ | ⟨g, cap, _, rfl, _⟩
  · exact ⟨none, 0, by rw [h0]⟩
  · exact ⟨_, _, rfl⟩
theorem info48 : (Tryd.prog.info? 48).map (fun i => (i.zero, i.size, i.bytes)) = some (some (.agg #[.int .i64 0, .int .i64 0, .string ⟨#[]⟩]), 3, 32) := by kernel_rfl
/-- append(l, v): one value more. -/
theorem at_addv {ops : Array Oper} {rest : List Oper} {o : Oper} {a : Act} {Q : Exit → Act → World → Prop} (w : World) (x : ByteArray) (hgd : o.guard = none) (sl y : Operand)
    (ho : o.op = .call { callee := .builtin .append, args := #[sl, y], argTypes := #[46, 46] }) (B : Nat) (v : Value) (ys : List ByteArray) (hs : a.eval sl = v) (hown : VRow w B v ys) (hy : a.eval y = .slice (some ⟨w.heap.size, 0, none⟩) 1 1)
    (hlen : ys.length ≤ 1000) (hB : B ≤ w.heap.size)
    (h : ∀ v' w', VRow w' B v' (ys ++ [x]) → Below B w w' → wpList Tryd.prog ops Q rest (a.put o.dst v') w') : wpList Tryd.prog ops Q (o :: rest) a (w.alloc (.cells #[.int .i64 3, .int .i64 0, .string x] 48)) := by
  obtain ⟨i0, hi0, hz0, hz1, hz2⟩ := info_parts info48
  have hc := fun j => cell_of_row (w.alloc (.cells #[.int .i64 3, .int .i64 0, .string x] 48)) w.heap.size j _ 48 (0, 0) (heap_alloc_new w _)
  have hpl : ∀ j : Nat, (⟨w.heap.size, 0, none⟩ : Addr).add j = ⟨w.heap.size, j, none⟩ := fun j => by unfold Addr.add; split <;> simp_all
  refine wpList_append_own (P := Tryd.prog) _ hgd sl y 46 ho B 48 i0 (.agg #[.int .i64 0, .int .i64 0, .string ⟨#[]⟩]) 3 32 Tryd.underlying46 hi0 hz0 hz1 hz2 rfl (by omega) v ys.length (vcells ys) hs (hown.alloc _) ⟨w.heap.size, 0, none⟩ 1 1 [.int .i64 3, .int .i64 0, .string x] hy rfl
    (fun j u hj => by
      rw [hpl, hc j]
      match j, hj with
      | 0, hj => exact hj
      | 1, hj => exact hj
      | 2, hj => exact hj
      | j + 3, hj => simp at hj) (fun u hu => by
        rcases List.mem_cons.1 hu with rfl | hu
        · rfl
        · rcases List.mem_cons.1 hu with rfl | hu
          · rfl
          · obtain rfl := List.mem_singleton.1 hu
            rfl) (by unfold maxLen; omega) (by omega) (by simp; omega) ?_
  intro v' w' h1 h2 _
  refine h v' w' ?_ (((Below.refl _ _).alloc hB _).grown h2 (by simp; omega) (fun k hk => (hown.lt k hk).1))
  unfold VRow
  rw [List.length_append, vcells_app]
  exact h1
/-- Format of such values. -/
theorem fmt_row {W : World} {B : Nat} {v : Value} {ys : List ByteArray} (most : Int) (h : VRow W B v ys) (hm : most ≤ 2147483647) (hl : ys.length ≤ 1000) (hlen : ((lists ys).flatten.length : Int) ≤ max 0 most) (hll : (lists ys).flatten.length ≤ 500000) :
    Calls Tryd.prog 20 #[.string ⟨(pct ys.length).toArray⟩, v, .int .i64 most] W fun e w' => e = .returned (.tuple #[.string ⟨(lists ys).flatten.toArray⟩, .int .i64 (ys.length : Int), .int .i64 0]) ∧ Below W.heap.size W w' := by
  rcases Nat.eq_zero_or_pos ys.length with h0 | h0
  · obtain rfl : ys = [] := List.eq_nil_of_length_eq_zero h0
    exact fmt_none v most W hm
  · have hh := h
    rcases h.2 with ⟨rfl, h1⟩ | ⟨g, cap, cur, rfl, _, _, hcp, hcm, _⟩
    · omega
    · have hst := pct_steps W g cap ys (hh.lt g rfl).2 hcp hl (fun t y hy => by
        have ht : t < ys.length := (List.getElem?_eq_some_iff.1 hy).1
        have hv := vcells_at ys t y hy
        rw [hh.cellAt (t * 3) (by omega), hh.cellAt (t * 3 + 1) (by omega), hh.cellAt (t * 3 + 2) (by omega)]
        exact hv) ys 0 rfl (Nat.zero_le _)
      have hf := fmt_any ⟨(pct ys.length).toArray⟩ g 0 ys.length cap (psteps ys) most W hcp hcm hm hst (by rw [psteps_outs]; exact hlen) (by rw [psteps_outs]; exact hll) (by rw [psteps_takes]; exact Nat.le_refl _)
      rw [psteps_outs, psteps_takes] at hf
      exact hf
end Go.Proofs.YtnpmnielknmboaaDoor
