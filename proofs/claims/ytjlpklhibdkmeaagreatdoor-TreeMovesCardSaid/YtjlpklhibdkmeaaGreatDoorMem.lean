/- Trees in memory: slices of numbers, of strings, of nodes; rows of the call's own. -/
import Derived.Test.YtjlpklhibdkmeaaGreatDoorTrP
import Derived.Test.YtjlpklhibdkmeaaGreatDoorProg
import Derived.WalkKit
import Derived.WalkSpells
import Derived.Lib.QuietBelow
import Derived.BigQuiet
import Derived.IntWalk
import Derived.WalkLawsBesides
import Derived.Deep.RegionWith
import Derived.Deep.LoopGhost
import Derived.Deep.QuietTactic
import Derived.Lib.Hide
import Derived.Lib.AppendStr
import Derived.Laws.IdiomStrings
import Derived.Laws.OwnMore
import Derived.Laws.Append
import Derived.Laws.MakeOwn
import Derived.OwnWalk
import Derived.OneCell
import Derived.Below
namespace Go.Proofs.YtjlpklhibdkmeaaGreatDoor
open Go.RowKit

theorem below2 (B : Nat) (w : World) : Below B w w := Below.refl _ _
theorem thenB {a b c : World} (h : Below a.heap.size a b) (k : Below b.heap.size b c) : Below a.heap.size a c := h.trans (k.mono h.size)
theorem thenB' {B : Nat} {a b c : World} (h : Below B a b) (hB : B ≤ a.heap.size) (k : Below b.heap.size b c) : Below B a c := h.trans (k.mono (Nat.le_trans hB h.size))
theorem own_row {W : World} {B e n s : Nat} {v : Value} {xs : List Value} (h : W.ownsRow B e s v n xs) : ∀ k, v.ownBlock = some k → B ≤ k := fun k hk => (h.lt k hk).1

theorem asize (w : World) (o : Obj) : (w.alloc o).heap.size = w.heap.size + 1 := by simp
theorem acell (w : World) (cs : Array Value) (t : TypeId) (j : Nat) : (w.alloc (.cells cs t)).cell? ⟨w.heap.size, j, none⟩ = cs[j]? := cell_of_row (w.alloc (.cells cs t)) w.heap.size j _ t (0, 0) (heap_alloc_new w _)
/-- Cells of a block, none frozen. -/
def Fam (W : World) (b n : Nat) (f : Nat → Value) : Prop := ∀ j, j < n → W.cell? ⟨b, j, none⟩ = some (f j) ∧ W.frozen? ⟨b, j, none⟩ = false
theorem Fam.eq_ {W : World} {b n : Nat} {f g : Nat → Value} (h : Fam W b n f) (he : ∀ j, j < n → f j = g j) : Fam W b n g := fun j hj => by rw [← he j hj]; exact h j hj
theorem Fam.set_ {W : World} {b n k : Nat} {f : Nat → Value} (h : Fam W b n f) (hk : k < n) (u : Value) : Fam (W.setCell ⟨b, k, none⟩ u) b n (fun j => if j = k then u else f j) := by
  intro j hj
  rw [World.frozen?_setCell]
  show _ = some (if j = k then u else f j) ∧ _
  by_cases e : j = k
  · subst e
    rw [if_pos rfl]
    exact ⟨World.cell?_setCell_same W _ _ (h j hj).1, (h j hj).2⟩
  · rw [if_neg e, World.cell?_setCell_other W _ _ _ (by intro e'; injection e' with _ e2 _; omega)]
    exact h j hj
theorem Fam.below {W W' : World} {B b n : Nat} {f : Nat → Value} (h : Fam W b n f) (hb : Below B W W') (hB : b < B) : Fam W' b n f := fun j hj => by
  rw [hb.cell (p := ⟨b, j, none⟩) hB, hb.frozen (p := ⟨b, j, none⟩) hB]
  exact h j hj

/-- A slice of numbers that reads as zs. -/
def Nums (W : World) (v : Value) (zs : List Int) : Prop :=
  ∃ A c, v = .slice A zs.length c ∧ zs.length ≤ c ∧ (zs = [] ∨ ∃ bk o, A = some ⟨bk, o, none⟩ ∧ bk < W.heap.size ∧ ∀ (j : Nat) z, zs[j]? = some z → W.cell? ⟨bk, o + j, none⟩ = some (.int .i64 z))
theorem Nums.below {W W' : World} {v : Value} {zs : List Int} (h : Nums W v zs) (hb : Below W.heap.size W W') : Nums W' v zs := by
  obtain ⟨A, c, rfl, hc, h | ⟨bk, o, rfl, hbk, hx⟩⟩ := h
  · exact ⟨A, c, rfl, hc, .inl h⟩
  · exact ⟨_, c, rfl, hc, .inr ⟨bk, o, rfl, Nat.lt_of_lt_of_le hbk hb.size, fun j x hj => (hb.cell (p := ⟨bk, o + j, none⟩) hbk).trans (hx j x hj)⟩⟩
/-- A slice of strings that reads as xs. -/
def Strs (W : World) (v : Value) (xs : List ByteArray) : Prop :=
  ∃ A c, v = .slice A xs.length c ∧ xs.length ≤ c ∧ (xs = [] ∨ ∃ bk o, A = some ⟨bk, o, none⟩ ∧ bk < W.heap.size ∧ ∀ (j : Nat) x, xs[j]? = some x → W.cell? ⟨bk, o + j, none⟩ = some (.string x))
theorem Strs.below {W W' : World} {v : Value} {xs : List ByteArray} (h : Strs W v xs) (hb : Below W.heap.size W W') : Strs W' v xs := by
  obtain ⟨A, c, rfl, hc, h | ⟨bk, o, rfl, hbk, hx⟩⟩ := h
  · exact ⟨A, c, rfl, hc, .inl h⟩
  · exact ⟨_, c, rfl, hc, .inr ⟨bk, o, rfl, Nat.lt_of_lt_of_le hbk hb.size, fun j x hj => (hb.cell (p := ⟨bk, o + j, none⟩) hbk).trans (hx j x hj)⟩⟩
/-- A node by value. -/
def nodeV (x : Nd) (nv kv : Value) : Value := .agg #[.int .i64 x.kind, .int .i64 x.line, .int .i64 x.op, .int .i64 x.num, .string x.s, nv, kv]
/-- Seven cells hold a node. -/
structure NodeAt (W : World) (b p : Nat) (x : Nd) (nv kv : Value) : Prop where
  c0 : W.cell? ⟨b, p, none⟩ = some (.int .i64 x.kind)
  c1 : W.cell? ⟨b, p + 1, none⟩ = some (.int .i64 x.line)
  c2 : W.cell? ⟨b, p + 2, none⟩ = some (.int .i64 x.op)
  c3 : W.cell? ⟨b, p + 3, none⟩ = some (.int .i64 x.num)
  c4 : W.cell? ⟨b, p + 4, none⟩ = some (.string x.s)
  c5 : W.cell? ⟨b, p + 5, none⟩ = some nv
  c6 : W.cell? ⟨b, p + 6, none⟩ = some kv
theorem NodeAt.below {W W' : World} {B b p : Nat} {x : Nd} {nv kv : Value} (h : NodeAt W b p x nv kv) (hb : Below B W W') (hB : b < B) : NodeAt W' b p x nv kv :=
  ⟨(hb.cell (p := ⟨b, _, none⟩) hB).trans h.c0, (hb.cell (p := ⟨b, _, none⟩) hB).trans h.c1, (hb.cell (p := ⟨b, _, none⟩) hB).trans h.c2, (hb.cell (p := ⟨b, _, none⟩) hB).trans h.c3, (hb.cell (p := ⟨b, _, none⟩) hB).trans h.c4, (hb.cell (p := ⟨b, _, none⟩) hB).trans h.c5, (hb.cell (p := ⟨b, _, none⟩) hB).trans h.c6⟩
/-- A slice of nodes that reads as T. -/
def Nodes (W : World) (v : Value) (T : List Nd) : Prop :=
  ∃ A c, v = .slice A T.length c ∧ T.length ≤ c ∧ (T = [] ∨ ∃ bk o, A = some ⟨bk, o, none⟩ ∧ bk < W.heap.size ∧ ∀ (i : Nat) x, T[i]? = some x → ∃ nv kv, NodeAt W bk (o + i * 7) x nv kv ∧ Strs W nv x.names ∧ Nums W kv x.kids)
theorem Nodes.below {W W' : World} {v : Value} {T : List Nd} (h : Nodes W v T) (hb : Below W.heap.size W W') : Nodes W' v T := by
  obtain ⟨A, c, rfl, hc, h | ⟨bk, o, rfl, hbk, hx⟩⟩ := h
  · exact ⟨A, c, rfl, hc, .inl h⟩
  · exact ⟨_, c, rfl, hc, .inr ⟨bk, o, rfl, Nat.lt_of_lt_of_le hbk hb.size, fun j x hj => by
      obtain ⟨nv, kv, h1, h2, h3⟩ := hx j x hj
      exact ⟨nv, kv, h1.below hb hbk, h2.below hb, h3.below hb⟩⟩⟩

theorem info3 : (Tryz.prog.info? 3).map (fun i => (i.zero, i.size, i.bytes)) = some (some (.int .i64 0), 1, 8) := by kernel_rfl
theorem info53 : (Tryz.prog.info? 53).map (fun i => (i.zero, i.size, i.bytes)) = some (some (.int .i64 0), 1, 8) := by kernel_rfl
theorem below_grown {w w' : World} (h : w.grownBy w' none) : Below w.heap.size w w' := ⟨h.os, h.tape, h.output, h.size, fun i hi => h.block i hi (by simp)⟩
/-- make([]int, n). -/
theorem make_ints (n : Nat) (hn : n ≤ 1000000) (w : World) : ∃ W, (Instr.makeSlice 30 (.int .i64 (n : Int)) (.int .i64 (n : Int))).run Tryz.prog w = .ok (.slice (some ⟨w.heap.size, 0, none⟩) n n) W ∧ Below w.heap.size w W ∧ w.heap.size < W.heap.size ∧ Fam W w.heap.size n (fun _ => .int .i64 0) := by
  obtain ⟨i0, hi0, hz0, hz1, hz2⟩ := info_parts info3
  obtain ⟨W, h1, h2, h3⟩ := run_make_full (P := Tryz.prog) w w.heap.size 30 3 i0 (.int .i64 0) 1 Tryz.underlying30 hi0 hz0 hz1 .i64 .i64 n (by rw [hz2]; omega) (by unfold maxLen; omega) (Nat.le_refl _)
  refine ⟨W, h1, below_grown h3, (h2.lt _ rfl).2, fun j hj => ⟨?_, h2.frozenAt j⟩⟩
  rw [h2.cellAt j (by omega)]
  show (madeCells #[.int .i64 0] (n * 1)).toList[j]? = _
  rw [toList_madeCells_one, List.getElem?_replicate, if_pos (by omega)]
/-- make([]sorts, n). -/
theorem make_sorts (n : Nat) (hn : n ≤ 1000000) (w : World) : ∃ W, (Instr.makeSlice 52 (.int .i64 (n : Int)) (.int .i64 (n : Int))).run Tryz.prog w = .ok (.slice (some ⟨w.heap.size, 0, none⟩) n n) W ∧ Below w.heap.size w W ∧ w.heap.size < W.heap.size ∧ Fam W w.heap.size n (fun _ => .int .i64 0) := by
  obtain ⟨i0, hi0, hz0, hz1, hz2⟩ := info_parts info53
  obtain ⟨W, h1, h2, h3⟩ := run_make_full (P := Tryz.prog) w w.heap.size 52 53 i0 (.int .i64 0) 1 Tryz.underlying52 hi0 hz0 hz1 .i64 .i64 n (by rw [hz2]; omega) (by unfold maxLen; omega) (Nat.le_refl _)
  refine ⟨W, h1, below_grown h3, (h2.lt _ rfl).2, fun j hj => ⟨?_, h2.frozenAt j⟩⟩
  rw [h2.cellAt j (by omega)]
  show (madeCells #[.int .i64 0] (n * 1)).toList[j]? = _
  rw [toList_madeCells_one, List.getElem?_replicate, if_pos (by omega)]

/-- A slice of numbers of the call's own. -/
def NRow (W : World) (B : Nat) (v : Value) (zs : List Int) : Prop := W.ownsRow B 3 1 v zs.length (zs.map (Value.int .i64))
theorem NRow.form {W : World} {B : Nat} {v : Value} {zs : List Int} (h : NRow W B v zs) (h0 : 0 < zs.length) : ∃ g cap, v = .slice (some ⟨g, 0, none⟩) zs.length cap ∧ B ≤ g ∧ g < W.heap.size ∧ ∀ (j : Nat) z, zs[j]? = some z → W.cell? ⟨g, j, none⟩ = some (.int .i64 z) := by
  have hh := h
  rcases h.2 with ⟨rfl, h1⟩ | ⟨g, cap, cur, rfl, hg, _, hc, _⟩
  · omega
  · refine ⟨g, cap, rfl, hg, (World.ownsRow.lt hh g rfl).2, fun j z hj => ?_⟩
    have hj' : j < zs.length := (List.getElem?_eq_some_iff.1 hj).1
    rw [World.ownsRow.cellAt hh j (by omega), List.getElem?_map, hj]
    rfl
theorem at_num {ops : Array Oper} {rest : List Oper} {o : Oper} {a : Act} {Q : Exit → Act → World → Prop} (w : World) (z : Int) (hgd : o.guard = none) (sl y : Operand)
    (ho : o.op = .call { callee := .builtin .append, args := #[sl, y], argTypes := #[30, 30] }) (B : Nat) (v : Value) (zs : List Int) (hs : a.eval sl = v) (hown : NRow w B v zs) (g : Nat) (hg : g = w.heap.size) (hy : a.eval y = .slice (some ⟨g, 0, none⟩) 1 1)
    (hlen : zs.length ≤ 1000000) (hB : B ≤ w.heap.size)
    (h : ∀ v' w', NRow w' B v' (zs ++ [z]) → Below B w w' → wpList Tryz.prog ops Q rest (a.put o.dst v') w') : wpList Tryz.prog ops Q (o :: rest) a (w.alloc (.cells #[.int .i64 z] 3)) := by
  subst hg
  obtain ⟨i0, hi0, hz0, hz1, hz2⟩ := info_parts info3
  have hc := cell_of_row (w.alloc (.cells #[.int .i64 z] 3)) w.heap.size 0 _ 3 (0, 0) (heap_alloc_new w _)
  refine wpList_append_own (P := Tryz.prog) _ hgd sl y 30 ho B 3 i0 (.int .i64 0) 1 8 Tryz.underlying30 hi0 hz0 hz1 hz2 rfl (by omega) v zs.length (zs.map (Value.int .i64)) hs (hown.alloc _) ⟨w.heap.size, 0, none⟩ 1 1 [.int .i64 z] hy rfl
    (fun j u hj => by
      cases j with
      | zero => obtain rfl := Option.some.inj hj; exact hc
      | succ j => simp at hj) (fun u hu => by obtain rfl := List.mem_singleton.1 hu; rfl) (by unfold maxLen; omega) (by omega) (by simp; omega) ?_
  intro v' w' h1 h2 _
  refine h v' w' ?_ (((Below.refl _ _).alloc hB _).grown h2 (by simp; omega) (own_row hown))
  unfold NRow
  rw [List.length_append, List.map_append]
  exact h1
end Go.Proofs.YtjlpklhibdkmeaaGreatDoor
