/- What the three laws share. -/
import Derived.Test.YtjlpklhibdkmeaaGreatDoorCp2
import Derived.Test.YtjlpklhibdkmeaaGreatDoorAlv
namespace Go.Proofs.YtjlpklhibdkmeaaGreatDoor
open Go.RowKit

/-- What a law knows of its tree. -/
structure Arg (w : World) (nv : Value) (T : List Nd) : Prop where
  nodes : Nodes w nv T
  nil_ : NilOk w nv T
  l : ∀ x ∈ T, -9223372036854775808 ≤ x.line ∧ x.line ≤ 9223372036854775807
  o : ∀ x ∈ T, -9223372036854775808 ≤ x.op ∧ x.op ≤ 9223372036854775807
  n : ∀ x ∈ T, -9223372036854775808 ≤ x.num ∧ x.num ≤ 9223372036854775807
  rd : Rd T
theorem Arg.sm {w : World} {nv : Value} {T : List Nd} (h : Arg w nv T) (hl : T.length ≤ 4000) (hg : ∀ x ∈ T, Ng x) : Sm T :=
  ⟨by omega, h.l, h.o, h.n, fun x hx => by have := (hg x hx).1; omega, fun x hx => (hg x hx).2.1⟩
theorem nil_below {w w' : World} {nv : Value} {T : List Nd} (h : Nodes w nv T) (hn : NilOk w nv T) (hb : Below w.heap.size w w') : NilOk w' nv T := by
  intro bk o n c e i x u v hx hna
  obtain ⟨A, c', e', _, hh⟩ := h
  rw [e] at e'
  injection e' with e1 e2 e3
  subst e1
  rcases hh with rfl | ⟨bk', o', e4, hbk, hall⟩
  · cases hx
  · injection e4 with e5
    injection e5 with e6 e7 _
    subst e6 e7
    obtain ⟨nv', kv', hna', _, _⟩ := hall i x hx
    have h5 : u = nv' := Option.some.inj (hna.c5.symm.trans (hna'.below hb hbk).c5)
    have h6 : v = kv' := Option.some.inj (hna.c6.symm.trans (hna'.below hb hbk).c6)
    rw [h5, h6]
    exact hn bk o n c e i x nv' kv' hx hna'
theorem Arg.below {w w' : World} {nv : Value} {T : List Nd} (h : Arg w nv T) (hb : Below w.heap.size w w') : Arg w' nv T :=
  ⟨h.nodes.below hb, nil_below h.nodes h.nil_ hb, h.l, h.o, h.n, h.rd⟩
/-- A row of nodes whose slices read as they should. -/
theorem nodes_of_row {W : World} {B : Nat} {nv : Value} {T : List Nd} {vs : List (Value × Value)} (hlen : vs.length = T.length) (hrow : W.ownsRow B 32 7 nv T.length (rowc T vs)) (hall : ∀ (i : Nat) x p, T[i]? = some x → vs[i]? = some p → Strs W p.1 x.names ∧ Nums W p.2 x.kids) : Nodes W nv T := by
  have hrow' := hrow
  rcases hrow.2 with ⟨rfl, h0⟩ | ⟨g, cap, cur, rfl, hg, hc, hcap, _⟩
  · exact ⟨none, 0, by rw [h0], by omega, .inl (List.eq_nil_of_length_eq_zero h0)⟩
  · refine ⟨_, cap, rfl, hcap, .inr ⟨g, 0, rfl, (World.ownsRow.lt hrow' g rfl).2, fun i x hx => ?_⟩⟩
    have hi := (List.getElem?_eq_some_iff.1 hx).1
    obtain ⟨p, hp⟩ : ∃ p, vs[i]? = some p := ⟨vs[i]'(by rw [hlen]; exact hi), List.getElem?_eq_getElem _⟩
    have hcl := fun j (hj : j < 7) => (World.ownsRow.cellAt hrow' (i * 7 + j) (by omega)).trans (rowc_at T vs i x p hx hp j hj)
    obtain ⟨h1, h2⟩ := hall i x p hx hp
    rw [Nat.zero_add]
    exact ⟨p.1, p.2, ⟨hcl 0 (by decide), hcl 1 (by decide), hcl 2 (by decide), hcl 3 (by decide), hcl 4 (by decide), hcl 5 (by decide), hcl 6 (by decide)⟩, h1, h2⟩
/-- append(u.Nodes, x, y). -/
theorem at_two {ops : Array Oper} {rest : List Oper} {o : Oper} {a : Act} {Q : Exit → Act → World → Prop} (w : World) (x y : Nd) (p q : Value × Value) (hp1 : p.1.oneCell' = true) (hp2 : p.2.oneCell' = true) (hq1 : q.1.oneCell' = true) (hq2 : q.2.oneCell' = true) (hgd : o.guard = none) (sl z : Operand)
    (ho : o.op = .call { callee := .builtin .append, args := #[sl, z], argTypes := #[22, 22] }) (B : Nat) (v : Value) (T : List Nd) (vs : List (Value × Value)) (hl : vs.length = T.length) (hs : a.eval sl = v) (hown : w.ownsRow B 32 7 v T.length (rowc T vs)) (g : Nat) (hg : g = w.heap.size) (hy : a.eval z = .slice (some ⟨g, 0, none⟩) 2 2)
    (arr : Array Value) (harr : arr.toList = ncell x p ++ ncell y q) (n : Nat) (hnT : T.length = n)
    (hlen : T.length ≤ 20000) (hB : B ≤ w.heap.size)
    (h : ∀ A' c' w', w'.ownsRow B 32 7 (.slice A' (n + 2) c') (T ++ [x, y]).length (rowc (T ++ [x, y]) (vs ++ [p, q])) → Below B w w' → (∀ (i : Nat) ob, w.heap[i]? = some ob → some i ≠ v.ownBlock → w'.heap[i]? = some ob) → wpList Tryz.prog ops Q rest (a.put o.dst (.slice A' (n + 2) c')) w') : wpList Tryz.prog ops Q (o :: rest) a (w.alloc (.cells arr 32)) := by
  subst hg hnT
  obtain ⟨i0, hi0, hz0, hz1, hz2⟩ := info_parts info32
  have hc := fun j => acell w arr 32 j
  have hone : ∀ (x : Nd) (p : Value × Value), p.1.oneCell' = true → p.2.oneCell' = true → ∀ u ∈ ncell x p, u.oneCell' = true := fun x p h1 h2 u hu => by
    simp only [ncell, List.mem_cons, List.not_mem_nil, or_false] at hu
    rcases hu with rfl | rfl | rfl | rfl | rfl | rfl | rfl
    · rfl
    · rfl
    · rfl
    · rfl
    · rfl
    · exact h1
    · exact h2
  refine wpList_append_own (P := Tryz.prog) _ hgd sl z 22 ho B 32 i0 _ 7 96 Tryz.underlying22 hi0 hz0 hz1 hz2 rfl (by decide) v T.length (rowc T vs) hs (hown.alloc _) ⟨w.heap.size, 0, none⟩ 2 2 (ncell x p ++ ncell y q) hy rfl
    (fun j u hj => by
      rw [addr_add, Nat.zero_add, hc j, ← Array.getElem?_toList, harr]; exact hj) (fun u hu => by
      rcases List.mem_append.1 hu with hu | hu
      · exact hone x p hp1 hp2 u hu
      · exact hone y q hq1 hq2 u hu) (by unfold maxLen; omega) (by omega) (by simp; omega) ?_
  intro v' w' h1 h2 _
  obtain ⟨A', c', rfl⟩ : ∃ A' c', v' = .slice A' (T.length + 2) c' := by
    rcases h1.2 with ⟨_, h0⟩ | ⟨g, cap, _, rfl, _⟩
    · omega
    · exact ⟨_, _, rfl⟩
  refine h A' c' w' ?_ (((Below.refl _ _).alloc hB _).grown h2 (by simp; omega) (own_row hown)) (fun i ob hi hne => by
    have hlt := (Array.getElem?_eq_some_iff.1 hi).1
    exact (h2.block i (by simp; omega) hne).trans ((Below.heap_alloc w _ i hlt).trans hi))
  have e1 : T ++ [x, y] = (T ++ [x]) ++ [y] := by simp
  have e2 : vs ++ [p, q] = (vs ++ [p]) ++ [q] := by simp
  rw [e1, e2, rowc_app (T ++ [x]) (vs ++ [p]) y q (by simp [hl]), rowc_app T vs x p hl, ← e1, List.length_append, List.append_assoc]
  exact h1
end Go.Proofs.YtjlpklhibdkmeaaGreatDoor
