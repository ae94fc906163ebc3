/- A node's row of kids: one more, or one fewer. -/
import Derived.Test.YtjlpklhibdkmeaaGreatDoorBro1
import Derived.WalkSmall
namespace Go.Proofs.YtjlpklhibdkmeaaGreatDoor
open Go.RowKit

theorem at_kid {ops : Array Oper} {rest : List Oper} {o : Oper} {a : Act} {Q : Exit → Act → World → Prop} (w : World) (z : Int) (hgd : o.guard = none) (sl y : Operand)
    (ho : o.op = .call { callee := .builtin .append, args := #[sl, y], argTypes := #[30, 30] }) (B : Nat) (v : Value) (zs : List Int) (hs : a.eval sl = v) (hown : NRow w B v zs) (g : Nat) (hg : g = w.heap.size) (hy : a.eval y = .slice (some ⟨g, 0, none⟩) 1 1)
    (hlen : zs.length ≤ 1000000) (hB : B ≤ w.heap.size)
    (h : ∀ A' c' w', NRow w' B (.slice A' (zs.length + 1) c') (zs ++ [z]) → Below B w w' → (∀ (i : Nat) ob, w.heap[i]? = some ob → some i ≠ v.ownBlock → w'.heap[i]? = some ob) → wpList Tryz.prog ops Q rest (a.put o.dst (.slice A' (zs.length + 1) c')) w') : wpList Tryz.prog ops Q (o :: rest) a (w.alloc (.cells #[.int .i64 z] 3)) := by
  subst hg
  obtain ⟨i0, hi0, hz0, hz1, hz2⟩ := info_parts info3
  have hc := cell_of_row (w.alloc (.cells #[.int .i64 z] 3)) w.heap.size 0 _ 3 (0, 0) (heap_alloc_new w _)
  refine wpList_append_own (P := Tryz.prog) _ hgd sl y 30 ho B 3 i0 (.int .i64 0) 1 8 Tryz.underlying30 hi0 hz0 hz1 hz2 rfl (by omega) v zs.length (zs.map (Value.int .i64)) hs (hown.alloc _) ⟨w.heap.size, 0, none⟩ 1 1 [.int .i64 z] hy rfl
    (fun j u hj => by
      cases j with
      | zero => obtain rfl := Option.some.inj hj; exact hc
      | succ j => simp at hj) (fun u hu => by obtain rfl := List.mem_singleton.1 hu; rfl) (by unfold maxLen; omega) (by omega) (by simp; omega) ?_
  intro v' w' h1 h2 _
  obtain ⟨A', c', rfl⟩ : ∃ A' c', v' = .slice A' (zs.length + 1) c' := by
    rcases h1.2 with ⟨_, h0⟩ | ⟨g, cap, _, rfl, _⟩
    · omega
    · exact ⟨_, _, rfl⟩
  refine h A' c' w' ?_ (((Below.refl _ _).alloc hB _).grown h2 (by simp; omega) (own_row hown)) (fun i ob hi hne => by
    have hlt := (Array.getElem?_eq_some_iff.1 hi).1
    exact (h2.block i (by simp; omega) hne).trans ((Below.heap_alloc w _ i hlt).trans hi))
  unfold NRow
  rw [List.length_append, List.map_append]
  exact h1
theorem nodes_kids {W w6 : World} {B g0 c : Nat} {T : List Nd} {vs : List (Value × Value)} (hC : Cop W B (.slice (some ⟨g0, 0, none⟩) T.length c) T vs) (hc : T.length ≤ c) {i : Nat} {x : Nd} {p : Value × Value} (hx : T[i]? = some x) (hp : vs[i]? = some p) {v' : Value} {zs : List Int}
    (hN : NRow w6 B v' zs) (hk : ∀ (k : Nat) ob, W.heap[k]? = some ob → some k ≠ p.2.ownBlock → w6.heap[k]? = some ob) (hsz : W.heap.size ≤ w6.heap.size) :
    Nodes (w6.setCell ⟨g0, i * 7 + 6, none⟩ v') (.slice (some ⟨g0, 0, none⟩) T.length c) (T.set i { x with kids := zs }) := by
  have hne : ∀ (g : Nat) (cs : Array Value) (e : TypeId), e ≠ 3 → W.heap[g]? = some (.cells cs e (0, 0)) → some g ≠ p.2.ownBlock := fun g cs e he hcs h => by
    obtain ⟨c', fz, hc'⟩ := Lib.ownsRow_kind (hC.num i x p hx hp) g h.symm
    rw [hcs] at hc'
    injection hc' with h1
    injection h1 with _ h2 _
    exact he h2
  obtain ⟨cs0, hcs0⟩ : ∃ cs0, W.heap[g0]? = some (.cells cs0 32 (0, 0)) := by
    rcases hC.row.2 with ⟨h, _⟩ | ⟨g, cap, cur, h, _, hc, _⟩
    · cases h
    · injection h with h1 _ _
      injection h1 with h2
      injection h2 with h3
      subst h3
      exact ⟨cur, hc⟩
  have h06 := hk _ _ hcs0 (hne _ _ _ (by decide) hcs0)
  have hcel : ∀ k, w6.cell? ⟨g0, k, none⟩ = W.cell? ⟨g0, k, none⟩ := fun k => World.cell?_of_block (h06.trans hcs0.symm)
  have hn := cop_node hC hx hp
  refine nodes_change hC hc hx hp { x with kids := zs } p.1 v' (by simpa [World.setCell] using hsz) (fun k hk => (World.cell?_setCell_other _ _ _ _ (fun e => by injection e with _ e2 _; exact hk 6 (by decide) e2.symm)).trans (hcel k)) (fun k ob h h1 h2 => (Below.heap_setCell _ _ _ k h1).trans (hk k ob h h2)) ?_ ?_ ?_
  · exact ⟨set_at ((hcel _).trans hn.c0) (by omega), set_at ((hcel _).trans hn.c1) (by omega), set_at ((hcel _).trans hn.c2) (by omega), set_at ((hcel _).trans hn.c3) (by omega), set_at ((hcel _).trans hn.c4) (by omega), set_at ((hcel _).trans hn.c5) (by omega), World.cell?_setCell_same _ _ _ ((hcel _).trans hn.c6)⟩
  · exact own_strs (own_kept (hC.str i x p hx hp) fun g cs _ hcs => (Below.heap_setCell _ _ _ g (cop_ne hC (by decide) hcs)).trans (hk g _ hcs (hne _ _ _ (by decide) hcs)))
  · refine own_nums (own_kept hN fun g cs _ hcs => (Below.heap_setCell _ _ _ g ?_).trans hcs)
    intro e
    subst e
    rw [h06] at hcs
    injection hcs with h1
    injection h1 with _ h2 _
    exact absurd h2 (by decide)
/-- The last Kid is cut. -/
theorem nodes_cut {W : World} {B g0 c : Nat} {T : List Nd} {vs : List (Value × Value)} (hC : Cop W B (.slice (some ⟨g0, 0, none⟩) T.length c) T vs) (hc : T.length ≤ c) {i : Nat} {x : Nd} {p : Value × Value} (hx : T[i]? = some x) (hp : vs[i]? = some p) {ks : List Int} {k : Int} (hkk : x.kids = ks ++ [k]) {A : Option Addr} {n c' : Nat} (hn : n = ks.length) (hpv : p.2 = .slice A (n + 1) c') :
    Nodes (W.setCell ⟨g0, i * 7 + 6, none⟩ (.slice A n c')) (.slice (some ⟨g0, 0, none⟩) T.length c) (T.set i { x with kids := ks }) := by
  subst hn
  have h := hC.num i x p hx hp
  rw [hpv, hkk, List.length_append, List.map_append] at h
  obtain ⟨g, rfl⟩ : ∃ g, A = some ⟨g, 0, none⟩ := by
    rcases h.2 with ⟨h1, _⟩ | ⟨g, cap, cur, h1, _⟩
    · cases h1
    · injection h1 with h2 _ _
      exact ⟨g, h2⟩
  exact nodes_kids hC hc hx hp (ownsRow_pop (by simp) h) (fun _ _ h _ => h) (Nat.le_refl _)
end Go.Proofs.YtjlpklhibdkmeaaGreatDoor
