/- The document's Copy: a tree in new memory. -/
import Derived.Test.YtjlpklhibdkmeaaGreatDoorGre
import Derived.Laws.AppendOwnNone
import Derived.Lib.OwnKind
import Derived.Lib.Builder
namespace Go.Proofs.YtjlpklhibdkmeaaGreatDoor
open Go.RowKit

theorem info9 : (Tryz.prog.info? 9).map (fun i => (i.zero, i.size, i.bytes)) = some (some (.string ⟨#[]⟩), 1, 16) := by kernel_rfl
theorem info32 : (Tryz.prog.info? 32).map (fun i => (i.zero, i.size, i.bytes)) = some (some (.agg #[.int .i64 0, .int .i64 0, .int .i64 0, .int .i64 0, .string ⟨#[]⟩, .slice none 0 0, .slice none 0 0]), 7, 96) := by kernel_rfl
/-- append([]T{}, l...): a copy. -/
theorem at_copy {ops : Array Oper} {rest : List Oper} {o : Oper} {a : Act} {Q : Exit → Act → World → Prop} (t e : TypeId) {z : Value} {bytes : Nat} (ht : Tryz.prog.underlying t = some (.slice e)) (hinfo : (Tryz.prog.info? e).map (fun i => (i.zero, i.size, i.bytes)) = some (some z, 1, bytes)) (hz : z.cells.size = 1) (hby : bytes ≤ 1000)
    (w : World) (A : Option Addr) (n c : Nat) (xs : List Value) (hgd : o.guard = none) (sl y : Operand) (ho : o.op = .call { callee := .builtin .append, args := #[sl, y], argTypes := #[t, t] })
    (g : Nat) (hg : g = w.heap.size) (hs : a.eval sl = .slice (some ⟨g, 0, none⟩) 0 0) (hy : a.eval y = .slice A n c) (hn : n ≤ 100000) (hl : xs.length = n) (h1 : ∀ u ∈ xs, u.oneCell' = true)
    (hsrc : (A = none ∧ n = 0 ∧ c = 0) ∨ ∃ ad, A = some ad ∧ (xs = [] ∨ ad.block < w.heap.size) ∧ ∀ (j : Nat) u, xs[j]? = some u → w.cell? (ad.add j) = some u)
    (h : ∀ A' c' w', w'.ownsRow w.heap.size e 1 (.slice A' n c') n xs → Below w.heap.size w w' → wpList Tryz.prog ops Q rest (a.put o.dst (.slice A' n c')) w') : wpList Tryz.prog ops Q (o :: rest) a (w.alloc (.cells #[] e)) := by
  subst hg
  obtain ⟨i0, hi0, hz0, hz1, hz2⟩ := info_parts hinfo
  have hown : (w.alloc (.cells #[] e)).ownsRow w.heap.size e 1 (.slice (some ⟨w.heap.size, 0, none⟩) 0 0) 0 [] := World.ownsRow_made w #[] 0 (Nat.le_refl _) (Nat.zero_le _) rfl
  rcases hsrc with ⟨rfl, rfl, rfl⟩ | ⟨ad, rfl, had, hc⟩
  · obtain rfl : xs = [] := List.eq_nil_of_length_eq_zero hl
    refine wpList_append_own_none hgd sl y t ho w.heap.size e i0 1 ht hi0 _ 0 [] hs hown hy ?_
    exact h _ _ _ hown (b_alloc w _)
  · refine wpList_append_own (P := Tryz.prog) _ hgd sl y t ho w.heap.size e i0 z 1 bytes ht hi0 hz0 hz1 hz2 hz (by decide) _ 0 [] hs hown ad n c xs hy (by omega)
      (fun j u hj => by
        have hb : (ad.add j).block < w.heap.size := by
          have had := had.resolve_left (fun e => by rw [e] at hj; simp at hj)
          have : (ad.add j).block = ad.block := by unfold Addr.add; split <;> rfl
          omega
        exact ((b_alloc w (.cells #[] e)).cell (p := ad.add j) hb).trans (hc j u hj)) h1 (by unfold maxLen; omega) (by
          have : (0 + n) * bytes ≤ 100000 * 1000 := Nat.mul_le_mul (by omega) hby
          omega) (by simp) ?_
    intro v' w' h2 h3 _
    rw [Nat.zero_add, List.nil_append] at h2
    have hf : ∃ A' c', v' = .slice A' n c' := by
      rcases h2.2 with ⟨rfl, h0⟩ | ⟨g, cap, _, rfl, _⟩
      · exact ⟨none, 0, by rw [h0]⟩
      · exact ⟨_, _, rfl⟩
    obtain ⟨A', c', rfl⟩ := hf
    exact h A' c' w' h2 ((b_alloc w _).grown h3 (by simp) (fun k hk => by
      have : k = w.heap.size := by simpa [Value.ownBlock] using hk.symm
      omega))

/-- A node's cells. -/
def ncell (x : Nd) (p : Value × Value) : List Value := [.int .i64 x.kind, .int .i64 x.line, .int .i64 x.op, .int .i64 x.num, .string x.s, p.1, p.2]
def rowc : List Nd → List (Value × Value) → List Value
  | x :: T, p :: vs => ncell x p ++ rowc T vs
  | _, _ => []
theorem rowc_app : ∀ (T : List Nd) (vs : List (Value × Value)) (x : Nd) (p : Value × Value), vs.length = T.length → rowc (T ++ [x]) (vs ++ [p]) = rowc T vs ++ ncell x p := by
  intro T
  induction T with
  | nil =>
    intro vs x p h
    obtain rfl : vs = [] := List.eq_nil_of_length_eq_zero h
    rfl
  | cons y T ih =>
    intro vs x p h
    cases vs with
    | nil => cases h
    | cons q vs =>
      show ncell y q ++ rowc (T ++ [x]) (vs ++ [p]) = ncell y q ++ rowc T vs ++ ncell x p
      rw [ih vs x p (by simpa using h), List.append_assoc]
theorem rowc_at : ∀ (T : List Nd) (vs : List (Value × Value)) (i : Nat) (x : Nd) (p : Value × Value), T[i]? = some x → vs[i]? = some p → ∀ j, j < 7 → (rowc T vs)[i * 7 + j]? = (ncell x p)[j]? := by
  intro T
  induction T with
  | nil => intro vs i x p h; simp at h
  | cons y T ih =>
    intro vs i x p h1 h2 j hj
    cases vs with
    | nil => simp at h2
    | cons q vs =>
      cases i with
      | zero =>
        obtain rfl := Option.some.inj h1
        obtain rfl := Option.some.inj h2
        show (ncell y q ++ rowc T vs)[0 * 7 + j]? = _
        rw [Nat.zero_mul, Nat.zero_add, List.getElem?_append_left (by show j < 7; exact hj)]
      | succ i =>
        show (ncell y q ++ rowc T vs)[(i + 1) * 7 + j]? = _
        rw [List.getElem?_append_right (by show 7 ≤ _; omega), show (i + 1) * 7 + j - (ncell y q).length = i * 7 + j by show (i + 1) * 7 + j - 7 = _; omega]
        exact ih vs i x p (by simpa using h1) (by simpa using h2) j hj
/-- A tree's nodes in new memory, from block B on. -/
structure Cop (W : World) (B : Nat) (nv : Value) (T : List Nd) (vs : List (Value × Value)) : Prop where
  len : vs.length = T.length
  row : W.ownsRow B 32 7 nv T.length (rowc T vs)
  str : ∀ (i : Nat) x p, T[i]? = some x → vs[i]? = some p → W.ownsRow B 9 1 p.1 x.names.length (x.names.map Value.string)
  num : ∀ (i : Nat) x p, T[i]? = some x → vs[i]? = some p → W.ownsRow B 3 1 p.2 x.kids.length (x.kids.map (Value.int .i64))
  sep : ∀ (i j : Nat) p q, i < j → vs[i]? = some p → vs[j]? = some q → p.2.ownBlock = none ∨ p.2.ownBlock ≠ q.2.ownBlock
theorem Cop.nil (W : World) (B : Nat) : Cop W B (.slice none 0 0) [] [] := ⟨rfl, World.ownsRow_nil _ _ _ _, fun i x p h => by simp at h, fun i x p h => by simp at h, fun i j p q _ h => by simp at h⟩
/-- What is kept of blocks that are none of these. -/
theorem own_kept {W W' : World} {B s : Nat} {e : TypeId} {v : Value} {n : Nat} {xs : List Value} (h : W.ownsRow B e s v n xs) (hk : ∀ g c, v.ownBlock = some g → W.heap[g]? = some (.cells c e (0, 0)) → W'.heap[g]? = some (.cells c e (0, 0))) : W'.ownsRow B e s v n xs := by
  refine ⟨h.1, ?_⟩
  rcases h.2 with h1 | ⟨g, cap, cur, rfl, hg, hc, h2⟩
  · exact .inl h1
  · exact .inr ⟨g, cap, cur, rfl, hg, hk g cur rfl hc, h2⟩
theorem Cop.keep {W W' : World} {B : Nat} {nv : Value} {T : List Nd} {vs : List (Value × Value)} (h : Cop W B nv T vs) (hk : ∀ g c e, B ≤ g → W.heap[g]? = some (.cells c e (0, 0)) → (e = 32 ∨ e = 9 ∨ e = 3) → W'.heap[g]? = some (.cells c e (0, 0))) : Cop W' B nv T vs :=
  ⟨h.len, own_kept h.row (fun g c hg hc => hk g c 32 (h.row.lt g hg).1 hc (.inl rfl)), fun i x p h1 h2 => own_kept (h.str i x p h1 h2) (fun g c hg hc => hk g c 9 ((h.str i x p h1 h2).lt g hg).1 hc (.inr (.inl rfl))),
   fun i x p h1 h2 => own_kept (h.num i x p h1 h2) (fun g c hg hc => hk g c 3 ((h.num i x p h1 h2).lt g hg).1 hc (.inr (.inr rfl))), h.sep⟩
theorem Cop.below {W W' : World} {B : Nat} {nv : Value} {T : List Nd} {vs : List (Value × Value)} (h : Cop W B nv T vs) (hb : Below W.heap.size W W') : Cop W' B nv T vs :=
  h.keep fun g _ _ _ hc _ => (hb.block g (Array.getElem?_eq_some_iff.1 hc).1).trans hc
/-- Such nodes read as the tree. -/
theorem own_nums {W : World} {B : Nat} {v : Value} {zs : List Int} (h : W.ownsRow B 3 1 v zs.length (zs.map (Value.int .i64))) : Nums W v zs := by
  have hh := h
  rcases h.2 with ⟨rfl, h0⟩ | ⟨g, cap, cur, rfl, hg, hc, hcap, _⟩
  · exact ⟨none, 0, by rw [h0], by omega, .inl (List.eq_nil_of_length_eq_zero h0)⟩
  · refine ⟨_, cap, rfl, hcap, .inr ⟨g, 0, rfl, (World.ownsRow.lt hh g rfl).2, fun j z hj => ?_⟩⟩
    have hj' : j < zs.length := (List.getElem?_eq_some_iff.1 hj).1
    rw [Nat.zero_add, World.ownsRow.cellAt hh j (by omega), List.getElem?_map, hj]
    rfl
theorem own_strs {W : World} {B : Nat} {v : Value} {zs : List ByteArray} (h : W.ownsRow B 9 1 v zs.length (zs.map Value.string)) : Strs W v zs := by
  have hh := h
  rcases h.2 with ⟨rfl, h0⟩ | ⟨g, cap, cur, rfl, hg, hc, hcap, _⟩
  · exact ⟨none, 0, by rw [h0], by omega, .inl (List.eq_nil_of_length_eq_zero h0)⟩
  · refine ⟨_, cap, rfl, hcap, .inr ⟨g, 0, rfl, (World.ownsRow.lt hh g rfl).2, fun j z hj => ?_⟩⟩
    have hj' : j < zs.length := (List.getElem?_eq_some_iff.1 hj).1
    rw [Nat.zero_add, World.ownsRow.cellAt hh j (by omega), List.getElem?_map, hj]
    rfl
theorem Cop.at_ {W : World} {B : Nat} {T : List Nd} {vs : List (Value × Value)} {g cap : Nat} (h : Cop W B (.slice (some ⟨g, 0, none⟩) T.length cap) T vs) {i : Nat} {x : Nd} (hx : T[i]? = some x) : ∃ p, vs[i]? = some p ∧ NodeAt W g (i * 7) x p.1 p.2 := by
  have hi := (List.getElem?_eq_some_iff.1 hx).1
  obtain ⟨p, hp⟩ : ∃ p, vs[i]? = some p := ⟨vs[i]'(by rw [h.len]; exact hi), List.getElem?_eq_getElem _⟩
  have hc := fun j (hj : j < 7) => (World.ownsRow.cellAt h.row (i * 7 + j) (by omega)).trans (rowc_at T vs i x p hx hp j hj)
  exact ⟨p, hp, hc 0 (by decide), hc 1 (by decide), hc 2 (by decide), hc 3 (by decide), hc 4 (by decide), hc 5 (by decide), hc 6 (by decide)⟩
theorem Cop.nodes {W : World} {B : Nat} {nv : Value} {T : List Nd} {vs : List (Value × Value)} (h : Cop W B nv T vs) : Nodes W nv T := by
  rcases h.row.2 with ⟨rfl, h0⟩ | ⟨g, cap, cur, rfl, hg, hc, hcap, _⟩
  · exact ⟨none, 0, by rw [h0], by omega, .inl (List.eq_nil_of_length_eq_zero h0)⟩
  · refine ⟨_, cap, rfl, hcap, .inr ⟨g, 0, rfl, (World.ownsRow.lt h.row g rfl).2, fun i x hx => ?_⟩⟩
    obtain ⟨p, hp, hn⟩ := h.at_ hx
    rw [Nat.zero_add]
    exact ⟨p.1, p.2, hn, own_strs (h.str i x p hx hp), own_nums (h.num i x p hx hp)⟩
/-- One node more. -/
theorem Cop.push {W W' : World} {B : Nat} {nvk nv' : Value} {T : List Nd} {vs : List (Value × Value)} {x : Nd} {p : Value × Value} (hC : Cop W B nvk T vs) (hrow : W'.ownsRow B 32 7 nv' (T ++ [x]).length (rowc (T ++ [x]) (vs ++ [p])))
    (hkeep : ∀ i ob, W.heap[i]? = some ob → some i ≠ nvk.ownBlock → W'.heap[i]? = some ob) (hs : W.ownsRow B 9 1 p.1 x.names.length (x.names.map Value.string)) (hn : W.ownsRow B 3 1 p.2 x.kids.length (x.kids.map (Value.int .i64)))
    (hsep : ∀ (i : Nat) q, vs[i]? = some q → q.2.ownBlock = none ∨ q.2.ownBlock ≠ p.2.ownBlock) : Cop W' B nv' (T ++ [x]) (vs ++ [p]) := by
  have hk : ∀ (g : Nat) (c : Array Value) (e : TypeId), e ≠ 32 → W.heap[g]? = some (.cells c e (0, 0)) → W'.heap[g]? = some (.cells c e (0, 0)) := fun g c e he hc => hkeep g _ hc (fun h => by
    obtain ⟨c', fz, hc'⟩ := Lib.ownsRow_kind hC.row g h.symm
    rw [hc] at hc'
    injection hc' with h1
    injection h1 with _ h2 _
    exact he h2)
  have hlen := hC.len
  have cases_ : ∀ (i : Nat) (y : Nd) (q : Value × Value), (T ++ [x])[i]? = some y → (vs ++ [p])[i]? = some q → (T[i]? = some y ∧ vs[i]? = some q) ∨ (y = x ∧ q = p) := fun i y q h1 h2 => by
    rcases Nat.lt_or_ge i T.length with h | h
    · left
      rw [List.getElem?_append_left h] at h1
      rw [List.getElem?_append_left (by omega)] at h2
      exact ⟨h1, h2⟩
    · right
      rw [List.getElem?_append_right h] at h1
      rw [List.getElem?_append_right (by omega), hlen] at h2
      cases e : i - T.length with
      | zero =>
        rw [e] at h1 h2
        exact ⟨(Option.some.inj h1).symm, (Option.some.inj h2).symm⟩
      | succ n => rw [e] at h1; simp at h1
  refine ⟨by simp [hlen], hrow, fun i y q h1 h2 => ?_, fun i y q h1 h2 => ?_, fun i j q q' hij h1 h2 => ?_⟩
  · rcases cases_ i y q h1 h2 with ⟨a, b⟩ | ⟨rfl, rfl⟩
    · exact own_kept (hC.str i y q a b) (fun g c _ hc => hk g c 9 (by decide) hc)
    · exact own_kept hs (fun g c _ hc => hk g c 9 (by decide) hc)
  · rcases cases_ i y q h1 h2 with ⟨a, b⟩ | ⟨rfl, rfl⟩
    · exact own_kept (hC.num i y q a b) (fun g c _ hc => hk g c 3 (by decide) hc)
    · exact own_kept hn (fun g c _ hc => hk g c 3 (by decide) hc)
  · have hj := (List.getElem?_eq_some_iff.1 h2).1
    rw [List.length_append, List.length_cons, List.length_nil] at hj
    rw [List.getElem?_append_left (by omega)] at h1
    rcases Nat.lt_or_ge j vs.length with h | h
    · rw [List.getElem?_append_left h] at h2
      exact hC.sep i j q q' hij h1 h2
    · rw [List.getElem?_append_right h, show j - vs.length = 0 by omega] at h2
      obtain rfl := Option.some.inj h2
      exact hsep i q h1
theorem Cop.store {W : World} {B : Nat} {nv : Value} {T : List Nd} {vs : List (Value × Value)} (h : Cop W B nv T vs) {a : Addr} (ha : a.block < B) (u : Value) : Cop (W.setCell a u) B nv T vs :=
  h.keep fun g _ _ hg hc _ => (Below.heap_setCell W a u g (by omega)).trans hc
/-- Where a node's slices are nil they hold nothing. -/
def nilOk (v : Value) : Prop := ∀ n c, v = .slice none n c → n = 0 ∧ c = 0
def NilOk (W : World) (nv : Value) (T : List Nd) : Prop := ∀ bk o n c, nv = .slice (some ⟨bk, o, none⟩) n c → ∀ (i : Nat) x u v, T[i]? = some x → NodeAt W bk (o + i * 7) x u v → nilOk u ∧ nilOk v
end Go.Proofs.YtjlpklhibdkmeaaGreatDoor
