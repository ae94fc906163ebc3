/- Plain mathematics of trees: how deep one is, what hangs on what, its text, and what becomes of that where nodes are put elsewhere. No program is named here. -/
import Derived.RowKit
namespace Go.Proofs.YtjlpklhibdkmeaaGreatDoor

/-- A node. -/
structure Nd where
  kind : Int
  line : Int
  op : Int
  num : Int
  s : ByteArray
  names : List ByteArray
  kids : List Int

def upd (d : Nat → Nat) (i v : Nat) : Nat → Nat := fun j => if j = i then v else d j
theorem upd_same (d : Nat → Nat) (i v : Nat) : upd d i v i = v := if_pos rfl
theorem upd_other (d : Nat → Nat) {i j : Nat} (v : Nat) (h : j ≠ i) : upd d i v j = d j := if_neg h

/-- A node's Kids are named, one behind the other. -/
def kidsGo (N v : Nat) : List Int → (Nat → Nat) → List Nat → Option ((Nat → Nat) × List Nat)
  | [], d, m => some (d, m)
  | k :: ks, d, m => if 0 ≤ k ∧ k < (N : Int) ∧ d k.toNat = 0 then kidsGo N v ks (upd d k.toNat v) (m ++ [k.toNat]) else none
/-- The Kids of the node at a place. -/
def kidsAt (T : List Nd) (i : Nat) : List Int := match T[i]? with | some x => x.kids | none => []
/-- Nodes are met level by level. -/
def bfs (T : List Nd) : Nat → Nat → (Nat → Nat) → List Nat → Option ((Nat → Nat) × List Nat)
  | 0, _, d, m => some (d, m)
  | f + 1, a, d, m => match m[a]? with
    | none => some (d, m)
    | some i => match kidsGo T.length (d i + 1) (kidsAt T i) d m with
      | none => none
      | some p => bfs T f (a + 1) p.1 p.2
/-- How deep, behind the search. -/
def deepEnd (N : Nat) : Option ((Nat → Nat) × List Nat) → Nat
  | none => 0
  | some p => if p.2.length < N then 0 else p.1 (p.2.getLastD 0)
def deepT (T : List Nd) (r : Int) : Nat :=
  if T.length ≤ 16384 ∧ 0 ≤ r ∧ r < (T.length : Int) then deepEnd T.length (bfs T (T.length + 1) 0 (upd (fun _ => 0) r.toNat 1) [r.toNat]) else 0

/-! ### What is met -/
theorem nodup_le : ∀ (N : Nat) (m : List Nat), m.Nodup → (∀ j ∈ m, j < N) → m.length ≤ N := by
  intro N
  induction N with
  | zero =>
    intro m _ h
    cases m with
    | nil => exact Nat.le_refl _
    | cons a t => exact absurd (h a (List.mem_cons_self ..)) (Nat.not_lt_zero _)
  | succ N ih =>
    intro m hn h
    by_cases hN : N ∈ m
    · have h1 := ih (m.erase N) (hn.erase N) (fun j hj => by
        have hj' := (hn.mem_erase_iff).1 hj
        have := h j hj'.2
        have := hj'.1
        omega)
      rw [List.length_erase_of_mem hN] at h1
      omega
    · have h1 := ih m hn (fun j hj => by
        have := h j hj
        have : j ≠ N := fun e => hN (e ▸ hj)
        omega)
      omega
theorem nodup_all {N : Nat} {m : List Nat} (hn : m.Nodup) (h : ∀ j ∈ m, j < N) (hl : m.length = N) {j : Nat} (hj : j < N) : j ∈ m := by
  by_cases hm : j ∈ m
  · exact hm
  · have := nodup_le N (j :: m) (List.nodup_cons.2 ⟨hm, hn⟩) (fun x hx => by
      rcases List.mem_cons.1 hx with rfl | hx
      · exact hj
      · exact h x hx)
    rw [List.length_cons] at this
    omega

structure Inv (N : Nat) (d : Nat → Nat) (m : List Nat) : Prop where
  nodup : m.Nodup
  iff : ∀ j, d j ≠ 0 ↔ j ∈ m
  lt : ∀ j ∈ m, j < N
theorem Inv.len {N : Nat} {d : Nat → Nat} {m : List Nat} (h : Inv N d m) : m.length ≤ N := nodup_le N m h.nodup h.lt
theorem Inv.add {N : Nat} {d : Nat → Nat} {m : List Nat} (h : Inv N d m) {k v : Nat} (hk : k < N) (h0 : d k = 0) (hv : v ≠ 0) : Inv N (upd d k v) (m ++ [k]) := by
  have hkm : k ∉ m := fun hm => (h.iff k).2 hm h0
  refine ⟨?_, fun j => ?_, fun j hj => ?_⟩
  · rw [List.nodup_append]
    refine ⟨h.nodup, by simp, fun a ha b hb => ?_⟩
    obtain rfl := List.mem_singleton.1 hb
    exact fun e => hkm (e ▸ ha)
  · by_cases hj : j = k
    · subst hj
      rw [upd_same]
      exact ⟨fun _ => by simp, fun _ => hv⟩
    · rw [upd_other _ _ hj, h.iff, List.mem_append, List.mem_singleton]
      exact ⟨fun h => .inl h, fun h => h.resolve_right hj⟩
  · rcases List.mem_append.1 hj with hj | hj
    · exact h.lt j hj
    · obtain rfl := List.mem_singleton.1 hj
      exact hk
theorem Inv.start {N r : Nat} (h : r < N) : Inv N (upd (fun _ => 0) r 1) [r] := by
  have h0 : Inv N (fun _ => 0) [] := ⟨List.nodup_nil, fun j => by simp, fun j hj => by simp at hj⟩
  exact h0.add h rfl (by decide)

theorem kidsGo_inv {N v : Nat} (hv : v ≠ 0) : ∀ (ks : List Int) (d : Nat → Nat) (m : List Nat) (d' : Nat → Nat) (m' : List Nat), Inv N d m → kidsGo N v ks d m = some (d', m') →
    Inv N d' m' ∧ m' = m ++ ks.map Int.toNat ∧ (∀ j, d j ≠ 0 → d' j = d j) ∧ (∀ k ∈ ks, 0 ≤ k ∧ k < (N : Int) ∧ d' k.toNat = v) ∧ (∀ j, d' j = d j ∨ d' j = v) := by
  intro ks
  induction ks with
  | nil =>
    intro d m d' m' h e
    obtain ⟨rfl, rfl⟩ : d = d' ∧ m = m' := by simpa [kidsGo] using e
    exact ⟨h, by simp, fun _ _ => rfl, fun k hk => by simp at hk, fun _ => .inl rfl⟩
  | cons k ks ih =>
    intro d m d' m' h e
    rw [kidsGo] at e
    split at e
    · rename_i hk
      obtain ⟨h0, h1, h2⟩ := hk
      obtain ⟨i1, i2, i3, i4, i5⟩ := ih _ _ _ _ (h.add (by omega) h2 hv) e
      refine ⟨i1, by rw [i2]; simp, fun j hj => ?_, fun k' hk' => ?_, fun j => ?_⟩
      · have hjk : j ≠ k.toNat := fun e => hj (e ▸ h2)
        have := i3 j (by rw [upd_other _ _ hjk]; exact hj)
        rw [this, upd_other _ _ hjk]
      · rcases List.mem_cons.1 hk' with rfl | hk'
        · refine ⟨h0, h1, ?_⟩
          rw [i3 _ (by rw [upd_same]; exact hv), upd_same]
        · exact i4 k' hk'
      · rcases i5 j with h | h
        · rw [h]
          by_cases hj : j = k.toNat
          · subst hj; right; exact upd_same _ _ _
          · left; exact upd_other _ _ hj
        · exact .inr h
    · cases e

/-- What stands behind a search that has met all. -/
structure Snd (T : List Nd) (r : Nat) (d : Nat → Nat) (m : List Nat) : Prop where
  nodup : m.Nodup
  lt : ∀ j ∈ m, j < T.length
  full : m.length = T.length
  eq : m = r :: m.flatMap fun i => (kidsAt T i).map Int.toNat
  kid : ∀ i ∈ m, ∀ k ∈ kidsAt T i, 0 ≤ k ∧ k < (T.length : Int) ∧ d k.toNat = d i + 1
  root : d r = 1
  bound : ∀ i, d i ≤ T.length + 1
theorem Snd.mem {T : List Nd} {r : Nat} {d : Nat → Nat} {m : List Nat} (h : Snd T r d m) {i : Nat} (hi : i < T.length) : i ∈ m := nodup_all h.nodup h.lt h.full hi

theorem take_snoc' {α : Type} (m : List α) (a : Nat) (i : α) (h : m[a]? = some i) : m.take (a + 1) = m.take a ++ [i] := by
  rw [List.take_add_one, h]; rfl

/-- What the search keeps, at its head. -/
structure Half (T : List Nd) (r : Nat) (a : Nat) (d : Nat → Nat) (m : List Nat) : Prop where
  inv : Inv T.length d m
  le : a ≤ m.length
  eq : m = r :: (m.take a).flatMap fun i => (kidsAt T i).map Int.toNat
  kid : ∀ i ∈ m.take a, ∀ k ∈ kidsAt T i, 0 ≤ k ∧ k < (T.length : Int) ∧ d k.toNat = d i + 1
  root : d r = 1
  bound : ∀ i, d i ≤ a + 1
theorem Half.start {T : List Nd} {r : Nat} (h : r < T.length) : Half T r 0 (upd (fun _ => 0) r 1) [r] :=
  ⟨Inv.start h, Nat.zero_le _, by simp, fun i hi => by simp at hi, upd_same _ _ _, fun i => by
    by_cases hi : i = r
    · subst hi; rw [upd_same]; omega
    · rw [upd_other _ _ hi]; omega⟩
theorem Half.step {T : List Nd} {r a i : Nat} {d d' : Nat → Nat} {m m' : List Nat} (h : Half T r a d m) (hi : m[a]? = some i) (e : kidsGo T.length (d i + 1) (kidsAt T i) d m = some (d', m')) : Half T r (a + 1) d' m' := by
  obtain ⟨i1, i2, i3, i4, i5⟩ := kidsGo_inv (by omega) _ _ _ _ _ h.inv e
  have hlt : a < m.length := (List.getElem?_eq_some_iff.1 hi).1
  have hd0 : ∀ j ∈ m, d' j = d j := fun j hj => i3 j ((h.inv.iff j).2 hj)
  have him : i ∈ m := List.mem_of_getElem? hi
  have htk : m'.take (a + 1) = m.take a ++ [i] := by
    rw [i2, List.take_append_of_le_length (by omega), take_snoc' m a i hi]
  refine ⟨i1, by rw [i2, List.length_append]; omega, ?_, fun j hj k hk => ?_, ?_, fun j => ?_⟩
  · rw [htk, List.flatMap_append]
    conv => lhs; rw [i2, h.eq]
    simp
  · rw [htk] at hj
    rcases List.mem_append.1 hj with hj | hj
    · obtain ⟨k0, k1, k2⟩ := h.kid j hj k hk
      have hkm : d k.toNat ≠ 0 := by omega
      rw [i3 _ hkm, hd0 j (List.mem_of_mem_take hj)]
      exact ⟨k0, k1, k2⟩
    · obtain rfl := List.mem_singleton.1 hj
      obtain ⟨k0, k1, k2⟩ := i4 k hk
      rw [k2, hd0 _ him]
      exact ⟨k0, k1, rfl⟩
  · rw [i3 r (by rw [h.root]; decide), h.root]
  · have := h.bound j
    have := h.bound i
    rcases i5 j with e | e <;> omega
theorem bfs_half {T : List Nd} {r : Nat} : ∀ (f a : Nat) (d : Nat → Nat) (m : List Nat) (d' : Nat → Nat) (m' : List Nat), Half T r a d m → T.length + 1 ≤ f + a → bfs T f a d m = some (d', m') → Half T r m'.length d' m' := by
  intro f
  induction f with
  | zero =>
    intro a d m d' m' h hf e
    have := h.inv.len
    have := h.le
    omega
  | succ f ih =>
    intro a d m d' m' h hf e
    rw [bfs] at e
    cases hi : m[a]? with
    | none =>
      rw [hi] at e
      obtain ⟨rfl, rfl⟩ : d = d' ∧ m = m' := by simpa using e
      have h1 : m.length ≤ a := List.getElem?_eq_none_iff.1 hi
      have h2 := h.le
      obtain rfl : a = m.length := by omega
      exact h
    | some i =>
      rw [hi] at e
      have e' : (match kidsGo T.length (d i + 1) (kidsAt T i) d m with
        | none => none
        | some p => bfs T f (a + 1) p.1 p.2) = some (d', m') := e
      cases hk : kidsGo T.length (d i + 1) (kidsAt T i) d m with
      | none => rw [hk] at e'; cases e'
      | some p =>
        rw [hk] at e'
        exact ih _ _ _ _ _ (h.step hi hk) (by omega) e'
theorem deep_snd {T : List Nd} {r : Int} (h : deepT T r ≠ 0) : T.length ≤ 16384 ∧ 0 ≤ r ∧ r < (T.length : Int) ∧ ∃ d m, Snd T r.toNat d m := by
  unfold deepT at h
  split at h
  · rename_i hh
    obtain ⟨h0, h1, h2⟩ := hh
    refine ⟨h0, h1, h2, ?_⟩
    cases e : bfs T (T.length + 1) 0 (upd (fun _ => 0) r.toNat 1) [r.toNat] with
    | none => rw [e] at h; exact absurd rfl h
    | some p =>
      obtain ⟨d, m⟩ := p
      rw [e] at h
      have hf := bfs_half _ _ _ _ _ _ (Half.start (T := T) (r := r.toNat) (by omega)) (by omega) e
      have hlen : ¬ m.length < T.length := fun hl => h (if_pos hl)
      have := hf.inv.len
      have hm : m.length = T.length := by omega
      have ht : m.take m.length = m := List.take_length
      refine ⟨d, m, hf.inv.nodup, hf.inv.lt, hm, ?_, fun i hi => hf.kid i (by rw [ht]; exact hi), hf.root, fun i => by have := hf.bound i; omega⟩
      have he := hf.eq
      rw [ht] at he
      exact he
  · exact absurd rfl h
/-- The root is named by nobody. -/
theorem Snd.noroot {T : List Nd} {r : Nat} {d : Nat → Nat} {m : List Nat} (h : Snd T r d m) {i : Nat} (hi : i < T.length) : (r : Int) ∉ kidsAt T i := by
  intro hk
  have h1 := h.nodup
  rw [h.eq, List.nodup_cons] at h1
  exact h1.1 (List.mem_flatMap.2 ⟨i, h.mem hi, List.mem_map.2 ⟨_, hk, by simp⟩⟩)
/-- Whatever node isn't the root is named by one. -/
theorem Snd.parent {T : List Nd} {r : Nat} {d : Nat → Nat} {m : List Nat} (h : Snd T r d m) {k : Nat} (hk : k < T.length) (hr : k ≠ r) : ∃ i, i < T.length ∧ (k : Int) ∈ kidsAt T i := by
  have h1 := h.mem hk
  rw [h.eq] at h1
  rcases List.mem_cons.1 h1 with h2 | h2
  · exact absurd h2 hr
  · obtain ⟨i, hi, hx⟩ := List.mem_flatMap.1 h2
    obtain ⟨z, hz, e⟩ := List.mem_map.1 hx
    obtain ⟨z0, _, _⟩ := h.kid i hi z hz
    refine ⟨i, h.lt i hi, ?_⟩
    rw [show (k : Int) = z by omega]
    exact hz
theorem nodup_flat {α β : Type} {f : α → List β} : ∀ {l : List α}, (l.flatMap f).Nodup → ∀ {a b : α} {x : β}, a ∈ l → b ∈ l → x ∈ f a → x ∈ f b → l.Nodup → a = b := by
  intro l
  induction l with
  | nil => intro _ a b x ha; simp at ha
  | cons c t ih =>
    intro hn a b x ha hb xa xb hl
    rw [List.flatMap_cons, List.nodup_append] at hn
    have hl' := (List.nodup_cons.1 hl)
    rcases List.mem_cons.1 ha with ea | ha' <;> rcases List.mem_cons.1 hb with eb | hb'
    · rw [ea, eb]
    · subst ea
      exact absurd rfl (hn.2.2 x xa x (List.mem_flatMap.2 ⟨b, hb', xb⟩))
    · subst eb
      exact absurd rfl (hn.2.2 x xb x (List.mem_flatMap.2 ⟨a, ha', xa⟩))
    · exact ih hn.2.1 ha' hb' xa xb hl'.2
/-- No node is named by two. -/
theorem Snd.once {T : List Nd} {r : Nat} {d : Nat → Nat} {m : List Nat} (h : Snd T r d m) {i j : Nat} {k : Int} (hi : i < T.length) (hj : j < T.length) (ki : k ∈ kidsAt T i) (kj : k ∈ kidsAt T j) : i = j := by
  have h1 := h.nodup
  rw [h.eq, List.nodup_cons] at h1
  exact nodup_flat h1.2 (h.mem hi) (h.mem hj) (List.mem_map.2 ⟨k, ki, rfl⟩) (List.mem_map.2 ⟨k, kj, rfl⟩) h.nodup
theorem nodup_part {α β : Type} {f : α → List β} : ∀ {l : List α}, (l.flatMap f).Nodup → ∀ {a : α}, a ∈ l → (f a).Nodup := by
  intro l
  induction l with
  | nil => intro _ a ha; simp at ha
  | cons c t ih =>
    intro hn a ha
    rw [List.flatMap_cons, List.nodup_append] at hn
    rcases List.mem_cons.1 ha with rfl | ha
    · exact hn.1
    · exact ih hn.2.1 ha
/-- .. nor twice by one. -/
theorem Snd.kidsNodup {T : List Nd} {r : Nat} {d : Nat → Nat} {m : List Nat} (h : Snd T r d m) {i : Nat} (hi : i < T.length) : (kidsAt T i).Nodup := by
  have h1 := h.nodup
  rw [h.eq, List.nodup_cons] at h1
  have := nodup_part h1.2 (h.mem hi)
  rw [List.Nodup, List.pairwise_map] at this
  exact List.Pairwise.imp (fun h e => h (by rw [e])) this
end Go.Proofs.YtjlpklhibdkmeaaGreatDoor
