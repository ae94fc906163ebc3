/- Parts of the proof: RTrM, RTrN, RTrP, RAst, RAst2, RGrm, RLua, CMath, CMath2, LexM. -/
import Derived.RowKit
import Derived.Lib.SlTrimSet
import Derived.Lib.Strings
import Derived.Lib.ItoaNum
import Derived.Lib.IndexMore
import Derived.Lib.Replace
import Derived.Lib.Bytealg
namespace Go.Proofs.YtfpeecjafccfjaaGreatDoor
structure Nd where
  kind : Int
  line : Int
  op : Int
  num : Int
  s : ByteArray
  names : List ByteArray
  kids : List Int
def upd (d : Nat → Nat) (i v : Nat) : Nat → Nat := fun j => if j = i then v else d j
theorem upd_same (d : Nat → Nat) (i v : Nat) : upd d i v i = v := if_pos rfl
theorem upd_other (d : Nat → Nat) {i j : Nat} (v : Nat) (h : j ≠ i) : upd d i v j = d j := if_neg h
def kidsGo (N v : Nat) : List Int → (Nat → Nat) → List Nat → Option ((Nat → Nat) × List Nat)
  | [], d, m => some (d, m)
  | k :: ks, d, m => if 0 ≤ k ∧ k < (N : Int) ∧ d k.toNat = 0 then kidsGo N v ks (upd d k.toNat v) (m ++ [k.toNat]) else none
def kidsAt (T : List Nd) (i : Nat) : List Int := match T[i]? with | some x => x.kids | none => []
def bfs (T : List Nd) : Nat → Nat → (Nat → Nat) → List Nat → Option ((Nat → Nat) × List Nat)
  | 0, _, d, m => some (d, m)
  | f + 1, a, d, m => match m[a]? with
    | none => some (d, m)
    | some i => match kidsGo T.length (d i + 1) (kidsAt T i) d m with
      | none => none
      | some p => bfs T f (a + 1) p.1 p.2
def deepEnd (N : Nat) : Option ((Nat → Nat) × List Nat) → Nat
  | none => 0
  | some p => if p.2.length < N then 0 else p.1 (p.2.getLastD 0)
def deepT (T : List Nd) (r : Int) : Nat :=
  if T.length ≤ 16384 ∧ 0 ≤ r ∧ r < (T.length : Int) then deepEnd T.length (bfs T (T.length + 1) 0 (upd (fun _ => 0) r.toNat 1) [r.toNat]) else 0
theorem nodup_le : ∀ (N : Nat) (m : List Nat), m.Nodup → (∀ j ∈ m, j < N) → m.length ≤ N := by
  intro N
  induction N with
  | zero =>
    intro m _ h
    cases m with
    | nil => exact Nat.le_refl _
    | cons a t => exact absurd (h a (List.mem_cons_self ..)) (Nat.not_lt_zero _)
  | succ N ih =>
    intro m hn h
    by_cases hN : N ∈ m
    · have h1 := ih (m.erase N) (hn.erase N) (fun j hj => by
        have hj' := (hn.mem_erase_iff).1 hj
        have := h j hj'.2
        have := hj'.1
        omega)
      rw [List.length_erase_of_mem hN] at h1
      omega
    · have h1 := ih m hn (fun j hj => by
        have := h j hj
        have : j ≠ N := fun e => hN (e ▸ hj)
        omega)
      omega
theorem nodup_all {N : Nat} {m : List Nat} (hn : m.Nodup) (h : ∀ j ∈ m, j < N) (hl : m.length = N) {j : Nat} (hj : j < N) : j ∈ m := by
  by_cases hm : j ∈ m
  · exact hm
  · have := nodup_le N (j :: m) (List.nodup_cons.2 ⟨hm, hn⟩) (fun x hx => by
      rcases List.mem_cons.1 hx with rfl | hx
      · exact hj
      · exact h x hx)
    rw [List.length_cons] at this
    omega
structure Inv (N : Nat) (d : Nat → Nat) (m : List Nat) : Prop where
  nodup : m.Nodup
  iff : ∀ j, d j ≠ 0 ↔ j ∈ m
  lt : ∀ j ∈ m, j < N
theorem Inv.len {N : Nat} {d : Nat → Nat} {m : List Nat} (h : Inv N d m) : m.length ≤ N := nodup_le N m h.nodup h.lt
theorem Inv.add {N : Nat} {d : Nat → Nat} {m : List Nat} (h : Inv N d m) {k v : Nat} (hk : k < N) (h0 : d k = 0) (hv : v ≠ 0) : Inv N (upd d k v) (m ++ [k]) := by
  have hkm : k ∉ m := fun hm => (h.iff k).2 hm h0
  refine ⟨?_, fun j => ?_, fun j hj => ?_⟩
  · rw [List.nodup_append]
    refine ⟨h.nodup, by simp, fun a ha b hb => ?_⟩
    obtain rfl := List.mem_singleton.1 hb
    exact fun e => hkm (e ▸ ha)
  · by_cases hj : j = k
    · subst hj
      rw [upd_same]
      exact ⟨fun _ => by simp, fun _ => hv⟩
    · rw [upd_other _ _ hj, h.iff, List.mem_append, List.mem_singleton]
      exact ⟨fun h => .inl h, fun h => h.resolve_right hj⟩
  · rcases List.mem_append.1 hj with hj | hj
    · exact h.lt j hj
    · obtain rfl := List.mem_singleton.1 hj
      exact hk
theorem Inv.start {N r : Nat} (h : r < N) : Inv N (upd (fun _ => 0) r 1) [r] := by
  have h0 : Inv N (fun _ => 0) [] := ⟨List.nodup_nil, fun j => by simp, fun j hj => by simp at hj⟩
  exact h0.add h rfl (by decide)
theorem kidsGo_inv {N v : Nat} (hv : v ≠ 0) : ∀ (ks : List Int) (d : Nat → Nat) (m : List Nat) (d' : Nat → Nat) (m' : List Nat), Inv N d m → kidsGo N v ks d m = some (d', m') →
    Inv N d' m' ∧ m' = m ++ ks.map Int.toNat ∧ (∀ j, d j ≠ 0 → d' j = d j) ∧ (∀ k ∈ ks, 0 ≤ k ∧ k < (N : Int) ∧ d' k.toNat = v) ∧ (∀ j, d' j = d j ∨ d' j = v) := by
  intro ks
  induction ks with
  | nil =>
    intro d m d' m' h e
    obtain ⟨rfl, rfl⟩ : d = d' ∧ m = m' := by simpa [kidsGo] using e
    exact ⟨h, by simp, fun _ _ => rfl, fun k hk => by simp at hk, fun _ => .inl rfl⟩
  | cons k ks ih =>
    intro d m d' m' h e
    rw [kidsGo] at e
    split at e
    · rename_i hk
      obtain ⟨h0, h1, h2⟩ := hk
      obtain ⟨i1, i2, i3, i4, i5⟩ := ih _ _ _ _ (h.add (by omega) h2 hv) e
      refine ⟨i1, by rw [i2]; simp, fun j hj => ?_, fun k' hk' => ?_, fun j => ?_⟩
      · have hjk : j ≠ k.toNat := fun e => hj (e ▸ h2)
        have := i3 j (by rw [upd_other _ _ hjk]; exact hj)
        rw [this, upd_other _ _ hjk]
      · rcases List.mem_cons.1 hk' with rfl | hk'
        · refine ⟨h0, h1, ?_⟩
          rw [i3 _ (by rw [upd_same]; exact hv), upd_same]
        · exact i4 k' hk'
      · rcases i5 j with h | h
        · rw [h]
          by_cases hj : j = k.toNat
          · subst hj; right; exact upd_same _ _ _
          · left; exact upd_other _ _ hj
        · exact .inr h
    · cases e
structure Snd (T : List Nd) (r : Nat) (d : Nat → Nat) (m : List Nat) : Prop where
  nodup : m.Nodup
  lt : ∀ j ∈ m, j < T.length
  full : m.length = T.length
  eq : m = r :: m.flatMap fun i => (kidsAt T i).map Int.toNat
  kid : ∀ i ∈ m, ∀ k ∈ kidsAt T i, 0 ≤ k ∧ k < (T.length : Int) ∧ d k.toNat = d i + 1
  root : d r = 1
  bound : ∀ i, d i ≤ T.length + 1
theorem Snd.mem {T : List Nd} {r : Nat} {d : Nat → Nat} {m : List Nat} (h : Snd T r d m) {i : Nat} (hi : i < T.length) : i ∈ m := nodup_all h.nodup h.lt h.full hi
theorem take_snoc' {α : Type} (m : List α) (a : Nat) (i : α) (h : m[a]? = some i) : m.take (a + 1) = m.take a ++ [i] := by
  rw [List.take_add_one, h]; rfl
structure Half (T : List Nd) (r : Nat) (a : Nat) (d : Nat → Nat) (m : List Nat) : Prop where
  inv : Inv T.length d m
  le : a ≤ m.length
  eq : m = r :: (m.take a).flatMap fun i => (kidsAt T i).map Int.toNat
  kid : ∀ i ∈ m.take a, ∀ k ∈ kidsAt T i, 0 ≤ k ∧ k < (T.length : Int) ∧ d k.toNat = d i + 1
  root : d r = 1
  bound : ∀ i, d i ≤ a + 1
theorem Half.start {T : List Nd} {r : Nat} (h : r < T.length) : Half T r 0 (upd (fun _ => 0) r 1) [r] :=
  ⟨Inv.start h, Nat.zero_le _, by simp, fun i hi => by simp at hi, upd_same _ _ _, fun i => by
    by_cases hi : i = r
    · subst hi; rw [upd_same]; omega
    · rw [upd_other _ _ hi]; omega⟩
theorem Half.step {T : List Nd} {r a i : Nat} {d d' : Nat → Nat} {m m' : List Nat} (h : Half T r a d m) (hi : m[a]? = some i) (e : kidsGo T.length (d i + 1) (kidsAt T i) d m = some (d', m')) : Half T r (a + 1) d' m' := by
  obtain ⟨i1, i2, i3, i4, i5⟩ := kidsGo_inv (by omega) _ _ _ _ _ h.inv e
  have hlt : a < m.length := (List.getElem?_eq_some_iff.1 hi).1
  have hd0 : ∀ j ∈ m, d' j = d j := fun j hj => i3 j ((h.inv.iff j).2 hj)
  have him : i ∈ m := List.mem_of_getElem? hi
  have htk : m'.take (a + 1) = m.take a ++ [i] := by
    rw [i2, List.take_append_of_le_length (by omega), take_snoc' m a i hi]
  refine ⟨i1, by rw [i2, List.length_append]; omega, ?_, fun j hj k hk => ?_, ?_, fun j => ?_⟩
  · rw [htk, List.flatMap_append]
    conv => lhs; rw [i2, h.eq]
    simp
  · rw [htk] at hj
    rcases List.mem_append.1 hj with hj | hj
    · obtain ⟨k0, k1, k2⟩ := h.kid j hj k hk
      have hkm : d k.toNat ≠ 0 := by omega
      rw [i3 _ hkm, hd0 j (List.mem_of_mem_take hj)]
      exact ⟨k0, k1, k2⟩
    · obtain rfl := List.mem_singleton.1 hj
      obtain ⟨k0, k1, k2⟩ := i4 k hk
      rw [k2, hd0 _ him]
      exact ⟨k0, k1, rfl⟩
  · rw [i3 r (by rw [h.root]; decide), h.root]
  · have := h.bound j
    have := h.bound i
    rcases i5 j with e | e <;> omega
theorem bfs_half {T : List Nd} {r : Nat} : ∀ (f a : Nat) (d : Nat → Nat) (m : List Nat) (d' : Nat → Nat) (m' : List Nat), Half T r a d m → T.length + 1 ≤ f + a → bfs T f a d m = some (d', m') → Half T r m'.length d' m' := by
  intro f
  induction f with
  | zero =>
    intro a d m d' m' h hf e
    have := h.inv.len
    have := h.le
    omega
  | succ f ih =>
    intro a d m d' m' h hf e
    rw [bfs] at e
    cases hi : m[a]? with
    | none =>
      rw [hi] at e
      obtain ⟨rfl, rfl⟩ : d = d' ∧ m = m' := by simpa using e
      have h1 : m.length ≤ a := List.getElem?_eq_none_iff.1 hi
      have h2 := h.le
      obtain rfl : a = m.length := by omega
      exact h
    | some i =>
      rw [hi] at e
      have e' : (match kidsGo T.length (d i + 1) (kidsAt T i) d m with
        | none => none
        | some p => bfs T f (a + 1) p.1 p.2) = some (d', m') := e
      cases hk : kidsGo T.length (d i + 1) (kidsAt T i) d m with
      | none => rw [hk] at e'; cases e'
      | some p =>
        rw [hk] at e'
        exact ih _ _ _ _ _ (h.step hi hk) (by omega) e'
theorem deep_snd {T : List Nd} {r : Int} (h : deepT T r ≠ 0) : T.length ≤ 16384 ∧ 0 ≤ r ∧ r < (T.length : Int) ∧ ∃ d m, Snd T r.toNat d m := by
  unfold deepT at h
  split at h
  · rename_i hh
    obtain ⟨h0, h1, h2⟩ := hh
    refine ⟨h0, h1, h2, ?_⟩
    cases e : bfs T (T.length + 1) 0 (upd (fun _ => 0) r.toNat 1) [r.toNat] with
    | none => rw [e] at h; exact absurd rfl h
    | some p =>
      obtain ⟨d, m⟩ := p
      rw [e] at h
      have hf := bfs_half _ _ _ _ _ _ (Half.start (T := T) (r := r.toNat) (by omega)) (by omega) e
      have hlen : ¬ m.length < T.length := fun hl => h (if_pos hl)
      have := hf.inv.len
      have hm : m.length = T.length := by omega
      have ht : m.take m.length = m := List.take_length
      refine ⟨d, m, hf.inv.nodup, hf.inv.lt, hm, ?_, fun i hi => hf.kid i (by rw [ht]; exact hi), hf.root, fun i => by have := hf.bound i; omega⟩
      have he := hf.eq
      rw [ht] at he
      exact he
  · exact absurd rfl h
theorem Snd.parent {T : List Nd} {r : Nat} {d : Nat → Nat} {m : List Nat} (h : Snd T r d m) {k : Nat} (hk : k < T.length) (hr : k ≠ r) : ∃ i, i < T.length ∧ (k : Int) ∈ kidsAt T i := by
  have h1 := h.mem hk
  rw [h.eq] at h1
  rcases List.mem_cons.1 h1 with h2 | h2
  · exact absurd h2 hr
  · obtain ⟨i, hi, hx⟩ := List.mem_flatMap.1 h2
    obtain ⟨z, hz, e⟩ := List.mem_map.1 hx
    obtain ⟨z0, _, _⟩ := h.kid i hi z hz
    refine ⟨i, h.lt i hi, ?_⟩
    rw [show (k : Int) = z by omega]
    exact hz
theorem nodup_flat {α β : Type} {f : α → List β} : ∀ {l : List α}, (l.flatMap f).Nodup → ∀ {a b : α} {x : β}, a ∈ l → b ∈ l → x ∈ f a → x ∈ f b → l.Nodup → a = b := by
  intro l
  induction l with
  | nil => intro _ a b x ha; simp at ha
  | cons c t ih =>
    intro hn a b x ha hb xa xb hl
    rw [List.flatMap_cons, List.nodup_append] at hn
    have hl' := (List.nodup_cons.1 hl)
    rcases List.mem_cons.1 ha with ea | ha' <;> rcases List.mem_cons.1 hb with eb | hb'
    · rw [ea, eb]
    · subst ea
      exact absurd rfl (hn.2.2 x xa x (List.mem_flatMap.2 ⟨b, hb', xb⟩))
    · subst eb
      exact absurd rfl (hn.2.2 x xb x (List.mem_flatMap.2 ⟨a, ha', xa⟩))
    · exact ih hn.2.1 ha' hb' xa xb hl'.2
theorem nodup_part {α β : Type} {f : α → List β} : ∀ {l : List α}, (l.flatMap f).Nodup → ∀ {a : α}, a ∈ l → (f a).Nodup := by
  intro l
  induction l with
  | nil => intro _ a ha; simp at ha
  | cons c t ih =>
    intro hn a ha
    rw [List.flatMap_cons, List.nodup_append] at hn
    rcases List.mem_cons.1 ha with rfl | ha
    · exact hn.1
    · exact ih hn.2.1 ha
theorem Snd.kidsNodup {T : List Nd} {r : Nat} {d : Nat → Nat} {m : List Nat} (h : Snd T r d m) {i : Nat} (hi : i < T.length) : (kidsAt T i).Nodup := by
  have h1 := h.nodup
  rw [h.eq, List.nodup_cons] at h1
  have := nodup_part h1.2 (h.mem hi)
  rw [List.Nodup, List.pairwise_map] at this
  exact List.Pairwise.imp (fun h e => h (by rw [e])) this
end Go.Proofs.YtfpeecjafccfjaaGreatDoor
namespace Go.Proofs.YtfpeecjafccfjaaGreatDoor
def pi (N k i : Nat) : Nat := (i + k) % N
def mvKid (N k : Nat) (z : Int) : Int := if 0 ≤ z ∧ z < (N : Int) then ((pi N k z.toNat : Nat) : Int) else z
def mvNd (N k : Nat) (x : Nd) : Nd := { x with kids := x.kids.map (mvKid N k) }
structure Moved (T U : List Nd) (k : Nat) : Prop where
  len : U.length = T.length
  at_ : ∀ i, i < T.length → U[pi T.length k i]? = (T[i]?).map (mvNd T.length k)
theorem Moved.kids {T U : List Nd} {k : Nat} (h : Moved T U k) {i : Nat} (hi : i < T.length) : kidsAt U (pi T.length k i) = (kidsAt T i).map (mvKid T.length k) := by
  unfold kidsAt
  rw [h.at_ i hi, List.getElem?_eq_getElem hi]
  rfl
theorem getLastD_mem {α : Type} (l : List α) (x : α) (h : l ≠ []) : l.getLastD x ∈ l := by
  induction l with
  | nil => exact absurd rfl h
  | cons a t ih =>
    cases t with
    | nil => exact List.mem_singleton.2 rfl
    | cons b t => exact List.mem_cons_of_mem _ (ih (by simp))
def grown (T : List Nd) (r : Int) (x y : Nd) : List Nd := T ++ [{ x with kids := [r] }, { y with kids := [(T.length : Int)] }]
end Go.Proofs.YtfpeecjafccfjaaGreatDoor
namespace Go.Proofs.YtfpeecjafccfjaaGreatDoor
def kindAt (T : List Nd) (i : Nat) : Int := match T[i]? with | some x => x.kind | none => 0
section
variable (fo : Nd → Bool) (ko : Int → Int → List Int → Bool) (so : Int → Int) (hd : Nd → List UInt8)
def nodeOk (T : List Nd) (x : Nd) : Bool := decide (1 ≤ x.line) && fo x && ko x.kind x.num (x.kids.map fun k => so (kindAt T k.toNat))
def rightT (T : List Nd) (r : Int) : Bool := decide (deepT T r ≠ 0) && decide (deepT T r ≤ 100) && decide (kindAt T r.toNat = 18) && T.all (nodeOk fo ko so T)
def text (T : List Nd) : Nat → Nat → List UInt8
  | 0, _ => []
  | f + 1, i => match T[i]? with
    | none => []
    | some x => hd x ++ (x.kids.flatMap fun k => 32 :: text T f k.toNat) ++ [41]
def printT (T : List Nd) (r : Int) : List UInt8 := if rightT fo ko so T r then text hd T (T.length + 1) r.toNat else []
theorem right_split {T : List Nd} {r : Int} : rightT fo ko so T r = true ↔ deepT T r ≠ 0 ∧ deepT T r ≤ 100 ∧ kindAt T r.toNat = 18 ∧ ∀ (i : Nat) (x : Nd), T[i]? = some x → nodeOk fo ko so T x = true := by
  unfold rightT
  simp only [Bool.and_eq_true, decide_eq_true_eq, List.all_eq_true, and_assoc]
  constructor
  · rintro ⟨h1, h2, h3, h4⟩
    exact ⟨h1, h2, h3, fun i x hx => h4 x (List.mem_of_getElem? hx)⟩
  · rintro ⟨h1, h2, h3, h4⟩
    refine ⟨h1, h2, h3, fun x hx => ?_⟩
    obtain ⟨i, hi⟩ := List.mem_iff_getElem?.1 hx
    exact h4 i x hi
theorem node_split {T : List Nd} {x : Nd} : nodeOk fo ko so T x = true ↔ 1 ≤ x.line ∧ fo x = true ∧ ko x.kind x.num (x.kids.map fun k => so (kindAt T k.toNat)) = true := by
  unfold nodeOk
  simp only [Bool.and_eq_true, decide_eq_true_eq, and_assoc]
theorem kids_of {T : List Nd} {i : Nat} {x : Nd} (h : T[i]? = some x) : kidsAt T i = x.kids := by unfold kidsAt; rw [h]
theorem kind_of {T : List Nd} {i : Nat} {x : Nd} (h : T[i]? = some x) : kindAt T i = x.kind := by unfold kindAt; rw [h]
theorem text_step {T : List Nd} {f i : Nat} {x : Nd} (h : T[i]? = some x) : text hd T (f + 1) i = hd x ++ (x.kids.flatMap fun k => 32 :: text hd T f k.toNat) ++ [41] := by
  rw [text, h]
theorem right_snd {T : List Nd} {r : Int} (h : rightT fo ko so T r = true) : ∃ d m, Snd T r.toNat d m ∧ 0 ≤ r ∧ r < (T.length : Int) := by
  obtain ⟨h0, _⟩ := (right_split fo ko so).1 h
  obtain ⟨_, hr0, hr1, d, m, hs⟩ := deep_snd h0
  exact ⟨d, m, hs, hr0, hr1⟩
end
def sumN : List Nat → Nat
  | [] => 0
  | a :: t => a + sumN t
theorem sumN_app (a b : List Nat) : sumN (a ++ b) = sumN a + sumN b := by
  induction a with
  | nil => simp [sumN]
  | cons x t ih => rw [List.cons_append, sumN, sumN, ih]; omega
theorem sumN_flat {α : Type} (f : α → List Nat) (l : List α) : sumN (l.flatMap f) = sumN (l.map fun a => sumN (f a)) := by
  induction l with
  | nil => rfl
  | cons a t ih => rw [List.flatMap_cons, sumN_app, ih, List.map_cons, sumN]
theorem sumN_add {α : Type} (f g : α → Nat) (l : List α) : sumN (l.map fun a => f a + g a) = sumN (l.map f) + sumN (l.map g) := by
  induction l with
  | nil => rfl
  | cons a t ih => rw [List.map_cons, List.map_cons, List.map_cons, sumN, sumN, sumN, ih]; omega
theorem sumN_le {α : Type} (f : α → Nat) (M : Nat) (l : List α) (h : ∀ a ∈ l, f a ≤ M) : sumN (l.map f) ≤ l.length * M := by
  induction l with
  | nil => exact Nat.zero_le _
  | cons a t ih =>
    rw [List.map_cons, sumN, List.length_cons, Nat.add_mul, Nat.one_mul]
    have := h a (List.mem_cons_self ..)
    have := ih (fun b hb => h b (List.mem_cons_of_mem _ hb))
    omega
theorem len_flat {α : Type} (f : α → List UInt8) (l : List α) : (l.flatMap f).length = sumN (l.map fun a => (f a).length) := by
  induction l with
  | nil => rfl
  | cons a t ih => rw [List.flatMap_cons, List.length_append, ih, List.map_cons, sumN]
theorem text_len {hd : Nd → List UInt8} {T : List Nd} {r : Nat} {d : Nat → Nat} {m : List Nat} (hs : Snd T r d m) {M : Nat} (hM : ∀ (i : Nat) (x : Nd), T[i]? = some x → (hd x).length + x.kids.length + 1 ≤ M) : (text hd T (T.length + 1) r).length ≤ T.length * M := by
  have hg : ∀ i ∈ m, (text hd T (T.length + 2 - d i) i).length = (match T[i]? with | some x => (hd x).length + x.kids.length + 1 | none => 0) + sumN ((kidsAt T i).map fun k => (text hd T (T.length + 2 - d k.toNat) k.toNat).length) := by
    intro i hi
    have hb := hs.bound i
    have hil := hs.lt i hi
    have hx := List.getElem?_eq_getElem hil
    rw [hx, show T.length + 2 - d i = (T.length + 1 - d i) + 1 by omega, text_step hd hx, List.length_append, List.length_append, len_flat]
    show _ = (hd T[i]).length + T[i].kids.length + 1 + _
    rw [kids_of hx]
    have h1 : (T[i].kids.map fun a => (32 :: text hd T (T.length + 1 - d i) a.toNat).length) = T[i].kids.map fun a => 1 + (text hd T (T.length + 2 - d a.toNat) a.toNat).length := List.map_congr_left fun k hk => by
      obtain ⟨_, _, k2⟩ := hs.kid i hi k (by rw [kids_of hx]; exact hk)
      rw [List.length_cons, k2, show T.length + 2 - (d i + 1) = T.length + 1 - d i by omega]
      omega
    rw [h1, sumN_add]
    have h2 : sumN (T[i].kids.map fun _ => 1) = T[i].kids.length := by
      generalize T[i].kids = l
      induction l with
      | nil => rfl
      | cons a t ih => rw [List.map_cons, sumN, ih, List.length_cons]; omega
    rw [h2]
    show _ + _ + 1 = _
    omega
  have h1 : sumN (m.map fun i => (text hd T (T.length + 2 - d i) i).length) = sumN (m.map fun i => match T[i]? with | some x => (hd x).length + x.kids.length + 1 | none => 0) + sumN (m.map fun i => sumN ((kidsAt T i).map fun k => (text hd T (T.length + 2 - d k.toNat) k.toNat).length)) := by
    rw [← sumN_add, List.map_congr_left hg]
  have h2 : sumN (m.map fun i => (text hd T (T.length + 2 - d i) i).length) = (text hd T (T.length + 1) r).length + sumN (m.map fun i => sumN ((kidsAt T i).map fun k => (text hd T (T.length + 2 - d k.toNat) k.toNat).length)) := by
    conv => lhs; rw [hs.eq]
    rw [List.map_cons, sumN, hs.root, List.map_flatMap, sumN_flat]
    congr 2
    apply List.map_congr_left
    intro i _
    rw [List.map_map]
    rfl
  have h3 := sumN_le (fun i => match T[i]? with | some x => (hd x).length + x.kids.length + 1 | none => 0) M m (fun i hi => by
    have hx := List.getElem?_eq_getElem (hs.lt i hi)
    show (match T[i]? with | some x => (hd x).length + x.kids.length + 1 | none => 0) ≤ M
    rw [hx]
    exact hM i _ hx)
  rw [hs.full] at h3
  omega
end Go.Proofs.YtfpeecjafccfjaaGreatDoor
namespace Go.Proofs.YtfpeecjafccfjaaGreatDoor
inductive Ast where
  | mk (h : Nd) (kids : List Ast)
def Ast.hd : Ast → Nd
  | .mk h _ => h
mutual
def Ast.depth : Ast → Nat
  | .mk _ ks => Ast.depthL ks + 1
def Ast.depthL : List Ast → Nat
  | [] => 0
  | a :: xz => max (Ast.depth a) (Ast.depthL xz)
end
mutual
def Ast.size : Ast → Nat
  | .mk _ ks => Ast.sizeL ks + 1
def Ast.sizeL : List Ast → Nat
  | [] => 0
  | a :: xz => Ast.size a + Ast.sizeL xz
end
mutual
def Rep (T : List Nd) : Ast → Nat → List Nat → Prop
  | .mk h xz, i, js => ∃ x js', T[i]? = some x ∧ x = { h with kids := x.kids } ∧ Reps T xz x.kids js' ∧ js = i :: js'
def Reps (T : List Nd) : List Ast → List Int → List Nat → Prop
  | [], ks, js => ks = [] ∧ js = []
  | a :: xz, ks, js => ∃ (k : Nat) (ks' : List Int) (j1 j2 : List Nat), ks = (k : Int) :: ks' ∧ Rep T a k j1 ∧ Reps T xz ks' j2 ∧ js = j1 ++ j2
end
def kidsN (T : List Nd) (i : Nat) : List Nat := (kidsAt T i).map Int.toNat
theorem Rep.root {T : List Nd} {a : Ast} {i : Nat} {js : List Nat} (h : Rep T a i js) : i ∈ js ∧ kindAt T i = a.hd.kind ∧ i < T.length := by
  cases a with
  | mk hd xz =>
    unfold Rep at h
    obtain ⟨x, js', hx, he, _, rfl⟩ := h
    refine ⟨List.mem_cons_self .., ?_, (List.getElem?_eq_some_iff.1 hx).1⟩
    rw [kind_of hx, he]
    rfl
mutual
theorem Rep.lt {T : List Nd} : ∀ (a : Ast) (i : Nat) (js : List Nat), Rep T a i js → ∀ j ∈ js, j < T.length
  | .mk h xz, i, js, hr => by
    unfold Rep at hr
    obtain ⟨x, js', hx, _, hs, rfl⟩ := hr
    intro j hj
    rcases List.mem_cons.1 hj with rfl | hj
    · exact (List.getElem?_eq_some_iff.1 hx).1
    · exact Reps.lt xz x.kids js' hs j hj
theorem Reps.lt {T : List Nd} : ∀ (xz : List Ast) (ks : List Int) (js : List Nat), Reps T xz ks js → ∀ j ∈ js, j < T.length
  | [], ks, js, hr => by
    unfold Reps at hr
    obtain ⟨_, rfl⟩ := hr
    intro j hj
    simp at hj
  | a :: xz, ks, js, hr => by
    unfold Reps at hr
    obtain ⟨k, ks', j1, j2, _, h1, h2, rfl⟩ := hr
    intro j hj
    rcases List.mem_append.1 hj with hj | hj
    · exact Rep.lt a k j1 h1 j hj
    · exact Reps.lt xz ks' j2 h2 j hj
end
mutual
/-- A tree lies in a longer list xz it did. -/
theorem Rep.more {T T' : List Nd} (hT : ∀ (i : Nat) x, T[i]? = some x → T'[i]? = some x) : ∀ (a : Ast) (i : Nat) (js : List Nat), Rep T a i js → Rep T' a i js
  | .mk h xz, i, js, hr => by
    unfold Rep at hr ⊢
    obtain ⟨x, js', hx, he, hs, rfl⟩ := hr
    exact ⟨x, js', hT i x hx, he, Reps.more hT xz x.kids js' hs, rfl⟩
theorem Reps.more {T T' : List Nd} (hT : ∀ (i : Nat) x, T[i]? = some x → T'[i]? = some x) : ∀ (xz : List Ast) (ks : List Int) (js : List Nat), Reps T xz ks js → Reps T' xz ks js
  | [], ks, js, hr => by
    unfold Reps at hr ⊢
    exact hr
  | a :: xz, ks, js, hr => by
    unfold Reps at hr ⊢
    obtain ⟨k, ks', j1, j2, hk, h1, h2, rfl⟩ := hr
    exact ⟨k, ks', j1, j2, hk, Rep.more hT a k j1 h1, Reps.more hT xz ks' j2 h2, rfl⟩
end
mutual
theorem Rep.len {T : List Nd} : ∀ (a : Ast) (i : Nat) (js : List Nat), Rep T a i js → js.length = a.size
  | .mk h xz, i, js, hr => by
    unfold Rep at hr
    obtain ⟨x, js', _, _, hs, rfl⟩ := hr
    rw [List.length_cons, Reps.len xz x.kids js' hs, Ast.size]
theorem Reps.len {T : List Nd} : ∀ (xz : List Ast) (ks : List Int) (js : List Nat), Reps T xz ks js → js.length = Ast.sizeL xz
  | [], ks, js, hr => by
    unfold Reps at hr
    obtain ⟨_, rfl⟩ := hr
    rfl
  | a :: xz, ks, js, hr => by
    unfold Reps at hr
    obtain ⟨k, ks', j1, j2, _, h1, h2, rfl⟩ := hr
    rw [List.length_append, Rep.len a k j1 h1, Reps.len xz ks' j2 h2, Ast.sizeL]
end
mutual
/-- The root, and what is named: all of them. -/
theorem Rep.perm {T : List Nd} : ∀ (a : Ast) (i : Nat) (js : List Nat), Rep T a i js → js.Perm (i :: js.flatMap (kidsN T))
  | .mk h xz, i, js, hr => by
    unfold Rep at hr
    obtain ⟨x, js', hx, _, hs, rfl⟩ := hr
    refine List.Perm.cons i ?_
    have h1 : kidsN T i = x.kids.map Int.toNat := by unfold kidsN; rw [kids_of hx]
    rw [List.flatMap_cons, h1]
    exact Reps.perm xz x.kids js' hs
theorem Reps.perm {T : List Nd} : ∀ (xz : List Ast) (ks : List Int) (js : List Nat), Reps T xz ks js → js.Perm (ks.map Int.toNat ++ js.flatMap (kidsN T))
  | [], ks, js, hr => by
    unfold Reps at hr
    obtain ⟨rfl, rfl⟩ := hr
    exact List.Perm.nil
  | a :: xz, ks, js, hr => by
    unfold Reps at hr
    obtain ⟨k, ks', j1, j2, rfl, h1, h2, rfl⟩ := hr
    have p1 := Rep.perm a k j1 h1
    have p2 := Reps.perm xz ks' j2 h2
    rw [List.flatMap_append, List.map_cons, Int.toNat_natCast, List.cons_append]
    refine (p1.append p2).trans ?_
    rw [List.cons_append]
    refine List.Perm.cons k ?_
    rw [← List.append_assoc, ← List.append_assoc]
    exact List.Perm.append_right _ List.perm_append_comm
end
mutual
/-- Whatever holds the root and what its members name holds all. -/
theorem Rep.closed {T : List Nd} {m : List Nat} (hm : ∀ i ∈ m, ∀ k ∈ kidsAt T i, k.toNat ∈ m) : ∀ (a : Ast) (i : Nat) (js : List Nat), Rep T a i js → i ∈ m → ∀ j ∈ js, j ∈ m
  | .mk h xz, i, js, hr, hi => by
    unfold Rep at hr
    obtain ⟨x, js', hx, _, hs, rfl⟩ := hr
    intro j hj
    rcases List.mem_cons.1 hj with rfl | hj
    · exact hi
    · exact Reps.closed hm xz x.kids js' hs (fun k hk => hm i hi k (by rw [kids_of hx]; exact hk)) j hj
theorem Reps.closed {T : List Nd} {m : List Nat} (hm : ∀ i ∈ m, ∀ k ∈ kidsAt T i, k.toNat ∈ m) : ∀ (xz : List Ast) (ks : List Int) (js : List Nat), Reps T xz ks js → (∀ k ∈ ks, k.toNat ∈ m) → ∀ j ∈ js, j ∈ m
  | [], ks, js, hr, _ => by
    unfold Reps at hr
    obtain ⟨_, rfl⟩ := hr
    intro j hj
    simp at hj
  | a :: xz, ks, js, hr, hk => by
    unfold Reps at hr
    obtain ⟨k, ks', j1, j2, rfl, h1, h2, rfl⟩ := hr
    intro j hj
    rcases List.mem_append.1 hj with hj | hj
    · exact Rep.closed hm a k j1 h1 (by simpa using hk k (List.mem_cons_self ..)) j hj
    · exact Reps.closed hm xz ks' j2 h2 (fun z hz => hk z (List.mem_cons_of_mem _ hz)) j hj
end
mutual
/-- How deep the nodes are, by whoever counts from parents to kids. -/
theorem Rep.depths {T : List Nd} {d : Nat → Nat} : ∀ (a : Ast) (i : Nat) (js : List Nat), Rep T a i js → (∀ j ∈ js, ∀ k ∈ kidsAt T j, d k.toNat = d j + 1) → (∀ j ∈ js, d j + 1 ≤ d i + a.depth) ∧ ∃ j ∈ js, d j + 1 = d i + a.depth
  | .mk h xz, i, js, hr, hd => by
    unfold Rep at hr
    obtain ⟨x, js', hx, _, hs, rfl⟩ := hr
    have h1 := Reps.depths (v := d i) xz x.kids js' hs (fun j hj => hd j (List.mem_cons_of_mem _ hj)) (fun k hk => hd i (List.mem_cons_self ..) k (by rw [kids_of hx]; exact hk))
    rw [Ast.depth]
    refine ⟨fun j hj => ?_, ?_⟩
    · rcases List.mem_cons.1 hj with rfl | hj
      · omega
      · have := h1.1 j hj
        omega
    · by_cases h0 : xz = []
      · subst h0
        exact ⟨i, List.mem_cons_self .., by rw [Ast.depthL]⟩
      · obtain ⟨j, hj, he⟩ := h1.2 h0
        exact ⟨j, List.mem_cons_of_mem _ hj, by omega⟩
theorem Reps.depths {T : List Nd} {d : Nat → Nat} {v : Nat} : ∀ (xz : List Ast) (ks : List Int) (js : List Nat), Reps T xz ks js → (∀ j ∈ js, ∀ k ∈ kidsAt T j, d k.toNat = d j + 1) → (∀ k ∈ ks, d k.toNat = v + 1) → (∀ j ∈ js, d j ≤ v + Ast.depthL xz) ∧ (xz ≠ [] → ∃ j ∈ js, d j = v + Ast.depthL xz)
  | [], ks, js, hr, _, _ => by
    unfold Reps at hr
    obtain ⟨_, rfl⟩ := hr
    exact ⟨fun j hj => by simp at hj, fun h => absurd rfl h⟩
  | a :: xz, ks, js, hr, hd, hk => by
    unfold Reps at hr
    obtain ⟨k, ks', j1, j2, rfl, h1, h2, rfl⟩ := hr
    have e1 := Rep.depths a k j1 h1 (fun j hj => hd j (List.mem_append_left _ hj))
    have e2 := Reps.depths (v := v) xz ks' j2 h2 (fun j hj => hd j (List.mem_append_right _ hj)) (fun z hz => hk z (List.mem_cons_of_mem _ hz))
    have hv : d k = v + 1 := by simpa using hk k (List.mem_cons_self ..)
    rw [Ast.depthL]
    refine ⟨fun j hj => ?_, fun _ => ?_⟩
    · rcases List.mem_append.1 hj with hj | hj
      · have := e1.1 j hj
        omega
      · have := e2.1 j hj
        omega
    · by_cases hle : Ast.depthL xz ≤ a.depth
      · obtain ⟨j, hj, he⟩ := e1.2
        exact ⟨j, List.mem_append_left _ hj, by omega⟩
      · have h0 : xz ≠ [] := fun h => by subst h; exact hle (by rw [Ast.depthL]; omega)
        obtain ⟨j, hj, he⟩ := e2.2 h0
        exact ⟨j, List.mem_append_right _ hj, by omega⟩
end
theorem kidsGo_some {N v : Nat} : ∀ (ks : List Int) (d : Nat → Nat) (m : List Nat), (∀ k ∈ ks, 0 ≤ k ∧ k < (N : Int) ∧ d k.toNat = 0) → (ks.map Int.toNat).Nodup → ∃ p, kidsGo N v ks d m = some p := by
  intro ks
  induction ks with
  | nil => intro d m _ _; exact ⟨_, rfl⟩
  | cons k ks ih =>
    intro d m h hn
    obtain ⟨h0, h1, h2⟩ := h k (List.mem_cons_self ..)
    rw [List.map_cons, List.nodup_cons] at hn
    rw [kidsGo, if_pos ⟨h0, h1, h2⟩]
    refine ih _ _ (fun z hz => ?_) hn.2
    obtain ⟨z0, z1, z2⟩ := h z (List.mem_cons_of_mem _ hz)
    refine ⟨z0, z1, ?_⟩
    have hne : z.toNat ≠ k.toNat := fun e => hn.1 (by rw [← e]; exact List.mem_map_of_mem hz)
    rw [upd_other _ _ hne]
    exact z2
theorem le_of_all : ∀ (N : Nat) (m : List Nat), (∀ j, j < N → j ∈ m) → N ≤ m.length := by
  intro N
  induction N with
  | zero => intro m _; exact Nat.zero_le _
  | succ N ih =>
    intro m h
    have hN := h N (Nat.lt_succ_self _)
    have h1 := ih (m.erase N) (fun j hj => (List.mem_erase_of_ne (by omega)).2 (h j (by omega)))
    rw [List.length_erase_of_mem hN] at h1
    have := List.length_pos_of_mem hN
    omega
structure Mono (a : Nat) (d : Nat → Nat) (m : List Nat) : Prop where
  le : m.Pairwise fun x y => d x ≤ d y
  top : ∀ i, m[a]? = some i → ∀ x ∈ m, d x ≤ d i + 1
theorem Mono.step {T : List Nd} {r a i : Nat} {d d' : Nat → Nat} {m m' : List Nat} (hh : Half T r a d m) (h : Mono a d m) (hi : m[a]? = some i) (e : kidsGo T.length (d i + 1) (kidsAt T i) d m = some (d', m')) : Mono (a + 1) d' m' := by
  obtain ⟨_, i2, i3, i4, _⟩ := kidsGo_inv (by omega) _ _ _ _ _ hh.inv e
  have hd0 : ∀ j ∈ m, d' j = d j := fun j hj => i3 j ((hh.inv.iff j).2 hj)
  have him : i ∈ m := List.mem_of_getElem? hi
  have hnew : ∀ y ∈ (kidsAt T i).map Int.toNat, d' y = d i + 1 := fun y hy => by
    obtain ⟨k, hk, rfl⟩ := List.mem_map.1 hy
    exact (i4 k hk).2.2
  have hp : m'.Pairwise fun x y => d' x ≤ d' y := by
    rw [i2, List.pairwise_append]
    refine ⟨?_, ?_, fun x hx y hy => ?_⟩
    · refine List.Pairwise.imp_of_mem (fun hx hy hxy => ?_) h.le
      rw [hd0 _ hx, hd0 _ hy]
      exact hxy
    · exact List.Pairwise.imp_of_mem (R := fun _ _ => True) (fun hx hy _ => by rw [hnew _ hx, hnew _ hy]; exact Nat.le_refl _) (List.pairwise_of_forall (fun _ _ => trivial))
    · rw [hd0 x hx, hnew y hy]
      exact h.top i hi x hx
  refine ⟨hp, fun i' hi' x hx => ?_⟩
  have hia : m'[a]? = some i := by rw [i2, List.getElem?_append_left (List.getElem?_eq_some_iff.1 hi).1]; exact hi
  have h1 : d' i ≤ d' i' := by
    obtain ⟨la, ea⟩ := List.getElem?_eq_some_iff.1 hia
    obtain ⟨lb, eb⟩ := List.getElem?_eq_some_iff.1 hi'
    have := List.pairwise_iff_getElem.1 hp a (a + 1) la lb (Nat.lt_succ_self _)
    rw [ea, eb] at this
    exact this
  rw [hd0 i him] at h1
  rw [i2] at hx
  rcases List.mem_append.1 hx with hx | hx
  · have := h.top i hi x hx
    rw [hd0 x hx]
    omega
  · rw [hnew x hx]
    omega
theorem bfs_rep {T : List Nd} {r : Nat} {js : List Nat} (hnd : (r :: js.flatMap (kidsN T)).Nodup) (hjs : js.Nodup) (hkid : ∀ i ∈ js, ∀ k ∈ kidsAt T i, 0 ≤ k ∧ k < (T.length : Int) ∧ k.toNat ∈ js) :
    ∀ (f a : Nat) (d : Nat → Nat) (m : List Nat), Half T r a d m → Mono a d m → (∀ j ∈ m, j ∈ js) → T.length + 1 ≤ f + a → ∃ d' m', bfs T f a d m = some (d', m') ∧ Half T r m'.length d' m' ∧ Mono m'.length d' m' ∧ ∀ j ∈ m', j ∈ js := by
  intro f
  induction f with
  | zero =>
    intro a d m h _ _ hf
    have := h.inv.len
    have := h.le
    omega
  | succ f ih =>
    intro a d m h hm hsub hf
    cases hi : m[a]? with
    | none =>
      have h1 : m.length ≤ a := List.getElem?_eq_none_iff.1 hi
      have h2 := h.le
      obtain rfl : a = m.length := by omega
      exact ⟨d, m, by rw [bfs, hi], h, hm, hsub⟩
    | some i =>
      have him := List.mem_of_getElem? hi
      have hij := hsub i him
      have hal := (List.getElem?_eq_some_iff.1 hi).1
      have hflat : ∀ k ∈ kidsAt T i, k.toNat ∈ kidsN T i := fun k hk => List.mem_map_of_mem hk
      have hz : ∀ k ∈ kidsAt T i, 0 ≤ k ∧ k < (T.length : Int) ∧ d k.toNat = 0 := fun k hk => by
        obtain ⟨k0, k1, _⟩ := hkid i hij k hk
        refine ⟨k0, k1, Classical.byContradiction fun hne => ?_⟩
        have hkm := (h.inv.iff _).1 hne
        rw [h.eq] at hkm
        rcases List.mem_cons.1 hkm with e | hkm
        · rw [List.nodup_cons] at hnd
          exact hnd.1 (List.mem_flatMap.2 ⟨i, hij, e ▸ hflat k hk⟩)
        · obtain ⟨i', hi', hx'⟩ := List.mem_flatMap.1 hkm
          rw [List.nodup_cons] at hnd
          have he : i = i' := nodup_flat hnd.2 hij (hsub i' (List.mem_of_mem_take hi')) (hflat k hk) hx' hjs
          subst he
          have hn := h.inv.nodup
          rw [← List.take_append_drop a m, List.nodup_append] at hn
          refine hn.2.2 i hi' i ?_ rfl
          rw [List.mem_iff_getElem?]
          exact ⟨0, by rw [List.getElem?_drop]; exact hi⟩
      have hnk : ((kidsAt T i).map Int.toNat).Nodup := nodup_part (List.nodup_cons.1 hnd).2 hij
      obtain ⟨⟨d', m'⟩, hp⟩ := kidsGo_some (v := d i + 1) (kidsAt T i) d m hz hnk
      obtain ⟨d2, m2, h1, h2⟩ := ih (a + 1) d' m' (h.step hi hp) (hm.step h hi hp) (fun j hj => by
        have := (kidsGo_inv (by omega) _ _ _ _ _ h.inv hp).2.1
        rw [this] at hj
        rcases List.mem_append.1 hj with hj | hj
        · exact hsub j hj
        · obtain ⟨k, hk, rfl⟩ := List.mem_map.1 hj
          exact (hkid i hij k hk).2.2) (by omega)
      refine ⟨d2, m2, ?_, h2⟩
      simp only [bfs, hi, hp]
      exact h1
end Go.Proofs.YtfpeecjafccfjaaGreatDoor
namespace Go.Proofs.YtfpeecjafccfjaaGreatDoor
mutual
theorem Rep.kids {T : List Nd} : ∀ (a : Ast) (i : Nat) (js : List Nat), Rep T a i js → ∀ j ∈ js, ∀ k ∈ kidsAt T j, 0 ≤ k ∧ k.toNat ∈ js
  | .mk h xz, i, js, hr => by
    unfold Rep at hr
    obtain ⟨x, js', hx, _, hs, rfl⟩ := hr
    have h1 := Reps.kids xz x.kids js' hs
    intro j hj k hk
    rcases List.mem_cons.1 hj with rfl | hj
    · rw [kids_of hx] at hk
      have := h1.1 k hk
      exact ⟨this.1, List.mem_cons_of_mem _ this.2⟩
    · have := h1.2 j hj k hk
      exact ⟨this.1, List.mem_cons_of_mem _ this.2⟩
theorem Reps.kids {T : List Nd} : ∀ (xz : List Ast) (ks : List Int) (js : List Nat), Reps T xz ks js → (∀ k ∈ ks, 0 ≤ k ∧ k.toNat ∈ js) ∧ ∀ j ∈ js, ∀ k ∈ kidsAt T j, 0 ≤ k ∧ k.toNat ∈ js
  | [], ks, js, hr => by
    unfold Reps at hr
    obtain ⟨rfl, rfl⟩ := hr
    exact ⟨fun k hk => by simp at hk, fun j hj => by simp at hj⟩
  | a :: xz, ks, js, hr => by
    unfold Reps at hr
    obtain ⟨k, ks', j1, j2, rfl, h1, h2, rfl⟩ := hr
    have e1 := Rep.kids a k j1 h1
    have e2 := Reps.kids xz ks' j2 h2
    refine ⟨fun z hz => ?_, fun j hj z hz => ?_⟩
    · rcases List.mem_cons.1 hz with rfl | hz
      · exact ⟨by omega, List.mem_append_left _ (by rw [Int.toNat_natCast]; exact h1.root.1)⟩
      · have := e2.1 z hz
        exact ⟨this.1, List.mem_append_right _ this.2⟩
    · rcases List.mem_append.1 hj with hj | hj
      · have := e1 j hj z hz
        exact ⟨this.1, List.mem_append_left _ this.2⟩
      · have := e2.2 j hj z hz
        exact ⟨this.1, List.mem_append_right _ this.2⟩
end
theorem pair_last {d : Nat → Nat} {m : List Nat} (h : m.Pairwise fun x y => d x ≤ d y) {x : Nat} (hx : x ∈ m) : d x ≤ d (m.getLastD 0) := by
  obtain ⟨i, hi, rfl⟩ := List.getElem_of_mem hx
  have hne : m ≠ [] := fun e => by subst e; exact absurd hi (Nat.not_lt_zero _)
  have hl : m.getLastD 0 = m[m.length - 1]'(by omega) := by
    rw [List.getLastD_eq_getLast?, List.getLast?_eq_getElem?, List.getElem?_eq_getElem (by omega)]
    rfl
  rw [hl]
  by_cases e : i = m.length - 1
  · subst e; exact Nat.le_refl _
  · exact List.pairwise_iff_getElem.1 h i (m.length - 1) hi (by omega) (by omega)
theorem deep_rep {T : List Nd} {r : Nat} {a : Ast} {js : List Nat} (h : Rep T a r js) (hn : js.Nodup) (hl : js.length = T.length) (hN : T.length ≤ 16384) : deepT T (r : Int) = a.depth := by
  obtain ⟨hrj, _, hrl⟩ := h.root
  have hlt := Rep.lt a r js h
  have hkid : ∀ i ∈ js, ∀ k ∈ kidsAt T i, 0 ≤ k ∧ k < (T.length : Int) ∧ k.toNat ∈ js := fun i hi k hk => by
    obtain ⟨k0, k1⟩ := Rep.kids a r js h i hi k hk
    have := hlt _ k1
    exact ⟨k0, by omega, k1⟩
  have hnd := (Rep.perm a r js h).nodup_iff.1 hn
  have hm0 : Mono 0 (upd (fun _ => 0) r 1) [r] := ⟨by simp, fun i hi x hx => by
    obtain rfl : r = i := by simpa using hi
    obtain rfl := List.mem_singleton.1 hx
    omega⟩
  obtain ⟨d, m, hb, hh, hm, hsub⟩ := bfs_rep hnd hn hkid (T.length + 1) 0 _ [r] (Half.start hrl) hm0 (fun j hj => by
    obtain rfl := List.mem_singleton.1 hj
    exact hrj) (by omega)
  have htk : m.take m.length = m := List.take_length
  have heq := hh.eq
  have hk := hh.kid
  rw [htk] at heq hk
  have hrm : r ∈ m := by rw [heq]; exact List.mem_cons_self ..
  have hcl : ∀ i ∈ m, ∀ k ∈ kidsAt T i, k.toNat ∈ m := fun i hi k hk => by
    rw [heq]
    exact List.mem_cons_of_mem _ (List.mem_flatMap.2 ⟨i, hi, List.mem_map_of_mem hk⟩)
  have hall := Rep.closed hcl a r js h hrm
  have hlen : m.length = T.length := by
    have h1 := hh.inv.len
    have h2 := le_of_all T.length m (fun j hj => hall j (nodup_all hn hlt hl hj))
    omega
  have e : deepT T (r : Int) = d (m.getLastD 0) := by
    unfold deepT
    rw [if_pos ⟨hN, by omega, by omega⟩, Int.toNat_natCast, hb]
    exact if_neg (by show ¬ m.length < T.length; omega)
  obtain ⟨h1, j, hj, he⟩ := Rep.depths (d := d) a r js h (fun j hj k hkk => (hk j (hall j hj) k hkk).2.2)
  have hroot := hh.root
  have hne : m ≠ [] := fun e => by rw [e] at hrm; simp at hrm
  have h2 := h1 _ (hsub _ (getLastD_mem m 0 hne))
  have h3 := pair_last hm.le (hall j hj)
  rw [e]
  omega
section
variable (fo : Nd → Bool) (ko : Int → Int → List Int → Bool) (so : Int → Int) (hd : Nd → List UInt8)
mutual
def Ast.ok : Ast → Bool
  | .mk h ks => decide (1 ≤ h.line) && fo h && ko h.kind h.num (ks.map fun k => so k.hd.kind) && Ast.okL ks
def Ast.okL : List Ast → Bool
  | [] => true
  | a :: xz => Ast.ok a && Ast.okL xz
end
mutual
def Ast.text : Ast → List UInt8
  | .mk h ks => hd h ++ Ast.textL ks ++ [41]
def Ast.textL : List Ast → List UInt8
  | [] => []
  | a :: xz => 32 :: Ast.text a ++ Ast.textL xz
end
variable {fo ko so hd}
theorem Reps.sorts {T : List Nd} : ∀ (xz : List Ast) (ks : List Int) (js : List Nat), Reps T xz ks js → (ks.map fun k => so (kindAt T k.toNat)) = xz.map fun k => so k.hd.kind := by
  intro xz
  induction xz with
  | nil =>
    intro ks js hr
    unfold Reps at hr
    obtain ⟨rfl, _⟩ := hr
    rfl
  | cons a xz ih =>
    intro ks js hr
    unfold Reps at hr
    obtain ⟨k, ks', j1, j2, rfl, h1, h2, rfl⟩ := hr
    rw [List.map_cons, List.map_cons, ih ks' j2 h2, Int.toNat_natCast, h1.root.2.1]
mutual
theorem Rep.all {T : List Nd} (hfo : ∀ x ks, fo { x with kids := ks } = fo x) : ∀ (a : Ast) (i : Nat) (js : List Nat), Rep T a i js → (Ast.ok fo ko so a = true ↔ ∀ j ∈ js, ∀ x, T[j]? = some x → nodeOk fo ko so T x = true)
  | .mk h xz, i, js, hr => by
    unfold Rep at hr
    obtain ⟨x, js', hx, he, hs, rfl⟩ := hr
    have h1 := Reps.all hfo xz x.kids js' hs
    have h2 : nodeOk fo ko so T x = (decide (1 ≤ h.line) && fo h && ko h.kind h.num (xz.map fun k => so k.hd.kind)) := by
      unfold nodeOk
      rw [Reps.sorts (so := so) xz x.kids js' hs]
      have e1 : x.line = h.line := by rw [he]
      have e2 : fo x = fo h := by rw [he, hfo]
      have e3 : x.kind = h.kind := by rw [he]
      have e4 : x.num = h.num := by rw [he]
      rw [e1, e2, e3, e4]
    rw [Ast.ok, Bool.and_eq_true, ← h2, h1]
    constructor
    · rintro ⟨a1, a2⟩ j hj y hy
      rcases List.mem_cons.1 hj with rfl | hj
      · obtain rfl := Option.some.inj (hx.symm.trans hy)
        exact a1
      · exact a2 j hj y hy
    · intro hall
      exact ⟨hall i (List.mem_cons_self ..) x hx, fun j hj y hy => hall j (List.mem_cons_of_mem _ hj) y hy⟩
theorem Reps.all {T : List Nd} (hfo : ∀ x ks, fo { x with kids := ks } = fo x) : ∀ (xz : List Ast) (ks : List Int) (js : List Nat), Reps T xz ks js → (Ast.okL fo ko so xz = true ↔ ∀ j ∈ js, ∀ x, T[j]? = some x → nodeOk fo ko so T x = true)
  | [], ks, js, hr => by
    unfold Reps at hr
    obtain ⟨_, rfl⟩ := hr
    rw [Ast.okL]
    exact ⟨fun _ j hj => by simp at hj, fun _ => rfl⟩
  | a :: xz, ks, js, hr => by
    unfold Reps at hr
    obtain ⟨k, ks', j1, j2, _, h1, h2, rfl⟩ := hr
    rw [Ast.okL, Bool.and_eq_true, Rep.all hfo a k j1 h1, Reps.all hfo xz ks' j2 h2]
    constructor
    · rintro ⟨a1, a2⟩ j hj y hy
      rcases List.mem_append.1 hj with hj | hj
      · exact a1 j hj y hy
      · exact a2 j hj y hy
    · intro hall
      exact ⟨fun j hj => hall j (List.mem_append_left _ hj), fun j hj => hall j (List.mem_append_right _ hj)⟩
end
theorem right_rep {T : List Nd} {r : Nat} {a : Ast} {js : List Nat} (hfo : ∀ x ks, fo { x with kids := ks } = fo x) (h : Rep T a r js) (hn : js.Nodup) (hl : js.length = T.length) (hN : T.length ≤ 16384) :
    rightT fo ko so T (r : Int) = (decide (a.depth ≤ 100) && decide (a.hd.kind = 18) && Ast.ok fo ko so a) := by
  have hd := deep_rep h hn hl hN
  obtain ⟨_, hk, _⟩ := h.root
  have hlt := Rep.lt a r js h
  have h0 : a.depth ≠ 0 := by cases a with | mk h ks => rw [Ast.depth]; omega
  have hall : T.all (nodeOk fo ko so T) = Ast.ok fo ko so a := by
    rw [Bool.eq_iff_iff, List.all_eq_true, Rep.all hfo a r js h]
    constructor
    · intro h1 j _ x hx
      exact h1 x (List.mem_of_getElem? hx)
    · intro h1 x hx
      obtain ⟨j, hj, rfl⟩ := List.getElem_of_mem hx
      exact h1 j (nodup_all hn hlt hl hj) _ (List.getElem?_eq_getElem hj)
  unfold rightT
  rw [hd, Int.toNat_natCast, hk, hall, decide_eq_true h0, Bool.true_and]
mutual
theorem Rep.text_ {T : List Nd} (hhd : ∀ x ks, hd { x with kids := ks } = hd x) : ∀ (a : Ast) (i : Nat) (js : List Nat), Rep T a i js → ∀ f, a.depth ≤ f → text hd T f i = Ast.text hd a
  | .mk h xz, i, js, hr, f, hf => by
    unfold Rep at hr
    obtain ⟨x, js', hx, he, hs, rfl⟩ := hr
    rw [Ast.depth] at hf
    match f, hf with
    | f + 1, hf =>
      rw [text_step hd hx, Reps.text_ hhd xz x.kids js' hs f (by omega), Ast.text, he, hhd]
theorem Reps.text_ {T : List Nd} (hhd : ∀ x ks, hd { x with kids := ks } = hd x) : ∀ (xz : List Ast) (ks : List Int) (js : List Nat), Reps T xz ks js → ∀ f, Ast.depthL xz ≤ f → (ks.flatMap fun k => 32 :: text hd T f k.toNat) = Ast.textL hd xz
  | [], ks, js, hr, f, _ => by
    unfold Reps at hr
    obtain ⟨rfl, _⟩ := hr
    rw [Ast.textL]
    rfl
  | a :: xz, ks, js, hr, f, hf => by
    unfold Reps at hr
    obtain ⟨k, ks', j1, j2, rfl, h1, h2, rfl⟩ := hr
    rw [Ast.depthL] at hf
    rw [List.flatMap_cons, Int.toNat_natCast, Rep.text_ hhd a k j1 h1 f (by omega), Reps.text_ hhd xz ks' j2 h2 f (by omega), Ast.textL]
end
mutual
theorem Ast.depth_le : ∀ a : Ast, a.depth ≤ a.size
  | .mk h ks => by
    rw [Ast.depth, Ast.size]
    have := Ast.depthL_le ks
    omega
theorem Ast.depthL_le : ∀ xz : List Ast, Ast.depthL xz ≤ Ast.sizeL xz
  | [] => by rw [Ast.depthL]; exact Nat.zero_le _
  | a :: xz => by
    rw [Ast.depthL, Ast.sizeL]
    have h1 := Ast.depth_le a
    have h2 := Ast.depthL_le xz
    omega
end
theorem print_rep {T : List Nd} {r : Nat} {a : Ast} {js : List Nat} (hfo : ∀ x ks, fo { x with kids := ks } = fo x) (hhd : ∀ x ks, hd { x with kids := ks } = hd x) (h : Rep T a r js) (hn : js.Nodup) (hl : js.length = T.length) (hN : T.length ≤ 16384) :
    printT fo ko so hd T (r : Int) = if (decide (a.depth ≤ 100) && decide (a.hd.kind = 18) && Ast.ok fo ko so a) = true then Ast.text hd a else [] := by
  unfold printT
  rw [right_rep hfo h hn hl hN, Int.toNat_natCast]
  have hd' : a.depth ≤ T.length + 1 := by
    have h1 := Ast.depth_le a
    have h2 := Rep.len a r js h
    omega
  rw [Rep.text_ hhd a r js h _ hd']
end
end Go.Proofs.YtfpeecjafccfjaaGreatDoor
namespace Go.Proofs.YtfpeecjafccfjaaGreatDoor
abbrev TkP := Int × Int × Int × List UInt8
inductive G (N : Type) (V : N → Type) (α : Type) : Type where
  | ret : α → G N V α
  | bad : G N V α
  | tok : (TkP → G N V α) → G N V α
  | look : (TkP → G N V α) → G N V α
  | call : (n : N) → (V n → G N V α) → G N V α
section
variable {N : Type} {V : N → Type} (body : ∀ n, G N V (V n))
inductive P : {α : Type} → G N V α → List TkP → Except Int (α × List TkP) → Prop
  | ret {α : Type} {a : α} {ts : List TkP} : P (.ret a) ts (.ok (a, ts))
  | bad {α : Type} {t : TkP} {ts : List TkP} : P (.bad : G N V α) (t :: ts) (.error t.2.1)
  | tok {α : Type} {f : TkP → G N V α} {t : TkP} {ts : List TkP} {r : Except Int (α × List TkP)} : P (f t) ts r → P (.tok f) (t :: ts) r
  | look {α : Type} {f : TkP → G N V α} {t : TkP} {ts : List TkP} {r : Except Int (α × List TkP)} : P (f t) (t :: ts) r → P (.look f) (t :: ts) r
  | call {α : Type} {n : N} {k : V n → G N V α} {ts ts' : List TkP} {v : V n} {r : Except Int (α × List TkP)} : P (body n) ts (.ok (v, ts')) → P (k v) ts' r → P (.call n k) ts r
  | callBad {α : Type} {n : N} {k : V n → G N V α} {ts : List TkP} {e : Int} : P (body n) ts (.error e) → P (.call n k) ts (.error e)
variable {body}
theorem P.one {α : Type} {g : G N V α} {ts : List TkP} {r r' : Except Int (α × List TkP)} (h : P body g ts r) (h' : P body g ts r') : r = r' := by
  induction h with
  | ret => cases h'; rfl
  | bad => cases h'; rfl
  | tok _ ih => cases h' with | tok h2 => exact ih h2
  | look _ ih => cases h' with | look h2 => exact ih h2
  | call _ _ ih1 ih2 =>
    cases h' with
    | call a b =>
      have e := ih1 a
      injection e with e
      injection e with e1 e2
      subst e1 e2
      exact ih2 b
    | callBad a => cases ih1 a
  | callBad _ ih =>
    cases h' with
    | call a b => cases ih a
    | callBad a =>
      have e := ih a
      injection e with e
      rw [e]
theorem P.tail {α : Type} {g : G N V α} {ts : List TkP} {r : Except Int (α × List TkP)} (h : P body g ts r) : ∀ a ts', r = .ok (a, ts') → ∃ c, ts = c ++ ts' := by
  induction h with
  | ret => rintro a ts' e; injection e with e; injection e with _ e2; exact ⟨[], by rw [e2]; rfl⟩
  | bad => intro a ts' e; cases e
  | @tok _ f t ts r _ ih => intro a ts' e; obtain ⟨c, hc⟩ := ih a ts' e; exact ⟨t :: c, by rw [hc]; rfl⟩
  | look _ ih => exact ih
  | call _ _ ih1 ih2 =>
    intro a ts' e
    obtain ⟨c1, h1⟩ := ih1 _ _ rfl
    obtain ⟨c2, h2⟩ := ih2 a ts' e
    exact ⟨c1 ++ c2, by rw [h1, h2, List.append_assoc]⟩
  | callBad _ _ => intro a ts' e; cases e
theorem P.line {α : Type} {g : G N V α} {ts : List TkP} {r : Except Int (α × List TkP)} (h : P body g ts r) : ∀ e, r = .error e → ∃ t ∈ ts, e = t.2.1 := by
  induction h with
  | ret => intro e h; cases h
  | @bad _ t ts => intro e h; injection h with h; exact ⟨t, List.mem_cons_self .., h.symm⟩
  | tok _ ih => intro e h; obtain ⟨t, ht, he⟩ := ih e h; exact ⟨t, List.mem_cons_of_mem _ ht, he⟩
  | look _ ih => exact ih
  | call h1 _ _ ih2 =>
    intro e h
    obtain ⟨c, hc⟩ := h1.tail _ _ rfl
    obtain ⟨t, ht, he⟩ := ih2 e h
    exact ⟨t, by rw [hc]; exact List.mem_append_right _ ht, he⟩
  | callBad _ ih => intro e h; injection h with h; obtain ⟨t, ht, he⟩ := ih _ rfl; exact ⟨t, ht, by rw [← h, he]⟩
theorem P.near {α : Type} {g : G N V α} {ts : List TkP} {r : Except Int (α × List TkP)} (h : P body g ts r) : ∀ (a : α) (us rs X Y : List TkP), ts = us ++ X → r = .ok (a, rs ++ X) → rs ≠ [] → P body g (us ++ Y) (.ok (a, rs ++ Y)) := by
  induction h with
  | ret =>
    intro a us rs X Y e1 e2 _
    injection e2 with e2
    injection e2 with e2 e3
    subst e2
    rw [e1] at e3
    obtain rfl := List.append_cancel_right e3
    exact .ret
  | bad => intro a us rs X Y _ e2 _; cases e2
  | @tok _ f t ts r h ih =>
    intro a us rs X Y e1 e2 hne
    subst e2
    obtain ⟨c, hc⟩ := h.tail _ _ rfl
    cases us with
    | nil =>
      have := congrArg List.length e1
      rw [hc] at this
      simp at this
      have hr : rs.length ≠ 0 := fun e => hne (List.eq_nil_of_length_eq_zero e)
      omega
    | cons u us =>
      injection e1 with e3 e4
      subst e3
      exact .tok (ih a us rs X Y e4 rfl hne)
  | @look _ f t ts r h ih =>
    intro a us rs X Y e1 e2 hne
    subst e2
    obtain ⟨c, hc⟩ := h.tail _ _ rfl
    cases us with
    | nil =>
      have e5 : ([] : List TkP) ++ X = c ++ rs ++ X := by rw [← e1, hc, List.append_assoc]
      have := congrArg List.length e5
      simp at this
      exact absurd (List.eq_nil_of_length_eq_zero (by omega)) hne
    | cons u us =>
      have e3 : t = u := by injection e1
      subst e3
      exact .look (ih a (t :: us) rs X Y e1 rfl hne)
  | @call _ n k ts ts' v r h1 h2 ih1 ih2 =>
    intro a us rs X Y e1 e2 hne
    subst e2
    obtain ⟨c1, hc1⟩ := h1.tail _ _ rfl
    obtain ⟨c2, hc2⟩ := h2.tail _ _ rfl
    have e3 : us ++ X = (c1 ++ (c2 ++ rs)) ++ X := by rw [← e1, hc1, hc2]; simp
    obtain rfl := List.append_cancel_right e3
    have hm : c2 ++ rs ≠ [] := fun e => hne (List.append_eq_nil_iff.1 e).2
    exact .call (ih1 v _ (c2 ++ rs) X Y e1 (by rw [hc2, List.append_assoc]) hm) (ih2 a (c2 ++ rs) rs X Y (by rw [hc2, List.append_assoc]) rfl hne)
  | callBad _ _ => intro a us rs X Y _ e2 _; cases e2
def Wp (Post : ∀ n, List TkP → V n → List TkP → Prop) {α : Type} : G N V α → List TkP → (α → List TkP → Prop) → Prop
  | .ret a, ts, Q => Q a ts
  | .bad, _, _ => True
  | .tok f, ts, Q => ∀ t ts', ts = t :: ts' → Wp Post (f t) ts' Q
  | .look f, ts, Q => ∀ t ts', ts = t :: ts' → Wp Post (f t) ts Q
  | .call n k, ts, Q => ∀ v ts', Post n ts v ts' → Wp Post (k v) ts' Q
theorem P.post {Post : ∀ n, List TkP → V n → List TkP → Prop} (hb : ∀ n ts, Wp Post (body n) ts (Post n ts)) {α : Type} {g : G N V α} {ts : List TkP} {r : Except Int (α × List TkP)} (h : P body g ts r) :
    ∀ a ts', r = .ok (a, ts') → ∀ Q : α → List TkP → Prop, Wp Post g ts Q → Q a ts' := by
  induction h with
  | ret =>
    intro a ts' e Q hq
    injection e with e
    injection e with e1 e2
    subst e1 e2
    exact hq
  | bad => intro a ts' e; cases e
  | tok _ ih => intro a ts' e Q hq; exact ih a ts' e Q (hq _ _ rfl)
  | look _ ih => intro a ts' e Q hq; exact ih a ts' e Q (hq _ _ rfl)
  | @call _ n k ts ts1 v r h1 h2 ih1 ih2 =>
    intro a ts' e Q hq
    exact ih2 a ts' e Q (hq v ts1 (ih1 v ts1 rfl _ (hb n ts)))
  | callBad _ _ => intro a ts' e; cases e
theorem P.holds {Post : ∀ n, List TkP → V n → List TkP → Prop} (hb : ∀ n ts, Wp Post (body n) ts (Post n ts)) {n : N} {ts ts' : List TkP} {v : V n} (h : P body (body n) ts (.ok (v, ts'))) : Post n ts v ts' :=
  h.post hb v ts' rfl _ (hb n ts)
end
end Go.Proofs.YtfpeecjafccfjaaGreatDoor
namespace Go.Proofs.YtfpeecjafccfjaaGreatDoor
def bts (l : List UInt8) : ByteArray := ⟨l.toArray⟩
def isW (s : List UInt8) (t : TkP) : Bool := (decide (t.1 = 2) || decide (t.1 = 5)) && decide (t.2.2.2 = s)
def wEnd : List UInt8 := [101, 110, 100]
def wElse : List UInt8 := [101, 108, 115, 101]
def wElseif : List UInt8 := [101, 108, 115, 101, 105, 102]
def wUntil : List UInt8 := [117, 110, 116, 105, 108]
def wReturn : List UInt8 := [114, 101, 116, 117, 114, 110]
def wBreak : List UInt8 := [98, 114, 101, 97, 107]
def wGoto : List UInt8 := [103, 111, 116, 111]
def wDo : List UInt8 := [100, 111]
def wWhile : List UInt8 := [119, 104, 105, 108, 101]
def wRepeat : List UInt8 := [114, 101, 112, 101, 97, 116]
def wIf : List UInt8 := [105, 102]
def wThen : List UInt8 := [116, 104, 101, 110]
def wFor : List UInt8 := [102, 111, 114]
def wIn : List UInt8 := [105, 110]
def wFunction : List UInt8 := [102, 117, 110, 99, 116, 105, 111, 110]
def wLocal : List UInt8 := [108, 111, 99, 97, 108]
def wNil : List UInt8 := [110, 105, 108]
def wTrue : List UInt8 := [116, 114, 117, 101]
def wFalse : List UInt8 := [102, 97, 108, 115, 101]
def wNot : List UInt8 := [110, 111, 116]
def wOr : List UInt8 := [111, 114]
def wAnd : List UInt8 := [97, 110, 100]
def wSelf : List UInt8 := [115, 101, 108, 102]
def endB (t : TkP) : Bool := decide (t.1 = 0) || isW wEnd t || isW wElse t || isW wElseif t || isW wUntil t
def nd (k l : Int) (ks : List Ast) : Ast := .mk ⟨k, l, 0, 0, ⟨#[]⟩, [], []⟩ ks
def ndS (k l : Int) (s : ByteArray) (ks : List Ast) : Ast := .mk ⟨k, l, 0, 0, s, [], []⟩ ks
def ndO (k l op : Int) (ks : List Ast) : Ast := .mk ⟨k, l, op, 0, ⟨#[]⟩, [], []⟩ ks
def ndN (k l n : Int) (ks : List Ast) : Ast := .mk ⟨k, l, 0, n, ⟨#[]⟩, [], []⟩ ks
def ndA (k l n : Int) (ns : List ByteArray) (ks : List Ast) : Ast := .mk ⟨k, l, 0, n, ⟨#[]⟩, ns, []⟩ ks
def binO (t : TkP) : Option (Int × Nat × Nat) :=
  if isW wOr t then some (19, 1, 2) else if isW wAnd t then some (18, 2, 3)
  else if isW [60] t then some (14, 3, 4) else if isW [62] t then some (16, 3, 4) else if isW [60, 61] t then some (15, 3, 4) else if isW [62, 61] t then some (17, 3, 4) else if isW [126, 61] t then some (13, 3, 4) else if isW [61, 61] t then some (12, 3, 4)
  else if isW [124] t then some (7, 4, 5) else if isW [126] t then some (8, 5, 6) else if isW [38] t then some (6, 6, 7)
  else if isW [60, 60] t then some (9, 7, 8) else if isW [62, 62] t then some (10, 7, 8) else if isW [46, 46] t then some (11, 8, 8)
  else if isW [43] t then some (1, 9, 10) else if isW [45] t then some (2, 9, 10)
  else if isW [42] t then some (3, 10, 11) else if isW [47, 47] t then some (4, 10, 11) else if isW [37] t then some (5, 10, 11) else none
def unaO (t : TkP) : Option Int := if isW [45] t then some 20 else if isW [126] t then some 21 else if isW wNot t then some 22 else if isW [35] t then some 23 else none
inductive NT where
  | blk | sts (l : List Ast) | ret (at_ : Int) | sta | els (l : List Ast) | loo (at_ : Int) | fnm (at_ : Int) | fnx (at_ : Int) (x : Ast) | loc (at_ : Int) | bdy (at_ : Int) (self : List ByteArray)
  | prm (l : List ByteArray) | nam | nmm (l : List ByteArray) | lst | lsm (l : List Ast) | tgs (at_ : Int) (l : List Ast) | suf | sfx (x : Ast) | arg | tbl (l : List Ast) | itm | exp (s : Nat) | lvm (s : Nat) (x : Ast) | una | lef
def VT : NT → Type
  | .sts _ | .els _ | .lst | .lsm _ | .arg | .tbl _ => List Ast
  | .prm _ => List ByteArray × Int
  | .nam | .nmm _ => List ByteArray
  | .blk | .ret _ | .sta | .loo _ | .fnm _ | .fnx _ _ | .loc _ | .bdy _ _ | .tgs _ _ | .suf | .sfx _ | .itm | .exp _ | .lvm _ _ | .una | .lef => Ast
abbrev GL (α : Type) := G NT VT α
def want {α : Type} (s : List UInt8) (k : TkP → GL α) : GL α := .look fun t => if isW s t then .tok k else .bad
def name {α : Type} (k : TkP → GL α) : GL α := .look fun t => if t.1 = 1 then .tok k else .bad
def take {α : Type} (s : List UInt8) (a b : GL α) : GL α := .look fun t => if isW s t then .tok fun _ => a else b
def bodyL : ∀ n : NT, GL (VT n)
  | .blk => .look fun t => .call (.sts []) fun (l : List Ast) => .ret (nd 18 t.2.1 l)
  | .sts l => .look fun t =>
      if endB t then .ret l
      else if isW wReturn t then .tok fun t => .call (.ret t.2.1) fun (x : Ast) => .ret (l ++ [x])
      else if isW [59] t then .tok fun _ => .call (.sts l) fun (l' : List Ast) => .ret l'
      else .call .sta fun (x : Ast) => .call (.sts (l ++ [x])) fun (l' : List Ast) => .ret l'
  | .ret at_ => .look fun t =>
      if endB t then .ret (nd 29 at_ [])
      else if isW [59] t then .tok fun _ => .ret (nd 29 at_ [])
      else .call .lst fun (l : List Ast) => take [59] (.ret (nd 29 at_ l)) (.ret (nd 29 at_ l))
  | .sta => .look fun t =>
      if isW [58, 58] t then .tok fun t => name fun n => want [58, 58] fun _ => .ret (ndS 32 t.2.1 (bts n.2.2.2) [])
      else if isW wBreak t then .tok fun t => .ret (nd 30 t.2.1 [])
      else if isW wGoto t then .tok fun t => name fun n => .ret (ndS 31 t.2.1 (bts n.2.2.2) [])
      else if isW wDo t then .tok fun t => .call .blk fun (b : Ast) => want wEnd fun _ => .ret (nd 22 t.2.1 [b])
      else if isW wWhile t then .tok fun t => .call (.exp 1) fun (e : Ast) => want wDo fun _ => .call .blk fun (b : Ast) => want wEnd fun _ => .ret (nd 23 t.2.1 [e, b])
      else if isW wRepeat t then .tok fun t => .call .blk fun (b : Ast) => want wUntil fun _ => .call (.exp 1) fun (e : Ast) => .ret (nd 24 t.2.1 [b, e])
      else if isW wIf t then .tok fun t => .call (.exp 1) fun (e : Ast) => want wThen fun _ => .call .blk fun (b : Ast) => .call (.els [e, b]) fun (l : List Ast) => .ret (nd 25 t.2.1 l)
      else if isW wFor t then .tok fun t => .call (.loo t.2.1) fun (x : Ast) => .ret x
      else if isW wFunction t then .tok fun t => .call (.fnm t.2.1) fun (x : Ast) => .ret x
      else if isW wLocal t then .tok fun t => .call (.loc t.2.1) fun (x : Ast) => .ret x
      else .call .suf fun (x : Ast) => if x.hd.kind = 9 ∨ x.hd.kind = 10 then .ret (nd 21 t.2.1 [x]) else .call (.tgs t.2.1 [x]) fun (y : Ast) => .ret y
  | .els l => .look fun t =>
      if isW wElseif t then .tok fun _ => .call (.exp 1) fun (e : Ast) => want wThen fun _ => .call .blk fun (b : Ast) => .call (.els (l ++ [e, b])) fun (l' : List Ast) => .ret l'
      else if isW wElse t then .tok fun _ => .call .blk fun (b : Ast) => want wEnd fun _ => .ret (l ++ [b])
      else want wEnd fun _ => .ret l
  | .loo at_ => .call .nam fun (ns : List ByteArray) => .look fun t =>
      if isW [61] t ∧ ns.length = 1 then .tok fun _ => .call (.exp 1) fun (a : Ast) => want [44] fun _ => .call (.exp 1) fun (b : Ast) => .look fun t =>
        if isW [44] t then .tok fun _ => .call (.exp 1) fun (c : Ast) => want wDo fun _ => .call .blk fun (d : Ast) => want wEnd fun _ => .ret (ndA 26 at_ 0 ns [a, b, c, d])
        else want wDo fun _ => .call .blk fun (d : Ast) => want wEnd fun _ => .ret (ndA 26 at_ 0 ns [a, b, d])
      else want wIn fun _ => .call .lst fun (l : List Ast) => want wDo fun _ => .call .blk fun (d : Ast) => want wEnd fun _ => .ret (ndA 27 at_ (l.length : Int) ns (l ++ [d]))
  | .fnm at_ => name fun n => .call (.fnx at_ (ndS 7 n.2.1 (bts n.2.2.2) [])) fun (x : Ast) => .ret x
  | .fnx at_ x => .look fun t =>
      if isW [46] t then .tok fun d => name fun n => .call (.fnx at_ (nd 8 d.2.1 [x, ndS 5 n.2.1 (bts n.2.2.2) []])) fun (y : Ast) => .ret y
      else if isW [58] t then .tok fun d => name fun n => .call (.bdy at_ [bts wSelf]) fun (f : Ast) => .ret (ndN 20 at_ 1 [nd 8 d.2.1 [x, ndS 5 n.2.1 (bts n.2.2.2) []], f])
      else .call (.bdy at_ []) fun (f : Ast) => .ret (ndN 20 at_ 1 [x, f])
  | .loc at_ => .look fun t =>
      if isW wFunction t then .tok fun f => name fun n => .call (.bdy f.2.1 []) fun (b : Ast) => .ret (ndA 28 at_ 0 [bts n.2.2.2] [b])
      else .call .nam fun (ns : List ByteArray) => .look fun t => if isW [61] t then .tok fun _ => .call .lst fun (l : List Ast) => .ret (ndA 19 at_ 0 ns l) else .ret (ndA 19 at_ 0 ns [])
  | .bdy at_ self => want [40] fun _ => .look fun t =>
      if isW [41] t then .tok fun _ => .call .blk fun (b : Ast) => want wEnd fun _ => .ret (ndA 11 at_ 0 self [b])
      else .call (.prm self) fun (p : List ByteArray × Int) => want [41] fun _ => .call .blk fun (b : Ast) => want wEnd fun _ => .ret (ndA 11 at_ p.2 p.1 [b])
  | .prm l => .look fun t =>
      if isW [46, 46, 46] t then .tok fun _ => .ret ((l, 1) : List ByteArray × Int)
      else name fun n => .look fun t => if isW [44] t then .tok fun _ => .call (.prm (l ++ [bts n.2.2.2])) fun (p : List ByteArray × Int) => .ret p else .ret ((l ++ [bts n.2.2.2], 0) : List ByteArray × Int)
  | .nam => name fun n => .call (.nmm [bts n.2.2.2]) fun (l : List ByteArray) => .ret l
  | .nmm l => .look fun t => if isW [44] t then .tok fun _ => name fun n => .call (.nmm (l ++ [bts n.2.2.2])) fun (l' : List ByteArray) => .ret l' else .ret l
  | .lst => .call (.exp 1) fun (e : Ast) => .call (.lsm [e]) fun (l : List Ast) => .ret l
  | .lsm l => .look fun t => if isW [44] t then .tok fun _ => .call (.exp 1) fun (e : Ast) => .call (.lsm (l ++ [e])) fun (l' : List Ast) => .ret l' else .ret l
  | .tgs at_ l => .look fun t =>
      if (l.getLastD (nd 0 0 [])).hd.kind = 7 ∨ (l.getLastD (nd 0 0 [])).hd.kind = 8 then
        if isW [44] t then .tok fun _ => .call .suf fun (x : Ast) => .call (.tgs at_ (l ++ [x])) fun (y : Ast) => .ret y
        else want [61] fun _ => .call .lst fun (m : List Ast) => .ret (ndN 20 at_ (l.length : Int) (l ++ m))
      else .bad
  | .suf => .look fun t =>
      if t.1 = 1 then .tok fun n => .call (.sfx (ndS 7 n.2.1 (bts n.2.2.2) [])) fun (x : Ast) => .ret x
      else if isW [40] t then .tok fun o => .call (.exp 1) fun (e : Ast) => want [41] fun _ => .call (.sfx (nd 14 o.2.1 [e])) fun (x : Ast) => .ret x
      else .bad
  | .sfx x => .look fun t =>
      if isW [46] t then .tok fun d => name fun n => .call (.sfx (nd 8 d.2.1 [x, ndS 5 n.2.1 (bts n.2.2.2) []])) fun (y : Ast) => .ret y
      else if isW [91] t then .tok fun d => .call (.exp 1) fun (e : Ast) => want [93] fun _ => .call (.sfx (nd 8 d.2.1 [x, e])) fun (y : Ast) => .ret y
      else if isW [58] t then .tok fun d => name fun n => .call .arg fun (l : List Ast) => .call (.sfx (ndS 10 d.2.1 (bts n.2.2.2) (x :: l))) fun (y : Ast) => .ret y
      else if isW [40] t || isW [123] t || decide (t.1 = 4) then .call .arg fun (l : List Ast) => .call (.sfx (nd 9 t.2.1 (x :: l))) fun (y : Ast) => .ret y
      else .ret x
  | .arg => .look fun t =>
      if t.1 = 4 then .tok fun s => .ret ([ndS 5 s.2.1 (bts s.2.2.2) []] : List Ast)
      else if isW [123] t then .tok fun o => .call (.tbl []) fun (l : List Ast) => .ret ([nd 15 o.2.1 l] : List Ast)
      else want [40] fun _ => .look fun t => if isW [41] t then .tok fun _ => .ret ([] : List Ast) else .call .lst fun (l : List Ast) => want [41] fun _ => .ret l
  | .tbl l => .look fun t =>
      if isW [125] t then .tok fun _ => .ret l
      else .call .itm fun (x : Ast) => .look fun t => if isW [44] t || isW [59] t then .tok fun _ => .call (.tbl (l ++ [x])) fun (l' : List Ast) => .ret l' else want [125] fun _ => .ret (l ++ [x])
  | .itm => .look fun t =>
      if isW [91] t then .tok fun _ => .call (.exp 1) fun (k : Ast) => want [93] fun _ => want [61] fun _ => .call (.exp 1) fun (e : Ast) => .ret (nd 17 t.2.1 [k, e])
      else .call (.exp 1) fun (e : Ast) => .look fun u =>
        if isW [61] u ∧ e.hd.kind = 7 then .tok fun _ => .call (.exp 1) fun (v : Ast) => .ret (nd 17 t.2.1 [ndS 5 t.2.1 e.hd.s [], v])
        else .ret (nd 16 t.2.1 [e])
  | .exp s => .call .una fun (x : Ast) => .call (.lvm s x) fun (y : Ast) => .ret y
  | .lvm s x => .look fun t => match binO t with
      | some o => if s ≤ o.2.1 then .tok fun d => .call (.exp o.2.2) fun (y : Ast) => .call (.lvm s (ndO 12 d.2.1 o.1 [x, y])) fun (z : Ast) => .ret z else .ret x
      | none => .ret x
  | .una => .look fun t => match unaO t with
      | some o => .tok fun d => .call .una fun (x : Ast) => .ret (ndO 13 d.2.1 o [x])
      | none => .call .lef fun (x : Ast) => .ret x
  | .lef => .look fun t =>
      if isW wNil t then .tok fun t => .ret (nd 1 t.2.1 [])
      else if isW wTrue t then .tok fun t => .ret (nd 2 t.2.1 [])
      else if isW wFalse t then .tok fun t => .ret (nd 3 t.2.1 [])
      else if isW [46, 46, 46] t then .tok fun t => .ret (nd 6 t.2.1 [])
      else if isW wFunction t then .tok fun t => .call (.bdy t.2.1 []) fun (f : Ast) => .ret f
      else if isW [123] t then .tok fun t => .call (.tbl []) fun (l : List Ast) => .ret (nd 15 t.2.1 l)
      else if t.1 = 3 then .tok fun t => .ret (ndN 4 t.2.1 t.2.2.1 [])
      else if t.1 = 4 then .tok fun t => .ret (ndS 5 t.2.1 (bts t.2.2.2) [])
      else .call .suf fun (x : Ast) => .ret x
def srcL : GL Ast := .call .blk fun (b : Ast) => .look fun t => if t.1 = 0 then .ret b else .bad
abbrev PL {α : Type} (g : GL α) (ts : List TkP) (r : Except Int (α × List TkP)) : Prop := P bodyL g ts r
end Go.Proofs.YtfpeecjafccfjaaGreatDoor
namespace Go.Proofs.YtfpeecjafccfjaaGreatDoor
def dgv (c : Nat) : Nat := if 48 ≤ c ∧ c ≤ 57 then c - 48 else if 97 ≤ c ∧ c ≤ 122 then c - 87 else if 65 ≤ c ∧ c ≤ 90 then c - 55 else 36
def val (b : Nat) (l : List UInt8) : Nat := l.foldl (fun n c => n * b + dgv c.toNat) 0
theorem val_snoc (b : Nat) (l : List UInt8) (c : UInt8) : val b (l ++ [c]) = val b l * b + dgv c.toNat := by simp [val]
def allD (b : Nat) (l : List UInt8) : Bool := l.all fun c => decide (dgv c.toNat < b)
def okD (b : Nat) (l : List UInt8) : Bool := !l.isEmpty && allD b l
theorem allD_snoc (b : Nat) (l : List UInt8) (c : UInt8) : allD b (l ++ [c]) = (allD b l && decide (dgv c.toNat < b)) := by simp [allD]
theorem allD_of_mem {b : Nat} {l : List UInt8} {c : UInt8} (h : c ∈ l) (hc : b ≤ dgv c.toNat) : allD b l = false := by
  unfold allD
  rw [List.all_eq_false]
  exact ⟨c, h, by simpa using hc⟩
def whN (b : Nat) (l : List UInt8) : Nat := if okD b l then val b l % 18446744073709551616 else 0
theorem whN_no {b : Nat} {l : List UInt8} (h : okD b l = false) : whN b l = 0 := by unfold whN; simp [h]
theorem whN_ok {b : Nat} {l : List UInt8} (h : okD b l = true) : whN b l = val b l % 18446744073709551616 := by unfold whN; simp [h]
theorem take_snoc (s : ByteArray) (k : Nat) (h : k < s.size) : s.data.toList.take (k + 1) = s.data.toList.take k ++ [s[k]] := by
  rw [List.take_succ_eq_append_getElem (by simpa using h)]; rfl
theorem get_mem (s : ByteArray) (k : Nat) (h : k < s.size) : s[k] ∈ s.data.toList := List.getElem_mem (l := s.data.toList) (n := k) (by simpa using h)
def blanks : List UInt8 := [9, 10, 11, 12, 13, 32]
def blkB (c : Nat) : Bool := decide (9 ≤ c ∧ c ≤ 13) || decide (c = 32)
theorem u8_all {P : UInt8 → Prop} (h : ∀ i : Fin 256, P (UInt8.ofNat i.val)) (c : UInt8) : P c := by
  have := h ⟨c.toNat, c.toNat_lt⟩
  simpa using this
theorem blanks_has : ∀ c : UInt8, blanks.contains c = blkB c.toNat := u8_all (by decide +kernel)
def trm (l : List UInt8) : List UInt8 := Lib.trimS l blanks
theorem dropWhile_snoc {p : UInt8 → Bool} (l : List UInt8) (c : UInt8) : (l ++ [c]).dropWhile p = if l.dropWhile p = [] then (if p c then [] else [c]) else l.dropWhile p ++ [c] := by
  induction l with
  | nil => simp [List.dropWhile]; cases p c <;> simp
  | cons a t ih =>
    by_cases h : p a = true
    · simp only [List.cons_append, List.dropWhile, h]
      exact ih
    · simp [List.dropWhile, h]
theorem dw_nil {p : UInt8 → Bool} (l : List UInt8) : l.dropWhile p = [] ↔ ∀ x ∈ l, p x = true := by
  induction l with
  | nil => simp
  | cons a t ih =>
    cases h : p a
    · simp [List.dropWhile, h]
    · simp [List.dropWhile, h, ih]
theorem dropWhile_rev_nil {p : UInt8 → Bool} (l : List UInt8) : l.reverse.dropWhile p = [] → l.dropWhile p = [] := by
  intro h
  rw [dw_nil] at h ⊢
  intro x hx
  exact h x (by simpa using hx)
theorem trim_both {p : UInt8 → Bool} (l : List UInt8) : (l.reverse.dropWhile p).reverse.dropWhile p = ((l.dropWhile p).reverse.dropWhile p).reverse := by
  induction l with
  | nil => rfl
  | cons c t ih =>
    rw [List.reverse_cons, dropWhile_snoc]
    by_cases h0 : t.reverse.dropWhile p = []
    · rw [if_pos h0]
      have h1 := dropWhile_rev_nil t h0
      cases hc : p c
      · simp [List.dropWhile, hc, dropWhile_snoc, h0]
      · simp [List.dropWhile, hc, h1]
    · rw [if_neg h0]
      cases hc : p c
      · simp [List.dropWhile, hc, dropWhile_snoc, h0]
      · simp [List.dropWhile, hc, ih]
theorem trm_other (l : List UInt8) : Lib.trimRightS (Lib.trimLeftS l blanks) blanks = trm l := (trim_both l).symm
theorem trm_le (l : List UInt8) : (trm l).length ≤ l.length := by
  rw [← trm_other]
  unfold Lib.trimRightS Lib.trimLeftS
  rw [List.length_reverse]
  have h1 := (List.dropWhile_sublist (fun x => blanks.contains x) (l := (List.dropWhile (fun x => blanks.contains x) l).reverse)).length_le
  have h2 := (List.dropWhile_sublist (fun x => blanks.contains x) (l := l)).length_le
  rw [List.length_reverse] at h1
  omega
end Go.Proofs.YtfpeecjafccfjaaGreatDoor
namespace Go.Proofs.YtfpeecjafccfjaaGreatDoor
def hexB (l : List UInt8) : Bool := Lib.hasPrefix l [48, 120] || Lib.hasPrefix l [48, 88]
def decO (most : Int) (l : List UInt8) : Bool := okD 10 l && decide ((val 10 l : Int) ≤ most)
def decN (most : Int) (l : List UInt8) : Nat := if decO most l then val 10 l else 0
def numO (most : Int) (l : List UInt8) : Bool := if hexB l then okD 16 (l.drop 2) else decO most l
def numN (most : Int) (l : List UInt8) : Nat := if hexB l then whN 16 (l.drop 2) else decN most l
def sgn (n : Int) : Int := (n + 9223372036854775808) % 18446744073709551616 - 9223372036854775808
def minB (l : List UInt8) : Bool := Lib.hasPrefix l [45]
def basO (b : Int) (l : List UInt8) : Bool := if 2 ≤ b ∧ b ≤ 36 then okD b.toNat (Lib.trimPrefix (trm l) [45]) else false
def basN (b : Int) (l : List UInt8) : Int := if 2 ≤ b ∧ b ≤ 36 then (if minB (trm l) then sgn (-(whN b.toNat (Lib.trimPrefix (trm l) [45]) : Int)) else sgn (whN b.toNat (Lib.trimPrefix (trm l) [45]) : Int)) else 0
theorem val_zero (l : List UInt8) : val 10 (48 :: l) = val 10 l := rfl
theorem val_ge_foldl (l : List UInt8) : ∀ n : Nat, n * 10 ^ l.length ≤ l.foldl (fun n c => n * 10 + dgv c.toNat) n := by
  induction l with
  | nil => intro n; simp
  | cons c t ih =>
    intro n
    have h := ih (n * 10 + dgv c.toNat)
    rw [List.foldl_cons, List.length_cons, Nat.pow_succ]
    refine Nat.le_trans ?_ h
    rw [Nat.add_mul, show n * (10 ^ t.length * 10) = n * 10 * 10 ^ t.length by rw [Nat.mul_assoc, Nat.mul_comm 10]]
    exact Nat.le_add_right _ _
theorem val_lt_foldl (l : List UInt8) (h : allD 10 l = true) : ∀ n m : Nat, n < m → l.foldl (fun n c => n * 10 + dgv c.toNat) n < m * 10 ^ l.length := by
  induction l with
  | nil => intro n m h; simpa using h
  | cons c t ih =>
    intro n m hm
    simp only [allD, List.all_cons, Bool.and_eq_true, decide_eq_true_eq] at h
    have hh := ih h.2 (n * 10 + dgv c.toNat) (m * 10) (by omega)
    rw [List.foldl_cons, List.length_cons, Nat.pow_succ, Nat.mul_comm (10 ^ t.length), ← Nat.mul_assoc]
    exact hh
theorem val_trim (l : List UInt8) : val 10 (Lib.trimLeftB l 48) = val 10 l := by
  unfold Lib.trimLeftB
  induction l with
  | nil => rfl
  | cons c t ih =>
    by_cases h : c = 48
    · subst h
      rw [val_zero, List.dropWhile, show ((48 : UInt8) == 48) = true from rfl]
      exact ih
    · rw [List.dropWhile, show (c == 48) = false by simpa using h]
theorem allD_trim {l : List UInt8} (h : allD 10 l = true) : allD 10 (Lib.trimLeftB l 48) = true := by
  unfold allD at *
  rw [List.all_eq_true] at *
  exact fun x hx => h x ((List.dropWhile_sublist _).subset hx)
theorem short_val {l : List UInt8} (h : allD 10 l = true) (hl : (Lib.trimLeftB l 48).length ≤ 19) : val 10 l < 10000000000000000000 := by
  rw [← val_trim]
  have := val_lt_foldl _ (allD_trim h) 0 1 (by omega)
  rw [Nat.one_mul] at this
  have h2 : 10 ^ (Lib.trimLeftB l 48).length ≤ 10 ^ 19 := Nat.pow_le_pow_right (by omega) hl
  have h3 : (10 : Nat) ^ 19 = 10000000000000000000 := by decide
  unfold val
  omega
theorem trim_head (l : List UInt8) : ∀ c t, Lib.trimLeftB l 48 = c :: t → c ≠ 48 := by
  unfold Lib.trimLeftB
  induction l with
  | nil => intro c t h; cases h
  | cons a r ih =>
    intro c t h
    by_cases e : a = 48
    · subst e
      rw [List.dropWhile, show ((48 : UInt8) == 48) = true from rfl] at h
      exact ih c t h
    · rw [List.dropWhile, show (a == 48) = false by simpa using e] at h
      injection h with h1 h2
      exact h1 ▸ e
theorem dgv_pos {c : UInt8} (h : dgv c.toNat < 10) (hc : c ≠ 48) : 1 ≤ dgv c.toNat := by
  have hn : c.toNat ≠ 48 := fun e => hc (UInt8.toNat_inj.1 e)
  unfold dgv at *
  split at h
  · rename_i hh; rw [if_pos hh]; omega
  · split at h
    · omega
    · split at h <;> omega
theorem long_val {l : List UInt8} (h : allD 10 l = true) (hl : 19 < (Lib.trimLeftB l 48).length) : 10000000000000000000 ≤ val 10 l := by
  rw [← val_trim]
  have ha := allD_trim h
  have hh := trim_head l
  generalize Lib.trimLeftB l 48 = m at *
  cases m with
  | nil => simp at hl
  | cons c t =>
    simp only [allD, List.all_cons, Bool.and_eq_true, decide_eq_true_eq] at ha
    have h1 := dgv_pos ha.1 (hh c t rfl)
    have h2 := val_ge_foldl t (dgv c.toNat)
    have h3 : 10 ^ 19 ≤ 10 ^ t.length := Nat.pow_le_pow_right (by omega) (by simp at hl; omega)
    have h4 : 1 * 10 ^ t.length ≤ dgv c.toNat * 10 ^ t.length := Nat.mul_le_mul_right _ h1
    have h5 : (10 : Nat) ^ 19 = 10000000000000000000 := by decide
    have h6 : val 10 (c :: t) = t.foldl (fun n c => n * 10 + dgv c.toNat) (dgv c.toNat) := by simp [val]
    rw [h6]
    omega
theorem ok_all {b : Nat} {l : List UInt8} (h : okD b l = true) : allD b l = true := by
  unfold okD at h
  rw [Bool.and_eq_true] at h
  exact h.2
theorem dec_short {l : List UInt8} (ho : okD 10 l = true) (hl : (Lib.trimLeftB l 48).length ≤ 19) : whN 10 l = val 10 l := by
  have := short_val (ok_all ho) hl
  rw [whN_ok ho]
  omega
theorem decO_not {m : Int} {l : List UInt8} (ho : okD 10 l = false) : decO m l = false := by unfold decO; rw [ho]; rfl
theorem decO_long {m : Int} {l : List UInt8} (hm : m ≤ 9223372036854775808) (ho : okD 10 l = true) (hl : 19 < (Lib.trimLeftB l 48).length) : decO m l = false := by
  have := long_val (ok_all ho) hl
  unfold decO
  rw [ho, Bool.true_and, decide_eq_false_iff_not]
  omega
theorem decO_is {m : Int} {l : List UInt8} (ho : okD 10 l = true) (h : (val 10 l : Int) ≤ m) : decO m l = true := by unfold decO; rw [ho, Bool.true_and, decide_eq_true_eq]; exact h
theorem decO_more {m : Int} {l : List UInt8} (h : m < (val 10 l : Int)) : decO m l = false := by unfold decO; rw [Bool.and_eq_false_iff, decide_eq_false_iff_not]; right; omega
theorem decN_no {m : Int} {l : List UInt8} (h : decO m l = false) : decN m l = 0 := by unfold decN; simp [h]
theorem decN_is {m : Int} {l : List UInt8} (h : decO m l = true) : decN m l = val 10 l := by unfold decN; simp [h]
end Go.Proofs.YtfpeecjafccfjaaGreatDoor
namespace Go.Proofs.YtfpeecjafccfjaaGreatDoor
def blB (c : UInt8) : Bool := blkB c.toNat
def ltB (c : UInt8) : Bool := decide (97 ≤ c.toNat ∧ c.toNat ≤ 122) || decide (65 ≤ c.toNat ∧ c.toNat ≤ 90) || decide (c.toNat = 95)
def dgB (c : UInt8) : Bool := decide (48 ≤ c.toNat ∧ c.toNat ≤ 57)
def hxB (c : UInt8) : Bool := dgB c || decide (97 ≤ c.toNat ∧ c.toNat ≤ 102) || decide (65 ≤ c.toNat ∧ c.toNat ≤ 70)
def nmB (c : UInt8) : Bool := ltB c || dgB c
def nuB (c : UInt8) : Bool := nmB c || decide (c.toNat = 46)
def quB (c : UInt8) : Bool := decide (c.toNat = 39) || decide (c.toNat = 34)
def runN (p : UInt8 → Bool) (l : List UInt8) : Nat := (l.takeWhile p).length
theorem take_run (p : UInt8 → Bool) (l : List UInt8) : l.take (runN p l) = l.takeWhile p := by
  unfold runN
  induction l with
  | nil => rfl
  | cons a t ih => cases h : p a <;> simp [h, ih]
theorem drop_run (p : UInt8 → Bool) (l : List UInt8) : l.drop (runN p l) = l.dropWhile p := by
  unfold runN
  induction l with
  | nil => rfl
  | cons a t ih => cases h : p a <;> simp [h, ih]
theorem run_le (p : UInt8 → Bool) (l : List UInt8) : runN p l ≤ l.length := by
  unfold runN
  exact (List.takeWhile_sublist p (l := l)).length_le
def nl (l : List UInt8) : Nat := Lib.countByte l 10
theorem nl_nil : nl [] = 0 := rfl
theorem nl_app (a b : List UInt8) : nl (a ++ b) = nl a + nl b := by unfold nl Lib.countByte; rw [List.count_append]
theorem nl_cut (l : List UInt8) (k : Nat) : nl l = nl (l.take k) + nl (l.drop k) := by rw [← nl_app, List.take_append_drop]
theorem nl_le (l : List UInt8) : nl l ≤ l.length := List.count_le_length
def keys : List (List UInt8) := [[97, 110, 100], [98, 114, 101, 97, 107], [100, 111], [101, 108, 115, 101], [101, 108, 115, 101, 105, 102], [101, 110, 100], [102, 97, 108, 115, 101], [102, 111, 114], [102, 117, 110, 99, 116, 105, 111, 110], [103, 111, 116, 111], [105, 102], [105, 110], [108, 111, 99, 97, 108], [110, 105, 108], [110, 111, 116], [111, 114], [114, 101, 112, 101, 97, 116], [114, 101, 116, 117, 114, 110], [116, 104, 101, 110], [116, 114, 117, 101], [117, 110, 116, 105, 108], [119, 104, 105, 108, 101]]
def wordB (l : List UInt8) : Bool := keys.contains l
def signs : List (List UInt8) := [[43], [45], [42], [47, 47], [37], [38], [124], [126], [60, 60], [62, 62], [46, 46], [46, 46, 46], [61, 61], [126, 61], [60], [60, 61], [62], [62, 61], [61], [40], [41], [123], [125], [91], [93], [59], [58], [58, 58], [44], [46], [35]]
def sgnB (l : List UInt8) : Bool := signs.contains l
def opn (l : List UInt8) : Nat :=
  if Lib.hasPrefix l [91] then (if Lib.hasPrefix (Lib.trimLeftB (l.drop 1) 61) [91] then l.length - ((Lib.trimLeftB (l.drop 1) 61).drop 1).length else 0) else 0
def clo (x : List UInt8) : List UInt8 := Lib.replaceAll x [91] [93]
def brk (l : List UInt8) : Option (List UInt8 × List UInt8) :=
  if (Lib.cut (l.drop (opn l)) (clo (l.take (opn l)))).2.2 then some (Lib.trimPrefix (Lib.cut (l.drop (opn l)) (clo (l.take (opn l)))).1 [10], (Lib.cut (l.drop (opn l)) (clo (l.take (opn l)))).2.1) else none
def comm (l : List UInt8) : Option (List UInt8) :=
  if 0 < opn l then (brk l).map (·.2) else some (l.drop (Lib.cut l [10]).1.length)
inductive Skip : List UInt8 → Except (List UInt8) (List UInt8) → Prop
  | done {l r : List UInt8} : l.dropWhile blB = r → Lib.hasPrefix r [45, 45] = false → Skip l (.ok r)
  | more {l r r' : List UInt8} {o : Except (List UInt8) (List UInt8)} : l.dropWhile blB = 45 :: 45 :: r → comm r = some r' → Skip r' o → Skip l o
  | bad {l r : List UInt8} : l.dropWhile blB = 45 :: 45 :: r → comm r = none → Skip l (.error (45 :: 45 :: r))
def code (b : Int) (p : UInt8 → Bool) (least most : Nat) (l : List UInt8) : Option (List UInt8 × List UInt8) :=
  if basO b (l.take (min most (runN p l))) = true ∧ least ≤ min most (runN p l) ∧ basN b (l.take (min most (runN p l))) ≤ 255 then
    some ([UInt8.ofNat (basN b (l.take (min most (runN p l)))).toNat], l.drop (min most (runN p l))) else none
def lett (c : UInt8) : Option UInt8 :=
  if c.toNat = 97 then some 7 else if c.toNat = 98 then some 8 else if c.toNat = 102 then some 12 else if c.toNat = 110 then some 10 else if c.toNat = 114 then some 13 else if c.toNat = 116 then some 9 else if c.toNat = 118 then some 11 else none
def selfB (c : UInt8) : Bool := decide (c.toNat = 92) || decide (c.toNat = 39) || decide (c.toNat = 34) || decide (c.toNat = 10)
def escC (c : UInt8) (r : List UInt8) : Option (List UInt8 × List UInt8) :=
  match lett c with
  | some x => some ([x], r)
  | none => if selfB c then some ([c], r) else if c.toNat = 122 then some ([], r.dropWhile blB) else if c.toNat = 120 then code 16 hxB 2 2 r else if dgB c then code 10 dgB 1 3 (c :: r) else none
def esc : List UInt8 → Option (List UInt8 × List UInt8)
  | [] => none
  | c :: r => escC c r
inductive Quo (q : UInt8) : List UInt8 → Option (List UInt8 × List UInt8) → Prop
  | shut {r : List UInt8} : Quo q (q :: r) (some ([], r))
  | none : Quo q [] none
  | line {r : List UInt8} : q ≠ 10 → Quo q (10 :: r) none
  | esc {r m r' : List UInt8} {o : Option (List UInt8 × List UInt8)} : q ≠ 92 → esc r = some (m, r') → Quo q r' o → Quo q (92 :: r) (o.map fun x => (m ++ x.1, x.2))
  | bad {r : List UInt8} : q ≠ 92 → Go.Proofs.YtfpeecjafccfjaaGreatDoor.esc r = Option.none → Quo q (92 :: r) Option.none
  | byte {c : UInt8} {r : List UInt8} {o : Option (List UInt8 × List UInt8)} : c ≠ q → c ≠ 10 → c ≠ 92 → Quo q r o → Quo q (c :: r) (o.map fun x => (c :: x.1, x.2))
def sign (l : List UInt8) : Option (List UInt8 × List UInt8) :=
  if sgnB (l.take 3) then some (l.take 3, l.drop 3) else if sgnB (l.take 2) then some (l.take 2, l.drop 2) else if sgnB (l.take 1) then some (l.take 1, l.drop 1) else none
inductive Tok : List UInt8 → Option (Int × Int × List UInt8 × List UInt8) → Prop
  | eof : Tok [] (some (0, 0, [], []))
  | name {c : UInt8} {r : List UInt8} : ltB c = true → Tok (c :: r) (some (if wordB ((c :: r).takeWhile nmB) then 2 else 1, 0, (c :: r).takeWhile nmB, (c :: r).dropWhile nmB))
  | num {c : UInt8} {r : List UInt8} : ltB c = false → dgB c = true → numO 9223372036854775807 ((c :: r).takeWhile nuB) = true →
      Tok (c :: r) (some (3, sgn (numN 9223372036854775807 ((c :: r).takeWhile nuB) : Int), [], (c :: r).dropWhile nuB))
  | numBad {c : UInt8} {r : List UInt8} : ltB c = false → dgB c = true → numO 9223372036854775807 ((c :: r).takeWhile nuB) = false → Tok (c :: r) none
  | text {c : UInt8} {r : List UInt8} {o : Option (List UInt8 × List UInt8)} : ltB c = false → dgB c = false → quB c = true → Quo c r o → Tok (c :: r) (o.map fun x => (4, 0, x.1, x.2))
  | long {c : UInt8} {r : List UInt8} : ltB c = false → dgB c = false → quB c = false → 0 < opn (c :: r) → Tok (c :: r) ((brk (c :: r)).map fun x => (4, 0, x.1, x.2))
  | sign {c : UInt8} {r : List UInt8} : ltB c = false → dgB c = false → quB c = false → ¬ 0 < opn (c :: r) → Tok (c :: r) ((sign (c :: r)).map fun x => (5, 0, x.1, x.2))
abbrev Tk := Int × Int × Int × List UInt8
inductive LexR (L : Int) : List UInt8 → Except Int (List Tk) → Prop
  | skipBad {l r : List UInt8} : Skip l (.error r) → LexR L l (.error (L - nl r))
  | tokBad {l r : List UInt8} : Skip l (.ok r) → Tok r none → LexR L l (.error (L - nl r))
  | eof {l : List UInt8} : Skip l (.ok []) → LexR L l (.ok [(0, L, 0, [])])
  | step {l r r' s : List UInt8} {k n : Int} {o : Except Int (List Tk)} : Skip l (.ok r) → r ≠ [] → Tok r (some (k, n, s, r')) → LexR L r' o → LexR L l (o.map ((k, L - nl r, n, s) :: ·))
theorem Skip.det {l : List UInt8} {o : Except (List UInt8) (List UInt8)} (h : Skip l o) : ∀ {o'}, Skip l o' → o = o' := by
  induction h with
  | done h1 h2 =>
    intro o' h'
    cases h' with
    | done g1 g2 => rw [← h1, ← g1]
    | more g1 g2 g3 => rw [h1] at g1; subst g1; simp [Lib.hasPrefix] at h2
    | bad g1 g2 => rw [h1] at g1; subst g1; simp [Lib.hasPrefix] at h2
  | more h1 h2 h3 ih =>
    intro o' h'
    cases h' with
    | done g1 g2 => rw [h1] at g1; subst g1; simp [Lib.hasPrefix] at g2
    | more g1 g2 g3 =>
      rw [h1] at g1
      injection g1 with _ g1; injection g1 with _ g1
      subst g1
      rw [h2] at g2
      injection g2 with g2
      subst g2
      exact ih g3
    | bad g1 g2 =>
      rw [h1] at g1
      injection g1 with _ g1; injection g1 with _ g1
      subst g1
      rw [h2] at g2
      cases g2
  | bad h1 h2 =>
    intro o' h'
    cases h' with
    | done g1 g2 => rw [h1] at g1; subst g1; simp [Lib.hasPrefix] at g2
    | more g1 g2 g3 =>
      rw [h1] at g1
      injection g1 with _ g1; injection g1 with _ g1
      subst g1
      rw [h2] at g2
      cases g2
    | bad g1 g2 => rw [← h1, ← g1]
theorem Quo.det {q : UInt8} {l : List UInt8} {o : Option (List UInt8 × List UInt8)} (h : Quo q l o) : ∀ {o'}, Quo q l o' → o = o' := by
  induction h with
  | shut =>
    intro o' h'
    cases h' with
    | shut => rfl
    | line g => exact absurd rfl g
    | esc g => exact absurd rfl g
    | bad g => exact absurd rfl g
    | byte g => exact absurd rfl g
  | none => intro o' h'; cases h'; rfl
  | line h =>
    intro o' h'
    cases h' with
    | shut => exact absurd rfl h
    | line g => rfl
    | byte g1 g2 => exact absurd rfl g2
  | esc h1 h2 h3 ih =>
    intro o' h'
    cases h' with
    | shut => exact absurd rfl h1
    | esc g1 g2 g3 =>
      rw [h2] at g2
      injection g2 with g2
      injection g2 with a b
      subst a; subst b
      rw [ih g3]
    | bad g1 g2 => rw [h2] at g2; cases g2
    | byte g1 g2 g3 => exact absurd rfl g3
  | bad h1 h2 =>
    intro o' h'
    cases h' with
    | shut => exact absurd rfl h1
    | esc g1 g2 g3 => rw [h2] at g2; cases g2
    | bad g1 g2 => rfl
    | byte g1 g2 g3 => exact absurd rfl g3
  | byte h1 h2 h3 h4 ih =>
    intro o' h'
    cases h' with
    | shut => exact absurd rfl h1
    | line => exact absurd rfl h2
    | esc => exact absurd rfl h3
    | bad => exact absurd rfl h3
    | byte g1 g2 g3 g4 => rw [ih g4]
theorem Tok.det {l : List UInt8} {o : Option (Int × Int × List UInt8 × List UInt8)} (h : Tok l o) : ∀ {o'}, Tok l o' → o = o' := by
  intro o' h'
  cases h <;> cases h' <;> first | rfl | (simp_all; done) | skip
  rename_i a b c d e f g i j k
  rw [e.det k]
theorem LexR.det {L : Int} {l : List UInt8} {o : Except Int (List Tk)} (h : LexR L l o) : ∀ {o'}, LexR L l o' → o = o' := by
  induction h with
  | skipBad h1 =>
    intro o' h'
    cases h' with
    | skipBad g1 => cases h1.det g1; rfl
    | tokBad g1 => cases h1.det g1
    | eof g1 => cases h1.det g1
    | step g1 => cases h1.det g1
  | tokBad h1 h2 =>
    intro o' h'
    cases h' with
    | skipBad g1 => cases h1.det g1
    | tokBad g1 => cases h1.det g1; rfl
    | eof g1 => cases h1.det g1; cases h2
    | step g1 _ g3 => cases h1.det g1; cases h2.det g3
  | eof h1 =>
    intro o' h'
    cases h' with
    | skipBad g1 => cases h1.det g1
    | tokBad g1 g2 => cases h1.det g1; cases g2
    | eof g1 => rfl
    | step g1 g2 => cases h1.det g1; exact absurd rfl g2
  | step h1 h2 h3 h4 ih =>
    intro o' h'
    cases h' with
    | skipBad g1 => cases h1.det g1
    | tokBad g1 g2 => cases h1.det g1; cases h3.det g2
    | eof g1 => cases h1.det g1; exact absurd rfl h2
    | step g1 g2 g3 g4 =>
      cases h1.det g1
      cases h3.det g3
      rw [ih g4]
end Go.Proofs.YtfpeecjafccfjaaGreatDoor
