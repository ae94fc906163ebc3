/- Plain mathematics of trees: nodes put elsewhere; a tree in one more block. No program is named here. -/
import Derived.Test.YtjlpklhibdkmeaaGreatDoorTrM
namespace Go.Proofs.YtjlpklhibdkmeaaGreatDoor

/-! ### Elsewhere -/
def pi (N k i : Nat) : Nat := (i + k) % N
def mvKid (N k : Nat) (z : Int) : Int := if 0 ≤ z ∧ z < (N : Int) then ((pi N k z.toNat : Nat) : Int) else z
def mvNd (N k : Nat) (x : Nd) : Nd := { x with kids := x.kids.map (mvKid N k) }
structure Moved (T U : List Nd) (k : Nat) : Prop where
  len : U.length = T.length
  at_ : ∀ i, i < T.length → U[pi T.length k i]? = (T[i]?).map (mvNd T.length k)
theorem pi_lt {N : Nat} (k : Nat) {i : Nat} (h : i < N) : pi N k i < N := Nat.mod_lt _ (by omega)
theorem pi_inj {N k i j : Nat} (hi : i < N) (hj : j < N) (h : pi N k i = pi N k j) : i = j := by
  unfold pi at h
  have e1 := Nat.div_add_mod (i + k) N
  have e2 := Nat.div_add_mod (j + k) N
  rw [h] at e1
  have h3 : N * ((i + k) / N) = N * ((j + k) / N) + i - j ∨ N * ((j + k) / N) = N * ((i + k) / N) + j - i := by omega
  rcases Nat.lt_trichotomy ((i + k) / N) ((j + k) / N) with hlt | heq | hgt
  · have := Nat.mul_le_mul_left N (show (i + k) / N + 1 ≤ (j + k) / N from hlt)
    rw [Nat.mul_add] at this
    omega
  · rw [heq] at e1; omega
  · have := Nat.mul_le_mul_left N (show (j + k) / N + 1 ≤ (i + k) / N from hgt)
    rw [Nat.mul_add] at this
    omega
theorem pi_surj {N k j : Nat} (hj : j < N) : ∃ i, i < N ∧ pi N k i = j := by
  refine ⟨(j + (N - k % N)) % N, Nat.mod_lt _ (by omega), ?_⟩
  unfold pi
  have h1 := Nat.mod_lt k (show 0 < N by omega)
  rw [Nat.mod_add_mod, show j + (N - k % N) + k = j + N * (k / N + 1) by
    have := Nat.div_add_mod k N
    rw [Nat.mul_add]; omega, Nat.add_mul_mod_self_left, Nat.mod_eq_of_lt hj]
theorem mvKid_in {N k : Nat} {z : Int} (h : 0 ≤ z ∧ z < (N : Int)) : mvKid N k z = ((pi N k z.toNat : Nat) : Int) := if_pos h
theorem mvKid_out {N k : Nat} {z : Int} (h : ¬ (0 ≤ z ∧ z < (N : Int))) : mvKid N k z = z := if_neg h
theorem mvKid_valid {N k : Nat} {z : Int} : (0 ≤ mvKid N k z ∧ mvKid N k z < (N : Int)) ↔ (0 ≤ z ∧ z < (N : Int)) := by
  by_cases h : 0 ≤ z ∧ z < (N : Int)
  · rw [mvKid_in h]
    have := pi_lt k (show z.toNat < N by omega)
    constructor
    · intro _; exact h
    · intro _; omega
  · rw [mvKid_out h]
theorem Moved.kids {T U : List Nd} {k : Nat} (h : Moved T U k) {i : Nat} (hi : i < T.length) : kidsAt U (pi T.length k i) = (kidsAt T i).map (mvKid T.length k) := by
  unfold kidsAt
  rw [h.at_ i hi, List.getElem?_eq_getElem hi]
  rfl

theorem kidsGo_mv {N k v : Nat} : ∀ (ks : List Int) (d dU : Nat → Nat) (m : List Nat), (∀ i, i < N → dU (pi N k i) = d i) →
    (kidsGo N v ks d m = none ∧ kidsGo N v (ks.map (mvKid N k)) dU (m.map (pi N k)) = none) ∨
    ∃ d' dU' m', kidsGo N v ks d m = some (d', m') ∧ kidsGo N v (ks.map (mvKid N k)) dU (m.map (pi N k)) = some (dU', m'.map (pi N k)) ∧ ∀ i, i < N → dU' (pi N k i) = d' i := by
  intro ks
  induction ks with
  | nil => intro d dU m h; exact .inr ⟨d, dU, m, rfl, rfl, h⟩
  | cons z ks ih =>
    intro d dU m h
    by_cases hz : 0 ≤ z ∧ z < (N : Int)
    · have hz' : z.toNat < N := by omega
      have hp := pi_lt k hz'
      by_cases h0 : d z.toNat = 0
      · rcases ih (upd d z.toNat v) (upd dU (pi N k z.toNat) v) (m ++ [z.toNat]) (fun i hi => by
          by_cases e : i = z.toNat
          · subst e; rw [upd_same, upd_same]
          · rw [upd_other _ _ e, upd_other _ _ (fun e' => e (pi_inj hi hz' e')), h i hi]) with ⟨h1, h2⟩ | ⟨d', dU', m', h1, h2, h3⟩
        · left
          refine ⟨?_, ?_⟩
          · rw [kidsGo, if_pos ⟨hz.1, hz.2, h0⟩]; exact h1
          · rw [List.map_cons, mvKid_in hz, kidsGo, if_pos ⟨by omega, by omega, by rw [Int.toNat_natCast, h _ hz']; exact h0⟩, Int.toNat_natCast]
            rw [List.map_append] at h2; exact h2
        · right
          refine ⟨d', dU', m', ?_, ?_, h3⟩
          · rw [kidsGo, if_pos ⟨hz.1, hz.2, h0⟩]; exact h1
          · rw [List.map_cons, mvKid_in hz, kidsGo, if_pos ⟨by omega, by omega, by rw [Int.toNat_natCast, h _ hz']; exact h0⟩, Int.toNat_natCast]
            rw [List.map_append] at h2; exact h2
      · left
        refine ⟨?_, ?_⟩
        · rw [kidsGo, if_neg (fun hh => h0 hh.2.2)]
        · rw [List.map_cons, mvKid_in hz, kidsGo, if_neg (fun hh => h0 (by have := hh.2.2; rw [Int.toNat_natCast, h _ hz'] at this; exact this))]
    · left
      refine ⟨?_, ?_⟩
      · rw [kidsGo, if_neg (fun hh => hz ⟨hh.1, hh.2.1⟩)]
      · rw [List.map_cons, mvKid_out hz, kidsGo, if_neg (fun hh => hz ⟨hh.1, hh.2.1⟩)]
theorem kidsGo_lt {N v : Nat} : ∀ (ks : List Int) (d : Nat → Nat) (m : List Nat) (d' : Nat → Nat) (m' : List Nat), (∀ j ∈ m, j < N) → kidsGo N v ks d m = some (d', m') → ∀ j ∈ m', j < N := by
  intro ks
  induction ks with
  | nil =>
    intro d m d' m' h e
    obtain ⟨rfl, rfl⟩ : d = d' ∧ m = m' := by simpa [kidsGo] using e
    exact h
  | cons z ks ih =>
    intro d m d' m' h e
    rw [kidsGo] at e
    split at e
    · rename_i hz
      exact ih _ _ _ _ (fun j hj => by
        rcases List.mem_append.1 hj with hj | hj
        · exact h j hj
        · obtain rfl := List.mem_singleton.1 hj; omega) e
    · cases e
theorem bfs_mv {T U : List Nd} {k : Nat} (hm : Moved T U k) : ∀ (f a : Nat) (d dU : Nat → Nat) (m : List Nat), (∀ j ∈ m, j < T.length) → (∀ i, i < T.length → dU (pi T.length k i) = d i) →
    (bfs T f a d m = none ∧ bfs U f a dU (m.map (pi T.length k)) = none) ∨
    ∃ d' dU' m', bfs T f a d m = some (d', m') ∧ bfs U f a dU (m.map (pi T.length k)) = some (dU', m'.map (pi T.length k)) ∧ (∀ i, i < T.length → dU' (pi T.length k i) = d' i) ∧ ∀ j ∈ m', j < T.length := by
  intro f
  induction f with
  | zero => intro a d dU m hlt h; exact .inr ⟨d, dU, m, rfl, rfl, h, hlt⟩
  | succ f ih =>
    intro a d dU m hlt h
    cases hi : m[a]? with
    | none =>
      refine .inr ⟨d, dU, m, ?_, ?_, h, hlt⟩
      · rw [bfs, hi]
      · rw [bfs, List.getElem?_map, hi]; rfl
    | some i =>
      have hil := hlt i (List.mem_of_getElem? hi)
      have hU : (m.map (pi T.length k))[a]? = some (pi T.length k i) := by rw [List.getElem?_map, hi]; rfl
      rcases kidsGo_mv (v := d i + 1) (kidsAt T i) d dU m h with ⟨h1, h2⟩ | ⟨d', dU', m', h1, h2, h3⟩
      · left
        refine ⟨?_, ?_⟩
        · simp only [bfs, hi, h1]
        · simp only [bfs, hU, h i hil, hm.len, hm.kids hil, h2]
      · have hlt' := kidsGo_lt _ _ _ _ _ hlt h1
        have eT : bfs T (f + 1) a d m = bfs T f (a + 1) d' m' := by simp only [bfs, hi, h1]
        have eU : bfs U (f + 1) a dU (m.map (pi T.length k)) = bfs U f (a + 1) dU' (m'.map (pi T.length k)) := by simp only [bfs, hU, h i hil, hm.len, hm.kids hil, h2]
        rw [eT, eU]
        exact ih _ _ _ _ hlt' h3
theorem getLastD_map {α β : Type} (f : α → β) (l : List α) (x : α) (h : l ≠ []) (y : β) : (l.map f).getLastD y = f (l.getLastD x) := by
  induction l with
  | nil => exact absurd rfl h
  | cons a t ih =>
    cases t with
    | nil => rfl
    | cons b t => exact ih (by simp)
theorem getLastD_mem {α : Type} (l : List α) (x : α) (h : l ≠ []) : l.getLastD x ∈ l := by
  induction l with
  | nil => exact absurd rfl h
  | cons a t ih =>
    cases t with
    | nil => exact List.mem_singleton.2 rfl
    | cons b t => exact List.mem_cons_of_mem _ (ih (by simp))
theorem deep_mv {T U : List Nd} {k : Nat} (hm : Moved T U k) (r : Int) : deepT U (mvKid T.length k r) = deepT T r := by
  by_cases hr : 0 ≤ r ∧ r < (T.length : Int)
  · have hr' : r.toNat < T.length := by omega
    have hp := pi_lt k hr'
    by_cases hn : T.length ≤ 16384
    · rw [mvKid_in hr]
      unfold deepT
      rw [hm.len, if_pos ⟨hn, by omega, by omega⟩, if_pos ⟨hn, hr.1, hr.2⟩, Int.toNat_natCast]
      rcases bfs_mv hm (T.length + 1) 0 (upd (fun _ => 0) r.toNat 1) (upd (fun _ => 0) (pi T.length k r.toNat) 1) [r.toNat] (fun j hj => by obtain rfl := List.mem_singleton.1 hj; exact hr') (fun i hi => by
        by_cases e : i = r.toNat
        · subst e; rw [upd_same, upd_same]
        · rw [upd_other _ _ e, upd_other _ _ (fun e' => e (pi_inj hi hr' e'))]) with ⟨h1, h2⟩ | ⟨d', dU', m', h1, h2, h3, h4⟩
      · rw [h1]
        rw [show [pi T.length k r.toNat] = [r.toNat].map (pi T.length k) from rfl, h2]
      · rw [h1]
        rw [show [pi T.length k r.toNat] = [r.toNat].map (pi T.length k) from rfl, h2]
        show (if (m'.map (pi T.length k)).length < T.length then 0 else _) = if m'.length < T.length then 0 else _
        rw [List.length_map]
        by_cases hl : m'.length < T.length
        · rw [if_pos hl, if_pos hl]
        · rw [if_neg hl, if_neg hl]
          have hne : m' ≠ [] := fun e => hl (by rw [e]; show 0 < _; omega)
          rw [getLastD_map _ _ 0 hne]
          exact h3 _ (h4 _ (getLastD_mem _ _ hne))
    · unfold deepT
      rw [if_neg (fun h => hn (hm.len ▸ h.1)), if_neg (fun h => hn h.1)]
  · rw [mvKid_out hr]
    unfold deepT
    rw [if_neg (fun h => hr ⟨h.2.1, by rw [← hm.len]; exact h.2.2⟩), if_neg (fun h => hr h.2)]

/-! ### In one more block -/
/-- Depths, two deeper. -/
def gd (N : Nat) (d : Nat → Nat) : Nat → Nat := fun j => if j = N + 1 then 1 else if j = N then 2 else if d j = 0 then 0 else d j + 2
theorem gd_in {N : Nat} {d : Nat → Nat} {j : Nat} (h : j < N) : gd N d j = if d j = 0 then 0 else d j + 2 := by
  unfold gd; rw [if_neg (by omega), if_neg (by omega)]
theorem gd_upd {N v k : Nat} (d : Nat → Nat) (hv : v ≠ 0) (hk : k < N) : upd (gd N d) k (v + 2) = gd N (upd d k v) := by
  funext j
  by_cases hj : j = k
  · subst hj
    rw [upd_same, gd_in hk, upd_same, if_neg hv]
  · rw [upd_other _ _ hj]
    unfold gd
    rw [upd_other _ _ hj]
theorem kidsGo_gr {N v a b : Nat} (hv : v ≠ 0) : ∀ (ks : List Int) (d : Nat → Nat) (m : List Nat) (d' : Nat → Nat) (m' : List Nat), kidsGo N v ks d m = some (d', m') →
    kidsGo (N + 2) (v + 2) ks (gd N d) (a :: b :: m) = some (gd N d', a :: b :: m') := by
  intro ks
  induction ks with
  | nil =>
    intro d m d' m' e
    obtain ⟨rfl, rfl⟩ : d = d' ∧ m = m' := by simpa [kidsGo] using e
    rfl
  | cons z ks ih =>
    intro d m d' m' e
    rw [kidsGo] at e
    split at e
    · rename_i hz
      have hz' : z.toNat < N := by omega
      rw [kidsGo, if_pos ⟨hz.1, by omega, by rw [gd_in hz', if_pos hz.2.2]⟩, gd_upd d hv hz']
      exact ih _ _ _ _ e
    · cases e
def grown (T : List Nd) (r : Int) (x y : Nd) : List Nd := T ++ [{ x with kids := [r] }, { y with kids := [(T.length : Int)] }]
theorem grown_len (T : List Nd) (r : Int) (x y : Nd) : (grown T r x y).length = T.length + 2 := by simp [grown]
theorem grown_old {T : List Nd} {r : Int} {x y : Nd} {i : Nat} (h : i < T.length) : (grown T r x y)[i]? = T[i]? := by
  unfold grown; rw [List.getElem?_append_left h]
theorem grown_do {T : List Nd} {r : Int} {x y : Nd} : (grown T r x y)[T.length]? = some { x with kids := [r] } := by
  unfold grown; rw [List.getElem?_append_right (Nat.le_refl _), Nat.sub_self]; rfl
theorem grown_top {T : List Nd} {r : Int} {x y : Nd} : (grown T r x y)[T.length + 1]? = some { y with kids := [(T.length : Int)] } := by
  unfold grown; rw [List.getElem?_append_right (Nat.le_add_right _ _), Nat.add_sub_cancel_left]; rfl
theorem grown_kids {T : List Nd} {r : Int} {x y : Nd} {i : Nat} (h : i < T.length) : kidsAt (grown T r x y) i = kidsAt T i := by
  unfold kidsAt; rw [grown_old h]
theorem bfs_gr {T : List Nd} {r : Int} {x y : Nd} {A B : Nat} : ∀ (f a : Nat) (d : Nat → Nat) (m : List Nat) (d' : Nat → Nat) (m' : List Nat), (∀ j ∈ m, j < T.length ∧ d j ≠ 0) → (∀ j, d j ≠ 0 → j ∈ m) → bfs T f a d m = some (d', m') →
    Inv T.length d m → bfs (grown T r x y) f (a + 2) (gd T.length d) (A :: B :: m) = some (gd T.length d', A :: B :: m') ∧ Inv T.length d' m' := by
  intro f
  induction f with
  | zero =>
    intro a d m d' m' _ _ e hi
    obtain ⟨rfl, rfl⟩ : d = d' ∧ m = m' := by simpa [bfs] using e
    exact ⟨rfl, hi⟩
  | succ f ih =>
    intro a d m d' m' hlt hmem e hinv
    have hA : (A :: B :: m)[a + 2]? = m[a]? := rfl
    cases hi : m[a]? with
    | none =>
      have e' : some (d, m) = some (d', m') := by
        rw [← e]; simp only [bfs, hi]
      obtain ⟨rfl, rfl⟩ : d = d' ∧ m = m' := by simpa using e'
      refine ⟨?_, hinv⟩
      simp only [bfs, hA, hi]
    | some i =>
      obtain ⟨hil, hi0⟩ := hlt i (List.mem_of_getElem? hi)
      cases hk : kidsGo T.length (d i + 1) (kidsAt T i) d m with
      | none =>
        have e' : none = some (d', m') := by rw [← e]; simp only [bfs, hi, hk]
        cases e'
      | some p =>
        obtain ⟨d1, m1⟩ := p
        have e' : bfs T f (a + 1) d1 m1 = some (d', m') := by rw [← e]; simp only [bfs, hi, hk]
        obtain ⟨i1, _, _, _, _⟩ := kidsGo_inv (by omega) _ _ _ _ _ hinv hk
        have hg := kidsGo_gr (a := A) (b := B) (by omega) _ _ _ _ _ hk
        obtain ⟨r1, r2⟩ := ih (a + 1) d1 m1 d' m' (fun j hj => ⟨i1.lt j hj, (i1.iff j).2 hj⟩) (fun j hj => (i1.iff j).1 hj) e' i1
        refine ⟨?_, r2⟩
        have hv : gd T.length d i + 1 = d i + 1 + 2 := by rw [gd_in hil, if_neg hi0]
        simp only [bfs, hA, hi, grown_len, grown_kids hil, hv, hg]
        exact r1
theorem deep_gr {T : List Nd} {r : Int} {x y : Nd} (h : deepT T r ≠ 0) (hl : T.length + 2 ≤ 16384) : deepT (grown T r x y) (((T.length + 1 : Nat)) : Int) = deepT T r + 2 := by
  obtain ⟨h0, h1, h2, _⟩ := deep_snd h
  have eT : deepT T r = deepEnd T.length (bfs T (T.length + 1) 0 (upd (fun _ => 0) r.toNat 1) [r.toNat]) := if_pos ⟨h0, h1, h2⟩
  have eU : deepT (grown T r x y) (((T.length + 1 : Nat)) : Int) = deepEnd (T.length + 2) (bfs (grown T r x y) (T.length + 2 + 1) 0 (upd (fun _ => 0) (T.length + 1) 1) [T.length + 1]) := by
    unfold deepT
    rw [if_pos ⟨by rw [grown_len]; exact hl, by omega, by rw [grown_len]; omega⟩, Int.toNat_natCast, grown_len]
  rw [eT] at h ⊢
  rw [eU]
  cases e : bfs T (T.length + 1) 0 (upd (fun _ => 0) r.toNat 1) [r.toNat] with
  | none => rw [e] at h; exact absurd rfl h
  | some p =>
    obtain ⟨d, m⟩ := p
    rw [e] at h
    have hr' : r.toNat < T.length := by omega
    have hinv := Inv.start hr'
    obtain ⟨hb, hinv'⟩ := bfs_gr (x := x) (y := y) (r := r) (A := T.length + 1) (B := T.length) _ _ _ _ _ _ (fun j hj => ⟨hinv.lt j hj, (hinv.iff j).2 hj⟩) (fun j hj => (hinv.iff j).1 hj) e hinv
    have k0 : kidsAt (grown T r x y) (T.length + 1) = [(T.length : Int)] := by unfold kidsAt; rw [grown_top]
    have k1 : kidsAt (grown T r x y) T.length = [r] := by unfold kidsAt; rw [grown_do]
    have s0 : bfs (grown T r x y) (T.length + 2 + 1) 0 (upd (fun _ => 0) (T.length + 1) 1) [T.length + 1] = bfs (grown T r x y) (T.length + 1) 2 (gd T.length (upd (fun _ => 0) r.toNat 1)) [T.length + 1, T.length, r.toNat] := by
      have u0 : upd (fun _ => 0) (T.length + 1) 1 T.length = 0 := upd_other _ _ (by omega)
      have g0 : kidsGo (T.length + 2) 2 [(T.length : Int)] (upd (fun _ => 0) (T.length + 1) 1) [T.length + 1] = some (upd (upd (fun _ => 0) (T.length + 1) 1) T.length 2, [T.length + 1, T.length]) := by
        rw [kidsGo, if_pos ⟨by omega, by omega, by rw [Int.toNat_natCast]; exact u0⟩, Int.toNat_natCast]; rfl
      have u1 : upd (upd (fun _ => 0) (T.length + 1) 1) T.length 2 r.toNat = 0 := by rw [upd_other _ _ (by omega), upd_other _ _ (by omega)]
      have g1 : kidsGo (T.length + 2) 3 [r] (upd (upd (fun _ => 0) (T.length + 1) 1) T.length 2) [T.length + 1, T.length] = some (gd T.length (upd (fun _ => 0) r.toNat 1), [T.length + 1, T.length, r.toNat]) := by
        rw [kidsGo, if_pos ⟨h1, by omega, u1⟩]
        have : upd (upd (upd (fun _ => 0) (T.length + 1) 1) T.length 2) r.toNat 3 = gd T.length (upd (fun _ => 0) r.toNat 1) := by
          funext j
          unfold gd upd
          by_cases e1 : j = r.toNat
          · rw [if_pos e1, if_neg (by omega), if_neg (by omega), if_pos e1]; rfl
          · rw [if_neg e1]
            by_cases e2 : j = T.length
            · rw [if_pos e2, if_neg (by omega), if_pos e2]
            · rw [if_neg e2]
              by_cases e3 : j = T.length + 1
              · rw [if_pos e3, if_pos e3]
              · rw [if_neg e3, if_neg e3, if_neg e2, if_neg e1, if_pos rfl]
        rw [this]; rfl
      have l0 : ([T.length + 1] : List Nat)[0]? = some (T.length + 1) := rfl
      have l1 : ([T.length + 1, T.length] : List Nat)[0 + 1]? = some T.length := rfl
      rw [bfs, l0]
      simp only [grown_len, k0, upd_same, g0]
      rw [bfs, l1]
      simp only [grown_len, k1, upd_same, g1]
    rw [s0, hb]
    show (if ((T.length + 1) :: T.length :: m).length < T.length + 2 then 0 else _) = (if m.length < T.length then 0 else _) + 2
    have hl' : ¬ m.length < T.length := fun hl => h (if_pos hl)
    rw [if_neg hl', if_neg (show ¬ (((T.length + 1) :: T.length :: m).length < T.length + 2) by show ¬ (m.length + 1 + 1 < T.length + 2); omega)]
    have hne : m ≠ [] := fun e => hl' (by rw [e]; show 0 < T.length; omega)
    have hlast := getLastD_mem m 0 hne
    have e2 : ((T.length + 1) :: T.length :: m).getLastD 0 = m.getLastD 0 := by
      cases m with
      | nil => exact absurd rfl hne
      | cons a t => rfl
    rw [e2]
    show gd T.length d (m.getLastD 0) = d (m.getLastD 0) + 2
    rw [gd_in (hinv'.lt _ hlast), if_neg ((hinv'.iff _).2 hlast)]
end Go.Proofs.YtjlpklhibdkmeaaGreatDoor
