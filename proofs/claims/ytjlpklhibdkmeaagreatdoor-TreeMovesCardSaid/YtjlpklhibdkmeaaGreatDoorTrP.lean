/- Plain mathematics of trees: which may be, and their texts. What a node's fields and Kids must be, and what its text begins with, is left open here. No program is named here. -/
import Derived.Test.YtjlpklhibdkmeaaGreatDoorTrN
namespace Go.Proofs.YtjlpklhibdkmeaaGreatDoor

def kindAt (T : List Nd) (i : Nat) : Int := match T[i]? with | some x => x.kind | none => 0

section
variable (fo : Nd → Bool) (ko : Int → Int → List Int → Bool) (so : Int → Int) (hd : Nd → List UInt8)
/-- Whether a node is as told. -/
def nodeOk (T : List Nd) (x : Nd) : Bool := decide (1 ≤ x.line) && fo x && ko x.kind x.num (x.kids.map fun k => so (kindAt T k.toNat))
def rightT (T : List Nd) (r : Int) : Bool := decide (deepT T r ≠ 0) && decide (deepT T r ≤ 100) && decide (kindAt T r.toNat = 18) && T.all (nodeOk fo ko so T)
/-- The text of the node at a place, so deep at most. -/
def text (T : List Nd) : Nat → Nat → List UInt8
  | 0, _ => []
  | f + 1, i => match T[i]? with
    | none => []
    | some x => hd x ++ (x.kids.flatMap fun k => 32 :: text T f k.toNat) ++ [41]
def printT (T : List Nd) (r : Int) : List UInt8 := if rightT fo ko so T r then text hd T (T.length + 1) r.toNat else []

theorem right_split {T : List Nd} {r : Int} : rightT fo ko so T r = true ↔ deepT T r ≠ 0 ∧ deepT T r ≤ 100 ∧ kindAt T r.toNat = 18 ∧ ∀ (i : Nat) (x : Nd), T[i]? = some x → nodeOk fo ko so T x = true := by
  unfold rightT
  simp only [Bool.and_eq_true, decide_eq_true_eq, List.all_eq_true, and_assoc]
  constructor
  · rintro ⟨h1, h2, h3, h4⟩
    exact ⟨h1, h2, h3, fun i x hx => h4 x (List.mem_of_getElem? hx)⟩
  · rintro ⟨h1, h2, h3, h4⟩
    refine ⟨h1, h2, h3, fun x hx => ?_⟩
    obtain ⟨i, hi⟩ := List.mem_iff_getElem?.1 hx
    exact h4 i x hi
theorem node_split {T : List Nd} {x : Nd} : nodeOk fo ko so T x = true ↔ 1 ≤ x.line ∧ fo x = true ∧ ko x.kind x.num (x.kids.map fun k => so (kindAt T k.toNat)) = true := by
  unfold nodeOk
  simp only [Bool.and_eq_true, decide_eq_true_eq, and_assoc]
theorem flat_congr {α β : Type} {f g : α → List β} {l : List α} (h : ∀ a ∈ l, f a = g a) : l.flatMap f = l.flatMap g := by
  induction l with
  | nil => rfl
  | cons a t ih => rw [List.flatMap_cons, List.flatMap_cons, h a (List.mem_cons_self ..), ih fun b hb => h b (List.mem_cons_of_mem _ hb)]
theorem kids_of {T : List Nd} {i : Nat} {x : Nd} (h : T[i]? = some x) : kidsAt T i = x.kids := by unfold kidsAt; rw [h]
theorem kind_of {T : List Nd} {i : Nat} {x : Nd} (h : T[i]? = some x) : kindAt T i = x.kind := by unfold kindAt; rw [h]
theorem text_step {T : List Nd} {f i : Nat} {x : Nd} (h : T[i]? = some x) : text hd T (f + 1) i = hd x ++ (x.kids.flatMap fun k => 32 :: text hd T f k.toNat) ++ [41] := by
  rw [text, h]

/-! ### Elsewhere -/
theorem kind_mv {T U : List Nd} {k : Nat} (hm : Moved T U k) {i : Nat} (hi : i < T.length) : kindAt U (pi T.length k i) = kindAt T i := by
  unfold kindAt
  rw [hm.at_ i hi, List.getElem?_eq_getElem hi]
  rfl
theorem node_mv {T U : List Nd} {k : Nat} (hm : Moved T U k) (hfo : ∀ x ks, fo { x with kids := ks } = fo x) {x : Nd} (hk : ∀ z ∈ x.kids, 0 ≤ z ∧ z < (T.length : Int)) : nodeOk fo ko so U (mvNd T.length k x) = nodeOk fo ko so T x := by
  unfold nodeOk mvNd
  rw [hfo, List.map_map]
  have : (x.kids.map fun z => so (kindAt T z.toNat)) = x.kids.map ((fun z => so (kindAt U z.toNat)) ∘ mvKid T.length k) := List.map_congr_left fun z hz => by
    have hz' := hk z hz
    show so (kindAt T z.toNat) = so (kindAt U (mvKid T.length k z).toNat)
    rw [mvKid_in hz', Int.toNat_natCast, kind_mv hm (by omega)]
  rw [this]
theorem right_mv {T U : List Nd} {k : Nat} (hm : Moved T U k) (hfo : ∀ x ks, fo { x with kids := ks } = fo x) (r : Int) : rightT fo ko so U (mvKid T.length k r) = rightT fo ko so T r := by
  by_cases h0 : deepT T r = 0
  · unfold rightT
    rw [deep_mv hm, h0]
    rfl
  · obtain ⟨_, hr0, hr1, d, m, hs⟩ := deep_snd h0
    have hr : r.toNat < T.length := by omega
    have hk : ∀ (i : Nat) (x : Nd), T[i]? = some x → ∀ z ∈ x.kids, 0 ≤ z ∧ z < (T.length : Int) := fun i x hx z hz => by
      have hi := (List.getElem?_eq_some_iff.1 hx).1
      obtain ⟨a, b, _⟩ := hs.kid i (hs.mem hi) z (by rw [kids_of hx]; exact hz)
      exact ⟨a, b⟩
    rw [Bool.eq_iff_iff, right_split, right_split, deep_mv hm, mvKid_in ⟨hr0, hr1⟩, Int.toNat_natCast, kind_mv hm hr]
    refine and_congr_right fun _ => and_congr_right fun _ => and_congr_right fun _ => ⟨fun h i x hx => ?_, fun h j y hy => ?_⟩
    · have hi := (List.getElem?_eq_some_iff.1 hx).1
      have := h (pi T.length k i) (mvNd T.length k x) (by rw [hm.at_ i hi, hx]; rfl)
      rw [node_mv fo ko so hm hfo (hk i x hx)] at this
      exact this
    · have hj := (List.getElem?_eq_some_iff.1 hy).1
      rw [hm.len] at hj
      obtain ⟨i, hi, rfl⟩ := pi_surj (k := k) hj
      have hx := List.getElem?_eq_getElem hi
      rw [hm.at_ i hi, hx] at hy
      obtain rfl := Option.some.inj hy
      rw [node_mv fo ko so hm hfo (hk i _ hx)]
      exact h i _ hx
theorem text_mv {T U : List Nd} {k : Nat} (hm : Moved T U k) (hhd : ∀ x ks, hd { x with kids := ks } = hd x) (hk : ∀ (i : Nat) (x : Nd), T[i]? = some x → ∀ z ∈ x.kids, 0 ≤ z ∧ z < (T.length : Int)) : ∀ (f i : Nat), i < T.length → text hd U f (pi T.length k i) = text hd T f i := by
  intro f
  induction f with
  | zero => intro i _; rfl
  | succ f ih =>
    intro i hi
    have hx := List.getElem?_eq_getElem hi
    rw [text_step hd hx, text_step hd (show U[pi T.length k i]? = some (mvNd T.length k T[i]) by rw [hm.at_ i hi, hx]; rfl)]
    have : (mvNd T.length k T[i]).kids.flatMap (fun z => 32 :: text hd U f z.toNat) = T[i].kids.flatMap (fun z => 32 :: text hd T f z.toNat) := by
      show (T[i].kids.map (mvKid T.length k)).flatMap _ = _
      rw [List.flatMap_map]
      exact flat_congr fun z hz => by
        have hz' := hk i _ hx z hz
        rw [mvKid_in hz', Int.toNat_natCast, ih _ (by omega)]
    rw [this]
    congr 2
    exact hhd _ _
theorem print_mv {T U : List Nd} {k : Nat} (hm : Moved T U k) (hfo : ∀ x ks, fo { x with kids := ks } = fo x) (hhd : ∀ x ks, hd { x with kids := ks } = hd x) (r : Int) : printT fo ko so hd U (mvKid T.length k r) = printT fo ko so hd T r := by
  unfold printT
  rw [right_mv fo ko so hm hfo r, hm.len]
  by_cases h : rightT fo ko so T r = true
  · rw [if_pos h, if_pos h]
    obtain ⟨h0, _⟩ := (right_split fo ko so).1 h
    obtain ⟨_, hr0, hr1, d, m, hs⟩ := deep_snd h0
    rw [mvKid_in ⟨hr0, hr1⟩, Int.toNat_natCast]
    exact text_mv hd hm hhd (fun i x hx z hz => by
      have hi := (List.getElem?_eq_some_iff.1 hx).1
      obtain ⟨a, b, _⟩ := hs.kid i (hs.mem hi) z (by rw [kids_of hx]; exact hz)
      exact ⟨a, b⟩) _ _ (by omega)
  · rw [if_neg h, if_neg h]

/-! ### In one more block -/
theorem right_gr {T : List Nd} {r : Int} {x y : Nd} (h : rightT fo ko so T r = true) (hl : T.length + 2 ≤ 16384) (hx : x.kind = 22 ∧ 1 ≤ x.line ∧ fo { x with kids := [r] } = true) (hy : y.kind = 18 ∧ 1 ≤ y.line ∧ fo { y with kids := [(T.length : Int)] } = true)
    (k1 : ko 22 x.num [so 18] = true) (k2 : ko 18 y.num [so 22] = true) : rightT fo ko so (grown T r x y) ((T.length + 1 : Nat) : Int) = decide (deepT T r + 2 ≤ 100) := by
  obtain ⟨h0, h1, h2, h3⟩ := (right_split fo ko so).1 h
  obtain ⟨_, hr0, hr1, d, m, hs⟩ := deep_snd h0
  have hd2 := deep_gr (x := x) (y := y) h0 hl
  have kold : ∀ i, i < T.length → kindAt (grown T r x y) i = kindAt T i := fun i hi => by unfold kindAt; rw [grown_old hi]
  have ktop : kindAt (grown T r x y) (T.length + 1) = 18 := by unfold kindAt; rw [grown_top]; exact hy.1
  have kdo : kindAt (grown T r x y) T.length = 22 := by unfold kindAt; rw [grown_do]; exact hx.1
  have key : ∀ (i : Nat) (z : Nd), (grown T r x y)[i]? = some z → nodeOk fo ko so (grown T r x y) z = true := by
    intro i z hz
    have hi := (List.getElem?_eq_some_iff.1 hz).1
    rw [grown_len] at hi
    rcases Nat.lt_trichotomy i T.length with hlt | heq | hgt
    · rw [grown_old hlt] at hz
      obtain ⟨n1, n2, n3⟩ := (node_split fo ko so).1 (h3 i z hz)
      refine (node_split fo ko so).2 ⟨n1, n2, ?_⟩
      have : (z.kids.map fun k => so (kindAt (grown T r x y) k.toNat)) = z.kids.map fun k => so (kindAt T k.toNat) := List.map_congr_left fun k hk => by
        obtain ⟨a, b, _⟩ := hs.kid i (hs.mem hlt) k (by rw [kids_of hz]; exact hk)
        rw [kold _ (by omega)]
      rw [this]; exact n3
    · subst heq
      rw [grown_do] at hz
      obtain rfl := Option.some.inj hz
      refine (node_split fo ko so).2 ⟨hx.2.1, hx.2.2, ?_⟩
      show ko x.kind x.num [so (kindAt (grown T r x y) r.toNat)] = true
      rw [kold _ (by omega), h2, hx.1]; exact k1
    · obtain rfl : i = T.length + 1 := by omega
      rw [grown_top] at hz
      obtain rfl := Option.some.inj hz
      refine (node_split fo ko so).2 ⟨hy.2.1, hy.2.2, ?_⟩
      show ko y.kind y.num [so (kindAt (grown T r x y) ((T.length : Int)).toNat)] = true
      rw [Int.toNat_natCast, kdo, hy.1]; exact k2
  rw [Bool.eq_iff_iff, decide_eq_true_eq, right_split, hd2]
  constructor
  · intro hh; exact hh.2.1
  · intro hh; exact ⟨by omega, hh, by rw [Int.toNat_natCast]; exact ktop, key⟩
theorem text_old {T : List Nd} {r : Int} {x y : Nd} (hk : ∀ (i : Nat) (x : Nd), T[i]? = some x → ∀ z ∈ x.kids, 0 ≤ z ∧ z < (T.length : Int)) : ∀ (f i : Nat), i < T.length → text hd (grown T r x y) f i = text hd T f i := by
  intro f
  induction f with
  | zero => intro i _; rfl
  | succ f ih =>
    intro i hi
    have hx := List.getElem?_eq_getElem hi
    rw [text_step hd hx, text_step hd ((grown_old hi).trans hx)]
    congr 2
    exact flat_congr fun z hz => by
      have hz' := hk i _ hx z hz
      rw [ih _ (by omega)]
theorem print_gr {T : List Nd} {r : Int} {x y : Nd} (h : rightT fo ko so T r = true) (hg : rightT fo ko so (grown T r x y) ((T.length + 1 : Nat) : Int) = true) :
    printT fo ko so hd (grown T r x y) ((T.length + 1 : Nat) : Int) = hd { y with kids := [(T.length : Int)] } ++ (32 :: (hd { x with kids := [r] } ++ (32 :: printT fo ko so hd T r) ++ [41])) ++ [41] := by
  obtain ⟨h0, _⟩ := (right_split fo ko so).1 h
  obtain ⟨_, hr0, hr1, d, m, hs⟩ := deep_snd h0
  unfold printT
  rw [if_pos hg, if_pos h, grown_len, Int.toNat_natCast, text_step hd grown_top]
  show hd _ ++ ([((T.length : Nat) : Int)].flatMap fun k => 32 :: text hd (grown T r x y) (T.length + 2) k.toNat) ++ [41] = _
  rw [List.flatMap_cons, List.flatMap_nil, List.append_nil, Int.toNat_natCast, text_step hd grown_do]
  show hd _ ++ 32 :: (hd _ ++ ([r].flatMap fun k => 32 :: text hd (grown T r x y) (T.length + 1) k.toNat) ++ [41]) ++ [41] = _
  rw [List.flatMap_cons, List.flatMap_nil, List.append_nil, text_old hd (fun i x hx z hz => by
      have hi := (List.getElem?_eq_some_iff.1 hx).1
      obtain ⟨a, b, _⟩ := hs.kid i (hs.mem hi) z (by rw [kids_of hx]; exact hz)
      exact ⟨a, b⟩) _ _ (by omega)]

/-! ### One node wrong -/
theorem right_snd {T : List Nd} {r : Int} (h : rightT fo ko so T r = true) : ∃ d m, Snd T r.toNat d m ∧ 0 ≤ r ∧ r < (T.length : Int) := by
  obtain ⟨h0, _⟩ := (right_split fo ko so).1 h
  obtain ⟨_, hr0, hr1, d, m, hs⟩ := deep_snd h0
  exact ⟨d, m, hs, hr0, hr1⟩
/-- The root is named. -/
theorem broken0 {T : List Nd} {r : Int} {i : Nat} {x : Nd} (hx : T[i]? = some x) (hr : r ∈ x.kids) : rightT fo ko so T r = false := by
  rw [Bool.eq_false_iff]
  intro h
  obtain ⟨d, m, hs, h0, h1⟩ := right_snd fo ko so h
  have hi := (List.getElem?_eq_some_iff.1 hx).1
  refine hs.noroot hi ?_
  rw [kids_of hx, show ((r.toNat : Nat) : Int) = r by omega]
  exact hr
/-- A Kind that is none. -/
theorem broken1 {T : List Nd} {r : Int} {i : Nat} {x : Nd} (hx : T[i]? = some x) (h18 : x.kind ≠ 18) (hso : so x.kind = 0) (hko : ∀ k n ss, ko k n ss = true → (0 : Int) ∉ ss) : rightT fo ko so T r = false := by
  rw [Bool.eq_false_iff]
  intro h
  obtain ⟨d, m, hs, h0, h1⟩ := right_snd fo ko so h
  obtain ⟨_, _, hk, hall⟩ := (right_split fo ko so).1 h
  have hi := (List.getElem?_eq_some_iff.1 hx).1
  by_cases hir : i = r.toNat
  · subst hir
    rw [kind_of hx] at hk
    exact h18 hk
  · obtain ⟨j, hj, hij⟩ := hs.parent hi hir
    have hy := List.getElem?_eq_getElem hj
    rw [kids_of hy] at hij
    refine hko _ _ _ ((node_split fo ko so).1 (hall j _ hy)).2.2 (List.mem_map.2 ⟨_, hij, ?_⟩)
    rw [Int.toNat_natCast, kind_of hx, hso]
/-- A Line below 1. -/
theorem broken2 {T : List Nd} {r : Int} {i : Nat} {x : Nd} (hx : T[i]? = some x) (hl : x.line < 1) : rightT fo ko so T r = false := by
  rw [Bool.eq_false_iff]
  intro h
  have := ((node_split fo ko so).1 (((right_split fo ko so).1 h).2.2.2 i x hx)).1
  omega
/-- A Kid that nobody names any more. -/
theorem broken3 {T : List Nd} {r : Int} {i : Nat} {x : Nd} {ks : List Int} {k : Int} (h : rightT fo ko so T r = true) (hx : T[i]? = some x) (hk : x.kids = ks ++ [k]) : rightT fo ko so (T.set i { x with kids := ks }) r = false := by
  rw [Bool.eq_false_iff]
  intro hU
  obtain ⟨d, m, hs, h0, h1⟩ := right_snd fo ko so h
  obtain ⟨dU, mU, hsU, _, _⟩ := right_snd fo ko so hU
  have hi := (List.getElem?_eq_some_iff.1 hx).1
  have hlen : (T.set i { x with kids := ks }).length = T.length := List.length_set
  have hki : k ∈ kidsAt T i := by rw [kids_of hx, hk]; simp
  obtain ⟨k0, k1, _⟩ := hs.kid i (hs.mem hi) k hki
  have hkr : k.toNat ≠ r.toNat := fun e => hs.noroot hi (by rw [show ((r.toNat : Nat) : Int) = k by omega]; exact hki)
  obtain ⟨j, hj, hkj⟩ := hsU.parent (k := k.toNat) (by rw [hlen]; omega) hkr
  rw [hlen] at hj
  rw [show ((k.toNat : Nat) : Int) = k by omega] at hkj
  by_cases hij : i = j
  · subst hij
    have : kidsAt (T.set i { x with kids := ks }) i = ks := by unfold kidsAt; rw [List.getElem?_set_self hi]
    rw [this] at hkj
    have hn := hs.kidsNodup hi
    rw [kids_of hx, hk, List.nodup_append] at hn
    exact hn.2.2 k hkj k (List.mem_singleton.2 rfl) rfl
  · have : kidsAt (T.set i { x with kids := ks }) j = kidsAt T j := by unfold kidsAt; rw [List.getElem?_set_ne hij]
    rw [this] at hkj
    exact hij (hs.once hi hj hki hkj)
end

/-! ### How long a text is -/
def sumN : List Nat → Nat
  | [] => 0
  | a :: t => a + sumN t
theorem sumN_app (a b : List Nat) : sumN (a ++ b) = sumN a + sumN b := by
  induction a with
  | nil => simp [sumN]
  | cons x t ih => rw [List.cons_append, sumN, sumN, ih]; omega
theorem sumN_flat {α : Type} (f : α → List Nat) (l : List α) : sumN (l.flatMap f) = sumN (l.map fun a => sumN (f a)) := by
  induction l with
  | nil => rfl
  | cons a t ih => rw [List.flatMap_cons, sumN_app, ih, List.map_cons, sumN]
theorem sumN_add {α : Type} (f g : α → Nat) (l : List α) : sumN (l.map fun a => f a + g a) = sumN (l.map f) + sumN (l.map g) := by
  induction l with
  | nil => rfl
  | cons a t ih => rw [List.map_cons, List.map_cons, List.map_cons, sumN, sumN, sumN, ih]; omega
theorem sumN_le {α : Type} (f : α → Nat) (M : Nat) (l : List α) (h : ∀ a ∈ l, f a ≤ M) : sumN (l.map f) ≤ l.length * M := by
  induction l with
  | nil => exact Nat.zero_le _
  | cons a t ih =>
    rw [List.map_cons, sumN, List.length_cons, Nat.add_mul, Nat.one_mul]
    have := h a (List.mem_cons_self ..)
    have := ih (fun b hb => h b (List.mem_cons_of_mem _ hb))
    omega
theorem len_flat {α : Type} (f : α → List UInt8) (l : List α) : (l.flatMap f).length = sumN (l.map fun a => (f a).length) := by
  induction l with
  | nil => rfl
  | cons a t ih => rw [List.flatMap_cons, List.length_append, ih, List.map_cons, sumN]
/-- A text is as long as its nodes' parts together. -/
theorem text_len {hd : Nd → List UInt8} {T : List Nd} {r : Nat} {d : Nat → Nat} {m : List Nat} (hs : Snd T r d m) {M : Nat} (hM : ∀ (i : Nat) (x : Nd), T[i]? = some x → (hd x).length + x.kids.length + 1 ≤ M) : (text hd T (T.length + 1) r).length ≤ T.length * M := by
  have hg : ∀ i ∈ m, (text hd T (T.length + 2 - d i) i).length = (match T[i]? with | some x => (hd x).length + x.kids.length + 1 | none => 0) + sumN ((kidsAt T i).map fun k => (text hd T (T.length + 2 - d k.toNat) k.toNat).length) := by
    intro i hi
    have hb := hs.bound i
    have hil := hs.lt i hi
    have hx := List.getElem?_eq_getElem hil
    rw [hx, show T.length + 2 - d i = (T.length + 1 - d i) + 1 by omega, text_step hd hx, List.length_append, List.length_append, len_flat]
    show _ = (hd T[i]).length + T[i].kids.length + 1 + _
    rw [kids_of hx]
    have h1 : (T[i].kids.map fun a => (32 :: text hd T (T.length + 1 - d i) a.toNat).length) = T[i].kids.map fun a => 1 + (text hd T (T.length + 2 - d a.toNat) a.toNat).length := List.map_congr_left fun k hk => by
      obtain ⟨_, _, k2⟩ := hs.kid i hi k (by rw [kids_of hx]; exact hk)
      rw [List.length_cons, k2, show T.length + 2 - (d i + 1) = T.length + 1 - d i by omega]
      omega
    rw [h1, sumN_add]
    have h2 : sumN (T[i].kids.map fun _ => 1) = T[i].kids.length := by
      generalize T[i].kids = l
      induction l with
      | nil => rfl
      | cons a t ih => rw [List.map_cons, sumN, ih, List.length_cons]; omega
    rw [h2]
    show _ + _ + 1 = _
    omega
  have h1 : sumN (m.map fun i => (text hd T (T.length + 2 - d i) i).length) = sumN (m.map fun i => match T[i]? with | some x => (hd x).length + x.kids.length + 1 | none => 0) + sumN (m.map fun i => sumN ((kidsAt T i).map fun k => (text hd T (T.length + 2 - d k.toNat) k.toNat).length)) := by
    rw [← sumN_add, List.map_congr_left hg]
  have h2 : sumN (m.map fun i => (text hd T (T.length + 2 - d i) i).length) = (text hd T (T.length + 1) r).length + sumN (m.map fun i => sumN ((kidsAt T i).map fun k => (text hd T (T.length + 2 - d k.toNat) k.toNat).length)) := by
    conv => lhs; rw [hs.eq]
    rw [List.map_cons, sumN, hs.root, List.map_flatMap, sumN_flat]
    congr 2
    apply List.map_congr_left
    intro i _
    rw [List.map_map]
    rfl
  have h3 := sumN_le (fun i => match T[i]? with | some x => (hd x).length + x.kids.length + 1 | none => 0) M m (fun i hi => by
    have hx := List.getElem?_eq_getElem (hs.lt i hi)
    show (match T[i]? with | some x => (hd x).length + x.kids.length + 1 | none => 0) ≤ M
    rw [hx]
    exact hM i _ hx)
  rw [hs.full] at h3
  omega
end Go.Proofs.YtjlpklhibdkmeaaGreatDoor
