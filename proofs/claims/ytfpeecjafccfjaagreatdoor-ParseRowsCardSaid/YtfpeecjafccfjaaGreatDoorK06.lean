/- Parts of the proof: RLuaK, RLuaF, RLuaR, RLuaP, RLuaQ, RLuaE, RLuaN, RLuaO, RLuaW, RLuaX, RLuaY, RLuaT. -/
import Derived.Test.YtfpeecjafccfjaaGreatDoorK05
namespace Go.Proofs.YtfpeecjafccfjaaGreatDoor
open Go.RowKit
theorem eat_run {r most : Int} : ∀ (l1 l2 : List Int) (f : Nat) (t : Int), (∀ x ∈ l1, hitB x r = true) → t + (l1.length : Int) ≤ most → (t + (l1.length : Int) = most ∨ l2 = [] ∨ ∃ y ys, l2 = y :: ys ∧ hitB y r = false) → l1.length + 1 ≤ f → eat [r] most f t (l1 ++ l2) = (t + (l1.length : Int), l2) := by
  intro l1
  induction l1 with
  | nil =>
    intro l2 f t _ _ h hf
    obtain ⟨f, rfl⟩ : ∃ g, f = g + 1 := ⟨f - 1, by omega⟩
    rw [List.nil_append, eat, if_neg]
    · simp
    · rintro ⟨h1, h2⟩
      rcases h with h | h | ⟨y, ys, h, hy⟩
      · simp at h; omega
      · rw [h] at h2; cases h2
      · rw [h, begB, hy] at h2; cases h2
  | cons x l1 ih =>
    intro l2 f t hx hm h hf
    rw [List.length_cons] at hm hf h
    obtain ⟨f, rfl⟩ : ∃ g, f = g + 1 := ⟨f - 1, by omega⟩
    have hb : begB (x :: l1 ++ l2) [r] = true := by
      rw [List.cons_append, begB, hx x (List.mem_cons_self ..)]
      cases l1 ++ l2 <;> rfl
    rw [eat, if_pos ⟨by omega, hb⟩]
    show eat [r] most f (t + 1) (l1 ++ l2) = _
    rw [ih l2 f (t + 1) (fun y hy => hx y (List.mem_cons_of_mem _ hy)) (by omega) (h.imp (fun h => by omega) id) (by omega), List.length_cons]
    congr 1
    omega
theorem eat_pairs {most : Int} : ∀ (ps : List (Int × Int)) (l2 : List Int) (f : Nat) (t : Int), (∀ x ∈ ps, hitB x.1 1 = true ∧ hitB x.2 32 = true) → t + (ps.length : Int) ≤ most → (l2 = [] ∨ l2 = [32]) → ps.length + 1 ≤ f → eat [1, 32] most f t ((ps.flatMap fun x => [x.1, x.2]) ++ l2) = (t + (ps.length : Int), l2) := by
  intro ps
  induction ps with
  | nil =>
    intro l2 f t _ _ h hf
    obtain ⟨f, rfl⟩ : ∃ g, f = g + 1 := ⟨f - 1, by omega⟩
    rw [List.flatMap_nil, List.nil_append, eat, if_neg]
    · simp
    · rintro ⟨_, h2⟩
      rcases h with h | h
      · rw [h] at h2; cases h2
      · rw [h] at h2; exact absurd h2 (by decide +kernel)
  | cons x ps ih =>
    intro l2 f t hx hm h hf
    rw [List.length_cons] at hm hf
    obtain ⟨f, rfl⟩ : ∃ g, f = g + 1 := ⟨f - 1, by omega⟩
    obtain ⟨h1, h2⟩ := hx x (List.mem_cons_self ..)
    have hb : begB (((x :: ps).flatMap fun x => [x.1, x.2]) ++ l2) [1, 32] = true := by
      rw [List.flatMap_cons]
      show begB (x.1 :: x.2 :: ((ps.flatMap fun x => [x.1, x.2]) ++ l2)) [1, 32] = true
      rw [begB, begB, h1, h2]
      cases ((ps.flatMap fun x => [x.1, x.2]) ++ l2) <;> rfl
    rw [eat, if_pos ⟨by omega, hb⟩]
    show eat [1, 32] most f (t + 1) ((ps.flatMap fun x => [x.1, x.2]) ++ l2) = _
    rw [ih l2 f (t + 1) (fun y hy => hx y (List.mem_cons_of_mem _ hy)) (by omega) h (by omega), List.length_cons]
    congr 1
    omega
theorem eat_one {r most : Int} {l : List Int} (h : ∀ x ∈ l, hitB x r = true) (hm : (l.length : Int) ≤ most) : eat [r] most (l.length + 1) 0 l = ((l.length : Int), []) := by
  have := eat_run (most := most) l [] (l.length + 1) 0 h (by omega) (.inr (.inl rfl)) (Nat.le_refl _)
  rw [List.append_nil] at this
  rw [this]
  simp
theorem allL_one {a most r : Int} {l : List Int} (h : ∀ x ∈ l, hitB x r = true) (ha : a ≤ (l.length : Int)) (hm : (l.length : Int) ≤ most) : allLR [(a, most, [r])] l = true := by
  rw [allLR, eat_one h hm, allLR, decide_eq_true ha]
  rfl
theorem allL_two {a most r a2 most2 r2 : Int} {l1 l2 : List Int} (h1 : ∀ x ∈ l1, hitB x r = true) (ha : a ≤ (l1.length : Int)) (hm : (l1.length : Int) ≤ most) (hs : (l1.length : Int) = most ∨ l2 = [] ∨ ∃ y ys, l2 = y :: ys ∧ hitB y r = false)
    (h2 : ∀ x ∈ l2, hitB x r2 = true) (ha2 : a2 ≤ (l2.length : Int)) (hm2 : (l2.length : Int) ≤ most2) : allLR [(a, most, [r]), (a2, most2, [r2])] (l1 ++ l2) = true := by
  have e := eat_run (most := most) l1 l2 ((l1 ++ l2).length + 1) 0 h1 (by omega) (hs.imp (fun h => by omega) id) (by rw [List.length_append]; omega)
  rw [allLR, e, Int.zero_add, decide_eq_true ha, Bool.true_and]
  exact allL_one h2 ha2 hm2
def srt (a : Ast) : Int := soK a.hd.kind
theorem so_exp {k : Int} (h : 1 ≤ k ∧ k ≤ 15) : hitB (soK k) 1 = true := by
  by_cases h1 : k = 7 ∨ k = 8
  · rw [soK, if_pos h1]; decide +kernel
  · by_cases h2 : k = 9 ∨ k = 10
    · rw [soK, if_neg h1, if_pos h2]; decide +kernel
    · by_cases h3 : k = 11
      · rw [soK, if_neg h1, if_neg h2, if_pos h3]; decide +kernel
      · rw [soK, if_neg h1, if_neg h2, if_neg h3, if_pos h]; decide +kernel
theorem so_tgt {k : Int} (h : k = 7 ∨ k = 8) : hitB (soK k) 2 = true := by rw [soK, if_pos h]; decide +kernel
theorem so_call {k : Int} (h : k = 9 ∨ k = 10) : hitB (soK k) 4 = true := by rw [soK, if_neg (by omega), if_pos h]; decide +kernel
theorem hit_32 : hitB 32 32 = true := by decide +kernel
theorem hit_32_1 : hitB 32 1 = false := by decide +kernel
theorem ko_seq {n : Int} {l1 l2 : List Int} (h1 : ∀ x ∈ l1, x = 64) (h2 : l2 = [] ∨ l2 = [128]) (hb : (l1.length : Int) ≤ big) : koK 18 n (l1 ++ l2) = true := by
  have hp : partsK 18 n = [(0, big, [64]), (0, 1, [128])] := by simp [partsK]
  unfold koK
  rw [hp]
  refine allL_two (fun x hx => by rw [h1 x hx]; decide +kernel) (by omega) hb ?_ ?_ (by omega) ?_
  · rcases h2 with h | h
    · exact .inr (.inl h)
    · exact .inr (.inr ⟨128, [], h, by decide +kernel⟩)
  · intro x hx
    rcases h2 with h | h
    · rw [h] at hx; simp at hx
    · rw [h] at hx
      obtain rfl := List.mem_singleton.1 hx
      decide +kernel
  · rcases h2 with h | h <;> rw [h] <;> decide
theorem ko_exps {k n : Int} (hk : k = 19 ∨ k = 29) {l : List Int} (h : ∀ x ∈ l, hitB x 1 = true) (hb : (l.length : Int) ≤ big) : koK k n l = true := by
  have hp : partsK k n = [(0, big, [1])] := by rcases hk with rfl | rfl <;> simp [partsK]
  unfold koK
  rw [hp]
  exact allL_one h (by omega) hb
theorem ko_calls {k n : Int} (hk : k = 9 ∨ k = 10) {l : List Int} (h : ∀ x ∈ l, hitB x 1 = true) (h1 : 1 ≤ l.length) (hb : (l.length : Int) ≤ big) : koK k n l = true := by
  have hp : partsK k n = [(1, big, [1])] := by rcases hk with rfl | rfl <;> simp [partsK]
  unfold koK
  rw [hp]
  exact allL_one h (by omega) hb
theorem ko_items {n : Int} {l : List Int} (h : ∀ x ∈ l, x = 16) (hb : (l.length : Int) ≤ big) : koK 15 n l = true := by
  have hp : partsK 15 n = [(0, big, [16])] := by simp [partsK]
  unfold koK
  rw [hp]
  exact allL_one (fun x hx => by rw [h x hx]; decide +kernel) (by omega) hb
theorem ko_assign {l1 l2 : List Int} (h1 : ∀ x ∈ l1, hitB x 2 = true) (h2 : ∀ x ∈ l2, hitB x 1 = true) (hl : 1 ≤ l2.length) (hb : (l2.length : Int) ≤ big) : koK 20 (l1.length : Int) (l1 ++ l2) = true := by
  have hp : ∀ n, partsK 20 n = [(n, n, [2]), (1, big, [1])] := fun n => by simp [partsK]
  unfold koK
  rw [hp]
  exact allL_two h1 (Int.le_refl _) (Int.le_refl _) (.inl rfl) h2 (by omega) hb
theorem ko_each {l1 : List Int} (h1 : ∀ x ∈ l1, hitB x 1 = true) : koK 27 (l1.length : Int) (l1 ++ [32]) = true := by
  have hp : ∀ n, partsK 27 n = [(n, n, [1]), (1, 1, [32])] := fun n => by simp [partsK]
  unfold koK
  rw [hp]
  exact allL_two h1 (Int.le_refl _) (Int.le_refl _) (.inl rfl) (fun x hx => by obtain rfl := List.mem_singleton.1 hx; exact hit_32) (by simp) (by simp)
theorem ko_for {n : Int} {l1 : List Int} (h1 : ∀ x ∈ l1, hitB x 1 = true) (hl : l1.length = 2 ∨ l1.length = 3) : koK 26 n (l1 ++ [32]) = true := by
  have hp : partsK 26 n = [(2, 3, [1]), (1, 1, [32])] := by simp [partsK]
  unfold koK
  rw [hp]
  exact allL_two h1 (by omega) (by omega) (.inr (.inr ⟨32, [], rfl, hit_32_1⟩)) (fun x hx => by obtain rfl := List.mem_singleton.1 hx; exact hit_32) (by simp) (by simp)
theorem ko_if {n : Int} {ps : List (Int × Int)} {l2 : List Int} (h : ∀ x ∈ ps, hitB x.1 1 = true ∧ x.2 = 32) (hl : 1 ≤ ps.length) (hb : (ps.length : Int) ≤ big) (h2 : l2 = [] ∨ l2 = [32]) : koK 25 n ((ps.flatMap fun x => [x.1, x.2]) ++ l2) = true := by
  have hp : partsK 25 n = [(1, big, [1, 32]), (0, 1, [32])] := by simp [partsK]
  unfold koK
  have hlen : ∀ qs : List (Int × Int), qs.length ≤ (qs.flatMap fun x => [x.1, x.2]).length := fun qs => by
    induction qs with
    | nil => exact Nat.le_refl _
    | cons x qs ih => rw [List.flatMap_cons, List.length_append, List.length_cons]; show qs.length + 1 ≤ 2 + _; omega
  have e := eat_pairs (most := big) ps l2 (((ps.flatMap fun x => [x.1, x.2]) ++ l2).length + 1) 0 (fun x hx => ⟨(h x hx).1, by rw [(h x hx).2]; exact hit_32⟩) (by omega) h2 (by rw [List.length_append]; have := hlen ps; omega)
  rw [hp, allLR, e, Int.zero_add, decide_eq_true (by omega), Bool.true_and]
  refine allL_one (fun x hx => ?_) (by omega) ?_
  · rcases h2 with h | h
    · rw [h] at hx; simp at hx
    · rw [h] at hx
      obtain rfl := List.mem_singleton.1 hx
      exact hit_32
  · show (l2.length : Int) ≤ 1
    rcases h2 with h | h <;> rw [h] <;> decide
theorem ko_1 {k n a : Int} (hk : k = 13 ∨ k = 14 ∨ k = 16) (h : hitB a 1 = true) : koK k n [a] = true := by
  have hp : partsK k n = [(1, 1, [1])] := by rcases hk with rfl | rfl | rfl <;> simp [partsK]
  unfold koK
  rw [hp]
  exact allL_one (fun x hx => by obtain rfl := List.mem_singleton.1 hx; exact h) (by simp) (by simp)
theorem ko_2 {k n a b : Int} (hk : k = 8 ∨ k = 12 ∨ k = 17) (ha : hitB a 1 = true) (hb : hitB b 1 = true) : koK k n [a, b] = true := by
  have hp : partsK k n = [(1, 1, [1, 1])] := by rcases hk with rfl | rfl | rfl <;> simp [partsK]
  unfold koK
  rw [hp]
  simp [allLR, eat, begB, ha, hb]
theorem ko_b {k n : Int} (hk : k = 11 ∨ k = 22) : koK k n [32] = true := by
  have hp : partsK k n = [(1, 1, [32])] := by rcases hk with rfl | rfl <;> simp [partsK]
  unfold koK
  rw [hp]
  decide +kernel
theorem ko_do_call {n a : Int} (h : hitB a 4 = true) : koK 21 n [a] = true := by
  have hp : partsK 21 n = [(1, 1, [4])] := by simp [partsK]
  unfold koK
  rw [hp]
  exact allL_one (fun x hx => by obtain rfl := List.mem_singleton.1 hx; exact h) (by simp) (by simp)
theorem ko_fn {n : Int} : koK 28 n [9] = true := by
  have hp : partsK 28 n = [(1, 1, [8])] := by simp [partsK]
  unfold koK
  rw [hp]
  decide +kernel
theorem ko_while {n a : Int} (h : hitB a 1 = true) : koK 23 n [a, 32] = true := by
  have hp : partsK 23 n = [(1, 1, [1, 32])] := by simp [partsK]
  unfold koK
  rw [hp]
  simp [allLR, eat, begB, h, hit_32]
theorem ko_repeat {n a : Int} (h : hitB a 1 = true) : koK 24 n [32, a] = true := by
  have hp : partsK 24 n = [(1, 1, [32, 1])] := by simp [partsK]
  unfold koK
  rw [hp]
  simp [allLR, eat, begB, h, hit_32]
theorem ko_none {k n : Int} (hk : k = 1 ∨ k = 2 ∨ k = 3 ∨ k = 4 ∨ k = 5 ∨ k = 6 ∨ k = 7 ∨ k = 30 ∨ k = 31 ∨ k = 32) : koK k n [] = true := by
  have hp : partsK k n = [] := by rcases hk with rfl | rfl | rfl | rfl | rfl | rfl | rfl | rfl | rfl | rfl <;> simp [partsK]
  unfold koK
  rw [hp]
  rfl
end Go.Proofs.YtfpeecjafccfjaaGreatDoor
namespace Go.Proofs.YtfpeecjafccfjaaGreatDoor
open Go.RowKit
def flB (F : Int) (a b c d nb na o : Bool) : Bool := !(bits .andNot .i64 (giv4 a b c d) F != 0) && (!(bits .and .i64 F 16 != 0) || nb) && na && o
theorem fields_mk (k l op num : Int) (s : ByteArray) (ns : List ByteArray) : fieldsK ⟨k, l, op, num, s, ns, []⟩ = flB (fldK k) (op != 0) (num != 0) (!s.toList.isEmpty) (decide (0 < ns.length)) (nameB s) (ns.all nameB) (opK k op && countK k num && namesK k ns.length) := rfl
theorem fl1 (a nb : Bool) : flB 1 a false false false nb true true = true := by cases a <;> cases nb <;> decide +kernel
theorem fl2 (b nb : Bool) : flB 2 false b false false nb true true = true := by cases b <;> cases nb <;> decide +kernel
theorem fl4 (c nb : Bool) : flB 4 false false c false nb true true = true := by cases c <;> cases nb <;> decide +kernel
theorem fl8 (d nb : Bool) : flB 8 false false false d nb true true = true := by cases d <;> cases nb <;> decide +kernel
theorem fl10 (b d nb : Bool) : flB 10 false b false d nb true true = true := by cases b <;> cases d <;> cases nb <;> decide +kernel
theorem fl20 (c : Bool) : flB 20 false false c false true true true = true := by cases c <;> decide +kernel
theorem nE : (!(⟨#[]⟩ : ByteArray).toList.isEmpty) = false := by kernel_rfl
theorem nZ : ((0 : Int) != 0) = false := rfl
theorem nL : decide (0 < ([] : List ByteArray).length) = false := rfl
theorem nA : ([] : List ByteArray).all nameB = true := rfl
theorem f_none {k : Int} (hk : k = 1 ∨ k = 2 ∨ k = 3 ∨ k = 6 ∨ k = 8 ∨ k = 9 ∨ k = 14 ∨ k = 15 ∨ k = 16 ∨ k = 17 ∨ k = 18 ∨ k = 21 ∨ k = 22 ∨ k = 23 ∨ k = 24 ∨ k = 25 ∨ k = 29 ∨ k = 30) (l : Int) : fieldsK ⟨k, l, 0, 0, ⟨#[]⟩, [], []⟩ = true := by
  rcases hk with rfl | rfl | rfl | rfl | rfl | rfl | rfl | rfl | rfl | rfl | rfl | rfl | rfl | rfl | rfl | rfl | rfl | rfl <;> kernel_rfl
theorem f_op {k op : Int} (hk : (k = 12 ∧ 1 ≤ op ∧ op ≤ 19) ∨ (k = 13 ∧ 20 ≤ op ∧ op ≤ 23)) (l : Int) : fieldsK ⟨k, l, op, 0, ⟨#[]⟩, [], []⟩ = true := by
  have hF : fldK k = 1 := by rcases hk with ⟨rfl, _⟩ | ⟨rfl, _⟩ <;> decide
  have h1 : opK k op = true := by
    rcases hk with ⟨rfl, h1, h2⟩ | ⟨rfl, h1, h2⟩
    · unfold opK
      rw [if_pos rfl, decide_eq_true h1, decide_eq_true h2]; rfl
    · unfold opK
      rw [if_neg (by decide), if_pos rfl, decide_eq_true h1, decide_eq_true h2]; rfl
  have h2 : countK k 0 = true := by rcases hk with ⟨rfl, _⟩ | ⟨rfl, _⟩ <;> decide
  have h3 : namesK k ([] : List ByteArray).length = true := by rcases hk with ⟨rfl, _⟩ | ⟨rfl, _⟩ <;> decide
  rw [fields_mk, hF, h1, h2, h3, nE, nZ, nL, nA]
  exact fl1 _ _
theorem f_num (l n : Int) : fieldsK ⟨4, l, 0, n, ⟨#[]⟩, [], []⟩ = true := by
  have hF : fldK 4 = 2 := by decide
  have h1 : opK 4 0 = true := by decide
  have h2 : countK 4 n = true := by unfold countK; rw [if_neg (by decide), if_neg (by decide)]
  have h3 : namesK 4 ([] : List ByteArray).length = true := by decide
  rw [fields_mk, hF, h1, h2, h3, nE, nZ, nL, nA]
  exact fl2 _ _
theorem f_assign {n : Int} (hn : 1 ≤ n) (l : Int) : fieldsK ⟨20, l, 0, n, ⟨#[]⟩, [], []⟩ = true := by
  have hF : fldK 20 = 2 := by decide
  have h1 : opK 20 0 = true := by decide
  have h2 : countK 20 n = true := by unfold countK; rw [if_neg (by decide), if_pos (by decide), decide_eq_true hn]
  have h3 : namesK 20 ([] : List ByteArray).length = true := by decide
  rw [fields_mk, hF, h1, h2, h3, nE, nZ, nL, nA]
  exact fl2 _ _
theorem f_str (l : Int) (s : ByteArray) : fieldsK ⟨5, l, 0, 0, s, [], []⟩ = true := by
  have hF : fldK 5 = 4 := by decide
  have h1 : opK 5 0 = true := by decide
  have h2 : countK 5 0 = true := by decide
  have h3 : namesK 5 ([] : List ByteArray).length = true := by decide
  rw [fields_mk, hF, h1, h2, h3, nZ, nL, nA]
  exact fl4 _ _
theorem f_name {k : Int} (hk : k = 7 ∨ k = 10 ∨ k = 31 ∨ k = 32) (l : Int) {s : ByteArray} (hs : nameB s = true) : fieldsK ⟨k, l, 0, 0, s, [], []⟩ = true := by
  have hF : fldK k = 20 := by rcases hk with rfl | rfl | rfl | rfl <;> decide
  have h1 : opK k 0 = true := by rcases hk with rfl | rfl | rfl | rfl <;> decide
  have h2 : countK k 0 = true := by rcases hk with rfl | rfl | rfl | rfl <;> decide
  have h3 : namesK k ([] : List ByteArray).length = true := by rcases hk with rfl | rfl | rfl | rfl <;> decide
  rw [fields_mk, hF, h1, h2, h3, nZ, nL, nA, hs]
  exact fl20 _
theorem f_names {k n : Int} {ns : List ByteArray} (hn : ns.all nameB = true) (hk : (k = 11 ∧ (n = 0 ∨ n = 1)) ∨ (k = 27 ∧ 1 ≤ n ∧ 1 ≤ ns.length)) (l : Int) : fieldsK ⟨k, l, 0, n, ⟨#[]⟩, ns, []⟩ = true := by
  have hF : fldK k = 10 := by rcases hk with ⟨rfl, _⟩ | ⟨rfl, _⟩ <;> decide
  have h1 : opK k 0 = true := by rcases hk with ⟨rfl, _⟩ | ⟨rfl, _⟩ <;> decide
  have h2 : countK k n = true := by
    rcases hk with ⟨rfl, rfl | rfl⟩ | ⟨rfl, h, _⟩
    · decide
    · decide
    · unfold countK; rw [if_neg (by decide), if_pos (by decide), decide_eq_true h]
  have h3 : namesK k ns.length = true := by
    rcases hk with ⟨rfl, _⟩ | ⟨rfl, _, h⟩
    · unfold namesK; rw [if_neg (by decide), if_neg (by decide)]
    · unfold namesK; rw [if_pos (by decide), decide_eq_true h]
  rw [fields_mk, hF, h1, h2, h3, nE, nZ, hn]
  exact fl10 _ _ _
theorem f_names0 {k : Int} {ns : List ByteArray} (hn : ns.all nameB = true) (hk : (k = 19 ∧ 1 ≤ ns.length) ∨ ((k = 26 ∨ k = 28) ∧ ns.length = 1)) (l : Int) : fieldsK ⟨k, l, 0, 0, ⟨#[]⟩, ns, []⟩ = true := by
  have hF : fldK k = 8 := by rcases hk with ⟨rfl, _⟩ | ⟨rfl | rfl, _⟩ <;> decide
  have h1 : opK k 0 = true := by rcases hk with ⟨rfl, _⟩ | ⟨rfl | rfl, _⟩ <;> decide
  have h2 : countK k 0 = true := by rcases hk with ⟨rfl, _⟩ | ⟨rfl | rfl, _⟩ <;> decide
  have h3 : namesK k ns.length = true := by
    rcases hk with ⟨rfl, h⟩ | ⟨rfl | rfl, h⟩
    · unfold namesK; rw [if_pos (by decide), decide_eq_true h]
    · unfold namesK; rw [if_neg (by decide), if_pos (by decide), decide_eq_true h]
    · unfold namesK; rw [if_neg (by decide), if_pos (by decide), decide_eq_true h]
  rw [fields_mk, hF, h1, h2, h3, nE, nZ, hn]
  exact fl8 _ _
end Go.Proofs.YtfpeecjafccfjaaGreatDoor
namespace Go.Proofs.YtfpeecjafccfjaaGreatDoor
open Go.RowKit
mutual
def Ast.upto (M : Int) : Ast → Bool
  | .mk h ks => decide (h.line ≤ M) && Ast.uptoL M ks
def Ast.uptoL (M : Int) : List Ast → Bool
  | [] => true
  | a :: xs => Ast.upto M a && Ast.uptoL M xs
end
def Good (M : Int) (a : Ast) : Prop := Ast.ok fieldsK koK soK a = true ∧ Ast.upto M a = true
theorem okL_iff : ∀ xs : List Ast, Ast.okL fieldsK koK soK xs = true ↔ ∀ a ∈ xs, Ast.ok fieldsK koK soK a = true := by
  intro xs
  induction xs with
  | nil => rw [Ast.okL]; simp
  | cons a xs ih => rw [Ast.okL, Bool.and_eq_true, ih]; simp
theorem uptoL_iff {M : Int} : ∀ xs : List Ast, Ast.uptoL M xs = true ↔ ∀ a ∈ xs, Ast.upto M a = true := by
  intro xs
  induction xs with
  | nil => rw [Ast.uptoL]; simp
  | cons a xs ih => rw [Ast.uptoL, Bool.and_eq_true, ih]; simp
theorem good_mk {M : Int} {h : Nd} {ks : List Ast} (h1 : 1 ≤ h.line) (h2 : h.line ≤ M) (hf : fieldsK h = true) (hk : koK h.kind h.num (ks.map srt) = true) (hs : ∀ a ∈ ks, Good M a) : Good M (.mk h ks) := by
  refine ⟨?_, ?_⟩
  · rw [Ast.ok, decide_eq_true h1, hf]
    have : (ks.map fun k => soK k.hd.kind) = ks.map srt := rfl
    rw [this, hk, (okL_iff ks).2 fun a ha => (hs a ha).1]
    rfl
  · rw [Ast.upto, decide_eq_true h2, (uptoL_iff ks).2 fun a ha => (hs a ha).2]
    rfl
def Ln (M l : Int) : Prop := 1 ≤ l ∧ l ≤ M
def ExG (M : Int) (a : Ast) : Prop := Good M a ∧ 1 ≤ a.hd.kind ∧ a.hd.kind ≤ 15
def StG (M : Int) (a : Ast) : Prop := Good M a ∧ srt a = 64
def BlG (M : Int) (a : Ast) : Prop := Good M a ∧ a.hd.kind = 18
def ItG (M : Int) (a : Ast) : Prop := Good M a ∧ srt a = 16
def FnG (M : Int) (a : Ast) : Prop := Good M a ∧ a.hd.kind = 11
def RtG (M : Int) (a : Ast) : Prop := Good M a ∧ a.hd.kind = 29
def SfG (M : Int) (a : Ast) : Prop := Good M a ∧ (a.hd.kind = 7 ∨ a.hd.kind = 8 ∨ a.hd.kind = 9 ∨ a.hd.kind = 10 ∨ a.hd.kind = 14)
theorem SfG.ex {M : Int} {a : Ast} (h : SfG M a) : ExG M a := ⟨h.1, by have := h.2; omega, by have := h.2; omega⟩
theorem ExG.hit {M : Int} {a : Ast} (h : ExG M a) : hitB (srt a) 1 = true := so_exp h.2
theorem exs_hit {M : Int} {l : List Ast} (h : ∀ a ∈ l, ExG M a) : ∀ x ∈ l.map srt, hitB x 1 = true := fun x hx => by
  obtain ⟨a, ha, rfl⟩ := List.mem_map.1 hx
  exact (h a ha).hit
theorem BlG.srt {M : Int} {a : Ast} (h : BlG M a) : srt a = 32 := by unfold Go.Proofs.YtfpeecjafccfjaaGreatDoor.srt; rw [h.2]; decide
theorem FnG.srt {M : Int} {a : Ast} (h : FnG M a) : srt a = 9 := by unfold Go.Proofs.YtfpeecjafccfjaaGreatDoor.srt; rw [h.2]; decide
theorem RtG.srt {M : Int} {a : Ast} (h : RtG M a) : srt a = 128 := by unfold Go.Proofs.YtfpeecjafccfjaaGreatDoor.srt; rw [h.2]; decide
theorem bigL {n : Nat} (h : n ≤ 1000000) : ((n : Nat) : Int) ≤ big := by unfold big; omega
theorem leaf4 :  (4 : Int) = 1 ∨ (4 : Int) = 2 ∨ (4 : Int) = 3 ∨ (4 : Int) = 4 ∨ (4 : Int) = 5 ∨ (4 : Int) = 6 ∨ (4 : Int) = 7 ∨ (4 : Int) = 30 ∨ (4 : Int) = 31 ∨ (4 : Int) = 32  := by decide
theorem leaf5 :  (5 : Int) = 1 ∨ (5 : Int) = 2 ∨ (5 : Int) = 3 ∨ (5 : Int) = 4 ∨ (5 : Int) = 5 ∨ (5 : Int) = 6 ∨ (5 : Int) = 7 ∨ (5 : Int) = 30 ∨ (5 : Int) = 31 ∨ (5 : Int) = 32  := by decide
theorem leaf7 :  (7 : Int) = 1 ∨ (7 : Int) = 2 ∨ (7 : Int) = 3 ∨ (7 : Int) = 4 ∨ (7 : Int) = 5 ∨ (7 : Int) = 6 ∨ (7 : Int) = 7 ∨ (7 : Int) = 30 ∨ (7 : Int) = 31 ∨ (7 : Int) = 32  := by decide
theorem leaf30 :  (30 : Int) = 1 ∨ (30 : Int) = 2 ∨ (30 : Int) = 3 ∨ (30 : Int) = 4 ∨ (30 : Int) = 5 ∨ (30 : Int) = 6 ∨ (30 : Int) = 7 ∨ (30 : Int) = 30 ∨ (30 : Int) = 31 ∨ (30 : Int) = 32  := by decide
variable {M : Int}
theorem g_leaf {k l : Int} (hl : Ln M l) (hk : k = 1 ∨ k = 2 ∨ k = 3 ∨ k = 6) : ExG M (nd k l []) :=
  ⟨good_mk hl.1 hl.2 (f_none (by omega) l) (ko_none (show  (k : Int) = 1 ∨ (k : Int) = 2 ∨ (k : Int) = 3 ∨ (k : Int) = 4 ∨ (k : Int) = 5 ∨ (k : Int) = 6 ∨ (k : Int) = 7 ∨ (k : Int) = 30 ∨ (k : Int) = 31 ∨ (k : Int) = 32  from by omega)) (fun a h => by simp at h), by show 1 ≤ k; omega, by show k ≤ 15; omega⟩
theorem g_int {l n : Int} (hl : Ln M l) : ExG M (ndN 4 l n []) :=
  ⟨good_mk hl.1 hl.2 (f_num l n) (ko_none leaf4) (fun a h => by simp at h), by show (1 : Int) ≤ 4; omega, by show (4 : Int) ≤ 15; omega⟩
theorem g_str {l : Int} {s : ByteArray} (hl : Ln M l) : ExG M (ndS 5 l s []) :=
  ⟨good_mk hl.1 hl.2 (f_str l s) (ko_none leaf5) (fun a h => by simp at h), by show (1 : Int) ≤ 5; omega, by show (5 : Int) ≤ 15; omega⟩
theorem g_name {l : Int} {s : ByteArray} (hl : Ln M l) (hs : nameB s = true) : SfG M (ndS 7 l s []) :=
  ⟨good_mk hl.1 hl.2 (f_name (.inl rfl) l hs) (ko_none leaf7) (fun a h => by simp at h), .inl rfl⟩
theorem g_index {l : Int} {x y : Ast} (hl : Ln M l) (hx : ExG M x) (hy : ExG M y) : SfG M (nd 8 l [x, y]) :=
  ⟨good_mk hl.1 hl.2 (f_none (by omega) l) (ko_2 (.inl rfl) hx.hit hy.hit) (fun a h => by
    rcases List.mem_cons.1 h with rfl | h
    · exact hx.1
    · obtain rfl := List.mem_singleton.1 h; exact hy.1), .inr (.inl rfl)⟩
theorem g_call {l : Int} {x : Ast} {xs : List Ast} (hl : Ln M l) (hx : ExG M x) (ha : ∀ a ∈ xs, ExG M a) (hn : xs.length ≤ 500000) : SfG M (nd 9 l (x :: xs)) := by
  have hall : ∀ a ∈ x :: xs, ExG M a := fun a h => (List.mem_cons.1 h).elim (fun e => e ▸ hx) (ha a)
  refine ⟨good_mk hl.1 hl.2 (f_none (by omega) l) (ko_calls (.inl rfl) (exs_hit hall) (by simp) ?_) (fun a h => (hall a h).1), .inr (.inr (.inl rfl))⟩
  rw [List.length_map, List.length_cons]
  exact bigL (by omega)
theorem g_method {l : Int} {s : ByteArray} {x : Ast} {xs : List Ast} (hl : Ln M l) (hs : nameB s = true) (hx : ExG M x) (ha : ∀ a ∈ xs, ExG M a) (hn : xs.length ≤ 500000) : SfG M (ndS 10 l s (x :: xs)) := by
  have hall : ∀ a ∈ x :: xs, ExG M a := fun a h => (List.mem_cons.1 h).elim (fun e => e ▸ hx) (ha a)
  refine ⟨good_mk hl.1 hl.2 (f_name (.inr (.inl rfl)) l hs) (ko_calls (.inr rfl) (exs_hit hall) (by simp) ?_) (fun a h => (hall a h).1), .inr (.inr (.inr (.inl rfl)))⟩
  rw [List.length_map, List.length_cons]
  exact bigL (by omega)
theorem g_paren {l : Int} {x : Ast} (hl : Ln M l) (hx : ExG M x) : SfG M (nd 14 l [x]) :=
  ⟨good_mk hl.1 hl.2 (f_none (by omega) l) (ko_1 (.inr (.inl rfl)) hx.hit) (fun a h => by obtain rfl := List.mem_singleton.1 h; exact hx.1), .inr (.inr (.inr (.inr rfl)))⟩
theorem g_bin {l o : Int} {x y : Ast} (hl : Ln M l) (ho : 1 ≤ o ∧ o ≤ 19) (hx : ExG M x) (hy : ExG M y) : ExG M (ndO 12 l o [x, y]) :=
  ⟨good_mk hl.1 hl.2 (f_op (.inl ⟨rfl, ho.1, ho.2⟩) l) (ko_2 (.inr (.inl rfl)) hx.hit hy.hit) (fun a h => by
    rcases List.mem_cons.1 h with rfl | h
    · exact hx.1
    · obtain rfl := List.mem_singleton.1 h; exact hy.1), by show (1 : Int) ≤ 12; omega, by show (12 : Int) ≤ 15; omega⟩
theorem g_una {l o : Int} {x : Ast} (hl : Ln M l) (ho : 20 ≤ o ∧ o ≤ 23) (hx : ExG M x) : ExG M (ndO 13 l o [x]) :=
  ⟨good_mk hl.1 hl.2 (f_op (.inr ⟨rfl, ho.1, ho.2⟩) l) (ko_1 (.inl rfl) hx.hit) (fun a h => by obtain rfl := List.mem_singleton.1 h; exact hx.1), by show (1 : Int) ≤ 13; omega, by show (13 : Int) ≤ 15; omega⟩
theorem g_pos {l : Int} {x : Ast} (hl : Ln M l) (hx : ExG M x) : ItG M (nd 16 l [x]) :=
  ⟨good_mk hl.1 hl.2 (f_none (by omega) l) (ko_1 (.inr (.inr rfl)) hx.hit) (fun a h => by obtain rfl := List.mem_singleton.1 h; exact hx.1), by show soK 16 = 16; decide⟩
theorem g_key {l : Int} {x y : Ast} (hl : Ln M l) (hx : ExG M x) (hy : ExG M y) : ItG M (nd 17 l [x, y]) :=
  ⟨good_mk hl.1 hl.2 (f_none (by omega) l) (ko_2 (.inr (.inr rfl)) hx.hit hy.hit) (fun a h => by
    rcases List.mem_cons.1 h with rfl | h
    · exact hx.1
    · obtain rfl := List.mem_singleton.1 h; exact hy.1), by show soK 17 = 16; decide⟩
theorem g_table {l : Int} {xs : List Ast} (hl : Ln M l) (ha : ∀ a ∈ xs, ItG M a) (hn : xs.length ≤ 1000000) : ExG M (nd 15 l xs) :=
  ⟨good_mk hl.1 hl.2 (f_none (by omega) l) (ko_items (fun x hx => by obtain ⟨a, h, rfl⟩ := List.mem_map.1 hx; exact (ha a h).2) (by rw [List.length_map]; exact bigL hn)) (fun a h => (ha a h).1), by show (1 : Int) ≤ 15; omega, by show (15 : Int) ≤ 15; omega⟩
theorem g_func {l n : Int} {ns : List ByteArray} {b : Ast} (hl : Ln M l) (hn : n = 0 ∨ n = 1) (hns : ns.all nameB = true) (hb : BlG M b) : FnG M (ndA 11 l n ns [b]) :=
  ⟨good_mk hl.1 hl.2 (f_names hns (.inl ⟨rfl, hn⟩) l) (by show koK 11 n [srt b] = true; rw [hb.srt]; exact ko_b (.inl rfl)) (fun a h => by obtain rfl := List.mem_singleton.1 h; exact hb.1), rfl⟩
theorem FnG.ex {a : Ast} (h : FnG M a) : ExG M a := ⟨h.1, by rw [h.2]; decide, by rw [h.2]; decide⟩
theorem st_of {a : Ast} (h : Good M a) (hk : 19 ≤ a.hd.kind ∧ a.hd.kind ≤ 32 ∧ a.hd.kind ≠ 29) : StG M a := ⟨h, by unfold srt soK; rw [if_neg (by omega), if_neg (by omega), if_neg (by omega), if_neg (by omega), if_neg (by omega), if_neg (by omega), if_neg (by omega), if_pos (by omega)]⟩
theorem g_block {l : Int} {l1 l2 : List Ast} (hl : Ln M l) (h1 : ∀ a ∈ l1, StG M a) (h2 : l2 = [] ∨ ∃ r, l2 = [r] ∧ RtG M r) (hn : l1.length ≤ 1000000) : BlG M (nd 18 l (l1 ++ l2)) := by
  refine ⟨good_mk hl.1 hl.2 (f_none (by omega) l) ?_ (fun a h => ?_), rfl⟩
  · show koK 18 0 ((l1 ++ l2).map srt) = true
    rw [List.map_append]
    refine ko_seq (fun x hx => by obtain ⟨a, h, rfl⟩ := List.mem_map.1 hx; exact (h1 a h).2) ?_ (by rw [List.length_map]; exact bigL hn)
    rcases h2 with rfl | ⟨r, rfl, hr⟩
    · exact .inl rfl
    · right
      show [srt r] = [128]
      rw [hr.srt]
  · rcases List.mem_append.1 h with h | h
    · exact (h1 a h).1
    · rcases h2 with rfl | ⟨r, rfl, hr⟩
      · simp at h
      · obtain rfl := List.mem_singleton.1 h; exact hr.1
theorem g_return {l : Int} {xs : List Ast} (hl : Ln M l) (ha : ∀ a ∈ xs, ExG M a) (hn : xs.length ≤ 1000000) : RtG M (nd 29 l xs) :=
  ⟨good_mk hl.1 hl.2 (f_none (by omega) l) (ko_exps (.inr rfl) (exs_hit ha) (by rw [List.length_map]; exact bigL hn)) (fun a h => (ha a h).1), rfl⟩
theorem g_label {k l : Int} {s : ByteArray} (hl : Ln M l) (hk : k = 31 ∨ k = 32) (hs : nameB s = true) : StG M (ndS k l s []) :=
  st_of (good_mk hl.1 hl.2 (f_name (by omega) l hs) (ko_none (show  (k : Int) = 1 ∨ (k : Int) = 2 ∨ (k : Int) = 3 ∨ (k : Int) = 4 ∨ (k : Int) = 5 ∨ (k : Int) = 6 ∨ (k : Int) = 7 ∨ (k : Int) = 30 ∨ (k : Int) = 31 ∨ (k : Int) = 32  from by omega)) (fun a h => by simp at h)) (by show 19 ≤ k ∧ k ≤ 32 ∧ k ≠ 29; omega)
theorem g_break {l : Int} (hl : Ln M l) : StG M (nd 30 l []) :=
  st_of (good_mk hl.1 hl.2 (f_none (by omega) l) (ko_none leaf30) (fun a h => by simp at h)) (by show (19 : Int) ≤ 30 ∧ (30 : Int) ≤ 32 ∧ (30 : Int) ≠ 29; omega)
theorem g_do {l : Int} {b : Ast} (hl : Ln M l) (hb : BlG M b) : StG M (nd 22 l [b]) :=
  st_of (good_mk hl.1 hl.2 (f_none (by omega) l) (by show koK 22 0 [srt b] = true; rw [hb.srt]; exact ko_b (.inr rfl)) (fun a h => by obtain rfl := List.mem_singleton.1 h; exact hb.1)) (by show (19 : Int) ≤ 22 ∧ (22 : Int) ≤ 32 ∧ (22 : Int) ≠ 29; omega)
theorem g_while {l : Int} {e b : Ast} (hl : Ln M l) (he : ExG M e) (hb : BlG M b) : StG M (nd 23 l [e, b]) :=
  st_of (good_mk hl.1 hl.2 (f_none (by omega) l) (by show koK 23 0 [srt e, srt b] = true; rw [hb.srt]; exact ko_while he.hit) (fun a h => by
    rcases List.mem_cons.1 h with rfl | h
    · exact he.1
    · obtain rfl := List.mem_singleton.1 h; exact hb.1)) (by show (19 : Int) ≤ 23 ∧ (23 : Int) ≤ 32 ∧ (23 : Int) ≠ 29; omega)
theorem g_repeat {l : Int} {e b : Ast} (hl : Ln M l) (he : ExG M e) (hb : BlG M b) : StG M (nd 24 l [b, e]) :=
  st_of (good_mk hl.1 hl.2 (f_none (by omega) l) (by show koK 24 0 [srt b, srt e] = true; rw [hb.srt]; exact ko_repeat he.hit) (fun a h => by
    rcases List.mem_cons.1 h with rfl | h
    · exact hb.1
    · obtain rfl := List.mem_singleton.1 h; exact he.1)) (by show (19 : Int) ≤ 24 ∧ (24 : Int) ≤ 32 ∧ (24 : Int) ≠ 29; omega)
theorem g_docall {l : Int} {x : Ast} (hl : Ln M l) (hx : SfG M x) (hk : x.hd.kind = 9 ∨ x.hd.kind = 10) : StG M (nd 21 l [x]) :=
  st_of (good_mk hl.1 hl.2 (f_none (by omega) l) (ko_do_call (so_call hk)) (fun a h => by obtain rfl := List.mem_singleton.1 h; exact hx.1)) (by show (19 : Int) ≤ 21 ∧ (21 : Int) ≤ 32 ∧ (21 : Int) ≠ 29; omega)
theorem g_localfn {l : Int} {n : ByteArray} {f : Ast} (hl : Ln M l) (hn : nameB n = true) (hf : FnG M f) : StG M (ndA 28 l 0 [n] [f]) :=
  st_of (good_mk hl.1 hl.2 (f_names0 (by simp [hn]) (.inr ⟨.inr rfl, rfl⟩) l) (by show koK 28 0 [srt f] = true; rw [hf.srt]; exact ko_fn) (fun a h => by obtain rfl := List.mem_singleton.1 h; exact hf.1)) (by show (19 : Int) ≤ 28 ∧ (28 : Int) ≤ 32 ∧ (28 : Int) ≠ 29; omega)
theorem g_local {l : Int} {ns : List ByteArray} {xs : List Ast} (hl : Ln M l) (hn : ns.all nameB = true) (h1 : 1 ≤ ns.length) (ha : ∀ a ∈ xs, ExG M a) (hb : xs.length ≤ 1000000) : StG M (ndA 19 l 0 ns xs) :=
  st_of (good_mk hl.1 hl.2 (f_names0 hn (.inl ⟨rfl, h1⟩) l) (ko_exps (.inl rfl) (exs_hit ha) (by rw [List.length_map]; exact bigL hb)) (fun a h => (ha a h).1)) (by show (19 : Int) ≤ 19 ∧ (19 : Int) ≤ 32 ∧ (19 : Int) ≠ 29; omega)
theorem g_assign {l : Int} {ts xs : List Ast} (hl : Ln M l) (ht : ∀ a ∈ ts, Good M a ∧ (a.hd.kind = 7 ∨ a.hd.kind = 8)) (h1 : 1 ≤ ts.length) (ha : ∀ a ∈ xs, ExG M a) (h2 : 1 ≤ xs.length) (hb : xs.length ≤ 1000000) : StG M (ndN 20 l (ts.length : Int) (ts ++ xs)) := by
  refine st_of (good_mk hl.1 hl.2 (f_assign (by omega) l) ?_ (fun a h => ?_)) (by show (19 : Int) ≤ 20 ∧ (20 : Int) ≤ 32 ∧ (20 : Int) ≠ 29; omega)
  · show koK 20 (ts.length : Int) ((ts ++ xs).map srt) = true
    have e : (ts.length : Int) = ((ts.map srt).length : Int) := by rw [List.length_map]
    rw [List.map_append, e]
    exact ko_assign (fun x hx => by obtain ⟨a, h, rfl⟩ := List.mem_map.1 hx; exact so_tgt (ht a h).2) (exs_hit ha) (by rw [List.length_map]; exact h2) (by rw [List.length_map]; exact bigL hb)
  · rcases List.mem_append.1 h with h | h
    · exact (ht a h).1
    · exact (ha a h).1
theorem g_for {l : Int} {n : List ByteArray} {xs : List Ast} {b : Ast} (hl : Ln M l) (hn : n.all nameB = true) (h1 : n.length = 1) (ha : ∀ a ∈ xs, ExG M a) (h2 : xs.length = 2 ∨ xs.length = 3) (hb : BlG M b) : StG M (ndA 26 l 0 n (xs ++ [b])) := by
  refine st_of (good_mk hl.1 hl.2 (f_names0 hn (.inr ⟨.inl rfl, h1⟩) l) ?_ (fun a h => ?_)) (by show (19 : Int) ≤ 26 ∧ (26 : Int) ≤ 32 ∧ (26 : Int) ≠ 29; omega)
  · show koK 26 0 ((xs ++ [b]).map srt) = true
    rw [List.map_append]
    show koK 26 0 (xs.map srt ++ [srt b]) = true
    rw [hb.srt]
    exact ko_for (exs_hit ha) (by rw [List.length_map]; exact h2)
  · rcases List.mem_append.1 h with h | h
    · exact (ha a h).1
    · obtain rfl := List.mem_singleton.1 h; exact hb.1
theorem g_each {l : Int} {n : List ByteArray} {xs : List Ast} {b : Ast} (hl : Ln M l) (hn : n.all nameB = true) (h1 : 1 ≤ n.length) (ha : ∀ a ∈ xs, ExG M a) (h2 : 1 ≤ xs.length) (hb : BlG M b) : StG M (ndA 27 l (xs.length : Int) n (xs ++ [b])) := by
  refine st_of (good_mk hl.1 hl.2 (f_names hn (.inr ⟨rfl, by omega, h1⟩) l) ?_ (fun a h => ?_)) (by show (19 : Int) ≤ 27 ∧ (27 : Int) ≤ 32 ∧ (27 : Int) ≠ 29; omega)
  · show koK 27 (xs.length : Int) ((xs ++ [b]).map srt) = true
    have e : (xs.length : Int) = ((xs.map srt).length : Int) := by rw [List.length_map]
    rw [List.map_append, e]
    show koK 27 _ (xs.map srt ++ [srt b]) = true
    rw [hb.srt]
    exact ko_each (exs_hit ha)
  · rcases List.mem_append.1 h with h | h
    · exact (ha a h).1
    · obtain rfl := List.mem_singleton.1 h; exact hb.1
def prs (ps : List (Ast × Ast)) : List Ast := ps.flatMap fun p => [p.1, p.2]
theorem g_if {l : Int} {ps : List (Ast × Ast)} {l2 : List Ast} (hl : Ln M l) (hp : ∀ p ∈ ps, ExG M p.1 ∧ BlG M p.2) (h1 : 1 ≤ ps.length) (hn : ps.length ≤ 1000000) (h2 : l2 = [] ∨ ∃ b, l2 = [b] ∧ BlG M b) : StG M (nd 25 l (prs ps ++ l2)) := by
  refine st_of (good_mk hl.1 hl.2 (f_none (by omega) l) ?_ (fun a h => ?_)) (by show (19 : Int) ≤ 25 ∧ (25 : Int) ≤ 32 ∧ (25 : Int) ≠ 29; omega)
  · show koK 25 0 ((prs ps ++ l2).map srt) = true
    have e : (prs ps).map srt = (ps.map fun p => (srt p.1, srt p.2)).flatMap fun x => [x.1, x.2] := by
      unfold prs
      rw [List.map_flatMap, List.flatMap_map]
      rfl
    rw [List.map_append, e]
    refine ko_if (fun x hx => ?_) (by rw [List.length_map]; exact h1) (by rw [List.length_map]; exact bigL hn) ?_
    · obtain ⟨p, h, rfl⟩ := List.mem_map.1 hx
      exact ⟨(hp p h).1.hit, (hp p h).2.srt⟩
    · rcases h2 with rfl | ⟨b, rfl, hb⟩
      · exact .inl rfl
      · right
        show [srt b] = [32]
        rw [hb.srt]
  · rcases List.mem_append.1 h with h | h
    · obtain ⟨p, hp', hx⟩ := List.mem_flatMap.1 h
      simp only [List.mem_cons, List.not_mem_nil, or_false] at hx
      rcases hx with rfl | rfl
      · exact (hp p hp').1.1
      · exact (hp p hp').2.1
    · rcases h2 with rfl | ⟨b, rfl, hb⟩
      · simp at h
      · obtain rfl := List.mem_singleton.1 h; exact hb.1
end Go.Proofs.YtfpeecjafccfjaaGreatDoor
namespace Go.Proofs.YtfpeecjafccfjaaGreatDoor
open Go.RowKit
structure TokOk (M : Int) (t : TkP) : Prop where
  line : Ln M t.2.1
  name : t.1 = 1 → nameB (bts t.2.2.2) = true
structure EnvR (M : Int) (ts : List TkP) : Prop where
  all : ∀ t ∈ ts, TokOk M t
  len : ts.length ≤ 100000
variable {M : Int}
theorem EnvR.tl {t : TkP} {ts : List TkP} (h : EnvR M (t :: ts)) : EnvR M ts := ⟨fun u hu => h.all u (List.mem_cons_of_mem _ hu), by have := h.len; rw [List.length_cons] at this; omega⟩
theorem EnvR.hd {t : TkP} {ts : List TkP} (h : EnvR M (t :: ts)) : TokOk M t := h.all t (List.mem_cons_self ..)
def Nms (l : List ByteArray) : Prop := l.all nameB = true
theorem Nms.add {l : List ByteArray} {s : ByteArray} (h : Nms l) (hs : nameB s = true) : Nms (l ++ [s]) := by unfold Nms at h ⊢; rw [List.all_append, h]; simp [hs]
theorem Nms.one {s : ByteArray} (hs : nameB s = true) : Nms [s] := by unfold Nms; simp [hs]
theorem nms_self : Nms [bts wSelf] := Nms.one (by decide +kernel)
def StsR (M : Int) (l : List Ast) (L : Nat) (v : List Ast) (L' : Nat) : Prop := (∀ a ∈ l, StG M a) → l.length + L ≤ 300000 → ∃ l1 l2, v = l1 ++ l2 ∧ (∀ a ∈ l1, StG M a) ∧ (l2 = [] ∨ ∃ r, l2 = [r] ∧ RtG M r) ∧ l1.length ≤ 1000000 ∧ L' ≤ L
def ElsR (M : Int) (l : List Ast) (L : Nat) (v : List Ast) (L' : Nat) : Prop := ∀ ps, l = prs ps → (∀ p ∈ ps, ExG M p.1 ∧ BlG M p.2) → 1 ≤ ps.length → ps.length + L ≤ 300000 → ∃ ps' l2, v = prs ps' ++ l2 ∧ (∀ p ∈ ps', ExG M p.1 ∧ BlG M p.2) ∧ 1 ≤ ps'.length ∧ ps'.length ≤ 1000000 ∧ (l2 = [] ∨ ∃ b, l2 = [b] ∧ BlG M b) ∧ L' ≤ L
def PrmR (l : List ByteArray) (L : Nat) (v : List ByteArray × Int) (L' : Nat) : Prop := Nms l → (Nms v.1 ∧ (v.2 = 0 ∨ v.2 = 1)) ∧ L' ≤ L
def NamR (L : Nat) (v : List ByteArray) (L' : Nat) : Prop := Nms v ∧ 1 ≤ v.length ∧ L' ≤ L
def NmmR (l : List ByteArray) (L : Nat) (v : List ByteArray) (L' : Nat) : Prop := Nms l → Nms v ∧ l.length ≤ v.length ∧ L' ≤ L
def LstR (M : Int) (L : Nat) (v : List Ast) (L' : Nat) : Prop := (∀ a ∈ v, ExG M a) ∧ 1 ≤ v.length ∧ v.length + L' ≤ L
def LsmR (M : Int) (l : List Ast) (L : Nat) (v : List Ast) (L' : Nat) : Prop := (∀ a ∈ l, ExG M a) → (∀ a ∈ v, ExG M a) ∧ l.length ≤ v.length ∧ v.length + L' ≤ l.length + L
def ArgR (M : Int) (L : Nat) (v : List Ast) (L' : Nat) : Prop := (∀ a ∈ v, ExG M a) ∧ v.length + L' ≤ L
def TblR (M : Int) (l : List Ast) (L : Nat) (v : List Ast) (L' : Nat) : Prop := (∀ a ∈ l, ItG M a) → (∀ a ∈ v, ItG M a) ∧ v.length + L' ≤ l.length + L
def Res (M : Int) : (n : NT) → Nat → VT n → Nat → Prop
  | .blk, L, v, L' => BlG M v ∧ L' ≤ L
  | .sts l, L, v, L' => StsR M l L v L'
  | .ret at_, L, v, L' => Ln M at_ → RtG M v ∧ L' ≤ L
  | .sta, L, v, L' => StG M v ∧ L' < L
  | .els l, L, v, L' => ElsR M l L v L'
  | .loo at_, L, v, L' => Ln M at_ → StG M v ∧ L' ≤ L
  | .fnm at_, L, v, L' => Ln M at_ → StG M v ∧ L' ≤ L
  | .fnx at_ x, L, v, L' => Ln M at_ → SfG M x → (x.hd.kind = 7 ∨ x.hd.kind = 8) → StG M v ∧ L' ≤ L
  | .loc at_, L, v, L' => Ln M at_ → StG M v ∧ L' ≤ L
  | .bdy at_ self, L, v, L' => Ln M at_ → Nms self → FnG M v ∧ L' ≤ L
  | .prm l, L, v, L' => PrmR l L v L'
  | .nam, L, v, L' => NamR L v L'
  | .nmm l, L, v, L' => NmmR l L v L'
  | .lst, L, v, L' => LstR M L v L'
  | .lsm l, L, v, L' => LsmR M l L v L'
  | .tgs at_ l, L, v, L' => Ln M at_ → (∃ l0 x, l = l0 ++ [x] ∧ (∀ a ∈ l0, Good M a ∧ (a.hd.kind = 7 ∨ a.hd.kind = 8)) ∧ SfG M x) → StG M v ∧ L' ≤ L
  | .suf, L, v, L' => SfG M v ∧ L' < L
  | .sfx x, L, v, L' => SfG M x → SfG M v ∧ L' ≤ L
  | .arg, L, v, L' => ArgR M L v L'
  | .tbl l, L, v, L' => TblR M l L v L'
  | .itm, L, v, L' => ItG M v ∧ L' < L
  | .exp _, L, v, L' => ExG M v ∧ L' < L
  | .lvm _ x, L, v, L' => ExG M x → ExG M v ∧ L' ≤ L
  | .una, L, v, L' => ExG M v ∧ L' < L
  | .lef, L, v, L' => ExG M v ∧ L' < L
def PostL (M : Int) (n : NT) (ts : List TkP) (v : VT n) (ts' : List TkP) : Prop := EnvR M ts → EnvR M ts' ∧ Res M n ts.length v ts'.length
abbrev W (M : Int) {α : Type} (g : GL α) (ts : List TkP) (Q : α → List TkP → Prop) : Prop := Wp (PostL M) g ts Q
theorem w_want {α : Type} {s : List UInt8} {k : TkP → GL α} {ts : List TkP} {Q : α → List TkP → Prop} (hE : EnvR M ts) (h : ∀ t ts', ts = t :: ts' → TokOk M t → EnvR M ts' → W M (k t) ts' Q) : W M (want s k) ts Q := by
  intro t ts' e
  subst e
  show W M (if isW s t = true then .tok k else .bad) (t :: ts') Q
  by_cases hw : isW s t = true
  · rw [if_pos hw]
    intro u us e
    injection e with e1 e2
    subst e1 e2
    exact h t ts' rfl hE.hd hE.tl
  · rw [if_neg hw]
    trivial
theorem w_name {α : Type} {k : TkP → GL α} {ts : List TkP} {Q : α → List TkP → Prop} (hE : EnvR M ts) (h : ∀ t ts', ts = t :: ts' → TokOk M t → nameB (bts t.2.2.2) = true → EnvR M ts' → W M (k t) ts' Q) : W M (name k) ts Q := by
  intro t ts' e
  subst e
  show W M (if t.1 = 1 then .tok k else .bad) (t :: ts') Q
  by_cases hw : t.1 = 1
  · rw [if_pos hw]
    intro u us e
    injection e with e1 e2
    subst e1 e2
    exact h t ts' rfl hE.hd (hE.hd.name hw) hE.tl
  · rw [if_neg hw]
    trivial
theorem w_look {α : Type} {f : TkP → GL α} {ts : List TkP} {Q : α → List TkP → Prop} (hE : EnvR M ts) (h : ∀ t ts', ts = t :: ts' → TokOk M t → W M (f t) (t :: ts') Q) : W M (.look f) ts Q := by
  intro t ts' e
  subst e
  exact h t ts' rfl hE.hd
theorem w_tok {α : Type} {f : TkP → GL α} {t : TkP} {ts : List TkP} {Q : α → List TkP → Prop} (hE : EnvR M (t :: ts)) (h : EnvR M ts → W M (f t) ts Q) : W M (.tok f) (t :: ts) Q := by
  intro u us e
  injection e with e1 e2
  subst e1 e2
  exact h hE.tl
theorem w_call {α : Type} {n : NT} {k : VT n → GL α} {ts : List TkP} {Q : α → List TkP → Prop} (hE : EnvR M ts) (h : ∀ v ts', EnvR M ts' → Res M n ts.length v ts'.length → W M (k v) ts' Q) : W M (.call n k) ts Q := by
  intro v ts' hp
  obtain ⟨h1, h2⟩ := hp hE
  exact h v ts' h1 h2
theorem w_ret {α : Type} {a : α} {ts : List TkP} {Q : α → List TkP → Prop} (h : Q a ts) : W M (.ret a) ts Q := h
theorem w_bad {α : Type} {ts : List TkP} {Q : α → List TkP → Prop} : W M (.bad : GL α) ts Q := trivial
theorem w_ite {α : Type} {c : Prop} [Decidable c] {g g' : GL α} {ts : List TkP} {Q : α → List TkP → Prop} (h1 : c → W M g ts Q) (h2 : ¬ c → W M g' ts Q) : W M (if c then g else g') ts Q := by
  by_cases h : c
  · rw [if_pos h]; exact h1 h
  · rw [if_neg h]; exact h2 h
theorem w_post {n : NT} {ts : List TkP} (h : EnvR M ts → W M (bodyL n) ts fun v ts' => EnvR M ts' ∧ Res M n ts.length v ts'.length) : W M (bodyL n) ts (PostL M n ts) := by
  have key : ∀ {α : Type} (g : GL α) (us : List TkP) (C : Prop) (Q : α → List TkP → Prop), (C → W M g us Q) → W M g us (fun a vs => C → Q a vs) := by
    intro α g
    induction g with
    | ret a => intro us C Q h hc; exact h hc
    | bad => intro us C Q h; trivial
    | tok f ih => intro us C Q h t ts' e; exact ih t ts' C Q (fun hc => h hc t ts' e)
    | look f ih => intro us C Q h t ts' e; exact ih t us C Q (fun hc => h hc t ts' e)
    | call n k ih => intro us C Q h v ts' hp; exact ih v ts' C Q (fun hc => h hc v ts' hp)
  exact key _ _ _ _ h
theorem p_blk (ts : List TkP) : W M (bodyL .blk) ts (PostL M .blk ts) := by
  refine w_post fun hE => ?_
  refine w_look hE fun t ts' e ht => ?_
  subst e
  refine w_call hE fun v ts1 h1 hv => ?_
  refine w_ret ⟨h1, ?_⟩
  have hl := hE.len
  obtain ⟨l1, l2, e, a, b, c, d⟩ := hv (fun a h => by simp at h) (by rw [List.length_nil]; omega)
  subst e
  exact ⟨g_block ht.line a b c, d⟩
theorem p_sts (l : List Ast) (ts : List TkP) : W M (bodyL (.sts l)) ts (PostL M (.sts l) ts) := by
  refine w_post fun hE => ?_
  refine w_look hE fun t ts' e ht => ?_
  subst e
  refine w_ite (fun _ => ?_) (fun _ => w_ite (fun _ => ?_) (fun _ => w_ite (fun _ => ?_) (fun _ => ?_)))
  · exact w_ret ⟨hE, fun hl hn => ⟨l, [], (List.append_nil l).symm, hl, .inl rfl, by omega, Nat.le_refl _⟩⟩
  · refine w_tok hE fun hE1 => ?_
    refine w_call hE1 fun (x : Ast) ts1 h1 hv => ?_
    refine w_ret ⟨h1, fun hl hn => ?_⟩
    obtain ⟨a, b⟩ := hv ht.line
    rw [List.length_cons] at hn ⊢
    exact ⟨l, [x], rfl, hl, .inr ⟨x, rfl, a⟩, by omega, by omega⟩
  · refine w_tok hE fun hE1 => ?_
    refine w_call hE1 fun (x : List Ast) ts1 h1 hv => ?_
    refine w_ret ⟨h1, fun hl hn => ?_⟩
    rw [List.length_cons] at hn ⊢
    obtain ⟨l1, l2, a, b, c, d, e⟩ := hv hl (by omega)
    exact ⟨l1, l2, a, b, c, d, by omega⟩
  · refine w_call hE fun (x : Ast) ts1 h1 hv => ?_
    refine w_call h1 fun (y : List Ast) ts2 h2 hw => ?_
    refine w_ret ⟨h2, fun hl hn => ?_⟩
    obtain ⟨a, b⟩ := hv
    rw [List.length_cons] at hn b ⊢
    obtain ⟨l1, l2, e1, e2, e3, e4, e5⟩ := hw (fun z hz => (List.mem_append.1 hz).elim (hl z) fun h => by obtain rfl := List.mem_singleton.1 h; exact a) (by rw [List.length_append]; simp; omega)
    exact ⟨l1, l2, e1, e2, e3, e4, by omega⟩
theorem p_ret (at_ : Int) (ts : List TkP) : W M (bodyL (.ret at_)) ts (PostL M (.ret at_) ts) := by
  refine w_post fun hE => ?_
  refine w_look hE fun t ts' e ht => ?_
  subst e
  refine w_ite (fun _ => ?_) (fun _ => w_ite (fun _ => ?_) (fun _ => ?_))
  · exact w_ret ⟨hE, fun hl => ⟨g_return hl (fun a h => by simp at h) (by simp), Nat.le_refl _⟩⟩
  · refine w_tok hE fun hE1 => ?_
    exact w_ret ⟨hE1, fun hl => ⟨g_return hl (fun a h => by simp at h) (by simp), by rw [List.length_cons]; omega⟩⟩
  · refine w_call hE fun (x : List Ast) ts1 h1 hv => ?_
    obtain ⟨a, b, c⟩ := hv
    have hlen := hE.len
    refine w_look h1 fun u us e hu => ?_
    subst e
    refine w_ite (fun _ => ?_) (fun _ => ?_)
    · refine w_tok h1 fun h2 => ?_
      rw [List.length_cons] at c
      exact w_ret ⟨h2, fun hl => ⟨g_return hl a (by omega), by omega⟩⟩
    · exact w_ret ⟨h1, fun hl => ⟨g_return hl a (by omega), by omega⟩⟩
end Go.Proofs.YtfpeecjafccfjaaGreatDoor
namespace Go.Proofs.YtfpeecjafccfjaaGreatDoor
open Go.RowKit
variable {M : Int}
theorem p_sta (ts : List TkP) : W M (bodyL .sta) ts (PostL M .sta ts) := by
  refine w_post fun hE => ?_
  refine w_look hE fun t ts' e ht => ?_
  subst e
  rw [List.length_cons]
  refine w_ite (fun _ => ?_) (fun _ => w_ite (fun _ => ?_) (fun _ => w_ite (fun _ => ?_) (fun _ => w_ite (fun _ => ?_) (fun _ => w_ite (fun _ => ?_) (fun _ => w_ite (fun _ => ?_) (fun _ => w_ite (fun _ => ?_) (fun _ => w_ite (fun _ => ?_) (fun _ => w_ite (fun _ => ?_) (fun _ => w_ite (fun _ => ?_) (fun _ => ?_))))))))))
  · refine w_tok hE fun h1 => ?_
    refine w_name h1 fun n ts1 e hn hnb h2 => ?_
    subst e
    refine w_want h2 fun c ts2 e _ h3 => ?_
    subst e
    exact w_ret ⟨h3, g_label ht.line (.inr rfl) hnb, by simp only [List.length_cons]; omega⟩
  · refine w_tok hE fun h1 => ?_
    exact w_ret ⟨h1, g_break ht.line, by omega⟩
  · refine w_tok hE fun h1 => ?_
    refine w_name h1 fun n ts1 e hn hnb h2 => ?_
    subst e
    exact w_ret ⟨h2, g_label ht.line (.inl rfl) hnb, by simp only [List.length_cons]; omega⟩
  · refine w_tok hE fun h1 => ?_
    refine w_call h1 fun (b : Ast) ts1 h2 hb => ?_
    refine w_want h2 fun c ts2 e _ h3 => ?_
    subst e
    obtain ⟨b1, b2⟩ := hb
    rw [List.length_cons] at b2
    exact w_ret ⟨h3, g_do ht.line b1, by omega⟩
  · refine w_tok hE fun h1 => ?_
    refine w_call h1 fun (x : Ast) ts1 h2 hx => ?_
    refine w_want h2 fun c ts2 e _ h3 => ?_
    subst e
    refine w_call h3 fun (b : Ast) ts3 h4 hb => ?_
    refine w_want h4 fun c ts4 e _ h5 => ?_
    subst e
    obtain ⟨a1, a2⟩ := hx
    obtain ⟨b1, b2⟩ := hb
    rw [List.length_cons] at a2 b2
    exact w_ret ⟨h5, g_while ht.line a1 b1, by omega⟩
  · refine w_tok hE fun h1 => ?_
    refine w_call h1 fun (b : Ast) ts1 h2 hb => ?_
    refine w_want h2 fun c ts2 e _ h3 => ?_
    subst e
    refine w_call h3 fun (x : Ast) ts3 h4 hx => ?_
    obtain ⟨a1, a2⟩ := hx
    obtain ⟨b1, b2⟩ := hb
    rw [List.length_cons] at b2
    exact w_ret ⟨h4, g_repeat ht.line a1 b1, by omega⟩
  · refine w_tok hE fun h1 => ?_
    refine w_call h1 fun (x : Ast) ts1 h2 hx => ?_
    refine w_want h2 fun c ts2 e _ h3 => ?_
    subst e
    refine w_call h3 fun (b : Ast) ts3 h4 hb => ?_
    refine w_call h4 fun (l : List Ast) ts5 h5 hl => ?_
    obtain ⟨a1, a2⟩ := hx
    obtain ⟨b1, b2⟩ := hb
    rw [List.length_cons] at a2
    have hlen := h4.len
    obtain ⟨ps, l2, e1, e2, e3, e4, e5, e6⟩ := hl [(x, b)] rfl (fun p hp => by obtain rfl := List.mem_singleton.1 hp; exact ⟨a1, b1⟩) (Nat.le_refl _) (by simp only [List.length_cons, List.length_nil]; omega)
    subst e1
    exact w_ret ⟨h5, g_if ht.line e2 e3 e4 e5, by omega⟩
  · refine w_tok hE fun h1 => ?_
    refine w_call h1 fun (x : Ast) ts1 h2 hx => ?_
    obtain ⟨a1, a2⟩ := hx ht.line
    exact w_ret ⟨h2, a1, by omega⟩
  · refine w_tok hE fun h1 => ?_
    refine w_call h1 fun (x : Ast) ts1 h2 hx => ?_
    obtain ⟨a1, a2⟩ := hx ht.line
    exact w_ret ⟨h2, a1, by omega⟩
  · refine w_tok hE fun h1 => ?_
    refine w_call h1 fun (x : Ast) ts1 h2 hx => ?_
    obtain ⟨a1, a2⟩ := hx ht.line
    exact w_ret ⟨h2, a1, by omega⟩
  · refine w_call hE fun (x : Ast) ts1 h1 hx => ?_
    obtain ⟨a1, a2⟩ := hx
    rw [List.length_cons] at a2
    refine w_ite (fun hk => ?_) (fun _ => ?_)
    · exact w_ret ⟨h1, g_docall ht.line a1 hk, by omega⟩
    · refine w_call h1 fun (y : Ast) ts2 h2 hy => ?_
      obtain ⟨b1, b2⟩ := hy ht.line ⟨[], x, rfl, fun a h => by simp at h, a1⟩
      exact w_ret ⟨h2, b1, by omega⟩
theorem prs_app (ps qs : List (Ast × Ast)) : prs (ps ++ qs) = prs ps ++ prs qs := by unfold prs; rw [List.flatMap_append]
theorem p_els (l : List Ast) (ts : List TkP) : W M (bodyL (.els l)) ts (PostL M (.els l) ts) := by
  refine w_post fun hE => ?_
  refine w_look hE fun t ts' e ht => ?_
  subst e
  rw [List.length_cons]
  refine w_ite (fun _ => ?_) (fun _ => w_ite (fun _ => ?_) (fun _ => ?_))
  · refine w_tok hE fun h1 => ?_
    refine w_call h1 fun (x : Ast) ts1 h2 hx => ?_
    refine w_want h2 fun c ts2 e _ h3 => ?_
    subst e
    refine w_call h3 fun (b : Ast) ts3 h4 hb => ?_
    refine w_call h4 fun (l' : List Ast) ts5 h5 hl => ?_
    obtain ⟨a1, a2⟩ := hx
    obtain ⟨b1, b2⟩ := hb
    rw [List.length_cons] at a2
    refine w_ret ⟨h5, fun ps e0 hp h0 hn => ?_⟩
    obtain ⟨ps', l2, e1, e2, e3, e4, e5, e6⟩ := hl (ps ++ [(x, b)]) (by rw [prs_app, e0]; rfl) (fun p hq => (List.mem_append.1 hq).elim (hp p) fun h => by obtain rfl := List.mem_singleton.1 h; exact ⟨a1, b1⟩) (by rw [List.length_append]; simp) (by rw [List.length_append]; simp only [List.length_cons, List.length_nil]; omega)
    exact ⟨ps', l2, e1, e2, e3, e4, e5, by omega⟩
  · refine w_tok hE fun h1 => ?_
    refine w_call h1 fun (b : Ast) ts1 h2 hb => ?_
    refine w_want h2 fun c ts2 e _ h3 => ?_
    subst e
    obtain ⟨b1, b2⟩ := hb
    rw [List.length_cons] at b2
    refine w_ret ⟨h3, fun ps e0 hp h0 hn => ?_⟩
    exact ⟨ps, [b], by rw [e0], hp, h0, by omega, .inr ⟨b, rfl, b1⟩, by omega⟩
  · refine w_want hE fun c ts2 e _ h3 => ?_
    injection e with _ e
    subst e
    refine w_ret ⟨h3, fun ps e0 hp h0 hn => ?_⟩
    exact ⟨ps, [], by rw [e0, List.append_nil], hp, h0, by omega, .inl rfl, by omega⟩
theorem p_loo (at_ : Int) (ts : List TkP) : W M (bodyL (.loo at_)) ts (PostL M (.loo at_) ts) := by
  refine w_post fun hE => ?_
  refine w_call hE fun (ns : List ByteArray) ts1 h1 hns => ?_
  obtain ⟨n1, n2, n3⟩ := hns
  refine w_look h1 fun t ts' e _ => ?_
  subst e
  rw [List.length_cons] at n3
  refine w_ite (fun hk => ?_) (fun _ => ?_)
  · refine w_tok h1 fun h2 => ?_
    refine w_call h2 fun (a : Ast) ts3 h3 ha => ?_
    refine w_want h3 fun c ts4 e _ h4 => ?_
    subst e
    refine w_call h4 fun (b : Ast) ts5 h5 hb => ?_
    refine w_look h5 fun t ts6 e _ => ?_
    subst e
    obtain ⟨a1, a2⟩ := ha
    obtain ⟨b1, b2⟩ := hb
    rw [List.length_cons] at a2 b2
    refine w_ite (fun _ => ?_) (fun _ => ?_)
    · refine w_tok h5 fun h6 => ?_
      refine w_call h6 fun (d : Ast) ts7 h7 hd => ?_
      refine w_want h7 fun c ts8 e _ h8 => ?_
      subst e
      refine w_call h8 fun (f : Ast) ts9 h9 hf => ?_
      refine w_want h9 fun c ts0 e _ h0 => ?_
      subst e
      obtain ⟨d1, d2⟩ := hd
      obtain ⟨f1, f2⟩ := hf
      rw [List.length_cons] at d2 f2
      refine w_ret ⟨h0, fun hl => ⟨?_, by omega⟩⟩
      exact g_for (xs := [a, b, d]) hl n1 hk.2 (fun z hz => by
        simp only [List.mem_cons, List.not_mem_nil, or_false] at hz
        rcases hz with rfl | rfl | rfl
        · exact a1
        · exact b1
        · exact d1) (.inr rfl) f1
    · refine w_want h5 fun c ts8 e _ h8 => ?_
      injection e with _ e
      subst e
      refine w_call h8 fun (f : Ast) ts9 h9 hf => ?_
      refine w_want h9 fun c ts0 e _ h0 => ?_
      subst e
      obtain ⟨f1, f2⟩ := hf
      rw [List.length_cons] at f2
      refine w_ret ⟨h0, fun hl => ⟨?_, by omega⟩⟩
      exact g_for (xs := [a, b]) hl n1 hk.2 (fun z hz => by
        simp only [List.mem_cons, List.not_mem_nil, or_false] at hz
        rcases hz with rfl | rfl
        · exact a1
        · exact b1) (.inl rfl) f1
  · refine w_want h1 fun c ts8 e _ h8 => ?_
    injection e with _ e
    subst e
    refine w_call h8 fun (l : List Ast) ts9 h9 hl => ?_
    refine w_want h9 fun c ts0 e _ h0 => ?_
    subst e
    refine w_call h0 fun (f : Ast) ts9 h9 hf => ?_
    refine w_want h9 fun c ts5 e _ h5 => ?_
    subst e
    obtain ⟨l1, l2, l3⟩ := hl
    obtain ⟨f1, f2⟩ := hf
    rw [List.length_cons] at l3 f2
    exact w_ret ⟨h5, fun hl => ⟨g_each hl n1 n2 l1 l2 f1, by omega⟩⟩
theorem p_fnm (at_ : Int) (ts : List TkP) : W M (bodyL (.fnm at_)) ts (PostL M (.fnm at_) ts) := by
  refine w_post fun hE => ?_
  refine w_name hE fun n ts1 e hn hnb h1 => ?_
  subst e
  refine w_call h1 fun (y : Ast) ts2 h2 hy => ?_
  refine w_ret ⟨h2, fun hl => ?_⟩
  obtain ⟨a, b⟩ := hy hl (g_name hn.line hnb) (.inl rfl)
  exact ⟨a, by rw [List.length_cons]; omega⟩
theorem p_fnx (at_ : Int) (x : Ast) (ts : List TkP) : W M (bodyL (.fnx at_ x)) ts (PostL M (.fnx at_ x) ts) := by
  refine w_post fun hE => ?_
  refine w_look hE fun t ts' e ht => ?_
  subst e
  rw [List.length_cons]
  refine w_ite (fun _ => ?_) (fun _ => w_ite (fun _ => ?_) (fun _ => ?_))
  · refine w_tok hE fun h1 => ?_
    refine w_name h1 fun n ts1 e hn hnb h2 => ?_
    subst e
    refine w_call h2 fun (y : Ast) ts2 h3 hy => ?_
    refine w_ret ⟨h3, fun hl hx hk => ?_⟩
    obtain ⟨a, b⟩ := hy hl (g_index ht.line hx.ex (g_str hn.line)) (.inr rfl)
    exact ⟨a, by rw [List.length_cons]; omega⟩
  · refine w_tok hE fun h1 => ?_
    refine w_name h1 fun n ts1 e hn hnb h2 => ?_
    subst e
    refine w_call h2 fun (f : Ast) ts2 h3 hf => ?_
    refine w_ret ⟨h3, fun hl hx hk => ?_⟩
    obtain ⟨a, b⟩ := hf hl nms_self
    refine ⟨g_assign (ts := [_]) (xs := [f]) hl (fun z hz => ?_) (Nat.le_refl _) (fun z hz => ?_) (Nat.le_refl _) (by simp), by rw [List.length_cons]; omega⟩
    · obtain rfl := List.mem_singleton.1 hz
      have := g_index ht.line hx.ex (g_str (s := bts n.2.2.2) hn.line)
      exact ⟨this.1, .inr rfl⟩
    · obtain rfl := List.mem_singleton.1 hz
      exact a.ex
  · refine w_call hE fun (f : Ast) ts2 h3 hf => ?_
    refine w_ret ⟨h3, fun hl hx hk => ?_⟩
    obtain ⟨a, b⟩ := hf hl (by rfl)
    rw [List.length_cons] at b
    refine ⟨g_assign (ts := [x]) (xs := [f]) hl (fun z hz => ?_) (Nat.le_refl _) (fun z hz => ?_) (Nat.le_refl _) (by simp), b⟩
    · obtain rfl := List.mem_singleton.1 hz
      exact ⟨hx.1, hk⟩
    · obtain rfl := List.mem_singleton.1 hz
      exact a.ex
theorem p_loc (at_ : Int) (ts : List TkP) : W M (bodyL (.loc at_)) ts (PostL M (.loc at_) ts) := by
  refine w_post fun hE => ?_
  refine w_look hE fun t ts' e ht => ?_
  subst e
  rw [List.length_cons]
  refine w_ite (fun _ => ?_) (fun _ => ?_)
  · refine w_tok hE fun h1 => ?_
    refine w_name h1 fun n ts1 e hn hnb h2 => ?_
    subst e
    refine w_call h2 fun (f : Ast) ts2 h3 hf => ?_
    refine w_ret ⟨h3, fun hl => ?_⟩
    obtain ⟨a, b⟩ := hf ht.line (by rfl)
    exact ⟨g_localfn hl hnb a, by rw [List.length_cons]; omega⟩
  · refine w_call hE fun (ns : List ByteArray) ts1 h1 hns => ?_
    obtain ⟨n1, n2, n3⟩ := hns
    rw [List.length_cons] at n3
    refine w_look h1 fun t ts2 e _ => ?_
    subst e
    refine w_ite (fun _ => ?_) (fun _ => ?_)
    · refine w_tok h1 fun h2 => ?_
      refine w_call h2 fun (l : List Ast) ts3 h3 hl => ?_
      obtain ⟨l1, l2, l3⟩ := hl
      have := h2.len
      rw [List.length_cons] at n3
      exact w_ret ⟨h3, fun hl => ⟨g_local hl n1 n2 l1 (by omega), by omega⟩⟩
    · exact w_ret ⟨h1, fun hl => ⟨g_local hl n1 n2 (fun a h => by simp at h) (by simp), n3⟩⟩
theorem p_bdy (at_ : Int) (self : List ByteArray) (ts : List TkP) : W M (bodyL (.bdy at_ self)) ts (PostL M (.bdy at_ self) ts) := by
  refine w_post fun hE => ?_
  refine w_want hE fun c ts1 e _ h1 => ?_
  subst e
  rw [List.length_cons]
  refine w_look h1 fun t ts' e ht => ?_
  subst e
  rw [List.length_cons]
  refine w_ite (fun _ => ?_) (fun _ => ?_)
  · refine w_tok h1 fun h2 => ?_
    refine w_call h2 fun (b : Ast) ts3 h3 hb => ?_
    refine w_want h3 fun c ts4 e _ h4 => ?_
    subst e
    obtain ⟨b1, b2⟩ := hb
    rw [List.length_cons] at b2
    exact w_ret ⟨h4, fun hl hs => ⟨g_func hl (.inl rfl) hs b1, by omega⟩⟩
  · refine w_call h1 fun (p : List ByteArray × Int) ts3 h3 hp => ?_
    refine w_want h3 fun c ts4 e _ h4 => ?_
    subst e
    refine w_call h4 fun (b : Ast) ts5 h5 hb => ?_
    refine w_want h5 fun c ts6 e _ h6 => ?_
    subst e
    obtain ⟨b1, b2⟩ := hb
    rw [List.length_cons] at b2
    refine w_ret ⟨h6, fun hl hs => ?_⟩
    obtain ⟨⟨p1, p2⟩, p3⟩ := hp hs
    rw [List.length_cons, List.length_cons] at p3
    exact ⟨g_func hl p2 p1 b1, by omega⟩
theorem p_prm (l : List ByteArray) (ts : List TkP) : W M (bodyL (.prm l)) ts (PostL M (.prm l) ts) := by
  refine w_post fun hE => ?_
  refine w_look hE fun t ts' e ht => ?_
  subst e
  rw [List.length_cons]
  refine w_ite (fun _ => ?_) (fun _ => ?_)
  · refine w_tok hE fun h1 => ?_
    exact w_ret ⟨h1, fun hl => ⟨⟨hl, .inr rfl⟩, by omega⟩⟩
  · refine w_name hE fun n ts1 e hn hnb h2 => ?_
    injection e with _ e
    subst e
    refine w_look h2 fun u ts2 e _ => ?_
    subst e
    rw [List.length_cons]
    refine w_ite (fun _ => ?_) (fun _ => ?_)
    · refine w_tok h2 fun h3 => ?_
      refine w_call h3 fun (p : List ByteArray × Int) ts3 h4 hp => ?_
      refine w_ret ⟨h4, fun hl => ?_⟩
      obtain ⟨p1, p2⟩ := hp (hl.add hnb)
      exact ⟨p1, by omega⟩
    · exact w_ret ⟨h2, fun hl => ⟨⟨hl.add hnb, .inl rfl⟩, by rw [List.length_cons]; omega⟩⟩
theorem p_nam (ts : List TkP) : W M (bodyL .nam) ts (PostL M .nam ts) := by
  refine w_post fun hE => ?_
  refine w_name hE fun n ts1 e hn hnb h1 => ?_
  subst e
  refine w_call h1 fun (l : List ByteArray) ts2 h2 hl => ?_
  obtain ⟨a, b, c⟩ := hl (Nms.one hnb)
  exact w_ret ⟨h2, a, b, by rw [List.length_cons]; omega⟩
theorem p_nmm (l : List ByteArray) (ts : List TkP) : W M (bodyL (.nmm l)) ts (PostL M (.nmm l) ts) := by
  refine w_post fun hE => ?_
  refine w_look hE fun t ts' e ht => ?_
  subst e
  rw [List.length_cons]
  refine w_ite (fun _ => ?_) (fun _ => ?_)
  · refine w_tok hE fun h1 => ?_
    refine w_name h1 fun n ts1 e hn hnb h2 => ?_
    subst e
    refine w_call h2 fun (m : List ByteArray) ts2 h3 hm => ?_
    refine w_ret ⟨h3, fun hl => ?_⟩
    obtain ⟨a, b, c⟩ := hm (hl.add hnb)
    rw [List.length_append] at b
    exact ⟨a, by omega, by rw [List.length_cons]; omega⟩
  · exact w_ret ⟨hE, fun hl => ⟨hl, Nat.le_refl _, by rw [List.length_cons]; omega⟩⟩
theorem p_lst (ts : List TkP) : W M (bodyL .lst) ts (PostL M .lst ts) := by
  refine w_post fun hE => ?_
  refine w_call hE fun (x : Ast) ts1 h1 hx => ?_
  refine w_call h1 fun (l : List Ast) ts2 h2 hl => ?_
  obtain ⟨a1, a2⟩ := hx
  obtain ⟨b1, b2, b3⟩ := hl (fun z hz => by obtain rfl := List.mem_singleton.1 hz; exact a1)
  simp only [List.length_cons, List.length_nil] at b2 b3
  exact w_ret ⟨h2, b1, b2, by omega⟩
theorem p_lsm (l : List Ast) (ts : List TkP) : W M (bodyL (.lsm l)) ts (PostL M (.lsm l) ts) := by
  refine w_post fun hE => ?_
  refine w_look hE fun t ts' e ht => ?_
  subst e
  rw [List.length_cons]
  refine w_ite (fun _ => ?_) (fun _ => ?_)
  · refine w_tok hE fun h1 => ?_
    refine w_call h1 fun (x : Ast) ts1 h2 hx => ?_
    refine w_call h2 fun (m : List Ast) ts2 h3 hm => ?_
    obtain ⟨a1, a2⟩ := hx
    refine w_ret ⟨h3, fun hl => ?_⟩
    obtain ⟨b1, b2, b3⟩ := hm (fun z hz => (List.mem_append.1 hz).elim (hl z) fun h => by obtain rfl := List.mem_singleton.1 h; exact a1)
    rw [List.length_append] at b2 b3
    simp only [List.length_cons, List.length_nil] at b2 b3
    exact ⟨b1, by omega, by omega⟩
  · exact w_ret ⟨hE, fun hl => ⟨hl, Nat.le_refl _, by rw [List.length_cons]; omega⟩⟩
theorem p_tgs (at_ : Int) (l : List Ast) (ts : List TkP) : W M (bodyL (.tgs at_ l)) ts (PostL M (.tgs at_ l) ts) := by
  refine w_post fun hE => ?_
  refine w_look hE fun t ts' e ht => ?_
  subst e
  rw [List.length_cons]
  refine w_ite (fun hk => ?_) (fun _ => w_bad)
  have hall : ∀ {l0 : List Ast} {x : Ast}, l = l0 ++ [x] → (∀ a ∈ l0, Good M a ∧ (a.hd.kind = 7 ∨ a.hd.kind = 8)) → SfG M x → ∀ a ∈ l, Good M a ∧ (a.hd.kind = 7 ∨ a.hd.kind = 8) := fun {l0 x} e h0 hx a ha => by
    subst e
    rcases List.mem_append.1 ha with h | h
    · exact h0 a h
    · obtain rfl := List.mem_singleton.1 h
      have : (l0 ++ [a]).getLastD (nd 0 0 []) = a := by simp
      rw [this] at hk
      exact ⟨hx.1, hk⟩
  refine w_ite (fun _ => ?_) (fun _ => ?_)
  · refine w_tok hE fun h1 => ?_
    refine w_call h1 fun (x : Ast) ts1 h2 hx => ?_
    refine w_call h2 fun (y : Ast) ts2 h3 hy => ?_
    obtain ⟨a1, a2⟩ := hx
    refine w_ret ⟨h3, fun hl hh => ?_⟩
    obtain ⟨l0, z, e, h0, hz⟩ := hh
    obtain ⟨b1, b2⟩ := hy hl ⟨l, x, rfl, hall e h0 hz, a1⟩
    exact ⟨b1, by omega⟩
  · refine w_want hE fun c ts1 e _ h1 => ?_
    injection e with _ e
    subst e
    refine w_call h1 fun (m : List Ast) ts2 h2 hm => ?_
    obtain ⟨m1, m2, m3⟩ := hm
    have hlen := h1.len
    refine w_ret ⟨h2, fun hl hh => ?_⟩
    obtain ⟨l0, z, e, h0, hz⟩ := hh
    exact ⟨g_assign hl (hall e h0 hz) (by rw [e, List.length_append]; simp) m1 m2 (by omega), by omega⟩
theorem p_suf (ts : List TkP) : W M (bodyL .suf) ts (PostL M .suf ts) := by
  refine w_post fun hE => ?_
  refine w_look hE fun t ts' e ht => ?_
  subst e
  rw [List.length_cons]
  refine w_ite (fun hk => ?_) (fun _ => w_ite (fun _ => ?_) (fun _ => w_bad))
  · refine w_tok hE fun h1 => ?_
    refine w_call h1 fun (y : Ast) ts2 h2 hy => ?_
    obtain ⟨a, b⟩ := hy (g_name ht.line (ht.name hk))
    exact w_ret ⟨h2, a, by omega⟩
  · refine w_tok hE fun h1 => ?_
    refine w_call h1 fun (x : Ast) ts1 h2 hx => ?_
    refine w_want h2 fun c ts2 e _ h3 => ?_
    subst e
    refine w_call h3 fun (y : Ast) ts3 h4 hy => ?_
    obtain ⟨a1, a2⟩ := hx
    rw [List.length_cons] at a2
    obtain ⟨a, b⟩ := hy (g_paren ht.line a1)
    exact w_ret ⟨h4, a, by omega⟩
theorem p_sfx (x : Ast) (ts : List TkP) : W M (bodyL (.sfx x)) ts (PostL M (.sfx x) ts) := by
  refine w_post fun hE => ?_
  refine w_look hE fun t ts' e ht => ?_
  subst e
  rw [List.length_cons]
  refine w_ite (fun _ => ?_) (fun _ => w_ite (fun _ => ?_) (fun _ => w_ite (fun _ => ?_) (fun _ => w_ite (fun _ => ?_) (fun _ => ?_))))
  · refine w_tok hE fun h1 => ?_
    refine w_name h1 fun n ts1 e hn hnb h2 => ?_
    subst e
    refine w_call h2 fun (y : Ast) ts2 h3 hy => ?_
    refine w_ret ⟨h3, fun hx => ?_⟩
    obtain ⟨a, b⟩ := hy (g_index ht.line hx.ex (g_str hn.line))
    exact ⟨a, by rw [List.length_cons]; omega⟩
  · refine w_tok hE fun h1 => ?_
    refine w_call h1 fun (e : Ast) ts1 h2 he => ?_
    refine w_want h2 fun c ts2 ee _ h3 => ?_
    subst ee
    refine w_call h3 fun (y : Ast) ts3 h4 hy => ?_
    obtain ⟨a1, a2⟩ := he
    rw [List.length_cons] at a2
    refine w_ret ⟨h4, fun hx => ?_⟩
    obtain ⟨a, b⟩ := hy (g_index ht.line hx.ex a1)
    exact ⟨a, by omega⟩
  · refine w_tok hE fun h1 => ?_
    refine w_name h1 fun n ts1 e hn hnb h2 => ?_
    subst e
    refine w_call h2 fun (l : List Ast) ts2 h3 hl => ?_
    refine w_call h3 fun (y : Ast) ts3 h4 hy => ?_
    obtain ⟨l1, l2⟩ := hl
    have hlen := h2.len
    refine w_ret ⟨h4, fun hx => ?_⟩
    obtain ⟨a, b⟩ := hy (g_method ht.line hnb hx.ex l1 (by omega))
    exact ⟨a, by rw [List.length_cons]; omega⟩
  · refine w_call hE fun (l : List Ast) ts2 h3 hl => ?_
    refine w_call h3 fun (y : Ast) ts3 h4 hy => ?_
    obtain ⟨l1, l2⟩ := hl
    have hlen := hE.len
    refine w_ret ⟨h4, fun hx => ?_⟩
    obtain ⟨a, b⟩ := hy (g_call ht.line hx.ex l1 (by omega))
    rw [List.length_cons] at l2
    exact ⟨a, by omega⟩
  · exact w_ret ⟨hE, fun hx => ⟨hx, by rw [List.length_cons]; omega⟩⟩
theorem p_arg (ts : List TkP) : W M (bodyL .arg) ts (PostL M .arg ts) := by
  refine w_post fun hE => ?_
  refine w_look hE fun t ts' e ht => ?_
  subst e
  rw [List.length_cons]
  refine w_ite (fun _ => ?_) (fun _ => w_ite (fun _ => ?_) (fun _ => ?_))
  · refine w_tok hE fun h1 => ?_
    exact w_ret ⟨h1, fun a h => by obtain rfl := List.mem_singleton.1 h; exact g_str ht.line, by simp only [List.length_cons, List.length_nil]; omega⟩
  · refine w_tok hE fun h1 => ?_
    refine w_call h1 fun (l : List Ast) ts2 h2 hl => ?_
    obtain ⟨l1, l2⟩ := hl (fun a h => by simp at h)
    have hlen := h1.len
    rw [List.length_nil] at l2
    exact w_ret ⟨h2, fun a h => by obtain rfl := List.mem_singleton.1 h; exact g_table ht.line l1 (by omega), by simp only [List.length_cons, List.length_nil]; omega⟩
  · refine w_want hE fun c ts1 e _ h1 => ?_
    injection e with _ e
    subst e
    refine w_look h1 fun u ts2 e _ => ?_
    subst e
    rw [List.length_cons]
    refine w_ite (fun _ => ?_) (fun _ => ?_)
    · refine w_tok h1 fun h2 => ?_
      exact w_ret ⟨h2, fun a h => by simp at h, by rw [List.length_nil]; omega⟩
    · refine w_call h1 fun (l : List Ast) ts3 h3 hl => ?_
      refine w_want h3 fun c ts4 e _ h4 => ?_
      subst e
      obtain ⟨l1, l2, l3⟩ := hl
      rw [List.length_cons, List.length_cons] at l3
      exact w_ret ⟨h4, l1, by omega⟩
theorem p_tbl (l : List Ast) (ts : List TkP) : W M (bodyL (.tbl l)) ts (PostL M (.tbl l) ts) := by
  refine w_post fun hE => ?_
  refine w_look hE fun t ts' e ht => ?_
  subst e
  rw [List.length_cons]
  refine w_ite (fun _ => ?_) (fun _ => ?_)
  · refine w_tok hE fun h1 => ?_
    exact w_ret ⟨h1, fun hl => ⟨hl, by omega⟩⟩
  · refine w_call hE fun (x : Ast) ts1 h1 hx => ?_
    obtain ⟨a1, a2⟩ := hx
    rw [List.length_cons] at a2
    refine w_look h1 fun u ts2 e _ => ?_
    subst e
    rw [List.length_cons] at a2
    refine w_ite (fun _ => ?_) (fun _ => ?_)
    · refine w_tok h1 fun h2 => ?_
      refine w_call h2 fun (m : List Ast) ts3 h3 hm => ?_
      refine w_ret ⟨h3, fun hl => ?_⟩
      obtain ⟨b1, b2⟩ := hm (fun z hz => (List.mem_append.1 hz).elim (hl z) fun h => by obtain rfl := List.mem_singleton.1 h; exact a1)
      rw [List.length_append] at b2
      simp only [List.length_cons, List.length_nil] at b2
      exact ⟨b1, by omega⟩
    · refine w_want h1 fun c ts3 e _ h3 => ?_
      injection e with _ e
      subst e
      refine w_ret ⟨h3, fun hl => ⟨fun z hz => (List.mem_append.1 hz).elim (hl z) fun h => by obtain rfl := List.mem_singleton.1 h; exact a1, ?_⟩⟩
      rw [List.length_append]
      simp only [List.length_cons, List.length_nil]
      omega
theorem p_itm (ts : List TkP) : W M (bodyL .itm) ts (PostL M .itm ts) := by
  refine w_post fun hE => ?_
  refine w_look hE fun t ts' e ht => ?_
  subst e
  rw [List.length_cons]
  refine w_ite (fun _ => ?_) (fun _ => ?_)
  · refine w_tok hE fun h1 => ?_
    refine w_call h1 fun (x : Ast) ts1 h2 hx => ?_
    refine w_want h2 fun c ts2 e _ h3 => ?_
    subst e
    refine w_want h3 fun c ts3 e _ h4 => ?_
    subst e
    refine w_call h4 fun (y : Ast) ts5 h5 hy => ?_
    obtain ⟨a1, a2⟩ := hx
    obtain ⟨b1, b2⟩ := hy
    simp only [List.length_cons] at a2
    exact w_ret ⟨h5, g_key ht.line a1 b1, by omega⟩
  · refine w_call hE fun (x : Ast) ts1 h1 hx => ?_
    obtain ⟨a1, a2⟩ := hx
    rw [List.length_cons] at a2
    refine w_look h1 fun u ts2 e _ => ?_
    subst e
    rw [List.length_cons] at a2
    refine w_ite (fun _ => ?_) (fun _ => ?_)
    · refine w_tok h1 fun h2 => ?_
      refine w_call h2 fun (y : Ast) ts3 h3 hy => ?_
      obtain ⟨b1, b2⟩ := hy
      exact w_ret ⟨h3, g_key ht.line (g_str ht.line) b1, by omega⟩
    · exact w_ret ⟨h1, g_pos ht.line a1, by rw [List.length_cons]; omega⟩
theorem p_exp (s : Nat) (ts : List TkP) : W M (bodyL (.exp s)) ts (PostL M (.exp s) ts) := by
  refine w_post fun hE => ?_
  refine w_call hE fun (x : Ast) ts1 h1 hx => ?_
  refine w_call h1 fun (y : Ast) ts2 h2 hy => ?_
  obtain ⟨a1, a2⟩ := hx
  obtain ⟨b1, b2⟩ := hy a1
  exact w_ret ⟨h2, b1, by omega⟩
theorem ite_some {α : Type} {c : Prop} [Decidable c] {a o : α} {y : Option α} (h : (if c then some a else y) = some o) : a = o ∨ y = some o := by
  by_cases hc : c
  · rw [if_pos hc] at h
    exact .inl (Option.some.inj h)
  · rw [if_neg hc] at h
    exact .inr h
theorem binO_op {t : TkP} {o : Int × Nat × Nat} (h : binO t = some o) : 1 ≤ o.1 ∧ o.1 ≤ 19 := by
  unfold binO at h
  repeat
    obtain e | h := ite_some h
    · rw [← e]; exact ⟨by decide, by decide⟩
  cases h
theorem unaO_op {t : TkP} {o : Int} (h : unaO t = some o) : 20 ≤ o ∧ o ≤ 23 := by
  unfold unaO at h
  repeat
    obtain e | h := ite_some h
    · rw [← e]; exact ⟨by decide, by decide⟩
  cases h
theorem p_lvm (s : Nat) (x : Ast) (ts : List TkP) : W M (bodyL (.lvm s x)) ts (PostL M (.lvm s x) ts) := by
  refine w_post fun hE => ?_
  refine w_look hE fun t ts' e ht => ?_
  subst e
  rw [List.length_cons]
  cases hb : binO t with
  | none => exact w_ret ⟨hE, fun hx => ⟨hx, by rw [List.length_cons]; omega⟩⟩
  | some o =>
    refine w_ite (fun _ => ?_) (fun _ => ?_)
    · refine w_tok hE fun h1 => ?_
      refine w_call h1 fun (y : Ast) ts1 h2 hy => ?_
      refine w_call h2 fun (z : Ast) ts2 h3 hz => ?_
      obtain ⟨a1, a2⟩ := hy
      refine w_ret ⟨h3, fun hx => ?_⟩
      obtain ⟨b1, b2⟩ := hz (g_bin ht.line (binO_op hb) hx a1)
      exact ⟨b1, by omega⟩
    · exact w_ret ⟨hE, fun hx => ⟨hx, by rw [List.length_cons]; omega⟩⟩
theorem p_una (ts : List TkP) : W M (bodyL .una) ts (PostL M .una ts) := by
  refine w_post fun hE => ?_
  refine w_look hE fun t ts' e ht => ?_
  subst e
  cases hb : unaO t with
  | none =>
    refine w_call hE fun (x : Ast) ts1 h1 hx => ?_
    obtain ⟨a1, a2⟩ := hx
    exact w_ret ⟨h1, a1, a2⟩
  | some o =>
    refine w_tok hE fun h1 => ?_
    refine w_call h1 fun (x : Ast) ts1 h2 hx => ?_
    obtain ⟨a1, a2⟩ := hx
    exact w_ret ⟨h2, g_una ht.line (unaO_op hb) a1, by rw [List.length_cons]; omega⟩
theorem p_lef (ts : List TkP) : W M (bodyL .lef) ts (PostL M .lef ts) := by
  refine w_post fun hE => ?_
  refine w_look hE fun t ts' e ht => ?_
  subst e
  rw [List.length_cons]
  refine w_ite (fun _ => ?_) (fun _ => w_ite (fun _ => ?_) (fun _ => w_ite (fun _ => ?_) (fun _ => w_ite (fun _ => ?_) (fun _ => w_ite (fun _ => ?_) (fun _ => w_ite (fun _ => ?_) (fun _ => w_ite (fun _ => ?_) (fun _ => w_ite (fun _ => ?_) (fun _ => ?_))))))))
  · exact w_tok hE fun h1 => w_ret ⟨h1, g_leaf ht.line (.inl rfl), by omega⟩
  · exact w_tok hE fun h1 => w_ret ⟨h1, g_leaf ht.line (.inr (.inl rfl)), by omega⟩
  · exact w_tok hE fun h1 => w_ret ⟨h1, g_leaf ht.line (.inr (.inr (.inl rfl))), by omega⟩
  · exact w_tok hE fun h1 => w_ret ⟨h1, g_leaf ht.line (.inr (.inr (.inr rfl))), by omega⟩
  · refine w_tok hE fun h1 => ?_
    refine w_call h1 fun (f : Ast) ts1 h2 hf => ?_
    obtain ⟨a, b⟩ := hf ht.line (by rfl)
    exact w_ret ⟨h2, a.ex, by omega⟩
  · refine w_tok hE fun h1 => ?_
    refine w_call h1 fun (l : List Ast) ts1 h2 hl => ?_
    obtain ⟨l1, l2⟩ := hl (fun a h => by simp at h)
    have hlen := h1.len
    rw [List.length_nil] at l2
    exact w_ret ⟨h2, g_table ht.line l1 (by omega), by omega⟩
  · exact w_tok hE fun h1 => w_ret ⟨h1, g_int ht.line, by omega⟩
  · exact w_tok hE fun h1 => w_ret ⟨h1, g_str ht.line, by omega⟩
  · refine w_call hE fun (x : Ast) ts1 h1 hx => ?_
    obtain ⟨a1, a2⟩ := hx
    rw [List.length_cons] at a2
    exact w_ret ⟨h1, a1.ex, a2⟩
theorem post_all (n : NT) (ts : List TkP) : W M (bodyL n) ts (PostL M n ts) := by
  cases n with
  | blk => exact p_blk ts
  | sts l => exact p_sts l ts
  | ret a => exact p_ret a ts
  | sta => exact p_sta ts
  | els l => exact p_els l ts
  | loo a => exact p_loo a ts
  | fnm a => exact p_fnm a ts
  | fnx a x => exact p_fnx a x ts
  | loc a => exact p_loc a ts
  | bdy a s => exact p_bdy a s ts
  | prm l => exact p_prm l ts
  | nam => exact p_nam ts
  | nmm l => exact p_nmm l ts
  | lst => exact p_lst ts
  | lsm l => exact p_lsm l ts
  | tgs a l => exact p_tgs a l ts
  | suf => exact p_suf ts
  | sfx x => exact p_sfx x ts
  | arg => exact p_arg ts
  | tbl l => exact p_tbl l ts
  | itm => exact p_itm ts
  | exp s => exact p_exp s ts
  | lvm s x => exact p_lvm s x ts
  | una => exact p_una ts
  | lef => exact p_lef ts
theorem read_post {n : NT} {ts ts' : List TkP} {v : VT n} (h : P bodyL (bodyL n) ts (.ok (v, ts'))) (hE : EnvR M ts) : EnvR M ts' ∧ Res M n ts.length v ts'.length := h.holds post_all hE
theorem read_good {ts ts' : List TkP} {b : Ast} (h : PL srcL ts (.ok (b, ts'))) (hE : EnvR M ts) : BlG M b := by
  unfold srcL at h
  cases h with
  | call h1 h2 =>
    have hb := (read_post h1 hE).2
    cases h2 with
    | @look _ _ t _ _ h2 =>
      by_cases hk : t.1 = 0
      · replace h2 : PL (if t.1 = 0 then .ret _ else .bad) _ _ := h2
        rw [if_pos hk] at h2
        cases h2
        exact hb.1
      · replace h2 : PL (if t.1 = 0 then .ret _ else .bad) _ _ := h2
        rw [if_neg hk] at h2
        cases h2
end Go.Proofs.YtfpeecjafccfjaaGreatDoor
namespace Go.Proofs.YtfpeecjafccfjaaGreatDoor
section
variable {N : Type} {V : N → Type} (body : ∀ n, G N V (V n)) (X Y : List TkP)
variable {body X Y}
end
def semi : TkP := (5, 1, 0, [59])
def rpar : TkP := (5, 1, 0, [41])
theorem inv_look {α : Type} {f : TkP → GL α} {t : TkP} {ts : List TkP} {r : Except Int (α × List TkP)} (h : PL (.look f) (t :: ts) r) : PL (f t) (t :: ts) r := by cases h with | look h => exact h
theorem inv_tok {α : Type} {f : TkP → GL α} {t : TkP} {ts : List TkP} {r : Except Int (α × List TkP)} (h : PL (.tok f) (t :: ts) r) : PL (f t) ts r := by cases h with | tok h => exact h
theorem inv_call {α : Type} {n : NT} {k : VT n → GL α} {ts ts2 : List TkP} {a : α} (h : PL (.call n k) ts (.ok (a, ts2))) : ∃ v ts1, PL (bodyL n) ts (.ok (v, ts1)) ∧ PL (k v) ts1 (.ok (a, ts2)) := by cases h with | call h1 h2 => exact ⟨_, _, h1, h2⟩
theorem inv_ret {α : Type} {a b : α} {ts ts2 : List TkP} (h : PL (.ret a) ts (.ok (b, ts2))) : b = a ∧ ts2 = ts := by cases h; exact ⟨rfl, rfl⟩
theorem inv_bad {α : Type} {a : α} {ts ts2 : List TkP} (h : PL (.bad : GL α) ts (.ok (a, ts2))) : False := by cases h
theorem tok_no {α : Type} {f : TkP → GL α} {t : TkP} {ts : List TkP} {a : α} (h : PL (.tok f) (t :: ts) (.ok (a, t :: ts))) : False := by
  obtain ⟨c, hc⟩ := (inv_tok h).tail _ _ rfl
  have := congrArg List.length hc
  simp at this
  omega
section
variable {X Y : List TkP}
end
end Go.Proofs.YtfpeecjafccfjaaGreatDoor
namespace Go.Proofs.YtfpeecjafccfjaaGreatDoor
def spec : NT → Bool
  | .blk | .sts _ | .ret _ => true
  | _ => false
def eats : NT → Bool
  | .els _ => true
  | .tbl _ => true
  | _ => false
def Nv {α : Type} : Option TkP → Prop → GL α → Prop
  | _, last, .ret _ => last
  | _, _, .bad => True
  | some t, _, .tok f => Nv none (isW [59] t = false) (f t)
  | none, _, .tok f => ∀ t, Nv none (isW [59] t = false) (f t)
  | some t, last, .look f => Nv (some t) last (f t)
  | none, last, .look f => ∀ t, Nv (some t) last (f t)
  | _, last, .call n k => if spec n then ∀ v, Nv none False (k v) else if eats n then ∀ v, Nv none True (k v) else ∀ v, Nv none last (k v)
theorem els_eats {l v : List Ast} {ts : List TkP} (h : PL (bodyL (.els l)) ts (.ok (v, ts))) : False := by
  cases ts with
  | nil => cases h
  | cons t ts =>
    have h := inv_look h
    by_cases h1 : isW wElseif t = true
    · rw [if_pos h1] at h; exact tok_no h
    · rw [if_neg h1] at h
      by_cases h2 : isW wElse t = true
      · rw [if_pos h2] at h; exact tok_no h
      · rw [if_neg h2] at h
        have h := inv_look h
        by_cases h3 : isW wEnd t = true
        · rw [if_pos h3] at h; exact tok_no h
        · rw [if_neg h3] at h; exact inv_bad h
theorem tok_less {α : Type} {f : TkP → GL α} {t : TkP} {ts ts' : List TkP} {a : α} (h : PL (.tok f) (t :: ts) (.ok (a, ts'))) : ts'.length < (t :: ts).length := by
  obtain ⟨c, hc⟩ := (inv_tok h).tail _ _ rfl
  rw [hc, List.length_cons, List.length_append]
  omega
theorem tbl_eats {l v : List Ast} {ts : List TkP} (h : PL (bodyL (.tbl l)) ts (.ok (v, ts))) : False := by
  cases ts with
  | nil => cases h
  | cons t ts =>
    have h := inv_look h
    by_cases h1 : isW [125] t = true
    · rw [if_pos h1] at h; exact tok_no h
    · rw [if_neg h1] at h
      obtain ⟨x, ts1, h2, h3⟩ := inv_call (n := .itm) h
      obtain ⟨c, hc⟩ := h2.tail _ _ rfl
      have hl := congrArg List.length hc
      rw [List.length_append] at hl
      cases ts1 with
      | nil => cases h3
      | cons u us =>
        have h3 := inv_look h3
        by_cases h4 : (isW [44] u || isW [59] u) = true
        · rw [if_pos h4] at h3
          have := tok_less h3
          omega
        · rw [if_neg h4] at h3
          have h3 := inv_look h3
          by_cases h5 : isW [125] u = true
          · rw [if_pos h5] at h3
            have := tok_less h3
            omega
          · rw [if_neg h5] at h3; exact inv_bad h3
theorem eats_ne {n : NT} (he : eats n = true) {v : VT n} {ts : List TkP} (h : PL (bodyL n) ts (.ok (v, ts))) : False := by
  cases n with
  | els l => exact els_eats h
  | tbl l => exact tbl_eats h
  | _ => cases he
def EndP (ts ts' : List TkP) (last : Prop) : Prop := (ts' = ts ∧ last) ∨ ∃ c t, ts = c ++ t :: ts' ∧ isW [59] t = false
theorem EndP.pre {ts ts1 ts' : List TkP} {last : Prop} (c : List TkP) (e : ts = c ++ ts1) (h : ∃ c t, ts1 = c ++ t :: ts' ∧ isW [59] t = false) : EndP ts ts' last := by
  obtain ⟨c1, t, e1, h1⟩ := h
  exact .inr ⟨c ++ c1, t, by rw [e, e1, List.append_assoc], h1⟩
theorem end_all (hb : ∀ n, spec n = false → Nv none True (bodyL n)) {α : Type} {g : GL α} {ts : List TkP} {r : Except Int (α × List TkP)} (h : PL g ts r) : ∀ a ts', r = .ok (a, ts') → ∀ (o : Option TkP) (last : Prop), (∀ t, o = some t → ∃ us, ts = t :: us) → Nv o last g → EndP ts ts' last := by
  induction h with
  | ret =>
    intro a ts' e o last _ hn
    injection e with e
    injection e with _ e
    subst e
    cases o <;> exact .inl ⟨rfl, hn⟩
  | bad => intro a ts' e; cases e
  | @tok _ f t ts r _ ih =>
    intro a ts' e o last ho hn
    have hn' : Nv none (isW [59] t = false) (f t) := by
      cases o with
      | none => exact hn t
      | some u =>
        obtain ⟨us, hu⟩ := ho u rfl
        injection hu with h1 _
        subst h1
        exact hn
    rcases ih a ts' e none _ (fun t h => by cases h) hn' with ⟨h1, h2⟩ | h1
    · subst h1
      exact .inr ⟨[], t, rfl, h2⟩
    · exact .pre [t] rfl h1
  | @look _ f t ts r _ ih =>
    intro a ts' e o last ho hn
    refine ih a ts' e (some t) last (fun u h => by injection h with h; subst h; exact ⟨ts, rfl⟩) ?_
    cases o with
    | none => exact hn t
    | some u =>
      obtain ⟨us, hu⟩ := ho u rfl
      injection hu with h1 _
      subst h1
      exact hn
  | @call _ n k ts ts1 v r h1 h2 ih1 ih2 =>
    intro a ts' e o last ho hn
    subst e
    obtain ⟨c1, hc1⟩ := h1.tail _ _ rfl
    have hn' : if spec n then ∀ v, Nv none False (k v) else if eats n then ∀ v, Nv none True (k v) else ∀ v, Nv none last (k v) := by cases o <;> exact hn
    by_cases hs : spec n = true
    · rw [if_pos hs] at hn'
      rcases ih2 a ts' rfl none False (fun t h => by cases h) (hn' v) with ⟨_, h⟩ | h
      · exact h.elim
      · exact .pre c1 hc1 h
    · rw [if_neg hs] at hn'
      have hs' : spec n = false := Bool.eq_false_iff.2 hs
      have e1 := ih1 v ts1 rfl none True (fun t h => by cases h) (hb n hs')
      by_cases he : eats n = true
      · rw [if_pos he] at hn'
        rcases ih2 a ts' rfl none True (fun t h => by cases h) (hn' v) with ⟨h3, _⟩ | h3
        · subst h3
          rcases e1 with ⟨h4, _⟩ | h4
          · subst h4
            exact (eats_ne he h1).elim
          · exact .inr h4
        · exact .pre c1 hc1 h3
      · rw [if_neg he] at hn'
        rcases ih2 a ts' rfl none last (fun t h => by cases h) (hn' v) with ⟨h3, h5⟩ | h3
        · subst h3
          rcases e1 with ⟨h4, _⟩ | h4
          · exact .inl ⟨h4, h5⟩
          · exact .inr h4
        · exact .pre c1 hc1 h3
  | callBad _ _ => intro a ts' e; cases e
theorem nv_weak {α : Type} : ∀ (g : GL α) (o : Option TkP) (p : Prop), p → Nv o True g → Nv o p g := by
  intro g
  induction g with
  | ret a => intro o p hp _; cases o <;> exact hp
  | bad => intro o p _ h; cases o <;> trivial
  | tok f ih => intro o p _ h; cases o <;> exact h
  | look f ih =>
    intro o p hp h
    cases o with
    | none => exact fun t => ih t (some t) p hp (h t)
    | some t => exact ih t (some t) p hp h
  | call n k ih =>
    intro o p hp h
    have h' : if spec n then ∀ v, Nv none False (k v) else if eats n then ∀ v, Nv none True (k v) else ∀ v, Nv none True (k v) := by cases o <;> exact h
    have : if spec n then ∀ v, Nv none False (k v) else if eats n then ∀ v, Nv none True (k v) else ∀ v, Nv none p (k v) := by
      by_cases h1 : spec n = true
      · rw [if_pos h1] at h' ⊢; exact h'
      · rw [if_neg h1] at h' ⊢
        by_cases h2 : eats n = true
        · rw [if_pos h2] at h' ⊢; exact h'
        · rw [if_neg h2] at h' ⊢
          exact fun v => ih v none p hp (h' v)
    cases o <;> exact this
theorem isW_ne {s : List UInt8} {t : TkP} (h : isW s t = true) (hs : s ≠ [59]) : isW [59] t = false := by
  unfold isW at h ⊢
  rw [Bool.and_eq_true, decide_eq_true_eq] at h
  rw [h.2, decide_eq_false hs, Bool.and_false]
theorem isW_kind {t : TkP} (h : t.1 ≠ 2 ∧ t.1 ≠ 5) : isW [59] t = false := by
  unfold isW
  rw [decide_eq_false h.1, decide_eq_false h.2]
  rfl
theorem nv_ite {α : Type} {c : Prop} [Decidable c] {o : Option TkP} {p : Prop} {g g' : GL α} (h1 : c → Nv o p g) (h2 : ¬ c → Nv o p g') : Nv o p (if c then g else g') := by
  by_cases h : c
  · rw [if_pos h]; exact h1 h
  · rw [if_neg h]; exact h2 h
theorem nv_tok {α : Type} {s : List UInt8} {t : TkP} {p : Prop} {f : TkP → GL α} (h : isW s t = true) (hs : s ≠ [59]) (hf : Nv none True (f t)) : Nv (some t) p (.tok f) := nv_weak (f t) none _ (isW_ne h hs) hf
theorem nv_tokk {α : Type} {t : TkP} {p : Prop} {f : TkP → GL α} (h : t.1 ≠ 2 ∧ t.1 ≠ 5) (hf : Nv none True (f t)) : Nv (some t) p (.tok f) := nv_weak (f t) none _ (isW_kind h) hf
theorem nv_want {α : Type} {s : List UInt8} {o : Option TkP} {p : Prop} {k : TkP → GL α} (hs : s ≠ [59]) (hf : ∀ t, Nv none True (k t)) : Nv o p (want s k) := by
  cases o with
  | none => exact fun t => nv_ite (fun h => nv_tok h hs (hf t)) (fun _ => trivial)
  | some t => exact nv_ite (fun h => nv_tok h hs (hf t)) (fun _ => trivial)
theorem nv_name {α : Type} {o : Option TkP} {p : Prop} {k : TkP → GL α} (hf : ∀ t, Nv none True (k t)) : Nv o p (name k) := by
  cases o with
  | none => exact fun t => nv_ite (fun h => nv_tokk ⟨by rw [h]; decide, by rw [h]; decide⟩ (hf t)) (fun _ => trivial)
  | some t => exact nv_ite (fun h => nv_tokk ⟨by rw [h]; decide, by rw [h]; decide⟩ (hf t)) (fun _ => trivial)
theorem isW_other {s : List UInt8} {t : TkP} (h : isW [59] t = true) (hs : s ≠ [59]) : isW s t = false := by
  cases h1 : isW s t with
  | false => rfl
  | true => rw [isW_ne h1 hs] at h; cases h
theorem binO_ne {t : TkP} {o : Int × Nat × Nat} (h : binO t = some o) : isW [59] t = false := by
  cases h1 : isW [59] t with
  | false => rfl
  | true =>
    have e : ∀ s, s ≠ [59] → isW s t = false := fun s => isW_other h1
    unfold binO at h
    rw [e wOr (by decide), e wAnd (by decide), e [60] (by decide), e [62] (by decide), e [60, 61] (by decide), e [62, 61] (by decide), e [126, 61] (by decide), e [61, 61] (by decide), e [124] (by decide), e [126] (by decide), e [38] (by decide), e [60, 60] (by decide), e [62, 62] (by decide), e [46, 46] (by decide), e [43] (by decide), e [45] (by decide), e [42] (by decide), e [47, 47] (by decide), e [37] (by decide)] at h
    cases h
theorem unaO_ne {t : TkP} {o : Int} (h : unaO t = some o) : isW [59] t = false := by
  cases h1 : isW [59] t with
  | false => rfl
  | true =>
    have e : ∀ s, s ≠ [59] → isW s t = false := fun s => isW_other h1
    unfold unaO at h
    rw [e [45] (by decide), e [126] (by decide), e wNot (by decide), e [35] (by decide)] at h
    cases h
end Go.Proofs.YtfpeecjafccfjaaGreatDoor
namespace Go.Proofs.YtfpeecjafccfjaaGreatDoor
theorem nv_all (n : NT) (hs : spec n = false) : Nv none True (bodyL n) := by
  cases n with
  | blk => cases hs
  | sts l => cases hs
  | ret a => cases hs
  | sta =>
    exact fun t => nv_ite (fun h => nv_tok h (by decide) (nv_name fun _ => nv_want (by decide) fun _ => trivial)) fun _ => nv_ite (fun h => nv_tok h (by decide) trivial) fun _ => nv_ite (fun h => nv_tok h (by decide) (nv_name fun _ => trivial)) fun _ =>
      nv_ite (fun h => nv_tok h (by decide) fun _ => nv_want (by decide) fun _ => trivial) fun _ => nv_ite (fun h => nv_tok h (by decide) fun _ => nv_want (by decide) fun _ _ => nv_want (by decide) fun _ => trivial) fun _ =>
      nv_ite (fun h => nv_tok h (by decide) fun _ => nv_want (by decide) fun _ _ => trivial) fun _ => nv_ite (fun h => nv_tok h (by decide) fun _ => nv_want (by decide) fun _ _ _ => trivial) fun _ =>
      nv_ite (fun h => nv_tok h (by decide) fun _ => trivial) fun _ => nv_ite (fun h => nv_tok h (by decide) fun _ => trivial) fun _ => nv_ite (fun h => nv_tok h (by decide) fun _ => trivial) fun _ => fun _ => nv_ite (fun _ => trivial) fun _ _ => trivial
  | els l =>
    exact fun t => nv_ite (fun h => nv_tok h (by decide) fun _ => nv_want (by decide) fun _ _ _ => trivial) fun _ => nv_ite (fun h => nv_tok h (by decide) fun _ => nv_want (by decide) fun _ => trivial) fun _ => nv_want (by decide) fun _ => trivial
  | loo at_ =>
    exact fun _ t => nv_ite (fun h => nv_tok h.1 (by decide) fun _ => nv_want (by decide) fun _ _ u => nv_ite (fun h => nv_tok h (by decide) fun _ => nv_want (by decide) fun _ _ => nv_want (by decide) fun _ => trivial) fun _ => nv_want (by decide) fun _ _ => nv_want (by decide) fun _ => trivial)
      fun _ => nv_want (by decide) fun _ _ => nv_want (by decide) fun _ _ => nv_want (by decide) fun _ => trivial
  | fnm at_ => exact nv_name fun _ _ => trivial
  | fnx at_ x => exact fun t => nv_ite (fun h => nv_tok h (by decide) (nv_name fun _ _ => trivial)) fun _ => nv_ite (fun h => nv_tok h (by decide) (nv_name fun _ _ => trivial)) fun _ _ => trivial
  | loc at_ => exact fun t => nv_ite (fun h => nv_tok h (by decide) (nv_name fun _ _ => trivial)) fun _ _ u => nv_ite (fun h => nv_tok h (by decide) fun _ => trivial) fun _ => trivial
  | bdy at_ s => exact nv_want (by decide) fun _ t => nv_ite (fun h => nv_tok h (by decide) fun _ => nv_want (by decide) fun _ => trivial) fun _ _ => nv_want (by decide) fun _ _ => nv_want (by decide) fun _ => trivial
  | prm l => exact fun t => nv_ite (fun h => nv_tok h (by decide) trivial) fun _ => nv_name fun _ u => nv_ite (fun h => nv_tok h (by decide) fun _ => trivial) fun _ => trivial
  | nam => exact nv_name fun _ _ => trivial
  | nmm l => exact fun t => nv_ite (fun h => nv_tok h (by decide) (nv_name fun _ _ => trivial)) fun _ => trivial
  | lst => exact fun _ _ => trivial
  | lsm l => exact fun t => nv_ite (fun h => nv_tok h (by decide) fun _ _ => trivial) fun _ => trivial
  | tgs at_ l => exact fun t => nv_ite (fun _ => nv_ite (fun h => nv_tok h (by decide) fun _ _ => trivial) fun _ => nv_want (by decide) fun _ _ => trivial) fun _ => trivial
  | suf => exact fun t => nv_ite (fun h => nv_tokk ⟨by rw [h]; decide, by rw [h]; decide⟩ fun _ => trivial) fun _ => nv_ite (fun h => nv_tok h (by decide) fun _ => nv_want (by decide) fun _ _ => trivial) fun _ => trivial
  | sfx x =>
    exact fun t => nv_ite (fun h => nv_tok h (by decide) (nv_name fun _ _ => trivial)) fun _ => nv_ite (fun h => nv_tok h (by decide) fun _ => nv_want (by decide) fun _ _ => trivial) fun _ => nv_ite (fun h => nv_tok h (by decide) (nv_name fun _ _ _ => trivial)) fun _ =>
      nv_ite (fun _ _ _ => trivial) fun _ => trivial
  | arg =>
    exact fun t => nv_ite (fun h => nv_tokk ⟨by rw [h]; decide, by rw [h]; decide⟩ trivial) fun _ => nv_ite (fun h => nv_tok h (by decide) fun _ => trivial) fun _ => nv_want (by decide) fun _ u => nv_ite (fun h => nv_tok h (by decide) trivial) fun _ _ => nv_want (by decide) fun _ => trivial
  | tbl l =>
    exact fun t => nv_ite (fun h => nv_tok h (by decide) trivial) fun _ _ u => nv_ite (fun _ _ => trivial) fun _ => nv_want (by decide) fun _ => trivial
  | itm =>
    exact fun t => nv_ite (fun h => nv_tok h (by decide) fun _ => nv_want (by decide) fun _ => nv_want (by decide) fun _ _ => trivial) fun _ _ u => nv_ite (fun h => nv_tok h.1 (by decide) fun _ => trivial) fun _ => trivial
  | exp s => exact fun _ _ => trivial
  | lvm s x =>
    intro t
    show Nv (some t) True (match binO t with | some o => _ | none => _)
    cases hb : binO t with
    | none => trivial
    | some o => exact nv_ite (fun _ => nv_weak _ none _ (binO_ne hb) fun _ _ => trivial) fun _ => trivial
  | una =>
    intro t
    show Nv (some t) True (match unaO t with | some o => _ | none => _)
    cases hb : unaO t with
    | none => exact fun _ => trivial
    | some o => exact nv_weak _ none _ (unaO_ne hb) fun _ => trivial
  | lef =>
    exact fun t => nv_ite (fun h => nv_tok h (by decide) trivial) fun _ => nv_ite (fun h => nv_tok h (by decide) trivial) fun _ => nv_ite (fun h => nv_tok h (by decide) trivial) fun _ => nv_ite (fun h => nv_tok h (by decide) trivial) fun _ =>
      nv_ite (fun h => nv_tok h (by decide) fun _ => trivial) fun _ => nv_ite (fun h => nv_tok h (by decide) fun _ => trivial) fun _ => nv_ite (fun h => nv_tokk ⟨by rw [h]; decide, by rw [h]; decide⟩ trivial) fun _ => nv_ite (fun h => nv_tokk ⟨by rw [h]; decide, by rw [h]; decide⟩ trivial) fun _ _ => trivial
theorem no_semi {n : NT} (hs : spec n = false) {ts ts' : List TkP} {v : VT n} (h : PL (bodyL n) ts (.ok (v, ts'))) : ts' = ts ∨ ∃ c t, ts = c ++ t :: ts' ∧ isW [59] t = false := by
  rcases end_all nv_all h v ts' rfl none True (fun t h => by cases h) (nv_all n hs) with ⟨h1, _⟩ | h1
  · exact .inl h1
  · exact .inr h1
end Go.Proofs.YtfpeecjafccfjaaGreatDoor
namespace Go.Proofs.YtfpeecjafccfjaaGreatDoor
def eofT : TkP := (0, 1, 0, [])
theorem call_ret_inv {n : NT} {ts : List TkP} {r : Except Int (VT n × List TkP)} (h : PL (.call n fun v => .ret v) ts r) : PL (bodyL n) ts r := by
  cases h with
  | call h1 h2 => cases h2; exact h1
  | callBad h => exact h
theorem len_app2 (us : List TkP) : (us ++ [semi, eofT]).length = us.length + 2 := by rw [List.length_append]; rfl
theorem end_cut {us c ts1 : List TkP} (e : us ++ [semi, eofT] = c ++ ts1) (h : 2 ≤ ts1.length) : ∃ us', ts1 = us' ++ [semi, eofT] ∧ us = c ++ us' := by
  have hl := congrArg List.length e
  rw [List.length_append, List.length_append] at hl
  have h2 : ([semi, eofT] : List TkP).length = 2 := rfl
  rcases List.append_eq_append_iff.1 e with ⟨a', h3, h4⟩ | ⟨c', h3, h4⟩
  · have := congrArg List.length h4
    rw [List.length_append] at this
    have : a' = [] := List.eq_nil_of_length_eq_zero (by omega)
    subst this
    rw [List.append_nil] at h3
    rw [List.nil_append] at h4
    exact ⟨[], by rw [h4]; rfl, by rw [h3, List.append_nil]⟩
  · exact ⟨c', h4, h3⟩
theorem end_one {us c : List TkP} {u : TkP} (e : us ++ [semi, eofT] = c ++ [u, eofT]) : u = semi := by
  obtain ⟨us', h1, _⟩ := end_cut e (Nat.le_refl _)
  have : us' = [] := by
    have h2 := congrArg List.length h1
    rw [len_app2] at h2
    have h3 : ([u, eofT] : List TkP).length = 2 := rfl
    exact List.eq_nil_of_length_eq_zero (by omega)
  subst this
  injection h1
theorem end_bad {n : NT} (hs : spec n = false) {us : List TkP} {v : VT n} (h : PL (bodyL n) (us ++ [semi, eofT]) (.ok (v, [eofT]))) : False := by
  rcases no_semi hs h with h1 | ⟨c, t, h1, h2⟩
  · have := congrArg List.length h1
    rw [List.length_append] at this
    simp at this
  · have := end_one h1
    subst this
    cases h2
end Go.Proofs.YtfpeecjafccfjaaGreatDoor
namespace Go.Proofs.YtfpeecjafccfjaaGreatDoor
variable {M : Int}
theorem src_inv {ts ts' : List TkP} {a : Ast} (h : PL srcL ts (.ok (a, ts'))) : ∃ t ts0 la u us, ts = t :: ts0 ∧ ts' = u :: us ∧ u.1 = 0 ∧ a = nd 18 t.2.1 la ∧ PL (bodyL (.sts [])) ts (.ok (la, u :: us)) := by
  obtain ⟨(b : Ast), ts1, h1, h2⟩ := inv_call (n := .blk) h
  cases ts with
  | nil => cases h1
  | cons t ts0 =>
    have h1 := inv_look h1
    obtain ⟨(la : List Ast), ts2, h3, h4⟩ := inv_call (n := .sts []) h1
    obtain ⟨e1, e2⟩ := inv_ret h4
    subst e1 e2
    cases ts1 with
    | nil => cases h2
    | cons u us =>
      have h2 := inv_look h2
      by_cases hk : u.1 = 0
      · rw [if_pos hk] at h2
        obtain ⟨e1, e2⟩ := inv_ret h2
        subst e1 e2
        exact ⟨t, ts0, la, u, us, rfl, rfl, hk, rfl, h3⟩
      · rw [if_neg hk] at h2
        exact (inv_bad h2).elim
end Go.Proofs.YtfpeecjafccfjaaGreatDoor
namespace Go.Proofs.YtfpeecjafccfjaaGreatDoor
variable {M : Int}
def tRet : TkP := (2, 1, 0, wReturn)
def lpar : TkP := (5, 1, 0, [40])
def eqT : TkP := (5, 1, 0, [61])
end Go.Proofs.YtfpeecjafccfjaaGreatDoor
namespace Go.Proofs.YtfpeecjafccfjaaGreatDoor
section
variable {N : Type} {V : N → Type} (body : ∀ n, G N V (V n)) (sp : N → Bool) (X Y : List TkP)
variable {body sp X Y}
end
def eofL (L : Int) : TkP := (0, L, 0, [])
section
variable {L1 L2 : Int}
end
end Go.Proofs.YtfpeecjafccfjaaGreatDoor
