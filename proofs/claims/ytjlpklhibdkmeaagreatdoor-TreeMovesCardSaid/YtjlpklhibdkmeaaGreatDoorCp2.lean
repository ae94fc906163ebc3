/- The document's Copy, walked. -/
import Derived.Test.YtjlpklhibdkmeaaGreatDoorCpy
import Derived.Test.YtjlpklhibdkmeaaGreatDoorWrt
namespace Go.Proofs.YtjlpklhibdkmeaaGreatDoor
open Go.RowKit

/-- append(out.Nodes, x). -/
theorem at_node {ops : Array Oper} {rest : List Oper} {o : Oper} {a : Act} {Q : Exit → Act → World → Prop} (w : World) (x : Nd) (p : Value × Value) (hp1 : p.1.oneCell' = true) (hp2 : p.2.oneCell' = true) (hgd : o.guard = none) (sl y : Operand)
    (ho : o.op = .call { callee := .builtin .append, args := #[sl, y], argTypes := #[22, 22] }) (B : Nat) (v : Value) (T : List Nd) (vs : List (Value × Value)) (hl : vs.length = T.length) (hs : a.eval sl = v) (hown : w.ownsRow B 32 7 v T.length (rowc T vs)) (g : Nat) (hg : g = w.heap.size) (hy : a.eval y = .slice (some ⟨g, 0, none⟩) 1 1)
    (arr : Array Value) (harr : arr.toList = ncell x p) (n : Nat) (hnT : T.length = n)
    (hlen : T.length ≤ 20000) (hB : B ≤ w.heap.size)
    (h : ∀ A' c' w', w'.ownsRow B 32 7 (.slice A' (n + 1) c') (T ++ [x]).length (rowc (T ++ [x]) (vs ++ [p])) → Below B w w' → (∀ (i : Nat) ob, w.heap[i]? = some ob → some i ≠ v.ownBlock → w'.heap[i]? = some ob) → wpList Tryz.prog ops Q rest (a.put o.dst (.slice A' (n + 1) c')) w') : wpList Tryz.prog ops Q (o :: rest) a (w.alloc (.cells arr 32)) := by
  subst hg hnT
  obtain ⟨i0, hi0, hz0, hz1, hz2⟩ := info_parts info32
  have hc := fun j => acell w arr 32 j
  refine wpList_append_own (P := Tryz.prog) _ hgd sl y 22 ho B 32 i0 _ 7 96 Tryz.underlying22 hi0 hz0 hz1 hz2 rfl (by decide) v T.length (rowc T vs) hs (hown.alloc _) ⟨w.heap.size, 0, none⟩ 1 1 (ncell x p) hy rfl
    (fun j u hj => by
      rw [addr_add, Nat.zero_add, hc j, ← Array.getElem?_toList, harr]; exact hj) (fun u hu => by
      simp only [ncell, List.mem_cons, List.not_mem_nil, or_false] at hu
      rcases hu with rfl | rfl | rfl | rfl | rfl | rfl | rfl
      · rfl
      · rfl
      · rfl
      · rfl
      · rfl
      · exact hp1
      · exact hp2) (by unfold maxLen; omega) (by omega) (by simp; omega) ?_
  intro v' w' h1 h2 _
  obtain ⟨A', c', rfl⟩ : ∃ A' c', v' = .slice A' (T.length + 1) c' := by
    rcases h1.2 with ⟨_, h0⟩ | ⟨g, cap, _, rfl, _⟩
    · omega
    · exact ⟨_, _, rfl⟩
  refine h A' c' w' ?_ (((Below.refl _ _).alloc hB _).grown h2 (by simp; omega) (own_row hown)) (fun i ob hi hne => by
    have hlt := (Array.getElem?_eq_some_iff.1 hi).1
    exact (h2.block i (by simp; omega) hne).trans ((Below.heap_alloc w _ i hlt).trans hi))
  rw [rowc_app T vs x p hl, List.length_append]
  exact h1
theorem own_one {W : World} {B s n : Nat} {e : TypeId} {v : Value} {xs : List Value} (h : W.ownsRow B e s v n xs) : v.oneCell' = true := by
  rcases h.2 with ⟨rfl, _⟩ | ⟨g, cap, cur, rfl, _⟩ <;> rfl
theorem nil_src {v : Value} {A : Option Addr} {n c : Nat} (hn : nilOk v) (he : v = .slice A n c) (hA : A = none) : A = none ∧ n = 0 ∧ c = 0 := by
  subst hA
  obtain ⟨h1, h2⟩ := hn n c he
  exact ⟨rfl, h1, h2⟩
theorem nums_src {W : World} {v : Value} {zs : List Int} {A : Option Addr} {c : Nat} (h : Nums W v zs) (he : v = .slice A zs.length c) (hn : nilOk v) : (A = none ∧ zs.length = 0 ∧ c = 0) ∨ ∃ ad, A = some ad ∧ (zs.map (Value.int .i64) = [] ∨ ad.block < W.heap.size) ∧ ∀ (j : Nat) u, (zs.map (Value.int .i64))[j]? = some u → W.cell? (ad.add j) = some u := by
  obtain ⟨A', c', e, _, hh⟩ := h
  rw [he] at e
  injection e with e1 e2 e3
  subst e1 e3
  cases A with
  | none => exact .inl (nil_src hn he rfl)
  | some ad =>
    refine .inr ⟨ad, rfl, ?_⟩
    rcases hh with rfl | ⟨bk, o, e, hb, hx⟩
    · exact ⟨.inl rfl, fun j u hj => by simp at hj⟩
    · obtain rfl := Option.some.inj e
      refine ⟨.inr hb, fun j u hj => ?_⟩
      rw [List.getElem?_map] at hj
      obtain ⟨z, hz, rfl⟩ := Option.map_eq_some_iff.1 hj
      rw [addr_add]
      exact hx j z hz
theorem strs_src {W : World} {v : Value} {zs : List ByteArray} {A : Option Addr} {c : Nat} (h : Strs W v zs) (he : v = .slice A zs.length c) (hn : nilOk v) : (A = none ∧ zs.length = 0 ∧ c = 0) ∨ ∃ ad, A = some ad ∧ (zs.map Value.string = [] ∨ ad.block < W.heap.size) ∧ ∀ (j : Nat) u, (zs.map Value.string)[j]? = some u → W.cell? (ad.add j) = some u := by
  obtain ⟨A', c', e, _, hh⟩ := h
  rw [he] at e
  injection e with e1 e2 e3
  subst e1 e3
  cases A with
  | none => exact .inl (nil_src hn he rfl)
  | some ad =>
    refine .inr ⟨ad, rfl, ?_⟩
    rcases hh with rfl | ⟨bk, o, e, hb, hx⟩
    · exact ⟨.inl rfl, fun j u hj => by simp at hj⟩
    · obtain rfl := Option.some.inj e
      refine ⟨.inr hb, fun j u hj => ?_⟩
      rw [List.getElem?_map] at hj
      obtain ⟨z, hz, rfl⟩ := Option.map_eq_some_iff.1 hj
      rw [addr_add]
      exact hx j z hz
theorem set_heap0 {W : World} {g : Nat} {a b u : Value} {t : TypeId} (h : W.heap[g]? = some (.cells #[a, b] t (0, 0))) : (W.setCell ⟨g, 0, none⟩ u).heap[g]? = some (.cells #[u, b] t (0, 0)) := by
  have hg := (Array.getElem?_eq_some_iff.1 h).1
  simp [World.setCell, Array.getElem?_modify, h]
theorem own_base {W : World} {B B' s n : Nat} {e : TypeId} {v : Value} {xs : List Value} (h : W.ownsRow B e s v n xs) (hB : B' ≤ B) : W.ownsRow B' e s v n xs := by
  refine ⟨h.1, ?_⟩
  rcases h.2 with h1 | ⟨g, cap, cur, rfl, hg, h2⟩
  · exact .inl h1
  · exact .inr ⟨g, cap, cur, rfl, Nat.le_trans hB hg, h2⟩
/-- The round's new rows, where the node is appended. -/
theorem row_names {w3 w6 : World} {n0 B0 : Nat} {v u u' : Value} {xs : List Value} {n : Nat} (h : w3.ownsRow B0 9 1 v n xs) (hB : n0 < B0) (b6 : Below (w3.setCell ⟨n0, 5, none⟩ u).heap.size (w3.setCell ⟨n0, 5, none⟩ u) w6) : (w6.setCell ⟨n0, 6, none⟩ u').ownsRow B0 9 1 v n xs :=
  own_kept h fun g c hg hc => by
    have hgB := (h.lt g hg).1
    have h1 : (w3.setCell ⟨n0, 5, none⟩ u).heap[g]? = some (.cells c 9 (0, 0)) := (Below.heap_setCell w3 _ u g (by show g ≠ n0; omega)).trans hc
    exact (Below.heap_setCell w6 _ u' g (by show g ≠ n0; omega)).trans ((b6.block g (Array.getElem?_eq_some_iff.1 h1).1).trans h1)
theorem row_kids {w6 : World} {n0 B0 : Nat} {v u' : Value} {xs : List Value} {n : Nat} (h : w6.ownsRow B0 3 1 v n xs) (hB : n0 < B0) : (w6.setCell ⟨n0, 6, none⟩ u').ownsRow B0 3 1 v n xs :=
  own_kept h fun g c hg hc => by
    have hgB := (h.lt g hg).1
    exact (Below.heap_setCell w6 _ u' g (by show g ≠ n0; omega)).trans hc
theorem sep_new {W w6 : World} {B B0 : Nat} {nvk p2 : Value} {T : List Nd} {vs : List (Value × Value)} {xs : List Value} {n : Nat} (hC : Cop W B nvk T vs) (h : w6.ownsRow B0 3 1 p2 n xs) (hB : W.heap.size ≤ B0) (i : Nat) (q : Value × Value) (hq : vs[i]? = some q) : q.2.ownBlock = none ∨ q.2.ownBlock ≠ p2.ownBlock := by
  cases e : q.2.ownBlock with
  | none => exact .inl rfl
  | some g =>
    right
    intro e2
    have hi := (List.getElem?_eq_some_iff.1 hq).1
    have hy : T[i]? = some (T[i]'(by rw [← hC.len]; exact hi)) := List.getElem?_eq_getElem _
    have h1 := ((hC.num i _ q hy hq).lt g e).2
    have h2 := (h.lt g e2.symm).1
    omega
def CopyPost (T : List Nd) (r : Int) (w : World) (e : Ending) (w' : World) : Prop := ∃ nv vs, e = .returned (.agg #[nv, .int .i64 r]) ∧ Cop w' (w.heap.size + 3) nv T vs ∧ (∃ A c, nv = .slice A T.length c) ∧ Below w.heap.size w w'
set_option maxHeartbeats 4000000 in
set_option maxRecDepth 20000 in
theorem copy_any (nv : Value) (T : List Nd) (r : Int) (w : World) (h : Nodes w nv T) (hnil : NilOk w nv T) (hl : T.length ≤ 4000) (hng : ∀ x ∈ T, Ng x) : Calls Tryz.prog 8 #[.agg #[nv, .int .i64 r]] w (CopyPost T r w) := by
  obtain ⟨A, c, rfl, hc, hn⟩ := h
  have HN := Lib.hid hn
  have HNL := Lib.hid hnil
  have HNG := Lib.hid hng
  clear hn hnil hng
  go_enter Tryz.func8, Tryz.ntmps8
  go_wp2_with fail
  have hfz : ∀ (W : World) (g : Nat) (cs : Array Value) (t : TypeId) (j : Nat), W.heap[g]? = some (.cells cs t (0, 0)) → W.frozen? ⟨g, j, none⟩ = false := fun W g cs t j h => Lib.frozen_of_heap h j
  have HFZ := Lib.hid hfz
  clear hfz
  go_loopw [12] (fun i wr => ∃ (k : Nat) (nvk : Value) (vs : List (Value × Value)), k ≤ T.length ∧ i = .int .i64 (k : Int) ∧ wr.heap[w.heap.size + 1 + 1]? = some (.cells #[nvk, .int .i64 r] 24 (0, 0)) ∧ wr.heap[w.heap.size + 1]? = some (.cells #[.slice none 0 0, .int .i64 0] 24 (0, 0)) ∧ (∃ A c, nvk = .slice A k c) ∧ Cop wr (w.heap.size + 3) nvk (T.take k) vs ∧ Below w.heap.size w wr ∧ w.heap.size + 3 ≤ wr.heap.size) (fun i _ => T.length - (intOf i).toNat)
  case atStart =>
    refine ⟨0, .slice none 0 0, [], Nat.zero_le _, rfl, ?_, ?_, ⟨_, _, rfl⟩, by rw [List.take_zero]; exact Cop.nil _ _, thenB (thenB (b_alloc w _) (b_alloc _ _)) (b_alloc _ _), by simp⟩
    · have := heap_alloc_new ((w.alloc (.cells #[.slice A T.length c, .int .i64 r] 24)).alloc (.cells #[.slice none 0 0, .int .i64 0] 24)) (.cells #[.slice none 0 0, .int .i64 r] 24)
      rw [asize, asize] at this
      exact this
    · have := heap_alloc_new (w.alloc (.cells #[.slice A T.length c, .int .i64 r] 24)) (.cells #[.slice none 0 0, .int .i64 0] 24)
      rw [asize] at this
      exact ((b_alloc ((w.alloc (.cells #[.slice A T.length c, .int .i64 r] 24)).alloc (.cells #[.slice none 0 0, .int .i64 0] 24)) (.cells #[.slice none 0 0, .int .i64 r] 24)).block (w.heap.size + 1) (by rw [asize, asize]; omega)).trans this
  case round =>
    obtain ⟨k, nvk, vs, hk, rfl, hout, hres, hform, hcop, hbl, hsz⟩ := hrel
    obtain ⟨NA', nc', rfl⟩ := hform
    have o0 : wr.cell? ⟨w.heap.size + 1 + 1, 0, none⟩ = some (.slice NA' k nc') := cell_of_row wr _ 0 _ 24 (0, 0) hout
    have o1 : wr.cell? ⟨w.heap.size + 1 + 1, 1, none⟩ = some (.int .i64 r) := cell_of_row wr _ 1 _ 24 (0, 0) hout
    have r0 : wr.cell? ⟨w.heap.size + 1, 0, none⟩ = some (.slice none 0 0) := cell_of_row wr _ 0 _ 24 (0, 0) hres
    have r1 : wr.cell? ⟨w.heap.size + 1, 1, none⟩ = some (.int .i64 0) := cell_of_row wr _ 1 _ 24 (0, 0) hres
    have rf0 := HFZ.out wr _ _ _ 0 hres
    have rf1 := HFZ.out wr _ _ _ 1 hres
    have HOUT := Lib.hid hout
    have HRES := Lib.hid hres
    have HC := Lib.hid hcop
    have HB := Lib.hid hbl
    clear hout hres hcop hbl
    by_cases hlt : k < T.length
    · obtain ⟨x, hxk⟩ : ∃ x, T[k]? = some x := ⟨T[k], List.getElem?_eq_getElem hlt⟩
      have hxm := List.mem_of_getElem? hxk
      rcases HN.out with h0 | ⟨b, o, rfl, hb, hx⟩
      · rw [h0] at hlt; exact absurd hlt (Nat.not_lt_zero _)
      obtain ⟨nvk, kvk, hna, hst, hnu⟩ := hx k x hxk
      obtain ⟨n1, n2⟩ := HNL.out b o _ _ rfl k x nvk kvk hxk hna
      obtain ⟨c0, c1, c2, c3, c4, c5, c6⟩ := hna.below HB.out hb
      obtain ⟨_, hnl, hkl⟩ := HNG.out x hxm
      have HST := Lib.hid hst
      have HNU := Lib.hid hnu
      obtain ⟨SA, sc, rfl, _, _⟩ := hst
      obtain ⟨UA, uc, rfl, _, _⟩ := hnu
      have HN1 := Lib.hid (fun W (h : Below w.heap.size w W) => strs_src (HST.out.below h) rfl n1)
      have HN2 := Lib.hid (fun W (h : Below w.heap.size w W) => nums_src (HNU.out.below h) rfl n2)
      have HTK : Hid (T.take (k + 1) = T.take k ++ [x]) := Lib.hid (take_snoc' T k x hxk)
      have htl : (T.take k).length = k := by rw [List.length_take]; omega
      have HTL := Lib.hid htl
      have HLT := Lib.hid hlt
      obtain ⟨n0, hn0⟩ : ∃ n0, n0 = wr.heap.size := ⟨_, rfl⟩
      have hx0 : (wr.alloc (.cells #[.int .i64 x.kind, .int .i64 x.line, .int .i64 x.op, .int .i64 x.num, .string x.s, .slice SA x.names.length sc, .slice UA x.kids.length uc] 32)).heap[wr.heap.size]? = some (.cells #[.int .i64 x.kind, .int .i64 x.line, .int .i64 x.op, .int .i64 x.num, .string x.s, .slice SA x.names.length sc, .slice UA x.kids.length uc] 32 (0, 0)) := heap_alloc_new wr _
      have HX0 := Lib.hid hx0
      have HWN := Lib.hid (b_alloc wr (.cells #[.int .i64 x.kind, .int .i64 x.line, .int .i64 x.op, .int .i64 x.num, .string x.s, .slice SA x.names.length sc, .slice UA x.kids.length uc] 32))
      have hbs := HB.out.size
      have HBS := Lib.hid hbs
      clear hx hxk hna n1 n2 hxm hx0 htl hn0
      go_wp2_with (first
        | (at_builtin; refine at_copy 29 9 Tryz.underlying29 info9 rfl (by decide) _ _ _ _ (x.names.map Value.string) rfl _ _ rfl _ (by simp) rfl rfl (by omega) (by simp) (fun u hu => by obtain ⟨b, _, rfl⟩ := List.mem_map.1 hu; rfl) (HN1.out _ (HB.out.trans (HWN.out.mono HBS.out))) ?_; intro A1 c1' w3 ho3' b3'; have HO3 := Lib.hid ho3'; have B3 := Lib.hid b3'
           have HX3 := Lib.hid ((b3'.block wr.heap.size (by rw [asize]; exact Nat.lt_succ_self _)).trans HX0.out)
           obtain ⟨q0, q1, q2, q3, q4, q5, q6⟩ := node_box HX3.out
           have qf5 := HFZ.out w3 _ _ _ 5 HX3.out
           have BW3 := Lib.hid ((HB.out.trans (HWN.out.mono HBS.out)).trans (b3'.mono (by rw [asize]; have := HBS.out; omega)))
           have h3sz : wr.heap.size < w3.heap.size := Nat.lt_of_lt_of_le (by rw [asize]; exact Nat.lt_succ_self _) b3'.size
           clear ho3' b3')
        | (at_builtin; refine at_copy 30 3 Tryz.underlying30 info3 rfl (by decide) _ _ _ _ (x.kids.map (Value.int .i64)) rfl _ _ rfl _ (by simp) rfl rfl (by omega) (by simp) (fun u hu => by obtain ⟨b, _, rfl⟩ := List.mem_map.1 hu; rfl) (HN2.out _ (BW3.out.setCell HBS.out _)) ?_; intro A2 c2' w6 ho6' b6'
           have HO6 := Lib.hid ho6'
           have B6 := Lib.hid b6'
           have z0 : w6.cell? ⟨wr.heap.size, 0, none⟩ = some (.int .i64 x.kind) := (b6'.cell (p := ⟨wr.heap.size, 0, none⟩) (by simpa using h3sz)).trans ((World.cell?_setCell_other w3 _ _ _ (by intro e; injection e with _ e2 _; exact absurd e2 (by decide))).trans (node_box HX3.out).c0)
           have z1 : w6.cell? ⟨wr.heap.size, 1, none⟩ = some (.int .i64 x.line) := (b6'.cell (p := ⟨wr.heap.size, 1, none⟩) (by simpa using h3sz)).trans ((World.cell?_setCell_other w3 _ _ _ (by intro e; injection e with _ e2 _; exact absurd e2 (by decide))).trans (node_box HX3.out).c1)
           have z2 : w6.cell? ⟨wr.heap.size, 2, none⟩ = some (.int .i64 x.op) := (b6'.cell (p := ⟨wr.heap.size, 2, none⟩) (by simpa using h3sz)).trans ((World.cell?_setCell_other w3 _ _ _ (by intro e; injection e with _ e2 _; exact absurd e2 (by decide))).trans (node_box HX3.out).c2)
           have z3 : w6.cell? ⟨wr.heap.size, 3, none⟩ = some (.int .i64 x.num) := (b6'.cell (p := ⟨wr.heap.size, 3, none⟩) (by simpa using h3sz)).trans ((World.cell?_setCell_other w3 _ _ _ (by intro e; injection e with _ e2 _; exact absurd e2 (by decide))).trans (node_box HX3.out).c3)
           have z4 : w6.cell? ⟨wr.heap.size, 4, none⟩ = some (.string x.s) := (b6'.cell (p := ⟨wr.heap.size, 4, none⟩) (by simpa using h3sz)).trans ((World.cell?_setCell_other w3 _ _ _ (by intro e; injection e with _ e2 _; exact absurd e2 (by decide))).trans (node_box HX3.out).c4)
           have z6 : w6.cell? ⟨wr.heap.size, 6, none⟩ = some (.slice UA x.kids.length uc) := (b6'.cell (p := ⟨wr.heap.size, 6, none⟩) (by simpa using h3sz)).trans ((World.cell?_setCell_other w3 _ _ _ (by intro e; injection e with _ e2 _; exact absurd e2 (by decide))).trans (node_box HX3.out).c6)
           have z5 : w6.cell? ⟨wr.heap.size, 5, none⟩ = some (.slice A1 x.names.length c1') := (b6'.cell (p := ⟨wr.heap.size, 5, none⟩) (by simpa using h3sz)).trans (World.cell?_setCell_same w3 _ _ (node_box HX3.out).c5)
           have zf6 : w6.frozen? ⟨wr.heap.size, 6, none⟩ = false := (b6'.frozen (p := ⟨wr.heap.size, 6, none⟩) (by simpa using h3sz)).trans (by rw [World.frozen?_setCell]; exact HFZ.out w3 _ _ _ 6 HX3.out)
           have h6sz : wr.heap.size < w6.heap.size := Nat.lt_of_lt_of_le h3sz (by have := b6'.size; simpa using this)
           have BW6 := Lib.hid ((((HWN.out.trans (B3.out.mono (by rw [asize]; exact Nat.le_succ _))).setCell (p := ⟨wr.heap.size, 5, none⟩) (Nat.le_refl _) (.slice A1 x.names.length c1')).trans (b6'.mono (by simp; omega))))
           have g0 : w6.cell? ⟨w.heap.size + 1 + 1, 0, none⟩ = some (.slice NA' k nc') := (BW6.out.cell (p := ⟨w.heap.size + 1 + 1, 0, none⟩) (by show w.heap.size + 1 + 1 < wr.heap.size; omega)).trans (cell_of_row wr _ 0 _ 24 (0, 0) HOUT.out)
           clear ho6' b6')
        | (at_builtin; refine at_node _ x (.slice A1 x.names.length c1', .slice A2 x.kids.length c2') rfl rfl rfl _ _ rfl (w.heap.size + 3) _ (T.take k) vs HC.out.len rfl (HC.out.below (BW6.out.setCell (p := ⟨wr.heap.size, 6, none⟩) (Nat.le_refl _) (.slice A2 x.kids.length c2'))).row _ (by simp) rfl _ rfl k HTL.out (by rw [HTL.out]; omega) (by simp; omega) ?_; intro A9 c9 w9 hr9' b9' k9'
           have HR9 := Lib.hid hr9'
           have K9 := Lib.hid k9'
           have B9 := Lib.hid b9'
           have hout9 : w9.heap[w.heap.size + 1 + 1]? = some (.cells #[.slice NA' k nc', .int .i64 r] 24 (0, 0)) := (b9'.block _ (by omega)).trans (((BW6.out.setCell (p := ⟨wr.heap.size, 6, none⟩) (Nat.le_refl _) (.slice A2 x.kids.length c2')).block _ (by omega)).trans HOUT.out)
           have HOUT9 := Lib.hid hout9
           have y0 : w9.cell? ⟨w.heap.size + 1 + 1, 0, none⟩ = some (.slice NA' k nc') := cell_of_row w9 _ 0 _ 24 (0, 0) hout9
           have yf0 := HFZ.out w9 _ _ _ 0 hout9
           clear hr9' b9' k9' hout9))
      have hlk := HLT.out
      have hn3 : wr.heap.size < (wr.alloc (.cells #[.int .i64 x.kind, .int .i64 x.line, .int .i64 x.op, .int .i64 x.num, .string x.s, .slice SA x.names.length sc, .slice UA x.kids.length uc] 32)).heap.size := by rw [asize]; exact Nat.lt_succ_self _
      have hn6 : wr.heap.size < (w3.setCell ⟨wr.heap.size, 5, none⟩ (.slice A1 x.names.length c1')).heap.size := by simpa using h3sz
      have hC7 := HC.out.below (BW6.out.setCell (p := ⟨wr.heap.size, 6, none⟩) (Nat.le_refl _) (.slice A2 x.kids.length c2'))
      have hrn := row_names (u' := .slice A2 x.kids.length c2') HO3.out hn3 B6.out
      have hrk := row_kids (u' := .slice A2 x.kids.length c2') HO6.out hn6
      have hC9 := Cop.push hC7 HR9.out K9.out (own_base hrn (by omega)) (own_base hrk (by omega)) (fun i q hq => sep_new HC.out HO6.out (by omega) i q hq)
      have hsz9 : w.heap.size + 3 ≤ w9.heap.size := by
        have := B9.out.size
        have h7 : (w6.setCell ⟨wr.heap.size, 6, none⟩ (.slice A2 x.kids.length c2')).heap.size = w6.heap.size := by simp
        omega
      refine ⟨⟨k + 1, .slice A9 (k + 1) c9, vs ++ [(.slice A1 x.names.length c1', .slice A2 x.kids.length c2')], by omega, by go_num, set_heap0 HOUT9.out, ?_, ⟨_, _, rfl⟩, ?_, ?_, by simpa using hsz9⟩, by simp [intOf]; omega⟩
      · refine (Below.heap_setCell w9 _ _ _ (by show w.heap.size + 1 ≠ w.heap.size + 1 + 1; omega)).trans ?_
        exact (B9.out.block _ (by omega)).trans (((BW6.out.setCell (p := ⟨wr.heap.size, 6, none⟩) (Nat.le_refl _) (.slice A2 x.kids.length c2')).block _ (by omega)).trans HRES.out)
      · rw [HTK.out]
        exact hC9.store (by show w.heap.size + 1 + 1 < w.heap.size + 3; omega) _
      · exact ((HB.out.trans ((BW6.out.setCell (p := ⟨wr.heap.size, 6, none⟩) (Nat.le_refl _) (.slice A2 x.kids.length c2')).mono HBS.out)).trans (B9.out.mono (by omega))).setCell (by show w.heap.size ≤ w.heap.size + 1 + 1; omega) _
    · have hall : T.take k = T := List.take_of_length_le (by omega)
      have hkT : k = T.length := by omega
      subst hkT
      rw [hall] at HC
      go_wp2_with fail
      have k0 := World.cell?_setCell_same wr ⟨w.heap.size + 1, 0, none⟩ (.slice NA' T.length nc') r0
      have k1 := World.cell?_setCell_same (wr.setCell ⟨w.heap.size + 1, 0, none⟩ (.slice NA' T.length nc')) ⟨w.heap.size + 1, 1, none⟩ (.int .i64 r) ((World.cell?_setCell_other wr _ _ _ (by intro e; injection e with _ e2 _; exact absurd e2 (by decide))).trans r1)
      refine bodyPost_ret (v := .agg #[.slice NA' T.length nc', .int .i64 r]) ?_ rfl ?_
      · simp [results, Tryz.results8, asAddr, go_sem, k0, k1]
      refine ⟨_, vs, rfl, (HC.out.store (a := ⟨w.heap.size + 1, 0, none⟩) (by show w.heap.size + 1 < w.heap.size + 3; omega) _).store (a := ⟨w.heap.size + 1, 1, none⟩) (by show w.heap.size + 1 < w.heap.size + 3; omega) _, ⟨_, _, rfl⟩, (HB.out.setCell (Nat.le_succ _) _).setCell (Nat.le_succ _) _⟩
end Go.Proofs.YtjlpklhibdkmeaaGreatDoor
