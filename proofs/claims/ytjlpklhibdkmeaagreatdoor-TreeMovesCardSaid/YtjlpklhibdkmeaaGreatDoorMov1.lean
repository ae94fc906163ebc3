/- What TreeMoves' loops keep. -/
import Derived.Test.YtjlpklhibdkmeaaGreatDoorMov0
import Derived.Test.YtjlpklhibdkmeaaGreatDoorRgt
import Derived.Test.YtjlpklhibdkmeaaGreatDoorPrn
namespace Go.Proofs.YtjlpklhibdkmeaaGreatDoor
open Go.RowKit

theorem fld0 (A : Option Addr) (n c : Nat) (r : Int) (W : World) : Sem.run Tryz.prog (Instr.field 24 (.agg #[.slice A n c, .int .i64 r]) 0) W = .ok (.slice A n c) W := by
  kernel_rfl
theorem Stg.below {w2 W4 W6 : World} {gU uB N : Nat} {r : Int} (h : Stg w2 W4 gU uB N r) (hb : Below W4.heap.size W4 W6) : Stg w2 W6 gU uB N r := by
  obtain ⟨f, hf⟩ := h.fam
  exact ⟨h.bel.trans (hb.mono h.bel.size), h.gl, Nat.lt_of_lt_of_le h.gs hb.size, h.ul, Nat.lt_of_lt_of_le h.us hb.size, h.ne, (hb.block _ h.us).trans h.box, f, hf.below hb h.gs⟩
/-- At the outer loop's head. -/
structure Lp (w wr : World) (bx : Obj) (B g0 nc gU uB k : Nat) (ru : Int) (T T' : List Nd) (vs : List (Value × Value)) (i : Nat) : Prop where
  hx : Below (w.heap.size + 1) (w.alloc bx) wr
  hb : Below w.heap.size w wr
  box : wr.heap[uB]? = some (.cells #[.slice (some ⟨gU, 0, none⟩) T.length T.length, .int .i64 ru] 24 (0, 0))
  tgt : Tgt wr gU T.length k T vs i
  cop : Cop wr B (.slice (some ⟨g0, 0, none⟩) T.length nc) T' vs
  mix : Mix (mvNd T.length k) T T' i
  size : B ≤ wr.heap.size
theorem Lp.start {w w2 w6 : World} {bx : Obj} {B g0 nc gU uB k : Nat} {ru : Int} {T : List Nd} {vs : List (Value × Value)} (hx : Below (w.heap.size + 1) (w.alloc bx) w6) (hb : Below w.heap.size w w6) (hs : Stg w2 w6 gU uB T.length ru) (hC : Cop w6 B (.slice (some ⟨g0, 0, none⟩) T.length nc) T vs) (hB : B ≤ w6.heap.size) : Lp w w6 bx B g0 nc gU uB k ru T T vs 0 := by
  obtain ⟨f, hf⟩ := hs.fam
  exact ⟨hx, hb, hs.box, ⟨f, hf, fun _ _ _ h => absurd h (Nat.not_lt_zero _)⟩, hC, Mix.start _ _, hB⟩
/-- At the inner loop's head. -/
structure Li (wA wr : World) (xo : Obj) (B g0 nc n0 N k : Nat) (x : Nd) (T' : List Nd) (vs : List (Value × Value)) (i j : Nat) (ks : List Int) : Prop where
  mix : Mix (mvKid N k) x.kids ks j
  cop : Cop wr B (.slice (some ⟨g0, 0, none⟩) N nc) (T'.set i { x with kids := ks }) vs
  bel : Below B wA wr
  box : wr.heap[n0]? = some xo
theorem Li.start {wA : World} {xo : Obj} {B g0 nc n0 N k : Nat} {x : Nd} {T' : List Nd} {vs : List (Value × Value)} {i : Nat} (hx : T'[i]? = some x) (hC : Cop wA B (.slice (some ⟨g0, 0, none⟩) N nc) T' vs) (hb : wA.heap[n0]? = some xo) : Li wA wA xo B g0 nc n0 N k x T' vs i 0 x.kids :=
  ⟨Mix.start _ _, by show Cop wA B _ (T'.set i x) vs; rw [set_self hx]; exact hC, Below.refl _ _, hb⟩
theorem set_twice {α : Type} (l : List α) (i : Nat) (x y : α) : (l.set i x).set i y = l.set i y := by simp
/-- A Kid is turned. -/
theorem Li.turn {wA wr : World} {xo : Obj} {B g0 nc n0 N k : Nat} {x : Nd} {T' : List Nd} {vs : List (Value × Value)} {i j : Nat} {ks : List Int} (h : Li wA wr xo B g0 nc n0 N k x T' vs i j ks) (hi : T'[i]? = some x) {p : Value × Value} (hp : vs[i]? = some p) {g c : Nat} (hpv : p.2 = .slice (some ⟨g, 0, none⟩) x.kids.length c) {z : Int} (hz : x.kids[j]? = some z)
    (hgB : B ≤ g) (hne : g ≠ n0) : Li wA (wr.setCell ⟨g, j, none⟩ (.int .i64 (mvKid N k z))) xo B g0 nc n0 N k x T' vs i (j + 1) (ks.set j (mvKid N k z)) := by
  have hil := (List.getElem?_eq_some_iff.1 hi).1
  have h2 := h.cop.setKid (x := { x with kids := ks }) (by rw [List.getElem?_set_self hil]) hp hpv h.mix.len.symm j (mvKid N k z)
  rw [set_twice] at h2
  exact ⟨h.mix.step hz, h2, h.bel.setCell hgB _, (Below.heap_setCell _ _ _ n0 (Ne.symm hne)).trans h.box⟩
theorem Li.skip {wA wr : World} {xo : Obj} {B g0 nc n0 N k : Nat} {x : Nd} {T' : List Nd} {vs : List (Value × Value)} {i j : Nat} {ks : List Int} (h : Li wA wr xo B g0 nc n0 N k x T' vs i j ks) {z : Int} (hz : x.kids[j]? = some z) (hzz : ¬ (0 ≤ z ∧ z < (N : Int))) : Li wA wr xo B g0 nc n0 N k x T' vs i (j + 1) ks :=
  ⟨h.mix.skip hz (mvKid_out hzz), h.cop, h.bel, h.box⟩
theorem Li.drew {wA wr : World} {xo : Obj} {B g0 nc n0 N k : Nat} {x : Nd} {T' : List Nd} {vs : List (Value × Value)} {i j : Nat} {ks : List Int} (h : Li wA wr xo B g0 nc n0 N k x T' vs i j ks) : Li wA wr.drew xo B g0 nc n0 N k x T' vs i j ks :=
  ⟨h.mix, ⟨h.cop.len, h.cop.row, h.cop.str, h.cop.num, h.cop.sep⟩, h.bel.drew, h.box⟩
/-- The cell that comes next. -/
theorem Li.at_ {wA wr : World} {xo : Obj} {B g0 nc n0 N k : Nat} {x : Nd} {T' : List Nd} {vs : List (Value × Value)} {i j : Nat} {ks : List Int} (h : Li wA wr xo B g0 nc n0 N k x T' vs i j ks) (hi : T'[i]? = some x) {p : Value × Value} (hp : vs[i]? = some p) {g c : Nat} (hpv : p.2 = .slice (some ⟨g, 0, none⟩) x.kids.length c) {z : Int} (hz : x.kids[j]? = some z) :
    wr.cell? ⟨g, j, none⟩ = some (.int .i64 z) ∧ wr.frozen? ⟨g, j, none⟩ = false := by
  have hil := (List.getElem?_eq_some_iff.1 hi).1
  exact cop_kid h.cop (x := { x with kids := ks }) (by rw [List.getElem?_set_self hil]) hp hpv h.mix.len.symm ((h.mix.todo j (Nat.le_refl _)).trans hz)
/-- Seven cells are stored. -/
def put7 (W : World) (g a : Nat) (x : Nd) (p : Value × Value) : World :=
  ((((((W.setCell ⟨g, a, none⟩ (.int .i64 x.kind)).setCell ⟨g, a + 1, none⟩ (.int .i64 x.line)).setCell ⟨g, a + 2, none⟩ (.int .i64 x.op)).setCell ⟨g, a + 3, none⟩ (.int .i64 x.num)).setCell ⟨g, a + 4, none⟩ (.string x.s)).setCell ⟨g, a + 5, none⟩ p.1).setCell ⟨g, a + 6, none⟩ p.2
theorem Tgt.put {W : World} {g N k i : Nat} {T : List Nd} {vs : List (Value × Value)} (h : Tgt W g N k T vs i) {x : Nd} {p : Value × Value} (hx : T[i]? = some x) (hp : vs[i]? = some p) (hN : N = T.length) : Tgt (put7 W g (pi N k i * 7) x p) g N k T vs (i + 1) := by
  obtain ⟨f, hf, hd⟩ := h
  have hi : i < N := by rw [hN]; exact (List.getElem?_eq_some_iff.1 hx).1
  have hq := pi_lt k hi
  have h7 := ((((((hf.set_ (k := pi N k i * 7) (by omega) (.int .i64 x.kind)).set_ (k := pi N k i * 7 + 1) (by omega) (.int .i64 x.line)).set_ (k := pi N k i * 7 + 2) (by omega) (.int .i64 x.op)).set_ (k := pi N k i * 7 + 3) (by omega) (.int .i64 x.num)).set_ (k := pi N k i * 7 + 4) (by omega) (.string x.s)).set_ (k := pi N k i * 7 + 5) (by omega) p.1).set_ (k := pi N k i * 7 + 6) (by omega) p.2
  refine ⟨_, h7, fun j y q hj hy hq' c hc => ?_⟩
  by_cases e : j = i
  · subst e
    obtain rfl := Option.some.inj (hy.symm.trans hx)
    obtain rfl := Option.some.inj (hq'.symm.trans hp)
    match c, hc with
    | 0, _ => simp [ncell]
    | 1, _ => simp [ncell]
    | 2, _ => simp [ncell]
    | 3, _ => simp [ncell]
    | 4, _ => simp [ncell]
    | 5, _ => simp [ncell]
    | 6, _ => simp [ncell]
  · have hj' : j < N := by rw [hN]; exact (List.getElem?_eq_some_iff.1 hy).1
    have hne : pi N k j ≠ pi N k i := fun h => e (pi_inj hj' hi h)
    have hd := hd j y q (by omega) hy hq' c hc
    have n0 : pi N k j * 7 + c ≠ pi N k i * 7 := by omega
    have n1 : pi N k j * 7 + c ≠ pi N k i * 7 + 1 := by omega
    have n2 : pi N k j * 7 + c ≠ pi N k i * 7 + 2 := by omega
    have n3 : pi N k j * 7 + c ≠ pi N k i * 7 + 3 := by omega
    have n4 : pi N k j * 7 + c ≠ pi N k i * 7 + 4 := by omega
    have n5 : pi N k j * 7 + c ≠ pi N k i * 7 + 5 := by omega
    have n6 : pi N k j * 7 + c ≠ pi N k i * 7 + 6 := by omega
    simp only [if_neg n0, if_neg n1, if_neg n2, if_neg n3, if_neg n4, if_neg n5, if_neg n6]
    exact hd
theorem put7_below {B g a : Nat} {W W0 : World} {x : Nd} {p : Value × Value} (h : Below B W0 W) (hg : B ≤ g) : Below B W0 (put7 W g a x p) :=
  ((((((h.setCell (p := ⟨g, a, none⟩) hg _).setCell (p := ⟨g, a + 1, none⟩) hg _).setCell (p := ⟨g, a + 2, none⟩) hg _).setCell (p := ⟨g, a + 3, none⟩) hg _).setCell (p := ⟨g, a + 4, none⟩) hg _).setCell (p := ⟨g, a + 5, none⟩) hg _).setCell (p := ⟨g, a + 6, none⟩) hg _
theorem put7_cop {B g a : Nat} {W : World} {nv : Value} {T : List Nd} {vs : List (Value × Value)} {x : Nd} {p : Value × Value} (h : Cop W B nv T vs) (hg : g < B) : Cop (put7 W g a x p) B nv T vs :=
  ((((((h.store (a := ⟨g, a, none⟩) hg _).store (a := ⟨g, a + 1, none⟩) hg _).store (a := ⟨g, a + 2, none⟩) hg _).store (a := ⟨g, a + 3, none⟩) hg _).store (a := ⟨g, a + 4, none⟩) hg _).store (a := ⟨g, a + 5, none⟩) hg _).store (a := ⟨g, a + 6, none⟩) hg _
theorem put7_heap {g a k : Nat} {W : World} {x : Nd} {p : Value × Value} (h : k ≠ g) : (put7 W g a x p).heap[k]? = W.heap[k]? := by
  unfold put7
  rw [Below.heap_setCell _ _ _ k h, Below.heap_setCell _ _ _ k h, Below.heap_setCell _ _ _ k h, Below.heap_setCell _ _ _ k h, Below.heap_setCell _ _ _ k h, Below.heap_setCell _ _ _ k h, Below.heap_setCell _ _ _ k h]
theorem put7_size {g a : Nat} {W : World} {x : Nd} {p : Value × Value} : (put7 W g a x p).heap.size = W.heap.size := by simp [put7]
/-- A round of the outer loop. -/
theorem Lp.next {w wr wA wr2 : World} {bx xo : Obj} {B g0 nc gU uB k n0 : Nat} {ru : Int} {T T' : List Nd} {vs : List (Value × Value)} {i : Nat} {x : Nd} {p : Value × Value} {ks : List Int} (h : Lp w wr bx B g0 nc gU uB k ru T T' vs i) (hA : Below wr.heap.size wr wA)
    (hl : Li wA wr2 xo B g0 nc n0 T.length k x T' vs i x.kids.length ks) (hx : T[i]? = some x) (hp : vs[i]? = some p) (hgB : gU < B) (huB : uB < B) (hne : gU ≠ uB) (hg1 : w.heap.size + 1 ≤ gU) :
    Lp w (put7 wr2 gU (pi T.length k i * 7) x p) bx B g0 nc gU uB k ru T (T'.set i (mvNd T.length k x)) vs (i + 1) := by
  have hs := h.size
  have hb : Below B wr wr2 := (hA.mono hs).trans hl.bel
  have hks := hl.mix.full (Nat.le_refl _)
  have hw : w.heap.size + 1 ≤ B := by omega
  refine ⟨put7_below (h.hx.trans (hb.mono hw)) hg1, put7_below (h.hb.trans (hb.mono (Nat.le_of_succ_le hw))) (Nat.le_of_succ_le hg1), (put7_heap (Ne.symm hne)).trans ((hb.block _ huB).trans h.box), (h.tgt.below hb hgB).put hx hp rfl, ?_, h.mix.step hx, by rw [put7_size]; exact Nat.le_trans hs hb.size⟩
  have hc := hl.cop
  rw [hks] at hc
  exact put7_cop hc hgB
theorem Lp.drew {w wr : World} {bx : Obj} {B g0 nc gU uB k : Nat} {ru : Int} {T T' : List Nd} {vs : List (Value × Value)} {i : Nat} (h : Lp w wr bx B g0 nc gU uB k ru T T' vs i) : Lp w wr.drew bx B g0 nc gU uB k ru T T' vs i :=
  ⟨h.hx.drew, h.hb.drew, h.box, h.tgt, ⟨h.cop.len, h.cop.row, h.cop.str, h.cop.num, h.cop.sep⟩, h.mix, h.size⟩
/-- The seven cells of the new place. -/
theorem tgt_cells {W : World} {g N k i : Nat} {T : List Nd} {vs : List (Value × Value)} (h : Tgt W g N k T vs i) {q : Nat} (hq : q < N) : ∀ c, c < 7 → ∃ u, W.cell? ⟨g, q * 7 + c, none⟩ = some u ∧ W.frozen? ⟨g, q * 7 + c, none⟩ = false := by
  obtain ⟨f, hf, _⟩ := h
  exact fun c hc => ⟨_, hf (q * 7 + c) (by omega)⟩
theorem moved_sm {T U : List Nd} {k : Nat} (hU : Moved T U k) (h : Sm T) : Sm U := by
  have key : ∀ y ∈ U, ∃ x ∈ T, y = mvNd T.length k x := fun y hy => by
    obtain ⟨q, hq, e⟩ := List.getElem_of_mem hy
    rw [hU.len] at hq
    obtain ⟨i, hi, rfl⟩ := pi_surj (k := k) hq
    have h1 := hU.at_ i hi
    rw [List.getElem?_eq_getElem hi, List.getElem?_eq_getElem (by rw [hU.len]; exact hq), e] at h1
    exact ⟨_, List.getElem_mem hi, Option.some.inj h1⟩
  refine ⟨by rw [hU.len]; exact h.len, fun y hy => ?_, fun y hy => ?_, fun y hy => ?_, fun y hy => ?_, fun y hy => ?_⟩
  · obtain ⟨x, hx, rfl⟩ := key y hy; exact h.l0 x hx
  · obtain ⟨x, hx, rfl⟩ := key y hy; exact h.o0 x hx
  · obtain ⟨x, hx, rfl⟩ := key y hy; exact h.n0 x hx
  · obtain ⟨x, hx, rfl⟩ := key y hy; exact h.s1 x hx
  · obtain ⟨x, hx, rfl⟩ := key y hy; exact h.nl x hx
theorem right_moved {T U : List Nd} {k : Nat} (hU : Moved T U k) (r : Int) : rightK U (mvKid T.length k r) = rightK T r := right_mv fieldsK koK soK hU fields_kids r
theorem print_moved {T U : List Nd} {k : Nat} (hU : Moved T U k) (r : Int) : printK U (mvKid T.length k r) = printK T r := print_mv fieldsK koK soK hdK hU fields_kids (fun _ _ => rfl) r
end Go.Proofs.YtjlpklhibdkmeaaGreatDoor
