/- The arguments of this seat's laws: a tree by value, its nodes in memory. -/
import Derived.Test.YtjlpklhibdkmeaaGreatDoorLaid
import Derived.Lib.SmallJoins
import Derived.ChangeSlices
import Derived.SliceStrings
import Derived.Deep.Slices
import Derived.Deep.Strs
namespace Go.Proofs.YtjlpklhibdkmeaaGreatDoor
open Go.Joins Go.ChangeShapes Go.WideShapes Go.ChangeAt Go.RowKit Go.ChangeMaps Go.Deep

theorem plain_at {w : World} {a : Addr} {v : Value} (h : w.cell? a = some v) : a = ⟨a.block, a.off, none⟩ := by
  have := World.cell?_spot h
  cases a
  simp_all
theorem add_none (a : Addr) : a.add 0 = a := by unfold Addr.add; simp

section
variable {H : Type} {enc : TypeId × Value → H} {w : World} {base : Nat} {held : Bool}
theorem strs_of {fuel : Nat} {v : Value} {x : DataW H × List MemPlace} (h : DataW.trod enc Tryz.prog w base (fun _ => true) held fuel 29 [v] = some x) (hlt : ∀ y ∈ x.2, y.block < w.heap.size) :
    ∃ xs : List ByteArray, Strs w v xs ∧ nilOk v ∧ (xs = [] ∨ ∃ el sp : List (DataW H), x.1 = .slice el sp ∧ el.length = xs.length) := by
  rcases open_strings Tryz.underlying29 Tryz.underlying9 (by kernel_rfl) h with ⟨hcs, hx⟩ | ⟨a, len, cap, ss, hcs, _, hl, hm, hz, hx, hcell, hws⟩
  · simp only [List.cons.injEq, and_true] at hcs
    subst hcs
    exact ⟨[], ⟨none, 0, rfl, Nat.le_refl _, .inl rfl⟩, (fun n c e => by injection e with _ e2 e3; exact ⟨e2.symm, e3.symm⟩), .inl rfl⟩
  · simp only [List.cons.injEq, and_true] at hcs
    simp only [if_true] at hz
    subst hcs
    have hll : (ss.take len).length = len := by rw [List.length_take]; omega
    refine ⟨ss.take len, ⟨some a, cap, by rw [hll], by rw [hll]; exact hl, ?_⟩, (fun n c e => by injection e with e1 _ _; cases e1), .inr ⟨strs (ss.take len), strs (ss.drop len), by rw [hx], by simp [strs]⟩⟩
    rcases Nat.eq_zero_or_pos len with h0 | h0
    · left; exact List.eq_nil_of_length_eq_zero (by rw [hll]; exact h0)
    · right
      have ha := plain_at (hcell 0 (by omega))
      have ha0 : a = ⟨a.block, a.off, none⟩ := by
        rw [add_none] at ha
        exact ha
      have hbk : a.block < w.heap.size := by
        rw [hx] at hlt
        exact hlt (.cell a.block a.off) (by
          rw [ha0]
          exact MemPlace.mem_row.2 ⟨0, by omega, by simp⟩)
      refine ⟨a.block, a.off, by rw [← ha0], hbk, fun j y hj => ?_⟩
      have hj' : j < len := by
        have := (List.getElem?_eq_some_iff.1 hj).1
        omega
      have hc := hcell j (by omega)
      rw [ha0, addr_add] at hc
      rw [hc]
      rw [List.getElem?_take_of_lt hj'] at hj
      simp [List.getD, hj]
theorem nums_of {fuel : Nat} {v : Value} {x : DataW H × List MemPlace} (h : DataW.trod enc Tryz.prog w base (fun _ => true) held fuel 30 [v] = some x) (hlt : ∀ y ∈ x.2, y.block < w.heap.size) :
    ∃ xs : List Int, Nums w v xs ∧ nilOk v ∧ (xs = [] ∨ ∃ el sp : List (DataW H), x.1 = .slice el sp ∧ el.length = xs.length) := by
  rcases open_ints Tryz.underlying30 Tryz.underlying3 (by kernel_rfl) h with ⟨hcs, hx⟩ | ⟨a, len, cap, ss, hcs, _, hl, hm, hz, hx, hcell, hws⟩
  · simp only [List.cons.injEq, and_true] at hcs
    subst hcs
    exact ⟨[], ⟨none, 0, rfl, Nat.le_refl _, .inl rfl⟩, (fun n c e => by injection e with _ e2 e3; exact ⟨e2.symm, e3.symm⟩), .inl rfl⟩
  · simp only [List.cons.injEq, and_true] at hcs
    simp only [if_true] at hz
    subst hcs
    have hll : (ss.take len).length = len := by rw [List.length_take]; omega
    refine ⟨ss.take len, ⟨some a, cap, by rw [hll], by rw [hll]; exact hl, ?_⟩, (fun n c e => by injection e with e1 _ _; cases e1), .inr ⟨lits .i64 (ss.take len), lits .i64 (ss.drop len), by rw [hx], by simp [lits]⟩⟩
    rcases Nat.eq_zero_or_pos len with h0 | h0
    · left; exact List.eq_nil_of_length_eq_zero (by rw [hll]; exact h0)
    · right
      have ha := plain_at (hcell 0 (by omega))
      have ha0 : a = ⟨a.block, a.off, none⟩ := by
        rw [add_none] at ha
        exact ha
      have hbk : a.block < w.heap.size := by
        rw [hx] at hlt
        exact hlt (.cell a.block a.off) (by
          rw [ha0]
          exact MemPlace.mem_row.2 ⟨0, by omega, by simp⟩)
      refine ⟨a.block, a.off, by rw [← ha0], hbk, fun j y hj => ?_⟩
      have hj' : j < len := by
        have := (List.getElem?_eq_some_iff.1 hj).1
        omega
      have hc := hcell j (by omega)
      rw [ha0, addr_add] at hc
      rw [hc]
      rw [List.getElem?_take_of_lt hj'] at hj
      simp [List.getD, hj]
/-- A struct of seven fields of one cell each. -/
theorem seven {P : Program} {spare : Nat → Bool} {fuel : Nat} {t : TypeId} {f0 f1 f2 f3 f4 f5 f6 : Field} {cs : List Value} {x : DataW H × List MemPlace} (hs : P.underlying t = some (.struct #[f0, f1, f2, f3, f4, f5, f6]))
    (hone : oneCellFields P #[f0, f1, f2, f3, f4, f5, f6] = true) (hC : P.cellsOf t = 7) (h : DataW.trod enc P w base spare held fuel t cs = some x) :
    ∃ (u0 u1 u2 u3 u4 u5 u6 : Value) (y0 y1 y2 y3 y4 y5 y6 : DataW H × List MemPlace) (n : Nat), cs = [u0, u1, u2, u3, u4, u5, u6] ∧ x = (.agg [y0.1, y1.1, y2.1, y3.1, y4.1, y5.1, y6.1], [y0, y1, y2, y3, y4, y5, y6].flatMap (·.2)) ∧
      DataW.trod enc P w base spare held n f0.type [u0] = some y0 ∧ DataW.trod enc P w base spare held n f1.type [u1] = some y1 ∧ DataW.trod enc P w base spare held n f2.type [u2] = some y2 ∧
      DataW.trod enc P w base spare held n f3.type [u3] = some y3 ∧ DataW.trod enc P w base spare held n f4.type [u4] = some y4 ∧ DataW.trod enc P w base spare held n f5.type [u5] = some y5 ∧ DataW.trod enc P w base spare held n f6.type [u6] = some y6 := by
  obtain ⟨ys, n, _, hx, hlc, hlen, hg⟩ := DataW.trod_struct hs h
  have hl : cs.length = 7 := hlc.trans hC
  obtain ⟨u0, u1, u2, u3, u4, u5, u6, rfl⟩ : ∃ a b c d e f g, cs = [a, b, c, d, e, f, g] := by
    match cs, hl with
    | [a, b, c, d, e, f, g], _ => exact ⟨a, b, c, d, e, f, g, rfl⟩
  obtain ⟨y0, y1, y2, y3, y4, y5, y6, rfl⟩ : ∃ a b c d e f g, ys = [a, b, c, d, e, f, g] := by
    match ys, hlen with
    | [a, b, c, d, e, f, g], _ => exact ⟨a, b, c, d, e, f, g, rfl⟩
  have go : ∀ (j : Nat) f, (#[f0, f1, f2, f3, f4, f5, f6] : Array Field)[j]? = some f → DataW.trod enc P w base spare held n f.type (List.take 1 (List.drop j [u0, u1, u2, u3, u4, u5, u6])) = [y0, y1, y2, y3, y4, y5, y6][j]? := by
    intro j f hj
    have h1 := hg j f hj
    obtain ⟨ho, hk⟩ := hone_of hone j f hj
    rw [ho, hk] at h1
    exact h1
  exact ⟨u0, u1, u2, u3, u4, u5, u6, y0, y1, y2, y3, y4, y5, y6, n, rfl, hx, go 0 f0 rfl, go 1 f1 rfl, go 2 f2 rfl, go 3 f3 rfl, go 4 f4 rfl, go 5 f5 rfl, go 6 f6 rfl⟩
/-- What a reading says of one node. -/
structure NdR (W : World) (x : Nd) (nv kv : Value) (d : DataW H) : Prop where
  names : Strs W nv x.names
  kids : Nums W kv x.kids
  nil1 : nilOk nv
  nil2 : nilOk kv
  l : -9223372036854775808 ≤ x.line ∧ x.line ≤ 9223372036854775807
  o : -9223372036854775808 ≤ x.op ∧ x.op ≤ 9223372036854775807
  n : -9223372036854775808 ≤ x.num ∧ x.num ≤ 9223372036854775807
  big : (∀ n ∈ d.weights Tryz.prog 32, n ≤ reachBytes) → x.names.length ≤ 140737488355328 ∧ x.kids.length ≤ 140737488355328
set_option maxRecDepth 100000 in
theorem node_of {fuel : Nat} {cs : List Value} {x : DataW H × List MemPlace} (h : DataW.trod enc Tryz.prog w base (fun _ => true) held fuel 32 cs = some x) (hlt : ∀ y ∈ x.2, y.block < w.heap.size) :
    ∃ (nd : Nd) (nv kv : Value), cs = [.int .i64 nd.kind, .int .i64 nd.line, .int .i64 nd.op, .int .i64 nd.num, .string nd.s, nv, kv] ∧ NdR w nd nv kv x.1 := by
  obtain ⟨u0, u1, u2, u3, u4, u5, u6, y0, y1, y2, y3, y4, y5, y6, n, rfl, hx, t0, t1, t2, t3, t4, t5, t6⟩ := seven Tryz.underlying32 (by kernel_rfl) (by kernel_rfl) h
  obtain ⟨z0, e0, r0, w0⟩ := DataW.trod_int Tryz.underlying3 (show DataW.trod enc Tryz.prog w base (fun _ => true) held n 3 [u0] = some y0 from t0)
  obtain ⟨z1, e1, r1, w1⟩ := DataW.trod_int Tryz.underlying3 (show DataW.trod enc Tryz.prog w base (fun _ => true) held n 3 [u1] = some y1 from t1)
  obtain ⟨z2, e2, r2, w2⟩ := DataW.trod_int Tryz.underlying3 (show DataW.trod enc Tryz.prog w base (fun _ => true) held n 3 [u2] = some y2 from t2)
  obtain ⟨z3, e3, r3, w3⟩ := DataW.trod_int Tryz.underlying2 (show DataW.trod enc Tryz.prog w base (fun _ => true) held n 2 [u3] = some y3 from t3)
  obtain ⟨z4, e4, r4, _⟩ := DataW.trod_string Tryz.underlying9 (show DataW.trod enc Tryz.prog w base (fun _ => true) held n 9 [u4] = some y4 from t4)
  have hin : ∀ y ∈ [y0, y1, y2, y3, y4, y5, y6], ∀ q ∈ y.2, q ∈ x.2 := fun y hy q hq => by
    rw [hx]
    exact List.mem_flatMap.2 ⟨y, hy, hq⟩
  obtain ⟨xs, hs1, hs2, hs3⟩ := strs_of (show DataW.trod enc Tryz.prog w base (fun _ => true) held n 29 [u5] = some y5 from t5) (fun q hq => hlt q (hin y5 (by simp) q hq))
  obtain ⟨zs, hz1, hz2, hz3⟩ := nums_of (show DataW.trod enc Tryz.prog w base (fun _ => true) held n 30 [u6] = some y6 from t6) (fun q hq => hlt q (hin y6 (by simp) q hq))
  simp only [List.cons.injEq, and_true] at e0 e1 e2 e3 e4
  subst e0 e1 e2 e3 e4
  refine ⟨⟨z0, z1, z2, z3, z4, xs, zs⟩, u5, u6, rfl, hs1, hz1, hs2, hz2, ⟨i64_lo w1, i64_hi w1⟩, ⟨i64_lo w2, i64_hi w2⟩, ⟨i64_lo w3, i64_hi w3⟩, fun hw => ?_⟩
  have hw' : ∀ q ∈ DataW.weightsEach Tryz.prog [3, 3, 3, 2, 9, 29, 30] [y0.1, y1.1, y2.1, y3.1, y4.1, y5.1, y6.1], q ≤ reachBytes := fun q hq => hw q (by
    rw [hx]
    show q ∈ DataW.weights Tryz.prog 32 (.agg [y0.1, y1.1, y2.1, y3.1, y4.1, y5.1, y6.1])
    rw [DataW.weights, Tryz.underlying32]
    exact hq)
  have b9 : Tryz.prog.bytesOf 9 = 16 := by kernel_rfl
  have b3 : Tryz.prog.bytesOf 3 = 8 := by kernel_rfl
  constructor
  · rcases hs3 with rfl | ⟨el, sp, e, hl⟩
    · exact Nat.zero_le _
    · have := hw' ((el.length + sp.length) * Tryz.prog.bytesOf 9) (DataW.weights_mem_each (j := 5) (t := 29) (d := y5.1) rfl rfl _ (by rw [e, DataW.weights, Tryz.underlying29]; exact List.mem_cons_self ..))
      rw [b9] at this
      unfold reachBytes at this
      show xs.length ≤ _
      omega
  · rcases hz3 with rfl | ⟨el, sp, e, hl⟩
    · exact Nat.zero_le _
    · have := hw' ((el.length + sp.length) * Tryz.prog.bytesOf 3) (DataW.weights_mem_each (j := 6) (t := 30) (d := y6.1) rfl rfl _ (by rw [e, DataW.weights, Tryz.underlying30]; exact List.mem_cons_self ..))
      rw [b3] at this
      unfold reachBytes at this
      show zs.length ≤ _
      omega
/-- What a reading says of a tree's nodes. -/
structure TrR (W : World) (T : List Nd) (nv : Value) : Prop where
  nodes : Nodes W nv T
  nil_ : NilOk W nv T
  l : ∀ x ∈ T, -9223372036854775808 ≤ x.line ∧ x.line ≤ 9223372036854775807
  o : ∀ x ∈ T, -9223372036854775808 ≤ x.op ∧ x.op ≤ 9223372036854775807
  n : ∀ x ∈ T, -9223372036854775808 ≤ x.num ∧ x.num ≤ 9223372036854775807
theorem weights_all {P : Program} {e : TypeId} : ∀ {l : List (DataW H)} {d : DataW H}, d ∈ l → ∀ n ∈ d.weights P e, n ∈ DataW.weightsAll P e l := by
  intro l
  induction l with
  | nil => intro d hd; cases hd
  | cons a t ih =>
    intro d hd n hn
    rw [DataW.weightsAll, List.mem_append]
    rcases List.mem_cons.1 hd with rfl | hd
    · exact .inl hn
    · exact .inr (ih hd n hn)
theorem seven_cells {a : Addr} {i : Nat} {cs : List Value} (ha : a = ⟨a.block, a.off, none⟩) (h : w.cells? base (a.add (i * 7)) 7 = some cs) : ∀ (j : Nat) u, cs[j]? = some u → w.cell? ⟨a.block, a.off + i * 7 + j, none⟩ = some u := by
  intro j u hj
  have hc := World.cells?_some h
  have h2 : w.cell? ((a.add (i * 7)).add j) = some u := (hc.2.2 j (by have := (List.getElem?_eq_some_iff.1 hj).1; have := hc.2.1; omega)).trans hj
  rw [ha] at h2
  have e1 : ((⟨a.block, a.off, none⟩ : Addr).add (i * 7)).add j = ⟨a.block, a.off + i * 7 + j, none⟩ := by rw [addr_add, addr_add]
  rw [e1] at h2
  exact h2
set_option maxRecDepth 100000 in
theorem open_tree {r : Reach} {b0 : Nat} {v : Value} {d : DataW H} {p : List MemPlace} (hv : Value.okWide Tryz.prog w r b0 24 v) (h : DataW.Trod enc Tryz.prog w base (fun _ => true) held 24 v d p) (hlt : ∀ y ∈ p, y.block < w.heap.size) :
    ∃ (nv : Value) (T : List Nd) (q : Int), v = .agg #[nv, .int .i64 q] ∧ TrR w T nv ∧ -9223372036854775808 ≤ q ∧ q ≤ 9223372036854775807 ∧
      ((∀ n ∈ d.weights Tryz.prog 24, n ≤ reachBytes) → ∀ x ∈ T, x.names.length ≤ 140737488355328 ∧ x.kids.length ≤ 140737488355328) := by
  obtain ⟨u0, u1, y0, y1, m, rfl, rfl, rfl, t0, t1⟩ := open_agg2 Tryz.underlying24 (by kernel_rfl) (by kernel_rfl) hv h
  obtain ⟨q, e1, rfl, w1⟩ := DataW.trod_int Tryz.underlying3 t1
  simp only [List.cons.injEq, and_true] at e1
  subst e1
  rcases open_slice Tryz.underlying22 t0 with ⟨hcs, hx⟩ | ⟨a, len, cap, mm, n, D, Pl, hcs, _, hl, hcap, hm, hx, hel⟩
  · simp only [List.cons.injEq, and_true] at hcs
    subst hcs
    exact ⟨_, [], q, rfl, ⟨⟨none, 0, rfl, Nat.le_refl _, .inl rfl⟩, fun bk o n c e => by (injection e with e1 _ _; cases e1), (fun x hx => by cases hx), (fun x hx => by cases hx), (fun x hx => by cases hx)⟩, i64_lo w1, i64_hi w1, fun _ x hx => by cases hx⟩
  · simp only [List.cons.injEq, and_true] at hcs
    subst hcs
    simp only [if_true] at hm
    have c32 : Tryz.prog.cellsOf 32 = 7 := by kernel_rfl
    rw [c32] at hel hx
    have hPl : ∀ i, i < len → ∀ y ∈ Pl i, y.block < w.heap.size := fun i hi y hy => hlt y (by
      rw [hx]
      exact List.mem_append_left _ (List.mem_append_right _ (List.mem_flatMap.2 ⟨i, List.mem_range.2 (by omega), hy⟩)))
    have hex : ∀ i : Nat, ∃ nd : Nd, i < len → ∃ nv kv, w.cells? base (a.add (i * 7)) 7 = some [.int .i64 nd.kind, .int .i64 nd.line, .int .i64 nd.op, .int .i64 nd.num, .string nd.s, nv, kv] ∧ NdR w nd nv kv (D i) := fun i => by
      by_cases hi : i < len
      · obtain ⟨cs', h1, h2⟩ := hel i (by omega)
        obtain ⟨nd, nv, kv, rfl, h3⟩ := node_of h2 (hPl i hi)
        exact ⟨nd, fun _ => ⟨nv, kv, h1, h3⟩⟩
      · exact ⟨⟨0, 0, 0, 0, ⟨#[]⟩, [], []⟩, fun h => absurd h hi⟩
    obtain ⟨F, hF⟩ := Classical.axiomOfChoice hex
    have hTl : ((List.range len).map F).length = len := by simp
    have hTi : ∀ (i : Nat) x, ((List.range len).map F)[i]? = some x → i < len ∧ x = F i := fun i x hx => by
      have hi := (List.getElem?_eq_some_iff.1 hx).1
      rw [hTl] at hi
      rw [List.getElem?_map, List.getElem?_range hi] at hx
      exact ⟨hi, (Option.some.inj hx).symm⟩
    have hTm : ∀ x ∈ (List.range len).map F, ∃ i, i < len ∧ x = F i := fun x hx => by
      obtain ⟨i, hi, e⟩ := List.mem_map.1 hx
      exact ⟨i, List.mem_range.1 hi, e.symm⟩
    refine ⟨_, (List.range len).map F, q, rfl, ⟨⟨some a, cap, by rw [hTl], by rw [hTl]; exact hl, ?_⟩, ?_, ?_, ?_, ?_⟩, i64_lo w1, i64_hi w1, ?_⟩
    · rcases Nat.eq_zero_or_pos len with h0 | h0
      · left; exact List.eq_nil_of_length_eq_zero (by rw [hTl]; exact h0)
      · right
        obtain ⟨nv0, kv0, hc0, _⟩ := hF 0 h0
        have ha0 : a = ⟨a.block, a.off, none⟩ := by
          have h2 : w.cell? ((a.add (0 * 7)).add 0) = some (.int .i64 (F 0).kind) := ((World.cells?_some hc0).2.2 0 (by decide)).trans rfl
          rw [Nat.zero_mul, add_none, add_none] at h2
          exact plain_at h2
        have hbk : a.block < w.heap.size := hlt (.cell a.block a.off) (by
          rw [hx]
          refine List.mem_append_left _ (List.mem_append_left _ ?_)
          rw [ha0]
          exact MemPlace.mem_row.2 ⟨0, by omega, by simp⟩)
        refine ⟨a.block, a.off, by rw [← ha0], hbk, fun i x hx => ?_⟩
        obtain ⟨hi, rfl⟩ := hTi i x hx
        obtain ⟨nv, kv, hc, hr⟩ := hF i hi
        have hs := seven_cells ha0 hc
        exact ⟨nv, kv, ⟨hs 0 _ rfl, hs 1 _ rfl, hs 2 _ rfl, hs 3 _ rfl, hs 4 _ rfl, hs 5 _ rfl, hs 6 _ rfl⟩, hr.names, hr.kids⟩
    · intro bk o n' c' e i x u v' hx hna
      obtain ⟨hi, rfl⟩ := hTi i x hx
      injection e with e1 _ _
      obtain rfl := Option.some.inj e1
      obtain ⟨nv, kv, hc, hr⟩ := hF i hi
      have hs := seven_cells (a := ⟨bk, o, none⟩) rfl hc
      have e5 : nv = u := Option.some.inj ((hs 5 _ rfl).symm.trans hna.c5)
      have e6 : kv = v' := Option.some.inj ((hs 6 _ rfl).symm.trans hna.c6)
      rw [← e5, ← e6]
      exact ⟨hr.nil1, hr.nil2⟩
    · intro x hx
      obtain ⟨i, hi, rfl⟩ := hTm x hx
      obtain ⟨nv, kv, hc, hr⟩ := hF i hi
      exact hr.l
    · intro x hx
      obtain ⟨i, hi, rfl⟩ := hTm x hx
      obtain ⟨nv, kv, hc, hr⟩ := hF i hi
      exact hr.o
    · intro x hx
      obtain ⟨i, hi, rfl⟩ := hTm x hx
      obtain ⟨nv, kv, hc, hr⟩ := hF i hi
      exact hr.n
    · intro hw x hx'
      obtain ⟨i, hi, rfl⟩ := hTm x hx'
      obtain ⟨nv, kv, hc, hr⟩ := hF i hi
      refine hr.big fun k hk => hw k ?_
      rw [DataW.weights, Tryz.underlying24]
      refine DataW.weights_mem_each (j := 0) (t := 22) (d := y0.1) rfl rfl k ?_
      rw [hx, DataW.weights, Tryz.underlying22]
      refine List.mem_cons_of_mem _ (List.mem_append_left _ (weights_all (d := D i) ?_ k hk))
      exact List.mem_map.2 ⟨i, List.mem_range.2 hi, rfl⟩
end
end Go.Proofs.YtjlpklhibdkmeaaGreatDoor
