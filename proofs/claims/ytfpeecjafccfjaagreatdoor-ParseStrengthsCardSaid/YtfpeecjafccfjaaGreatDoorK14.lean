/- Parts of the proof: RBld, RQuo, RWrd, RWrt, RWfop, RRgt, RWfnum, RWfs, RWfnone, RWri. -/
import Derived.Lib.Builder
import Derived.Lib.OthersKept
import Derived.Lib.OwnKind
import Derived.BigCall
import Derived.BigGuard
import Derived.Lib.Strings
import Derived.Laws.Rows
import Derived.RangeFuncBox
import Derived.Maps.AppendAt
import Derived.Great.Walk
import Derived.Deep.Cut
import Derived.Lib.LaidTab
import Derived.Lib.ItoaLen
import Derived.Deep.RegionHeld3
import Derived.Test.YtfpeecjafccfjaaGreatDoorK13
namespace Go.Proofs.YtfpeecjafccfjaaGreatDoor
open Go.RowKit
theorem info45 : (Tryz.prog.info? 74).map (·.size) = some 2 := by kernel_rfl
theorem lies45 : liesAt Tryz.prog Tryz.prog.depth 74 (2 / Tryz.prog.cellsOf 74) 0 74 1 = true := by kernel_rfl
theorem info5R : (Tryz.prog.info? 5).map (fun i => (i.zero, i.size, i.bytes)) = some (some (.int .u8 0), 1, 1) := by kernel_rfl
set_option maxHeartbeats 1000000 in
set_option maxRecDepth 100000 in
theorem check_used (b : Nat) (w : World) (h0 : w.cell? ⟨b, 0, none⟩ = some (.pointer (some ⟨b, 0, none⟩))) :
    Calls Tryz.prog 101 #[.pointer (some ⟨b, 0, none⟩)] w fun e w' => e = .returned (.tuple #[]) ∧ w' = w := by
  obtain ⟨j, hj, _⟩ := Option.map_eq_some_iff.1 info45
  go_enter Tryz.func101, Tryz.ntmps101
  go_wp2_with fail
  rw [Lib.run_neq_ptr_same w _ Tryz.underlying71 hj]
  go_wp2_with fail
  go_end0
  exact ⟨rfl, rfl⟩
set_option maxHeartbeats 1000000 in
set_option maxRecDepth 100000 in
theorem check_fresh (b : Nat) (w : World) (h0 : w.cell? ⟨b, 0, none⟩ = some (.pointer none)) (hsh : w.shape? b = some (74, 2)) (hfz : w.frozen? ⟨b, 0, none⟩ = false) :
    Calls Tryz.prog 101 #[.pointer (some ⟨b, 0, none⟩)] w fun e w' => e = .returned (.tuple #[]) ∧ w' = w.setCell ⟨b, 0, none⟩ (.pointer (some ⟨b, 0, none⟩)) := by
  obtain ⟨j, hj, hjs⟩ := Option.map_eq_some_iff.1 info45
  go_enter Tryz.func101, Tryz.ntmps101
  go_wp2_with fail
  rw [Lib.run_to_unsafe w ⟨b, 0, none⟩ Tryz.underlying71 Tryz.underlying94 hj (by rw [hjs]; decide) hsh (Nat.zero_lt_succ 1)]
  simp only [Result.andThen]
  rw [Oper.upon_value]
  go_wp2_with fail
  rw [run_callFunc_extern Tryz.func131 (by kernel_rfl) (by kernel_rfl) (by kernel_rfl) (e := Extern.AbiNoEscape.same) (by kernel_rfl)]
  rw [Lib.run_noEscape]
  simp only [Result.andThen]
  rw [Oper.upon_value]
  go_wp2_with fail
  rw [Lib.run_from_unsafe w ⟨b, 0, none⟩ Tryz.underlying94 Tryz.underlying71 hj hsh lies45]
  simp only [Result.andThen]
  rw [Oper.upon_value]
  go_wp2_with fail
  go_end0
  exact ⟨rfl, rfl⟩
theorem check_any (B b : Nat) (bs : List Value) (w : World) (h : Lib.IsBuilder 74 5 B b bs w) :
    Calls Tryz.prog 101 #[.pointer (some ⟨b, 0, none⟩)] w fun e w' => e = .returned (.tuple #[]) ∧ (Lib.BuilderAt 74 5 B b (.pointer (some ⟨b, 0, none⟩)) bs w' ∧ Below B w w' ∧ Lib.OthersKept 5 (some b) w w') := by
  rcases h with h | h
  · refine (check_fresh b w h.cell0 h.shape h.frozen0).mono ?_
    rintro e w' ⟨rfl, rfl⟩
    exact ⟨rfl, h.used _, (Below.refl B w).setCell (p := ⟨b, 0, none⟩) h.1 _, (Lib.OthersKept.refl 5 (some b) w).setCell ⟨b, 0, none⟩ rfl _⟩
  · refine (check_used b w h.cell0).mono ?_
    rintro e w' ⟨rfl, rfl⟩
    exact ⟨rfl, h, Below.refl B _, Lib.OthersKept.refl _ _ _⟩
set_option maxHeartbeats 1000000 in
set_option maxRecDepth 100000 in
theorem wbyte_any (B b : Nat) (bs : List Value) (c : Int) (w : World) (h : Lib.IsBuilder 74 5 B b bs w) (hlen : bs.length + 1 ≤ 140737488355328) (hBw : B ≤ w.heap.size) :
    Calls Tryz.prog 62 #[.pointer (some ⟨b, 0, none⟩), .int .u8 c] w fun e w' => e = .returned .nilIface ∧ (Lib.BuilderAt 74 5 B b (.pointer (some ⟨b, 0, none⟩)) (bs ++ [.int .u8 c]) w' ∧ Below B w w' ∧ Lib.OthersKept 5 (some b) w w') := by
  obtain ⟨i0, hi, hz0, hz1, hz2⟩ := info_parts info5R
  go_enter Tryz.func62, Tryz.ntmps62
  go_wp2_with fail
  refine (check_any B b bs _ h).mono ?_
  rintro e w1 ⟨rfl, h1, hb1, hk1⟩
  obtain ⟨hB, v, hbk, hown, hne⟩ := h1
  have c0 : w1.cell? ⟨b, 0, none⟩ = some (.pointer (some ⟨b, 0, none⟩)) := by rw [Lib.cell_of_heap hbk]; rfl
  have c1 : w1.cell? ⟨b, 1, none⟩ = some v := by rw [Lib.cell_of_heap hbk]; rfl
  go_wp2_with (at_builtin; refine wpList_append_own _ rfl _ _ 72 rfl B 5 i0 (.int .u8 0) 1 1 Tryz.underlying72 hi hz0 hz1 hz2 rfl (by decide) _ _ _ rfl (hown.alloc _) ⟨w1.heap.size, 0, none⟩ 1 1 [.int .u8 c] rfl rfl ?c1 ?c2 ?c3 ?c4 ?c5 ?_)
  case c1 =>
    intro j u hj
    match j, hj with
    | 0, hj => simp at hj; subst hj; simp [Addr.add]
  case c2 => intro u hu; simp at hu; subst hu; rfl
  case c3 => unfold maxLen; omega
  case c4 => omega
  case c5 => have := hb1.size; simp; omega
  intro v' w2 hown' hgrow _
  have hlt : b < w1.heap.size := by
    rcases Nat.lt_or_ge b w1.heap.size with h' | h'
    · exact h'
    · simp [Array.getElem?_eq_none h'] at hbk
  have hb2 : w2.heap[b]? = some (.cells #[.pointer (some ⟨b, 0, none⟩), v] 74 (0, 0)) := by
    rw [hgrow.block b (by simp; omega) (fun e => hne e.symm), Lib.alloc_old w1 _ b hlt]
    exact hbk
  have d0 : w2.cell? ⟨b, 0, none⟩ = some (.pointer (some ⟨b, 0, none⟩)) := by rw [Lib.cell_of_heap hb2]; rfl
  have d1 : w2.cell? ⟨b, 1, none⟩ = some v := by rw [Lib.cell_of_heap hb2]; rfl
  have f1 : w2.frozen? ⟨b, 1, none⟩ = false := Lib.frozen_of_heap hb2 1
  obtain ⟨g, cap, rfl⟩ : ∃ g cap, v' = .slice (some ⟨g, 0, none⟩) (bs.length + 1) cap := by
    rcases hown'.2 with ⟨_, h0⟩ | ⟨g, cap, cur, hv, _⟩
    · omega
    · exact ⟨g, cap, hv⟩
  go_wp2_with fail
  go_ret
  refine ⟨rfl, ?_, ?_, ((hk1.alloc _).grown hgrow (Lib.ownsRow_kind (hown.alloc _))).setCell ⟨b, 1, none⟩ rfl _⟩
  · exact Lib.BuilderAt.put (T := 74) (e := 5) hB hb2 (bs' := bs ++ [.int .u8 c]) (by simpa using hown') (by decide)
  · exact ((hb1.alloc (by have := hb1.size; omega) _).grown hgrow (by have := hb1.size; simp; omega) (fun k hk => (hown.lt k hk).1)).setCell (p := ⟨b, 1, none⟩) hB _
set_option maxHeartbeats 1000000 in
set_option maxRecDepth 100000 in
theorem wstring_any (B b : Nat) (bs : List Value) (s : ByteArray) (w : World) (h : Lib.IsBuilder 74 5 B b bs w) (hlen : bs.length + s.size ≤ 140737488355328) (hBw : B ≤ w.heap.size) :
    Calls Tryz.prog 58 #[.pointer (some ⟨b, 0, none⟩), .string s] w fun e w' => e = .returned (.tuple #[.int .i64 s.size, .nilIface]) ∧ (Lib.BuilderAt 74 5 B b (.pointer (some ⟨b, 0, none⟩)) (bs ++ Lib.strCells s) w' ∧ Below B w w' ∧ Lib.OthersKept 5 (some b) w w') := by
  obtain ⟨i0, hi, hz0, hz1, hz2⟩ := info_parts info5R
  go_enter Tryz.func58, Tryz.ntmps58
  go_wp2_with fail
  refine (check_any B b bs _ h).mono ?_
  rintro e w1 ⟨rfl, h1, hb1, hk1⟩
  obtain ⟨hB, v, hbk, hown, hne⟩ := h1
  have c0 : w1.cell? ⟨b, 0, none⟩ = some (.pointer (some ⟨b, 0, none⟩)) := by rw [Lib.cell_of_heap hbk]; rfl
  have c1 : w1.cell? ⟨b, 1, none⟩ = some v := by rw [Lib.cell_of_heap hbk]; rfl
  go_wp2_with (at_builtin; refine Lib.wpList_append_own_string _ rfl _ _ 72 9 rfl B 5 i0 Tryz.underlying72 Tryz.underlying9 hi hz0 hz1 hz2 _ _ _ rfl hown s rfl ?c3 ?c4 ?c5 ?_)
  case c3 => unfold maxLen; omega
  case c4 => omega
  case c5 => have := hb1.size; omega
  intro v' w2 hown' hgrow _
  have hlt : b < w1.heap.size := by
    rcases Nat.lt_or_ge b w1.heap.size with h' | h'
    · exact h'
    · simp [Array.getElem?_eq_none h'] at hbk
  have hb2 : w2.heap[b]? = some (.cells #[.pointer (some ⟨b, 0, none⟩), v] 74 (0, 0)) := by
    rw [hgrow.block b hlt (fun e => hne e.symm)]
    exact hbk
  have d0 : w2.cell? ⟨b, 0, none⟩ = some (.pointer (some ⟨b, 0, none⟩)) := by rw [Lib.cell_of_heap hb2]; rfl
  have d1 : w2.cell? ⟨b, 1, none⟩ = some v := by rw [Lib.cell_of_heap hb2]; rfl
  have f1 : w2.frozen? ⟨b, 1, none⟩ = false := Lib.frozen_of_heap hb2 1
  obtain ⟨ao, n', cap, rfl⟩ : ∃ ao n' cap, v' = .slice ao n' cap := by
    rcases hown'.2 with ⟨hv, _⟩ | ⟨g, cap, cur, hv, _⟩
    · exact ⟨_, _, _, hv⟩
    · exact ⟨_, _, _, hv⟩
  go_wp2_with fail
  go_ret2
  refine ⟨rfl, ?_, ?_, (hk1.grown hgrow (Lib.ownsRow_kind hown)).setCell ⟨b, 1, none⟩ rfl _⟩
  · exact Lib.BuilderAt.put (T := 74) (e := 5) hB hb2 (bs' := bs ++ Lib.strCells s) (by simpa [Lib.strCells_length] using hown') (by decide)
  · exact (hb1.grown hgrow (by have := hb1.size; omega) (fun k hk => (hown.lt k hk).1)).setCell (p := ⟨b, 1, none⟩) hB _
end Go.Proofs.YtfpeecjafccfjaaGreatDoor
namespace Go.Proofs.YtfpeecjafccfjaaGreatDoor
open Go.RowKit
theorem b_alloc' (w : World) (o : Obj) : Below w.heap.size w (w.alloc o) := (Below.refl _ _).alloc (Nat.le_refl _) _
def bcellsR (l : List UInt8) : List Value := l.map fun b => Value.int .u8 (b.toNat : Int)
theorem bcells_appR (a b : List UInt8) : bcellsR (a ++ b) = bcellsR a ++ bcellsR b := by simp [bcellsR]
theorem bcells_strR (s : ByteArray) : Lib.strCells s = bcellsR s.data.toList := rfl
def BBufR (W : World) (B : Nat) (v : Value) (l : List UInt8) : Prop := W.ownsRow B 5 1 v l.length (bcellsR l)
theorem BBufR.form {W : World} {B : Nat} {v : Value} {l : List UInt8} (h : BBufR W B v l) : ∃ A c, v = .slice A l.length c := by
  rcases h.2 with ⟨rfl, h0⟩ | ⟨g, cap, _, rfl, _⟩
  · exact ⟨none, 0, by rw [h0]⟩
  · exact ⟨_, _, rfl⟩
theorem BBufR.nil (W : World) (B : Nat) : BBufR W B (.slice none 0 0) [] := World.ownsRow_nil W B 5 1
theorem at_appendR {ops : Array Oper} {rest : List Oper} {o : Oper} {a : Act} {Q : Exit → Act → World → Prop} (w : World) (hgd : o.guard = none) (sl x : Operand)
    (ho : o.op = .call { callee := .builtin .append, args := #[sl, x], argTypes := #[72, 9] }) (B : Nat) (v : Value) (l : List UInt8) (hs : a.eval sl = v) (hown : BBufR w B v l) (s : ByteArray) (hx : a.eval x = .string s)
    (hlen : l.length + s.size ≤ 1000000) (hB : B ≤ w.heap.size)
    (h : ∀ v' w', BBufR w' B v' (l ++ s.data.toList) → Below B w w' → wpList Tryz.prog ops Q rest (a.put o.dst v') w') : wpList Tryz.prog ops Q (o :: rest) a w := by
  obtain ⟨i0, hi0, hz0, hz1, hz2⟩ := info_parts info5R
  refine Lib.wpList_append_own_string w hgd sl x 72 9 ho B 5 i0 Tryz.underlying72 Tryz.underlying9 hi0 hz0 hz1 hz2 v l.length (bcellsR l) hs hown s hx (by unfold maxLen; omega) (by omega) hB ?_
  intro v' w' h1 h2 _
  refine h v' w' ?_ ((Below.refl _ _).grown h2 hB (own_rowR hown))
  unfold BBufR
  rw [List.length_append, bcells_appR, ← bcells_strR, ← Lib.size_eq]
  exact h1
theorem buf_stringR {W : World} {B : Nat} {v : Value} {l : List UInt8} (h : BBufR W B v l) : (convert 72 9 v).run Tryz.prog W = .ok (.string ⟨l.toArray⟩) W := by
  rcases h.2 with ⟨rfl, h0⟩ | ⟨g, cap, cur, rfl, _⟩
  · obtain rfl : l = [] := List.eq_nil_of_length_eq_zero h0
    exact run_convert_bytes_nil W 72 5 Tryz.underlying72 Tryz.underlying5 0 0 9 Tryz.underlying9
  · exact run_convert_bytes_back (P := Tryz.prog) W 72 9 5 ⟨g, 0, none⟩ cap l Tryz.underlying72 Tryz.underlying5 Tryz.underlying9 (fun j hj => by
      have hc := h.cells (g := g) rfl j (.int .u8 (l[j].toNat : Int)) (by simp [bcellsR, hj])
      exact hc)
theorem at_bytes {ops : Array Oper} {rest : List Oper} {o : Oper} {a : Act} {Q : Exit → Act → World → Prop} (w : World) (arr : Array Value) (cs : List UInt8) (harr : arr.toList = bcellsR cs) (hgd : o.guard = none) (sl y : Operand)
    (ho : o.op = .call { callee := .builtin .append, args := #[sl, y], argTypes := #[72, 72] }) (B : Nat) (v : Value) (l : List UInt8) (hs : a.eval sl = v) (hown : BBufR w B v l) (g : Nat) (hg : g = w.heap.size) (hy : a.eval y = .slice (some ⟨g, 0, none⟩) cs.length cs.length)
    (hlen : l.length + cs.length ≤ 1000000) (hB : B ≤ w.heap.size)
    (h : ∀ v' w', BBufR w' B v' (l ++ cs) → Below B w w' → wpList Tryz.prog ops Q rest (a.put o.dst v') w') : wpList Tryz.prog ops Q (o :: rest) a (w.alloc (.cells arr 5)) := by
  subst hg
  obtain ⟨i0, hi0, hz0, hz1, hz2⟩ := info_parts info5R
  have hc := fun j => acell w arr 5 j
  have hbl : (bcellsR cs).length = cs.length := by simp [bcellsR]
  refine wpList_append_own (P := Tryz.prog) _ hgd sl y 72 ho B 5 i0 (.int .u8 0) 1 1 Tryz.underlying72 hi0 hz0 hz1 hz2 rfl (by omega) v l.length (bcellsR l) hs (hown.alloc _) ⟨w.heap.size, 0, none⟩ cs.length cs.length (bcellsR cs) hy (by rw [hbl]; omega)
    (fun j u hj => by
      have : (⟨w.heap.size, 0, none⟩ : Addr).add j = ⟨w.heap.size, j, none⟩ := by unfold Addr.add; split <;> simp_all
      rw [this, hc j, ← Array.getElem?_toList, harr]; exact hj) (fun u hu => by
      obtain ⟨b, _, rfl⟩ := List.mem_map.1 hu; rfl) (by unfold maxLen; omega) (by omega) (by simp; omega) ?_
  intro v' w' h1 h2 _
  refine h v' w' ?_ (((Below.refl _ _).alloc hB _).grown h2 (by simp; omega) (own_rowR hown))
  unfold BBufR
  rw [List.length_append, bcells_appR]
  exact h1
def escR (c : UInt8) : List UInt8 := if c = 34 ∨ c = 92 then [92, c] else if c = 10 then [92, 110] else if c = 13 then [92, 114] else if c = 0 then [92, 120, 48, 48] else [c]
def quoL (l : List UInt8) : List UInt8 := 34 :: l.flatMap escR ++ [34]
theorem esc_len (c : UInt8) : (escR c).length ≤ 4 := by
  unfold escR
  repeat' split
  all_goals (simp only [List.length_cons, List.length_nil]; omega)
theorem escs_lenR (l : List UInt8) : (l.flatMap escR).length ≤ 4 * l.length := by
  induction l with
  | nil => exact Nat.le_refl _
  | cons a t ih =>
    rw [List.flatMap_cons, List.length_append, List.length_cons]
    have := esc_len a
    omega
theorem quoL_len (l : List UInt8) : (quoL l).length ≤ 4 * l.length + 2 := by
  have := escs_lenR l
  unfold quoL
  simp only [List.length_append, List.length_cons, List.length_nil]
  omega
theorem take_esc {l : List UInt8} {k : Nat} {c : UInt8} (h : l[k]? = some c) : (l.take (k + 1)).flatMap escR = (l.take k).flatMap escR ++ escR c := by
  rw [take_snoc' l k c h, List.flatMap_append, List.flatMap_cons, List.flatMap_nil, List.append_nil]
theorem bat {s : ByteArray} {k : Nat} (h : k < s.size) : s.data.toList[k]? = some s[k] := by
  rw [Array.getElem?_toList]
  exact Array.getElem?_eq_getElem h
set_option maxHeartbeats 4000000 in
theorem quoted_anyR (s : ByteArray) (w : World) (hs : s.size ≤ 100000) : Calls Tryz.prog 202 #[.string s] w fun e w' => e = .returned (.string ⟨(quoL s.data.toList).toArray⟩) ∧ Below w.heap.size w w' := by
  have hstart : BBufR (w.alloc (.cells #[.int .u8 34] 5)) w.heap.size (.slice (some ⟨w.heap.size, 0, none⟩) 1 1) [34] := World.ownsRow_lit (base := w.heap.size) (e := 5) (size := 1) w #[.int .u8 34] 1 (Nat.le_refl _) (by decide) rfl
  have HSt := Lib.hid hstart
  clear hstart
  have hsl := Lib.size_eq s
  have HSL := Lib.hid hsl
  clear hsl
  go_enter Tryz.func202, Tryz.ntmps202
  go_wp2_with fail
  go_loopw [3, 9] (fun b i wr => ∃ k : Nat, k ≤ s.size ∧ i = .int .i64 (k : Int) ∧ BBufR wr w.heap.size b (34 :: (s.data.toList.take k).flatMap escR) ∧ Below w.heap.size w wr) (fun _ i _ => s.size - (intOf i).toNat)
  case atStart => exact ⟨0, Nat.zero_le _, rfl, HSt.out, b_alloc' _ _⟩
  case round =>
    clear HSt
    obtain ⟨k, hk, rfl, hbuf, hbel⟩ := hrel
    have HB := Lib.hid hbuf
    have HW := Lib.hid hbel
    have hsz := hbel.size
    obtain ⟨l, hl⟩ : ∃ l, l = 34 :: (s.data.toList.take k).flatMap escR := ⟨_, rfl⟩
    rw [← hl] at HB
    have hbl : l.length ≤ 400001 := by
      have := escs_lenR (s.data.toList.take k)
      rw [List.length_take] at this
      rw [hl, List.length_cons]
      omega
    have HLL := Lib.hid hl
    obtain ⟨A, c, rfl⟩ := HB.out.form
    clear hbuf hbel hl
    by_cases hlt : k < s.size
    · have HT := Lib.hid (take_esc (bat hlt))
      have hle : s[k].toNat ≤ 255 := by have := s[k].toNat_lt; omega
      obtain ⟨ch, hch⟩ : ∃ ch, ch = s[k] := ⟨_, rfl⟩
      have HCH := Lib.hid hch
      clear hch
      have fin : ∀ (cs : List UInt8) (v' : Value) (w' : World), escR s[k] = cs → BBufR w' w.heap.size v' (l ++ cs) → Below w.heap.size wr w' → (∃ k' : Nat, k' ≤ s.size ∧ Value.int .i64 ((k : Int) + 1) = .int .i64 (k' : Int) ∧ BBufR w' w.heap.size v' (34 :: (s.data.toList.take k').flatMap escR) ∧ Below w.heap.size w w') := fun cs v' w' he hb hl => by
        refine ⟨k + 1, by omega, by go_num, ?_, HW.out.trans hl⟩
        rw [HT.out, he]
        have := HLL.out
        rw [this] at hb
        exact hb
      have FIN := Lib.hid fin
      clear fin
      by_cases h34 : s[k].toNat = 34
      · have he : escR s[k] = [92, 34] := by
          have : s[k] = 34 := UInt8.toNat_inj.1 h34
          rw [this]; rfl
        have HE := Lib.hid he
        clear he
        go_wp2_with (at_builtin; refine at_bytes _ _ [92, 34] rfl rfl _ _ rfl w.heap.size _ l rfl HB.out _ rfl rfl (by simp; omega) hsz ?_; intro v' w' hb' hl')
        go_roundw
        case rel => exact FIN.out _ _ _ HE.out hb' hl'
        case measure => simp [intOf]; omega
      have q34 : ((s[k].toNat : Int) == 34) = false := beq_eq_false_iff_ne.2 (by omega)
      by_cases h92 : s[k].toNat = 92
      · have he : escR s[k] = [92, 92] := by
          have : s[k] = 92 := UInt8.toNat_inj.1 h92
          rw [this]; rfl
        have HE := Lib.hid he
        clear he
        go_wp2_with (at_builtin; refine at_bytes _ _ [92, 92] rfl rfl _ _ rfl w.heap.size _ l rfl HB.out _ rfl rfl (by simp; omega) hsz ?_; intro v' w' hb' hl')
        go_roundw
        case rel => exact FIN.out _ _ _ HE.out hb' hl'
        case measure => simp [intOf]; omega
      have q92 : ((s[k].toNat : Int) == 92) = false := beq_eq_false_iff_ne.2 (by omega)
      by_cases h10 : s[k].toNat = 10
      · have he : escR s[k] = [92, 110] := by
          have : s[k] = 10 := UInt8.toNat_inj.1 h10
          rw [this]; rfl
        have HE := Lib.hid he
        clear he
        go_wp2_with (at_builtin; refine at_appendR _ rfl _ _ rfl w.heap.size _ l rfl HB.out ⟨#[92, 110]⟩ rfl (by show _ + 2 ≤ _; omega) hsz ?_; intro v' w' hb' hl')
        go_roundw
        case rel => exact FIN.out _ _ _ HE.out hb' hl'
        case measure => simp [intOf]; omega
      have q10 : ((s[k].toNat : Int) == 10) = false := beq_eq_false_iff_ne.2 (by omega)
      by_cases h13 : s[k].toNat = 13
      · have he : escR s[k] = [92, 114] := by
          have : s[k] = 13 := UInt8.toNat_inj.1 h13
          rw [this]; rfl
        have HE := Lib.hid he
        clear he
        go_wp2_with (at_builtin; refine at_appendR _ rfl _ _ rfl w.heap.size _ l rfl HB.out ⟨#[92, 114]⟩ rfl (by show _ + 2 ≤ _; omega) hsz ?_; intro v' w' hb' hl')
        go_roundw
        case rel => exact FIN.out _ _ _ HE.out hb' hl'
        case measure => simp [intOf]; omega
      have q13 : ((s[k].toNat : Int) == 13) = false := beq_eq_false_iff_ne.2 (by omega)
      by_cases h00 : s[k].toNat = 0
      · have he : escR s[k] = [92, 120, 48, 48] := by
          have : s[k] = 0 := UInt8.toNat_inj.1 h00
          rw [this]; rfl
        have HE := Lib.hid he
        clear he
        go_wp2_with (at_builtin; refine at_appendR _ rfl _ _ rfl w.heap.size _ l rfl HB.out ⟨#[92, 120, 48, 48]⟩ rfl (by show _ + 4 ≤ _; omega) hsz ?_; intro v' w' hb' hl')
        go_roundw
        case rel => exact FIN.out _ _ _ HE.out hb' hl'
        case measure => simp [intOf]; omega
      have q00 : ((s[k].toNat : Int) == 0) = false := beq_eq_false_iff_ne.2 (by omega)
      have he : escR s[k] = [s[k]] := by
        unfold escR
        rw [if_neg (by rintro (h | h) <;> rw [h] at h34 h92 <;> first | exact h34 rfl | exact h92 rfl), if_neg (fun h => h10 (by rw [h]; rfl)), if_neg (fun h => h13 (by rw [h]; rfl)), if_neg (fun h => h00 (by rw [h]; rfl))]
      have HE := Lib.hid he
      clear he h34 h92 h10 h13 h00
      go_wp2_with (at_builtin; refine at_bytes _ _ [s[k]] rfl rfl _ _ rfl w.heap.size _ l rfl HB.out _ rfl rfl (by simp; omega) hsz ?_; intro v' w' hb' hl')
      go_roundw
      case rel => exact FIN.out _ _ _ HE.out hb' hl'
      case measure => simp [intOf]; omega
    · have hall : s.data.toList.take k = s.data.toList := List.take_of_length_le (by rw [← HSL.out]; omega)
      have hq : l ++ [34] = quoL s.data.toList := by
        rw [HLL.out, hall]; rfl
      have HQ := Lib.hid hq
      clear hall hq
      have hb2 : ∀ (v' : Value) (w' : World), BBufR w' w.heap.size v' (l ++ [34]) → (convert 72 9 v').run Tryz.prog w' = .ok (.string ⟨(l ++ [34]).toArray⟩) w' := fun v' w' h => buf_stringR h
      have HB2 := Lib.hid hb2
      clear hb2
      go_wp2_with (at_builtin; refine at_bytes _ _ [34] rfl rfl _ _ rfl w.heap.size _ l rfl HB.out _ rfl rfl (by simp; omega) hsz ?_; intro v' w' hb' hl'; have hcv := HB2.out v' w' hb')
      go_ret
      exact ⟨by rw [HQ.out]; rfl, HW.out.trans hl'⟩
theorem below_drawsR {B : Nat} {a w : World} (h : Below B a w) (n : Nat) : Below B a (w.drewN n) := ⟨h.os, h.tape, h.output, h.size, h.block⟩
theorem asks_q (w : World) : Calls Tryz.prog 184 #[.int .u8 113] w fun e w' => e = .returned (.tuple #[.int .i64 1, .bool true]) ∧ w = w' := by
  go_enter Tryz.func184, Tryz.ntmps184
  go_wp2_with fail
  go_ret2
  exact ⟨rfl, rfl⟩
theorem bound_q (w : World) : Calls Tryz.prog 158 #[.int .i64 2147483647] w fun e w' => e = .returned (.int .i64 2147483647) ∧ w = w' := by
  go_enter Tryz.func158, Tryz.ntmps158
  go_wp2_with fail
  go_ret
  exact ⟨rfl, rfl⟩
theorem put_q (s : ByteArray) (w : World) (hs : s.size ≤ 100000) : Calls Tryz.prog 185 #[.int .u8 113, .agg #[.int .i64 3, .int .i64 0, .string s]] w fun e w' => e = .returned (.tuple #[.string ⟨(quoL s.data.toList).toArray⟩, .bool true]) ∧ Below w.heap.size w w' := by
  have H := Lib.hid (fun W => quoted_anyR s W hs)
  go_enter Tryz.func185, Tryz.ntmps185
  go_wp2_with fail
  refine (H.out _).mono ?_; rintro e w1 ⟨rfl, b1⟩
  have B1 := Lib.hid (thenBR (b_alloc' _ _) b1)
  clear b1
  go_wp2_with fail
  go_ret2
  exact ⟨rfl, B1.out⟩
set_option maxHeartbeats 2000000 in
theorem next_q (bk o n c : Nat) (s : ByteArray) (w : World) (hn : 0 < n) (hs : s.size ≤ 100000)
    (c0 : w.cell? ⟨bk, o, none⟩ = some (.int .i64 3)) (c1 : w.cell? ⟨bk, o + 1, none⟩ = some (.int .i64 0)) (c2 : w.cell? ⟨bk, o + 2, none⟩ = some (.string s)) :
    Calls Tryz.prog 159 #[.string ⟨#[37, 113]⟩, .slice (some ⟨bk, o, none⟩) n c] w fun e w' => e = .returned (.tuple #[.string ⟨(quoL s.data.toList).toArray⟩, .string ⟨#[]⟩, .int .i64 1, .int .i64 0]) ∧ Below w.heap.size w w' := by
  have HP := Lib.hid (fun W => put_q s W hs)
  obtain ⟨Q, hQ⟩ : ∃ Q : ByteArray, Q = ⟨(quoL s.data.toList).toArray⟩ := ⟨_, rfl⟩
  rw [← hQ] at HP ⊢
  clear hQ
  have hn0 : decide (n = 0) = false := decide_eq_false (by omega)
  have hn1 : ((n : Int) == 0) = false := beq_eq_false_iff_ne.2 (by omega)
  go_enter Tryz.func159, Tryz.ntmps159
  go_wp2_with fail
  go_quiet (fail)
  go_wp2_with (first
    | (go_at_call 184; refine (asks_q _).mono ?_; rintro e w' ⟨rfl, rfl⟩)
    | (go_at_call 185; refine (HP.out _).mono ?_; rintro e w1 ⟨rfl, b1⟩))
  exact bodyPost_ret (v := .tuple #[.string Q, .string ByteArray.empty, .int .i64 1, .int .i64 0]) (by simp [results, Tryz.results159, go_sem]) rfl ⟨rfl, (below_drawsR (Below.refl _ _) _).trans b1⟩
set_option maxHeartbeats 4000000 in
set_option maxRecDepth 20000 in
theorem fmt_q (bk : Nat) (s : ByteArray) (w : World) (hs : s.size ≤ 100000) (hbk : bk < w.heap.size)
    (c0 : w.cell? ⟨bk, 0, none⟩ = some (.int .i64 3)) (c1 : w.cell? ⟨bk, 1, none⟩ = some (.int .i64 0)) (c2 : w.cell? ⟨bk, 2, none⟩ = some (.string s)) :
    Calls Tryz.prog 133 #[.string ⟨#[37, 113]⟩, .slice (some ⟨bk, 0, none⟩) 1 1, .int .i64 2147483647] w fun e w' => e = .returned (.tuple #[.string ⟨(quoL s.data.toList).toArray⟩, .int .i64 1, .int .i64 0]) ∧ Below w.heap.size w w' := by
  have HN := Lib.hid (next_q bk 0 1 1 s w (by decide) hs c0 c1 c2)
  obtain ⟨Q, hQ⟩ : ∃ Q : ByteArray, Q = ⟨(quoL s.data.toList).toArray⟩ := ⟨_, rfl⟩
  have hQs : Q.size ≤ 400002 := by
    rw [hQ, Lib.size_eq]
    have := quoL_len s.data.toList
    rw [← Lib.size_eq] at this
    show (quoL s.data.toList).length ≤ _
    omega
  rw [← hQ] at HN ⊢
  clear hQ c0 c1 c2
  go_enter Tryz.func133, Tryz.ntmps133
  go_wp2_with (go_at_call 158; refine (bound_q _).mono ?_; rintro e w' ⟨rfl, rfl⟩)
  go_loopw [0, 9, 10] (fun f b t wr => (f = .string ⟨#[37, 113]⟩ ∧ b = .slice none 0 0 ∧ t = .int .i64 0 ∧ wr = w) ∨ (f = .string ⟨#[]⟩ ∧ t = .int .i64 1 ∧ BBufR wr w.heap.size b Q.data.toList ∧ Below w.heap.size w wr)) (fun _ _ t _ => 1 - (intOf t).toNat)
  case atStart => exact .inl ⟨rfl, rfl, rfl, rfl⟩
  case round =>
    rcases hrel with ⟨rfl, rfl, rfl, rfl⟩ | ⟨rfl, rfl, hb, hl⟩
    · go_wp2_with fail
      refine HN.out.mono ?_; rintro e w1 ⟨rfl, b1⟩
      have hsz := b1.size
      have B1 := Lib.hid b1
      have hfit : (Q.size : Int) ≤ 2147483647 := by omega
      clear b1
      go_wp2_with (at_builtin; refine at_appendR _ rfl _ _ rfl wr.heap.size _ [] rfl (BBufR.nil _ _) Q rfl (by show 0 + _ ≤ _; omega) hsz ?_; intro v' w' hb' hl')
      exact ⟨.inr ⟨rfl, rfl, hb', B1.out.trans hl'⟩, by decide⟩
    · have hcv := buf_stringR hb
      have HW := Lib.hid hl
      clear hb hl
      go_wp2_with fail
      go_ret3
      exact ⟨rfl, HW.out⟩
theorem tquoted_any (s : ByteArray) (w : World) (hs : s.size ≤ 100000) : Calls Tryz.prog 104 #[.string s] w fun e w' => e = .returned (.string ⟨(quoL s.data.toList).toArray⟩) ∧ Below w.heap.size w w' := by
  have b1 := b_alloc' w (.cells #[.int .i64 3, .int .i64 0, .string s] 181)
  have H := Lib.hid (fmt_q w.heap.size s (w.alloc (.cells #[.int .i64 3, .int .i64 0, .string s] 181)) hs (by rw [asize]; exact Nat.lt_succ_self _) (acell w _ _ _) (acell w _ _ _) (acell w _ _ _))
  have B1 := Lib.hid b1
  clear b1
  go_enter Tryz.func104, Tryz.ntmps104
  go_wp2_with fail
  refine H.out.mono ?_; rintro e w1 ⟨rfl, b2⟩
  have B2 := Lib.hid (thenBR B1.out b2)
  clear b2
  go_wp2_with fail
  go_ret
  exact ⟨rfl, B2.out⟩
end Go.Proofs.YtfpeecjafccfjaaGreatDoor
namespace Go.Proofs.YtfpeecjafccfjaaGreatDoor
open Go.RowKit
def kwA : Array Value := #[.string ⟨#[]⟩, .string ⟨#[110, 105, 108]⟩, .string ⟨#[116, 114, 117, 101]⟩, .string ⟨#[102, 97, 108, 115, 101]⟩, .string ⟨#[105, 110, 116]⟩, .string ⟨#[115, 116, 114]⟩, .string ⟨#[109, 97, 110, 121]⟩, .string ⟨#[110, 97, 109, 101]⟩, .string ⟨#[105, 110, 100, 101, 120]⟩, .string ⟨#[99, 97, 108, 108]⟩, .string ⟨#[109, 101, 116, 104, 111, 100]⟩, .string ⟨#[102, 117, 110, 99]⟩, .string ⟨#[98, 105, 110, 97, 114, 121]⟩, .string ⟨#[117, 110, 97, 114, 121]⟩, .string ⟨#[112, 97, 114, 101, 110]⟩, .string ⟨#[116, 97, 98, 108, 101]⟩, .string ⟨#[112, 111, 115]⟩, .string ⟨#[107, 101, 121]⟩, .string ⟨#[98, 108, 111, 99, 107]⟩, .string ⟨#[108, 111, 99, 97, 108]⟩, .string ⟨#[97, 115, 115, 105, 103, 110]⟩, .string ⟨#[100, 111, 45, 99, 97, 108, 108]⟩, .string ⟨#[100, 111]⟩, .string ⟨#[119, 104, 105, 108, 101]⟩, .string ⟨#[114, 101, 112, 101, 97, 116]⟩, .string ⟨#[105, 102]⟩, .string ⟨#[102, 111, 114]⟩, .string ⟨#[101, 97, 99, 104]⟩, .string ⟨#[108, 111, 99, 97, 108, 45, 102, 117, 110, 99]⟩, .string ⟨#[114, 101, 116, 117, 114, 110]⟩, .string ⟨#[98, 114, 101, 97, 107]⟩, .string ⟨#[103, 111, 116, 111]⟩, .string ⟨#[108, 97, 98, 101, 108]⟩]
def kwL : List ByteArray := [⟨#[]⟩, ⟨#[110, 105, 108]⟩, ⟨#[116, 114, 117, 101]⟩, ⟨#[102, 97, 108, 115, 101]⟩, ⟨#[105, 110, 116]⟩, ⟨#[115, 116, 114]⟩, ⟨#[109, 97, 110, 121]⟩, ⟨#[110, 97, 109, 101]⟩, ⟨#[105, 110, 100, 101, 120]⟩, ⟨#[99, 97, 108, 108]⟩, ⟨#[109, 101, 116, 104, 111, 100]⟩, ⟨#[102, 117, 110, 99]⟩, ⟨#[98, 105, 110, 97, 114, 121]⟩, ⟨#[117, 110, 97, 114, 121]⟩, ⟨#[112, 97, 114, 101, 110]⟩, ⟨#[116, 97, 98, 108, 101]⟩, ⟨#[112, 111, 115]⟩, ⟨#[107, 101, 121]⟩, ⟨#[98, 108, 111, 99, 107]⟩, ⟨#[108, 111, 99, 97, 108]⟩, ⟨#[97, 115, 115, 105, 103, 110]⟩, ⟨#[100, 111, 45, 99, 97, 108, 108]⟩, ⟨#[100, 111]⟩, ⟨#[119, 104, 105, 108, 101]⟩, ⟨#[114, 101, 112, 101, 97, 116]⟩, ⟨#[105, 102]⟩, ⟨#[102, 111, 114]⟩, ⟨#[101, 97, 99, 104]⟩, ⟨#[108, 111, 99, 97, 108, 45, 102, 117, 110, 99]⟩, ⟨#[114, 101, 116, 117, 114, 110]⟩, ⟨#[98, 114, 101, 97, 107]⟩, ⟨#[103, 111, 116, 111]⟩, ⟨#[108, 97, 98, 101, 108]⟩]
def wordK (k : Nat) : ByteArray := kwL.getD k ⟨#[]⟩
theorem kwA_is : kwA = (kwL.map Value.string).toArray := by kernel_rfl
theorem kwA_at {k : Nat} (h : k ≤ 32) : kwA[k]? = some (.string (wordK k)) := by
  rw [kwA_is, List.getElem?_toArray, List.getElem?_map]
  have hl : k < kwL.length := by show k < 33; omega
  unfold wordK
  rw [List.getD_eq_getElem?_getD, List.getElem?_eq_getElem hl]
  rfl
theorem kwL_len : kwL.all (fun s => decide (s.size ≤ 10)) = true := by decide +kernel
theorem wordK_len (k : Nat) : (wordK k).size ≤ 10 := by
  unfold wordK
  rw [List.getD_eq_getElem?_getD]
  cases h : kwL[k]? with
  | none => exact Nat.zero_le _
  | some s => exact of_decide_eq_true (List.all_eq_true.1 kwL_len s (List.mem_of_getElem? h))
set_option maxHeartbeats 2000000 in
set_option maxRecDepth 100000 in
theorem word_k (k : Nat) (hk : k ≤ 32) (w : World) : Calls Tryz.prog 59 #[.int .i64 (k : Int)] w fun e w' => e = .returned (.string (wordK k)) ∧ Below w.heap.size w w' := by
  go_enter Tryz.func59, Tryz.ntmps59
  go_upto_region 1 with (fail)
  refine wp_region_lit ?_
  refine wpList_build rfl 154 _ rfl (by kernel_rfl) ?_
  rename_i K hK
  generalize hb : (Tryz.prog.built 154 _).getD #[] = cs
  have hcs : cs = kwA := by rw [← hb]; kernel_rfl
  clear hb
  subst hcs
  refine Great.wpList_allocTo rfl _ rfl (.pointer (some ⟨w.heap.size, 0, none⟩)) (.cells (kwA.map fun _ => .string ⟨#[]⟩) 154) (by kernel_rfl) ?_
  refine wpList_store_row rfl 154 _ _ rfl w.heap.size kwA rfl rfl 154 _ (heap_alloc_new w _) (by kernel_rfl) (by kernel_rfl) (by kernel_rfl) ?_
  refine wpList_nil (hK _ _ ?_)
  generalize hW : (World.setRow _ w.heap.size kwA) = W
  have hblk : W.heap[w.heap.size]? = some (.cells kwA 154 (0, 0)) := by rw [← hW]; exact setRow_heap _ _ _ _ _ _ (heap_alloc_new w _)
  have hbel : Below w.heap.size w W := by
    rw [← hW]
    exact ((Below.refl _ _).alloc (Nat.le_refl _) _).trans ⟨rfl, rfl, rfl, by simp [World.setRow], fun k hk => setRow_other _ _ _ _ (by omega)⟩
  have hc : W.cell? ⟨w.heap.size, k, none⟩ = some (.string (wordK k)) := (cell_of_row W w.heap.size k _ 154 (0, 0) hblk).trans (kwA_at hk)
  have HBEL := Lib.hid hbel
  clear hW hblk hbel hK
  generalize kwA = kk at *
  go_wp2_with fail
  go_ret
  exact ⟨rfl, HBEL.out⟩
end Go.Proofs.YtfpeecjafccfjaaGreatDoor
namespace Go.Proofs.YtfpeecjafccfjaaGreatDoor
open Go.RowKit Go.Sort
def TabR (w : World) : Prop := Lib.TabIs Tryz.prog w "internal/strconv.uint64pow10" .u64 Lib.pow10Tab
theorem TabR.below {w w' : World} (h : TabR w) (hb : Below w.heap.size w w') : TabR w' := by
  have hgn : Tryz.prog.globalNamed "internal/strconv.uint64pow10" = some 2 := by kernel_rfl
  unfold TabR Lib.TabIs World.var? at h ⊢
  rw [hgn] at h ⊢
  simp only [Option.bind_some] at h ⊢
  have hlt : 2 < w.heap.size := by
    rcases Nat.lt_or_ge 2 w.heap.size with h' | h'
    · exact h'
    · rw [Array.getElem?_eq_none h'] at h; cases h
  rw [hb.block 2 hlt]
  exact h
theorem TabR.pos {w : World} (h : TabR w) : 2 < w.heap.size := by
  have hgn : Tryz.prog.globalNamed "internal/strconv.uint64pow10" = some 2 := by kernel_rfl
  unfold TabR Lib.TabIs World.var? at h
  rw [hgn] at h
  simp only [Option.bind_some] at h
  rcases Nat.lt_or_ge 2 w.heap.size with h' | h'
  · exact h'
  · rw [Array.getElem?_eq_none h'] at h; cases h
theorem TabR.belowB {w w' : World} {B : Nat} (h : TabR w) (hB : 2 < B) (hb : Below B w w') : TabR w' := by
  have hgn : Tryz.prog.globalNamed "internal/strconv.uint64pow10" = some 2 := by kernel_rfl
  unfold TabR Lib.TabIs World.var? at h ⊢
  rw [hgn] at h ⊢
  simp only [Option.bind_some] at h ⊢
  rw [hb.block 2 hB]
  exact h
theorem below_growR (w : World) (k : Nat) (os : Array Obj) : Below w.heap.size w (grow (w.drewN k) os) :=
  ⟨rfl, rfl, rfl, by simp [World.drewN], fun i hi => by rw [heap_grow_old (w.drewN k) os hi]; rfl⟩
def dig (n : Int) : ByteArray := ⟨(Lib.itoa n).toArray⟩
theorem dig_list (n : Int) : (dig n).data.toList = Lib.itoa n := rfl
theorem dig_len {n : Int} (h0 : -9223372036854775808 ≤ n) (h1 : n ≤ 9223372036854775807) : (dig n).size ≤ 21 := Lib.itoa_length_le n h0 h1
theorem itoa_any (n : Int) (w : World) (hT : TabR w) (h0 : -9223372036854775808 ≤ n) (h1 : n ≤ 9223372036854775807) : Calls Tryz.prog 60 #[.int .i64 n] w fun e w' => e = .returned (.string (dig n)) ∧ Below w.heap.size w w' :=
  (Tryz.strconv_Itoa n h0 h1 w hT).mono fun e w' h => ⟨h.1, by obtain ⟨k, os, e⟩ := h.2; rw [e]; exact below_growR w k os⟩
theorem fint_any (n : Int) (w : World) (hT : TabR w) (h0 : -9223372036854775808 ≤ n) (h1 : n ≤ 9223372036854775807) : Calls Tryz.prog 103 #[.int .i64 n, .int .i64 10] w fun e w' => e = .returned (.string (dig n)) ∧ Below w.heap.size w w' :=
  (Tryz.strconv_FormatInt_10 n h0 h1 w hT).mono fun e w' h => ⟨h.1, by obtain ⟨k, os, e⟩ := h.2; rw [e]; exact below_growR w k os⟩
def Bd (w : World) (B b : Nat) (l : List UInt8) : Prop := Lib.IsBuilder 74 5 B b (bcellsR l) w
theorem BuilderAt_below {w w' : World} {B b : Nat} {p : Value} {bs : List Value} (h : Lib.BuilderAt 74 5 B b p bs w) (hb : Below w.heap.size w w') : Lib.BuilderAt 74 5 B b p bs w' := by
  obtain ⟨hB, v, hbk, hown, hne⟩ := h
  refine ⟨hB, v, (hb.block b (Array.getElem?_eq_some_iff.1 hbk).1).trans hbk, ?_, hne⟩
  refine World.ownsRow.kept hown (row := none) ⟨hb.os, hb.tape, hb.output, hb.size, fun i hi _ => hb.block i hi⟩ ?_
  rcases hown.2 with ⟨rfl, _⟩ | ⟨g, _, _, rfl, _⟩
  · left; rfl
  · right; simp [Value.ownBlock]
theorem Bd.below {w w' : World} {B b : Nat} {l : List UInt8} (h : Bd w B b l) (hb : Below w.heap.size w w') : Bd w' B b l := by
  rcases h with h | h
  · exact .inl (BuilderAt_below h hb)
  · exact .inr (BuilderAt_below h hb)
theorem Bd.le {w : World} {B b : Nat} {l : List UInt8} (h : Bd w B b l) : B ≤ b ∧ b < w.heap.size := by
  rcases h with h | h
  · exact ⟨h.1, h.lt⟩
  · exact ⟨h.1, h.lt⟩
structure WrR (B b : Nat) (w w' : World) : Prop where
  below : Below B w w'
  others : Lib.OthersKept 5 (some b) w w'
theorem WrR.refl (B b : Nat) (w : World) : WrR B b w w := ⟨Below.refl _ _, Lib.OthersKept.refl _ _ _⟩
theorem WrR.trans {B b : Nat} {u v w : World} (h : WrR B b u v) (k : WrR B b v w) : WrR B b u w := ⟨h.below.trans k.below, h.others.trans k.others⟩
theorem WrR.of {B b : Nat} {w w' : World} (hB : B ≤ w.heap.size) (h : Below w.heap.size w w') : WrR B b w w' := ⟨h.mono hB, fun k _ hk _ _ => (h.block k (Array.getElem?_eq_some_iff.1 hk).1).trans hk⟩
theorem WrR.more {B b : Nat} {u w w' : World} (k : WrR B b u w) (hB : B ≤ w.heap.size) (h : Below w.heap.size w w') : WrR B b u w' := k.trans (WrR.of hB h)
theorem WrR.size {B b : Nat} {u w : World} (k : WrR B b u w) : u.heap.size ≤ w.heap.size := k.below.size
theorem bcells_lenR (l : List UInt8) : (bcellsR l).length = l.length := by simp [bcellsR]
theorem ws_any (B b : Nat) (l : List UInt8) (s : ByteArray) (w : World) (h : Bd w B b l) (hlen : l.length + s.size ≤ 140737488355328) : Calls Tryz.prog 58 #[.pointer (some ⟨b, 0, none⟩), .string s] w fun e w' => e = .returned (.tuple #[.int .i64 s.size, .nilIface]) ∧ Bd w' B b (l ++ s.data.toList) ∧ WrR B b w w' :=
  (wstring_any B b (bcellsR l) s w h (by rw [bcells_lenR]; exact hlen) (by have := h.le; omega)).mono fun e w' hh => ⟨hh.1, by
    have h2 := hh.2.1
    rw [bcells_strR, ← bcells_appR] at h2
    exact .inr h2, hh.2.2.1, hh.2.2.2⟩
theorem wb_any (B b : Nat) (l : List UInt8) (c : UInt8) (n : Int) (hc : n = (c.toNat : Int)) (w : World) (h : Bd w B b l) (hlen : l.length + 1 ≤ 140737488355328) : Calls Tryz.prog 62 #[.pointer (some ⟨b, 0, none⟩), .int .u8 n] w fun e w' => e = .returned .nilIface ∧ Bd w' B b (l ++ [c]) ∧ WrR B b w w' := by
  subst hc
  exact (wbyte_any B b (bcellsR l) (c.toNat : Int) w h (by rw [bcells_lenR]; exact hlen) (by have := h.le; omega)).mono fun e w' hh => ⟨hh.1, by
    have h2 := hh.2.1
    have : bcellsR l ++ [Value.int .u8 (c.toNat : Int)] = bcellsR (l ++ [c]) := by rw [bcells_appR]; rfl
    rw [this] at h2
    exact .inr h2, hh.2.2.1, hh.2.2.2⟩
def hasB (F m : Int) : Bool := bits .and .i64 F m != 0
def fldText (x : Nd) : List UInt8 :=
  (if hasB (fldK x.kind) 1 then 32 :: Lib.itoa x.op else []) ++ (if hasB (fldK x.kind) 2 then 32 :: Lib.itoa x.num else []) ++ (if hasB (fldK x.kind) 4 then 32 :: quoL x.s.data.toList else [])
def nmsText (l : List ByteArray) : List UInt8 := l.flatMap fun y => 32 :: y.data.toList
def hasP (F : Int) : Prop := (hasB F 1 = true ∧ hasB F 2 = false ∧ hasB F 4 = false) ∨ (hasB F 1 = false ∧ hasB F 2 = true ∧ hasB F 4 = false) ∨ (hasB F 1 = false ∧ hasB F 2 = false ∧ hasB F 4 = true) ∨ (hasB F 1 = false ∧ hasB F 2 = false ∧ hasB F 4 = false)
theorem has_all (k : Int) : hasP (fldK k) := by
  unfold fldK
  refine ite_prop hasP (.inl ?_) <| ite_prop hasP (.inr (.inl ?_)) <| ite_prop hasP (.inr (.inl ?_)) <| ite_prop hasP (.inr (.inr (.inr ?_))) <| ite_prop hasP (.inr (.inr (.inl ?_))) <| ite_prop hasP (.inr (.inr (.inl ?_))) (.inr (.inr (.inr ?_)))
  all_goals decide +kernel
theorem take_nms {l : List ByteArray} {k : Nat} {y : ByteArray} (h : l[k]? = some y) : nmsText (l.take (k + 1)) = nmsText (l.take k) ++ (32 :: y.data.toList) := by
  unfold nmsText
  rw [take_snoc' l k y h, List.flatMap_append, List.flatMap_cons, List.flatMap_nil, List.append_nil]
theorem add_list (y : ByteArray) : ((⟨#[32]⟩ : ByteArray) ++ y).data.toList = 32 :: y.data.toList := by
  rw [ByteArray.data_append, Array.toList_append]; rfl
structure NdW (x : Nd) : Prop where
  l0 : -9223372036854775808 ≤ x.line
  l1 : x.line ≤ 9223372036854775807
  o0 : -9223372036854775808 ≤ x.op
  o1 : x.op ≤ 9223372036854775807
  n0 : -9223372036854775808 ≤ x.num
  n1 : x.num ≤ 9223372036854775807
  s1 : x.s.size ≤ 100000
  nl : x.names.length ≤ 5000
  nm : ∀ y ∈ x.names, y.size ≤ 65536
  k0 : 1 ≤ x.kind
  k1 : x.kind ≤ 32
theorem nms_len (l : List ByteArray) (h : ∀ y ∈ l, y.size ≤ 65536) : (nmsText l).length ≤ l.length * 65537 := by
  unfold nmsText
  induction l with
  | nil => exact Nat.zero_le _
  | cons a t ih =>
    rw [List.flatMap_cons, List.length_append, List.length_cons, List.length_cons, ← Lib.size_eq]
    have := h a (List.mem_cons_self ..)
    have := ih (fun y hy => h y (List.mem_cons_of_mem _ hy))
    omega
theorem node_box {W : World} {k : Nat} {x : Nd} {nv kv : Value} (h : W.heap[k]? = some (.cells #[.int .i64 x.kind, .int .i64 x.line, .int .i64 x.op, .int .i64 x.num, .string x.s, nv, kv] 35 (0, 0))) : NodeAt W k 0 x nv kv := by
  have hc := fun j => cell_of_row W k j _ 35 (0, 0) h
  exact ⟨hc 0, hc 1, hc 2, hc 3, hc 4, hc 5, hc 6⟩
theorem box_wr {W W' : World} {B b k : Nat} {cs : Array Value} (h : W.heap[k]? = some (.cells cs 35 (0, 0))) (hw : WrR B b W W') (hk : k ≠ b) : W'.heap[k]? = some (.cells cs 35 (0, 0)) :=
  hw.others k _ h (fun e => hk (Option.some.inj e)) (fun c fz e => by injection e with _ e2 _; exact absurd e2 (by decide))
theorem box_below {W W' : World} {k : Nat} {cs : Array Value} (h : W.heap[k]? = some (.cells cs 35 (0, 0))) (hb : Below W.heap.size W W') : W'.heap[k]? = some (.cells cs 35 (0, 0)) :=
  (hb.block k (Array.getElem?_eq_some_iff.1 h).1).trans h
end Go.Proofs.YtfpeecjafccfjaaGreatDoor
namespace Go.Proofs.YtfpeecjafccfjaaGreatDoor
open Go.RowKit
set_option maxHeartbeats 4000000 in
set_option maxRecDepth 20000 in
theorem wf_op (x : Nd) (nv kv : Value) (b : Nat) (l : List UInt8) (w00 w : World) (hx : NdW x) (hnv : StrsR w00 nv x.names) (hkv : ∃ A n c, kv = .slice A n c) (h00 : Below w00.heap.size w00 w) (hbd : Bd w w00.heap.size b l) (hlen : l.length ≤ 140736000000000) (hT : TabR w00)
    (h1 : hasB (fldK x.kind) 1 = true) (h2 : hasB (fldK x.kind) 2 = false) (h4 : hasB (fldK x.kind) 4 = false) :
    Calls Tryz.prog 61 #[.pointer (some ⟨b, 0, none⟩), nodeV x nv kv] w fun e w' => e = .returned (.tuple #[]) ∧ Bd w' w00.heap.size b (l ++ (fldText x ++ nmsText x.names)) ∧ WrR w00.heap.size b w w' := by
  have HX := Lib.hid hx
  obtain ⟨B, hBe⟩ : ∃ B, B = w00.heap.size := ⟨_, rfl⟩
  obtain ⟨NA, nc, rfl, _, hna⟩ := hnv
  obtain ⟨KA, kn, kc, rfl⟩ := hkv
  rw [← hBe] at hna h00 hbd ⊢
  have HTB := Lib.hid (fun W (h : Below B w00 W) => hT.below (w' := W) (hBe ▸ h))
  have HNA := Lib.hid hna
  have H00 := Lib.hid h00
  clear hBe hna h00
  have hble := hbd.le
  have hfld : fldText x = 32 :: Lib.itoa x.op := by
    unfold fldText
    rw [h1, h2, h4]
    simp
  rw [hfld]
  obtain ⟨L, hL⟩ : ∃ L, L = l ++ (32 :: Lib.itoa x.op ++ nmsText x.names) := ⟨_, rfl⟩
  rw [← hL]
  have HLF := Lib.hid hL
  clear hfld hL
  obtain ⟨F, hF⟩ : ∃ F, F = fldK x.kind := ⟨_, rfl⟩
  have HFo := Lib.hid (fun W => hF ▸ fieldsOf_any x.kind W)
  rw [← hF] at h1 h2 h4
  have e1 : (bits .and .i64 F 1 != 0) = true := h1
  have e2 : (bits .and .i64 F 2 != 0) = false := h2
  have e4 : (bits .and .i64 F 4 != 0) = false := h4
  clear h1 h2 h4 hF hx hT
  have hw0 : WrR B b w (w.alloc (.cells #[.int .i64 x.kind, .int .i64 x.line, .int .i64 x.op, .int .i64 x.num, .string x.s, .slice NA x.names.length nc, .slice KA kn kc] 35)) := WrR.of (by omega) (b_alloc _ _)
  have HW0 := Lib.hid hw0
  have HBD0 := Lib.hid (hbd.below (b_alloc w (.cells #[.int .i64 x.kind, .int .i64 x.line, .int .i64 x.op, .int .i64 x.num, .string x.s, .slice NA x.names.length nc, .slice KA kn kc] 35)))
  have HBX0 := Lib.hid (heap_alloc_new w (.cells #[.int .i64 x.kind, .int .i64 x.line, .int .i64 x.op, .int .i64 x.num, .string x.s, .slice NA x.names.length nc, .slice KA kn kc] 35))
  have hsz0 : B ≤ (w.alloc (.cells #[.int .i64 x.kind, .int .i64 x.line, .int .i64 x.op, .int .i64 x.num, .string x.s, .slice NA x.names.length nc, .slice KA kn kc] 35)).heap.size := by rw [asize]; omega
  have HSZ0 := Lib.hid hsz0
  clear hw0 hbd hsz0
  unfold nodeV
  go_enter Tryz.func61, Tryz.ntmps61
  go_wp2_with (go_at_call 50; refine (HFo.out _).mono ?_; rintro e w' ⟨rfl, rfl⟩)
  refine (itoa_any x.op _ (HTB.out _ (H00.out.trans HW0.out.below)) HX.out.o0 HX.out.o1).mono ?_
  rintro e w1 ⟨rfl, b1⟩
  obtain ⟨S, hS⟩ : ∃ S, S = dig x.op := ⟨_, rfl⟩
  have hSl : S.data.toList = Lib.itoa x.op := by rw [hS]; rfl
  have hSs : S.size ≤ 400002 := by
    rw [hS]
    exact Nat.le_trans (dig_len HX.out.o0 HX.out.o1) (by decide)
  rw [← hS]
  clear hS
  have HSL := Lib.hid hSl
  have hsum : ((⟨#[32]⟩ : ByteArray) ++ S).size = 1 + S.size := by rw [ByteArray.size_append]; rfl
  have HC := Lib.hid (ws_any B b l ((⟨#[32]⟩ : ByteArray) ++ S) w1 (HBD0.out.below b1) (by rw [hsum]; omega))
  rw [add_list] at HC
  have hone : (⟨#[32]⟩ : ByteArray).size = 1 := rfl
  have HBX1 := Lib.hid (box_below HBX0.out b1)
  have HW1 := Lib.hid (HW0.out.more HSZ0.out b1)
  clear b1 hsum hSl
  go_wp2_with fail
  refine HC.out.mono ?_; rintro e w2 ⟨rfl, hb2, hw2⟩
  have hl1' : (l ++ (32 :: S.data.toList)).length ≤ 140736000500000 := by
    rw [List.length_append, List.length_cons, ← Lib.size_eq]; omega
  obtain ⟨l1, hl1e⟩ : ∃ l1, l1 = l ++ (32 :: S.data.toList) := ⟨_, rfl⟩
  rw [← hl1e] at hb2 hl1'
  have hl1f : l1 = l ++ (32 :: Lib.itoa x.op) := by rw [hl1e, HSL.out]
  have HL1 := Lib.hid hl1f
  have HBD := Lib.hid hb2
  have HWR := Lib.hid (HW1.out.trans hw2)
  obtain ⟨c0, c1, c2, c3, c4, c5, c6⟩ := node_box (box_wr HBX1.out hw2 (by omega))
  clear hl1e hl1f hb2 hw2 HC
  go_wp2_with fail
  clear c0 c1 c2 c3 c4 c5 c6
  have hl1 : l1.length ≤ 140737000000000 := by omega
  go_loopw [40] (fun i wr => ∃ k : Nat, k ≤ x.names.length ∧ i = .int .i64 (k : Int) ∧ Bd wr B b (l1 ++ nmsText (x.names.take k)) ∧ WrR B b w wr) (fun i _ => x.names.length - (intOf i).toNat)
  case atStart => exact ⟨0, Nat.zero_le _, rfl, by rw [List.take_zero]; show Bd _ B b (l1 ++ []); rw [List.append_nil]; exact HBD.out, HWR.out⟩
  case round =>
    clear HBD HWR
    obtain ⟨k, hk, rfl, hbd, hwr⟩ := hrel
    have HB := Lib.hid hbd
    have HW := Lib.hid hwr
    clear hbd hwr
    by_cases hlt : k < x.names.length
    · obtain ⟨y, hy⟩ : ∃ y, x.names[k]? = some y := ⟨x.names[k], List.getElem?_eq_getElem hlt⟩
      rcases HNA.out with h0 | ⟨b2, o2, rfl, hb2, hc2⟩
      · rw [h0] at hlt; exact absurd hlt (Nat.not_lt_zero _)
      have ck := ((H00.out.trans HW.out.below).cell (p := ⟨b2, o2 + k, none⟩) hb2).trans (hc2 k _ hy)
      have HTK := Lib.hid (take_nms hy)
      have hys := HX.out.nm y (List.mem_of_getElem? hy)
      have hln := nms_len (x.names.take k) (fun y hy => HX.out.nm y (List.mem_of_mem_take hy))
      have hnl := HX.out.nl
      obtain ⟨l2, hl2⟩ : ∃ l2, l2 = l1 ++ nmsText (x.names.take k) := ⟨_, rfl⟩
      have hll : l2.length ≤ 140737400000000 := by
        rw [hl2, List.length_append]
        rw [List.length_take] at hln
        have : min k x.names.length * 65537 ≤ 5000 * 65537 := Nat.mul_le_mul_right _ (by omega)
        omega
      rw [← hl2] at HB
      have HL2 := Lib.hid hl2
      have hsum : ((⟨#[32]⟩ : ByteArray) ++ y).size = 1 + y.size := by rw [ByteArray.size_append]; rfl
      have HC := Lib.hid (ws_any B b l2 ((⟨#[32]⟩ : ByteArray) ++ y) wr HB.out (by rw [hsum]; omega))
      rw [add_list] at HC
      have hone : (⟨#[32]⟩ : ByteArray).size = 1 := rfl
      clear hc2 hy hln hl2 hsum
      go_wp2_with fail
      refine HC.out.mono ?_; rintro e w3 ⟨rfl, hb3, hw3⟩
      have HB3 := Lib.hid hb3
      have HW3 := Lib.hid (HW.out.trans hw3)
      clear hb3 hw3
      go_wp2_with fail
      go_roundw
      case rel => exact ⟨k + 1, by omega, by go_num, by rw [HTK.out, ← List.append_assoc, ← HL2.out]; exact HB3.out, HW3.out⟩
      case measure => simp [intOf]; omega
    · have hall : x.names.take k = x.names := List.take_of_length_le (by omega)
      have hL : L = l1 ++ nmsText (x.names.take k) := by rw [hall, HL1.out, HLF.out, List.append_assoc]
      have HB4 : Hid (Bd wr B b L) := Lib.hid (by rw [hL]; exact HB.out)
      clear hall hL
      go_wp2_with fail
      go_end0
      exact ⟨rfl, HB4.out, HW.out⟩
end Go.Proofs.YtfpeecjafccfjaaGreatDoor
namespace Go.Proofs.YtfpeecjafccfjaaGreatDoor
open Go.RowKit
def rightK (T : List Nd) (r : Int) : Bool := rightT fieldsK koK soK T r
def okK (T : List Nd) (x : Nd) : Bool := nodeOk fieldsK koK soK T x
theorem okK_is (T : List Nd) (x : Nd) : okK T x = (decide (1 ≤ x.line) && fieldsK x && koK x.kind x.num (sortsL T x)) := rfl
theorem right_no {T : List Nd} {r : Int} (h : deepT T r = 0 ∨ 100 < deepT T r ∨ kindAt T r.toNat ≠ 18) : rightK T r = false := by
  rw [Bool.eq_false_iff]
  intro hh
  obtain ⟨h1, h2, h3, _⟩ := (right_split fieldsK koK soK).1 hh
  rcases h with h | h | h
  · exact h1 h
  · omega
  · exact h h3
theorem right_yes {T : List Nd} {r : Int} (h1 : deepT T r ≠ 0) (h2 : ¬ 100 < deepT T r) (h3 : kindAt T r.toNat = 18) : rightK T r = T.all (okK T) := by
  unfold rightK rightT
  rw [decide_eq_true h1, decide_eq_true (show deepT T r ≤ 100 by omega), decide_eq_true h3]
  rfl
def Szd (T : List Nd) : Prop := ∀ x ∈ T, x.names.length ≤ 140737488355328
theorem snd_kids {T : List Nd} {r : Nat} {d : Nat → Nat} {m : List Nat} (hs : Snd T r d m) {i : Nat} {x : Nd} (hx : T[i]? = some x) : (∀ k ∈ x.kids, 0 ≤ k ∧ k < (T.length : Int)) ∧ x.kids.length ≤ T.length := by
  have hi := (List.getElem?_eq_some_iff.1 hx).1
  have h1 : ∀ k ∈ x.kids, 0 ≤ k ∧ k < (T.length : Int) := fun k hk => by
    obtain ⟨a, b, _⟩ := hs.kid i (hs.mem hi) k (by rw [kids_of hx]; exact hk)
    exact ⟨a, b⟩
  refine ⟨h1, ?_⟩
  have hn := hs.kidsNodup hi
  rw [kids_of hx] at hn
  have h2 := nodup_le T.length (x.kids.map Int.toNat) (by
    rw [List.Nodup, List.pairwise_map]
    refine List.Pairwise.imp_of_mem ?_ hn
    intro a b ha hb hab e
    have := h1 a ha
    have := h1 b hb
    exact hab (by omega)) (fun j hj => by
    obtain ⟨k, hk, rfl⟩ := List.mem_map.1 hj
    have := h1 k hk
    omega)
  rw [List.length_map] at h2
  exact h2
set_option maxHeartbeats 4000000 in
set_option maxRecDepth 20000 in
theorem right_any (v : Value) (T : List Nd) (r : Int) (w : World) (h : TreeV w v T r) (hz : Szd T) : Calls Tryz.prog 12 #[v] w fun e w' => e = .returned (.bool (rightK T r)) ∧ Below w.heap.size w w' := by
  have HDP := Lib.hid (fun W (hW : TreeV W v T r) => deep_any v T r W hW)
  have HTV := Lib.hid h
  obtain ⟨nv, rfl, A, c, rfl, hc, hn⟩ := h
  have HN := Lib.hid hn
  have HZ := Lib.hid hz
  obtain ⟨D, hD⟩ : ∃ D, D = deepT T r := ⟨_, rfl⟩
  rw [← hD] at HDP
  have HD := Lib.hid hD
  obtain ⟨R, hR⟩ : ∃ R, R = rightK T r := ⟨_, rfl⟩
  rw [← hR]
  have HR := Lib.hid hR
  clear hR
  have hbx : ∀ W, Below (w.heap.size + 1) (w.alloc (.cells #[.slice A T.length c, .int .i64 r] 25)) W → W.cell? ⟨w.heap.size, 0, none⟩ = some (.slice A T.length c) ∧ W.cell? ⟨w.heap.size, 1, none⟩ = some (.int .i64 r) := fun W hW =>
    ⟨(hW.cell (p := ⟨w.heap.size, 0, none⟩) (Nat.lt_succ_self _)).trans (acell w _ _ _), (hW.cell (p := ⟨w.heap.size, 1, none⟩) (Nat.lt_succ_self _)).trans (acell w _ _ _)⟩
  have HBX := Lib.hid hbx
  have B0 := Lib.hid (b_alloc w (.cells #[.slice A T.length c, .int .i64 r] 25))
  clear hD hbx hn hz
  go_enter Tryz.func12, Tryz.ntmps12
  go_wp2_with fail
  refine (HDP.out _ (HTV.out.below B0.out)).mono ?_; rintro e w1 ⟨rfl, b1⟩
  rw [asize] at b1
  have BW1 := Lib.hid b1
  have B1 := Lib.hid (B0.out.trans (b1.mono (Nat.le_succ _)))
  have hsz1 := b1.size
  rw [asize] at hsz1
  obtain ⟨x0, x1⟩ := HBX.out _ b1
  clear b1 HDP
  by_cases h0 : D = 0
  · have hr0 : R = false := HR.out.trans <| right_no (.inl (by rw [← HD.out]; exact h0))
    subst hr0
    subst h0
    go_wp2_with fail
    go_ret
    exact ⟨rfl, B1.out⟩
  · have g0 : ((D : Int) == 0) = false := beq_eq_false_iff_ne.2 (by omega)
    by_cases h1 : 100 < D
    · have hr0 : R = false := HR.out.trans <| right_no (.inr (.inl (by rw [← HD.out]; exact h1)))
      subst hr0
      have g1 : decide ((100 : Int) < (D : Int)) = true := decide_eq_true (by omega)
      go_wp2_with fail
      go_ret
      exact ⟨rfl, B1.out⟩
    · have g1 : decide ((100 : Int) < (D : Int)) = false := decide_eq_false (by omega)
      obtain ⟨hN, hr0, hr1, d, m, hs⟩ := deep_snd (T := T) (r := r) (by rw [← HD.out]; exact h0)
      rcases HN.out with hT | ⟨b, o, rfl, hb, hx⟩
      · rw [hT] at hr1; simp at hr1; omega
      obtain ⟨q, rfl⟩ : ∃ q : Nat, r = (q : Int) := ⟨r.toNat, by omega⟩
      have hq : q < T.length := by omega
      have hxq := List.getElem?_eq_getElem hq
      obtain ⟨nvq, kvq, hna, _, _⟩ := hx q _ hxq
      have ck := (B1.out.cell (p := ⟨b, o + q * 7, none⟩) hb).trans hna.c0
      obtain ⟨kd, hkd⟩ : ∃ kd, kd = T[q].kind := ⟨_, rfl⟩
      rw [← hkd] at ck
      have hkk : kindAt T (q : Int).toNat = kd := by rw [Int.toNat_natCast, kind_of hxq, hkd]
      have HX := Lib.hid hx
      have HSn := Lib.hid hs
      clear hna hx hs hxq hkd
      by_cases h18 : kd = 18
      · have hry : R = T.all (okK T) := HR.out.trans <| right_yes (T := T) (r := (q : Int)) (by rw [← HD.out]; exact h0) (by rw [← HD.out]; exact h1) (by rw [hkk, h18])
        have HAL := Lib.hid hry
        subst h18
        clear hkk hry HR
        go_wp2_with fail
        go_loopw [27] (fun i wr => ∃ k : Nat, k ≤ T.length ∧ i = .int .i64 (k : Int) ∧ (T.drop k).all (okK T) = R ∧ Below (w.heap.size + 1) (w.alloc (.cells #[.slice (some ⟨b, o, none⟩) T.length c, .int .i64 (q : Int)] 25)) wr) (fun i _ => T.length - (intOf i).toNat)
        case atStart => exact ⟨0, Nat.zero_le _, rfl, HAL.out.symm, BW1.out⟩
        case round =>
          obtain ⟨k, hk, rfl, ha, hbr⟩ := hrel
          have HA := Lib.hid ha
          have HBR := Lib.hid hbr
          have BR := Lib.hid (B0.out.trans (hbr.mono (Nat.le_succ _)))
          have hszr := hbr.size
          rw [asize] at hszr
          clear ha hbr x0 x1 ck
          by_cases hlt : k < T.length
          · obtain ⟨x, hxk⟩ : ∃ x, T[k]? = some x := ⟨T[k], List.getElem?_eq_getElem hlt⟩
            obtain ⟨nvk, kvk, hna, hst, hnu⟩ := HX.out k x hxk
            obtain ⟨c0, c1, c2, c3, c4, c5, c6⟩ := hna.below BR.out hb
            have HST := Lib.hid (all_drop' (p := okK T) hxk)
            have hxz := HZ.out x (List.mem_of_getElem? hxk)
            have hkid := snd_kids HSn.out hxk
            have HSS := Lib.hid hst
            have HNU := Lib.hid hnu
            obtain ⟨SA, sc, rfl, _, _⟩ := hst
            obtain ⟨UA, uc, rfl, _, _⟩ := hnu
            clear hxk hna
            have HWN := Lib.hid (b_alloc wr (.cells #[.int .i64 x.kind, .int .i64 x.line, .int .i64 x.op, .int .i64 x.num, .string x.s, .slice SA x.names.length sc, .slice UA x.kids.length uc] 35))
            have HFL := Lib.hid (fields_any x _ (.slice UA x.kids.length uc) (wr.alloc (.cells #[.int .i64 x.kind, .int .i64 x.line, .int .i64 x.op, .int .i64 x.num, .string x.s, .slice SA x.names.length sc, .slice UA x.kids.length uc] 35)) ((HSS.out.below BR.out).below HWN.out) ⟨_, _, _, rfl⟩ hxz)
            have HBQ := Lib.hid (fun W (h : Below (wr.heap.size + 1) (wr.alloc (.cells #[.int .i64 x.kind, .int .i64 x.line, .int .i64 x.op, .int .i64 x.num, .string x.s, .slice SA x.names.length sc, .slice UA x.kids.length uc] 35)) W) => box_cells (Nat.lt_succ_self _) h)
            have HKD := Lib.hid (fun W hA hB hC => kids_any x (.slice SA x.names.length sc) (.slice UA x.kids.length uc) (.slice (some ⟨b, o, none⟩) T.length c) T W hA hB hC hkid.1 (by have := hkid.2; omega))
            have HOK := Lib.hid (okK_is T x)
            obtain ⟨FL, hFL⟩ : ∃ FL, FL = fieldsK x := ⟨_, rfl⟩
            obtain ⟨KD, hKD⟩ : ∃ KD, KD = koK x.kind x.num (sortsL T x) := ⟨_, rfl⟩
            rw [← hFL] at HFL HOK
            rw [← hKD] at HKD HOK
            obtain ⟨x0, x1⟩ := HBX.out _ (HBR.out.trans (HWN.out.mono hszr))
            unfold nodeV at HFL HKD
            clear hFL hKD hkid hxz
            by_cases hl1 : x.line < 1
            · go_wp2_with fail
              go_ret
              exact ⟨ret_boolR (by rw [← HA.out, HST.out, HOK.out, decide_eq_false (by omega)]; rfl), BR.out.trans (HWN.out.mono BR.out.size)⟩
            · have gl : decide (1 ≤ x.line) = true := decide_eq_true (by omega)
              rw [gl, Bool.true_and] at HOK
              go_wp2_with fail
              refine HFL.out.mono ?_; rintro e w3 ⟨rfl, b3⟩
              have B3 := Lib.hid ((BR.out.trans (HWN.out.mono BR.out.size)).trans (b3.mono (by rw [asize]; have := BR.out.size; omega)))
              have BB3 := Lib.hid ((HBR.out.trans (HWN.out.mono hszr)).trans (b3.mono (by rw [asize]; omega)))
              have HQ3 := Lib.hid (HBQ.out _ (by rw [asize] at b3; exact b3))
              clear b3 x0 x1 c0 c1 c2 c3 c4 c5 c6
              cases FL with
              | false =>
                go_wp2_with fail
                go_ret
                exact ⟨ret_boolR (by rw [← HA.out, HST.out, HOK.out]; rfl), B3.out⟩
              | true =>
                rw [Bool.true_and] at HOK
                obtain ⟨c0, c1, c2, c3, c4, c5, c6⟩ := HQ3.out
                obtain ⟨x0, x1⟩ := HBX.out _ BB3.out
                go_wp2_with fail
                refine (HKD.out _ (HSS.out.below B3.out) (HNU.out.below B3.out) ?_).mono ?_
                · exact Nodes.below (W := w) ⟨some ⟨b, o, none⟩, c, rfl, hc, .inr ⟨b, o, rfl, hb, HX.out⟩⟩ B3.out
                rintro e w4 ⟨rfl, b4⟩
                have B4 := Lib.hid (thenB'R B3.out (Nat.le_refl _) b4)
                have BB4 := Lib.hid (BB3.out.trans (b4.mono (by have := BB3.out.size; rw [asize] at this; exact this)))
                clear b4 x0 x1 c0 c1 c2 c3 c4 c5 c6
                cases KD with
                | false =>
                  go_wp2_with fail
                  go_ret
                  exact ⟨ret_boolR (by rw [← HA.out, HST.out, HOK.out]; rfl), B4.out⟩
                | true =>
                  go_wp2_with fail
                  go_roundw
                  case rel => exact ⟨k + 1, by omega, by go_num, by rw [← HA.out, HST.out, HOK.out, Bool.true_and], BB4.out⟩
                  case measure => simp [intOf]; omega
          · have hd : R = true := by rw [← HA.out, List.drop_of_length_le (by omega)]; rfl
            subst hd
            go_wp2_with fail
            go_ret
            exact ⟨rfl, BR.out⟩
      · have hr0 : R = false := HR.out.trans <| right_no (.inr (.inr (by rw [hkk]; exact h18)))
        subst hr0
        have g18 : (kd != 18) = true := bne_iff_ne.2 h18
        clear HR hkk
        go_wp2_with fail
        go_ret
        exact ⟨rfl, B1.out⟩
end Go.Proofs.YtfpeecjafccfjaaGreatDoor
namespace Go.Proofs.YtfpeecjafccfjaaGreatDoor
open Go.RowKit
set_option maxHeartbeats 4000000 in
set_option maxRecDepth 20000 in
theorem wf_num (x : Nd) (nv kv : Value) (b : Nat) (l : List UInt8) (w00 w : World) (hx : NdW x) (hnv : StrsR w00 nv x.names) (hkv : ∃ A n c, kv = .slice A n c) (h00 : Below w00.heap.size w00 w) (hbd : Bd w w00.heap.size b l) (hlen : l.length ≤ 140736000000000) (hT : TabR w00)
    (h1 : hasB (fldK x.kind) 1 = false) (h2 : hasB (fldK x.kind) 2 = true) (h4 : hasB (fldK x.kind) 4 = false) :
    Calls Tryz.prog 61 #[.pointer (some ⟨b, 0, none⟩), nodeV x nv kv] w fun e w' => e = .returned (.tuple #[]) ∧ Bd w' w00.heap.size b (l ++ (fldText x ++ nmsText x.names)) ∧ WrR w00.heap.size b w w' := by
  have HX := Lib.hid hx
  obtain ⟨B, hBe⟩ : ∃ B, B = w00.heap.size := ⟨_, rfl⟩
  obtain ⟨NA, nc, rfl, _, hna⟩ := hnv
  obtain ⟨KA, kn, kc, rfl⟩ := hkv
  rw [← hBe] at hna h00 hbd ⊢
  have HTB := Lib.hid (fun W (h : Below B w00 W) => hT.below (w' := W) (hBe ▸ h))
  have HNA := Lib.hid hna
  have H00 := Lib.hid h00
  clear hBe hna h00
  have hble := hbd.le
  have hfld : fldText x = 32 :: Lib.itoa x.num := by
    unfold fldText
    rw [h1, h2, h4]
    simp
  rw [hfld]
  obtain ⟨L, hL⟩ : ∃ L, L = l ++ (32 :: Lib.itoa x.num ++ nmsText x.names) := ⟨_, rfl⟩
  rw [← hL]
  have HLF := Lib.hid hL
  clear hfld hL
  obtain ⟨F, hF⟩ : ∃ F, F = fldK x.kind := ⟨_, rfl⟩
  have HFo := Lib.hid (fun W => hF ▸ fieldsOf_any x.kind W)
  rw [← hF] at h1 h2 h4
  have e1 : (bits .and .i64 F 1 != 0) = false := h1
  have e2 : (bits .and .i64 F 2 != 0) = true := h2
  have e4 : (bits .and .i64 F 4 != 0) = false := h4
  clear h1 h2 h4 hF hx hT
  have hw0 : WrR B b w (w.alloc (.cells #[.int .i64 x.kind, .int .i64 x.line, .int .i64 x.op, .int .i64 x.num, .string x.s, .slice NA x.names.length nc, .slice KA kn kc] 35)) := WrR.of (by omega) (b_alloc _ _)
  have HW0 := Lib.hid hw0
  have HBD0 := Lib.hid (hbd.below (b_alloc w (.cells #[.int .i64 x.kind, .int .i64 x.line, .int .i64 x.op, .int .i64 x.num, .string x.s, .slice NA x.names.length nc, .slice KA kn kc] 35)))
  have HBX0 := Lib.hid (heap_alloc_new w (.cells #[.int .i64 x.kind, .int .i64 x.line, .int .i64 x.op, .int .i64 x.num, .string x.s, .slice NA x.names.length nc, .slice KA kn kc] 35))
  have hsz0 : B ≤ (w.alloc (.cells #[.int .i64 x.kind, .int .i64 x.line, .int .i64 x.op, .int .i64 x.num, .string x.s, .slice NA x.names.length nc, .slice KA kn kc] 35)).heap.size := by rw [asize]; omega
  have HSZ0 := Lib.hid hsz0
  clear hw0 hbd hsz0
  unfold nodeV
  go_enter Tryz.func61, Tryz.ntmps61
  go_wp2_with (go_at_call 50; refine (HFo.out _).mono ?_; rintro e w' ⟨rfl, rfl⟩)
  refine (fint_any x.num _ (HTB.out _ (H00.out.trans HW0.out.below)) HX.out.n0 HX.out.n1).mono ?_
  rintro e w1 ⟨rfl, b1⟩
  obtain ⟨S, hS⟩ : ∃ S, S = dig x.num := ⟨_, rfl⟩
  have hSl : S.data.toList = Lib.itoa x.num := by rw [hS]; rfl
  have hSs : S.size ≤ 400002 := by
    rw [hS]
    exact Nat.le_trans (dig_len HX.out.n0 HX.out.n1) (by decide)
  rw [← hS]
  clear hS
  have HSL := Lib.hid hSl
  have hsum : ((⟨#[32]⟩ : ByteArray) ++ S).size = 1 + S.size := by rw [ByteArray.size_append]; rfl
  have HC := Lib.hid (ws_any B b l ((⟨#[32]⟩ : ByteArray) ++ S) w1 (HBD0.out.below b1) (by rw [hsum]; omega))
  rw [add_list] at HC
  have hone : (⟨#[32]⟩ : ByteArray).size = 1 := rfl
  have HBX1 := Lib.hid (box_below HBX0.out b1)
  have HW1 := Lib.hid (HW0.out.more HSZ0.out b1)
  clear b1 hsum hSl
  go_wp2_with fail
  refine HC.out.mono ?_; rintro e w2 ⟨rfl, hb2, hw2⟩
  have hl1' : (l ++ (32 :: S.data.toList)).length ≤ 140736000500000 := by
    rw [List.length_append, List.length_cons, ← Lib.size_eq]; omega
  obtain ⟨l1, hl1e⟩ : ∃ l1, l1 = l ++ (32 :: S.data.toList) := ⟨_, rfl⟩
  rw [← hl1e] at hb2 hl1'
  have hl1f : l1 = l ++ (32 :: Lib.itoa x.num) := by rw [hl1e, HSL.out]
  have HL1 := Lib.hid hl1f
  have HBD := Lib.hid hb2
  have HWR := Lib.hid (HW1.out.trans hw2)
  obtain ⟨c0, c1, c2, c3, c4, c5, c6⟩ := node_box (box_wr HBX1.out hw2 (by omega))
  clear hl1e hl1f hb2 hw2 HC
  go_wp2_with fail
  clear c0 c1 c2 c3 c4 c5 c6
  have hl1 : l1.length ≤ 140737000000000 := by omega
  go_loopw [40] (fun i wr => ∃ k : Nat, k ≤ x.names.length ∧ i = .int .i64 (k : Int) ∧ Bd wr B b (l1 ++ nmsText (x.names.take k)) ∧ WrR B b w wr) (fun i _ => x.names.length - (intOf i).toNat)
  case atStart => exact ⟨0, Nat.zero_le _, rfl, by rw [List.take_zero]; show Bd _ B b (l1 ++ []); rw [List.append_nil]; exact HBD.out, HWR.out⟩
  case round =>
    clear HBD HWR
    obtain ⟨k, hk, rfl, hbd, hwr⟩ := hrel
    have HB := Lib.hid hbd
    have HW := Lib.hid hwr
    clear hbd hwr
    by_cases hlt : k < x.names.length
    · obtain ⟨y, hy⟩ : ∃ y, x.names[k]? = some y := ⟨x.names[k], List.getElem?_eq_getElem hlt⟩
      rcases HNA.out with h0 | ⟨b2, o2, rfl, hb2, hc2⟩
      · rw [h0] at hlt; exact absurd hlt (Nat.not_lt_zero _)
      have ck := ((H00.out.trans HW.out.below).cell (p := ⟨b2, o2 + k, none⟩) hb2).trans (hc2 k _ hy)
      have HTK := Lib.hid (take_nms hy)
      have hys := HX.out.nm y (List.mem_of_getElem? hy)
      have hln := nms_len (x.names.take k) (fun y hy => HX.out.nm y (List.mem_of_mem_take hy))
      have hnl := HX.out.nl
      obtain ⟨l2, hl2⟩ : ∃ l2, l2 = l1 ++ nmsText (x.names.take k) := ⟨_, rfl⟩
      have hll : l2.length ≤ 140737400000000 := by
        rw [hl2, List.length_append]
        rw [List.length_take] at hln
        have : min k x.names.length * 65537 ≤ 5000 * 65537 := Nat.mul_le_mul_right _ (by omega)
        omega
      rw [← hl2] at HB
      have HL2 := Lib.hid hl2
      have hsum : ((⟨#[32]⟩ : ByteArray) ++ y).size = 1 + y.size := by rw [ByteArray.size_append]; rfl
      have HC := Lib.hid (ws_any B b l2 ((⟨#[32]⟩ : ByteArray) ++ y) wr HB.out (by rw [hsum]; omega))
      rw [add_list] at HC
      have hone : (⟨#[32]⟩ : ByteArray).size = 1 := rfl
      clear hc2 hy hln hl2 hsum
      go_wp2_with fail
      refine HC.out.mono ?_; rintro e w3 ⟨rfl, hb3, hw3⟩
      have HB3 := Lib.hid hb3
      have HW3 := Lib.hid (HW.out.trans hw3)
      clear hb3 hw3
      go_wp2_with fail
      go_roundw
      case rel => exact ⟨k + 1, by omega, by go_num, by rw [HTK.out, ← List.append_assoc, ← HL2.out]; exact HB3.out, HW3.out⟩
      case measure => simp [intOf]; omega
    · have hall : x.names.take k = x.names := List.take_of_length_le (by omega)
      have hL : L = l1 ++ nmsText (x.names.take k) := by rw [hall, HL1.out, HLF.out, List.append_assoc]
      have HB4 : Hid (Bd wr B b L) := Lib.hid (by rw [hL]; exact HB.out)
      clear hall hL
      go_wp2_with fail
      go_end0
      exact ⟨rfl, HB4.out, HW.out⟩
end Go.Proofs.YtfpeecjafccfjaaGreatDoor
namespace Go.Proofs.YtfpeecjafccfjaaGreatDoor
open Go.RowKit
set_option maxHeartbeats 4000000 in
set_option maxRecDepth 20000 in
theorem wf_s (x : Nd) (nv kv : Value) (b : Nat) (l : List UInt8) (w00 w : World) (hx : NdW x) (hnv : StrsR w00 nv x.names) (hkv : ∃ A n c, kv = .slice A n c) (h00 : Below w00.heap.size w00 w) (hbd : Bd w w00.heap.size b l) (hlen : l.length ≤ 140736000000000) (hT : TabR w00)
    (h1 : hasB (fldK x.kind) 1 = false) (h2 : hasB (fldK x.kind) 2 = false) (h4 : hasB (fldK x.kind) 4 = true) :
    Calls Tryz.prog 61 #[.pointer (some ⟨b, 0, none⟩), nodeV x nv kv] w fun e w' => e = .returned (.tuple #[]) ∧ Bd w' w00.heap.size b (l ++ (fldText x ++ nmsText x.names)) ∧ WrR w00.heap.size b w w' := by
  have HX := Lib.hid hx
  obtain ⟨B, hBe⟩ : ∃ B, B = w00.heap.size := ⟨_, rfl⟩
  obtain ⟨NA, nc, rfl, _, hna⟩ := hnv
  obtain ⟨KA, kn, kc, rfl⟩ := hkv
  rw [← hBe] at hna h00 hbd ⊢
  have HTB := Lib.hid (fun W (h : Below B w00 W) => hT.below (w' := W) (hBe ▸ h))
  have HNA := Lib.hid hna
  have H00 := Lib.hid h00
  clear hBe hna h00
  have hble := hbd.le
  have hfld : fldText x = 32 :: quoL x.s.data.toList := by
    unfold fldText
    rw [h1, h2, h4]
    simp
  rw [hfld]
  obtain ⟨L, hL⟩ : ∃ L, L = l ++ (32 :: quoL x.s.data.toList ++ nmsText x.names) := ⟨_, rfl⟩
  rw [← hL]
  have HLF := Lib.hid hL
  clear hfld hL
  obtain ⟨F, hF⟩ : ∃ F, F = fldK x.kind := ⟨_, rfl⟩
  have HFo := Lib.hid (fun W => hF ▸ fieldsOf_any x.kind W)
  rw [← hF] at h1 h2 h4
  have e1 : (bits .and .i64 F 1 != 0) = false := h1
  have e2 : (bits .and .i64 F 2 != 0) = false := h2
  have e4 : (bits .and .i64 F 4 != 0) = true := h4
  clear h1 h2 h4 hF hx hT
  have hw0 : WrR B b w (w.alloc (.cells #[.int .i64 x.kind, .int .i64 x.line, .int .i64 x.op, .int .i64 x.num, .string x.s, .slice NA x.names.length nc, .slice KA kn kc] 35)) := WrR.of (by omega) (b_alloc _ _)
  have HW0 := Lib.hid hw0
  have HBD0 := Lib.hid (hbd.below (b_alloc w (.cells #[.int .i64 x.kind, .int .i64 x.line, .int .i64 x.op, .int .i64 x.num, .string x.s, .slice NA x.names.length nc, .slice KA kn kc] 35)))
  have HBX0 := Lib.hid (heap_alloc_new w (.cells #[.int .i64 x.kind, .int .i64 x.line, .int .i64 x.op, .int .i64 x.num, .string x.s, .slice NA x.names.length nc, .slice KA kn kc] 35))
  have hsz0 : B ≤ (w.alloc (.cells #[.int .i64 x.kind, .int .i64 x.line, .int .i64 x.op, .int .i64 x.num, .string x.s, .slice NA x.names.length nc, .slice KA kn kc] 35)).heap.size := by rw [asize]; omega
  have HSZ0 := Lib.hid hsz0
  clear hw0 hbd hsz0
  unfold nodeV
  go_enter Tryz.func61, Tryz.ntmps61
  go_wp2_with (go_at_call 50; refine (HFo.out _).mono ?_; rintro e w' ⟨rfl, rfl⟩)
  refine (tquoted_any x.s _ HX.out.s1).mono ?_
  rintro e w1 ⟨rfl, b1⟩
  obtain ⟨S, hS⟩ : ∃ S : ByteArray, S = ⟨(quoL x.s.data.toList).toArray⟩ := ⟨_, rfl⟩
  have hSl : S.data.toList = quoL x.s.data.toList := by rw [hS]
  have hSs : S.size ≤ 400002 := by
    rw [hS, Lib.size_eq]
    have := quoL_len x.s.data.toList
    rw [← Lib.size_eq] at this
    have := HX.out.s1
    show (quoL x.s.data.toList).length ≤ _
    omega
  rw [← hS]
  clear hS
  have HSL := Lib.hid hSl
  have hsum : ((⟨#[32]⟩ : ByteArray) ++ S).size = 1 + S.size := by rw [ByteArray.size_append]; rfl
  have HC := Lib.hid (ws_any B b l ((⟨#[32]⟩ : ByteArray) ++ S) w1 (HBD0.out.below b1) (by rw [hsum]; omega))
  rw [add_list] at HC
  have hone : (⟨#[32]⟩ : ByteArray).size = 1 := rfl
  have HBX1 := Lib.hid (box_below HBX0.out b1)
  have HW1 := Lib.hid (HW0.out.more HSZ0.out b1)
  clear b1 hsum hSl
  go_wp2_with fail
  refine HC.out.mono ?_; rintro e w2 ⟨rfl, hb2, hw2⟩
  have hl1' : (l ++ (32 :: S.data.toList)).length ≤ 140736000500000 := by
    rw [List.length_append, List.length_cons, ← Lib.size_eq]; omega
  obtain ⟨l1, hl1e⟩ : ∃ l1, l1 = l ++ (32 :: S.data.toList) := ⟨_, rfl⟩
  rw [← hl1e] at hb2 hl1'
  have hl1f : l1 = l ++ (32 :: quoL x.s.data.toList) := by rw [hl1e, HSL.out]
  have HL1 := Lib.hid hl1f
  have HBD := Lib.hid hb2
  have HWR := Lib.hid (HW1.out.trans hw2)
  obtain ⟨c0, c1, c2, c3, c4, c5, c6⟩ := node_box (box_wr HBX1.out hw2 (by omega))
  clear hl1e hl1f hb2 hw2 HC
  go_wp2_with fail
  clear c0 c1 c2 c3 c4 c5 c6
  have hl1 : l1.length ≤ 140737000000000 := by omega
  go_loopw [40] (fun i wr => ∃ k : Nat, k ≤ x.names.length ∧ i = .int .i64 (k : Int) ∧ Bd wr B b (l1 ++ nmsText (x.names.take k)) ∧ WrR B b w wr) (fun i _ => x.names.length - (intOf i).toNat)
  case atStart => exact ⟨0, Nat.zero_le _, rfl, by rw [List.take_zero]; show Bd _ B b (l1 ++ []); rw [List.append_nil]; exact HBD.out, HWR.out⟩
  case round =>
    clear HBD HWR
    obtain ⟨k, hk, rfl, hbd, hwr⟩ := hrel
    have HB := Lib.hid hbd
    have HW := Lib.hid hwr
    clear hbd hwr
    by_cases hlt : k < x.names.length
    · obtain ⟨y, hy⟩ : ∃ y, x.names[k]? = some y := ⟨x.names[k], List.getElem?_eq_getElem hlt⟩
      rcases HNA.out with h0 | ⟨b2, o2, rfl, hb2, hc2⟩
      · rw [h0] at hlt; exact absurd hlt (Nat.not_lt_zero _)
      have ck := ((H00.out.trans HW.out.below).cell (p := ⟨b2, o2 + k, none⟩) hb2).trans (hc2 k _ hy)
      have HTK := Lib.hid (take_nms hy)
      have hys := HX.out.nm y (List.mem_of_getElem? hy)
      have hln := nms_len (x.names.take k) (fun y hy => HX.out.nm y (List.mem_of_mem_take hy))
      have hnl := HX.out.nl
      obtain ⟨l2, hl2⟩ : ∃ l2, l2 = l1 ++ nmsText (x.names.take k) := ⟨_, rfl⟩
      have hll : l2.length ≤ 140737400000000 := by
        rw [hl2, List.length_append]
        rw [List.length_take] at hln
        have : min k x.names.length * 65537 ≤ 5000 * 65537 := Nat.mul_le_mul_right _ (by omega)
        omega
      rw [← hl2] at HB
      have HL2 := Lib.hid hl2
      have hsum : ((⟨#[32]⟩ : ByteArray) ++ y).size = 1 + y.size := by rw [ByteArray.size_append]; rfl
      have HC := Lib.hid (ws_any B b l2 ((⟨#[32]⟩ : ByteArray) ++ y) wr HB.out (by rw [hsum]; omega))
      rw [add_list] at HC
      have hone : (⟨#[32]⟩ : ByteArray).size = 1 := rfl
      clear hc2 hy hln hl2 hsum
      go_wp2_with fail
      refine HC.out.mono ?_; rintro e w3 ⟨rfl, hb3, hw3⟩
      have HB3 := Lib.hid hb3
      have HW3 := Lib.hid (HW.out.trans hw3)
      clear hb3 hw3
      go_wp2_with fail
      go_roundw
      case rel => exact ⟨k + 1, by omega, by go_num, by rw [HTK.out, ← List.append_assoc, ← HL2.out]; exact HB3.out, HW3.out⟩
      case measure => simp [intOf]; omega
    · have hall : x.names.take k = x.names := List.take_of_length_le (by omega)
      have hL : L = l1 ++ nmsText (x.names.take k) := by rw [hall, HL1.out, HLF.out, List.append_assoc]
      have HB4 : Hid (Bd wr B b L) := Lib.hid (by rw [hL]; exact HB.out)
      clear hall hL
      go_wp2_with fail
      go_end0
      exact ⟨rfl, HB4.out, HW.out⟩
end Go.Proofs.YtfpeecjafccfjaaGreatDoor
namespace Go.Proofs.YtfpeecjafccfjaaGreatDoor
open Go.RowKit
set_option maxHeartbeats 4000000 in
set_option maxRecDepth 20000 in
theorem wf_none (x : Nd) (nv kv : Value) (b : Nat) (l : List UInt8) (w00 w : World) (hx : NdW x) (hnv : StrsR w00 nv x.names) (hkv : ∃ A n c, kv = .slice A n c) (h00 : Below w00.heap.size w00 w) (hbd : Bd w w00.heap.size b l) (hlen : l.length ≤ 140736000000000) (hT : TabR w00)
    (h1 : hasB (fldK x.kind) 1 = false) (h2 : hasB (fldK x.kind) 2 = false) (h4 : hasB (fldK x.kind) 4 = false) :
    Calls Tryz.prog 61 #[.pointer (some ⟨b, 0, none⟩), nodeV x nv kv] w fun e w' => e = .returned (.tuple #[]) ∧ Bd w' w00.heap.size b (l ++ (fldText x ++ nmsText x.names)) ∧ WrR w00.heap.size b w w' := by
  have HX := Lib.hid hx
  obtain ⟨B, hBe⟩ : ∃ B, B = w00.heap.size := ⟨_, rfl⟩
  obtain ⟨NA, nc, rfl, _, hna⟩ := hnv
  obtain ⟨KA, kn, kc, rfl⟩ := hkv
  rw [← hBe] at hna h00 hbd ⊢
  have HTB := Lib.hid (fun W (h : Below B w00 W) => hT.below (w' := W) (hBe ▸ h))
  have HNA := Lib.hid hna
  have H00 := Lib.hid h00
  clear hBe hna h00
  have hble := hbd.le
  have hfld : fldText x = [] := by
    unfold fldText
    rw [h1, h2, h4]
    simp
  rw [hfld]
  obtain ⟨L, hL⟩ : ∃ L, L = l ++ ([] ++ nmsText x.names) := ⟨_, rfl⟩
  rw [← hL]
  have HLF := Lib.hid hL
  clear hfld hL
  obtain ⟨F, hF⟩ : ∃ F, F = fldK x.kind := ⟨_, rfl⟩
  have HFo := Lib.hid (fun W => hF ▸ fieldsOf_any x.kind W)
  rw [← hF] at h1 h2 h4
  have e1 : (bits .and .i64 F 1 != 0) = false := h1
  have e2 : (bits .and .i64 F 2 != 0) = false := h2
  have e4 : (bits .and .i64 F 4 != 0) = false := h4
  clear h1 h2 h4 hF hx hT
  have hw0 : WrR B b w (w.alloc (.cells #[.int .i64 x.kind, .int .i64 x.line, .int .i64 x.op, .int .i64 x.num, .string x.s, .slice NA x.names.length nc, .slice KA kn kc] 35)) := WrR.of (by omega) (b_alloc _ _)
  have HW0 := Lib.hid hw0
  have HBD0 := Lib.hid (hbd.below (b_alloc w (.cells #[.int .i64 x.kind, .int .i64 x.line, .int .i64 x.op, .int .i64 x.num, .string x.s, .slice NA x.names.length nc, .slice KA kn kc] 35)))
  have HBX0 := Lib.hid (heap_alloc_new w (.cells #[.int .i64 x.kind, .int .i64 x.line, .int .i64 x.op, .int .i64 x.num, .string x.s, .slice NA x.names.length nc, .slice KA kn kc] 35))
  have hsz0 : B ≤ (w.alloc (.cells #[.int .i64 x.kind, .int .i64 x.line, .int .i64 x.op, .int .i64 x.num, .string x.s, .slice NA x.names.length nc, .slice KA kn kc] 35)).heap.size := by rw [asize]; omega
  have HSZ0 := Lib.hid hsz0
  clear hw0 hbd hsz0
  unfold nodeV
  go_enter Tryz.func61, Tryz.ntmps61
  go_wp2_with (go_at_call 50; refine (HFo.out _).mono ?_; rintro e w' ⟨rfl, rfl⟩)
  have HBD := Lib.hid HBD0.out
  have HWR := Lib.hid HW0.out
  obtain ⟨l1, hl1e⟩ : ∃ l1, l1 = l := ⟨_, rfl⟩
  have hl1' : l1.length ≤ 140736000500000 := by rw [hl1e]; omega
  have hl1f : l1 = l ++ [] := by rw [hl1e, List.append_nil]
  rw [← hl1e] at HBD
  have HL1 := Lib.hid hl1f
  clear hl1e hl1f
  have hl1 : l1.length ≤ 140737000000000 := by omega
  go_loopw [40] (fun i wr => ∃ k : Nat, k ≤ x.names.length ∧ i = .int .i64 (k : Int) ∧ Bd wr B b (l1 ++ nmsText (x.names.take k)) ∧ WrR B b w wr) (fun i _ => x.names.length - (intOf i).toNat)
  case atStart => exact ⟨0, Nat.zero_le _, rfl, by rw [List.take_zero]; show Bd _ B b (l1 ++ []); rw [List.append_nil]; exact HBD.out, HWR.out⟩
  case round =>
    clear HBD HWR
    obtain ⟨k, hk, rfl, hbd, hwr⟩ := hrel
    have HB := Lib.hid hbd
    have HW := Lib.hid hwr
    clear hbd hwr
    by_cases hlt : k < x.names.length
    · obtain ⟨y, hy⟩ : ∃ y, x.names[k]? = some y := ⟨x.names[k], List.getElem?_eq_getElem hlt⟩
      rcases HNA.out with h0 | ⟨b2, o2, rfl, hb2, hc2⟩
      · rw [h0] at hlt; exact absurd hlt (Nat.not_lt_zero _)
      have ck := ((H00.out.trans HW.out.below).cell (p := ⟨b2, o2 + k, none⟩) hb2).trans (hc2 k _ hy)
      have HTK := Lib.hid (take_nms hy)
      have hys := HX.out.nm y (List.mem_of_getElem? hy)
      have hln := nms_len (x.names.take k) (fun y hy => HX.out.nm y (List.mem_of_mem_take hy))
      have hnl := HX.out.nl
      obtain ⟨l2, hl2⟩ : ∃ l2, l2 = l1 ++ nmsText (x.names.take k) := ⟨_, rfl⟩
      have hll : l2.length ≤ 140737400000000 := by
        rw [hl2, List.length_append]
        rw [List.length_take] at hln
        have : min k x.names.length * 65537 ≤ 5000 * 65537 := Nat.mul_le_mul_right _ (by omega)
        omega
      rw [← hl2] at HB
      have HL2 := Lib.hid hl2
      have hsum : ((⟨#[32]⟩ : ByteArray) ++ y).size = 1 + y.size := by rw [ByteArray.size_append]; rfl
      have HC := Lib.hid (ws_any B b l2 ((⟨#[32]⟩ : ByteArray) ++ y) wr HB.out (by rw [hsum]; omega))
      rw [add_list] at HC
      have hone : (⟨#[32]⟩ : ByteArray).size = 1 := rfl
      clear hc2 hy hln hl2 hsum
      go_wp2_with fail
      refine HC.out.mono ?_; rintro e w3 ⟨rfl, hb3, hw3⟩
      have HB3 := Lib.hid hb3
      have HW3 := Lib.hid (HW.out.trans hw3)
      clear hb3 hw3
      go_wp2_with fail
      go_roundw
      case rel => exact ⟨k + 1, by omega, by go_num, by rw [HTK.out, ← List.append_assoc, ← HL2.out]; exact HB3.out, HW3.out⟩
      case measure => simp [intOf]; omega
    · have hall : x.names.take k = x.names := List.take_of_length_le (by omega)
      have hL : L = l1 ++ nmsText (x.names.take k) := by rw [hall, HL1.out, HLF.out, List.append_assoc]
      have HB4 : Hid (Bd wr B b L) := Lib.hid (by rw [hL]; exact HB.out)
      clear hall hL
      go_wp2_with fail
      go_end0
      exact ⟨rfl, HB4.out, HW.out⟩
end Go.Proofs.YtfpeecjafccfjaaGreatDoor
namespace Go.Proofs.YtfpeecjafccfjaaGreatDoor
open Go.RowKit
theorem wf_any (x : Nd) (nv kv : Value) (b : Nat) (l : List UInt8) (w00 w : World) (hx : NdW x) (hnv : StrsR w00 nv x.names) (hkv : ∃ A n c, kv = .slice A n c) (h00 : Below w00.heap.size w00 w) (hbd : Bd w w00.heap.size b l) (hlen : l.length ≤ 140736000000000) (hT : TabR w00) :
    Calls Tryz.prog 61 #[.pointer (some ⟨b, 0, none⟩), nodeV x nv kv] w fun e w' => e = .returned (.tuple #[]) ∧ Bd w' w00.heap.size b (l ++ (fldText x ++ nmsText x.names)) ∧ WrR w00.heap.size b w w' := by
  rcases has_all x.kind with ⟨h1, h2, h4⟩ | ⟨h1, h2, h4⟩ | ⟨h1, h2, h4⟩ | ⟨h1, h2, h4⟩
  · exact wf_op x nv kv b l w00 w hx hnv hkv h00 hbd hlen hT h1 h2 h4
  · exact wf_num x nv kv b l w00 w hx hnv hkv h00 hbd hlen hT h1 h2 h4
  · exact wf_s x nv kv b l w00 w hx hnv hkv h00 hbd hlen hT h1 h2 h4
  · exact wf_none x nv kv b l w00 w hx hnv hkv h00 hbd hlen hT h1 h2 h4
def topText (x : Nd) : List UInt8 := 40 :: (wordK x.kind.toNat).data.toList ++ 64 :: Lib.itoa x.line
def hdK (x : Nd) : List UInt8 := topText x ++ (fldText x ++ nmsText x.names)
theorem kword_any (k : Int) (h0 : 1 ≤ k) (h1 : k ≤ 32) (w : World) : Calls Tryz.prog 59 #[.int .i64 k] w fun e w' => e = .returned (.string (wordK k.toNat)) ∧ Below w.heap.size w w' := by
  obtain ⟨q, rfl⟩ : ∃ q : Nat, k = (q : Int) := ⟨k.toNat, by omega⟩
  rw [Int.toNat_natCast]
  exact word_k q (by omega) w
theorem undrewR {v w : World} (h : Below v.drew.heap.size v.drew w) : Below v.heap.size v w := ⟨h.os, h.tape, h.output, h.size, h.block⟩
theorem take_kids {T : List Nd} {f : Nat} {l : List Int} {k : Nat} {z : Int} (h : l[k]? = some z) : ((l.take (k + 1)).flatMap fun z => 32 :: text hdK T f z.toNat) = ((l.take k).flatMap fun z => 32 :: text hdK T f z.toNat) ++ (32 :: text hdK T f z.toNat) := by
  rw [take_snoc' l k z h, List.flatMap_append, List.flatMap_cons, List.flatMap_nil, List.append_nil]
theorem part_le {T : List Nd} {f : Nat} {l : List Int} {k : Nat} {z : Int} (h : l[k]? = some z) : ((l.take k).flatMap fun z => 32 :: text hdK T f z.toNat).length + 1 + (text hdK T f z.toNat).length ≤ (l.flatMap fun z => 32 :: text hdK T f z.toNat).length := by
  have h1 : l.flatMap (fun z => 32 :: text hdK T f z.toNat) = (l.take (k + 1)).flatMap (fun z => 32 :: text hdK T f z.toNat) ++ (l.drop (k + 1)).flatMap (fun z => 32 :: text hdK T f z.toNat) := by
    rw [← List.flatMap_append, List.take_append_drop]
  rw [h1, take_kids h, List.length_append, List.length_append, List.length_cons]
  omega
theorem top_list (x : Nd) : ((⟨#[40]⟩ : ByteArray) ++ wordK x.kind.toNat ++ (⟨#[64]⟩ : ByteArray) ++ dig x.line).data.toList = topText x := by
  rw [ByteArray.data_append, ByteArray.data_append, ByteArray.data_append, Array.toList_append, Array.toList_append, Array.toList_append, dig_list]
  unfold topText
  show [40] ++ _ ++ [64] ++ _ = _
  simp
set_option maxHeartbeats 8000000 in
set_option maxRecDepth 20000 in
theorem write_any (T : List Nd) (bk o c r : Nat) (d : Nat → Nat) (m : List Nat) (b : Nat) (w00 : World) (hs : Snd T r d m) (hX : ∀ x ∈ T, NdW x) (hn : NodesIn w00 bk o T) (hbk : bk < w00.heap.size) (hT : TabR w00) (hN : T.length ≤ 16384) :
    ∀ (f i : Nat) (l : List UInt8) (w : World), d i + f = T.length + 2 → i < T.length → Below w00.heap.size w00 w → Bd w w00.heap.size b l → l.length + (text hdK T f i).length ≤ 140734000000000 →
      Calls Tryz.prog 26 #[.pointer (some ⟨b, 0, none⟩), .slice (some ⟨bk, o, none⟩) T.length c, .int .i64 (i : Int)] w fun e w' => e = .returned (.tuple #[]) ∧ Bd w' w00.heap.size b (l ++ text hdK T f i) ∧ WrR w00.heap.size b w w' := by
  intro f
  induction f with
  | zero =>
    intro i l w hd hi
    have := hs.bound i
    omega
  | succ f ih =>
    intro i l w hd hi h00 hbd hlen
    obtain ⟨x, hxi⟩ : ∃ x, T[i]? = some x := ⟨T[i], List.getElem?_eq_getElem hi⟩
    have hx := hX x (List.mem_of_getElem? hxi)
    obtain ⟨nv, kv, hna0, hst, hnu⟩ := hn i x hxi
    have hna := hna0.below h00 hbk
    have hkid := snd_kids hs hxi
    have hkl : x.kids.length ≤ 16384 := Nat.le_trans hkid.2 hN
    have hkd : ∀ z ∈ x.kids, d z.toNat = d i + 1 := fun z hz => (hs.kid i (hs.mem hi) z (by rw [kids_of hxi]; exact hz)).2.2
    have htx := text_step hdK (f := f) hxi
    rw [htx] at hlen
    rw [htx]
    have HSS := Lib.hid hst
    have HNU := Lib.hid hnu
    obtain ⟨NA, nc, rfl, _, _⟩ := hst
    obtain ⟨KA, kc, rfl, _, hka⟩ := hnu
    have HKA := Lib.hid hka
    obtain ⟨FM, hFM⟩ : ∃ FM, FM = x.kids.flatMap fun z => 32 :: text hdK T f z.toNat := ⟨_, rfl⟩
    rw [← hFM] at hlen
    have hhd : (hdK x).length = (topText x).length + (fldText x ++ nmsText x.names).length := by unfold hdK; rw [List.length_append]
    have htl : (topText x).length = ((⟨#[40]⟩ : ByteArray) ++ wordK x.kind.toNat ++ (⟨#[64]⟩ : ByteArray) ++ dig x.line).size := by rw [Lib.size_eq, top_list]
    rw [List.length_append, List.length_append, List.length_cons, List.length_nil, hhd] at hlen
    have HGOAL : Hid (l ++ (hdK x ++ (x.kids.flatMap fun z => 32 :: text hdK T f z.toNat) ++ [41]) = (l ++ topText x ++ (fldText x ++ nmsText x.names) ++ FM) ++ [41]) := Lib.hid (by rw [hFM]; unfold hdK; simp only [List.append_assoc])
    rw [HGOAL.out]
    have HFM := Lib.hid hFM
    have HLEN := Lib.hid hlen
    have HWF := Lib.hid (fun b l W h1 h2 h3 => wf_any x (.slice NA x.names.length nc) (.slice KA x.kids.length kc) b l w00 W hx HSS.out ⟨_, _, _, rfl⟩ h1 h2 h3 hT)
    have HTL := Lib.hid (top_list x)
    have HIH := Lib.hid ih
    have HKD := Lib.hid (And.intro hkid hkd)
    have HDI := Lib.hid hd
    clear ih hkid hkd hna0 htx hFM hhd hlen hka hX hn hxi hd
    obtain ⟨c0, c1, c2, c3, c4, c5, c6⟩ := hna
    have hble := hbd.le
    have HTB := Lib.hid (fun W (h : Below w00.heap.size w00 W) => hT.below (w' := W) h)
    have H00 := Lib.hid h00
    have HWD := Lib.hid (fun W => kword_any x.kind hx.k0 hx.k1 W)
    have HIT := Lib.hid (fun W h => itoa_any x.line W h hx.l0 hx.l1)
    have hb0 := b_alloc w (.cells #[.int .i64 x.kind, .int .i64 x.line, .int .i64 x.op, .int .i64 x.num, .string x.s, .slice NA x.names.length nc, .slice KA x.kids.length kc] 35)
    have hbox := heap_alloc_new w (.cells #[.int .i64 x.kind, .int .i64 x.line, .int .i64 x.op, .int .i64 x.num, .string x.s, .slice NA x.names.length nc, .slice KA x.kids.length kc] 35)
    have hasz := asize w (.cells #[.int .i64 x.kind, .int .i64 x.line, .int .i64 x.op, .int .i64 x.num, .string x.s, .slice NA x.names.length nc, .slice KA x.kids.length kc] 35)
    obtain ⟨v, hv⟩ : ∃ v, v = w.alloc (.cells #[.int .i64 x.kind, .int .i64 x.line, .int .i64 x.op, .int .i64 x.num, .string x.s, .slice NA x.names.length nc, .slice KA x.kids.length kc] 35) := ⟨_, rfl⟩
    rw [← hv] at hb0 hbox hasz
    obtain ⟨g, hg⟩ : ∃ g, g = w.heap.size := ⟨_, rfl⟩
    rw [← hg] at hbox hasz
    have hgb : g ≠ b := by omega
    have HLT : Hid (g < v.heap.size) := Lib.hid (by omega)
    have HBOX := Lib.hid hbox
    have HWV : Hid (WrR w00.heap.size b w v) := Lib.hid (WrR.of (by omega) hb0)
    have HSZ : Hid (w00.heap.size ≤ v.heap.size) := Lib.hid (by omega)
    have HAX := Lib.hid (h00.trans (hb0.mono (by omega)))
    have HBDX := Lib.hid (hbd.below hb0)
    have HC := Lib.hid (node_box hbox)
    obtain ⟨W1, hW1⟩ : ∃ W1, W1 = wordK x.kind.toNat := ⟨_, rfl⟩
    have hW1s : W1.size ≤ 10 := by rw [hW1]; exact wordK_len _
    obtain ⟨S1, hS1⟩ : ∃ S1, S1 = dig x.line := ⟨_, rfl⟩
    have hS1s : S1.size ≤ 21 := by rw [hS1]; exact dig_len hx.l0 hx.l1
    rw [← hW1] at HWD
    rw [← hS1] at HIT
    rw [← hW1, ← hS1] at HTL htl
    have hsum : ((⟨#[40]⟩ : ByteArray) ++ W1 ++ (⟨#[64]⟩ : ByteArray) ++ S1).size = 2 + W1.size + S1.size := by
      rw [ByteArray.size_append, ByteArray.size_append, ByteArray.size_append]
      show 1 + W1.size + 1 + S1.size = _
      omega
    have HWS := Lib.hid (fun W h => ws_any w00.heap.size b l ((⟨#[40]⟩ : ByteArray) ++ W1 ++ (⟨#[64]⟩ : ByteArray) ++ S1) W h (by rw [hsum]; have := HLEN.out; omega))
    rw [HTL.out] at HWS
    have h40 : (⟨#[40]⟩ : ByteArray).size = 1 := rfl
    have h64 : (⟨#[64]⟩ : ByteArray).size = 1 := rfl
    have HV := Lib.hid hv
    have HG := Lib.hid hg
    have HX := Lib.hid hx
    have HTX : Hid ((topText x).length ≤ 40) := Lib.hid (by rw [htl, hsum]; omega)
    obtain ⟨l1, hl1⟩ : ∃ l1, l1 = l ++ topText x := ⟨_, rfl⟩
    have hl1n : l1.length = l.length + (topText x).length := by rw [hl1, List.length_append]
    obtain ⟨l2, hl2⟩ : ∃ l2, l2 = l1 ++ (fldText x ++ nmsText x.names) := ⟨_, rfl⟩
    have hl2n : l2.length = l1.length + (fldText x ++ nmsText x.names).length := by rw [hl2, List.length_append]
    rw [← hl1] at HWS ⊢
    rw [← hl2]
    have HL2 := Lib.hid hl2
    have HLN : Hid (l2.length + FM.length + 1 ≤ 140734000000000 ∧ l1.length ≤ 140734000000000) := Lib.hid (by have := HLEN.out; omega)
    clear hx hbd h00 hT hb0 hW1 hS1 hsum htl hbox hasz hv hl1 hl1n hl2 hl2n HTL HGOAL HLEN
    have HKC := Lib.hid (And.intro c0 c1)
    go_enter Tryz.func26, Tryz.ntmps26
    go_wp2_with fail
    rw [← HV.out, ← HG.out]
    rename_i K1 hK1
    have HK1 := Lib.hid hK1
    clear hK1 hg c0 c1 c2 c3 c4 c5 c6 HKC
    have n1 : (9223372036854775807 < 1 + W1.size) = False := eq_false (by omega)
    have n2 : (9223372036854775807 < 1 + W1.size + 1) = False := eq_false (by omega)
    have n3 : (9223372036854775807 < 1 + W1.size + 1 + S1.size) = False := eq_false (by omega)
    have k0 : Hid (v.cell? ⟨g, 0, none⟩ = some (.int .i64 x.kind) ∧ v.cell? ⟨g, 1, none⟩ = some (.int .i64 x.line)) := Lib.hid ⟨HC.out.c0, HC.out.c1⟩
    have d0 := k0.out.1
    have d1 := k0.out.2
    go_region_held3 (fun w' => w'.cell? ⟨g, 0, none⟩ = some (.int .i64 x.kind) ∧ w'.cell? ⟨g, 1, none⟩ = some (.int .i64 x.line))
      (first | exact k4.out | exact k3.out | exact k2.out | exact k0.out)
      (first
        | (go_at_call 59; refine (HWD.out _).mono ?_; rintro e w2 ⟨rfl, b2'⟩; have bX := Lib.hid (undrewR b2'); have k2 : Hid (w2.cell? ⟨g, 0, none⟩ = some (.int .i64 x.kind) ∧ w2.cell? ⟨g, 1, none⟩ = some (.int .i64 x.line)) := Lib.hid ⟨(bX.out.cell (p := ⟨g, 0, none⟩) HLT.out).trans k0.out.1, (bX.out.cell (p := ⟨g, 1, none⟩) HLT.out).trans k0.out.2⟩; clear b2')
        | (go_at_call 60; refine (HIT.out _ (HTB.out _ (thenBR HAX.out bX.out))).mono ?_; rintro e w3 ⟨rfl, b3'⟩; have b3 := Lib.hid (thenBR bX.out b3'); have k3 : Hid (w3.cell? ⟨g, 0, none⟩ = some (.int .i64 x.kind) ∧ w3.cell? ⟨g, 1, none⟩ = some (.int .i64 x.line)) := Lib.hid ⟨(b3.out.cell (p := ⟨g, 0, none⟩) HLT.out).trans k0.out.1, (b3.out.cell (p := ⟨g, 1, none⟩) HLT.out).trans k0.out.2⟩; clear b3')
        | (go_at_call 58; refine (HWS.out _ (HBDX.out.below b3.out)).mono ?_; rintro e w4 ⟨rfl, hb4', hw4'⟩; have hb4 := Lib.hid hb4'; have hw4 := Lib.hid ((WrR.of HSZ.out b3.out).trans hw4'); clear hb4' hw4'; have k4 : Hid (w4.cell? ⟨g, 0, none⟩ = some (.int .i64 x.kind) ∧ w4.cell? ⟨g, 1, none⟩ = some (.int .i64 x.line)) := (by have hnb := node_box (box_wr HBOX.out hw4.out hgb); exact Lib.hid ⟨hnb.c0, hnb.c1⟩)))
    all_goals
      clear k0 k2 k3 k4 d0 d1 bX b3 HWS HIT HWD HTB
      have HBX4 := Lib.hid (box_wr HBOX.out hw4.out hgb)
      have HW4 := Lib.hid (HWV.out.trans hw4.out)
      obtain ⟨c0, c1, c2, c3, c4, c5, c6⟩ := node_box HBX4.out
      have hK1 := HK1.out
      go_wp2_with fail
      clear c0 c1 c2 c3 c4 c5 c6
      refine (HWF.out b l1 w4 (HAX.out.trans hw4.out.below) hb4.out (by have := HLN.out.2; omega)).mono ?_
      rintro e w5 ⟨rfl, hb5', hw5'⟩
      rw [← HL2.out] at hb5'
      have hb5 := Lib.hid hb5'
      obtain ⟨c0, c1, c2, c3, c4, c5, c6⟩ := node_box (box_wr HBX4.out hw5' hgb)
      have hw5 := Lib.hid (HW4.out.trans hw5')
      clear hb5' hw5' hb4 hw4 HBX4 HW4 HWF HK1 h40 h64
      go_wp2_with fail
      clear c0 c1 c2 c3 c4 c5 c6
      go_loopw [30] (fun j wr => ∃ k : Nat, k ≤ x.kids.length ∧ j = .int .i64 (k : Int) ∧ Bd wr w00.heap.size b (l2 ++ (x.kids.take k).flatMap fun z => 32 :: text hdK T f z.toNat) ∧ WrR w00.heap.size b w wr) (fun j _ => x.kids.length - (intOf j).toNat)
      case atStart => exact ⟨0, Nat.zero_le _, rfl, by rw [List.take_zero, List.flatMap_nil, List.append_nil]; exact hb5.out, hw5.out⟩
      case round =>
        clear hb5 hw5
        obtain ⟨k, hk, rfl, hbd, hwr⟩ := hrel
        have HB := Lib.hid hbd
        have HW := Lib.hid hwr
        clear hbd hwr
        by_cases hlt : k < x.kids.length
        · have HLK := Lib.hid hlt
          obtain ⟨z, hz⟩ : ∃ z, x.kids[k]? = some z := ⟨x.kids[k], List.getElem?_eq_getElem hlt⟩
          have hzm := List.mem_of_getElem? hz
          obtain ⟨z0, z1⟩ := HKD.out.1.1 z hzm
          have hzd := HKD.out.2 z hzm
          have hpl := part_le (T := T) (f := f) hz
          rw [← HFM.out] at hpl
          have HTK := Lib.hid (take_kids (T := T) (f := f) hz)
          obtain ⟨q, rfl⟩ : ∃ q : Nat, z = (q : Int) := ⟨z.toNat, by omega⟩
          rw [Int.toNat_natCast] at hzd hpl HTK
          have hq : q < T.length := by omega
          rcases HKA.out with h0 | ⟨b2, o2, rfl, hb2, hc2⟩
          · rw [h0] at hlt; exact absurd hlt (Nat.not_lt_zero _)
          have ck := ((H00.out.trans HW.out.below).cell (p := ⟨b2, o2 + k, none⟩) hb2).trans (hc2 k _ hz)
          obtain ⟨l3, hl3⟩ : ∃ l3, l3 = l2 ++ (x.kids.take k).flatMap fun z => 32 :: text hdK T f z.toNat := ⟨_, rfl⟩
          have hl3n : l3.length = l2.length + ((x.kids.take k).flatMap fun z => 32 :: text hdK T f z.toNat).length := by rw [hl3, List.length_append]
          rw [← hl3] at HB
          have HL3 := Lib.hid hl3
          have hll := HLN.out.1
          have HC1 := Lib.hid (wb_any w00.heap.size b l3 32 32 rfl wr HB.out (by omega))
          have HC2 := Lib.hid (fun W h1 h2 => HIH.out q (l3 ++ [32]) W (by have := HDI.out; omega) hq h1 h2 (by rw [List.length_append, List.length_cons, List.length_nil]; omega))
          clear hc2 hz hzm z0 z1 hzd hpl hl3 hl3n hll
          go_wp2_with fail
          refine HC1.out.mono ?_; rintro e w6 ⟨rfl, hb6, hw6⟩
          have HB6 := Lib.hid hb6
          have HW6 := Lib.hid (HW.out.trans hw6)
          clear hb6 hw6
          go_wp2_with fail
          refine (HC2.out w6 (H00.out.trans HW6.out.below) HB6.out).mono ?_; rintro e w7 ⟨rfl, hb7, hw7⟩
          have HB7 := Lib.hid hb7
          have HW7 := Lib.hid (HW6.out.trans hw7)
          clear hb7 hw7
          go_wp2_with fail
          go_roundw
          case rel => exact ⟨k + 1, by have := HLK.out; omega, by go_num, by rw [HTK.out, ← List.append_assoc, ← HL3.out]; have := HB7.out; rw [List.append_assoc] at this; exact this, HW7.out⟩
          case measure => have := HLK.out; simp [intOf]; omega
        · have hall : x.kids.take k = x.kids := List.take_of_length_le (by omega)
          have HB8 : Hid (Bd wr w00.heap.size b (l2 ++ FM)) := Lib.hid (by rw [HFM.out]; have := HB.out; rw [hall] at this; exact this)
          have HC3 := Lib.hid (wb_any w00.heap.size b (l2 ++ FM) 41 41 rfl wr HB8.out (by rw [List.length_append]; have := HLN.out.1; omega))
          clear hall HB8
          go_wp2_with fail
          refine HC3.out.mono ?_; rintro e w9 ⟨rfl, hb9, hw9⟩
          have HB9 := Lib.hid hb9
          have HW9 := Lib.hid (HW.out.trans hw9)
          clear hb9 hw9
          go_wp2_with fail
          go_end0
          exact ⟨rfl, HB9.out, HW9.out⟩
end Go.Proofs.YtfpeecjafccfjaaGreatDoor
