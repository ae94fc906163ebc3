/- conv.Print, Number and String, told as plain functions of the fields; Print asks that the table of powers lies as the program's text lays it and that the number is an int64. And the document's examples: selkielaw03.alive answers true. -/
import Derived.Test.YtpfdidggogddgaaDoorCConv
import Derived.Lib.LaidTab
namespace Go.Proofs.YtpfdidggogddgaaDoor
open Go.RowKit Go.Sort

abbrev V (k n : Int) (s : ByteArray) : Value := .agg #[.int .i64 k, .int .i64 n, .string s]
abbrev noS : ByteArray := ⟨#[]⟩
abbrev vcells (k n : Int) (s : ByteArray) : Obj := .cells #[.int .i64 k, .int .i64 n, .string s] 23
abbrev digS (n : Int) : ByteArray := ⟨(Lib.itoa n).toArray⟩

theorem below1 (w : World) (a : Obj) : Below w.heap.size w (w.alloc a) := (Below.refl _ _).alloc (Nat.le_refl _) _
theorem bcell {W w1 : World} (hb : Below W.heap.size W w1) : (∀ b o, b < W.heap.size → w1.cell? ⟨b, o, none⟩ = W.cell? ⟨b, o, none⟩) ∧ (∀ b o, b < W.heap.size → w1.frozen? ⟨b, o, none⟩ = W.frozen? ⟨b, o, none⟩) :=
  ⟨fun b o h => hb.cell (p := ⟨b, o, none⟩) h, fun b o h => hb.frozen (p := ⟨b, o, none⟩) h⟩
theorem thenB {a b c : World} (h : Below a.heap.size a b) (k : Below b.heap.size b c) : Below a.heap.size a c := h.trans (k.mono h.size)

/-- In the world W the block b holds the value (k, n, s). -/
structure At (W : World) (b : Nat) (k n : Int) (s : ByteArray) : Prop where
  c0 : W.cell? ⟨b, 0, none⟩ = some (.int .i64 k)
  c1 : W.cell? ⟨b, 1, none⟩ = some (.int .i64 n)
  c2 : W.cell? ⟨b, 2, none⟩ = some (.string s)
theorem at_new (w : World) (k n : Int) (s : ByteArray) : At (w.alloc (vcells k n s)) w.heap.size k n s := by
  refine ⟨?_, ?_, ?_⟩ <;> simp [go_sem]
theorem At.below {W W' : World} {b : Nat} {k n : Int} {s : ByteArray} (h : At W b k n s) (hb : Below W.heap.size W W') : At W' b k n s :=
  have lt := block_lt_of_cell h.c0
  ⟨(hb.cell (p := ⟨b, 0, none⟩) lt).trans h.c0, (hb.cell (p := ⟨b, 1, none⟩) lt).trans h.c1, (hb.cell (p := ⟨b, 2, none⟩) lt).trans h.c2⟩

/-- The table of the powers of ten lies as the program's text lays it. -/
def Tab (w : World) : Prop := Lib.TabIs Tryd.prog w "internal/strconv.uint64pow10" .u64 Lib.pow10Tab
theorem Tab.below {w w' : World} (h : Tab w) (hb : Below w.heap.size w w') : Tab w' := by
  have hgn : Tryd.prog.globalNamed "internal/strconv.uint64pow10" = some 0 := by kernel_rfl
  unfold Tab Lib.TabIs World.var? at h ⊢
  rw [hgn] at h ⊢
  simp only [Option.bind_some] at h ⊢
  have hlt : 0 < w.heap.size := by
    rcases Nat.lt_or_ge 0 w.heap.size with h' | h'
    · exact h'
    · rw [Array.getElem?_eq_none h'] at h; cases h
  rw [hb.block 0 hlt]
  exact h
theorem below_grow (w : World) (k : Nat) (os : Array Obj) : Below w.heap.size w (grow (w.drewN k) os) :=
  ⟨rfl, rfl, rfl, by simp [World.drewN], fun i hi => by rw [heap_grow_old (w.drewN k) os hi]; rfl⟩

set_option maxHeartbeats 400000 in
theorem cPrint (n : Int) (w : World) (hT : Tab w) (hn0 : -9223372036854775808 ≤ n) (hn1 : n ≤ 9223372036854775807) :
    Calls Tryd.prog 39 #[.int .i64 n] w fun e w' => e = .returned (.string (digS n)) ∧ Below w.heap.size w w' := by
  have HT := Lib.hid hT; have H0 := Lib.hid hn0; have H1 := Lib.hid hn1
  clear hT hn0 hn1
  go_enter Tryd.func39, Tryd.ntmps39
  go_wp2_with (go_at_call 43; refine (Tryd.strconv_FormatInt_10 n H0.out H1.out _ HT.out).mono ?_; rintro e w' ⟨rfl, kk, os, rfl⟩)
  go_ret
  exact ⟨rfl, below_grow _ kk os⟩

def nmN (k n : Int) (s : ByteArray) : Int := if k = 2 then n else if k = 3 then toN s.data.toList else 0
def nmO (k : Int) (s : ByteArray) : Bool := if k = 2 then true else if k = 3 then toO s.data.toList else false
def stS (k n : Int) (s : ByteArray) : ByteArray := if k = 2 then digS n else if k = 3 then s else noS
def stO (k : Int) : Bool := if k = 2 then true else if k = 3 then true else false
theorem kinds3 (k : Int) : k = 2 ∨ k = 3 ∨ ((k == 2) = false ∧ (k == 3) = false ∧ k ≠ 2 ∧ k ≠ 3) := by
  by_cases h2 : k = 2
  · exact .inl h2
  · by_cases h3 : k = 3
    · exact .inr (.inl h3)
    · exact .inr (.inr ⟨by simpa using h2, by simpa using h3, h2, h3⟩)

set_option maxHeartbeats 400000 in
theorem cNumber (k n : Int) (s : ByteArray) (w : World) (hs : s.size ≤ 9223372036854775807) :
    Calls Tryd.prog 34 #[V k n s] w fun e w' => e = .returned (.tuple #[.int .i64 (nmN k n s), .bool (nmO k s)]) ∧ Below w.heap.size w w' := by
  rcases kinds3 k with rfl | rfl | ⟨g2, g3, h2, h3⟩
  · go_enter Tryd.func34, Tryd.ntmps34
    go_wp2
    go_ret2
    exact ⟨rfl, below1 _ _⟩
  · have HE := Lib.hid (show nmN 3 n s = toN s.data.toList by unfold nmN; rw [if_neg (by decide), if_pos rfl])
    have HO := Lib.hid (show nmO 3 s = toO s.data.toList by unfold nmO; rw [if_neg (by decide), if_pos rfl])
    go_enter Tryd.func34, Tryd.ntmps34
    go_wp2_with fail
    refine (cToInt _ _ hs).mono ?_; rintro e w1 ⟨rfl, b1⟩
    go_wp2_with fail
    go_ret2
    exact ⟨ret_in HE.out.symm HO.out.symm, thenB (below1 _ _) b1⟩
  · rw [show nmN k n s = 0 by simp [nmN, h2, h3], show nmO k s = false by simp [nmO, h2, h3]]
    clear h2 h3
    go_enter Tryd.func34, Tryd.ntmps34
    go_wp2
    go_ret2
    exact ⟨rfl, below1 _ _⟩

theorem ret_so {a a' : ByteArray} {o o' : Bool} (h : a = a') (h' : o = o') : Ending.returned (.tuple #[.string a, .bool o]) = .returned (.tuple #[.string a', .bool o']) := by rw [h, h']

set_option maxHeartbeats 400000 in
theorem cString (k n : Int) (s : ByteArray) (w : World) (hT : Tab w) (hn0 : -9223372036854775808 ≤ n) (hn1 : n ≤ 9223372036854775807) :
    Calls Tryd.prog 36 #[V k n s] w fun e w' => e = .returned (.tuple #[.string (stS k n s), .bool (stO k)]) ∧ Below w.heap.size w w' := by
  rcases kinds3 k with rfl | rfl | ⟨g2, g3, h2, h3⟩
  · have HT := Lib.hid (hT.below (below1 w (vcells 2 n s))); have H0 := Lib.hid hn0; have H1 := Lib.hid hn1
    clear hT hn0 hn1
    go_enter Tryd.func36, Tryd.ntmps36
    go_wp2_with fail
    refine (cPrint _ _ HT.out H0.out H1.out).mono ?_; rintro e w1 ⟨rfl, b1⟩
    go_wp2_with fail
    go_ret2
    exact ⟨ret_so rfl rfl, thenB (below1 _ _) b1⟩
  · clear hT hn0 hn1
    go_enter Tryd.func36, Tryd.ntmps36
    go_wp2
    go_ret2
    exact ⟨rfl, below1 _ _⟩
  · rw [show stS k n s = noS by simp [stS, h2, h3], show stO k = false by simp [stO, h2, h3]]
    clear h2 h3 hT hn0 hn1
    go_enter Tryd.func36, Tryd.ntmps36
    go_wp2
    go_ret2
    exact ⟨rfl, below1 _ _⟩

end Go.Proofs.YtpfdidggogddgaaDoor
