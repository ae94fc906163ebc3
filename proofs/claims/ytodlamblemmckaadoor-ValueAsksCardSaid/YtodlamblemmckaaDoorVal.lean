/- What each function of package value does to the world, told as a plain function of the fields; no condition. -/
import Derived.Test.YtodlamblemmckaaDoorRows
import Derived.WalkKit
import Derived.WalkSpells
import Derived.WalkLawsBesides
import Derived.Lib.QuietBelow
import Derived.BigQuiet
import Derived.Lib.Hide
namespace Go.Proofs.YtodlamblemmckaaDoor
open Go.RowKit Go.Sort

abbrev V (k n : Int) (s : ByteArray) : Value := .agg #[.int .i64 k, .int .i64 n, .string s]
abbrev noS : ByteArray := ⟨#[]⟩

/-- The ten ways a kind can lie. -/
theorem kinds (k : Int) : k = 0 ∨ k = 1 ∨ k = 2 ∨ k = 3 ∨ k = 4 ∨ k = 5 ∨ k = 6 ∨ k = 7 ∨ k < 0 ∨ 7 < k := by omega

def strB (k : Int) : Bool := decide (k < 0) || decide (7 < k)
def truB (k n : Int) : Bool := if k = 0 then false else if k = 1 then decide (n ≠ 0) else !strB k
def typB (k : Int) : ByteArray :=
  if k = 0 then ⟨#[110, 105, 108]⟩ else if k = 1 then ⟨#[98, 111, 111, 108, 101, 97, 110]⟩ else if k = 2 then ⟨#[110, 117, 109, 98, 101, 114]⟩ else
  if k = 3 then ⟨#[115, 116, 114, 105, 110, 103]⟩ else if k = 4 then ⟨#[116, 97, 98, 108, 101]⟩ else if k = 5 then ⟨#[102, 117, 110, 99, 116, 105, 111, 110]⟩ else
  if k = 6 then ⟨#[102, 117, 110, 99, 116, 105, 111, 110]⟩ else if k = 7 then ⟨#[116, 104, 114, 101, 97, 100]⟩ else noS
def ownK (k : Int) : Int := if strB k then 0 else k
def ownN (k n : Int) : Int := if k = 1 then (if n = 0 then 0 else 1) else if k = 0 ∨ k = 3 ∨ strB k = true then 0 else n
def ownS (k : Int) (s : ByteArray) : ByteArray := if k = 3 then s else noS
def keyE (k : Int) : Int := if k = 0 ∨ strB k = true then 15 else 0

/-- New blocks alone. -/
theorem below1 (w : World) (a : Obj) : Below w.heap.size w (w.alloc a) := (Below.refl _ _).alloc (Nat.le_refl _) _
theorem below2 (w : World) (a b : Obj) : Below w.heap.size w ((w.alloc a).alloc b) := (below1 w a).alloc (by simp) _
theorem below3 (w : World) (a b c : Obj) : Below w.heap.size w (((w.alloc a).alloc b).alloc c) := (below2 w a b).alloc (by simp; omega) _
theorem below4 (w : World) (a b c d : Obj) : Below w.heap.size w ((((w.alloc a).alloc b).alloc c).alloc d) := (below3 w a b c).alloc (by simp; omega) _

set_option maxHeartbeats 400000 in
theorem strange_any (k n : Int) (s : ByteArray) (w : World) :
    Calls Tryd.prog 27 #[V k n s] w fun e w' => e = .returned (.bool (strB k)) ∧ Below w.heap.size w w' := by
  by_cases h1 : k < 0
  · have e : strB k = true := by simp [strB]; omega
    rw [e]
    go_enter Tryd.func27, Tryd.ntmps27
    go_wp2
    go_ret
    exact ⟨rfl, below1 _ _⟩
  · have h2 : decide (k < 0) = false := by simpa using h1
    have e : strB k = decide (7 < k) := by simp [strB, h2]
    rw [e]
    go_enter Tryd.func27, Tryd.ntmps27
    go_wp2
    go_ret
    exact ⟨rfl, below1 _ _⟩

set_option maxHeartbeats 400000 in
theorem ofInt_any (n : Int) (w : World) :
    Calls Tryd.prog 24 #[.int .i64 n] w fun e w' => e = .returned (V 2 n noS) ∧ Below w.heap.size w w' := by
  go_enter Tryd.func24, Tryd.ntmps24
  go_wp2
  exact bodyPost_ret (v := V 2 n noS) (by simp [results, Tryd.results24, go_sem]) rfl ⟨rfl, below1 _ _⟩

set_option maxHeartbeats 400000 in
theorem ofStr_any (s : ByteArray) (w : World) :
    Calls Tryd.prog 25 #[.string s] w fun e w' => e = .returned (V 3 0 s) ∧ Below w.heap.size w w' := by
  go_enter Tryd.func25, Tryd.ntmps25
  go_wp2
  exact bodyPost_ret (v := V 3 0 s) (by simp [results, Tryd.results25, go_sem]) rfl ⟨rfl, below1 _ _⟩

set_option maxHeartbeats 400000 in
theorem ofBool_any (b : Bool) (w : World) :
    Calls Tryd.prog 26 #[.bool b] w fun e w' => e = .returned (V 1 (if b then 1 else 0) noS) ∧ Below w.heap.size w w' := by
  cases b
  · go_enter Tryd.func26, Tryd.ntmps26
    go_wp2
    exact bodyPost_ret (v := V 1 0 noS) (by simp [results, Tryd.results26, go_sem]) rfl ⟨rfl, below1 _ _⟩
  · go_enter Tryd.func26, Tryd.ntmps26
    go_wp2
    exact bodyPost_ret (v := V 1 1 noS) (by simp [results, Tryd.results26, go_sem]) rfl ⟨rfl, below1 _ _⟩

abbrev vcells (k n : Int) (s : ByteArray) : Obj := .cells #[.int .i64 k, .int .i64 n, .string s] 23

set_option maxHeartbeats 400000 in
theorem ofStr_exact (s : ByteArray) (w : World) :
    Calls Tryd.prog 25 #[.string s] w fun e w' => e = .returned (V 3 0 s) ∧ w' = w.alloc (vcells 3 0 s) := by
  go_enter Tryd.func25, Tryd.ntmps25
  go_wp2
  exact bodyPost_ret (v := V 3 0 s) (by simp [results, Tryd.results25, go_sem]) rfl ⟨rfl, rfl⟩

set_option maxHeartbeats 400000 in
theorem ofFalse_exact (w : World) :
    Calls Tryd.prog 26 #[.bool false] w fun e w' => e = .returned (V 1 0 noS) ∧ w' = w.alloc (vcells 1 0 noS) := by
  go_enter Tryd.func26, Tryd.ntmps26
  go_wp2
  exact bodyPost_ret (v := V 1 0 noS) (by simp [results, Tryd.results26, go_sem]) rfl ⟨rfl, rfl⟩

set_option maxHeartbeats 400000 in
theorem ofTrue_exact (w : World) :
    Calls Tryd.prog 26 #[.bool true] w fun e w' => e = .returned (V 1 1 noS) ∧ w' = w.alloc (vcells 1 1 noS) := by
  go_enter Tryd.func26, Tryd.ntmps26
  go_wp2
  exact bodyPost_ret (v := V 1 1 noS) (by simp [results, Tryd.results26, go_sem]) rfl ⟨rfl, rfl⟩

set_option maxHeartbeats 400000 in
theorem type_any (k n : Int) (s : ByteArray) (w : World) :
    Calls Tryd.prog 14 #[V k n s] w fun e w' => e = .returned (.string (typB k)) ∧ Below w.heap.size w w' := by
  rcases kinds k with rfl | rfl | rfl | rfl | rfl | rfl | rfl | rfl | h | h
  iterate 8
    · go_enter Tryd.func14, Tryd.ntmps14
      go_wp2
      go_ret
      exact ⟨rfl, below1 _ _⟩
  all_goals
    have e : typB k = noS := by unfold typB; repeat rw [if_neg (by omega)]
    rw [e]
    have g0 : (k == 0) = false := by simp; omega
    have g1 : (k == 1) = false := by simp; omega
    have g2 : (k == 2) = false := by simp; omega
    have g3 : (k == 3) = false := by simp; omega
    have g4 : (k == 4) = false := by simp; omega
    have g5 : (k == 5) = false := by simp; omega
    have g6 : (k == 6) = false := by simp; omega
    have g7 : (k == 7) = false := by simp; omega
    clear e
    go_enter Tryd.func14, Tryd.ntmps14
    go_wp2
    go_ret
    exact ⟨rfl, below1 _ _⟩

set_option maxHeartbeats 400000 in
theorem truth_any (k n : Int) (s : ByteArray) (w : World) :
    Calls Tryd.prog 12 #[V k n s] w fun e w' => e = .returned (.bool (truB k n)) ∧ Below w.heap.size w w' := by
  rcases kinds k with rfl | rfl | rfl | rfl | rfl | rfl | rfl | rfl | h | h
  · go_enter Tryd.func12, Tryd.ntmps12
    go_wp2
    go_ret
    exact ⟨rfl, below1 _ _⟩
  · by_cases h : n = 0
    · subst h
      go_enter Tryd.func12, Tryd.ntmps12
      go_wp2
      go_ret
      exact ⟨rfl, below1 _ _⟩
    · have e : truB 1 n = true := by simp [truB, h]
      rw [e]
      have g : (n != 0) = true := by simpa using h
      clear e
      go_enter Tryd.func12, Tryd.ntmps12
      go_wp2
      go_ret
      exact ⟨rfl, below1 _ _⟩
  iterate 6
    · go_enter Tryd.func12, Tryd.ntmps12
      go_wp2
      go_ret
      exact ⟨rfl, below2 _ _ _⟩
  all_goals
    have e : truB k n = false := by unfold truB strB; repeat rw [if_neg (by omega)]
                                    simp [h]
    rw [e]
    have g0 : (k == 0) = false := by simp; omega
    have g1 : (k == 1) = false := by simp; omega
    clear e
  · go_enter Tryd.func12, Tryd.ntmps12
    go_wp2
    go_ret
    exact ⟨rfl, below2 _ _ _⟩
  · have g : decide (k < 0) = false := by simp; omega
    go_enter Tryd.func12, Tryd.ntmps12
    go_wp2
    go_ret
    exact ⟨rfl, below2 _ _ _⟩

set_option maxHeartbeats 400000 in
theorem own_any (k n : Int) (s : ByteArray) (w : World) :
    Calls Tryd.prog 18 #[V k n s] w fun e w' => e = .returned (V (ownK k) (ownN k n) (ownS k s)) ∧ Below w.heap.size w w' := by
  rcases kinds k with rfl | rfl | rfl | rfl | rfl | rfl | rfl | rfl | h | h
  · go_enter Tryd.func18, Tryd.ntmps18
    go_wp2
    exact bodyPost_ret (v := V 0 0 noS) (by simp [results, Tryd.results18, go_sem]) rfl ⟨rfl, below2 _ _ _⟩
  · by_cases h : n = 0
    · subst h
      go_enter Tryd.func18, Tryd.ntmps18
      go_wp2_with (go_at_call 26; refine (ofFalse_exact _).mono ?_; rintro e w' ⟨rfl, rfl⟩)
      exact bodyPost_ret (v := V 1 0 noS) (by simp [results, Tryd.results18, go_sem]) rfl ⟨rfl, below3 _ _ _ _⟩
    · have e : ownN 1 n = 1 := by simp [ownN, h]
      rw [e]
      have g : (n != 0) = true := by simpa using h
      clear e
      go_enter Tryd.func18, Tryd.ntmps18
      go_wp2_with (go_at_call 26; refine (ofTrue_exact _).mono ?_; rintro e w' ⟨rfl, rfl⟩)
      exact bodyPost_ret (v := V 1 1 noS) (by simp [results, Tryd.results18, go_sem]) rfl ⟨rfl, below3 _ _ _ _⟩
  · go_enter Tryd.func18, Tryd.ntmps18
    go_wp2
    exact bodyPost_ret (v := V 2 n noS) (by simp [results, Tryd.results18, go_sem]) rfl ⟨rfl, below2 _ _ _⟩
  · go_enter Tryd.func18, Tryd.ntmps18
    go_wp2_with (go_at_call 25; refine (ofStr_exact _ _).mono ?_; rintro e w' ⟨rfl, rfl⟩)
    exact bodyPost_ret (v := V 3 0 s) (by simp [results, Tryd.results18, go_sem]) rfl ⟨rfl, below3 _ _ _ _⟩
  · go_enter Tryd.func18, Tryd.ntmps18
    go_wp2
    exact bodyPost_ret (v := V 4 n noS) (by simp [results, Tryd.results18, go_sem]) rfl ⟨rfl, below2 _ _ _⟩
  · go_enter Tryd.func18, Tryd.ntmps18
    go_wp2
    exact bodyPost_ret (v := V 5 n noS) (by simp [results, Tryd.results18, go_sem]) rfl ⟨rfl, below2 _ _ _⟩
  · go_enter Tryd.func18, Tryd.ntmps18
    go_wp2
    exact bodyPost_ret (v := V 6 n noS) (by simp [results, Tryd.results18, go_sem]) rfl ⟨rfl, below2 _ _ _⟩
  · go_enter Tryd.func18, Tryd.ntmps18
    go_wp2
    exact bodyPost_ret (v := V 7 n noS) (by simp [results, Tryd.results18, go_sem]) rfl ⟨rfl, below2 _ _ _⟩
  all_goals
    have e0 : strB k = true := by simp [strB]; omega
    have e1 : ownK k = 0 := by simp [ownK, e0]
    have e2 : ownN k n = 0 := by unfold ownN; rw [if_neg (by omega), if_pos (by simp [e0])]
    have e3 : ownS k s = noS := by unfold ownS; rw [if_neg (by omega)]
    rw [e1, e2, e3]
    have g1 : (k == 1) = false := by simp; omega
    have g2 : (k == 2) = false := by simp; omega
    have g3 : (k == 3) = false := by simp; omega
    have g4 : (k == 4) = false := by simp; omega
    have g5 : (k == 5) = false := by simp; omega
    have g6 : (k == 6) = false := by simp; omega
    have g7 : (k == 7) = false := by simp; omega
    clear e0 e1 e2 e3
    go_enter Tryd.func18, Tryd.ntmps18
    go_wp2
    exact bodyPost_ret (v := V 0 0 noS) (by simp [results, Tryd.results18, go_sem]) rfl ⟨rfl, below2 _ _ _⟩

/-- Old cells and marks read as before behind a callee that makes memory alone. -/
theorem bcell {W w1 : World} (hb : Below W.heap.size W w1) : (∀ b o, b < W.heap.size → w1.cell? ⟨b, o, none⟩ = W.cell? ⟨b, o, none⟩) ∧ (∀ b o, b < W.heap.size → w1.frozen? ⟨b, o, none⟩ = W.frozen? ⟨b, o, none⟩) :=
  ⟨fun b o h => hb.cell (p := ⟨b, o, none⟩) h, fun b o h => hb.frozen (p := ⟨b, o, none⟩) h⟩

/-- In the world W the block b holds the value (k, n, s). -/
structure At (W : World) (b : Nat) (k n : Int) (s : ByteArray) : Prop where
  c0 : W.cell? ⟨b, 0, none⟩ = some (.int .i64 k)
  c1 : W.cell? ⟨b, 1, none⟩ = some (.int .i64 n)
  c2 : W.cell? ⟨b, 2, none⟩ = some (.string s)
theorem at_new (w : World) (k n : Int) (s : ByteArray) : At (w.alloc (vcells k n s)) w.heap.size k n s := by
  refine ⟨?_, ?_, ?_⟩ <;> simp [go_sem]
theorem at_new1 (w : World) (o : Obj) (k n : Int) (s : ByteArray) : At ((w.alloc o).alloc (vcells k n s)) (w.heap.size + 1) k n s := by
  have h := at_new (w.alloc o) k n s
  simpa using h
theorem At.below {W W' : World} {b : Nat} {k n : Int} {s : ByteArray} (h : At W b k n s) (hb : Below W.heap.size W W') : At W' b k n s :=
  have lt := block_lt_of_cell h.c0
  ⟨(hb.cell (p := ⟨b, 0, none⟩) lt).trans h.c0, (hb.cell (p := ⟨b, 1, none⟩) lt).trans h.c1, (hb.cell (p := ⟨b, 2, none⟩) lt).trans h.c2⟩
theorem At.alloc {W : World} {b : Nat} {k n : Int} {s : ByteArray} (h : At W b k n s) (o : Obj) : At (W.alloc o) b k n s := h.below (below1 W o)

set_option maxHeartbeats 400000 in
theorem key_no (k n : Int) (s : ByteArray) (w : World) (h : k = 0 ∨ k < 0 ∨ 7 < k) :
    Calls Tryd.prog 10 #[V k n s] w fun e w' => e = .returned (.tuple #[V 0 0 noS, .int .i64 15]) ∧ Below w.heap.size w w' := by
  rcases h with rfl | h | h
  · go_enter Tryd.func10, Tryd.ntmps10
    go_wp2
    exact bodyPost_ret (v := .tuple #[V 0 0 noS, .int .i64 15]) (by simp [results, Tryd.results10, go_sem]) rfl ⟨rfl, below2 _ _ _⟩
  · have g0 : (k == 0) = false := by simp; omega
    go_enter Tryd.func10, Tryd.ntmps10
    go_wp2
    exact bodyPost_ret (v := .tuple #[V 0 0 noS, .int .i64 15]) (by simp [results, Tryd.results10, go_sem]) rfl ⟨rfl, below3 _ _ _ _⟩
  · have g0 : (k == 0) = false := by simp; omega
    have g1 : decide (k < 0) = false := by simp; omega
    go_enter Tryd.func10, Tryd.ntmps10
    go_wp2
    exact bodyPost_ret (v := .tuple #[V 0 0 noS, .int .i64 15]) (by simp [results, Tryd.results10, go_sem]) rfl ⟨rfl, below3 _ _ _ _⟩

set_option maxHeartbeats 400000 in
theorem key_yes (k n : Int) (s : ByteArray) (w : World) (h1 : 1 ≤ k) (h2 : k ≤ 7) :
    Calls Tryd.prog 10 #[V k n s] w fun e w' => e = .returned (.tuple #[V (ownK k) (ownN k n) (ownS k s), .int .i64 0]) ∧ Below w.heap.size w w' := by
  have g0 : (k == 0) = false := by simp; omega
  have g1 : decide (k < 0) = false := by simp; omega
  have g2 : decide (7 < k) = false := by simp; omega
  go_enter Tryd.func10, Tryd.ntmps10
  go_wp2_with (first | (go_at_call 18; refine (own_any _ _ _ _).mono ?_; rintro e w' ⟨rfl, hb⟩; obtain ⟨hc, hf⟩ := bcell hb) | go_in)
  obtain ⟨c0, c1, c2⟩ : At w' (w.heap.size + 1) 0 0 noS := ((at_new1 w (vcells k n s) 0 0 noS).alloc (vcells k n s)).below hb
  refine bodyPost_ret (v := .tuple #[V (ownK k) (ownN k n) (ownS k s), .int .i64 0]) (by simp [results, Tryd.results10, go_sem, c0, c1, c2]) rfl ⟨rfl, ?_⟩
  have hB : Below w.heap.size w w' := (below3 w _ _ _).trans (hb.mono (by simp; omega))
  exact ((hB.setCell (by simp) _).setCell (by simp) _).setCell (by simp) _

theorem typ_ne (k : Int) : (typB k == noS) = strB k := by
  rcases kinds k with rfl | rfl | rfl | rfl | rfl | rfl | rfl | rfl | h | h
  iterate 8 · decide +kernel
  all_goals
    have e : typB k = noS := by unfold typB; repeat rw [if_neg (by omega)]
    have e0 : strB k = true := by simp [strB]; omega
    rw [e, e0]; decide +kernel

def lesO (k j : Int) : Bool := decide (k = j) && (decide (k = 2) || decide (k = 3))
def lesB (k n : Int) (s : ByteArray) (j m : Int) (t : ByteArray) : Bool :=
  decide (k = j) && ((decide (k = 2) && decide (n < m)) || (decide (k = 3) && Op.bytesLess s.toList t.toList))

set_option maxHeartbeats 400000 in
theorem less_any (k n j m : Int) (s t : ByteArray) (w : World) :
    Calls Tryd.prog 20 #[V k n s, V j m t] w fun e w' => e = .returned (.tuple #[.bool (lesB k n s j m t), .bool (lesO k j)]) ∧ Below w.heap.size w w' := by
  by_cases h : k = j
  · subst h
    by_cases h2 : k = 2
    · subst h2
      have e : lesB 2 n s 2 m t = decide (n < m) := by simp [lesB]
      have e' : lesO 2 2 = true := rfl
      rw [e, e']
      clear e e'
      go_enter Tryd.func20, Tryd.ntmps20
      go_wp2
      go_ret2
      exact ⟨rfl, below2 _ _ _⟩
    · by_cases h3 : k = 3
      · subst h3
        have e : lesB 3 n s 3 m t = Op.bytesLess s.toList t.toList := by simp [lesB]
        have e' : lesO 3 3 = true := rfl
        rw [e, e']
        clear e e' h2
        go_enter Tryd.func20, Tryd.ntmps20
        go_wp2
        go_ret2
        exact ⟨rfl, below2 _ _ _⟩
      · have e : lesB k n s k m t = false := by simp [lesB, h2, h3]
        have e' : lesO k k = false := by simp [lesO, h2, h3]
        rw [e, e']
        have g1 : (k == 2) = false := by simpa using h2
        have g2 : (k == 3) = false := by simpa using h3
        clear e e' h2 h3
        go_enter Tryd.func20, Tryd.ntmps20
        go_wp2
        go_ret2
        exact ⟨rfl, below2 _ _ _⟩
  · have e : lesB k n s j m t = false := by simp [lesB, h]
    have e' : lesO k j = false := by simp [lesO, h]
    rw [e, e']
    have g1 : (k != j) = true := by simpa using h
    clear e e' h
    go_enter Tryd.func20, Tryd.ntmps20
    go_wp2
    go_ret2
    exact ⟨rfl, below2 _ _ _⟩

end Go.Proofs.YtodlamblemmckaaDoor
