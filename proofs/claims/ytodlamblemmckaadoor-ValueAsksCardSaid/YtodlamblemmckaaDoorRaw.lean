/- value.Raw, value.Print and the table that Print reads, told as plain functions of the fields; Print asks that the table of powers lies as the program's text lays it and that the number is an int64. -/
import Derived.Test.YtodlamblemmckaaDoorVal
import Derived.Test.YtodlamblemmckaaDoorShelf
import Derived.Lib.LaidTab
namespace Go.Proofs.YtodlamblemmckaaDoor
open Go.RowKit Go.Sort

def rawB (k n : Int) (s : ByteArray) (j m : Int) (t : ByteArray) : Bool :=
  decide (k = j ∧ strB k = false ∧ ownN k n = ownN j m ∧ (ownS k s).toList = (ownS j t).toList)

set_option maxHeartbeats 800000 in
theorem raw_same (k n m : Int) (s t : ByteArray) (w : World) (h : strB k = false) :
    Calls Tryd.prog 22 #[V k n s, V k m t] w fun e w' => e = .returned (.bool (rawB k n s k m t)) ∧ Below w.heap.size w w' := by
  have h1 : decide (k < 0) = false := by simp [strB] at h; simp; omega
  have h2 : decide (7 < k) = false := by simp [strB] at h; simp; omega
  by_cases hN : ownN k n = ownN k m
  · by_cases hS : (ownS k s).toList = (ownS k t).toList
    · have e : rawB k n s k m t = true := by simp [rawB, h, hN, hS]
      rw [e]
      clear e h
      go_enter Tryd.func22, Tryd.ntmps22
      go_wp2_with go_in
      generalize hW : (((w.alloc (vcells k n s)).alloc (vcells k m t)).alloc (vcells k n s)) = W
      have hA : At W w.heap.size k n s := by subst hW; exact ((at_new w k n s).alloc _).alloc _
      have hD : At W (w.heap.size + 1) k m t := by subst hW; exact (at_new1 w (vcells k n s) k m t).alloc _
      have HB : Hid (Below w.heap.size w W) := by subst hW; exact below3 _ _ _ _
      clear hW
      have c0 := cell_regrown hA.c0; have c1 := cell_regrown hA.c1; have c2 := cell_regrown hA.c2
      have d0 := cell_regrown hD.c0; have d1 := cell_regrown hD.c1; have d2 := cell_regrown hD.c2
      clear hA hD
      refine wp_region_quiet_below (by kernel_rfl) (by kernel_rfl) ?_
      repeat (first | go_big_quiet_step (exact Calls.regrown_of (own_any _ _ _ _)) | quiet_step (exact Calls.regrown_of (own_any _ _ _ _)))
      refine wpQuiet_nil ?_
      intro _ hw'
      obtain ⟨⟨dq, osq⟩, hw''⟩ := hw'
      subst hw''
      go_wp2
      go_ret
      exact ⟨rfl, HB.out.trans ((below_regrown W dq osq).mono HB.out.size)⟩
    · have e : rawB k n s k m t = false := by simp [rawB, h, hN, hS]
      rw [e]
      clear e h
      go_enter Tryd.func22, Tryd.ntmps22
      go_wp2_with go_in
      generalize hW : (((w.alloc (vcells k n s)).alloc (vcells k m t)).alloc (vcells k n s)) = W
      have hA : At W w.heap.size k n s := by subst hW; exact ((at_new w k n s).alloc _).alloc _
      have hD : At W (w.heap.size + 1) k m t := by subst hW; exact (at_new1 w (vcells k n s) k m t).alloc _
      have HB : Hid (Below w.heap.size w W) := by subst hW; exact below3 _ _ _ _
      clear hW
      have c0 := cell_regrown hA.c0; have c1 := cell_regrown hA.c1; have c2 := cell_regrown hA.c2
      have d0 := cell_regrown hD.c0; have d1 := cell_regrown hD.c1; have d2 := cell_regrown hD.c2
      clear hA hD
      refine wp_region_quiet_below (by kernel_rfl) (by kernel_rfl) ?_
      repeat (first | go_big_quiet_step (exact Calls.regrown_of (own_any _ _ _ _)) | quiet_step (exact Calls.regrown_of (own_any _ _ _ _)))
      refine wpQuiet_nil ?_
      intro _ hw'
      obtain ⟨⟨dq, osq⟩, hw''⟩ := hw'
      subst hw''
      go_wp2
      go_ret
      exact ⟨rfl, HB.out.trans ((below_regrown W dq osq).mono HB.out.size)⟩
  · have e : rawB k n s k m t = false := by simp [rawB, h, hN]
    rw [e]
    clear e h
    go_enter Tryd.func22, Tryd.ntmps22
    go_wp2_with go_in
    generalize hW : (((w.alloc (vcells k n s)).alloc (vcells k m t)).alloc (vcells k n s)) = W
    have hA : At W w.heap.size k n s := by subst hW; exact ((at_new w k n s).alloc _).alloc _
    have hD : At W (w.heap.size + 1) k m t := by subst hW; exact (at_new1 w (vcells k n s) k m t).alloc _
    have HB : Hid (Below w.heap.size w W) := by subst hW; exact below3 _ _ _ _
    clear hW
    have c0 := cell_regrown hA.c0; have c1 := cell_regrown hA.c1; have c2 := cell_regrown hA.c2
    have d0 := cell_regrown hD.c0; have d1 := cell_regrown hD.c1; have d2 := cell_regrown hD.c2
    clear hA hD
    refine wp_region_quiet_below (by kernel_rfl) (by kernel_rfl) ?_
    repeat (first | go_big_quiet_step (exact Calls.regrown_of (own_any _ _ _ _)) | quiet_step (exact Calls.regrown_of (own_any _ _ _ _)))
    refine wpQuiet_nil ?_
    intro _ hw'
    obtain ⟨⟨dq, osq⟩, hw''⟩ := hw'
    subst hw''
    go_wp2
    go_ret
    exact ⟨rfl, HB.out.trans ((below_regrown W dq osq).mono HB.out.size)⟩

set_option maxHeartbeats 400000 in
theorem raw_any (k n : Int) (s : ByteArray) (j m : Int) (t : ByteArray) (w : World) :
    Calls Tryd.prog 22 #[V k n s, V j m t] w fun e w' => e = .returned (.bool (rawB k n s j m t)) ∧ Below w.heap.size w w' := by
  by_cases h : k = j
  · subst h
    cases hs : strB k
    · exact raw_same k n m s t w hs
    · have e : rawB k n s k m t = false := by simp [rawB, hs]
      rw [e]
      by_cases h1 : k < 0
      · clear hs e
        go_enter Tryd.func22, Tryd.ntmps22
        go_wp2
        go_ret
        exact ⟨rfl, below3 _ _ _ _⟩
      · have h2 : decide (k < 0) = false := by simpa using h1
        have h3 : 7 < k := by simp [strB, h2] at hs; exact hs
        clear hs e
        go_enter Tryd.func22, Tryd.ntmps22
        go_wp2
        go_ret
        exact ⟨rfl, below3 _ _ _ _⟩
  · have e : rawB k n s j m t = false := by simp [rawB, h]
    rw [e]
    have g : (k != j) = true := by simpa using h
    clear e h
    go_enter Tryd.func22, Tryd.ntmps22
    go_wp2
    go_ret
    exact ⟨rfl, below2 _ _ _⟩

/-- The table of the powers of ten lies as the program's text lays it. -/
def Tab (w : World) : Prop := Lib.TabIs Tryd.prog w "internal/strconv.uint64pow10" .u64 Lib.pow10Tab
theorem Tab.below {w w' : World} (h : Tab w) (hb : Below w.heap.size w w') : Tab w' := by
  have hgn : Tryd.prog.globalNamed "internal/strconv.uint64pow10" = some 0 := by kernel_rfl
  unfold Tab Lib.TabIs World.var? at h ⊢
  rw [hgn] at h ⊢
  simp only [Option.bind_some] at h ⊢
  have hlt : 0 < w.heap.size := by
    rcases Nat.lt_or_ge 0 w.heap.size with h' | h'
    · exact h'
    · rw [Array.getElem?_eq_none h'] at h; cases h
  rw [hb.block 0 hlt]
  exact h

theorem below_grow (w : World) (k : Nat) (os : Array Obj) : Below w.heap.size w (grow (w.drewN k) os) :=
  ⟨rfl, rfl, rfl, by simp [World.drewN], fun i hi => by rw [heap_grow_old (w.drewN k) os hi]; rfl⟩

def prnB (k n : Int) (s : ByteArray) : ByteArray :=
  if k = 1 then (if n = 0 then ⟨#[102, 97, 108, 115, 101]⟩ else ⟨#[116, 114, 117, 101]⟩) else if k = 2 then ⟨(Lib.itoa n).toArray⟩ else if k = 3 then s else typB k

set_option maxHeartbeats 400000 in
theorem print_any (k n : Int) (s : ByteArray) (w : World) (hT : Tab w) (hn0 : -9223372036854775808 ≤ n) (hn1 : n ≤ 9223372036854775807) :
    Calls Tryd.prog 16 #[V k n s] w fun e w' => e = .returned (.string (prnB k n s)) ∧ Below w.heap.size w w' := by
  by_cases h1 : k = 1
  · subst h1
    by_cases h : n = 0
    · subst h
      clear hT hn0 hn1
      go_enter Tryd.func16, Tryd.ntmps16
      go_wp2_with (go_at_call 29; refine (Tryd.strconv_FormatBool _ _).mono ?_; rintro e w' ⟨rfl, rfl⟩)
      go_ret
      exact ⟨rfl, below1 _ _⟩
    · have e : prnB 1 n s = ⟨#[116, 114, 117, 101]⟩ := by simp [prnB, h]
      rw [e]
      have g : (n != 0) = true := by simpa using h
      clear e h hT hn0 hn1
      go_enter Tryd.func16, Tryd.ntmps16
      go_wp2_with (go_at_call 29; refine (Tryd.strconv_FormatBool _ _).mono ?_; rintro e w' ⟨rfl, rfl⟩)
      go_ret
      exact ⟨rfl, below1 _ _⟩
  · by_cases h2 : k = 2
    · subst h2
      have e : prnB 2 n s = ⟨(Lib.itoa n).toArray⟩ := by simp [prnB]
      rw [e]
      have hT' : Hid (Tab (w.alloc (vcells 2 n s))) := hT.below (below1 _ _)
      have H0 := Lib.hid hn0
      have H1 := Lib.hid hn1
      clear e h1 hT hn0 hn1
      go_enter Tryd.func16, Tryd.ntmps16
      go_wp2_with (go_at_call 30; refine (Tryd.strconv_FormatInt_10 n H0.out H1.out _ hT'.out).mono ?_; rintro e w' ⟨rfl, kk, os, rfl⟩)
      go_ret
      exact ⟨rfl, (below1 _ _).trans ((below_grow _ kk os).mono (below1 _ _).size)⟩
    · by_cases h3 : k = 3
      · subst h3
        have e : prnB 3 n s = s := by simp [prnB]
        rw [e]
        clear e h1 h2 hT hn0 hn1
        go_enter Tryd.func16, Tryd.ntmps16
        go_wp2
        go_ret
        exact ⟨rfl, below1 _ _⟩
      · have e : prnB k n s = typB k := by simp [prnB, h1, h2, h3]
        rw [e]
        have g1 : (k == 1) = false := by simpa using h1
        have g2 : (k == 2) = false := by simpa using h2
        have g3 : (k == 3) = false := by simpa using h3
        clear e h1 h2 h3 hT hn0 hn1
        go_enter Tryd.func16, Tryd.ntmps16
        go_wp2_with (go_at_call 14; refine (type_any _ _ _ _).mono ?_; rintro e w' ⟨rfl, hb⟩)
        go_ret
        exact ⟨rfl, (below1 _ _).trans (hb.mono (below1 _ _).size)⟩
end Go.Proofs.YtodlamblemmckaaDoor
