/- Parts of the proof: Qo, Qi, Qj, Qk, Ql. -/
import Derived.Test.YtfpeecjafccfjaaGreatDoorK09
namespace Go.Proofs.YtfpeecjafccfjaaGreatDoor
open Go.RowKit
theorem isW_cases {s : List UInt8} {t : TkP} (h : isW s t = true) : (∃ l n, t = (2, l, n, s)) ∨ (∃ l n, t = (5, l, n, s)) := by
  obtain ⟨t0, t1, t2, t3⟩ := t
  unfold isW at h
  rw [Bool.and_eq_true, Bool.or_eq_true, decide_eq_true_eq, decide_eq_true_eq, decide_eq_true_eq] at h
  obtain ⟨h1, h2⟩ := h
  dsimp only at h1 h2
  subst h2
  rcases h1 with rfl | rfl
  · exact .inl ⟨t1, t2, rfl⟩
  · exact .inr ⟨t1, t2, rfl⟩
def binN (t : TkP) : Int := match binO t with
  | some o => o.1
  | none => 0
def unaN (t : TkP) : Int := match unaO t with
  | some o => o
  | none => 0
def NumPost (k : Int) (w : World) (e : Ending) (w' : World) : Prop := e = .returned (.int .i64 k) ∧ w' = w
set_option maxHeartbeats 2000000 in
theorem binary_1 (t : TkP) (w : World) (hq : isW [43] t = true) : Calls Tryz.prog 172 #[.string (wordS t)] w (NumPost 1 w) := by
  have g0 : ((wordS t).toList == [43]) = true := word_is (s := [43]) (by decide) t hq
  generalize wordS t = Y at *
  clear hq
  go_enter Tryz.func172, Tryz.ntmps172
  go_wp2
  go_ret
  exact ⟨rfl, rfl⟩
set_option maxHeartbeats 2000000 in
theorem binary_2 (t : TkP) (w : World) (hq : isW [45] t = true) : Calls Tryz.prog 172 #[.string (wordS t)] w (NumPost 2 w) := by
  have g0 : ((wordS t).toList == [43]) = false := word_is (s := [43]) (by decide) t (isW_diff' hq (by decide))
  have g1 : ((wordS t).toList == [45]) = true := word_is (s := [45]) (by decide) t hq
  generalize wordS t = Y at *
  clear hq
  go_enter Tryz.func172, Tryz.ntmps172
  go_wp2
  go_ret
  exact ⟨rfl, rfl⟩
set_option maxHeartbeats 2000000 in
theorem binary_3 (t : TkP) (w : World) (hq : isW [42] t = true) : Calls Tryz.prog 172 #[.string (wordS t)] w (NumPost 3 w) := by
  have g0 : ((wordS t).toList == [43]) = false := word_is (s := [43]) (by decide) t (isW_diff' hq (by decide))
  have g1 : ((wordS t).toList == [45]) = false := word_is (s := [45]) (by decide) t (isW_diff' hq (by decide))
  have g2 : ((wordS t).toList == [42]) = true := word_is (s := [42]) (by decide) t hq
  generalize wordS t = Y at *
  clear hq
  go_enter Tryz.func172, Tryz.ntmps172
  go_wp2
  go_ret
  exact ⟨rfl, rfl⟩
set_option maxHeartbeats 2000000 in
theorem binary_4 (t : TkP) (w : World) (hq : isW [47, 47] t = true) : Calls Tryz.prog 172 #[.string (wordS t)] w (NumPost 4 w) := by
  have g0 : ((wordS t).toList == [43]) = false := word_is (s := [43]) (by decide) t (isW_diff' hq (by decide))
  have g1 : ((wordS t).toList == [45]) = false := word_is (s := [45]) (by decide) t (isW_diff' hq (by decide))
  have g2 : ((wordS t).toList == [42]) = false := word_is (s := [42]) (by decide) t (isW_diff' hq (by decide))
  have g3 : ((wordS t).toList == [47, 47]) = true := word_is (s := [47, 47]) (by decide) t hq
  generalize wordS t = Y at *
  clear hq
  go_enter Tryz.func172, Tryz.ntmps172
  go_wp2
  go_ret
  exact ⟨rfl, rfl⟩
set_option maxHeartbeats 2000000 in
theorem binary_5 (t : TkP) (w : World) (hq : isW [37] t = true) : Calls Tryz.prog 172 #[.string (wordS t)] w (NumPost 5 w) := by
  have g0 : ((wordS t).toList == [43]) = false := word_is (s := [43]) (by decide) t (isW_diff' hq (by decide))
  have g1 : ((wordS t).toList == [45]) = false := word_is (s := [45]) (by decide) t (isW_diff' hq (by decide))
  have g2 : ((wordS t).toList == [42]) = false := word_is (s := [42]) (by decide) t (isW_diff' hq (by decide))
  have g3 : ((wordS t).toList == [47, 47]) = false := word_is (s := [47, 47]) (by decide) t (isW_diff' hq (by decide))
  have g4 : ((wordS t).toList == [37]) = true := word_is (s := [37]) (by decide) t hq
  generalize wordS t = Y at *
  clear hq
  go_enter Tryz.func172, Tryz.ntmps172
  go_wp2
  go_ret
  exact ⟨rfl, rfl⟩
set_option maxHeartbeats 2000000 in
theorem binary_6 (t : TkP) (w : World) (hq : isW [38] t = true) : Calls Tryz.prog 172 #[.string (wordS t)] w (NumPost 6 w) := by
  have g0 : ((wordS t).toList == [43]) = false := word_is (s := [43]) (by decide) t (isW_diff' hq (by decide))
  have g1 : ((wordS t).toList == [45]) = false := word_is (s := [45]) (by decide) t (isW_diff' hq (by decide))
  have g2 : ((wordS t).toList == [42]) = false := word_is (s := [42]) (by decide) t (isW_diff' hq (by decide))
  have g3 : ((wordS t).toList == [47, 47]) = false := word_is (s := [47, 47]) (by decide) t (isW_diff' hq (by decide))
  have g4 : ((wordS t).toList == [37]) = false := word_is (s := [37]) (by decide) t (isW_diff' hq (by decide))
  have g5 : ((wordS t).toList == [38]) = true := word_is (s := [38]) (by decide) t hq
  generalize wordS t = Y at *
  clear hq
  go_enter Tryz.func172, Tryz.ntmps172
  go_wp2
  go_ret
  exact ⟨rfl, rfl⟩
set_option maxHeartbeats 2000000 in
theorem binary_7 (t : TkP) (w : World) (hq : isW [124] t = true) : Calls Tryz.prog 172 #[.string (wordS t)] w (NumPost 7 w) := by
  have g0 : ((wordS t).toList == [43]) = false := word_is (s := [43]) (by decide) t (isW_diff' hq (by decide))
  have g1 : ((wordS t).toList == [45]) = false := word_is (s := [45]) (by decide) t (isW_diff' hq (by decide))
  have g2 : ((wordS t).toList == [42]) = false := word_is (s := [42]) (by decide) t (isW_diff' hq (by decide))
  have g3 : ((wordS t).toList == [47, 47]) = false := word_is (s := [47, 47]) (by decide) t (isW_diff' hq (by decide))
  have g4 : ((wordS t).toList == [37]) = false := word_is (s := [37]) (by decide) t (isW_diff' hq (by decide))
  have g5 : ((wordS t).toList == [38]) = false := word_is (s := [38]) (by decide) t (isW_diff' hq (by decide))
  have g6 : ((wordS t).toList == [124]) = true := word_is (s := [124]) (by decide) t hq
  generalize wordS t = Y at *
  clear hq
  go_enter Tryz.func172, Tryz.ntmps172
  go_wp2
  go_ret
  exact ⟨rfl, rfl⟩
set_option maxHeartbeats 2000000 in
theorem binary_8 (t : TkP) (w : World) (hq : isW [126] t = true) : Calls Tryz.prog 172 #[.string (wordS t)] w (NumPost 8 w) := by
  have g0 : ((wordS t).toList == [43]) = false := word_is (s := [43]) (by decide) t (isW_diff' hq (by decide))
  have g1 : ((wordS t).toList == [45]) = false := word_is (s := [45]) (by decide) t (isW_diff' hq (by decide))
  have g2 : ((wordS t).toList == [42]) = false := word_is (s := [42]) (by decide) t (isW_diff' hq (by decide))
  have g3 : ((wordS t).toList == [47, 47]) = false := word_is (s := [47, 47]) (by decide) t (isW_diff' hq (by decide))
  have g4 : ((wordS t).toList == [37]) = false := word_is (s := [37]) (by decide) t (isW_diff' hq (by decide))
  have g5 : ((wordS t).toList == [38]) = false := word_is (s := [38]) (by decide) t (isW_diff' hq (by decide))
  have g6 : ((wordS t).toList == [124]) = false := word_is (s := [124]) (by decide) t (isW_diff' hq (by decide))
  have g7 : ((wordS t).toList == [126]) = true := word_is (s := [126]) (by decide) t hq
  generalize wordS t = Y at *
  clear hq
  go_enter Tryz.func172, Tryz.ntmps172
  go_wp2
  go_ret
  exact ⟨rfl, rfl⟩
set_option maxHeartbeats 2000000 in
theorem binary_9 (t : TkP) (w : World) (hq : isW [60, 60] t = true) : Calls Tryz.prog 172 #[.string (wordS t)] w (NumPost 9 w) := by
  have g0 : ((wordS t).toList == [43]) = false := word_is (s := [43]) (by decide) t (isW_diff' hq (by decide))
  have g1 : ((wordS t).toList == [45]) = false := word_is (s := [45]) (by decide) t (isW_diff' hq (by decide))
  have g2 : ((wordS t).toList == [42]) = false := word_is (s := [42]) (by decide) t (isW_diff' hq (by decide))
  have g3 : ((wordS t).toList == [47, 47]) = false := word_is (s := [47, 47]) (by decide) t (isW_diff' hq (by decide))
  have g4 : ((wordS t).toList == [37]) = false := word_is (s := [37]) (by decide) t (isW_diff' hq (by decide))
  have g5 : ((wordS t).toList == [38]) = false := word_is (s := [38]) (by decide) t (isW_diff' hq (by decide))
  have g6 : ((wordS t).toList == [124]) = false := word_is (s := [124]) (by decide) t (isW_diff' hq (by decide))
  have g7 : ((wordS t).toList == [126]) = false := word_is (s := [126]) (by decide) t (isW_diff' hq (by decide))
  have g8 : ((wordS t).toList == [60, 60]) = true := word_is (s := [60, 60]) (by decide) t hq
  generalize wordS t = Y at *
  clear hq
  go_enter Tryz.func172, Tryz.ntmps172
  go_wp2
  go_ret
  exact ⟨rfl, rfl⟩
set_option maxHeartbeats 2000000 in
theorem binary_10 (t : TkP) (w : World) (hq : isW [62, 62] t = true) : Calls Tryz.prog 172 #[.string (wordS t)] w (NumPost 10 w) := by
  have g0 : ((wordS t).toList == [43]) = false := word_is (s := [43]) (by decide) t (isW_diff' hq (by decide))
  have g1 : ((wordS t).toList == [45]) = false := word_is (s := [45]) (by decide) t (isW_diff' hq (by decide))
  have g2 : ((wordS t).toList == [42]) = false := word_is (s := [42]) (by decide) t (isW_diff' hq (by decide))
  have g3 : ((wordS t).toList == [47, 47]) = false := word_is (s := [47, 47]) (by decide) t (isW_diff' hq (by decide))
  have g4 : ((wordS t).toList == [37]) = false := word_is (s := [37]) (by decide) t (isW_diff' hq (by decide))
  have g5 : ((wordS t).toList == [38]) = false := word_is (s := [38]) (by decide) t (isW_diff' hq (by decide))
  have g6 : ((wordS t).toList == [124]) = false := word_is (s := [124]) (by decide) t (isW_diff' hq (by decide))
  have g7 : ((wordS t).toList == [126]) = false := word_is (s := [126]) (by decide) t (isW_diff' hq (by decide))
  have g8 : ((wordS t).toList == [60, 60]) = false := word_is (s := [60, 60]) (by decide) t (isW_diff' hq (by decide))
  have g9 : ((wordS t).toList == [62, 62]) = true := word_is (s := [62, 62]) (by decide) t hq
  generalize wordS t = Y at *
  clear hq
  go_enter Tryz.func172, Tryz.ntmps172
  go_wp2
  go_ret
  exact ⟨rfl, rfl⟩
set_option maxHeartbeats 2000000 in
theorem binary_11 (t : TkP) (w : World) (hq : isW [46, 46] t = true) : Calls Tryz.prog 172 #[.string (wordS t)] w (NumPost 11 w) := by
  have g0 : ((wordS t).toList == [43]) = false := word_is (s := [43]) (by decide) t (isW_diff' hq (by decide))
  have g1 : ((wordS t).toList == [45]) = false := word_is (s := [45]) (by decide) t (isW_diff' hq (by decide))
  have g2 : ((wordS t).toList == [42]) = false := word_is (s := [42]) (by decide) t (isW_diff' hq (by decide))
  have g3 : ((wordS t).toList == [47, 47]) = false := word_is (s := [47, 47]) (by decide) t (isW_diff' hq (by decide))
  have g4 : ((wordS t).toList == [37]) = false := word_is (s := [37]) (by decide) t (isW_diff' hq (by decide))
  have g5 : ((wordS t).toList == [38]) = false := word_is (s := [38]) (by decide) t (isW_diff' hq (by decide))
  have g6 : ((wordS t).toList == [124]) = false := word_is (s := [124]) (by decide) t (isW_diff' hq (by decide))
  have g7 : ((wordS t).toList == [126]) = false := word_is (s := [126]) (by decide) t (isW_diff' hq (by decide))
  have g8 : ((wordS t).toList == [60, 60]) = false := word_is (s := [60, 60]) (by decide) t (isW_diff' hq (by decide))
  have g9 : ((wordS t).toList == [62, 62]) = false := word_is (s := [62, 62]) (by decide) t (isW_diff' hq (by decide))
  have g10 : ((wordS t).toList == [46, 46]) = true := word_is (s := [46, 46]) (by decide) t hq
  generalize wordS t = Y at *
  clear hq
  go_enter Tryz.func172, Tryz.ntmps172
  go_wp2
  go_ret
  exact ⟨rfl, rfl⟩
set_option maxHeartbeats 2000000 in
theorem binary_12 (t : TkP) (w : World) (hq : isW [61, 61] t = true) : Calls Tryz.prog 172 #[.string (wordS t)] w (NumPost 12 w) := by
  have g0 : ((wordS t).toList == [43]) = false := word_is (s := [43]) (by decide) t (isW_diff' hq (by decide))
  have g1 : ((wordS t).toList == [45]) = false := word_is (s := [45]) (by decide) t (isW_diff' hq (by decide))
  have g2 : ((wordS t).toList == [42]) = false := word_is (s := [42]) (by decide) t (isW_diff' hq (by decide))
  have g3 : ((wordS t).toList == [47, 47]) = false := word_is (s := [47, 47]) (by decide) t (isW_diff' hq (by decide))
  have g4 : ((wordS t).toList == [37]) = false := word_is (s := [37]) (by decide) t (isW_diff' hq (by decide))
  have g5 : ((wordS t).toList == [38]) = false := word_is (s := [38]) (by decide) t (isW_diff' hq (by decide))
  have g6 : ((wordS t).toList == [124]) = false := word_is (s := [124]) (by decide) t (isW_diff' hq (by decide))
  have g7 : ((wordS t).toList == [126]) = false := word_is (s := [126]) (by decide) t (isW_diff' hq (by decide))
  have g8 : ((wordS t).toList == [60, 60]) = false := word_is (s := [60, 60]) (by decide) t (isW_diff' hq (by decide))
  have g9 : ((wordS t).toList == [62, 62]) = false := word_is (s := [62, 62]) (by decide) t (isW_diff' hq (by decide))
  have g10 : ((wordS t).toList == [46, 46]) = false := word_is (s := [46, 46]) (by decide) t (isW_diff' hq (by decide))
  have g11 : ((wordS t).toList == [61, 61]) = true := word_is (s := [61, 61]) (by decide) t hq
  generalize wordS t = Y at *
  clear hq
  go_enter Tryz.func172, Tryz.ntmps172
  go_wp2
  go_ret
  exact ⟨rfl, rfl⟩
set_option maxHeartbeats 2000000 in
theorem binary_13 (t : TkP) (w : World) (hq : isW [126, 61] t = true) : Calls Tryz.prog 172 #[.string (wordS t)] w (NumPost 13 w) := by
  have g0 : ((wordS t).toList == [43]) = false := word_is (s := [43]) (by decide) t (isW_diff' hq (by decide))
  have g1 : ((wordS t).toList == [45]) = false := word_is (s := [45]) (by decide) t (isW_diff' hq (by decide))
  have g2 : ((wordS t).toList == [42]) = false := word_is (s := [42]) (by decide) t (isW_diff' hq (by decide))
  have g3 : ((wordS t).toList == [47, 47]) = false := word_is (s := [47, 47]) (by decide) t (isW_diff' hq (by decide))
  have g4 : ((wordS t).toList == [37]) = false := word_is (s := [37]) (by decide) t (isW_diff' hq (by decide))
  have g5 : ((wordS t).toList == [38]) = false := word_is (s := [38]) (by decide) t (isW_diff' hq (by decide))
  have g6 : ((wordS t).toList == [124]) = false := word_is (s := [124]) (by decide) t (isW_diff' hq (by decide))
  have g7 : ((wordS t).toList == [126]) = false := word_is (s := [126]) (by decide) t (isW_diff' hq (by decide))
  have g8 : ((wordS t).toList == [60, 60]) = false := word_is (s := [60, 60]) (by decide) t (isW_diff' hq (by decide))
  have g9 : ((wordS t).toList == [62, 62]) = false := word_is (s := [62, 62]) (by decide) t (isW_diff' hq (by decide))
  have g10 : ((wordS t).toList == [46, 46]) = false := word_is (s := [46, 46]) (by decide) t (isW_diff' hq (by decide))
  have g11 : ((wordS t).toList == [61, 61]) = false := word_is (s := [61, 61]) (by decide) t (isW_diff' hq (by decide))
  have g12 : ((wordS t).toList == [126, 61]) = true := word_is (s := [126, 61]) (by decide) t hq
  generalize wordS t = Y at *
  clear hq
  go_enter Tryz.func172, Tryz.ntmps172
  go_wp2
  go_ret
  exact ⟨rfl, rfl⟩
set_option maxHeartbeats 2000000 in
theorem binary_14 (t : TkP) (w : World) (hq : isW [60] t = true) : Calls Tryz.prog 172 #[.string (wordS t)] w (NumPost 14 w) := by
  have g0 : ((wordS t).toList == [43]) = false := word_is (s := [43]) (by decide) t (isW_diff' hq (by decide))
  have g1 : ((wordS t).toList == [45]) = false := word_is (s := [45]) (by decide) t (isW_diff' hq (by decide))
  have g2 : ((wordS t).toList == [42]) = false := word_is (s := [42]) (by decide) t (isW_diff' hq (by decide))
  have g3 : ((wordS t).toList == [47, 47]) = false := word_is (s := [47, 47]) (by decide) t (isW_diff' hq (by decide))
  have g4 : ((wordS t).toList == [37]) = false := word_is (s := [37]) (by decide) t (isW_diff' hq (by decide))
  have g5 : ((wordS t).toList == [38]) = false := word_is (s := [38]) (by decide) t (isW_diff' hq (by decide))
  have g6 : ((wordS t).toList == [124]) = false := word_is (s := [124]) (by decide) t (isW_diff' hq (by decide))
  have g7 : ((wordS t).toList == [126]) = false := word_is (s := [126]) (by decide) t (isW_diff' hq (by decide))
  have g8 : ((wordS t).toList == [60, 60]) = false := word_is (s := [60, 60]) (by decide) t (isW_diff' hq (by decide))
  have g9 : ((wordS t).toList == [62, 62]) = false := word_is (s := [62, 62]) (by decide) t (isW_diff' hq (by decide))
  have g10 : ((wordS t).toList == [46, 46]) = false := word_is (s := [46, 46]) (by decide) t (isW_diff' hq (by decide))
  have g11 : ((wordS t).toList == [61, 61]) = false := word_is (s := [61, 61]) (by decide) t (isW_diff' hq (by decide))
  have g12 : ((wordS t).toList == [126, 61]) = false := word_is (s := [126, 61]) (by decide) t (isW_diff' hq (by decide))
  have g13 : ((wordS t).toList == [60]) = true := word_is (s := [60]) (by decide) t hq
  generalize wordS t = Y at *
  clear hq
  go_enter Tryz.func172, Tryz.ntmps172
  go_wp2
  go_ret
  exact ⟨rfl, rfl⟩
set_option maxHeartbeats 2000000 in
theorem binary_15 (t : TkP) (w : World) (hq : isW [60, 61] t = true) : Calls Tryz.prog 172 #[.string (wordS t)] w (NumPost 15 w) := by
  have g0 : ((wordS t).toList == [43]) = false := word_is (s := [43]) (by decide) t (isW_diff' hq (by decide))
  have g1 : ((wordS t).toList == [45]) = false := word_is (s := [45]) (by decide) t (isW_diff' hq (by decide))
  have g2 : ((wordS t).toList == [42]) = false := word_is (s := [42]) (by decide) t (isW_diff' hq (by decide))
  have g3 : ((wordS t).toList == [47, 47]) = false := word_is (s := [47, 47]) (by decide) t (isW_diff' hq (by decide))
  have g4 : ((wordS t).toList == [37]) = false := word_is (s := [37]) (by decide) t (isW_diff' hq (by decide))
  have g5 : ((wordS t).toList == [38]) = false := word_is (s := [38]) (by decide) t (isW_diff' hq (by decide))
  have g6 : ((wordS t).toList == [124]) = false := word_is (s := [124]) (by decide) t (isW_diff' hq (by decide))
  have g7 : ((wordS t).toList == [126]) = false := word_is (s := [126]) (by decide) t (isW_diff' hq (by decide))
  have g8 : ((wordS t).toList == [60, 60]) = false := word_is (s := [60, 60]) (by decide) t (isW_diff' hq (by decide))
  have g9 : ((wordS t).toList == [62, 62]) = false := word_is (s := [62, 62]) (by decide) t (isW_diff' hq (by decide))
  have g10 : ((wordS t).toList == [46, 46]) = false := word_is (s := [46, 46]) (by decide) t (isW_diff' hq (by decide))
  have g11 : ((wordS t).toList == [61, 61]) = false := word_is (s := [61, 61]) (by decide) t (isW_diff' hq (by decide))
  have g12 : ((wordS t).toList == [126, 61]) = false := word_is (s := [126, 61]) (by decide) t (isW_diff' hq (by decide))
  have g13 : ((wordS t).toList == [60]) = false := word_is (s := [60]) (by decide) t (isW_diff' hq (by decide))
  have g14 : ((wordS t).toList == [60, 61]) = true := word_is (s := [60, 61]) (by decide) t hq
  generalize wordS t = Y at *
  clear hq
  go_enter Tryz.func172, Tryz.ntmps172
  go_wp2
  go_ret
  exact ⟨rfl, rfl⟩
set_option maxHeartbeats 2000000 in
theorem binary_16 (t : TkP) (w : World) (hq : isW [62] t = true) : Calls Tryz.prog 172 #[.string (wordS t)] w (NumPost 16 w) := by
  have g0 : ((wordS t).toList == [43]) = false := word_is (s := [43]) (by decide) t (isW_diff' hq (by decide))
  have g1 : ((wordS t).toList == [45]) = false := word_is (s := [45]) (by decide) t (isW_diff' hq (by decide))
  have g2 : ((wordS t).toList == [42]) = false := word_is (s := [42]) (by decide) t (isW_diff' hq (by decide))
  have g3 : ((wordS t).toList == [47, 47]) = false := word_is (s := [47, 47]) (by decide) t (isW_diff' hq (by decide))
  have g4 : ((wordS t).toList == [37]) = false := word_is (s := [37]) (by decide) t (isW_diff' hq (by decide))
  have g5 : ((wordS t).toList == [38]) = false := word_is (s := [38]) (by decide) t (isW_diff' hq (by decide))
  have g6 : ((wordS t).toList == [124]) = false := word_is (s := [124]) (by decide) t (isW_diff' hq (by decide))
  have g7 : ((wordS t).toList == [126]) = false := word_is (s := [126]) (by decide) t (isW_diff' hq (by decide))
  have g8 : ((wordS t).toList == [60, 60]) = false := word_is (s := [60, 60]) (by decide) t (isW_diff' hq (by decide))
  have g9 : ((wordS t).toList == [62, 62]) = false := word_is (s := [62, 62]) (by decide) t (isW_diff' hq (by decide))
  have g10 : ((wordS t).toList == [46, 46]) = false := word_is (s := [46, 46]) (by decide) t (isW_diff' hq (by decide))
  have g11 : ((wordS t).toList == [61, 61]) = false := word_is (s := [61, 61]) (by decide) t (isW_diff' hq (by decide))
  have g12 : ((wordS t).toList == [126, 61]) = false := word_is (s := [126, 61]) (by decide) t (isW_diff' hq (by decide))
  have g13 : ((wordS t).toList == [60]) = false := word_is (s := [60]) (by decide) t (isW_diff' hq (by decide))
  have g14 : ((wordS t).toList == [60, 61]) = false := word_is (s := [60, 61]) (by decide) t (isW_diff' hq (by decide))
  have g15 : ((wordS t).toList == [62]) = true := word_is (s := [62]) (by decide) t hq
  generalize wordS t = Y at *
  clear hq
  go_enter Tryz.func172, Tryz.ntmps172
  go_wp2
  go_ret
  exact ⟨rfl, rfl⟩
set_option maxHeartbeats 2000000 in
theorem binary_17 (t : TkP) (w : World) (hq : isW [62, 61] t = true) : Calls Tryz.prog 172 #[.string (wordS t)] w (NumPost 17 w) := by
  have g0 : ((wordS t).toList == [43]) = false := word_is (s := [43]) (by decide) t (isW_diff' hq (by decide))
  have g1 : ((wordS t).toList == [45]) = false := word_is (s := [45]) (by decide) t (isW_diff' hq (by decide))
  have g2 : ((wordS t).toList == [42]) = false := word_is (s := [42]) (by decide) t (isW_diff' hq (by decide))
  have g3 : ((wordS t).toList == [47, 47]) = false := word_is (s := [47, 47]) (by decide) t (isW_diff' hq (by decide))
  have g4 : ((wordS t).toList == [37]) = false := word_is (s := [37]) (by decide) t (isW_diff' hq (by decide))
  have g5 : ((wordS t).toList == [38]) = false := word_is (s := [38]) (by decide) t (isW_diff' hq (by decide))
  have g6 : ((wordS t).toList == [124]) = false := word_is (s := [124]) (by decide) t (isW_diff' hq (by decide))
  have g7 : ((wordS t).toList == [126]) = false := word_is (s := [126]) (by decide) t (isW_diff' hq (by decide))
  have g8 : ((wordS t).toList == [60, 60]) = false := word_is (s := [60, 60]) (by decide) t (isW_diff' hq (by decide))
  have g9 : ((wordS t).toList == [62, 62]) = false := word_is (s := [62, 62]) (by decide) t (isW_diff' hq (by decide))
  have g10 : ((wordS t).toList == [46, 46]) = false := word_is (s := [46, 46]) (by decide) t (isW_diff' hq (by decide))
  have g11 : ((wordS t).toList == [61, 61]) = false := word_is (s := [61, 61]) (by decide) t (isW_diff' hq (by decide))
  have g12 : ((wordS t).toList == [126, 61]) = false := word_is (s := [126, 61]) (by decide) t (isW_diff' hq (by decide))
  have g13 : ((wordS t).toList == [60]) = false := word_is (s := [60]) (by decide) t (isW_diff' hq (by decide))
  have g14 : ((wordS t).toList == [60, 61]) = false := word_is (s := [60, 61]) (by decide) t (isW_diff' hq (by decide))
  have g15 : ((wordS t).toList == [62]) = false := word_is (s := [62]) (by decide) t (isW_diff' hq (by decide))
  have g16 : ((wordS t).toList == [62, 61]) = true := word_is (s := [62, 61]) (by decide) t hq
  generalize wordS t = Y at *
  clear hq
  go_enter Tryz.func172, Tryz.ntmps172
  go_wp2
  go_ret
  exact ⟨rfl, rfl⟩
set_option maxHeartbeats 2000000 in
theorem binary_18 (t : TkP) (w : World) (hq : isW wAnd t = true) : Calls Tryz.prog 172 #[.string (wordS t)] w (NumPost 18 w) := by
  have g0 : ((wordS t).toList == [43]) = false := word_is (s := [43]) (by decide) t (isW_diff' hq (by decide))
  have g1 : ((wordS t).toList == [45]) = false := word_is (s := [45]) (by decide) t (isW_diff' hq (by decide))
  have g2 : ((wordS t).toList == [42]) = false := word_is (s := [42]) (by decide) t (isW_diff' hq (by decide))
  have g3 : ((wordS t).toList == [47, 47]) = false := word_is (s := [47, 47]) (by decide) t (isW_diff' hq (by decide))
  have g4 : ((wordS t).toList == [37]) = false := word_is (s := [37]) (by decide) t (isW_diff' hq (by decide))
  have g5 : ((wordS t).toList == [38]) = false := word_is (s := [38]) (by decide) t (isW_diff' hq (by decide))
  have g6 : ((wordS t).toList == [124]) = false := word_is (s := [124]) (by decide) t (isW_diff' hq (by decide))
  have g7 : ((wordS t).toList == [126]) = false := word_is (s := [126]) (by decide) t (isW_diff' hq (by decide))
  have g8 : ((wordS t).toList == [60, 60]) = false := word_is (s := [60, 60]) (by decide) t (isW_diff' hq (by decide))
  have g9 : ((wordS t).toList == [62, 62]) = false := word_is (s := [62, 62]) (by decide) t (isW_diff' hq (by decide))
  have g10 : ((wordS t).toList == [46, 46]) = false := word_is (s := [46, 46]) (by decide) t (isW_diff' hq (by decide))
  have g11 : ((wordS t).toList == [61, 61]) = false := word_is (s := [61, 61]) (by decide) t (isW_diff' hq (by decide))
  have g12 : ((wordS t).toList == [126, 61]) = false := word_is (s := [126, 61]) (by decide) t (isW_diff' hq (by decide))
  have g13 : ((wordS t).toList == [60]) = false := word_is (s := [60]) (by decide) t (isW_diff' hq (by decide))
  have g14 : ((wordS t).toList == [60, 61]) = false := word_is (s := [60, 61]) (by decide) t (isW_diff' hq (by decide))
  have g15 : ((wordS t).toList == [62]) = false := word_is (s := [62]) (by decide) t (isW_diff' hq (by decide))
  have g16 : ((wordS t).toList == [62, 61]) = false := word_is (s := [62, 61]) (by decide) t (isW_diff' hq (by decide))
  have g17 : ((wordS t).toList == [97, 110, 100]) = true := word_is (s := wAnd) (by decide) t hq
  generalize wordS t = Y at *
  clear hq
  go_enter Tryz.func172, Tryz.ntmps172
  go_wp2
  go_ret
  exact ⟨rfl, rfl⟩
set_option maxHeartbeats 2000000 in
theorem binary_19 (t : TkP) (w : World) (hq : isW wOr t = true) : Calls Tryz.prog 172 #[.string (wordS t)] w (NumPost 19 w) := by
  have g0 : ((wordS t).toList == [43]) = false := word_is (s := [43]) (by decide) t (isW_diff' hq (by decide))
  have g1 : ((wordS t).toList == [45]) = false := word_is (s := [45]) (by decide) t (isW_diff' hq (by decide))
  have g2 : ((wordS t).toList == [42]) = false := word_is (s := [42]) (by decide) t (isW_diff' hq (by decide))
  have g3 : ((wordS t).toList == [47, 47]) = false := word_is (s := [47, 47]) (by decide) t (isW_diff' hq (by decide))
  have g4 : ((wordS t).toList == [37]) = false := word_is (s := [37]) (by decide) t (isW_diff' hq (by decide))
  have g5 : ((wordS t).toList == [38]) = false := word_is (s := [38]) (by decide) t (isW_diff' hq (by decide))
  have g6 : ((wordS t).toList == [124]) = false := word_is (s := [124]) (by decide) t (isW_diff' hq (by decide))
  have g7 : ((wordS t).toList == [126]) = false := word_is (s := [126]) (by decide) t (isW_diff' hq (by decide))
  have g8 : ((wordS t).toList == [60, 60]) = false := word_is (s := [60, 60]) (by decide) t (isW_diff' hq (by decide))
  have g9 : ((wordS t).toList == [62, 62]) = false := word_is (s := [62, 62]) (by decide) t (isW_diff' hq (by decide))
  have g10 : ((wordS t).toList == [46, 46]) = false := word_is (s := [46, 46]) (by decide) t (isW_diff' hq (by decide))
  have g11 : ((wordS t).toList == [61, 61]) = false := word_is (s := [61, 61]) (by decide) t (isW_diff' hq (by decide))
  have g12 : ((wordS t).toList == [126, 61]) = false := word_is (s := [126, 61]) (by decide) t (isW_diff' hq (by decide))
  have g13 : ((wordS t).toList == [60]) = false := word_is (s := [60]) (by decide) t (isW_diff' hq (by decide))
  have g14 : ((wordS t).toList == [60, 61]) = false := word_is (s := [60, 61]) (by decide) t (isW_diff' hq (by decide))
  have g15 : ((wordS t).toList == [62]) = false := word_is (s := [62]) (by decide) t (isW_diff' hq (by decide))
  have g16 : ((wordS t).toList == [62, 61]) = false := word_is (s := [62, 61]) (by decide) t (isW_diff' hq (by decide))
  have g17 : ((wordS t).toList == [97, 110, 100]) = false := word_is (s := wAnd) (by decide) t (isW_diff' hq (by decide))
  have g18 : ((wordS t).toList == [111, 114]) = true := word_is (s := wOr) (by decide) t hq
  generalize wordS t = Y at *
  clear hq
  go_enter Tryz.func172, Tryz.ntmps172
  go_wp2
  go_ret
  exact ⟨rfl, rfl⟩
set_option maxHeartbeats 2000000 in
theorem binary_0 (t : TkP) (w : World) (q0 : isW [43] t = false) (q1 : isW [45] t = false) (q2 : isW [42] t = false) (q3 : isW [47, 47] t = false) (q4 : isW [37] t = false) (q5 : isW [38] t = false) (q6 : isW [124] t = false) (q7 : isW [126] t = false) (q8 : isW [60, 60] t = false) (q9 : isW [62, 62] t = false) (q10 : isW [46, 46] t = false) (q11 : isW [61, 61] t = false) (q12 : isW [126, 61] t = false) (q13 : isW [60] t = false) (q14 : isW [60, 61] t = false) (q15 : isW [62] t = false) (q16 : isW [62, 61] t = false) (q17 : isW wAnd t = false) (q18 : isW wOr t = false) : Calls Tryz.prog 172 #[.string (wordS t)] w (NumPost 0 w) := by
  have g0 : ((wordS t).toList == [43]) = false := word_is (s := [43]) (by decide) t q0
  have g1 : ((wordS t).toList == [45]) = false := word_is (s := [45]) (by decide) t q1
  have g2 : ((wordS t).toList == [42]) = false := word_is (s := [42]) (by decide) t q2
  have g3 : ((wordS t).toList == [47, 47]) = false := word_is (s := [47, 47]) (by decide) t q3
  have g4 : ((wordS t).toList == [37]) = false := word_is (s := [37]) (by decide) t q4
  have g5 : ((wordS t).toList == [38]) = false := word_is (s := [38]) (by decide) t q5
  have g6 : ((wordS t).toList == [124]) = false := word_is (s := [124]) (by decide) t q6
  have g7 : ((wordS t).toList == [126]) = false := word_is (s := [126]) (by decide) t q7
  have g8 : ((wordS t).toList == [60, 60]) = false := word_is (s := [60, 60]) (by decide) t q8
  have g9 : ((wordS t).toList == [62, 62]) = false := word_is (s := [62, 62]) (by decide) t q9
  have g10 : ((wordS t).toList == [46, 46]) = false := word_is (s := [46, 46]) (by decide) t q10
  have g11 : ((wordS t).toList == [61, 61]) = false := word_is (s := [61, 61]) (by decide) t q11
  have g12 : ((wordS t).toList == [126, 61]) = false := word_is (s := [126, 61]) (by decide) t q12
  have g13 : ((wordS t).toList == [60]) = false := word_is (s := [60]) (by decide) t q13
  have g14 : ((wordS t).toList == [60, 61]) = false := word_is (s := [60, 61]) (by decide) t q14
  have g15 : ((wordS t).toList == [62]) = false := word_is (s := [62]) (by decide) t q15
  have g16 : ((wordS t).toList == [62, 61]) = false := word_is (s := [62, 61]) (by decide) t q16
  have g17 : ((wordS t).toList == [97, 110, 100]) = false := word_is (s := wAnd) (by decide) t q17
  have g18 : ((wordS t).toList == [111, 114]) = false := word_is (s := wOr) (by decide) t q18
  clear q0 q1 q2 q3 q4 q5 q6 q7 q8 q9 q10 q11 q12 q13 q14 q15 q16 q17 q18
  generalize wordS t = Y at *
  go_enter Tryz.func172, Tryz.ntmps172
  go_wp2
  go_ret
  exact ⟨rfl, rfl⟩
theorem binary_p (t : TkP) (w : World) : Calls Tryz.prog 172 #[.string (wordS t)] w (NumPost (binN t) w) := by
  rcases Bool.eq_false_or_eq_true (isW [43] t) with q0 | q0
  · rw [show binN t = 1 from by rcases isW_cases q0 with ⟨l, n, rfl⟩ | ⟨l, n, rfl⟩ <;> rfl]
    exact binary_1 t w q0
  rcases Bool.eq_false_or_eq_true (isW [45] t) with q1 | q1
  · rw [show binN t = 2 from by rcases isW_cases q1 with ⟨l, n, rfl⟩ | ⟨l, n, rfl⟩ <;> rfl]
    exact binary_2 t w q1
  rcases Bool.eq_false_or_eq_true (isW [42] t) with q2 | q2
  · rw [show binN t = 3 from by rcases isW_cases q2 with ⟨l, n, rfl⟩ | ⟨l, n, rfl⟩ <;> rfl]
    exact binary_3 t w q2
  rcases Bool.eq_false_or_eq_true (isW [47, 47] t) with q3 | q3
  · rw [show binN t = 4 from by rcases isW_cases q3 with ⟨l, n, rfl⟩ | ⟨l, n, rfl⟩ <;> rfl]
    exact binary_4 t w q3
  rcases Bool.eq_false_or_eq_true (isW [37] t) with q4 | q4
  · rw [show binN t = 5 from by rcases isW_cases q4 with ⟨l, n, rfl⟩ | ⟨l, n, rfl⟩ <;> rfl]
    exact binary_5 t w q4
  rcases Bool.eq_false_or_eq_true (isW [38] t) with q5 | q5
  · rw [show binN t = 6 from by rcases isW_cases q5 with ⟨l, n, rfl⟩ | ⟨l, n, rfl⟩ <;> rfl]
    exact binary_6 t w q5
  rcases Bool.eq_false_or_eq_true (isW [124] t) with q6 | q6
  · rw [show binN t = 7 from by rcases isW_cases q6 with ⟨l, n, rfl⟩ | ⟨l, n, rfl⟩ <;> rfl]
    exact binary_7 t w q6
  rcases Bool.eq_false_or_eq_true (isW [126] t) with q7 | q7
  · rw [show binN t = 8 from by rcases isW_cases q7 with ⟨l, n, rfl⟩ | ⟨l, n, rfl⟩ <;> rfl]
    exact binary_8 t w q7
  rcases Bool.eq_false_or_eq_true (isW [60, 60] t) with q8 | q8
  · rw [show binN t = 9 from by rcases isW_cases q8 with ⟨l, n, rfl⟩ | ⟨l, n, rfl⟩ <;> rfl]
    exact binary_9 t w q8
  rcases Bool.eq_false_or_eq_true (isW [62, 62] t) with q9 | q9
  · rw [show binN t = 10 from by rcases isW_cases q9 with ⟨l, n, rfl⟩ | ⟨l, n, rfl⟩ <;> rfl]
    exact binary_10 t w q9
  rcases Bool.eq_false_or_eq_true (isW [46, 46] t) with q10 | q10
  · rw [show binN t = 11 from by rcases isW_cases q10 with ⟨l, n, rfl⟩ | ⟨l, n, rfl⟩ <;> rfl]
    exact binary_11 t w q10
  rcases Bool.eq_false_or_eq_true (isW [61, 61] t) with q11 | q11
  · rw [show binN t = 12 from by rcases isW_cases q11 with ⟨l, n, rfl⟩ | ⟨l, n, rfl⟩ <;> rfl]
    exact binary_12 t w q11
  rcases Bool.eq_false_or_eq_true (isW [126, 61] t) with q12 | q12
  · rw [show binN t = 13 from by rcases isW_cases q12 with ⟨l, n, rfl⟩ | ⟨l, n, rfl⟩ <;> rfl]
    exact binary_13 t w q12
  rcases Bool.eq_false_or_eq_true (isW [60] t) with q13 | q13
  · rw [show binN t = 14 from by rcases isW_cases q13 with ⟨l, n, rfl⟩ | ⟨l, n, rfl⟩ <;> rfl]
    exact binary_14 t w q13
  rcases Bool.eq_false_or_eq_true (isW [60, 61] t) with q14 | q14
  · rw [show binN t = 15 from by rcases isW_cases q14 with ⟨l, n, rfl⟩ | ⟨l, n, rfl⟩ <;> rfl]
    exact binary_15 t w q14
  rcases Bool.eq_false_or_eq_true (isW [62] t) with q15 | q15
  · rw [show binN t = 16 from by rcases isW_cases q15 with ⟨l, n, rfl⟩ | ⟨l, n, rfl⟩ <;> rfl]
    exact binary_16 t w q15
  rcases Bool.eq_false_or_eq_true (isW [62, 61] t) with q16 | q16
  · rw [show binN t = 17 from by rcases isW_cases q16 with ⟨l, n, rfl⟩ | ⟨l, n, rfl⟩ <;> rfl]
    exact binary_17 t w q16
  rcases Bool.eq_false_or_eq_true (isW wAnd t) with q17 | q17
  · rw [show binN t = 18 from by rcases isW_cases q17 with ⟨l, n, rfl⟩ | ⟨l, n, rfl⟩ <;> rfl]
    exact binary_18 t w q17
  rcases Bool.eq_false_or_eq_true (isW wOr t) with q18 | q18
  · rw [show binN t = 19 from by rcases isW_cases q18 with ⟨l, n, rfl⟩ | ⟨l, n, rfl⟩ <;> rfl]
    exact binary_19 t w q18
  rw [show binN t = 0 from by unfold binN; rw [show binO t = none from by simp [binO, q0, q1, q2, q3, q4, q5, q6, q7, q8, q9, q10, q11, q12, q13, q14, q15, q16, q17, q18]]]
  exact binary_0 t w q0 q1 q2 q3 q4 q5 q6 q7 q8 q9 q10 q11 q12 q13 q14 q15 q16 q17 q18
set_option maxHeartbeats 2000000 in
theorem unary_20 (t : TkP) (w : World) (hq : isW [45] t = true) : Calls Tryz.prog 195 #[.string (wordS t)] w (NumPost 20 w) := by
  have g0 : ((wordS t).toList == [45]) = true := word_is (s := [45]) (by decide) t hq
  generalize wordS t = Y at *
  clear hq
  go_enter Tryz.func195, Tryz.ntmps195
  go_wp2
  go_ret
  exact ⟨rfl, rfl⟩
set_option maxHeartbeats 2000000 in
theorem unary_21 (t : TkP) (w : World) (hq : isW [126] t = true) : Calls Tryz.prog 195 #[.string (wordS t)] w (NumPost 21 w) := by
  have g0 : ((wordS t).toList == [45]) = false := word_is (s := [45]) (by decide) t (isW_diff' hq (by decide))
  have g1 : ((wordS t).toList == [126]) = true := word_is (s := [126]) (by decide) t hq
  generalize wordS t = Y at *
  clear hq
  go_enter Tryz.func195, Tryz.ntmps195
  go_wp2
  go_ret
  exact ⟨rfl, rfl⟩
set_option maxHeartbeats 2000000 in
theorem unary_22 (t : TkP) (w : World) (hq : isW wNot t = true) : Calls Tryz.prog 195 #[.string (wordS t)] w (NumPost 22 w) := by
  have g0 : ((wordS t).toList == [45]) = false := word_is (s := [45]) (by decide) t (isW_diff' hq (by decide))
  have g1 : ((wordS t).toList == [126]) = false := word_is (s := [126]) (by decide) t (isW_diff' hq (by decide))
  have g2 : ((wordS t).toList == [110, 111, 116]) = true := word_is (s := wNot) (by decide) t hq
  generalize wordS t = Y at *
  clear hq
  go_enter Tryz.func195, Tryz.ntmps195
  go_wp2
  go_ret
  exact ⟨rfl, rfl⟩
set_option maxHeartbeats 2000000 in
theorem unary_23 (t : TkP) (w : World) (hq : isW [35] t = true) : Calls Tryz.prog 195 #[.string (wordS t)] w (NumPost 23 w) := by
  have g0 : ((wordS t).toList == [45]) = false := word_is (s := [45]) (by decide) t (isW_diff' hq (by decide))
  have g1 : ((wordS t).toList == [126]) = false := word_is (s := [126]) (by decide) t (isW_diff' hq (by decide))
  have g2 : ((wordS t).toList == [110, 111, 116]) = false := word_is (s := wNot) (by decide) t (isW_diff' hq (by decide))
  have g3 : ((wordS t).toList == [35]) = true := word_is (s := [35]) (by decide) t hq
  generalize wordS t = Y at *
  clear hq
  go_enter Tryz.func195, Tryz.ntmps195
  go_wp2
  go_ret
  exact ⟨rfl, rfl⟩
set_option maxHeartbeats 2000000 in
theorem unary_0 (t : TkP) (w : World) (q0 : isW [45] t = false) (q1 : isW [126] t = false) (q2 : isW wNot t = false) (q3 : isW [35] t = false) : Calls Tryz.prog 195 #[.string (wordS t)] w (NumPost 0 w) := by
  have g0 : ((wordS t).toList == [45]) = false := word_is (s := [45]) (by decide) t q0
  have g1 : ((wordS t).toList == [126]) = false := word_is (s := [126]) (by decide) t q1
  have g2 : ((wordS t).toList == [110, 111, 116]) = false := word_is (s := wNot) (by decide) t q2
  have g3 : ((wordS t).toList == [35]) = false := word_is (s := [35]) (by decide) t q3
  clear q0 q1 q2 q3
  generalize wordS t = Y at *
  go_enter Tryz.func195, Tryz.ntmps195
  go_wp2
  go_ret
  exact ⟨rfl, rfl⟩
theorem unary_p (t : TkP) (w : World) : Calls Tryz.prog 195 #[.string (wordS t)] w (NumPost (unaN t) w) := by
  rcases Bool.eq_false_or_eq_true (isW [45] t) with q0 | q0
  · rw [show unaN t = 20 from by rcases isW_cases q0 with ⟨l, n, rfl⟩ | ⟨l, n, rfl⟩ <;> rfl]
    exact unary_20 t w q0
  rcases Bool.eq_false_or_eq_true (isW [126] t) with q1 | q1
  · rw [show unaN t = 21 from by rcases isW_cases q1 with ⟨l, n, rfl⟩ | ⟨l, n, rfl⟩ <;> rfl]
    exact unary_21 t w q1
  rcases Bool.eq_false_or_eq_true (isW wNot t) with q2 | q2
  · rw [show unaN t = 22 from by rcases isW_cases q2 with ⟨l, n, rfl⟩ | ⟨l, n, rfl⟩ <;> rfl]
    exact unary_22 t w q2
  rcases Bool.eq_false_or_eq_true (isW [35] t) with q3 | q3
  · rw [show unaN t = 23 from by rcases isW_cases q3 with ⟨l, n, rfl⟩ | ⟨l, n, rfl⟩ <;> rfl]
    exact unary_23 t w q3
  rw [show unaN t = 0 from by unfold unaN; rw [show unaO t = none from by simp [unaO, q0, q1, q2, q3]]]
  exact unary_0 t w q0 q1 q2 q3
def opS (k : Int) : Int := if k = 0 then 0 else if k = 19 then 1 else if k = 18 then 2 else if 12 ≤ k ∧ k ≤ 17 then 3 else if k = 7 then 4 else if k = 8 then 5 else if k = 6 then 6 else if k = 9 ∨ k = 10 then 7 else if k = 11 then 8 else if k = 1 ∨ k = 2 then 9 else if 3 ≤ k ∧ k ≤ 5 then 10 else 11
def opB (k : Int) : Int := if k = 11 then 7 else opS k
set_option maxHeartbeats 4000000 in
theorem strength_p (k : Int) (w : World) (h0 : 0 ≤ k) (h1 : k ≤ 23) : Calls Tryz.prog 173 #[.int .i64 k] w (NumPost (opS k) w) := by
  have h : k = 0 ∨ k = 1 ∨ k = 2 ∨ k = 3 ∨ k = 4 ∨ k = 5 ∨ k = 6 ∨ k = 7 ∨ k = 8 ∨ k = 9 ∨ k = 10 ∨ k = 11 ∨ k = 12 ∨ k = 13 ∨ k = 14 ∨ k = 15 ∨ k = 16 ∨ k = 17 ∨ k = 18 ∨ k = 19 ∨ k = 20 ∨ k = 21 ∨ k = 22 ∨ k = 23 := by omega
  rcases h with rfl | rfl | rfl | rfl | rfl | rfl | rfl | rfl | rfl | rfl | rfl | rfl | rfl | rfl | rfl | rfl | rfl | rfl | rfl | rfl | rfl | rfl | rfl | rfl <;>
  · clear h0 h1
    go_enter Tryz.func173, Tryz.ntmps173
    go_wp2
    go_ret
    exact ⟨rfl, rfl⟩
set_option maxHeartbeats 4000000 in
theorem behind_p (k : Int) (w : World) (h0 : 0 ≤ k) (h1 : k ≤ 23) : Calls Tryz.prog 198 #[.int .i64 k] w (NumPost (opB k) w) := by
  have HC := Lib.hid (strength_p k w h0 h1)
  by_cases hk : k = 11
  · subst hk
    rw [show opS 11 = 8 from rfl] at HC
    rw [show opB 11 = 7 from rfl]
    clear h0 h1
    go_enter Tryz.func198, Tryz.ntmps198
    go_wp2_with fail
    refine HC.out.mono ?_; rintro e w1 ⟨rfl, rfl⟩
    go_wp2_with fail
    go_ret
    exact ⟨rfl, rfl⟩
  · rw [show opB k = opS k from by unfold opB; rw [if_neg hk]]
    have g1 : (k == 11) = false := beq_eq_false_iff_ne.2 hk
    generalize opS k = S at *
    clear h0 h1 hk
    go_enter Tryz.func198, Tryz.ntmps198
    go_wp2_with fail
    refine HC.out.mono ?_; rintro e w1 ⟨rfl, rfl⟩
    go_wp2_with fail
    go_ret
    exact ⟨rfl, rfl⟩
theorem binO_facts {t : TkP} {o : Int × Nat × Nat} (h : binO t = some o) : binN t = o.1 ∧ opS o.1 = (o.2.1 : Int) ∧ opB o.1 + 1 = (o.2.2 : Int) ∧ 1 ≤ o.1 ∧ o.1 ≤ 19 := by
  refine ⟨by unfold binN; rw [h], ?_⟩
  unfold binO at h
  repeat' (rcases ite_some h with rfl | h; exact ⟨by decide, by decide, by decide, by decide⟩)
  exact absurd h (by simp)
theorem binN_none {t : TkP} (h : binO t = none) : binN t = 0 := by unfold binN; rw [h]
end Go.Proofs.YtfpeecjafccfjaaGreatDoor
namespace Go.Proofs.YtfpeecjafccfjaaGreatDoor
open Go.RowKit
set_option maxHeartbeats 2000000 in
theorem right1_p {wp : WpA} (op : Int) (h0 : 0 ≤ op) (h1 : op ≤ 23) (hB : Rds2 147 (opB op) wp) (b g1 g2 : Nat) (O : Nat → Prop) (ts : List TkP) (T : List Nd) (K : Ast → List TkP → Prop) (E : Int → Prop) (w : World) (hp : PS w b O ts T) (b1 : Box w O g1 #[.pointer (some ⟨b, 0, none⟩)] 84) (b2 : Box w O g2 #[.int .i64 op] 3) (hk : wp ts T.length K E) :
    Calls Tryz.prog 197 #[.pointer (some ⟨g1, 0, none⟩), .pointer (some ⟨g2, 0, none⟩)] w (PlacePost b O T (RK K E) w) := by
  have c1 := b1.cell 0
  have c2 := b2.cell 0
  have HS := Lib.hid (fun W => behind_p op W h0 h1)
  have HB := Lib.hid (fun (W : World) hW => hB b O ts T K E W hW hk)
  have HP := Lib.hid hp
  generalize opB op = l at *
  clear b1 b2 hp hk hB h0 h1
  go_enter Tryz.func197, Tryz.ntmps197
  go_wp2_with fail
  go_region_with (first
    | (go_at_call 198; refine (HS.out _).mono ?_; rintro e w2 ⟨rfl, rfl⟩)
    | (go_at_call 147; refine (HB.out _ (HP.out.below (by exact ⟨rfl, rfl, rfl, Nat.le_refl _, fun _ _ => rfl⟩))).mono ?_; intro e w3 h3; obtain ⟨v, er, rfl⟩ := h3.ret; have H3 := Lib.hid h3; clear h3))
  all_goals go_wp2
  all_goals go_ret2
  all_goals exact H3.out.after ⟨rfl, rfl, rfl, Nat.le_refl _, fun _ _ _ => rfl, fun _ _ => rfl⟩
end Go.Proofs.YtfpeecjafccfjaaGreatDoor
namespace Go.Proofs.YtfpeecjafccfjaaGreatDoor
open Go.RowKit
set_option maxHeartbeats 2000000 in
theorem right_p {wp : WpA} (op : Int) (h0 : 0 ≤ op) (h1 : op ≤ 23) (hB : Rds2 147 (opB op) wp) (b : Nat) (O : Nat → Prop) (w : World) (hO : ∀ k, O k → k < w.heap.size) : Calls Tryz.prog 174 #[.pointer (some ⟨b, 0, none⟩), .int .i64 op] w (NewPart b O (wpKid wp) w) := by
  obtain ⟨w1, hw1⟩ : ∃ w1, w1 = w.alloc (.cells #[.pointer (some ⟨b, 0, none⟩)] 84) := ⟨_, rfl⟩
  obtain ⟨w2, hw2⟩ : ∃ w2, w2 = w1.alloc (.cells #[.int .i64 op] 3) := ⟨_, rfl⟩
  have f1 : Fr O w w1 := by rw [hw1]; exact (Fr.refl _ _).alloc _
  have f2 : Fr O w1 w2 := by rw [hw2]; exact (Fr.refl _ _).alloc _
  have z1 : w1.heap.size = w.heap.size + 1 := by rw [hw1, asize]
  have b1 : Box w1 O w.heap.size #[.pointer (some ⟨b, 0, none⟩)] 84 := by rw [hw1]; exact Box.new w O hO _ _
  have b2 : Box w2 O (w.heap.size + 1) #[.int .i64 op] 3 := by rw [hw2, ← z1]; exact Box.new w1 O (fun k hk => by have := hO k hk; omega) _ _
  have hone : One w2 b O (.func (.func 197) #[] #[.pointer (some ⟨w.heap.size, 0, none⟩), .pointer (some ⟨w.heap.size + 1, 0, none⟩)]) wp := by
    intro W1 O1 T ts K E hf he hp hk
    refine ⟨197, _, _, rfl, enters_of Tryz.func197 (by kernel_rfl) rfl, ?_⟩
    exact right1_p op h0 h1 hB b _ _ O1 ts T K E W1 hp ((b1.later f2 (Ext.refl _ _)).later hf he) (b2.later hf he) hk
  have HK := Lib.hid (kid_p b O 197 _ _ wp w2 hone fun k hk => by have := hO k hk; have := f1.size; have := f2.size; omega)
  have HB : Hid (Below w.heap.size w w2) := Lib.hid (by rw [hw2, hw1]; exact ((Below.refl _ _).alloc (Nat.le_refl _) _).alloc (by simp) _)
  rw [hw2, hw1] at HK HB
  clear hw1 hw2 f1 f2 z1 b1 b2 hone hB h0 h1
  go_enter Tryz.func174, Tryz.ntmps174
  go_wp2_with fail
  refine HK.out.mono ?_; rintro e w1 ⟨v, rfl, b1, h2, f, first, cap, rfl⟩
  have H2 := Lib.hid h2
  have B1 := Lib.hid (thenBR HB.out b1)
  clear h2 b1
  go_wp2_with fail
  go_ret
  exact ⟨f, first, cap, rfl, B1.out, H2.out⟩
def wpLvm (rt : Int → WpA) (l : Int) : Nat → Ast → List TkP → Nat → (Ast → List TkP → Prop) → (Int → Prop) → Prop
  | 0, _, _, _, _, _ => False
  | k + 1, a, ts, n, K, E => ∃ t r, ts = t :: r ∧ (opS (binN t) ≤ l → K a ts) ∧
    (¬ opS (binN t) ≤ l → WpSeq [wpSkip, wpKid (rt (binN t))] ⟨⟨12, t.2.1, binN t, 0, ⟨#[]⟩, [], []⟩, [a], ts, n + a.size⟩ (FinK fun a' ts' => wpLvm rt l k a' ts' n K E) E)
theorem binN_range (t : TkP) : 0 ≤ binN t ∧ binN t ≤ 19 := by
  cases h : binO t with
  | none => rw [binN_none h]; decide
  | some o => have := binO_facts h; omega
set_option maxHeartbeats 8000000 in
theorem bound_p {od : WpA} {rt : Int → WpA} (hO : Rds 171 od) (l : Int) (hR : ∀ op, 1 ≤ op → op ≤ 19 → Rds2 147 (opB op) (rt op)) (hl : 0 ≤ l) : Rds2 147 l fun ts n K E => od ts n (fun a ts1 => ∃ m, wpLvm rt l m a ts1 n K E) E := by
  intro b O ts T0 K E w hp hk
  have HA := Lib.hid (hO b O ts T0 _ E w hp hk)
  have HR := Lib.hid hR
  have HL := Lib.hid hl
  clear hO hp hk hR hl
  go_enter Tryz.func147, Tryz.ntmps147
  go_wp2_with fail
  refine HA.out.mono ?_; intro e w1 h1
  have F1 := Lib.hid h1.1
  rcases h1.2 with ⟨p, a, ts1, O1, T1, rfl, p1, x1, l1, k1⟩ | ⟨le, v, er, rfl, ⟨g', rfl, m2, m3⟩, k1⟩
  · obtain ⟨m, k1⟩ := k1
    have P1 := Lib.hid p1
    have X1 := Lib.hid x1
    have L1 := Lib.hid l1
    have K1 := Lib.hid k1
    clear h1 p1 x1 l1 k1
    go_wp2_with fail
    go_loopg [6, 7] (m + 1) (fun z lv ev wr => (∃ (p : Nat) (a : Ast) (tr : List TkP) (Or : Nat → Prop) (Tr : List Nd) (k : Nat), lv = .int .i64 (p : Int) ∧ ev = .nilIface ∧ z = k + 1 ∧ PS wr b Or tr Tr ∧ Fr O w wr ∧ Ext O Or w ∧ Lies T0 Tr [a] [(p : Int)] ∧ wpLvm rt l k a tr T0.length K E) ∨
      (∃ (le : Int) (g' : Nat), ev = .iface 56 (.pointer (some ⟨g', 0, none⟩)) ∧ w.heap.size ≤ g' ∧ wr.heap[g']? = some (.cells #[.int .i64 6, .int .i64 le] 62 (0, 0)) ∧ Fr O w wr ∧ E le))
    case atStart => exact .inl ⟨p, a, ts1, O1, T1, m, rfl, rfl, rfl, P1.out, F1.out, X1.out, L1.out, K1.out⟩
    case round =>
      rcases hrel with ⟨p, a, tr, Or, Tr, k, rfl, rfl, rfl, pr, fr, xr, lr, kr⟩ | ⟨le, g', rfl, hg, m3, fr, ke⟩
      · cases k with
        | zero => exact kr.elim
        | succ k =>
          obtain ⟨t, r, rfl, hle, hgt⟩ := kr
          have PR := Lib.hid pr
          have FR := Lib.hid fr
          have XR := Lib.hid xr
          have LR := Lib.hid lr
          have HW := Lib.hid (word_p b Or t r Tr wr pr)
          have HBI := Lib.hid (fun W => binary_p t W)
          have hbr := binN_range t
          have HST := Lib.hid (fun W => strength_p (binN t) W hbr.1 (by omega))
          have HRP : Hid (¬ opS (binN t) ≤ l → 1 ≤ binN t) := Lib.hid fun h => by
            have h0 : binN t ≠ 0 := fun e => h (by rw [e]; exact HL.out)
            omega
          have HLE := Lib.hid hle
          have HGT := Lib.hid hgt
          have HB19 := Lib.hid hbr.2
          clear pr fr xr lr hle hgt hbr F1 P1 X1 L1 K1 HA
          generalize hY : wordS t = Y at *
          generalize hop : binN t = op at *
          generalize hst : opS op = st at *
          clear hY hop
          have HSE := Lib.hid hst
          clear hst
          by_cases hc : st ≤ l
          · have g1 : decide (st ≤ l) = true := decide_eq_true hc
            have HC := Lib.hid hc
            clear hc
            go_wp2_with fail
            refine HW.out.mono ?_; rintro e w2 ⟨rfl, b2⟩
            have B2 := Lib.hid b2
            clear b2
            go_wp2_with fail
            refine (HBI.out _).mono ?_; rintro e w3 ⟨rfl, rfl⟩
            go_wp2_with fail
            refine (HST.out _).mono ?_; rintro e w3 ⟨rfl, rfl⟩
            go_wp2_with fail
            go_ret2
            exact ⟨FR.out.trans (Fr.of_below (O := Or) B2.out) XR.out, .inl ⟨p, a, t :: r, Or, Tr, rfl, PR.out.below B2.out, XR.out, LR.out, HLE.out HC.out⟩⟩
          · have g1 : decide (st ≤ l) = false := decide_eq_false hc
            have HC := Lib.hid hc
            clear hc
            go_wp2_with fail
            refine HW.out.mono ?_; rintro e w2 ⟨rfl, b2⟩
            have B2 := Lib.hid b2
            clear b2
            go_wp2_with fail
            refine (HBI.out _).mono ?_; rintro e w3 ⟨rfl, rfl⟩
            go_wp2_with fail
            refine (HST.out _).mono ?_; rintro e w3 ⟨rfl, rfl⟩
            have p2 := PR.out.below B2.out
            have P2 := Lib.hid p2
            have hown2 : ∀ k, Or k → k < w3.heap.size := fun k hk => (p2.own k hk).2
            have hb2 : b < w3.heap.size := (p2.own b p2.at_).2
            have HV := Lib.hid (right_p op (by have := HRP.out HC.out; omega) (by have := HB19.out; omega) (HR.out op (HRP.out HC.out) HB19.out) b (fun k => Or k ∨ k = w3.heap.size) (w3.alloc (.cells #[.int .i64 (p : Int)] 3)) (fun k hk => by
              rcases hk with hk | hk
              · have := hown2 k hk; simp; omega
              · simp; omega))
            have HO2 := Lib.hid hown2
            clear p2 hown2
            go_wp2_with fail
            refine HV.out.mono ?_; rintro e w4 ⟨fi, fa, fc, rfl, b4, h4⟩
            have hg4 : w4.heap[w3.heap.size]? = some (.cells #[.int .i64 (p : Int)] 3 (0, 0)) := (b4.block w3.heap.size (by simp)).trans (World.alloc_heap_new w3 _)
            have B4 := Lib.hid (thenBR (allocB w3 _) b4)
            have p4 := P2.out.below B4.out
            have HN := Lib.hid (node1_at w4 w3.heap.size p a p4 hg4 (fun h => by have := HO2.out _ h; omega) (by omega) LR.out ⟨12, 0, op, 0, ⟨#[]⟩, [], []⟩ rfl [mval 37 b, .func (.func fi) fa fc] [wpSkip, wpKid (rt op)] (by simp) ⟨skip_part w4 b _, h4, trivial⟩ (HGT.out HC.out))
            have F4 := Lib.hid ((FR.out.trans (Fr.of_below (O := Or) B2.out) XR.out).trans (Fr.of_below (O := Or) B4.out) XR.out)
            have X4 : Hid (Ext O (fun k => Or k ∨ k = w3.heap.size) w) := Lib.hid fun k hk => by
              rcases hk with hk | rfl
              · exact XR.out k hk
              · exact .inr (Nat.le_trans FR.out.size B2.out.size)
            clear hg4 p4 b4 h4 HBI HST HRP HV HO2
            go_wp2_with fail
            refine HN.out.mono ?_; intro e w5 h5
            have F5 := Lib.hid (F4.out.trans h5.1 X4.out)
            rcases h5.2 with ⟨p5, a5, ts5, O5, T5, rfl, q5, x5, l5, k5⟩ | ⟨le, v, er, rfl, ⟨g', rfl, m2, m3⟩, k5⟩
            · have Q5 := Lib.hid q5
              have X5 := Lib.hid (X4.out.trans x5 F4.out.size)
              have L5 := Lib.hid l5
              have K5 := Lib.hid k5
              clear h5 q5 x5 l5 k5
              go_wp2_with fail
              go_roundg (k + 1)
              case measure => omega
              case rel => exact .inl ⟨p5, a5, ts5, O5, T5, k, rfl, rfl, rfl, Q5.out, F5.out, X5.out, L5.out, K5.out⟩
            · have M3 := Lib.hid m3
              have M2 := Lib.hid (Nat.le_trans F4.out.size m2)
              have K5 := Lib.hid k5
              clear h5 m2 m3 k5
              go_wp2_with fail
              go_roundg (k + 1)
              case measure => omega
              case rel => exact .inr ⟨le, g', rfl, M2.out, M3.out, F5.out, K5.out⟩
      · have M3 := Lib.hid m3
        have HG := Lib.hid hg
        have FR := Lib.hid fr
        have KE := Lib.hid ke
        clear m3 hg fr ke
        go_wp2_with fail
        go_ret2
        exact ⟨FR.out, .inr ⟨le, _, _, rfl, ⟨g', rfl, HG.out, M3.out⟩, KE.out⟩⟩
  · have M3 := Lib.hid m3
    have M2 := Lib.hid m2
    have K1 := Lib.hid k1
    clear h1 m2 m3 k1
    go_wp2_with fail
    go_loopg [6, 7] 1 (fun z lv ev wr => lv = v ∧ ev = .iface 56 (.pointer (some ⟨g', 0, none⟩)) ∧ wr = w1)
    case atStart => exact ⟨rfl, rfl, rfl⟩
    case round =>
      obtain ⟨rfl, rfl, rfl⟩ := hrel
      go_wp2_with fail
      go_ret2
      exact ⟨F1.out, .inr ⟨le, _, _, rfl, ⟨g', rfl, M2.out, M3.out⟩, K1.out⟩⟩
end Go.Proofs.YtfpeecjafccfjaaGreatDoor
namespace Go.Proofs.YtfpeecjafccfjaaGreatDoor
open Go.RowKit
set_option maxHeartbeats 1000000 in
theorem expression_p {wp : WpA} (hB : Rds2 147 0 wp) : Rds 115 wp := by
  intro b O ts T K E w hp hk
  have HN := Lib.hid (hB b O ts T K E w hp hk)
  clear hp hk hB
  go_enter Tryz.func115, Tryz.ntmps115
  go_wp2_with fail
  refine HN.out.mono ?_; intro e wz hz
  obtain ⟨v, er, rfl⟩ := hz.ret
  have HZ := Lib.hid hz
  clear hz
  go_wp2_with fail
  go_ret2
  exact HZ.out
theorem node_at' {b : Nat} {O : Nat → Prop} {t : TkP} {ts : List TkP} {T : List Nd} {K : Ast → List TkP → Prop} {E : Int → Prop} (w w2 : World) (g : Nat) (hg : g = w2.heap.size) (hp : PS w2 b O (t :: ts) T) (hf : Fr O w w2) (x : Nd) (hx : x = ⟨x.kind, 0, x.op, x.num, x.s, [], []⟩) (vs : List Value) (wps : List Wp1) (hl : vs.length ≤ 100) (hall : Alls w2 b O vs wps)
    (hk : WpSeq wps ⟨{ x with line := t.2.1 }, [], t :: ts, T.length⟩ (FinK K) E) : Calls Tryz.prog 17 #[.pointer (some ⟨b, 0, none⟩), nodeV x (.slice none 0 0) (.slice none 0 0), .slice (some ⟨g, 0, none⟩) vs.length vs.length] (w2.alloc (.cells vs.toArray 89)) (PlacePost b O T (RK K E) w) := by
  subst hg
  exact node_at w w2 hp hf x hx vs wps hl hall hk
set_option maxRecDepth 40000 in
set_option maxHeartbeats 8000000 in
theorem opd_num (b : Nat) (O : Nat → Prop) (t : TkP) (ts : List TkP) (T : List Nd) (K : Ast → List TkP → Prop) (E : Int → Prop) (w : World) (hp : PS w b O (t :: ts) T) (h3 : t.1 = 3)
    (hk : WpSeq [wpSkip] ⟨⟨4, t.2.1, 0, t.2.2.1, ⟨#[]⟩, [], []⟩, [], t :: ts, T.length⟩ (FinK K) E) :
    Calls Tryz.prog 171 #[.pointer (some ⟨b, 0, none⟩)] w (PlacePost b O T (RK K E) w) := by
  obtain ⟨t0, t1, t2, t3⟩ := t
  have HA := Lib.hid (ahead_p b O (t0, t1, t2, t3) ts T w hp)
  unfold tokV at HA
  dsimp only at *
  have q3 : (t0 == 3) = true := beq_iff_eq.2 h3
  have HK := Lib.hid hk
  have P := Lib.hid hp
  clear hp hk h3
  generalize hS : bts t3 = S at *
  clear hS
  go_enter Tryz.func171, Tryz.ntmps171
  go_wp2_with fail
  refine HA.out.mono ?_; rintro e w1 ⟨rfl, b1⟩
  have BL := Lib.hid (thenBR b1 (allocB w1 (.cells #[.int .i64 t0, .int .i64 t1, .int .i64 t2, .string S] 81)))
  have FL := Lib.hid (Fr.of_below (O := O) BL.out)
  have PL1 := Lib.hid (P.out.below BL.out)
  clear b1
  have HN := Lib.hid (node_at' w (w1.alloc (.cells #[.int .i64 t0, .int .i64 t1, .int .i64 t2, .string S] 81)) (w1.heap.size + 1) (by simp) PL1.out FL.out ⟨4, 0, 0, t2, ⟨#[]⟩, [], []⟩ rfl [mval 37 b] [wpSkip] (by simp) ⟨skip_part _ b O, trivial⟩ HK.out)
  go_wp2_with fail
  refine HN.out.mono ?_; intro e wz hz
  obtain ⟨v, er, rfl⟩ := hz.ret
  have HZ := Lib.hid hz
  clear hz
  go_wp2_with fail
  go_ret2
  exact HZ.out
set_option maxRecDepth 40000 in
set_option maxHeartbeats 8000000 in
theorem opd_txt (b : Nat) (O : Nat → Prop) (t : TkP) (ts : List TkP) (T : List Nd) (K : Ast → List TkP → Prop) (E : Int → Prop) (w : World) (hp : PS w b O (t :: ts) T) (h3 : t.1 ≠ 3) (h4 : t.1 = 4)
    (hk : WpSeq [wpSkip] ⟨⟨5, t.2.1, 0, 0, bts t.2.2.2, [], []⟩, [], t :: ts, T.length⟩ (FinK K) E) :
    Calls Tryz.prog 171 #[.pointer (some ⟨b, 0, none⟩)] w (PlacePost b O T (RK K E) w) := by
  obtain ⟨t0, t1, t2, t3⟩ := t
  have HA := Lib.hid (ahead_p b O (t0, t1, t2, t3) ts T w hp)
  unfold tokV at HA
  dsimp only at *
  have q3 : (t0 == 3) = false := beq_eq_false_iff_ne.2 h3
  have q4 : (t0 == 4) = true := beq_iff_eq.2 h4
  have HK := Lib.hid hk
  have P := Lib.hid hp
  clear hp hk h3 h4
  generalize hS : bts t3 = S at *
  clear hS
  go_enter Tryz.func171, Tryz.ntmps171
  go_wp2_with fail
  refine HA.out.mono ?_; rintro e w1 ⟨rfl, b1⟩
  have BL := Lib.hid (thenBR b1 (allocB w1 (.cells #[.int .i64 t0, .int .i64 t1, .int .i64 t2, .string S] 81)))
  have FL := Lib.hid (Fr.of_below (O := O) BL.out)
  have PL1 := Lib.hid (P.out.below BL.out)
  clear b1
  have HN := Lib.hid (node_at' w (w1.alloc (.cells #[.int .i64 t0, .int .i64 t1, .int .i64 t2, .string S] 81)) (w1.heap.size + 1) (by simp) PL1.out FL.out ⟨5, 0, 0, 0, S, [], []⟩ rfl [mval 37 b] [wpSkip] (by simp) ⟨skip_part _ b O, trivial⟩ HK.out)
  go_wp2_with fail
  refine HN.out.mono ?_; intro e wz hz
  obtain ⟨v, er, rfl⟩ := hz.ret
  have HZ := Lib.hid hz
  clear hz
  go_wp2_with fail
  go_ret2
  exact HZ.out
theorem isW_n3 {s : List UInt8} {t : TkP} (h : isW s t = true) : t.1 ≠ 3 := by rcases isW_cases h with ⟨l, n, rfl⟩ | ⟨l, n, rfl⟩ <;> (intro e; simp at e)
theorem isW_n4 {s : List UInt8} {t : TkP} (h : isW s t = true) : t.1 ≠ 4 := by rcases isW_cases h with ⟨l, n, rfl⟩ | ⟨l, n, rfl⟩ <;> (intro e; simp at e)
theorem unaN_range {t : TkP} (h : unaN t ≠ 0) : 20 ≤ unaN t ∧ unaN t ≤ 23 := by
  cases hu : unaO t with
  | none => exact absurd (by unfold unaN; rw [hu]) h
  | some o => rw [show unaN t = o by unfold unaN; rw [hu]]; exact unaO_op hu
set_option maxRecDepth 40000 in
set_option maxHeartbeats 8000000 in
theorem opd_una {rt : Int → WpA} (hR : ∀ op, 20 ≤ op → op ≤ 23 → Rds2 147 (opB op) (rt op)) (b : Nat) (O : Nat → Prop) (t : TkP) (ts : List TkP) (T : List Nd) (K : Ast → List TkP → Prop) (E : Int → Prop) (w : World) (hp : PS w b O (t :: ts) T) (h3 : t.1 ≠ 3) (h4 : t.1 ≠ 4) (hu : unaN t ≠ 0)
    (hk : WpSeq [wpSkip, wpKid (rt (unaN t))] ⟨⟨13, t.2.1, unaN t, 0, ⟨#[]⟩, [], []⟩, [], t :: ts, T.length⟩ (FinK K) E) :
    Calls Tryz.prog 171 #[.pointer (some ⟨b, 0, none⟩)] w (PlacePost b O T (RK K E) w) := by
  obtain ⟨t0, t1, t2, t3⟩ := t
  have HA := Lib.hid (ahead_p b O (t0, t1, t2, t3) ts T w hp)
  have HW := Lib.hid (fun W hW => word_p b O (t0, t1, t2, t3) ts T W hW)
  unfold tokV at HA
  dsimp only at *
  have q3 : (t0 == 3) = false := beq_eq_false_iff_ne.2 h3
  have q4 : (t0 == 4) = false := beq_eq_false_iff_ne.2 h4
  have HU := Lib.hid (fun W => unary_p (t0, t1, t2, t3) W)
  have hr := unaN_range hu
  have HRR := Lib.hid (hR _ hr.1 hr.2)
  have HRG := Lib.hid hr
  have qu : (unaN (t0, t1, t2, t3) != 0) = true := bne_iff_ne.2 hu
  have HK := Lib.hid hk
  generalize hop : unaN (t0, t1, t2, t3) = op at *
  generalize hY : wordS (t0, t1, t2, t3) = Y at *
  have P := Lib.hid hp
  clear hp hk h3 h4 hu hr hop hY hR
  generalize hS : bts t3 = S at *
  clear hS
  go_enter Tryz.func171, Tryz.ntmps171
  go_wp2_with fail
  refine HA.out.mono ?_; rintro e w1 ⟨rfl, b1⟩
  have BL := Lib.hid (thenBR b1 (allocB w1 (.cells #[.int .i64 t0, .int .i64 t1, .int .i64 t2, .string S] 81)))
  have FL := Lib.hid (Fr.of_below (O := O) BL.out)
  have PL1 := Lib.hid (P.out.below BL.out)
  clear b1
  have HW1 := Lib.hid (HW.out _ PL1.out)
  clear HW
  go_wp2_with fail
  refine HW1.out.mono ?_; rintro e w2 ⟨rfl, b2⟩
  have F2 := Lib.hid (FL.out.trans (Fr.of_below (O := O) b2) (Ext.refl _ _))
  have P2 := Lib.hid (PL1.out.below b2)
  clear b2
  go_wp2_with fail
  refine (HU.out _).mono ?_; rintro e w3 ⟨rfl, rfl⟩
  have F3 := F2
  have P3 := P2
  have hO3 : ∀ k, O k → k < w3.heap.size := fun k hk => (P3.out.own k hk).2
  have V4 := Lib.hid (right_p op (by have := HRG.out; omega) HRG.out.2 HRR.out b O w3 hO3)
  clear hO3
  go_wp2_with fail
  refine V4.out.mono ?_; rintro e w4 ⟨f4, a4, c4, rfl, b4, h4⟩
  have F4 := Lib.hid (F3.out.trans (Fr.of_below (O := O) b4) (Ext.refl _ _))
  have P4 := Lib.hid (P3.out.below b4)
  have H4 := Lib.hid h4
  clear b4 h4 V4
  have HN := Lib.hid (node_at w w4 P4.out F4.out ⟨13, 0, op, 0, ⟨#[]⟩, [], []⟩ rfl [mval 37 b, .func (.func f4) a4 c4] [wpSkip, wpKid (rt op)] (by simp) ⟨skip_part w4 b O, H4.out, trivial⟩ HK.out)
  go_wp2_with fail
  refine HN.out.mono ?_; intro e wz hz
  obtain ⟨v, er, rfl⟩ := hz.ret
  have HZ := Lib.hid hz
  clear hz
  go_wp2_with fail
  go_ret2
  exact HZ.out
set_option maxRecDepth 40000 in
set_option maxHeartbeats 8000000 in
theorem opd_nil (b : Nat) (O : Nat → Prop) (t : TkP) (ts : List TkP) (T : List Nd) (K : Ast → List TkP → Prop) (E : Int → Prop) (w : World) (hp : PS w b O (t :: ts) T) (hq : isW wNil t = true)
    (hk : WpSeq [wpSkip] ⟨hdL 1 t.2.1, [], t :: ts, T.length⟩ (FinK K) E) :
    Calls Tryz.prog 171 #[.pointer (some ⟨b, 0, none⟩)] w (PlacePost b O T (RK K E) w) := by
  obtain ⟨t0, t1, t2, t3⟩ := t
  have h3 := isW_n3 hq
  have h4 := isW_n4 hq
  have hu : unaN (t0, t1, t2, t3) = 0 := by rcases isW_cases hq with ⟨l, n, e1⟩ | ⟨l, n, e1⟩ <;> (rw [e1]; rfl)
  have HA := Lib.hid (ahead_p b O (t0, t1, t2, t3) ts T w hp)
  have HW := Lib.hid (fun W hW => word_p b O (t0, t1, t2, t3) ts T W hW)
  unfold tokV at HA
  dsimp only at *
  have q3 : (t0 == 3) = false := beq_eq_false_iff_ne.2 h3
  have q4 : (t0 == 4) = false := beq_eq_false_iff_ne.2 h4
  have HU := Lib.hid (fun W => unary_p (t0, t1, t2, t3) W)
  rw [hu] at HU
  have g0 : ((wordS (t0, t1, t2, t3)).toList == [110, 105, 108]) = true := word_is (s := wNil) (by decide) _ hq
  have HK := Lib.hid hk
  generalize hY : wordS (t0, t1, t2, t3) = Y at *
  have P := Lib.hid hp
  clear hp hk h3 h4 hu hY hq
  generalize hS : bts t3 = S at *
  clear hS
  go_enter Tryz.func171, Tryz.ntmps171
  go_wp2_with fail
  refine HA.out.mono ?_; rintro e w1 ⟨rfl, b1⟩
  have BL := Lib.hid (thenBR b1 (allocB w1 (.cells #[.int .i64 t0, .int .i64 t1, .int .i64 t2, .string S] 81)))
  have FL := Lib.hid (Fr.of_below (O := O) BL.out)
  have PL1 := Lib.hid (P.out.below BL.out)
  clear b1
  have HW1 := Lib.hid (HW.out _ PL1.out)
  go_wp2_with fail
  refine HW1.out.mono ?_; rintro e w2 ⟨rfl, b2⟩
  have F2 := Lib.hid (FL.out.trans (Fr.of_below (O := O) b2) (Ext.refl _ _))
  have P2 := Lib.hid (PL1.out.below b2)
  clear b2
  go_wp2_with fail
  refine (HU.out _).mono ?_; rintro e w3 ⟨rfl, rfl⟩
  have HW2 := Lib.hid (HW.out _ P2.out)
  go_wp2_with fail
  refine HW2.out.mono ?_; rintro e w4 ⟨rfl, b4⟩
  have F4 := Lib.hid (F2.out.trans (Fr.of_below (O := O) b4) (Ext.refl _ _))
  have P4 := Lib.hid (P2.out.below b4)
  clear b4 HW HW1 HW2 HU
  have HN := Lib.hid (node_at w w4 P4.out F4.out (hdZ 1) rfl [mval 37 b] [wpSkip] (by simp) ⟨skip_part w4 b O, trivial⟩ HK.out)
  go_wp2_with fail
  refine HN.out.mono ?_; intro e wz hz
  obtain ⟨v, er, rfl⟩ := hz.ret
  have HZ := Lib.hid hz
  clear hz
  go_wp2_with fail
  go_ret2
  exact HZ.out
set_option maxRecDepth 40000 in
set_option maxHeartbeats 8000000 in
theorem opd_true (b : Nat) (O : Nat → Prop) (t : TkP) (ts : List TkP) (T : List Nd) (K : Ast → List TkP → Prop) (E : Int → Prop) (w : World) (hp : PS w b O (t :: ts) T) (hq : isW wTrue t = true)
    (hk : WpSeq [wpSkip] ⟨hdL 2 t.2.1, [], t :: ts, T.length⟩ (FinK K) E) :
    Calls Tryz.prog 171 #[.pointer (some ⟨b, 0, none⟩)] w (PlacePost b O T (RK K E) w) := by
  obtain ⟨t0, t1, t2, t3⟩ := t
  have h3 := isW_n3 hq
  have h4 := isW_n4 hq
  have hu : unaN (t0, t1, t2, t3) = 0 := by rcases isW_cases hq with ⟨l, n, e1⟩ | ⟨l, n, e1⟩ <;> (rw [e1]; rfl)
  have HA := Lib.hid (ahead_p b O (t0, t1, t2, t3) ts T w hp)
  have HW := Lib.hid (fun W hW => word_p b O (t0, t1, t2, t3) ts T W hW)
  unfold tokV at HA
  dsimp only at *
  have q3 : (t0 == 3) = false := beq_eq_false_iff_ne.2 h3
  have q4 : (t0 == 4) = false := beq_eq_false_iff_ne.2 h4
  have HU := Lib.hid (fun W => unary_p (t0, t1, t2, t3) W)
  rw [hu] at HU
  have g0 : ((wordS (t0, t1, t2, t3)).toList == [110, 105, 108]) = false := word_is (s := wNil) (by decide) _ (isW_diff' hq (by decide))
  have g1 : ((wordS (t0, t1, t2, t3)).toList == [116, 114, 117, 101]) = true := word_is (s := wTrue) (by decide) _ hq
  have HK := Lib.hid hk
  generalize hY : wordS (t0, t1, t2, t3) = Y at *
  have P := Lib.hid hp
  clear hp hk h3 h4 hu hY hq
  generalize hS : bts t3 = S at *
  clear hS
  go_enter Tryz.func171, Tryz.ntmps171
  go_wp2_with fail
  refine HA.out.mono ?_; rintro e w1 ⟨rfl, b1⟩
  have BL := Lib.hid (thenBR b1 (allocB w1 (.cells #[.int .i64 t0, .int .i64 t1, .int .i64 t2, .string S] 81)))
  have FL := Lib.hid (Fr.of_below (O := O) BL.out)
  have PL1 := Lib.hid (P.out.below BL.out)
  clear b1
  have HW1 := Lib.hid (HW.out _ PL1.out)
  go_wp2_with fail
  refine HW1.out.mono ?_; rintro e w2 ⟨rfl, b2⟩
  have F2 := Lib.hid (FL.out.trans (Fr.of_below (O := O) b2) (Ext.refl _ _))
  have P2 := Lib.hid (PL1.out.below b2)
  clear b2
  go_wp2_with fail
  refine (HU.out _).mono ?_; rintro e w3 ⟨rfl, rfl⟩
  have HW2 := Lib.hid (HW.out _ P2.out)
  go_wp2_with fail
  refine HW2.out.mono ?_; rintro e w4 ⟨rfl, b4⟩
  have F4 := Lib.hid (F2.out.trans (Fr.of_below (O := O) b4) (Ext.refl _ _))
  have P4 := Lib.hid (P2.out.below b4)
  clear b4 HW HW1 HW2 HU
  have HN := Lib.hid (node_at w w4 P4.out F4.out (hdZ 2) rfl [mval 37 b] [wpSkip] (by simp) ⟨skip_part w4 b O, trivial⟩ HK.out)
  go_wp2_with fail
  refine HN.out.mono ?_; intro e wz hz
  obtain ⟨v, er, rfl⟩ := hz.ret
  have HZ := Lib.hid hz
  clear hz
  go_wp2_with fail
  go_ret2
  exact HZ.out
set_option maxRecDepth 40000 in
set_option maxHeartbeats 8000000 in
theorem opd_false (b : Nat) (O : Nat → Prop) (t : TkP) (ts : List TkP) (T : List Nd) (K : Ast → List TkP → Prop) (E : Int → Prop) (w : World) (hp : PS w b O (t :: ts) T) (hq : isW wFalse t = true)
    (hk : WpSeq [wpSkip] ⟨hdL 3 t.2.1, [], t :: ts, T.length⟩ (FinK K) E) :
    Calls Tryz.prog 171 #[.pointer (some ⟨b, 0, none⟩)] w (PlacePost b O T (RK K E) w) := by
  obtain ⟨t0, t1, t2, t3⟩ := t
  have h3 := isW_n3 hq
  have h4 := isW_n4 hq
  have hu : unaN (t0, t1, t2, t3) = 0 := by rcases isW_cases hq with ⟨l, n, e1⟩ | ⟨l, n, e1⟩ <;> (rw [e1]; rfl)
  have HA := Lib.hid (ahead_p b O (t0, t1, t2, t3) ts T w hp)
  have HW := Lib.hid (fun W hW => word_p b O (t0, t1, t2, t3) ts T W hW)
  unfold tokV at HA
  dsimp only at *
  have q3 : (t0 == 3) = false := beq_eq_false_iff_ne.2 h3
  have q4 : (t0 == 4) = false := beq_eq_false_iff_ne.2 h4
  have HU := Lib.hid (fun W => unary_p (t0, t1, t2, t3) W)
  rw [hu] at HU
  have g0 : ((wordS (t0, t1, t2, t3)).toList == [110, 105, 108]) = false := word_is (s := wNil) (by decide) _ (isW_diff' hq (by decide))
  have g1 : ((wordS (t0, t1, t2, t3)).toList == [116, 114, 117, 101]) = false := word_is (s := wTrue) (by decide) _ (isW_diff' hq (by decide))
  have g2 : ((wordS (t0, t1, t2, t3)).toList == [102, 97, 108, 115, 101]) = true := word_is (s := wFalse) (by decide) _ hq
  have HK := Lib.hid hk
  generalize hY : wordS (t0, t1, t2, t3) = Y at *
  have P := Lib.hid hp
  clear hp hk h3 h4 hu hY hq
  generalize hS : bts t3 = S at *
  clear hS
  go_enter Tryz.func171, Tryz.ntmps171
  go_wp2_with fail
  refine HA.out.mono ?_; rintro e w1 ⟨rfl, b1⟩
  have BL := Lib.hid (thenBR b1 (allocB w1 (.cells #[.int .i64 t0, .int .i64 t1, .int .i64 t2, .string S] 81)))
  have FL := Lib.hid (Fr.of_below (O := O) BL.out)
  have PL1 := Lib.hid (P.out.below BL.out)
  clear b1
  have HW1 := Lib.hid (HW.out _ PL1.out)
  go_wp2_with fail
  refine HW1.out.mono ?_; rintro e w2 ⟨rfl, b2⟩
  have F2 := Lib.hid (FL.out.trans (Fr.of_below (O := O) b2) (Ext.refl _ _))
  have P2 := Lib.hid (PL1.out.below b2)
  clear b2
  go_wp2_with fail
  refine (HU.out _).mono ?_; rintro e w3 ⟨rfl, rfl⟩
  have HW2 := Lib.hid (HW.out _ P2.out)
  go_wp2_with fail
  refine HW2.out.mono ?_; rintro e w4 ⟨rfl, b4⟩
  have F4 := Lib.hid (F2.out.trans (Fr.of_below (O := O) b4) (Ext.refl _ _))
  have P4 := Lib.hid (P2.out.below b4)
  clear b4 HW HW1 HW2 HU
  have HN := Lib.hid (node_at w w4 P4.out F4.out (hdZ 3) rfl [mval 37 b] [wpSkip] (by simp) ⟨skip_part w4 b O, trivial⟩ HK.out)
  go_wp2_with fail
  refine HN.out.mono ?_; intro e wz hz
  obtain ⟨v, er, rfl⟩ := hz.ret
  have HZ := Lib.hid hz
  clear hz
  go_wp2_with fail
  go_ret2
  exact HZ.out
set_option maxRecDepth 40000 in
set_option maxHeartbeats 8000000 in
theorem opd_dots (b : Nat) (O : Nat → Prop) (t : TkP) (ts : List TkP) (T : List Nd) (K : Ast → List TkP → Prop) (E : Int → Prop) (w : World) (hp : PS w b O (t :: ts) T) (hq : isW [46, 46, 46] t = true)
    (hk : WpSeq [wpSkip] ⟨hdL 6 t.2.1, [], t :: ts, T.length⟩ (FinK K) E) :
    Calls Tryz.prog 171 #[.pointer (some ⟨b, 0, none⟩)] w (PlacePost b O T (RK K E) w) := by
  obtain ⟨t0, t1, t2, t3⟩ := t
  have h3 := isW_n3 hq
  have h4 := isW_n4 hq
  have hu : unaN (t0, t1, t2, t3) = 0 := by rcases isW_cases hq with ⟨l, n, e1⟩ | ⟨l, n, e1⟩ <;> (rw [e1]; rfl)
  have HA := Lib.hid (ahead_p b O (t0, t1, t2, t3) ts T w hp)
  have HW := Lib.hid (fun W hW => word_p b O (t0, t1, t2, t3) ts T W hW)
  unfold tokV at HA
  dsimp only at *
  have q3 : (t0 == 3) = false := beq_eq_false_iff_ne.2 h3
  have q4 : (t0 == 4) = false := beq_eq_false_iff_ne.2 h4
  have HU := Lib.hid (fun W => unary_p (t0, t1, t2, t3) W)
  rw [hu] at HU
  have g0 : ((wordS (t0, t1, t2, t3)).toList == [110, 105, 108]) = false := word_is (s := wNil) (by decide) _ (isW_diff' hq (by decide))
  have g1 : ((wordS (t0, t1, t2, t3)).toList == [116, 114, 117, 101]) = false := word_is (s := wTrue) (by decide) _ (isW_diff' hq (by decide))
  have g2 : ((wordS (t0, t1, t2, t3)).toList == [102, 97, 108, 115, 101]) = false := word_is (s := wFalse) (by decide) _ (isW_diff' hq (by decide))
  have g3 : ((wordS (t0, t1, t2, t3)).toList == [46, 46, 46]) = true := word_is (s := [46, 46, 46]) (by decide) _ hq
  have HK := Lib.hid hk
  generalize hY : wordS (t0, t1, t2, t3) = Y at *
  have P := Lib.hid hp
  clear hp hk h3 h4 hu hY hq
  generalize hS : bts t3 = S at *
  clear hS
  go_enter Tryz.func171, Tryz.ntmps171
  go_wp2_with fail
  refine HA.out.mono ?_; rintro e w1 ⟨rfl, b1⟩
  have BL := Lib.hid (thenBR b1 (allocB w1 (.cells #[.int .i64 t0, .int .i64 t1, .int .i64 t2, .string S] 81)))
  have FL := Lib.hid (Fr.of_below (O := O) BL.out)
  have PL1 := Lib.hid (P.out.below BL.out)
  clear b1
  have HW1 := Lib.hid (HW.out _ PL1.out)
  go_wp2_with fail
  refine HW1.out.mono ?_; rintro e w2 ⟨rfl, b2⟩
  have F2 := Lib.hid (FL.out.trans (Fr.of_below (O := O) b2) (Ext.refl _ _))
  have P2 := Lib.hid (PL1.out.below b2)
  clear b2
  go_wp2_with fail
  refine (HU.out _).mono ?_; rintro e w3 ⟨rfl, rfl⟩
  have HW2 := Lib.hid (HW.out _ P2.out)
  go_wp2_with fail
  refine HW2.out.mono ?_; rintro e w4 ⟨rfl, b4⟩
  have F4 := Lib.hid (F2.out.trans (Fr.of_below (O := O) b4) (Ext.refl _ _))
  have P4 := Lib.hid (P2.out.below b4)
  clear b4 HW HW1 HW2 HU
  have HN := Lib.hid (node_at w w4 P4.out F4.out (hdZ 6) rfl [mval 37 b] [wpSkip] (by simp) ⟨skip_part w4 b O, trivial⟩ HK.out)
  go_wp2_with fail
  refine HN.out.mono ?_; intro e wz hz
  obtain ⟨v, er, rfl⟩ := hz.ret
  have HZ := Lib.hid hz
  clear hz
  go_wp2_with fail
  go_ret2
  exact HZ.out
set_option maxRecDepth 40000 in
set_option maxHeartbeats 8000000 in
theorem opd_function {bd : Wp1} (hBd : RdN 125 bd) (b : Nat) (O : Nat → Prop) (t : TkP) (ts : List TkP) (T : List Nd) (K : Ast → List TkP → Prop) (E : Int → Prop) (w : World) (hp : PS w b O (t :: ts) T) (hq : isW wFunction t = true)
    (hk : WpSeq [wpSkip, bd] ⟨hdL 11 t.2.1, [], t :: ts, T.length⟩ (FinK K) E) :
    Calls Tryz.prog 171 #[.pointer (some ⟨b, 0, none⟩)] w (PlacePost b O T (RK K E) w) := by
  obtain ⟨t0, t1, t2, t3⟩ := t
  have h3 := isW_n3 hq
  have h4 := isW_n4 hq
  have hu : unaN (t0, t1, t2, t3) = 0 := by rcases isW_cases hq with ⟨l, n, e1⟩ | ⟨l, n, e1⟩ <;> (rw [e1]; rfl)
  have HA := Lib.hid (ahead_p b O (t0, t1, t2, t3) ts T w hp)
  have HW := Lib.hid (fun W hW => word_p b O (t0, t1, t2, t3) ts T W hW)
  unfold tokV at HA
  dsimp only at *
  have q3 : (t0 == 3) = false := beq_eq_false_iff_ne.2 h3
  have q4 : (t0 == 4) = false := beq_eq_false_iff_ne.2 h4
  have HU := Lib.hid (fun W => unary_p (t0, t1, t2, t3) W)
  rw [hu] at HU
  have g0 : ((wordS (t0, t1, t2, t3)).toList == [110, 105, 108]) = false := word_is (s := wNil) (by decide) _ (isW_diff' hq (by decide))
  have g1 : ((wordS (t0, t1, t2, t3)).toList == [116, 114, 117, 101]) = false := word_is (s := wTrue) (by decide) _ (isW_diff' hq (by decide))
  have g2 : ((wordS (t0, t1, t2, t3)).toList == [102, 97, 108, 115, 101]) = false := word_is (s := wFalse) (by decide) _ (isW_diff' hq (by decide))
  have g3 : ((wordS (t0, t1, t2, t3)).toList == [46, 46, 46]) = false := word_is (s := [46, 46, 46]) (by decide) _ (isW_diff' hq (by decide))
  have g4 : ((wordS (t0, t1, t2, t3)).toList == [102, 117, 110, 99, 116, 105, 111, 110]) = true := word_is (s := wFunction) (by decide) _ hq
  have HK := Lib.hid hk
  generalize hY : wordS (t0, t1, t2, t3) = Y at *
  have P := Lib.hid hp
  clear hp hk h3 h4 hu hY hq
  generalize hS : bts t3 = S at *
  clear hS
  go_enter Tryz.func171, Tryz.ntmps171
  go_wp2_with fail
  refine HA.out.mono ?_; rintro e w1 ⟨rfl, b1⟩
  have BL := Lib.hid (thenBR b1 (allocB w1 (.cells #[.int .i64 t0, .int .i64 t1, .int .i64 t2, .string S] 81)))
  have FL := Lib.hid (Fr.of_below (O := O) BL.out)
  have PL1 := Lib.hid (P.out.below BL.out)
  clear b1
  have HW1 := Lib.hid (HW.out _ PL1.out)
  go_wp2_with fail
  refine HW1.out.mono ?_; rintro e w2 ⟨rfl, b2⟩
  have F2 := Lib.hid (FL.out.trans (Fr.of_below (O := O) b2) (Ext.refl _ _))
  have P2 := Lib.hid (PL1.out.below b2)
  clear b2
  go_wp2_with fail
  refine (HU.out _).mono ?_; rintro e w3 ⟨rfl, rfl⟩
  have HW2 := Lib.hid (HW.out _ P2.out)
  go_wp2_with fail
  refine HW2.out.mono ?_; rintro e w4 ⟨rfl, b4⟩
  have F4 := Lib.hid (F2.out.trans (Fr.of_below (O := O) b4) (Ext.refl _ _))
  have P4 := Lib.hid (P2.out.below b4)
  clear b4 HW HW1 HW2 HU
  have HN := Lib.hid (node_at w w4 P4.out F4.out (hdZ 11) rfl [mval 37 b, mval 125 b] [wpSkip, bd] (by simp) ⟨skip_part w4 b O, hBd.part (enters_of Tryz.func125 (by kernel_rfl) rfl) w4 b O, trivial⟩ HK.out)
  go_wp2_with fail
  refine HN.out.mono ?_; intro e wz hz
  obtain ⟨v, er, rfl⟩ := hz.ret
  have HZ := Lib.hid hz
  clear hz
  go_wp2_with fail
  go_ret2
  exact HZ.out
set_option maxRecDepth 40000 in
set_option maxHeartbeats 8000000 in
theorem opd_tab {it : Wp1} (hIt : RdN 212 it) (b : Nat) (O : Nat → Prop) (t : TkP) (ts : List TkP) (T : List Nd) (K : Ast → List TkP → Prop) (E : Int → Prop) (w : World) (hp : PS w b O (t :: ts) T) (hq : isW [123] t = true)
    (hk : WpSeq [wpSkip, wpUnless [125] it, wpWords [[125]]] ⟨hdL 15 t.2.1, [], t :: ts, T.length⟩ (FinK K) E) :
    Calls Tryz.prog 171 #[.pointer (some ⟨b, 0, none⟩)] w (PlacePost b O T (RK K E) w) := by
  obtain ⟨t0, t1, t2, t3⟩ := t
  have h3 := isW_n3 hq
  have h4 := isW_n4 hq
  have hu : unaN (t0, t1, t2, t3) = 0 := by rcases isW_cases hq with ⟨l, n, e1⟩ | ⟨l, n, e1⟩ <;> (rw [e1]; rfl)
  have HA := Lib.hid (ahead_p b O (t0, t1, t2, t3) ts T w hp)
  have HW := Lib.hid (fun W hW => word_p b O (t0, t1, t2, t3) ts T W hW)
  unfold tokV at HA
  dsimp only at *
  have q3 : (t0 == 3) = false := beq_eq_false_iff_ne.2 h3
  have q4 : (t0 == 4) = false := beq_eq_false_iff_ne.2 h4
  have HU := Lib.hid (fun W => unary_p (t0, t1, t2, t3) W)
  rw [hu] at HU
  have g0 : ((wordS (t0, t1, t2, t3)).toList == [110, 105, 108]) = false := word_is (s := wNil) (by decide) _ (isW_diff' hq (by decide))
  have g1 : ((wordS (t0, t1, t2, t3)).toList == [116, 114, 117, 101]) = false := word_is (s := wTrue) (by decide) _ (isW_diff' hq (by decide))
  have g2 : ((wordS (t0, t1, t2, t3)).toList == [102, 97, 108, 115, 101]) = false := word_is (s := wFalse) (by decide) _ (isW_diff' hq (by decide))
  have g3 : ((wordS (t0, t1, t2, t3)).toList == [46, 46, 46]) = false := word_is (s := [46, 46, 46]) (by decide) _ (isW_diff' hq (by decide))
  have g4 : ((wordS (t0, t1, t2, t3)).toList == [102, 117, 110, 99, 116, 105, 111, 110]) = false := word_is (s := wFunction) (by decide) _ (isW_diff' hq (by decide))
  have g5 : ((wordS (t0, t1, t2, t3)).toList == [123]) = true := word_is (s := [123]) (by decide) _ hq
  have HK := Lib.hid hk
  generalize hY : wordS (t0, t1, t2, t3) = Y at *
  have P := Lib.hid hp
  clear hp hk h3 h4 hu hY hq
  generalize hS : bts t3 = S at *
  clear hS
  go_enter Tryz.func171, Tryz.ntmps171
  go_wp2_with fail
  refine HA.out.mono ?_; rintro e w1 ⟨rfl, b1⟩
  have BL := Lib.hid (thenBR b1 (allocB w1 (.cells #[.int .i64 t0, .int .i64 t1, .int .i64 t2, .string S] 81)))
  have FL := Lib.hid (Fr.of_below (O := O) BL.out)
  have PL1 := Lib.hid (P.out.below BL.out)
  clear b1
  have HW1 := Lib.hid (HW.out _ PL1.out)
  go_wp2_with fail
  refine HW1.out.mono ?_; rintro e w2 ⟨rfl, b2⟩
  have F2 := Lib.hid (FL.out.trans (Fr.of_below (O := O) b2) (Ext.refl _ _))
  have P2 := Lib.hid (PL1.out.below b2)
  clear b2
  go_wp2_with fail
  refine (HU.out _).mono ?_; rintro e w3 ⟨rfl, rfl⟩
  have HW2 := Lib.hid (HW.out _ P2.out)
  go_wp2_with fail
  refine HW2.out.mono ?_; rintro e w4 ⟨rfl, b4⟩
  have F4 := Lib.hid (F2.out.trans (Fr.of_below (O := O) b4) (Ext.refl _ _))
  have P4 := Lib.hid (P2.out.below b4)
  clear b4 HW HW1 HW2 HU
  have HN := Lib.hid ((table_p hIt b O _ ts T K E w4 P4.out HK.out).mono fun _ _ h => h.after F4.out)
  go_wp2_with fail
  refine HN.out.mono ?_; intro e wz hz
  obtain ⟨v, er, rfl⟩ := hz.ret
  have HZ := Lib.hid hz
  clear hz
  go_wp2_with fail
  go_ret2
  exact HZ.out
structure NoOpd (t : TkP) : Prop where
  n3 : t.1 ≠ 3
  n4 : t.1 ≠ 4
  un : unaN t = 0
  a : isW wNil t = false
  b : isW wTrue t = false
  c : isW wFalse t = false
  d : isW [46, 46, 46] t = false
  e : isW wFunction t = false
  f : isW [123] t = false
set_option maxRecDepth 40000 in
set_option maxHeartbeats 8000000 in
theorem opd_suf {sf : WpA} (hS : Rds 126 sf) (b : Nat) (O : Nat → Prop) (t : TkP) (ts : List TkP) (T : List Nd) (K : Ast → List TkP → Prop) (E : Int → Prop) (w : World) (hp : PS w b O (t :: ts) T) (hq : NoOpd t)
    (hk : sf (t :: ts) T.length K E) :
    Calls Tryz.prog 171 #[.pointer (some ⟨b, 0, none⟩)] w (PlacePost b O T (RK K E) w) := by
  obtain ⟨t0, t1, t2, t3⟩ := t
  have h3 := hq.n3
  have h4 := hq.n4
  have hu := hq.un
  have HA := Lib.hid (ahead_p b O (t0, t1, t2, t3) ts T w hp)
  have HW := Lib.hid (fun W hW => word_p b O (t0, t1, t2, t3) ts T W hW)
  unfold tokV at HA
  dsimp only at *
  have q3 : (t0 == 3) = false := beq_eq_false_iff_ne.2 h3
  have q4 : (t0 == 4) = false := beq_eq_false_iff_ne.2 h4
  have HU := Lib.hid (fun W => unary_p (t0, t1, t2, t3) W)
  rw [hu] at HU
  have g0 : ((wordS (t0, t1, t2, t3)).toList == [110, 105, 108]) = false := word_is (s := wNil) (by decide) _ hq.a
  have g1 : ((wordS (t0, t1, t2, t3)).toList == [116, 114, 117, 101]) = false := word_is (s := wTrue) (by decide) _ hq.b
  have g2 : ((wordS (t0, t1, t2, t3)).toList == [102, 97, 108, 115, 101]) = false := word_is (s := wFalse) (by decide) _ hq.c
  have g3 : ((wordS (t0, t1, t2, t3)).toList == [46, 46, 46]) = false := word_is (s := [46, 46, 46]) (by decide) _ hq.d
  have g4 : ((wordS (t0, t1, t2, t3)).toList == [102, 117, 110, 99, 116, 105, 111, 110]) = false := word_is (s := wFunction) (by decide) _ hq.e
  have g5 : ((wordS (t0, t1, t2, t3)).toList == [123]) = false := word_is (s := [123]) (by decide) _ hq.f
  have HK := Lib.hid hk
  generalize hY : wordS (t0, t1, t2, t3) = Y at *
  have P := Lib.hid hp
  clear hp hk h3 h4 hu hY hq
  generalize hS : bts t3 = S at *
  clear hS
  go_enter Tryz.func171, Tryz.ntmps171
  go_wp2_with fail
  refine HA.out.mono ?_; rintro e w1 ⟨rfl, b1⟩
  have BL := Lib.hid (thenBR b1 (allocB w1 (.cells #[.int .i64 t0, .int .i64 t1, .int .i64 t2, .string S] 81)))
  have FL := Lib.hid (Fr.of_below (O := O) BL.out)
  have PL1 := Lib.hid (P.out.below BL.out)
  clear b1
  have HW1 := Lib.hid (HW.out _ PL1.out)
  go_wp2_with fail
  refine HW1.out.mono ?_; rintro e w2 ⟨rfl, b2⟩
  have F2 := Lib.hid (FL.out.trans (Fr.of_below (O := O) b2) (Ext.refl _ _))
  have P2 := Lib.hid (PL1.out.below b2)
  clear b2
  go_wp2_with fail
  refine (HU.out _).mono ?_; rintro e w3 ⟨rfl, rfl⟩
  have HW2 := Lib.hid (HW.out _ P2.out)
  go_wp2_with fail
  refine HW2.out.mono ?_; rintro e w4 ⟨rfl, b4⟩
  have F4 := Lib.hid (F2.out.trans (Fr.of_below (O := O) b4) (Ext.refl _ _))
  have P4 := Lib.hid (P2.out.below b4)
  clear b4 HW HW1 HW2 HU
  have HN := Lib.hid ((hS b O _ T K E w4 P4.out HK.out).mono fun _ _ h => h.after F4.out)
  go_wp2_with fail
  refine HN.out.mono ?_; intro e wz hz
  obtain ⟨v, er, rfl⟩ := hz.ret
  have HZ := Lib.hid hz
  clear hz
  go_wp2_with fail
  go_ret2
  exact HZ.out
end Go.Proofs.YtfpeecjafccfjaaGreatDoor
namespace Go.Proofs.YtfpeecjafccfjaaGreatDoor
open Go.RowKit
def argC (op : WpA) (li : Wp1) : Wp1 := fun s K E => ∃ t r, s.ts = t :: r ∧ ((t.1 = 4 ∨ isW [123] t = true) → wpKid op s K E) ∧ (t.1 ≠ 4 → isW [123] t = false → WpSeq [wpWords [[40]], wpUnless [41] li, wpWords [[41]]] s K E)
theorem Real.ps {W : World} {b n : Nat} {O : Nat → Prop} {T0 : List Nd} {s : St} (h : Real W b n O T0 s) : ∃ Op T, PS W b Op s.ts T := by
  obtain ⟨Op, On, T, ks, hO, hd, hp, hn, hl, hc⟩ := h.ex
  exact ⟨Op, T, hp⟩
set_option maxRecDepth 20000 in
set_option maxHeartbeats 4000000 in
theorem arg_kid {op : WpA} (hT : Rds 171 op) (b n : Nat) (O : Nat → Prop) (T0 : List Nd) (s : St) (K : St → Prop) (E : Int → Prop) (w : World) (hr : Real w b n O T0 s) (t : TkP) (r : List TkP) (hs : s.ts = t :: r) (hc : t.1 = 4 ∨ isW [123] t = true) (hk : wpKid op s K E) : Calls Tryz.prog 178 #[.pointer (some ⟨b, 0, none⟩), .pointer (some ⟨n, 0, none⟩)] w (PartPost b n O T0 K E w) := by
  have HA : Hid (Calls Tryz.prog 31 #[.pointer (some ⟨b, 0, none⟩)] w fun e w' => e = .returned (tokV t) ∧ Below w.heap.size w w') := Lib.hid (by
    obtain ⟨Op, T, hp⟩ := hr.ps
    rw [hs] at hp
    exact ahead_p b Op t r T w hp)
  have HW := Lib.hid (fun W hW => real_word hr hs W hW)
  have HR := Lib.hid hr
  have HKid := Lib.hid (fun W1 hb => kid_p b O 171 _ _ op W1 (hT.one (enters_of Tryz.func171 (by kernel_rfl) rfl) W1 b O) (hr.below (W' := W1) hb).lt)
  have HK := Lib.hid hk
  obtain ⟨t0, t1, t2, t3⟩ := t
  unfold tokV at HA
  dsimp only at *
  have F0 := fld0 t0 t1 t2 (bts t3)
  by_cases h4 : t0 = 4
  · have q4 : (t0 == 4) = true := beq_iff_eq.2 h4
    clear hr hk hs hc h4 HW
    generalize bts t3 = S at *
    go_enter Tryz.func178, Tryz.ntmps178
    go_wp2_with fail
    refine HA.out.mono ?_; rintro e w1 ⟨rfl, b1⟩
    have B1 := Lib.hid b1
    have HC := Lib.hid (HKid.out w1 b1)
    clear b1
    go_wp2_with fail
    refine HC.out.mono ?_; rintro e w2 ⟨v, rfl, b2, h2⟩
    obtain ⟨f, first, cap, rfl, ent, hcall⟩ := h2.1.call HR.out (thenBR B1.out b2) HK.out
    have HCall := Lib.hid hcall
    clear h2 hcall b2
    unfold Enters at ent
    go_wp2_with fail
    refine HCall.out.mono ?_; intro e w2 h3
    obtain ⟨v, rfl⟩ := h3.ret
    have H3 := Lib.hid h3
    clear h3
    go_wp2_with fail
    go_ret
    exact H3.out
  · have q4 : (t0 == 4) = false := beq_eq_false_iff_ne.2 h4
    have hw : isW [123] (t0, t1, t2, t3) = true := hc.elim (fun h => (h4 h).elim) id
    have g1 : ((wordS (t0, t1, t2, t3)).toList == [123]) = true := word_is (s := [123]) (by decide) _ hw
    clear hr hk hs hc h4 hw
    generalize bts t3 = S at *
    generalize wordS (t0, t1, t2, t3) = Y at *
    go_enter Tryz.func178, Tryz.ntmps178
    go_wp2_with fail
    refine HA.out.mono ?_; rintro e w1 ⟨rfl, b1⟩
    have B1 := Lib.hid b1
    have HW1 := Lib.hid (HW.out w1 b1)
    clear b1
    go_wp2_with fail
    refine HW1.out.mono ?_; rintro e w2 ⟨rfl, b2⟩
    have B2 := Lib.hid (thenBR B1.out b2)
    have HC := Lib.hid (HKid.out w2 B2.out)
    clear b2
    go_wp2_with fail
    refine HC.out.mono ?_; rintro e w3 ⟨v, rfl, b3, h2⟩
    obtain ⟨f, first, cap, rfl, ent, hcall⟩ := h2.1.call HR.out (thenBR B2.out b3) HK.out
    have HCall := Lib.hid hcall
    clear h2 hcall b3
    unfold Enters at ent
    go_wp2_with fail
    refine HCall.out.mono ?_; intro e w2 h3
    obtain ⟨v, rfl⟩ := h3.ret
    have H3 := Lib.hid h3
    clear h3
    go_wp2_with fail
    go_ret
    exact H3.out
set_option maxRecDepth 20000 in
set_option maxHeartbeats 4000000 in
theorem arg_list {li : Wp1} (hL : RdN 80 li) (b n : Nat) (O : Nat → Prop) (T0 : List Nd) (s : St) (K : St → Prop) (E : Int → Prop) (w : World) (hr : Real w b n O T0 s) (t : TkP) (r : List TkP) (hs : s.ts = t :: r) (h4 : t.1 ≠ 4) (hw : isW [123] t = false) (hk : WpSeq [wpWords [[40]], wpUnless [41] li, wpWords [[41]]] s K E) : Calls Tryz.prog 178 #[.pointer (some ⟨b, 0, none⟩), .pointer (some ⟨n, 0, none⟩)] w (PartPost b n O T0 K E w) := by
  have HA : Hid (Calls Tryz.prog 31 #[.pointer (some ⟨b, 0, none⟩)] w fun e w' => e = .returned (tokV t) ∧ Below w.heap.size w w') := Lib.hid (by
    obtain ⟨Op, T, hp⟩ := hr.ps
    rw [hs] at hp
    exact ahead_p b Op t r T w hp)
  have HW := Lib.hid (fun W hW => real_word hr hs W hW)
  have HR := Lib.hid hr
  have HK := Lib.hid hk
  obtain ⟨t0, t1, t2, t3⟩ := t
  unfold tokV at HA
  dsimp only at *
  have F9 := fld0 t0 t1 t2 (bts t3)
  have q4 : (t0 == 4) = false := beq_eq_false_iff_ne.2 h4
  have g1 : ((wordS (t0, t1, t2, t3)).toList == [123]) = false := word_is (s := [123]) (by decide) _ hw
  clear hr hk hs h4 hw
  generalize bts t3 = S at *
  generalize wordS (t0, t1, t2, t3) = Y at *
  go_enter Tryz.func178, Tryz.ntmps178
  go_wp2_with fail
  refine HA.out.mono ?_; rintro e wa ⟨rfl, b1⟩
  have B1 := Lib.hid b1
  have HW1 := Lib.hid (HW.out wa b1)
  clear b1
  go_wp2_with fail
  refine HW1.out.mono ?_; rintro e w0 ⟨rfl, b2⟩
  have F0 := Lib.hid (Fr.of_below (O := O) (thenBR B1.out b2))
  have P0 := Lib.hid (HR.out.below (thenBR B1.out b2))
  clear b2 HW HW1 HA
  have hO0 : ∀ k, O k → k < w0.heap.size := P0.out.lt
  have V1 := Lib.hid (words_at w0 b O hO0 [40] (by decide) ⟨#[40]⟩ rfl)
  clear hO0
  go_wp2_with fail
  refine V1.out.mono ?_; rintro e w1 ⟨f1, a1, c1, rfl, b1, h1⟩
  have F1 := Lib.hid (F0.out.trans (Fr.of_below (O := O) b1) (Ext.refl _ _))
  have P1 := Lib.hid (P0.out.below b1)
  have H1 := Lib.hid h1
  clear b1 h1 V1
  have hO1 : ∀ k, O k → k < w1.heap.size := P1.out.lt
  have V2 := Lib.hid (unless_at w1 b O hO1 [41] (by decide) ⟨#[41]⟩ rfl 80 _ _ (li) (hL.part (enters_of Tryz.func80 (by kernel_rfl) rfl) w1 b O))
  clear hO1
  go_wp2_with fail
  refine V2.out.mono ?_; rintro e w2 ⟨f2, a2, c2, rfl, b2, h2⟩
  have F2 := Lib.hid (F1.out.trans (Fr.of_below (O := O) b2) (Ext.refl _ _))
  have P2 := Lib.hid (P1.out.below b2)
  have L1 := Lib.hid (H1.out.later (Fr.of_below (O := O) b2) (Ext.refl _ _))
  clear H1
  have H1 := L1
  clear L1
  have H2 := Lib.hid h2
  clear b2 h2 V2
  have hO2 : ∀ k, O k → k < w2.heap.size := P2.out.lt
  have V3 := Lib.hid (words_at w2 b O hO2 [41] (by decide) ⟨#[41]⟩ rfl)
  clear hO2
  go_wp2_with fail
  refine V3.out.mono ?_; rintro e w3 ⟨f3, a3, c3, rfl, b3, h3⟩
  have F3 := Lib.hid (F2.out.trans (Fr.of_below (O := O) b3) (Ext.refl _ _))
  have P3 := Lib.hid (P2.out.below b3)
  have L1 := Lib.hid (H1.out.later (Fr.of_below (O := O) b3) (Ext.refl _ _))
  clear H1
  have H1 := L1
  clear L1
  have L2 := Lib.hid (H2.out.later (Fr.of_below (O := O) b3) (Ext.refl _ _))
  clear H2
  have H2 := L2
  clear L2
  have H3 := Lib.hid h3
  clear b3 h3 V3
  have HN := Lib.hid (fill_at w w3 P3.out F3.out (Ext.refl _ _) [.func (.func f1) a1 c1, .func (.func f2) a2 c2, .func (.func f3) a3 c3] [wpWords [[40]], wpUnless [41] (li), wpWords [[41]]] (by simp) ⟨H1.out, H2.out, H3.out, trivial⟩ HK.out)
  go_wp2_with fail
  refine HN.out.mono ?_; intro e wz hz
  obtain ⟨v, rfl⟩ := hz.ret
  have HZ := Lib.hid hz
  clear hz
  go_wp2_with fail
  go_ret
  exact HZ.out
theorem arg_p {op : WpA} {li : Wp1} (hT : Rds 171 op) (hL : RdN 80 li) : RdN 178 (argC op li) := by
  rintro b n O T0 s K E w hr ⟨t, r, hs, h1, h2⟩
  by_cases hc : t.1 = 4 ∨ isW [123] t = true
  · exact arg_kid hT b n O T0 s K E w hr t r hs hc (h1 hc)
  · have h4 : t.1 ≠ 4 := fun h => hc (.inl h)
    have hw : isW [123] t = false := by
      cases h : isW [123] t with
      | true => exact (hc (.inr h)).elim
      | false => rfl
    exact arg_list hL b n O T0 s K E w hr t r hs h4 hw (h2 h4 hw)
def SfxPost (b : Nat) (O : Nat → Prop) (kind : Int) (wps : List Wp1) (w : World) (e : Ending) (w' : World) : Prop := ∃ A m, e = .returned (.tuple #[.int .i64 kind, .slice A m m]) ∧ Below w.heap.size w w' ∧ RdParts w' b O (.slice A m m) wps
theorem RdParts.nil (W : World) (b : Nat) (O : Nat → Prop) : RdParts W b O (.slice none 0 0) [] := ⟨[], .inl ⟨rfl, rfl⟩, trivial⟩
set_option maxRecDepth 20000 in
set_option maxHeartbeats 4000000 in
theorem sfx_dot (b : Nat) (O : Nat → Prop) (t : TkP) (ts : List TkP) (T : List Nd) (w : World) (hp : PS w b O (t :: ts) T) (hq : isW [46] t = true) : Calls Tryz.prog 152 #[.pointer (some ⟨b, 0, none⟩)] w (SfxPost b O 8 [wpSkip, keyP] w) := by
  have HW := Lib.hid (word_p b O t ts T w hp)
  have g0 : ((wordS t).toList == [46]) = true := word_is (s := [46]) (by decide) t hq
  have P := Lib.hid hp
  generalize wordS t = Y at *
  clear hp hq
  go_enter Tryz.func152, Tryz.ntmps152
  go_wp2_with fail
  refine HW.out.mono ?_; rintro e w0 ⟨rfl, b0⟩
  have F0 := Lib.hid (Fr.of_below (O := O) b0)
  have P0 := Lib.hid (P.out.below b0)
  have B0 := Lib.hid b0
  clear b0
  have HO := Lib.hid (fun k hk => (P0.out.own k hk).2)
  have HN := Lib.hid (RdParts.new (w := w0) (b := b) (O := O) HO.out [mval 37 b, mval 148 b] [wpSkip, keyP] (by simp) ⟨skip_part w0 b O, key_p.part (enters_of Tryz.func148 (by kernel_rfl) rfl) w0 b O, trivial⟩)
  go_wp2_with fail
  go_ret2
  exact ⟨_, _, rfl, thenBR B0.out (allocB w0 _), HN.out⟩
set_option maxRecDepth 20000 in
set_option maxHeartbeats 4000000 in
theorem sfx_sq {ex : Wp1} (hE : RdN 87 ex) (b : Nat) (O : Nat → Prop) (t : TkP) (ts : List TkP) (T : List Nd) (w : World) (hp : PS w b O (t :: ts) T) (hq : isW [91] t = true) : Calls Tryz.prog 152 #[.pointer (some ⟨b, 0, none⟩)] w (SfxPost b O 8 [wpSkip, ex, wpWords [[93]]] w) := by
  have HW := Lib.hid (word_p b O t ts T w hp)
  have g0 : ((wordS t).toList == [46]) = false := word_is (s := [46]) (by decide) t (isW_diff' hq (by decide))
  have g1 : ((wordS t).toList == [91]) = true := word_is (s := [91]) (by decide) t hq
  have P := Lib.hid hp
  generalize wordS t = Y at *
  clear hp hq
  go_enter Tryz.func152, Tryz.ntmps152
  go_wp2_with fail
  refine HW.out.mono ?_; rintro e w0 ⟨rfl, b0⟩
  have F0 := Lib.hid (Fr.of_below (O := O) b0)
  have P0 := Lib.hid (P.out.below b0)
  have B0 := Lib.hid b0
  clear b0
  have hO0 : ∀ k, O k → k < w0.heap.size := fun k hk => (P0.out.own k hk).2
  have V1 := Lib.hid (words_at w0 b O hO0 [93] (by decide) ⟨#[93]⟩ rfl)
  clear hO0
  go_wp2_with fail
  refine V1.out.mono ?_; rintro e w1 ⟨f1, a1, c1, rfl, b1, h1⟩
  have F1 := Lib.hid (F0.out.trans (Fr.of_below (O := O) b1) (Ext.refl _ _))
  have B1 := Lib.hid (thenBR B0.out b1)
  have P1 := Lib.hid (P0.out.below b1)
  have H1 := Lib.hid h1
  clear b1 h1 V1
  have HO := Lib.hid (fun k hk => (P1.out.own k hk).2)
  have HN := Lib.hid (RdParts.new (w := w1) (b := b) (O := O) HO.out [mval 37 b, mval 87 b, .func (.func f1) a1 c1] [wpSkip, ex, wpWords [[93]]] (by simp) ⟨skip_part w1 b O, hE.part (enters_of Tryz.func87 (by kernel_rfl) rfl) w1 b O, H1.out, trivial⟩)
  go_wp2_with fail
  go_ret2
  exact ⟨_, _, rfl, thenBR B1.out (allocB w1 _), HN.out⟩
set_option maxRecDepth 20000 in
set_option maxHeartbeats 4000000 in
theorem sfx_colon {ar : Wp1} (hG : RdN 178 ar) (b : Nat) (O : Nat → Prop) (t : TkP) (ts : List TkP) (T : List Nd) (w : World) (hp : PS w b O (t :: ts) T) (hq : isW [58] t = true) : Calls Tryz.prog 152 #[.pointer (some ⟨b, 0, none⟩)] w (SfxPost b O 10 [wpSkip, wpLabel, ar] w) := by
  have HW := Lib.hid (word_p b O t ts T w hp)
  have g0 : ((wordS t).toList == [46]) = false := word_is (s := [46]) (by decide) t (isW_diff' hq (by decide))
  have g1 : ((wordS t).toList == [91]) = false := word_is (s := [91]) (by decide) t (isW_diff' hq (by decide))
  have g2 : ((wordS t).toList == [58]) = true := word_is (s := [58]) (by decide) t hq
  have P := Lib.hid hp
  generalize wordS t = Y at *
  clear hp hq
  go_enter Tryz.func152, Tryz.ntmps152
  go_wp2_with fail
  refine HW.out.mono ?_; rintro e w0 ⟨rfl, b0⟩
  have F0 := Lib.hid (Fr.of_below (O := O) b0)
  have P0 := Lib.hid (P.out.below b0)
  have B0 := Lib.hid b0
  clear b0
  have HO := Lib.hid (fun k hk => (P0.out.own k hk).2)
  have HN := Lib.hid (RdParts.new (w := w0) (b := b) (O := O) HO.out [mval 37 b, mval 84 b, mval 178 b] [wpSkip, wpLabel, ar] (by simp) ⟨skip_part w0 b O, label_part w0 b O, hG.part (enters_of Tryz.func178 (by kernel_rfl) rfl) w0 b O, trivial⟩)
  go_wp2_with fail
  go_ret2
  exact ⟨_, _, rfl, thenBR B0.out (allocB w0 _), HN.out⟩
set_option maxRecDepth 20000 in
set_option maxHeartbeats 4000000 in
theorem sfx_paren {ar : Wp1} (hG : RdN 178 ar) (b : Nat) (O : Nat → Prop) (t : TkP) (ts : List TkP) (T : List Nd) (w : World) (hp : PS w b O (t :: ts) T) (hq : isW [40] t = true) : Calls Tryz.prog 152 #[.pointer (some ⟨b, 0, none⟩)] w (SfxPost b O 9 [ar] w) := by
  have HW := Lib.hid (word_p b O t ts T w hp)
  have g0 : ((wordS t).toList == [46]) = false := word_is (s := [46]) (by decide) t (isW_diff' hq (by decide))
  have g1 : ((wordS t).toList == [91]) = false := word_is (s := [91]) (by decide) t (isW_diff' hq (by decide))
  have g2 : ((wordS t).toList == [58]) = false := word_is (s := [58]) (by decide) t (isW_diff' hq (by decide))
  have g3 : ((wordS t).toList == [40]) = true := word_is (s := [40]) (by decide) t hq
  have P := Lib.hid hp
  generalize wordS t = Y at *
  clear hp hq
  go_enter Tryz.func152, Tryz.ntmps152
  go_wp2_with fail
  refine HW.out.mono ?_; rintro e w0 ⟨rfl, b0⟩
  have F0 := Lib.hid (Fr.of_below (O := O) b0)
  have P0 := Lib.hid (P.out.below b0)
  have B0 := Lib.hid b0
  clear b0
  have HO := Lib.hid (fun k hk => (P0.out.own k hk).2)
  have HN := Lib.hid (RdParts.new (w := w0) (b := b) (O := O) HO.out [mval 178 b] [ar] (by simp) ⟨hG.part (enters_of Tryz.func178 (by kernel_rfl) rfl) w0 b O, trivial⟩)
  go_wp2_with fail
  go_ret2
  exact ⟨_, _, rfl, thenBR B0.out (allocB w0 _), HN.out⟩
set_option maxRecDepth 20000 in
set_option maxHeartbeats 4000000 in
theorem sfx_brace {ar : Wp1} (hG : RdN 178 ar) (b : Nat) (O : Nat → Prop) (t : TkP) (ts : List TkP) (T : List Nd) (w : World) (hp : PS w b O (t :: ts) T) (hq : isW [123] t = true) : Calls Tryz.prog 152 #[.pointer (some ⟨b, 0, none⟩)] w (SfxPost b O 9 [ar] w) := by
  have HW := Lib.hid (word_p b O t ts T w hp)
  have g0 : ((wordS t).toList == [46]) = false := word_is (s := [46]) (by decide) t (isW_diff' hq (by decide))
  have g1 : ((wordS t).toList == [91]) = false := word_is (s := [91]) (by decide) t (isW_diff' hq (by decide))
  have g2 : ((wordS t).toList == [58]) = false := word_is (s := [58]) (by decide) t (isW_diff' hq (by decide))
  have g3 : ((wordS t).toList == [40]) = false := word_is (s := [40]) (by decide) t (isW_diff' hq (by decide))
  have g4 : ((wordS t).toList == [123]) = true := word_is (s := [123]) (by decide) t hq
  have P := Lib.hid hp
  generalize wordS t = Y at *
  clear hp hq
  go_enter Tryz.func152, Tryz.ntmps152
  go_wp2_with fail
  refine HW.out.mono ?_; rintro e w0 ⟨rfl, b0⟩
  have F0 := Lib.hid (Fr.of_below (O := O) b0)
  have P0 := Lib.hid (P.out.below b0)
  have B0 := Lib.hid b0
  clear b0
  have HO := Lib.hid (fun k hk => (P0.out.own k hk).2)
  have HN := Lib.hid (RdParts.new (w := w0) (b := b) (O := O) HO.out [mval 178 b] [ar] (by simp) ⟨hG.part (enters_of Tryz.func178 (by kernel_rfl) rfl) w0 b O, trivial⟩)
  go_wp2_with fail
  go_ret2
  exact ⟨_, _, rfl, thenBR B0.out (allocB w0 _), HN.out⟩
structure NoSfx (t : TkP) : Prop where
  a : isW [46] t = false
  b : isW [91] t = false
  c : isW [58] t = false
  d : isW [40] t = false
  e : isW [123] t = false
set_option maxRecDepth 20000 in
set_option maxHeartbeats 4000000 in
theorem sfx_txt {ar : Wp1} (hG : RdN 178 ar) (b : Nat) (O : Nat → Prop) (t : TkP) (ts : List TkP) (T : List Nd) (w : World) (hp : PS w b O (t :: ts) T) (hq : NoSfx t) (h4 : t.1 = 4) : Calls Tryz.prog 152 #[.pointer (some ⟨b, 0, none⟩)] w (SfxPost b O 9 [ar] w) := by
  have HW := Lib.hid (word_p b O t ts T w hp)
  have g0 : ((wordS t).toList == [46]) = false := word_is (s := [46]) (by decide) t hq.a
  have g1 : ((wordS t).toList == [91]) = false := word_is (s := [91]) (by decide) t hq.b
  have g2 : ((wordS t).toList == [58]) = false := word_is (s := [58]) (by decide) t hq.c
  have g3 : ((wordS t).toList == [40]) = false := word_is (s := [40]) (by decide) t hq.d
  have g4 : ((wordS t).toList == [123]) = false := word_is (s := [123]) (by decide) t hq.e
  have P := Lib.hid hp
  have HA := Lib.hid (fun W hW => ahead_p b O t ts T W hW)
  generalize wordS t = Y at *
  obtain ⟨t0, t1, t2, t3⟩ := t
  unfold tokV at HA
  dsimp only at *
  subst h4
  have F9 := fld0 4 t1 t2 (bts t3)
  generalize bts t3 = S at *
  clear hp hq
  go_enter Tryz.func152, Tryz.ntmps152
  go_wp2_with fail
  refine HW.out.mono ?_; rintro e w0 ⟨rfl, b0⟩
  have F0 := Lib.hid (Fr.of_below (O := O) b0)
  have P0 := Lib.hid (P.out.below b0)
  have B0 := Lib.hid b0
  clear b0
  have HA1 := Lib.hid (HA.out _ P0.out)
  go_wp2_with fail
  refine HA1.out.mono ?_; rintro e w1 ⟨rfl, b1⟩
  have F1 := Lib.hid (F0.out.trans (Fr.of_below (O := O) b1) (Ext.refl _ _))
  have P1 := Lib.hid (P0.out.below b1)
  have B1 := Lib.hid (thenBR B0.out b1)
  clear b1
  have HO := Lib.hid (fun k hk => (P1.out.own k hk).2)
  have HN := Lib.hid (RdParts.new (w := w1) (b := b) (O := O) HO.out [mval 178 b] [ar] (by simp) ⟨hG.part (enters_of Tryz.func178 (by kernel_rfl) rfl) w1 b O, trivial⟩)
  go_wp2_with fail
  go_ret2
  exact ⟨_, _, rfl, thenBR B1.out (allocB w1 _), HN.out⟩
set_option maxRecDepth 20000 in
set_option maxHeartbeats 4000000 in
theorem sfx_none (b : Nat) (O : Nat → Prop) (t : TkP) (ts : List TkP) (T : List Nd) (w : World) (hp : PS w b O (t :: ts) T) (hq : NoSfx t) (h4 : t.1 ≠ 4) : Calls Tryz.prog 152 #[.pointer (some ⟨b, 0, none⟩)] w (SfxPost b O 0 [] w) := by
  have HW := Lib.hid (word_p b O t ts T w hp)
  have g0 : ((wordS t).toList == [46]) = false := word_is (s := [46]) (by decide) t hq.a
  have g1 : ((wordS t).toList == [91]) = false := word_is (s := [91]) (by decide) t hq.b
  have g2 : ((wordS t).toList == [58]) = false := word_is (s := [58]) (by decide) t hq.c
  have g3 : ((wordS t).toList == [40]) = false := word_is (s := [40]) (by decide) t hq.d
  have g4 : ((wordS t).toList == [123]) = false := word_is (s := [123]) (by decide) t hq.e
  have P := Lib.hid hp
  have HA := Lib.hid (fun W hW => ahead_p b O t ts T W hW)
  have h4 := h4
  generalize wordS t = Y at *
  obtain ⟨t0, t1, t2, t3⟩ := t
  unfold tokV at HA
  dsimp only at *
  have F9 := fld0 t0 t1 t2 (bts t3)
  have q4 : (t0 == 4) = false := beq_eq_false_iff_ne.2 h4
  generalize bts t3 = S at *
  clear hp hq h4
  go_enter Tryz.func152, Tryz.ntmps152
  go_wp2_with fail
  refine HW.out.mono ?_; rintro e w0 ⟨rfl, b0⟩
  have F0 := Lib.hid (Fr.of_below (O := O) b0)
  have P0 := Lib.hid (P.out.below b0)
  have B0 := Lib.hid b0
  clear b0
  have HA1 := Lib.hid (HA.out _ P0.out)
  go_wp2_with fail
  refine HA1.out.mono ?_; rintro e w1 ⟨rfl, b1⟩
  have F1 := Lib.hid (F0.out.trans (Fr.of_below (O := O) b1) (Ext.refl _ _))
  have P1 := Lib.hid (P0.out.below b1)
  have B1 := Lib.hid (thenBR B0.out b1)
  clear b1
  go_wp2_with fail
  go_ret2
  exact ⟨_, _, rfl, B1.out, RdParts.nil _ _ _⟩
end Go.Proofs.YtfpeecjafccfjaaGreatDoor
