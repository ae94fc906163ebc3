/- selkielaw06.TreeGrows answers true at every tree and line and leaves its arguments as they were; the listed variables start as the program's text lays them (the card ties them). -/
import Derived.Test.YtjlpklhibdkmeaaGreatDoorGro
import Derived.Test.YtjlpklhibdkmeaaGreatDoorLaid
import Derived.Test.YtjlpklhibdkmeaaGreatDoorJoins
namespace Go.Proofs.YtjlpklhibdkmeaaGreatDoor
open Go.ChangeShapes Go.WideShapes Go.ChangeAt Go.WideMaps Go.WideElems Go.RowKit Go.ChangeMaps

theorem u8_lo {n : Int} (h : (Lit.int .u8 n).wf = true) : 0 ≤ n := by
  have h' : (decide (IntKind.u8.min ≤ n) && decide (n ≤ IntKind.u8.max)) = true := h
  simp only [Bool.and_eq_true, decide_eq_true_eq] at h'
  exact h'.1
theorem u8_hi {n : Int} (h : (Lit.int .u8 n).wf = true) : n ≤ 255 := by
  have h' : (decide (IntKind.u8.min ≤ n) && decide (n ≤ IntKind.u8.max)) = true := h
  simp only [Bool.and_eq_true, decide_eq_true_eq] at h'
  exact h'.2
theorem arg_of {H : Type} {w : World} {nv : Value} {T : List Nd} {ds : List (DataW H)} {d : DataW H} {ts : List TypeId} (ht : TrR w T nv) (hts : ts[0]? = some 24) (hds : ds[0]? = some d)
    (hw : (∀ n ∈ d.weights Tryz.prog 24, n ≤ reachBytes) → ∀ x ∈ T, x.names.length ≤ 140737488355328 ∧ x.kids.length ≤ 140737488355328) (hwt : (DataW.weightsEach Tryz.prog ts ds).all (· ≤ reachBytes) = true) : Arg w nv T := by
  have h1 := hw fun n hn => of_decide_eq_true (List.all_eq_true.1 hwt n (DataW.weights_mem_each hts hds n hn))
  exact ⟨ht.nodes, ht.nil_, ht.l, ht.o, ht.n, ⟨fun x hx => (h1 x hx).1, fun x hx => (h1 x hx).2⟩⟩

set_option maxRecDepth 100000 in
theorem grows_lifted (os : Os) (started : os.Started) (H : Type) (enc : TypeId × Value → H) :
    ReturnsInHanded {} Tryz.checked os 4 .any (fun w args => (Rows.treeGrowsSpec.pre enc Tryz.prog Tryz.f4 [] false w args ∧ laidMetH Tryz.prog laid5 w) ∧ sizedMet enc Tryz.prog Tryz.f4 (OpenSpec.ofChange Rows.treeGrowsSpec) false w args)
      (Rows.treeGrowsSpec.post enc Tryz.prog Tryz.f4 false true false false) := by
  refine handed (C := Tryz.checked) (X := fun w _ => laidMetH Tryz.prog laid5 w) (fun _ _ _ hh h => h.of_heap hh) own started (by kernel_rfl) Tryz.func4
    (ChangeSpec.witness_shaped (enc := enc) (C := Tryz.checked) (os := os) (X := fun w _ => laidMetH Tryz.prog laid5 w) false (World.laidAll Tryz.prog os laid5) #[.agg #[.slice Option.none 0 0, .int .i64 0], .int .u8 0] 8 (World.laidAll_os _ _ _) (door_shaped os) (by kernel_rfl) (by kernel_rfl) (by kernel_rfl) (door_met os _)) ?_
  intro W base args ds gs before hval0 hW hL hwt
  have hval : ∀ (j : Nat) t v, Tryz.f4.params[j]? = some t → args[j]? = some v → Value.okWide Tryz.prog W .any base t v := hval0
  have hW' := hW
  obtain ⟨p, q, hA0, hV, rfl, hfz, hnd⟩ := hW
  have hA : DataW.TrodAll enc Tryz.prog W 0 (fun _ => true) true Tryz.f4.params.toList args.toList ds p := hA0
  rw [Tryz.params4] at hA hval
  obtain ⟨v0, v1, d0, d1, p0, p1, rfl, rfl, rfl, h0, h1⟩ := trodAll_two hA
  obtain ⟨rfl, rfl⟩ := trodVars_none hV
  clear hA0 hval0
  simp only [List.append_nil] at hW'
  have hlt0 : ∀ x ∈ p0, x.block < W.heap.size := fun x hx => by simpa using hW'.lt x (by simp [hx])
  have hlt1 : ∀ x ∈ p1, x.block < W.heap.size := fun x hx => by simpa using hW'.lt x (by simp [hx])
  have g0 := h0
  have glt0 := hlt0
  have g1 := h1
  have glt1 := hlt1
  obtain ⟨nv, T, r, rfl, htr, hr0, hr1, hwx⟩ := open_tree (hval 0 24 v0 rfl rfl) h0 hlt0
  obtain ⟨line, rfl, rfl, rfl, hlw⟩ := open_int Tryz.underlying5 (hval 1 5 v1 rfl rfl) h1
  have hArg := arg_of htr (by rw [show Tryz.checked.prog = Tryz.prog from rfl, Tryz.params4]; rfl) rfl hwx hwt
  refine (grows_any nv T r line W hArg (tab_of hL) (u8_lo hlw) (u8_hi hlw)).mono fun e W' ⟨he, hb⟩ => ?_
  subst he
  exact ⟨_, rfl, _, _, _, [], _, [], hW', trodAll_mk1 (shut_bool Tryz.underlying4 _), trodAll_mk2 (Below.trod laidOut (by kernel_rfl) (of_decide_eq_true (by kernel_rfl)) g0 hb glt0) (Below.trod laidOut (by kernel_rfl) (of_decide_eq_true (by kernel_rfl)) g1 hb glt1), rfl, hb.frame _, fun h => by cases h⟩

theorem grows_holds : Rows.TreeGrowsSaid :=
  OpenClaim.holds_of_wide 4 Tryz.f4 rfl rfl rfl rfl rfl rfl rfl ⟨rfl, rfl, rfl, rfl, rfl⟩ rfl rfl rfl rfl rfl (by kernel_rfl) Tryz.func4 (by kernel_rfl)
    (of_decide_eq_true (by kernel_rfl)) (by unfold Func.isWrapper; first | (rw [if_pos (by decide +kernel)]; kernel_rfl) | (rw [if_neg (by decide +kernel)]; exact ⟨rfl, rfl⟩))
    (fun os started H enc _ => grows_lifted os started H enc)

theorem grows_card : Rows.TreeGrowsCardSaid :=
  Claim7.holds_tied_plain_at .later [] [.data, .data, .data, .data, .pinned] true (true, "49cee466c7fc15e36409e2fa5b795c79b05a7fdcdfd6972b9820ebca5f0a6e6f") false
    grows_holds (fun _ h => by cases h) (by kernel_rfl) (fun _ h => by cases h) treeGrows_row_tie rfl ⟨rfl, rfl⟩ (by kernel_rfl) rfl
    (fun f fn hf hfn => by
      obtain rfl : f = 4 := Option.some.inj ((show Tryz.prog.funcNamed "selkie/selkielaw06.TreeGrows" = some 4 by kernel_rfl).symm.trans hf) |>.symm
      obtain rfl : fn = Tryz.f4 := (Option.some.inj (Tryz.func4.symm.trans hfn)).symm
      exact ⟨by kernel_rfl, fun j t ht => by
        rw [Tryz.params4] at ht
        have hm : t ∈ [24, 5] := by simpa using Array.mem_of_getElem? ht
        have hall : ([24, 5].all fun u => !Tryz.prog.wantsStandIn u) = true := by kernel_rfl
        exact (show Tryz.prog.wantsStandIn t = false by simpa using List.all_eq_true.1 hall t hm)⟩)
    (by kernel_rfl)
end Go.Proofs.YtjlpklhibdkmeaaGreatDoor
