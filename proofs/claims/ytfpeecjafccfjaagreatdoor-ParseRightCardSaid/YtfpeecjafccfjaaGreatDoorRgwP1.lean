/- Parts of the proof: RLuaT, Rig, Rgw. -/
import Derived.Test.YtfpeecjafccfjaaGreatDoorK15
namespace Go.Proofs.YtfpeecjafccfjaaGreatDoor
section
variable {N : Type} {V : N → Type} (body : ∀ n, G N V (V n)) (sp : N → Bool) (X Y : List TkP)
def Ee {α : Type} : G N V α → Prop
  | .ret _ => True
  | .bad => True
  | .tok f => ∀ t, Ee (f t)
  | .look f => (∀ t, Ee (f t)) ∧ ∀ a, P body (.look f) X (.ok (a, X)) → P body (.look f) Y (.ok (a, Y))
  | .call n k => if sp n then ∀ v, Ee (k v) ∧ ∀ a, P body (k v) X (.ok (a, X)) → False else ∀ v, Ee (k v)
variable {body sp X Y}
theorem P.edgeE (hb : ∀ n, sp n = false → Ee body sp X Y (body n)) {α : Type} {g : G N V α} {ts : List TkP} {r : Except Int (α × List TkP)} (h : P body g ts r) : ∀ (a : α) (us : List TkP), ts = us ++ X → r = .ok (a, X) → Ee body sp X Y g → P body g (us ++ Y) (.ok (a, Y)) := by
  induction h with
  | ret =>
    intro a us e1 e2 _
    injection e2 with e2
    injection e2 with e2 e3
    subst e2
    rw [e3] at e1
    have : us = [] := by
      have := congrArg List.length e1
      rw [List.length_append] at this
      exact List.eq_nil_of_length_eq_zero (by omega)
    subst this
    exact .ret
  | bad => intro a us _ e2; cases e2
  | @tok _ f t ts r h ih =>
    intro a us e1 e2 hE
    subst e2
    obtain ⟨c, hc⟩ := h.tail _ _ rfl
    cases us with
    | nil =>
      have := congrArg List.length e1
      rw [hc] at this
      simp at this
      omega
    | cons u us =>
      injection e1 with e3 e4
      subst e3
      exact .tok (ih a us e4 rfl (hE _))
  | @look _ f t ts r h ih =>
    intro a us e1 e2 hE
    subst e2
    cases us with
    | nil =>
      have e3 : t :: ts = X := e1
      refine hE.2 a ?_
      have h' := P.look h
      rw [e3] at h'
      exact h'
    | cons u us =>
      have e3 : t = u := by injection e1
      subst e3
      exact .look (ih a (t :: us) e1 rfl (hE.1 t))
  | @call _ n k ts ts' v r h1 h2 ih1 ih2 =>
    intro a us e1 e2 hE
    subst e2
    obtain ⟨c2, hc2⟩ := h2.tail _ _ rfl
    have hE' : if sp n then ∀ v, Ee body sp X Y (k v) ∧ ∀ a, P body (k v) X (.ok (a, X)) → False else ∀ v, Ee body sp X Y (k v) := hE
    have hEv : Ee body sp X Y (k v) := by
      by_cases hs : sp n = true
      · rw [if_pos hs] at hE'; exact (hE' v).1
      · rw [if_neg hs] at hE'; exact hE' v
    by_cases hn : c2 = []
    · subst hn
      rw [List.nil_append] at hc2
      subst hc2
      by_cases hs : sp n = true
      · rw [if_pos hs] at hE'
        exact ((hE' v).2 a h2).elim
      · exact .call (ih1 v us e1 rfl (hb n (Bool.eq_false_iff.2 hs))) (ih2 a [] rfl rfl hEv)
    · exact .call (h1.near v us c2 X Y e1 (by rw [hc2]) hn) (ih2 a c2 hc2 rfl hEv)
  | callBad _ _ => intro a us _ e2; cases e2
end
def isBlk : NT → Bool
  | .blk => true
  | _ => false
section
variable {L1 L2 : Int}
abbrev EeL (L1 L2 : Int) {α : Type} (g : GL α) : Prop := Ee bodyL isBlk [eofL L1] [eofL L2] g
theorem ee_ite {α : Type} {c : Prop} [Decidable c] {g g' : GL α} (h1 : EeL L1 L2 g) (h2 : EeL L1 L2 g') : EeL L1 L2 (if c then g else g') := by
  by_cases h : c
  · rw [if_pos h]; exact h1
  · rw [if_neg h]; exact h2
theorem ee_dead {α : Type} {f : TkP → GL α} (h1 : ∀ t, EeL L1 L2 (f t)) (h2 : ∀ a, PL (f (eofL L1)) [eofL L1] (.ok (a, [eofL L1])) → False) : EeL L1 L2 (.look f) := ⟨h1, fun a h => (h2 a (inv_look h)).elim⟩
theorem ee_same {α : Type} {f : TkP → GL α} (b : α) (h1 : ∀ t, EeL L1 L2 (f t)) (hs : f (eofL L1) = .ret b) (hr : f (eofL L2) = .ret b) : EeL L1 L2 (.look f) := ⟨h1, fun a h => by
  have h := inv_look h
  rw [hs] at h
  obtain ⟨rfl, _⟩ := inv_ret h
  refine .look ?_
  rw [hr]
  exact .ret⟩
theorem isW_eof (s : List UInt8) : isW s (eofL L1) = false := rfl
theorem eo_want {α : Type} {s : List UInt8} {k : TkP → GL α} {a : α} {ts : List TkP} (h : PL (want s k) [eofL L1] (.ok (a, ts))) : False := by
  have h := inv_look h
  rw [isW_eof] at h
  exact inv_bad h
theorem eo_name {α : Type} {k : TkP → GL α} {a : α} {ts : List TkP} (h : PL (name k) [eofL L1] (.ok (a, ts))) : False := inv_bad (inv_look h)
theorem ee_want {α : Type} {s : List UInt8} {k : TkP → GL α} (h : ∀ t, EeL L1 L2 (k t)) : EeL L1 L2 (want s k) := ee_dead (fun _ => ee_ite h trivial) fun _ h => eo_want (s := s) (k := k) (.look h)
theorem ee_name {α : Type} {k : TkP → GL α} (h : ∀ t, EeL L1 L2 (k t)) : EeL L1 L2 (name k) := ee_dead (fun _ => ee_ite h trivial) fun _ h => inv_bad h
theorem eo_suf {v : Ast} {ts : List TkP} (h : PL (bodyL .suf) [eofL L1] (.ok (v, ts))) : False := inv_bad (inv_look h)
theorem eo_lef {v : Ast} {ts : List TkP} (h : PL (bodyL .lef) [eofL L1] (.ok (v, ts))) : False := by
  obtain ⟨_, _, h1, _⟩ := inv_call (inv_look h)
  exact eo_suf h1
theorem eo_una {v : Ast} {ts : List TkP} (h : PL (bodyL .una) [eofL L1] (.ok (v, ts))) : False := by
  obtain ⟨_, _, h1, _⟩ := inv_call (n := .lef) (inv_look h)
  exact eo_lef h1
theorem eo_exp {s : Nat} {v : Ast} {ts : List TkP} (h : PL (bodyL (.exp s)) [eofL L1] (.ok (v, ts))) : False := by
  obtain ⟨_, _, h1, _⟩ := inv_call h
  exact eo_una h1
theorem eo_lst {v : List Ast} {ts : List TkP} (h : PL (bodyL .lst) [eofL L1] (.ok (v, ts))) : False := by
  obtain ⟨_, _, h1, _⟩ := inv_call h
  exact eo_exp h1
theorem eo_itm {v : Ast} {ts : List TkP} (h : PL (bodyL .itm) [eofL L1] (.ok (v, ts))) : False := by
  obtain ⟨_, _, h1, _⟩ := inv_call (inv_look h)
  exact eo_exp h1
theorem eo_els {l v : List Ast} {ts : List TkP} (h : PL (bodyL (.els l)) [eofL L1] (.ok (v, ts))) : False := eo_want (inv_look h)
theorem eo_prm {l : List ByteArray} {v : List ByteArray × Int} {ts : List TkP} (h : PL (bodyL (.prm l)) [eofL L1] (.ok (v, ts))) : False := eo_name (inv_look h)
theorem ee_bw {α : Type} {s : List UInt8} {k : TkP → GL α} (h : ∀ t, EeL L1 L2 (k t)) : EeL L1 L2 (want s k) ∧ ∀ a, PL (want s k) [eofL L1] (.ok (a, [eofL L1])) → False := ⟨ee_want h, fun _ h => eo_want h⟩
theorem ee_be {α : Type} {l : List Ast} {k : List Ast → GL α} (h : ∀ v, EeL L1 L2 (k v)) : EeL L1 L2 (.call (.els l) k) ∧ ∀ a, PL (.call (.els l) k) [eofL L1] (.ok (a, [eofL L1])) → False := ⟨h, fun _ h => by
  obtain ⟨_, _, h1, _⟩ := inv_call h
  exact eo_els h1⟩
theorem ee_all (n : NT) (hn : isBlk n = false) : EeL L1 L2 (bodyL n) := by
  cases n with
  | blk => cases hn
  | sts l => exact ee_same l (fun _ => ee_ite trivial (ee_ite (fun _ _ => trivial) (ee_ite (fun _ _ => trivial) (fun _ _ => trivial)))) rfl rfl
  | ret at_ => exact ee_same _ (fun _ => ee_ite trivial (ee_ite (fun _ => trivial) (fun _ => ee_same _ (fun _ => ee_ite (fun _ => trivial) trivial) rfl rfl))) rfl rfl
  | sta =>
    refine ee_dead (fun _ => ee_ite (fun _ => ee_name fun _ => ee_want fun _ => trivial) (ee_ite (fun _ => trivial) (ee_ite (fun _ => ee_name fun _ => trivial) (ee_ite (fun _ _ => ee_bw fun _ => trivial) (ee_ite (fun _ _ => ee_want fun _ _ => ee_bw fun _ => trivial) (ee_ite (fun _ _ => ee_bw fun _ _ => trivial) (ee_ite (fun _ _ => ee_want fun _ _ => ee_be fun _ => trivial) (ee_ite (fun _ _ => trivial) (ee_ite (fun _ _ => trivial) (ee_ite (fun _ _ => trivial) (fun _ => ee_ite trivial fun _ => trivial))))))))))) fun a h => ?_
    obtain ⟨_, _, h1, _⟩ := inv_call (n := .suf) h
    exact eo_suf h1
  | els l => exact ee_dead (fun _ => ee_ite (fun _ _ => ee_want fun _ _ => ee_be fun _ => trivial) (ee_ite (fun _ _ => ee_bw fun _ => trivial) (ee_want fun _ => trivial))) fun a h => eo_want h
  | loo at_ =>
    refine fun ns => ee_dead (fun _ => ee_ite (fun _ _ => ee_want fun _ _ => ee_dead (fun _ => ee_ite (fun _ _ => ee_want fun _ _ => ee_bw fun _ => trivial) (ee_want fun _ _ => ee_bw fun _ => trivial)) fun a h => eo_want h) (ee_want fun _ _ => ee_want fun _ _ => ee_bw fun _ => trivial)) fun a h => ?_
    rw [if_neg (fun h => by cases h.1)] at h
    exact eo_want h
  | fnm at_ => exact ee_name fun _ _ => trivial
  | fnx at_ x =>
    refine ee_dead (fun _ => ee_ite (fun _ => ee_name fun _ _ => trivial) (ee_ite (fun _ => ee_name fun _ _ => trivial) (fun _ => trivial))) fun a h => ?_
    obtain ⟨_, _, h1, _⟩ := inv_call (n := .bdy at_ []) h
    exact eo_want h1
  | loc at_ =>
    refine ee_dead (fun _ => ee_ite (fun _ => ee_name fun _ _ => trivial) (fun ns => ee_same _ (fun _ => ee_ite (fun _ _ => trivial) trivial) rfl rfl)) fun a h => ?_
    obtain ⟨_, _, h1, _⟩ := inv_call (n := .nam) h
    exact eo_name h1
  | bdy at_ s =>
    refine ee_want fun _ => ee_dead (fun _ => ee_ite (fun _ _ => ee_bw fun _ => trivial) (fun _ => ee_want fun _ _ => ee_bw fun _ => trivial)) fun a h => ?_
    obtain ⟨_, _, h1, _⟩ := inv_call (n := .prm s) h
    exact eo_prm h1
  | prm l => exact ee_dead (fun _ => ee_ite (fun _ => trivial) (ee_name fun _ => ee_same _ (fun _ => ee_ite (fun _ _ => trivial) trivial) rfl rfl)) fun a h => eo_name h
  | nam => exact ee_name fun _ _ => trivial
  | nmm l => exact ee_same _ (fun _ => ee_ite (fun _ => ee_name fun _ _ => trivial) trivial) rfl rfl
  | lst => exact fun _ _ => trivial
  | lsm l => exact ee_same _ (fun _ => ee_ite (fun _ _ _ => trivial) trivial) rfl rfl
  | tgs at_ l =>
    refine ee_dead (fun _ => ee_ite (ee_ite (fun _ _ _ => trivial) (ee_want fun _ _ => trivial)) trivial) fun a h => ?_
    by_cases hk : (l.getLastD (nd 0 0 [])).hd.kind = 7 ∨ (l.getLastD (nd 0 0 [])).hd.kind = 8
    · rw [if_pos hk] at h
      exact eo_want h
    · rw [if_neg hk] at h
      exact inv_bad h
  | suf => exact ee_dead (fun _ => ee_ite (fun _ _ => trivial) (ee_ite (fun _ _ => ee_want fun _ _ => trivial) trivial)) fun a h => inv_bad h
  | sfx x => exact ee_same _ (fun _ => ee_ite (fun _ => ee_name fun _ _ => trivial) (ee_ite (fun _ _ => ee_want fun _ _ => trivial) (ee_ite (fun _ => ee_name fun _ _ _ => trivial) (ee_ite (fun _ _ => trivial) trivial)))) rfl rfl
  | arg =>
    refine ee_dead (fun _ => ee_ite (fun _ => trivial) (ee_ite (fun _ _ => trivial) (ee_want fun _ => ee_dead (fun _ => ee_ite (fun _ => trivial) (fun _ => ee_want fun _ => trivial)) fun a h => ?_))) fun a h => eo_want h
    obtain ⟨_, _, h1, _⟩ := inv_call (n := .lst) h
    exact eo_lst h1
  | tbl l =>
    refine ee_dead (fun _ => ee_ite (fun _ => trivial) (fun _ => ee_dead (fun _ => ee_ite (fun _ _ => trivial) (ee_want fun _ => trivial)) fun a h => eo_want h)) fun a h => ?_
    obtain ⟨_, _, h1, _⟩ := inv_call (n := .itm) h
    exact eo_itm h1
  | itm =>
    refine ee_dead (fun _ => ee_ite (fun _ _ => ee_want fun _ => ee_want fun _ _ => trivial) (fun x => ee_same _ (fun _ => ee_ite (fun _ _ => trivial) trivial) (if_neg (fun h => by cases h.1)) (if_neg (fun h => by cases h.1)))) fun a h => ?_
    obtain ⟨_, _, h1, _⟩ := inv_call (n := .exp 1) h
    exact eo_exp h1
  | exp s => exact fun _ _ => trivial
  | lvm s x =>
    refine ee_same x (fun t => ?_) rfl rfl
    show EeL L1 L2 (match binO t with | some o => _ | none => _)
    cases binO t with
    | none => trivial
    | some o => exact ee_ite (fun _ _ _ => trivial) trivial
  | una =>
    refine ee_dead (fun t => ?_) fun a h => ?_
    · show EeL L1 L2 (match unaO t with | some o => _ | none => _)
      cases unaO t with
      | none => exact fun _ => trivial
      | some o => exact fun _ _ => trivial
    · obtain ⟨_, _, h1, _⟩ := inv_call (n := .lef) h
      exact eo_lef h1
  | lef =>
    refine ee_dead (fun _ => ee_ite (fun _ => trivial) (ee_ite (fun _ => trivial) (ee_ite (fun _ => trivial) (ee_ite (fun _ => trivial) (ee_ite (fun _ _ => trivial) (ee_ite (fun _ _ => trivial) (ee_ite (fun _ => trivial) (ee_ite (fun _ => trivial) (fun _ => trivial))))))))) fun a h => ?_
    obtain ⟨_, _, h1, _⟩ := inv_call (n := .suf) h
    exact eo_suf h1
theorem src_end {ts : List TkP} {a : Ast} (hne : ts ≠ []) (h : PL srcL (ts ++ [eofL L1]) (.ok (a, [eofL L1]))) : PL srcL (ts ++ [eofL L2]) (.ok (a, [eofL L2])) := by
  obtain ⟨t, ts0, la, u, us, e1, e2, _, e3, h1⟩ := src_inv h
  rw [← e2] at h1
  have h2 : PL (bodyL (.sts [])) (ts ++ [eofL L2]) (.ok (la, [eofL L2])) := h1.edgeE (sp := isBlk) (X := [eofL L1]) (Y := [eofL L2]) (fun n hn => ee_all n hn) la ts rfl rfl (ee_all (.sts []) rfl)
  cases ts with
  | nil => exact absurd rfl hne
  | cons t' ts' =>
    injection e1 with e1 _
    subst e1 e3
    refine .call (n := NT.blk) (.look (.call h2 .ret)) (.look ?_)
    rw [if_pos (show (eofL L2).1 = 0 from rfl)]
    exact .ret
end
end Go.Proofs.YtfpeecjafccfjaaGreatDoor
namespace Go.Proofs.YtfpeecjafccfjaaGreatDoor
open Go.RowKit
theorem lex_err {L : Int} {l : List UInt8} {o : Except Int (List Tk)} (h : LexR L l o) : ∀ n, o = .error n → L - nl l ≤ n ∧ n ≤ L := by
  induction h with
  | @skipBad l r g =>
    intro n e
    injection e with e
    have : nl r ≤ nl l := by
      generalize hq : (Except.error r : Except (List UInt8) (List UInt8)) = q at g
      clear e
      induction g with
      | done _ _ => cases hq
      | @more l r0 r1 q g1 g2 _ ih =>
        have := ih hq
        have h1 := nl_suffix (comm_suffix g2)
        have h2 := nl_suffix (l := l) (List.dropWhile_suffix blB)
        rw [g1] at h2
        have h3 := nl_suffix (List.suffix_append [45, 45] r0)
        have e3 : [45, 45] ++ r0 = 45 :: 45 :: r0 := rfl
        rw [e3] at h3
        omega
      | bad g1 _ =>
        injection hq with hq
        rw [hq, ← g1]
        exact nl_suffix (List.dropWhile_suffix blB)
    omega
  | @tokBad l r g _ =>
    intro n e
    injection e with e
    have := nl_suffix (g.suffix rfl)
    omega
  | eof _ => intro n e; cases e
  | @step l r r' s k m o h1 h2 h3 h4 ih =>
    intro n e
    cases o with
    | ok => cases e
    | error n' =>
      have hr := nl_suffix (h1.suffix rfl)
      have hr' := nl_suffix h3.suffix
      injection e with e
      have := ih n' rfl
      omega
theorem src_line {s : ByteArray} {ts : List Tk} {l : Int} (h : LexR (lastL s) s.data.toList (.ok ts)) (hP : PL srcL ts (.error l)) : 1 ≤ l ∧ l ≤ s.size + 1 := by
  obtain ⟨t, ht, rfl⟩ := hP.line l rfl
  have h1 := (h.rising rfl).mem t ht
  have h2 := nl_le s.data.toList
  have hsz : s.data.toList.length = s.size := by rw [← Lib.size_eq]
  unfold lastL at h1
  omega
theorem lex_line {s : ByteArray} {n : Int} (h : LexR (lastL s) s.data.toList (.error n)) : 1 ≤ n ∧ n ≤ s.size + 1 := by
  have h1 := lex_err h n rfl
  have h2 := nl_le s.data.toList
  have hsz : s.data.toList.length = s.size := by rw [← Lib.size_eq]
  unfold lastL at h1
  omega
def tailB : List UInt8 := [45, 45, 91, 91, 32, 120, 32, 93, 93, 32, 32]
theorem tail_lex (L : Int) : LexR L (10 :: tailB) (.ok [(0, L, 0, [])]) := by
  have k : comm [91, 91, 32, 120, 32, 93, 93, 32, 32] = some [32, 32] := by decide +kernel
  exact .eof (.more (by decide) k (.done (by decide) (by decide)))
theorem right_pure {s s' : ByteArray} (e : s'.data.toList = s.data.toList ++ 10 :: tailB) {ts ts' : List Tk} {a : Ast} (h1 : LexR (lastL s) s.data.toList (.ok ts)) (h2 : PL srcL ts (.ok (a, ts'))) (hd : a.depth ≤ 100)
    {q : List UInt8 × Int × Int} (hq : Said s' q) : q.2.1 = 0 ∧ (q.1 = Ast.text hdK a ∨ Ast.size a = 1) := by
  have hL : lastL s' = lastL s + nl (10 :: tailB) := by
    unfold lastL
    rw [e, nl_app]
    omega
  obtain ⟨T, eT, hx⟩ := h1.app rfl
  have h3 := hx tailB _ (tail_lex _)
  rw [← hL, ← e] at h3
  obtain ⟨o, ho, hm⟩ := hq
  have := ho.det h3
  subst this
  obtain ⟨_, r, hr, hm⟩ := hm
  obtain ⟨T', eT', ets⟩ := src_fin (by unfold lastL; omega) h1 h2
  have : T = T' := List.append_cancel_right (eT.symm.trans eT')
  subst this
  subst eT ets
  by_cases hT : T = []
  · subst hT
    have g1 : PL srcL [eofL (lastL s)] (.ok (nd 18 (lastL s) [], [eofL (lastL s)])) := run_sound 60 _ _ _ rfl
    have g2 : PL srcL [eofL (lastL s')] (.ok (nd 18 (lastL s') [], [eofL (lastL s')])) := run_sound 60 _ _ _ rfl
    have e1 := h2.one g1
    have e2 := hr.one g2
    subst e2
    injection e1 with e1
    injection e1 with e1 _
    subst e1
    dsimp only at hm
    refine ⟨?_, .inr rfl⟩
    rcases hm with ⟨h4, _⟩ | ⟨_, _, h4⟩
    · exact absurd h4 (show ¬ (100 < 0 + 1) by decide)
    · rw [h4]
  · have g2 := src_end (L2 := lastL s') hT h2
    have e2 := hr.one g2
    subst e2
    dsimp only at hm
    rcases hm with ⟨h4, _⟩ | ⟨_, _, h4⟩
    · omega
    · rw [h4]; exact ⟨rfl, .inl rfl⟩
end Go.Proofs.YtfpeecjafccfjaaGreatDoor
namespace Go.Proofs.YtfpeecjafccfjaaGreatDoor
open Go.RowKit
theorem told_flt (v : Value) (n k : Int) (w : World) (h : EnvL w) (hf : FltE w v n k) (hk : k = 5 ∨ k = 6 ∨ k = 7) : Calls Tryz.prog 10 #[v] w fun e w' => e = .returned (.tuple #[.int .i64 k, .int .i64 n]) ∧ Below w.heap.size w w' := by
  rcases hk with rfl | rfl | rfl
  · exact told_any v n w h hf
  · exact told_6 v n w h hf
  · exact told_7 v n w h hf
theorem parse_law (s : ByteArray) (w : World) (hs : s.size ≤ 4000) (hE : EnvL w) : Calls Tryz.prog 9 #[.string s] w fun e w' => Below w.heap.size w w' ∧
    ((∃ v n k, e = .returned (.tuple #[noTree, v]) ∧ FltE w' v n k ∧ (k = 5 ∨ k = 6 ∨ k = 7) ∧ 1 ≤ n ∧ n ≤ s.size + 1) ∨
     (∃ v T p a ts ts', e = .returned (.tuple #[v, .nilIface]) ∧ TreeV w' v T ((p : Nat) : Int) ∧ Lies [] T [a] [((p : Nat) : Int)] ∧ LexR (lastL s) s.data.toList (.ok ts) ∧ PL srcL ts (.ok (a, ts')) ∧ a.depth ≤ 100 ∧ ts.length ≤ s.size + 1)) := by
  refine (parse_p s w (by omega) hE).mono ?_
  rintro e w' ⟨hb, o, ho, hm⟩
  refine ⟨hb, ?_⟩
  cases o with
  | error n =>
    obtain ⟨v, h1, h2⟩ := hm
    exact .inl ⟨v, n, 5, h1, h2, .inl rfl, lex_line ho⟩
  | ok ts =>
    obtain ⟨hl, q, hq, hm⟩ := hm
    cases q with
    | error l =>
      obtain ⟨v, h1, h2⟩ := hm
      exact .inl ⟨v, l, 6, h1, h2, .inr (.inl rfl), src_line ho hq⟩
    | ok z =>
      obtain ⟨a, ts'⟩ := z
      rcases hm with ⟨_, v, h1, h2⟩ | ⟨hd, v, T, p, h1, h2, h3⟩
      · exact .inl ⟨v, 1, 7, h1, h2, .inr (.inr rfl), by omega, by omega⟩
      · exact .inr ⟨v, T, p, a, ts, ts', h1, h2, h3, ho, hq, hd, hl⟩
theorem far_p (s : ByteArray) (w : World) (hE : EnvL w) (hT : TabR w) (hs : 4000 < s.size) : Calls Tryz.prog 3 #[.string s] w fun e w' => e = .returned (.bool true) ∧ Below w.heap.size w w' := by
  have A1 := Lib.hid (alive_p w hE hT)
  have g1 : decide ((4000 : Int) < (s.size : Int)) = true := decide_eq_true (by omega)
  clear hE hT hs
  go_enter Tryz.func3, Tryz.ntmps3
  go_wp2_with fail
  refine A1.out.mono ?_; rintro e w1 ⟨rfl, b1⟩
  go_wp2_with fail
  go_ret
  exact ⟨rfl, b1⟩
set_option maxHeartbeats 4000000 in
set_option maxRecDepth 100000 in
theorem near_p (s : ByteArray) (w : World) (hE : EnvL w) (hT : TabR w) (hs : s.size ≤ 4000) : Calls Tryz.prog 3 #[.string s] w fun e w' => e = .returned (.bool true) ∧ Below w.heap.size w w' := by
  have A1 := Lib.hid (alive_p w hE hT)
  have HE := Lib.hid hE
  have HTb := Lib.hid hT
  have HS := Lib.hid hs
  have g1 : decide ((4000 : Int) < (s.size : Int)) = false := decide_eq_false (by omega)
  clear hE hT
  go_enter Tryz.func3, Tryz.ntmps3
  go_wp2_with fail
  refine A1.out.mono ?_; rintro e w1 ⟨rfl, b1⟩
  have B1 := Lib.hid b1
  clear b1
  go_wp2_with fail
  refine (parse_law s w1 HS.out (HE.out.below B1.out)).mono ?_; rintro e w2 ⟨b2, h2⟩
  have B2 := Lib.hid (thenBR B1.out b2)
  rcases h2 with ⟨v, n, k, rfl, hf, hk, hn1, hn2⟩ | ⟨v, T, p, a, ts, ts', rfl, hv, hl, hlx, hP, hd, hlen⟩
  · have HF := Lib.hid (fun W (hW : Below w2.heap.size w2 W) => told_flt v n k W (HE.out.below (thenBR B2.out hW)) (by
      obtain ⟨g, e1, e2⟩ := hf
      exact ⟨g, e1, (hW.block g (Array.getElem?_eq_some_iff.1 e2).1).trans e2⟩) hk)
    obtain ⟨g, rfl, _⟩ := hf
    have gk : decide ((0 : Int) < k) = true := decide_eq_true (by omega)
    have gn1 : decide ((1 : Int) ≤ n) = true := decide_eq_true (by omega)
    have gn2 : decide (n ≤ (s.size : Int) + 1) = true := decide_eq_true (by omega)
    clear b2 hk hn1 hn2
    unfold noTree
    go_wp2_with fail
    refine (HF.out _ (allocB w2 _)).mono ?_; rintro e w3 ⟨rfl, b3⟩
    have B3 := Lib.hid (thenBR B2.out (thenBR (allocB w2 _) b3))
    have e0 := (b3.cell (p := ⟨w2.heap.size, 0, none⟩) (by simp)).trans (boxed2 w2 (.slice none 0 0) (.int .i64 0)).1
    clear b3
    go_wp2_with fail
    go_ret
    exact ⟨rfl, B3.out⟩
  · obtain ⟨hg, hm⟩ := read_all (by have := HS.out; omega) hlx hlen hP
    have hN : T.length ≤ 16384 := by
      have h1 := hl.len
      have h2 := src_size hP
      rw [sz1] at h1
      have := HS.out
      simp at h1
      omega
    have hone : T.length = Ast.size a := by
      have h1 := hl.len
      rw [sz1] at h1
      simpa using h1
    have hln : ∀ x ∈ T, 1 ≤ x.line ∧ x.line ≤ (s.size : Int) + 1 := fun x hx => by
      have h1 := hl.every (Q := LnN (lastL s)) (fun x ks hx => hx) (every_ln a hg.1.1 hg.1.2) x hx
      have h2 := nl_le s.data.toList
      have hsz : s.data.toList.length = s.size := by rw [← Lib.size_eq]
      unfold LnN lastL at h1
      omega
    have hsm := sm_tree hN hl (by have := HS.out; omega) hg hm
    have hrt : rightK T (p : Int) = true := by
      obtain ⟨js, r1, r2, r3, _⟩ := hl.alone
      unfold rightK
      rw [right_rep fieldsK_kids r1 r2 r3 hN, hg.1.1, decide_eq_true hd, decide_eq_true hg.2]
      rfl
    have HPr := Lib.hid (fun W (hW : TabR W) (hV : TreeV W v T (p : Int)) => print_read W hW hV hl hN (by have := HS.out; omega) hg hm hd)
    have HRt := Lib.hid (fun W (hV : TreeV W v T (p : Int)) => right_any v T (p : Int) W hV hsm.szd)
    rw [hrt] at HRt
    have HV := Lib.hid (fun W (hW : Below w2.heap.size w2 W) => hv.below hW)
    have HTL := Lib.hid (fun W (hW : Below w2.heap.size w2 W) => said_p (s ++ ⟨(10 :: tailB).toArray⟩) W (by rw [ByteArray.size_append]; have := HS.out; have e : (⟨(10 :: tailB).toArray⟩ : ByteArray).size = 12 := rfl; omega) (HE.out.below (thenBR B2.out hW)) (HTb.out.below (thenBR B2.out hW)))
    have HPU := Lib.hid (fun q (h : Said (s ++ ⟨(10 :: tailB).toArray⟩) q) => right_pure (by rw [nl_append]) hlx hP hd h)
    have HLN := Lib.hid hln
    have HONE := Lib.hid hone
    have h0 : 0 < T.length := by rw [hone]; cases a with | mk h ks => rw [Ast.size]; omega
    have H0 := Lib.hid h0
    generalize Ast.text hdK a = X at *
    generalize Ast.size a = S at *
    obtain ⟨nv, rfl, A, c, rfl, hc, hx⟩ := hv
    rcases hx with rfl | ⟨b, o, rfl, hb, hx⟩
    · simp at h0
    have HX := Lib.hid hx
    have HB := Lib.hid hb
    clear b2 hg hm hd hl hln hsm hrt hP hlx hlen hx hone h0 hb
    go_wp2_with fail
    have HBX := Lib.hid (fun W (hW : Below (w2.heap.size + 1) (w2.alloc (.cells #[.slice (some ⟨b, o, none⟩) T.length c, .int .i64 (p : Int)] 25)) W) => And.intro ((hW.cell (p := ⟨w2.heap.size, 0, none⟩) (Nat.lt_succ_self _)).trans (boxed2 w2 (.slice (some ⟨b, o, none⟩) T.length c) (.int .i64 (p : Int))).1) ((hW.cell (p := ⟨w2.heap.size, 1, none⟩) (Nat.lt_succ_self _)).trans (boxed2 w2 (.slice (some ⟨b, o, none⟩) T.length c) (.int .i64 (p : Int))).2))
    have HB0 := Lib.hid (allocB w2 (.cells #[.slice (some ⟨b, o, none⟩) T.length c, .int .i64 (p : Int)] 25))
    go_loopw [51] (fun i wr => ∃ k : Nat, k ≤ T.length ∧ i = .int .i64 (k : Int) ∧ Below (w2.heap.size + 1) (w2.alloc (.cells #[.slice (some ⟨b, o, none⟩) T.length c, .int .i64 (p : Int)] 25)) wr) (fun i _ => T.length - (intOf i).toNat)
    case atStart => exact ⟨0, Nat.zero_le _, rfl, Below.refl ..⟩
    case round =>
      obtain ⟨k, hk, rfl, hbr⟩ := hrel
      have HBR := Lib.hid hbr
      have BR := Lib.hid (HB0.out.trans (hbr.mono (Nat.le_succ _)))
      have hszr := hbr.size
      rw [asize] at hszr
      obtain ⟨x0, x1⟩ := HBX.out _ hbr
      clear hbr
      by_cases hlt : k < T.length
      · obtain ⟨x, hxk⟩ : ∃ x, T[k]? = some x := ⟨T[k], List.getElem?_eq_getElem hlt⟩
        obtain ⟨nvk, kvk, hna, hst, hnu⟩ := HX.out k x hxk
        obtain ⟨c0, c1, c2, c3, c4, c5, c6⟩ := hna.below BR.out HB.out
        have hl1 := HLN.out x (List.mem_of_getElem? hxk)
        have gl1 : decide (x.line < 1) = false := decide_eq_false (by omega)
        have gl2 : decide ((s.size : Int) + 1 < x.line) = false := decide_eq_false (by omega)
        obtain ⟨SA, sc, rfl, _, _⟩ := hst
        obtain ⟨UA, uc, rfl, _, _⟩ := hnu
        clear hxk hna hl1
        have HWN := Lib.hid (b_alloc wr (.cells #[.int .i64 x.kind, .int .i64 x.line, .int .i64 x.op, .int .i64 x.num, .string x.s, .slice SA x.names.length sc, .slice UA x.kids.length uc] 35))
        go_wp2_with fail
        go_roundw
        case rel => exact ⟨k + 1, by omega, by go_num, HBR.out.trans (HWN.out.mono hszr)⟩
        case measure => simp [intOf]; omega
      · have HTL2 := Lib.hid (HTL.out wr BR.out)
        go_wp2_with fail
        refine HTL2.out.mono ?_
        rintro e w3 ⟨b3, ⟨q1, q2, q3⟩, hq, rfl⟩
        obtain ⟨hq0, hq1⟩ := HPU.out _ hq
        dsimp only at hq0 hq1
        subst hq0
        have B3 := Lib.hid (thenBR B2.out (thenBR BR.out b3))
        have BV3 := Lib.hid (thenBR BR.out b3)
        obtain ⟨x0, x1⟩ := HBX.out _ (HBR.out.trans (b3.mono hszr))
        have BX3 := Lib.hid (HBR.out.trans (b3.mono hszr))
        have HQ1 := Lib.hid hq1
        clear b3 hq1 hq HTL2
        go_wp2_with fail
        refine (HRt.out w3 (HV.out _ BV3.out)).mono ?_
        rintro e w4 ⟨rfl, b4⟩
        have B4 := Lib.hid (thenBR B3.out b4)
        have BV4 := Lib.hid (thenBR BV3.out b4)
        obtain ⟨x0', x1'⟩ := HBX.out _ (BX3.out.trans (b4.mono (by have := BX3.out.size; rw [asize] at this; exact this)))
        have BX4 := Lib.hid (BX3.out.trans (b4.mono (by have := BX3.out.size; rw [asize] at this; exact this)))
        clear b4 x0 x1
        have HP4 := Lib.hid (HPr.out w4 (HTb.out.below B4.out) (HV.out _ BV4.out))
        go_wp2_with fail
        refine HP4.out.mono ?_
        rintro e w5 ⟨rfl, b5⟩
        have B5 := Lib.hid (thenBR B4.out b5)
        obtain ⟨x0, x1⟩ := HBX.out _ (BX4.out.trans (b5.mono (by have := BX4.out.size; rw [asize] at this; exact this)))
        clear b5 x0' x1'
        by_cases he : q1 = X
        · subst he
          go_wp2_with fail
          go_ret
          exact ⟨rfl, B5.out⟩
        · have hT1 : T.length = 1 := HONE.out.trans (HQ1.out.resolve_left he)
          have ge : decide ((⟨q1.toArray⟩ : ByteArray) = ⟨X.toArray⟩) = false := decide_eq_false (fun h => he (by injection h with h; simpa using h))
          have gt : ((T.length : Int) == 1) = true := by rw [hT1]; rfl
          go_wp2_with fail
          go_ret
          exact ⟨rfl, B5.out⟩
theorem rightlaw_any (s : ByteArray) (w : World) (hE : EnvL w) (hT : TabR w) : Calls Tryz.prog 3 #[.string s] w fun e w' => e = .returned (.bool true) ∧ Below w.heap.size w w' := by
  by_cases h : 4000 < s.size
  · exact far_p s w hE hT h
  · exact near_p s w hE hT (by omega)
end Go.Proofs.YtfpeecjafccfjaaGreatDoor
