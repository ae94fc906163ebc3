/- Parts of the proof: RLuaE, RLuaY, LexQ, Rpu, Brw. -/
import Derived.Test.YtfpeecjafccfjaaGreatDoorK15
namespace Go.Proofs.YtfpeecjafccfjaaGreatDoor
section
variable {N : Type} {V : N → Type} (body : ∀ n, G N V (V n)) (X Y : List TkP)
def Ed {α : Type} : G N V α → Prop
  | .ret _ => True
  | .bad => True
  | .tok f => ∀ t, Ed (f t)
  | .look f => (∀ t, Ed (f t)) ∧ ∀ a, P body (.look f) X (.ok (a, X)) → P body (.look f) Y (.ok (a, Y))
  | .call _ k => ∀ v, Ed (k v)
variable {body X Y}
theorem P.edge (hb : ∀ n, Ed body X Y (body n)) {α : Type} {g : G N V α} {ts : List TkP} {r : Except Int (α × List TkP)} (h : P body g ts r) : ∀ (a : α) (us : List TkP), ts = us ++ X → r = .ok (a, X) → Ed body X Y g → P body g (us ++ Y) (.ok (a, Y)) := by
  induction h with
  | ret =>
    intro a us e1 e2 _
    injection e2 with e2
    injection e2 with e2 e3
    subst e2
    rw [e3] at e1
    have : us = [] := by
      have := congrArg List.length e1
      rw [List.length_append] at this
      exact List.eq_nil_of_length_eq_zero (by omega)
    subst this
    exact .ret
  | bad => intro a us _ e2; cases e2
  | @tok _ f t ts r h ih =>
    intro a us e1 e2 hE
    subst e2
    obtain ⟨c, hc⟩ := h.tail _ _ rfl
    cases us with
    | nil =>
      have := congrArg List.length e1
      rw [hc] at this
      simp at this
      omega
    | cons u us =>
      injection e1 with e3 e4
      subst e3
      exact .tok (ih a us e4 rfl (hE _))
  | @look _ f t ts r h ih =>
    intro a us e1 e2 hE
    subst e2
    cases us with
    | nil =>
      have e3 : t :: ts = X := e1
      refine hE.2 a ?_
      have h' := P.look h
      rw [e3] at h'
      exact h'
    | cons u us =>
      have e3 : t = u := by injection e1
      subst e3
      exact .look (ih a (t :: us) e1 rfl (hE.1 t))
  | @call _ n k ts ts' v r h1 h2 ih1 ih2 =>
    intro a us e1 e2 hE
    subst e2
    obtain ⟨c2, hc2⟩ := h2.tail _ _ rfl
    by_cases hn : c2 = []
    · subst hn
      rw [List.nil_append] at hc2
      subst hc2
      exact .call (ih1 v us e1 rfl (hb n)) (ih2 a [] rfl rfl (hE v))
    · exact .call (h1.near v us c2 X Y e1 (by rw [hc2]) hn) (ih2 a c2 hc2 rfl (hE v))
  | callBad _ _ => intro a us _ e2; cases e2
end
section
variable {X Y : List TkP}
abbrev EdL (X Y : List TkP) {α : Type} (g : GL α) : Prop := Ed bodyL (semi :: X) (rpar :: Y) g
theorem ed_ite {α : Type} {c : Prop} [Decidable c] {g g' : GL α} (h1 : EdL X Y g) (h2 : EdL X Y g') : EdL X Y (if c then g else g') := by
  by_cases h : c
  · rw [if_pos h]; exact h1
  · rw [if_neg h]; exact h2
theorem ed_dead {α : Type} {f : TkP → GL α} (h1 : ∀ t, EdL X Y (f t)) (h2 : ∀ a, PL (f semi) (semi :: X) (.ok (a, semi :: X)) → False) : EdL X Y (.look f) := ⟨h1, fun a h => (h2 a (inv_look h)).elim⟩
theorem ed_want {α : Type} {s : List UInt8} {k : TkP → GL α} (hs : isW s semi = false) (h : ∀ t, EdL X Y (k t)) : EdL X Y (want s k) :=
  ed_dead (fun _ => ed_ite h trivial) fun _ h => by
    rw [hs] at h
    exact inv_bad h
theorem ed_name {α : Type} {k : TkP → GL α} (h : ∀ t, EdL X Y (k t)) : EdL X Y (name k) :=
  ed_dead (fun _ => ed_ite h trivial) fun _ h => inv_bad h
theorem ed_same {α : Type} {f : TkP → GL α} (b : α) (h1 : ∀ t, EdL X Y (f t)) (hs : f semi = .ret b) (hr : f rpar = .ret b) : EdL X Y (.look f) := ⟨h1, fun a h => by
  have h := inv_look h
  rw [hs] at h
  obtain ⟨rfl, _⟩ := inv_ret h
  refine .look ?_
  rw [hr]
  exact .ret⟩
theorem no_name {α : Type} {k : TkP → GL α} {a : α} {ts : List TkP} (h : PL (name k) (semi :: X) (.ok (a, ts))) : False := inv_bad (inv_look h)
theorem no_want {α : Type} {s : List UInt8} {k : TkP → GL α} {a : α} {ts : List TkP} (hs : isW s semi = false) (h : PL (want s k) (semi :: X) (.ok (a, ts))) : False := by
  have h := inv_look h
  rw [hs] at h
  exact inv_bad h
theorem no_suf {v : Ast} {ts : List TkP} (h : PL (bodyL .suf) (semi :: X) (.ok (v, ts))) : False := inv_bad (inv_look h)
theorem no_lef {v : Ast} {ts : List TkP} (h : PL (bodyL .lef) (semi :: X) (.ok (v, ts))) : False := by
  obtain ⟨_, _, h1, _⟩ := inv_call (inv_look h)
  exact no_suf h1
theorem no_una {v : Ast} {ts : List TkP} (h : PL (bodyL .una) (semi :: X) (.ok (v, ts))) : False := by
  obtain ⟨_, _, h1, _⟩ := inv_call (n := .lef) (inv_look h)
  exact no_lef h1
theorem no_exp {s : Nat} {v : Ast} {ts : List TkP} (h : PL (bodyL (.exp s)) (semi :: X) (.ok (v, ts))) : False := by
  obtain ⟨_, _, h1, _⟩ := inv_call h
  exact no_una h1
theorem no_lst {v : List Ast} {ts : List TkP} (h : PL (bodyL .lst) (semi :: X) (.ok (v, ts))) : False := by
  obtain ⟨_, _, h1, _⟩ := inv_call h
  exact no_exp h1
theorem no_bdy {at_ : Int} {s : List ByteArray} {v : Ast} {ts : List TkP} (h : PL (bodyL (.bdy at_ s)) (semi :: X) (.ok (v, ts))) : False := no_want rfl h
theorem no_nam {v : List ByteArray} {ts : List TkP} (h : PL (bodyL .nam) (semi :: X) (.ok (v, ts))) : False := no_name h
theorem no_prm {l : List ByteArray} {v : List ByteArray × Int} {ts : List TkP} (h : PL (bodyL (.prm l)) (semi :: X) (.ok (v, ts))) : False := no_name (inv_look h)
theorem no_itm {v : Ast} {ts : List TkP} (h : PL (bodyL .itm) (semi :: X) (.ok (v, ts))) : False := by
  obtain ⟨_, _, h1, _⟩ := inv_call (inv_look h)
  exact no_exp h1
theorem no_sts {l v : List Ast} (h : PL (bodyL (.sts l)) (semi :: X) (.ok (v, semi :: X))) : False := tok_no (inv_look h)
theorem ed_all (n : NT) : EdL X Y (bodyL n) := by
  cases n with
  | blk =>
    exact ed_dead (fun _ _ => trivial) fun a h => by
      obtain ⟨v, ts1, h1, h2⟩ := inv_call h
      obtain ⟨_, e⟩ := inv_ret h2
      subst e
      exact no_sts h1
  | sts l => exact ed_dead (fun _ => ed_ite trivial (ed_ite (fun _ _ => trivial) (ed_ite (fun _ _ => trivial) (fun _ _ => trivial)))) fun a h => tok_no h
  | ret at_ =>
    exact ed_dead (fun _ => ed_ite trivial (ed_ite (fun _ => trivial) (fun _ => ed_dead (fun _ => ed_ite (fun _ => trivial) trivial) fun a h => tok_no h))) fun a h => tok_no h
  | sta =>
    refine ed_dead (fun _ => ed_ite (fun _ => ed_name fun _ => ed_want rfl fun _ => trivial) (ed_ite (fun _ => trivial) (ed_ite (fun _ => ed_name fun _ => trivial) (ed_ite (fun _ _ => ed_want rfl fun _ => trivial) (ed_ite (fun _ _ => ed_want rfl fun _ _ => ed_want rfl fun _ => trivial) (ed_ite (fun _ _ => ed_want rfl fun _ _ => trivial) (ed_ite (fun _ _ => ed_want rfl fun _ _ _ => trivial) (ed_ite (fun _ _ => trivial) (ed_ite (fun _ _ => trivial) (ed_ite (fun _ _ => trivial) (fun _ => ed_ite trivial fun _ => trivial))))))))))) fun a h => ?_
    obtain ⟨_, _, h1, _⟩ := inv_call (n := .suf) h
    exact no_suf h1
  | els l => exact ed_dead (fun _ => ed_ite (fun _ _ => ed_want rfl fun _ _ _ => trivial) (ed_ite (fun _ _ => ed_want rfl fun _ => trivial) (ed_want rfl fun _ => trivial))) fun a h => no_want rfl h
  | loo at_ =>
    refine fun ns => ed_dead (fun _ => ed_ite (fun _ _ => ed_want rfl fun _ _ => ed_dead (fun _ => ed_ite (fun _ _ => ed_want rfl fun _ _ => ed_want rfl fun _ => trivial) (ed_want rfl fun _ _ => ed_want rfl fun _ => trivial)) fun a h => no_want rfl h) (ed_want rfl fun _ _ => ed_want rfl fun _ _ => ed_want rfl fun _ => trivial)) fun a h => ?_
    rw [if_neg (fun h => by cases h.1)] at h
    exact no_want rfl h
  | fnm at_ => exact ed_name fun _ _ => trivial
  | fnx at_ x =>
    refine ed_dead (fun _ => ed_ite (fun _ => ed_name fun _ _ => trivial) (ed_ite (fun _ => ed_name fun _ _ => trivial) (fun _ => trivial))) fun a h => ?_
    obtain ⟨_, _, h1, _⟩ := inv_call (n := .bdy at_ []) h
    exact no_bdy h1
  | loc at_ =>
    refine ed_dead (fun _ => ed_ite (fun _ => ed_name fun _ _ => trivial) (fun ns => ed_same _ (fun _ => ed_ite (fun _ _ => trivial) trivial) rfl rfl)) fun a h => ?_
    obtain ⟨_, _, h1, _⟩ := inv_call (n := .nam) h
    exact no_nam h1
  | bdy at_ s =>
    refine ed_want rfl fun _ => ed_dead (fun _ => ed_ite (fun _ _ => ed_want rfl fun _ => trivial) (fun _ => ed_want rfl fun _ _ => ed_want rfl fun _ => trivial)) fun a h => ?_
    obtain ⟨_, _, h1, _⟩ := inv_call (n := .prm s) h
    exact no_prm h1
  | prm l =>
    exact ed_dead (fun _ => ed_ite (fun _ => trivial) (ed_name fun _ => ed_same _ (fun _ => ed_ite (fun _ _ => trivial) trivial) rfl rfl)) fun a h => no_name h
  | nam => exact ed_name fun _ _ => trivial
  | nmm l =>
    exact ed_same _ (fun _ => ed_ite (fun _ => ed_name fun _ _ => trivial) trivial) rfl rfl
  | lst => exact fun _ _ => trivial
  | lsm l =>
    exact ed_same _ (fun _ => ed_ite (fun _ _ _ => trivial) trivial) rfl rfl
  | tgs at_ l =>
    refine ed_dead (fun _ => ed_ite (ed_ite (fun _ _ _ => trivial) (ed_want rfl fun _ _ => trivial)) trivial) fun a h => ?_
    by_cases hk : (l.getLastD (nd 0 0 [])).hd.kind = 7 ∨ (l.getLastD (nd 0 0 [])).hd.kind = 8
    · rw [if_pos hk] at h
      exact no_want rfl h
    · rw [if_neg hk] at h
      exact inv_bad h
  | suf => exact ed_dead (fun _ => ed_ite (fun _ _ => trivial) (ed_ite (fun _ _ => ed_want rfl fun _ _ => trivial) trivial)) fun a h => inv_bad h
  | sfx x =>
    exact ed_same _ (fun _ => ed_ite (fun _ => ed_name fun _ _ => trivial) (ed_ite (fun _ _ => ed_want rfl fun _ _ => trivial) (ed_ite (fun _ => ed_name fun _ _ _ => trivial) (ed_ite (fun _ _ => trivial) trivial)))) rfl rfl
  | arg =>
    refine ed_dead (fun _ => ed_ite (fun _ => trivial) (ed_ite (fun _ _ => trivial) (ed_want rfl fun _ => ed_dead (fun _ => ed_ite (fun _ => trivial) (fun _ => ed_want rfl fun _ => trivial)) fun a h => ?_))) fun a h => no_want rfl h
    obtain ⟨_, _, h1, _⟩ := inv_call (n := .lst) h
    exact no_lst h1
  | tbl l =>
    refine ed_dead (fun _ => ed_ite (fun _ => trivial) (fun _ => ed_dead (fun _ => ed_ite (fun _ _ => trivial) (ed_want rfl fun _ => trivial)) fun a h => tok_no h)) fun a h => ?_
    obtain ⟨_, _, h1, _⟩ := inv_call (n := .itm) h
    exact no_itm h1
  | itm =>
    refine ed_dead (fun _ => ed_ite (fun _ _ => ed_want rfl fun _ => ed_want rfl fun _ _ => trivial) (fun x => ed_same _ (fun _ => ed_ite (fun _ _ => trivial) trivial) (if_neg (fun h => by cases h.1)) (if_neg (fun h => by cases h.1)))) fun a h => ?_
    obtain ⟨_, _, h1, _⟩ := inv_call (n := .exp 1) h
    exact no_exp h1
  | exp s => exact fun _ _ => trivial
  | lvm s x =>
    refine ed_same x (fun t => ?_) rfl rfl
    show EdL X Y (match binO t with | some o => _ | none => _)
    cases binO t with
    | none => trivial
    | some o => exact ed_ite (fun _ _ _ => trivial) trivial
  | una =>
    refine ed_dead (fun t => ?_) fun a h => ?_
    · show EdL X Y (match unaO t with | some o => _ | none => _)
      cases unaO t with
      | none => exact fun _ => trivial
      | some o => exact fun _ _ => trivial
    · obtain ⟨_, _, h1, _⟩ := inv_call (n := .lef) h
      exact no_lef h1
  | lef =>
    refine ed_dead (fun _ => ed_ite (fun _ => trivial) (ed_ite (fun _ => trivial) (ed_ite (fun _ => trivial) (ed_ite (fun _ => trivial) (ed_ite (fun _ _ => trivial) (ed_ite (fun _ _ => trivial) (ed_ite (fun _ => trivial) (ed_ite (fun _ => trivial) (fun _ => trivial))))))))) fun a h => ?_
    obtain ⟨_, _, h1, _⟩ := inv_call (n := .suf) h
    exact no_suf h1
theorem exp_edge {s : Nat} {us : List TkP} {x : Ast} (h : PL (bodyL (.exp s)) (us ++ semi :: X) (.ok (x, semi :: X))) : PL (bodyL (.exp s)) (us ++ rpar :: Y) (.ok (x, rpar :: Y)) :=
  h.edge (fun n => ed_all n) x us rfl rfl (ed_all (.exp s))
end
end Go.Proofs.YtfpeecjafccfjaaGreatDoor
namespace Go.Proofs.YtfpeecjafccfjaaGreatDoor
variable {M : Int}
def nameX : TkP := (1, 1, 0, [120])
theorem isW_diff {s s' : List UInt8} {t : TkP} (h : isW s t = true) (hs : s ≠ s') : isW s' t = false := by
  unfold isW at h ⊢
  rw [Bool.and_eq_true, decide_eq_true_eq] at h
  rw [h.2, decide_eq_false hs, Bool.and_false]
theorem sfx_stop {y : Ast} {X : List TkP} : PL (bodyL (.sfx y)) (semi :: X) (.ok (y, semi :: X)) := .look .ret
theorem sfx_eq {y : Ast} {X : List TkP} : PL (bodyL (.sfx y)) (eqT :: X) (.ok (y, eqT :: X)) := .look .ret
theorem lvm_stop {s : Nat} {y : Ast} {X : List TkP} : PL (bodyL (.lvm s y)) (semi :: X) (.ok (y, semi :: X)) := .look .ret
theorem lsm_stop {l : List Ast} {X : List TkP} : PL (bodyL (.lsm l)) (semi :: X) (.ok (l, semi :: X)) := .look .ret
theorem lst_inv {ts ts' : List TkP} {l : List Ast} (h : PL (bodyL .lst) ts (.ok (l, ts'))) : ∃ x ts1, PL (bodyL (.exp 1)) ts (.ok (x, ts1)) ∧ ((l = [x] ∧ ts1 = ts') ∨ ∃ t ts2 c, ts1 = t :: ts2 ∧ isW [44] t = true ∧ ts2 = c ++ ts') := by
  obtain ⟨(x : Ast), ts1, h1, h2⟩ := inv_call (n := .exp 1) h
  have h2 := call_ret_inv (n := .lsm [x]) h2
  refine ⟨x, ts1, h1, ?_⟩
  cases ts1 with
  | nil => cases h2
  | cons t ts2 =>
    have h2 := inv_look h2
    by_cases h3 : isW [44] t = true
    · rw [if_pos h3] at h2
      have h2 := inv_tok h2
      obtain ⟨c, hc⟩ := h2.tail _ _ rfl
      exact .inr ⟨t, ts2, c, rfl, h3, hc⟩
    · rw [if_neg h3] at h2
      obtain ⟨e1, e2⟩ := inv_ret h2
      exact .inl ⟨e1, e2.symm⟩
theorem ret_inv {at_ : Int} {E : List TkP} {x : Ast} (h : PL (bodyL (.ret at_)) (E ++ [semi, eofT]) (.ok (x, [eofT]))) : ∃ l, x = nd 29 at_ l ∧ ((l = [] ∧ E = []) ∨ PL (bodyL .lst) (E ++ [semi, eofT]) (.ok (l, [semi, eofT]))) := by
  cases E with
  | nil =>
    have h := inv_look h
    rw [if_neg (by decide), if_pos (by decide)] at h
    have h := inv_tok h
    obtain ⟨h1, _⟩ := inv_ret h
    exact ⟨[], h1, .inl ⟨rfl, rfl⟩⟩
  | cons t us =>
    have h := inv_look h
    by_cases h1 : endB t = true
    · rw [if_pos h1] at h
      obtain ⟨_, e⟩ := inv_ret h
      have := congrArg List.length e
      simp at this
    · rw [if_neg h1] at h
      by_cases h2 : isW [59] t = true
      · rw [if_pos h2] at h
        have h := inv_tok h
        obtain ⟨_, e⟩ := inv_ret h
        have := congrArg List.length e
        rw [show (us.append [semi, eofT]).length = us.length + 2 from len_app2 us] at this
        have h9 : ([eofT] : List TkP).length = 1 := rfl
        omega
      · rw [if_neg h2] at h
        obtain ⟨(l : List Ast), ts1, h3, h4⟩ := inv_call (n := .lst) h
        obtain ⟨c, hc⟩ := h3.tail _ _ rfl
        cases ts1 with
        | nil => cases h4
        | cons u ts2 =>
          have h4 := inv_look h4
          by_cases h5 : isW [59] u = true
          · rw [if_pos h5] at h4
            have h4 := inv_tok h4
            obtain ⟨e1, e2⟩ := inv_ret h4
            subst e1 e2
            have hu := end_one (us := t :: us) hc
            subst hu
            exact ⟨l, rfl, .inr h3⟩
          · rw [if_neg h5] at h4
            obtain ⟨_, e2⟩ := inv_ret h4
            rw [← e2] at h3
            exact (end_bad (n := .lst) rfl (us := t :: us) h3).elim
theorem src_ret {ts : List TkP} {a : Ast} (h : PL srcL (tRet :: ts) (.ok (a, [eofT]))) : ∃ x, a = nd 18 1 [x] ∧ PL (bodyL (.ret 1)) ts (.ok (x, [eofT])) := by
  obtain ⟨t, _, la, u, us, ea, eu, _, e1, h1⟩ := src_inv h
  injection ea with ea _
  subst ea
  rw [← eu] at h1
  have h1 := inv_look h1
  rw [if_neg (by decide), if_pos (by decide)] at h1
  have h1 := inv_tok h1
  obtain ⟨(x : Ast), ts1, h2, h3⟩ := inv_call (n := .ret 1) h1
  obtain ⟨e2, e3⟩ := inv_ret h3
  subst e2 e3
  exact ⟨x, e1, h2⟩
theorem suf_paren {E X : List TkP} {x : Ast} (h : PL (bodyL (.exp 1)) (E ++ rpar :: semi :: X) (.ok (x, rpar :: semi :: X))) : PL (bodyL .suf) (lpar :: (E ++ rpar :: semi :: X)) (.ok (nd 14 1 [x], semi :: X)) := by
  refine .look ?_
  rw [if_neg (by decide), if_pos (by decide)]
  refine .tok (.call h (.look ?_))
  rw [if_pos (by decide)]
  exact .tok (.call sfx_stop .ret)
theorem exp_suf {s : Nat} {t : TkP} {ts X : List TkP} {y : Ast} (h1 : unaO t = none) (h2 : isW wNil t = false) (h3 : isW wTrue t = false) (h4 : isW wFalse t = false) (h5 : isW [46, 46, 46] t = false) (h6 : isW wFunction t = false) (h7 : isW [123] t = false) (h8 : t.1 ≠ 3) (h9 : t.1 ≠ 4)
    (h : PL (bodyL .suf) (t :: ts) (.ok (y, semi :: X))) : PL (bodyL (.exp s)) (t :: ts) (.ok (y, semi :: X)) := by
  refine .call (n := NT.una) (.look ?_) (.call lvm_stop .ret)
  rw [h1]
  refine .call (n := NT.lef) (.look ?_) .ret
  rw [h2, h3, h4, h5, h6, h7, if_neg (by decide), if_neg (by decide), if_neg (by decide), if_neg (by decide), if_neg (by decide), if_neg (by decide), if_neg h8, if_neg h9]
  exact .call h .ret
theorem ret_paren {E : List TkP} {x : Ast} (h : PL (bodyL (.exp 1)) (E ++ [semi, eofT]) (.ok (x, [semi, eofT]))) : PL (bodyL (.ret 1)) (lpar :: (E ++ rpar :: [semi, eofT])) (.ok (nd 29 1 [nd 14 1 [x]], [eofT])) := by
  have h1 : PL (bodyL (.exp 1)) (E ++ rpar :: [semi, eofT]) (.ok (x, rpar :: [semi, eofT])) := exp_edge h
  have h2 := exp_suf (s := 1) (by decide) (by decide) (by decide) (by decide) (by decide) (by decide) (by decide) (by decide) (by decide) (suf_paren h1)
  refine .look ?_
  rw [if_neg (by decide), if_neg (by decide)]
  exact .call (n := NT.lst) (.call h2 (.call lsm_stop .ret)) (.look (.tok .ret))
theorem brackets {E : List TkP} {a b : Ast} (hA : PL srcL (tRet :: (E ++ [semi, eofT])) (.ok (a, [eofT]))) (hB : PL srcL (tRet :: lpar :: (E ++ rpar :: [semi, eofT])) (.ok (b, [eofT]))) :
    ∃ l, a = nd 18 1 [nd 29 1 l] ∧ ((l = [] ∧ E = []) ∨ ∃ x, l = [x] ∧ b = nd 18 1 [nd 29 1 [nd 14 1 [x]]] ∧ PL (bodyL (.exp 1)) (E ++ [semi, eofT]) (.ok (x, [semi, eofT]))) := by
  obtain ⟨xa, e1, h1⟩ := src_ret hA
  obtain ⟨xb, e2, h2⟩ := src_ret hB
  obtain ⟨l, e3, h3⟩ := ret_inv h1
  subst e3
  refine ⟨l, e1, ?_⟩
  rcases h3 with h3 | h3
  · exact .inl h3
  · right
    obtain ⟨x, ts1, h4, h5⟩ := lst_inv h3
    rcases h5 with ⟨e4, e5⟩ | ⟨t, ts2, c, e4, ht, e5⟩
    · subst e4 e5
      refine ⟨x, rfl, ?_, h4⟩
      have h6 := P.one (ret_paren h4) h2
      injection h6 with h6
      injection h6 with h6 _
      rw [e2, ← h6]
    · exfalso
      subst e4 e5
      have h6 := h4.near x E (t :: c) [semi, eofT] (rpar :: [semi, eofT]) rfl rfl (by simp)
      -- within the brackets the comma stands where the bracket must
      have h7 := inv_look h2
      rw [if_neg (by decide), if_neg (by decide)] at h7
      obtain ⟨(l2 : List Ast), ts3, h8, _⟩ := inv_call (n := .lst) h7
      obtain ⟨_, _, h9, _⟩ := lst_inv h8
      obtain ⟨_, _, h10, _⟩ := inv_call (n := .una) h9
      obtain ⟨_, _, h11, _⟩ := inv_call (n := .lef) (inv_look h10)
      obtain ⟨_, _, h12, _⟩ := inv_call (n := .suf) (inv_look h11)
      have h12 := inv_look h12
      rw [if_neg (by decide), if_pos (by decide)] at h12
      have h12 := inv_tok h12
      obtain ⟨(y : Ast), ts4, h13, h14⟩ := inv_call (n := .exp 1) h12
      have h15 := P.one h6 h13
      injection h15 with h15
      injection h15 with _ h15
      subst h15
      have h14 := inv_look h14
      rw [if_neg (by rw [isW_diff ht (by decide)]; decide)] at h14
      exact inv_bad h14
theorem assigned {E : List TkP} {x : Ast} (h : PL (bodyL (.exp 1)) (E ++ [semi, eofT]) (.ok (x, [semi, eofT]))) : PL srcL (nameX :: eqT :: (E ++ [semi, eofT])) (.ok (nd 18 1 [ndN 20 1 1 [ndS 7 1 (bts [120]) [], x]], [eofT])) := by
  have h1 : PL (bodyL .suf) (nameX :: eqT :: (E ++ [semi, eofT])) (.ok (ndS 7 1 (bts [120]) [], eqT :: (E ++ [semi, eofT]))) := by
    refine .look ?_
    rw [if_pos (by decide)]
    exact .tok (.call sfx_eq .ret)
  have h2 : PL (bodyL (.tgs 1 [ndS 7 1 (bts [120]) []])) (eqT :: (E ++ [semi, eofT])) (.ok (ndN 20 1 1 [ndS 7 1 (bts [120]) [], x], [semi, eofT])) := by
    refine .look ?_
    rw [if_pos (.inl rfl), if_neg (by decide)]
    refine .look ?_
    rw [if_pos (by decide)]
    exact .tok (.call (n := NT.lst) (.call h (.call lsm_stop .ret)) .ret)
  have h3 : PL (bodyL .sta) (nameX :: eqT :: (E ++ [semi, eofT])) (.ok (ndN 20 1 1 [ndS 7 1 (bts [120]) [], x], [semi, eofT])) := by
    refine .look ?_
    rw [if_neg (by decide), if_neg (by decide), if_neg (by decide), if_neg (by decide), if_neg (by decide), if_neg (by decide), if_neg (by decide), if_neg (by decide), if_neg (by decide), if_neg (by decide)]
    refine .call h1 ?_
    rw [if_neg (by show ¬ ((7 : Int) = 9 ∨ (7 : Int) = 10); decide)]
    exact .call h2 .ret
  have h4 : ∀ l : List Ast, PL (bodyL (.sts l)) [semi, eofT] (.ok (l, [eofT])) := fun l => by
    refine .look ?_
    rw [if_neg (by decide), if_neg (by decide), if_pos (by decide)]
    refine .tok (.call (n := NT.sts l) (.look ?_) .ret)
    rw [if_pos (by decide)]
    exact .ret
  have h5 : PL (bodyL (.sts [])) (nameX :: eqT :: (E ++ [semi, eofT])) (.ok ([ndN 20 1 1 [ndS 7 1 (bts [120]) [], x]], [eofT])) := by
    refine .look ?_
    rw [if_neg (by decide), if_neg (by decide), if_neg (by decide)]
    exact .call h3 (.call (h4 _) .ret)
  refine .call (n := NT.blk) (.look (.call h5 .ret)) (.look ?_)
  rw [if_pos (by decide)]
  exact .ret
end Go.Proofs.YtfpeecjafccfjaaGreatDoor
namespace Go.Proofs.YtfpeecjafccfjaaGreatDoor
theorem skip_still {l : List UInt8} (h : Still l) : Skip l (.ok (l.dropWhile blB)) := by
  refine .done rfl ?_
  cases e : l.dropWhile blB with
  | nil => rfl
  | cons a t =>
    have := pre_head (r := a :: t) (by simp) (fun hm => h.1.1 ((List.dropWhile_sublist blB).subset (e ▸ hm))) []
    rwa [List.append_nil] at this
theorem skip_bad {l r : List UInt8} (h : Skip l (.error r)) (hc : Calm l) : False := by
  generalize ho : Except.error r = o at h
  cases h with
  | done _ _ => cases ho
  | more h1 _ _ => exact hc.1 ((List.dropWhile_sublist blB).subset (by rw [h1]; exact List.mem_cons_self ..))
  | bad h1 _ => exact hc.1 ((List.dropWhile_sublist blB).subset (by rw [h1]; exact List.mem_cons_self ..))
theorem tok_still {c : UInt8} {t : List UInt8} (h : Still (c :: t)) : ∃ o, Tok (c :: t) o := by
  cases h1 : ltB c with
  | true => exact ⟨_, .name h1⟩
  | false =>
    cases h2 : dgB c with
    | true =>
      cases h3 : numO 9223372036854775807 ((c :: t).takeWhile nuB) with
      | true => exact ⟨_, .num h1 h2 h3⟩
      | false => exact ⟨_, .numBad h1 h2 h3⟩
    | false =>
      have ho := opn_calm h.1.2 (by simp) []
      rw [List.append_nil] at ho
      exact ⟨_, .sign h1 h2 h.head ho⟩
theorem dw_less {p : UInt8 → Bool} {c : UInt8} {t : List UInt8} (h : p c = true) : ((c :: t).dropWhile p).length < (c :: t).length := by
  rw [List.dropWhile_cons_of_pos h, List.length_cons]
  exact Nat.lt_succ_of_le (List.dropWhile_sublist p).length_le
theorem sign_less {l t r : List UInt8} (h : sign l = some (t, r)) (hl : l ≠ []) : r.length < l.length := by
  have hp : 0 < l.length := List.length_pos_iff.2 hl
  unfold sign at h
  split at h
  · injection h with h; injection h with _ h; rw [← h, List.length_drop]; omega
  · split at h
    · injection h with h; injection h with _ h; rw [← h, List.length_drop]; omega
    · split at h
      · injection h with h; injection h with _ h; rw [← h, List.length_drop]; omega
      · cases h
theorem tok_less' {c : UInt8} {t : List UInt8} {k n : Int} {s r : List UInt8} (hs : Still (c :: t)) (h : Tok (c :: t) (some (k, n, s, r))) : r.length < (c :: t).length := by
  generalize ho : some (k, n, s, r) = o at h
  cases h with
  | name h1 =>
    simp only [Option.some.injEq, Prod.mk.injEq] at ho
    rw [ho.2.2.2]
    exact dw_less (by unfold nmB; rw [h1]; rfl)
  | num h1 h2 _ =>
    simp only [Option.some.injEq, Prod.mk.injEq] at ho
    rw [ho.2.2.2]
    exact dw_less (by unfold nuB nmB; rw [h2]; simp)
  | numBad => cases ho
  | text _ _ h3 _ => rw [hs.head] at h3; cases h3
  | long _ _ _ h4 =>
    have := opn_calm hs.1.2 (by simp) []
    rw [List.append_nil] at this
    exact absurd h4 this
  | sign _ _ _ _ =>
    cases e : Go.Proofs.YtfpeecjafccfjaaGreatDoor.sign (c :: t) with
    | none => rw [e] at ho; cases ho
    | some z =>
      obtain ⟨a, b⟩ := z
      rw [e] at ho
      simp only [Option.map_some, Option.some.injEq, Prod.mk.injEq] at ho
      rw [ho.2.2.2]
      exact sign_less e (by simp)
theorem lex_total (L : Int) : ∀ (n : Nat) (l : List UInt8), l.length ≤ n → Still l → ∃ o, LexR L l o := by
  intro n
  induction n with
  | zero =>
    intro l hn _
    obtain rfl : l = [] := List.eq_nil_of_length_eq_zero (by omega)
    exact ⟨_, .eof (.done rfl rfl)⟩
  | succ n ih =>
    intro l hn h
    have hs := skip_still h
    have hsub : l.dropWhile blB <:+ l := List.dropWhile_suffix blB
    cases e : l.dropWhile blB with
    | nil =>
      rw [e] at hs
      exact ⟨_, .eof hs⟩
    | cons c t =>
      rw [e] at hs hsub
      have hc := h.suffix hsub
      obtain ⟨o, ho⟩ := tok_still hc
      cases o with
      | none => exact ⟨_, .tokBad hs ho⟩
      | some z =>
        obtain ⟨k, m, s, r⟩ := z
        have h1 := tok_less' hc ho
        have h2 := hsub.length_le
        obtain ⟨o', ho'⟩ := ih r (by omega) (hc.suffix ho.suffix)
        exact ⟨_, .step hs (by simp) ho ho'⟩
theorem tok_noB {l : List UInt8} (h : Tok l none) (hs : Still l) (x : List UInt8) : l ≠ [] ∧ Tok (l ++ 32 :: x) none := by
  generalize ho : (none : Option (Int × Int × List UInt8 × List UInt8)) = o at h
  cases h with
  | eof => cases ho
  | name _ => cases ho
  | num _ _ _ => cases ho
  | @numBad c t h1 h2 h3 =>
    refine ⟨by simp, ?_⟩
    have := Tok.numBad (c := c) (r := t ++ 32 :: x) h1 h2 (by rw [← List.cons_append, twb (by decide)]; exact h3)
    exact this
  | text _ _ h3 _ => rw [hs.head] at h3; cases h3
  | long _ _ _ h4 =>
    have := opn_calm hs.1.2 (by simp) []
    rw [List.append_nil] at this
    exact absurd h4 this
  | @sign c t h1 h2 h3 h4 =>
    refine ⟨by simp, ?_⟩
    cases e : Go.Proofs.YtfpeecjafccfjaaGreatDoor.sign (c :: t) with
    | some z => rw [e] at ho; cases ho
    | none =>
      have := Tok.sign (c := c) (r := t ++ 32 :: x) h1 h2 h3 (by rw [← List.cons_append]; exact opn_calm hs.1.2 (by simp) _)
      rw [← List.cons_append, sign_noB x e (by simp)] at this
      exact this
theorem lex_errB {L : Int} {l : List UInt8} {q : Except Int (List Tk)} (h : LexR L l q) : Still l → ∀ {n}, q = .error n → ∀ x : List UInt8, LexR (L + nl (32 :: x)) (l ++ 32 :: x) (.error n) := by
  induction h with
  | skipBad h => intro hs n _ x; exact (skip_bad h hs.1).elim
  | @tokBad l r h1 h2 =>
    intro hs n e x
    obtain ⟨hne, ht⟩ := tok_noB h2 (hs.suffix (h1.suffix rfl)) x
    have := LexR.tokBad (L := L + nl (32 :: x)) (skip_okB h1 hs.1 hne x) ht
    rw [nl_app] at this
    have e2 : L + (nl (32 :: x) : Int) - ((nl r + nl (32 :: x) : Nat) : Int) = L - nl r := by omega
    rw [e2] at this
    injection e with e
    rw [← e]
    exact this
  | eof _ => intro _ n e; cases e
  | @step l r r' s k m o' h1 h2 h3 h4 ih =>
    intro hs n e x
    cases o' with
    | ok => cases e
    | error n' =>
      have hr := hs.suffix (h1.suffix rfl)
      have hx := ih (hr.suffix h3.suffix) rfl x
      have := LexR.step (L := L + nl (32 :: x)) (skip_okB h1 hs.1 h2 x) (by simp) (tok_appB h3 h2 hr.1.2 x) hx
      injection e with e
      rw [← e]
      exact this
end Go.Proofs.YtfpeecjafccfjaaGreatDoor
namespace Go.Proofs.YtfpeecjafccfjaaGreatDoor
open Go.RowKit
theorem ret_any {l : List UInt8} {o : Except Int (List Tk)} (h0 : nl l = 0) (h : LexR 1 (32 :: l) o) : LexR 1 (wReturn ++ 32 :: l) (o.map (tRet :: ·)) := by
  obtain ⟨h1, h2⟩ := tw_stop (p := nmB) (s := wReturn) (l := 32 :: l) (by intro b hb; have : 32 = b := Option.some.inj hb; subst this; decide) (by decide)
  have ht := Tok.name (c := 114) (r := [101, 116, 117, 114, 110] ++ 32 :: l) (by decide)
  have e : (114 :: ([101, 116, 117, 114, 110] ++ 32 :: l) : List UInt8) = wReturn ++ 32 :: l := rfl
  rw [e, h1, h2, show wordB wReturn = true from by decide] at ht
  have hs := skip_name (c := 114) (s := [101, 116, 117, 114, 110] ++ 32 :: l) (by decide)
  rw [e] at hs
  have := LexR.step (L := 1) hs (by simp [wReturn]) ht h
  rw [nl_app, nl_cons (by decide), h0] at this
  exact this
def headT : List UInt8 := [40, 98, 108, 111, 99, 107, 64, 49, 32, 40, 114, 101, 116, 117, 114, 110, 64, 49, 32]
def parT : List UInt8 := [40, 112, 97, 114, 101, 110, 64, 49, 32]
def assT : List UInt8 := [40, 98, 108, 111, 99, 107, 64, 49, 32, 40, 97, 115, 115, 105, 103, 110, 64, 49, 32, 49, 32, 40, 110, 97, 109, 101, 64, 49, 32, 34, 120, 34, 41, 32]
theorem ret_text (x : Ast) : Ast.text hdK (nd 18 1 [nd 29 1 [x]]) = headT ++ Ast.text hdK x ++ [41, 41] := by
  rw [blk_text]
  show blkT ++ (32 :: (hdK _ ++ (32 :: Ast.text hdK x ++ []) ++ [41]) ++ []) ++ [41] = _
  rw [show hdK ⟨29, 1, 0, 0, ⟨#[]⟩, [], []⟩ = [40, 114, 101, 116, 117, 114, 110, 64, 49] from by decide +kernel]
  simp [blkT, headT]
theorem ret_none : Ast.text hdK (nd 18 1 [nd 29 1 []]) = [40, 98, 108, 111, 99, 107, 64, 49, 32, 40, 114, 101, 116, 117, 114, 110, 64, 49, 41, 41] := by decide +kernel
theorem par_text (x : Ast) : Ast.text hdK (nd 14 1 [x]) = parT ++ Ast.text hdK x ++ [41] := by
  show hdK _ ++ (32 :: Ast.text hdK x ++ []) ++ [41] = _
  rw [show hdK ⟨14, 1, 0, 0, ⟨#[]⟩, [], []⟩ = [40, 112, 97, 114, 101, 110, 64, 49] from by decide +kernel]
  simp [parT]
theorem ass_text (x : Ast) : Ast.text hdK (nd 18 1 [ndN 20 1 1 [ndS 7 1 (bts [120]) [], x]]) = assT ++ Ast.text hdK x ++ [41, 41] := by
  rw [blk_text]
  show blkT ++ (32 :: (hdK _ ++ (32 :: (hdK _ ++ [] ++ [41]) ++ (32 :: Ast.text hdK x ++ [])) ++ [41]) ++ []) ++ [41] = _
  rw [show hdK ⟨20, 1, 0, 1, ⟨#[]⟩, [], []⟩ = [40, 97, 115, 115, 105, 103, 110, 64, 49, 32, 49] from by decide +kernel, show hdK ⟨7, 1, 0, 0, bts [120], [], []⟩ = [40, 110, 97, 109, 101, 64, 49, 32, 34, 120, 34] from by decide +kernel]
  simp [blkT, assT]
theorem brk_pure {sa sb sc : ByteArray} {e : List UInt8} (ea : sa.data.toList = wReturn ++ 32 :: (e ++ [32, 59])) (eb : sb.data.toList = wReturn ++ 32 :: 40 :: 32 :: (e ++ [32, 41, 32, 59])) (ec : sc.data.toList = 120 :: 32 :: 61 :: 32 :: (e ++ [32, 59]))
    (hsa : sa.size ≤ 4800) (he : Still e) (ne : (10 : UInt8) ∉ e) {a b c : List UInt8 × Int × Int} (ha : Said sa a) (hb : Said sb b) (hc : Said sc c) (h0 : a.2.1 = 0) (hlen : 21 ≤ a.1.length) :
    (b.2.1 ≠ 0 → b.2.1 = 6 ∨ b.2.1 = 7) ∧ (b.2.1 = 0 → ∃ i, a.1 = headT ++ i ++ [41, 41] ∧ b.1 = headT ++ (parT ++ i ++ [41]) ++ [41, 41] ∧ c.2.1 = 0 ∧ c.1 = assT ++ i ++ [41, 41]) := by
  have hw : nl wReturn = 0 := by decide
  have n1 : nl (wReturn ++ 32 :: (e ++ [32, 59])) = 0 := by rw [nl_app, hw, nl_zero (by simp [ne])]
  have n2 : nl (wReturn ++ 32 :: 40 :: 32 :: (e ++ [32, 41, 32, 59])) = 0 := by rw [nl_app, hw, nl_zero (by simp [ne])]
  have n3 : nl (120 :: 32 :: 61 :: 32 :: (e ++ [32, 59])) = 0 := nl_zero (by simp [ne])
  have n0 : nl (e ++ [32, 59]) = 0 := nl_zero (by simp [ne])
  obtain ⟨ts, t, l1, p1, d1, e1, g1, v1⟩ := said_ok ea n1 hsa ha h0
  -- the tokens of e
  obtain ⟨o, ho⟩ := lex_total 1 e.length e (Nat.le_refl _) he
  have bl : ∀ {l : List UInt8} {o : Except Int (List Tk)}, LexR 1 l o → LexR 1 (32 :: l) o := fun h => h.of_skip fun g => g.of_dw (by simp [blB, blkB])
  cases o with
  | error n =>
    exfalso
    have h5 := lex_errB ho he rfl [59]
    rw [show (1 : Int) + (nl [32, 59] : Int) = 1 from by decide] at h5
    have h6 := ret_any n0 (bl h5)
    have := l1.det h6
    cases this
  | ok us =>
    obtain ⟨E, rfl, hk, hx⟩ := lex_appB ho he.1 rfl
    have hx' : ∀ (x : List UInt8) (o : Except Int (List Tk)), nl x = 0 → LexR 1 (32 :: x) o → LexR 1 (e ++ 32 :: x) (o.map (E ++ ·)) := fun x o h0 ho => by
      have e1 : (1 : Int) + (nl (32 :: x) : Int) = 1 := by rw [nl_cons (by decide), h0]; rfl
      have := hx x o (by rw [e1]; exact ho)
      rwa [e1] at this
    have lE : LexR 1 (e ++ [32, 59]) (.ok (E ++ [semi, eofT])) := hx' [59] _ rfl semi_lex
    have l2 := ret_any n0 (bl lE)
    have := l1.det l2
    injection this with this
    subst this
    have lR : LexR 1 (41 :: [32, 59]) (.ok [rpar, semi, eofT]) := (O.sign (c := 41) (by decide) (by intro b hb; have : 32 = b := Option.some.inj hb; subst this; decide) ⟨rfl, semi_lex⟩).lex
    have lP : O (e ++ [32, 41, 32, 59]) (E ++ rpar :: [semi, eofT]) := ⟨nl_zero (by simp [ne]), hx' [41, 32, 59] _ rfl (bl lR)⟩
    have l3 : O (wReturn ++ 32 :: 40 :: 32 :: (e ++ [32, 41, 32, 59])) (tRet :: lpar :: (E ++ rpar :: [semi, eofT])) := O.ret (.sign (by decide) (by intro b hb; have : 32 = b := Option.some.inj hb; subst this; decide) lP.blank)
    have l4 : O (120 :: 32 :: 61 :: 32 :: (e ++ [32, 59])) (nameX :: eqT :: (E ++ [semi, eofT])) :=
      O.name (s := [120]) ⟨⟨_, _, rfl, by decide⟩, by decide, by decide⟩ (by intro b hb; have : 32 = b := Option.some.inj hb; subst this; decide) (.blank (.sign (by decide) (by intro b hb; have : 32 = b := Option.some.inj hb; subst this; decide) (O.blank ⟨n0, lE⟩)))
    obtain ⟨r, hr, hm⟩ := said_any eb n2 l3.lex hb
    cases r with
    | error n => dsimp only at hm; rw [hm]; exact ⟨fun _ => .inl rfl, fun h => by cases h⟩
    | ok w =>
      obtain ⟨tb, ts'⟩ := w
      obtain ⟨e3, hm⟩ := hm
      subst e3
      obtain ⟨l, et, hl⟩ := brackets p1 hr
      rcases hl with ⟨rfl, _⟩ | ⟨x, rfl, et2, hp⟩
      · rw [e1, et, ret_none] at hlen
        exact absurd hlen (by decide)
      · subst et et2
        rcases hm with ⟨_, h⟩ | ⟨_, _, h⟩
        · rw [h]; exact ⟨fun _ => .inr rfl, fun h => by cases h⟩
        · rw [h]
          refine ⟨fun h => absurd rfl h, fun _ => ⟨Ast.text hdK x, by rw [e1, ret_text], by show Ast.text hdK _ = _; rw [ret_text, par_text], ?_⟩⟩
          obtain ⟨r, hr, hm⟩ := said_any ec n3 l4.lex hc
          have := hr.one (assigned hp)
          subst this
          have hd : (nd 18 1 [ndN 20 1 1 [ndS 7 1 (bts [120]) [], x]]).depth ≤ 100 := by
            have h5 : max (max (Ast.depth x) 0 + 1) 0 + 1 ≤ 100 := d1
            show max (max (0 + 1) (max (Ast.depth x) 0) + 1) 0 + 1 ≤ 100
            have hx1 : 1 ≤ Ast.depth x := by cases x with | mk h ks => exact Nat.succ_le_succ (Nat.zero_le _)
            omega
          rcases hm.2 with ⟨h, _⟩ | ⟨_, _, h⟩
          · omega
          · rw [h]
            exact ⟨rfl, ass_text x⟩
end Go.Proofs.YtfpeecjafccfjaaGreatDoor
namespace Go.Proofs.YtfpeecjafccfjaaGreatDoor
open Go.RowKit
theorem still_of {s : ByteArray} (h : ∀ c ∈ s.data.toList.take s.size, c ≠ 45 ∧ c ≠ 10 ∧ c ≠ 91 ∧ c ≠ 39 ∧ c ≠ 34) : Still s.data.toList ∧ (10 : UInt8) ∉ s.data.toList := by
  rw [List.take_of_length_le (by rw [← Lib.size_eq]; exact Nat.le_refl _)] at h
  exact ⟨⟨⟨fun hm => (h _ hm).1 rfl, fun hm => (h _ hm).2.2.1 rfl⟩, fun hm => (h _ hm).2.2.2.1 rfl, fun hm => (h _ hm).2.2.2.2 rfl⟩, fun hm => (h _ hm).2.1 rfl⟩
set_option maxHeartbeats 4000000 in
set_option maxRecDepth 100000 in
theorem brackets_any (s : ByteArray) (w : World) (hE : EnvL w) (hT : TabR w) : Calls Tryz.prog 4 #[.string s] w fun e w' => e = .returned (.bool true) ∧ Below w.heap.size w w' := by
  have A1 := Lib.hid (alive_p w hE hT)
  have HE := Lib.hid hE
  have HTb := Lib.hid hT
  clear hE hT
  go_enter Tryz.func4, Tryz.ntmps4
  go_wp2_with fail
  refine A1.out.mono ?_; rintro e w1 ⟨rfl, b1⟩
  have B1 := Lib.hid b1
  clear b1
  by_cases hn : 2000 < s.size
  · have g1 : decide ((2000 : Int) < (s.size : Int)) = true := decide_eq_true (by omega)
    go_wp2_with fail
    go_ret
    exact ⟨rfl, B1.out⟩
  have g1 : decide ((2000 : Int) < (s.size : Int)) = false := decide_eq_false (by omega)
  go_wp2_with fail
  go_loop [21] (fun i => ∃ q : Nat, q ≤ s.size ∧ i = .int .i64 (q : Int) ∧ (∀ c ∈ s.data.toList.take q, c ≠ 45 ∧ c ≠ 10 ∧ c ≠ 91 ∧ c ≠ 39 ∧ c ≠ 34)) (fun i => s.size - (intOf i).toNat)
  case atStart => exact ⟨0, Nat.zero_le _, rfl, by simp⟩
  case round =>
    obtain ⟨q, hq, rfl, ha⟩ := hrel
    have HA := Lib.hid ha
    clear ha
    by_cases hql : q < s.size
    · by_cases d1 : s[q].toNat = 45
      · have e1 : (((s[q].toNat : Nat) : Int) == 45) = true := beq_iff_eq.2 (by omega)
        go_wp2_with fail
        go_ret
        exact ⟨rfl, B1.out⟩
      have e1 : (((s[q].toNat : Nat) : Int) == 45) = false := beq_eq_false_iff_ne.2 (by omega)
      by_cases d2 : s[q].toNat = 10
      · have e2 : (((s[q].toNat : Nat) : Int) == 10) = true := beq_iff_eq.2 (by omega)
        go_wp2_with fail
        go_ret
        exact ⟨rfl, B1.out⟩
      have e2 : (((s[q].toNat : Nat) : Int) == 10) = false := beq_eq_false_iff_ne.2 (by omega)
      by_cases d3 : s[q].toNat = 91
      · have e3 : (((s[q].toNat : Nat) : Int) == 91) = true := beq_iff_eq.2 (by omega)
        go_wp2_with fail
        go_ret
        exact ⟨rfl, B1.out⟩
      have e3 : (((s[q].toNat : Nat) : Int) == 91) = false := beq_eq_false_iff_ne.2 (by omega)
      by_cases d4 : s[q].toNat = 93
      · have e4 : (((s[q].toNat : Nat) : Int) == 93) = true := beq_iff_eq.2 (by omega)
        go_wp2_with fail
        go_ret
        exact ⟨rfl, B1.out⟩
      have e4 : (((s[q].toNat : Nat) : Int) == 93) = false := beq_eq_false_iff_ne.2 (by omega)
      by_cases d5 : s[q].toNat = 39
      · have e5 : (((s[q].toNat : Nat) : Int) == 39) = true := beq_iff_eq.2 (by omega)
        go_wp2_with fail
        go_ret
        exact ⟨rfl, B1.out⟩
      have e5 : (((s[q].toNat : Nat) : Int) == 39) = false := beq_eq_false_iff_ne.2 (by omega)
      by_cases d6 : s[q].toNat = 34
      · have e6 : (((s[q].toNat : Nat) : Int) == 34) = true := beq_iff_eq.2 (by omega)
        go_wp2_with fail
        go_ret
        exact ⟨rfl, B1.out⟩
      have e6 : (((s[q].toNat : Nat) : Int) == 34) = false := beq_eq_false_iff_ne.2 (by omega)
      have HN := Lib.hid (take_next (P := fun c => c ≠ 45 ∧ c ≠ 10 ∧ c ≠ 91 ∧ c ≠ 39 ∧ c ≠ 34) hql HA.out ⟨byte_ne (n := 45) (by decide) d1, byte_ne (n := 10) (by decide) d2, byte_ne (n := 91) (by decide) d3, byte_ne (n := 39) (by decide) d5, byte_ne (n := 34) (by decide) d6⟩)
      clear d1 d2 d3 d4 d5 d6
      go_wp2_with fail
      go_round
      case rel => exact ⟨q + 1, by omega, by go_num, HN.out⟩
      case measure => simp [intOf]; omega
    · have hqs : q = s.size := by omega
      have HG := Lib.hid (still_of (by have := HA.out; rwa [hqs] at this))
      clear hqs
      have HX := Lib.hid (said_b ((⟨#[114, 101, 116, 117, 114, 110, 32]⟩ : ByteArray) ++ s ++ (⟨#[32, 59]⟩ : ByteArray)) w1 (by simp only [ByteArray.size_append]; simp only [ByteArray.size, List.size_toArray, List.length_cons, List.length_nil] at *; omega) (HE.out.below B1.out) (HTb.out.below B1.out))
      go_wp2_with fail
      refine HX.out.mono ?_
      rintro e w2 ⟨b2, ⟨x, nx, lx⟩, hx, hx9, rfl⟩
      dsimp only at hx9
      have B2 := Lib.hid (thenBR B1.out b2)
      have SX := Lib.hid hx
      clear b2 hx
      by_cases zx : nx = 0
      · subst zx
        have HY := Lib.hid (said_b ((⟨#[114, 101, 116, 117, 114, 110, 32, 40, 32]⟩ : ByteArray) ++ s ++ (⟨#[32, 41, 32, 59]⟩ : ByteArray)) w2 (by simp only [ByteArray.size_append]; simp only [ByteArray.size, List.size_toArray, List.length_cons, List.length_nil] at *; omega) (HE.out.below B2.out) (HTb.out.below B2.out))
        go_wp2_with fail
        refine HY.out.mono ?_
        rintro e w3 ⟨b3, ⟨y, ny, ly⟩, hy, hy9, rfl⟩
        dsimp only at hy9
        have B3 := Lib.hid (thenBR B2.out b3)
        have SY := Lib.hid hy
        clear b3 hy
        have HZ := Lib.hid (said_b ((⟨#[120, 32, 61, 32]⟩ : ByteArray) ++ s ++ (⟨#[32, 59]⟩ : ByteArray)) w3 (by simp only [ByteArray.size_append]; simp only [ByteArray.size, List.size_toArray, List.length_cons, List.length_nil] at *; omega) (HE.out.below B3.out) (HTb.out.below B3.out))
        go_wp2_with fail
        refine HZ.out.mono ?_
        rintro e w4 ⟨b4, ⟨z, nz, lz⟩, hz, hz9, rfl⟩
        dsimp only at hz9
        have B4 := Lib.hid (thenBR B3.out b4)
        have SZ := Lib.hid hz
        clear b4 hz
        have e1 := mk_size x
        by_cases hlen : x.length < 21
        · have g2 : decide (((⟨x.toArray⟩ : ByteArray).size : Int) < 21) = true := decide_eq_true (by omega)
          go_wp2_with fail
          go_ret
          exact ⟨rfl, B4.out⟩
        have g2 : decide (((⟨x.toArray⟩ : ByteArray).size : Int) < 21) = false := decide_eq_false (by omega)
        obtain ⟨p1, p2⟩ := brk_pure (e := s.data.toList) (by simp only [nl_append, List.append_assoc]; rfl) (by simp only [nl_append, List.append_assoc]; rfl) (by simp only [nl_append, List.append_assoc]; rfl)
          (by simp only [ByteArray.size_append]; simp only [ByteArray.size, List.size_toArray, List.length_cons, List.length_nil] at *; omega) HG.out.1 HG.out.2 SX.out SY.out SZ.out rfl (by dsimp only; omega)
        dsimp only at p1 p2
        by_cases zy : ny = 0
        · subst zy
          obtain ⟨i, q1, q2, q3, q4⟩ := p2 rfl
          subst q3
          clear p1 p2
          have hq1 : ((⟨x.toArray⟩ : ByteArray).extract 19 ((⟨x.toArray⟩ : ByteArray).size - 2)) = (⟨i.toArray⟩ : ByteArray) := by
            apply ByteArray.ext
            apply Array.toList_inj.1
            rw [ext_list, mk_list, mk_size, q1]
            show _ = i
            rw [List.append_assoc, List.drop_left' (show headT.length = 19 from rfl)]
            refine List.take_left' ?_
            simp only [List.length_append, List.length_cons, List.length_nil, show headT.length = 19 from rfl]
            omega
          have hq2 : ((⟨y.toArray⟩ : ByteArray).toList == ((⟨#[40, 98, 108, 111, 99, 107, 64, 49, 32, 40, 114, 101, 116, 117, 114, 110, 64, 49, 32, 40, 112, 97, 114, 101, 110, 64, 49, 32]⟩ : ByteArray) ++ (⟨i.toArray⟩ : ByteArray) ++ (⟨#[41]⟩ : ByteArray) ++ (⟨#[41, 41]⟩ : ByteArray)).toList) = true := eq_bool (by
            simp only [nl_append, q2]
            simp [headT, parT])
          have hq3 : ((⟨z.toArray⟩ : ByteArray).toList == ((⟨#[40, 98, 108, 111, 99, 107, 64, 49, 32, 40, 97, 115, 115, 105, 103, 110, 64, 49, 32, 49, 32, 40, 110, 97, 109, 101, 64, 49, 32, 34, 120, 34, 41, 32]⟩ : ByteArray) ++ (⟨i.toArray⟩ : ByteArray) ++ (⟨#[41, 41]⟩ : ByteArray)).toList) = true := eq_bool (by
            simp only [nl_append, q4]
            simp [assT])
          have hi : (⟨i.toArray⟩ : ByteArray).size ≤ (⟨x.toArray⟩ : ByteArray).size := by
            rw [mk_size, mk_size, q1]
            simp only [List.length_append]
            omega
          clear q1 q2 q4
          generalize (⟨x.toArray⟩ : ByteArray) = X at *
          generalize (⟨y.toArray⟩ : ByteArray) = Y at *
          generalize (⟨z.toArray⟩ : ByteArray) = Z at *
          generalize (⟨i.toArray⟩ : ByteArray) = I at *
          have hX : 21 ≤ X.size := by omega
          have hXu : X.size ≤ 140000000000000 := by omega
          have hIu : I.size ≤ 140000000000000 := by omega
          have hw : wrap64 ((X.size : Int) - 2) = ((X.size - 2 : Nat) : Int) := by unfold wrap64; omega
          clear hx9 hy9 hz9 e1 hlen
          go_wp2_with fail
          go_ret
          exact ⟨rfl, B4.out⟩
        · have g3 : (ny == 0) = false := beq_eq_false_iff_ne.2 zy
          rcases p1 zy with z6 | z6
          · subst z6
            clear p1 p2 zy
            go_wp2_with fail
            go_ret
            exact ⟨rfl, B4.out⟩
          · subst z6
            clear p1 p2 zy
            go_wp2_with fail
            go_ret
            exact ⟨rfl, B4.out⟩
      · have e1 : (nx == 0) = false := beq_eq_false_iff_ne.2 zx
        go_wp2_with fail
        go_ret
        exact ⟨rfl, B2.out⟩
end Go.Proofs.YtfpeecjafccfjaaGreatDoor
