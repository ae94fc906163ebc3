/- Parts of the proof: RLuaW, RLuaX, LexC, Rpu, Row. -/
import Derived.BigQuiet
import Derived.Test.YtfpeecjafccfjaaGreatDoorK15
namespace Go.Proofs.YtfpeecjafccfjaaGreatDoor
theorem call_ret {n : NT} {ts : List TkP} {r : Except Int (VT n × List TkP)} (h : PL (bodyL n) ts r) : PL (.call n fun v => .ret v) ts r := by
  cases r with
  | error e => exact .callBad h
  | ok p => exact .call h .ret
theorem ret_rows {at_ : Int} {us : List TkP} {x : Ast} (h : PL (bodyL (.ret at_)) (us ++ [semi, eofT]) (.ok (x, [eofT]))) (Y : List TkP) : PL (bodyL (.ret at_)) (us ++ semi :: Y) (.ok (x, Y)) := by
  cases us with
  | nil =>
    have h := inv_look h
    rw [if_neg (by decide), if_pos (by decide)] at h
    have h := inv_tok h
    obtain ⟨h1, _⟩ := inv_ret h
    subst h1
    exact .look (.tok .ret)
  | cons t us =>
    have h := inv_look h
    refine .look ?_
    by_cases h1 : endB t = true
    · rw [if_pos h1] at h
      obtain ⟨_, e⟩ := inv_ret h
      have := congrArg List.length e
      simp at this
    · rw [if_neg h1] at h ⊢
      by_cases h2 : isW [59] t = true
      · rw [if_pos h2] at h
        have h := inv_tok h
        obtain ⟨_, e⟩ := inv_ret h
        have := congrArg List.length e
        rw [show (us.append [semi, eofT]).length = us.length + 2 from len_app2 us] at this
        have h9 : ([eofT] : List TkP).length = 1 := rfl
        omega
      · rw [if_neg h2] at h ⊢
        obtain ⟨l, ts1, h3, h4⟩ := inv_call (n := .lst) h
        obtain ⟨c, hc⟩ := h3.tail _ _ rfl
        cases ts1 with
        | nil => cases h4
        | cons u ts2 =>
          have h4 := inv_look h4
          by_cases h5 : isW [59] u = true
          · rw [if_pos h5] at h4
            have h4 := inv_tok h4
            obtain ⟨e1, e2⟩ := inv_ret h4
            subst e1 e2
            have hu := end_one (us := t :: us) hc
            subst hu
            have h6 := h3.near l (t :: us ++ [semi]) [semi] [eofT] Y (by simp) rfl (by simp)
            refine .call (ts' := semi :: Y) ?_ (.look (.tok .ret))
            simpa using h6
          · rw [if_neg h5] at h4
            obtain ⟨_, e2⟩ := inv_ret h4
            rw [← e2] at h3
            exact (end_bad (n := .lst) rfl (us := t :: us) h3).elim
theorem sts_rows {M : Int} : ∀ (n : Nat) (us : List TkP) (l v : List Ast), us.length ≤ n → EnvR M (us ++ [semi, eofT]) → PL (bodyL (.sts l)) (us ++ [semi, eofT]) (.ok (v, [eofT])) →
    (∀ (Y : List TkP) (r : Except Int (List Ast × List TkP)), PL (bodyL (.sts v)) Y r → PL (bodyL (.sts l)) (us ++ semi :: Y) r) ∨ ∀ Y, PL (bodyL (.sts l)) (us ++ semi :: Y) (.ok (v, Y)) := by
  intro n
  induction n with
  | zero =>
    intro us l v hn hE h
    obtain rfl : us = [] := List.eq_nil_of_length_eq_zero (by omega)
    have h := inv_look h
    rw [if_neg (by decide), if_neg (by decide), if_pos (by decide)] at h
    have h := inv_tok h
    have h1 := call_ret_inv (n := .sts l) h
    have h1 := inv_look h1
    rw [if_pos (by decide)] at h1
    obtain ⟨h2, _⟩ := inv_ret h1
    subst h2
    exact .inl fun Y r hr => .look (.tok (call_ret (n := .sts v) hr))
  | succ n ih =>
    intro us l v hn hE h
    cases us with
    | nil => exact ih [] l v (Nat.zero_le _) hE h
    | cons t us =>
      rw [List.length_cons] at hn
      have h := inv_look h
      by_cases h1 : endB t = true
      · rw [if_pos h1] at h
        obtain ⟨_, e⟩ := inv_ret h
        have := congrArg List.length e
        simp at this
      · rw [if_neg h1] at h
        by_cases h2 : isW wReturn t = true
        · rw [if_pos h2] at h
          have h := inv_tok h
          obtain ⟨x, ts1, h3, h4⟩ := inv_call (n := .ret t.2.1) h
          obtain ⟨e1, e2⟩ := inv_ret h4
          subst e1
          rw [← e2] at h3
          refine .inr fun Y => .look ?_
          rw [if_neg h1, if_pos h2]
          exact .tok (.call (ret_rows h3 Y) .ret)
        · rw [if_neg h2] at h
          by_cases h3 : isW [59] t = true
          · rw [if_pos h3] at h
            have h := inv_tok h
            have h4 := call_ret_inv (n := .sts l) h
            rcases ih us l v (by omega) (EnvR.tl (t := t) hE) h4 with h5 | h5
            · refine .inl fun Y r hr => .look ?_
              rw [if_neg h1, if_neg h2, if_pos h3]
              exact .tok (call_ret (n := .sts l) (h5 Y r hr))
            · refine .inr fun Y => .look ?_
              rw [if_neg h1, if_neg h2, if_pos h3]
              exact .tok (call_ret (n := .sts l) (h5 Y))
          · rw [if_neg h3] at h
            obtain ⟨(x : Ast), ts1, h4, h5⟩ := inv_call (n := .sta) h
            have h5 := call_ret_inv (n := .sts (l ++ [x])) h5
            obtain ⟨c, hc⟩ := h4.tail _ _ rfl
            obtain ⟨hE1, _, hlt⟩ := read_post h4 hE
            have hl2 : 2 ≤ ts1.length := by
              cases ts1 with
              | nil => cases h5
              | cons u ts2 =>
                cases ts2 with
                | nil =>
                  exfalso
                  have hu : u = eofT := by
                    have hc' : (t :: us ++ [semi]) ++ [eofT] = c ++ [u] := by rw [← hc]; simp
                    have e := congrArg List.getLast? hc'
                    rw [List.getLast?_concat, List.getLast?_concat] at e
                    exact (Option.some.inj e).symm
                  subst hu
                  exact end_bad (n := .sta) rfl (us := t :: us) h4
                | cons u2 ts3 => simp
            obtain ⟨us', e1, e2⟩ := end_cut (us := t :: us) hc hl2
            subst e1
            have hlen : us'.length ≤ n := by
              have e3 : (t :: us.append [semi, eofT]).length = us.length + 3 := by rw [List.length_cons]; exact congrArg (· + 1) (len_app2 us)
              have e4 := len_app2 us'
              omega
            have h6 : ∀ Y, PL (bodyL .sta) (t :: us ++ semi :: Y) (.ok (x, us' ++ semi :: Y)) := fun Y => by
              have := h4.near x (t :: us ++ [semi]) (us' ++ [semi]) [eofT] Y (by simp) (by simp) (by simp)
              simpa using this
            rcases ih us' (l ++ [x]) v hlen hE1 h5 with h7 | h7
            · refine .inl fun Y r hr => .look ?_
              rw [if_neg h1, if_neg h2, if_neg h3]
              exact .call (h6 Y) (call_ret (n := .sts (l ++ [x])) (h7 Y r hr))
            · refine .inr fun Y => .look ?_
              rw [if_neg h1, if_neg h2, if_neg h3]
              exact .call (h6 Y) (call_ret (n := .sts (l ++ [x])) (h7 Y))
end Go.Proofs.YtfpeecjafccfjaaGreatDoor
namespace Go.Proofs.YtfpeecjafccfjaaGreatDoor
variable {M : Int}
theorem sts_acc (l0 : List Ast) : ∀ (n : Nat) (ts : List TkP) (l v : List Ast) (ts' : List TkP), ts.length ≤ n → EnvR M ts → PL (bodyL (.sts l)) ts (.ok (v, ts')) → PL (bodyL (.sts (l0 ++ l))) ts (.ok (l0 ++ v, ts')) := by
  intro n
  induction n with
  | zero =>
    intro ts l v ts' hn _ h
    obtain rfl : ts = [] := List.eq_nil_of_length_eq_zero (by omega)
    cases h
  | succ n ih =>
    intro ts l v ts' hn hE h
    cases ts with
    | nil => cases h
    | cons t ts =>
      rw [List.length_cons] at hn
      have h := inv_look h
      refine .look ?_
      by_cases h1 : endB t = true
      · rw [if_pos h1] at h ⊢
        obtain ⟨e1, e2⟩ := inv_ret h
        subst e1 e2
        exact .ret
      · rw [if_neg h1] at h ⊢
        by_cases h2 : isW wReturn t = true
        · rw [if_pos h2] at h ⊢
          have h := inv_tok h
          obtain ⟨(x : Ast), ts1, h3, h4⟩ := inv_call (n := .ret t.2.1) h
          obtain ⟨e1, e2⟩ := inv_ret h4
          subst e1 e2
          refine .tok (.call h3 ?_)
          show PL (.ret (l0 ++ l ++ [x])) _ (.ok (l0 ++ (l ++ [x]), _))
          rw [List.append_assoc]
          exact .ret
        · rw [if_neg h2] at h ⊢
          by_cases h3 : isW [59] t = true
          · rw [if_pos h3] at h ⊢
            have h := inv_tok h
            have h4 := call_ret_inv (n := .sts l) h
            exact .tok (call_ret (n := .sts (l0 ++ l)) (ih ts l v ts' (by omega) hE.tl h4))
          · rw [if_neg h3] at h ⊢
            obtain ⟨(x : Ast), ts1, h4, h5⟩ := inv_call (n := .sta) h
            have h5 := call_ret_inv (n := .sts (l ++ [x])) h5
            obtain ⟨hE1, _, hlt⟩ := read_post h4 hE
            rw [List.length_cons] at hlt
            have h6 := ih ts1 (l ++ [x]) v ts' (by omega) hE1 h5
            rw [← List.append_assoc] at h6
            exact .call h4 (call_ret (n := .sts (l0 ++ l ++ [x])) h6)
theorem rows {A B : List TkP} {a b c : Ast} {ts : List TkP} (hEA : EnvR M (A ++ [semi, eofT])) (hEB : EnvR M (B ++ [semi, eofT])) (hB0 : ∀ t ∈ B, t.1 ≠ 0)
    (hA : PL srcL (A ++ [semi, eofT]) (.ok (a, [eofT]))) (hB : PL srcL (B ++ [semi, eofT]) (.ok (b, [eofT]))) (hC : PL srcL (A ++ semi :: (B ++ [semi, eofT])) (.ok (c, ts))) :
    ∃ la lb x y z, a = nd 18 x la ∧ b = nd 18 y lb ∧ c = nd 18 z (la ++ lb) := by
  obtain ⟨ta, _, la, _, _, _, ea, _, e1, h1⟩ := src_inv hA
  obtain ⟨tb, _, lb, _, _, _, eb, _, e2, h2⟩ := src_inv hB
  obtain ⟨tc, _, lc, u, us, _, ec, hu, e3, h3⟩ := src_inv hC
  injection ea with ea1 ea2
  injection eb with eb1 eb2
  subst ea1 ea2 eb1 eb2
  refine ⟨la, lb, _, _, tc.2.1, e1, e2, ?_⟩
  rw [e3]
  rcases sts_rows _ A [] la (Nat.le_refl _) hEA h1 with h4 | h4
  · have h5 := sts_acc la _ _ [] lb _ (Nat.le_refl _) hEB h2
    rw [List.append_nil] at h5
    have h6 := P.one (h4 _ _ h5) h3
    injection h6 with h6
    injection h6 with h6 _
    rw [h6]
  · have h5 := P.one (h4 (B ++ [semi, eofT])) h3
    injection h5 with h5
    injection h5 with _ h5
    exfalso
    cases B with
    | nil =>
      injection h5 with h5 _
      rw [← h5] at hu
      exact absurd hu (by decide)
    | cons t B =>
      injection h5 with h5 _
      rw [← h5] at hu
      exact hB0 t (List.mem_cons_self ..) hu
end Go.Proofs.YtfpeecjafccfjaaGreatDoor
namespace Go.Proofs.YtfpeecjafccfjaaGreatDoor
def NoQ (x : List UInt8) : Prop := (39 : UInt8) ∉ x ∧ (34 : UInt8) ∉ x
theorem quB_is {c : UInt8} (h : quB c = true) : c = 39 ∨ c = 34 := by
  unfold quB at h
  simp only [Bool.or_eq_true, decide_eq_true_eq] at h
  rcases h with h | h
  · exact .inl (UInt8.toNat_inj.1 h)
  · exact .inr (UInt8.toNat_inj.1 h)
theorem quo_cutB {c : UInt8} {t x s r : List UInt8} (hc : quB c = true) (hx : NoQ x) (h : Quo c (t ++ 32 :: x) (some (s, r))) : ∃ r1, r = r1 ++ 32 :: x ∧ Quo c t (some (s, r1)) := by
  obtain ⟨p, hp⟩ := h.ends rfl
  have hn : c ∉ (32 :: x : List UInt8) := by
    rcases quB_is hc with rfl | rfl
    · intro h; rcases List.mem_cons.1 h with h | h
      · exact absurd h (by decide)
      · exact hx.1 h
    · intro h; rcases List.mem_cons.1 h with h | h
      · exact absurd h (by decide)
      · exact hx.2 h
  have hsuf : c :: r <:+ t ++ 32 :: x := ⟨p, hp.symm⟩
  by_cases hl : (32 :: x : List UInt8).length ≤ r.length
  · obtain ⟨r1, e⟩ := suf_cut ((List.suffix_cons c r).trans hsuf) hl
    refine ⟨r1, e, ?_⟩
    rw [e] at h
    exact h.cut rfl rfl
  · exfalso
    obtain ⟨u, hu⟩ : c :: r <:+ 32 :: x := by
      refine List.suffix_of_suffix_length_le hsuf (List.suffix_append ..) ?_
      rw [List.length_cons]
      omega
    exact hn (by rw [← hu]; simp)
theorem tok_cutB {l : List UInt8} {k n : Int} {s r x : List UInt8} (hl : l ≠ []) (hc : (91 : UInt8) ∉ l) (hx : NoQ x) (h : Tok (l ++ 32 :: x) (some (k, n, s, r))) : ∃ r1, r = r1 ++ 32 :: x ∧ Tok l (some (k, n, s, r1)) := by
  cases l with
  | nil => exact absurd rfl hl
  | cons c t =>
    have ho := opn_calm hc (by simp) (32 :: x)
    have ho0 := opn_calm hc (by simp) []
    rw [List.append_nil] at ho0
    rw [List.cons_append] at h ho
    generalize e : c :: (t ++ 32 :: x) = l' at h
    generalize e2 : some (k, n, s, r) = o at h
    cases h with
    | eof => cases e
    | @name c' t' h1 =>
      injection e with e3 e4
      subst e3 e4
      rw [← List.cons_append, twb (by decide), dwb (by decide)] at e2
      simp only [Option.some.injEq, Prod.mk.injEq] at e2
      refine ⟨_, e2.2.2.2, ?_⟩
      rw [e2.1, e2.2.1, e2.2.2.1]
      exact .name h1
    | @num c' t' h1 h2 h3 =>
      injection e with e3 e4
      subst e3 e4
      rw [← List.cons_append, twb (by decide)] at h3
      rw [← List.cons_append, twb (by decide), dwb (by decide)] at e2
      simp only [Option.some.injEq, Prod.mk.injEq] at e2
      refine ⟨_, e2.2.2.2, ?_⟩
      rw [e2.1, e2.2.1, e2.2.2.1]
      exact .num h1 h2 h3
    | numBad => cases e2
    | @text c' t' o' h1 h2 h3 h4 =>
      injection e with e3 e4
      subst e3 e4
      cases o' with
      | none => cases e2
      | some z =>
        obtain ⟨a, b⟩ := z
        simp only [Option.map_some, Option.some.injEq, Prod.mk.injEq] at e2
        obtain ⟨r1, e5, h5⟩ := quo_cutB h3 hx h4
        refine ⟨r1, by rw [e2.2.2.2, e5], ?_⟩
        have := Tok.text h1 h2 h3 h5
        rw [e2.1, e2.2.1, e2.2.2.1]
        exact this
    | @long c' t' h1 h2 h3 h4 =>
      injection e with e3 e4
      subst e3 e4
      exact absurd h4 ho
    | @sign c' t' h1 h2 h3 h4 =>
      injection e with e3 e4
      subst e3 e4
      cases e5 : Go.Proofs.YtfpeecjafccfjaaGreatDoor.sign (c :: t) with
      | none =>
        have := sign_noB x e5 (by simp)
        rw [List.cons_append] at this
        rw [this] at e2
        cases e2
      | some z =>
        obtain ⟨a, b⟩ := z
        have := sign_appB x e5 (by simp)
        rw [List.cons_append] at this
        rw [this] at e2
        simp only [Option.map_some, Option.some.injEq, Prod.mk.injEq] at e2
        refine ⟨b, e2.2.2.2, ?_⟩
        have h6 := Tok.sign h1 h2 h3 ho0
        rw [e5] at h6
        rw [e2.1, e2.2.1, e2.2.2.1]
        exact h6
theorem lex_splitQ {L : Int} {x l' : List UInt8} {o : Except Int (List Tk)} (hx : NoQ x) (hxc : Calm (32 :: x)) (h : LexR (L + nl (32 :: x)) l' o) : ∀ {l ts}, l' = l ++ 32 :: x → Calm l → o = .ok ts → ∃ T, LexR L l (.ok (T ++ [(0, L, 0, [])])) := by
  induction h with
  | skipBad => intro l ts _ _ e; cases e
  | tokBad => intro l ts _ _ e; cases e
  | @eof l0 h1 =>
    intro l ts e hc _
    subst e
    have hd := h1.calm ⟨fun hm => (List.mem_append.1 hm).elim hc.1 hxc.1, fun hm => (List.mem_append.1 hm).elim hc.2 hxc.2⟩
    refine ⟨[], .eof (.done ?_ (by rfl))⟩
    by_cases e : l.dropWhile blB = []
    · exact e
    · rw [dw_more _ rfl e] at hd
      simp at hd
  | @step l0 r r' s k n o' h1 h2 h3 h4 ih =>
    intro l ts e hc e2
    subst e
    cases o' with
    | error => cases e2
    | ok ts' =>
      have hd := h1.calm ⟨fun hm => (List.mem_append.1 hm).elim hc.1 hxc.1, fun hm => (List.mem_append.1 hm).elim hc.2 hxc.2⟩
      by_cases e : l.dropWhile blB = []
      · exact ⟨[], .eof (.done e (by rfl))⟩
      · rw [dw_more _ rfl e] at hd
        have hcd : Calm (l.dropWhile blB) := hc.suffix (List.dropWhile_suffix blB)
        rw [← hd] at h3
        obtain ⟨r1, e1, h5⟩ := tok_cutB e hcd.2 hx h3
        obtain ⟨T, hT⟩ := ih e1 (hcd.suffix h5.suffix) rfl
        have hpre : Lib.hasPrefix (l.dropWhile blB) [45, 45] = false := by
          have := pre_head e hcd.1 []
          rwa [List.append_nil] at this
        exact ⟨_ :: T, .step (o := .ok _) (.done rfl hpre) e h5 hT⟩
end Go.Proofs.YtfpeecjafccfjaaGreatDoor
namespace Go.Proofs.YtfpeecjafccfjaaGreatDoor
open Go.RowKit
theorem textL_app (hd : Nd → List UInt8) : ∀ (l k : List Ast), Ast.textL hd (l ++ k) = Ast.textL hd l ++ Ast.textL hd k
  | [], k => rfl
  | a :: l, k => by
    rw [List.cons_append]
    show 32 :: Ast.text hd a ++ Ast.textL hd (l ++ k) = 32 :: Ast.text hd a ++ Ast.textL hd l ++ Ast.textL hd k
    rw [textL_app hd l k, List.append_assoc]
theorem depthL_app : ∀ (l k : List Ast), Ast.depthL (l ++ k) = max (Ast.depthL l) (Ast.depthL k)
  | [], k => by rw [List.nil_append, show Ast.depthL [] = 0 from rfl]; omega
  | a :: l, k => by
    rw [List.cons_append]
    show max (Ast.depth a) (Ast.depthL (l ++ k)) = max (max (Ast.depth a) (Ast.depthL l)) (Ast.depthL k)
    rw [depthL_app l k]
    omega
theorem blk_line {M x : Int} {l : List Ast} (h : BlG M (nd 18 x l)) : 1 ≤ x ∧ x ≤ M := by
  have := every_ln _ h.1.1 h.1.2
  unfold nd Every at this
  exact this.1
theorem eof_cancel {A B : List TkP} (h : A ++ [eofT] = B ++ [eofT]) : A = B := List.append_cancel_right h
theorem semi_split {l : List UInt8} {ts : List Tk} (hc : Calm l) (h : LexR 1 (l ++ [32, 59]) (.ok ts)) : ∃ T, ts = T ++ [semi, eofT] ∧ (∀ t ∈ T, t.1 ≠ 0) ∧ ∀ (x : List UInt8) (o : Except Int (List Tk)), nl x = 0 → LexR 1 (32 :: x) o → LexR 1 (l ++ 32 :: x) (o.map (T ++ ·)) := by
  obtain ⟨T, hT⟩ := lex_splitQ (L := 1) (x := [59]) (by unfold NoQ; decide) (by unfold Calm; decide) h rfl hc rfl
  obtain ⟨T', e, hk, hx⟩ := lex_appB hT hc rfl
  have : T = T' := eof_cancel e
  subst this
  have hx' : ∀ (x : List UInt8) (o : Except Int (List Tk)), nl x = 0 → LexR 1 (32 :: x) o → LexR 1 (l ++ 32 :: x) (o.map (T ++ ·)) := fun x o h0 ho => by
    have e1 : (1 : Int) + (nl (32 :: x) : Int) = 1 := by rw [nl_cons (by decide), h0]; rfl
    have := hx x o (by rw [e1]; exact ho)
    rwa [e1] at this
  refine ⟨T, ?_, hk, hx'⟩
  have := h.det (hx' [59] _ rfl semi_lex)
  injection this
theorem take_last (l : List UInt8) (c : UInt8) : (l ++ [c]).take ((l ++ [c]).length - 1) = l := by
  have : (l ++ [c]).length - 1 = l.length := by simp
  rw [this]
  exact List.take_left' rfl
theorem rows_pure {sx sy sz : ByteArray} {la lb : List UInt8} (ex : sx.data.toList = la ++ [32, 59]) (ey : sy.data.toList = lb ++ [32, 59]) (ez : sz.data.toList = la ++ 32 :: 59 :: 32 :: (lb ++ [32, 59]))
    (hsx : sx.size ≤ 4800) (hsy : sy.size ≤ 4800) (ha : Calm la) (hb : Calm lb) (na : (10 : UInt8) ∉ la) (nb : (10 : UInt8) ∉ lb) {x y z : List UInt8 × Int × Int} (hx : Said sx x) (hy : Said sy y) (hz : Said sz z) (h1 : x.2.1 = 0) (h2 : y.2.1 = 0) :
    9 ≤ x.1.length ∧ 9 ≤ y.1.length ∧ (z.2.1 ≠ 0 → z.2.1 = 6) ∧ (z.2.1 = 0 → z.1 = x.1.take (x.1.length - 1) ++ y.1.drop 8) := by
  have n1 : nl (la ++ [32, 59]) = 0 := nl_zero (by simp [na])
  have n2 : nl (lb ++ [32, 59]) = 0 := nl_zero (by simp [nb])
  have n3 : nl (la ++ 32 :: 59 :: 32 :: (lb ++ [32, 59])) = 0 := nl_zero (by simp [na, nb])
  obtain ⟨ts1, a, l1, p1, d1, e1, g1, v1⟩ := said_ok ex n1 hsx hx h1
  obtain ⟨ts2, b, l2, p2, d2, e2, g2, v2⟩ := said_ok ey n2 hsy hy h2
  obtain ⟨A, rfl, _, hA⟩ := semi_split ha l1
  obtain ⟨B, rfl, hB0, hB⟩ := semi_split hb l2
  have l3 : LexR 1 (59 :: 32 :: (lb ++ [32, 59])) (.ok (semi :: (B ++ [semi, eofT]))) := by
    have h5 : O (lb ++ [32, 59]) (B ++ [semi, eofT]) := ⟨n2, l2⟩
    exact (O.sign (c := 59) (by decide) (by intro b hb; have : 32 = b := Option.some.inj hb; subst this; decide) h5.blank).lex
  have l4 := hA (59 :: 32 :: (lb ++ [32, 59])) _ (nl_zero (by simp [nb])) (LexR.of_skip (fun g => g.of_dw (by simp [blB, blkB])) l3)
  obtain ⟨r, hr, hm⟩ := said_any ez n3 l4 hz
  have t1 : ∀ l' : List Ast, ∀ w, a = nd 18 w l' → x.1 = blkT ++ Ast.textL hdK l' ++ [41] := fun l' w e => by
    subst e
    have := blk_line g1
    have : w = 1 := by omega
    subst this
    rw [e1, blk_text]
  have t2 : ∀ l' : List Ast, ∀ w, b = nd 18 w l' → y.1 = blkT ++ Ast.textL hdK l' ++ [41] := fun l' w e => by
    subst e
    have := blk_line g2
    have : w = 1 := by omega
    subst this
    rw [e2, blk_text]
  have m1 : 9 ≤ x.1.length := by
    obtain ⟨t, ts0, l', u, us, _, _, _, e, _⟩ := src_inv p1
    rw [t1 l' _ e, List.length_append, List.length_append]
    show 9 ≤ 8 + _ + 1
    omega
  have m2 : 9 ≤ y.1.length := by
    obtain ⟨t, ts0, l', u, us, _, _, _, e, _⟩ := src_inv p2
    rw [t2 l' _ e, List.length_append, List.length_append]
    show 9 ≤ 8 + _ + 1
    omega
  refine ⟨m1, m2, ?_⟩
  cases r with
  | error n => dsimp only at hm; rw [hm]; exact ⟨fun _ => rfl, fun h => by cases h⟩
  | ok w =>
    obtain ⟨c, ts'⟩ := w
    obtain ⟨e3, hm⟩ := hm
    obtain ⟨ka, kb, i, j, k, ea, eb, ec⟩ := rows v1 v2 hB0 p1 p2 hr
    have x1 := t1 ka _ ea
    have y1 := t2 kb _ eb
    subst ea eb ec
    have hd : (nd 18 k (ka ++ kb)).depth ≤ 100 := by
      have q1 : Ast.depthL ka + 1 ≤ 100 := d1
      have q2 : Ast.depthL kb + 1 ≤ 100 := d2
      show Ast.depthL (ka ++ kb) + 1 ≤ 100
      rw [depthL_app]
      omega
    rcases hm with ⟨h, _⟩ | ⟨_, g3, h⟩
    · omega
    · rw [h]
      refine ⟨fun h => absurd rfl h, fun _ => ?_⟩
      have := blk_line g3
      have : k = 1 := by omega
      subst this
      show Ast.text hdK (nd 18 1 (ka ++ kb)) = _
      rw [blk_text, x1, y1, textL_app]
      have e5 : (blkT ++ Ast.textL hdK ka ++ [41]).take ((blkT ++ Ast.textL hdK ka ++ [41]).length - 1) = blkT ++ Ast.textL hdK ka := take_last _ _
      have e6 : (blkT ++ Ast.textL hdK kb ++ [41]).drop 8 = Ast.textL hdK kb ++ [41] := by
        rw [List.append_assoc]
        exact List.drop_left' rfl
      rw [e5, e6]
      simp only [List.append_assoc]
end Go.Proofs.YtfpeecjafccfjaaGreatDoor
namespace Go.Proofs.YtfpeecjafccfjaaGreatDoor
open Go.RowKit
def ClearS (s : ByteArray) : Prop := (10 : UInt8) ∉ s.data.toList ∧ Calm s.data.toList
theorem clear_of {s : ByteArray} (h : ∀ c ∈ s.data.toList.take s.size, c ≠ 10 ∧ c ≠ 45 ∧ c ≠ 91) : ClearS s := by
  rw [List.take_of_length_le (by rw [← Lib.size_eq]; exact Nat.le_refl _)] at h
  exact ⟨fun hm => (h _ hm).1 rfl, fun hm => (h _ hm).2.1 rfl, fun hm => (h _ hm).2.2 rfl⟩
theorem list_take (P : ByteArray) (n : Nat) : (P.extract 0 n).data.toList = P.data.toList.take n := by rw [ByteArray.data_extract, Array.toList_extract]; simp
theorem list_drop (P : ByteArray) (n : Nat) : (P.extract n P.size).data.toList = P.data.toList.drop n := by
  rw [ext_list, List.take_of_length_le]
  rw [List.length_drop, ← Lib.size_eq]
  exact Nat.le_refl _
set_option maxHeartbeats 4000000 in
set_option maxRecDepth 100000 in
theorem rowslaw_any (n k : ByteArray) (w : World) (hE : EnvL w) (hT : TabR w) : Calls Tryz.prog 7 #[.string n, .string k] w fun e w' => e = .returned (.bool true) ∧ Below w.heap.size w w' := by
  have A1 := Lib.hid (alive_p w hE hT)
  have HE := Lib.hid hE
  have HTb := Lib.hid hT
  clear hE hT
  go_enter Tryz.func7, Tryz.ntmps7
  go_wp2_with fail
  refine A1.out.mono ?_; rintro e w1 ⟨rfl, b1⟩
  have B1 := Lib.hid b1
  clear b1
  by_cases hn : 1500 < n.size
  · have g1 : decide ((1500 : Int) < (n.size : Int)) = true := decide_eq_true (by omega)
    go_wp2_with fail
    go_ret
    exact ⟨rfl, B1.out⟩
  have g1 : decide ((1500 : Int) < (n.size : Int)) = false := decide_eq_false (by omega)
  by_cases hk : 1500 < k.size
  · have g2 : decide ((1500 : Int) < (k.size : Int)) = true := decide_eq_true (by omega)
    go_wp2_with fail
    go_ret
    exact ⟨rfl, B1.out⟩
  have g2 : decide ((1500 : Int) < (k.size : Int)) = false := decide_eq_false (by omega)
  go_wp2_with fail
  go_loop [30] (fun i => ∃ j : Nat, j ≤ 2 ∧ i = .int .i64 (j : Int) ∧ (1 ≤ j → ClearS n) ∧ (2 ≤ j → ClearS k)) (fun i => 2 - (intOf i).toNat)
  case atStart => exact ⟨0, by omega, rfl, fun h => absurd h (by omega), fun h => absurd h (by omega)⟩
  case round =>
    obtain ⟨j, hj, rfl, h1, h2⟩ := hrel
    have H1 := Lib.hid h1
    have H2 := Lib.hid h2
    clear h1 h2
    by_cases hlt : j < 2
    · obtain ⟨s, hrun, hgo, hs15⟩ : ∃ s, (Instr.index 45 (.agg #[.string n, .string k]) (.int .i64 (j : Int))).run Tryz.prog w1 = .ok (.string s) w1 ∧ (ClearS s → (1 ≤ j + 1 → ClearS n) ∧ (2 ≤ j + 1 → ClearS k)) ∧ s.size ≤ 1500 := by
        rcases (show j = 0 ∨ j = 1 by omega) with rfl | rfl
        · exact ⟨n, by kernel_rfl, fun h => ⟨fun _ => h, fun h' => absurd h' (by omega)⟩, by omega⟩
        · exact ⟨k, by kernel_rfl, fun h => ⟨fun _ => H1.out (by omega), fun _ => h⟩, by omega⟩
      have HGO := Lib.hid hgo
      clear hgo
      go_wp2_with fail
      go_loop [35] (fun i => ∃ q : Nat, q ≤ s.size ∧ i = .int .i64 (q : Int) ∧ (∀ c ∈ s.data.toList.take q, c ≠ 10 ∧ c ≠ 45 ∧ c ≠ 91)) (fun i => s.size - (intOf i).toNat)
      case atStart => exact ⟨0, Nat.zero_le _, rfl, by simp⟩
      case round =>
        obtain ⟨q, hq, rfl, ha⟩ := hrel
        have HA := Lib.hid ha
        clear ha
        by_cases hql : q < s.size
        · by_cases d1 : s[q].toNat = 10
          · have e1 : (((s[q].toNat : Nat) : Int) == 10) = true := beq_iff_eq.2 (by omega)
            go_wp2_with fail
            go_ret
            exact ⟨rfl, B1.out⟩
          have e1 : (((s[q].toNat : Nat) : Int) == 10) = false := beq_eq_false_iff_ne.2 (by omega)
          by_cases d2 : s[q].toNat = 45
          · have e2 : (((s[q].toNat : Nat) : Int) == 45) = true := beq_iff_eq.2 (by omega)
            go_wp2_with fail
            go_ret
            exact ⟨rfl, B1.out⟩
          have e2 : (((s[q].toNat : Nat) : Int) == 45) = false := beq_eq_false_iff_ne.2 (by omega)
          by_cases d3 : s[q].toNat = 91
          · have e3 : (((s[q].toNat : Nat) : Int) == 91) = true := beq_iff_eq.2 (by omega)
            go_wp2_with fail
            go_ret
            exact ⟨rfl, B1.out⟩
          have e3 : (((s[q].toNat : Nat) : Int) == 91) = false := beq_eq_false_iff_ne.2 (by omega)
          have HN := Lib.hid (take_next (P := fun c => c ≠ 10 ∧ c ≠ 45 ∧ c ≠ 91) hql HA.out ⟨byte_ne (n := 10) (by decide) d1, byte_ne (n := 45) (by decide) d2, byte_ne (n := 91) (by decide) d3⟩)
          clear d1 d2 d3
          go_wp2_with fail
          go_round
          case rel => exact ⟨q + 1, by omega, by go_num, HN.out⟩
          case measure => simp [intOf]; omega
        · have hqs : q = s.size := by omega
          have HGS := Lib.hid (HGO.out (clear_of (by have := HA.out; rwa [hqs] at this)))
          clear hqs
          go_wp2_with fail
          go_round
          case rel => exact ⟨j + 1, by omega, by go_num, HGS.out.1, HGS.out.2⟩
          case measure => simp [intOf]; omega
    · have G1 := Lib.hid (H1.out (by omega))
      have G2 := Lib.hid (H2.out (by omega))
      have HX := Lib.hid (said_b (n ++ (⟨#[32, 59]⟩ : ByteArray)) w1 (by rw [ByteArray.size_append]; simp only [ByteArray.size, List.size_toArray, List.length_cons, List.length_nil] at *; omega) (HE.out.below B1.out) (HTb.out.below B1.out))
      go_wp2_with fail
      refine HX.out.mono ?_
      rintro e w2 ⟨b2, ⟨x, nx, lx⟩, hx, hx9, rfl⟩
      dsimp only at hx9
      have B2 := Lib.hid (thenBR B1.out b2)
      have SX := Lib.hid hx
      have HY := Lib.hid (said_b (k ++ (⟨#[32, 59]⟩ : ByteArray)) w2 (by rw [ByteArray.size_append]; simp only [ByteArray.size, List.size_toArray, List.length_cons, List.length_nil] at *; omega) (HE.out.below B2.out) (HTb.out.below B2.out))
      clear b2 hx
      go_wp2_with fail
      refine HY.out.mono ?_
      rintro e w3 ⟨b3, ⟨y, ny, ly⟩, hy, hy9, rfl⟩
      dsimp only at hy9
      have B3 := Lib.hid (thenBR B2.out b3)
      have SY := Lib.hid hy
      clear b3 hy
      by_cases zx : nx = 0
      · subst zx
        by_cases zy : ny = 0
        · subst zy
          have HZ := Lib.hid (said_b (n ++ (⟨#[32, 59, 32]⟩ : ByteArray) ++ k ++ (⟨#[32, 59]⟩ : ByteArray)) w3 (by simp only [ByteArray.size_append]; simp only [ByteArray.size, List.size_toArray, List.length_cons, List.length_nil] at *; omega) (HE.out.below B3.out) (HTb.out.below B3.out))
          go_wp2_with fail
          refine HZ.out.mono ?_
          rintro e w4 ⟨b4, ⟨z, nz, lz⟩, hz, hz9, rfl⟩
          dsimp only at hz9
          have B4 := Lib.hid (thenBR B3.out b4)
          have HP := rows_pure (la := n.data.toList) (lb := k.data.toList) (by rw [nl_append]) (by rw [nl_append]) (by simp only [nl_append, List.append_assoc]; rfl)
            (by rw [ByteArray.size_append]; simp only [ByteArray.size, List.size_toArray, List.length_cons, List.length_nil] at *; omega) (by rw [ByteArray.size_append]; simp only [ByteArray.size, List.size_toArray, List.length_cons, List.length_nil] at *; omega)
            G1.out.2 G2.out.2 G1.out.1 G2.out.1 SX.out SY.out hz rfl rfl
          obtain ⟨p1, p2, p3, p4⟩ := HP
          dsimp only at p1 p2 p3 p4
          clear b4 hz
          by_cases zz : nz = 0
          · subst zz
            have PE := Lib.hid (p4 rfl)
            clear p3 p4
            have e1 := mk_size x
            have e2 := mk_size y
            have hq : ((⟨z.toArray⟩ : ByteArray).toList == ((⟨x.toArray⟩ : ByteArray).extract 0 ((⟨x.toArray⟩ : ByteArray).size - 1) ++ (⟨y.toArray⟩ : ByteArray).extract 8 (⟨y.toArray⟩ : ByteArray).size).toList) = true := eq_bool (by
              rw [nl_append, list_take, list_drop, mk_size, mk_list, mk_list, mk_list]
              exact PE.out)
            generalize (⟨x.toArray⟩ : ByteArray) = X at *
            generalize (⟨y.toArray⟩ : ByteArray) = Y at *
            generalize (⟨z.toArray⟩ : ByteArray) = Z at *
            have hX : 9 ≤ X.size := by omega
            have hY : 9 ≤ Y.size := by omega
            have hXu : X.size ≤ 140000000000000 := by omega
            have hYu : Y.size ≤ 140000000000000 := by omega
            have hw : wrap64 ((X.size : Int) - 1) = ((X.size - 1 : Nat) : Int) := by unfold wrap64; omega
            have hx1 : (X.extract 0 (X.size - 1)).size ≤ 140000000000000 := by rw [ByteArray.size_extract]; omega
            have hy1 : (Y.extract 8 Y.size).size ≤ 140000000000000 := by rw [ByteArray.size_extract]; omega
            clear e1 e2 p1 p2 PE hx9 hy9 hz9
            go_wp2_with fail
            go_region
            go_wp2_with fail
            go_ret
            exact ⟨rfl, thenBR B4.out ⟨rfl, rfl, rfl, Nat.le_refl _, fun _ _ => rfl⟩⟩
          · have z6 := p3 zz
            subst z6
            clear p3 p4 zz
            go_wp2_with fail
            go_ret
            exact ⟨rfl, B4.out⟩
        · have e1 : (ny == 0) = false := beq_eq_false_iff_ne.2 zy
          go_wp2_with fail
          go_ret
          exact ⟨rfl, B3.out⟩
      · have e1 : (nx == 0) = false := beq_eq_false_iff_ne.2 zx
        go_wp2_with fail
        go_ret
        exact ⟨rfl, B3.out⟩
end Go.Proofs.YtfpeecjafccfjaaGreatDoor
