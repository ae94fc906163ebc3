/- Parts of the proof: RLuaU, Sug, Sut, Suw. -/
import Derived.Test.YtfpeecjafccfjaaGreatDoorK15
namespace Go.Proofs.YtfpeecjafccfjaaGreatDoor
section
variable {N : Type} {V : N → Type} (body : ∀ n, G N V (V n))
variable {body}
end
def textT (s : List UInt8) : TkP := (4, 1, 0, s)
def signT (s : List UInt8) : TkP := (5, 1, 0, s)
def numT (n : Int) : TkP := (3, 1, n, [])
def nmE (s : List UInt8) : Ast := ndS 7 1 (bts s) []
def strE (s : List UInt8) : Ast := ndS 5 1 (bts s) []
def retA (e : Ast) : Ast := nd 18 1 [nd 29 1 [e]]
theorem sugar1 (f x : List UInt8) : PL srcL [tRet, nameT f, textT x, eofT] (.ok (retA (nd 9 1 [nmE f, strE x]), [eofT])) ∧ PL srcL [tRet, nameT f, lpar, textT x, rpar, eofT] (.ok (retA (nd 9 1 [nmE f, strE x]), [eofT])) :=
  ⟨run_sound 60 _ _ _ rfl, run_sound 60 _ _ _ rfl⟩
theorem sugar2 (f x : List UInt8) : PL srcL [tRet, nameT f, signT [123], nameT x, signT [125], eofT] (.ok (retA (nd 9 1 [nmE f, nd 15 1 [nd 16 1 [nmE x]]]), [eofT])) ∧ PL srcL [tRet, nameT f, lpar, signT [123], nameT x, signT [125], rpar, eofT] (.ok (retA (nd 9 1 [nmE f, nd 15 1 [nd 16 1 [nmE x]]]), [eofT])) :=
  ⟨run_sound 60 _ _ _ rfl, run_sound 60 _ _ _ rfl⟩
theorem sugar3 (f x : List UInt8) : PL srcL [tRet, nameT f, signT [46], nameT x, eofT] (.ok (retA (nd 8 1 [nmE f, strE x]), [eofT])) ∧ PL srcL [tRet, nameT f, signT [91], textT x, signT [93], eofT] (.ok (retA (nd 8 1 [nmE f, strE x]), [eofT])) :=
  ⟨run_sound 60 _ _ _ rfl, run_sound 60 _ _ _ rfl⟩
theorem sugar4 (x : List UInt8) (n : Int) : PL srcL [tRet, signT [123], nameT x, eqT, numT n, signT [125], eofT] (.ok (retA (nd 15 1 [nd 17 1 [strE x, ndN 4 1 n []]]), [eofT])) ∧ PL srcL [tRet, signT [123], signT [91], textT x, signT [93], eqT, numT n, signT [125], eofT] (.ok (retA (nd 15 1 [nd 17 1 [strE x, ndN 4 1 n []]]), [eofT])) :=
  ⟨run_sound 60 _ _ _ rfl, run_sound 60 _ _ _ rfl⟩
end Go.Proofs.YtfpeecjafccfjaaGreatDoor
namespace Go.Proofs.YtfpeecjafccfjaaGreatDoor
open Go.RowKit
theorem nm_quiet : ∀ c : UInt8, nmB c = true → c ≠ 39 ∧ c ≠ 10 ∧ c ≠ 92 ∧ c ∉ ([47, 60, 62, 46, 61, 58] : List UInt8) := u8_all (P := fun c => nmB c = true → c ≠ 39 ∧ c ≠ 10 ∧ c ≠ 92 ∧ c ∉ ([47, 60, 62, 46, 61, 58] : List UInt8)) (by decide +kernel)
theorem Nm.plain {s : List UInt8} (h : Nm s) : ∀ c ∈ s, c ≠ 39 ∧ c ≠ 10 ∧ c ≠ 92 := fun c hc => ⟨(nm_quiet c (h.all c hc)).1, (nm_quiet c (h.all c hc)).2.1, (nm_quiet c (h.all c hc)).2.2.1⟩
theorem Nm.front {s : List UInt8} (h : Nm s) (l : List UInt8) : ∀ b, (s ++ l).head? = some b → b ∉ ([47, 60, 62, 46, 61, 58] : List UInt8) := fun b hb => by
  obtain ⟨c, t, rfl, _⟩ := h.head
  have : c = b := Option.some.inj hb
  subst this
  exact (nm_quiet c (h.all c List.mem_cons_self)).2.2.2
theorem O.fnp {l : List UInt8} {ts : List Tk} (h : O (40 :: l) ts) : O (wFunction ++ 40 :: l) (wordT wFunction :: ts) := O.kw (by decide) ⟨_, _, rfl, by decide⟩ (by decide) (by intro b hb; cases hb <;> decide) h
theorem O.ende : O wEnd [wordT wEnd, eofT] := by
  have := O.kw (s := wEnd) (l := []) (by decide) ⟨_, _, rfl, by decide⟩ (by decide) (by intro b hb; cases hb <;> decide) .nil
  rwa [List.append_nil] at this
theorem nm_a : Nm [97] := ⟨⟨_, _, rfl, by decide⟩, by decide, by decide⟩
theorem nm_self : Nm wSelf := ⟨⟨_, _, rfl, by decide⟩, by decide, by decide⟩
section
variable {n k : List UInt8} (hn : Nm n) (hk : Nm k)
include hn hk
theorem lx1a : O (wReturn ++ 32 :: (n ++ 39 :: (k ++ 39 :: []))) [tRet, nameT n, textT k, eofT] := (O.name hn (by intro b hb; cases hb <;> decide) (.text hk.plain .nil)).ret
theorem lx1b : O (wReturn ++ 32 :: (n ++ 40 :: 39 :: (k ++ 39 :: 41 :: []))) [tRet, nameT n, lpar, textT k, rpar, eofT] :=
  (O.name hn (by intro b hb; cases hb <;> decide) (.sign (by decide) (by intro b hb; cases hb <;> decide) (.text hk.plain (.sign (by decide) (by intro b hb; cases hb <;> decide) .nil)))).ret
theorem lx2a : O (wReturn ++ 32 :: (n ++ 123 :: (k ++ 125 :: []))) [tRet, nameT n, signT [123], nameT k, signT [125], eofT] :=
  (O.name hn (by intro b hb; cases hb <;> decide) (.sign (by decide) (hk.front _) (.name hk (by intro b hb; cases hb <;> decide) (.sign (by decide) (by intro b hb; cases hb <;> decide) .nil)))).ret
theorem lx2b : O (wReturn ++ 32 :: (n ++ 40 :: 123 :: (k ++ 125 :: 41 :: []))) [tRet, nameT n, lpar, signT [123], nameT k, signT [125], rpar, eofT] :=
  (O.name hn (by intro b hb; cases hb <;> decide) (.sign (by decide) (by intro b hb; cases hb <;> decide) (.sign (by decide) (hk.front _) (.name hk (by intro b hb; cases hb <;> decide) (.sign (by decide) (by intro b hb; cases hb <;> decide) (.sign (by decide) (by intro b hb; cases hb <;> decide) .nil)))))).ret
theorem lx3a : O (wReturn ++ 32 :: (n ++ 46 :: (k ++ []))) [tRet, nameT n, signT [46], nameT k, eofT] :=
  (O.name hn (by intro b hb; cases hb <;> decide) (.sign (by decide) (hk.front _) (.name hk (by intro b hb; cases hb <;> decide) .nil))).ret
theorem lx3b : O (wReturn ++ 32 :: (n ++ 91 :: 39 :: (k ++ 39 :: 93 :: []))) [tRet, nameT n, signT [91], textT k, signT [93], eofT] :=
  (O.name hn (by intro b hb; cases hb <;> decide) (.brk (.text hk.plain (.sign (by decide) (by intro b hb; cases hb <;> decide) .nil)))).ret
omit hn hk in
theorem eq1 : O (32 :: 61 :: 32 :: 49 :: 125 :: []) [eqT, numT 1, signT [125], eofT] := (O.sign (by decide) (by intro b hb; cases hb <;> decide) (.blank (.num (by intro b hb; cases hb <;> decide) (.sign (by decide) (by intro b hb; cases hb <;> decide) .nil)))).blank
omit hn in
theorem lx4a : O (wReturn ++ 32 :: 123 :: (k ++ 32 :: 61 :: 32 :: 49 :: 125 :: [])) [tRet, signT [123], nameT k, eqT, numT 1, signT [125], eofT] :=
  (O.sign (by decide) (hk.front _) (.name hk (by intro b hb; cases hb <;> decide) eq1)).ret
omit hn in
theorem lx4b : O (wReturn ++ 32 :: 123 :: 91 :: 39 :: (k ++ 39 :: 93 :: 32 :: 61 :: 32 :: 49 :: 125 :: [])) [tRet, signT [123], signT [91], textT k, signT [93], eqT, numT 1, signT [125], eofT] :=
  (O.sign (by decide) (by intro b hb; cases hb <;> decide) (.brk (.text hk.plain (.sign (by decide) (by intro b hb; cases hb <;> decide) eq1)))).ret
omit hn in
theorem bod : O (40 :: 41 :: 32 :: (wReturn ++ 32 :: (k ++ 32 :: wEnd))) [lpar, rpar, tRet, nameT k, wordT wEnd, eofT] :=
  .sign (by decide) (by intro b hb; cases hb <;> decide) (.sign (by decide) (by intro b hb; cases hb <;> decide) (.blank (O.ret (.name hk (by intro b hb; cases hb <;> decide) O.ende.blank))))
theorem lx5a : O (wFunction ++ 32 :: (n ++ 40 :: 41 :: 32 :: (wReturn ++ 32 :: (k ++ 32 :: wEnd)))) [wordT wFunction, nameT n, lpar, rpar, tRet, nameT k, wordT wEnd, eofT] :=
  (O.name hn (by intro b hb; cases hb <;> decide) (bod hk)).fn
theorem lx5b : O (n ++ 32 :: 61 :: 32 :: (wFunction ++ 40 :: 41 :: 32 :: (wReturn ++ 32 :: (k ++ 32 :: wEnd)))) [nameT n, eqT, wordT wFunction, lpar, rpar, tRet, nameT k, wordT wEnd, eofT] :=
  .name hn (by intro b hb; cases hb <;> decide) (.blank (.sign (by decide) (by intro b hb; cases hb <;> decide) (.blank (.fnp (bod hk)))))
omit hn hk in
theorem par1 : O (40 :: ([97] ++ 41 :: 32 :: wEnd)) [lpar, nameT [97], rpar, wordT wEnd, eofT] := .sign (by decide) (nm_a.front _) (.name nm_a (by intro b hb; cases hb <;> decide) (.sign (by decide) (by intro b hb; cases hb <;> decide) O.ende.blank))
omit hn hk in
theorem par2 : O (40 :: (wSelf ++ 44 :: 32 :: ([97] ++ 41 :: 32 :: wEnd))) [lpar, nameT wSelf, signT [44], nameT [97], rpar, wordT wEnd, eofT] :=
  .sign (by decide) (nm_self.front _) (.name nm_self (by intro b hb; cases hb <;> decide) (.sign (by decide) (by intro b hb; cases hb <;> decide) (.blank (.name nm_a (by intro b hb; cases hb <;> decide) (.sign (by decide) (by intro b hb; cases hb <;> decide) O.ende.blank)))))
theorem lx6a : O (wFunction ++ 32 :: (n ++ 58 :: (k ++ 40 :: ([97] ++ 41 :: 32 :: wEnd)))) [wordT wFunction, nameT n, signT [58], nameT k, lpar, nameT [97], rpar, wordT wEnd, eofT] :=
  (O.name hn (by intro b hb; cases hb <;> decide) (.sign (by decide) (hk.front _) (.name hk (by intro b hb; cases hb <;> decide) par1))).fn
theorem lx6b : O (wFunction ++ 32 :: (n ++ 46 :: (k ++ 40 :: (wSelf ++ 44 :: 32 :: ([97] ++ 41 :: 32 :: wEnd))))) [wordT wFunction, nameT n, signT [46], nameT k, lpar, nameT wSelf, signT [44], nameT [97], rpar, wordT wEnd, eofT] :=
  (O.name hn (by intro b hb; cases hb <;> decide) (.sign (by decide) (hk.front _) (.name hk (by intro b hb; cases hb <;> decide) par2))).fn
omit hk in
theorem lx7a : O (59 :: 59 :: 32 :: (n ++ 40 :: 41 :: 59 :: 32 :: 59 :: [])) [semi, semi, nameT n, lpar, rpar, semi, semi, eofT] :=
  .sign (by decide) (by intro b hb; cases hb <;> decide) (.sign (by decide) (by intro b hb; cases hb <;> decide) (.blank (.name hn (by intro b hb; cases hb <;> decide) (.sign (by decide) (by intro b hb; cases hb <;> decide) (.sign (by decide) (by intro b hb; cases hb <;> decide) (.sign (by decide) (by intro b hb; cases hb <;> decide) (.blank (.sign (by decide) (by intro b hb; cases hb <;> decide) .nil))))))))
omit hk in
theorem lx7b : O (n ++ 40 :: 41 :: []) [nameT n, lpar, rpar, eofT] := .name hn (by intro b hb; cases hb <;> decide) (.sign (by decide) (by intro b hb; cases hb <;> decide) (.sign (by decide) (by intro b hb; cases hb <;> decide) .nil))
end
def Twin (s s' : ByteArray) : Prop := ∀ q q', Said s q → Said s' q' → q.2.1 = 0 ∧ q'.2.1 = 0 ∧ q.1 = q'.1
theorem said_tok {s : ByteArray} {l : List UInt8} {ts ts' : List Tk} {a : Ast} (e : s.data.toList = l) (h : O l ts) (hp : PL srcL ts (.ok (a, ts'))) (hd : a.depth ≤ 100) : ∀ q, Said s q → q = (Ast.text hdK a, 0, 0) := by
  rintro q ⟨o, ho, hm⟩
  have hL : lastL s = 1 := by unfold lastL; rw [e, h.one]; rfl
  rw [hL, e] at ho
  have := ho.det h.lex
  subst this
  obtain ⟨_, r, hr, hm⟩ := hm
  have := hr.one hp
  subst this
  dsimp only at hm
  rcases hm with ⟨h4, _⟩ | ⟨_, _, h4⟩
  · omega
  · exact h4
theorem twin {s s' : ByteArray} {l l' : List UInt8} {ts ts' us us' : List Tk} {a : Ast} (e : s.data.toList = l) (e' : s'.data.toList = l') (h : O l ts) (h' : O l' ts') (hp : PL srcL ts (.ok (a, us))) (hp' : PL srcL ts' (.ok (a, us'))) (hd : a.depth ≤ 100) : Twin s s' := fun q q' hq hq' => by
  rw [said_tok e h hp hd q hq, said_tok e' h' hp' hd q' hq']
  exact ⟨rfl, rfl, rfl⟩
end Go.Proofs.YtfpeecjafccfjaaGreatDoor
namespace Go.Proofs.YtfpeecjafccfjaaGreatDoor
open Go.RowKit
theorem sug5 (f x : List UInt8) : ∃ a, (PL srcL [wordT wFunction, nameT f, lpar, rpar, tRet, nameT x, wordT wEnd, eofT] (.ok (a, [eofT])) ∧ PL srcL [nameT f, eqT, wordT wFunction, lpar, rpar, tRet, nameT x, wordT wEnd, eofT] (.ok (a, [eofT]))) ∧ a.depth ≤ 100 :=
  ⟨nd 18 1 [ndN 20 1 1 [nmE f, ndA 11 1 0 [] [nd 18 1 [nd 29 1 [nmE x]]]]], ⟨run_sound 80 _ _ _ rfl, run_sound 80 _ _ _ rfl⟩, by simp [nd, ndN, ndA, nmE, ndS, Ast.depth, Ast.depthL]⟩
theorem sug6 (f k : List UInt8) : ∃ b, (PL srcL [wordT wFunction, nameT f, signT [58], nameT k, lpar, nameT [97], rpar, wordT wEnd, eofT] (.ok (b, [eofT])) ∧ PL srcL [wordT wFunction, nameT f, signT [46], nameT k, lpar, nameT wSelf, signT [44], nameT [97], rpar, wordT wEnd, eofT] (.ok (b, [eofT]))) ∧ b.depth ≤ 100 :=
  ⟨nd 18 1 [ndN 20 1 1 [nd 8 1 [nmE f, strE k], ndA 11 1 0 [bts wSelf, bts [97]] [nd 18 1 []]]], ⟨run_sound 80 _ _ _ rfl, run_sound 80 _ _ _ rfl⟩, by simp [nd, ndN, ndA, nmE, strE, ndS, Ast.depth, Ast.depthL]⟩
theorem sug7 (f _k : List UInt8) : ∃ b, (PL srcL [semi, semi, nameT f, lpar, rpar, semi, semi, eofT] (.ok (b, [eofT])) ∧ PL srcL [nameT f, lpar, rpar, eofT] (.ok (b, [eofT]))) ∧ b.depth ≤ 100 :=
  ⟨nd 18 1 [nd 21 1 [nd 9 1 [nmE f]]], ⟨run_sound 60 _ _ _ rfl, run_sound 60 _ _ _ rfl⟩, by simp [nd, nmE, ndS, Ast.depth, Ast.depthL]⟩
section
variable {n k : ByteArray} (Hn : GoodS n) (Hk : GoodS k)
include Hn Hk
theorem twin1 : Twin ((⟨#[114, 101, 116, 117, 114, 110, 32]⟩ : ByteArray) ++ n ++ (⟨#[39]⟩ : ByteArray) ++ k ++ (⟨#[39]⟩ : ByteArray)) ((⟨#[114, 101, 116, 117, 114, 110, 32]⟩ : ByteArray) ++ n ++ (⟨#[40, 39]⟩ : ByteArray) ++ k ++ (⟨#[39, 41]⟩ : ByteArray)) ∧ ((⟨#[114, 101, 116, 117, 114, 110, 32]⟩ : ByteArray) ++ n ++ (⟨#[39]⟩ : ByteArray) ++ k ++ (⟨#[39]⟩ : ByteArray)).size ≤ 4800 ∧ ((⟨#[114, 101, 116, 117, 114, 110, 32]⟩ : ByteArray) ++ n ++ (⟨#[40, 39]⟩ : ByteArray) ++ k ++ (⟨#[39, 41]⟩ : ByteArray)).size ≤ 4800 := by
  have hn := Hn.nm
  have hk := Hk.nm
  have n0 := Hn.hi
  have k0 := Hk.hi
  refine ⟨twin (by simp only [nl_append, List.append_assoc]; rfl) (by simp only [nl_append, List.append_assoc]; rfl) (lx1a hn hk) (lx1b hn hk) (sugar1 _ _).1 (sugar1 _ _).2 (by simp [retA, nd, nmE, strE, ndS, Ast.depth, Ast.depthL]), ?_, ?_⟩
  · simp only [ByteArray.size_append]; simp only [ByteArray.size, List.size_toArray, List.length_cons, List.length_nil] at *; omega
  · simp only [ByteArray.size_append]; simp only [ByteArray.size, List.size_toArray, List.length_cons, List.length_nil] at *; omega
theorem twin2 : Twin ((⟨#[114, 101, 116, 117, 114, 110, 32]⟩ : ByteArray) ++ n ++ (⟨#[123]⟩ : ByteArray) ++ k ++ (⟨#[125]⟩ : ByteArray)) ((⟨#[114, 101, 116, 117, 114, 110, 32]⟩ : ByteArray) ++ n ++ (⟨#[40, 123]⟩ : ByteArray) ++ k ++ (⟨#[125, 41]⟩ : ByteArray)) ∧ ((⟨#[114, 101, 116, 117, 114, 110, 32]⟩ : ByteArray) ++ n ++ (⟨#[123]⟩ : ByteArray) ++ k ++ (⟨#[125]⟩ : ByteArray)).size ≤ 4800 ∧ ((⟨#[114, 101, 116, 117, 114, 110, 32]⟩ : ByteArray) ++ n ++ (⟨#[40, 123]⟩ : ByteArray) ++ k ++ (⟨#[125, 41]⟩ : ByteArray)).size ≤ 4800 := by
  have hn := Hn.nm
  have hk := Hk.nm
  have n0 := Hn.hi
  have k0 := Hk.hi
  refine ⟨twin (by simp only [nl_append, List.append_assoc]; rfl) (by simp only [nl_append, List.append_assoc]; rfl) (lx2a hn hk) (lx2b hn hk) (sugar2 _ _).1 (sugar2 _ _).2 (by simp [retA, nd, nmE, ndS, Ast.depth, Ast.depthL]), ?_, ?_⟩
  · simp only [ByteArray.size_append]; simp only [ByteArray.size, List.size_toArray, List.length_cons, List.length_nil] at *; omega
  · simp only [ByteArray.size_append]; simp only [ByteArray.size, List.size_toArray, List.length_cons, List.length_nil] at *; omega
theorem twin3 : Twin ((⟨#[114, 101, 116, 117, 114, 110, 32]⟩ : ByteArray) ++ n ++ (⟨#[46]⟩ : ByteArray) ++ k) ((⟨#[114, 101, 116, 117, 114, 110, 32]⟩ : ByteArray) ++ n ++ (⟨#[91, 39]⟩ : ByteArray) ++ k ++ (⟨#[39, 93]⟩ : ByteArray)) ∧ ((⟨#[114, 101, 116, 117, 114, 110, 32]⟩ : ByteArray) ++ n ++ (⟨#[46]⟩ : ByteArray) ++ k).size ≤ 4800 ∧ ((⟨#[114, 101, 116, 117, 114, 110, 32]⟩ : ByteArray) ++ n ++ (⟨#[91, 39]⟩ : ByteArray) ++ k ++ (⟨#[39, 93]⟩ : ByteArray)).size ≤ 4800 := by
  have hn := Hn.nm
  have hk := Hk.nm
  have n0 := Hn.hi
  have k0 := Hk.hi
  refine ⟨twin (by simp only [nl_append, List.append_assoc, List.append_nil]; rfl) (by simp only [nl_append, List.append_assoc]; rfl) (lx3a hn hk) (lx3b hn hk) (sugar3 _ _).1 (sugar3 _ _).2 (by simp [retA, nd, nmE, strE, ndS, Ast.depth, Ast.depthL]), ?_, ?_⟩
  · simp only [ByteArray.size_append]; simp only [ByteArray.size, List.size_toArray, List.length_cons, List.length_nil] at *; omega
  · simp only [ByteArray.size_append]; simp only [ByteArray.size, List.size_toArray, List.length_cons, List.length_nil] at *; omega
theorem twin4 : Twin ((⟨#[114, 101, 116, 117, 114, 110, 32, 123]⟩ : ByteArray) ++ k ++ (⟨#[32, 61, 32, 49, 125]⟩ : ByteArray)) ((⟨#[114, 101, 116, 117, 114, 110, 32, 123, 91, 39]⟩ : ByteArray) ++ k ++ (⟨#[39, 93, 32, 61, 32, 49, 125]⟩ : ByteArray)) ∧ ((⟨#[114, 101, 116, 117, 114, 110, 32, 123]⟩ : ByteArray) ++ k ++ (⟨#[32, 61, 32, 49, 125]⟩ : ByteArray)).size ≤ 4800 ∧ ((⟨#[114, 101, 116, 117, 114, 110, 32, 123, 91, 39]⟩ : ByteArray) ++ k ++ (⟨#[39, 93, 32, 61, 32, 49, 125]⟩ : ByteArray)).size ≤ 4800 := by
  have hn := Hn.nm
  have hk := Hk.nm
  have n0 := Hn.hi
  have k0 := Hk.hi
  refine ⟨twin (by simp only [nl_append, List.append_assoc]; rfl) (by simp only [nl_append, List.append_assoc]; rfl) (lx4a hk) (lx4b hk) (sugar4 _ _).1 (sugar4 _ _).2 (by simp [retA, nd, strE, ndS, ndN, Ast.depth, Ast.depthL]), ?_, ?_⟩
  · simp only [ByteArray.size_append]; simp only [ByteArray.size, List.size_toArray, List.length_cons, List.length_nil] at *; omega
  · simp only [ByteArray.size_append]; simp only [ByteArray.size, List.size_toArray, List.length_cons, List.length_nil] at *; omega
theorem twin5 : Twin ((⟨#[102, 117, 110, 99, 116, 105, 111, 110, 32]⟩ : ByteArray) ++ n ++ (⟨#[40, 41, 32, 114, 101, 116, 117, 114, 110, 32]⟩ : ByteArray) ++ k ++ (⟨#[32, 101, 110, 100]⟩ : ByteArray)) (n ++ (⟨#[32, 61, 32, 102, 117, 110, 99, 116, 105, 111, 110, 40, 41, 32, 114, 101, 116, 117, 114, 110, 32]⟩ : ByteArray) ++ k ++ (⟨#[32, 101, 110, 100]⟩ : ByteArray)) ∧ ((⟨#[102, 117, 110, 99, 116, 105, 111, 110, 32]⟩ : ByteArray) ++ n ++ (⟨#[40, 41, 32, 114, 101, 116, 117, 114, 110, 32]⟩ : ByteArray) ++ k ++ (⟨#[32, 101, 110, 100]⟩ : ByteArray)).size ≤ 4800 ∧ (n ++ (⟨#[32, 61, 32, 102, 117, 110, 99, 116, 105, 111, 110, 40, 41, 32, 114, 101, 116, 117, 114, 110, 32]⟩ : ByteArray) ++ k ++ (⟨#[32, 101, 110, 100]⟩ : ByteArray)).size ≤ 4800 := by
  obtain ⟨a, h5, hd⟩ := sug5 n.data.toList k.data.toList
  have hn := Hn.nm
  have hk := Hk.nm
  have n0 := Hn.hi
  have k0 := Hk.hi
  refine ⟨twin (by simp only [nl_append, List.append_assoc]; rfl) (by simp only [nl_append, List.append_assoc]; rfl) (lx5a hn hk) (lx5b hn hk) h5.1 h5.2 hd, ?_, ?_⟩
  · simp only [ByteArray.size_append]; simp only [ByteArray.size, List.size_toArray, List.length_cons, List.length_nil] at *; omega
  · simp only [ByteArray.size_append]; simp only [ByteArray.size, List.size_toArray, List.length_cons, List.length_nil] at *; omega
theorem twin6 : Twin ((⟨#[102, 117, 110, 99, 116, 105, 111, 110, 32]⟩ : ByteArray) ++ n ++ (⟨#[58]⟩ : ByteArray) ++ k ++ (⟨#[40, 97, 41, 32, 101, 110, 100]⟩ : ByteArray)) ((⟨#[102, 117, 110, 99, 116, 105, 111, 110, 32]⟩ : ByteArray) ++ n ++ (⟨#[46]⟩ : ByteArray) ++ k ++ (⟨#[40, 115, 101, 108, 102, 44, 32, 97, 41, 32, 101, 110, 100]⟩ : ByteArray)) ∧ ((⟨#[102, 117, 110, 99, 116, 105, 111, 110, 32]⟩ : ByteArray) ++ n ++ (⟨#[58]⟩ : ByteArray) ++ k ++ (⟨#[40, 97, 41, 32, 101, 110, 100]⟩ : ByteArray)).size ≤ 4800 ∧ ((⟨#[102, 117, 110, 99, 116, 105, 111, 110, 32]⟩ : ByteArray) ++ n ++ (⟨#[46]⟩ : ByteArray) ++ k ++ (⟨#[40, 115, 101, 108, 102, 44, 32, 97, 41, 32, 101, 110, 100]⟩ : ByteArray)).size ≤ 4800 := by
  obtain ⟨a, h6, hd⟩ := sug6 n.data.toList k.data.toList
  have hn := Hn.nm
  have hk := Hk.nm
  have n0 := Hn.hi
  have k0 := Hk.hi
  refine ⟨twin (by simp only [nl_append, List.append_assoc]; rfl) (by simp only [nl_append, List.append_assoc]; rfl) (lx6a hn hk) (lx6b hn hk) h6.1 h6.2 hd, ?_, ?_⟩
  · simp only [ByteArray.size_append]; simp only [ByteArray.size, List.size_toArray, List.length_cons, List.length_nil] at *; omega
  · simp only [ByteArray.size_append]; simp only [ByteArray.size, List.size_toArray, List.length_cons, List.length_nil] at *; omega
theorem twin7 : Twin ((⟨#[59, 59, 32]⟩ : ByteArray) ++ n ++ (⟨#[40, 41, 59, 32, 59]⟩ : ByteArray)) (n ++ (⟨#[40, 41]⟩ : ByteArray)) ∧ ((⟨#[59, 59, 32]⟩ : ByteArray) ++ n ++ (⟨#[40, 41, 59, 32, 59]⟩ : ByteArray)).size ≤ 4800 ∧ (n ++ (⟨#[40, 41]⟩ : ByteArray)).size ≤ 4800 := by
  obtain ⟨a, h7, hd⟩ := sug7 n.data.toList k.data.toList
  have hn := Hn.nm
  have hk := Hk.nm
  have n0 := Hn.hi
  have k0 := Hk.hi
  refine ⟨twin (by simp only [nl_append, List.append_assoc]; rfl) (by simp only [nl_append]) (lx7a hn) (lx7b hn) h7.1 h7.2 hd, ?_, ?_⟩
  · simp only [ByteArray.size_append]; simp only [ByteArray.size, List.size_toArray, List.length_cons, List.length_nil] at *; omega
  · simp only [ByteArray.size_append]; simp only [ByteArray.size, List.size_toArray, List.length_cons, List.length_nil] at *; omega
set_option maxRecDepth 100000 in
theorem pair7 (i : Nat) (hi : i < 7) : ∃ A B : ByteArray, (∀ W, (Instr.index 46 (.agg #[.string ((⟨#[114, 101, 116, 117, 114, 110, 32]⟩ : ByteArray) ++ n ++ (⟨#[39]⟩ : ByteArray) ++ k ++ (⟨#[39]⟩ : ByteArray)), .string ((⟨#[114, 101, 116, 117, 114, 110, 32]⟩ : ByteArray) ++ n ++ (⟨#[40, 39]⟩ : ByteArray) ++ k ++ (⟨#[39, 41]⟩ : ByteArray)), .string ((⟨#[114, 101, 116, 117, 114, 110, 32]⟩ : ByteArray) ++ n ++ (⟨#[123]⟩ : ByteArray) ++ k ++ (⟨#[125]⟩ : ByteArray)), .string ((⟨#[114, 101, 116, 117, 114, 110, 32]⟩ : ByteArray) ++ n ++ (⟨#[40, 123]⟩ : ByteArray) ++ k ++ (⟨#[125, 41]⟩ : ByteArray)), .string ((⟨#[114, 101, 116, 117, 114, 110, 32]⟩ : ByteArray) ++ n ++ (⟨#[46]⟩ : ByteArray) ++ k), .string ((⟨#[114, 101, 116, 117, 114, 110, 32]⟩ : ByteArray) ++ n ++ (⟨#[91, 39]⟩ : ByteArray) ++ k ++ (⟨#[39, 93]⟩ : ByteArray)), .string ((⟨#[114, 101, 116, 117, 114, 110, 32, 123]⟩ : ByteArray) ++ k ++ (⟨#[32, 61, 32, 49, 125]⟩ : ByteArray)), .string ((⟨#[114, 101, 116, 117, 114, 110, 32, 123, 91, 39]⟩ : ByteArray) ++ k ++ (⟨#[39, 93, 32, 61, 32, 49, 125]⟩ : ByteArray)), .string ((⟨#[102, 117, 110, 99, 116, 105, 111, 110, 32]⟩ : ByteArray) ++ n ++ (⟨#[40, 41, 32, 114, 101, 116, 117, 114, 110, 32]⟩ : ByteArray) ++ k ++ (⟨#[32, 101, 110, 100]⟩ : ByteArray)), .string (n ++ (⟨#[32, 61, 32, 102, 117, 110, 99, 116, 105, 111, 110, 40, 41, 32, 114, 101, 116, 117, 114, 110, 32]⟩ : ByteArray) ++ k ++ (⟨#[32, 101, 110, 100]⟩ : ByteArray)), .string ((⟨#[102, 117, 110, 99, 116, 105, 111, 110, 32]⟩ : ByteArray) ++ n ++ (⟨#[58]⟩ : ByteArray) ++ k ++ (⟨#[40, 97, 41, 32, 101, 110, 100]⟩ : ByteArray)), .string ((⟨#[102, 117, 110, 99, 116, 105, 111, 110, 32]⟩ : ByteArray) ++ n ++ (⟨#[46]⟩ : ByteArray) ++ k ++ (⟨#[40, 115, 101, 108, 102, 44, 32, 97, 41, 32, 101, 110, 100]⟩ : ByteArray)), .string ((⟨#[59, 59, 32]⟩ : ByteArray) ++ n ++ (⟨#[40, 41, 59, 32, 59]⟩ : ByteArray)), .string (n ++ (⟨#[40, 41]⟩ : ByteArray))]) (.int .i64 (i : Int))).run Tryz.prog W = .ok (.agg #[.string A, .string B]) W) ∧ Twin A B ∧ A.size ≤ 4800 ∧ B.size ≤ 4800 := by
  rcases (show i = 0 ∨ i = 1 ∨ i = 2 ∨ i = 3 ∨ i = 4 ∨ i = 5 ∨ i = 6 by omega) with rfl | rfl | rfl | rfl | rfl | rfl | rfl
  · exact ⟨_, _, fun W => by kernel_rfl, twin1 Hn Hk⟩
  · exact ⟨_, _, fun W => by kernel_rfl, twin2 Hn Hk⟩
  · exact ⟨_, _, fun W => by kernel_rfl, twin3 Hn Hk⟩
  · exact ⟨_, _, fun W => by kernel_rfl, twin4 Hn Hk⟩
  · exact ⟨_, _, fun W => by kernel_rfl, twin5 Hn Hk⟩
  · exact ⟨_, _, fun W => by kernel_rfl, twin6 Hn Hk⟩
  · exact ⟨_, _, fun W => by kernel_rfl, twin7 Hn Hk⟩
end
end Go.Proofs.YtfpeecjafccfjaaGreatDoor
namespace Go.Proofs.YtfpeecjafccfjaaGreatDoor
open Go.RowKit
theorem next_all {s : ByteArray} {q : Nat} (h : q < s.size) (ha : ∀ c ∈ s.data.toList.take q, nmB c = true) (hc : nmB s[q] = true) : ∀ c ∈ s.data.toList.take (q + 1), nmB c = true := fun c hm => by
  rw [take_snoc s q h] at hm
  rcases List.mem_append.1 hm with hm | hm
  · exact ha c hm
  · rw [List.mem_singleton.1 hm]; exact hc
theorem next_head {s : ByteArray} {q : Nat} (h : q < s.size) (ha : 1 ≤ q → ∃ c t, s.data.toList = c :: t ∧ ltB c = true) (hc : q = 0 → ltB s[q] = true) : 1 ≤ q + 1 → ∃ c t, s.data.toList = c :: t ∧ ltB c = true := fun _ => by
  by_cases hq : q = 0
  · subst hq
    have h1 := take_snoc s 0 h
    rw [List.take_zero, List.nil_append] at h1
    cases e : s.data.toList with
    | nil => rw [e] at h1; cases h1
    | cons c t =>
      rw [e] at h1
      injection h1 with h1 _
      exact ⟨c, t, rfl, by rw [h1]; exact hc rfl⟩
  · exact ha (by omega)
set_option maxHeartbeats 4000000 in
set_option maxRecDepth 100000 in
theorem sugar_any (n k : ByteArray) (w : World) (hE : EnvL w) (hT : TabR w) : Calls Tryz.prog 6 #[.string n, .string k] w fun e w' => e = .returned (.bool true) ∧ Below w.heap.size w w' := by
  have A1 := Lib.hid (alive_p w hE hT)
  have HE := Lib.hid hE
  have HTb := Lib.hid hT
  clear hE hT
  go_enter Tryz.func6, Tryz.ntmps6
  go_wp2_with fail
  refine A1.out.mono ?_; rintro e w1 ⟨rfl, b1⟩
  have B1 := Lib.hid b1
  clear b1
  go_wp2_with fail
  go_loop [22] (fun i => ∃ j : Nat, j ≤ 2 ∧ i = .int .i64 (j : Int) ∧ (1 ≤ j → GoodS n) ∧ (2 ≤ j → GoodS k)) (fun i => 2 - (intOf i).toNat)
  case atStart => exact ⟨0, by omega, rfl, fun h => absurd h (by omega), fun h => absurd h (by omega)⟩
  case round =>
    obtain ⟨j, hj, rfl, h1, h2⟩ := hrel
    have H1 := Lib.hid h1
    have H2 := Lib.hid h2
    clear h1 h2
    by_cases hlt : j < 2
    · obtain ⟨s, hrun, hgo⟩ : ∃ s, (Instr.index 45 (.agg #[.string n, .string k]) (.int .i64 (j : Int))).run Tryz.prog w1 = .ok (.string s) w1 ∧ (GoodS s → (1 ≤ j + 1 → GoodS n) ∧ (2 ≤ j + 1 → GoodS k)) := by
        rcases (show j = 0 ∨ j = 1 by omega) with rfl | rfl
        · exact ⟨n, by kernel_rfl, fun h => ⟨fun _ => h, fun h' => absurd h' (by omega)⟩⟩
        · exact ⟨k, by kernel_rfl, fun h => ⟨fun _ => H1.out (by omega), fun _ => h⟩⟩
      have HGO := Lib.hid hgo
      clear hgo
      by_cases hbig : 100 < s.size
      · have g1 : decide ((100 : Int) < (s.size : Int)) = true := decide_eq_true (by omega)
        go_wp2_with fail
        go_ret
        exact ⟨rfl, B1.out⟩
      have g1 : decide ((100 : Int) < (s.size : Int)) = false := decide_eq_false (by omega)
      by_cases hemp : s.size = 0
      · have g2 := empB_yes s hemp
        go_wp2_with fail
        go_ret
        exact ⟨rfl, B1.out⟩
      have g2 := empB_no s (by omega)
      cases hw : wordB s.data.toList with
      | true =>
        have HW := Lib.hid hw
        clear hw
        go_wp2_with fail
        refine (word_any s w1).mono ?_; rintro e w2 ⟨rfl, rfl⟩
        rw [HW.out]
        go_wp2_with fail
        go_ret
        exact ⟨rfl, B1.out⟩
      | false =>
        have HW := Lib.hid hw
        clear hw
        go_wp2_with fail
        refine (word_any s w1).mono ?_; rintro e w2 ⟨rfl, rfl⟩
        rw [HW.out]
        go_wp2_with fail
        go_loop [38] (fun i => ∃ q : Nat, q ≤ s.size ∧ i = .int .i64 (q : Int) ∧ (∀ c ∈ s.data.toList.take q, nmB c = true) ∧ (1 ≤ q → ∃ c t, s.data.toList = c :: t ∧ ltB c = true)) (fun i => s.size - (intOf i).toNat)
        case atStart => exact ⟨0, Nat.zero_le _, rfl, by simp, fun h => absurd h (by omega)⟩
        case round =>
          obtain ⟨q, hq, rfl, ha, hh⟩ := hrel
          have HA := Lib.hid ha
          have HH := Lib.hid hh
          clear ha hh
          by_cases hql : q < s.size
          · by_cases hA : 97 ≤ s[q].toNat ∧ s[q].toNat ≤ 122
            · have d1 : decide ((97 : Int) ≤ ((s[q].toNat : Nat) : Int)) = true := decide_eq_true (by omega)
              have d2 : decide (((s[q].toNat : Nat) : Int) ≤ 122) = true := decide_eq_true (by omega)
              have HNM := Lib.hid (show nmB s[q] = true from by unfold nmB ltB dgB; simp only [Bool.or_eq_true, decide_eq_true_eq]; omega)
              have HLT := Lib.hid (fun _ : q = 0 => show ltB s[q] = true from by unfold ltB; simp only [Bool.or_eq_true, decide_eq_true_eq]; omega)
              go_wp2_with fail
              go_round
              case rel => exact ⟨q + 1, by omega, by go_num, next_all hql HA.out HNM.out, next_head hql HH.out HLT.out⟩
              case measure => simp [intOf]; omega
            by_cases hB : 65 ≤ s[q].toNat ∧ s[q].toNat ≤ 90
            · have d1 : decide ((97 : Int) ≤ ((s[q].toNat : Nat) : Int)) = false := decide_eq_false (by omega)
              have d3 : decide ((65 : Int) ≤ ((s[q].toNat : Nat) : Int)) = true := decide_eq_true (by omega)
              have d4 : decide (((s[q].toNat : Nat) : Int) ≤ 90) = true := decide_eq_true (by omega)
              have HNM := Lib.hid (show nmB s[q] = true from by unfold nmB ltB dgB; simp only [Bool.or_eq_true, decide_eq_true_eq]; omega)
              have HLT := Lib.hid (fun _ : q = 0 => show ltB s[q] = true from by unfold ltB; simp only [Bool.or_eq_true, decide_eq_true_eq]; omega)
              go_wp2_with fail
              go_round
              case rel => exact ⟨q + 1, by omega, by go_num, next_all hql HA.out HNM.out, next_head hql HH.out HLT.out⟩
              case measure => simp [intOf]; omega
            by_cases hC : s[q].toNat = 95
            · have d1 : decide ((97 : Int) ≤ ((s[q].toNat : Nat) : Int)) = false := decide_eq_false (by omega)
              have d3 : decide ((65 : Int) ≤ ((s[q].toNat : Nat) : Int)) = true := decide_eq_true (by omega)
              have d4 : decide (((s[q].toNat : Nat) : Int) ≤ 90) = false := decide_eq_false (by omega)
              have d5 : (((s[q].toNat : Nat) : Int) == 95) = true := beq_iff_eq.2 (by omega)
              have HNM := Lib.hid (show nmB s[q] = true from by unfold nmB ltB dgB; simp only [Bool.or_eq_true, decide_eq_true_eq]; omega)
              have HLT := Lib.hid (fun _ : q = 0 => show ltB s[q] = true from by unfold ltB; simp only [Bool.or_eq_true, decide_eq_true_eq]; omega)
              go_wp2_with fail
              go_round
              case rel => exact ⟨q + 1, by omega, by go_num, next_all hql HA.out HNM.out, next_head hql HH.out HLT.out⟩
              case measure => simp [intOf]; omega
            by_cases hD : 0 < q ∧ 48 ≤ s[q].toNat ∧ s[q].toNat ≤ 57
            · have d1 : decide ((97 : Int) ≤ ((s[q].toNat : Nat) : Int)) = false := decide_eq_false (by omega)
              have d3 : decide ((65 : Int) ≤ ((s[q].toNat : Nat) : Int)) = false := decide_eq_false (by omega)
              have d5 : (((s[q].toNat : Nat) : Int) == 95) = false := beq_eq_false_iff_ne.2 (by omega)
              have d6 : decide ((0 : Int) < (q : Int)) = true := decide_eq_true (by omega)
              have d7 : decide ((48 : Int) ≤ ((s[q].toNat : Nat) : Int)) = true := decide_eq_true (by omega)
              have d8 : decide (((s[q].toNat : Nat) : Int) ≤ 57) = true := decide_eq_true (by omega)
              have HNM := Lib.hid (show nmB s[q] = true from by unfold nmB ltB dgB; simp only [Bool.or_eq_true, decide_eq_true_eq]; omega)
              have HLT := Lib.hid (fun h : q = 0 => show ltB s[q] = true from absurd h (by omega))
              go_wp2_with fail
              go_round
              case rel => exact ⟨q + 1, by omega, by go_num, next_all hql HA.out HNM.out, next_head hql HH.out HLT.out⟩
              case measure => simp [intOf]; omega
            have d5 : (((s[q].toNat : Nat) : Int) == 95) = false := beq_eq_false_iff_ne.2 (by omega)
            by_cases hE : 97 ≤ s[q].toNat
            · have d1 : decide ((97 : Int) ≤ ((s[q].toNat : Nat) : Int)) = true := decide_eq_true (by omega)
              have d2 : decide (((s[q].toNat : Nat) : Int) ≤ 122) = false := decide_eq_false (by omega)
              have d3 : decide ((65 : Int) ≤ ((s[q].toNat : Nat) : Int)) = true := decide_eq_true (by omega)
              have d4 : decide (((s[q].toNat : Nat) : Int) ≤ 90) = false := decide_eq_false (by omega)
              by_cases hq0 : 0 < q
              · have d6 : decide ((0 : Int) < (q : Int)) = true := decide_eq_true (by omega)
                have d7 : decide ((48 : Int) ≤ ((s[q].toNat : Nat) : Int)) = true := decide_eq_true (by omega)
                have d8 : decide (((s[q].toNat : Nat) : Int) ≤ 57) = false := decide_eq_false (by omega)
                go_wp2_with fail
                go_ret
                exact ⟨rfl, B1.out⟩
              · have d6 : decide ((0 : Int) < (q : Int)) = false := decide_eq_false (by omega)
                go_wp2_with fail
                go_ret
                exact ⟨rfl, B1.out⟩
            by_cases hF : 65 ≤ s[q].toNat
            · have d1 : decide ((97 : Int) ≤ ((s[q].toNat : Nat) : Int)) = false := decide_eq_false (by omega)
              have d3 : decide ((65 : Int) ≤ ((s[q].toNat : Nat) : Int)) = true := decide_eq_true (by omega)
              have d4 : decide (((s[q].toNat : Nat) : Int) ≤ 90) = false := decide_eq_false (by omega)
              by_cases hq0 : 0 < q
              · have d6 : decide ((0 : Int) < (q : Int)) = true := decide_eq_true (by omega)
                have d7 : decide ((48 : Int) ≤ ((s[q].toNat : Nat) : Int)) = true := decide_eq_true (by omega)
                have d8 : decide (((s[q].toNat : Nat) : Int) ≤ 57) = false := decide_eq_false (by omega)
                go_wp2_with fail
                go_ret
                exact ⟨rfl, B1.out⟩
              · have d6 : decide ((0 : Int) < (q : Int)) = false := decide_eq_false (by omega)
                go_wp2_with fail
                go_ret
                exact ⟨rfl, B1.out⟩
            have d1 : decide ((97 : Int) ≤ ((s[q].toNat : Nat) : Int)) = false := decide_eq_false (by omega)
            have d3 : decide ((65 : Int) ≤ ((s[q].toNat : Nat) : Int)) = false := decide_eq_false (by omega)
            by_cases hG : 48 ≤ s[q].toNat
            · by_cases hq0 : 0 < q
              · have d6 : decide ((0 : Int) < (q : Int)) = true := decide_eq_true (by omega)
                have d7 : decide ((48 : Int) ≤ ((s[q].toNat : Nat) : Int)) = true := decide_eq_true (by omega)
                have d8 : decide (((s[q].toNat : Nat) : Int) ≤ 57) = false := decide_eq_false (by omega)
                go_wp2_with fail
                go_ret
                exact ⟨rfl, B1.out⟩
              · have d6 : decide ((0 : Int) < (q : Int)) = false := decide_eq_false (by omega)
                go_wp2_with fail
                go_ret
                exact ⟨rfl, B1.out⟩
            · by_cases hq0 : 0 < q
              · have d6 : decide ((0 : Int) < (q : Int)) = true := decide_eq_true (by omega)
                have d7 : decide ((48 : Int) ≤ ((s[q].toNat : Nat) : Int)) = false := decide_eq_false (by omega)
                go_wp2_with fail
                go_ret
                exact ⟨rfl, B1.out⟩
              · have d6 : decide ((0 : Int) < (q : Int)) = false := decide_eq_false (by omega)
                go_wp2_with fail
                go_ret
                exact ⟨rfl, B1.out⟩
          · have hgs : GoodS s := ⟨⟨HH.out (by omega), by
              have h := HA.out
              rw [List.take_of_length_le (by rw [← Lib.size_eq]; omega)] at h
              exact h, HW.out⟩, by omega, by omega⟩
            have HGS := Lib.hid (HGO.out hgs)
            clear hgs
            go_wp2_with fail
            go_round
            case rel => exact ⟨j + 1, by omega, by go_num, HGS.out.1, HGS.out.2⟩
            case measure => simp [intOf]; omega
    · have G1 := Lib.hid (H1.out (by omega))
      have G2 := Lib.hid (H2.out (by omega))
      have hn0 := G1.out.lo
      have hn1 := G1.out.hi
      have hk0 := G2.out.lo
      have hk1 := G2.out.hi
      go_wp2_with fail
      go_loopw [154] (fun i wr => ∃ j : Nat, j ≤ 7 ∧ i = .int .i64 (j : Int) ∧ Below w1.heap.size w1 wr) (fun i _ => 7 - (intOf i).toNat)
      case atStart => exact ⟨0, by omega, rfl, Below.refl ..⟩
      case round =>
        obtain ⟨j, hj, rfl, hbr⟩ := hrel
        have BR := Lib.hid hbr
        clear hbr
        by_cases hlt : j < 7
        · obtain ⟨A, B, hrun, htw, hsA, hsB⟩ := pair7 G1.out G2.out j hlt
          have HTW := Lib.hid htw
          have hrun' := hrun wr
          have HSA := Lib.hid (fun W (hW : Below w1.heap.size w1 W) => said_p A W hsA (HE.out.below (thenBR B1.out hW)) (HTb.out.below (thenBR B1.out hW)))
          have HSB := Lib.hid (fun W (hW : Below w1.heap.size w1 W) => said_p B W hsB (HE.out.below (thenBR B1.out hW)) (HTb.out.below (thenBR B1.out hW)))
          clear hrun htw hsA hsB
          have HBX := Lib.hid (fun W (hW : Below (wr.heap.size + 1) (wr.alloc (.cells #[.string A, .string B] 45)) W) => (hW.cell (p := ⟨wr.heap.size, 1, none⟩) (Nat.lt_succ_self _)).trans (acell wr #[.string A, .string B] 45 1))
          have HA1 := Lib.hid (HSA.out _ (thenBR BR.out (allocB wr (.cells #[.string A, .string B] 45))))
          go_wp2_with fail
          refine HA1.out.mono ?_
          rintro e w3 ⟨b3, ⟨q1, q2, q3⟩, hq, rfl⟩
          have B3 := Lib.hid (thenBR BR.out (thenBR (allocB wr _) b3))
          rw [asize] at b3
          have e1 := HBX.out _ b3
          have HQ := Lib.hid hq
          have HB1 := Lib.hid (HSB.out _ B3.out)
          clear b3 hq
          go_wp2_with fail
          refine HB1.out.mono ?_
          rintro e w4 ⟨b4, ⟨p1, p2, p3⟩, hp, rfl⟩
          have B4 := Lib.hid (thenBR B3.out b4)
          obtain ⟨h1, h2, h3⟩ := HTW.out _ _ HQ.out hp
          dsimp only at h1 h2 h3
          subst h1 h2 h3
          clear b4 hp e1
          go_wp2_with fail
          go_roundw
          case rel => exact ⟨j + 1, by omega, by go_num, B4.out⟩
          case measure => simp [intOf]; omega
        · go_wp2_with fail
          go_ret
          exact ⟨rfl, thenBR B1.out BR.out⟩
end Go.Proofs.YtfpeecjafccfjaaGreatDoor
