/- Parts of the proof: RPrn, Say, RLuaU, Alv, Rig, Rgw, Laid, LexK, LexQ, LexC, LexW, Sug, Rpu, Sut, Bar, Row. -/
import Derived.Test.YtfpeecjafccfjaaGreatDoorCards
import Derived.Test.YtfpeecjafccfjaaGreatDoorTie
import Derived.ProofKit
import Derived.LaidMore
import Derived.LaidHandle
import Derived.Lay
import Derived.OpenShut
import Derived.SizedLaws
import Derived.Stop.Joined
import Derived.Stop.LaidErr
import Derived.Lib.LaidTab
import Derived.BigQuiet
import Derived.Test.YtfpeecjafccfjaaGreatDoorK14
namespace Go.Proofs.YtfpeecjafccfjaaGreatDoor
open Go.RowKit
def printK (T : List Nd) (r : Int) : List UInt8 := printT fieldsK koK soK hdK T r
structure Sm (T : List Nd) : Prop where
  len : T.length ≤ 16384
  l0 : ∀ x ∈ T, -9223372036854775808 ≤ x.line ∧ x.line ≤ 9223372036854775807
  o0 : ∀ x ∈ T, -9223372036854775808 ≤ x.op ∧ x.op ≤ 9223372036854775807
  n0 : ∀ x ∈ T, -9223372036854775808 ≤ x.num ∧ x.num ≤ 9223372036854775807
  s1 : ∀ x ∈ T, x.s.size ≤ 100000
  nl : ∀ x ∈ T, x.names.length ≤ 5000
theorem so_kind {k : Int} (h : soK k ≠ 0) : 1 ≤ k ∧ k ≤ 32 := by
  refine Classical.byContradiction fun hn => h ?_
  unfold soK
  rw [if_neg (by omega), if_neg (by omega), if_neg (by omega), if_neg (by omega), if_neg (by omega), if_neg (by omega), if_neg (by omega), if_neg (by omega)]
theorem right_kinds {T : List Nd} {r : Int} (h : rightK T r = true) {i : Nat} {x : Nd} (hx : T[i]? = some x) : 1 ≤ x.kind ∧ x.kind ≤ 32 := by
  obtain ⟨d, m, hs, h0, h1⟩ := right_snd fieldsK koK soK h
  obtain ⟨_, _, hk, hall⟩ := (right_split fieldsK koK soK).1 h
  have hi := (List.getElem?_eq_some_iff.1 hx).1
  by_cases hir : i = r.toNat
  · subst hir
    rw [kind_of hx] at hk
    omega
  · obtain ⟨j, hj, hij⟩ := hs.parent hi hir
    have hy := List.getElem?_eq_getElem hj
    rw [kids_of hy] at hij
    have hz := ko_zero _ _ _ ((node_split fieldsK koK soK).1 (hall j _ hy)).2.2
    refine so_kind fun e => hz (List.mem_map.2 ⟨_, hij, ?_⟩)
    rw [Int.toNat_natCast, kind_of hx, e]
theorem right_names {T : List Nd} {r : Int} (h : rightK T r = true) {x : Nd} (hx : x ∈ T) : ∀ y ∈ x.names, y.size ≤ 65536 := by
  obtain ⟨_, _, _, hall⟩ := (right_split fieldsK koK soK).1 h
  obtain ⟨i, hi⟩ := List.mem_iff_getElem?.1 hx
  have hf := ((node_split fieldsK koK soK).1 (hall i x hi)).2.1
  unfold fieldsK at hf
  simp only [Bool.and_eq_true] at hf
  intro y hy
  have := List.all_eq_true.1 hf.1.2 y hy
  unfold nameB at this
  simp only [Bool.and_eq_true, decide_eq_true_eq] at this
  exact this.1.1.1.2
theorem Sm.ndw {T : List Nd} {r : Int} (hs : Sm T) (h : rightK T r = true) : ∀ x ∈ T, NdW x := fun x hx => by
  obtain ⟨i, hi⟩ := List.mem_iff_getElem?.1 hx
  obtain ⟨k0, k1⟩ := right_kinds h hi
  exact ⟨(hs.l0 x hx).1, (hs.l0 x hx).2, (hs.o0 x hx).1, (hs.o0 x hx).2, (hs.n0 x hx).1, (hs.n0 x hx).2, hs.s1 x hx, hs.nl x hx, right_names h hx, k0, k1⟩
theorem Sm.szd {T : List Nd} (hs : Sm T) : Szd T := fun x hx => by have := hs.nl x hx; omega
theorem ite_len {c : Bool} {a : List UInt8} {n : Nat} (h : a.length ≤ n) : (if c then a else []).length ≤ n := by
  cases c
  · exact Nat.zero_le _
  · exact h
theorem hd_len {x : Nd} (h : NdW x) : (hdK x).length ≤ 328500000 := by
  unfold hdK
  have h1 : (topText x).length ≤ 40 := by
    unfold topText
    have := wordK_len x.kind.toNat
    rw [Lib.size_eq] at this
    have := Lib.itoa_length_le x.line h.l0 h.l1
    simp only [List.length_append, List.length_cons]
    omega
  have h2 : (fldText x).length ≤ 500000 := by
    unfold fldText
    have a1 := ite_len (c := hasB (fldK x.kind) 1) (a := 32 :: Lib.itoa x.op) (n := 22) (by have := Lib.itoa_length_le x.op h.o0 h.o1; simp only [List.length_cons]; omega)
    have a2 := ite_len (c := hasB (fldK x.kind) 2) (a := 32 :: Lib.itoa x.num) (n := 22) (by have := Lib.itoa_length_le x.num h.n0 h.n1; simp only [List.length_cons]; omega)
    have a3 := ite_len (c := hasB (fldK x.kind) 4) (a := 32 :: quoL x.s.data.toList) (n := 400003) (by
      have := quoL_len x.s.data.toList
      rw [← Lib.size_eq] at this
      have := h.s1
      simp only [List.length_cons]; omega)
    rw [List.length_append, List.length_append]
    omega
  have h3 := nms_len x.names h.nm
  have h4 : x.names.length * 65537 ≤ 5000 * 65537 := Nat.mul_le_mul_right _ h.nl
  simp only [List.length_append]
  omega
theorem text_bound {T : List Nd} {r : Int} (hs : Sm T) (h : rightK T r = true) : (text hdK T (T.length + 1) r.toNat).length ≤ 140000000000000 := by
  obtain ⟨d, m, hd, h0, h1⟩ := right_snd fieldsK koK soK h
  have := text_len (hd := hdK) hd (M := 328600000) (fun i x hx => by
    have a := hd_len (hs.ndw h x (List.mem_of_getElem? hx))
    have b := (snd_kids hd hx).2
    have := hs.len
    omega)
  have h2 : T.length * 328600000 ≤ 16384 * 328600000 := Nat.mul_le_mul_right _ hs.len
  omega
theorem print_yes {T : List Nd} {r : Int} (h : rightK T r = true) : printK T r = text hdK T (T.length + 1) r.toNat := if_pos h
theorem print_no {T : List Nd} {r : Int} (h : rightK T r = false) : printK T r = [] := if_neg (by unfold rightK at h; rw [h]; decide)
set_option maxHeartbeats 2000000 in
set_option maxRecDepth 20000 in
theorem print_any (v : Value) (T : List Nd) (r : Int) (w : World) (h : TreeV w v T r) (hs : Sm T) (hT : TabR w) : Calls Tryz.prog 13 #[v] w fun e w' => e = .returned (.string ⟨(printK T r).toArray⟩) ∧ Below w.heap.size w w' := by
  have HR := Lib.hid (fun W (hW : TreeV W v T r) => right_any v T r W hW hs.szd)
  have HTV := Lib.hid h
  obtain ⟨nv, rfl, A, c, rfl, hc, hn⟩ := h
  have HN := Lib.hid hn
  have HB0 := Lib.hid (b_alloc w (.cells #[.slice A T.length c, .int .i64 r] 25))
  have HBX := Lib.hid (fun W (hW : Below (w.heap.size + 1) (w.alloc (.cells #[.slice A T.length c, .int .i64 r] 25)) W) => And.intro ((hW.cell (p := ⟨w.heap.size, 0, none⟩) (Nat.lt_succ_self _)).trans (acell w #[.slice A T.length c, .int .i64 r] 25 0)) ((hW.cell (p := ⟨w.heap.size, 1, none⟩) (Nat.lt_succ_self _)).trans (acell w #[.slice A T.length c, .int .i64 r] 25 1)))
  obtain ⟨P, hP⟩ : ∃ P, P = printK T r := ⟨_, rfl⟩
  rw [← hP]
  have HP := Lib.hid hP
  have HS := Lib.hid hs
  have HT := Lib.hid hT
  clear hn hP hs hT
  cases hr : rightK T r with
  | false =>
    rw [hr] at HR
    obtain rfl : P = [] := HP.out.trans (print_no hr)
    clear hr
    go_enter Tryz.func13, Tryz.ntmps13
    go_wp2_with fail
    refine (HR.out _ (HTV.out.below HB0.out)).mono ?_; rintro e w1 ⟨rfl, b1⟩
    have HB1 := Lib.hid (thenBR HB0.out b1)
    clear b1
    go_wp2_with fail
    go_ret
    exact ⟨rfl, HB1.out⟩
  | true =>
    have htx := print_yes hr
    have hbd := text_bound HS.out hr
    have hnd := HS.out.ndw hr
    obtain ⟨d, m, hsn, hr0, hr1⟩ := right_snd fieldsK koK soK hr
    rw [← HP.out] at htx
    rw [← htx] at hbd
    rw [hr] at HR
    rcases HN.out with hT0 | ⟨bk, o, rfl, hbk, hx⟩
    · rw [hT0] at hr1; simp at hr1; omega
    obtain ⟨q, rfl⟩ : ∃ q : Nat, r = (q : Int) := ⟨r.toNat, by omega⟩
    rw [Int.toNat_natCast] at htx hsn
    have HTX := Lib.hid htx
    have HBD := Lib.hid hbd
    have HND := Lib.hid hnd
    have HSN := Lib.hid hsn
    have HX := Lib.hid hx
    clear hr htx hbd hnd hsn hx HP
    go_enter Tryz.func13, Tryz.ntmps13
    go_wp2_with fail
    refine (HR.out _ (HTV.out.below HB0.out)).mono ?_; rintro e w1 ⟨rfl, b1⟩
    have HB1 := Lib.hid (thenBR HB0.out b1)
    rw [asize] at b1
    obtain ⟨x0, x1⟩ := HBX.out _ b1
    have hsz1 := b1.size
    rw [asize] at hsz1
    have y0 : ∀ ob, (w1.alloc ob).cell? ⟨w.heap.size, 0, none⟩ = some (.slice (some ⟨bk, o, none⟩) T.length c) := fun ob => ((b_alloc w1 ob).cell (p := ⟨w.heap.size, 0, none⟩) (by show w.heap.size < _; omega)).trans x0
    have y1 : ∀ ob, (w1.alloc ob).cell? ⟨w.heap.size, 1, none⟩ = some (.int .i64 (q : Int)) := fun ob => ((b_alloc w1 ob).cell (p := ⟨w.heap.size, 1, none⟩) (by show w.heap.size < _; omega)).trans x1
    have hbld : Bd (w1.alloc (.cells #[.pointer none, .slice none 0 0] 74)) w1.heap.size w1.heap.size [] := .inl ⟨Nat.le_refl _, .slice none 0 0, heap_alloc_new w1 _, World.ownsRow_nil _ _ _ _, by simp [Value.ownBlock]⟩
    have HWR := Lib.hid (write_any T bk o c q d m w1.heap.size w1 HSN.out HND.out (NodesIn.below HX.out HB1.out hbk) (by have := HB1.out.size; omega) (HT.out.below HB1.out) (by have := HS.out.len; omega) (T.length + 1) q [] (w1.alloc (.cells #[.pointer none, .slice none 0 0] 74)) (by have := HSN.out.root; omega) (by omega) (b_alloc w1 _) hbld (by rw [← HTX.out]; have := HBD.out; simp only [List.length_nil]; omega))
    rw [← HTX.out, List.nil_append] at HWR
    clear b1 x0 x1 hbld
    go_wp2_with fail
    refine HWR.out.mono ?_; rintro e w3 ⟨rfl, hb3, hw3⟩
    have hsz3 := hw3.below.size
    rw [asize] at hsz3
    have HB3 := Lib.hid hb3
    have HW3 := Lib.hid ((b_alloc w1 (.cells #[.pointer none, .slice none 0 0] 74)).trans hw3.below)
    have HSTR := Lib.hid (Tryz.Builder_String_any w1.heap.size w1.heap.size P w3 hb3 (by omega))
    clear hb3 hw3 HWR y0 y1
    go_wp2_with fail
    refine HSTR.out.mono ?_; rintro e w4 ⟨rfl, b4⟩
    have HB4 := Lib.hid (thenBR HB1.out (HW3.out.trans b4))
    clear b4
    go_wp2_with fail
    go_ret
    exact ⟨rfl, HB4.out⟩
end Go.Proofs.YtfpeecjafccfjaaGreatDoor
namespace Go.Proofs.YtfpeecjafccfjaaGreatDoor
open Go.RowKit
mutual
def Every (Q : Nd → Prop) : Ast → Prop
  | .mk h ks => Q h ∧ EveryL Q ks
def EveryL (Q : Nd → Prop) : List Ast → Prop
  | [] => True
  | a :: xs => Every Q a ∧ EveryL Q xs
end
mutual
theorem every_sm : ∀ a : Ast, SmA a → Every SmN a
  | .mk h ks, hs => by
    unfold SmA at hs
    unfold Every
    exact ⟨hs.1, every_smL ks hs.2⟩
theorem every_smL : ∀ l : List Ast, SmL l → EveryL SmN l
  | [], _ => by unfold EveryL; trivial
  | a :: l, hs => by
    unfold SmL at hs
    unfold EveryL
    exact ⟨every_sm a hs.1, every_smL l hs.2⟩
end
def LnN (M : Int) (h : Nd) : Prop := 1 ≤ h.line ∧ h.line ≤ M
mutual
theorem every_ln {M : Int} : ∀ a : Ast, Ast.ok fieldsK koK soK a = true → Ast.upto M a = true → Every (LnN M) a
  | .mk h ks, h1, h2 => by
    unfold Ast.ok at h1
    unfold Ast.upto at h2
    simp only [Bool.and_eq_true, decide_eq_true_eq] at h1 h2
    unfold Every
    exact ⟨⟨h1.1.1.1, h2.1⟩, every_lnL ks h1.2 h2.2⟩
theorem every_lnL {M : Int} : ∀ l : List Ast, Ast.okL fieldsK koK soK l = true → Ast.uptoL M l = true → EveryL (LnN M) l
  | [], _, _ => by unfold EveryL; trivial
  | a :: l, h1, h2 => by
    unfold Ast.okL at h1
    unfold Ast.uptoL at h2
    simp only [Bool.and_eq_true] at h1 h2
    unfold EveryL
    exact ⟨every_ln a h1.1 h2.1, every_lnL l h1.2 h2.2⟩
end
mutual
theorem Rep.every {T : List Nd} {Q : Nd → Prop} (hQ : ∀ h ks, Q h → Q { h with kids := ks }) : ∀ (a : Ast) (i : Nat) (js : List Nat), Rep T a i js → Every Q a → ∀ j ∈ js, ∀ x, T[j]? = some x → Q x
  | .mk h xs, i, js, hr, hs => by
    unfold Rep at hr
    unfold Every at hs
    obtain ⟨x, js', hx, he, hr2, rfl⟩ := hr
    intro j hj y hy
    rcases List.mem_cons.1 hj with rfl | hj
    · rw [hx] at hy
      injection hy with hy
      rw [← hy, he]
      exact hQ h _ hs.1
    · exact Reps.every hQ xs x.kids js' hr2 hs.2 j hj y hy
theorem Reps.every {T : List Nd} {Q : Nd → Prop} (hQ : ∀ h ks, Q h → Q { h with kids := ks }) : ∀ (l : List Ast) (ks : List Int) (js : List Nat), Reps T l ks js → EveryL Q l → ∀ j ∈ js, ∀ x, T[j]? = some x → Q x
  | [], ks, js, hr, _ => by
    unfold Reps at hr
    obtain ⟨_, rfl⟩ := hr
    intro j hj
    simp at hj
  | a :: l, ks, js, hr, hs => by
    unfold Reps at hr
    unfold EveryL at hs
    obtain ⟨k, ks', j1, j2, rfl, h1, h2, rfl⟩ := hr
    intro j hj y hy
    rcases List.mem_append.1 hj with hj | hj
    · exact Rep.every hQ a k j1 h1 hs.1 j hj y hy
    · exact Reps.every hQ l ks' j2 h2 hs.2 j hj y hy
end
theorem Lies.alone {T : List Nd} {a : Ast} {p : Nat} (h : Lies [] T [a] [(p : Int)]) : ∃ js, Rep T a p js ∧ js.Nodup ∧ js.length = T.length ∧ ∀ j, j < T.length → j ∈ js := by
  obtain ⟨_, js, hr, hperm⟩ := h
  unfold Reps at hr
  obtain ⟨k, ks', j1, j2, ek, hr1, hr2, ej⟩ := hr
  unfold Reps at hr2
  obtain ⟨_, rfl⟩ := hr2
  have ek2 : k = p := by injection ek with ek _; omega
  subst ek2
  rw [List.append_nil] at ej
  subst ej
  exact ⟨_, hr1, hperm.nodup_iff.2 (List.nodup_range' ..), by rw [hperm.length_eq, List.length_range']; simp, fun j hj => hperm.mem_iff.2 (by rw [List.mem_range'_1]; simp; exact hj)⟩
theorem Lies.every {T : List Nd} {a : Ast} {p : Nat} {Q : Nd → Prop} (h : Lies [] T [a] [(p : Int)]) (hQ : ∀ h ks, Q h → Q { h with kids := ks }) (hs : Every Q a) : ∀ x ∈ T, Q x := fun x hx => by
  obtain ⟨js, h1, h2, h3, h4⟩ := h.alone
  obtain ⟨j, hj⟩ := List.mem_iff_getElem?.1 hx
  exact Rep.every hQ a p js h1 hs j (h4 j (List.getElem?_eq_some_iff.1 hj).1) x hj
theorem hdK_kids (x : Nd) (ks : List Int) : hdK { x with kids := ks } = hdK x := rfl
theorem fieldsK_kids (x : Nd) (ks : List Int) : fieldsK { x with kids := ks } = fieldsK x := rfl
theorem read_all {s : ByteArray} {ts ts' : List TkP} {a : Ast} (hs : s.size ≤ 4800) (hl : LexR (lastL s) s.data.toList (.ok ts)) (hlen : ts.length ≤ s.size + 1) (h : PL srcL ts (.ok (a, ts'))) : BlG (lastL s) a ∧ SmA a := by
  have hsz : s.data.toList.length = s.size := by rw [← Lib.size_eq]
  have hsm := lex_small hl (by omega) ts rfl
  have hri := (hl.rising rfl).mem
  have hE : EnvR (lastL s) ts := ⟨fun t ht => ⟨by
    have := hri t ht
    have e : lastL s - (nl s.data.toList : Int) = 1 := by unfold lastL; omega
    rw [e] at this
    exact this, (hsm t ht).2⟩, by omega⟩
  have hT : TS ts := ⟨fun t ht => (hsm t ht).1, by omega⟩
  refine ⟨read_good h hE, ?_⟩
  obtain ⟨t, ts0, la, u, us, rfl, _, _, rfl, h2⟩ := src_inv h
  exact sm_nd ((PL.small (n := .sts []) h2 hT).2.2 smL_nil)
theorem sm_tree {s : ByteArray} {T : List Nd} {a : Ast} {p : Nat} (hT : T.length ≤ 16384) (h : Lies [] T [a] [(p : Int)]) (hs : s.size ≤ 4800) (hg : BlG (lastL s) a) (hm : SmA a) : Sm T := by
  have h1 := h.every (Q := SmN) (fun x ks hx => hx) (every_sm a hm)
  have h2 := h.every (Q := LnN (lastL s)) (fun x ks hx => hx) (every_ln a hg.1.1 hg.1.2)
  have hM : lastL s ≤ 5000 := by
    have := nl_le s.data.toList
    have hsz : s.data.toList.length = s.size := by rw [← Lib.size_eq]
    unfold lastL
    omega
  refine ⟨hT, fun x hx => ?_, fun x hx => ⟨(h1 x hx).2.2.2.2.1, (h1 x hx).2.2.2.2.2⟩, fun x hx => ⟨(h1 x hx).1, (h1 x hx).2.1⟩, fun x hx => by have := (h1 x hx).2.2.1; omega, fun x hx => ?_⟩
  · have := h2 x hx
    exact ⟨by have := this.1; omega, by have := this.2; omega⟩
  · exact (h1 x hx).2.2.2.1
def Said (s : ByteArray) (q : List UInt8 × Int × Int) : Prop := ∃ o, LexR (lastL s) s.data.toList o ∧ match o with
  | .error n => q = ([], 5, n)
  | .ok ts => ts.length ≤ s.size + 1 ∧ ∃ r, PL srcL ts r ∧ match r with
    | .error l => q = ([], 6, l)
    | .ok (a, _) => (100 < a.depth ∧ q = ([], 7, 1)) ∨ (a.depth ≤ 100 ∧ BlG (lastL s) a ∧ q = (Ast.text hdK a, 0, 0))
theorem print_no_tree (w : World) (hT : TabR w) : Calls Tryz.prog 13 #[noTree] w fun e w' => e = .returned (.string ⟨#[]⟩) ∧ Below w.heap.size w w' := by
  have h := print_any noTree [] 0 w ⟨.slice none 0 0, rfl, none, 0, rfl, Nat.le_refl _, .inl rfl⟩ ⟨by decide, fun x hx => by simp at hx, fun x hx => by simp at hx, fun x hx => by simp at hx, fun x hx => by simp at hx, fun x hx => by simp at hx⟩ hT
  rw [show printK [] 0 = [] from by decide +kernel] at h
  exact h
theorem print_read {s : ByteArray} {v : Value} {T : List Nd} {a : Ast} {p : Nat} (w : World) (hT : TabR w) (hv : TreeV w v T (p : Int)) (hl : Lies [] T [a] [(p : Int)]) (hN : T.length ≤ 16384) (hs : s.size ≤ 4800) (hg : BlG (lastL s) a) (hm : SmA a) (hd : a.depth ≤ 100) :
    Calls Tryz.prog 13 #[v] w fun e w' => e = .returned (.string ⟨(Ast.text hdK a).toArray⟩) ∧ Below w.heap.size w w' := by
  have h := print_any v T (p : Int) w hv (sm_tree hN hl hs hg hm) hT
  obtain ⟨js, r1, r2, r3, _⟩ := hl.alone
  have e : printK T (p : Int) = Ast.text hdK a := by
    unfold printK
    rw [print_rep fieldsK_kids hdK_kids r1 r2 r3 hN, if_pos]
    rw [hg.1.1, decide_eq_true hd, decide_eq_true hg.2]
    rfl
  rw [e] at h
  exact h
theorem read_short {s : ByteArray} {T : List Nd} {a : Ast} {p : Nat} (hl : Lies [] T [a] [(p : Int)]) (hN : T.length ≤ 16384) (hs : s.size ≤ 4800) (hg : BlG (lastL s) a) (hm : SmA a) (hd : a.depth ≤ 100) : (Ast.text hdK a).length ≤ 140000000000000 := by
  have hS := sm_tree hN hl hs hg hm
  obtain ⟨js, r1, r2, r3, _⟩ := hl.alone
  have h := right_rep fieldsK_kids r1 r2 r3 hN (ko := koK) (so := soK)
  have hr : rightK T (p : Int) = true := by
    unfold rightK
    rw [h, hg.1.1, decide_eq_true hd, decide_eq_true hg.2]
    rfl
  have h1 := text_bound hS hr
  rw [Int.toNat_natCast] at h1
  have q1 := Ast.depth_le a
  have q2 := Rep.len a p js r1
  rw [Rep.text_ hdK_kids a p js r1 _ (by omega)] at h1
  exact h1
theorem boxed2 (w : World) (a b : Value) : (w.alloc (.cells #[a, b] 25)).cell? ⟨w.heap.size, 0, none⟩ = some a ∧ (w.alloc (.cells #[a, b] 25)).cell? ⟨w.heap.size, 1, none⟩ = some b := ⟨acell w _ 25 0, acell w _ 25 1⟩
set_option maxHeartbeats 4000000 in
theorem said_b (s : ByteArray) (w : World) (hs : s.size ≤ 4800) (hE : EnvL w) (hT : TabR w) : Calls Tryz.prog 11 #[.string s] w fun e w' => Below w.heap.size w w' ∧ ∃ q, Said s q ∧ q.1.length ≤ 140000000000000 ∧ e = .returned (.tuple #[.string ⟨q.1.toArray⟩, .int .i64 q.2.1, .int .i64 q.2.2]) := by
  have HP := Lib.hid (parse_p s w (by omega) hE)
  have HE := Lib.hid hE
  have HTb := Lib.hid hT
  have HS := Lib.hid hs
  clear hE hT hs
  go_enter Tryz.func11, Tryz.ntmps11
  go_wp2_with fail
  refine HP.out.mono ?_; rintro e w1 ⟨b1, o, ho, h1⟩
  have bad : ∀ (v : Value) (n k : Int), FltE w1 v n k → (∀ W, EnvL W → FltE W v n k → Calls Tryz.prog 10 #[v] W fun e w' => e = .returned (.tuple #[.int .i64 k, .int .i64 n]) ∧ Below W.heap.size W w') → Hid (∀ W, Below w1.heap.size w1 W → Calls Tryz.prog 10 #[v] W fun e w' => e = .returned (.tuple #[.int .i64 k, .int .i64 n]) ∧ Below W.heap.size W w') := fun v n k hf ht => Lib.hid fun W hW => by
    obtain ⟨g, e1, e2⟩ := hf
    exact ht W (HE.out.below (thenBR b1 hW)) ⟨g, e1, (hW.block g (Array.getElem?_eq_some_iff.1 e2).1).trans e2⟩
  have B1 := Lib.hid b1
  cases o with
  | error n =>
    obtain ⟨v, rfl, hf⟩ := h1
    have HB := bad v n 5 hf fun W hW hF => told_any v n W hW hF
    obtain ⟨g, rfl, _⟩ := hf
    have HQ : Hid (Said s ([], 5, n)) := Lib.hid ⟨.error n, ho, rfl⟩
    clear bad ho b1
    unfold noTree
    go_wp2_with fail
    refine (HB.out _ (allocB w1 _)).mono ?_; rintro e w2 ⟨rfl, b2⟩
    have B2 := Lib.hid (thenBR B1.out (thenBR (allocB w1 _) b2))
    have hx := boxed2 w1 (.slice none 0 0) (.int .i64 0)
    have e0 := (b2.cell (p := ⟨w1.heap.size, 0, none⟩) (by simp)).trans hx.1
    have e1 := (b2.cell (p := ⟨w1.heap.size, 1, none⟩) (by simp)).trans hx.2
    have HPr := Lib.hid (print_no_tree w2 (HTb.out.below B2.out))
    unfold noTree at HPr
    clear b2 hx HB
    go_wp2_with fail
    refine HPr.out.mono ?_; rintro e w3 ⟨rfl, b3⟩
    have B3 := Lib.hid (thenBR B2.out b3)
    clear b3
    go_wp2_with fail
    exact bodyPost_ret (v := .tuple #[.string ⟨#[]⟩, .int .i64 5, .int .i64 n]) (by simp [results, Tryz.results11, go_sem]) rfl ⟨B3.out, _, HQ.out, Nat.zero_le _, rfl⟩
  | ok ts =>
    obtain ⟨hlen, q, hq, h2⟩ := h1
    cases q with
    | error l =>
      obtain ⟨v, rfl, hf⟩ := h2
      have HB := bad v l 6 hf fun W hW hF => told_6 v l W hW hF
      obtain ⟨g, rfl, _⟩ := hf
      have HQ : Hid (Said s ([], 6, l)) := Lib.hid ⟨.ok ts, ho, hlen, .error l, hq, rfl⟩
      clear bad ho b1 hq
      unfold noTree
      go_wp2_with fail
      refine (HB.out _ (allocB w1 _)).mono ?_; rintro e w2 ⟨rfl, b2⟩
      have B2 := Lib.hid (thenBR B1.out (thenBR (allocB w1 _) b2))
      have hx := boxed2 w1 (.slice none 0 0) (.int .i64 0)
      have e0 := (b2.cell (p := ⟨w1.heap.size, 0, none⟩) (by simp)).trans hx.1
      have e1 := (b2.cell (p := ⟨w1.heap.size, 1, none⟩) (by simp)).trans hx.2
      have HPr := Lib.hid (print_no_tree w2 (HTb.out.below B2.out))
      unfold noTree at HPr
      clear b2 hx HB
      go_wp2_with fail
      refine HPr.out.mono ?_; rintro e w3 ⟨rfl, b3⟩
      have B3 := Lib.hid (thenBR B2.out b3)
      clear b3
      go_wp2_with fail
      exact bodyPost_ret (v := .tuple #[.string ⟨#[]⟩, .int .i64 6, .int .i64 l]) (by simp [results, Tryz.results11, go_sem]) rfl ⟨B3.out, _, HQ.out, Nat.zero_le _, rfl⟩
    | ok z =>
      obtain ⟨a, ts'⟩ := z
      obtain ⟨hg, hm⟩ := read_all HS.out ho hlen hq
      rcases h2 with ⟨hd, v, rfl, hf⟩ | ⟨hd, v, T, p, rfl, hv, hl⟩
      · have HB := bad v 1 7 hf fun W hW hF => told_7 v 1 W hW hF
        obtain ⟨g, rfl, _⟩ := hf
        have HQ : Hid (Said s ([], 7, 1)) := Lib.hid ⟨.ok ts, ho, hlen, .ok (a, ts'), hq, .inl ⟨hd, rfl⟩⟩
        clear bad ho b1 hq hg hm
        unfold noTree
        go_wp2_with fail
        refine (HB.out _ (allocB w1 _)).mono ?_; rintro e w2 ⟨rfl, b2⟩
        have B2 := Lib.hid (thenBR B1.out (thenBR (allocB w1 _) b2))
        have hx := boxed2 w1 (.slice none 0 0) (.int .i64 0)
        have e0 := (b2.cell (p := ⟨w1.heap.size, 0, none⟩) (by simp)).trans hx.1
        have e1 := (b2.cell (p := ⟨w1.heap.size, 1, none⟩) (by simp)).trans hx.2
        have HPr := Lib.hid (print_no_tree w2 (HTb.out.below B2.out))
        unfold noTree at HPr
        clear b2 hx HB
        go_wp2_with fail
        refine HPr.out.mono ?_; rintro e w3 ⟨rfl, b3⟩
        have B3 := Lib.hid (thenBR B2.out b3)
        clear b3
        go_wp2_with fail
        exact bodyPost_ret (v := .tuple #[.string ⟨#[]⟩, .int .i64 7, .int .i64 1]) (by simp [results, Tryz.results11, go_sem]) rfl ⟨B3.out, _, HQ.out, Nat.zero_le _, rfl⟩
      · have HQ : Hid (Said s (Ast.text hdK a, 0, 0)) := Lib.hid ⟨.ok ts, ho, hlen, .ok (a, ts'), hq, .inr ⟨hd, hg, rfl⟩⟩
        have hN : T.length ≤ 16384 := by
          have h1 := hl.len
          have h2 := src_size hq
          rw [sz1] at h1
          have := HS.out
          simp at h1
          omega
        have HPr := Lib.hid (fun W (hW : TabR W) (hV : TreeV W v T (p : Int)) => print_read W hW hV hl hN HS.out hg hm hd)
        have HV := Lib.hid (fun W (hW : Below w1.heap.size w1 W) => hv.below hW)
        obtain ⟨nv, rfl, A, c, rfl, _⟩ := hv
        have HLN := Lib.hid (read_short hl hN HS.out hg hm hd)
        generalize Ast.text hdK a = X at *
        clear bad ho b1 hq hg hm hd hl hN
        go_wp2_with fail
        refine (told_nil _).mono ?_; rintro e w2 ⟨rfl, rfl⟩
        have hx := boxed2 w1 (.slice A T.length c) (.int .i64 (p : Int))
        have e0 := hx.1
        have e1 := hx.2
        have HP2 := Lib.hid (HPr.out (w1.alloc (.cells #[.slice A T.length c, .int .i64 (p : Int)] 25)) (HTb.out.below (thenBR B1.out (allocB w1 _))) (HV.out _ (allocB w1 _)))
        clear hx
        go_wp2_with fail
        refine HP2.out.mono ?_; rintro e w3 ⟨rfl, b3⟩
        have B3 := Lib.hid (thenBR B1.out (thenBR (allocB w1 _) b3))
        clear b3
        go_wp2_with fail
        exact bodyPost_ret (v := .tuple #[.string ⟨X.toArray⟩, .int .i64 0, .int .i64 0]) (by simp [results, Tryz.results11, go_sem]) rfl ⟨B3.out, _, HQ.out, HLN.out, rfl⟩
theorem said_p (s : ByteArray) (w : World) (hs : s.size ≤ 4800) (hE : EnvL w) (hT : TabR w) : Calls Tryz.prog 11 #[.string s] w fun e w' => Below w.heap.size w w' ∧ ∃ q, Said s q ∧ e = .returned (.tuple #[.string ⟨q.1.toArray⟩, .int .i64 q.2.1, .int .i64 q.2.2]) :=
  (said_b s w hs hE hT).mono fun _ _ ⟨hb, q, h1, _, h2⟩ => ⟨hb, q, h1, h2⟩
end Go.Proofs.YtfpeecjafccfjaaGreatDoor
namespace Go.Proofs.YtfpeecjafccfjaaGreatDoor
section
variable {N : Type} {V : N → Type} (body : ∀ n, G N V (V n))
def run : Nat → {α : Type} → G N V α → List TkP → Option (Except Int (α × List TkP))
  | 0, _, _, _ => none
  | _ + 1, _, .ret a, ts => some (.ok (a, ts))
  | _ + 1, _, .bad, [] => none
  | _ + 1, _, .bad, t :: _ => some (.error t.2.1)
  | _ + 1, _, .tok _, [] => none
  | n + 1, _, .tok f, t :: ts => run n (f t) ts
  | _ + 1, _, .look _, [] => none
  | n + 1, _, .look f, t :: ts => run n (f t) (t :: ts)
  | n + 1, _, .call m k, ts => match run n (body m) ts with
    | none => none
    | some (.error e) => some (.error e)
    | some (.ok p) => run n (k p.1) p.2
variable {body}
theorem run_sound : ∀ (n : Nat) {α : Type} (g : G N V α) (ts : List TkP) (r : Except Int (α × List TkP)), run body n g ts = some r → P body g ts r := by
  intro n
  induction n with
  | zero => intro α g ts r h; cases h
  | succ n ih =>
    intro α g ts r h
    cases g with
    | ret a =>
      rw [run] at h
      rw [← Option.some.inj h]
      exact .ret
    | bad =>
      cases ts with
      | nil => rw [run] at h; cases h
      | cons t ts =>
        rw [run] at h
        rw [← Option.some.inj h]
        exact .bad
    | tok f =>
      cases ts with
      | nil => rw [run] at h; cases h
      | cons t ts => rw [run] at h; exact .tok (ih _ _ _ h)
    | look f =>
      cases ts with
      | nil => rw [run] at h; cases h
      | cons t ts => rw [run] at h; exact .look (ih _ _ _ h)
    | call m k =>
      rw [run] at h
      cases e : run body n (body m) ts with
      | none => rw [e] at h; cases h
      | some q =>
        rw [e] at h
        cases q with
        | error x =>
          rw [← Option.some.inj h]
          exact .callBad (ih _ _ _ e)
        | ok p => exact .call (ih _ _ (.ok (p.1, p.2)) e) (ih _ _ _ h)
end
def nameT (s : List UInt8) : TkP := (1, 1, 0, s)
def wordT (s : List UInt8) : TkP := (2, 1, 0, s)
end Go.Proofs.YtfpeecjafccfjaaGreatDoor
namespace Go.Proofs.YtfpeecjafccfjaaGreatDoor
open Go.RowKit
def sayF (s : ByteArray) : Option (List UInt8 × Int × Int) :=
  match lxF (lastL s) (s.data.toList.length + 1) s.data.toList with
  | none => none
  | some ts => match run bodyL 300 srcL ts with
    | none => none
    | some (.error l) => some ([], 6, l)
    | some (.ok (a, _)) => if 100 < a.depth then none else some (Ast.text hdK a, 0, 0)
theorem sayF_sound {s : ByteArray} {q q' : List UInt8 × Int × Int} (h : sayF s = some q) (h' : Said s q') : q' = q := by
  unfold sayF at h
  cases h1 : lxF (lastL s) (s.data.toList.length + 1) s.data.toList with
  | none => rw [h1] at h; cases h
  | some ts =>
    rw [h1] at h
    dsimp only at h
    obtain ⟨o, ho, hq⟩ := h'
    have e := ho.det (lxF_sound _ _ _ h1)
    subst e
    obtain ⟨_, r, hr, hq⟩ := hq
    cases h2 : run bodyL 300 srcL ts with
    | none => rw [h2] at h; cases h
    | some x =>
      have e := hr.one (run_sound _ _ _ _ h2)
      subst e
      rw [h2] at h
      cases r with
      | error l =>
        injection h with h
        rw [← h]
        exact hq
      | ok z =>
        obtain ⟨a, ts'⟩ := z
        dsimp only at h hq
        by_cases h3 : 100 < a.depth
        · rw [if_pos h3] at h; cases h
        · rw [if_neg h3] at h
          injection h with h
          rcases hq with ⟨h4, _⟩ | ⟨_, _, h4⟩
          · exact absurd h4 h3
          · rw [h4, h]
theorem say1 : sayF ⟨#[120, 32, 61, 32, 49, 32, 43, 32, 50, 32, 42, 32, 51]⟩ = some ([40, 98, 108, 111, 99, 107, 64, 49, 32, 40, 97, 115, 115, 105, 103, 110, 64, 49, 32, 49, 32, 40, 110, 97, 109, 101, 64, 49, 32, 34, 120, 34, 41, 32, 40, 98, 105, 110, 97, 114, 121, 64, 49, 32, 49, 32, 40, 105, 110, 116, 64, 49, 32, 49, 41, 32, 40, 98, 105, 110, 97, 114, 121, 64, 49, 32, 51, 32, 40, 105, 110, 116, 64, 49, 32, 50, 41, 32, 40, 105, 110, 116, 64, 49, 32, 51, 41, 41, 41, 41, 41], 0, 0) := by decide +kernel
theorem say2 : sayF ⟨#[120, 10]⟩ = some ([], 6, 2) := by decide +kernel
theorem say3 : sayF ⟨#[120, 32, 61, 32]⟩ = some ([], 6, 1) := by decide +kernel
theorem say4 : sayF ⟨#[102, 40, 41, 32, 61, 32, 49]⟩ = some ([], 6, 1) := by decide +kernel
theorem told_is {s : ByteArray} {q : List UInt8 × Int × Int} (h : sayF s = some q) (w : World) (hs : s.size ≤ 4800) (hE : EnvL w) (hT : TabR w) : Calls Tryz.prog 11 #[.string s] w fun e w' => e = .returned (.tuple #[.string ⟨q.1.toArray⟩, .int .i64 q.2.1, .int .i64 q.2.2]) ∧ Below w.heap.size w w' :=
  (said_p s w hs hE hT).mono fun e w' ⟨h1, q', h2, h3⟩ => by
    rw [sayF_sound h h2] at h3
    exact ⟨h3, h1⟩
set_option maxHeartbeats 4000000 in
set_option maxRecDepth 100000 in
theorem alive_p (w : World) (hE : EnvL w) (hT : TabR w) : Calls Tryz.prog 8 #[] w fun e w' => e = .returned (.bool true) ∧ Below w.heap.size w w' := by
  have L1 := Lib.hid (fun W (b : Below w.heap.size w W) => told_is say1 W (by decide) (hE.below b) (hT.below b))
  have L2 := Lib.hid (fun W (b : Below w.heap.size w W) => told_is say2 W (by decide) (hE.below b) (hT.below b))
  have L3 := Lib.hid (fun W (b : Below w.heap.size w W) => told_is say3 W (by decide) (hE.below b) (hT.below b))
  have L4 := Lib.hid (fun W (b : Below w.heap.size w W) => told_is say4 W (by decide) (hE.below b) (hT.below b))
  clear hE hT
  go_enter Tryz.func8, Tryz.ntmps8
  go_wp2_with fail
  refine (L1.out _ (Below.refl ..)).mono ?_; rintro e w1 ⟨rfl, b1⟩
  have B1 := Lib.hid b1
  clear b1
  go_wp2_with fail
  refine (L2.out _ B1.out).mono ?_; rintro e w2 ⟨rfl, b2⟩
  have B2 := Lib.hid (thenBR B1.out b2)
  clear b2
  go_wp2_with fail
  refine (L3.out _ B2.out).mono ?_; rintro e w3 ⟨rfl, b3⟩
  have B3 := Lib.hid (thenBR B2.out b3)
  clear b3
  go_wp2_with fail
  refine (L4.out _ B3.out).mono ?_; rintro e w4 ⟨rfl, b4⟩
  have B4 := Lib.hid (thenBR B3.out b4)
  clear b4
  go_wp2_with fail
  go_ret
  exact ⟨rfl, B4.out⟩
end Go.Proofs.YtfpeecjafccfjaaGreatDoor
namespace Go.Proofs.YtfpeecjafccfjaaGreatDoor
open Go.RowKit
theorem src_fin {L : Int} {l : List UInt8} {ts ts' : List Tk} {a : Ast} (hL : (nl l : Int) < L) (h : LexR L l (.ok ts)) (hP : PL srcL ts (.ok (a, ts'))) : ∃ T, ts = T ++ [eofL L] ∧ ts' = [eofL L] := by
  obtain ⟨T, e, _⟩ := h.app rfl
  obtain ⟨t, ts0, la, u, us, rfl, rfl, hu, _, h2⟩ := src_inv hP
  have hw := PL.wf (n := .sts []) h2 (lex_wf h hL _ rfl)
  obtain ⟨vs, x, e1, e2, e3⟩ := hw.fin
  obtain ⟨c, hc⟩ := h2.tail _ _ rfl
  have hvs : vs = [] := by
    cases vs with
    | nil => rfl
    | cons v vs =>
      injection e1 with e1 _
      exact absurd hu (by rw [e1]; exact e3 v (List.mem_cons_self ..))
  subst hvs
  rw [List.nil_append] at e1
  refine ⟨T, e, ?_⟩
  rw [e1] at hc ⊢
  rw [e] at hc
  have h3 := congrArg List.getLast? hc
  simp only [List.getLast?_append, List.getLast?_singleton, Option.some_or] at h3
  injection h3 with h3
  rw [← h3]
  rfl
end Go.Proofs.YtfpeecjafccfjaaGreatDoor
namespace Go.Proofs.YtfpeecjafccfjaaGreatDoor
open Go.RowKit
theorem nl_append (a b : ByteArray) : (a ++ b).data.toList = a.data.toList ++ b.data.toList := by rw [ByteArray.data_append]; simp
end Go.Proofs.YtfpeecjafccfjaaGreatDoor
namespace Go.Proofs.YtfpeecjafccfjaaGreatDoor
open Go.ChangeShapes Go.WideShapes Go.ChangeAt Go.WideMaps Go.WideElems Go.RowKit Go.ChangeMaps
theorem own : ownKnob Tryz.prog.godebug = Option.none := by kernel_rfl
theorem laidOut : laidOutB Tryz.prog = true := by kernel_rfl
abbrev laid6 : List (String × DataW Unit) := [("math/bits.deBruijn32tab", Rows.laid_math_bits_deBruijn32tab), ("math/bits.deBruijn64tab", Rows.laid_math_bits_deBruijn64tab), ("internal/strconv.uint64pow10", Rows.laid_internal_strconv_uint64pow10), ("unicode/utf8.acceptRanges", Rows.laid_unicode_utf8_acceptRanges), ("errors.errorType", Rows.laid_errors_errorType), ("unicode/utf8.first", Rows.laid_unicode_utf8_first)]
abbrev plain6 : List (String × DataW Unit) := [("math/bits.deBruijn32tab", Rows.laid_math_bits_deBruijn32tab), ("math/bits.deBruijn64tab", Rows.laid_math_bits_deBruijn64tab), ("internal/strconv.uint64pow10", Rows.laid_internal_strconv_uint64pow10), ("unicode/utf8.acceptRanges", Rows.laid_unicode_utf8_acceptRanges), ("unicode/utf8.first", Rows.laid_unicode_utf8_first)]
noncomputable def hand (os : Os) : World :=
  { World.holding Tryz.prog os ⟨#[], #[], []⟩ with heap := (World.holding Tryz.prog os ⟨#[], #[], []⟩).heap.modify 0 fun
      | .cells _ t frozen => .cells #[.iface 135 (.agg #[.pointer (some ⟨7, 27, Option.none⟩)])] t frozen
      | o => o }
noncomputable def door (os : Os) (l : List (String × DataW Unit)) : World := (hand os).layVars Tryz.prog l
theorem door_os (os : Os) (l : List (String × DataW Unit)) : (door os l).os = os := World.layVars_os _ _ _
theorem door_shaped6 (os : Os) : (door os plain6).Shaped Tryz.prog := World.shaped_of_ZipB (by kernel_rfl) (by kernel_rfl)
theorem plain_met (os : Os) (l : List (String × DataW Unit)) (hf : (hand os).layFits Tryz.prog l [] = true) (hi : (hand os).layIfaces Tryz.prog l (door os l) = true) : laidMet Tryz.prog l (door os l) := by
  have e1 : (l.filter fun x => (l.map (·.1)).contains x.1) = l := List.filter_eq_self.2 fun x hx => List.contains_iff_mem.2 (List.mem_map.2 ⟨x, hx, rfl⟩)
  have e2 : (l.filter fun x => !(l.map (·.1)).contains x.1) = [] := List.filter_eq_nil_iff.2 fun x hx => by rw [List.contains_iff_mem.2 (List.mem_map.2 ⟨x, hx, rfl⟩)]; simp
  exact laidMet_layVars (w0 := hand os) (l.map (·.1)) [] (by rw [e1]; rfl) (by rw [e1]; exact hf) (by rw [e1]; exact hi) (by rw [e2]; exact LaidIn.none)
theorem door_met6 (os : Os) (args : Array Value) : laidMetH Tryz.prog laid6 ((door os plain6).forCall (fun _ _ => 0) ⟨#[], args, []⟩).memory := by
  have h : laidMetH Tryz.prog laid6 (door os plain6) := laidMetH_of_parts (plain_met os plain6 (by kernel_rfl) (by kernel_rfl)) (by kernel_rfl)
  exact h.of_heap (by simp [World.memory, World.forCall, Input.heap])
theorem mx_of {W : World} (h : W.ShapedOpen Tryz.prog) : Mx W := Go.Proofs.cell_of_shapedOpen_int (zero := #[.int .i64 0]) (t := 3) h (of_decide_eq_true (by kernel_rfl)) (by kernel_rfl) rfl (by kernel_rfl) (by kernel_rfl) Tryz.underlying3
theorem big_of {W : World} (h : W.ShapedOpen Tryz.prog) : 7 ≤ W.heap.size := by
  have k : (((begin Tryz.prog (fun _ _ => 0) default).world.heap[6]?).bind Obj.row?).isSome = true := by kernel_rfl
  obtain ⟨⟨zero, t⟩, hz⟩ := Option.isSome_iff_exists.1 k
  obtain ⟨cs, hc, _⟩ := h.1 6 zero t (of_decide_eq_true (by kernel_rfl)) hz
  have := (Array.getElem?_eq_some_iff.1 hc).1
  omega
theorem Tryz.et : Tryz.prog.globalNamed "errors.errorType" = some 0 := by kernel_rfl
theorem Tryz.rt : (Tryz.prog.cutTypes.find? (·.1 == "internal/reflectlite.rtype")).map (·.2) = some 135 := by kernel_rfl
theorem Tryz.tsize : Tryz.prog.types.size = 268 := by kernel_rfl
theorem Tryz.oneRow : ((List.range 268).filter fun t => Tryz.prog.rowNamed t [101, 114, 114, 111, 114]) = [27] := by kernel_rfl
theorem handle_cell {W : World} (h : handlesMet Tryz.prog [("errors.errorType", Rows.laid_errors_errorType)] W) : W.cell? ⟨0, 0, Option.none⟩ = some (.iface 135 (.agg #[.pointer (some ⟨7, 27, Option.none⟩)])) := by
  obtain ⟨name, u, ty, e1, e2, e3, e4, e5⟩ := h _ (List.mem_singleton.2 rfl)
  have en : name = [101, 114, 114, 111, 114] := (Option.some.inj e1).symm
  subst en
  obtain rfl := Option.some.inj (Tryz.rt.symm.trans e2)
  have hm : ty ∈ (List.range 268).filter fun t => Tryz.prog.rowNamed t [101, 114, 114, 111, 114] := List.mem_filter.2 ⟨List.mem_range.2 (by rw [← Tryz.tsize]; exact e3), e4⟩
  rw [Tryz.oneRow] at hm
  obtain rfl := List.mem_singleton.1 hm
  have hh : typeHandle Tryz.prog 27 = .pointer (some ⟨7, 27, Option.none⟩) := by kernel_rfl
  rw [hh] at e5
  simpa using World.var?_cell Tryz.et e5 0
theorem env6 {W : World} (hs : W.ShapedOpen Tryz.prog) (h : laidMetH Tryz.prog laid6 W) : EnvL W := by
  have h' : laidMet Tryz.prog plain6 W ∧ handlesMet Tryz.prog [("errors.errorType", Rows.laid_errors_errorType)] W := h
  exact ⟨mx_of hs, handle_cell h'.2, big_of hs⟩
theorem handed {H : Type} {enc : TypeId × Value → H} {C : Checked} {os : Os} {f : FuncId} {fn : Func} {s : ChangeSpec} {X : World → Array Value → Prop}
    (hX : ∀ (w w' : World) (args : Array Value), w.heap = w'.heap → X w args → X w' args) (own : ownKnob C.prog.godebug = Option.none) (started : os.Started) (noInit : C.prog.inits.idxOf? f = Option.none) (hfn : C.prog.funcs[f]? = some fn)
    (witness : ∃ (w : World) (tape : Tape) (i : Input), w.os = os ∧ (w.forCall tape i).Shaped C.prog ∧ i.vars = [] ∧ Input.okWide C.prog (w.forCall tape i) .any w.heap.size f i ∧
      ((s.pre enc C.prog fn [] false (w.forCall tape i).memory i.args ∧ X (w.forCall tape i).memory i.args) ∧ sizedMet enc C.prog fn (OpenSpec.ofChange s) false (w.forCall tape i).memory i.args) ∧ ({} : Assume).holds C.prog (lone (Frame.enter C.prog f i.args .normal) [] (w.forCall tape i)))
    (contract : ∀ (W : World) (base : Nat) (args : Array Value) (ds gs : List (DataW H)) (before : List MemPlace),
      (∀ (j : Nat) t v, fn.params[j]? = some t → args[j]? = some v → Value.okWide C.prog W .any base t v) →
      DataW.Whole enc C.prog fn.params.toList s.vars false W args.toList ds gs before → X W args → W.ShapedOpen C.prog →
      Calls C.prog f args W fun e W' => ∃ v, e = .returned v ∧ s.post enc C.prog fn false true false false W args v W') :
    ReturnsInHanded {} C os f .any (fun w args => (s.pre enc C.prog fn [] false w args ∧ X w args) ∧ sizedMet enc C.prog fn (OpenSpec.ofChange s) false w args) (s.post enc C.prog fn false true false false) := by
  refine returnsInHanded_of_calls own started noInit witness ?_
  intro w tape i _ hsh _ hok hpre _
  obtain ⟨_, _, _, fn', hfn', _, _, _, _, hval⟩ := hok
  obtain rfl : fn' = fn := Option.some.inj (hfn'.symm.trans hfn)
  obtain ⟨⟨⟨ds, gs, before, hw, _⟩, hx⟩, _⟩ := hpre
  have hw' := DataW.Whole.of_heap (w' := w.forCall tape i) (by rfl) hw
  refine (contract (w.forCall tape i) w.heap.size i.args ds gs before hval hw' (hX _ _ _ (by rfl) hx) hsh).mono fun e W' ⟨v, he, hp⟩ => ?_
  subst he
  exact ChangeSpec.post_blind hp
theorem pow10_data : (Rows.laid_internal_strconv_uint64pow10 : DataW Unit) = Lib.tabData .u64 Lib.pow10Tab := by kernel_rfl
theorem tab_of {W : World} (h : laidMetH Tryz.prog laid6 W) : TabR W := by
  have h' : laidMet Tryz.prog plain6 W ∧ handlesMet Tryz.prog [("errors.errorType", Rows.laid_errors_errorType)] W := h
  have h3 := h'.1.tail.tail
  rw [pow10_data] at h3
  exact Lib.tabIs_of_head (g := 2) (by kernel_rfl) (by kernel_rfl) (t := 212) (e := 159) (n := 20) (by kernel_rfl) (by kernel_rfl) (by kernel_rfl) (by kernel_rfl) h3
end Go.Proofs.YtfpeecjafccfjaaGreatDoor
namespace Go.Proofs.YtfpeecjafccfjaaGreatDoor
def Calm (l : List UInt8) : Prop := (45 : UInt8) ∉ l ∧ (91 : UInt8) ∉ l
theorem Calm.suffix {l r : List UInt8} (h : Calm l) (hs : r <:+ l) : Calm r := ⟨fun hm => h.1 (hs.subset hm), fun hm => h.2 (hs.subset hm)⟩
theorem twb {p : UInt8 → Bool} (h : p 32 = false) (l x : List UInt8) : (l ++ 32 :: x).takeWhile p = l.takeWhile p := by
  induction l with
  | nil => simp [h]
  | cons a t ih => cases e : p a <;> simp [e, ih]
theorem dwb {p : UInt8 → Bool} (h : p 32 = false) (l x : List UInt8) : (l ++ 32 :: x).dropWhile p = l.dropWhile p ++ 32 :: x := by
  induction l with
  | nil => simp [h]
  | cons a t ih => cases e : p a <;> simp [e, ih]
theorem pre_noB {c : UInt8} {p r : List UInt8} (h : c ∉ r) (hr : r ≠ []) (x : List UInt8) : Lib.hasPrefix (r ++ x) (c :: p) = false := by
  cases r with
  | nil => exact absurd rfl hr
  | cons a t =>
    have ha : (c == a) = false := by
      rw [beq_eq_false_iff_ne]
      exact fun e => h (by rw [e]; exact List.mem_cons_self ..)
    unfold Lib.hasPrefix
    rw [List.cons_append, List.isPrefixOf, ha, Bool.false_and]
theorem pre_head {r : List UInt8} (hr : r ≠ []) (h : (45 : UInt8) ∉ r) (x : List UInt8) : Lib.hasPrefix (r ++ x) [45, 45] = false := pre_noB h hr x
theorem Skip.calm {l r : List UInt8} (h : Skip l (.ok r)) (hc : Calm l) : l.dropWhile blB = r := by
  generalize ho : Except.ok r = o at h
  cases h with
  | done h1 _ => injection ho with ho; rw [ho, h1]
  | more h1 _ _ =>
    exfalso
    refine hc.1 ((List.dropWhile_sublist blB).subset ?_)
    rw [h1]
    exact List.mem_cons_self ..
  | bad _ _ => cases ho
theorem skip_okB {l r : List UInt8} (h : Skip l (.ok r)) (hc : Calm l) (hr : r ≠ []) (x : List UInt8) : Skip (l ++ 32 :: x) (.ok (r ++ 32 :: x)) := by
  have h1 := h.calm hc
  refine .done (dw_more _ h1 hr) (pre_head hr (fun hm => hc.1 ((List.dropWhile_sublist blB).subset (h1 ▸ hm))) _)
theorem skip_endB {l x : List UInt8} {o : Except (List UInt8) (List UInt8)} (h : Skip l (.ok [])) (hc : Calm l) (hx : Skip (32 :: x) o) : Skip (l ++ 32 :: x) o :=
  hx.of_dw (dw_done _ (h.calm hc)).symm
theorem opn_calm {l : List UInt8} (h : (91 : UInt8) ∉ l) (hl : l ≠ []) (x : List UInt8) : ¬ 0 < opn (l ++ x) := by
  unfold opn
  rw [pre_noB h hl x]
  simp
theorem signs_no32 : ∀ s ∈ signs, (32 : UInt8) ∉ s := by decide
theorem sgnB_no32 {s : List UInt8} (h : (32 : UInt8) ∈ s) : sgnB s = false := by
  unfold sgnB
  rw [Bool.eq_false_iff]
  intro hc
  rw [List.contains_iff_mem] at hc
  exact signs_no32 s hc h
theorem sign_appB {l t r : List UInt8} (x : List UInt8) (h : sign l = some (t, r)) (hl : l ≠ []) : sign (l ++ 32 :: x) = some (t, r ++ 32 :: x) := by
  unfold sign at h ⊢
  match l, hl with
  | [a], _ =>
    have e3 : sgnB (([a] ++ 32 :: x).take 3) = false := sgnB_no32 (by simp)
    have e2 : sgnB (([a] ++ 32 :: x).take 2) = false := sgnB_no32 (by simp)
    rw [e3, e2]
    have h' : (if sgnB [a] then some ([a], []) else none) = some (t, r) := by
      revert h
      show (if sgnB [a] = true then some ([a], []) else if sgnB [a] = true then some ([a], []) else if sgnB [a] = true then some ([a], []) else none) = some (t, r) → _
      cases sgnB [a] <;> simp
    cases e : sgnB [a]
    · rw [e] at h'; simp at h'
    · rw [e] at h'
      simp at h'
      obtain ⟨rfl, rfl⟩ := h'
      simp [e]
  | [a, b], _ =>
    have e3 : sgnB (([a, b] ++ 32 :: x).take 3) = false := sgnB_no32 (by simp)
    rw [e3]
    simp only [List.take_succ_cons, List.take_nil, List.drop_succ_cons, List.drop_nil, List.drop_zero, List.take_zero] at h
    simp only [List.cons_append, List.nil_append, List.take_succ_cons, List.take_zero, List.drop_succ_cons, List.drop_zero]
    cases e : sgnB [a, b]
    · rw [e] at h
      cases e1 : sgnB [a]
      · rw [e1] at h; simp at h
      · rw [e1] at h
        simp at h
        simp [← h.1, ← h.2]
    · rw [e] at h
      simp at h
      simp [← h.1, ← h.2]
  | a :: b :: c :: l, _ =>
    simp only [List.cons_append, List.take_succ_cons, List.take_zero, List.drop_succ_cons, List.drop_zero] at h ⊢
    split at h
    · rename_i g; rw [if_pos g]; simp at h ⊢; exact ⟨h.1, by rw [← h.2]⟩
    · rename_i g
      rw [if_neg g]
      split at h
      · rename_i g2; rw [if_pos g2]; simp at h ⊢; exact ⟨h.1, by rw [← h.2]; rfl⟩
      · rename_i g2
        rw [if_neg g2]
        split at h
        · rename_i g3; rw [if_pos g3]; simp at h ⊢; exact ⟨h.1, by rw [← h.2]; rfl⟩
        · cases h
theorem tok_appB {l : List UInt8} {k n : Int} {s r : List UInt8} (h : Tok l (some (k, n, s, r))) (hl : l ≠ []) (hc : (91 : UInt8) ∉ l) (x : List UInt8) : Tok (l ++ 32 :: x) (some (k, n, s, r ++ 32 :: x)) := by
  generalize ho : some (k, n, s, r) = o at h
  cases h with
  | eof => exact absurd rfl hl
  | @name c t h1 =>
    have := Tok.name (c := c) (r := t ++ 32 :: x) h1
    rw [← List.cons_append, twb (by decide), dwb (by decide)] at this
    simp only [Option.some.injEq, Prod.mk.injEq] at ho
    rw [ho.1, ho.2.1, ho.2.2.1, ho.2.2.2]
    exact this
  | @num c t h1 h2 h3 =>
    have := Tok.num (c := c) (r := t ++ 32 :: x) h1 h2 (by rw [← List.cons_append, twb (by decide)]; exact h3)
    rw [← List.cons_append, twb (by decide), dwb (by decide)] at this
    simp only [Option.some.injEq, Prod.mk.injEq] at ho
    rw [ho.1, ho.2.1, ho.2.2.1, ho.2.2.2]
    exact this
  | numBad => cases ho
  | @text c t o' h1 h2 h3 h4 =>
    cases o' with
    | none => cases ho
    | some z =>
      obtain ⟨a, b⟩ := z
      simp only [Option.map_some, Option.some.injEq, Prod.mk.injEq] at ho
      have := Tok.text h1 h2 h3 (h4.app (32 :: x) rfl)
      rw [ho.1, ho.2.1, ho.2.2.1, ho.2.2.2]
      exact this
  | @long c t h1 h2 h3 h4 =>
    have := opn_calm hc (by simp) []
    rw [List.append_nil] at this
    exact absurd h4 this
  | @sign c t h1 h2 h3 h4 =>
    cases e : Go.Proofs.YtfpeecjafccfjaaGreatDoor.sign (c :: t) with
    | none => rw [e] at ho; cases ho
    | some z =>
      obtain ⟨a, b⟩ := z
      rw [e] at ho
      simp only [Option.map_some, Option.some.injEq, Prod.mk.injEq] at ho
      have := Tok.sign (c := c) (r := t ++ 32 :: x) h1 h2 h3 (by rw [← List.cons_append]; exact opn_calm hc (by simp) _)
      rw [← List.cons_append, sign_appB x e (by simp)] at this
      rw [ho.1, ho.2.1, ho.2.2.1, ho.2.2.2]
      exact this
theorem tok_kindB {l : List UInt8} {k n : Int} {s r : List UInt8} (h : Tok l (some (k, n, s, r))) (hl : l ≠ []) : k ≠ 0 := by
  generalize ho : some (k, n, s, r) = o at h
  cases h with
  | eof => exact absurd rfl hl
  | name _ =>
    simp only [Option.some.injEq, Prod.mk.injEq] at ho
    rw [ho.1]
    split <;> decide
  | num _ _ _ =>
    simp only [Option.some.injEq, Prod.mk.injEq] at ho
    rw [ho.1]
    decide
  | numBad => cases ho
  | @text c t o' _ _ _ _ =>
    cases o' with
    | none => cases ho
    | some z =>
      simp only [Option.map_some, Option.some.injEq, Prod.mk.injEq] at ho
      rw [ho.1]
      decide
  | @long c t _ _ _ _ =>
    cases e : brk (c :: t) with
    | none => rw [e] at ho; cases ho
    | some z =>
      rw [e] at ho
      simp only [Option.map_some, Option.some.injEq, Prod.mk.injEq] at ho
      rw [ho.1]
      decide
  | @sign c t _ _ _ _ =>
    cases e : Go.Proofs.YtfpeecjafccfjaaGreatDoor.sign (c :: t) with
    | none => rw [e] at ho; cases ho
    | some z =>
      rw [e] at ho
      simp only [Option.map_some, Option.some.injEq, Prod.mk.injEq] at ho
      rw [ho.1]
      decide
theorem lex_appB {L : Int} {l : List UInt8} {q : Except Int (List Tk)} (h : LexR L l q) : Calm l → ∀ {ts}, q = .ok ts → ∃ T, ts = T ++ [(0, L, 0, [])] ∧ (∀ t ∈ T, t.1 ≠ 0) ∧
    ∀ (x : List UInt8) (o : Except Int (List Tk)), LexR (L + nl (32 :: x)) (32 :: x) o → LexR (L + nl (32 :: x)) (l ++ 32 :: x) (o.map (T ++ ·)) := by
  induction h with
  | skipBad => intro _ ts e; cases e
  | tokBad => intro _ ts e; cases e
  | @eof l h1 =>
    intro hc ts e
    cases e
    refine ⟨[], rfl, fun t ht => by simp at ht, fun x o ho => ?_⟩
    have e : o.map (([] : List Tk) ++ ·) = o := by cases o <;> rfl
    rw [e]
    exact ho.of_skip fun g => skip_endB h1 hc g
  | @step l r r' s k n o' h1 h2 h3 h4 ih =>
    intro hc ts e
    cases o' with
    | error => cases e
    | ok ts' =>
      have hr : Calm r := hc.suffix (h1.suffix rfl)
      obtain ⟨T, hT, hk, hx⟩ := ih (hr.suffix h3.suffix) rfl
      have e' : (k, L - nl r, n, s) :: ts' = ts := by injection e
      refine ⟨(k, L - nl r, n, s) :: T, by rw [← e', hT]; rfl, fun t ht => ?_, fun x o ho => ?_⟩
      · rcases List.mem_cons.1 ht with rfl | ht
        · exact tok_kindB h3 h2
        · exact hk t ht
      · have := LexR.step (L := L + nl (32 :: x)) (skip_okB h1 hc h2 x) (by simp) (tok_appB h3 h2 hr.2 x) (hx x o ho)
        rw [nl_app] at this
        have e2 : L + (nl (32 :: x) : Int) - ((nl r + nl (32 :: x) : Nat) : Int) = L - nl r := by omega
        rw [e2] at this
        cases o <;> exact this
end Go.Proofs.YtfpeecjafccfjaaGreatDoor
namespace Go.Proofs.YtfpeecjafccfjaaGreatDoor
def Still (l : List UInt8) : Prop := Calm l ∧ (39 : UInt8) ∉ l ∧ (34 : UInt8) ∉ l
theorem Still.suffix {l r : List UInt8} (h : Still l) (hs : r <:+ l) : Still r := ⟨h.1.suffix hs, fun hm => h.2.1 (hs.subset hm), fun hm => h.2.2 (hs.subset hm)⟩
theorem quB_no {c : UInt8} (h1 : c ≠ 39) (h2 : c ≠ 34) : quB c = false := by
  unfold quB
  have e1 : ¬ c.toNat = 39 := fun e => h1 (UInt8.toNat_inj.1 e)
  have e2 : ¬ c.toNat = 34 := fun e => h2 (UInt8.toNat_inj.1 e)
  rw [decide_eq_false e1, decide_eq_false e2]
  rfl
theorem Still.head {c : UInt8} {t : List UInt8} (h : Still (c :: t)) : quB c = false := quB_no (fun e => h.2.1 (by rw [e]; exact List.mem_cons_self ..)) (fun e => h.2.2 (by rw [e]; exact List.mem_cons_self ..))
theorem sign_noB {l : List UInt8} (x : List UInt8) (h : sign l = none) (hl : l ≠ []) : sign (l ++ 32 :: x) = none := by
  unfold sign at h ⊢
  match l, hl with
  | [a], _ =>
    have e3 : sgnB (([a] ++ 32 :: x).take 3) = false := sgnB_no32 (by simp)
    have e2 : sgnB (([a] ++ 32 :: x).take 2) = false := sgnB_no32 (by simp)
    rw [e3, e2]
    cases e : sgnB [a] with
    | true =>
      exfalso
      revert h
      show (if sgnB [a] = true then some ([a], []) else if sgnB [a] = true then some ([a], []) else if sgnB [a] = true then some ([a], []) else none) = none → False
      rw [e]
      simp
    | false =>
      show (if sgnB [a] = true then _ else none) = none
      rw [e]
      rfl
  | [a, b], _ =>
    have e3 : sgnB (([a, b] ++ 32 :: x).take 3) = false := sgnB_no32 (by simp)
    rw [e3]
    simp only [List.take_succ_cons, List.take_nil, List.drop_succ_cons, List.drop_nil, List.drop_zero, List.take_zero] at h
    simp only [List.cons_append, List.nil_append, List.take_succ_cons, List.take_zero, List.drop_succ_cons, List.drop_zero]
    cases e : sgnB [a, b]
    · rw [e] at h
      cases e1 : sgnB [a]
      · rfl
      · rw [e1] at h; simp at h
    · rw [e] at h; simp at h
  | a :: b :: c :: l, _ =>
    simp only [List.cons_append, List.take_succ_cons, List.take_zero, List.drop_succ_cons, List.drop_zero] at h ⊢
    split at h
    · cases h
    · rename_i g
      rw [if_neg g]
      split at h
      · cases h
      · rename_i g2
        rw [if_neg g2]
        split at h
        · cases h
        · rename_i g3
          rw [if_neg g3]
end Go.Proofs.YtfpeecjafccfjaaGreatDoor
namespace Go.Proofs.YtfpeecjafccfjaaGreatDoor
theorem Quo.ends {q : UInt8} {l : List UInt8} {o : Option (List UInt8 × List UInt8)} (h : Quo q l o) : ∀ {s r}, o = some (s, r) → ∃ p, l = p ++ q :: r := by
  induction h with
  | shut => intro s r e; cases e; exact ⟨[], rfl⟩
  | none => intro s r e; cases e
  | line => intro s r e; cases e
  | @esc r1 m r' o' h1 h2 h3 ih =>
    intro s r e
    cases o' with
    | none => cases e
    | some z =>
      obtain ⟨a, b⟩ := z
      simp only [Option.map_some, Option.some.injEq, Prod.mk.injEq] at e
      obtain ⟨p, hp⟩ := ih rfl
      obtain ⟨u, hu⟩ := esc_suffix h2
      rw [← e.2]
      exact ⟨92 :: (u ++ p), by rw [← hu, hp]; simp⟩
  | bad => intro s r e; cases e
  | @byte c r1 o' h1 h2 h3 h4 ih =>
    intro s r e
    cases o' with
    | none => cases e
    | some z =>
      obtain ⟨a, b⟩ := z
      simp only [Option.map_some, Option.some.injEq, Prod.mk.injEq] at e
      obtain ⟨p, hp⟩ := ih rfl
      rw [← e.2]
      exact ⟨c :: p, by rw [hp]; rfl⟩
theorem code_cut {b : Int} {p : UInt8 → Bool} {least most : Nat} {l m r : List UInt8} (x : List UInt8) (h : code b p least most (l ++ x) = some (m, r ++ x)) (hr : r ≠ []) : code b p least most l = some (m, r) := by
  have hrl : 0 < r.length := List.length_pos_iff.2 hr
  unfold code at h ⊢
  split at h
  · rename_i hc
    injection h with h
    injection h with h1 h2
    have hk : min most (runN p (l ++ x)) < l.length := by
      have := congrArg List.length h2
      rw [List.length_drop, List.length_append, List.length_append] at this
      omega
    have e : min most (runN p (l ++ x)) = min most (runN p l) := by
      unfold runN at hk ⊢
      by_cases e : l.dropWhile p = []
      · obtain ⟨e1, e2⟩ := tw_all x e
        rw [e1, List.length_append] at hk ⊢
        rw [e2]
        omega
      · rw [tw_more x e]
    rw [e] at hc h1 h2 hk
    rw [take_app _ _ _ (by omega)] at hc h1
    rw [drop_app _ _ _ (by omega)] at h2
    rw [if_pos hc, h1, List.append_cancel_right h2]
  · cases h
theorem esc_cut {l m r : List UInt8} (x : List UInt8) (h : esc (l ++ x) = some (m, r ++ x)) (hr : r ≠ []) : esc l = some (m, r) := by
  have hrl : 0 < r.length := List.length_pos_iff.2 hr
  cases l with
  | nil =>
    have := (esc_suffix h).length_le
    rw [List.length_append, List.nil_append] at this
    omega
  | cons c t =>
    have h : escC c (t ++ x) = some (m, r ++ x) := h
    show escC c t = some (m, r)
    cases e : lett c with
    | some y =>
      rw [escC_lett _ e] at h ⊢
      injection h with h
      injection h with h1 h2
      rw [h1, List.append_cancel_right h2]
    | none =>
      cases hs : selfB c with
      | true =>
        rw [escC_self _ e hs] at h ⊢
        injection h with h
        injection h with h1 h2
        rw [h1, List.append_cancel_right h2]
      | false =>
        by_cases hz : c.toNat = 122
        · rw [escC_z _ e hs hz] at h ⊢
          injection h with h
          injection h with h1 h2
          by_cases hd : t.dropWhile blB = []
          · rw [dw_done x hd] at h2
            have h3 := (List.dropWhile_suffix (l := x) blB).length_le
            have h4 := congrArg List.length h2
            rw [List.length_append] at h4
            omega
          · rw [dw_more x rfl hd] at h2
            rw [h1, List.append_cancel_right h2]
        · by_cases hx : c.toNat = 120
          · rw [escC_x _ e hs hx] at h ⊢
            exact code_cut x h hr
          · cases hd : dgB c with
            | true =>
              rw [escC_d _ e hs hz hx hd] at h ⊢
              exact code_cut (l := c :: t) x h hr
            | false =>
              rw [escC_no _ e hs hz hx hd] at h
              cases h
theorem suf_cut {l r x : List UInt8} (h : r <:+ l ++ x) (hl : x.length ≤ r.length) : ∃ r1, r = r1 ++ x := by
  obtain ⟨u, hu⟩ := h
  have h1 := congrArg (List.drop ((u ++ r).length - x.length)) hu
  have e1 : (u ++ r).length - x.length = l.length := by rw [hu, List.length_append]; omega
  have e2 : l.length = u.length + (r.length - x.length) := by
    have := congrArg List.length hu
    rw [List.length_append, List.length_append] at this
    omega
  rw [e1] at h1
  rw [show List.drop l.length (l ++ x) = x by simp, e2, List.drop_append, ] at h1
  have e3 : List.drop (u.length + (r.length - x.length)) u = [] := List.drop_eq_nil_of_le (by omega)
  rw [e3, List.nil_append, show u.length + (r.length - x.length) - u.length = r.length - x.length by omega] at h1
  exact ⟨r.take (r.length - x.length), by rw [← h1]; rw [h1]; conv => lhs; rw [← List.take_append_drop (r.length - x.length) r]; rw [h1]⟩
theorem Quo.cut {q : UInt8} {l' : List UInt8} {o : Option (List UInt8 × List UInt8)} (h : Quo q l' o) : ∀ {l x s r : List UInt8}, l' = l ++ x → o = some (s, r ++ x) → Quo q l (some (s, r)) := by
  induction h with
  | @shut R =>
    intro l x s r e e2
    injection e2 with e2
    injection e2 with e2 e3
    have : q :: r = l := by
      apply List.append_cancel_right (bs := x)
      rw [← e, List.cons_append, ← e3]
    rw [← this, ← e2]
    exact .shut
  | none => intro l x s r e e2; cases e2
  | line => intro l x s r e e2; cases e2
  | @esc R m R' o' h1 h2 h3 ih =>
    intro l x s r e e2
    cases o' with
    | none => cases e2
    | some z =>
      obtain ⟨a, b⟩ := z
      simp only [Option.map_some, Option.some.injEq, Prod.mk.injEq] at e2
      obtain ⟨p, hp⟩ := h3.ends rfl
      have hlen : x.length + 1 ≤ R'.length := by
        have := congrArg List.length hp
        rw [e2.2, List.length_append, List.length_cons, List.length_append] at this
        omega
      have hs := esc_suffix h2
      have hRl := hs.length_le
      cases l with
      | nil =>
        have := congrArg List.length e
        rw [List.length_cons, List.nil_append] at this
        omega
      | cons c l1 =>
        injection e with e3 e4
        subst e3
        rw [e4] at hs h2
        obtain ⟨r3, e5⟩ := suf_cut hs (by omega)
        have hr3 : r3 ≠ [] := fun h => by
          rw [e5, h, List.nil_append] at hlen
          omega
        rw [e5] at h2
        have h4 := ih e5 (by rw [e2.2])
        have := Quo.esc h1 (esc_cut x h2 hr3) h4
        rw [← e2.1]
        exact this
  | bad => intro l x s r e e2; cases e2
  | @byte c R o' h1 h2 h3 h4 ih =>
    intro l x s r e e2
    cases o' with
    | none => cases e2
    | some z =>
      obtain ⟨a, b⟩ := z
      simp only [Option.map_some, Option.some.injEq, Prod.mk.injEq] at e2
      obtain ⟨p, hp⟩ := h4.ends rfl
      cases l with
      | nil =>
        have h5 := congrArg List.length e
        have h6 := congrArg List.length hp
        rw [e2.2] at h6
        rw [List.length_cons, List.nil_append] at h5
        rw [List.length_append, List.length_cons, List.length_append] at h6
        omega
      | cons c' l1 =>
        injection e with e3 e4
        subst e3
        have h5 := ih e4 (by rw [e2.2])
        have := Quo.byte h1 h2 h3 h5
        rw [← e2.1]
        exact this
end Go.Proofs.YtfpeecjafccfjaaGreatDoor
namespace Go.Proofs.YtfpeecjafccfjaaGreatDoor
theorem nm_no10 {s : List UInt8} (h : ∀ c ∈ s, nmB c = true) : nl s = 0 := by
  unfold nl Lib.countByte
  rw [List.count_eq_zero]
  intro h10
  have := h 10 h10
  exact absurd this (by decide)
theorem nm_blank {c : UInt8} (h : nmB c = true) : blB c = false := by
  revert h
  exact u8_all (P := fun c => nmB c = true → blB c = false) (by decide +kernel) c
theorem nm_dash {c : UInt8} (h : nmB c = true) : c ≠ 45 := by
  rintro rfl
  exact absurd h (by decide)
theorem skip_name {c : UInt8} {s : List UInt8} (h : nmB c = true) : Skip (c :: s) (.ok (c :: s)) := by
  refine .done ?_ ?_
  · rw [List.dropWhile_cons_of_neg (by rw [nm_blank h]; decide)]
  · unfold Lib.hasPrefix
    have : ((45 : UInt8) == c) = false := by simpa using (nm_dash h).symm
    simp [List.isPrefixOf, this]
theorem lex_eof (L : Int) : LexR L [] (.ok [(0, L, 0, [])]) := .eof (.done rfl rfl)
end Go.Proofs.YtfpeecjafccfjaaGreatDoor
namespace Go.Proofs.YtfpeecjafccfjaaGreatDoor
open Go.RowKit
structure O (l : List UInt8) (ts : List Tk) : Prop where
  one : nl l = 0
  lex : LexR 1 l (.ok ts)
theorem O.nil : O [] [eofT] := ⟨rfl, lex_eof 1⟩
theorem nl_cons {c : UInt8} (h : c ≠ 10) (l : List UInt8) : nl (c :: l) = nl l := by unfold nl Lib.countByte; rw [List.count_cons_of_ne h]
theorem O.blank {l : List UInt8} {ts : List Tk} (h : O l ts) : O (32 :: l) ts := ⟨(nl_cons (by decide) l).trans h.one, h.lex.of_skip fun g => g.of_dw (by simp [blB, blkB])⟩
theorem tw_stop {p : UInt8 → Bool} {l : List UInt8} (hl : ∀ c, l.head? = some c → p c = false) : ∀ {s : List UInt8}, (∀ c ∈ s, p c = true) → (s ++ l).takeWhile p = s ∧ (s ++ l).dropWhile p = l
  | [], _ => by
    cases l with
    | nil => exact ⟨rfl, rfl⟩
    | cons c t =>
      have := hl c rfl
      exact ⟨by rw [List.nil_append, List.takeWhile_cons_of_neg (by rw [this]; decide)], by rw [List.nil_append, List.dropWhile_cons_of_neg (by rw [this]; decide)]⟩
  | c :: s, h => by
    obtain ⟨h1, h2⟩ := tw_stop hl (s := s) fun x hx => h x (List.mem_cons_of_mem _ hx)
    have hc := h c List.mem_cons_self
    exact ⟨by rw [List.cons_append, List.takeWhile_cons_of_pos hc, h1], by rw [List.cons_append, List.dropWhile_cons_of_pos hc, h2]⟩
theorem O.step {l r s : List UInt8} {k n : Int} {ts : List Tk} (hs : Skip l (.ok l)) (h0 : nl l = 0) (hl : l ≠ []) (ht : Tok l (some (k, n, s, r))) (h : O r ts) : O l ((k, 1, n, s) :: ts) := ⟨h0, by
  have := LexR.step (L := 1) (o := .ok ts) hs hl ht h.lex
  rw [h0] at this
  exact this⟩
theorem O.word {s l : List UInt8} {ts : List Tk} (hc : ∃ c t, s = c :: t ∧ ltB c = true) (hs : ∀ c ∈ s, nmB c = true) (hl : ∀ c, l.head? = some c → nmB c = false) (h : O l ts) : O (s ++ l) ((if wordB s then 2 else 1, 1, 0, s) :: ts) := by
  obtain ⟨c, t, rfl, hc⟩ := hc
  obtain ⟨h1, h2⟩ := tw_stop hl hs
  have ht := Tok.name (c := c) (r := t ++ l) hc
  rw [← List.cons_append, h1, h2] at ht
  exact O.step (skip_name (hs c List.mem_cons_self)) (by rw [nl_app, nm_no10 hs, h.one]) (by simp) ht h
theorem quo_plain : ∀ {s l : List UInt8}, (∀ c ∈ s, c ≠ 39 ∧ c ≠ 10 ∧ c ≠ 92) → Quo 39 (s ++ 39 :: l) (some (s, l))
  | [], l, _ => .shut
  | c :: s, l, h => by
    obtain ⟨h1, h2, h3⟩ := h c List.mem_cons_self
    exact .byte (o := some (s, l)) h1 h2 h3 (quo_plain fun x hx => h x (List.mem_cons_of_mem _ hx))
theorem skip_at {c : UInt8} {l : List UInt8} (h1 : blB c = false) (h2 : c ≠ 45) : Skip (c :: l) (.ok (c :: l)) := by
  refine .done ?_ ?_
  · rw [List.dropWhile_cons_of_neg (by rw [h1]; decide)]
  · unfold Lib.hasPrefix
    have : ((45 : UInt8) == c) = false := by simpa using h2.symm
    simp [List.isPrefixOf, this]
theorem O.text {s l : List UInt8} {ts : List Tk} (hs : ∀ c ∈ s, c ≠ 39 ∧ c ≠ 10 ∧ c ≠ 92) (h : O l ts) : O (39 :: (s ++ 39 :: l)) ((4, 1, 0, s) :: ts) := by
  have ht := Tok.text (c := 39) (by decide) (by decide) (by decide) (quo_plain (l := l) hs)
  refine O.step (skip_at (by decide) (by decide)) ?_ (by simp) ht h
  rw [nl_cons (by decide), nl_app, nl_cons (by decide), h.one]
  unfold nl Lib.countByte
  rw [List.count_eq_zero.2 fun hm => (hs 10 hm).2.1 rfl]
theorem O.num {l : List UInt8} {ts : List Tk} (hl : ∀ c, l.head? = some c → nuB c = false) (h : O l ts) : O (49 :: l) ((3, 1, 1, []) :: ts) := by
  obtain ⟨h1, h2⟩ := tw_stop (s := [49]) hl (by decide)
  have e1 : numO 9223372036854775807 [49] = true := by decide +kernel
  have e2 : sgn (numN 9223372036854775807 [49] : Int) = 1 := by decide +kernel
  have ht := Tok.num (c := 49) (r := l) (by decide) (by decide) (by rw [show (49 : UInt8) :: l = [49] ++ l from rfl, h1, e1])
  rw [show (49 : UInt8) :: l = [49] ++ l from rfl, h1, h2, e2] at ht
  exact O.step (skip_at (by decide) (by decide)) (by rw [nl_cons (by decide), h.one]) (by simp) ht h
theorem sgn_second : ∀ s ∈ signs, ∀ a b t, s = a :: b :: t → b ∈ ([47, 60, 62, 46, 61, 58] : List UInt8) := by
  intro s hs a b t e
  subst e
  unfold signs at hs
  simp only [List.mem_cons, List.cons.injEq, List.not_mem_nil, or_false] at hs
  simp only [List.mem_cons, List.not_mem_nil, or_false]
  rcases hs with ⟨_, h⟩ | ⟨_, h⟩ | ⟨_, h⟩ | ⟨_, h, _⟩ | ⟨_, h⟩ | ⟨_, h⟩ | ⟨_, h⟩ | ⟨_, h⟩ | ⟨_, h, _⟩ | ⟨_, h, _⟩ | ⟨_, h, _⟩ | ⟨_, h, _⟩ | ⟨_, h, _⟩ | ⟨_, h, _⟩ | ⟨_, h⟩ | ⟨_, h, _⟩ | ⟨_, h⟩ | ⟨_, h, _⟩ | ⟨_, h⟩ | ⟨_, h⟩ | ⟨_, h⟩ | ⟨_, h⟩ | ⟨_, h⟩ | ⟨_, h⟩ | ⟨_, h⟩ | ⟨_, h⟩ | ⟨_, h⟩ | ⟨_, h, _⟩ | ⟨_, h⟩ | ⟨_, h⟩ | ⟨_, h⟩ <;> first | (subst h; decide) | cases h
theorem sgn_two {a b : UInt8} {t : List UInt8} (h : b ∉ ([47, 60, 62, 46, 61, 58] : List UInt8)) : sgnB (a :: b :: t) = false := by
  unfold sgnB
  rw [Bool.eq_false_iff]
  intro hc
  exact h (sgn_second _ (List.contains_iff_mem.1 hc) a b t rfl)
theorem sign_one {c : UInt8} {l : List UInt8} (hc : sgnB [c] = true) (hl : ∀ b, l.head? = some b → b ∉ ([47, 60, 62, 46, 61, 58] : List UInt8)) : sign (c :: l) = some ([c], l) := by
  unfold sign
  cases l with
  | nil => simp [hc]
  | cons b t =>
    have h := hl b rfl
    rw [show (c :: b :: t).take 3 = c :: b :: t.take 1 from rfl, show (c :: b :: t).take 2 = c :: b :: [] from rfl, sgn_two h, sgn_two h]
    simp [hc]
theorem opn_no {c : UInt8} {l : List UInt8} (h : c ≠ 91) : ¬ 0 < opn (c :: l) := by
  unfold opn
  have : ((91 : UInt8) == c) = false := by simpa using h.symm
  simp [Lib.hasPrefix, List.isPrefixOf, this]
def plainS : List UInt8 := [123, 125, 40, 41, 46, 61, 58, 44, 59, 93]
theorem plainS_ok : ∀ c ∈ plainS, ltB c = false ∧ dgB c = false ∧ quB c = false ∧ blB c = false ∧ c ≠ 45 ∧ c ≠ 91 ∧ c ≠ 10 ∧ sgnB [c] = true := by decide +kernel
theorem O.sign {c : UInt8} {l : List UInt8} {ts : List Tk} (hc : c ∈ plainS) (hl : ∀ b, l.head? = some b → b ∉ ([47, 60, 62, 46, 61, 58] : List UInt8)) (h : O l ts) : O (c :: l) ((5, 1, 0, [c]) :: ts) := by
  obtain ⟨h1, h2, h3, h4, h5, h6, h7, h8⟩ := plainS_ok c hc
  have ht := Tok.sign (c := c) (r := l) h1 h2 h3 (opn_no h6)
  rw [sign_one h8 hl] at ht
  exact O.step (skip_at h4 h5) (by rw [nl_cons h7, h.one]) (by simp) ht h
theorem O.brk {l : List UInt8} {ts : List Tk} (h : O (39 :: l) ts) : O (91 :: 39 :: l) ((5, 1, 0, [91]) :: ts) := by
  have ho : ¬ 0 < opn (91 :: 39 :: l) := by
    unfold opn
    simp [Lib.hasPrefix, List.isPrefixOf, Lib.trimLeftB]
  have ht := Tok.sign (c := 91) (r := 39 :: l) (by decide) (by decide) (by decide) ho
  rw [sign_one (by decide) (fun b hb => by
    have : 39 = b := Option.some.inj hb
    subst this
    decide)] at ht
  exact O.step (skip_at (by decide) (by decide)) (by rw [nl_cons (by decide), h.one]) (by simp) ht h
structure Nm (s : List UInt8) : Prop where
  head : ∃ c t, s = c :: t ∧ ltB c = true
  all : ∀ c ∈ s, nmB c = true
  word : wordB s = false
theorem O.name {s l : List UInt8} {ts : List Tk} (hs : Nm s) (hl : ∀ c, l.head? = some c → nmB c = false) (h : O l ts) : O (s ++ l) (nameT s :: ts) := by
  have := O.word hs.head hs.all hl h
  rw [hs.word] at this
  exact this
theorem O.kw {s l : List UInt8} {ts : List Tk} (hs : wordB s = true) (hc : ∃ c t, s = c :: t ∧ ltB c = true) (ha : ∀ c ∈ s, nmB c = true) (hl : ∀ c, l.head? = some c → nmB c = false) (h : O l ts) : O (s ++ l) (wordT s :: ts) := by
  have := O.word hc ha hl h
  rw [hs] at this
  exact this
theorem O.ret {l : List UInt8} {ts : List Tk} (h : O l ts) : O (wReturn ++ 32 :: l) (tRet :: ts) := O.kw (by decide) ⟨_, _, rfl, by decide⟩ (by decide) (by intro b hb; cases hb <;> decide) h.blank
theorem O.fn {l : List UInt8} {ts : List Tk} (h : O l ts) : O (wFunction ++ 32 :: l) (wordT wFunction :: ts) := O.kw (by decide) ⟨_, _, rfl, by decide⟩ (by decide) (by intro b hb; cases hb <;> decide) h.blank
section
variable {n k : List UInt8} (hn : Nm n) (hk : Nm k)
include hn hk
end
end Go.Proofs.YtfpeecjafccfjaaGreatDoor
namespace Go.Proofs.YtfpeecjafccfjaaGreatDoor
open Go.RowKit
def blkT : List UInt8 := [40, 98, 108, 111, 99, 107, 64, 49]
theorem blk_text (l : List Ast) : Ast.text hdK (nd 18 1 l) = blkT ++ Ast.textL hdK l ++ [41] := by
  show hdK _ ++ _ ++ [41] = _
  rw [show hdK ⟨18, 1, 0, 0, ⟨#[]⟩, [], []⟩ = blkT from by decide +kernel]
theorem last_one {s : ByteArray} {l : List UInt8} (e : s.data.toList = l) (h : nl l = 0) : lastL s = 1 := by unfold lastL; rw [e, h]; rfl
theorem env_of {s : ByteArray} {ts : List TkP} (hs : s.size ≤ 4800) (hl : LexR (lastL s) s.data.toList (.ok ts)) (hlen : ts.length ≤ s.size + 1) : EnvR (lastL s) ts := by
  have hsz : s.data.toList.length = s.size := by rw [← Lib.size_eq]
  have hsm := lex_small hl (by omega) ts rfl
  have hri := (hl.rising rfl).mem
  exact ⟨fun t ht => ⟨by
    have := hri t ht
    have e : lastL s - (nl s.data.toList : Int) = 1 := by unfold lastL; omega
    rw [e] at this
    exact this, (hsm t ht).2⟩, by omega⟩
theorem said_ok {s : ByteArray} {l : List UInt8} {q : List UInt8 × Int × Int} (e : s.data.toList = l) (h : nl l = 0) (hs : s.size ≤ 4800) (hq : Said s q) (h0 : q.2.1 = 0) :
    ∃ ts a, LexR 1 l (.ok ts) ∧ PL srcL ts (.ok (a, [eofT])) ∧ a.depth ≤ 100 ∧ q.1 = Ast.text hdK a ∧ BlG 1 a ∧ EnvR 1 ts := by
  obtain ⟨o, ho, hm⟩ := hq
  have hL := last_one e h
  cases o with
  | error n => rw [hm] at h0; cases h0
  | ok ts =>
    obtain ⟨hlen, r, hr, hm⟩ := hm
    cases r with
    | error l => dsimp only at hm; rw [hm] at h0; cases h0
    | ok z =>
      obtain ⟨a, ts'⟩ := z
      rcases hm with ⟨_, h4⟩ | ⟨hd, hg, h4⟩
      · rw [h4] at h0; cases h0
      · have hE := env_of hs ho hlen
        obtain ⟨_, _, e2⟩ := src_fin (by rw [hL, e, h]; decide) ho hr
        rw [hL] at ho hg hE e2
        rw [e] at ho
        rw [e2] at hr
        exact ⟨ts, a, ho, hr, hd, by rw [h4], hg, hE⟩
theorem said_any {s : ByteArray} {l : List UInt8} {ts : List Tk} {q : List UInt8 × Int × Int} (e : s.data.toList = l) (h : nl l = 0) (hx : LexR 1 l (.ok ts)) (hq : Said s q) :
    ∃ r, PL srcL ts r ∧ match r with
    | .error n => q = ([], 6, n)
    | .ok (a, ts') => ts' = [eofT] ∧ ((100 < a.depth ∧ q = ([], 7, 1)) ∨ (a.depth ≤ 100 ∧ BlG 1 a ∧ q = (Ast.text hdK a, 0, 0))) := by
  obtain ⟨o, ho, hm⟩ := hq
  have hL := last_one e h
  have ho' := ho
  rw [hL, e] at ho
  have := ho.det hx
  subst this
  obtain ⟨_, r, hr, hm⟩ := hm
  refine ⟨r, hr, ?_⟩
  cases r with
  | error n => exact hm
  | ok z =>
    obtain ⟨a, ts'⟩ := z
    obtain ⟨_, _, e2⟩ := src_fin (by rw [hL, e, h]; decide) ho' hr
    rw [hL] at e2
    dsimp only at hm
    rw [hL] at hm
    exact ⟨e2, hm⟩
theorem semi_lex : LexR 1 [32, 59] (.ok [semi, eofT]) := (O.sign (c := 59) (l := []) (by decide) (by intro b hb; cases hb) .nil).blank.lex
theorem nl_zero {l : List UInt8} (h : (10 : UInt8) ∉ l) : nl l = 0 := by unfold nl Lib.countByte; exact List.count_eq_zero.2 h
end Go.Proofs.YtfpeecjafccfjaaGreatDoor
namespace Go.Proofs.YtfpeecjafccfjaaGreatDoor
open Go.RowKit
structure GoodS (s : ByteArray) : Prop where
  nm : Nm s.data.toList
  lo : 1 ≤ s.size
  hi : s.size ≤ 100
section
variable {n k : ByteArray} (Hn : GoodS n) (Hk : GoodS k)
include Hn Hk
end
end Go.Proofs.YtfpeecjafccfjaaGreatDoor
namespace Go.Proofs.YtfpeecjafccfjaaGreatDoor
open Go.RowKit
theorem ext_list (s : ByteArray) (a b : Nat) : (s.extract a b).data.toList = (s.data.toList.drop a).take (b - a) := by
  rw [ByteArray.data_extract, Array.toList_extract]
end Go.Proofs.YtfpeecjafccfjaaGreatDoor
namespace Go.Proofs.YtfpeecjafccfjaaGreatDoor
open Go.RowKit
theorem take_next {s : ByteArray} {q : Nat} {P : UInt8 → Prop} (h : q < s.size) (ha : ∀ c ∈ s.data.toList.take q, P c) (hc : P s[q]) : ∀ c ∈ s.data.toList.take (q + 1), P c := fun c hm => by
  rw [take_snoc s q h] at hm
  rcases List.mem_append.1 hm with hm | hm
  · exact ha c hm
  · rw [List.mem_singleton.1 hm]; exact hc
theorem byte_ne {c : UInt8} {n : Nat} (hn : n < 256) (h : ¬ c.toNat = n) : c ≠ UInt8.ofNat n := fun e => h (by rw [e]; simp [Nat.mod_eq_of_lt hn])
theorem eq_bool {P Q : ByteArray} (h : P.data.toList = Q.data.toList) : (P.toList == Q.toList) = true := by
  rw [Lib.toList_data, Lib.toList_data, h]; exact beq_iff_eq.2 rfl
end Go.Proofs.YtfpeecjafccfjaaGreatDoor
