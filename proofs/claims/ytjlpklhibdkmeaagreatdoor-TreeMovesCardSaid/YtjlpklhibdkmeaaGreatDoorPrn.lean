/- tree.Print: a tree's text. -/
import Derived.Test.YtjlpklhibdkmeaaGreatDoorWri
namespace Go.Proofs.YtjlpklhibdkmeaaGreatDoor
open Go.RowKit

def printK (T : List Nd) (r : Int) : List UInt8 := printT fieldsK koK soK hdK T r
/-- How great a tree's parts are. -/
structure Sm (T : List Nd) : Prop where
  len : T.length ≤ 5000
  l0 : ∀ x ∈ T, -9223372036854775808 ≤ x.line ∧ x.line ≤ 9223372036854775807
  o0 : ∀ x ∈ T, -9223372036854775808 ≤ x.op ∧ x.op ≤ 9223372036854775807
  n0 : ∀ x ∈ T, -9223372036854775808 ≤ x.num ∧ x.num ≤ 9223372036854775807
  s1 : ∀ x ∈ T, x.s.size ≤ 100000
  nl : ∀ x ∈ T, x.names.length ≤ 4000
theorem so_kind {k : Int} (h : soK k ≠ 0) : 1 ≤ k ∧ k ≤ 32 := by
  refine Classical.byContradiction fun hn => h ?_
  unfold soK
  rw [if_neg (by omega), if_neg (by omega), if_neg (by omega), if_neg (by omega), if_neg (by omega), if_neg (by omega), if_neg (by omega), if_neg (by omega)]
theorem right_kinds {T : List Nd} {r : Int} (h : rightK T r = true) {i : Nat} {x : Nd} (hx : T[i]? = some x) : 1 ≤ x.kind ∧ x.kind ≤ 32 := by
  obtain ⟨d, m, hs, h0, h1⟩ := right_snd fieldsK koK soK h
  obtain ⟨_, _, hk, hall⟩ := (right_split fieldsK koK soK).1 h
  have hi := (List.getElem?_eq_some_iff.1 hx).1
  by_cases hir : i = r.toNat
  · subst hir
    rw [kind_of hx] at hk
    omega
  · obtain ⟨j, hj, hij⟩ := hs.parent hi hir
    have hy := List.getElem?_eq_getElem hj
    rw [kids_of hy] at hij
    have hz := ko_zero _ _ _ ((node_split fieldsK koK soK).1 (hall j _ hy)).2.2
    refine so_kind fun e => hz (List.mem_map.2 ⟨_, hij, ?_⟩)
    rw [Int.toNat_natCast, kind_of hx, e]
theorem right_names {T : List Nd} {r : Int} (h : rightK T r = true) {x : Nd} (hx : x ∈ T) : ∀ y ∈ x.names, y.size ≤ 65536 := by
  obtain ⟨_, _, _, hall⟩ := (right_split fieldsK koK soK).1 h
  obtain ⟨i, hi⟩ := List.mem_iff_getElem?.1 hx
  have hf := ((node_split fieldsK koK soK).1 (hall i x hi)).2.1
  unfold fieldsK at hf
  simp only [Bool.and_eq_true] at hf
  intro y hy
  have := List.all_eq_true.1 hf.1.2 y hy
  unfold nameB at this
  simp only [Bool.and_eq_true, decide_eq_true_eq] at this
  exact this.1.1.1.2
theorem Sm.ndw {T : List Nd} {r : Int} (hs : Sm T) (h : rightK T r = true) : ∀ x ∈ T, NdW x := fun x hx => by
  obtain ⟨i, hi⟩ := List.mem_iff_getElem?.1 hx
  obtain ⟨k0, k1⟩ := right_kinds h hi
  exact ⟨(hs.l0 x hx).1, (hs.l0 x hx).2, (hs.o0 x hx).1, (hs.o0 x hx).2, (hs.n0 x hx).1, (hs.n0 x hx).2, hs.s1 x hx, hs.nl x hx, right_names h hx, k0, k1⟩
theorem Sm.szd {T : List Nd} (hs : Sm T) : Szd T := fun x hx => by have := hs.nl x hx; omega
theorem ite_len {c : Bool} {a : List UInt8} {n : Nat} (h : a.length ≤ n) : (if c then a else []).length ≤ n := by
  cases c
  · exact Nat.zero_le _
  · exact h
theorem hd_len {x : Nd} (h : NdW x) : (hdK x).length ≤ 262900000 := by
  unfold hdK
  have h1 : (topText x).length ≤ 40 := by
    unfold topText
    have := wordK_len x.kind.toNat
    rw [Lib.size_eq] at this
    have := Lib.itoa_length_le x.line h.l0 h.l1
    simp only [List.length_append, List.length_cons]
    omega
  have h2 : (fldText x).length ≤ 500000 := by
    unfold fldText
    have a1 := ite_len (c := hasB (fldK x.kind) 1) (a := 32 :: Lib.itoa x.op) (n := 22) (by have := Lib.itoa_length_le x.op h.o0 h.o1; simp only [List.length_cons]; omega)
    have a2 := ite_len (c := hasB (fldK x.kind) 2) (a := 32 :: Lib.itoa x.num) (n := 22) (by have := Lib.itoa_length_le x.num h.n0 h.n1; simp only [List.length_cons]; omega)
    have a3 := ite_len (c := hasB (fldK x.kind) 4) (a := 32 :: quoL x.s.data.toList) (n := 400003) (by
      have := quoL_len x.s.data.toList
      rw [← Lib.size_eq] at this
      have := h.s1
      simp only [List.length_cons]; omega)
    rw [List.length_append, List.length_append]
    omega
  have h3 := nms_len x.names h.nm
  have h4 : x.names.length * 65537 ≤ 4000 * 65537 := Nat.mul_le_mul_right _ h.nl
  simp only [List.length_append]
  omega
theorem text_bound {T : List Nd} {r : Int} (hs : Sm T) (h : rightK T r = true) : (text hdK T (T.length + 1) r.toNat).length ≤ 140000000000000 := by
  obtain ⟨d, m, hd, h0, h1⟩ := right_snd fieldsK koK soK h
  have := text_len (hd := hdK) hd (M := 263000000) (fun i x hx => by
    have a := hd_len (hs.ndw h x (List.mem_of_getElem? hx))
    have b := (snd_kids hd hx).2
    have := hs.len
    omega)
  have h2 : T.length * 263000000 ≤ 5000 * 263000000 := Nat.mul_le_mul_right _ hs.len
  omega
theorem print_yes {T : List Nd} {r : Int} (h : rightK T r = true) : printK T r = text hdK T (T.length + 1) r.toNat := if_pos h
theorem print_no {T : List Nd} {r : Int} (h : rightK T r = false) : printK T r = [] := if_neg (by unfold rightK at h; rw [h]; decide)
set_option maxHeartbeats 2000000 in
set_option maxRecDepth 20000 in
theorem print_any (v : Value) (T : List Nd) (r : Int) (w : World) (h : TreeV w v T r) (hs : Sm T) (hT : Tab w) : Calls Tryz.prog 11 #[v] w fun e w' => e = .returned (.string ⟨(printK T r).toArray⟩) ∧ Below w.heap.size w w' := by
  have HR := Lib.hid (fun W (hW : TreeV W v T r) => right_any v T r W hW hs.szd)
  have HTV := Lib.hid h
  obtain ⟨nv, rfl, A, c, rfl, hc, hn⟩ := h
  have HN := Lib.hid hn
  have HB0 := Lib.hid (b_alloc w (.cells #[.slice A T.length c, .int .i64 r] 24))
  have HBX := Lib.hid (fun W (hW : Below (w.heap.size + 1) (w.alloc (.cells #[.slice A T.length c, .int .i64 r] 24)) W) => And.intro ((hW.cell (p := ⟨w.heap.size, 0, none⟩) (Nat.lt_succ_self _)).trans (acell w #[.slice A T.length c, .int .i64 r] 24 0)) ((hW.cell (p := ⟨w.heap.size, 1, none⟩) (Nat.lt_succ_self _)).trans (acell w #[.slice A T.length c, .int .i64 r] 24 1)))
  obtain ⟨P, hP⟩ : ∃ P, P = printK T r := ⟨_, rfl⟩
  rw [← hP]
  have HP := Lib.hid hP
  have HS := Lib.hid hs
  have HT := Lib.hid hT
  clear hn hP hs hT
  cases hr : rightK T r with
  | false =>
    rw [hr] at HR
    obtain rfl : P = [] := HP.out.trans (print_no hr)
    clear hr
    go_enter Tryz.func11, Tryz.ntmps11
    go_wp2_with fail
    refine (HR.out _ (HTV.out.below HB0.out)).mono ?_; rintro e w1 ⟨rfl, b1⟩
    have HB1 := Lib.hid (thenB HB0.out b1)
    clear b1
    go_wp2_with fail
    go_ret
    exact ⟨rfl, HB1.out⟩
  | true =>
    have htx := print_yes hr
    have hbd := text_bound HS.out hr
    have hnd := HS.out.ndw hr
    obtain ⟨d, m, hsn, hr0, hr1⟩ := right_snd fieldsK koK soK hr
    rw [← HP.out] at htx
    rw [← htx] at hbd
    rw [hr] at HR
    rcases HN.out with hT0 | ⟨bk, o, rfl, hbk, hx⟩
    · rw [hT0] at hr1; simp at hr1; omega
    obtain ⟨q, rfl⟩ : ∃ q : Nat, r = (q : Int) := ⟨r.toNat, by omega⟩
    rw [Int.toNat_natCast] at htx hsn
    have HTX := Lib.hid htx
    have HBD := Lib.hid hbd
    have HND := Lib.hid hnd
    have HSN := Lib.hid hsn
    have HX := Lib.hid hx
    clear hr htx hbd hnd hsn hx HP
    go_enter Tryz.func11, Tryz.ntmps11
    go_wp2_with fail
    refine (HR.out _ (HTV.out.below HB0.out)).mono ?_; rintro e w1 ⟨rfl, b1⟩
    have HB1 := Lib.hid (thenB HB0.out b1)
    rw [asize] at b1
    obtain ⟨x0, x1⟩ := HBX.out _ b1
    have hsz1 := b1.size
    rw [asize] at hsz1
    have y0 : ∀ ob, (w1.alloc ob).cell? ⟨w.heap.size, 0, none⟩ = some (.slice (some ⟨bk, o, none⟩) T.length c) := fun ob => ((b_alloc w1 ob).cell (p := ⟨w.heap.size, 0, none⟩) (by show w.heap.size < _; omega)).trans x0
    have y1 : ∀ ob, (w1.alloc ob).cell? ⟨w.heap.size, 1, none⟩ = some (.int .i64 (q : Int)) := fun ob => ((b_alloc w1 ob).cell (p := ⟨w.heap.size, 1, none⟩) (by show w.heap.size < _; omega)).trans x1
    have hbld : Bd (w1.alloc (.cells #[.pointer none, .slice none 0 0] 45)) w1.heap.size w1.heap.size [] := .inl ⟨Nat.le_refl _, .slice none 0 0, heap_alloc_new w1 _, World.ownsRow_nil _ _ _ _, by simp [Value.ownBlock]⟩
    have HWR := Lib.hid (write_any T bk o c q d m w1.heap.size w1 HSN.out HND.out (NodesIn.below HX.out HB1.out hbk) (by have := HB1.out.size; omega) (HT.out.below HB1.out) (by have := HS.out.len; omega) (T.length + 1) q [] (w1.alloc (.cells #[.pointer none, .slice none 0 0] 45)) (by have := HSN.out.root; omega) (by omega) (b_alloc w1 _) hbld (by rw [← HTX.out]; have := HBD.out; simp only [List.length_nil]; omega))
    rw [← HTX.out, List.nil_append] at HWR
    clear b1 x0 x1 hbld
    go_wp2_with fail
    refine HWR.out.mono ?_; rintro e w3 ⟨rfl, hb3, hw3⟩
    have hsz3 := hw3.below.size
    rw [asize] at hsz3
    have HB3 := Lib.hid hb3
    have HW3 := Lib.hid ((b_alloc w1 (.cells #[.pointer none, .slice none 0 0] 45)).trans hw3.below)
    have HSTR := Lib.hid (Tryz.Builder_String_any w1.heap.size w1.heap.size P w3 hb3 (by omega))
    clear hb3 hw3 HWR y0 y1
    go_wp2_with fail
    refine HSTR.out.mono ?_; rintro e w4 ⟨rfl, b4⟩
    have HB4 := Lib.hid (thenB HB1.out (HW3.out.trans b4))
    clear b4
    go_wp2_with fail
    go_ret
    exact ⟨rfl, HB4.out⟩
end Go.Proofs.YtjlpklhibdkmeaaGreatDoor
