/- tree.writeFields: a node's fields as text, one of its ways. -/
import Derived.Test.YtjlpklhibdkmeaaGreatDoorWrt
namespace Go.Proofs.YtjlpklhibdkmeaaGreatDoor
open Go.RowKit

set_option maxHeartbeats 4000000 in
set_option maxRecDepth 20000 in
theorem wf_s (x : Nd) (nv kv : Value) (b : Nat) (l : List UInt8) (w00 w : World) (hx : NdW x) (hnv : Strs w00 nv x.names) (hkv : ∃ A n c, kv = .slice A n c) (h00 : Below w00.heap.size w00 w) (hbd : Bd w w00.heap.size b l) (hlen : l.length ≤ 140736000000000) (hT : Tab w00)
    (h1 : hasB (fldK x.kind) 1 = false) (h2 : hasB (fldK x.kind) 2 = false) (h4 : hasB (fldK x.kind) 4 = true) :
    Calls Tryz.prog 28 #[.pointer (some ⟨b, 0, none⟩), nodeV x nv kv] w fun e w' => e = .returned (.tuple #[]) ∧ Bd w' w00.heap.size b (l ++ (fldText x ++ nmsText x.names)) ∧ Wr w00.heap.size b w w' := by
  have HX := Lib.hid hx
  obtain ⟨B, hBe⟩ : ∃ B, B = w00.heap.size := ⟨_, rfl⟩
  obtain ⟨NA, nc, rfl, _, hna⟩ := hnv
  obtain ⟨KA, kn, kc, rfl⟩ := hkv
  rw [← hBe] at hna h00 hbd ⊢
  have HTB := Lib.hid (fun W (h : Below B w00 W) => hT.below (w' := W) (hBe ▸ h))
  have HNA := Lib.hid hna
  have H00 := Lib.hid h00
  clear hBe hna h00
  have hble := hbd.le
  have hfld : fldText x = 32 :: quoL x.s.data.toList := by
    unfold fldText
    rw [h1, h2, h4]
    simp
  rw [hfld]
  obtain ⟨L, hL⟩ : ∃ L, L = l ++ (32 :: quoL x.s.data.toList ++ nmsText x.names) := ⟨_, rfl⟩
  rw [← hL]
  have HLF := Lib.hid hL
  clear hfld hL
  obtain ⟨F, hF⟩ : ∃ F, F = fldK x.kind := ⟨_, rfl⟩
  have HFo := Lib.hid (fun W => hF ▸ fieldsOf_any x.kind W)
  rw [← hF] at h1 h2 h4
  have e1 : (bits .and .i64 F 1 != 0) = false := h1
  have e2 : (bits .and .i64 F 2 != 0) = false := h2
  have e4 : (bits .and .i64 F 4 != 0) = true := h4
  clear h1 h2 h4 hF hx hT
  have hw0 : Wr B b w (w.alloc (.cells #[.int .i64 x.kind, .int .i64 x.line, .int .i64 x.op, .int .i64 x.num, .string x.s, .slice NA x.names.length nc, .slice KA kn kc] 32)) := Wr.of (by omega) (b_alloc _ _)
  have HW0 := Lib.hid hw0
  have HBD0 := Lib.hid (hbd.below (b_alloc w (.cells #[.int .i64 x.kind, .int .i64 x.line, .int .i64 x.op, .int .i64 x.num, .string x.s, .slice NA x.names.length nc, .slice KA kn kc] 32)))
  have HBX0 := Lib.hid (heap_alloc_new w (.cells #[.int .i64 x.kind, .int .i64 x.line, .int .i64 x.op, .int .i64 x.num, .string x.s, .slice NA x.names.length nc, .slice KA kn kc] 32))
  have hsz0 : B ≤ (w.alloc (.cells #[.int .i64 x.kind, .int .i64 x.line, .int .i64 x.op, .int .i64 x.num, .string x.s, .slice NA x.names.length nc, .slice KA kn kc] 32)).heap.size := by rw [asize]; omega
  have HSZ0 := Lib.hid hsz0
  clear hw0 hbd hsz0
  unfold nodeV
  go_enter Tryz.func28, Tryz.ntmps28
  go_wp2_with (go_at_call 17; refine (HFo.out _).mono ?_; rintro e w' ⟨rfl, rfl⟩)
  refine (tquoted_any x.s _ HX.out.s1).mono ?_
  rintro e w1 ⟨rfl, b1⟩
  obtain ⟨S, hS⟩ : ∃ S : ByteArray, S = ⟨(quoL x.s.data.toList).toArray⟩ := ⟨_, rfl⟩
  have hSl : S.data.toList = quoL x.s.data.toList := by rw [hS]
  have hSs : S.size ≤ 400002 := by
    rw [hS, Lib.size_eq]
    have := quoL_len x.s.data.toList
    rw [← Lib.size_eq] at this
    have := HX.out.s1
    show (quoL x.s.data.toList).length ≤ _
    omega
  rw [← hS]
  clear hS
  have HSL := Lib.hid hSl
  have hsum : ((⟨#[32]⟩ : ByteArray) ++ S).size = 1 + S.size := by rw [ByteArray.size_append]; rfl
  have HC := Lib.hid (ws_any B b l ((⟨#[32]⟩ : ByteArray) ++ S) w1 (HBD0.out.below b1) (by rw [hsum]; omega))
  rw [add_list] at HC
  have hone : (⟨#[32]⟩ : ByteArray).size = 1 := rfl
  have HBX1 := Lib.hid (box_below HBX0.out b1)
  have HW1 := Lib.hid (HW0.out.more HSZ0.out b1)
  clear b1 hsum hSl
  go_wp2_with fail
  refine HC.out.mono ?_; rintro e w2 ⟨rfl, hb2, hw2⟩
  have hl1' : (l ++ (32 :: S.data.toList)).length ≤ 140736000500000 := by
    rw [List.length_append, List.length_cons, ← Lib.size_eq]; omega
  obtain ⟨l1, hl1e⟩ : ∃ l1, l1 = l ++ (32 :: S.data.toList) := ⟨_, rfl⟩
  rw [← hl1e] at hb2 hl1'
  have hl1f : l1 = l ++ (32 :: quoL x.s.data.toList) := by rw [hl1e, HSL.out]
  have HL1 := Lib.hid hl1f
  have HBD := Lib.hid hb2
  have HWR := Lib.hid (HW1.out.trans hw2)
  obtain ⟨c0, c1, c2, c3, c4, c5, c6⟩ := node_box (box_wr HBX1.out hw2 (by omega))
  clear hl1e hl1f hb2 hw2 HC
  go_wp2_with fail
  clear c0 c1 c2 c3 c4 c5 c6
  have hl1 : l1.length ≤ 140737000000000 := by omega
  go_loopw [40] (fun i wr => ∃ k : Nat, k ≤ x.names.length ∧ i = .int .i64 (k : Int) ∧ Bd wr B b (l1 ++ nmsText (x.names.take k)) ∧ Wr B b w wr) (fun i _ => x.names.length - (intOf i).toNat)
  case atStart => exact ⟨0, Nat.zero_le _, rfl, by rw [List.take_zero]; show Bd _ B b (l1 ++ []); rw [List.append_nil]; exact HBD.out, HWR.out⟩
  case round =>
    clear HBD HWR
    obtain ⟨k, hk, rfl, hbd, hwr⟩ := hrel
    have HB := Lib.hid hbd
    have HW := Lib.hid hwr
    clear hbd hwr
    by_cases hlt : k < x.names.length
    · obtain ⟨y, hy⟩ : ∃ y, x.names[k]? = some y := ⟨x.names[k], List.getElem?_eq_getElem hlt⟩
      rcases HNA.out with h0 | ⟨b2, o2, rfl, hb2, hc2⟩
      · rw [h0] at hlt; exact absurd hlt (Nat.not_lt_zero _)
      have ck := ((H00.out.trans HW.out.below).cell (p := ⟨b2, o2 + k, none⟩) hb2).trans (hc2 k _ hy)
      have HTK := Lib.hid (take_nms hy)
      have hys := HX.out.nm y (List.mem_of_getElem? hy)
      have hln := nms_len (x.names.take k) (fun y hy => HX.out.nm y (List.mem_of_mem_take hy))
      have hnl := HX.out.nl
      obtain ⟨l2, hl2⟩ : ∃ l2, l2 = l1 ++ nmsText (x.names.take k) := ⟨_, rfl⟩
      have hll : l2.length ≤ 140737400000000 := by
        rw [hl2, List.length_append]
        rw [List.length_take] at hln
        have : min k x.names.length * 65537 ≤ 4000 * 65537 := Nat.mul_le_mul_right _ (by omega)
        omega
      rw [← hl2] at HB
      have HL2 := Lib.hid hl2
      have hsum : ((⟨#[32]⟩ : ByteArray) ++ y).size = 1 + y.size := by rw [ByteArray.size_append]; rfl
      have HC := Lib.hid (ws_any B b l2 ((⟨#[32]⟩ : ByteArray) ++ y) wr HB.out (by rw [hsum]; omega))
      rw [add_list] at HC
      have hone : (⟨#[32]⟩ : ByteArray).size = 1 := rfl
      clear hc2 hy hln hl2 hsum
      go_wp2_with fail
      refine HC.out.mono ?_; rintro e w3 ⟨rfl, hb3, hw3⟩
      have HB3 := Lib.hid hb3
      have HW3 := Lib.hid (HW.out.trans hw3)
      clear hb3 hw3
      go_wp2_with fail
      go_roundw
      case rel => exact ⟨k + 1, by omega, by go_num, by rw [HTK.out, ← List.append_assoc, ← HL2.out]; exact HB3.out, HW3.out⟩
      case measure => simp [intOf]; omega
    · have hall : x.names.take k = x.names := List.take_of_length_le (by omega)
      have hL : L = l1 ++ nmsText (x.names.take k) := by rw [hall, HL1.out, HLF.out, List.append_assoc]
      have HB4 : Hid (Bd wr B b L) := Lib.hid (by rw [hL]; exact HB.out)
      clear hall hL
      go_wp2_with fail
      go_end0
      exact ⟨rfl, HB4.out, HW.out⟩
end Go.Proofs.YtjlpklhibdkmeaaGreatDoor
