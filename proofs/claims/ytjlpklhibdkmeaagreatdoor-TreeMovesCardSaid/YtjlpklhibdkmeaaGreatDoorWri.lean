/- tree.write: a node's text and that of all that hangs on it. -/
import Derived.Test.YtjlpklhibdkmeaaGreatDoorWfop
import Derived.Test.YtjlpklhibdkmeaaGreatDoorRgt
import Derived.Test.YtjlpklhibdkmeaaGreatDoorWfnum
import Derived.Test.YtjlpklhibdkmeaaGreatDoorWfs
import Derived.Test.YtjlpklhibdkmeaaGreatDoorWfnone
import Derived.Deep.RegionHeld3
namespace Go.Proofs.YtjlpklhibdkmeaaGreatDoor
open Go.RowKit

theorem wf_any (x : Nd) (nv kv : Value) (b : Nat) (l : List UInt8) (w00 w : World) (hx : NdW x) (hnv : Strs w00 nv x.names) (hkv : ∃ A n c, kv = .slice A n c) (h00 : Below w00.heap.size w00 w) (hbd : Bd w w00.heap.size b l) (hlen : l.length ≤ 140736000000000) (hT : Tab w00) :
    Calls Tryz.prog 28 #[.pointer (some ⟨b, 0, none⟩), nodeV x nv kv] w fun e w' => e = .returned (.tuple #[]) ∧ Bd w' w00.heap.size b (l ++ (fldText x ++ nmsText x.names)) ∧ Wr w00.heap.size b w w' := by
  rcases has_all x.kind with ⟨h1, h2, h4⟩ | ⟨h1, h2, h4⟩ | ⟨h1, h2, h4⟩ | ⟨h1, h2, h4⟩
  · exact wf_op x nv kv b l w00 w hx hnv hkv h00 hbd hlen hT h1 h2 h4
  · exact wf_num x nv kv b l w00 w hx hnv hkv h00 hbd hlen hT h1 h2 h4
  · exact wf_s x nv kv b l w00 w hx hnv hkv h00 hbd hlen hT h1 h2 h4
  · exact wf_none x nv kv b l w00 w hx hnv hkv h00 hbd hlen hT h1 h2 h4
def topText (x : Nd) : List UInt8 := 40 :: (wordK x.kind.toNat).data.toList ++ 64 :: Lib.itoa x.line
def hdK (x : Nd) : List UInt8 := topText x ++ (fldText x ++ nmsText x.names)
theorem kword_any (k : Int) (h0 : 1 ≤ k) (h1 : k ≤ 32) (w : World) : Calls Tryz.prog 26 #[.int .i64 k] w fun e w' => e = .returned (.string (wordK k.toNat)) ∧ Below w.heap.size w w' := by
  obtain ⟨q, rfl⟩ : ∃ q : Nat, k = (q : Int) := ⟨k.toNat, by omega⟩
  rw [Int.toNat_natCast]
  exact word_k q (by omega) w
theorem undrew {v w : World} (h : Below v.drew.heap.size v.drew w) : Below v.heap.size v w := ⟨h.os, h.tape, h.output, h.size, h.block⟩
theorem take_kids {T : List Nd} {f : Nat} {l : List Int} {k : Nat} {z : Int} (h : l[k]? = some z) : ((l.take (k + 1)).flatMap fun z => 32 :: text hdK T f z.toNat) = ((l.take k).flatMap fun z => 32 :: text hdK T f z.toNat) ++ (32 :: text hdK T f z.toNat) := by
  rw [take_snoc' l k z h, List.flatMap_append, List.flatMap_cons, List.flatMap_nil, List.append_nil]
theorem part_le {T : List Nd} {f : Nat} {l : List Int} {k : Nat} {z : Int} (h : l[k]? = some z) : ((l.take k).flatMap fun z => 32 :: text hdK T f z.toNat).length + 1 + (text hdK T f z.toNat).length ≤ (l.flatMap fun z => 32 :: text hdK T f z.toNat).length := by
  have h1 : l.flatMap (fun z => 32 :: text hdK T f z.toNat) = (l.take (k + 1)).flatMap (fun z => 32 :: text hdK T f z.toNat) ++ (l.drop (k + 1)).flatMap (fun z => 32 :: text hdK T f z.toNat) := by
    rw [← List.flatMap_append, List.take_append_drop]
  rw [h1, take_kids h, List.length_append, List.length_append, List.length_cons]
  omega
theorem top_list (x : Nd) : ((⟨#[40]⟩ : ByteArray) ++ wordK x.kind.toNat ++ (⟨#[64]⟩ : ByteArray) ++ dig x.line).data.toList = topText x := by
  rw [ByteArray.data_append, ByteArray.data_append, ByteArray.data_append, Array.toList_append, Array.toList_append, Array.toList_append, dig_list]
  unfold topText
  show [40] ++ _ ++ [64] ++ _ = _
  simp
set_option maxHeartbeats 8000000 in
set_option maxRecDepth 20000 in
theorem write_any (T : List Nd) (bk o c r : Nat) (d : Nat → Nat) (m : List Nat) (b : Nat) (w00 : World) (hs : Snd T r d m) (hX : ∀ x ∈ T, NdW x) (hn : NodesIn w00 bk o T) (hbk : bk < w00.heap.size) (hT : Tab w00) (hN : T.length ≤ 16384) :
    ∀ (f i : Nat) (l : List UInt8) (w : World), d i + f = T.length + 2 → i < T.length → Below w00.heap.size w00 w → Bd w w00.heap.size b l → l.length + (text hdK T f i).length ≤ 140734000000000 →
      Calls Tryz.prog 15 #[.pointer (some ⟨b, 0, none⟩), .slice (some ⟨bk, o, none⟩) T.length c, .int .i64 (i : Int)] w fun e w' => e = .returned (.tuple #[]) ∧ Bd w' w00.heap.size b (l ++ text hdK T f i) ∧ Wr w00.heap.size b w w' := by
  intro f
  induction f with
  | zero =>
    intro i l w hd hi
    have := hs.bound i
    omega
  | succ f ih =>
    intro i l w hd hi h00 hbd hlen
    obtain ⟨x, hxi⟩ : ∃ x, T[i]? = some x := ⟨T[i], List.getElem?_eq_getElem hi⟩
    have hx := hX x (List.mem_of_getElem? hxi)
    obtain ⟨nv, kv, hna0, hst, hnu⟩ := hn i x hxi
    have hna := hna0.below h00 hbk
    have hkid := snd_kids hs hxi
    have hkl : x.kids.length ≤ 16384 := Nat.le_trans hkid.2 hN
    have hkd : ∀ z ∈ x.kids, d z.toNat = d i + 1 := fun z hz => (hs.kid i (hs.mem hi) z (by rw [kids_of hxi]; exact hz)).2.2
    have htx := text_step hdK (f := f) hxi
    rw [htx] at hlen
    rw [htx]
    have HSS := Lib.hid hst
    have HNU := Lib.hid hnu
    obtain ⟨NA, nc, rfl, _, _⟩ := hst
    obtain ⟨KA, kc, rfl, _, hka⟩ := hnu
    have HKA := Lib.hid hka
    obtain ⟨FM, hFM⟩ : ∃ FM, FM = x.kids.flatMap fun z => 32 :: text hdK T f z.toNat := ⟨_, rfl⟩
    rw [← hFM] at hlen
    have hhd : (hdK x).length = (topText x).length + (fldText x ++ nmsText x.names).length := by unfold hdK; rw [List.length_append]
    have htl : (topText x).length = ((⟨#[40]⟩ : ByteArray) ++ wordK x.kind.toNat ++ (⟨#[64]⟩ : ByteArray) ++ dig x.line).size := by rw [Lib.size_eq, top_list]
    rw [List.length_append, List.length_append, List.length_cons, List.length_nil, hhd] at hlen
    have HGOAL : Hid (l ++ (hdK x ++ (x.kids.flatMap fun z => 32 :: text hdK T f z.toNat) ++ [41]) = (l ++ topText x ++ (fldText x ++ nmsText x.names) ++ FM) ++ [41]) := Lib.hid (by rw [hFM]; unfold hdK; simp only [List.append_assoc])
    rw [HGOAL.out]
    have HFM := Lib.hid hFM
    have HLEN := Lib.hid hlen
    have HWF := Lib.hid (fun b l W h1 h2 h3 => wf_any x (.slice NA x.names.length nc) (.slice KA x.kids.length kc) b l w00 W hx HSS.out ⟨_, _, _, rfl⟩ h1 h2 h3 hT)
    have HTL := Lib.hid (top_list x)
    have HIH := Lib.hid ih
    have HKD := Lib.hid (And.intro hkid hkd)
    have HDI := Lib.hid hd
    clear ih hkid hkd hna0 htx hFM hhd hlen hka hX hn hxi hd
    obtain ⟨c0, c1, c2, c3, c4, c5, c6⟩ := hna
    have hble := hbd.le
    have HTB := Lib.hid (fun W (h : Below w00.heap.size w00 W) => hT.below (w' := W) h)
    have H00 := Lib.hid h00
    have HWD := Lib.hid (fun W => kword_any x.kind hx.k0 hx.k1 W)
    have HIT := Lib.hid (fun W h => itoa_any x.line W h hx.l0 hx.l1)
    have hb0 := b_alloc w (.cells #[.int .i64 x.kind, .int .i64 x.line, .int .i64 x.op, .int .i64 x.num, .string x.s, .slice NA x.names.length nc, .slice KA x.kids.length kc] 32)
    have hbox := heap_alloc_new w (.cells #[.int .i64 x.kind, .int .i64 x.line, .int .i64 x.op, .int .i64 x.num, .string x.s, .slice NA x.names.length nc, .slice KA x.kids.length kc] 32)
    have hasz := asize w (.cells #[.int .i64 x.kind, .int .i64 x.line, .int .i64 x.op, .int .i64 x.num, .string x.s, .slice NA x.names.length nc, .slice KA x.kids.length kc] 32)
    obtain ⟨v, hv⟩ : ∃ v, v = w.alloc (.cells #[.int .i64 x.kind, .int .i64 x.line, .int .i64 x.op, .int .i64 x.num, .string x.s, .slice NA x.names.length nc, .slice KA x.kids.length kc] 32) := ⟨_, rfl⟩
    rw [← hv] at hb0 hbox hasz
    obtain ⟨g, hg⟩ : ∃ g, g = w.heap.size := ⟨_, rfl⟩
    rw [← hg] at hbox hasz
    have hgb : g ≠ b := by omega
    have HLT : Hid (g < v.heap.size) := Lib.hid (by omega)
    have HBOX := Lib.hid hbox
    have HWV : Hid (Wr w00.heap.size b w v) := Lib.hid (Wr.of (by omega) hb0)
    have HSZ : Hid (w00.heap.size ≤ v.heap.size) := Lib.hid (by omega)
    have HAX := Lib.hid (h00.trans (hb0.mono (by omega)))
    have HBDX := Lib.hid (hbd.below hb0)
    have HC := Lib.hid (node_box hbox)
    obtain ⟨W1, hW1⟩ : ∃ W1, W1 = wordK x.kind.toNat := ⟨_, rfl⟩
    have hW1s : W1.size ≤ 10 := by rw [hW1]; exact wordK_len _
    obtain ⟨S1, hS1⟩ : ∃ S1, S1 = dig x.line := ⟨_, rfl⟩
    have hS1s : S1.size ≤ 21 := by rw [hS1]; exact dig_len hx.l0 hx.l1
    rw [← hW1] at HWD
    rw [← hS1] at HIT
    rw [← hW1, ← hS1] at HTL htl
    have hsum : ((⟨#[40]⟩ : ByteArray) ++ W1 ++ (⟨#[64]⟩ : ByteArray) ++ S1).size = 2 + W1.size + S1.size := by
      rw [ByteArray.size_append, ByteArray.size_append, ByteArray.size_append]
      show 1 + W1.size + 1 + S1.size = _
      omega
    have HWS := Lib.hid (fun W h => ws_any w00.heap.size b l ((⟨#[40]⟩ : ByteArray) ++ W1 ++ (⟨#[64]⟩ : ByteArray) ++ S1) W h (by rw [hsum]; have := HLEN.out; omega))
    rw [HTL.out] at HWS
    have h40 : (⟨#[40]⟩ : ByteArray).size = 1 := rfl
    have h64 : (⟨#[64]⟩ : ByteArray).size = 1 := rfl
    have HV := Lib.hid hv
    have HG := Lib.hid hg
    have HX := Lib.hid hx
    have HTX : Hid ((topText x).length ≤ 40) := Lib.hid (by rw [htl, hsum]; omega)
    obtain ⟨l1, hl1⟩ : ∃ l1, l1 = l ++ topText x := ⟨_, rfl⟩
    have hl1n : l1.length = l.length + (topText x).length := by rw [hl1, List.length_append]
    obtain ⟨l2, hl2⟩ : ∃ l2, l2 = l1 ++ (fldText x ++ nmsText x.names) := ⟨_, rfl⟩
    have hl2n : l2.length = l1.length + (fldText x ++ nmsText x.names).length := by rw [hl2, List.length_append]
    rw [← hl1] at HWS ⊢
    rw [← hl2]
    have HL2 := Lib.hid hl2
    have HLN : Hid (l2.length + FM.length + 1 ≤ 140734000000000 ∧ l1.length ≤ 140734000000000) := Lib.hid (by have := HLEN.out; omega)
    clear hx hbd h00 hT hb0 hW1 hS1 hsum htl hbox hasz hv hl1 hl1n hl2 hl2n HTL HGOAL HLEN
    have HKC := Lib.hid (And.intro c0 c1)
    go_enter Tryz.func15, Tryz.ntmps15
    go_wp2_with fail
    rw [← HV.out, ← HG.out]
    rename_i K1 hK1
    have HK1 := Lib.hid hK1
    clear hK1 hg c0 c1 c2 c3 c4 c5 c6 HKC
    have n1 : (9223372036854775807 < 1 + W1.size) = False := eq_false (by omega)
    have n2 : (9223372036854775807 < 1 + W1.size + 1) = False := eq_false (by omega)
    have n3 : (9223372036854775807 < 1 + W1.size + 1 + S1.size) = False := eq_false (by omega)
    have k0 : Hid (v.cell? ⟨g, 0, none⟩ = some (.int .i64 x.kind) ∧ v.cell? ⟨g, 1, none⟩ = some (.int .i64 x.line)) := Lib.hid ⟨HC.out.c0, HC.out.c1⟩
    have d0 := k0.out.1
    have d1 := k0.out.2
    go_region_held3 (fun w' => w'.cell? ⟨g, 0, none⟩ = some (.int .i64 x.kind) ∧ w'.cell? ⟨g, 1, none⟩ = some (.int .i64 x.line))
      (first | exact k4.out | exact k3.out | exact k2.out | exact k0.out)
      (first
        | (go_at_call 26; refine (HWD.out _).mono ?_; rintro e w2 ⟨rfl, b2'⟩; have bX := Lib.hid (undrew b2'); have k2 : Hid (w2.cell? ⟨g, 0, none⟩ = some (.int .i64 x.kind) ∧ w2.cell? ⟨g, 1, none⟩ = some (.int .i64 x.line)) := Lib.hid ⟨(bX.out.cell (p := ⟨g, 0, none⟩) HLT.out).trans k0.out.1, (bX.out.cell (p := ⟨g, 1, none⟩) HLT.out).trans k0.out.2⟩; clear b2')
        | (go_at_call 27; refine (HIT.out _ (HTB.out _ (thenB HAX.out bX.out))).mono ?_; rintro e w3 ⟨rfl, b3'⟩; have b3 := Lib.hid (thenB bX.out b3'); have k3 : Hid (w3.cell? ⟨g, 0, none⟩ = some (.int .i64 x.kind) ∧ w3.cell? ⟨g, 1, none⟩ = some (.int .i64 x.line)) := Lib.hid ⟨(b3.out.cell (p := ⟨g, 0, none⟩) HLT.out).trans k0.out.1, (b3.out.cell (p := ⟨g, 1, none⟩) HLT.out).trans k0.out.2⟩; clear b3')
        | (go_at_call 25; refine (HWS.out _ (HBDX.out.below b3.out)).mono ?_; rintro e w4 ⟨rfl, hb4', hw4'⟩; have hb4 := Lib.hid hb4'; have hw4 := Lib.hid ((Wr.of HSZ.out b3.out).trans hw4'); clear hb4' hw4'; have k4 : Hid (w4.cell? ⟨g, 0, none⟩ = some (.int .i64 x.kind) ∧ w4.cell? ⟨g, 1, none⟩ = some (.int .i64 x.line)) := (by have hnb := node_box (box_wr HBOX.out hw4.out hgb); exact Lib.hid ⟨hnb.c0, hnb.c1⟩)))
    all_goals
      clear k0 k2 k3 k4 d0 d1 bX b3 HWS HIT HWD HTB
      have HBX4 := Lib.hid (box_wr HBOX.out hw4.out hgb)
      have HW4 := Lib.hid (HWV.out.trans hw4.out)
      obtain ⟨c0, c1, c2, c3, c4, c5, c6⟩ := node_box HBX4.out
      have hK1 := HK1.out
      go_wp2_with fail
      clear c0 c1 c2 c3 c4 c5 c6
      refine (HWF.out b l1 w4 (HAX.out.trans hw4.out.below) hb4.out (by have := HLN.out.2; omega)).mono ?_
      rintro e w5 ⟨rfl, hb5', hw5'⟩
      rw [← HL2.out] at hb5'
      have hb5 := Lib.hid hb5'
      obtain ⟨c0, c1, c2, c3, c4, c5, c6⟩ := node_box (box_wr HBX4.out hw5' hgb)
      have hw5 := Lib.hid (HW4.out.trans hw5')
      clear hb5' hw5' hb4 hw4 HBX4 HW4 HWF HK1 h40 h64
      go_wp2_with fail
      clear c0 c1 c2 c3 c4 c5 c6
      go_loopw [30] (fun j wr => ∃ k : Nat, k ≤ x.kids.length ∧ j = .int .i64 (k : Int) ∧ Bd wr w00.heap.size b (l2 ++ (x.kids.take k).flatMap fun z => 32 :: text hdK T f z.toNat) ∧ Wr w00.heap.size b w wr) (fun j _ => x.kids.length - (intOf j).toNat)
      case atStart => exact ⟨0, Nat.zero_le _, rfl, by rw [List.take_zero, List.flatMap_nil, List.append_nil]; exact hb5.out, hw5.out⟩
      case round =>
        clear hb5 hw5
        obtain ⟨k, hk, rfl, hbd, hwr⟩ := hrel
        have HB := Lib.hid hbd
        have HW := Lib.hid hwr
        clear hbd hwr
        by_cases hlt : k < x.kids.length
        · have HLK := Lib.hid hlt
          obtain ⟨z, hz⟩ : ∃ z, x.kids[k]? = some z := ⟨x.kids[k], List.getElem?_eq_getElem hlt⟩
          have hzm := List.mem_of_getElem? hz
          obtain ⟨z0, z1⟩ := HKD.out.1.1 z hzm
          have hzd := HKD.out.2 z hzm
          have hpl := part_le (T := T) (f := f) hz
          rw [← HFM.out] at hpl
          have HTK := Lib.hid (take_kids (T := T) (f := f) hz)
          obtain ⟨q, rfl⟩ : ∃ q : Nat, z = (q : Int) := ⟨z.toNat, by omega⟩
          rw [Int.toNat_natCast] at hzd hpl HTK
          have hq : q < T.length := by omega
          rcases HKA.out with h0 | ⟨b2, o2, rfl, hb2, hc2⟩
          · rw [h0] at hlt; exact absurd hlt (Nat.not_lt_zero _)
          have ck := ((H00.out.trans HW.out.below).cell (p := ⟨b2, o2 + k, none⟩) hb2).trans (hc2 k _ hz)
          obtain ⟨l3, hl3⟩ : ∃ l3, l3 = l2 ++ (x.kids.take k).flatMap fun z => 32 :: text hdK T f z.toNat := ⟨_, rfl⟩
          have hl3n : l3.length = l2.length + ((x.kids.take k).flatMap fun z => 32 :: text hdK T f z.toNat).length := by rw [hl3, List.length_append]
          rw [← hl3] at HB
          have HL3 := Lib.hid hl3
          have hll := HLN.out.1
          have HC1 := Lib.hid (wb_any w00.heap.size b l3 32 32 rfl wr HB.out (by omega))
          have HC2 := Lib.hid (fun W h1 h2 => HIH.out q (l3 ++ [32]) W (by have := HDI.out; omega) hq h1 h2 (by rw [List.length_append, List.length_cons, List.length_nil]; omega))
          clear hc2 hz hzm z0 z1 hzd hpl hl3 hl3n hll
          go_wp2_with fail
          refine HC1.out.mono ?_; rintro e w6 ⟨rfl, hb6, hw6⟩
          have HB6 := Lib.hid hb6
          have HW6 := Lib.hid (HW.out.trans hw6)
          clear hb6 hw6
          go_wp2_with fail
          refine (HC2.out w6 (H00.out.trans HW6.out.below) HB6.out).mono ?_; rintro e w7 ⟨rfl, hb7, hw7⟩
          have HB7 := Lib.hid hb7
          have HW7 := Lib.hid (HW6.out.trans hw7)
          clear hb7 hw7
          go_wp2_with fail
          go_roundw
          case rel => exact ⟨k + 1, by have := HLK.out; omega, by go_num, by rw [HTK.out, ← List.append_assoc, ← HL3.out]; have := HB7.out; rw [List.append_assoc] at this; exact this, HW7.out⟩
          case measure => have := HLK.out; simp [intOf]; omega
        · have hall : x.kids.take k = x.kids := List.take_of_length_le (by omega)
          have HB8 : Hid (Bd wr w00.heap.size b (l2 ++ FM)) := Lib.hid (by rw [HFM.out]; have := HB.out; rw [hall] at this; exact this)
          have HC3 := Lib.hid (wb_any w00.heap.size b (l2 ++ FM) 41 41 rfl wr HB8.out (by rw [List.length_append]; have := HLN.out.1; omega))
          clear hall HB8
          go_wp2_with fail
          refine HC3.out.mono ?_; rintro e w9 ⟨rfl, hb9, hw9⟩
          have HB9 := Lib.hid hb9
          have HW9 := Lib.hid (HW.out.trans hw9)
          clear hb9 hw9
          go_wp2_with fail
          go_end0
          exact ⟨rfl, HB9.out, HW9.out⟩
end Go.Proofs.YtjlpklhibdkmeaaGreatDoor
