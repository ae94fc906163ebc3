/- selkielaw05.alive: the document's examples. -/
import Derived.Test.YtbeckfamnhfaeaaGreatDoorTo
namespace Go.Proofs.YtbeckfamnhfaeaaGreatDoor
open Go.RowKit

/-- Lex at a source whose tokens are known. -/
def LexOk (ts : List Tk) (w : World) (e : Ending) (w' : World) : Prop := ∃ v, e = .returned (.tuple #[v, .nilIface]) ∧ Toks w' v ts ∧ Below w.heap.size w w'
def LexBad (n : Int) (w : World) (e : Ending) (w' : World) : Prop := ∃ v, e = .returned (.tuple #[.slice none 0 0, v]) ∧ Flt w' v n ∧ Below w.heap.size w w'
theorem lex_ok (s : ByteArray) (w : World) (hs : s.size ≤ 10000) (h : Env w) {ts : List Tk} (hR : LexR (lastL s) s.data.toList (.ok ts)) : Calls Tryz.prog 10 #[.string s] w (LexOk ts w) :=
  (lex_any s w hs h.big h.mx).mono fun e w' ⟨hb, o, ho, hm⟩ => by
    cases ho.det hR
    obtain ⟨_, v, h1, h2⟩ := hm
    exact ⟨v, h1, h2, hb⟩
theorem lex_bad (s : ByteArray) (w : World) (hs : s.size ≤ 10000) (h : Env w) {n : Int} (hR : LexR (lastL s) s.data.toList (.error n)) : Calls Tryz.prog 10 #[.string s] w (LexBad n w) :=
  (lex_any s w hs h.big h.mx).mono fun e w' ⟨hb, o, ho, hm⟩ => by
    cases ho.det hR
    obtain ⟨v, h1, h2⟩ := hm
    exact ⟨v, h1, h2, hb⟩

theorem skip_done {l : List UInt8} (h1 : l.dropWhile blB = l) (h2 : Lib.hasPrefix l [45, 45] = false) : Skip l (.ok l) := .done h1 h2
theorem live_num : sgn (numN 9223372036854775807 [48, 120, 49, 48] : Int) = 16 := by decide +kernel
theorem live1 : LexR 1 [120, 61, 48, 120, 49, 48, 45, 45, 91, 91, 99, 93, 93, 46, 46, 39, 97, 92, 54, 53, 39] (.ok [(1, 1, 0, [120]), (5, 1, 0, [61]), (3, 1, 16, []), (5, 1, 0, [46, 46]), (4, 1, 0, [97, 65]), (0, 1, 0, [])]) := by
  have t1 : Tok [120, 61, 48, 120, 49, 48, 45, 45, 91, 91, 99, 93, 93, 46, 46, 39, 97, 92, 54, 53, 39] (some (1, 0, [120], [61, 48, 120, 49, 48, 45, 45, 91, 91, 99, 93, 93, 46, 46, 39, 97, 92, 54, 53, 39])) :=
    Tok.name (c := 120) (r := [61, 48, 120, 49, 48, 45, 45, 91, 91, 99, 93, 93, 46, 46, 39, 97, 92, 54, 53, 39]) (by decide)
  have t2 : Tok [61, 48, 120, 49, 48, 45, 45, 91, 91, 99, 93, 93, 46, 46, 39, 97, 92, 54, 53, 39] (some (5, 0, [61], [48, 120, 49, 48, 45, 45, 91, 91, 99, 93, 93, 46, 46, 39, 97, 92, 54, 53, 39])) :=
    Tok.sign (c := 61) (r := [48, 120, 49, 48, 45, 45, 91, 91, 99, 93, 93, 46, 46, 39, 97, 92, 54, 53, 39]) (by decide) (by decide) (by decide) (by decide)
  have t3 : Tok [48, 120, 49, 48, 45, 45, 91, 91, 99, 93, 93, 46, 46, 39, 97, 92, 54, 53, 39] (some (3, 16, [], [45, 45, 91, 91, 99, 93, 93, 46, 46, 39, 97, 92, 54, 53, 39])) := by
    have h := Tok.num (c := 48) (r := [120, 49, 48, 45, 45, 91, 91, 99, 93, 93, 46, 46, 39, 97, 92, 54, 53, 39]) (by decide) (by decide) (by decide +kernel)
    rw [show List.takeWhile nuB [48, 120, 49, 48, 45, 45, 91, 91, 99, 93, 93, 46, 46, 39, 97, 92, 54, 53, 39] = [48, 120, 49, 48] from by decide, live_num] at h
    exact h
  have k4 : comm [91, 91, 99, 93, 93, 46, 46, 39, 97, 92, 54, 53, 39] = some [46, 46, 39, 97, 92, 54, 53, 39] := by decide +kernel
  have t4 : Tok [46, 46, 39, 97, 92, 54, 53, 39] (some (5, 0, [46, 46], [39, 97, 92, 54, 53, 39])) :=
    Tok.sign (c := 46) (r := [46, 39, 97, 92, 54, 53, 39]) (by decide) (by decide) (by decide) (by decide)
  have k5 : esc [54, 53, 39] = some ([65], [39]) := by decide +kernel
  have t5 : Tok [39, 97, 92, 54, 53, 39] (some (4, 0, [97, 65], [])) :=
    Tok.text (c := 39) (r := [97, 92, 54, 53, 39]) (o := some ([97, 65], [])) (by decide) (by decide) (by decide) (.byte (o := some ([65], [])) (by decide) (by decide) (by decide) (.esc (o := some ([], [])) (by decide) k5 .shut))
  exact .step (o := .ok [(5, 1, 0, [61]), (3, 1, 16, []), (5, 1, 0, [46, 46]), (4, 1, 0, [97, 65]), (0, 1, 0, [])]) (skip_done (by decide) (by decide)) (by simp) t1
    (.step (o := .ok [(3, 1, 16, []), (5, 1, 0, [46, 46]), (4, 1, 0, [97, 65]), (0, 1, 0, [])]) (skip_done (by decide) (by decide)) (by simp) t2
      (.step (o := .ok [(5, 1, 0, [46, 46]), (4, 1, 0, [97, 65]), (0, 1, 0, [])]) (skip_done (by decide) (by decide)) (by simp) t3
        (.step (o := .ok [(4, 1, 0, [97, 65]), (0, 1, 0, [])]) (.more (by decide) k4 (skip_done (by decide) (by decide))) (by simp) t4
          (.step (o := .ok [(0, 1, 0, [])]) (skip_done (by decide) (by decide)) (by simp) t5 (.eof (skip_done (by decide) (by decide)))))))
theorem live2 : LexR 1 [49, 46, 53] (.error 1) := by
  have t : Tok [49, 46, 53] none := Tok.numBad (c := 49) (r := [46, 53]) (by decide) (by decide) (by decide +kernel)
  exact .tokBad (r := [49, 46, 53]) (skip_done (by decide) (by decide)) t
theorem live3 : LexR 1 [33] (.error 1) := by
  have t : Tok [33] none := Tok.sign (c := 33) (r := []) (by decide) (by decide) (by decide) (by decide)
  exact .tokBad (r := [33]) (skip_done (by decide) (by decide)) t

set_option maxHeartbeats 4000000 in
set_option maxRecDepth 100000 in
theorem alive_any (w : World) (h : Env w) : Calls Tryz.prog 7 #[] w fun e w' => e = .returned (.bool true) ∧ Below w.heap.size w w' := by
  have L1 := Lib.hid (fun W (h : Env W) => lex_ok ⟨#[120, 61, 48, 120, 49, 48, 45, 45, 91, 91, 99, 93, 93, 46, 46, 39, 97, 92, 54, 53, 39]⟩ W (by decide) h live1)
  have L2 := Lib.hid (fun W (h : Env W) => lex_bad ⟨#[49, 46, 53]⟩ W (by decide) h live2)
  have L3 := Lib.hid (fun W (h : Env W) => lex_bad ⟨#[33]⟩ W (by decide) h live3)
  have HE := Lib.hid h
  clear h
  go_enter Tryz.func7, Tryz.ntmps7
  go_wp2_with fail
  refine (L1.out _ HE.out).mono ?_; rintro e w1 ⟨v1, rfl, ht1, b1⟩
  have E1 := Lib.hid (HE.out.below b1)
  have HB1 := Lib.hid b1
  have T1 := Lib.hid ht1
  clear b1 ht1
  obtain ⟨g, cap, rfl, _, _, _⟩ := T1.out.ex
  go_wp2_with fail
  refine (L2.out _ E1.out).mono ?_; rintro e w2 ⟨v2, rfl, hf2, b2⟩
  have E2 := Lib.hid (E1.out.below b2)
  have HB2 := Lib.hid (HB1.out.trans (b2.mono HB1.out.size))
  have T2 := Lib.hid (T1.out.below b2)
  have F2 := Lib.hid hf2
  clear b2 hf2
  go_wp2_with fail
  refine (L3.out _ E2.out).mono ?_; rintro e w3 ⟨v3, rfl, hf3, b3⟩
  have E3 := Lib.hid (E2.out.below b3)
  have HB3 := Lib.hid (HB2.out.trans (b3.mono HB2.out.size))
  have T3 := Lib.hid (T2.out.below b3)
  have F23 := Lib.hid (F2.out.below b3)
  have F3 := Lib.hid hf3
  clear b3 hf3
  go_wp2_with fail
  refine (told_any _ _ _ E3.out F3.out).mono ?_; rintro e w4 ⟨rfl, b4⟩
  have E4 := Lib.hid (E3.out.below b4)
  have HB4 := Lib.hid (HB3.out.trans (b4.mono HB3.out.size))
  have T4 := Lib.hid (T3.out.below b4)
  have F24 := Lib.hid (F23.out.below b4)
  clear b4
  go_wp2_with fail
  refine (told_any _ _ _ E4.out F24.out).mono ?_; rintro e w5 ⟨rfl, b5⟩
  have HB5 := Lib.hid (HB4.out.trans (b5.mono HB4.out.size))
  have T5 := Lib.hid (T4.out.below b5)
  clear b5
  obtain ⟨g', cap', he, hcap, hgl, hcell⟩ := T5.out.ex
  obtain ⟨rfl, rfl⟩ : g = g' ∧ cap = cap' := by
    simp only [Value.slice.injEq, Option.some.injEq, Addr.mk.injEq, and_true, true_and] at he
    exact he
  have c0 : w5.cell? ⟨g, 3, none⟩ = some (.string ⟨#[120]⟩) := (hcell 0 _ rfl).2.2.2
  have c2 : w5.cell? ⟨g, 10, none⟩ = some (.int .i64 16) := (hcell 2 _ rfl).2.2.1
  have c3 : w5.cell? ⟨g, 15, none⟩ = some (.string ⟨#[46, 46]⟩) := (hcell 3 _ rfl).2.2.2
  have c4 : w5.cell? ⟨g, 19, none⟩ = some (.string ⟨#[97, 65]⟩) := (hcell 4 _ rfl).2.2.2
  have c5 : w5.cell? ⟨g, 20, none⟩ = some (.int .i64 0) := (hcell 5 _ rfl).1
  clear hcell he hcap hgl
  go_wp2_with fail
  go_ret
  exact ⟨rfl, HB5.out⟩
end Go.Proofs.YtbeckfamnhfaeaaGreatDoor
