/- What the laws on one, two and three values share: the look for long texts, Raw under a known answer, and the plain mathematics of Raw and Less. -/
import Derived.Test.YtodlamblemmckaaDoorAli
namespace Go.Proofs.YtodlamblemmckaaDoor
open Go.RowKit Go.Sort

theorem at_new_2 (w : World) (o o' : Obj) (k n : Int) (s : ByteArray) : At (((w.alloc o).alloc o').alloc (vcells k n s)) (w.heap.size + 1 + 1) k n s := by
  have h := at_new ((w.alloc o).alloc o') k n s
  simpa using h

def f3 {α : Type} (x y z : α) : Nat → α
  | 0 => x
  | 1 => y
  | _ => z

theorem row1 (w : World) (ka na : Int) (sa : ByteArray) :
    Row (w.alloc (.cells #[.int .i64 ka, .int .i64 na, .string sa] 23)) w.heap.size 1 (f3 ka ka ka) (f3 na na na) (f3 sa sa sa) := by
  intro i hi
  obtain rfl : i = 0 := by omega
  refine ⟨?_, ?_, ?_⟩ <;> simp [go_sem, f3]
theorem row2 (w : World) (ka na kb nb : Int) (sa sb : ByteArray) :
    Row (w.alloc (.cells #[.int .i64 ka, .int .i64 na, .string sa, .int .i64 kb, .int .i64 nb, .string sb] 23)) w.heap.size 2 (f3 ka kb kb) (f3 na nb nb) (f3 sa sb sb) := by
  intro i hi
  rcases (show i = 0 ∨ i = 1 by omega) with rfl | rfl <;> refine ⟨?_, ?_, ?_⟩ <;> simp [go_sem, f3]
theorem row3 (w : World) (ka na kb nb kc nc : Int) (sa sb sc : ByteArray) :
    Row (w.alloc (.cells #[.int .i64 ka, .int .i64 na, .string sa, .int .i64 kb, .int .i64 nb, .string sb, .int .i64 kc, .int .i64 nc, .string sc] 23)) w.heap.size 3 (f3 ka kb kc) (f3 na nb nc) (f3 sa sb sc) := by
  intro i hi
  rcases (show i = 0 ∨ i = 1 ∨ i = 2 by omega) with rfl | rfl | rfl <;> refine ⟨?_, ?_, ?_⟩ <;> simp [go_sem, f3]

def bigB (sa sb sc : ByteArray) : Bool := decide (100000 < sa.size ∨ 100000 < sb.size ∨ 100000 < sc.size)
theorem bool_of {r q : Bool} (h : r = true ↔ q = true) : r = q := by cases r <;> cases q <;> simp_all

theorem great1 (ka na : Int) (sa : ByteArray) (w : World) (r : Bool) (h : bigB sa sa sa = r) :
    Calls Tryd.prog 9 #[.slice (some ⟨w.heap.size, 0, none⟩) 1 1] (w.alloc (.cells #[.int .i64 ka, .int .i64 na, .string sa] 23))
      fun e w' => e = .returned (.bool r) ∧ Below w.heap.size w w' := by
  subst h
  refine (great_any w.heap.size 1 _ _ _ _ (by omega) (row1 w ka na sa)).mono ?_
  rintro e w' ⟨r, hr, rfl, hb⟩
  refine ⟨?_, thenB (below1 _ _) hb⟩
  rw [bool_of (r := r) (q := bigB sa sa sa) (hr.trans ?_)]
  simp only [bigB, someBig, decide_eq_true_eq]
  constructor
  · rintro ⟨i, hi, h⟩
    obtain rfl : i = 0 := by omega
    exact .inl h
  · rintro (h | h | h) <;> exact ⟨0, by omega, h⟩
theorem great2 (ka na kb nb : Int) (sa sb : ByteArray) (w : World) (r : Bool) (h : bigB sa sb sb = r) :
    Calls Tryd.prog 9 #[.slice (some ⟨w.heap.size, 0, none⟩) 2 2] (w.alloc (.cells #[.int .i64 ka, .int .i64 na, .string sa, .int .i64 kb, .int .i64 nb, .string sb] 23))
      fun e w' => e = .returned (.bool r) ∧ Below w.heap.size w w' := by
  subst h
  refine (great_any w.heap.size 2 _ _ _ _ (by omega) (row2 w ka na kb nb sa sb)).mono ?_
  rintro e w' ⟨r, hr, rfl, hb⟩
  refine ⟨?_, thenB (below1 _ _) hb⟩
  rw [bool_of (r := r) (q := bigB sa sb sb) (hr.trans ?_)]
  simp only [bigB, someBig, decide_eq_true_eq]
  constructor
  · rintro ⟨i, hi, h⟩
    rcases (show i = 0 ∨ i = 1 by omega) with rfl | rfl
    · exact .inl h
    · exact .inr (.inl h)
  · rintro (h | h | h)
    · exact ⟨0, by omega, h⟩
    · exact ⟨1, by omega, h⟩
    · exact ⟨1, by omega, h⟩
theorem great3 (ka na kb nb kc nc : Int) (sa sb sc : ByteArray) (w : World) (r : Bool) (h : bigB sa sb sc = r) :
    Calls Tryd.prog 9 #[.slice (some ⟨w.heap.size, 0, none⟩) 3 3] (w.alloc (.cells #[.int .i64 ka, .int .i64 na, .string sa, .int .i64 kb, .int .i64 nb, .string sb, .int .i64 kc, .int .i64 nc, .string sc] 23))
      fun e w' => e = .returned (.bool r) ∧ Below w.heap.size w w' := by
  subst h
  refine (great_any w.heap.size 3 _ _ _ _ (by omega) (row3 w ka na kb nb kc nc sa sb sc)).mono ?_
  rintro e w' ⟨r, hr, rfl, hb⟩
  refine ⟨?_, thenB (below1 _ _) hb⟩
  rw [bool_of (r := r) (q := bigB sa sb sc) (hr.trans ?_)]
  simp only [bigB, someBig, decide_eq_true_eq]
  constructor
  · rintro ⟨i, hi, h⟩
    rcases (show i = 0 ∨ i = 1 ∨ i = 2 by omega) with rfl | rfl | rfl
    · exact .inl h
    · exact .inr (.inl h)
    · exact .inr (.inr h)
  · rintro (h | h | h)
    · exact ⟨0, by omega, h⟩
    · exact ⟨1, by omega, h⟩
    · exact ⟨2, by omega, h⟩

theorem raw_is (k n : Int) (s : ByteArray) (j m : Int) (t : ByteArray) (r : Bool) (w : World) (h : rawB k n s j m t = r) :
    Calls Tryd.prog 22 #[V k n s, V j m t] w fun e w' => e = .returned (.bool r) ∧ Below w.heap.size w w' := h ▸ raw_any k n s j m t w
theorem less_is (k n j m : Int) (s t : ByteArray) (r o : Bool) (w : World) (h : lesB k n s j m t = r ∧ lesO k j = o) :
    Calls Tryd.prog 20 #[V k n s, V j m t] w fun e w' => e = .returned (.tuple #[.bool r, .bool o]) ∧ Below w.heap.size w w' := by
  obtain ⟨rfl, rfl⟩ := h
  exact less_any k n j m s t w
theorem typ_is (k n : Int) (s t : ByteArray) (w : World) (h : typB k = t) : Calls Tryd.prog 14 #[V k n s] w fun e w' => e = .returned (.string t) ∧ Below w.heap.size w w' := h ▸ type_any k n s w

/-! The plain mathematics of Raw. -/
theorem raw_symm (k n : Int) (s : ByteArray) (j m : Int) (t : ByteArray) : rawB j m t k n s = rawB k n s j m t := by
  unfold rawB
  congr 1
  refine propext ⟨?_, ?_⟩
  · rintro ⟨rfl, h, h1, h2⟩; exact ⟨rfl, h, h1.symm, h2.symm⟩
  · rintro ⟨rfl, h, h1, h2⟩; exact ⟨rfl, h, h1.symm, h2.symm⟩
theorem raw_trans {k n : Int} {s : ByteArray} {j m : Int} {t : ByteArray} {i p : Int} {u : ByteArray} (h1 : rawB k n s j m t = true) (h2 : rawB j m t i p u = true) : rawB k n s i p u = true := by
  unfold rawB at *
  simp only [decide_eq_true_eq] at *
  obtain ⟨rfl, h, e1, e2⟩ := h1
  obtain ⟨rfl, _, e3, e4⟩ := h2
  exact ⟨rfl, h, e1.trans e3, e2.trans e4⟩
theorem raw_self (k n : Int) (s : ByteArray) : rawB k n s k n s = !strB k := by
  unfold rawB
  cases strB k <;> simp
theorem raw_not_strange {k n : Int} {s : ByteArray} {j m : Int} {t : ByteArray} (h : rawB k n s j m t = true) : k = j ∧ strB k = false ∧ ownN k n = ownN j m ∧ (ownS k s).toList = (ownS j t).toList := by
  unfold rawB at h
  simpa using h

end Go.Proofs.YtodlamblemmckaaDoor
