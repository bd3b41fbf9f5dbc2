/-
  The contracts of paren's Forth and Back: for every row, stretch and excess; memory is but made.
-/
import Derived.Test.YtdjhpfojbnikdaaPnMeet
namespace Go.Proofs.Ytdjhpfojbnikdaa
open Go.RowKit
set_option maxHeartbeats 1000000 in
theorem Forth_any (r n X : Nat) (a t d : Int) (u : Value) (w : World) (h : Rw w r n X u) :
    Calls Try.prog 29 #[.pointer (some ⟨r, 0, none⟩), .int .i64 a, .int .i64 t, .int .i64 d] w fun e w' => e = .returned (.int .i64 (Pn.forth X (Pn.fr n a) (Pn.to n a t) d)) ∧ Below w.heap.size w w' := by
  have HR := hidden h
  have hl := h.len
  obtain ⟨hA, hB⟩ := Pn.fr_to n a t
  have HE := hidden (fun W => ends_any r n X a t u W)
  generalize Pn.fr n a = f at *
  generalize Pn.to n a t = g at *
  clear h
  go_enter Try.func29, Try.ntmps29
  go_wp2_with fail
  obtain ⟨w2, hw2⟩ : ∃ w2, w2 = ((w.alloc (.cells #[.pointer (some ⟨r, 0, none⟩)] 29)).alloc (.cells #[.int .i64 a] 3)) := ⟨_, rfl⟩
  rw [← hw2]
  have hk2 : w2.heap[w.heap.size]? = some (.cells #[.pointer (some ⟨r, 0, none⟩)] 29 (0, 0)) := by rw [hw2, Below.heap_alloc _ _ _ (by simp)]; exact heap_alloc_new _ _
  have hf2 : w2.heap[w.heap.size + 1]? = some (.cells #[.int .i64 a] 3 (0, 0)) := by rw [hw2]; exact heap_new_at (by simp)
  have hb2 : Below w.heap.size w w2 := by rw [hw2]; exact ((Below.refl _ _).alloc (Nat.le_refl _) _).alloc (by simp) _
  have HR2 := hidden (HR.out.below hb2 (Nat.le_refl _))
  have HB2 := hidden hb2
  have HK2 := hidden hk2
  have HF2 := hidden hf2
  clear hw2 hb2
  refine (HE.out _ HR2.out).mono ?_
  rintro e1 w3 ⟨rfl, rfl⟩
  have c0 := Lib.cell_of_heap hk2 0
  have c1 := Lib.cell_of_heap hf2 0
  have z1 := Lib.frozen_of_heap hf2 0
  clear hk2 hf2
  go_wp2_with fail
  obtain ⟨w4, hw4⟩ : ∃ w4, w4 = w3.setCell ⟨w.heap.size + 1, 0, none⟩ (.int .i64 (f : Int)) := ⟨_, rfl⟩
  rw [← hw4]
  have hb4 : Below w.heap.size w w4 := by rw [hw4]; exact HB2.out.setCell (by show _ ≤ w.heap.size + 1; omega) _
  have k4 : w4.cell? ⟨w.heap.size, 0, none⟩ = some (.pointer (some ⟨r, 0, none⟩)) := by
    have : w4.heap[w.heap.size]? = _ := (by rw [hw4]; exact setCell_heap_other _ _ _ _ (by show _ ≠ w.heap.size + 1; omega) : w4.heap[w.heap.size]? = w3.heap[w.heap.size]?).trans HK2.out
    exact Lib.cell_of_heap this 0
  have f4 : w4.cell? ⟨w.heap.size + 1, 0, none⟩ = some (.int .i64 (f : Int)) := by
    have : w4.heap[w.heap.size + 1]? = some (.cells #[.int .i64 (f : Int)] 3 (0, 0)) := by rw [hw4, setCell_heap_same _ _ _ _ _ _ _ HF2.out]; rfl
    exact Lib.cell_of_heap this 0
  have HR4 := hidden (HR.out.below hb4 (Nat.le_refl _))
  have HB4 := hidden hb4
  have K4 := hidden k4
  clear hw4 hb4 k4 c0 c1 z1
  have hgf : (g : Int) - (f : Int) = ((g - f : Nat) : Int) := by omega
  rw [hgf]
  refine (meet_any 46 (g - f) (X / 2 ^ f) d _ w4 (forth_reads r n X f g _ _ u w4 HR4.out hA hB K4.out f4) (by omega)).mono ?_
  rintro e1 w5 ⟨rfl, rfl⟩
  have hPF : Pn.forth X f g d = if Wd.find (X / 2 ^ f) (g - f) d = 0 then -1 else (f : Int) + Wd.find (X / 2 ^ f) (g - f) d - 1 := rfl
  have hle := Wd.find_le (X / 2 ^ f) (g - f) d
  obtain ⟨k, hk⟩ : ∃ k, k = Wd.find (X / 2 ^ f) (g - f) d := ⟨_, rfl⟩
  rw [← hk] at hPF hle ⊢
  have HPF := hidden hPF
  have hk2 : k ≤ 4294967296 := by omega
  clear hPF hk hle hgf
  by_cases hk0 : k = 0
  · subst hk0
    go_wp2_with fail
    go_ret
    exact ⟨ret_int (by rw [HPF.out]; rfl), HB4.out⟩
  · have hz : ((k : Int) == 0) = false := by simpa using hk0
    have HK0 := hidden hk0
    clear hk0
    go_wp2_with fail
    go_ret
    exact ⟨ret_int (by rw [HPF.out, if_neg HK0.out]), HB4.out⟩
set_option maxHeartbeats 1000000 in
theorem Back_any (r n X : Nat) (a t d : Int) (u : Value) (w : World) (h : Rw w r n X u) :
    Calls Try.prog 34 #[.pointer (some ⟨r, 0, none⟩), .int .i64 a, .int .i64 t, .int .i64 d] w fun e w' => e = .returned (.int .i64 (Pn.back X (Pn.fr n a) (Pn.to n a t) d)) ∧ Below w.heap.size w w' := by
  have HR := hidden h
  have hl := h.len
  obtain ⟨hA, hB⟩ := Pn.fr_to n a t
  have HE := hidden (fun W => ends_any r n X a t u W)
  generalize Pn.fr n a = f at *
  generalize Pn.to n a t = g at *
  clear h
  go_enter Try.func34, Try.ntmps34
  go_wp2_with fail
  obtain ⟨w2, hw2⟩ : ∃ w2, w2 = ((w.alloc (.cells #[.pointer (some ⟨r, 0, none⟩)] 29)).alloc (.cells #[.int .i64 t] 3)) := ⟨_, rfl⟩
  rw [← hw2]
  have hk2 : w2.heap[w.heap.size]? = some (.cells #[.pointer (some ⟨r, 0, none⟩)] 29 (0, 0)) := by rw [hw2, Below.heap_alloc _ _ _ (by simp)]; exact heap_alloc_new _ _
  have hf2 : w2.heap[w.heap.size + 1]? = some (.cells #[.int .i64 t] 3 (0, 0)) := by rw [hw2]; exact heap_new_at (by simp)
  have hb2 : Below w.heap.size w w2 := by rw [hw2]; exact ((Below.refl _ _).alloc (Nat.le_refl _) _).alloc (by simp) _
  have HR2 := hidden (HR.out.below hb2 (Nat.le_refl _))
  have HB2 := hidden hb2
  have HK2 := hidden hk2
  have HF2 := hidden hf2
  clear hw2 hb2
  refine (HE.out _ HR2.out).mono ?_
  rintro e1 w3 ⟨rfl, rfl⟩
  have c0 := Lib.cell_of_heap hk2 0
  have c1 := Lib.cell_of_heap hf2 0
  have z1 := Lib.frozen_of_heap hf2 0
  clear hk2 hf2
  go_wp2_with fail
  obtain ⟨w4, hw4⟩ : ∃ w4, w4 = w3.setCell ⟨w.heap.size + 1, 0, none⟩ (.int .i64 (g : Int)) := ⟨_, rfl⟩
  rw [← hw4]
  have hb4 : Below w.heap.size w w4 := by rw [hw4]; exact HB2.out.setCell (by show _ ≤ w.heap.size + 1; omega) _
  have k4 : w4.cell? ⟨w.heap.size, 0, none⟩ = some (.pointer (some ⟨r, 0, none⟩)) := by
    have : w4.heap[w.heap.size]? = _ := (by rw [hw4]; exact setCell_heap_other _ _ _ _ (by show _ ≠ w.heap.size + 1; omega) : w4.heap[w.heap.size]? = w3.heap[w.heap.size]?).trans HK2.out
    exact Lib.cell_of_heap this 0
  have f4 : w4.cell? ⟨w.heap.size + 1, 0, none⟩ = some (.int .i64 (g : Int)) := by
    have : w4.heap[w.heap.size + 1]? = some (.cells #[.int .i64 (g : Int)] 3 (0, 0)) := by rw [hw4, setCell_heap_same _ _ _ _ _ _ _ HF2.out]; rfl
    exact Lib.cell_of_heap this 0
  have HR4 := hidden (HR.out.below hb4 (Nat.le_refl _))
  have HB4 := hidden hb4
  have K4 := hidden k4
  clear hw4 hb4 k4 c0 c1 z1
  have hgf : (g : Int) - (f : Int) = ((g - f : Nat) : Int) := by omega
  rw [hgf]
  refine (meet_any 50 (g - f) (Pn.rv X g) d _ w4 (back_reads r n X f g _ _ u w4 HR4.out hA hB K4.out f4) (by omega)).mono ?_
  rintro e1 w5 ⟨rfl, rfl⟩
  have hPF : Pn.back X f g d = if Wd.find (Pn.rv X g) (g - f) d = 0 then -1 else (g : Int) - Wd.find (Pn.rv X g) (g - f) d := rfl
  have hle := Wd.find_le (Pn.rv X g) (g - f) d
  obtain ⟨k, hk⟩ : ∃ k, k = Wd.find (Pn.rv X g) (g - f) d := ⟨_, rfl⟩
  rw [← hk] at hPF hle ⊢
  have HPF := hidden hPF
  have hk2 : k ≤ 4294967296 := by omega
  clear hPF hk hle hgf
  by_cases hk0 : k = 0
  · subst hk0
    go_wp2_with fail
    go_ret
    exact ⟨ret_int (by rw [HPF.out]; rfl), HB4.out⟩
  · have hz : ((k : Int) == 0) = false := by simpa using hk0
    have HK0 := hidden hk0
    clear hk0
    go_wp2_with fail
    go_ret
    exact ⟨ret_int (by rw [HPF.out, if_neg HK0.out]), HB4.out⟩
end Go.Proofs.Ytdjhpfojbnikdaa
