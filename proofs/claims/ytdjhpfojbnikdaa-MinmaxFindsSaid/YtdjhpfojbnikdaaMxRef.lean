/-
  The contracts of the reference's functions of layer 7 (the package laceworkref07), and of law07's awake.
-/
import Derived.Test.YtdjhpfojbnikdaaMxFind
import Derived.Test.YtdjhpfojbnikdaaMxCount
import Derived.Test.YtdjhpfojbnikdaaMxBits
import Derived.Test.YtdjhpfojbnikdaaPnAwake
namespace Go.Proofs.Ytdjhpfojbnikdaa
open Go.RowKit
theorem Pn.to_end (n : Nat) (a : Int) : Pn.to n a (n : Int) = n := by unfold Pn.to Pn.fr; omega
theorem Pn.to_zero (n : Nat) (t : Int) : Pn.to n 0 t = Pn.fr n t ∧ Pn.fr n 0 = 0 := by unfold Pn.to Pn.fr; omega
theorem rForth7_any (L : List Bool) (v : Value) (a d : Int) (w : World) (h : Bv w v L) (hL : L.length ≤ 4294967296) :
    Calls Try.prog 12 #[v, .int .i64 a, .int .i64 d] w fun e w' => e = .returned (.int .i64 (Pn.forth (Bt.num L) (Pn.fr L.length a) L.length d)) ∧ w' = w := by
  have hF := rForth_any L v a L.length d w h hL
  rw [Pn.to_end] at hF
  have HF := hidden hF
  obtain ⟨ao, cap, rfl, hcap, hc⟩ := h
  clear hc hF
  go_enter Try.func12, Try.ntmps12
  go_wp2_with fail
  refine HF.out.mono ?_
  rintro e1 w1 ⟨rfl, rfl⟩
  go_wp2_with fail
  go_ret
  exact ⟨rfl, rfl⟩
theorem rBack7_any (L : List Bool) (v : Value) (a d : Int) (w : World) (h : Bv w v L) (hL : L.length ≤ 4294967296) :
    Calls Try.prog 14 #[v, .int .i64 a, .int .i64 d] w fun e w' => e = .returned (.int .i64 (Pn.back (Bt.num L) 0 (Pn.fr L.length a) d)) ∧ w' = w := by
  have hF := rBack_any L v 0 a d w h hL
  rw [(Pn.to_zero _ _).1, (Pn.to_zero L.length a).2] at hF
  have HF := hidden hF
  obtain ⟨ao, cap, rfl, hcap, hc⟩ := h
  clear hc hF
  go_enter Try.func14, Try.ntmps14
  go_wp2_with fail
  refine HF.out.mono ?_
  rintro e1 w1 ⟨rfl, rfl⟩
  go_wp2_with fail
  go_ret
  exact ⟨rfl, rfl⟩
set_option maxHeartbeats 1000000 in
theorem awake7_any (w : World) :
    Calls Try.prog 7 #[] w fun e w' => e = .returned (.bool true) ∧ Below w.heap.size w w' := by
  go_enter Try.func7, Try.ntmps7
  go_wp2_with fail
  have HB : Hid (Bl (w.alloc (.cells #[.bool true, .bool true, .bool false, .bool false] 4)) (.slice (some ⟨w.heap.size, 0, none⟩) 4 4) [true, true, false, false]) :=
    World.ownsRow_lit w _ 4 (Nat.zero_le _) (by decide) rfl
  refine (Made_any [true, true, false, false] _ _ HB.out (by decide)).mono ?_
  rintro e' w1 ⟨r1, u1, rfl, hr1, hq1, _, _⟩
  have HR1 : Hid (Rw w1 r1 4 3 u1) := hr1
  have HL1 : Hid (Below w.heap.size w w1) := ((Below.refl _ _).alloc (Nat.le_refl _) _).trans (hq1.mono (by simp))
  clear hr1 hq1
  go_wp2_with fail
  refine (MNew_any r1 4 3 u1 _ HR1.out).mono ?_
  rintro e' w2 ⟨t, gs, m, rfl, ht, hb2⟩
  have HT := hidden ht
  have HL2 : Hid (Below w.heap.size w w2) := HL1.out.trans (hb2.mono HL1.out.size)
  clear ht hb2
  go_wp2_with fail
  refine (TForth_any t r1 4 3 u1 gs m 0 0 _ HT.out).mono ?_
  rintro e' w3 ⟨rfl, hb3⟩
  rw [show Pn.forth 3 (Pn.fr 4 0) 4 0 = 3 from by decide +kernel]
  have HT3 := hidden (HT.out.below hb3 (Nat.le_refl _))
  have HL3 : Hid (Below w.heap.size w w3) := HL2.out.trans (hb3.mono HL2.out.size)
  clear hb3
  go_wp2_with fail
  refine (TExcess_any t r1 4 3 u1 gs m 3 _ HT3.out).mono ?_
  rintro e' w4 ⟨rfl, rfl⟩
  rw [show Wd.exc 3 (Pn.fr 4 3) = 1 from by decide +kernel]
  go_wp2_with fail
  go_ret
  exact ⟨rfl, HL3.out⟩
end Go.Proofs.Ytdjhpfojbnikdaa
