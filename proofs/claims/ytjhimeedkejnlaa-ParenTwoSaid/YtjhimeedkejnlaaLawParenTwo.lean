/-
  The walk of the law ParenTwo: it returns true for every list of Puts and every two numbers; nothing that was there is changed.
-/
import Derived.Test.YtjhimeedkejnlaaPnAwake
import Derived.Test.YtjhimeedkejnlaaOpsBelow
namespace Go.Proofs.Ytjhimeedkejnlaa
open Go.RowKit
/-- The excess of a stretch. -/
def Pn.ex (X n : Nat) (a t : Int) : Int := Wd.exc (X / 2 ^ Pn.fr n a) (Pn.to n a t - Pn.fr n a)
theorem PEx_any (r n X : Nat) (a t : Int) (u : Value) (w : World) (h : Rw w r n X u) :
    Calls Try.prog 13 #[.pointer (some ⟨r, 0, none⟩), .int .i64 a, .int .i64 t] w fun e w' => e = .returned (.int .i64 (Pn.ex X n a t)) ∧ w' = w := PExcess_any r n X a t u w h
theorem Pn.ex_eq (X n : Nat) (a t : Int) : Pn.ex X n a t = Wd.exc X (Pn.to n a t) - Wd.exc X (Pn.fr n a) := by
  have := Pn.fr_to n a t
  unfold Pn.ex
  rw [Pn.exc_part, show Pn.fr n a + (Pn.to n a t - Pn.fr n a) = Pn.to n a t from by omega]
theorem Pn.ex_bounds (X n : Nat) (a t : Int) : -(n : Int) ≤ Pn.ex X n a t ∧ Pn.ex X n a t ≤ n := by
  have h1 := Pn.fr_to n a t
  have h2 := Wd.exc_bounds (X / 2 ^ Pn.fr n a) (Pn.to n a t - Pn.fr n a)
  unfold Pn.ex
  omega
theorem Pn.ex_two (X n : Nat) (F T : Int) (h0 : 0 ≤ F) (h1 : F ≤ T) : Pn.ex X n 0 F + Pn.ex X n F T + Pn.ex X n T n = Pn.ex X n 0 n := by
  rw [Pn.ex_eq, Pn.ex_eq, Pn.ex_eq, Pn.ex_eq]
  rw [show Pn.to n 0 F = Pn.fr n F from by unfold Pn.to Pn.fr; omega, show Pn.to n F T = Pn.fr n T from by unfold Pn.to Pn.fr; omega, show Pn.to n T n = n from by unfold Pn.to Pn.fr; omega, show Pn.to n 0 n = n from by unfold Pn.to Pn.fr; omega]
  omega
set_option maxHeartbeats 1000000 in
theorem ParenTwo_long (l : List (Nat × Int)) (u : Value) (a b : Int) (w : World) (h : Ops w u l) (hl : 60 < l.length) (hm : l.length ≤ 9223372036854775807) :
    Calls Try.prog 6 #[u, .int .u16 a, .int .u16 b] w fun e w' => e = .returned (.bool true) ∧ Below w.heap.size w w' := by
  obtain ⟨ao, cap, rfl, hcap, hc⟩ := h.cells
  clear h hc
  go_enter Try.func6, Try.ntmps6
  go_wp2_with fail
  refine (awake6_any w).mono ?_
  rintro e w1 ⟨rfl, hq1⟩
  have HQ1 := hidden hq1
  clear hq1
  go_wp2_with fail
  refine (awake6_any w1).mono ?_
  rintro e w2 ⟨rfl, hq2⟩
  have HQ2 := hidden hq2
  clear hq2
  go_wp2_with fail
  go_ret
  exact ⟨rfl, HQ1.out.trans (HQ2.out.mono HQ1.out.size)⟩
set_option maxHeartbeats 1000000 in
theorem ParenTwo_short (l : List (Nat × Int)) (u : Value) (a b : Int) (w : World) (h : Ops w u l) (hl : l.length ≤ 60) (ha0 : 0 ≤ a) (ha1 : a ≤ 65535) (hb0 : 0 ≤ b) (hb1 : b ≤ 65535) :
    Calls Try.prog 6 #[u, .int .u16 a, .int .u16 b] w fun e w' => e = .returned (.bool true) ∧ Below w.heap.size w w' := by
  have HH := hidden h
  have hL := Bt.all_length l l.length
  rw [List.take_of_length_le (Nat.le_refl _)] at hL
  obtain ⟨ao, cap, hu, hcap, _⟩ := h.cells
  subst hu
  clear h
  go_enter Try.func6, Try.ntmps6
  go_wp2_with fail
  refine (awake6_any w).mono ?_
  rintro e' w1 ⟨rfl, hq1⟩
  have HQ1 := hidden hq1
  have HO1 := hidden (HH.out.below hq1 (Nat.le_refl _))
  clear hq1
  go_wp2_with fail
  refine (All_any l _ w1 HO1.out hl).mono ?_
  rintro e' w2 ⟨v2, rfl, hb2, hq2⟩
  have HB2 : Hid (Bl w2 v2 (Bt.all l)) := hb2
  have HQ2 := hidden (HQ1.out.trans (hq2.mono HQ1.out.size))
  clear hb2 hq2
  generalize Bt.all l = L at *
  go_wp2_with fail
  refine (Made_any L v2 w2 HB2.out (by omega)).mono ?_
  rintro e' w3 ⟨r3, u3, rfl, hr3, hq3, _, _⟩
  have HR3 := hidden hr3
  have HB3 : Hid (Bl w3 v2 L) := HB2.out.below hq3 (Nat.le_refl _)
  have HQ3 := hidden (HQ2.out.trans (hq3.mono HQ2.out.size))
  clear hr3 hq3
  obtain ⟨F, hF⟩ : ∃ F, min a b = F := ⟨_, rfl⟩
  obtain ⟨T, hT⟩ : ∃ T, max a b = T := ⟨_, rfl⟩
  have h2 := Pn.ex_two (Bt.num L) L.length F T (by omega) (by omega)
  have b1 := Pn.ex_bounds (Bt.num L) L.length 0 F
  have b2 := Pn.ex_bounds (Bt.num L) L.length F T
  have b3 := Pn.ex_bounds (Bt.num L) L.length T L.length
  have E1 := hidden (PEx_any r3 L.length (Bt.num L) 0 F u3 w3 HR3.out)
  have E2 := hidden (PEx_any r3 L.length (Bt.num L) F T u3 w3 HR3.out)
  have E3 := hidden (PEx_any r3 L.length (Bt.num L) T L.length u3 w3 HR3.out)
  have E4 := hidden (PEx_any r3 L.length (Bt.num L) 0 L.length u3 w3 HR3.out)
  generalize Pn.ex (Bt.num L) L.length 0 F = x1 at *
  generalize Pn.ex (Bt.num L) L.length F T = x2 at *
  generalize Pn.ex (Bt.num L) L.length T L.length = x3 at *
  generalize Pn.ex (Bt.num L) L.length 0 L.length = x4 at *
  have HS := hidden h2
  obtain ⟨ab, cb, hv, hcb, _⟩ := HB3.out.view
  subst hv
  clear h2
  go_wp2_with fail
  refine E1.out.mono ?_
  rintro e' w4 ⟨rfl, rfl⟩
  go_wp2_with fail
  refine E2.out.mono ?_
  rintro e' w4 ⟨rfl, rfl⟩
  go_wp2_with fail
  refine E3.out.mono ?_
  rintro e' w4 ⟨rfl, rfl⟩
  go_wp2_with fail
  refine E4.out.mono ?_
  rintro e' w4 ⟨rfl, rfl⟩
  go_wp2_with fail
  go_ret
  refine ⟨ret_bool ?_, HQ3.out⟩
  rw [beq_iff_eq]
  exact HS.out
theorem ParenTwo_walk (l : List (Nat × Int)) (u : Value) (a b : Int) (w : World) (h : Ops w u l) (hm : l.length ≤ 9223372036854775807) (ha0 : 0 ≤ a) (ha1 : a ≤ 65535) (hb0 : 0 ≤ b) (hb1 : b ≤ 65535) :
    Calls Try.prog 6 #[u, .int .u16 a, .int .u16 b] w fun e w' => e = .returned (.bool true) ∧ Below w.heap.size w w' := by
  by_cases hl : l.length ≤ 60
  · exact ParenTwo_short l u a b w h hl ha0 ha1 hb0 hb1
  · exact ParenTwo_long l u a b w h (by omega) hm
end Go.Proofs.Ytjhimeedkejnlaa
