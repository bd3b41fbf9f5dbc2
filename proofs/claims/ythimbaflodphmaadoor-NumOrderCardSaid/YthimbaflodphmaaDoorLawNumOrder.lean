/-
  The law NumOrder: its walk.
-/
import Derived.Test.YthimbaflodphmaaDoorNuAwake
namespace Go.Proofs.YthimbaflodphmaaDoor
open Go.RowKit
open Nu
namespace Nu
theorem cmp3_cases (a b : Int) : cmp3 a b = -1 ∨ cmp3 a b = 0 ∨ cmp3 a b = 1 := by
  unfold cmp3
  split
  · exact .inl rfl
  · split
    · exact .inr (.inr rfl)
    · exact .inr (.inl rfl)
theorem cmp3_order (v a b : Int) (h : a < b) : cmp3 v b ≤ cmp3 v a ∧ ¬ (cmp3 v a = 0 ∧ cmp3 v b = 0) := by
  unfold cmp3
  split <;> split <;> (try split) <;> (try split) <;> omega
end Nu
set_option maxHeartbeats 2000000 in
set_option maxRecDepth 100000 in
theorem NumOrder_walk (s : ByteArray) (a b : Int) (W : World) (hs : s.size ≤ 9223372036854775807) (ha0 : -9223372036854775808 ≤ a) (ha1 : a ≤ 9223372036854775807) (hb0 : -9223372036854775808 ≤ b) (hb1 : b ≤ 9223372036854775807) (hT : Ten W) :
    Calls Tryd.prog 8 #[.string s, .int .i64 a, .int .i64 b] W fun e w' => e = .returned (.bool true) ∧ Below W.heap.size W w' := by
  obtain ⟨l, rfl⟩ : ∃ l, s = str l := ⟨s.data.toList, (str_of s).symm⟩
  have hsz := str_size l
  rw [hsz] at hs
  have HT := hidden hT
  clear hT
  go_enter Tryd.func8, Tryd.ntmps8
  go_wp2_with fail
  refine (awake10_any _ HT.out).mono ?_
  rintro e w1 ⟨rfl, hB1⟩
  have HB1 := hidden hB1
  have HT1 := hidden (HT.out.below hB1 (Nat.le_refl _))
  clear hB1
  by_cases hl : l.length ≤ 200
  · by_cases hab : a < b
    · have HL : Hid (l.length ≤ 1000000) := hidden (by omega)
      cases hR : Nu.read l with
      | none =>
        have hCa := fun v hv => Cmp_any l a ha0 ha1 v HL.out hv
        have hCb := fun v hv => Cmp_any l b hb0 hb1 v HL.out hv
        have hI := fun v => Is_any l v HL.out
        simp only [hR] at hCa hCb hI
        have HCA := hidden hCa
        have HCB := hidden hCb
        have HI := hidden hI
        clear hCa hCb hI hR
        go_wp2_with fail
        refine (HCA.out _ HT1.out).mono ?_
        rintro e w2 ⟨rfl, hB2⟩
        have HB2 := hidden (below_after HB1.out hB2)
        have HT2 := hidden (HT.out.below HB2.out (Nat.le_refl _))
        clear hB2
        have hz : cmpZ a none = 0 := rfl
        have hz2 : cmpZ b none = 0 := rfl
        rw [hz]
        go_wp2_with fail
        refine (HCB.out _ HT2.out).mono ?_
        rintro e w3 ⟨rfl, hB3⟩
        have HB3 := hidden (below_after HB2.out hB3)
        clear hB3
        rw [hz2]
        go_wp2_with fail
        refine (HI.out _).mono ?_
        rintro e w4 ⟨rfl, hB4⟩
        have HB4 := hidden (below_after HB3.out hB4)
        clear hB4
        have hn : (none : Option Pt).isSome = false := rfl
        rw [hn]
        go_wp2_with fail
        go_ret
        exact ⟨rfl, HB4.out⟩
      | some p =>
        have hCa := fun v hv => Cmp_any l a ha0 ha1 v HL.out hv
        have hCb := fun v hv => Cmp_any l b hb0 hb1 v HL.out hv
        have hI := fun v => Is_any l v HL.out
        simp only [hR] at hCa hCb hI
        have hor := cmp3_order p.val (10 * a) (10 * b) (by omega)
        have hza : cmpZ a (some p) = cmp3 p.val (10 * a) := rfl
        have hzb : cmpZ b (some p) = cmp3 p.val (10 * b) := rfl
        simp only [hza] at hCa
        simp only [hzb] at hCb
        obtain ⟨x, hx⟩ : ∃ x, x = cmp3 p.val (10 * a) := ⟨_, rfl⟩
        obtain ⟨y, hy⟩ : ∃ y, y = cmp3 p.val (10 * b) := ⟨_, rfl⟩
        simp only [← hx] at hCa
        simp only [← hy] at hCb
        rw [← hx, ← hy] at hor
        obtain ⟨hge, hno⟩ := hor
        have HCA := hidden hCa
        have HCB := hidden hCb
        clear hCa hCb hI hR hx hy hza hzb
        by_cases hx0 : x = 0
        · have hy0 : ¬ y = 0 := fun h => hno ⟨hx0, h⟩
          have hyb : (y != 0) = true := by simpa using hy0
          have hyc : (y == 0) = false := by simpa using hy0
          subst hx0
          clear hno hy0
          go_wp2_with fail
          refine (HCA.out _ HT1.out).mono ?_
          rintro e w2 ⟨rfl, hB2⟩
          have HB2 := hidden (below_after HB1.out hB2)
          have HT2 := hidden (HT.out.below HB2.out (Nat.le_refl _))
          clear hB2
          go_wp2_with fail
          refine (HCB.out _ HT2.out).mono ?_
          rintro e w3 ⟨rfl, hB3⟩
          have HB3 := hidden (below_after HB2.out hB3)
          clear hB3
          go_wp2_with fail
          go_ret
          exact ⟨rfl, HB3.out⟩
        · have hxb : (x != 0) = true := by simpa using hx0
          have hxc : (x == 0) = false := by simpa using hx0
          clear hno
          go_wp2_with fail
          refine (HCA.out _ HT1.out).mono ?_
          rintro e w2 ⟨rfl, hB2⟩
          have HB2 := hidden (below_after HB1.out hB2)
          have HT2 := hidden (HT.out.below HB2.out (Nat.le_refl _))
          clear hB2
          go_wp2_with fail
          refine (HCB.out _ HT2.out).mono ?_
          rintro e w3 ⟨rfl, hB3⟩
          have HB3 := hidden (below_after HB2.out hB3)
          clear hB3
          go_wp2_with fail
          go_ret
          exact ⟨rfl, HB3.out⟩
    · have hab2 : b ≤ a := by omega
      clear hab
      go_wp2_with fail
      refine (awake10_any _ HT1.out).mono ?_
      rintro e w2 ⟨rfl, hB2⟩
      have HB2 := hidden (below_after HB1.out hB2)
      clear hB2
      go_wp2_with fail
      go_ret
      exact ⟨rfl, HB2.out⟩
  · have hl2 : 200 < l.length := by omega
    clear hl
    go_wp2_with fail
    refine (awake10_any _ HT1.out).mono ?_
    rintro e w2 ⟨rfl, hB2⟩
    have HB2 := hidden (below_after HB1.out hB2)
    clear hB2
    go_wp2_with fail
    go_ret
    exact ⟨rfl, HB2.out⟩
end Go.Proofs.YthimbaflodphmaaDoor
