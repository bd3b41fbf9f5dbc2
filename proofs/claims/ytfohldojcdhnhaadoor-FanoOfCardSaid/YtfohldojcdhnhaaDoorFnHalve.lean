/-
  The contract of a sequence's halve: those few numbers of one high part that are still to be held against x.
-/
import Derived.Test.YtfohldojcdhnhaaDoorFnGet
namespace Go.Proofs.YtfohldojcdhnhaaDoor
open Go.RowKit
namespace Fn
theorem less_mono {l : List Nat} (h : Up l) {x y : Int} (hxy : x ≤ y) : less l x ≤ less l y := by
  rcases Nat.lt_or_ge (less l y) (less l x) with hl | hl
  · have h1 := (less_spec h x).lo _ hl
    have h2 := (less_spec h y).hi _ (Nat.le_refl _) (by have := less_le l x; omega)
    omega
  · exact hl
theorem ah_less {l : List Nat} (h : Up l) (w x H : Nat) (hH : H = x / 2 ^ w) : ah l w H ≤ less l (x : Int) ∧ less l (x : Int) ≤ ah l w (H + 1) := by
  have h1 : H * 2 ^ w ≤ x := by rw [hH]; exact Nat.div_mul_le_self _ _
  have h2 : x < (H + 1) * 2 ^ w := by
    rw [← Nat.div_lt_iff_lt_mul (Nat.two_pow_pos _)]
    omega
  exact ⟨less_mono h (by omega), less_mono h (by omega)⟩
theorem ah_part {l : List Nat} (h : Up l) {w H i : Nat} (h1 : ah l w H ≤ i) (h2 : i < ah l w (H + 1)) : i < l.length ∧ H = l.getD i 0 / 2 ^ w := by
  have h3 := ah_le l w (H + 1)
  have h4 := ah_hi h w H i h1 (by omega)
  have h5 := ah_lo h w (H + 1) i h2
  exact ⟨by omega, by omega⟩
/-- What halve tells. -/
def HalvePost (l : List Nat) (w x H : Nat) (e : Ending) : Prop := ∃ f t : Nat, e = .returned (.tuple #[.int .i64 (f : Nat), .int .i64 (t : Nat)]) ∧ ah l w H ≤ f ∧ f ≤ less l (x : Int) ∧ less l (x : Int) ≤ t ∧ t ≤ ah l w (H + 1)
theorem lo_of {l : List Nat} (h : Up l) {x i : Nat} (h1 : ((l.getD i 0 : Nat) : Int) < (x : Int)) (hi : i < l.length) : i + 1 ≤ less l (x : Int) := by
  rcases Nat.lt_or_ge i (less l (x : Int)) with hl | hl
  · exact hl
  · have := (less_spec h (x : Int)).hi i hl hi
    omega
theorem hi_of {l : List Nat} (h : Up l) {x i : Nat} (h1 : ¬ ((l.getD i 0 : Nat) : Int) < (x : Int)) : less l (x : Int) ≤ i := by
  rcases Nat.lt_or_ge i (less l (x : Int)) with hl | hl
  · exact absurd ((less_spec h (x : Int)).lo i hl) h1
  · exact hl
end Fn
set_option maxHeartbeats 1000000 in
theorem halve_any (s u x H : Nat) (l : List Nat) (q : Fn.Q) (w : World) (h : Sq w s l u q) (hT : Tab w) (h0 : 0 < l.length) (hx : x < u) (hH : H = x / 2 ^ Fn.wdt l.length u) :
    Calls Tryd.prog 38 #[.pointer (some ⟨s, 0, none⟩), .int .i64 (x : Nat), .int .i64 (H : Nat)] w fun e w' => Fn.HalvePost l (Fn.wdt l.length u) x H e ∧ Below w.heap.size w w' := by
  have HS := hidden h
  have HT := hidden hT
  have hn := h.ok.len
  have hu := h.ok.le
  have hup := h.ok.up
  have HUP := hidden hup
  have ht : H ≤ Fn.top l.length u := by rw [hH]; exact Nat.div_le_div_right (by omega)
  have htl := Fn.top_lt h0 (show u < 2 ^ 64 by omega)
  have HA := hidden (Fn.ah_less hup (Fn.wdt l.length u) x H hH)
  have HA0 := hidden (fun w' (hb : Below w.heap.size w w') => ahead_seq s u H H l q w' (h.below hb (Nat.le_refl _)) (hT.below hb (Nat.le_refl _)) h0 (by omega) rfl)
  have HA1 := hidden (fun w' (hb : Below w.heap.size w w') => ahead_seq s u (H + 1) ((H : Int) + 1) l q w' (h.below hb (Nat.le_refl _)) (hT.below hb (Nat.le_refl _)) h0 (by omega) (by omega))
  have HP := hidden (fun i => Fn.ah_part (i := i) hup (w := Fn.wdt l.length u) (H := H))
  have hH2 : H < 33554432 := by omega
  have ha1 := Fn.ah_le l (Fn.wdt l.length u) H
  have ha2 := Fn.ah_le l (Fn.wdt l.length u) (H + 1)
  have hl1 := Fn.less_le l (x : Int)
  have hle2 : l.length < 16777216 := hn
  obtain ⟨N, hN⟩ : ∃ N, N = l.length := ⟨_, rfl⟩
  obtain ⟨W, hW⟩ : ∃ W, W = Fn.wdt l.length u := ⟨_, rfl⟩
  rw [← hW] at HA HA0 HA1 HP ha1 ha2 ⊢
  have HW := hidden hW
  rw [← hN] at ha1 ha2 hl1 hle2
  have HN := hidden hN
  clear hup hH ht htl h hT h0 hn hN hW
  go_enter Tryd.func38, Tryd.ntmps38
  go_wp2_with fail
  refine (HA0.out w (Below.refl _ _)).mono ?_
  rintro e' w1 ⟨rfl, hb1⟩
  have HB1 := hidden hb1
  clear hb1
  go_wp2_with fail
  refine (HA1.out w1 HB1.out).mono ?_
  rintro e' w2 ⟨rfl, hb2⟩
  have HB2 := hidden (below_after HB1.out hb2)
  clear hb2
  obtain ⟨A, hA⟩ : ∃ A, A = Fn.ah l W H := ⟨_, rfl⟩
  obtain ⟨C, hC⟩ : ∃ C, C = Fn.ah l W (H + 1) := ⟨_, rfl⟩
  obtain ⟨R, hR⟩ : ∃ R, R = Fn.less l (x : Int) := ⟨_, rfl⟩
  rw [← hA, ← hC, ← hR] at HA
  rw [← hA] at HP ha1 ⊢
  rw [← hC] at HP ha2 ⊢
  rw [← hR] at hl1
  have HHA := hidden hA
  have HHC := hidden hC
  have HHR := hidden hR
  clear hA hC hR
  obtain ⟨hA1, hA2⟩ := HA.out
  go_wp2_with fail
  go_loopw [8, 9, 10] (fun a b _ wr => ∃ f t : Nat, a = .int .i64 (f : Nat) ∧ b = .int .i64 (t : Nat) ∧ A ≤ f ∧ f ≤ R ∧ R ≤ t ∧ t ≤ C ∧ Below w.heap.size w wr) (fun a b _ _ => (intOf b).toNat - (intOf a).toNat)
  case atStart => exact ⟨A, C, rfl, rfl, by omega, by omega, by omega, by omega, HB2.out⟩
  case round =>
    obtain ⟨f, t, rfl, rfl, h1, h2, h3, h4, hb⟩ := hrel
    have HBr := hidden hb
    clear hb
    by_cases hlt : 16 < t - f
    · obtain ⟨m, hm⟩ : ∃ m : Nat, m = f + (t - f) / 2 := ⟨_, rfl⟩
      obtain ⟨D, hD⟩ : ∃ D : Nat, (t : Int) - (f : Int) = (D : Int) := ⟨t - f, by omega⟩
      obtain ⟨E, hE⟩ : ∃ E : Nat, (D : Int) / 2 = (E : Int) := ⟨D / 2, by omega⟩
      have hm1 : (f : Int) + (E : Int) = (m : Int) := by omega
      have hD2 : D < 16777216 := by omega
      have hE2 : E < 16777216 := by omega
      have d0 : decide ((16 : Int) < (D : Int)) = true := by simp; omega
      have hm2 : f ≤ m := by omega
      have hm3 : m < t := by omega
      have HM := hidden hm
      clear hm
      obtain ⟨hp1, hp2⟩ := HP.out m (by omega) (by omega)
      have HNU := hidden (number_any s u m H H l q wr (HS.out.below HBr.out (Nat.le_refl _)) hp1 rfl (by rw [← HW.out]; exact hp2))
      have hlo := Fn.lo_of (x := x) HUP.out (i := m)
      have hhi := Fn.hi_of (x := x) HUP.out (i := m)
      rw [← HHR.out] at hlo hhi
      obtain ⟨y, hy⟩ : ∃ y, y = l.getD m 0 := ⟨_, rfl⟩
      rw [← hy] at HNU hlo hhi
      have HLO := hidden hlo
      have HHI := hidden hhi
      have HP1 := hidden hp1
      clear hlo hhi hp1 hp2 hy
      go_wp2_with fail
      refine (HNU.out).mono ?_
      rintro e' w3 ⟨rfl, k, rfl⟩
      by_cases hd : (y : Int) < (x : Int)
      · have d1 : decide ((y : Int) < (x : Int)) = true := by simpa using hd
        go_wp2_with fail
        go_roundw
        case rel => exact ⟨m + 1, t, by go_num, rfl, by omega, HLO.out hd HP1.out, h3, h4, below_drewN HBr.out _⟩
        case measure => simp [intOf]; omega
      · have d1 : decide ((y : Int) < (x : Int)) = false := by simpa using hd
        go_wp2_with fail
        go_roundw
        case rel => exact ⟨f, m, rfl, by go_num, h1, h2, HHI.out hd, by omega, below_drewN HBr.out _⟩
        case measure => simp [intOf]; omega
    · have d0 : decide ((16 : Int) < (t : Int) - (f : Int)) = false := by simp; omega
      go_wp2_with fail
      go_ret2
      refine ⟨⟨f, t, rfl, ?_⟩, HBr.out⟩
      rw [← HHA.out, ← HHC.out, ← HHR.out]
      exact ⟨h1, h2, h3, h4⟩
end Go.Proofs.YtfohldojcdhnhaaDoor
