/-
  The walk of the law MinmaxBetween: it returns true for every list of pieces and every question; nothing that was there is changed.
-/
import Derived.Test.YtdjhpfojbnikdaaLawMinmaxBack
namespace Go.Proofs.Ytdjhpfojbnikdaa
open Go.RowKit
namespace Mx
open Wd
/-- One place on: what is found there. -/
theorem Fo.step {X a n i : Nat} {d k : Int} (h : Fo X a n (exc X a + d) k) (hai : a ≤ i) (hin : i < n) (hle : ∀ p : Nat, k = p → i ≤ p) :
    ((exc X (i + 1) - exc X a == d) = ((i : Int) == k)) ∧ ((i : Int) ≠ k → ∀ p : Nat, k = p → i + 1 ≤ p) := by
  constructor
  · rcases h with ⟨rfl, h2⟩ | ⟨p, rfl, h2, h3, h4, h5⟩
    · have h3 := h2 (i + 1) (by omega) (by omega)
      have e1 : (exc X (i + 1) - exc X a == d) = false := by simp; omega
      have e2 : ((i : Int) == -1) = false := by simp
      rw [e1, e2]
    · by_cases e : i = p
      · subst e
        have e1 : (exc X (i + 1) - exc X a == d) = true := by simp; omega
        rw [e1]
        simp
      · have hp := hle p rfl
        have h6 := h5 (i + 1) (by omega) (by omega)
        have e1 : (exc X (i + 1) - exc X a == d) = false := by simp; omega
        have e2 : ((i : Int) == (p : Int)) = false := by simp; omega
        rw [e1, e2]
  · intro hne p hp
    have := hle p hp
    omega
theorem Fo.stop {X a n : Nat} {T k : Int} (h : Fo X a n T k) (hle : ∀ p : Nat, k = p → n ≤ p) : k = -1 := by
  rcases h with ⟨h1, _⟩ | ⟨p, h1, h2, h3, _⟩
  · exact h1
  · have := hle p h1
    omega
end Mx
set_option maxHeartbeats 2000000 in
set_option maxRecDepth 100000 in
theorem MinmaxBetween_walk (l : List (Bool × Nat)) (u : Value) (a d : Int) (w : World) (h : Pcs w u l) (hm : l.length ≤ 9223372036854775807) :
    Calls Try.prog 4 #[u, .agg #[.int .i64 a, .int .i64 d]] w fun e w' => e = .returned (.bool true) ∧ Below w.heap.size w w' := by
  have HP := hidden h
  have HLEN := hidden (Mx.bitsOf_len l (min l.length 400))
  clear h
  go_enter Try.func4, Try.ntmps4
  go_wp2_with fail
  obtain ⟨w0, hw0⟩ : ∃ w0, w0 = w.alloc (.cells #[.int .i64 a, .int .i64 d] 32) := ⟨_, rfl⟩
  rw [← hw0]
  have hq0 : Below w.heap.size w w0 := by rw [hw0]; exact (Below.refl _ _).alloc (Nat.le_refl _) _
  have hc0 : w0.heap[w.heap.size]? = some (.cells #[.int .i64 a, .int .i64 d] 32 (0, 0)) := by rw [hw0]; exact heap_alloc_new _ _
  have HC0 := hidden hc0
  have hlt0 := lt_of_block hc0
  have HQ0 := hidden hq0
  have HP0 := hidden (HP.out.below hq0 (Nat.le_refl _))
  clear hw0 hq0 hc0
  refine (awake7_any w0).mono ?_
  rintro e' w1 ⟨rfl, hq1⟩
  have HK1 := hidden hq1
  have HP1 := hidden (HP0.out.below hq1 (Nat.le_refl _))
  clear hq1
  go_wp2_with fail
  refine (Bits7_any l u w1 HP1.out hm).mono ?_
  rintro e' w2 ⟨v2, rfl, hb2, hq2⟩
  have hLL : (Mx.allOf l).length ≤ 4000 := HLEN.out
  have HB2 : Hid (Bl w2 v2 (Mx.allOf l)) := hb2
  have HK2 := hidden (HK1.out.trans (hq2.mono HK1.out.size))
  clear hb2 hq2
  generalize Mx.allOf l = L at *
  go_wp2_with fail
  refine (Made_any L v2 w2 HB2.out (by omega)).mono ?_
  rintro e' w3 ⟨r3, u3, rfl, hr3, hq3, _, _⟩
  have HR3 := hidden hr3
  have HB3 : Hid (Bl w3 v2 L) := HB2.out.below hq3 (Nat.le_refl _)
  have HK3 := hidden (HK2.out.trans (hq3.mono HK2.out.size))
  clear hr3 hq3
  go_wp2_with fail
  refine (MNew_any r3 _ _ u3 _ HR3.out).mono ?_
  rintro e' w4 ⟨t, gs, m, rfl, ht4, hq4⟩
  have HT4 := hidden ht4
  have hb4 : Bl w4 v2 L := HB3.out.below hq4 (Nat.le_refl _)
  have hk4 := HK3.out.trans (hq4.mono HK3.out.size)
  have HK4 := hidden hk4
  obtain ⟨ao, cap, rfl, hcap, hcell⟩ := hb4.view
  have HCELL := hidden hcell
  have g4 := (hk4.block _ hlt0).trans HC0.out
  have q0 : w4.cell? ⟨w.heap.size, 0, none⟩ = some (.int .i64 a) := Lib.cell_of_heap g4 0
  have q1 : w4.cell? ⟨w.heap.size, 1, none⟩ = some (.int .i64 d) := Lib.cell_of_heap g4 1
  have hfr := Pn.fr_cast L.length a
  have hpn := Pn.fr_le L.length a
  have hf := TForth_any t r3 _ _ u3 gs m (Pn.fr L.length a : Nat) d _ HT4.out
  rw [Pn.fr_nat _ _ hpn] at hf
  have HSP := hidden (Mx.forth_spec (Bt.num L) (Pn.fr L.length a) L.length d hpn)
  generalize Pn.fr L.length a = p at *
  have HF := hidden hf
  clear ht4 hq4 hb4 hk4 hf g4 hcell
  go_wp2_with fail
  refine HF.out.mono ?_
  rintro e' w5 ⟨rfl, hb5⟩
  have HB5 := hidden hb5
  have HK5 := hidden (HQ0.out.trans ((HK4.out.trans (hb5.mono HK4.out.size)).mono HQ0.out.size))
  have s4 := lt_of_block ((HK4.out.block _ hlt0).trans HC0.out)
  have q5 := (hb5.cell (p := ⟨w.heap.size, 1, none⟩) s4).trans q1
  obtain ⟨k, hk⟩ : ∃ k, k = Pn.forth (Bt.num L) p L.length d := ⟨_, rfl⟩
  rw [← hk]
  rw [← hk] at HSP
  clear hb5 q0 q1 hk hfr
  go_wp2_with fail
  go_loopw [9, 10] (fun s9 s10 wr => ∃ i : Nat, p ≤ i ∧ i ≤ L.length ∧ s9 = .int .i64 (Wd.exc (Bt.num L) i - Wd.exc (Bt.num L) p) ∧ s10 = .int .i64 (i : Nat) ∧ Hid (∀ q : Nat, k = q → i ≤ q) ∧ wr = w5) (fun _ s10 _ => L.length - (intOf s10).toNat)
  case atStart =>
    refine ⟨p, Nat.le_refl _, hpn, by rw [Int.sub_self], rfl, ?_, rfl⟩
    intro q hq
    rcases HSP.out with ⟨h1, _⟩ | ⟨q2, h1, h2, _⟩
    · omega
    · omega
  case round =>
    obtain ⟨i, hi1, hi2, rfl, rfl, HLE, rfl⟩ := hrel
    by_cases hlt : i < L.length
    · obtain ⟨h1, h2⟩ := Mx.Fo.step HSP.out hi1 hlt HLE.out
      obtain ⟨b, off, rfl, hbs, hc⟩ := HCELL.out (by omega)
      have c0 := (HB5.out.cell (p := ⟨b, off + i, none⟩) hbs).trans (hc i hlt)
      have e1 := Mx.exc_one L i
      have e2 := Mx.exc_none L i
      have b1 := Wd.exc_bounds (Bt.num L) i
      have b2 := Wd.exc_bounds (Bt.num L) p
      obtain ⟨o, ho⟩ : ∃ o, o = L.getD i false := ⟨_, rfl⟩
      rw [← ho] at c0 e1 e2
      obtain ⟨E, hE⟩ : ∃ E, E = Wd.exc (Bt.num L) i - Wd.exc (Bt.num L) p := ⟨_, rfl⟩
      obtain ⟨F, hF⟩ : ∃ F, F = Wd.exc (Bt.num L) (i + 1) - Wd.exc (Bt.num L) p := ⟨_, rfl⟩
      rw [← hE]
      rw [← hF] at h1
      have hs1 : o = true → F = E + 1 := fun h => by rw [hF, hE, e1 h]; omega
      have hs2 : o = false → F = E - 1 := fun h => by rw [hF, hE, e2 h]; omega
      have hEb : -8589934592 ≤ E ∧ E ≤ 8589934592 := by omega
      have HFD := hidden hF
      have H2 := hidden h2
      have H1 := hidden h1
      have i0 : (0 : Int) ≤ (i : Int) := by omega
      have i1 : (i : Int) < (L.length : Int) := by omega
      clear e1 e2 b1 b2 ho hE hF h2 hc h1
      by_cases hik : (i : Int) = k
      · have hFd : (F == d) = true := by rw [H1.out, hik]; simp
        have hFd' : F = d := by simpa using hFd
        cases o
        · have := hs2 rfl
          have hE1 : E - 1 = d := by omega
          clear hs1 hs2 this
          subst hik
          go_wp2_with fail
          go_ret
          exact ⟨rfl, HK5.out⟩
        · have := hs1 rfl
          have hE1 : E + 1 = d := by omega
          clear hs1 hs2 this
          subst hik
          go_wp2_with fail
          go_ret
          exact ⟨rfl, HK5.out⟩
      · have hke : ((i : Int) == k) = false := by simpa using hik
        have hFd : (F == d) = false := by rw [H1.out, hke]
        cases o
        · have hz := hs2 rfl
          rw [hz] at hFd
          clear hs1 hs2
          have HZ := hidden hz
          have HIK := hidden hik
          clear hz hik
          go_wp2_with fail
          go_roundw
          case rel => exact ⟨i + 1, by omega, by omega, by rw [← HFD.out, HZ.out], by go_num, H2.out HIK.out, trivial⟩
          case measure => simp [intOf]; omega
        · have hz := hs1 rfl
          rw [hz] at hFd
          clear hs1 hs2
          have HZ := hidden hz
          have HIK := hidden hik
          clear hz hik
          go_wp2_with fail
          go_roundw
          case rel => exact ⟨i + 1, by omega, by omega, by rw [← HFD.out, HZ.out], by go_num, H2.out HIK.out, trivial⟩
          case measure => simp [intOf]; omega
    · obtain rfl : i = L.length := by omega
      have hkn := Mx.Fo.stop HSP.out HLE.out
      rw [hkn]
      go_wp2_with fail
      go_ret
      exact ⟨rfl, HK5.out⟩
end Go.Proofs.Ytdjhpfojbnikdaa
