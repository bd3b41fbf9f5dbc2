/-
  The contracts of a tree's Excess and Balanced: of every tree, at every place; nothing in memory is changed.
-/
import Derived.Test.YtdjhpfojbnikdaaMxAsk
import Derived.BigQuiet
namespace Go.Proofs.Ytdjhpfojbnikdaa
open Go.RowKit
theorem Mx.div_next (p k : Nat) : p / Mx.wd (k + 1) = p / Mx.wd k / 2 := by
  rw [Mx.wd_succ, Nat.mul_comm, Nat.div_div_eq_div_mul]
/-- One level on: where the count stands. -/
theorem Mx.count_odd (X n p k : Nat) (hp : p ≤ n) (h : p / Mx.wd k % 2 = 1) : p / Mx.wd k - 1 < Mx.ln n k ∧ Wd.exc X p - Wd.exc X (p / Mx.wd (k + 1) * Mx.wd (k + 1)) = Wd.exc X p - Wd.exc X (p / Mx.wd k * Mx.wd k) + Mx.nx X n (Mx.wd k) (p / Mx.wd k - 1) := by
  have hd := Nat.div_mul_le_self p (Mx.wd k)
  have hW := Mx.wd_pos k
  rw [Mx.div_next]
  generalize p / Mx.wd k = A at *
  have e1 : A * Mx.wd k = (A - 1) * Mx.wd k + Mx.wd k := by
    rw [← Nat.succ_mul]; congr 1; omega
  have e2 : A / 2 * Mx.wd (k + 1) = (A - 1) * Mx.wd k := by rw [Mx.wd_succ, Mx.st2]; congr 1; omega
  refine ⟨(Mx.ln_iff n k _).2 (by omega), ?_⟩
  rw [e2, Mx.nx_eq X n (Mx.wd k) (A - 1) (by omega), Mx.en_full n (Mx.wd k) (A - 1) (by rw [show A - 1 + 1 = A from by omega]; omega), show A - 1 + 1 = A from by omega]
  omega
theorem Mx.count_even (X p k : Nat) (h : p / Mx.wd k % 2 = 0) : Wd.exc X p - Wd.exc X (p / Mx.wd (k + 1) * Mx.wd (k + 1)) = Wd.exc X p - Wd.exc X (p / Mx.wd k * Mx.wd k) := by
  rw [Mx.div_next]
  generalize p / Mx.wd k = A at *
  have e2 : A / 2 * Mx.wd (k + 1) = A * Mx.wd k := by rw [Mx.wd_succ, Mx.st2]; congr 1; omega
  rw [e2]
theorem Mx.count_end (n p m : Nat) (hp : p ≤ n) (hm : 0 < m) (h : Mx.ln n (m - 1) ≤ 1) : p / Mx.wd m = 0 := by
  obtain ⟨k, rfl⟩ : ∃ k, m = k + 1 := ⟨m - 1, by omega⟩
  rw [show k + 1 - 1 = k from rfl] at h
  have := Mx.ln_iff n k 1
  have hW := Mx.wd_pos k
  rw [Nat.div_eq_zero_iff, Mx.wd_succ]
  omega
set_option maxHeartbeats 1000000 in
theorem TExcess_any (t r n X : Nat) (u : Value) (gs : Nat → Nat) (m : Nat) (i : Int) (w : World) (h : Tr w t r n X u gs m) :
    Calls Try.prog 15 #[.pointer (some ⟨t, 0, none⟩), .int .i64 i] w fun e w' => e = .returned (.int .i64 (Wd.exc X (Pn.fr n i))) ∧ w' = w := by
  have hm := h.few
  have hl := h.row.len
  have HR := hidden h.row
  have HPL := hidden (place7_any t r n X u gs m i w h)
  have hpn := Pn.fr_le n i
  have HTOP := hidden h.top
  have HPOS := hidden h.pos
  obtain ⟨g, cap, hf⟩ := h.form
  have c0 := hf.c0
  have c1 := hf.c1
  have hfit := hf.fit
  have HF := hidden hf
  clear h hf
  generalize Pn.fr n i = p at *
  have hE := PExcess_any r n X (p / 512 * 512 : Nat) (p : Nat) u w HR.out
  have hd := Nat.div_mul_le_self p 512
  rw [Pn.fr_nat n _ (by omega), Pn.to_nat n _ _ hd hpn, Pn.exc_part, show p / 512 * 512 + (p - p / 512 * 512) = p from by omega] at hE
  have HE := hidden hE
  clear hE
  obtain ⟨F, hF⟩ : ∃ F, F = p / 512 * 512 := ⟨_, rfl⟩
  rw [← hF] at HE
  have hF1 : (p : Int) / 512 * 512 = (F : Int) := by omega
  have HFD := hidden hF
  clear hF hd
  go_enter Try.func15, Try.ntmps15
  go_wp2_with fail
  refine HPL.out.mono ?_
  rintro e' w1 ⟨rfl, rfl⟩
  go_wp2_with fail
  refine HE.out.mono ?_
  rintro e' w1 ⟨rfl, rfl⟩
  have hE0 : Wd.exc X p - Wd.exc X F = Wd.exc X p - Wd.exc X (p / Mx.wd 0 * Mx.wd 0) := by rw [HFD.out]; rfl
  rw [hE0]
  clear hE0 hF1
  go_wp2_with fail
  go_loopw [5, 6, 27] (fun s5 s6 s27 wr => ∃ k : Nat, k ≤ m ∧ s5 = .int .i64 (p / Mx.wd k : Nat) ∧ s6 = .int .i64 (Wd.exc X p - Wd.exc X (p / Mx.wd k * Mx.wd k)) ∧ s27 = .int .i64 (k : Nat) ∧ wr = w1) (fun _ _ s27 _ => m - (intOf s27).toNat)
  case atStart => exact ⟨0, by omega, rfl, rfl, rfl, rfl⟩
  case round =>
    obtain ⟨k, hk, rfl, rfl, rfl, rfl⟩ := hrel
    by_cases hlt : k < m
    · have c2 := HF.out.lev k hlt
      have hN := Mx.div_next p k
      have hll := Mx.ln_le n k hl
      have hb1 := Wd.exc_bounds X p
      have hb2 := Wd.exc_bounds X (p / Mx.wd k * Mx.wd k)
      have hdm := Nat.div_mul_le_self p (Mx.wd k)
      have hA : p / Mx.wd k ≤ p := Nat.div_le_self _ _
      have i0 : (0 : Int) ≤ (k : Int) := by omega
      have i1 : (k : Int) < (m : Int) := by omega
      by_cases ho : p / Mx.wd k % 2 = 1
      · obtain ⟨h1, h2⟩ := Mx.count_odd X n p k hpn ho
        have n0 := HF.out.n0 k _ hlt h1
        have hbx := Mx.bounds X n (Mx.wd k) (p / Mx.wd k - 1)
        obtain ⟨A, hAd⟩ : ∃ A, A = p / Mx.wd k := ⟨_, rfl⟩
        obtain ⟨x, hx⟩ : ∃ x, x = Mx.nx X n (Mx.wd k) (p / Mx.wd k - 1) := ⟨_, rfl⟩
        obtain ⟨E, hEd⟩ : ∃ E, E = Wd.exc X p - Wd.exc X (p / Mx.wd k * Mx.wd k) := ⟨_, rfl⟩
        rw [← hEd, ← hx] at h2
        rw [← hx] at n0 hbx
        rw [← hEd]
        rw [← hAd] at n0 h1 hN ho hA ⊢
        obtain ⟨q, hq⟩ : ∃ q, q = Mx.ln n k := ⟨_, rfl⟩
        rw [← hq] at c2 h1 hll
        have hE2 : -8589934592 ≤ E ∧ E ≤ 8589934592 := by omega
        have hx2 : -4294967296 ≤ x ∧ x ≤ 4294967296 := by omega
        obtain ⟨B, hB⟩ : ∃ B : Nat, B = A - 1 := ⟨_, rfl⟩
        rw [← hB] at n0 h1
        have hB1 : (A : Int) - 1 = (B : Int) := by omega
        have hm2 : (A : Int) % 2 = 1 := by omega
        have i2 : (0 : Int) ≤ (B : Int) := by omega
        have i3 : (B : Int) < (q : Int) := by omega
        have hA2 : A ≤ 4294967296 := by omega
        have H2 := hidden h2
        have HN := hidden hN
        clear h2 hN hAd hx hEd hq hb1 hb2 hdm hbx ho hB hA h1
        go_wp2_with fail
        go_roundw
        case rel => exact ⟨k + 1, by omega, by rw [HN.out]; go_num, by rw [H2.out], by go_num, trivial⟩
        case measure => simp [intOf]; omega
      · have h2 := Mx.count_even X p k (by omega)
        obtain ⟨A, hAd⟩ : ∃ A, A = p / Mx.wd k := ⟨_, rfl⟩
        obtain ⟨E, hEd⟩ : ∃ E, E = Wd.exc X p - Wd.exc X (p / Mx.wd k * Mx.wd k) := ⟨_, rfl⟩
        rw [← hEd] at h2
        rw [← hEd]
        rw [← hAd] at hN ho hA ⊢
        have hm2 : (A : Int) % 2 = 0 := by omega
        have hA2 : A ≤ 4294967296 := by omega
        have H2 := hidden h2
        have HN := hidden hN
        clear h2 hN hAd hEd hb1 hb2 hdm ho hA
        go_wp2_with fail
        go_roundw
        case rel => exact ⟨k + 1, by omega, by rw [HN.out]; go_num, by rw [H2.out], by go_num, trivial⟩
        case measure => simp [intOf]; omega
    · obtain rfl : k = m := by omega
      have hz := Mx.count_end n p k hpn HPOS.out HTOP.out
      rw [hz, Nat.zero_mul, Wd.exc_zero, Int.sub_zero]
      clear hz
      go_wp2_with fail
      go_ret
      exact ⟨rfl, rfl⟩
set_option maxHeartbeats 1000000 in
theorem TBalanced_any (t r n X : Nat) (u : Value) (gs : Nat → Nat) (m : Nat) (w : World) (h : Tr w t r n X u gs m) :
    Calls Try.prog 20 #[.pointer (some ⟨t, 0, none⟩)] w fun e w' => e = .returned (.bool (Pn.bal X n)) ∧ Below w.heap.size w w' := by
  have hm := h.few
  have hl := h.row.len
  have htop := h.top
  have hpos := h.pos
  obtain ⟨g, cap, hf⟩ := h.form
  have c1 := hf.c1
  have hfit := hf.fit
  have c2 := hf.lev (m - 1) (by omega)
  have HF := hidden hf
  have hk := Mx.ln_iff n (m - 1) 1
  have hk0 := Mx.ln_iff n (m - 1) 0
  have hbal := Pn.bal_lo X n
  clear h hf
  obtain ⟨k, hkd⟩ : ∃ k, k = m - 1 := ⟨_, rfl⟩
  rw [← hkd] at c2 htop hk hk0
  have hkm : (m : Int) - 1 = (k : Int) := by omega
  have wkm : IntKind.i64.wrap ((m : Int) - 1) = (k : Int) := by rw [IntKind.wrap_i64]; omega
  have i0 : (0 : Int) ≤ (k : Int) := by omega
  have i1 : (k : Int) < (m : Int) := by omega
  by_cases h0 : Mx.ln n k = 0
  · have hn0 : n = 0 := by omega
    subst hn0
    have hb : Pn.bal X 0 = true := by rw [hbal]; rfl
    rw [hb]
    rw [h0] at c2
    clear hk hk0 htop hkd h0 hbal hb
    go_enter Try.func20, Try.ntmps20
    go_wp2_with fail
    go_quiet (fail)
    go_wp2_with fail
    go_ret
    exact ⟨rfl, drewN_below (Below.refl _ _) _⟩
  · have h1 : Mx.ln n k = 1 := by omega
    have hn : Mx.en n (Mx.wd k) 0 = n := Mx.en_last _ _ _ (by omega)
    have e0 : Mx.nx X n (Mx.wd k) 0 = Wd.exc X n := by unfold Mx.nx; rw [hn, Nat.zero_mul, Nat.pow_zero, Nat.div_one, Nat.sub_zero]
    have e1 : Mx.nl X n (Mx.wd k) 0 = Wd.lo X n := by unfold Mx.nl; rw [hn, Nat.zero_mul, Nat.pow_zero, Nat.div_one, Nat.sub_zero]
    have n0 := HF.out.n0 k 0 (by omega) (by omega)
    have n1 := HF.out.n1 k 0 (by omega) (by omega)
    rw [e0] at n0
    rw [e1] at n1
    rw [Nat.zero_mul] at n0 n1
    rw [Nat.zero_add] at n1
    rw [h1] at c2
    have hlo := Wd.lo_bounds X n
    have hge := Flt.ge_zero (Wd.lo X n) (by omega)
    rw [← hge] at hbal
    rw [hbal]
    clear hk hk0 htop hkd h0 hbal h1 hn e0 e1 hlo hge
    generalize Wd.exc X n = E at *
    generalize floatOfInt .f64 (Wd.lo X n) = L at *
    generalize floatOfInt .f64 (Mx.nh X n (Mx.wd k) 0) = H at *
    obtain ⟨o, ho⟩ : ∃ o, (FloatKind.f64.format.order L 0 == some .gt || FloatKind.f64.format.order L 0 == some .eq) = o := ⟨_, rfl⟩
    rw [ho]
    by_cases hE : E = 0
    · subst hE
      go_enter Try.func20, Try.ntmps20
      go_wp2_with fail
      go_quiet (fail)
      go_wp2_with fail
      go_ret
      exact ⟨rfl, drewN_below (Below.refl _ _) _⟩
    · have hz : (E == 0) = false := by simpa using hE
      rw [hz, Bool.false_and]
      clear hE
      go_enter Try.func20, Try.ntmps20
      go_wp2_with fail
      go_quiet (fail)
      go_wp2_with fail
      go_ret
      exact ⟨rfl, drewN_below (Below.refl _ _) _⟩
end Go.Proofs.Ytdjhpfojbnikdaa
