/-
  The contracts of a tree's Forth and Back: of every tree, at every place and excess; memory is but made.
-/
import Derived.Test.YtdjhpfojbnikdaaMxSeek
namespace Go.Proofs.Ytdjhpfojbnikdaa
open Go.RowKit
namespace Mx
open Wd
theorem Fo.first {X a c b : Nat} {T k : Int} (h : Fo X a c T k) (hk : k ≠ -1) (hc : c ≤ b) : Fo X a b T k := by
  rcases h with ⟨h1, _⟩ | ⟨p, h1, h2, h3, h4, h5⟩
  · exact absurd h1 hk
  · exact .inr ⟨p, h1, h2, by omega, h4, h5⟩
theorem Fo.later {X a c b b' : Nat} {T k : Int} (hno : ∀ j, a < j → j ≤ c → exc X j ≠ T) (hac : a ≤ c) (h : Fo X c b' T k) (hex : ∃ j, c < j ∧ j ≤ b' ∧ exc X j = T) (hb : b' ≤ b) : Fo X a b T k := by
  rcases h with ⟨h1, h2⟩ | ⟨p, h1, h2, h3, h4, h5⟩
  · obtain ⟨j, j1, j2, j3⟩ := hex
    exact absurd j3 (h2 j j1 j2)
  · refine .inr ⟨p, h1, by omega, by omega, h4, fun j j1 j2 => ?_⟩
    by_cases hj : j ≤ c
    · exact hno j j1 hj
    · exact h5 j (by omega) j2
theorem Ba.first {X a c b : Nat} {T k : Int} (h : Ba X c b T k) (hk : k ≠ -1) (hc : a ≤ c) : Ba X a b T k := by
  rcases h with ⟨h1, _⟩ | ⟨p, h1, h2, h3, h4, h5⟩
  · exact absurd h1 hk
  · exact .inr ⟨p, h1, by omega, h3, h4, h5⟩
theorem Ba.later {X a b c c' : Nat} {T k : Int} (hno : ∀ j, c ≤ j → j < b → exc X j ≠ T) (hac : c ≤ b) (h : Ba X c' c T k) (hex : ∃ j, c' ≤ j ∧ j < c ∧ exc X j = T) (ha : a ≤ c') : Ba X a b T k := by
  rcases h with ⟨h1, h2⟩ | ⟨p, h1, h2, h3, h4, h5⟩
  · obtain ⟨j, j1, j2, j3⟩ := hex
    exact absurd j3 (h2 j j1 j2)
  · refine .inr ⟨p, h1, by omega, by omega, h4, fun j j1 j2 => ?_⟩
    by_cases hj : c ≤ j
    · exact hno j hj j2
    · exact h5 j j1 (by omega)
theorem apart (X a j : Nat) (h : a ≤ j) : -((j - a : Nat) : Int) ≤ exc X j - exc X a ∧ exc X j - exc X a ≤ ((j - a : Nat) : Int) := by
  have := exc_bounds (X / 2 ^ a) (j - a)
  rw [Pn.exc_part, show a + (j - a) = j from by omega] at this
  exact this
theorem forth_far (X a n : Nat) (d : Int) (ha : a ≤ n) (h : a = n ∨ (n : Int) < d ∨ d < -(n : Int)) : Pn.forth X a n d = -1 := by
  refine (forth_spec X a n d ha).unique (.inl ⟨rfl, fun j j1 j2 => ?_⟩)
  have := apart X a j (by omega)
  omega
theorem back_far (X b n : Nat) (d : Int) (hb : b ≤ n) (h : b = 0 ∨ (n : Int) < d ∨ d < -(n : Int)) : Pn.back X 0 b d = -1 := by
  refine (back_spec X 0 b d (Nat.zero_le _)).unique (.inl ⟨rfl, fun j j1 j2 => ?_⟩)
  have := apart X j b (by omega)
  omega
/-- The block that a place is in. -/
theorem in_block (n p : Nat) (hp : p < n) : p / 512 * 512 ≤ p ∧ p < en n 512 (p / 512) ∧ p / 512 < ln n 0 := by
  have h1 : p / 512 * 512 ≤ p := Nat.div_mul_le_self p 512
  refine ⟨h1, ?_, (ln_iff n 0 _).2 (by show p / 512 * 512 < n; omega)⟩
  unfold en
  omega
theorem forth_near (X n p : Nat) (d k : Int) (hp : p < n) (h : k = Pn.forth X p (en n 512 (p / 512)) d) (hk : k ≠ -1) : Pn.forth X p n d = k := by
  obtain ⟨h1, h2, h3⟩ := in_block n p hp
  have := forth_spec X p (en n 512 (p / 512)) d (by omega)
  rw [← h] at this
  exact (forth_spec X p n d (by omega)).unique (this.first hk (en_le _ _ _))
theorem forth_U (X n p : Nat) (d : Int) (hp : p < n) (h : Pn.forth X p (en n 512 (p / 512)) d = -1) : Uf X n p (exc X p + d) 0 (p / 512) (d - (exc X (en n 512 (p / 512)) - exc X p)) := by
  obtain ⟨h1, h2, h3⟩ := in_block n p hp
  have := forth_spec X p (en n 512 (p / 512)) d (by omega)
  rw [h] at this
  rcases this with ⟨_, h4⟩ | ⟨q, h4, _⟩
  · refine ⟨h3, ?_, by show p ≤ en n 512 (p / 512); omega, h4⟩
    show _ = exc X p + d - exc X (en n 512 (p / 512))
    omega
  · omega
theorem forth_V (X n p i : Nat) (d e : Int) (hp : p < n) (h : Vf X n p (exc X p + d) 0 i e) : Pn.forth X p n d = Pn.forth X (i * 512) (en n 512 i) e := by
  obtain ⟨h1, h2, h3, h4, h5⟩ := h
  have hl : i * 512 < n := (ln_iff n 0 i).1 h1
  have hlt := en_lt n 512 i (by decide) hl
  have hs := forth_spec X (i * 512) (en n 512 i) e (by omega)
  have h2' : e = exc X p + d - exc X (i * 512) := h2
  rw [show exc X (i * 512) + e = exc X p + d from by omega] at hs
  exact (forth_spec X p n d (by omega)).unique (Fo.later h3 h4 hs h5 (en_le _ _ _))
theorem forth_No (X n p : Nat) (d : Int) (hp : p < n) (h : ∀ j, p < j → j ≤ n → exc X j ≠ exc X p + d) : Pn.forth X p n d = -1 :=
  (forth_spec X p n d (by omega)).unique (.inl ⟨rfl, h⟩)
theorem back_near (X b : Nat) (d k : Int) (hb : 0 < b) (h : k = Pn.back X ((b - 1) / 512 * 512) b d) (hk : k ≠ -1) : Pn.back X 0 b d = k := by
  have h1 : (b - 1) / 512 * 512 ≤ b - 1 := Nat.div_mul_le_self _ 512
  have := back_spec X ((b - 1) / 512 * 512) b d (by omega)
  rw [← h] at this
  exact (back_spec X 0 b d (by omega)).unique (this.first hk (Nat.zero_le _))
theorem back_U (X n b : Nat) (d : Int) (hb : 0 < b) (hn : b ≤ n) (h : Pn.back X ((b - 1) / 512 * 512) b d = -1) : Ub X n b (exc X b - d) 0 ((b - 1) / 512) (d - (exc X b - exc X ((b - 1) / 512 * 512))) := by
  obtain ⟨h1, h2, h3⟩ := in_block n (b - 1) (by omega)
  have := back_spec X ((b - 1) / 512 * 512) b d (by omega)
  rw [h] at this
  rcases this with ⟨_, h4⟩ | ⟨q, h4, _⟩
  · refine ⟨h3, ?_, by show (b - 1) / 512 * 512 ≤ b; omega, h4⟩
    show _ = exc X ((b - 1) / 512 * 512) - (exc X b - d)
    omega
  · omega
theorem back_V (X n b i : Nat) (d e : Int) (h : Vb X n b (exc X b - d) 0 i e) : Pn.back X 0 b d = Pn.back X (i * 512) ((i + 1) * 512) e := by
  obtain ⟨h1, h2, h3, h4, h5⟩ := h
  have h1' : (i + 1) * 512 ≤ n := h1
  have h4' : (i + 1) * 512 ≤ b := h4
  have hs := back_spec X (i * 512) ((i + 1) * 512) e (Nat.mul_le_mul_right _ (Nat.le_succ _))
  have h2' : e = exc X ((i + 1) * 512) - (exc X b - d) := h2
  rw [show exc X ((i + 1) * 512) - e = exc X b - d from by omega] at hs
  exact (back_spec X 0 b d (by omega)).unique (Ba.later h3 h4' hs h5 (Nat.zero_le _))
theorem back_No (X b : Nat) (d : Int) (h : ∀ j, j < b → exc X j ≠ exc X b - d) : Pn.back X 0 b d = -1 :=
  (back_spec X 0 b d (by omega)).unique (.inl ⟨rfl, fun j _ j2 => h j j2⟩)
end Mx
set_option maxRecDepth 100000 in
theorem meets_begins (X n : Nat) (hn : n ≤ 4294967296) : Mx.Meets 32 X n (Mx.mtf X n) := by
  refine ⟨enters_of Try.func32 (by kernel_rfl) rfl, fun k i d w hi hd => ?_⟩
  have hb := Mx.bounds X n (Mx.wd k) i
  exact begins_any _ _ _ _ _ d w (by omega) (by omega) (by omega)
set_option maxRecDepth 100000 in
theorem meets_ends (X n : Nat) (hn : n ≤ 4294967296) : Mx.Meets 35 X n (Mx.mtb X n) := by
  refine ⟨enters_of Try.func35 (by kernel_rfl) rfl, fun k i d w hi hd => ?_⟩
  have hb := Mx.bounds X n (Mx.wd k) i
  exact ends7_any _ _ _ _ _ d w (by omega) (by omega) hd (by omega)
set_option maxHeartbeats 2000000 in
set_option maxRecDepth 100000 in
theorem TForth_any (t r n X : Nat) (u : Value) (gs : Nat → Nat) (m : Nat) (a d : Int) (w : World) (h : Tr w t r n X u gs m) :
    Calls Try.prog 11 #[.pointer (some ⟨t, 0, none⟩), .int .i64 a, .int .i64 d] w fun e w' => e = .returned (.int .i64 (Pn.forth X (Pn.fr n a) n d)) ∧ Below w.heap.size w w' := by
  have hl := h.row.len
  have HT := hidden h
  have HR := hidden h.row
  have HPL := hidden (place7_any t r n X u gs m a w h)
  have HFA := hidden (far7_any t r n X u gs m d w h)
  have hpn := Pn.fr_le n a
  obtain ⟨g, cap, hf⟩ := h.form
  have c0 := hf.c0
  clear h hf
  generalize Pn.fr n a = p at *
  by_cases hp : p = n
  · have HZ := hidden (Mx.forth_far X p n d hpn (.inl hp))
    subst hp
    go_enter Try.func11, Try.ntmps11
    go_wp2_with fail
    refine HPL.out.mono ?_
    rintro e' w1 ⟨rfl, rfl⟩
    go_wp2_with fail
    refine (RLen_any r _ X u _ HR.out).mono ?_
    rintro e' w1 ⟨rfl, rfl⟩
    go_wp2_with fail
    go_ret
    exact ⟨ret_int HZ.out.symm, Below.refl _ _⟩
  · have hpe : ((p : Int) == (n : Int)) = false := by simp; omega
    by_cases hd : (n : Int) < d ∨ d < -(n : Int)
    · have HZ := hidden (Mx.forth_far X p n d hpn (.inr hd))
      have hfar : (decide ((n : Int) < d) || decide (d < -(n : Int))) = true := by simpa using hd
      rw [hfar] at HFA
      clear hd hfar hp
      go_enter Try.func11, Try.ntmps11
      go_wp2_with fail
      refine HPL.out.mono ?_
      rintro e' w1 ⟨rfl, rfl⟩
      go_wp2_with fail
      refine (RLen_any r _ X u _ HR.out).mono ?_
      rintro e' w1 ⟨rfl, rfl⟩
      go_wp2_with fail
      refine HFA.out.mono ?_
      rintro e' w1 ⟨rfl, rfl⟩
      go_wp2_with fail
      go_ret
      exact ⟨ret_int HZ.out.symm, Below.refl _ _⟩
    · have hfar : (decide ((n : Int) < d) || decide (d < -(n : Int))) = false := by simpa using hd
      rw [hfar] at HFA
      have hp2 : p < n := by omega
      obtain ⟨b1, b2, b3⟩ := Mx.in_block n p hp2
      have hen := Mx.en_le n 512 (p / 512)
      have hF := Forth_any r n X (p : Nat) ((p / 512 + 1) * 512 : Nat) d u w HR.out
      have hE := fun W => PExcess_any r n X (p : Nat) ((p / 512 + 1) * 512 : Nat) u W
      have hto : Pn.to n (p : Nat) ((p / 512 + 1) * 512 : Nat) = Mx.en n 512 (p / 512) := by unfold Pn.to Pn.fr Mx.en; omega
      rw [Pn.fr_nat n p hpn, hto] at hF hE
      rw [Pn.exc_part, show p + (Mx.en n 512 (p / 512) - p) = Mx.en n 512 (p / 512) from by omega] at hE
      have HNE := hidden (fun k => Mx.forth_near X n p d k hp2)
      have HUF := hidden (Mx.forth_U X n p d hp2)
      have HVF := hidden (fun i e => Mx.forth_V X n p i d e hp2)
      have HNO := hidden (Mx.forth_No X n p d hp2)
      have hx1 := Wd.exc_bounds X p
      have hx2 := Wd.exc_bounds X (Mx.en n 512 (p / 512))
      have HWY := hidden (Mx.way_forth X n p (Wd.exc X p + d) hl (by omega))
      obtain ⟨i, hi⟩ : ∃ i, i = p / 512 := ⟨_, rfl⟩
      rw [← hi] at hF hE HNE HUF hx2 hen
      obtain ⟨q, hq⟩ : ∃ q : Nat, q = (i + 1) * 512 := ⟨_, rfl⟩
      rw [← hq] at hF hE
      have hi1 : (p : Int) / 512 = (i : Int) := by omega
      have hq1 : ((i : Int) + 1) * 512 = (q : Int) := by omega
      have hib : i ≤ 4294967296 := by omega
      have hdb : -4294967296 ≤ d ∧ d ≤ 4294967296 := by omega
      obtain ⟨k, hk⟩ : ∃ k, k = Pn.forth X p (Mx.en n 512 i) d := ⟨_, rfl⟩
      rw [← hk] at hF HUF
      obtain ⟨x, hx⟩ : ∃ x, x = Wd.exc X (Mx.en n 512 i) - Wd.exc X p := ⟨_, rfl⟩
      rw [← hx] at hE HUF
      have hxb : -8589934592 ≤ x ∧ x ≤ 8589934592 := by omega
      have HK := hidden hk
      have HF := hidden hF
      have HE := hidden hE
      clear hfar hd hp b1 b2 b3 hen hto hF hE hi hq hk hx hx1 hx2
      go_enter Try.func11, Try.ntmps11
      go_wp2_with fail
      refine HPL.out.mono ?_
      rintro e' w1 ⟨rfl, rfl⟩
      go_wp2_with fail
      refine (RLen_any r _ X u _ HR.out).mono ?_
      rintro e' w1 ⟨rfl, rfl⟩
      go_wp2_with fail
      refine HFA.out.mono ?_
      rintro e' w1 ⟨rfl, rfl⟩
      go_wp2_with fail
      refine HF.out.mono ?_
      rintro e' w2 ⟨rfl, hb2⟩
      have HB2 := hidden hb2
      have HT2 := hidden (HT.out.below hb2 (Nat.le_refl _))
      obtain ⟨g2, cap2, hf2⟩ := HT2.out.form
      have e0 := hf2.c0
      clear hb2 hf2 c0
      by_cases hkn : k = -1
      · subst hkn
        go_wp2_with fail
        refine (HE.out _ HT2.out.row).mono ?_
        rintro e' w3 ⟨rfl, rfl⟩
        go_wp2_with fail
        refine (seek_any t r n X u gs m 32 0 i (d - x) (Mx.mtf X n) _ _ _ w3 HT2.out HWY.out (meets_begins X n hl) (HUF.out trivial)).mono ?_
        rintro e' w4 ⟨⟨v4, rfl, hv4⟩, hb4⟩
        have HB4 := hidden (HB2.out.trans (hb4.mono HB2.out.size))
        have HT4 := hidden (HT2.out.below hb4 (Nat.le_refl _))
        obtain ⟨g4, cap4, hf4⟩ := HT4.out.form
        have z0 := hf4.c0
        clear hb4 hf4 e0
        rcases hv4 with ⟨rfl, hno⟩ | ⟨i4, d4, rfl, hV⟩
        · have HZ := hidden (HNO.out hno)
          clear hno
          go_wp2_with fail
          go_ret
          exact ⟨ret_int HZ.out.symm, HB4.out⟩
        · have HZ := hidden (HVF.out i4 d4 hV)
          have h4 : i4 * 512 < n := (Mx.ln_iff n 0 i4).1 hV.1
          have hF4 := Forth_any r n X (i4 * 512 : Nat) ((i4 + 1) * 512 : Nat) d4 u w4 HT4.out.row
          have hto4 : Pn.to n (i4 * 512 : Nat) ((i4 + 1) * 512 : Nat) = Mx.en n 512 i4 := by unfold Pn.to Pn.fr Mx.en; omega
          rw [Pn.fr_nat n _ (by omega), hto4] at hF4
          rw [← HZ.out] at hF4
          obtain ⟨s, hs⟩ : ∃ s, s = i4 * 512 := ⟨_, rfl⟩
          obtain ⟨s', hs'⟩ : ∃ s, s = (i4 + 1) * 512 := ⟨_, rfl⟩
          rw [← hs, ← hs'] at hF4
          have HF4 := hidden hF4
          have hs1 : (i4 : Int) * 512 = (s : Int) := by omega
          have hs2 : ((i4 : Int) + 1) * 512 = (s' : Int) := by omega
          have hi4 : ((i4 : Int) == -1) = false := by simp
          have hib4 : i4 ≤ 4294967296 := by omega
          clear hV hF4 hto4 hs hs'
          go_wp2_with fail
          refine HF4.out.mono ?_
          rintro e' w5 ⟨rfl, hb5⟩
          have HB5 := hidden (HB4.out.trans (hb5.mono HB4.out.size))
          clear hb5
          go_wp2_with fail
          go_ret
          exact ⟨rfl, HB5.out⟩
      · have hkf : (k != -1) = true := by simpa using hkn
        have HZ := hidden (HNE.out k HK.out hkn)
        clear hkn
        go_wp2_with fail
        go_ret
        exact ⟨ret_int HZ.out.symm, HB2.out⟩
set_option maxHeartbeats 2000000 in
set_option maxRecDepth 100000 in
theorem TBack_any (t r n X : Nat) (u : Value) (gs : Nat → Nat) (m : Nat) (a d : Int) (w : World) (h : Tr w t r n X u gs m) :
    Calls Try.prog 13 #[.pointer (some ⟨t, 0, none⟩), .int .i64 a, .int .i64 d] w fun e w' => e = .returned (.int .i64 (Pn.back X 0 (Pn.fr n a) d)) ∧ Below w.heap.size w w' := by
  have hl := h.row.len
  have HT := hidden h
  have HR := hidden h.row
  have HPL := hidden (place7_any t r n X u gs m a w h)
  have HFA := hidden (far7_any t r n X u gs m d w h)
  have hpn := Pn.fr_le n a
  obtain ⟨g, cap, hf⟩ := h.form
  have c0 := hf.c0
  clear h hf
  generalize Pn.fr n a = p at *
  by_cases hp : p = 0
  · have HZ := hidden (Mx.back_far X p n d hpn (.inl hp))
    subst hp
    go_enter Try.func13, Try.ntmps13
    go_wp2_with fail
    refine HPL.out.mono ?_
    rintro e' w1 ⟨rfl, rfl⟩
    go_wp2_with fail
    go_ret
    exact ⟨ret_int HZ.out.symm, Below.refl _ _⟩
  · have hpe : ((p : Int) == 0) = false := by simpa using hp
    by_cases hd : (n : Int) < d ∨ d < -(n : Int)
    · have HZ := hidden (Mx.back_far X p n d hpn (.inr hd))
      have hfar : (decide ((n : Int) < d) || decide (d < -(n : Int))) = true := by simpa using hd
      rw [hfar] at HFA
      clear hd hfar hp
      go_enter Try.func13, Try.ntmps13
      go_wp2_with fail
      refine HPL.out.mono ?_
      rintro e' w1 ⟨rfl, rfl⟩
      go_wp2_with fail
      refine HFA.out.mono ?_
      rintro e' w1 ⟨rfl, rfl⟩
      go_wp2_with fail
      go_ret
      exact ⟨ret_int HZ.out.symm, Below.refl _ _⟩
    · have hfar : (decide ((n : Int) < d) || decide (d < -(n : Int))) = false := by simpa using hd
      rw [hfar] at HFA
      have hp2 : 0 < p := by omega
      have b1 : (p - 1) / 512 * 512 ≤ p - 1 := Nat.div_mul_le_self _ 512
      have hF := Back_any r n X ((p - 1) / 512 * 512 : Nat) (p : Nat) d u w HR.out
      have hE := fun W => PExcess_any r n X ((p - 1) / 512 * 512 : Nat) (p : Nat) u W
      rw [Pn.fr_nat n _ (by omega), Pn.to_nat n _ _ (by omega) hpn] at hF hE
      rw [Pn.exc_part, show (p - 1) / 512 * 512 + (p - (p - 1) / 512 * 512) = p from by omega] at hE
      have HNE := hidden (fun k => Mx.back_near X p d k hp2)
      have HUF := hidden (Mx.back_U X n p d hp2 hpn)
      have HVF := hidden (fun i e => Mx.back_V X n p i d e)
      have HNO := hidden (Mx.back_No X p d)
      have hx1 := Wd.exc_bounds X p
      have hx2 := Wd.exc_bounds X ((p - 1) / 512 * 512)
      have HWY := hidden (Mx.way_back X n p (Wd.exc X p - d) hl (by omega))
      obtain ⟨i, hi⟩ : ∃ i, i = (p - 1) / 512 := ⟨_, rfl⟩
      rw [← hi] at hF hE HNE HUF hx2 b1
      obtain ⟨q, hq⟩ : ∃ q : Nat, q = i * 512 := ⟨_, rfl⟩
      rw [← hq] at hF hE HNE HUF hx2 b1
      have hi1 : ((p : Int) - 1) / 512 = (i : Int) := by omega
      have hq1 : (i : Int) * 512 = (q : Int) := by omega
      have hib : i ≤ 4294967296 := by omega
      have hdb : -4294967296 ≤ d ∧ d ≤ 4294967296 := by omega
      obtain ⟨k, hk⟩ : ∃ k, k = Pn.back X q p d := ⟨_, rfl⟩
      rw [← hk] at hF HUF
      obtain ⟨x, hx⟩ : ∃ x, x = Wd.exc X p - Wd.exc X q := ⟨_, rfl⟩
      rw [← hx] at hE HUF
      have hxb : -8589934592 ≤ x ∧ x ≤ 8589934592 := by omega
      have hp1 : (1 : Int) ≤ (p : Int) := by omega
      have HK := hidden hk
      have HF := hidden hF
      have HE := hidden hE
      clear hfar hd hp b1 hF hE hi hq hk hx hx1 hx2
      go_enter Try.func13, Try.ntmps13
      go_wp2_with fail
      refine HPL.out.mono ?_
      rintro e' w1 ⟨rfl, rfl⟩
      go_wp2_with fail
      refine HFA.out.mono ?_
      rintro e' w1 ⟨rfl, rfl⟩
      go_wp2_with fail
      refine HF.out.mono ?_
      rintro e' w2 ⟨rfl, hb2⟩
      have HB2 := hidden hb2
      have HT2 := hidden (HT.out.below hb2 (Nat.le_refl _))
      obtain ⟨g2, cap2, hf2⟩ := HT2.out.form
      have e0 := hf2.c0
      clear hb2 hf2 c0
      by_cases hkn : k = -1
      · subst hkn
        go_wp2_with fail
        refine (HE.out _ HT2.out.row).mono ?_
        rintro e' w3 ⟨rfl, rfl⟩
        go_wp2_with fail
        refine (seek_any t r n X u gs m 35 1 i (d - x) (Mx.mtb X n) _ _ _ w3 HT2.out HWY.out (meets_ends X n hl) (HUF.out trivial)).mono ?_
        rintro e' w4 ⟨⟨v4, rfl, hv4⟩, hb4⟩
        have HB4 := hidden (HB2.out.trans (hb4.mono HB2.out.size))
        have HT4 := hidden (HT2.out.below hb4 (Nat.le_refl _))
        obtain ⟨g4, cap4, hf4⟩ := HT4.out.form
        have z0 := hf4.c0
        clear hb4 hf4 e0
        rcases hv4 with ⟨rfl, hno⟩ | ⟨i4, d4, rfl, hV⟩
        · have HZ := hidden (HNO.out hno)
          clear hno
          go_wp2_with fail
          go_ret
          exact ⟨ret_int HZ.out.symm, HB4.out⟩
        · have HZ := hidden (HVF.out i4 d4 hV)
          have h4 : (i4 + 1) * 512 ≤ n := hV.1
          clear hV
          have hF4 := Back_any r n X (i4 * 512 : Nat) ((i4 + 1) * 512 : Nat) d4 u w4 HT4.out.row
          rw [Pn.fr_nat n _ (by omega), Pn.to_nat n _ _ (by omega) h4] at hF4
          rw [← HZ.out] at hF4
          obtain ⟨s, hs⟩ : ∃ s, s = i4 * 512 := ⟨_, rfl⟩
          obtain ⟨s', hs'⟩ : ∃ s, s = (i4 + 1) * 512 := ⟨_, rfl⟩
          rw [← hs, ← hs'] at hF4
          have HF4 := hidden hF4
          have hs1 : (i4 : Int) * 512 = (s : Int) := by omega
          have hs2 : ((i4 : Int) + 1) * 512 = (s' : Int) := by omega
          have hi4 : ((i4 : Int) == -1) = false := by simp
          have hib4 : i4 ≤ 4294967296 := by omega
          clear hF4 hs hs' h4
          go_wp2_with fail
          refine HF4.out.mono ?_
          rintro e' w5 ⟨rfl, hb5⟩
          have HB5 := hidden (HB4.out.trans (hb5.mono HB4.out.size))
          clear hb5
          go_wp2_with fail
          go_ret
          exact ⟨rfl, HB5.out⟩
      · have hkf : (k != -1) = true := by simpa using hkn
        have HZ := hidden (HNE.out k HK.out hkn)
        clear hkn
        go_wp2_with fail
        go_ret
        exact ⟨ret_int HZ.out.symm, HB2.out⟩
end Go.Proofs.Ytdjhpfojbnikdaa
