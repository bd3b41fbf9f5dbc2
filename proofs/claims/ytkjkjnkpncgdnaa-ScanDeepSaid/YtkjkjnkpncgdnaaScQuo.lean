/-
  The contracts of package scan's quoted and single: for every string that is alive as UTF-8; nothing that was there is changed.
-/
import Derived.Test.YtkjkjnkpncgdnaaScNum
namespace Go.Proofs.Ytkjkjnkpncgdnaa
open Go.RowKit
namespace Js
/-- Where a string's reader stands. -/
def Qn (l : List UInt8) (c : Bool → List Bool → Nat → Cf) (j : Nat) : Prop := ∀ k st d, T l (cS 0 k st d) 1 = T l (c k st d) j
def Q0 (l : List UInt8) (p : Nat) : Prop := p < l.length ∧ Qn l (cS (qs l (p + 1))) (p + 1)
def Q1 (l : List UInt8) (p : Nat) : Prop := p < l.length ∧ Qn l cX (p + 1)
def Q2 (l : List UInt8) (p : Nat) : Prop := p ≤ l.length ∧ Qn l (cS (qs l p)) p
def Q3 (l : List UInt8) (p : Nat) : Prop := p < l.length ∧ Qn l (cU 0) (p + 1)
def QAt (l : List UInt8) (lb p : Nat) : Prop := (lb = 0 ∧ Q0 l p) ∨ (lb = 1 ∧ Q1 l p) ∨ (lb = 2 ∧ Q2 l p) ∨ (lb = 3 ∧ Q3 l p)
theorem q_begin (l : List UInt8) (h : Al l) (hb : bt l 0 = 34) : Q0 l 0 := by
  have hi := bt_in l 0 (by omega)
  refine ⟨hi, fun k st d => ?_⟩
  rw [(qs_letter l h 0 hi (by omega)).2]
theorem q_next (l : List UInt8) (p : Nat) (h : Q0 l p) : Q2 l (p + 1) := h
theorem q_close (l : List UInt8) (h : Al l) (p : Nat) (hq : Q2 l p) (hb : bt l p = 34) : p + 1 ≤ l.length ∧ ∀ k st d, T l (cS 0 k st d) 1 = T l (aft k st d) (p + 1) := by
  have hi := bt_in l p (by omega)
  refine ⟨hi, fun k st d => (hq.2 k st d).trans ?_⟩
  rw [(qs_letter l h p hi (by omega)).1]
  exact T_close l k st d p hi (by rw [← bt_at l p hi]; exact hb)
theorem q_back (l : List UInt8) (h : Al l) (p : Nat) (hq : Q2 l p) (hb : bt l p = 92) : Q1 l p := by
  have hi := bt_in l p (by omega)
  refine ⟨hi, fun k st d => (hq.2 k st d).trans ?_⟩
  rw [(qs_letter l h p hi (by omega)).1]
  exact T_back l k st d p hi (by rw [← bt_at l p hi]; exact hb)
theorem q_low (l : List UInt8) (h : Al l) (p : Nat) (hq : Q2 l p) (hb : bt l p < 32) : ∀ k st d, T l (cS 0 k st d) 1 = (none, p) := fun k st d => (hq.2 k st d).trans (by
  by_cases hi : p < l.length
  · rw [(qs_letter l h p hi (by omega)).1]
    exact T_low l k st d p hi (by rw [← bt_at l p hi]; exact hb)
  · have := hq.1
    exact T_live l _ p (by omega) rfl)
theorem q_through (l : List UInt8) (h : Al l) (p : Nat) (hq : Q2 l p) (h1 : 32 ≤ bt l p) (h2 : bt l p ≠ 34) (h3 : bt l p ≠ 92) : Q0 l p := by
  have hi := bt_in l p (by omega)
  exact ⟨hi, fun k st d => (hq.2 k st d).trans (T_through l h p hi h1 h2 h3 k st d)⟩
theorem isS_bt (b : Nat) : isS b = true → b ≠ 0 ∧ b < 128 := fun h => by
  unfold isS at h
  simp only [Bool.or_eq_true, beq_iff_eq] at h
  omega
theorem isH_bt (b : Nat) : isH b = true → b ≠ 0 ∧ b < 128 := fun h => by
  unfold isH isD at h
  simp only [Bool.or_eq_true, Bool.and_eq_true, decide_eq_true_eq] at h
  omega
theorem q_sign (l : List UInt8) (h : Al l) (p : Nat) (hq : Q1 l p) (hb : isS (bt l (p + 1)) = true) : Q0 l (p + 1) := by
  have hi := bt_in l (p + 1) (isS_bt _ hb).1
  refine ⟨hi, fun k st d => (hq.2 k st d).trans ?_⟩
  rw [(qs_letter l h (p + 1) hi (isS_bt _ hb).2).2]
  exact T_sign l k st d (p + 1) hi (by rw [← bt_at l (p + 1) hi]; exact hb)
theorem q_u (l : List UInt8) (p : Nat) (hq : Q1 l p) (hb : bt l (p + 1) = 117) : Q3 l (p + 1) := by
  have hi := bt_in l (p + 1) (by omega)
  exact ⟨hi, fun k st d => (hq.2 k st d).trans (T_u l k st d (p + 1) hi (by rw [← bt_at l (p + 1) hi]; exact hb))⟩
theorem q_nosign (l : List UInt8) (p : Nat) (hq : Q1 l p) (hb : isS (bt l (p + 1)) = false) (hb2 : bt l (p + 1) ≠ 117) : ∀ k st d, T l (cS 0 k st d) 1 = (none, p + 1) := fun k st d =>
  (hq.2 k st d).trans (T_nosign l k st d (p + 1) hq.1 fun hi => by rw [← bt_at l (p + 1) hi]; exact ⟨hb, hb2⟩)
theorem q_hexes (l : List UInt8) (p j : Nat) (hj : j ≤ 3) (hq : Q3 l p) (hd : ∀ i, p + 1 ≤ i → i < p + 1 + j → isH (bt l i) = true) : Qn l (cU j) (p + 1 + j) := by
  induction j with
  | zero => exact hq.2
  | succ j ih =>
    have h1 := ih (by omega) (fun i h2 h3 => hd i h2 (by omega))
    have h2 := hd (p + 1 + j) (by omega) (by omega)
    have hi := bt_in l _ (isH_bt _ h2).1
    rw [bt_at l _ hi] at h2
    exact fun k st d => (h1 k st d).trans (T_hex l k st d (p + 1 + j) j (by omega) hi h2)
theorem q_unit (l : List UInt8) (h : Al l) (p : Nat) (hq : Q3 l p) (hd : ∀ i, p + 1 ≤ i → i < p + 1 + 4 → isH (bt l i) = true) : Q2 l (p + 1 + 4) := by
  have h1 := q_hexes l p 3 (by omega) hq (fun i h2 h3 => hd i h2 (by omega))
  have h2 := hd (p + 1 + 3) (by omega) (by omega)
  have hi := bt_in l _ (isH_bt _ h2).1
  refine ⟨hi, fun k st d => (h1 k st d).trans ?_⟩
  rw [show qs l (p + 1 + 4) = 0 from (qs_letter l h (p + 1 + 3) hi (isH_bt _ h2).2).2]
  rw [bt_at l _ hi] at h2
  exact T_hex_last l k st d (p + 1 + 3) hi h2
theorem q_nounit (l : List UInt8) (p n : Nat) (hn : n < 4) (hl : p + 1 + n ≤ l.length) (hq : Q3 l p) (hd : ∀ i, p + 1 ≤ i → i < p + 1 + n → isH (bt l i) = true) (hr : isH (bt l (p + 1 + n)) = false) : ∀ k st d, T l (cS 0 k st d) 1 = (none, p + 1 + n) := fun k st d =>
  (q_hexes l p n (by omega) hq hd k st d).trans (T_nohex l k st d (p + 1 + n) n hl fun hi => by rw [← bt_at l _ hi]; exact hr)
end Js
/-- What quoted tells. -/
def QuoPost (l : List UInt8) (e : Ending) : Prop :=
  (∃ n : Nat, e = .returned (.tuple #[.int .i64 (n : Nat), .bool true]) ∧ n ≤ l.length ∧ 0 < n ∧ Js.bt l (n - 1) < 128 ∧ Js.bt l 0 = 34 ∧ ∀ k st d, Js.T l (Js.cS 0 k st d) 1 = Js.T l (Js.aft k st d) n)
  ∨ ∃ n : Nat, e = .returned (.tuple #[.int .i64 (n : Nat), .bool false]) ∧ n ≤ l.length ∧ (Js.bt l 0 ≠ 34 → n = 0) ∧ (Js.bt l 0 = 34 → ∀ k st d, Js.T l (Js.cS 0 k st d) 1 = (none, n))
def frQu (s : ByteArray) (a : Nat) (u : Nat → Value) : Array Value := #[.string s, undef, .int .i64 0, .bool false, .int .i64 (a : Nat), u 5, u 6, u 7, u 8, u 9, u 10, u 11, u 12, u 13, u 14, u 15, u 16, u 17, u 18, u 19, u 20, u 21, u 22, u 23, u 24, u 25, u 26, u 27, u 28, u 29, u 30, u 31, u 32, u 33, u 34, u 35, u 36, u 37, u 38, u 39, u 40, u 41, u 42, u 43, u 44, u 45, u 46, u 47, u 48, u 49, u 50, u 51, u 52, u 53, u 54, u 55, u 56, u 57]
theorem frQu_is {s : ByteArray} {a : Nat} {x4 u5 u6 u7 u8 u9 u10 u11 u12 u13 u14 u15 u16 u17 u18 u19 u20 u21 u22 u23 u24 u25 u26 u27 u28 u29 u30 u31 u32 u33 u34 u35 u36 u37 u38 u39 u40 u41 u42 u43 u44 u45 u46 u47 u48 u49 u50 u51 u52 u53 u54 u55 u56 u57 : Value} (h : x4 = .int .i64 (a : Nat)) : ∃ u, #[.string s, undef, .int .i64 0, .bool false, x4, u5, u6, u7, u8, u9, u10, u11, u12, u13, u14, u15, u16, u17, u18, u19, u20, u21, u22, u23, u24, u25, u26, u27, u28, u29, u30, u31, u32, u33, u34, u35, u36, u37, u38, u39, u40, u41, u42, u43, u44, u45, u46, u47, u48, u49, u50, u51, u52, u53, u54, u55, u56, u57] = frQu s a u := by
  subst h
  exact ⟨fun j => [u5, u6, u7, u8, u9, u10, u11, u12, u13, u14, u15, u16, u17, u18, u19, u20, u21, u22, u23, u24, u25, u26, u27, u28, u29, u30, u31, u32, u33, u34, u35, u36, u37, u38, u39, u40, u41, u42, u43, u44, u45, u46, u47, u48, u49, u50, u51, u52, u53, u54, u55, u56, u57].getD (j - 5) undef, rfl⟩
set_option maxHeartbeats 4000000 in
theorem sQuoted_any (s : ByteArray) (w : World) (hs : s.size ≤ 1000000) (hal : Js.Al s.data.toList) :
    Calls Try.prog 23 #[.string s] w fun e w' => QuoPost s.data.toList e ∧ w' = w := by
  have HAL := hidden hal
  clear hal
  have hlen : s.data.toList.length = s.size := rfl
  have HLEN := hidden hlen
  clear hlen
  go_enter Try.func23, Try.ntmps23
  go_wp2_with fail
  refine wp_scope_all (fun l a' w' => w' = w ∧ ∃ p A, a' = { tmps := A, defers := [] } ∧ (∃ u, A = frQu s p u) ∧ Js.bt s.data.toList 0 = 34 ∧ Js.QAt s.data.toList l p) (fun l a' _ => 2 * (s.size - (intOf (a'.tmps.getD 4 undef)).toNat) + (if l = 2 then 1 else 0)) ?_ ?_
  · refine wp_seq_k fun KA hKA => ?_
    have HKA := hidden hKA
    clear hKA
    go_wp2_with fail
    refine HKA.out _ _ ?_
    by_cases h0 : Js.bt s.data.toList 0 = 34
    · have H34 := hidden h0
      have hlt0 := bt_within s 0 (by omega)
      go_wp2_with fail
      refine (sFirst_any s _).mono ?_
      rintro e w1 ⟨rfl, hw⟩
      have hw := hw.symm
      subst hw
      rw [h0]
      clear h0
      go_wp2_with fail
      refine wp_label ?_
      have HQ2 : Hid (Js.Q2 s.data.toList 1) := Js.q_next _ 0 (Js.q_begin _ HAL.out H34.out)
      have hqs : 1 ≤ s.size := hlt0
      go_wp2_with fail
      refine wp_label ?_
      go_wp2_with fail
      refine (sFirst_at s 1 _).mono ?_
      rintro e w1 ⟨rfl, hw⟩
      have hw := hw.symm
      subst hw
      obtain ⟨b, hb⟩ : ∃ b, b = Js.bt s.data.toList 1 := ⟨_, rfl⟩
      rw [← hb]
      have HB := hidden hb
      clear hb
      by_cases h34 : b = 34
      · subst h34
        have HC := hidden (Js.q_close _ HAL.out 1 HQ2.out HB.out.symm)
        have hlt := bt_within s 1 (by have := HB.out; omega)
        obtain ⟨t, ht⟩ : ∃ t, t = 1 + 1 := ⟨_, rfl⟩
        have ht2 : (1 : Int) + 1 = (t : Int) := by omega
        have HT := hidden ht
        clear ht
        go_wp2_with fail
        refine jump_ret ?_
        go_ret2
        have h1 := HT.out
        subst h1
        exact ⟨.inl ⟨1 + 1, rfl, HC.out.1, by omega, by rw [Nat.add_sub_cancel, ← HB.out]; decide, H34.out, HC.out.2⟩, rfl⟩
      by_cases h92 : b = 92
      · subst h92
        have hlt := bt_within s 1 (by have := HB.out; omega)
        go_wp2_with fail
        apply wp_goto
        refine And.intro rfl ?_
        exact ⟨1, _, rfl, frQu_is rfl, H34.out, .inr (.inl ⟨rfl, Js.q_back _ HAL.out 1 HQ2.out HB.out.symm⟩)⟩
      have e34 : ((b : Int) == 34) = false := by rw [beq_eq_false_iff_ne]; omega
      have e92 : ((b : Int) == 92) = false := by rw [beq_eq_false_iff_ne]; omega
      have HN : Hid (b ≠ 34 ∧ b ≠ 92) := hidden ⟨h34, h92⟩
      clear h34 h92
      by_cases hlow : b < 32
      · have e32 : decide ((b : Int) < 32) = true := decide_eq_true (by omega)
        have HLW := hidden hlow
        clear hlow
        go_wp2_with fail
        refine jump_ret ?_
        go_ret2
        exact ⟨.inr ⟨1, rfl, hqs, fun h => absurd H34.out h, fun _ => Js.q_low _ HAL.out 1 HQ2.out (by rw [← HB.out]; exact HLW.out)⟩, rfl⟩
      · have e32 : decide ((b : Int) < 32) = false := decide_eq_false (by omega)
        have HLW := hidden hlow
        have hlt := bt_within s 1 (by have := HB.out; omega)
        clear hlow
        go_wp2_with fail
        have HTH : Hid (Js.Q0 s.data.toList 1) := Js.q_through _ HAL.out 1 HQ2.out (by rw [← HB.out]; have := HLW.out; omega) (by rw [← HB.out]; exact HN.out.1) (by rw [← HB.out]; exact HN.out.2)
        apply wp_goto
        refine And.intro rfl ?_
        exact ⟨1, _, rfl, frQu_is rfl, H34.out, .inl ⟨rfl, HTH.out⟩⟩
    · have e0 : (((Js.bt s.data.toList 0 : Nat) : Int) != 34) = true := by rw [bne_iff_ne]; omega
      have H0 := hidden h0
      clear h0
      go_wp2_with fail
      refine (sFirst_any s _).mono ?_
      rintro e w1 ⟨rfl, hw⟩
      have hw := hw.symm
      subst hw
      go_wp2_with fail
      refine jump_ret ?_
      go_ret2
      exact ⟨.inr ⟨0, rfl, Nat.zero_le _, fun _ => rfl, fun h => absurd h H0.out⟩, rfl⟩
  · rintro l a' w' ⟨rfl, p, A, rfl, ⟨u, rfl⟩, h34, hcase⟩
    have H34 := hidden h34
    clear h34
    unfold frQu
    rcases hcase with ⟨rfl, hq⟩ | ⟨rfl, hq⟩ | ⟨rfl, hq⟩ | ⟨rfl, hq⟩
    · refine ⟨_, rfl, ?_⟩
      have hps : p < s.size := hq.1
      have HQP := hidden hq
      clear hq
      obtain ⟨q, hq⟩ : ∃ q, q = p + 1 := ⟨_, rfl⟩
      have hq2 : (p : Int) + 1 = (q : Int) := by omega
      have hqs : q ≤ s.size := by omega
      have HQ2 : Hid (Js.Q2 s.data.toList q) := by
        have := Js.q_next _ p HQP.out
        rw [← hq] at this
        exact this
      have HQE := hidden hq
      clear hq
      go_wp2_with fail
      refine wp_label ?_
      go_wp2_with fail
      refine (sFirst_at s q _).mono ?_
      rintro e w1 ⟨rfl, hw⟩
      have hw := hw.symm
      subst hw
      obtain ⟨b, hb⟩ : ∃ b, b = Js.bt s.data.toList q := ⟨_, rfl⟩
      rw [← hb]
      have HB := hidden hb
      clear hb
      by_cases h34 : b = 34
      · subst h34
        have HC := hidden (Js.q_close _ HAL.out q HQ2.out HB.out.symm)
        have hlt := bt_within s q (by have := HB.out; omega)
        obtain ⟨t, ht⟩ : ∃ t, t = q + 1 := ⟨_, rfl⟩
        have ht2 : (q : Int) + 1 = (t : Int) := by omega
        have HT := hidden ht
        clear ht
        go_wp2_with fail
        refine jump_ret ?_
        go_ret2
        have h1 := HT.out
        subst h1
        exact ⟨.inl ⟨q + 1, rfl, HC.out.1, by omega, by rw [Nat.add_sub_cancel, ← HB.out]; decide, H34.out, HC.out.2⟩, rfl⟩
      by_cases h92 : b = 92
      · subst h92
        have hlt := bt_within s q (by have := HB.out; omega)
        go_wp2_with fail
        apply wp_goto
        refine And.intro (And.intro rfl ?_) ?_
        · exact ⟨q, _, rfl, frQu_is rfl, H34.out, .inr (.inl ⟨rfl, Js.q_back _ HAL.out q HQ2.out HB.out.symm⟩)⟩
        · show 2 * (s.size - (intOf (Value.int .i64 _)).toNat) + _ < 2 * (s.size - (intOf (Value.int .i64 _)).toNat) + _
          have := HQE.out
          simp [intOf]
          all_goals omega
      have e34 : ((b : Int) == 34) = false := by rw [beq_eq_false_iff_ne]; omega
      have e92 : ((b : Int) == 92) = false := by rw [beq_eq_false_iff_ne]; omega
      have HN : Hid (b ≠ 34 ∧ b ≠ 92) := hidden ⟨h34, h92⟩
      clear h34 h92
      by_cases hlow : b < 32
      · have e32 : decide ((b : Int) < 32) = true := decide_eq_true (by omega)
        have HLW := hidden hlow
        clear hlow
        go_wp2_with fail
        refine jump_ret ?_
        go_ret2
        exact ⟨.inr ⟨q, rfl, hqs, fun h => absurd H34.out h, fun _ => Js.q_low _ HAL.out q HQ2.out (by rw [← HB.out]; exact HLW.out)⟩, rfl⟩
      · have e32 : decide ((b : Int) < 32) = false := decide_eq_false (by omega)
        have HLW := hidden hlow
        have hlt := bt_within s q (by have := HB.out; omega)
        clear hlow
        go_wp2_with fail
        have HTH : Hid (Js.Q0 s.data.toList q) := Js.q_through _ HAL.out q HQ2.out (by rw [← HB.out]; have := HLW.out; omega) (by rw [← HB.out]; exact HN.out.1) (by rw [← HB.out]; exact HN.out.2)
        apply wp_goto
        refine And.intro (And.intro rfl ?_) ?_
        · exact ⟨q, _, rfl, frQu_is rfl, H34.out, .inl ⟨rfl, HTH.out⟩⟩
        · show 2 * (s.size - (intOf (Value.int .i64 _)).toNat) + _ < 2 * (s.size - (intOf (Value.int .i64 _)).toNat) + _
          have := HQE.out
          simp [intOf]
          all_goals omega
    · refine ⟨_, rfl, ?_⟩
      have hps : p < s.size := hq.1
      have HQP := hidden hq
      clear hq
      obtain ⟨q, hq⟩ : ∃ q, q = p + 1 := ⟨_, rfl⟩
      have hq2 : (p : Int) + 1 = (q : Int) := by omega
      have hqs : q ≤ s.size := by omega
      have HQ1 := HQP
      have HQE := hidden hq
      clear hq HQP
      go_wp2_with fail
      refine (sFirst_at s q _).mono ?_
      rintro e w1 ⟨rfl, hw⟩
      have hw := hw.symm
      subst hw
      obtain ⟨b, hb⟩ : ∃ b, b = Js.bt s.data.toList q := ⟨_, rfl⟩
      rw [← hb]
      have HB := hidden hb
      clear hb
      by_cases h34 : b = 34
      · subst h34
        have hlt := bt_within s q (by have := HB.out; omega)
        have HS : Hid (Js.Q0 s.data.toList q) := by
          have h1 := HQE.out
          have h2 := HB.out
          subst h1
          exact Js.q_sign _ HAL.out p HQ1.out (by rw [← h2]; decide)
        go_wp2_with fail
        apply wp_goto
        refine And.intro (And.intro rfl ?_) ?_
        · exact ⟨q, _, rfl, frQu_is rfl, H34.out, .inl ⟨rfl, HS.out⟩⟩
        · show 2 * (s.size - (intOf (Value.int .i64 _)).toNat) + _ < 2 * (s.size - (intOf (Value.int .i64 _)).toNat) + _
          have := HQE.out
          simp [intOf]
          all_goals omega
      by_cases h92 : b = 92
      · subst h92
        have hlt := bt_within s q (by have := HB.out; omega)
        have HS : Hid (Js.Q0 s.data.toList q) := by
          have h1 := HQE.out
          have h2 := HB.out
          subst h1
          exact Js.q_sign _ HAL.out p HQ1.out (by rw [← h2]; decide)
        go_wp2_with fail
        apply wp_goto
        refine And.intro (And.intro rfl ?_) ?_
        · exact ⟨q, _, rfl, frQu_is rfl, H34.out, .inl ⟨rfl, HS.out⟩⟩
        · show 2 * (s.size - (intOf (Value.int .i64 _)).toNat) + _ < 2 * (s.size - (intOf (Value.int .i64 _)).toNat) + _
          have := HQE.out
          simp [intOf]
          all_goals omega
      by_cases h47 : b = 47
      · subst h47
        have hlt := bt_within s q (by have := HB.out; omega)
        have HS : Hid (Js.Q0 s.data.toList q) := by
          have h1 := HQE.out
          have h2 := HB.out
          subst h1
          exact Js.q_sign _ HAL.out p HQ1.out (by rw [← h2]; decide)
        go_wp2_with fail
        apply wp_goto
        refine And.intro (And.intro rfl ?_) ?_
        · exact ⟨q, _, rfl, frQu_is rfl, H34.out, .inl ⟨rfl, HS.out⟩⟩
        · show 2 * (s.size - (intOf (Value.int .i64 _)).toNat) + _ < 2 * (s.size - (intOf (Value.int .i64 _)).toNat) + _
          have := HQE.out
          simp [intOf]
          all_goals omega
      by_cases h98 : b = 98
      · subst h98
        have hlt := bt_within s q (by have := HB.out; omega)
        have HS : Hid (Js.Q0 s.data.toList q) := by
          have h1 := HQE.out
          have h2 := HB.out
          subst h1
          exact Js.q_sign _ HAL.out p HQ1.out (by rw [← h2]; decide)
        go_wp2_with fail
        apply wp_goto
        refine And.intro (And.intro rfl ?_) ?_
        · exact ⟨q, _, rfl, frQu_is rfl, H34.out, .inl ⟨rfl, HS.out⟩⟩
        · show 2 * (s.size - (intOf (Value.int .i64 _)).toNat) + _ < 2 * (s.size - (intOf (Value.int .i64 _)).toNat) + _
          have := HQE.out
          simp [intOf]
          all_goals omega
      by_cases h102 : b = 102
      · subst h102
        have hlt := bt_within s q (by have := HB.out; omega)
        have HS : Hid (Js.Q0 s.data.toList q) := by
          have h1 := HQE.out
          have h2 := HB.out
          subst h1
          exact Js.q_sign _ HAL.out p HQ1.out (by rw [← h2]; decide)
        go_wp2_with fail
        apply wp_goto
        refine And.intro (And.intro rfl ?_) ?_
        · exact ⟨q, _, rfl, frQu_is rfl, H34.out, .inl ⟨rfl, HS.out⟩⟩
        · show 2 * (s.size - (intOf (Value.int .i64 _)).toNat) + _ < 2 * (s.size - (intOf (Value.int .i64 _)).toNat) + _
          have := HQE.out
          simp [intOf]
          all_goals omega
      by_cases h110 : b = 110
      · subst h110
        have hlt := bt_within s q (by have := HB.out; omega)
        have HS : Hid (Js.Q0 s.data.toList q) := by
          have h1 := HQE.out
          have h2 := HB.out
          subst h1
          exact Js.q_sign _ HAL.out p HQ1.out (by rw [← h2]; decide)
        go_wp2_with fail
        apply wp_goto
        refine And.intro (And.intro rfl ?_) ?_
        · exact ⟨q, _, rfl, frQu_is rfl, H34.out, .inl ⟨rfl, HS.out⟩⟩
        · show 2 * (s.size - (intOf (Value.int .i64 _)).toNat) + _ < 2 * (s.size - (intOf (Value.int .i64 _)).toNat) + _
          have := HQE.out
          simp [intOf]
          all_goals omega
      by_cases h114 : b = 114
      · subst h114
        have hlt := bt_within s q (by have := HB.out; omega)
        have HS : Hid (Js.Q0 s.data.toList q) := by
          have h1 := HQE.out
          have h2 := HB.out
          subst h1
          exact Js.q_sign _ HAL.out p HQ1.out (by rw [← h2]; decide)
        go_wp2_with fail
        apply wp_goto
        refine And.intro (And.intro rfl ?_) ?_
        · exact ⟨q, _, rfl, frQu_is rfl, H34.out, .inl ⟨rfl, HS.out⟩⟩
        · show 2 * (s.size - (intOf (Value.int .i64 _)).toNat) + _ < 2 * (s.size - (intOf (Value.int .i64 _)).toNat) + _
          have := HQE.out
          simp [intOf]
          all_goals omega
      by_cases h116 : b = 116
      · subst h116
        have hlt := bt_within s q (by have := HB.out; omega)
        have HS : Hid (Js.Q0 s.data.toList q) := by
          have h1 := HQE.out
          have h2 := HB.out
          subst h1
          exact Js.q_sign _ HAL.out p HQ1.out (by rw [← h2]; decide)
        go_wp2_with fail
        apply wp_goto
        refine And.intro (And.intro rfl ?_) ?_
        · exact ⟨q, _, rfl, frQu_is rfl, H34.out, .inl ⟨rfl, HS.out⟩⟩
        · show 2 * (s.size - (intOf (Value.int .i64 _)).toNat) + _ < 2 * (s.size - (intOf (Value.int .i64 _)).toNat) + _
          have := HQE.out
          simp [intOf]
          all_goals omega
      by_cases h117 : b = 117
      · subst h117
        have hlt := bt_within s q (by have := HB.out; omega)
        have HS : Hid (Js.Q3 s.data.toList q) := by
          have h1 := HQE.out
          have h2 := HB.out
          subst h1
          exact Js.q_u _ p HQ1.out h2.symm
        go_wp2_with fail
        apply wp_goto
        refine And.intro (And.intro rfl ?_) ?_
        · exact ⟨q, _, rfl, frQu_is rfl, H34.out, .inr (.inr (.inr ⟨rfl, HS.out⟩))⟩
        · show 2 * (s.size - (intOf (Value.int .i64 _)).toNat) + _ < 2 * (s.size - (intOf (Value.int .i64 _)).toNat) + _
          have := HQE.out
          simp [intOf]
          all_goals omega
      · have e34 : ((b : Int) == 34) = false := by rw [beq_eq_false_iff_ne]; omega
        have e92 : ((b : Int) == 92) = false := by rw [beq_eq_false_iff_ne]; omega
        have e47 : ((b : Int) == 47) = false := by rw [beq_eq_false_iff_ne]; omega
        have e98 : ((b : Int) == 98) = false := by rw [beq_eq_false_iff_ne]; omega
        have e102 : ((b : Int) == 102) = false := by rw [beq_eq_false_iff_ne]; omega
        have e110 : ((b : Int) == 110) = false := by rw [beq_eq_false_iff_ne]; omega
        have e114 : ((b : Int) == 114) = false := by rw [beq_eq_false_iff_ne]; omega
        have e116 : ((b : Int) == 116) = false := by rw [beq_eq_false_iff_ne]; omega
        have e117 : ((b : Int) == 117) = false := by rw [beq_eq_false_iff_ne]; omega
        have HNS : Hid (Js.isS b = false ∧ b ≠ 117) := by
          refine ⟨?_, h117⟩
          unfold Js.isS
          simp only [Bool.or_eq_false_iff, beq_eq_false_iff_ne]
          exact ⟨⟨⟨⟨⟨⟨⟨h34, h92⟩, h47⟩, h98⟩, h102⟩, h110⟩, h114⟩, h116⟩
        clear h34 h92 h47 h98 h102 h110 h114 h116 h117
        go_wp2_with fail
        refine jump_ret ?_
        go_ret2
        refine ⟨.inr ⟨q, rfl, hqs, fun h => absurd H34.out h, fun _ => ?_⟩, rfl⟩
        have h1 := HQE.out
        have h2 := HB.out
        have h3 := HNS.out
        rw [h2] at h3
        subst h1
        exact Js.q_nosign _ p HQ1.out h3.1 h3.2
    · refine ⟨_, rfl, ?_⟩
      have hps : p ≤ s.size := hq.1
      have HQ2 := hidden hq
      have hqs := hps
      clear hq
      go_wp2_with fail
      refine (sFirst_at s p _).mono ?_
      rintro e w1 ⟨rfl, hw⟩
      have hw := hw.symm
      subst hw
      obtain ⟨b, hb⟩ : ∃ b, b = Js.bt s.data.toList p := ⟨_, rfl⟩
      rw [← hb]
      have HB := hidden hb
      clear hb
      by_cases h34 : b = 34
      · subst h34
        have HC := hidden (Js.q_close _ HAL.out p HQ2.out HB.out.symm)
        have hlt := bt_within s p (by have := HB.out; omega)
        obtain ⟨t, ht⟩ : ∃ t, t = p + 1 := ⟨_, rfl⟩
        have ht2 : (p : Int) + 1 = (t : Int) := by omega
        have HT := hidden ht
        clear ht
        go_wp2_with fail
        refine jump_ret ?_
        go_ret2
        have h1 := HT.out
        subst h1
        exact ⟨.inl ⟨p + 1, rfl, HC.out.1, by omega, by rw [Nat.add_sub_cancel, ← HB.out]; decide, H34.out, HC.out.2⟩, rfl⟩
      by_cases h92 : b = 92
      · subst h92
        have hlt := bt_within s p (by have := HB.out; omega)
        go_wp2_with fail
        apply wp_goto
        refine And.intro (And.intro rfl ?_) ?_
        · exact ⟨p, _, rfl, frQu_is rfl, H34.out, .inr (.inl ⟨rfl, Js.q_back _ HAL.out p HQ2.out HB.out.symm⟩)⟩
        · show 2 * (s.size - (intOf (Value.int .i64 _)).toNat) + _ < 2 * (s.size - (intOf (Value.int .i64 _)).toNat) + _
          skip
          simp [intOf]
          all_goals omega
      have e34 : ((b : Int) == 34) = false := by rw [beq_eq_false_iff_ne]; omega
      have e92 : ((b : Int) == 92) = false := by rw [beq_eq_false_iff_ne]; omega
      have HN : Hid (b ≠ 34 ∧ b ≠ 92) := hidden ⟨h34, h92⟩
      clear h34 h92
      by_cases hlow : b < 32
      · have e32 : decide ((b : Int) < 32) = true := decide_eq_true (by omega)
        have HLW := hidden hlow
        clear hlow
        go_wp2_with fail
        refine jump_ret ?_
        go_ret2
        exact ⟨.inr ⟨p, rfl, hqs, fun h => absurd H34.out h, fun _ => Js.q_low _ HAL.out p HQ2.out (by rw [← HB.out]; exact HLW.out)⟩, rfl⟩
      · have e32 : decide ((b : Int) < 32) = false := decide_eq_false (by omega)
        have HLW := hidden hlow
        have hlt := bt_within s p (by have := HB.out; omega)
        clear hlow
        go_wp2_with fail
        have HTH : Hid (Js.Q0 s.data.toList p) := Js.q_through _ HAL.out p HQ2.out (by rw [← HB.out]; have := HLW.out; omega) (by rw [← HB.out]; exact HN.out.1) (by rw [← HB.out]; exact HN.out.2)
        apply wp_goto
        refine And.intro (And.intro rfl ?_) ?_
        · exact ⟨p, _, rfl, frQu_is rfl, H34.out, .inl ⟨rfl, HTH.out⟩⟩
        · show 2 * (s.size - (intOf (Value.int .i64 _)).toNat) + _ < 2 * (s.size - (intOf (Value.int .i64 _)).toNat) + _
          skip
          simp [intOf]
          all_goals omega
    · refine ⟨_, rfl, ?_⟩
      have hps : p < s.size := hq.1
      have HQP := hidden hq
      clear hq
      obtain ⟨q, hq⟩ : ∃ q, q = p + 1 := ⟨_, rfl⟩
      have hq2 : (p : Int) + 1 = (q : Int) := by omega
      have hqs : q ≤ s.size := by omega
      have HQ3 := HQP
      have HQE := hidden hq
      clear hq HQP
      go_wp2_with fail
      refine (sHexes_at s q _ hqs).mono ?_
      rintro e w1 ⟨⟨n, rfl, hn, hn4, hnd, hall⟩, hw⟩
      have hw := hw.symm
      subst hw
      have HND := hidden hnd
      have HALL := hidden hall
      clear hnd hall
      obtain ⟨t, ht⟩ : ∃ t, t = q + n := ⟨_, rfl⟩
      have ht2 : (q : Int) + (n : Int) = (t : Int) := by omega
      have hts : t ≤ s.size := by omega
      have HT := hidden ht
      clear ht
      by_cases h4 : n = 4
      · have e4 : ((n : Int) == 4) = true := by rw [h4]; rfl
        have e4n : (n == 4) = true := by rw [h4]; rfl
        have H4 := hidden h4
        have HS : Hid (Js.Q2 s.data.toList t) := by
          have h1 := HQE.out
          have h2 := HT.out
          have h3 := HALL.out
          rw [h4] at h2 h3
          rw [h1] at h2 h3
          rw [h2]
          exact Js.q_unit _ HAL.out p HQ3.out h3
        clear h4
        go_wp2_with fail
        apply wp_goto
        refine And.intro (And.intro rfl ?_) ?_
        · exact ⟨t, _, rfl, frQu_is rfl, H34.out, .inr (.inr (.inl ⟨rfl, HS.out⟩))⟩
        · show 2 * (s.size - (intOf (Value.int .i64 _)).toNat) + _ < 2 * (s.size - (intOf (Value.int .i64 _)).toNat) + _
          have := HQE.out; have := HT.out
          simp [intOf]
          all_goals omega
      · have e4 : ((n : Int) == 4) = false := by rw [beq_eq_false_iff_ne]; omega
        have e4n : (n == 4) = false := by rw [beq_eq_false_iff_ne]; exact h4
        have H4 := hidden h4
        clear h4
        go_wp2_with fail
        refine jump_ret ?_
        go_ret2
        refine ⟨.inr ⟨t, rfl, hts, fun h => absurd H34.out h, fun _ => ?_⟩, rfl⟩
        have h1 := HQE.out
        have h2 := HT.out
        have h3 := HALL.out
        have h4 := H4.out
        have h5 := HND.out (by omega)
        rw [h1] at h2 h3 h5
        rw [h2]
        exact Js.q_nounit _ p n (by omega) (by rw [HLEN.out]; omega) HQ3.out h3 h5
namespace Js
theorem bt_cons (a : UInt8) (ws : List UInt8) (m : Nat) : bt (a :: ws) (m + 1) = (ws.getD m 0).toNat := rfl
theorem word_one (l : List UInt8) (a : UInt8) (ws : List UInt8) (hws : 0 < ws.length) (hstep : ∀ st d, step (cV st d) a.toNat = some (cW ws st d)) (h0 : bt l 0 = a.toNat) (ha : a.toNat ≠ 0) (hall128 : ∀ j, bt (a :: ws) j < 128) (n : Nat) (hl : n ≤ l.length) (hn : n ≤ ws.length + 1) (hno : n < ws.length + 1 → n < l.length → bt l n ≠ bt (a :: ws) n) (hall : ∀ j, j < n → bt l j = bt (a :: ws) j) :
    (n = ws.length + 1 ∧ 0 < n ∧ bt l (n - 1) < 128 ∧ ∀ st d, T l (cV st d) 0 = T l (cE st d) n) ∨ (n ≠ ws.length + 1 ∧ ∀ st d, T l (cV st d) 0 = (none, n)) := by
  have hl0 : 0 < l.length := bt_in l 0 (by omega)
  have hn0 : 0 < n := by
    rcases Nat.eq_zero_or_pos n with rfl | h
    · exact absurd h0 (hno (by omega) hl0)
    · exact h
  have step : ∀ m st d, m + 1 ≤ n → m < ws.length → T l (cV st d) 0 = T l (cW (ws.drop m) st d) (m + 1) := by
    intro m st d
    induction m with
    | zero => exact fun _ _ => T_go l _ _ 0 (by rw [h0]; exact ha) (by rw [h0]; exact hstep st d)
    | succ m ih =>
      intro h1 h2
      have hi : m + 1 < l.length := by omega
      rw [ih (by omega) (by omega)]
      exact T_word l ws st d (m + 1) m h2 hi (by rw [← bt_at l (m + 1) hi, hall (m + 1) h1, bt_cons])
  by_cases h : n = ws.length + 1
  · refine .inl ⟨h, hn0, by rw [hall (n - 1) (by omega)]; exact hall128 _, fun st d => ?_⟩
    have hi : ws.length < l.length := by omega
    have h1 := step (ws.length - 1) st d (by omega) (by omega)
    rw [show ws.length - 1 + 1 = ws.length by omega] at h1
    rw [h1, h]
    exact T_word_last l ws st d ws.length (ws.length - 1) (by omega) hi (by rw [← bt_at l _ hi, hall ws.length (by omega), show ws.length = (ws.length - 1) + 1 by omega, bt_cons]; rfl)
  · refine .inr ⟨h, fun st d => ?_⟩
    obtain ⟨m, rfl⟩ : ∃ m, n = m + 1 := ⟨n - 1, by omega⟩
    have h1 := step m st d (Nat.le_refl _) (by omega)
    rw [h1]
    refine T_word_no l ws st d (m + 1) m (by omega) (fun hi => ?_) hl
    have h2 := hno (by omega) hi
    rw [bt_at l _ hi, bt_cons] at h2
    exact h2
theorem all128 (W : List UInt8) (h : ∀ x ∈ W, x.toNat < 128) (j : Nat) : bt W j < 128 := by
  rcases Nat.lt_or_ge j W.length with h1 | h1
  · rw [bt_at W j h1]
    exact h _ (List.getElem_mem h1)
  · rw [bt_past W j h1]
    decide
end Js
theorem one_word (s t : ByteArray) (a : UInt8) (ws : List UInt8) (ht : t.data.toList = a :: ws) (hws : 0 < ws.length) (hstep : ∀ st d, Js.step (Js.cV st d) a.toNat = some (Js.cW ws st d)) (h0 : Js.bt s.data.toList 0 = a.toNat) (ha : a.toNat ≠ 0) (hall128 : ∀ j, Js.bt (a :: ws) j < 128) (w : World) (hs : s.size ≤ 1000000) :
    Calls Try.prog 33 #[.string s, .string t] w fun e w' => OnePost s.data.toList e ∧ Below w.heap.size w w' := by
  have hts : t.size = ws.length + 1 := by rw [show t.size = t.data.toList.length from rfl, ht]; rfl
  refine (sLiteral_any s t w hs).mono ?_
  rintro e w' ⟨⟨n, rfl, h1, h2, h3, h4⟩, hb⟩
  rw [ht] at h3 h4
  rw [hts] at h2 h3
  refine ⟨?_, hb⟩
  rcases Js.word_one s.data.toList a ws hws hstep h0 ha hall128 n h1 h2 h3 h4 with ⟨h5, h6, h7, h8⟩ | ⟨h5, h6⟩
  · exact .inl ⟨n, by rw [hts, show (n == ws.length + 1) = true by rw [h5]; exact beq_self_eq_true _], h1, h6, h7, h8⟩
  · exact .inr ⟨n, by rw [hts, show (n == ws.length + 1) = false by rw [beq_eq_false_iff_ne]; exact h5], h1, h6⟩
set_option maxHeartbeats 1000000 in
theorem sSingle_any (s : ByteArray) (w : World) (hs : s.size ≤ 1000000) (hal : Js.Al s.data.toList) (hB : Js.isB (Js.bt s.data.toList 0) = false) (h91 : Js.bt s.data.toList 0 ≠ 91) (h123 : Js.bt s.data.toList 0 ≠ 123) :
    Calls Try.prog 21 #[.string s] w fun e w' => OnePost s.data.toList e ∧ Below w.heap.size w w' := by
  obtain ⟨b, hb⟩ : ∃ b, b = Js.bt s.data.toList 0 := ⟨_, rfl⟩
  rw [← hb] at hB h91 h123
  have HB := hidden hb
  have HAL := hidden hal
  have HF : Hid (∀ w, Calls Try.prog 20 #[.string s] w fun e w' => e = .returned (.int .u8 ((b : Nat) : Int)) ∧ w' = w) := fun w => by
    have := sFirst_any s w
    rw [← hb] at this
    exact this
  clear hb hal
  by_cases h110 : b = 110
  · subst h110
    have HW := hidden (fun w => one_word s ⟨#[110, 117, 108, 108]⟩ 110 [117, 108, 108] rfl (by decide) (fun st d => rfl) HB.out.symm (by decide) (Js.all128 _ (by decide)) w hs)
    clear hB h91 h123
    go_enter Try.func21, Try.ntmps21
    go_wp2_with fail
    refine (HF.out _).mono ?_
    rintro e w1 ⟨rfl, hw⟩
    have hw := hw.symm
    subst hw
    go_wp2_with fail
    refine (HW.out _).mono ?_
    rintro e w2 ⟨hp, hbel⟩
    have HP := hidden hp
    have HBL := hidden hbel
    clear hp hbel
    rcases HP.out with ⟨n, rfl, h1⟩ | ⟨n, rfl, h1⟩
    · have H1 := hidden h1
      clear h1 HP
      go_wp2_with fail
      go_ret2
      exact ⟨.inl ⟨n, rfl, H1.out⟩, HBL.out⟩
    · have H1 := hidden h1
      clear h1 HP
      go_wp2_with fail
      go_ret2
      exact ⟨.inr ⟨n, rfl, H1.out⟩, HBL.out⟩
  by_cases h116 : b = 116
  · subst h116
    have HW := hidden (fun w => one_word s ⟨#[116, 114, 117, 101]⟩ 116 [114, 117, 101] rfl (by decide) (fun st d => rfl) HB.out.symm (by decide) (Js.all128 _ (by decide)) w hs)
    clear hB h91 h123
    go_enter Try.func21, Try.ntmps21
    go_wp2_with fail
    refine (HF.out _).mono ?_
    rintro e w1 ⟨rfl, hw⟩
    have hw := hw.symm
    subst hw
    go_wp2_with fail
    refine (HW.out _).mono ?_
    rintro e w2 ⟨hp, hbel⟩
    have HP := hidden hp
    have HBL := hidden hbel
    clear hp hbel
    rcases HP.out with ⟨n, rfl, h1⟩ | ⟨n, rfl, h1⟩
    · have H1 := hidden h1
      clear h1 HP
      go_wp2_with fail
      go_ret2
      exact ⟨.inl ⟨n, rfl, H1.out⟩, HBL.out⟩
    · have H1 := hidden h1
      clear h1 HP
      go_wp2_with fail
      go_ret2
      exact ⟨.inr ⟨n, rfl, H1.out⟩, HBL.out⟩
  by_cases h102 : b = 102
  · subst h102
    have HW := hidden (fun w => one_word s ⟨#[102, 97, 108, 115, 101]⟩ 102 [97, 108, 115, 101] rfl (by decide) (fun st d => rfl) HB.out.symm (by decide) (Js.all128 _ (by decide)) w hs)
    clear hB h91 h123
    go_enter Try.func21, Try.ntmps21
    go_wp2_with fail
    refine (HF.out _).mono ?_
    rintro e w1 ⟨rfl, hw⟩
    have hw := hw.symm
    subst hw
    go_wp2_with fail
    refine (HW.out _).mono ?_
    rintro e w2 ⟨hp, hbel⟩
    have HP := hidden hp
    have HBL := hidden hbel
    clear hp hbel
    rcases HP.out with ⟨n, rfl, h1⟩ | ⟨n, rfl, h1⟩
    · have H1 := hidden h1
      clear h1 HP
      go_wp2_with fail
      go_ret2
      exact ⟨.inl ⟨n, rfl, H1.out⟩, HBL.out⟩
    · have H1 := hidden h1
      clear h1 HP
      go_wp2_with fail
      go_ret2
      exact ⟨.inr ⟨n, rfl, H1.out⟩, HBL.out⟩
  by_cases h34 : b = 34
  · subst h34
    have HQ := hidden (fun w => sQuoted_any s w hs HAL.out)
    clear hB h91 h123
    go_enter Try.func21, Try.ntmps21
    go_wp2_with fail
    refine (HF.out _).mono ?_
    rintro e w1 ⟨rfl, hw⟩
    have hw := hw.symm
    subst hw
    go_wp2_with fail
    refine (HQ.out _).mono ?_
    rintro e w2 ⟨hp, hw⟩
    have hw := hw.symm
    subst hw
    have hst : ∀ st d, Js.T s.data.toList (Js.cV st d) 0 = Js.T s.data.toList (Js.cS 0 false st d) 1 := fun st d => Js.T_go _ _ _ 0 (by rw [← HB.out]; decide) (by rw [← HB.out]; rfl)
    have HST := hidden hst
    clear hst
    rcases hp with ⟨n, rfl, h1, h2, h3, _, h5⟩ | ⟨n, rfl, h1, _, h5⟩
    · have H5 := hidden h5
      have HH := hidden (And.intro h1 (And.intro h2 h3))
      clear h1 h2 h3 h5
      go_wp2_with fail
      go_ret2
      exact ⟨.inl ⟨n, rfl, HH.out.1, HH.out.2.1, HH.out.2.2, fun st d => (HST.out st d).trans (H5.out false st d)⟩, Below.refl _ _⟩
    · have H5 := hidden (h5 HB.out.symm)
      have H1 := hidden h1
      clear h1 h5
      go_wp2_with fail
      go_ret2
      exact ⟨.inr ⟨n, rfl, H1.out, fun st d => (HST.out st d).trans (H5.out false st d)⟩, Below.refl _ _⟩
  · have hp : Js.plain b := ⟨hB, h34, h91, h123, h110, h116, h102⟩
    have HN := hidden (fun w => sNumber_any s w hs (by rw [← HB.out]; exact hp))
    have e110 : ((b : Int) == 110) = false := by rw [beq_eq_false_iff_ne]; omega
    have e116 : ((b : Int) == 116) = false := by rw [beq_eq_false_iff_ne]; omega
    have e102 : ((b : Int) == 102) = false := by rw [beq_eq_false_iff_ne]; omega
    have e34 : ((b : Int) == 34) = false := by rw [beq_eq_false_iff_ne]; omega
    clear hp hB h91 h123 h110 h116 h102 h34
    go_enter Try.func21, Try.ntmps21
    go_wp2_with fail
    refine (HF.out _).mono ?_
    rintro e w1 ⟨rfl, hw⟩
    have hw := hw.symm
    subst hw
    go_wp2_with fail
    refine (HN.out _).mono ?_
    rintro e w2 ⟨hp, hw⟩
    have hw := hw.symm
    subst hw
    rcases hp with ⟨n, rfl, h1⟩ | ⟨n, rfl, h1⟩
    · have H1 := hidden h1
      clear h1
      go_wp2_with fail
      go_ret2
      exact ⟨.inl ⟨n, rfl, H1.out⟩, Below.refl _ _⟩
    · have H1 := hidden h1
      clear h1
      go_wp2_with fail
      go_ret2
      exact ⟨.inr ⟨n, rfl, H1.out⟩, Below.refl _ _⟩
end Go.Proofs.Ytkjkjnkpncgdnaa
