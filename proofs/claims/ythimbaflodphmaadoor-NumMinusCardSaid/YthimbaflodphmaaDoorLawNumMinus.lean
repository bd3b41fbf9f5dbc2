/-
  The law NumMinus: its walk.
-/
import Derived.Test.YthimbaflodphmaaDoorNuAwake
namespace Go.Proofs.YthimbaflodphmaaDoor
open Go.RowKit
open Nu
namespace Nu
def Pt.turn (neg : Bool) (p : Pt) : Pt := { p with neg := neg }
theorem expo_turn (neg : Bool) (wh fr l : List UInt8) : expo neg wh fr l = (expo false wh fr l).map (Pt.turn neg) := by
  unfold expo
  generalize (if has 45 l then off 45 l else off 43 l) = m
  by_cases h1 : dc m = 0
  · rw [if_pos h1, if_pos h1]
    rfl
  · rw [if_neg h1, if_neg h1]
    by_cases h2 : m.drop (dc m) = []
    · rw [if_pos h2, if_pos h2]
      rfl
    · rw [if_neg h2, if_neg h2]
      rfl
theorem tail_turn (neg : Bool) (wh fr l : List UInt8) : tail neg wh fr l = (tail false wh fr l).map (Pt.turn neg) := by
  cases l with
  | nil => rw [tail_nil, tail_nil]; rfl
  | cons c l =>
    by_cases hc : c = 101 ∨ c = 69
    · rw [tail_e _ _ _ _ _ hc, tail_e _ _ _ _ _ hc, expo_turn]
    · rw [tail_no _ _ _ _ _ hc, tail_no _ _ _ _ _ hc]
      rfl
theorem body_turn (neg : Bool) (l : List UInt8) : body neg l = (body false l).map (Pt.turn neg) := by
  unfold body
  split
  · rfl
  · split
    · rfl
    · split
      · split
        · rfl
        · exact tail_turn _ _ _ _
      · exact tail_turn _ _ _ _
/-- With a sign ahead. -/
theorem read_minus (l : List UInt8) (h : has 45 l = false) (p : Pt) (hp : Nu.read l = some p) : Nu.read (45 :: l) = some (Pt.turn true p) ∧ p.neg = false := by
  have h1 : Nu.read (45 :: l) = body true l := rfl
  have h2 : Nu.read l = body false l := by rw [Nu.read, h, off_not h]
  rw [h2] at hp
  rw [h1, body_turn, hp]
  exact ⟨rfl, (body_ok hp).1⟩
theorem turn_key (neg : Bool) (p : Pt) : (Pt.turn neg p).key = p.key := rfl
theorem whole_minus (p : Pt) (h : p.neg = false) : (wholeZ (some (Pt.turn true p))).1 = -(wholeZ (some p)).1 ∧ (wholeZ (some (Pt.turn true p))).2 = (wholeZ (some p)).2 := by
  by_cases h2 : p.key % 10 ≠ 0 ∨ 90071992547409910 < p.key
  · have e1 : wholeZ (some (Pt.turn true p)) = (0, false) := if_pos h2
    have e2 : wholeZ (some p) = (0, false) := if_pos h2
    rw [e1, e2]
    exact ⟨rfl, rfl⟩
  · have e1 : wholeZ (some (Pt.turn true p)) = (-((p.key / 10 : Nat) : Int), true) := (if_neg h2).trans rfl
    have e2 : wholeZ (some p) = (((p.key / 10 : Nat) : Int), true) := (if_neg h2).trans (by rw [h]; rfl)
    rw [e1, e2]
    exact ⟨rfl, rfl⟩
theorem cmp_minus (p : Pt) (h : p.neg = false) (n : Int) : cmpZ (-n) (some (Pt.turn true p)) = -(cmpZ n (some p)) := by
  have e1 : (Pt.turn true p).val = -(p.key : Int) := rfl
  have e2 : p.val = (p.key : Int) := by rw [Pt.val, h]; rfl
  show cmp3 _ _ = -(cmp3 _ _)
  rw [e1, e2]
  unfold cmp3
  split <;> split <;> (try split) <;> (try split) <;> omega
theorem whole_bounds (R : Option Pt) : -9007199254740991 ≤ (wholeZ R).1 ∧ (wholeZ R).1 ≤ 9007199254740991 := by
  cases R with
  | none => decide
  | some p =>
    unfold wholeZ
    by_cases h : p.key % 10 ≠ 0 ∨ 90071992547409910 < p.key
    · simp only [if_pos h]
      decide
    · simp only [if_neg h]
      have : ¬ 90071992547409910 < p.key := fun h2 => h (.inr h2)
      split <;> omega
theorem cmp_bounds (n : Int) (R : Option Pt) : -1 ≤ cmpZ n R ∧ cmpZ n R ≤ 1 := by
  cases R with
  | none =>
    show -1 ≤ (0 : Int) ∧ (0 : Int) ≤ 1
    decide
  | some p =>
    show -1 ≤ cmp3 _ _ ∧ cmp3 _ _ ≤ 1
    unfold cmp3
    split
    · decide
    · split <;> decide
theorem cat_minus (l : List UInt8) : ((⟨#[45]⟩ : ByteArray) ++ str l) = str (45 :: l) := by
  apply ByteArray.ext
  simp [str]
end Nu
set_option maxHeartbeats 2000000 in
set_option maxRecDepth 100000 in
theorem NumMinus_walk (s : ByteArray) (n : Int) (W : World) (hs : s.size ≤ 9223372036854775807) (ha0 : -9223372036854775808 ≤ n) (ha1 : n ≤ 9223372036854775807) (hT : Ten W) :
    Calls Tryd.prog 9 #[.string s, .int .i64 n] W fun e w' => e = .returned (.bool true) ∧ Below W.heap.size W w' := by
  obtain ⟨l, rfl⟩ : ∃ l, s = str l := ⟨s.data.toList, (str_of s).symm⟩
  have hsz := str_size l
  rw [hsz] at hs
  have HT := hidden hT
  clear hT
  go_enter Tryd.func9, Tryd.ntmps9
  go_wp2_with fail
  refine (awake10_any _ HT.out).mono ?_
  rintro e w1 ⟨rfl, hB1⟩
  have HB1 := hidden hB1
  have HT1 := hidden (HT.out.below hB1 (Nat.le_refl _))
  clear hB1
  have early : ∀ (u : World), Below W.heap.size W u → Calls Tryd.prog 10 #[] u fun e w' => e = .returned (.bool true) ∧ Below W.heap.size W w' := fun u hu => (awake10_any u (HT.out.below hu (Nat.le_refl _))).mono fun e w' ⟨h1, h2⟩ => ⟨h1, below_after hu h2⟩
  have HE := hidden early
  clear early
  by_cases hl : 200 < l.length
  · go_wp2_with fail
    refine (HE.out _ HB1.out).mono ?_
    rintro e w2 ⟨rfl, hB2⟩
    have HB2 := hidden hB2
    clear hB2
    go_wp2_with fail
    go_ret
    exact ⟨rfl, HB2.out⟩
  by_cases hn0 : n < -9007199254740991
  · go_wp2_with fail
    refine (HE.out _ HB1.out).mono ?_
    rintro e w2 ⟨rfl, hB2⟩
    have HB2 := hidden hB2
    clear hB2
    go_wp2_with fail
    go_ret
    exact ⟨rfl, HB2.out⟩
  by_cases hn1 : 9007199254740991 < n
  · go_wp2_with fail
    refine (HE.out _ HB1.out).mono ?_
    rintro e w2 ⟨rfl, hB2⟩
    have HB2 := hidden hB2
    clear hB2
    go_wp2_with fail
    go_ret
    exact ⟨rfl, HB2.out⟩
  have HL : Hid (l.length ≤ 1000000) := hidden (by omega)
  have HL2 : Hid ((45 :: l).length ≤ 1000000) := hidden (by rw [List.length_cons]; omega)
  have hI := fun v => Is_any l v HL.out
  cases hR : Nu.read l with
  | none =>
    simp only [hR] at hI
    have hno : (none : Option Pt).isSome = false := rfl
    rw [hno] at hI
    have HI := hidden hI
    clear hI hno hR
    go_wp2_with fail
    refine (HI.out _).mono ?_
    rintro e w2 ⟨rfl, hB2⟩
    have HB2 := hidden (below_after HB1.out hB2)
    clear hB2
    go_wp2_with fail
    refine (HE.out _ HB2.out).mono ?_
    rintro e w3 ⟨rfl, hB3⟩
    have HB3 := hidden hB3
    clear hB3
    go_wp2_with fail
    go_ret
    exact ⟨rfl, HB3.out⟩
  | some p =>
    simp only [hR] at hI
    have hno : (some p : Option Pt).isSome = true := rfl
    rw [hno] at hI
    have HI := hidden hI
    have hlen : 0 < l.length := by
      cases l with
      | nil => cases hR
      | cons c m => simp
    obtain ⟨c, m, hcm⟩ : ∃ c m, l = c :: m := by
      cases l with
      | nil => simp at hlen
      | cons c m => exact ⟨c, m, rfl⟩
    have h0 : 0 < (str l).size := by rw [str_size]; exact hlen
    have hat : (str l)[0]'h0 = c := by
      rw [str_at l 0 h0 hlen]
      simp [hcm]
    have HAT := hidden hat
    have HCM := hidden hcm
    clear hI hno hat hcm
    by_cases hc : c = 45
    · have hq : (((str l)[0]'h0).toNat : Int) = 45 := by rw [HAT.out, hc]; rfl
      clear hR hc
      go_wp2_with fail
      refine (HI.out _).mono ?_
      rintro e w2 ⟨rfl, hB2⟩
      have HB2 := hidden (below_after HB1.out hB2)
      clear hB2
      go_wp2_with fail
      refine (HE.out _ HB2.out).mono ?_
      rintro e w3 ⟨rfl, hB3⟩
      have HB3 := hidden hB3
      clear hB3
      go_wp2_with fail
      go_ret
      exact ⟨rfl, HB3.out⟩
    · have hq : ((((str l)[0]'h0).toNat : Int) == 45) = false := by rw [HAT.out]; exact byte_ne 45 45 rfl hc
      have hh : has 45 l = false := by
        rw [HCM.out]
        show (c == 45) = false
        simpa using hc
      obtain ⟨hrm, hpn⟩ := read_minus l hh p hR
      have hW1 := fun v hv => Whole_any l v HL.out hv
      have hW2 := fun v hv => Whole_any (45 :: l) v HL2.out hv
      have hI2 := fun v => Is_any (45 :: l) v HL2.out
      have hC1 := fun v hv => Cmp_any l n ha0 ha1 v HL.out hv
      have hC2 := fun v hv => Cmp_any (45 :: l) (-n) (by omega) (by omega) v HL2.out hv
      simp only [hR] at hW1 hC1
      simp only [hrm] at hW2 hI2 hC2
      have hwm := whole_minus p hpn
      have hwb := whole_bounds (some p)
      have hcb := cmp_bounds n (some p)
      simp only [hwm.1, hwm.2] at hW2
      simp only [cmp_minus p hpn n] at hC2
      obtain ⟨x, hx⟩ : ∃ x, x = (wholeZ (some p)).1 := ⟨_, rfl⟩
      obtain ⟨b, hb⟩ : ∃ b, b = (wholeZ (some p)).2 := ⟨_, rfl⟩
      obtain ⟨y, hy⟩ : ∃ y, y = cmpZ n (some p) := ⟨_, rfl⟩
      simp only [← hx, ← hb] at hW1 hW2
      simp only [← hy] at hC1 hC2
      rw [← hx] at hwb
      rw [← hy] at hcb
      have hsome : (some (Pt.turn true p)).isSome = true := rfl
      simp only [hsome] at hI2
      obtain ⟨hwb1, hwb2⟩ := hwb
      obtain ⟨hcb1, hcb2⟩ := hcb
      have hcat := cat_minus l
      have HW1 := hidden hW1
      have HW2 := hidden hW2
      have HC1 := hidden hC1
      have HC2 := hidden hC2
      have HI2 := hidden hI2
      clear hW1 hW2 hC1 hC2 hI2 hx hb hy hwm hrm hpn hh hR hsome hc
      go_wp2_with fail
      refine (HI.out _).mono ?_
      rintro e w2 ⟨rfl, hB2⟩
      have HB2 := hidden (below_after HB1.out hB2)
      have HT2 := hidden (HT.out.below HB2.out (Nat.le_refl _))
      clear hB2
      go_wp2_with fail
      refine (HW1.out _ HT2.out).mono ?_
      rintro e w3 ⟨rfl, hB3⟩
      have HB3 := hidden (below_after HB2.out hB3)
      have HT3 := hidden (HT.out.below HB3.out (Nat.le_refl _))
      clear hB3
      go_wp2_with fail
      refine (HW2.out _ HT3.out).mono ?_
      rintro e w4 ⟨rfl, hB4⟩
      have HB4 := hidden (below_after HB3.out hB4)
      have HT4 := hidden (HT.out.below HB4.out (Nat.le_refl _))
      clear hB4
      go_wp2_with fail
      refine (HI2.out _).mono ?_
      rintro e w5 ⟨rfl, hB5⟩
      have HB5 := hidden (below_after HB4.out hB5)
      have HT5 := hidden (HT.out.below HB5.out (Nat.le_refl _))
      clear hB5
      go_wp2_with fail
      refine (HC2.out _ HT5.out).mono ?_
      rintro e w6 ⟨rfl, hB6⟩
      have HB6 := hidden (below_after HB5.out hB6)
      have HT6 := hidden (HT.out.below HB6.out (Nat.le_refl _))
      clear hB6
      go_wp2_with fail
      refine (HC1.out _ HT6.out).mono ?_
      rintro e w7 ⟨rfl, hB7⟩
      have HB7 := hidden (below_after HB6.out hB7)
      clear hB7
      go_wp2_with fail
      go_ret
      exact ⟨rfl, HB7.out⟩
end Go.Proofs.YthimbaflodphmaaDoor
