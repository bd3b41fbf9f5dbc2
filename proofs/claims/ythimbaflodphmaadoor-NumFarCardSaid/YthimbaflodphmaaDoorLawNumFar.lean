/-
  The law NumFar: its walk.
-/
import Derived.Test.YthimbaflodphmaaDoorNuAwake
namespace Go.Proofs.YthimbaflodphmaaDoor
open Go.RowKit
open Nu
namespace Nu
/-- A 1 with an exponent of so many nines. -/
def far (neg small : Bool) (d : Nat) : List UInt8 := (if neg then [45] else []) ++ ([49, 101] ++ ((if small then [45] else []) ++ List.replicate d 57))
theorem nines_digs (d : Nat) : ∀ c ∈ List.replicate d (57 : UInt8), dig c = true := by
  intro c hc
  obtain ⟨_, rfl⟩ := List.mem_replicate.1 hc
  rfl
theorem read_far (neg small : Bool) (d : Nat) (hd : 3 ≤ d) : Nu.read (far neg small d) = some ⟨neg, [49], [], small, List.replicate d 57⟩ := by
  obtain ⟨k, rfl⟩ : ∃ k, d = k + 1 := ⟨d - 1, by omega⟩
  have hdc := dc_all (List.replicate (k + 1) 57) (nines_digs (k + 1))
  rw [List.length_replicate] at hdc
  have hdr : (List.replicate (k + 1) (57 : UInt8)).drop (k + 1) = [] := List.drop_eq_nil_of_le (by simp)
  have hex : ∀ wh fr, expo neg wh fr ((if small then [45] else []) ++ List.replicate (k + 1) 57) = some ⟨neg, wh, fr, small, List.replicate (k + 1) 57⟩ := fun wh fr => by
    cases small with
    | true =>
      have e1 : has 45 ((if true = true then [45] else []) ++ List.replicate (k + 1) (57 : UInt8)) = true := rfl
      have e2 : off 45 ((if true = true then [45] else []) ++ List.replicate (k + 1) (57 : UInt8)) = List.replicate (k + 1) 57 := rfl
      rw [expo, e1, e2, if_pos rfl, hdc, if_neg (by omega), hdr, if_pos rfl]
    | false =>
      have e1 : has 45 ((if false = true then [45] else []) ++ List.replicate (k + 1) (57 : UInt8)) = false := rfl
      have e2 : off 43 ((if false = true then [45] else []) ++ List.replicate (k + 1) (57 : UInt8)) = List.replicate (k + 1) 57 := rfl
      rw [expo, e1, e2]
      simp only [Bool.false_eq_true, if_false, hdc, hdr]
      rw [if_neg (by omega), if_pos trivial]
  have hb : ∀ m, body neg (49 :: 101 :: m) = expo neg [49] [] m := fun m => by
    have e1 : dc (49 :: 101 :: m) = 1 := rfl
    rw [body, e1, if_neg (by decide), if_neg (by simp)]
    have e2 : ((49 :: 101 :: m : List UInt8).drop 1).head? = some 101 := rfl
    rw [e2, if_neg (by decide)]
    have e3 : (49 :: 101 :: m : List UInt8).drop 1 = 101 :: m := rfl
    have e4 : (49 :: 101 :: m : List UInt8).take 1 = [49] := rfl
    rw [e3, e4, tail_e _ _ _ _ _ (.inl rfl)]
  have hr : Nu.read (far neg small (k + 1)) = body neg (49 :: 101 :: ((if small then [45] else []) ++ List.replicate (k + 1) 57)) := by
    cases neg <;> rfl
  rw [hr, hb, hex]
theorem nines_big (d : Nat) (hd : 3 ≤ d) : 100 < num (List.replicate d 57) := by
  obtain ⟨k, rfl⟩ : ∃ k, d = k + 3 := ⟨d - 3, by omega⟩
  have h := num_ge 57 (List.replicate (k + 2) 57) (by decide)
  rw [← List.replicate_succ, List.length_replicate] at h
  have h : 10 ^ (k + 2) ≤ num (List.replicate (k + 3) 57) := h
  have h2 : 10 ^ 2 ≤ 10 ^ (k + 2) := pow_le (by omega)
  have h3 : num (List.replicate (k + 3) 57) ≠ 100 := by
    intro e
    have h4 : num (List.replicate (k + 3) 57) % 10 = 9 := by
      rw [List.replicate_succ', num_snoc]
      have : (57 : UInt8).toNat - 48 = 9 := rfl
      omega
    omega
  omega
theorem far_key (neg small : Bool) (d : Nat) (hd : 3 ≤ d) : Pt.key ⟨neg, [49], [], small, List.replicate d 57⟩ = if small then 1 else 10 ^ 20 := by
  have hb := nines_big d hd
  have e1 : Pt.n ⟨neg, [49], [], small, List.replicate d 57⟩ = 1 := rfl
  rw [Pt.key, e1]
  cases small with
  | true =>
    have e2 : Pt.e ⟨neg, [49], [], true, List.replicate d 57⟩ = -(num (List.replicate d 57) : Int) := by simp [Pt.e]
    rw [e2, key_small 1 1 _ (by decide) (by omega)]
    rfl
  | false =>
    have e2 : Pt.e ⟨neg, [49], [], false, List.replicate d 57⟩ = (num (List.replicate d 57) : Int) := by simp [Pt.e]
    rw [e2, key_big 1 1 _ (by decide) (by decide) (by omega)]
    rfl
theorem far_whole (neg small : Bool) (d : Nat) (hd : 3 ≤ d) : wholeZ (Nu.read (far neg small d)) = (0, false) := by
  rw [read_far neg small d hd]
  unfold wholeZ
  simp only [far_key neg small d hd]
  cases small
  · rw [if_pos (.inr (by decide))]
  · rw [if_pos (.inl (by decide))]
/-- How it stands to a whole number. -/
def farZ (neg small : Bool) (n : Int) : Int := if small = true ∧ n ≠ 0 then (if 0 < n then -1 else 1) else if neg then -1 else 1
theorem far_cmp (neg small : Bool) (d : Nat) (hd : 3 ≤ d) (n : Int) (h0 : -9223372036854775808 ≤ n) (h1 : n ≤ 9223372036854775807) : cmpZ n (Nu.read (far neg small d)) = farZ neg small n := by
  rw [read_far neg small d hd]
  show cmp3 (Pt.val _) (10 * n) = _
  rw [Pt.val]
  simp only [far_key neg small d hd]
  have e20 : ((10 ^ 20 : Nat) : Int) = 100000000000000000000 := by decide
  unfold farZ cmp3
  cases small <;> cases neg
  · simp only [Bool.false_eq_true, if_false, false_and, e20]
    rw [if_neg (by omega), if_pos (by omega)]
  · simp only [Bool.false_eq_true, if_false, if_true, false_and, e20]
    rw [if_pos (by omega)]
  · simp only [if_true, true_and, Bool.false_eq_true, if_false]
    by_cases hn : n = 0
    · subst hn
      decide
    · rw [if_pos hn]
      by_cases hp : 0 < n
      · rw [if_pos hp, if_pos (by omega)]
      · rw [if_neg hp, if_neg (by omega), if_pos (by omega)]
  · simp only [if_true, true_and]
    by_cases hn : n = 0
    · subst hn
      decide
    · rw [if_pos hn]
      by_cases hp : 0 < n
      · rw [if_pos hp, if_pos (by omega)]
      · rw [if_neg hp, if_neg (by omega), if_pos (by omega)]
theorem far_length (neg small : Bool) (d : Nat) (h : d ≤ 300) : (far neg small d).length ≤ 1000000 := by
  unfold far
  cases neg <;> cases small <;> simp <;> omega
theorem far_next (neg small : Bool) (k : Nat) : str (far neg small k) ++ (⟨#[57]⟩ : ByteArray) = str (far neg small (k + 1)) := by
  apply ByteArray.ext
  unfold far
  rw [List.replicate_succ']
  simp [str]
end Nu
set_option maxHeartbeats 2000000 in
set_option maxRecDepth 100000 in
theorem NumFar_walk (n : Int) (d : Int) (neg small : Bool) (W : World) (h0 : -9223372036854775808 ≤ n) (h1 : n ≤ 9223372036854775807) (hd0 : 0 ≤ d) (_hd1 : d ≤ 255) (hT : Ten W) :
    Calls Tryd.prog 7 #[.agg #[.int .i64 n, .int .u8 d, .bool neg, .bool small]] W fun e w' => e = .returned (.bool true) ∧ Below W.heap.size W w' := by
  obtain ⟨m, hm⟩ : ∃ m : Nat, (m : Int) = 3 + d % 200 := ⟨(3 + d % 200).toNat, by omega⟩
  have hm3 : 3 ≤ m := by omega
  have hm2 : m ≤ 202 := by omega
  have hW := fun v hv => Whole_any (far neg small m) v (far_length neg small m (by omega)) hv
  have hI := fun v => Is_any (far neg small m) v (far_length neg small m (by omega))
  have hC := fun v hv => Cmp_any (far neg small m) n h0 h1 v (far_length neg small m (by omega)) hv
  simp only [far_whole neg small m hm3] at hW
  simp only [far_cmp neg small m hm3 n h0 h1] at hC
  have hsome : (Nu.read (far neg small m)).isSome = true := by rw [read_far neg small m hm3]; rfl
  simp only [hsome] at hI
  have hbox := heap_alloc_new W (.cells #[.int .i64 n, .int .u8 d, .bool neg, .bool small] 32)
  have hb0 := (Below.refl W.heap.size W).alloc (Nat.le_refl _) (.cells #[.int .i64 n, .int .u8 d, .bool neg, .bool small] 32)
  obtain ⟨w0, hw0⟩ : ∃ w0, w0 = W.alloc (.cells #[.int .i64 n, .int .u8 d, .bool neg, .bool small] 32) := ⟨_, rfl⟩
  rw [← hw0] at hbox hb0
  have HW := hidden hW
  have HI := hidden hI
  have HC := hidden hC
  have HT := hidden hT
  have HBX := hidden hbox
  have HB0 := hidden hb0
  have HT0 := hidden (hT.below hb0 (Nat.le_refl _))
  have HM := hidden hm
  have HM3 := hidden hm3
  clear hW hI hC hT hbox hb0 hsome hm hm3
  go_enter Tryd.func7, Tryd.ntmps7
  go_wp2_with fail
  rw [← hw0]
  clear hw0
  refine (awake10_any _ HT0.out).mono ?_
  rintro e w1 ⟨rfl, hB1⟩
  have HB1 := hidden (below_after HB0.out hB1)
  have hbox1 := (hB1.block _ (lt_of_block HBX.out)).trans HBX.out
  have c0 := Lib.cell_of_heap hbox1 0
  have c1 := Lib.cell_of_heap hbox1 1
  have c2 := Lib.cell_of_heap hbox1 2
  have c3 := Lib.cell_of_heap hbox1 3
  simp only [List.getElem?_toArray, List.getElem?_cons_zero, List.getElem?_cons_succ] at c0 c1 c2 c3
  have HBX1 := hidden hbox1
  have HT1 := hidden (HT.out.below HB1.out (Nat.le_refl _))
  clear hB1 hbox1
  have hmod : (3 : Int) + d % 200 = (m : Int) := HM.out.symm
  have hmod2 : Int.tmod d 200 = d % 200 := Int.tmod_eq_emod_of_nonneg hd0
  have hst : str (far neg small 0) = (if neg then (if small then ⟨#[45, 49, 101, 45]⟩ else ⟨#[45, 49, 101]⟩) else (if small then ⟨#[49, 101, 45]⟩ else ⟨#[49, 101]⟩)) := by cases neg <;> cases small <;> rfl
  have hnx := fun k => far_next neg small k
  have hfl : ∀ k, k ≤ 202 → (str (far neg small k)).size ≤ 300 := fun k hk => by
    rw [str_size]
    unfold far
    cases neg <;> cases small <;> simp <;> omega
  obtain ⟨fa, hfa⟩ : ∃ fa, fa = far neg small := ⟨_, rfl⟩
  obtain ⟨z, hz⟩ : ∃ z, z = farZ neg small n := ⟨_, rfl⟩
  rw [← hfa] at hst HW HI HC
  simp only [← hfa] at hnx hfl
  rw [← hz] at HC
  have HS := hidden hst
  have HX := hidden hnx
  have HFL := hidden hfl
  have HZ := hidden hz
  clear hst hnx hfa hz hfl
  cases neg <;> cases small
  all_goals
    go_wp2_with fail
    go_loop [4, 6] (fun v i => ∃ k : Nat, k ≤ m ∧ i = .int .i64 k ∧ v = .string (str (fa k))) (fun _ i => m - (intOf i).toNat)
    case atStart => exact ⟨0, by omega, rfl, by rw [HS.out]; rfl⟩
    case round =>
      obtain ⟨k, hk, rfl, rfl⟩ := hrel
      by_cases hlt : k < m
      · have hx := HX.out k
        have hkl := HFL.out k (by omega)
        go_wp2_with fail
        go_round
        case rel => exact ⟨k + 1, by omega, by go_num, rfl⟩
        case measure => simp [intOf]; omega
      · obtain rfl : k = m := by omega
        have hzz := HZ.out
        rcases Int.lt_trichotomy n 0 with hn | hn | hn
        · have hne : ¬ n = 0 := by omega
          have hp : ¬ 0 < n := by omega
          have hnb : (n != 0) = true := by simpa using hne
          simp [farZ, hne, hp] at hzz
          subst hzz
          go_wp2_with fail
          refine (HW.out _ HT1.out).mono ?_
          rintro e w2 ⟨rfl, hB2⟩
          have HB2 := hidden (below_after HB1.out hB2)
          have hbx := (hB2.block _ (lt_of_block HBX1.out)).trans HBX1.out
          have HT2 := hidden (HT.out.below HB2.out (Nat.le_refl _))
          have q3 := Lib.cell_of_heap hbx 3
          simp only [List.getElem?_toArray, List.getElem?_cons_zero, List.getElem?_cons_succ] at q3
          clear hB2 hbx c0 c1 c2 c3
          go_wp2_with fail
          refine (HI.out _).mono ?_
          rintro e w3 ⟨rfl, hB3⟩
          have HB3 := hidden (below_after HB2.out hB3)
          have HT3 := hidden (HT.out.below HB3.out (Nat.le_refl _))
          clear hB3 q3
          go_wp2_with fail
          refine (HC.out _ HT3.out).mono ?_
          rintro e w4 ⟨rfl, hB4⟩
          have HB4 := hidden (below_after HB3.out hB4)
          clear hB4
          go_wp2_with fail
          go_ret
          exact ⟨rfl, HB4.out⟩
        · subst hn
          simp [farZ] at hzz
          subst hzz
          go_wp2_with fail
          refine (HW.out _ HT1.out).mono ?_
          rintro e w2 ⟨rfl, hB2⟩
          have HB2 := hidden (below_after HB1.out hB2)
          have hbx := (hB2.block _ (lt_of_block HBX1.out)).trans HBX1.out
          have HT2 := hidden (HT.out.below HB2.out (Nat.le_refl _))
          have q3 := Lib.cell_of_heap hbx 3
          simp only [List.getElem?_toArray, List.getElem?_cons_zero, List.getElem?_cons_succ] at q3
          clear hB2 hbx c0 c1 c2 c3
          go_wp2_with fail
          refine (HI.out _).mono ?_
          rintro e w3 ⟨rfl, hB3⟩
          have HB3 := hidden (below_after HB2.out hB3)
          have HT3 := hidden (HT.out.below HB3.out (Nat.le_refl _))
          clear hB3 q3
          go_wp2_with fail
          refine (HC.out _ HT3.out).mono ?_
          rintro e w4 ⟨rfl, hB4⟩
          have HB4 := hidden (below_after HB3.out hB4)
          clear hB4
          go_wp2_with fail
          go_ret
          exact ⟨rfl, HB4.out⟩
        · have hne : ¬ n = 0 := by omega
          have hnb : (n != 0) = true := by simpa using hne
          simp [farZ, hne, hn] at hzz
          subst hzz
          go_wp2_with fail
          refine (HW.out _ HT1.out).mono ?_
          rintro e w2 ⟨rfl, hB2⟩
          have HB2 := hidden (below_after HB1.out hB2)
          have hbx := (hB2.block _ (lt_of_block HBX1.out)).trans HBX1.out
          have HT2 := hidden (HT.out.below HB2.out (Nat.le_refl _))
          have q3 := Lib.cell_of_heap hbx 3
          simp only [List.getElem?_toArray, List.getElem?_cons_zero, List.getElem?_cons_succ] at q3
          clear hB2 hbx c0 c1 c2 c3
          go_wp2_with fail
          refine (HI.out _).mono ?_
          rintro e w3 ⟨rfl, hB3⟩
          have HB3 := hidden (below_after HB2.out hB3)
          have HT3 := hidden (HT.out.below HB3.out (Nat.le_refl _))
          clear hB3 q3
          go_wp2_with fail
          refine (HC.out _ HT3.out).mono ?_
          rintro e w4 ⟨rfl, hB4⟩
          have HB4 := hidden (below_after HB3.out hB4)
          clear hB4
          go_wp2_with fail
          go_ret
          exact ⟨rfl, HB4.out⟩
end Go.Proofs.YthimbaflodphmaaDoor
