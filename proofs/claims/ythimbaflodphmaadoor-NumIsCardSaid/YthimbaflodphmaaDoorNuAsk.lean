/-
  The contracts of package num's Is, Whole and Cmp: for every text; memory is but made.
-/
import Derived.Test.YthimbaflodphmaaDoorNuTop
namespace Go.Proofs.YthimbaflodphmaaDoor
open Go.RowKit Go.Sort
open Nu
namespace Nu
theorem off_sub (c : UInt8) (l : List UInt8) : (off c l).length ≤ l.length := off_le c l
theorem expo_ok {neg : Bool} {wh fr l : List UInt8} {p : Pt} (h : expo neg wh fr l = some p) : p.neg = neg ∧ p.wh = wh ∧ p.fr = fr ∧ (∀ c ∈ p.ex, dig c = true) ∧ p.ex.length ≤ l.length := by
  unfold expo at h
  have hm : (if has 45 l then off 45 l else off 43 l).length ≤ l.length := by
    split
    · exact off_le 45 l
    · exact off_le 43 l
  generalize (if has 45 l then off 45 l else off 43 l) = m at h hm
  by_cases h1 : dc m = 0
  · rw [if_pos h1] at h
    cases h
  · rw [if_neg h1] at h
    by_cases h2 : m.drop (dc m) = []
    · rw [if_pos h2] at h
      obtain rfl := Option.some.inj h
      exact ⟨rfl, rfl, rfl, digs_of_dc _ h2, hm⟩
    · rw [if_neg h2] at h
      cases h
theorem tail_ok {neg : Bool} {wh fr l : List UInt8} {p : Pt} (h : tail neg wh fr l = some p) : p.neg = neg ∧ p.wh = wh ∧ p.fr = fr ∧ (∀ c ∈ p.ex, dig c = true) ∧ p.ex.length ≤ l.length := by
  cases l with
  | nil =>
    rw [tail_nil] at h
    obtain rfl := Option.some.inj h
    exact ⟨rfl, rfl, rfl, by simp, by simp⟩
  | cons c l =>
    by_cases hc : c = 101 ∨ c = 69
    · rw [tail_e _ _ _ _ _ hc] at h
      obtain ⟨h1, h2, h3, h4, h5⟩ := expo_ok h
      exact ⟨h1, h2, h3, h4, by rw [List.length_cons]; omega⟩
    · rw [tail_no _ _ _ _ _ hc] at h
      cases h
theorem body_ok {neg : Bool} {l : List UInt8} {p : Pt} (h : body neg l = some p) : p.neg = neg ∧ p.Ok l.length := by
  unfold body at h
  split at h
  · cases h
  split at h
  · cases h
  have hl := List.take_append_drop (dc l) l
  have hl2 : (l.take (dc l)).length + (l.drop (dc l)).length = l.length := by rw [← List.length_append, hl]
  split at h
  · split at h
    · cases h
    · obtain ⟨h1, h2, h3, h4, h5⟩ := tail_ok h
      refine ⟨h1, ?_, ?_, h4, ?_⟩
      · rw [h2]; exact dc_digs l
      · rw [h3]; exact dc_digs _
      · rw [h2, h3]
        have hm : (((l.drop (dc l)).drop 1).take (dc ((l.drop (dc l)).drop 1))).length + (((l.drop (dc l)).drop 1).drop (dc ((l.drop (dc l)).drop 1))).length = ((l.drop (dc l)).drop 1).length := by
          rw [← List.length_append, List.take_append_drop]
        have hm2 : ((l.drop (dc l)).drop 1).length ≤ (l.drop (dc l)).length := by rw [List.length_drop]; omega
        omega
  · obtain ⟨h1, h2, h3, h4, h5⟩ := tail_ok h
    refine ⟨h1, ?_, ?_, h4, ?_⟩
    · rw [h2]; exact dc_digs l
    · rw [h3]; simp
    · rw [h2, h3]
      simp only [List.length_nil]
      omega
theorem read_ok {l : List UInt8} {p : Pt} (h : Nu.read l = some p) : p.neg = has 45 l ∧ p.Ok l.length := by
  obtain ⟨h1, h2⟩ := body_ok h
  exact ⟨h1, h2.wh, h2.fr, h2.ex, Nat.le_trans h2.le (off_le 45 l)⟩
/-- What Whole tells. -/
def wholeZ : Option Pt → Int × Bool
  | none => (0, false)
  | some p => if p.key % 10 ≠ 0 ∨ 90071992547409910 < p.key then (0, false) else (if p.neg then -((p.key / 10 : Nat) : Int) else ((p.key / 10 : Nat) : Int), true)
/-- What Cmp tells. -/
def cmpZ (n : Int) : Option Pt → Int
  | none => 0
  | some p => cmp3 p.val (10 * n)
theorem cmp_side (neg : Bool) (K : Nat) (n : Int) :
    cmp3 (if neg then -(K : Int) else (K : Int)) (10 * n) = if cmp3 (sideZ neg K) (cmp3 n 0) = 0 then sideZ neg K * cmp3 K ((10 * n.natAbs : Nat) : Int) else cmp3 (sideZ neg K) (cmp3 n 0) := by
  have h1 : n.natAbs = if n < 0 then (-n).toNat else n.toNat := by split <;> omega
  unfold sideZ
  by_cases hK : K = 0
  · subst hK
    rcases Int.lt_trichotomy n 0 with h | h | h
    · cases neg <;> simp [cmp3] <;> omega
    · subst h
      cases neg <;> simp [cmp3]
    · cases neg <;> simp [cmp3] <;> omega
  · rw [if_neg hK]
    rcases Int.lt_trichotomy n 0 with h | h | h
    · cases neg
      · simp only [Bool.false_eq_true, if_false]
        have e1 : cmp3 n 0 = -1 := by rw [cmp3, if_pos h]
        rw [e1]
        have e2 : cmp3 1 (-1) = 1 := by decide
        rw [e2, if_neg (by decide), cmp3, if_neg (by omega), if_pos (by omega)]
      · simp only [if_true]
        have e1 : cmp3 n 0 = -1 := by rw [cmp3, if_pos h]
        rw [e1]
        have e2 : cmp3 (-1) (-1) = 0 := by decide
        rw [e2, if_pos rfl]
        unfold cmp3
        split <;> split <;> (try split) <;> omega
    · subst h
      cases neg
      · simp only [Bool.false_eq_true, if_false]
        have e1 : cmp3 0 0 = 0 := by decide
        have e2 : cmp3 1 0 = 1 := by decide
        rw [e1, e2, if_neg (by decide), cmp3, if_neg (by omega), if_pos (by omega)]
      · simp only [if_true]
        have e1 : cmp3 0 0 = 0 := by decide
        have e2 : cmp3 (-1) 0 = -1 := by decide
        rw [e1, e2, if_neg (by decide), cmp3, if_pos (by omega)]
    · have e1 : cmp3 n 0 = 1 := by rw [cmp3, if_neg (by omega), if_pos h]
      cases neg
      · simp only [Bool.false_eq_true, if_false]
        rw [e1]
        have e2 : cmp3 1 1 = 0 := by decide
        rw [e2, if_pos rfl, Int.one_mul]
        unfold cmp3
        split <;> split <;> (try split) <;> (try omega)
      · simp only [if_true]
        rw [e1]
        have e2 : cmp3 (-1) 1 = -1 := by decide
        rw [e2, if_neg (by decide), cmp3, if_pos (by omega)]
end Nu
set_option maxHeartbeats 1000000 in
set_option maxRecDepth 100000 in
theorem Is_any (l : List UInt8) (w : World) (hs : l.length ≤ 1000000) :
    Calls Tryd.prog 13 #[.string (str l)] w fun e w' => e = .returned (.bool (Nu.read l).isSome) ∧ Below w.heap.size w w' := by
  have hr := read_any l w hs
  cases hR : Nu.read l with
  | none =>
    rw [hR] at hr
    have hpv : pv none = .agg #[.bool false, .string ⟨#[]⟩, .string ⟨#[]⟩, .bool false, .string ⟨#[]⟩] := rfl
    rw [hpv] at hr
    clear hR hpv
    go_enter Tryd.func13, Tryd.ntmps13
    go_wp2_with fail
    refine hr.mono ?_
    rintro e w2 ⟨rfl, hb2⟩
    have HB2 := hidden hb2
    clear hb2
    go_wp2_with fail
    go_ret
    exact ⟨rfl, HB2.out.alloc HB2.out.size _⟩
  | some p =>
    obtain ⟨neg, wh, fr, en, ex⟩ := p
    rw [hR] at hr
    have hpv : pv (some ⟨neg, wh, fr, en, ex⟩) = .agg #[.bool neg, .string (str wh), .string (str fr), .bool en, .string (str ex)] := rfl
    rw [hpv] at hr
    clear hR hpv
    go_enter Tryd.func13, Tryd.ntmps13
    go_wp2_with fail
    refine hr.mono ?_
    rintro e w2 ⟨rfl, hb2⟩
    have HB2 := hidden hb2
    clear hb2
    go_wp2_with fail
    go_ret
    exact ⟨rfl, HB2.out.alloc HB2.out.size _⟩
set_option maxHeartbeats 4000000 in
set_option maxRecDepth 100000 in
theorem Whole_any (l : List UInt8) (w : World) (hs : l.length ≤ 1000000) (hT : Ten w) :
    Calls Tryd.prog 11 #[.string (str l)] w fun e w' => e = .returned (.tuple #[.int .i64 (wholeZ (Nu.read l)).1, .bool (wholeZ (Nu.read l)).2]) ∧ Below w.heap.size w w' := by
  have hr := read_any l w hs
  cases hR : Nu.read l with
  | none =>
    rw [hR] at hr
    have hpv : pv none = .agg #[.bool false, .string ⟨#[]⟩, .string ⟨#[]⟩, .bool false, .string ⟨#[]⟩] := rfl
    rw [hpv] at hr
    clear hR hpv
    go_enter Tryd.func11, Tryd.ntmps11
    go_wp2_with fail
    refine hr.mono ?_
    rintro e w2 ⟨rfl, hb2⟩
    have HB2 := hidden hb2
    clear hb2
    go_wp2_with fail
    go_ret2
    exact ⟨rfl, HB2.out.alloc HB2.out.size _⟩
  | some p =>
    obtain ⟨neg, wh, fr, en, ex⟩ := p
    rw [hR] at hr
    have hpok := (read_ok hR).2
    have hpv : pv (some ⟨neg, wh, fr, en, ex⟩) = .agg #[.bool neg, .string (str wh), .string (str fr), .bool en, .string (str ex)] := rfl
    have hsz := fun v => size_any ⟨neg, wh, fr, en, ex⟩ l.length hpok hs v
    obtain ⟨S, hS⟩ : ∃ S, S = Pt.key ⟨neg, wh, fr, en, ex⟩ := ⟨_, rfl⟩
    have hSl : S ≤ 10 ^ 20 := by rw [hS]; exact key_le _ _
    have hS21 : S < 10 ^ 21 := by omega
    simp only [← hS] at hsz
    have hwz : wholeZ (some ⟨neg, wh, fr, en, ex⟩) = if S % 10 ≠ 0 ∨ 90071992547409910 < S then (0, false) else (if neg then -((S / 10 : Nat) : Int) else ((S / 10 : Nat) : Int), true) := by rw [hS]; rfl
    have HWZ := hidden hwz
    clear hwz
    rw [hpv] at hr hsz
    clear hR hpv hpok hS hSl
    have HSZ := hidden hsz
    have HT := hidden hT
    have HS21 := hidden hS21
    clear hsz hT hS21
    go_enter Tryd.func11, Tryd.ntmps11
    go_wp2_with fail
    refine hr.mono ?_
    rintro e w2 ⟨rfl, hb2⟩
    have HB2 := hidden hb2
    clear hb2
    have hp := heap_alloc_new w2 (.cells #[.bool neg, .string (str wh), .string (str fr), .bool en, .string (str ex)] 36)
    have hba := (Below.refl w2.heap.size w2).alloc (Nat.le_refl _) (.cells #[.bool neg, .string (str wh), .string (str fr), .bool en, .string (str ex)] 36)
    obtain ⟨w3, hw3⟩ : ∃ w3, w3 = w2.alloc (.cells #[.bool neg, .string (str wh), .string (str fr), .bool en, .string (str ex)] 36) := ⟨_, rfl⟩
    rw [← hw3] at hp hba
    have c0 := Lib.cell_of_heap hp 0
    have c1 := Lib.cell_of_heap hp 1
    have c2 := Lib.cell_of_heap hp 2
    have c3 := Lib.cell_of_heap hp 3
    have c4 := Lib.cell_of_heap hp 4
    simp only [List.getElem?_toArray, List.getElem?_cons_zero, List.getElem?_cons_succ] at c0 c1 c2 c3 c4
    have HP := hidden hp
    have HBA := hidden hba
    rw [hw3] at c0 c1 c2 c3 c4
    have HW3 := hidden hw3
    clear hp hba hw3
    go_wp2_with fail
    rw [← HW3.out]
    refine (HSZ.out _).mono ?_
    rintro e w4 ⟨rfl, hb4⟩
    have HP4 := hidden ((hb4.block _ (lt_of_block HP.out)).trans HP.out)
    have HB4 := hidden (below_after (below_after HB2.out HBA.out) hb4)
    have hz := heap_alloc_new w4 (.cells #[Value.int .u8 0, .int .u8 0, .int .u8 0, .int .u8 0, .int .u8 0, .int .u8 0, .int .u8 0, .int .u8 0, .int .u8 0, .int .u8 0, .int .u8 0, .int .u8 0, .int .u8 0, .int .u8 0, .int .u8 0, .int .u8 0, .int .u8 0, .int .u8 0, .int .u8 0, .int .u8 0, .int .u8 0] 40)
    have HZ := hidden hz
    clear hb4 hz c0 c1 c2 c3 c4 HP HBA HW3 HB2 w3
    go_wp2_with (refine wpList_store_row rfl 40 _ _ rfl w4.heap.size (cv S) rfl rfl 40 _ HZ.out (sizeCv _) (by rw [cv_size]; rfl) (cv_one _) ?_)
    have hrow := setRow_heap _ _ _ (cv S) _ _ HZ.out
    have hb5 := below_setRow ((Below.refl w4.heap.size w4).alloc (Nat.le_refl _) (.cells #[Value.int .u8 0, .int .u8 0, .int .u8 0, .int .u8 0, .int .u8 0, .int .u8 0, .int .u8 0, .int .u8 0, .int .u8 0, .int .u8 0, .int .u8 0, .int .u8 0, .int .u8 0, .int .u8 0, .int .u8 0, .int .u8 0, .int .u8 0, .int .u8 0, .int .u8 0, .int .u8 0, .int .u8 0] 40)) (Nat.le_refl _) (cv S)
    have hp5 := (hb5.block _ (lt_of_block HP4.out)).trans HP4.out
    obtain ⟨w5, hw5⟩ : ∃ w5, w5 = (w4.alloc (.cells #[Value.int .u8 0, .int .u8 0, .int .u8 0, .int .u8 0, .int .u8 0, .int .u8 0, .int .u8 0, .int .u8 0, .int .u8 0, .int .u8 0, .int .u8 0, .int .u8 0, .int .u8 0, .int .u8 0, .int .u8 0, .int .u8 0, .int .u8 0, .int .u8 0, .int .u8 0, .int .u8 0, .int .u8 0] 40)).setRow w4.heap.size (cv S) := ⟨_, rfl⟩
    rw [← hw5] at hrow hb5 hp5
    have HROW := hidden hrow
    have HB5 := hidden (below_after HB4.out hb5)
    have HP5 := hidden hp5
    have HT5 := hidden (HT.out.below HB5.out (Nat.le_refl _))
    have HW5 := hidden hw5
    clear hrow hb5 hp5 hw5
    have QB : Hid (∀ d os, Calls Tryd.prog 20 #[.agg (cv S)] (grow (redrawn w5 d) os) fun e w'' => e = .returned (.bool (S % 10 != 0)) ∧ ∃ p : Regrown, w'' = grow (redrawn w5 p.d) p.os) := fun d os => Calls.regrown_of (broken_any S _)
    have QS : Hid (∀ d os, Calls Tryd.prog 22 #[.int .i64 9007199254740991] (grow (redrawn w5 d) os) fun e w'' => e = .returned (.agg (cv 90071992547409910)) ∧ ∃ p : Regrown, w'' = grow (redrawn w5 p.d) p.os) := fun d os => Calls.regrown_of (sizeOf_any 9007199254740991 (by omega) (by omega) _ (HT5.out.below (below_regrown w5 d os) (Nat.le_refl _)))
    have QA : Hid (∀ d os, Calls Tryd.prog 21 #[.agg (cv S), .agg (cv 90071992547409910)] (grow (redrawn w5 d) os) fun e w'' => e = .returned (.int .i64 (cmp3 (S : Int) (90071992547409910 : Nat))) ∧ ∃ p : Regrown, w'' = grow (redrawn w5 p.d) p.os) := fun d os => Calls.regrown_of (against_any S 90071992547409910 HS21.out (by omega) _)
    rw [← HW5.out]
    by_cases hbr : S % 10 ≠ 0
    · have hbb : (S % 10 != 0) = true := by rw [bne_iff_ne]; exact hbr
      have hwz : wholeZ (some ⟨neg, wh, fr, en, ex⟩) = (0, false) := by rw [HWZ.out, if_pos (.inl hbr)]
      have HWZ2 := hidden hwz
      rw [hbb] at QB
      clear hbr hwz hbb
      refine wp_region_quiet_below (by kernel_rfl) (by kernel_rfl) ?_
      go_simp
      repeat (first
        | (refine wpQuiet_step (fun KK hKK => ?_); rw [if_pos (by rfl)]; refine quiet_load_row 40 _ rfl w4.heap.size rfl 40 (cv S) (0, 0) _ (fun w' hw' => by obtain ⟨p, rfl⟩ := hw'; exact ((below_regrown w5 p.d p.os).block _ (lt_of_block HROW.out)).trans HROW.out) Tryd.underlying40 rfl (sizeCv S) (hKK _ ?_); clear hKK KK; go_simp)
        | go_big_quiet_step (first
          | (go_at_call 20; exact QB.out _ _)))
      refine wpQuiet_nil ?_
      intro pq
      have HB6 := hidden (below_after HB5.out (below_regrown w5 pq.d pq.os))
      generalize grow (redrawn w5 pq.d) pq.os = w6 at HB6 ⊢
      clear QB QS QA
      go_wp2_with fail
      go_ret2
      rw [HWZ2.out]
      exact ⟨rfl, HB6.out⟩
    · have hbb : (S % 10 != 0) = false := by simpa using hbr
      have hcm : 0 < cmp3 (S : Int) (90071992547409910 : Nat) ↔ 90071992547409910 < S := by
        unfold cmp3
        split
        · omega
        · split <;> omega
      have hc1 : cmp3 (S : Int) (90071992547409910 : Nat) = -1 ∨ cmp3 (S : Int) (90071992547409910 : Nat) = 0 ∨ cmp3 (S : Int) (90071992547409910 : Nat) = 1 := by
        unfold cmp3
        split
        · exact .inl rfl
        · split
          · exact .inr (.inr rfl)
          · exact .inr (.inl rfl)
      obtain ⟨cc, hcc⟩ : ∃ cc, cc = cmp3 (S : Int) (90071992547409910 : Nat) := ⟨_, rfl⟩
      rw [← hcc] at QA hcm hc1
      rw [hbb] at QB
      clear hcc hbb
      by_cases hbig : 90071992547409910 < S
      · have hwz : wholeZ (some ⟨neg, wh, fr, en, ex⟩) = (0, false) := by rw [HWZ.out, if_pos (.inr hbig)]
        have HWZ2 := hidden hwz
        have hgt : 0 < cc := hcm.2 hbig
        clear hbr hwz hcm hc1 hbig
        refine wp_region_quiet_below (by kernel_rfl) (by kernel_rfl) ?_
        go_simp
        repeat (first
          | (refine wpQuiet_step (fun KK hKK => ?_); rw [if_pos (by rfl)]; refine quiet_load_row 40 _ rfl w4.heap.size rfl 40 (cv S) (0, 0) _ (fun w' hw' => by obtain ⟨p, rfl⟩ := hw'; exact ((below_regrown w5 p.d p.os).block _ (lt_of_block HROW.out)).trans HROW.out) Tryd.underlying40 rfl (sizeCv S) (hKK _ ?_); clear hKK KK; go_simp)
          | go_big_quiet_step (first
            | (go_at_call 20; exact QB.out _ _)
            | (go_at_call 22; exact QS.out _ _)
            | (go_at_call 21; exact QA.out _ _)))
        refine wpQuiet_nil ?_
        intro pq
        have HB6 := hidden (below_after HB5.out (below_regrown w5 pq.d pq.os))
        generalize grow (redrawn w5 pq.d) pq.os = w6 at HB6 ⊢
        clear QB QS QA
        go_wp2_with fail
        go_ret2
        rw [HWZ2.out]
        exact ⟨rfl, HB6.out⟩
      · have hwz : wholeZ (some ⟨neg, wh, fr, en, ex⟩) = (if neg then -((S / 10 : Nat) : Int) else ((S / 10 : Nat) : Int), true) := by rw [HWZ.out, if_neg (fun h => h.elim hbr hbig)]
        have HWZ2 := hidden hwz
        have hgt : ¬ 0 < cc := fun h => hbig (hcm.1 h)
        have HNB := hidden hbig
        clear hbr hwz hcm hc1 hbig
        refine wp_region_quiet_below (by kernel_rfl) (by kernel_rfl) ?_
        go_simp
        repeat (first
          | (refine wpQuiet_step (fun KK hKK => ?_); rw [if_pos (by rfl)]; refine quiet_load_row 40 _ rfl w4.heap.size rfl 40 (cv S) (0, 0) _ (fun w' hw' => by obtain ⟨p, rfl⟩ := hw'; exact ((below_regrown w5 p.d p.os).block _ (lt_of_block HROW.out)).trans HROW.out) Tryd.underlying40 rfl (sizeCv S) (hKK _ ?_); clear hKK KK; go_simp)
          | go_big_quiet_step (first
            | (go_at_call 20; exact QB.out _ _)
            | (go_at_call 22; exact QS.out _ _)
            | (go_at_call 21; exact QA.out _ _)))
        refine wpQuiet_nil ?_
        intro pq
        have hbg := below_regrown w5 pq.d pq.os
        have HB6 := hidden (below_after HB5.out hbg)
        have hrow6 := (hbg.block _ (lt_of_block HROW.out)).trans HROW.out
        have c0 := Lib.cell_of_heap ((hbg.block _ (lt_of_block HP5.out)).trans HP5.out) 0
        simp only [List.getElem?_toArray, List.getElem?_cons_zero] at c0
        generalize grow (redrawn w5 pq.d) pq.os = w6 at HB6 hrow6 c0 ⊢
        have HROW6 := hidden hrow6
        have hq : S / 10 ≤ 9007199254740991 := by
          have := HNB.out
          omega
        obtain ⟨q, hqq⟩ : ∃ q, q = S / 10 := ⟨_, rfl⟩
        have hnum := fun u => number_any S (by have := HNB.out; omega) u
        rw [← hqq] at hq
        simp only [← hqq] at hnum
        have HNUM := hidden hnum
        have HQ := hidden hqq
        clear QB QS QA hrow6 hbg hnum hqq
        cases neg with
        | true =>
          go_wp2_with (refine wpList_load_row rfl 40 _ rfl w4.heap.size rfl 40 (cv S) (0, 0) _ HROW6.out Tryd.underlying40 rfl (sizeCv S) ?_)
          refine (HNUM.out _).mono ?_
          rintro e w7 ⟨rfl, hb7⟩
          have HB7 := hidden (below_after HB6.out hb7)
          clear hb7 c0
          go_wp2_with fail
          go_ret2
          rw [HWZ2.out, ← HQ.out]
          exact ⟨rfl, HB7.out⟩
        | false =>
          go_wp2_with (refine wpList_load_row rfl 40 _ rfl w4.heap.size rfl 40 (cv S) (0, 0) _ HROW6.out Tryd.underlying40 rfl (sizeCv S) ?_)
          refine (HNUM.out _).mono ?_
          rintro e w7 ⟨rfl, hb7⟩
          have HB7 := hidden (below_after HB6.out hb7)
          clear hb7 c0
          go_wp2_with fail
          go_ret2
          rw [HWZ2.out, ← HQ.out]
          exact ⟨rfl, HB7.out⟩
set_option maxHeartbeats 4000000 in
set_option maxRecDepth 100000 in
theorem Cmp_any (l : List UInt8) (n : Int) (h0 : -9223372036854775808 ≤ n) (h1 : n ≤ 9223372036854775807) (w : World) (hs : l.length ≤ 1000000) (hT : Ten w) :
    Calls Tryd.prog 15 #[.string (str l), .int .i64 n] w fun e w' => e = .returned (.int .i64 (cmpZ n (Nu.read l))) ∧ Below w.heap.size w w' := by
  have hr := read_any l w hs
  cases hR : Nu.read l with
  | none =>
    rw [hR] at hr
    have hpv : pv none = .agg #[.bool false, .string ⟨#[]⟩, .string ⟨#[]⟩, .bool false, .string ⟨#[]⟩] := rfl
    rw [hpv] at hr
    clear hR hpv
    go_enter Tryd.func15, Tryd.ntmps15
    go_wp2_with fail
    refine hr.mono ?_
    rintro e w2 ⟨rfl, hb2⟩
    have HB2 := hidden hb2
    clear hb2
    go_wp2_with fail
    go_ret
    exact ⟨rfl, HB2.out.alloc HB2.out.size _⟩
  | some p =>
    obtain ⟨neg, wh, fr, en, ex⟩ := p
    rw [hR] at hr
    have hpok := (read_ok hR).2
    have hpv : pv (some ⟨neg, wh, fr, en, ex⟩) = .agg #[.bool neg, .string (str wh), .string (str fr), .bool en, .string (str ex)] := rfl
    have hsz := fun v => size_any ⟨neg, wh, fr, en, ex⟩ l.length hpok hs v
    obtain ⟨S, hS⟩ : ∃ S, S = Pt.key ⟨neg, wh, fr, en, ex⟩ := ⟨_, rfl⟩
    have hSl : S ≤ 10 ^ 20 := by rw [hS]; exact key_le _ _
    have hS21 : S < 10 ^ 21 := by omega
    simp only [← hS] at hsz
    have hwz : cmpZ n (some ⟨neg, wh, fr, en, ex⟩) = if cmp3 (sideZ neg S) (cmp3 n 0) = 0 then sideZ neg S * cmp3 S ((10 * n.natAbs : Nat) : Int) else cmp3 (sideZ neg S) (cmp3 n 0) := by rw [hS]; exact cmp_side neg _ n
    have HWZ := hidden hwz
    have HSD := hidden (fun v hv => side_any ⟨neg, wh, fr, en, ex⟩ S hS21 v hv)
    have hsd1 : sideZ neg S = -1 ∨ sideZ neg S = 0 ∨ sideZ neg S = 1 := by
      unfold sideZ
      split
      · exact .inr (.inl rfl)
      · split
        · exact .inl rfl
        · exact .inr (.inr rfl)
    obtain ⟨sd, hsd⟩ : ∃ sd, sd = sideZ neg S := ⟨_, rfl⟩
    rw [← hsd] at hsd1 HWZ HSD
    rw [hpv] at HSD
    clear hwz hsd
    rw [hpv] at hr hsz
    clear hR hpv hpok hS hSl
    have HSZ := hidden hsz
    have HT := hidden hT
    have HS21 := hidden hS21
    clear hsz hT hS21
    go_enter Tryd.func15, Tryd.ntmps15
    go_wp2_with fail
    refine hr.mono ?_
    rintro e w2 ⟨rfl, hb2⟩
    have HB2 := hidden hb2
    clear hb2
    have hp := heap_alloc_new w2 (.cells #[.bool neg, .string (str wh), .string (str fr), .bool en, .string (str ex)] 36)
    have hba := (Below.refl w2.heap.size w2).alloc (Nat.le_refl _) (.cells #[.bool neg, .string (str wh), .string (str fr), .bool en, .string (str ex)] 36)
    obtain ⟨w3, hw3⟩ : ∃ w3, w3 = w2.alloc (.cells #[.bool neg, .string (str wh), .string (str fr), .bool en, .string (str ex)] 36) := ⟨_, rfl⟩
    rw [← hw3] at hp hba
    have c0 := Lib.cell_of_heap hp 0
    have c1 := Lib.cell_of_heap hp 1
    have c2 := Lib.cell_of_heap hp 2
    have c3 := Lib.cell_of_heap hp 3
    have c4 := Lib.cell_of_heap hp 4
    simp only [List.getElem?_toArray, List.getElem?_cons_zero, List.getElem?_cons_succ] at c0 c1 c2 c3 c4
    have HP := hidden hp
    have HBA := hidden hba
    rw [hw3] at c0 c1 c2 c3 c4
    have HW3 := hidden hw3
    clear hp hba hw3
    go_wp2_with fail
    rw [← HW3.out]
    refine (HSZ.out _).mono ?_
    rintro e w4 ⟨rfl, hb4⟩
    have HP4 := hidden ((hb4.block _ (lt_of_block HP.out)).trans HP.out)
    have HB4 := hidden (below_after (below_after HB2.out HBA.out) hb4)
    have hz := heap_alloc_new w4 (.cells #[Value.int .u8 0, .int .u8 0, .int .u8 0, .int .u8 0, .int .u8 0, .int .u8 0, .int .u8 0, .int .u8 0, .int .u8 0, .int .u8 0, .int .u8 0, .int .u8 0, .int .u8 0, .int .u8 0, .int .u8 0, .int .u8 0, .int .u8 0, .int .u8 0, .int .u8 0, .int .u8 0, .int .u8 0] 40)
    have HZ := hidden hz
    clear hb4 hz c0 c1 c2 c3 c4 HP HBA HW3 HB2 w3
    have HSD1 := hidden hsd1
    clear hsd1
    have hrow := setRow_heap _ _ _ (cv S) _ _ HZ.out
    have hb5 := below_setRow ((Below.refl w4.heap.size w4).alloc (Nat.le_refl _) (.cells #[Value.int .u8 0, .int .u8 0, .int .u8 0, .int .u8 0, .int .u8 0, .int .u8 0, .int .u8 0, .int .u8 0, .int .u8 0, .int .u8 0, .int .u8 0, .int .u8 0, .int .u8 0, .int .u8 0, .int .u8 0, .int .u8 0, .int .u8 0, .int .u8 0, .int .u8 0, .int .u8 0, .int .u8 0] 40)) (Nat.le_refl _) (cv S)
    have hp5 := (hb5.block _ (lt_of_block HP4.out)).trans HP4.out
    obtain ⟨w5, hw5⟩ : ∃ w5, w5 = (w4.alloc (.cells #[Value.int .u8 0, .int .u8 0, .int .u8 0, .int .u8 0, .int .u8 0, .int .u8 0, .int .u8 0, .int .u8 0, .int .u8 0, .int .u8 0, .int .u8 0, .int .u8 0, .int .u8 0, .int .u8 0, .int .u8 0, .int .u8 0, .int .u8 0, .int .u8 0, .int .u8 0, .int .u8 0, .int .u8 0] 40)).setRow w4.heap.size (cv S) := ⟨_, rfl⟩
    rw [← hw5] at hrow hb5 hp5
    have HROW := hidden hrow
    have HB5 := hidden (below_after HB4.out hb5)
    have HP5 := hidden hp5
    have HT5 := hidden (HT.out.below HB5.out (Nat.le_refl _))
    have HW5 := hidden hw5
    clear hrow hb5 hp5 hw5
    have hrow0 := HROW.out
    have hp0 := HP5.out
    rw [HW5.out] at hrow0 hp0
    have HR0 := hidden hrow0
    have HP0 := hidden hp0
    clear hrow0 hp0
    go_wp2_with (first
      | (refine wpList_store_row rfl 40 _ _ rfl w4.heap.size (cv S) rfl rfl 40 _ HZ.out (sizeCv _) (by rw [cv_size]; rfl) (cv_one _) ?_)
      | (refine wpList_load_row rfl 40 _ rfl w4.heap.size rfl 40 (cv S) (0, 0) _ HR0.out Tryd.underlying40 rfl (sizeCv S) ?_)
      | (refine wpList_load_row rfl 36 _ rfl w2.heap.size rfl 36 _ (0, 0) _ HP0.out Tryd.underlying36 rfl sizeParts ?_))
    rw [← HW5.out]
    refine (HSD.out _ HT5.out).mono ?_
    rintro e w6 ⟨rfl, hb6⟩
    have HB6 := hidden (below_after HB5.out hb6)
    have HROW6 := hidden ((hb6.block _ (lt_of_block HROW.out)).trans HROW.out)
    have HT6 := hidden (HT.out.below HB6.out (Nat.le_refl _))
    clear hb6 HSD HR0 HP0
    go_wp2_with fail
    refine (cmpLong_any n 0 _).mono ?_
    rintro e w7 ⟨rfl, rfl⟩
    go_wp2_with fail
    refine (cmpInt_any sd (cmp3 n 0) _).mono ?_
    rintro e w8 ⟨rfl, rfl⟩
    obtain ⟨od, hod⟩ : ∃ od, od = cmp3 sd (cmp3 n 0) := ⟨_, rfl⟩
    rw [← hod]
    rw [← hod] at HWZ
    clear hod
    by_cases hz : od = 0
    · have hwz : cmpZ n (some ⟨neg, wh, fr, en, ex⟩) = sd * cmp3 S ((10 * n.natAbs : Nat) : Int) := by rw [HWZ.out, if_pos hz]
      have HWZ2 := hidden hwz
      have hM : 10 * n.natAbs < 10 ^ 21 := by omega
      have QS : Hid (∀ d os, Calls Tryd.prog 22 #[.int .i64 n] (grow (redrawn w8 d) os) fun e w'' => e = .returned (.agg (cv (10 * n.natAbs))) ∧ ∃ p : Regrown, w'' = grow (redrawn w8 p.d) p.os) := fun d os => Calls.regrown_of (sizeOf_any n h0 h1 _ (HT6.out.below (below_regrown w8 d os) (Nat.le_refl _)))
      have QA : Hid (∀ d os, Calls Tryd.prog 21 #[.agg (cv S), .agg (cv (10 * n.natAbs))] (grow (redrawn w8 d) os) fun e w'' => e = .returned (.int .i64 (cmp3 (S : Int) (10 * n.natAbs : Nat))) ∧ ∃ p : Regrown, w'' = grow (redrawn w8 p.d) p.os) := fun d os => Calls.regrown_of (against_any S (10 * n.natAbs) HS21.out hM _)
      have hc1 : cmp3 (S : Int) (10 * n.natAbs : Nat) = -1 ∨ cmp3 (S : Int) (10 * n.natAbs : Nat) = 0 ∨ cmp3 (S : Int) (10 * n.natAbs : Nat) = 1 := by
        unfold cmp3
        split
        · exact .inl rfl
        · split
          · exact .inr (.inr rfl)
          · exact .inr (.inl rfl)
      obtain ⟨cc, hcc⟩ : ∃ cc, cc = cmp3 (S : Int) (10 * n.natAbs : Nat) := ⟨_, rfl⟩
      rw [← hcc] at QA hc1 HWZ2
      obtain ⟨mm, hmm⟩ : ∃ mm, mm = 10 * n.natAbs := ⟨_, rfl⟩
      rw [← hmm] at QS QA
      have hpr : -1 ≤ sd * cc ∧ sd * cc ≤ 1 := by
        rcases HSD1.out with h | h | h <;> rcases hc1 with h' | h' | h' <;> rw [h, h'] <;> decide
      obtain ⟨hpr1, hpr2⟩ := hpr
      obtain ⟨pr, hprd⟩ : ∃ pr, sd * cc = pr := ⟨_, rfl⟩
      rw [hprd] at hpr1 hpr2 HWZ2
      clear hcc hmm hM hwz hc1
      subst hz
      go_wp2_with fail
      refine wp_region_quiet_below (by kernel_rfl) (by kernel_rfl) ?_
      go_simp
      repeat (first
        | (refine wpQuiet_step (fun KK hKK => ?_); rw [if_pos (by rfl)]; refine quiet_load_row 40 _ rfl w4.heap.size rfl 40 (cv S) (0, 0) _ (fun w' hw' => by obtain ⟨p, rfl⟩ := hw'; exact ((below_regrown w8 p.d p.os).block _ (lt_of_block HROW6.out)).trans HROW6.out) Tryd.underlying40 rfl (sizeCv S) (hKK _ ?_); clear hKK KK; go_simp)
        | go_big_quiet_step (first
          | (go_at_call 22; exact QS.out _ _)
          | (go_at_call 21; exact QA.out _ _)))
      refine wpQuiet_nil ?_
      intro pq
      have HB9 := hidden (below_after HB6.out (below_regrown w8 pq.d pq.os))
      generalize grow (redrawn w8 pq.d) pq.os = w9 at HB9 ⊢
      clear QS QA
      go_wp2_with fail
      go_ret
      rw [HWZ2.out]
      exact ⟨rfl, HB9.out⟩
    · have hwz : cmpZ n (some ⟨neg, wh, fr, en, ex⟩) = od := by rw [HWZ.out, if_neg hz]
      have HWZ2 := hidden hwz
      have hzb : (od == 0) = false := by simpa using hz
      have hzn : (od != 0) = true := by simpa using hz
      clear hwz
      go_wp2_with fail
      go_ret
      rw [HWZ2.out]
      exact ⟨rfl, HB6.out⟩
end Go.Proofs.YthimbaflodphmaaDoor
