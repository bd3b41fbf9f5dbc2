/-
  The contracts of package num's sizeOf and side; memory is but made.
-/
import Derived.Lib.QuietBelow
import Derived.BigQuiet
import Derived.Stop.BytesEq
import Derived.Test.YthimbaflodphmaaDoorNuSize
namespace Go.Proofs.YthimbaflodphmaaDoor
open Go.RowKit Go.Sort
open Nu
namespace Nu
theorem num_dec (u : Nat) : num (Lib.decDigits u) = u := by
  have h := num_digits (Lib.nDigits u) u
  rw [Nat.mod_eq_of_lt (Lib.lt_pow_nDigits u)] at h
  rw [Lib.decDigits_eq]
  exact h
theorem dec_digs (u : Nat) : ∀ c ∈ Lib.decDigits u, dig c = true := by
  intro c hc
  rw [Lib.decDigits_eq] at hc
  obtain ⟨i, _, rfl⟩ := List.mem_map.1 hc
  unfold dig Lib.dg
  simp
  omega
/-- On which side of 0. -/
def sideZ (neg : Bool) (K : Nat) : Int := if K = 0 then 0 else if neg then -1 else 1
theorem quiet_load_row {P : Program} {o : Oper} {a : Act} {C : World → Prop} {K : Act → Prop} (ty : TypeId) (x : Operand) (ho : o.op = .load ty x)
    (g : Nat) (hx : a.eval x = .pointer (some ⟨g, 0, none⟩)) (t : TypeId) (cs : Array Value) (fr : Nat × Nat) (d : TypeDesc) (hg : ∀ w, C w → w.heap[g]? = some (.cells cs t fr))
    (hu : P.underlying ty = some d) (hd : (match d with | .struct _ | .array _ _ => true | _ => false) = true) (hi : (P.info? ty).map (·.size) = some cs.size)
    (h : K (a.put o.dst (.agg cs))) : o.quiet P a C K := by
  refine ⟨.agg cs, fun w hw => ?_, h⟩
  unfold Oper.quietAt execOp
  simp only [ho, hx, Instr.loadAt, Instr.sureAddr, Sem.run_bind, Sem.run_pure, Result.andThen_ok, run_loadVar_row w g t ty cs fr d (hg w hw) hu hd hi]
  exact ⟨rfl, rfl⟩
theorem eql_cv (K M : Nat) (hK : K < 10 ^ 21) (hM : M < 10 ^ 21) (w : World) : (binOp .eql 40 (.agg (cv K)) (.agg (cv M))).run Tryd.prog w = .ok (.bool (decide (K = M))) w := by
  have h := run_eql_bytes (P := Tryd.prog) w 40 5 21 Tryd.underlying40 Tryd.underlying5 Tryd.sizeOf5 (colB K) (colB M) (colB_length K) (colB_length M)
  have e : (colB K == colB M) = decide (K = M) := by
    rw [Bool.eq_iff_iff, beq_iff_eq, decide_eq_true_iff]
    exact ⟨fun h => by rw [← num_colB K hK, h, num_colB M hM], fun h => by rw [h]⟩
  rw [e] at h
  exact h
end Nu
set_option maxHeartbeats 2000000 in
set_option maxRecDepth 100000 in
theorem sizeOf_any (n : Int) (h0 : -9223372036854775808 ≤ n) (h1 : n ≤ 9223372036854775807) (w : World) (hT : Ten w) :
    Calls Tryd.prog 22 #[.int .i64 n] w fun e w' => e = .returned (.agg (cv (10 * n.natAbs))) ∧ Below w.heap.size w w' := by
  obtain ⟨u, hu⟩ : ∃ u, u = n.natAbs := ⟨_, rfl⟩
  have hu64 : u < 18446744073709551616 := by omega
  have hw1 : IntKind.u64.wrap n = if n < 0 then 18446744073709551616 - (u : Int) else (u : Int) := by
    rw [IntKind.wrap_u64]
    split <;> omega
  have hkey : Pt.key ⟨false, Lib.decDigits u, [], false, []⟩ = 10 * u := by
    have e1 : Pt.n ⟨false, Lib.decDigits u, [], false, []⟩ = u := by rw [Pt.n, List.append_nil, num_dec]
    have e2 : Pt.e ⟨false, Lib.decDigits u, [], false, []⟩ = 0 := by simp [Pt.e, num_nil]
    rw [Pt.key, e1, e2, key_nat u (by omega)]
  have hok : Pt.Ok ⟨false, Lib.decDigits u, [], false, []⟩ 100 := ⟨dec_digs u, by simp, by simp, by
    have h20 : Lib.nDigits u ≤ 20 := by
      by_cases h1 : 1 ≤ u
      · have := Lib.numDigits_eq u h1 hu64
        split at this <;> omega
      · rw [Lib.nDigits_small (by omega)]
        omega
    show (Lib.decDigits u).length + 0 + 0 ≤ 100
    rw [Lib.decDigits_length]
    omega⟩
  have hsz := fun v => size_any ⟨false, Lib.decDigits u, [], false, []⟩ 100 hok (by omega) v
  simp only [hkey] at hsz
  rw [← hu]
  have hz21 : (bcl (List.replicate 21 0)).toArray = #[Value.int .u8 0, .int .u8 0, .int .u8 0, .int .u8 0, .int .u8 0, .int .u8 0, .int .u8 0, .int .u8 0, .int .u8 0, .int .u8 0, .int .u8 0, .int .u8 0, .int .u8 0, .int .u8 0, .int .u8 0, .int .u8 0, .int .u8 0, .int .u8 0, .int .u8 0, .int .u8 0, .int .u8 0] := rfl
  have hr0 : (w.alloc (.cells (bcl (List.replicate 21 0)).toArray 40)).heap[w.heap.size]? = some (.cells (bcl (List.replicate 21 0)).toArray 40 (0, 0)) := heap_alloc_new _ _
  have hb0 : Below w.heap.size w (w.alloc (.cells (bcl (List.replicate 21 0)).toArray 40)) := (Below.refl _ _).alloc (Nat.le_refl _) _
  have hT0 := hT.below hb0 (Nat.le_refl _)
  rw [hz21] at hr0 hb0 hT0
  have HR := hidden hr0
  have HB := hidden hb0
  have HT := hidden hT0
  have HZ := hidden hz21
  have HS := hidden hsz
  have HU := hidden hu
  have hw2 : 0 ≤ n → IntKind.u64.wrap n = (u : Int) := fun h => by rw [hw1, if_neg (by omega)]
  have hw3 : n < 0 → IntKind.u64.wrap (-(IntKind.u64.wrap n)) = (u : Int) := fun h => by rw [hw1, if_pos h, IntKind.wrap_u64]; omega
  clear hsz hkey hok hr0 hb0 hT0 hT hz21 hu hw1
  by_cases hn : n < 0
  · have hw := hw3 hn
    clear hw2 hw3
    go_enter Tryd.func22, Tryd.ntmps22
    go_wp2_with fail
    refine (FormatUint_any u hu64 _ HT.out).mono ?_
    rintro e w2 ⟨rfl, hb2⟩
    have HB2 := hidden (below_after HB.out hb2)
    have HR2 := hidden ((hb2.block _ (lt_of_block HR.out)).trans HR.out)
    clear hb2
    go_wp2_with fail
    refine (HS.out _).mono ?_
    rintro e w3 ⟨rfl, hb3⟩
    have HB3 := hidden (below_after HB2.out hb3)
    have hret := (hb3.block _ (lt_of_block HR2.out)).trans HR2.out
    clear hb3
    go_wp2_with (refine wpList_store_row rfl 40 _ _ rfl w.heap.size (cv (10 * u)) rfl rfl 40 _ hret (sizeCv _) (by rw [cv_size]; rfl) (cv_one _) ?_)
    refine bodyPost_ret (results_cell_row rfl _ _ w.heap.size 40 _ (0, 0) _ rfl (setRow_heap _ _ _ _ _ _ hret) Tryd.underlying40 rfl (sizeCv _)) rfl ?_
    exact ⟨rfl, below_setRow HB3.out (Nat.le_refl _) _⟩
  · have hw := hw2 (by omega)
    clear hw2 hw3
    go_enter Tryd.func22, Tryd.ntmps22
    go_wp2_with fail
    refine (FormatUint_any u hu64 _ HT.out).mono ?_
    rintro e w2 ⟨rfl, hb2⟩
    have HB2 := hidden (below_after HB.out hb2)
    have HR2 := hidden ((hb2.block _ (lt_of_block HR.out)).trans HR.out)
    clear hb2
    go_wp2_with fail
    refine (HS.out _).mono ?_
    rintro e w3 ⟨rfl, hb3⟩
    have HB3 := hidden (below_after HB2.out hb3)
    have hret := (hb3.block _ (lt_of_block HR2.out)).trans HR2.out
    clear hb3
    go_wp2_with (refine wpList_store_row rfl 40 _ _ rfl w.heap.size (cv (10 * u)) rfl rfl 40 _ hret (sizeCv _) (by rw [cv_size]; rfl) (cv_one _) ?_)
    refine bodyPost_ret (results_cell_row rfl _ _ w.heap.size 40 _ (0, 0) _ rfl (setRow_heap _ _ _ _ _ _ hret) Tryd.underlying40 rfl (sizeCv _)) rfl ?_
    exact ⟨rfl, below_setRow HB3.out (Nat.le_refl _) _⟩
set_option maxHeartbeats 2000000 in
set_option maxRecDepth 100000 in
theorem side_any (p : Pt) (S : Nat) (hS : S < 10 ^ 21) (w : World) (hT : Ten w) :
    Calls Tryd.prog 29 #[pv (some p), .agg (cv S)] w fun e w' => e = .returned (.int .i64 (sideZ p.neg S)) ∧ Below w.heap.size w w' := by
  obtain ⟨neg, wh, fr, en, ex⟩ := p
  have hpv : pv (some ⟨neg, wh, fr, en, ex⟩) = .agg #[.bool neg, .string (str wh), .string (str fr), .bool en, .string (str ex)] := rfl
  rw [hpv]
  obtain ⟨w1, hw1⟩ : ∃ w1, w1 = (w.alloc (.cells #[.bool neg, .string (str wh), .string (str fr), .bool en, .string (str ex)] 36)).alloc (.cells (cv S) 40) := ⟨_, rfl⟩
  have hb1 : Below w.heap.size w w1 := by rw [hw1]; exact ((Below.refl _ _).alloc (Nat.le_refl _) _).alloc (by simp) _
  have hc0 : w1.cell? ⟨w.heap.size, 0, none⟩ = some (.bool neg) := by
    rw [hw1]
    exact Lib.cell_of_heap ((heap_alloc_old _ _ _ (by simp)).trans (heap_alloc_at w _ _ rfl)) 0
  have hrow : w1.heap[w.heap.size + 1]? = some (.cells (cv S) 40 (0, 0)) := by
    rw [hw1]
    exact heap_alloc_at _ _ _ (by simp)
  have hT1 := hT.below hb1 (Nat.le_refl _)
  have QS : Hid (∀ d os, Calls Tryd.prog 22 #[.int .i64 0] (grow (redrawn w1 d) os) fun e w'' => e = .returned (.agg (cv 0)) ∧ ∃ p : Regrown, w'' = grow (redrawn w1 p.d) p.os) := fun d os =>
    Calls.regrown_of (sizeOf_any 0 (by omega) (by omega) _ (hT1.below (below_regrown w1 d os) (Nat.le_refl _)))
  have heq : ∀ u, (Op.equalIn 10000 40 (.agg (cv S)) (.agg (cv 0))).run Tryd.prog u = .ok (decide (S = 0)) u := fun u => by
    have h := run_equalIn_bytes (P := Tryd.prog) u 9998 40 5 21 Tryd.underlying40 Tryd.underlying5 Tryd.sizeOf5 (colB S) (colB 0) (colB_length S) (colB_length 0)
    have e : (colB S == colB 0) = decide (S = 0) := by
      rw [Bool.eq_iff_iff, beq_iff_eq, decide_eq_true_iff]
      exact ⟨fun h => by rw [← num_colB S hS, h, num_colB 0 (by decide)], fun h => by rw [h]⟩
    rw [e] at h
    exact h
  have HB := hidden hb1
  have HROW := hidden hrow
  have HC := hidden hc0
  clear hpv hb1 hrow hT1 hT hc0
  go_enter Tryd.func29, Tryd.ntmps29
  go_wp2_with fail
  rw [← hw1]
  clear hw1
  refine wp_region_quiet_below (by kernel_rfl) (by kernel_rfl) ?_
  refine wpQuiet_step (fun K hK => ?_)
  rw [if_pos (by rfl)]
  refine quiet_load_row 40 _ rfl (w.heap.size + 1) rfl 40 (cv S) (0, 0) _ (fun w' hw' => by obtain ⟨p, rfl⟩ := hw'; exact ((below_regrown w1 p.d p.os).block _ (lt_of_block HROW.out)).trans HROW.out) Tryd.underlying40 rfl (sizeCv S) (hK _ ?_)
  clear hK K
  go_simp
  repeat (go_big_quiet_step (first
    | (go_at_call 22; exact QS.out _ _)))
  refine wpQuiet_nil ?_
  intro pq
  have hbg := below_regrown w1 pq.d pq.os
  have hc2 := cell_regrown HC.out pq.d pq.os
  have HB2 := hidden (below_after HB.out hbg)
  generalize grow (redrawn w1 pq.d) pq.os = w2 at hc2 HB2 ⊢
  clear hbg
  by_cases h0 : S = 0
  · have hd : decide (S = 0) = true := decide_eq_true h0
    have hsd : sideZ neg S = 0 := by rw [sideZ, if_pos h0]
    rw [hd]
    clear h0 heq
    go_wp2_with fail
    go_ret
    exact ⟨by rw [hsd]; rfl, HB2.out⟩
  · have hd : decide (S = 0) = false := decide_eq_false h0
    have hsd : sideZ neg S = if neg then -1 else 1 := by rw [sideZ, if_neg h0]
    rw [hd]
    clear h0 heq
    cases neg with
    | true =>
      go_wp2_with fail
      go_ret
      first | exact ⟨rfl, HB2.out⟩ | exact ⟨by rw [hsd]; rfl, HB2.out⟩
    | false =>
      go_wp2_with fail
      go_ret
      first | exact ⟨rfl, HB2.out⟩ | exact ⟨by rw [hsd]; rfl, HB2.out⟩
set_option maxHeartbeats 1000000 in
theorem cmpInt_any (x y : Int) (w : World) :
    Calls Tryd.prog 30 #[.int .i64 x, .int .i64 y] w fun e w' => e = .returned (.int .i64 (cmp3 x y)) ∧ w' = w := by
  by_cases h1 : x < y
  · rw [cmp3, if_pos h1]
    go_enter Tryd.func30, Tryd.ntmps30
    go_wp2
    go_ret
    exact ⟨rfl, rfl⟩
  · by_cases h2 : y < x
    · rw [cmp3, if_neg h1, if_pos h2]
      go_enter Tryd.func30, Tryd.ntmps30
      go_wp2
      go_ret
      exact ⟨rfl, rfl⟩
    · rw [cmp3, if_neg h1, if_neg h2]
      go_enter Tryd.func30, Tryd.ntmps30
      go_wp2
      go_ret
      exact ⟨rfl, rfl⟩
set_option maxHeartbeats 1000000 in
theorem cmpLong_any (x y : Int) (w : World) :
    Calls Tryd.prog 31 #[.int .i64 x, .int .i64 y] w fun e w' => e = .returned (.int .i64 (cmp3 x y)) ∧ w' = w := by
  by_cases h1 : x < y
  · rw [cmp3, if_pos h1]
    go_enter Tryd.func31, Tryd.ntmps31
    go_wp2
    go_ret
    exact ⟨rfl, rfl⟩
  · by_cases h2 : y < x
    · rw [cmp3, if_neg h1, if_pos h2]
      go_enter Tryd.func31, Tryd.ntmps31
      go_wp2
      go_ret
      exact ⟨rfl, rfl⟩
    · rw [cmp3, if_neg h1, if_neg h2]
      go_enter Tryd.func31, Tryd.ntmps31
      go_wp2
      go_ret
      exact ⟨rfl, rfl⟩
end Go.Proofs.YthimbaflodphmaaDoor
