/-
  The contract of laceworkref10's Less: two numbers by their digits.
-/
import Derived.Test.YthimbaflodphmaaDoorNuRef
import Derived.Test.YthimbaflodphmaaDoorNuTop
namespace Go.Proofs.YthimbaflodphmaaDoor
open Go.RowKit Go.Sort
open Nu
namespace Nu
def sgn (neg : Bool) (X : Nat) : Int := if neg then -(X : Int) else (X : Int)
def sideN (z neg : Bool) : Int := if z then 0 else if neg then -1 else 1
theorem tips_of {f : Nat → Nat} {L : Nat} (hz : ∀ j, L ≤ j → f j = 0) (h : ¬ ∀ j, j < L → f j = 0) : ∃ i l, Tips f L i l := by
  have h1 : ∃ j, f j ≠ 0 := Classical.byContradiction fun hn => h fun j _ => Classical.byContradiction fun h2 => hn ⟨j, h2⟩
  have h2 : ∃ i, f i ≠ 0 ∧ ∀ j, j < i → f j = 0 := by
    obtain ⟨j, hj⟩ := h1
    induction j using Nat.strongRecOn with
    | _ j ih =>
      by_cases h2 : ∃ k, k < j ∧ f k ≠ 0
      · obtain ⟨k, hk, hk2⟩ := h2
        exact ih k hk hk2
      · exact ⟨j, hj, fun k hk => Classical.byContradiction fun h3 => h2 ⟨k, hk, h3⟩⟩
  have h3 : ∀ n, ∀ j, L - j = n → f j ≠ 0 → ∃ l, f l ≠ 0 ∧ ∀ j, l < j → f j = 0 := by
    intro n
    induction n using Nat.strongRecOn with
    | _ n ih =>
      intro j hn hj
      by_cases h2 : ∃ k, j < k ∧ f k ≠ 0
      · obtain ⟨k, hk, hk2⟩ := h2
        have hkL : k < L := Nat.lt_of_not_le fun h4 => hk2 (hz k h4)
        exact ih (L - k) (by omega) k rfl hk2
      · exact ⟨j, hj, fun k hk => Classical.byContradiction fun h4 => h2 ⟨k, hk, h4⟩⟩
  obtain ⟨i, hi, hi2⟩ := h2
  obtain ⟨l, hl, hl2⟩ := h3 _ i rfl hi
  exact ⟨i, l, Nat.lt_of_not_le fun h4 => hi (hz i h4), hi, hi2, Nat.lt_of_not_le fun h4 => hl (hz l h4), hl, hl2⟩
theorem sides {za zb na nb : Bool} {X Y : Nat} (ha : za = true ↔ X = 0) (hb : zb = true ↔ Y = 0) :
    (sideN za na < sideN zb nb → cmp3 (sgn na X) (sgn nb Y) = -1) ∧ (sideN zb nb < sideN za na → cmp3 (sgn na X) (sgn nb Y) = 1) ∧
    (sideN za na = sideN zb nb → cmp3 (sgn na X) (sgn nb Y) = sideN za na * cmp3 X Y) := by
  have hX : (za = true ∧ X = 0) ∨ (za = false ∧ 0 < X) := by
    cases za
    · exact .inr ⟨rfl, Nat.pos_of_ne_zero fun h => by simpa using ha.2 h⟩
    · exact .inl ⟨rfl, ha.1 rfl⟩
  have hY : (zb = true ∧ Y = 0) ∨ (zb = false ∧ 0 < Y) := by
    cases zb
    · exact .inr ⟨rfl, Nat.pos_of_ne_zero fun h => by simpa using hb.2 h⟩
    · exact .inl ⟨rfl, hb.1 rfl⟩
  clear ha hb
  unfold sideN sgn cmp3
  rcases hX with ⟨rfl, rfl⟩ | ⟨rfl, hX⟩ <;> rcases hY with ⟨rfl, rfl⟩ | ⟨rfl, hY⟩ <;> cases na <;> cases nb <;> simp only [if_true, if_false, Bool.false_eq_true] <;>
    refine ⟨fun h => ?_, fun h => ?_, fun h => ?_⟩ <;> (try omega) <;> (repeat' split) <;> omega
/-- What a comparison down to a place tells. -/
structure Row2 (F G : Int → Nat) (m c : Int) : Prop where
  lt : ∀ k, m ≤ k → F k < G k → c = -1
  gt : ∀ k, m ≤ k → G k < F k → c = 1
  eq : F m = G m → c = 0
theorem cmp3_nat {X Y : Nat} : (X < Y → cmp3 X Y = -1) ∧ (Y < X → cmp3 X Y = 1) ∧ (X = Y → cmp3 X Y = 0) := by
  unfold cmp3
  refine ⟨fun h => ?_, fun h => ?_, fun h => ?_⟩
  · rw [if_pos (by omega)]
  · rw [if_neg (by omega), if_pos (by omega)]
  · rw [if_neg (by omega), if_neg (by omega)]
theorem row2_of {fa fb : Nat → Nat} {Pa Pb : Int} {La Lb ia la ib lb t : Nat} (ha9 : ∀ j, fa j ≤ 9) (hb9 : ∀ j, fb j ≤ 9) (ha : Tips fa La ia la) (hb : Tips fb Lb ib lb)
    (hta : 0 ≤ Pa + 1 - La + t) (htb : 0 ≤ Pb + 1 - Lb + t) : Row2 (fl fa Pa) (fl fb Pb) (min (Pa - la) (Pb - lb)) (cmp3 (sc fa Pa t) (sc fb Pb t)) := by
  have h1 := ha.lt2
  have h2 := hb.lt2
  refine ⟨fun k hk h => ?_, fun k hk h => ?_, fun h => ?_⟩
  · exact cmp3_nat.1 (sc_lt ha9 hb9 (by omega) h)
  · exact cmp3_nat.2.1 (sc_lt hb9 ha9 (by omega) h)
  · exact cmp3_nat.2.2 (sc_same (k := min (Pa - la) (Pb - lb)) (by omega) (fun j hj => ha.past j (by omega)) (fun j hj => hb.past j (by omega)) h)
/-- A value is 0 as all its digits are. -/
theorem sc_zero {f : Nat → Nat} {P : Int} {L t : Nat} (h9 : ∀ j, f j ≤ 9) (hz : ∀ j, L ≤ j → f j = 0) (ht : 0 ≤ P + 1 - L + t) : (∀ j, j < L → f j = 0) ↔ sc f P t = 0 := by
  constructor
  · intro h
    exact dn_noughts f _ fun j _ => if h2 : j < L then h j h2 else hz j (by omega)
  · intro h j hj
    refine Classical.byContradiction fun hn => ?_
    unfold sc ic at h
    have h1 := (dn_add f h9 (j + 1) ((P + 1 - -(t : Int)).toNat - (j + 1))).1
    rw [show j + 1 + ((P + 1 - -(t : Int)).toNat - (j + 1)) = (P + 1 - -(t : Int)).toNat by omega, h] at h1
    have h2 : 1 * 1 ≤ dn f (j + 1) * 10 ^ ((P + 1 - -(t : Int)).toNat - (j + 1)) := Nat.mul_le_mul (by rw [dn]; omega) (Nat.pow_pos (by omega))
    omega
/-- Ahead of its first digit that isn't 0, a number has nothing. -/
theorem fl_top {f : Nat → Nat} {P : Int} {L i l : Nat} (h : Tips f L i l) (k : Int) (hk : P - i < k) : fl f P k = 0 := dn_noughts f _ fun j hj => h.ahead j (by unfold ic at hj; omega)
theorem fl_pos {f : Nat → Nat} {P : Int} {L i l : Nat} (h : Tips f L i l) : fl f P (P - i) ≠ 0 := by
  unfold fl ic
  rw [show (P + 1 - (P - (i : Int))).toNat = i + 1 by omega, dn]
  have := h.ne
  omega
end Nu
theorem sizeNum2 {a b c d : Value} : (Tryd.prog.info? 47).map (·.size) = some (#[a, b, c, d] : Array Value).size := by kernel_rfl
/-- One of two, and what is told of it. -/
def Two (A B : Value) (x y : Int) (X : Value) (z : Int) : Prop := (X = A ∧ z = x) ∨ (X = B ∧ z = y)
theorem Two.a {A B : Value} {x y : Int} : Two A B x y A x := .inl ⟨rfl, rfl⟩
theorem Two.b {A B : Value} {x y : Int} : Two A B x y B y := .inr ⟨rfl, rfl⟩
set_option maxHeartbeats 4000000 in
set_option maxRecDepth 100000 in
theorem rLess10_any (na nb : Bool) (ga gb La Lb ca cb : Nat) (pa pb ea eb : Int) (fa fb : Nat → Nat) (w : World) (hDa : Dg w ga fa La) (hDb : Dg w gb fb Lb) (hga : ga < w.heap.size) (hgb : gb < w.heap.size) (hLa : La ≤ 1000000) (hLb : Lb ≤ 1000000)
    (hpa : -10000000000000 ≤ pa ∧ pa ≤ 10000000000000) (hea : -10000000000000 ≤ ea ∧ ea ≤ 10000000000000) (hpb : -10000000000000 ≤ pb ∧ pb ≤ 10000000000000) (heb : -10000000000000 ≤ eb ∧ eb ≤ 10000000000000)
    (ha9 : ∀ j, fa j ≤ 9) (hb9 : ∀ j, fb j ≤ 9) (hla : ∀ j, La ≤ j → fa j = 0) (hlb : ∀ j, Lb ≤ j → fb j = 0)
    (t : Nat) (hta : 0 ≤ pa + ea - 1 + 1 - La + t) (htb : 0 ≤ pb + eb - 1 + 1 - Lb + t)
    (za zb : Bool) (hza : za = true ↔ ∀ j, j < La → fa j = 0) (hzb : zb = true ↔ ∀ j, j < Lb → fb j = 0) :
    Calls Tryd.prog 32 #[nv na ga La ca pa ea, nv nb gb Lb cb pb eb] w fun e w' => e = .returned (.int .i64 (cmp3 (sgn na (sc fa (pa + ea - 1) t)) (sgn nb (sc fb (pb + eb - 1) t)))) ∧ Below w.heap.size w w' := by
  have hZa : za = true ↔ sc fa (pa + ea - 1) t = 0 := hza.trans (sc_zero ha9 hla hta)
  have hZb : zb = true ↔ sc fb (pb + eb - 1) t = 0 := hzb.trans (sc_zero hb9 hlb htb)
  obtain ⟨s1, s2, s3⟩ := sides hZa hZb (na := na) (nb := nb)
  obtain ⟨r, hr⟩ : ∃ r, r = cmp3 (sgn na (sc fa (pa + ea - 1) t)) (sgn nb (sc fb (pb + eb - 1) t)) := ⟨_, rfl⟩
  rw [← hr] at s1 s2 s3 ⊢
  have hsa := fun v hv => rSide10_any na ga La ca pa ea fa v hv hLa za hza
  have hsb := fun v hv => rSide10_any nb gb Lb cb pb eb fb v hv hLb zb hzb
  obtain ⟨x, hx⟩ : ∃ x, x = sideN za na := ⟨_, rfl⟩
  obtain ⟨y, hy⟩ : ∃ y, y = sideN zb nb := ⟨_, rfl⟩
  have ex : (if za = true then 0 else if na = true then -1 else 1) = x := hx.symm
  have ey : (if zb = true then 0 else if nb = true then -1 else 1) = y := hy.symm
  simp only [ex] at hsa
  simp only [ey] at hsb
  rw [← hx, ← hy] at s1 s2 s3
  have hx3 : x = -1 ∨ x = 0 ∨ x = 1 := by rw [hx]; unfold sideN; split <;> (try split) <;> omega
  have hxz : x ≠ 0 → ¬ ∀ j, j < La → fa j = 0 := fun h h2 => h (by rw [hx, hza.2 h2]; rfl)
  have hyz : y ≠ 0 → ¬ ∀ j, j < Lb → fb j = 0 := fun h h2 => h (by rw [hy, hzb.2 h2]; rfl)
  have hta2 := fun v i l (h : Tips fa La i l) hv => rTop10_any na ga La ca pa ea fa v hv hLa hpa hea i h.lt h.ne h.ahead
  have htb2 := fun v i l (h : Tips fb Lb i l) hv => rTop10_any nb gb Lb cb pb eb fb v hv hLb hpb heb i h.lt h.ne h.ahead
  have hlo := fun v i l (h : Tips fa La i l) hv => rLow10_any na ga La ca pa ea fa v hv hLa hpa hea l h.lt2 h.ne2 h.past
  have hlo2 := fun v i l (h : Tips fb Lb i l) hv => rLow10_any nb gb Lb cb pb eb fb v hv hLb hpb heb l h.lt2 h.ne2 h.past
  have hat := fun v k hk hv => rAt10_any na ga La ca pa ea k fa v hv hLa hpa hea hk hla
  have hat2 := fun v k hk hv => rAt10_any nb gb Lb cb pb eb k fb v hv hLb hpb heb hk hlb
  have hrow := fun ia la ib lb => row2_of (ia := ia) (la := la) (ib := ib) (lb := lb) ha9 hb9 (t := t) (hta := hta) (htb := htb)
  obtain ⟨c, hc⟩ : ∃ c, c = cmp3 (sc fa (pa + ea - 1) t) (sc fb (pb + eb - 1) t) := ⟨_, rfl⟩
  rw [← hc] at s3
  simp only [← hc] at hrow
  unfold nv at hsa hsb hta2 htb2 hlo hlo2 hat hat2 ⊢
  obtain ⟨w0, hw0⟩ : ∃ w0, w0 = (w.alloc (.cells #[.bool na, .slice (some ⟨ga, 0, none⟩) La ca, .int .i64 pa, .int .i64 ea] 47)).alloc (.cells #[.bool nb, .slice (some ⟨gb, 0, none⟩) Lb cb, .int .i64 pb, .int .i64 eb] 47) := ⟨_, rfl⟩
  have hb0 : Below w.heap.size w w0 := by rw [hw0]; exact ((Below.refl _ _).alloc (Nat.le_refl _) _).alloc (by simp) _
  have hrA0 : w0.heap[w.heap.size]? = some (.cells #[.bool na, .slice (some ⟨ga, 0, none⟩) La ca, .int .i64 pa, .int .i64 ea] 47 (0, 0)) := by
    rw [hw0]
    exact (heap_alloc_old _ _ _ (by simp)).trans (heap_alloc_at w _ _ rfl)
  have hrB0 : w0.heap[w.heap.size + 1]? = some (.cells #[.bool nb, .slice (some ⟨gb, 0, none⟩) Lb cb, .int .i64 pb, .int .i64 eb] 47 (0, 0)) := by
    rw [hw0]
    exact heap_alloc_at _ _ _ (by simp)
  have hra : ∀ v, Below w0.heap.size w0 v → v.heap[w.heap.size]? = some (.cells #[.bool na, .slice (some ⟨ga, 0, none⟩) La ca, .int .i64 pa, .int .i64 ea] 47 (0, 0)) := fun v hv => (hv.block _ (lt_of_block hrA0)).trans hrA0
  have hrb : ∀ v, Below w0.heap.size w0 v → v.heap[w.heap.size + 1]? = some (.cells #[.bool nb, .slice (some ⟨gb, 0, none⟩) Lb cb, .int .i64 pb, .int .i64 eb] 47 (0, 0)) := fun v hv => (hv.block _ (lt_of_block hrB0)).trans hrB0
  have hda : ∀ v, Below w0.heap.size w0 v → Dg v ga fa La := fun v hv => hDa.below (bel_then hb0 hv) hga
  have hdb : ∀ v, Below w0.heap.size w0 v → Dg v gb fb Lb := fun v hv => hDb.below (bel_then hb0 hv) hgb
  have hS : ∀ v, Below w0.heap.size w0 v → ∀ X z, Two (.agg #[.bool na, .slice (some ⟨ga, 0, none⟩) La ca, .int .i64 pa, .int .i64 ea]) (.agg #[.bool nb, .slice (some ⟨gb, 0, none⟩) Lb cb, .int .i64 pb, .int .i64 eb]) x y X z →
      Calls Tryd.prog 44 #[X] v fun e w' => e = .returned (.int .i64 z) ∧ Below v.heap.size v w' := by
    intro v hv X z h
    rcases h with ⟨rfl, rfl⟩ | ⟨rfl, rfl⟩
    · exact hsa v (hda v hv)
    · exact hsb v (hdb v hv)
  have HS := hidden hS
  have HROWA := hidden hra
  have HROWB := hidden hrb
  have HB00 := hidden hb0
  have HB0 := hidden (Below.refl w0.heap.size w0)
  clear hsa hsb ex ey hx hy hza hzb hDa hDb hZa hZb hr hc hS hra hrb hrA0 hrB0 hb0
  by_cases hxy : x < y
  · have hr := s1 hxy
    subst hr
    clear s1 s2 s3 hta2 htb2 hlo hlo2 hat hat2 hrow hla hlb ha9 hb9 hda hdb
    go_enter Tryd.func32, Tryd.ntmps32
    go_wp2_with fail
    rw [← hw0]
    clear hw0
    refine wp_region_quiet_below (by kernel_rfl) (by kernel_rfl) ?_
    repeat (first
      | (refine wpQuiet_step (fun K hK => ?_); rw [if_pos (by rfl)]; refine quiet_load_row 47 _ rfl w.heap.size rfl 47 #[.bool na, .slice (some ⟨ga, 0, none⟩) La ca, .int .i64 pa, .int .i64 ea] (0, 0) _ (fun w' hw' => by obtain ⟨p, rfl⟩ := hw'; exact HROWA.out _ (bel_then HB0.out (below_regrown _ _ _))) Tryd.underlying47 rfl sizeNum2 (hK _ ?_); clear hK K; go_simp)
      | (refine wpQuiet_step (fun K hK => ?_); rw [if_pos (by rfl)]; refine quiet_load_row 47 _ rfl (w.heap.size + 1) rfl 47 #[.bool nb, .slice (some ⟨gb, 0, none⟩) Lb cb, .int .i64 pb, .int .i64 eb] (0, 0) _ (fun w' hw' => by obtain ⟨p, rfl⟩ := hw'; exact HROWB.out _ (bel_then HB0.out (below_regrown _ _ _))) Tryd.underlying47 rfl sizeNum2 (hK _ ?_); clear hK K; go_simp)
      | (go_big_quiet_step (first
        | (go_at_call 44; exact Calls.regrown_of (HS.out _ (bel_then HB0.out (below_regrown _ _ _)) _ _ (by first | exact Two.a | exact Two.b))))))
    refine wpQuiet_nil ?_
    intro pqw1
    have HB1 := hidden (bel_then HB0.out (below_regrown _ pqw1.d pqw1.os))
    generalize grow (redrawn _ pqw1.d) pqw1.os = w1 at HB1 ⊢
    go_wp2_with fail
    go_ret
    exact ⟨rfl, bel_then HB00.out HB1.out⟩
  · by_cases hyx : y < x
    · have hr := s2 hyx
      subst hr
      clear s1 s2 s3 hta2 htb2 hlo hlo2 hat hat2 hrow hla hlb ha9 hb9 hda hdb
      go_enter Tryd.func32, Tryd.ntmps32
      go_wp2_with fail
      rw [← hw0]
      clear hw0
      refine wp_region_quiet_below (by kernel_rfl) (by kernel_rfl) ?_
      repeat (first
        | (refine wpQuiet_step (fun K hK => ?_); rw [if_pos (by rfl)]; refine quiet_load_row 47 _ rfl w.heap.size rfl 47 #[.bool na, .slice (some ⟨ga, 0, none⟩) La ca, .int .i64 pa, .int .i64 ea] (0, 0) _ (fun w' hw' => by obtain ⟨p, rfl⟩ := hw'; exact HROWA.out _ (bel_then HB0.out (below_regrown _ _ _))) Tryd.underlying47 rfl sizeNum2 (hK _ ?_); clear hK K; go_simp)
        | (refine wpQuiet_step (fun K hK => ?_); rw [if_pos (by rfl)]; refine quiet_load_row 47 _ rfl (w.heap.size + 1) rfl 47 #[.bool nb, .slice (some ⟨gb, 0, none⟩) Lb cb, .int .i64 pb, .int .i64 eb] (0, 0) _ (fun w' hw' => by obtain ⟨p, rfl⟩ := hw'; exact HROWB.out _ (bel_then HB0.out (below_regrown _ _ _))) Tryd.underlying47 rfl sizeNum2 (hK _ ?_); clear hK K; go_simp)
        | (go_big_quiet_step (first
          | (go_at_call 44; exact Calls.regrown_of (HS.out _ (bel_then HB0.out (below_regrown _ _ _)) _ _ (by first | exact Two.a | exact Two.b))))))
      refine wpQuiet_nil ?_
      intro pqw1
      have HB1 := hidden (bel_then HB0.out (below_regrown _ pqw1.d pqw1.os))
      generalize grow (redrawn _ pqw1.d) pqw1.os = w1 at HB1 ⊢
      go_wp2_with fail
      go_ret
      exact ⟨rfl, bel_then HB00.out HB1.out⟩
    · obtain rfl : x = y := by omega
      have hr := s3 rfl
      clear s1 s2 s3 hxy hyx
      by_cases hx0 : x = 0
      · subst hx0
        rw [Int.zero_mul] at hr
        subst hr
        clear hta2 htb2 hlo hlo2 hat hat2 hrow hla hlb ha9 hb9 hda hdb
        go_enter Tryd.func32, Tryd.ntmps32
        go_wp2_with fail
        rw [← hw0]
        clear hw0
        refine wp_region_quiet_below (by kernel_rfl) (by kernel_rfl) ?_
        repeat (first
          | (refine wpQuiet_step (fun K hK => ?_); rw [if_pos (by rfl)]; refine quiet_load_row 47 _ rfl w.heap.size rfl 47 #[.bool na, .slice (some ⟨ga, 0, none⟩) La ca, .int .i64 pa, .int .i64 ea] (0, 0) _ (fun w' hw' => by obtain ⟨p, rfl⟩ := hw'; exact HROWA.out _ (bel_then HB0.out (below_regrown _ _ _))) Tryd.underlying47 rfl sizeNum2 (hK _ ?_); clear hK K; go_simp)
          | (refine wpQuiet_step (fun K hK => ?_); rw [if_pos (by rfl)]; refine quiet_load_row 47 _ rfl (w.heap.size + 1) rfl 47 #[.bool nb, .slice (some ⟨gb, 0, none⟩) Lb cb, .int .i64 pb, .int .i64 eb] (0, 0) _ (fun w' hw' => by obtain ⟨p, rfl⟩ := hw'; exact HROWB.out _ (bel_then HB0.out (below_regrown _ _ _))) Tryd.underlying47 rfl sizeNum2 (hK _ ?_); clear hK K; go_simp)
          | (go_big_quiet_step (first
            | (go_at_call 44; exact Calls.regrown_of (HS.out _ (bel_then HB0.out (below_regrown _ _ _)) _ _ (by first | exact Two.a | exact Two.b))))))
        refine wpQuiet_nil ?_
        intro pqw1
        have HB1 := hidden (bel_then HB0.out (below_regrown _ pqw1.d pqw1.os))
        generalize grow (redrawn _ pqw1.d) pqw1.os = w1 at HB1 ⊢
        go_wp2_with fail
        go_ret
        exact ⟨rfl, bel_then HB00.out HB1.out⟩
      · have hxb : (x == 0) = false := by rw [beq_eq_false_iff_ne]; exact hx0
        have hneg : IntKind.i64.wrap (-x) = -x := by rw [IntKind.wrap_i64]; omega
        obtain ⟨ia, la, hEa⟩ := tips_of hla (hxz hx0)
        obtain ⟨ib, lb, hEb⟩ := tips_of hlb (hyz hx0)
        have hTA := fun v hv => hta2 v ia la hEa hv
        have hTB := fun v hv => htb2 v ib lb hEb hv
        have hLA := fun v hv => hlo v ia la hEa hv
        have hLB := fun v hv => hlo2 v ib lb hEb hv
        have hR := hrow ia la ib lb hEa hEb
        have fta := fun k hk => fl_top (P := pa + ea - 1) hEa k hk
        have ftb := fun k hk => fl_top (P := pb + eb - 1) hEb k hk
        have fpa := fl_pos (P := pa + ea - 1) hEa
        have fpb := fl_pos (P := pb + eb - 1) hEb
        have sta := fl_step fa (pa + ea - 1)
        have stb := fl_step fb (pb + eb - 1)
        have hial : ia ≤ la := Nat.le_of_not_lt fun h => hEa.ne (hEa.past ia h)
        have hibl : ib ≤ lb := Nat.le_of_not_lt fun h => hEb.ne (hEb.past ib h)
        have hlaL := hEa.lt2
        have hlbL := hEb.lt2
        clear hta2 htb2 hlo hlo2 hrow hxz hyz hEa hEb hla hlb ha9 hb9
        generalize fl fa (pa + ea - 1) = F at fta fpa sta hR
        generalize fl fb (pb + eb - 1) = G at ftb fpb stb hR
        generalize dt fa (pa + ea - 1) = dA at hat sta
        generalize dt fb (pb + eb - 1) = dB at hat2 stb
        obtain ⟨TA, eTA⟩ : ∃ T, T = pa + ea - 1 - (ia : Int) := ⟨_, rfl⟩
        obtain ⟨TB, eTB⟩ : ∃ T, T = pb + eb - 1 - (ib : Int) := ⟨_, rfl⟩
        obtain ⟨lA, eLA⟩ : ∃ T, T = pa + ea - 1 - (la : Int) := ⟨_, rfl⟩
        obtain ⟨lB, eLB⟩ : ∃ T, T = pb + eb - 1 - (lb : Int) := ⟨_, rfl⟩
        simp only [← eTA] at hTA fta fpa
        simp only [← eTB] at hTB ftb fpb
        simp only [← eLA] at hLA hR
        simp only [← eLB] at hLB hR
        have bTA : -50000000000000 ≤ TA ∧ TA ≤ 50000000000000 := by omega
        have bTB : -50000000000000 ≤ TB ∧ TB ≤ 50000000000000 := by omega
        have bLA : -50000000000000 ≤ lA ∧ lA ≤ TA := by omega
        have bLB : -50000000000000 ≤ lB ∧ lB ≤ TB := by omega
        have hrl : c = -1 → r = -x := fun h => by rw [hr, h]; omega
        have hrg : c = 1 → r = x := fun h => by rw [hr, h]; omega
        have hre : c = 0 → r = 0 := fun h => by rw [hr, h]; omega
        have hT : ∀ v, Below w0.heap.size w0 v → ∀ X z, Two (.agg #[.bool na, .slice (some ⟨ga, 0, none⟩) La ca, .int .i64 pa, .int .i64 ea]) (.agg #[.bool nb, .slice (some ⟨gb, 0, none⟩) Lb cb, .int .i64 pb, .int .i64 eb]) TA TB X z →
            Calls Tryd.prog 27 #[X] v fun e w' => e = .returned (.int .i64 z) ∧ Below v.heap.size v w' := by
          intro v hv X z h
          rcases h with ⟨rfl, rfl⟩ | ⟨rfl, rfl⟩
          · exact hTA v (hda v hv)
          · exact hTB v (hdb v hv)
        have hL : ∀ v, Below w0.heap.size w0 v → ∀ X z, Two (.agg #[.bool na, .slice (some ⟨ga, 0, none⟩) La ca, .int .i64 pa, .int .i64 ea]) (.agg #[.bool nb, .slice (some ⟨gb, 0, none⟩) Lb cb, .int .i64 pb, .int .i64 eb]) lA lB X z →
            Calls Tryd.prog 26 #[X] v fun e w' => e = .returned (.int .i64 z) ∧ Below v.heap.size v w' := by
          intro v hv X z h
          rcases h with ⟨rfl, rfl⟩ | ⟨rfl, rfl⟩
          · exact hLA v (hda v hv)
          · exact hLB v (hdb v hv)
        have hA0 : ∀ k, -100000000000000 ≤ k ∧ k ≤ 100000000000000 → ∀ v, Below w0.heap.size w0 v → ∀ X z, Two (.agg #[.bool na, .slice (some ⟨ga, 0, none⟩) La ca, .int .i64 pa, .int .i64 ea]) (.agg #[.bool nb, .slice (some ⟨gb, 0, none⟩) Lb cb, .int .i64 pb, .int .i64 eb]) (dA k : Nat) (dB k : Nat) X z →
            Calls Tryd.prog 28 #[X, .int .i64 k] v fun e w' => e = .returned (.int .i64 z) ∧ Below v.heap.size v w' := by
          intro k hk v hv X z h
          rcases h with ⟨rfl, rfl⟩ | ⟨rfl, rfl⟩
          · exact hat v k hk (hda v hv)
          · exact hat2 v k hk (hdb v hv)
        clear hr eTA eTB eLA eLB hpa hea hpb heb hta htb hial hibl hlaL hlbL hLa hLb hda hdb hat hat2
        have HT := hidden hT
        have HL := hidden hL
        have HA0 := hidden hA0
        have HR := hidden hR
        have FTA := hidden fta
        have FTB := hidden ftb
        have FPA := hidden fpa
        have FPB := hidden fpb
        have STA := hidden sta
        have STB := hidden stb
        have HRL := hidden hrl
        have HRG := hidden hrg
        have HRE := hidden hre
        clear hTA hTB hLA hLB hT hL hA0 hR fta ftb fpa fpb sta stb hrl hrg hre
        obtain ⟨t1, t2⟩ := bTA
        obtain ⟨t3, t4⟩ := bTB
        obtain ⟨t5, t6⟩ := bLA
        obtain ⟨t7, t8⟩ := bLB
        go_enter Tryd.func32, Tryd.ntmps32
        go_wp2_with fail
        rw [← hw0]
        clear hw0
        refine wp_region_quiet_below (by kernel_rfl) (by kernel_rfl) ?_
        repeat (first
          | (refine wpQuiet_step (fun K hK => ?_); rw [if_pos (by rfl)]; refine quiet_load_row 47 _ rfl w.heap.size rfl 47 #[.bool na, .slice (some ⟨ga, 0, none⟩) La ca, .int .i64 pa, .int .i64 ea] (0, 0) _ (fun w' hw' => by obtain ⟨p, rfl⟩ := hw'; exact HROWA.out _ (bel_then HB0.out (below_regrown _ _ _))) Tryd.underlying47 rfl sizeNum2 (hK _ ?_); clear hK K; go_simp)
          | (refine wpQuiet_step (fun K hK => ?_); rw [if_pos (by rfl)]; refine quiet_load_row 47 _ rfl (w.heap.size + 1) rfl 47 #[.bool nb, .slice (some ⟨gb, 0, none⟩) Lb cb, .int .i64 pb, .int .i64 eb] (0, 0) _ (fun w' hw' => by obtain ⟨p, rfl⟩ := hw'; exact HROWB.out _ (bel_then HB0.out (below_regrown _ _ _))) Tryd.underlying47 rfl sizeNum2 (hK _ ?_); clear hK K; go_simp)
          | (go_big_quiet_step (first
            | (go_at_call 44; exact Calls.regrown_of (HS.out _ (bel_then HB0.out (below_regrown _ _ _)) _ _ (by first | exact Two.a | exact Two.b))))))
        refine wpQuiet_nil ?_
        intro pqw1
        have HB1 := hidden (bel_then HB0.out (below_regrown _ pqw1.d pqw1.os))
        generalize grow (redrawn _ pqw1.d) pqw1.os = w1 at HB1 ⊢
        go_wp2_with fail
        by_cases hTT : TA = TB
        · subst hTT
          have hTq : (TA != TA) = false := by simp
          refine wp_region_quiet_below (by kernel_rfl) (by kernel_rfl) ?_
          repeat (first
            | (refine wpQuiet_step (fun K hK => ?_); rw [if_pos (by rfl)]; refine quiet_load_row 47 _ rfl w.heap.size rfl 47 #[.bool na, .slice (some ⟨ga, 0, none⟩) La ca, .int .i64 pa, .int .i64 ea] (0, 0) _ (fun w' hw' => by obtain ⟨p, rfl⟩ := hw'; exact HROWA.out _ (bel_then HB1.out (below_regrown _ _ _))) Tryd.underlying47 rfl sizeNum2 (hK _ ?_); clear hK K; go_simp)
            | (refine wpQuiet_step (fun K hK => ?_); rw [if_pos (by rfl)]; refine quiet_load_row 47 _ rfl (w.heap.size + 1) rfl 47 #[.bool nb, .slice (some ⟨gb, 0, none⟩) Lb cb, .int .i64 pb, .int .i64 eb] (0, 0) _ (fun w' hw' => by obtain ⟨p, rfl⟩ := hw'; exact HROWB.out _ (bel_then HB1.out (below_regrown _ _ _))) Tryd.underlying47 rfl sizeNum2 (hK _ ?_); clear hK K; go_simp)
            | (go_big_quiet_step (first
              | (go_at_call 27; exact Calls.regrown_of (HT.out _ (bel_then HB1.out (below_regrown _ _ _)) _ _ (by first | exact Two.a | exact Two.b))))))
          refine wpQuiet_nil ?_
          intro pqw2
          have HB2 := hidden (bel_then HB1.out (below_regrown _ pqw2.d pqw2.os))
          generalize grow (redrawn _ pqw2.d) pqw2.os = w2 at HB2 ⊢
          have cA0 := Lib.cell_of_heap (HROWA.out _ HB2.out) 0
          have cA1 := Lib.cell_of_heap (HROWA.out _ HB2.out) 1
          have cA2 := Lib.cell_of_heap (HROWA.out _ HB2.out) 2
          have cA3 := Lib.cell_of_heap (HROWA.out _ HB2.out) 3
          simp only [List.getElem?_toArray, List.getElem?_cons_zero, List.getElem?_cons_succ] at cA0 cA1 cA2 cA3
          go_wp2_with fail
          refine (HT.out _ HB2.out _ _ (by first | exact Two.a | exact Two.b)).mono ?_
          rintro e w3 ⟨rfl, hHB3⟩
          have HB3 := hidden (bel_then HB2.out hHB3)
          clear hHB3 cA0 cA1 cA2 cA3
          go_wp2_with fail
          go_loopw [7] (fun v wr => ∃ k : Int, k ≤ TA ∧ min lA lB ≤ k + 1 ∧ F (k + 1) = G (k + 1) ∧ Hid (Below w0.heap.size w0 wr) ∧ v = .int .i64 k) (fun v _ => (intOf v - min lA lB + 1).toNat)
          case atStart => exact ⟨TA, by omega, by omega, by rw [FTA.out _ (by omega), FTB.out _ (by omega)], HB3, rfl⟩
          case round =>
            obtain ⟨k, hk, hk2, hFG, HB, rfl⟩ := hrel
            have HFG := hidden hFG
            clear hFG
            have hlo1 : min lA lB ≤ lA := by omega
            by_cases hkm : min lA lB ≤ k
            · have HA := hidden (HA0.out k (by omega))
              have hs1 := STA.out k
              have hs2 := STB.out k
              rw [HFG.out] at hs1
              obtain ⟨a, ha⟩ : ∃ a, a = dA k := ⟨_, rfl⟩
              obtain ⟨b, hb⟩ : ∃ b, b = dB k := ⟨_, rfl⟩
              rw [← ha] at hs1
              rw [← hb] at hs2
              rw [← ha, ← hb] at HA
              have HS1 := hidden hs1
              have HS2 := hidden hs2
              clear hs1 hs2 ha hb
              go_wp2_with fail
              refine wp_region_quiet_below (by kernel_rfl) (by kernel_rfl) ?_
              repeat (first
                | (refine wpQuiet_step (fun K hK => ?_); rw [if_pos (by rfl)]; refine quiet_load_row 47 _ rfl w.heap.size rfl 47 #[.bool na, .slice (some ⟨ga, 0, none⟩) La ca, .int .i64 pa, .int .i64 ea] (0, 0) _ (fun w' hw' => by obtain ⟨p, rfl⟩ := hw'; exact HROWA.out _ (bel_then HB.out (below_regrown _ _ _))) Tryd.underlying47 rfl sizeNum2 (hK _ ?_); clear hK K; go_simp)
                | (refine wpQuiet_step (fun K hK => ?_); rw [if_pos (by rfl)]; refine quiet_load_row 47 _ rfl (w.heap.size + 1) rfl 47 #[.bool nb, .slice (some ⟨gb, 0, none⟩) Lb cb, .int .i64 pb, .int .i64 eb] (0, 0) _ (fun w' hw' => by obtain ⟨p, rfl⟩ := hw'; exact HROWB.out _ (bel_then HB.out (below_regrown _ _ _))) Tryd.underlying47 rfl sizeNum2 (hK _ ?_); clear hK K; go_simp)
                | (go_big_quiet_step (first
                  | (go_at_call 26; exact Calls.regrown_of (HL.out _ (bel_then HB.out (below_regrown _ _ _)) _ _ (by first | exact Two.a | exact Two.b))))))
              refine wpQuiet_nil ?_
              intro pqw4
              have HB4 := hidden (bel_then HB.out (below_regrown _ pqw4.d pqw4.os))
              generalize grow (redrawn _ pqw4.d) pqw4.os = w4 at HB4 ⊢
              go_wp2_with fail
              by_cases hab : a < b
              · have hrr := HRL.out (HR.out.lt k hkm (by have := HS1.out; have := HS2.out; omega))
                subst hrr
                refine wp_region_quiet_below (by kernel_rfl) (by kernel_rfl) ?_
                repeat (first
                  | (refine wpQuiet_step (fun K hK => ?_); rw [if_pos (by rfl)]; refine quiet_load_row 47 _ rfl w.heap.size rfl 47 #[.bool na, .slice (some ⟨ga, 0, none⟩) La ca, .int .i64 pa, .int .i64 ea] (0, 0) _ (fun w' hw' => by obtain ⟨p, rfl⟩ := hw'; exact HROWA.out _ (bel_then HB4.out (below_regrown _ _ _))) Tryd.underlying47 rfl sizeNum2 (hK _ ?_); clear hK K; go_simp)
                  | (refine wpQuiet_step (fun K hK => ?_); rw [if_pos (by rfl)]; refine quiet_load_row 47 _ rfl (w.heap.size + 1) rfl 47 #[.bool nb, .slice (some ⟨gb, 0, none⟩) Lb cb, .int .i64 pb, .int .i64 eb] (0, 0) _ (fun w' hw' => by obtain ⟨p, rfl⟩ := hw'; exact HROWB.out _ (bel_then HB4.out (below_regrown _ _ _))) Tryd.underlying47 rfl sizeNum2 (hK _ ?_); clear hK K; go_simp)
                  | (go_big_quiet_step (first
                    | (go_at_call 28; exact Calls.regrown_of (HA.out _ (bel_then HB4.out (below_regrown _ _ _)) _ _ (by first | exact Two.a | exact Two.b))))))
                refine wpQuiet_nil ?_
                intro pqw5
                have HB5 := hidden (bel_then HB4.out (below_regrown _ pqw5.d pqw5.os))
                generalize grow (redrawn _ pqw5.d) pqw5.os = w5 at HB5 ⊢
                go_wp2_with fail
                go_ret
                exact ⟨rfl, bel_then HB00.out HB5.out⟩
              · have hab2 : b ≤ a := by omega
                refine wp_region_quiet_below (by kernel_rfl) (by kernel_rfl) ?_
                repeat (first
                  | (refine wpQuiet_step (fun K hK => ?_); rw [if_pos (by rfl)]; refine quiet_load_row 47 _ rfl w.heap.size rfl 47 #[.bool na, .slice (some ⟨ga, 0, none⟩) La ca, .int .i64 pa, .int .i64 ea] (0, 0) _ (fun w' hw' => by obtain ⟨p, rfl⟩ := hw'; exact HROWA.out _ (bel_then HB4.out (below_regrown _ _ _))) Tryd.underlying47 rfl sizeNum2 (hK _ ?_); clear hK K; go_simp)
                  | (refine wpQuiet_step (fun K hK => ?_); rw [if_pos (by rfl)]; refine quiet_load_row 47 _ rfl (w.heap.size + 1) rfl 47 #[.bool nb, .slice (some ⟨gb, 0, none⟩) Lb cb, .int .i64 pb, .int .i64 eb] (0, 0) _ (fun w' hw' => by obtain ⟨p, rfl⟩ := hw'; exact HROWB.out _ (bel_then HB4.out (below_regrown _ _ _))) Tryd.underlying47 rfl sizeNum2 (hK _ ?_); clear hK K; go_simp)
                  | (go_big_quiet_step (first
                    | (go_at_call 28; exact Calls.regrown_of (HA.out _ (bel_then HB4.out (below_regrown _ _ _)) _ _ (by first | exact Two.a | exact Two.b))))))
                refine wpQuiet_nil ?_
                intro pqw5
                have HB5 := hidden (bel_then HB4.out (below_regrown _ pqw5.d pqw5.os))
                generalize grow (redrawn _ pqw5.d) pqw5.os = w5 at HB5 ⊢
                go_wp2_with fail
                by_cases hba : b < a
                · have hrr := HRG.out (HR.out.gt k hkm (by have := HS1.out; have := HS2.out; omega))
                  subst hrr
                  refine wp_region_quiet_below (by kernel_rfl) (by kernel_rfl) ?_
                  repeat (first
                    | (refine wpQuiet_step (fun K hK => ?_); rw [if_pos (by rfl)]; refine quiet_load_row 47 _ rfl w.heap.size rfl 47 #[.bool na, .slice (some ⟨ga, 0, none⟩) La ca, .int .i64 pa, .int .i64 ea] (0, 0) _ (fun w' hw' => by obtain ⟨p, rfl⟩ := hw'; exact HROWA.out _ (bel_then HB5.out (below_regrown _ _ _))) Tryd.underlying47 rfl sizeNum2 (hK _ ?_); clear hK K; go_simp)
                    | (refine wpQuiet_step (fun K hK => ?_); rw [if_pos (by rfl)]; refine quiet_load_row 47 _ rfl (w.heap.size + 1) rfl 47 #[.bool nb, .slice (some ⟨gb, 0, none⟩) Lb cb, .int .i64 pb, .int .i64 eb] (0, 0) _ (fun w' hw' => by obtain ⟨p, rfl⟩ := hw'; exact HROWB.out _ (bel_then HB5.out (below_regrown _ _ _))) Tryd.underlying47 rfl sizeNum2 (hK _ ?_); clear hK K; go_simp)
                    | (go_big_quiet_step (first
                      | (go_at_call 28; exact Calls.regrown_of (HA.out _ (bel_then HB5.out (below_regrown _ _ _)) _ _ (by first | exact Two.a | exact Two.b))))))
                  refine wpQuiet_nil ?_
                  intro pqw6
                  have HB6 := hidden (bel_then HB5.out (below_regrown _ pqw6.d pqw6.os))
                  generalize grow (redrawn _ pqw6.d) pqw6.os = w6 at HB6 ⊢
                  go_wp2_with fail
                  go_ret
                  exact ⟨rfl, bel_then HB00.out HB6.out⟩
                · obtain rfl : a = b := by omega
                  have hw : IntKind.i64.wrap (k - 1) = k - 1 := by rw [IntKind.wrap_i64]; omega
                  have HN : Hid (F k = G k) := hidden (by have := HS1.out; have := HS2.out; omega)
                  refine wp_region_quiet_below (by kernel_rfl) (by kernel_rfl) ?_
                  repeat (first
                    | (refine wpQuiet_step (fun K hK => ?_); rw [if_pos (by rfl)]; refine quiet_load_row 47 _ rfl w.heap.size rfl 47 #[.bool na, .slice (some ⟨ga, 0, none⟩) La ca, .int .i64 pa, .int .i64 ea] (0, 0) _ (fun w' hw' => by obtain ⟨p, rfl⟩ := hw'; exact HROWA.out _ (bel_then HB5.out (below_regrown _ _ _))) Tryd.underlying47 rfl sizeNum2 (hK _ ?_); clear hK K; go_simp)
                    | (refine wpQuiet_step (fun K hK => ?_); rw [if_pos (by rfl)]; refine quiet_load_row 47 _ rfl (w.heap.size + 1) rfl 47 #[.bool nb, .slice (some ⟨gb, 0, none⟩) Lb cb, .int .i64 pb, .int .i64 eb] (0, 0) _ (fun w' hw' => by obtain ⟨p, rfl⟩ := hw'; exact HROWB.out _ (bel_then HB5.out (below_regrown _ _ _))) Tryd.underlying47 rfl sizeNum2 (hK _ ?_); clear hK K; go_simp)
                    | (go_big_quiet_step (first
                      | (go_at_call 28; exact Calls.regrown_of (HA.out _ (bel_then HB5.out (below_regrown _ _ _)) _ _ (by first | exact Two.a | exact Two.b))))))
                  refine wpQuiet_nil ?_
                  intro pqw6
                  have HB6 := hidden (bel_then HB5.out (below_regrown _ pqw6.d pqw6.os))
                  generalize grow (redrawn _ pqw6.d) pqw6.os = w6 at HB6 ⊢
                  go_wp2_with fail
                  go_roundw
                  case rel => exact ⟨k - 1, by omega, by omega, by rw [Int.sub_add_cancel]; exact HN.out, HB6, rfl⟩
                  case measure => simp [intOf]; omega
            · have hkm2 : k < min lA lB := by omega
              have hk3 : k + 1 = min lA lB := by omega
              have hrr := HRE.out (HR.out.eq (by rw [← hk3]; exact HFG.out))
              subst hrr
              clear hkm hk3
              go_wp2_with fail
              refine wp_region_quiet_below (by kernel_rfl) (by kernel_rfl) ?_
              repeat (first
                | (refine wpQuiet_step (fun K hK => ?_); rw [if_pos (by rfl)]; refine quiet_load_row 47 _ rfl w.heap.size rfl 47 #[.bool na, .slice (some ⟨ga, 0, none⟩) La ca, .int .i64 pa, .int .i64 ea] (0, 0) _ (fun w' hw' => by obtain ⟨p, rfl⟩ := hw'; exact HROWA.out _ (bel_then HB.out (below_regrown _ _ _))) Tryd.underlying47 rfl sizeNum2 (hK _ ?_); clear hK K; go_simp)
                | (refine wpQuiet_step (fun K hK => ?_); rw [if_pos (by rfl)]; refine quiet_load_row 47 _ rfl (w.heap.size + 1) rfl 47 #[.bool nb, .slice (some ⟨gb, 0, none⟩) Lb cb, .int .i64 pb, .int .i64 eb] (0, 0) _ (fun w' hw' => by obtain ⟨p, rfl⟩ := hw'; exact HROWB.out _ (bel_then HB.out (below_regrown _ _ _))) Tryd.underlying47 rfl sizeNum2 (hK _ ?_); clear hK K; go_simp)
                | (go_big_quiet_step (first
                  | (go_at_call 26; exact Calls.regrown_of (HL.out _ (bel_then HB.out (below_regrown _ _ _)) _ _ (by first | exact Two.a | exact Two.b))))))
              refine wpQuiet_nil ?_
              intro pqw4
              have HB4 := hidden (bel_then HB.out (below_regrown _ pqw4.d pqw4.os))
              generalize grow (redrawn _ pqw4.d) pqw4.os = w4 at HB4 ⊢
              go_wp2_with fail
              go_ret
              exact ⟨rfl, bel_then HB00.out HB4.out⟩
        · have hTb : (TA == TB) = false := by rw [beq_eq_false_iff_ne]; exact hTT
          have hTn : (TA != TB) = true := by rw [bne, hTb]; rfl
          refine wp_region_quiet_below (by kernel_rfl) (by kernel_rfl) ?_
          repeat (first
            | (refine wpQuiet_step (fun K hK => ?_); rw [if_pos (by rfl)]; refine quiet_load_row 47 _ rfl w.heap.size rfl 47 #[.bool na, .slice (some ⟨ga, 0, none⟩) La ca, .int .i64 pa, .int .i64 ea] (0, 0) _ (fun w' hw' => by obtain ⟨p, rfl⟩ := hw'; exact HROWA.out _ (bel_then HB1.out (below_regrown _ _ _))) Tryd.underlying47 rfl sizeNum2 (hK _ ?_); clear hK K; go_simp)
            | (refine wpQuiet_step (fun K hK => ?_); rw [if_pos (by rfl)]; refine quiet_load_row 47 _ rfl (w.heap.size + 1) rfl 47 #[.bool nb, .slice (some ⟨gb, 0, none⟩) Lb cb, .int .i64 pb, .int .i64 eb] (0, 0) _ (fun w' hw' => by obtain ⟨p, rfl⟩ := hw'; exact HROWB.out _ (bel_then HB1.out (below_regrown _ _ _))) Tryd.underlying47 rfl sizeNum2 (hK _ ?_); clear hK K; go_simp)
            | (go_big_quiet_step (first
              | (go_at_call 27; exact Calls.regrown_of (HT.out _ (bel_then HB1.out (below_regrown _ _ _)) _ _ (by first | exact Two.a | exact Two.b))))))
          refine wpQuiet_nil ?_
          intro pqw2
          have HB2 := hidden (bel_then HB1.out (below_regrown _ pqw2.d pqw2.os))
          generalize grow (redrawn _ pqw2.d) pqw2.os = w2 at HB2 ⊢
          go_wp2_with fail
          by_cases hlt : TA < TB
          · have hrr := HRL.out (HR.out.lt TB (by omega) (by rw [FTA.out _ hlt]; exact Nat.pos_of_ne_zero FPB.out))
            subst hrr
            refine wp_region_quiet_below (by kernel_rfl) (by kernel_rfl) ?_
            repeat (first
              | (refine wpQuiet_step (fun K hK => ?_); rw [if_pos (by rfl)]; refine quiet_load_row 47 _ rfl w.heap.size rfl 47 #[.bool na, .slice (some ⟨ga, 0, none⟩) La ca, .int .i64 pa, .int .i64 ea] (0, 0) _ (fun w' hw' => by obtain ⟨p, rfl⟩ := hw'; exact HROWA.out _ (bel_then HB2.out (below_regrown _ _ _))) Tryd.underlying47 rfl sizeNum2 (hK _ ?_); clear hK K; go_simp)
              | (refine wpQuiet_step (fun K hK => ?_); rw [if_pos (by rfl)]; refine quiet_load_row 47 _ rfl (w.heap.size + 1) rfl 47 #[.bool nb, .slice (some ⟨gb, 0, none⟩) Lb cb, .int .i64 pb, .int .i64 eb] (0, 0) _ (fun w' hw' => by obtain ⟨p, rfl⟩ := hw'; exact HROWB.out _ (bel_then HB2.out (below_regrown _ _ _))) Tryd.underlying47 rfl sizeNum2 (hK _ ?_); clear hK K; go_simp)
              | (go_big_quiet_step (first
                | (go_at_call 27; exact Calls.regrown_of (HT.out _ (bel_then HB2.out (below_regrown _ _ _)) _ _ (by first | exact Two.a | exact Two.b))))))
            refine wpQuiet_nil ?_
            intro pqw3
            have HB3 := hidden (bel_then HB2.out (below_regrown _ pqw3.d pqw3.os))
            generalize grow (redrawn _ pqw3.d) pqw3.os = w3 at HB3 ⊢
            go_wp2_with fail
            go_ret
            exact ⟨rfl, bel_then HB00.out HB3.out⟩
          · have hrr := HRG.out (HR.out.gt TA (by omega) (by rw [FTB.out _ (by omega)]; exact Nat.pos_of_ne_zero FPA.out))
            have hlt2 : TB ≤ TA := by omega
            subst hrr
            refine wp_region_quiet_below (by kernel_rfl) (by kernel_rfl) ?_
            repeat (first
              | (refine wpQuiet_step (fun K hK => ?_); rw [if_pos (by rfl)]; refine quiet_load_row 47 _ rfl w.heap.size rfl 47 #[.bool na, .slice (some ⟨ga, 0, none⟩) La ca, .int .i64 pa, .int .i64 ea] (0, 0) _ (fun w' hw' => by obtain ⟨p, rfl⟩ := hw'; exact HROWA.out _ (bel_then HB2.out (below_regrown _ _ _))) Tryd.underlying47 rfl sizeNum2 (hK _ ?_); clear hK K; go_simp)
              | (refine wpQuiet_step (fun K hK => ?_); rw [if_pos (by rfl)]; refine quiet_load_row 47 _ rfl (w.heap.size + 1) rfl 47 #[.bool nb, .slice (some ⟨gb, 0, none⟩) Lb cb, .int .i64 pb, .int .i64 eb] (0, 0) _ (fun w' hw' => by obtain ⟨p, rfl⟩ := hw'; exact HROWB.out _ (bel_then HB2.out (below_regrown _ _ _))) Tryd.underlying47 rfl sizeNum2 (hK _ ?_); clear hK K; go_simp)
              | (go_big_quiet_step (first
                | (go_at_call 27; exact Calls.regrown_of (HT.out _ (bel_then HB2.out (below_regrown _ _ _)) _ _ (by first | exact Two.a | exact Two.b))))))
            refine wpQuiet_nil ?_
            intro pqw3
            have HB3 := hidden (bel_then HB2.out (below_regrown _ pqw3.d pqw3.os))
            generalize grow (redrawn _ pqw3.d) pqw3.os = w3 at HB3 ⊢
            go_wp2_with fail
            go_ret
            exact ⟨rfl, bel_then HB00.out HB3.out⟩
end Go.Proofs.YthimbaflodphmaaDoor
