/-
  The contracts of the reference's Put and All of layer 2: for every list of bits and every Put: the list with the bits behind it, in new memory, or the list as it is with ErrArg; nothing that was there is changed.
-/
import Derived.Test.YtjhimeedkejnlaaBtGet
import Derived.Test.YtjhimeedkejnlaaWdRef
import Derived.Test.YtjhimeedkejnlaaLaws
import Derived.BigQuiet
import Derived.Deep.QuietTactic
namespace Go.Proofs.Ytjhimeedkejnlaa
open Go.RowKit
theorem Try.infoBool : (Try.prog.info? 4).map (fun i => (i.zero, i.size, i.bytes)) = some (some (.bool false), 1, 1) := by kernel_rfl
theorem hidden {p : Prop} (h : p) : Hid p := h
theorem rBit_tb (x i : Nat) (w : World) (hx : x < 18446744073709551616) (hi : i < 64) :
    Calls Try.prog 36 #[.int .u64 x, .int .i64 (i : Nat)] w fun e w' => e = .returned (.bool (x.testBit i)) ∧ w' = w := by
  rw [← Bt.bt_beq]
  exact rBit_in x i w hx hi
theorem Bl.next {B : Nat} {w' : World} {v : Value} {L : List Bool} {x k : Nat} (h : w'.ownsRow B 4 1 v (L.length + k + 1) (Bt.bls (L ++ Bt.bitsTo x k) ++ [.bool (x.testBit k)])) : w'.ownsRow B 4 1 v (L.length + (k + 1)) (Bt.bls (L ++ Bt.bitsTo x (k + 1))) := by
  rw [Bt.bitsTo_succ, ← List.append_assoc, Bt.bls_append]
  exact h
theorem Bl.of_own {B : Nat} {w : World} {v : Value} {L : List Bool} {x k : Nat} (h : w.ownsRow B 4 1 v (L.length + k) (Bt.bls (L ++ Bt.bitsTo x k))) : Bl w v (L ++ Bt.bitsTo x k) := by
  have h2 := own_base h (Nat.zero_le B)
  rw [show L.length + k = (L ++ Bt.bitsTo x k).length from by rw [List.length_append, Bt.bitsTo_length]] at h2
  exact h2
set_option maxHeartbeats 1000000 in
theorem rPut_ok (L : List Bool) (v : Value) (x N : Nat) (w : World) (hl : Bl w v L) (hL : L.length ≤ 4294967296) (hx : x < 2 ^ N) (hN : N ≤ 64) :
    Calls Try.prog 22 #[v, .agg #[.int .u64 x, .int .i64 (N : Nat)]] w fun e w' => ∃ v', e = .returned (.tuple #[v', .int .i64 0]) ∧ Bl w' v' (L ++ Bt.bitsTo x N) ∧ Below w.heap.size w w' := by
  obtain ⟨i0, hi, hz0, hz1, hz2⟩ := info_parts Try.infoBool
  have hx64 := lt_pow64 hx hN
  have hneed : Wd.needTo x 64 ≤ N := (Bt.need_le x N hx64).2 hx
  have d1 : decide ((N : Int) < 0) = false := by simp
  have d2 : decide ((64 : Int) < (N : Int)) = false := by simp; omega
  have d3 : decide ((N : Int) < ((Wd.needTo x 64 : Nat) : Int)) = false := by simp; omega
  have HL : Hid (Bl w v L) := hl
  clear hl
  go_enter Try.func22, Try.ntmps22
  go_wp2
  go_quiet ((go_at_call 35; exact Calls.quiet_of_same (rNeed_any _ _ hx64)))
  generalize hW : World.drewN _ nq = W0
  have hb0 : Hid (Below w.heap.size w W0) := by rw [← hW]; exact drewN_below ((Below.refl _ _).alloc (Nat.le_refl _) _) _
  have hs0 : W0.heap.size = w.heap.size + 1 := by rw [← hW]; simp
  have hs1 : W0.heap.size ≤ w.heap.size + 1 := by omega
  have hs2 : w.heap.size + 1 ≤ W0.heap.size := by omega
  have c0 : W0.cell? ⟨w.heap.size, 0, none⟩ = some (.int .u64 x) := by rw [← hW]; simp
  have c1 : W0.cell? ⟨w.heap.size, 1, none⟩ = some (.int .i64 (N : Nat)) := by rw [← hW]; simp
  clear hW
  have hl0 : Hid (Bl W0 v L) := HL.out.below hb0.out (Nat.le_refl _)
  have HS0 : Hid (W0.heap.size = w.heap.size + 1) := hs0
  clear hs0
  go_wp2_with (at_builtin; refine wpList_append_rows _ rfl (.tmp 25) (.tmp 26) 24 rfl (w.heap.size + 1) 4 i0 (.bool false) 1 Try.underlying24 hi hz0 hz1 hz2 rfl (.slice (some ⟨W0.heap.size, 0, none⟩) 0 0) 0 [] rfl (by exact World.ownsRow_lit W0 #[] 0 (by omega) (by unfold maxLen; omega) rfl) v L.length (Bt.bls L) rfl (by exact World.ownsRow.alloc hl0.out _) (Bt.bls_one L) (by unfold maxLen; omega) (by omega) (by simp; omega) ?_; intro v' w1 hown1 hgrow1; have HO1 := hidden hown1; have HG1 := hidden hgrow1; clear hown1 hgrow1)
  have HO : Hid (w1.ownsRow (w.heap.size + 1) 4 1 v' (L.length + 0) (Bt.bls (L ++ Bt.bitsTo x 0))) := by
    have hown1 := HO1.out
    rw [Nat.zero_add, List.nil_append] at hown1
    rw [show Bt.bitsTo x 0 = [] from rfl, List.append_nil]
    exact hown1
  have HG : Hid (Below (w.heap.size + 1) W0 w1) := ((Below.refl _ _).alloc (by omega) _).grown HG1.out (by simp; omega) (by intro k hk; simp [Value.ownBlock] at hk; omega)
  clear HO1 HG1
  go_loopw [6, 7] (fun u i wr => ∃ k : Nat, k ≤ N ∧ i = .int .i64 k ∧ wr.ownsRow (w.heap.size + 1) 4 1 u (L.length + k) (Bt.bls (L ++ Bt.bitsTo x k)) ∧ Below (w.heap.size + 1) W0 wr) (fun _ i _ => N - (intOf i).toNat)
  case atStart => exact ⟨0, by omega, rfl, HO.out, HG.out⟩
  case round =>
    obtain ⟨k, hk, rfl, hown, hbel⟩ := hrel
    have e0 := (hbel.cell (p := ⟨w.heap.size, 0, none⟩) (by show w.heap.size < _; omega)).trans c0
    have e1 := (hbel.cell (p := ⟨w.heap.size, 1, none⟩) (by show w.heap.size < _; omega)).trans c1
    have hsz := hbel.size
    have HW := hidden hown
    have HBL := hidden hbel
    clear hown hbel
    by_cases hlt : k < N
    · go_wp2_with (first
        | (go_at_call 36; refine (rBit_tb x k _ hx64 (by omega)).mono ?_; rintro e w' ⟨rfl, rfl⟩)
        | (at_builtin; refine wpList_append_one _ rfl (.tmp 34) (.tmp 39) 24 rfl (w.heap.size + 1) 4 i0 (.bool false) 1 Try.underlying24 hi hz0 hz1 hz2 rfl u6 (L.length + k) (Bt.bls (L ++ Bt.bitsTo x k)) rfl (by exact HW.out.alloc _) _ 1 (.bool (x.testBit k)) _ rfl (by exact heap_alloc_new _ _) rfl (by unfold maxLen; omega) (by omega) (by simp; omega) ?_; intro v2 w2 hown2 hgrow2; have HO2 := hidden hown2; have HG2 := hidden hgrow2; clear hown2 hgrow2))
      go_roundw
      case rel => exact ⟨k + 1, by omega, by go_num, Bl.next HO2.out, (HBL.out.alloc (by omega) _).grown HG2.out (by simp; omega) (fun j hj => (HW.out.lt j hj).1)⟩
      case measure => simp [intOf]; omega
    · obtain rfl : k = N := by omega
      go_wp2
      go_ret2
      exact ⟨u6, rfl, Bl.of_own HW.out, hb0.out.trans (HBL.out.mono (by omega))⟩
set_option maxHeartbeats 1000000 in
theorem rPut_arg (v : Value) (x : Nat) (N : Int) (w : World) (hx : x < 18446744073709551616) (hN : N < 0 ∨ 64 < N ∨ (0 ≤ N ∧ N ≤ 64 ∧ ¬ x < 2 ^ N.toNat)) :
    Calls Try.prog 22 #[v, .agg #[.int .u64 x, .int .i64 N]] w fun e w' => e = .returned (.tuple #[v, .int .i64 1]) ∧ Below w.heap.size w w' := by
  rcases hN with hN | hN | ⟨h0, h1, h2⟩
  · have d1 : decide (N < 0) = true := by simp; omega
    go_enter Try.func22, Try.ntmps22
    go_wp2
    go_quiet ((go_at_call 35; exact Calls.quiet_of_same (rNeed_any _ _ hx)))
    go_wp2
    go_ret2
    exact ⟨rfl, drewN_below ((Below.refl _ _).alloc (Nat.le_refl _) _) _⟩
  · have d1 : decide (N < 0) = false := by simp; omega
    have d2 : decide (64 < N) = true := by simp; omega
    go_enter Try.func22, Try.ntmps22
    go_wp2
    go_quiet ((go_at_call 35; exact Calls.quiet_of_same (rNeed_any _ _ hx)))
    go_wp2
    go_ret2
    exact ⟨rfl, drewN_below ((Below.refl _ _).alloc (Nat.le_refl _) _) _⟩
  · obtain ⟨j, rfl⟩ := Int.eq_ofNat_of_zero_le h0
    rw [Int.toNat_natCast] at h2
    have hneed : j < Wd.needTo x 64 := by
      rcases Nat.lt_or_ge j (Wd.needTo x 64) with hl | hl
      · exact hl
      · exact absurd ((Bt.need_le x j hx).1 hl) h2
    clear h2
    have d1 : decide ((j : Int) < 0) = false := by simp
    have d2 : decide ((64 : Int) < (j : Int)) = false := by simp; omega
    have d3 : decide ((j : Int) < ((Wd.needTo x 64 : Nat) : Int)) = true := by simp; omega
    go_enter Try.func22, Try.ntmps22
    go_wp2
    go_quiet ((go_at_call 35; exact Calls.quiet_of_same (rNeed_any _ _ hx)))
    go_wp2
    go_ret2
    exact ⟨rfl, drewN_below ((Below.refl _ _).alloc (Nat.le_refl _) _) _⟩
end Go.Proofs.Ytjhimeedkejnlaa
