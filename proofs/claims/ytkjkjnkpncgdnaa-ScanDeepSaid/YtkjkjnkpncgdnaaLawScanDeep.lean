/-
  The walk of the law ScanDeep: it returns true for every two numbers of 16 bits, with arrays or objects; nothing that was there is changed.
-/
import Derived.Lib.AppendStr
import Derived.Test.YtkjkjnkpncgdnaaJsAwake
import Derived.Test.YtkjkjnkpncgdnaaScStack
namespace Go.Proofs.Ytkjkjnkpncgdnaa
open Go.RowKit
theorem Try.infoU8d : (Try.prog.info? 5).map (fun i => (i.zero, i.size, i.bytes)) = some (some (.int .u8 0), 1, 1) := by kernel_rfl
namespace Dp
/-- Bytes as cells. -/
def bl (l : List UInt8) : List Value := l.map fun b => Value.int .u8 (b.toNat : Int)
theorem bl_len (l : List UInt8) : (bl l).length = l.length := List.length_map _
theorem bl_app (a b : List UInt8) : bl (a ++ b) = bl a ++ bl b := List.map_append
theorem made (c : Nat) : madeCells #[Value.int .u8 0] c = Array.replicate c (Value.int .u8 0) := by
  apply Array.toList_inj.1
  rw [toList_madeCells_one, Array.toList_replicate]
theorem mk_bytes (c : Nat) (hc : c ≤ 4294967296) (u : World) : (Instr.makeSlice 32 (.int .i64 0) (.int .i64 (c : Int))).run Try.prog u = .ok (.slice (some ⟨u.heap.size, 0, none⟩) 0 c) (u.alloc (.cells (Array.replicate c (Value.int .u8 0)) 5)) := by
  obtain ⟨i0, hi, hz0, hz1, hz2⟩ := info_parts Try.infoU8d
  have h := run_make (P := Try.prog) u 32 5 i0 (.int .u8 0) Try.underlying32 hi hz0 .i64 .i64 0 (c : Int) (by omega) (by omega) (by rw [hz2]; omega) (by omega)
  rw [← made]
  simpa [hz1, Value.cells] using h
theorem mk_own (c : Nat) (hc : c ≤ 4294967296) (u : World) : (u.alloc (.cells (Array.replicate c (Value.int .u8 0)) 5)).ownsRow u.heap.size 5 1 (.slice (some ⟨u.heap.size, 0, none⟩) 0 c) 0 (bl []) :=
  ⟨rfl, .inr ⟨u.heap.size, c, _, rfl, Nat.le_refl _, heap_alloc_new _ _, Nat.zero_le _, by unfold maxLen; omega, by rw [Array.size_replicate, Nat.mul_one], rfl⟩⟩
end Dp
namespace Dp
theorem grown {B : Nat} {e : TypeId} {u u' : World} {v : Value} {n : Nat} {xs : List Value} (hB : B ≤ u.heap.size) (hown : u.ownsRow B e 1 v n xs) (h : u.grownBy u' v.ownBlock) : Below B u u' :=
  ⟨h.os, h.tape, h.output, h.size, fun i hi => h.block i (by have := h.size; omega) (fun e => by have := hown.lt i e.symm; omega)⟩
theorem grown1 {B : Nat} {e : TypeId} {u u' : World} {v : Value} {n : Nat} {xs : List Value} {o : Obj} (hB : B ≤ u.heap.size) (hown : u.ownsRow B e 1 v n xs) (h : (u.alloc o).grownBy u' v.ownBlock) : Below B u u' :=
  ((Below.refl B u).alloc hB o).trans (grown (Nat.le_trans hB ((Below.refl B u).alloc hB o).size) (hown.alloc o) h)
theorem one (l : List UInt8) (b : UInt8) : bl l ++ [Value.int .u8 (b.toNat : Int)] = bl (l ++ [b]) := (bl_app l [b]).symm
theorem row_next (l : List UInt8) (j : Nat) (b : UInt8) : bl (l ++ List.replicate j b) ++ [Value.int .u8 (b.toNat : Int)] = bl (l ++ List.replicate (j + 1) b) := by
  rw [one, List.append_assoc, ← List.replicate_succ']
theorem keys_app (k : Nat) (r : List UInt8) : Js.keys k r = Js.keys k [] ++ r := by
  induction k with
  | zero => rfl
  | succ k ih =>
    show 123 :: 34 :: 97 :: 34 :: 58 :: Js.keys k r = 123 :: 34 :: 97 :: 34 :: 58 :: (Js.keys k [] ++ r)
    rw [ih]
theorem keys_more (k : Nat) (r : List UInt8) : Js.keys k (123 :: 34 :: 97 :: 34 :: 58 :: r) = Js.keys (k + 1) r := by
  induction k with
  | zero => rfl
  | succ k ih => exact congrArg (fun l => (123 : UInt8) :: 34 :: 97 :: 34 :: 58 :: l) ih
theorem keys_next (k : Nat) : Js.keys k [] ++ [123, 34, 97, 34, 58] = Js.keys (k + 1) [] := by
  rw [← keys_app, keys_more]
theorem shape {B : Nat} {e : TypeId} {u : World} {v : Value} {n : Nat} {xs : List Value} (h : u.ownsRow B e 1 v n xs) (hn : 0 < n) : ∃ g cap, v = .slice (some ⟨g, 0, none⟩) n cap ∧ n ≤ cap := by
  rcases h.2 with ⟨_, h0⟩ | ⟨g, cap, cur, hv, _, _, hnc, _⟩
  · omega
  · exact ⟨g, cap, hv, hnc⟩
theorem as_string {B : Nat} {u : World} {g n cap : Nat} {l : List UInt8} (h : u.ownsRow B 5 1 (.slice (some ⟨g, 0, none⟩) n cap) n (bl l)) (m c2 : Nat) (hm : m ≤ n) : Sem.run Try.prog (convert 32 9 (.slice (some ⟨g, 0, none⟩) m c2)) u = .ok (.string ⟨(l.take m).toArray⟩) u := by
  have hl : l.length = n := by have := h.1; rw [bl_len] at this; omega
  have hlm : (l.take m).length = m := by rw [List.length_take]; omega
  have hc := run_convert_bytes_back (P := Try.prog) u 32 9 5 ⟨g, 0, none⟩ c2 (l.take m) Try.underlying32 Try.underlying5 Try.underlying9 (fun j hj => by
    have e : (⟨g, 0, none⟩ : Addr).add j = ⟨g, j, none⟩ := by cases j <;> simp [Addr.add]
    rw [e, h.cellAt j (by omega)]
    unfold bl
    rw [List.getElem?_map, List.getElem?_eq_getElem (by omega), List.getElem_take]
    rfl)
  rw [hlm] at hc
  exact hc
theorem kept {B : Nat} {e : TypeId} {u u' : World} {v : Value} {n : Nat} {xs : List Value} (h : u.ownsRow B e 1 v n xs) (hb : Below u.heap.size u u') : u'.ownsRow B e 1 v n xs := by
  refine ⟨h.1, ?_⟩
  rcases h.2 with h | ⟨g, cap, cur, hv, hB, hg, r⟩
  · exact .inl h
  · exact .inr ⟨g, cap, cur, hv, hB, by rw [hb.block g (lt_of_block hg)]; exact hg, r⟩
theorem take_but (A : List UInt8) (K : Nat) (b : UInt8) : (A ++ List.replicate (K + 1) b).take (A.length + K) = A ++ List.replicate K b := by
  rw [List.take_length_add_append, List.take_replicate, Nat.min_eq_left (Nat.le_succ K)]
/-- What is told of brackets in one another. -/
theorem told (l : List UInt8) (k d : Nat) (hl : l.length ≤ 30000) (h1 : 1 ≤ d) (h2 : d ≤ 4096) (ho : (Js.out Js.c0 l).1 = some k) : Js.ansV l (d : Nat) = (if d < k then 2 else 1) ∧ Js.ansP l (d : Nat) = (k : Int) ∧ Js.ansE (d : Nat) = 0 := by
  rw [Js.ansV_in l d (by omega) (by omega), Js.ansP_in l d (by omega) (by omega), Js.ansE_in d (by omega) (by omega)]
  by_cases h : d < k
  · rw [Js.val_deep l d k (by omega) ho (by omega), if_pos h]
    exact ⟨rfl, rfl, rfl⟩
  · rw [Js.val_yes l d k (by omega) ho (by omega), if_neg h]
    exact ⟨rfl, rfl, rfl⟩
theorem told_no (l : List UInt8) (q d : Nat) (hl : l.length ≤ 30000) (h1 : 1 ≤ d) (h2 : d ≤ 4096) (ho : Js.out Js.c0 l = (none, q)) : Js.ansV l (d : Nat) = 3 ∧ Js.ansP l (d : Nat) = (q : Int) ∧ Js.ansE (d : Nat) = 0 := by
  rw [Js.ansV_in l d (by omega) (by omega), Js.ansP_in l d (by omega) (by omega), Js.ansE_in d (by omega) (by omega), Js.val_no l d q (by omega) ho]
  exact ⟨rfl, rfl, rfl⟩
end Dp
set_option maxHeartbeats 4000000 in
theorem ScanDeep_arr (n z : Nat) (w : World) (hn : n ≤ 65535) (hz : z ≤ 65535) :
    Calls Try.prog 6 #[.int .u16 (n : Nat), .int .u16 (z : Nat), .bool false] w fun e w' => e = .returned (.bool true) ∧ Below w.heap.size w w' := by
  obtain ⟨i0, hi, hz0, hz1, hz2⟩ := info_parts Try.infoU8d
  obtain ⟨K, hK⟩ : ∃ K, K = n % 4200 := ⟨_, rfl⟩
  obtain ⟨D, hD⟩ : ∃ D, D = z % 4096 := ⟨_, rfl⟩
  have hnK : (n : Int) % 4200 = (K : Int) := by omega
  have hzD : (z : Int) % 4096 = (D : Int) := by omega
  have hnK2 : (n : Int).tmod 4200 = (K : Int) := by rw [Int.tmod_eq_emod_of_nonneg (by omega)]; exact hnK
  have hzD2 : (z : Int).tmod 4096 = (D : Int) := by rw [Int.tmod_eq_emod_of_nonneg (by omega)]; exact hzD
  have hK2 : K < 4200 := by omega
  have hD2 : D < 4096 := by omega
  obtain ⟨k, hk⟩ : ∃ k, k = K + 1 := ⟨_, rfl⟩
  obtain ⟨d, hd⟩ : ∃ d, d = D + 1 := ⟨_, rfl⟩
  have hk1 : 1 + (K : Int) = (k : Int) := by omega
  have hd1 : 1 + (D : Int) = (d : Int) := by omega
  obtain ⟨m, hm⟩ : ∃ m, m = 6 * k := ⟨_, rfl⟩
  have hm1 : 6 * (k : Int) = (m : Int) := by omega
  have hmk := Dp.mk_bytes m (by omega)
  have HK := hidden hk
  have HD := hidden hd
  have hk5 : k ≤ 4200 := by omega
  have hd5 : d ≤ 4096 := by omega
  have HD1 : Hid (1 ≤ d) := by show 1 ≤ d; omega
  have hm5 : m ≤ 25200 := by omega
  clear hK hD hk hd hm
  go_enter Try.func6, Try.ntmps6
  go_wp2_with fail
  refine (awake12_any w).mono ?_
  rintro e w1 ⟨rfl, h1⟩
  have HB1 := hidden h1
  clear h1
  go_wp2_with fail
  go_loopw [9, 10] (fun v i wr => ∃ j : Nat, j ≤ k ∧ i = .int .i64 (j : Nat) ∧ wr.ownsRow w1.heap.size 5 1 v (j) (Dp.bl ([] ++ List.replicate j 91)) ∧ Below w1.heap.size w1 wr) (fun _ i _ => k - (intOf i).toNat)
  case atStart => exact ⟨0, Nat.zero_le _, rfl, Dp.mk_own m (by omega) w1, (Below.refl _ _).alloc (Nat.le_refl _) _⟩
  case round =>
    obtain ⟨j, hj, rfl, hown, hb⟩ := hrel
    have HO := hidden hown
    have HB := hidden hb
    have hsz := hb.size
    by_cases hlt : j < k
    · have hlt2 : decide ((j : Int) < (k : Int)) = true := decide_eq_true (by omega)
      clear hown hb
      go_wp2_with (at_builtin; refine wpList_append_one _ rfl (.tmp 40) (.tmp 41) 32 rfl w1.heap.size 5 i0 (.int .u8 0) 1 Try.underlying32 hi hz0 hz1 hz2 rfl u9 j (Dp.bl ([] ++ List.replicate j 91)) rfl (by exact HO.out.alloc _) _ 1 (.int .u8 91) _ rfl (by exact heap_alloc_new _ _) rfl (by unfold maxLen; omega) (by omega) (by simp; omega) ?_; intro v2 w2 hown2 hgrow2; have HO2 := hidden hown2; have HG2 := hidden hgrow2; clear hown2 hgrow2)
      go_roundw
      case rel =>
        refine ⟨j + 1, by omega, by go_num, ?_, HB.out.trans (Dp.grown1 hsz HO.out HG2.out)⟩
        have h2 := HO2.out
        rw [show (Value.int .u8 91) = Value.int .u8 ((91 : UInt8).toNat : Int) from rfl, Dp.row_next] at h2
        exact h2
      case measure => simp [intOf]; omega
    · obtain rfl : j = k := by omega
      have hlt2 : decide ((j : Int) < (j : Int)) = false := decide_eq_false (by omega)
      have HBX := hidden (HB1.out.trans (hb.mono HB1.out.size))
      clear hown hb HB
      have hsz2 := hsz
      go_wp2_with fail
      go_loopw [9, 11] (fun v i wq => ∃ t : Nat, t ≤ j ∧ i = .int .i64 (t : Nat) ∧ wq.ownsRow w1.heap.size 5 1 v (j + t) (Dp.bl ((([] : List UInt8) ++ List.replicate j 91) ++ List.replicate t 93)) ∧ Below w.heap.size w wq ∧ w1.heap.size ≤ wq.heap.size) (fun _ i _ => j - (intOf i).toNat)
      case atStart =>
        refine ⟨0, Nat.zero_le _, rfl, ?_, HBX.out, hsz2⟩
        rw [List.replicate_zero, List.append_nil]
        exact HO.out
      case round =>
        obtain ⟨t, ht, rfl, hown, hb, hsz3⟩ := hrel
        have HO4 := hidden hown
        have HB4 := hidden hb
        by_cases hlt3 : t < j
        · have hlt4 : decide ((t : Int) < (j : Int)) = true := decide_eq_true (by omega)
          obtain ⟨y, hy⟩ : ∃ y, y = j + t := ⟨_, rfl⟩
          rw [← hy] at HO4
          have hy5 : y ≤ 30000 := by omega
          have HY := hidden hy
          clear hown hb hy
          go_wp2_with (at_builtin; refine wpList_append_one _ rfl (.tmp 56) (.tmp 57) 32 rfl w1.heap.size 5 i0 (.int .u8 0) 1 Try.underlying32 hi hz0 hz1 hz2 rfl u9 y (Dp.bl ((([] : List UInt8) ++ List.replicate j 91) ++ List.replicate t 93)) rfl (by exact HO4.out.alloc _) _ 1 (.int .u8 93) _ rfl (by exact heap_alloc_new _ _) rfl (by unfold maxLen; omega) (by omega) (by simp; omega) ?_; intro v5 w5 hown5 hgrow5; have HO5 := hidden hown5; have HG5 := hidden hgrow5; clear hown5 hgrow5)
          go_roundw
          case rel =>
            have hgr := Dp.grown1 hsz3 HO4.out HG5.out
            refine ⟨t + 1, by omega, by go_num, ?_, HB4.out.trans (hgr.mono HB1.out.size), Nat.le_trans hsz3 hgr.size⟩
            have h2 := HO5.out
            rw [show (Value.int .u8 93) = Value.int .u8 ((93 : UInt8).toNat : Int) from rfl, Dp.row_next, HY.out] at h2
            exact h2
          case measure => simp [intOf]; omega
        · obtain rfl : t = j := by omega
          have hlt4 : decide ((t : Int) < (t : Int)) = false := decide_eq_false (by omega)
          obtain ⟨N, hN⟩ : ∃ N, N = t + t := ⟨_, rfl⟩
          have hkK := HK.out
          have hll : (([] : List UInt8) ++ List.replicate t 91).length = t := by
            rw [List.nil_append, List.length_replicate]
          have hlen : ((([] : List UInt8) ++ List.replicate t 91) ++ List.replicate t 93).length = N := by rw [List.length_append, List.length_replicate, hll, hN]
          have hN0 : 0 < N := by omega
          obtain ⟨N1, hN1⟩ : ∃ N1, N = N1 + 1 := ⟨N - 1, by omega⟩
          have hNN : (N : Int) - 1 = (N1 : Int) := by omega
          have hN30 : N ≤ 30000 := by omega
          have hO1 : (Js.out Js.c0 ((([] : List UInt8) ++ List.replicate t 91) ++ List.replicate t 93)).1 = some t := by
            rw [hkK, List.nil_append, (Js.deep_array K).1]
          have hO2 : Js.out Js.c0 (((([] : List UInt8) ++ List.replicate t 91) ++ List.replicate t 93).take N1) = (none, N1) := by
            have e1 : N1 = (([] : List UInt8) ++ List.replicate t 91).length + K := by rw [hll]; omega
            have e2 : ((([] : List UInt8) ++ List.replicate t 91) ++ List.replicate t 93).take N1 = (([] : List UInt8) ++ List.replicate t 91) ++ List.replicate K 93 := by
              rw [e1]
              conv => lhs; rw [show List.replicate t (93 : UInt8) = List.replicate (K + 1) 93 from by rw [hkK]]
              exact Dp.take_but _ K 93
            rw [e2]
            rw [List.nil_append, hkK, (Js.deep_array K).2]
            exact Prod.ext rfl (by show 2 * K + 1 = N1; omega)
          rw [← hN] at hown
          obtain ⟨g, cap, hv, hcap⟩ := Dp.shape hown hN0
          subst hv
          have hcv1 := Dp.as_string hown N cap (Nat.le_refl _)
          rw [List.take_of_length_le (by omega)] at hcv1
          have hV1 := Dp.told ((([] : List UInt8) ++ List.replicate t 91) ++ List.replicate t 93) t d (by omega) HD1.out hd5 hO1
          have hV2 := Dp.told_no (((([] : List UInt8) ++ List.replicate t 91) ++ List.replicate t 93).take N1) N1 d (by rw [List.length_take]; omega) HD1.out hd5 hO2
          have HV1 : Hid (∀ w, Calls Try.prog 10 #[.string ⟨((([] : List UInt8) ++ List.replicate t 91) ++ List.replicate t 93).toArray⟩, .int .i64 (d : Nat)] w fun e w' => e = .returned (.tuple #[.int .i64 (if d < t then 2 else 1), .int .i64 (t : Nat), .int .i64 0]) ∧ Below w.heap.size w w') := hidden (fun w => by
            have h := sValidate_any ⟨((([] : List UInt8) ++ List.replicate t 91) ++ List.replicate t 93).toArray⟩ (d : Nat) w (by show ((([] : List UInt8) ++ List.replicate t 91) ++ List.replicate t 93).length ≤ _; omega)
            have h2 : (ByteArray.mk ((([] : List UInt8) ++ List.replicate t 91) ++ List.replicate t 93).toArray).data.toList = ((([] : List UInt8) ++ List.replicate t 91) ++ List.replicate t 93) := rfl
            rw [h2, hV1.1, hV1.2.1, hV1.2.2] at h
            exact h)
          have HV2 : Hid (∀ w, Calls Try.prog 10 #[.string ⟨(((([] : List UInt8) ++ List.replicate t 91) ++ List.replicate t 93).take N1).toArray⟩, .int .i64 (d : Nat)] w fun e w' => e = .returned (.tuple #[.int .i64 3, .int .i64 (N1 : Nat), .int .i64 0]) ∧ Below w.heap.size w w') := hidden (fun w => by
            have h := sValidate_any ⟨(((([] : List UInt8) ++ List.replicate t 91) ++ List.replicate t 93).take N1).toArray⟩ (d : Nat) w (by show (((([] : List UInt8) ++ List.replicate t 91) ++ List.replicate t 93).take N1).length ≤ _; rw [List.length_take]; omega)
            have h2 : (ByteArray.mk (((([] : List UInt8) ++ List.replicate t 91) ++ List.replicate t 93).take N1).toArray).data.toList = ((([] : List UInt8) ++ List.replicate t 91) ++ List.replicate t 93).take N1 := rfl
            rw [h2, hV2.1, hV2.2.1, hV2.2.2] at h
            exact h)
          have HCV : Hid (∀ w', w'.ownsRow w1.heap.size 5 1 (.slice (some ⟨g, 0, none⟩) N cap) N (Dp.bl ((([] : List UInt8) ++ List.replicate t 91) ++ List.replicate t 93)) → Sem.run Try.prog (convert 32 9 (.slice (some ⟨g, 0, none⟩) N1 cap)) w' = .ok (.string ⟨(((([] : List UInt8) ++ List.replicate t 91) ++ List.replicate t 93).take N1).toArray⟩) w') := hidden (fun w' h => Dp.as_string h N1 cap (by omega))
          generalize (ByteArray.mk ((([] : List UInt8) ++ List.replicate t 91) ++ List.replicate t 93).toArray) = S1 at hcv1 HV1
          generalize (ByteArray.mk (((([] : List UInt8) ++ List.replicate t 91) ++ List.replicate t 93).take N1).toArray) = S2 at HCV HV2
          have HOWN := hidden hown
          have HBX2 := hidden hb
          clear hown hb hV1 hV2 hO1 hO2 hll hlen HO4 HB4 hkK hN hN1 hN0
          by_cases hkd : d < t
          · rw [if_pos hkd] at HV1
            have e1 : decide ((d : Int) < (t : Int)) = true := decide_eq_true (by omega)
            go_wp2_with fail
            refine (HV1.out _).mono ?_
            rintro e w6 ⟨rfl, h6⟩
            have hcv3 := HCV.out w6 (Dp.kept HOWN.out h6)
            have HB6 := hidden (Js.bel_then HBX2.out h6)
            clear h6 hcv1
            go_wp2_with fail
            refine (HV2.out _).mono ?_
            rintro e w7 ⟨rfl, h7⟩
            have HB7 := hidden (Js.bel_then HB6.out h7)
            clear h7 hcv3
            go_wp2_with fail
            go_ret
            exact ⟨by simp, HB7.out⟩
          · rw [if_neg hkd] at HV1
            have e1 : decide ((d : Int) < (t : Int)) = false := decide_eq_false (by omega)
            go_wp2_with fail
            refine (HV1.out _).mono ?_
            rintro e w6 ⟨rfl, h6⟩
            have hcv3 := HCV.out w6 (Dp.kept HOWN.out h6)
            have HB6 := hidden (Js.bel_then HBX2.out h6)
            clear h6 hcv1
            go_wp2_with fail
            refine (HV2.out _).mono ?_
            rintro e w7 ⟨rfl, h7⟩
            have HB7 := hidden (Js.bel_then HB6.out h7)
            clear h7 hcv3
            go_wp2_with fail
            go_ret
            exact ⟨by simp, HB7.out⟩
set_option maxHeartbeats 4000000 in
theorem ScanDeep_obj (n z : Nat) (w : World) (hn : n ≤ 65535) (hz : z ≤ 65535) :
    Calls Try.prog 6 #[.int .u16 (n : Nat), .int .u16 (z : Nat), .bool true] w fun e w' => e = .returned (.bool true) ∧ Below w.heap.size w w' := by
  obtain ⟨i0, hi, hz0, hz1, hz2⟩ := info_parts Try.infoU8d
  obtain ⟨K, hK⟩ : ∃ K, K = n % 4200 := ⟨_, rfl⟩
  obtain ⟨D, hD⟩ : ∃ D, D = z % 4096 := ⟨_, rfl⟩
  have hnK : (n : Int) % 4200 = (K : Int) := by omega
  have hzD : (z : Int) % 4096 = (D : Int) := by omega
  have hnK2 : (n : Int).tmod 4200 = (K : Int) := by rw [Int.tmod_eq_emod_of_nonneg (by omega)]; exact hnK
  have hzD2 : (z : Int).tmod 4096 = (D : Int) := by rw [Int.tmod_eq_emod_of_nonneg (by omega)]; exact hzD
  have hK2 : K < 4200 := by omega
  have hD2 : D < 4096 := by omega
  obtain ⟨k, hk⟩ : ∃ k, k = K + 1 := ⟨_, rfl⟩
  obtain ⟨d, hd⟩ : ∃ d, d = D + 1 := ⟨_, rfl⟩
  have hk1 : 1 + (K : Int) = (k : Int) := by omega
  have hd1 : 1 + (D : Int) = (d : Int) := by omega
  obtain ⟨m, hm⟩ : ∃ m, m = 6 * k := ⟨_, rfl⟩
  have hm1 : 6 * (k : Int) = (m : Int) := by omega
  have hmk := Dp.mk_bytes m (by omega)
  have HK := hidden hk
  have HD := hidden hd
  have hk5 : k ≤ 4200 := by omega
  have hd5 : d ≤ 4096 := by omega
  have HD1 : Hid (1 ≤ d) := by show 1 ≤ d; omega
  have hm5 : m ≤ 25200 := by omega
  clear hK hD hk hd hm
  go_enter Try.func6, Try.ntmps6
  go_wp2_with fail
  refine (awake12_any w).mono ?_
  rintro e w1 ⟨rfl, h1⟩
  have HB1 := hidden h1
  clear h1
  go_wp2_with fail
  go_loopw [9, 10] (fun v i wr => ∃ j : Nat, j ≤ k ∧ i = .int .i64 (j : Nat) ∧ wr.ownsRow w1.heap.size 5 1 v (5 * j) (Dp.bl (Js.keys j [])) ∧ Below w1.heap.size w1 wr) (fun _ i _ => k - (intOf i).toNat)
  case atStart => exact ⟨0, Nat.zero_le _, rfl, Dp.mk_own m (by omega) w1, (Below.refl _ _).alloc (Nat.le_refl _) _⟩
  case round =>
    obtain ⟨j, hj, rfl, hown, hb⟩ := hrel
    have HO := hidden hown
    have HB := hidden hb
    have hsz := hb.size
    by_cases hlt : j < k
    · have hlt2 : decide ((j : Int) < (k : Int)) = true := decide_eq_true (by omega)
      clear hown hb
      obtain ⟨q, hq⟩ : ∃ q, q = 5 * j := ⟨_, rfl⟩
      rw [← hq] at HO
      have hq5 : q ≤ 21000 := by omega
      have HQ := hidden hq
      clear hq
      go_wp2_with (at_builtin; refine Lib.wpList_append_own_string _ rfl (.tmp 38) (.const (.string ⟨#[123, 34, 97, 34, 58]⟩)) 32 9 rfl w1.heap.size 5 i0 Try.underlying32 Try.underlying9 hi hz0 hz1 hz2 u9 q (Dp.bl (Js.keys j [])) rfl (by exact HO.out) ⟨#[123, 34, 97, 34, 58]⟩ rfl (by show q + 5 ≤ _; unfold maxLen; omega) (by show q + 5 ≤ _; omega) (by omega) ?_; intro v2 w2 hown2 hgrow2 _; have HO2 := hidden hown2; have HG2 := hidden hgrow2; clear hown2 hgrow2)
      go_roundw
      case rel =>
        refine ⟨j + 1, by omega, by go_num, ?_, HB.out.trans (Dp.grown hsz HO.out HG2.out)⟩
        have h2 := HO2.out
        rw [show Lib.strCells ⟨#[123, 34, 97, 34, 58]⟩ = Dp.bl [123, 34, 97, 34, 58] from rfl, ← Dp.bl_app, Dp.keys_next, HQ.out] at h2
        exact h2
      case measure => simp [intOf]; omega
    · obtain rfl : j = k := by omega
      have hlt2 : decide ((j : Int) < (j : Int)) = false := decide_eq_false (by omega)
      have HBX := hidden (HB1.out.trans (hb.mono HB1.out.size))
      clear hown hb HB
      obtain ⟨q, hq⟩ : ∃ q, q = 5 * j := ⟨_, rfl⟩
      rw [← hq] at HO
      have hq5 : q ≤ 21000 := by omega
      have HQ := hidden hq
      have HSZ := hidden hsz
      clear hq
      go_wp2_with (at_builtin; refine wpList_append_one _ rfl (.tmp 44) (.tmp 45) 32 rfl w1.heap.size 5 i0 (.int .u8 0) 1 Try.underlying32 hi hz0 hz1 hz2 rfl u9 q (Dp.bl (Js.keys j [])) rfl (by exact HO.out.alloc _) _ 1 (.int .u8 48) _ rfl (by exact heap_alloc_new _ _) rfl (by unfold maxLen; omega) (by omega) (by simp; omega) ?_; intro v2 w2 hown2 hgrow2; have HO2 := hidden hown2; have HG2 := hidden hgrow2; clear hown2 hgrow2)
      have HO3 : Hid (w2.ownsRow w1.heap.size 5 1 v2 (q + 1) (Dp.bl (Js.keys j [] ++ [48]))) := by
        have h2 := HO2.out
        rw [show (Value.int .u8 48) = Value.int .u8 ((48 : UInt8).toNat : Int) from rfl, Dp.one] at h2
        exact h2
      have HBY := hidden (HBX.out.trans ((Dp.grown1 hsz HO.out HG2.out).mono HB1.out.size))
      have hsz2 : w1.heap.size ≤ w2.heap.size := Nat.le_trans hsz (Dp.grown1 hsz HO.out HG2.out).size
      clear HBX HO HO2 HG2 hsz
      obtain ⟨Q, hQq⟩ : ∃ Q, Q = q + 1 := ⟨_, rfl⟩
      rw [← hQq] at HO3
      have hQ5 : Q ≤ 21001 := by omega
      have HQQ := hidden hQq
      clear hQq
      go_loopw [9, 11] (fun v i wq => ∃ t : Nat, t ≤ j ∧ i = .int .i64 (t : Nat) ∧ wq.ownsRow w1.heap.size 5 1 v (Q + t) (Dp.bl ((Js.keys j [] ++ [48]) ++ List.replicate t 125)) ∧ Below w.heap.size w wq ∧ w1.heap.size ≤ wq.heap.size) (fun _ i _ => j - (intOf i).toNat)
      case atStart =>
        refine ⟨0, Nat.zero_le _, rfl, ?_, HBY.out, hsz2⟩
        rw [List.replicate_zero, List.append_nil]
        exact HO3.out
      case round =>
        obtain ⟨t, ht, rfl, hown, hb, hsz3⟩ := hrel
        have HO4 := hidden hown
        have HB4 := hidden hb
        by_cases hlt3 : t < j
        · have hlt4 : decide ((t : Int) < (j : Int)) = true := decide_eq_true (by omega)
          obtain ⟨y, hy⟩ : ∃ y, y = Q + t := ⟨_, rfl⟩
          rw [← hy] at HO4
          have hy5 : y ≤ 30000 := by omega
          have HY := hidden hy
          clear hown hb hy
          go_wp2_with (at_builtin; refine wpList_append_one _ rfl (.tmp 53) (.tmp 54) 32 rfl w1.heap.size 5 i0 (.int .u8 0) 1 Try.underlying32 hi hz0 hz1 hz2 rfl u9 y (Dp.bl ((Js.keys j [] ++ [48]) ++ List.replicate t 125)) rfl (by exact HO4.out.alloc _) _ 1 (.int .u8 125) _ rfl (by exact heap_alloc_new _ _) rfl (by unfold maxLen; omega) (by omega) (by simp; omega) ?_; intro v5 w5 hown5 hgrow5; have HO5 := hidden hown5; have HG5 := hidden hgrow5; clear hown5 hgrow5)
          go_roundw
          case rel =>
            have hgr := Dp.grown1 hsz3 HO4.out HG5.out
            refine ⟨t + 1, by omega, by go_num, ?_, HB4.out.trans (hgr.mono HB1.out.size), Nat.le_trans hsz3 hgr.size⟩
            have h2 := HO5.out
            rw [show (Value.int .u8 125) = Value.int .u8 ((125 : UInt8).toNat : Int) from rfl, Dp.row_next, HY.out] at h2
            exact h2
          case measure => simp [intOf]; omega
        · obtain rfl : t = j := by omega
          have hlt4 : decide ((t : Int) < (t : Int)) = false := decide_eq_false (by omega)
          obtain ⟨N, hN⟩ : ∃ N, N = Q + t := ⟨_, rfl⟩
          have hkK := HK.out
          have hll : (Js.keys t [] ++ [48]).length = Q := by
            have h1 := HQQ.out
            have h2 := HQ.out
            rw [List.length_append, Js.keys_length]
            show 5 * t + 0 + 1 = Q
            omega
          have hlen : ((Js.keys t [] ++ [48]) ++ List.replicate t 125).length = N := by rw [List.length_append, List.length_replicate, hll, hN]
          have hN0 : 0 < N := by omega
          obtain ⟨N1, hN1⟩ : ∃ N1, N = N1 + 1 := ⟨N - 1, by omega⟩
          have hNN : (N : Int) - 1 = (N1 : Int) := by omega
          have hN30 : N ≤ 30000 := by omega
          have hO1 : (Js.out Js.c0 ((Js.keys t [] ++ [48]) ++ List.replicate t 125)).1 = some t := by
            rw [List.append_assoc, ← Dp.keys_app, hkK]
            exact congrArg Prod.fst (Js.deep_object K).1
          have hO2 : Js.out Js.c0 (((Js.keys t [] ++ [48]) ++ List.replicate t 125).take N1) = (none, N1) := by
            have e1 : N1 = (Js.keys t [] ++ [48]).length + K := by rw [hll]; omega
            have e2 : ((Js.keys t [] ++ [48]) ++ List.replicate t 125).take N1 = (Js.keys t [] ++ [48]) ++ List.replicate K 125 := by
              rw [e1]
              conv => lhs; rw [show List.replicate t (125 : UInt8) = List.replicate (K + 1) 125 from by rw [hkK]]
              exact Dp.take_but _ K 125
            rw [e2]
            have h1 := HQQ.out
            have h2 := HQ.out
            rw [List.append_assoc, ← Dp.keys_app, hkK]
            refine (Js.deep_object K).2.trans (Prod.ext rfl ?_)
            show 6 * (K + 1) = N1
            omega
          rw [← hN] at hown
          obtain ⟨g, cap, hv, hcap⟩ := Dp.shape hown hN0
          subst hv
          have hcv1 := Dp.as_string hown N cap (Nat.le_refl _)
          rw [List.take_of_length_le (by omega)] at hcv1
          have hV1 := Dp.told ((Js.keys t [] ++ [48]) ++ List.replicate t 125) t d (by omega) HD1.out hd5 hO1
          have hV2 := Dp.told_no (((Js.keys t [] ++ [48]) ++ List.replicate t 125).take N1) N1 d (by rw [List.length_take]; omega) HD1.out hd5 hO2
          have HV1 : Hid (∀ w, Calls Try.prog 10 #[.string ⟨((Js.keys t [] ++ [48]) ++ List.replicate t 125).toArray⟩, .int .i64 (d : Nat)] w fun e w' => e = .returned (.tuple #[.int .i64 (if d < t then 2 else 1), .int .i64 (t : Nat), .int .i64 0]) ∧ Below w.heap.size w w') := hidden (fun w => by
            have h := sValidate_any ⟨((Js.keys t [] ++ [48]) ++ List.replicate t 125).toArray⟩ (d : Nat) w (by show ((Js.keys t [] ++ [48]) ++ List.replicate t 125).length ≤ _; omega)
            have h2 : (ByteArray.mk ((Js.keys t [] ++ [48]) ++ List.replicate t 125).toArray).data.toList = ((Js.keys t [] ++ [48]) ++ List.replicate t 125) := rfl
            rw [h2, hV1.1, hV1.2.1, hV1.2.2] at h
            exact h)
          have HV2 : Hid (∀ w, Calls Try.prog 10 #[.string ⟨(((Js.keys t [] ++ [48]) ++ List.replicate t 125).take N1).toArray⟩, .int .i64 (d : Nat)] w fun e w' => e = .returned (.tuple #[.int .i64 3, .int .i64 (N1 : Nat), .int .i64 0]) ∧ Below w.heap.size w w') := hidden (fun w => by
            have h := sValidate_any ⟨(((Js.keys t [] ++ [48]) ++ List.replicate t 125).take N1).toArray⟩ (d : Nat) w (by show (((Js.keys t [] ++ [48]) ++ List.replicate t 125).take N1).length ≤ _; rw [List.length_take]; omega)
            have h2 : (ByteArray.mk (((Js.keys t [] ++ [48]) ++ List.replicate t 125).take N1).toArray).data.toList = ((Js.keys t [] ++ [48]) ++ List.replicate t 125).take N1 := rfl
            rw [h2, hV2.1, hV2.2.1, hV2.2.2] at h
            exact h)
          have HCV : Hid (∀ w', w'.ownsRow w1.heap.size 5 1 (.slice (some ⟨g, 0, none⟩) N cap) N (Dp.bl ((Js.keys t [] ++ [48]) ++ List.replicate t 125)) → Sem.run Try.prog (convert 32 9 (.slice (some ⟨g, 0, none⟩) N1 cap)) w' = .ok (.string ⟨(((Js.keys t [] ++ [48]) ++ List.replicate t 125).take N1).toArray⟩) w') := hidden (fun w' h => Dp.as_string h N1 cap (by omega))
          generalize (ByteArray.mk ((Js.keys t [] ++ [48]) ++ List.replicate t 125).toArray) = S1 at hcv1 HV1
          generalize (ByteArray.mk (((Js.keys t [] ++ [48]) ++ List.replicate t 125).take N1).toArray) = S2 at HCV HV2
          have HOWN := hidden hown
          have HBX2 := hidden hb
          clear hown hb hV1 hV2 hO1 hO2 hll hlen HO4 HB4 hkK hN hN1 hN0
          by_cases hkd : d < t
          · rw [if_pos hkd] at HV1
            have e1 : decide ((d : Int) < (t : Int)) = true := decide_eq_true (by omega)
            go_wp2_with fail
            refine (HV1.out _).mono ?_
            rintro e w6 ⟨rfl, h6⟩
            have hcv3 := HCV.out w6 (Dp.kept HOWN.out h6)
            have HB6 := hidden (Js.bel_then HBX2.out h6)
            clear h6 hcv1
            go_wp2_with fail
            refine (HV2.out _).mono ?_
            rintro e w7 ⟨rfl, h7⟩
            have HB7 := hidden (Js.bel_then HB6.out h7)
            clear h7 hcv3
            go_wp2_with fail
            go_ret
            exact ⟨by simp, HB7.out⟩
          · rw [if_neg hkd] at HV1
            have e1 : decide ((d : Int) < (t : Int)) = false := decide_eq_false (by omega)
            go_wp2_with fail
            refine (HV1.out _).mono ?_
            rintro e w6 ⟨rfl, h6⟩
            have hcv3 := HCV.out w6 (Dp.kept HOWN.out h6)
            have HB6 := hidden (Js.bel_then HBX2.out h6)
            clear h6 hcv1
            go_wp2_with fail
            refine (HV2.out _).mono ?_
            rintro e w7 ⟨rfl, h7⟩
            have HB7 := hidden (Js.bel_then HB6.out h7)
            clear h7 hcv3
            go_wp2_with fail
            go_ret
            exact ⟨by simp, HB7.out⟩
theorem ScanDeep_walk (n z : Int) (o : Bool) (w : World) (hn0 : 0 ≤ n) (hn1 : n ≤ 65535) (hz0 : 0 ≤ z) (hz1 : z ≤ 65535) :
    Calls Try.prog 6 #[.int .u16 n, .int .u16 z, .bool o] w fun e w' => e = .returned (.bool true) ∧ Below w.heap.size w w' := by
  obtain ⟨n, rfl⟩ := Int.eq_ofNat_of_zero_le hn0
  obtain ⟨z, rfl⟩ := Int.eq_ofNat_of_zero_le hz0
  cases o
  · exact ScanDeep_arr n z w (by omega) (by omega)
  · exact ScanDeep_obj n z w (by omega) (by omega)
end Go.Proofs.Ytkjkjnkpncgdnaa
