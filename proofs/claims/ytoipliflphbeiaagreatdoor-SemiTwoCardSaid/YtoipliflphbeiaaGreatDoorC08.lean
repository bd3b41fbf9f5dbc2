/-
  The contracts of row, write and number of package semi: bits as a row; a number's eight bytes written; bytes read as a number. Nothing that was there is changed but the builder.
-/
import Derived.Test.YtoipliflphbeiaaGreatDoorJBtList
import Derived.Test.YtoipliflphbeiaaGreatDoorJBtOf
import Derived.Test.YtoipliflphbeiaaGreatDoorC07
import Derived.Test.YtoipliflphbeiaaGreatDoorC02
namespace Go.Proofs.YtoipliflphbeiaaGreatDoor
open Go.RowKit
theorem Sm.lb_view {w : World} {B : Nat} {v : Value} {L : List Bool} (h : Mk.Lb w B v L) : Bv w v L := by
  obtain ⟨ao, cap, hv, hc, hf⟩ := h.get rfl
  refine ⟨ao, cap, hv, hc, fun h0 => ?_⟩
  obtain ⟨g, hg, hlt, hcell⟩ := hf h0
  exact ⟨g, 0, hg, hlt, fun j hj => by rw [Nat.zero_add]; exact hcell j hj⟩
set_option maxHeartbeats 1000000 in
theorem smRow_any (L : List Bool) (v : Value) (w : World) (h : Bv w v L) (hL : L.length ≤ 4294967295) :
    Calls Tryz.prog 55 #[v] w fun e w' => ∃ r u, e = .returned (.pointer (some ⟨r, 0, none⟩)) ∧ Rw w' r L.length (Bt.num L) u ∧ Below w.heap.size w w' := by
  obtain ⟨ao, cap, rfl, hcap, hc⟩ := h
  have HC := hidden hc
  clear hc
  go_enter Tryz.func55, Tryz.ntmps55
  go_wp2
  go_loopw [8] (fun i wr => ∃ (k : Nat) (vb : Value), k ≤ L.length ∧ i = .int .i64 k ∧ Bd wr w.heap.size w.heap.size (L.take k).length (Bt.num (L.take k)) vb ∧ Below w.heap.size w wr) (fun i _ => L.length - (intOf i).toNat)
  case atStart => exact ⟨0, .slice none 0 0, by omega, rfl, Bd.new w, (Below.refl _ _).alloc (Nat.le_refl _) _⟩
  case round =>
    obtain ⟨k, vb, hk, rfl, hb, hbel⟩ := hrel
    have HB := hidden hb
    have HBL := hidden hbel
    clear hb hbel
    by_cases hlt : k < L.length
    · obtain ⟨g, off, rfl, hg, hcell⟩ := HC.out (by omega)
      have c0 := (HBL.out.cell (p := ⟨g, off + k, none⟩) hg).trans (hcell k hlt)
      have hlen : (L.take k).length ≤ k := List.length_take_le _ _
      obtain ⟨o, ho⟩ : ∃ o, o = L.getD k false := ⟨_, rfl⟩
      rw [← ho] at c0
      have HO := hidden ho
      clear hcell ho
      go_wp2_with (go_at_call 94; refine (Bit_list w.heap.size w.heap.size (L.take k) vb o _ HB.out (by omega)).mono ?_; rintro e w1 ⟨rfl, v1, hq1, hq2⟩; have HQ1 := hidden hq1; have HQ2 := hidden hq2; clear hq1 hq2)
      go_roundw
      case rel => exact ⟨k + 1, v1, by omega, by go_num, by rw [take_next L k hlt, ← HO.out]; exact HQ1.out, HBL.out.trans (HQ2.out.below HB.out)⟩
      case measure => simp [intOf]; omega
    · obtain rfl : k = L.length := by omega
      have hz := HB.out
      rw [List.take_of_length_le (Nat.le_refl _)] at hz
      have HZ := hidden hz
      clear hz
      go_wp2_with (go_at_call 73; refine (BRow_any w.heap.size _ _ w.heap.size vb _ HZ.out).mono ?_; rintro e w1 ⟨r, u, rfl, hq⟩; have HQ := hidden hq; clear hq)
      go_ret
      have hs := HBL.out.size
      obtain ⟨q1, q2, q3, q4⟩ := HQ.out
      exact ⟨r, u, rfl, q1, HBL.out.trans (q2.mono hs)⟩
set_option maxHeartbeats 1000000 in
theorem smWrite_any (B b v : Nat) (l : List UInt8) (w : World) (h : Eb B b l w) (hl : l.length ≤ 70368744177664) (hBw : B ≤ w.heap.size) :
    Calls Tryz.prog 44 #[.pointer (some ⟨b, 0, none⟩), .int .i64 v] w fun e w' => e = .returned (.tuple #[]) ∧ Eb B b (l ++ Bt.eightB v) w' ∧ Below B w w' := by
  have HH : Hid (Eb B b l w) := hidden h
  clear h
  go_enter Tryz.func44, Tryz.ntmps44
  go_wp2
  go_loopw [5] (fun i wr => ∃ k : Nat, k ≤ 8 ∧ i = .int .i64 k ∧ Eb B b (l ++ (Bt.eightB v).take k) wr ∧ Below B w wr) (fun i _ => 8 - (intOf i).toNat)
  case atStart => exact ⟨0, by omega, rfl, by rw [List.take_zero, List.append_nil]; exact HH.out, Below.refl _ _⟩
  case round =>
    obtain ⟨k, hk, rfl, hb, hbel⟩ := hrel
    have hsz := hbel.size
    have HB := hidden hb
    have HBL := hidden hbel
    clear hb hbel
    by_cases hlt : k < 8
    · have hlen : (l ++ (Bt.eightB v).take k).length + 1 ≤ 140737488355328 := by
        rw [List.length_append, List.length_take, Bt.eightB_length]
        omega
      go_wp2_with fail
      refine (kWriteB B b _ (UInt8.ofNat (v / 2 ^ (8 * k) % 256)) _ _ HB.out ?hc hlen (by omega)).mono ?_
      case hc =>
        rw [UInt8.toNat_ofNat_of_lt' (by have := Nat.mod_lt (v / 2 ^ (8 * k)) (show 0 < 256 by decide); exact this)]
        simp
      rintro e w1 ⟨rfl, h1, h2⟩
      have HQ1 := hidden h1
      have HQ2 := hidden h2.1
      clear h1 h2
      go_wp2_with fail
      go_roundw
      case rel =>
        refine ⟨k + 1, by omega, by go_num, ?_, HBL.out.trans HQ2.out⟩
        rw [Bt.eightB_next v k hlt, ← List.append_assoc]
        exact HQ1.out
      case measure => simp [intOf]; omega
    · obtain rfl : k = 8 := by omega
      go_wp2
      go_end0
      have hb := HB.out
      rw [List.take_of_length_le (by rw [Bt.eightB_length]; omega)] at hb
      exact ⟨rfl, hb, HBL.out⟩
set_option maxHeartbeats 1000000 in
theorem smNumber_any (s : ByteArray) (w : World) (h : s.size = 8) :
    Calls Tryz.prog 61 #[.string s] w fun e w' => e = .returned (.int .u64 ((Bt.le8 s 0 : Nat) : Int)) ∧ w' = w := by
  go_enter Tryz.func61, Tryz.ntmps61
  go_wp2
  go_loop [3, 7] (fun v i => ∃ k : Nat, k ≤ 8 ∧ i = .int .i64 k ∧ v = .int .u64 ((Bt.numB (s.data.toList.take k) : Nat) : Int)) (fun _ i => 8 - (intOf i).toNat)
  case atStart => exact ⟨0, by omega, rfl, rfl⟩
  case round =>
    obtain ⟨k, hk, rfl, rfl⟩ := hrel
    by_cases hlt : k < 8
    · have hi : 0 + k < s.size := by omega
      have hor := hidden (Bt.part_or s 0 k hi hlt)
      simp only [Nat.zero_add, List.drop_zero] at hor hi
      have hb := s[k].toNat_lt
      go_wp2
      go_round
      case rel =>
        exact ⟨k + 1, by omega, by go_num, by rw [hor.out]⟩
      case measure => simp [intOf]; omega
    · obtain rfl : k = 8 := by omega
      go_wp2
      go_ret
      exact ⟨rfl, rfl⟩
end Go.Proofs.YtoipliflphbeiaaGreatDoor
