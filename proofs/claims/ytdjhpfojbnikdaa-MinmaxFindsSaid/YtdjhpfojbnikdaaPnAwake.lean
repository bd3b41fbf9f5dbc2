/-
  What the laws of layer 6 share: awake, and a row made of a list of bits wherever it lies.
-/
import Derived.Test.YtdjhpfojbnikdaaPnCount
import Derived.Test.YtdjhpfojbnikdaaPnRef
namespace Go.Proofs.Ytdjhpfojbnikdaa
open Go.RowKit
theorem Bv.below {w w' : World} {v : Value} {L : List Bool} {C : Nat} (h : Bv w v L) (hb : Below C w w') (hC : w.heap.size ≤ C) : Bv w' v L := by
  obtain ⟨ao, cap, hu, hc, hf⟩ := h
  refine ⟨ao, cap, hu, hc, fun h0 => ?_⟩
  obtain ⟨b, off, ha, hlt, hcell⟩ := hf h0
  refine ⟨b, off, ha, by have := hb.size; omega, fun i hi => ?_⟩
  exact (hb.cell (p := ⟨b, _, none⟩) (by show b < C; omega)).trans (hcell i hi)
set_option maxHeartbeats 1000000 in
theorem Made_view (L : List Bool) (v : Value) (w : World) (h : Bv w v L) (hL : L.length ≤ 4294967295) :
    Calls Try.prog 10 #[v] w fun e w' => ∃ r u, e = .returned (.pointer (some ⟨r, 0, none⟩)) ∧ Rw w' r L.length (Bt.num L) u ∧ Below w.heap.size w w' := by
  obtain ⟨ao, cap, rfl, hcap, hc⟩ := h
  have HC := hidden hc
  clear hc
  go_enter Try.func10, Try.ntmps10
  go_wp2
  go_loopw [4] (fun i wr => ∃ (k : Nat) (vb : Value), k ≤ L.length ∧ i = .int .i64 k ∧ Bd wr w.heap.size w.heap.size (L.take k).length (Bt.num (L.take k)) vb ∧ Below w.heap.size w wr) (fun i _ => L.length - (intOf i).toNat)
  case atStart => exact ⟨0, .slice none 0 0, by omega, rfl, Bd.new w, (Below.refl _ _).alloc (Nat.le_refl _) _⟩
  case round =>
    obtain ⟨k, vb, hk, rfl, hb, hbel⟩ := hrel
    have HB := hidden hb
    have HBL := hidden hbel
    clear hb hbel
    by_cases hlt : k < L.length
    · obtain ⟨g, off, rfl, hg, hcell⟩ := HC.out (by omega)
      have c0 := (HBL.out.cell (p := ⟨g, off + k, none⟩) hg).trans (hcell k hlt)
      have hlen : (L.take k).length ≤ k := List.length_take_le _ _
      obtain ⟨o, ho⟩ : ∃ o, o = L.getD k false := ⟨_, rfl⟩
      rw [← ho] at c0
      have HO := hidden ho
      clear hcell ho
      go_wp2_with (go_at_call 24; refine (Bit_list w.heap.size w.heap.size (L.take k) vb o _ HB.out (by omega)).mono ?_; rintro e w1 ⟨rfl, v1, hq1, hq2⟩; have HQ1 := hidden hq1; have HQ2 := hidden hq2; clear hq1 hq2)
      go_roundw
      case rel => exact ⟨k + 1, v1, by omega, by go_num, by rw [take_next L k hlt, ← HO.out]; exact HQ1.out, HBL.out.trans (HQ2.out.below HB.out)⟩
      case measure => simp [intOf]; omega
    · obtain rfl : k = L.length := by omega
      have hz := HB.out
      rw [List.take_of_length_le (Nat.le_refl _)] at hz
      have HZ := hidden hz
      clear hz
      go_wp2_with (go_at_call 25; refine (BRow_any w.heap.size _ _ w.heap.size vb _ HZ.out).mono ?_; rintro e w1 ⟨r, u, rfl, hq⟩; have HQ := hidden hq; clear hq)
      go_ret
      have hs := HBL.out.size
      obtain ⟨q1, q2, q3, q4⟩ := HQ.out
      exact ⟨r, u, rfl, q1, HBL.out.trans (q2.mono hs)⟩
end Go.Proofs.Ytdjhpfojbnikdaa
