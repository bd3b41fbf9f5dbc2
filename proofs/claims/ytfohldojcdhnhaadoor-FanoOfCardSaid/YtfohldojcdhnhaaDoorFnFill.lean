/-
  The contract of fill of package fano: 0s are put behind the others till there are so many bits.
-/
import Derived.Test.YtfohldojcdhnhaaDoorFnShape
import Derived.Test.YtfohldojcdhnhaaDoorTwo
namespace Go.Proofs.YtfohldojcdhnhaaDoor
open Go.RowKit
theorem Kp.trans {w w1 w2 : World} {b : Nat} {v v1 v2 : Value} (h : Kp w w1 b v v1) (g : Kp w1 w2 b v1 v2) : Kp w w2 b v v2 := by
  refine ⟨g.os.trans h.os, g.tape.trans h.tape, g.output.trans h.output, Nat.le_trans h.size g.size, fun k hk h1 h2 => ?_, ?_⟩
  · rw [g.block k (Nat.lt_of_lt_of_le hk h.size) h1 ?_, h.block k hk h1 h2]
    intro e
    rcases h.own with e2 | ⟨j, e2, hj⟩
    · exact h2 (e2 ▸ e)
    · rw [e2] at e
      simp at e
      omega
  · rcases g.own with e | ⟨j, e, hj⟩
    · rcases h.own with e2 | ⟨j, e2, hj⟩
      · exact .inl (e.trans e2)
      · exact .inr ⟨j, e.trans e2, hj⟩
    · exact .inr ⟨j, e, Nat.le_trans h.size hj⟩
theorem Kp.drew_left {w w' : World} {b : Nat} {v v' : Value} (h : Kp w.drew w' b v v') : Kp w w' b v v' := ⟨h.os, h.tape, h.output, h.size, h.block, h.own⟩
theorem Fn.pad_zero (L : List Bool) (k : Nat) : L ++ Bt.bitsTo 0 k = Fn.pad L (L.length + k) := by
  unfold Fn.pad
  congr 1
  rw [show L.length + k - L.length = k from by omega]
  apply List.ext_getElem?
  intro i
  by_cases h : i < k
  · rw [Bt.bitsTo_get 0 k i h]
    simp [h]
  · rw [List.getElem?_eq_none (by rw [Bt.bitsTo_length]; omega), List.getElem?_eq_none (by simp; omega)]
theorem Put_zero (b B k : Nat) (L : List Bool) (v : Value) (w : World) (h : Bd w B b L.length (Bt.num L) v) (hk : k ≤ 64) (hn : L.length + k ≤ 4294967296) :
    Calls Tryd.prog 42 #[.pointer (some ⟨b, 0, none⟩), .int .u64 0, .int .i64 (k : Nat)] w fun e w' => e = .returned (.int .i64 0) ∧ ∃ v', Bd w' B b (Fn.pad L (L.length + k)).length (Bt.num (Fn.pad L (L.length + k))) v' ∧ Kp w w' b v v' := by
  rw [← Fn.pad_zero, List.length_append, Bt.bitsTo_length, Bt.num_put L 0 k (Nat.two_pow_pos _)]
  exact Put_ok b _ _ 0 k B v w h (Nat.two_pow_pos _) hk hn
set_option maxHeartbeats 1000000 in
theorem fill_any (b B m : Nat) (z : Int) (L : List Bool) (v : Value) (w : World) (h : Bd w B b L.length (Bt.num L) v) (hm : m ≤ 4294967296) (hz : z = (m : Int)) :
    Calls Tryd.prog 44 #[.pointer (some ⟨b, 0, none⟩), .int .i64 z] w fun e w' => e = .returned (.tuple #[]) ∧ ∃ v', Bd w' B b (Fn.pad L m).length (Bt.num (Fn.pad L m)) v' ∧ Kp w w' b v v' := by
  subst hz
  have HB := hidden h
  have hL := h.len
  clear h
  go_enter Tryd.func44, Tryd.ntmps44
  go_wp2
  go_loopw [] (fun wr => ∃ (j : Nat) (vb : Value), j ≤ max L.length m ∧ L.length ≤ j ∧ Bd wr B b (Fn.pad L j).length (Bt.num (Fn.pad L j)) vb ∧ Kp w wr b v vb) (fun wr => m - (intOf ((wr.cell? ⟨b, 0, none⟩).getD undef)).toNat)
  case atStart => exact ⟨L.length, v, by omega, by omega, by rw [Fn.pad_of_le _ _ (Nat.le_refl _)]; exact HB.out, Kp.refl _ _ _⟩
  case round =>
    obtain ⟨j, vb, hj, hj2, hb, hk⟩ := hrel
    have hlen : (Fn.pad L j).length = j := by rw [Fn.pad_length]; omega
    have HBj := hidden hb
    have HK := hidden hk
    have c0 := hidden hb.cell0
    rw [hlen] at hb
    have HLen := hidden (BLen_any b j (Bt.num (Fn.pad L j)) B vb wr hb)
    have HLN := hidden hlen
    clear hb hk hlen
    by_cases hlt : j < m
    · obtain ⟨k, hk⟩ : ∃ k : Nat, k = min 64 (m - j) := ⟨_, rfl⟩
      have hk2 : min (64 : Int) ((m : Int) - (j : Int)) = (k : Int) := by omega
      have hk3 : k ≤ 64 := by omega
      have hk4 : 1 ≤ k := by omega
      have hk5 : j + k ≤ m := by omega
      clear hk
      have HP := hidden (Put_zero b B k (Fn.pad L j) vb wr HBj.out hk3 (by rw [HLN.out]; omega))
      go_wp2_with (first
        | (go_at_call 70; refine (HLen.out).mono ?_; rintro e w1 ⟨rfl, rfl⟩)
        | (go_at_call 42; refine (HP.out).mono ?_; rintro e w1 ⟨rfl, v1, hq1, hq2⟩; have HQ1 := hidden hq1; have HQ2 := hidden hq2; clear hq1 hq2))
      go_roundw
      case rel =>
        have e := HQ1.out
        rw [HLN.out, Fn.pad_pad _ _ _ (by omega)] at e
        exact ⟨j + k, v1, by omega, by omega, e, HK.out.trans HQ2.out⟩
      case measure =>
        have e := HQ1.out.cell0
        have e2 := c0.out
        rw [HLN.out, Fn.pad_pad _ _ _ (by omega), Fn.pad_length] at e
        rw [HLN.out] at e2
        rw [e, e2]
        simp [intOf]
        omega
    · go_wp2_with (go_at_call 70; refine (HLen.out).mono ?_; rintro e w1 ⟨rfl, rfl⟩)
      go_end0
      have e := HBj.out
      rw [show Fn.pad L j = Fn.pad L m from by rcases Nat.lt_or_ge m L.length with h | h; rw [Fn.pad_of_le _ _ (by omega), Fn.pad_of_le _ _ (by omega)]; rw [show j = m from by omega]] at e
      exact ⟨rfl, vb, e, HK.out⟩
end Go.Proofs.YtfohldojcdhnhaaDoor
