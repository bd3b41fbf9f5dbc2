/-
  The contract of laceworklaw10's text: a whole number as it is written; memory is but made.
-/
import Derived.Laws.BytesArg
import Derived.Test.YthimbaflodphmaaDoorNuOf
namespace Go.Proofs.YthimbaflodphmaaDoor
open Go.RowKit
open Nu
namespace Nu
def txt (n : Int) : List UInt8 := (if n < 0 then [45] else []) ++ Lib.decDigits n.natAbs
theorem below_next {a b c : World} (h : Below a.heap.size a b) (k : Below b.heap.size b c) : Below a.heap.size a c := h.trans (k.mono h.size)
theorem one_byte (x : Int) (u : World) :
    Sem.run Tryd.prog (convert 56 9 (.slice (some ⟨u.heap.size, 0, none⟩) 1 1)) (u.alloc (.cells #[.int .u8 x] 5)) = .ok (.string (strOfNums [x])) (u.alloc (.cells #[.int .u8 x] 5)) := by
  refine run_convert_bytes_arg _ 56 5 Tryd.underlying56 Tryd.underlying5 _ 0 1 1 [x] rfl ?_ 9 Tryd.underlying9
  intro i hi
  obtain rfl : i = 0 := by omega
  rw [Nat.zero_add, Lib.cell_of_heap (heap_alloc_new _ _)]
  rfl
theorem dec_at (u i : Nat) (h : i < Lib.nDigits u) : (Lib.decDigits u)[i]? = some (UInt8.ofNat (48 + u / 10 ^ (Lib.nDigits u - 1 - i) % 10)) := by
  rw [Lib.decDigits_eq, List.getElem?_map, List.getElem?_range h]
  rfl
theorem cat_digit (l : List UInt8) (d : Nat) : str l ++ strOfNums [((48 + d : Nat) : Int)] = str (l ++ [UInt8.ofNat (48 + d)]) := by
  apply ByteArray.ext
  simp [str, strOfNums]
  rw [show (48 + (d : Int)).toNat = 48 + d by omega]
  rw [UInt8.ofNat_add]
  rfl
theorem cat_minus2 (l : List UInt8) : ((⟨#[45]⟩ : ByteArray) ++ str l) = str (45 :: l) := by
  apply ByteArray.ext
  simp [str]
end Nu
set_option maxHeartbeats 4000000 in
set_option maxRecDepth 100000 in
theorem text_any (n : Int) (h0 : -9223372036854775808 ≤ n) (h1 : n ≤ 9223372036854775807) (w : World) :
    Calls Tryd.prog 17 #[.int .i64 n] w fun e w' => e = .returned (.string (str (txt n))) ∧ Below w.heap.size w w' := by
  have hcat := cat_minus2 (Lib.decDigits n.natAbs)
  have htx : txt n = if n < 0 then 45 :: Lib.decDigits n.natAbs else Lib.decDigits n.natAbs := by
    unfold txt
    split <;> rfl
  obtain ⟨u, hu⟩ : ∃ u, u = n.natAbs := ⟨_, rfl⟩
  have hu64 : u < 18446744073709551616 := by omega
  have hD1 := Lib.nDigits_pos u
  have hD20 : Lib.nDigits u ≤ 20 := by
    by_cases h1u : 1 ≤ u
    · have := Lib.numDigits_eq u h1u hu64
      split at this <;> omega
    · rw [Lib.nDigits_small (by omega)]
      omega
  have hlen := Lib.decDigits_length u
  have hof := rOf_any n h0 h1 w
  unfold OfPost at hof
  rw [← hu] at hof hcat htx
  have HDA := hidden (dec_at u)
  have hdg := dgs_at u
  obtain ⟨N, hN⟩ : ∃ N, N = Lib.nDigits u := ⟨_, rfl⟩
  rw [← hN] at hD1 hD20 hlen hof HDA hdg
  have HDG := hidden hdg
  obtain ⟨dec, hdec⟩ : ∃ dec, dec = Lib.decDigits u := ⟨_, rfl⟩
  rw [← hdec] at hlen hcat htx HDA
  have HTX := hidden htx
  have HCAT := hidden hcat
  have HLEN := hidden hlen
  clear hcat htx hu hN hdec hdg hlen
  go_enter Tryd.func17, Tryd.ntmps17
  go_wp2_with fail
  refine hof.mono ?_
  rintro e w1 ⟨v, rfl, hown, hb1⟩
  obtain ⟨c, cap, hv, _⟩ := own_any hown
  subst hv
  obtain ⟨g, hc, hcells⟩ : ∃ g, c = some ⟨g, 0, none⟩ ∧ ∀ i, i < N → w1.cell? ⟨g, i, none⟩ = some (.int .i64 ((u / 10 ^ (N - 1 - i) % 10 : Nat) : Int)) := by
    rcases hown.2 with ⟨h, _⟩ | ⟨g, cap2, cur, h, _⟩
    · exfalso
      simp at h
      omega
    · have hc : c = some ⟨g, 0, none⟩ := by
        simp only [Value.slice.injEq] at h
        exact h.1
      refine ⟨g, hc, fun i hi => ?_⟩
      have hx := hown.cells (g := g) (by rw [hc]; rfl) i (.int .i64 ((u / 10 ^ (N - 1 - i) % 10 : Nat) : Int)) (by rw [iv, List.getElem?_map, HDG.out i hi]; rfl)
      have e : (⟨g, 0, none⟩ : Addr).add i = ⟨g, i, none⟩ := by unfold Addr.add; split <;> simp_all
      rwa [e] at hx
  subst hc
  have hlg : g < w1.heap.size := World.block_lt_of_cell? _ _ (hcells 0 (by omega))
  obtain ⟨w2, hw2⟩ : ∃ w2, w2 = w1.alloc (.cells #[.bool (decide (n < 0)), .slice (some ⟨g, 0, none⟩) N cap, .int .i64 (N : Nat), .int .i64 0] 47) := ⟨_, rfl⟩
  have hb2 : Below w1.heap.size w1 w2 := by rw [hw2]; exact (Below.refl _ _).alloc (Nat.le_refl _) _
  have hbox : w2.heap[w1.heap.size]? = some (.cells #[.bool (decide (n < 0)), .slice (some ⟨g, 0, none⟩) N cap, .int .i64 (N : Nat), .int .i64 0] 47 (0, 0)) := by rw [hw2]; exact heap_alloc_new _ _
  have hcells2 : ∀ (wr : World), Below w2.heap.size w2 wr → ∀ i, i < N → wr.cell? ⟨g, i, none⟩ = some (.int .i64 ((u / 10 ^ (N - 1 - i) % 10 : Nat) : Int)) := fun wr hb i hi => by
    have e1 := hb2.cell (p := ⟨g, i, none⟩) hlg
    have e2 := hb.cell (p := ⟨g, i, none⟩) (Nat.lt_of_lt_of_le hlg hb2.size)
    rw [e2, e1]
    exact hcells i hi
  have HB2 := hidden (below_next hb1 hb2)
  have HBOX := hidden hbox
  have HCE := hidden hcells2
  have hob := one_byte
  have HW2 := hidden hw2
  clear hown hb1 hb2 hcells hbox hcells2 hw2 hof
  go_wp2_with fail
  rw [← HW2.out]
  go_loopw [3, 5] (fun s i wr => ∃ k : Nat, k ≤ N ∧ i = .int .i64 k ∧ s = .string (str (dec.take k)) ∧ Hid (Below w2.heap.size w2 wr)) (fun _ i _ => N - (intOf i).toNat)
  case atStart => exact ⟨0, by omega, rfl, by rw [List.take_zero]; rfl, hidden (Below.refl _ _)⟩
  case round =>
    obtain ⟨k, hk, rfl, rfl, HB⟩ := hrel
    have hbox3 := (HB.out.block _ (lt_of_block HBOX.out)).trans HBOX.out
    have c0 := Lib.cell_of_heap hbox3 0
    have c1 := Lib.cell_of_heap hbox3 1
    simp only [List.getElem?_toArray, List.getElem?_cons_zero, List.getElem?_cons_succ] at c0 c1
    have hwr := HB.out.size
    clear hbox3
    by_cases hlt : k < N
    · have hck := HCE.out _ HB.out k hlt
      have hda := HDA.out k hlt
      obtain ⟨d, hd⟩ : ∃ d, d = u / 10 ^ (N - 1 - k) % 10 := ⟨_, rfl⟩
      have hd9 : d ≤ 9 := by omega
      rw [← hd] at hck hda
      have hcd := cat_digit (dec.take k) d
      have htk : dec.take k ++ [UInt8.ofNat (48 + d)] = dec.take (k + 1) := by rw [List.take_add_one, hda]; rfl
      rw [htk] at hcd
      have hcast : ((48 + d : Nat) : Int) = 48 + (d : Int) := by omega
      rw [hcast] at hcd
      have hwrap : IntKind.u8.wrap (48 + (d : Int)) = 48 + (d : Int) := by rw [IntKind.wrap_u8]; omega
      have hs1 : (str (dec.take k)).size ≤ 20 := by rw [str_size, List.length_take]; omega
      have hs2 : (strOfNums [48 + (d : Int)]).size = 1 := by rw [strOfNums_size]; rfl
      clear hd hda htk hcast
      go_wp2_with fail
      go_roundw
      case rel => exact ⟨k + 1, by omega, by go_num, rfl, hidden (HB.out.alloc hwr _)⟩
      case measure => simp [intOf]; omega
    · obtain rfl : k = N := by omega
      have hta : dec.take k = dec := List.take_of_length_le (by rw [HLEN.out]; exact Nat.le_refl _)
      have hcat := HCAT.out
      have hs1 : (str dec).size ≤ 20 := by rw [str_size, HLEN.out]; omega
      rw [hta]
      clear hta
      by_cases hn : n < 0
      · have hdn : decide (n < 0) = true := decide_eq_true hn
        have ht : txt n = 45 :: dec := by rw [HTX.out, if_pos hn]
        have HT := hidden ht
        rw [hdn] at c0
        clear ht hdn
        go_wp2_with fail
        go_ret
        exact ⟨by rw [HT.out]; rfl, below_next HB2.out HB.out⟩
      · have hdn : decide (n < 0) = false := decide_eq_false hn
        have ht : txt n = dec := by rw [HTX.out, if_neg hn]
        have HT := hidden ht
        rw [hdn] at c0
        clear ht hdn
        go_wp2_with fail
        go_ret
        exact ⟨by rw [HT.out]; rfl, below_next HB2.out HB.out⟩
end Go.Proofs.YthimbaflodphmaaDoor
