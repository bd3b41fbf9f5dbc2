/-
  Slices of pieces, and the bits that they make: the contract of law07's Bits, for every list of pieces; nothing that was there is changed.
-/
import Derived.Test.YtmeclkmmgbndkaaGreatDoorJBtList
import Derived.Test.YtmeclkmmgbndkaaGreatDoorJBtMem
namespace Go.Proofs.YtmeclkmmgbndkaaGreatDoor
open Go.RowKit
/-- The bits of the first k pieces, at most 4000 in all. -/
def Mx.bitsOf (l : List (Bool × Nat)) : Nat → List Bool
  | 0 => []
  | k + 1 => Mx.bitsOf l k ++ List.replicate (min (l.getD k (false, 0)).2 (4000 - (Mx.bitsOf l k).length)) (l.getD k (false, 0)).1
theorem Mx.bitsOf_len (l : List (Bool × Nat)) (k : Nat) : (Mx.bitsOf l k).length ≤ 4000 := by
  induction k with
  | zero => exact Nat.zero_le _
  | succ k ih =>
    show (Mx.bitsOf l k ++ _).length ≤ 4000
    rw [List.length_append, List.length_replicate]
    omega
def Mx.allOf (l : List (Bool × Nat)) : List Bool := Mx.bitsOf l (min l.length 400)
/-- A slice of pieces. -/
structure Pcs (w : World) (u : Value) (l : List (Bool × Nat)) : Prop where
  small : ∀ i, i < l.length → (l.getD i (false, 0)).2 < 65536
  cells : ∃ ao cap, u = .slice ao l.length cap ∧ l.length ≤ cap ∧ (0 < l.length → ∃ b off, ao = some ⟨b, off, none⟩ ∧ b < w.heap.size ∧ ∀ i, i < l.length → w.cell? ⟨b, off + i * 2, none⟩ = some (.bool (l.getD i (false, 0)).1) ∧ w.cell? ⟨b, off + i * 2 + 1, none⟩ = some (.int .u16 ((l.getD i (false, 0)).2 : Nat)))
theorem Pcs.below {w w' : World} {u : Value} {l : List (Bool × Nat)} {C : Nat} (h : Pcs w u l) (hb : Below C w w') (hC : w.heap.size ≤ C) : Pcs w' u l := by
  obtain ⟨ao, cap, hu, hc, hf⟩ := h.cells
  refine ⟨h.small, ao, cap, hu, hc, fun h0 => ?_⟩
  obtain ⟨b, off, ha, hlt, hcell⟩ := hf h0
  refine ⟨b, off, ha, by have := hb.size; omega, fun i hi => ?_⟩
  exact ⟨(hb.cell (p := ⟨b, _, none⟩) (by show b < C; omega)).trans (hcell i hi).1, (hb.cell (p := ⟨b, _, none⟩) (by show b < C; omega)).trans (hcell i hi).2⟩
theorem own_slice {w : World} {B : Nat} {e : TypeId} {s : Nat} {v : Value} {n : Nat} {xs : List Value} (h : w.ownsRow B e s v n xs) : ∃ c cap, v = .slice c n cap ∧ n ≤ cap := by
  rcases h.2 with ⟨rfl, rfl⟩ | ⟨g, cap, cur, hv, _, _, hc, _⟩
  · exact ⟨none, 0, rfl, Nat.le_refl _⟩
  · exact ⟨_, cap, hv, hc⟩
theorem Mx.rep_next (L : List Bool) (o : Bool) (j : Nat) : Bt.bls (L ++ List.replicate j o) ++ [.bool o] = Bt.bls (L ++ List.replicate (j + 1) o) := by
  rw [List.replicate_succ', ← List.append_assoc, Bt.bls_append (L ++ List.replicate j o)]
  rfl
theorem Tryz.infoBool7 : (Tryz.prog.info? 4).map (fun i => (i.zero, i.size, i.bytes)) = some (some (.bool false), 1, 1) := by kernel_rfl
set_option maxHeartbeats 2000000 in
set_option maxRecDepth 100000 in
theorem Bits7_any (l : List (Bool × Nat)) (u : Value) (w : World) (h : Pcs w u l) (hm : l.length ≤ 9223372036854775807) :
    Calls Tryz.prog 5 #[u] w fun e w' => ∃ v, e = .returned v ∧ Bl w' v (Mx.allOf l) ∧ Below w.heap.size w w' := by
  obtain ⟨i0, hi, hz0, hz1, hz2⟩ := info_parts Tryz.infoBool7
  have HS := hidden h.small
  obtain ⟨ao, cap, rfl, hcap, hcell⟩ := h.cells
  have HC := hidden hcell
  clear h hcell
  go_enter Tryz.func5, Tryz.ntmps5
  go_wp2_with fail
  go_loopw [3, 4] (fun s3 s4 wr => ∃ k : Nat, k ≤ min l.length 400 ∧ s4 = .int .i64 (k : Nat) ∧ wr.ownsRow w.heap.size 4 1 s3 (Mx.bitsOf l k).length (Bt.bls (Mx.bitsOf l k)) ∧ Below w.heap.size w wr) (fun _ s4 _ => min l.length 400 - (intOf s4).toNat)
  case atStart => exact ⟨0, by omega, rfl, World.ownsRow_nil _ _ _ _, Below.refl _ _⟩
  case round =>
    obtain ⟨k, hk, rfl, hown, hbel⟩ := hrel
    have HO := hidden hown
    have HB := hidden hbel
    clear hown hbel
    by_cases hlt : k < min l.length 400
    · have hlt1 : k < l.length := by omega
      have hlt2 : k < 400 := by omega
      have hlt3 : (k : Int) < (l.length : Int) := by omega
      have hlt4 : (k : Int) < 400 := by omega
      obtain ⟨b, off, rfl, hbs, hcl⟩ := HC.out (by omega)
      obtain ⟨hc0, hc1⟩ := hcl k hlt1
      have hsm := HS.out k hlt1
      have HLEN := hidden (Mx.bitsOf_len l k)
      obtain ⟨o, ho⟩ : ∃ o, o = (l.getD k (false, 0)).1 := ⟨_, rfl⟩
      obtain ⟨N, hN⟩ : ∃ N, N = (l.getD k (false, 0)).2 := ⟨_, rfl⟩
      rw [← ho] at hc0
      rw [← hN] at hc1 hsm
      have HNX : Hid (Mx.bitsOf l (k + 1) = Mx.bitsOf l k ++ List.replicate (min N (4000 - (Mx.bitsOf l k).length)) o) := by
        show Mx.bitsOf l k ++ _ = _
        rw [ho, hN]
      generalize Mx.bitsOf l k = L at *
      have HC0 := hidden hc0
      have HC1 := hidden hc1
      have i0' : (0 : Int) ≤ (k : Int) := by omega
      clear ho hN hcl hc0 hc1 hlt
      go_wp2_with fail
      go_hide hQ
      go_loopw [3, 5] (fun s3 s5 wr2 => ∃ j : Nat, j ≤ min N (4000 - L.length) ∧ s5 = .int .i64 (j : Nat) ∧ wr2.ownsRow w.heap.size 4 1 s3 (L.length + j) (Bt.bls (L ++ List.replicate j o)) ∧ Below w.heap.size w wr2) (fun _ s5 _ => N - (intOf s5).toNat)
      case atStart => exact ⟨0, by omega, rfl, by simpa using HO.out, HB.out⟩
      case round =>
        obtain ⟨j, hj, rfl, hown, hbel⟩ := hrel
        obtain ⟨c, cap2, hv, hcap2⟩ := own_slice hown
        subst hv
        have HO2 := hidden hown
        have HB2 := hidden hbel
        have hsz := hbel.size
        have c0 := (hbel.cell (p := ⟨b, off + k * 2, none⟩) hbs).trans HC0.out
        have c1 := (hbel.cell (p := ⟨b, off + k * 2 + 1, none⟩) hbs).trans HC1.out
        have hLL := HLEN.out
        clear hown hbel
        by_cases hlt : j < min N (4000 - L.length)
        · have hj1 : (j : Int) < (N : Int) := by omega
          have hj2 : (L.length : Int) + (j : Int) < 4000 := by omega
          go_wp2_with (at_builtin; refine wpList_append_one _ rfl (.tmp 31) (.tmp 37) 25 rfl w.heap.size 4 i0 (.bool false) 1 Tryz.underlying25 hi hz0 hz1 hz2 rfl (.slice c (L.length + j) cap2) (L.length + j) (Bt.bls (L ++ List.replicate j o)) rfl (by exact HO2.out.alloc _) _ 1 (.bool o) _ rfl (by exact heap_alloc_new _ _) rfl (by unfold maxLen; omega) (by omega) (by simp; omega) ?_; intro v3 w3 hown3 hgrow3; have HO3 := hidden hown3; have HB3 : Hid (Below w.heap.size w w3) := (HB2.out.alloc hsz _).grown hgrow3 (by simp; omega) (fun q e => (HO2.out.lt q e).1); clear hown3 hgrow3)
          go_roundw
          case rel =>
            refine ⟨j + 1, by omega, by go_num, ?_, HB3.out⟩
            have := HO3.out
            rw [Mx.rep_next] at this
            exact this
          case measure => simp [intOf]; omega
        · have HE : Hid (Mx.bitsOf l (k + 1) = L ++ List.replicate j o) := by
            show _ = _
            rw [HNX.out, show min N (4000 - L.length) = j from by omega]
          have HL : Hid ((Mx.bitsOf l (k + 1)).length = L.length + j) := by
            show _ = _
            rw [HE.out, List.length_append, List.length_replicate]
          by_cases hjn : j < N
          · have hj1 : (j : Int) < (N : Int) := by omega
            have hj2 : ¬ ((L.length : Int) + (j : Int) < 4000) := by omega
            go_wp2_with fail
            subst hQ
            go_wp2_with fail
            go_roundw
            case rel => exact ⟨k + 1, by omega, by go_num, by rw [HL.out, HE.out]; exact HO2.out, HB2.out⟩
            case measure => simp [intOf]; omega
          · have hj1 : ¬ ((j : Int) < (N : Int)) := by omega
            go_wp2_with fail
            subst hQ
            go_wp2_with fail
            go_roundw
            case rel => exact ⟨k + 1, by omega, by go_num, by rw [HL.out, HE.out]; exact HO2.out, HB2.out⟩
            case measure => simp [intOf]; omega
    · obtain rfl : k = min l.length 400 := by omega
      have HO2 : Hid (wr.ownsRow 0 4 1 u3 (Mx.allOf l).length (Bt.bls (Mx.allOf l))) := own_base HO.out (Nat.zero_le _)
      by_cases h4 : l.length < 400
      · have e : min l.length 400 = l.length := by omega
        rw [e]
        clear hlt e
        go_wp2_with fail
        go_ret
        exact ⟨_, rfl, HO2.out, HB.out⟩
      · have e : min l.length 400 = 400 := by omega
        rw [e]
        clear hlt e
        by_cases h5 : l.length = 400
        · rw [h5]
          go_wp2_with fail
          go_ret
          exact ⟨_, rfl, HO2.out, HB.out⟩
        · have h6 : (400 : Int) < (l.length : Int) := by omega
          go_wp2_with fail
          go_ret
          exact ⟨_, rfl, HO2.out, HB.out⟩
end Go.Proofs.YtmeclkmmgbndkaaGreatDoor
