/-
  The contract of laceworkref13's Inside: of every string; nothing that was there is changed.
-/
import Derived.Test.YtifkemcjificcaaMkRef
namespace Go.Proofs.Ytifkemcjificcaa
open Go.RowKit
namespace Mk
/-- Of each byte, whether it stands in a string. -/
def ins : Nat → List UInt8 → List Bool
  | _, [] => []
  | q, b :: l => (if q = 0 ∧ b.toNat ≠ 34 then false else true) :: ins (st q b.toNat) l
theorem ins_len (l : List UInt8) : ∀ q, (ins q l).length = l.length := by
  induction l with
  | nil => intro q; rfl
  | cons b l ih => intro q; exact congrArg (· + 1) (ih _)
theorem ins_at (l : List UInt8) : ∀ (q j : Nat) (h : j < l.length), (ins q l).getD j false = (if run q (l.take j) = 0 ∧ (l[j]).toNat ≠ 34 then false else true) := by
  induction l with
  | nil => intro q j h; cases h
  | cons b l ih =>
    intro q j h
    cases j with
    | zero => rfl
    | succ j => exact ih _ j (Nat.lt_of_succ_lt_succ h)
theorem run_next (l : List UInt8) : ∀ (q j : Nat) (h : j < l.length), run q (l.take (j + 1)) = st (run q (l.take j)) (l[j]).toNat := by
  induction l with
  | nil => intro q j h; cases h
  | cons b l ih =>
    intro q j h
    cases j with
    | zero => rfl
    | succ j => exact ih _ j (Nat.lt_of_succ_lt_succ h)
theorem madeB (c : Nat) : madeCells #[Value.bool false] c = Array.replicate c (Value.bool false) := by
  apply Array.toList_inj.1
  rw [toList_madeCells_one, Array.toList_replicate]
theorem Try.infoBm : (Try.prog.info? 4).map (fun i => (i.zero, i.size, i.bytes)) = some (some (.bool false), 1, 1) := by kernel_rfl
theorem mk_bits (c : Nat) (hc : c ≤ 4294967296) (u : World) : (Instr.makeSlice 28 (.int .i64 (c : Int)) (.int .i64 (c : Int))).run Try.prog u = .ok (.slice (some ⟨u.heap.size, 0, none⟩) c c) (u.alloc (.cells (Array.replicate c (Value.bool false)) 4)) := by
  obtain ⟨i0, hi, hz0, hz1, hz2⟩ := info_parts Try.infoBm
  have h := run_make (P := Try.prog) u 28 4 i0 (.bool false) Try.underlying28 hi hz0 .i64 .i64 (c : Int) (c : Int) (by omega) (Int.le_refl _) (by rw [hz2]; omega) (by omega)
  rw [← madeB]
  simpa [hz1, Value.cells] using h
/-- The cells after k steps. -/
def fil (F : List Bool) (k : Nat) : Array Value := (vb (F.take k) ++ List.replicate (F.length - k) (Value.bool false)).toArray
theorem fil_zero (F : List Bool) : fil F 0 = Array.replicate F.length (Value.bool false) := by
  apply Array.toList_inj.1
  rw [Array.toList_replicate]
  rfl
theorem fil_next (F : List Bool) (k : Nat) (h : k < F.length) : (fil F k).setIfInBounds k (.bool (F.getD k false)) = fil F (k + 1) := by
  obtain ⟨d, hd⟩ : ∃ d, F.length - k = d + 1 := ⟨F.length - k - 1, by omega⟩
  unfold fil
  have ht : F.take (k + 1) = F.take k ++ [F.getD k false] := by
    rw [List.take_add_one, List.getD_eq_getElem?_getD, List.getElem?_eq_getElem h]
    rfl
  rw [hd, show F.length - (k + 1) = d from by omega, ht, vb_app, List.replicate_succ]
  have hl : (vb (F.take k)).length = k := by rw [vb_len, List.length_take]; omega
  generalize vb (F.take k) = A at *
  subst hl
  simp [vb]
theorem fil_false (F : List Bool) (k : Nat) (h : k < F.length) (hf : F.getD k false = false) : fil F k = fil F (k + 1) := by
  rw [← fil_next F k h, hf]
  have hat : (fil F k)[k]? = some (Value.bool false) := by
    have hl : (vb (F.take k)).length = k := by rw [vb_len, List.length_take]; omega
    unfold fil
    rw [List.getElem?_toArray, List.getElem?_append_right (by omega), hl, Nat.sub_self, List.getElem?_replicate, if_pos (by omega)]
  apply Array.ext_getElem?
  intro i
  rw [Array.getElem?_setIfInBounds]
  by_cases h2 : k = i
  · subst h2
    rw [if_pos rfl, hat]
    obtain ⟨h3, _⟩ := Array.getElem?_eq_some_iff.1 hat
    rw [if_pos h3]
  · rw [if_neg h2]
theorem fil_at (F : List Bool) (k : Nat) (h : k < F.length) : (fil F k)[k]? = some (Value.bool false) := by
  have hl : (vb (F.take k)).length = k := by rw [vb_len, List.length_take]; omega
  unfold fil
  rw [List.getElem?_toArray, List.getElem?_append_right (by omega), hl, Nat.sub_self, List.getElem?_replicate, if_pos (by omega)]
theorem fil_own {w : World} {g : Nat} {F : List Bool} {n : Nat} (hn : F.length = n) (hl : n ≤ 4294967296) (hg : w.heap[g]? = some (.cells (fil F n) 4 (0, 0))) : Lb w g (.slice (some ⟨g, 0, none⟩) n n) F := by
  subst hn
  have e : fil F F.length = (vb F).toArray := by
    unfold fil
    rw [List.take_of_length_le (Nat.le_refl _), Nat.sub_self, List.replicate_zero, List.append_nil]
  rw [e] at hg
  exact ⟨by rw [vb_len]; omega, .inr ⟨g, F.length, _, rfl, Nat.le_refl _, hg, Nat.le_refl _, by unfold maxLen; omega, by rw [List.size_toArray, vb_len]; omega, by rw [List.take_of_length_le]; rw [vb_len]; omega⟩⟩
theorem set_same {w : World} {b j : Nat} {u : Value} {cur : Array Value} {e : TypeId} {fr : Nat × Nat} (h : w.heap[b]? = some (.cells cur e fr)) : (w.setCell ⟨b, j, none⟩ u).heap[b]? = some (.cells (cur.setIfInBounds j u) e fr) := by
  simp [World.setCell, Array.getElem?_modify, h]
end Mk
set_option maxHeartbeats 4000000 in
theorem mInside_any (s : ByteArray) (w : World) (hs : s.size ≤ 1000000) :
    Calls Try.prog 19 #[.string s] w fun e w' => (∃ v, e = .returned v ∧ Mk.Lb w' w.heap.size v (Mk.ins 0 s.data.toList)) ∧ Below w.heap.size w w' := by
  have hlen : s.data.toList.length = s.size := rfl
  have hmk := Mk.mk_bits s.size (by omega)
  have HFL : Hid ((Mk.ins 0 s.data.toList).length = s.size) := hidden (Mk.ins_len _ _)
  have HAT : Hid (∀ j (h : j < s.size), (Mk.ins 0 s.data.toList).getD j false = (if Mk.run 0 (s.data.toList.take j) = 0 ∧ s[j].toNat ≠ 34 then false else true)) := hidden fun j h => Mk.ins_at s.data.toList 0 j h
  have HRN : Hid (∀ j (h : j < s.size), Mk.run 0 (s.data.toList.take (j + 1)) = Mk.st (Mk.run 0 (s.data.toList.take j)) s[j].toNat) := hidden fun j h => Mk.run_next s.data.toList 0 j h
  clear hlen
  obtain ⟨F, hF⟩ : ∃ F, F = Mk.ins 0 s.data.toList := ⟨_, rfl⟩
  obtain ⟨R, hR⟩ : ∃ R : Nat → Nat, ∀ j, Mk.run 0 (s.data.toList.take j) = R j := ⟨_, fun _ => rfl⟩
  have hR0 : R 0 = 0 := (hR 0).symm
  rw [← hF] at HFL HAT ⊢
  simp only [hR] at HAT HRN
  have HR0 := hidden hR0
  clear hF hR hR0
  go_enter Try.func19, Try.ntmps19
  go_wp2_with fail
  go_loopw [4] (fun i wr => ∃ j : Nat, i = .int .i64 (j : Nat) ∧ j ≤ s.size + 1 ∧ (j < s.size → R j = 0) ∧ wr.heap[w.heap.size]? = some (.cells (Mk.fil F (min j s.size)) 4 (0, 0)) ∧ Below w.heap.size w wr) (fun i _ => s.size + 1 - (intOf i).toNat)
  case atStart =>
    refine ⟨0, rfl, Nat.zero_le _, fun _ => HR0.out, ?_, (Below.refl _ _).alloc (Nat.le_refl _) _⟩
    rw [heap_alloc_new, Nat.zero_min, Mk.fil_zero, HFL.out]
  case round =>
    obtain ⟨j, rfl, hj1, hRj, hg, hb⟩ := hrel
    have HB := hidden hb
    clear hb
    by_cases hlt : j < s.size
    · have hR0 := hRj hlt
      rw [Nat.min_eq_left (by omega)] at hg
      have HG := hidden hg
      have HR := hidden hR0
      have hlt2 : decide ((j : Int) < (s.size : Int)) = true := decide_eq_true (by omega)
      clear hg hRj hR0
      by_cases hb : s[j].toNat = 34
      · have HBB := hidden hb
        have e1 : (((s[j].toNat : Nat) : Int) != 34) = false := by rw [hb]; rfl
        have e1n : (s[j].toNat != 34) = false := by rw [hb]; rfl
        have HR1 : Hid (R (j + 1) = 1) := by
          have h1 := HRN.out j hlt
          rw [HR.out, hb] at h1
          exact h1
        clear hb
        have hjF : j < F.length := by rw [HFL.out]; exact hlt
        have c1 : wr.cell? ⟨w.heap.size, j, none⟩ = some (.bool false) := by rw [Lib.cell_of_heap HG.out, Mk.fil_at F j hjF]
        have f1 : wr.frozen? ⟨w.heap.size, j, none⟩ = false := Lib.frozen_of_heap HG.out j
        have hFj : F.getD j false = true := by
          rw [HAT.out j hlt]
          exact if_neg (fun h => h.2 HBB.out)
        have HG2 : Hid ((wr.setCell ⟨w.heap.size, j, none⟩ (.bool true)).heap[w.heap.size]? = some (.cells (Mk.fil F (j + 1)) 4 (0, 0))) := by
          rw [← Mk.fil_next F j hjF, hFj]
          exact Mk.set_same HG.out
        have HB2 := hidden (HB.out.setCell (p := ⟨w.heap.size, j, none⟩) (Nat.le_refl _) (.bool true))
        clear hjF hFj
        go_wp2_with fail
        go_loopw [4] (fun i wq => ∃ t : Nat, i = .int .i64 (t : Nat) ∧ j < t ∧ t ≤ s.size ∧ (t < s.size → R t = 1) ∧ wq.heap[w.heap.size]? = some (.cells (Mk.fil F t) 4 (0, 0)) ∧ Below w.heap.size w wq) (fun i _ => s.size - (intOf i).toNat)
        case atStart => exact ⟨j + 1, by go_num, Nat.lt_succ_self _, hlt, fun _ => HR1.out, HG2.out, HB2.out⟩
        case round =>
          obtain ⟨t, rfl, hjt, hts, hRt, hgt, hbt⟩ := hrel
          have HGT := hidden hgt
          have HBT := hidden hbt
          clear HG HB HG2 HB2 hgt hbt c1 f1
          by_cases hlt3 : t < s.size
          · have HRT := hidden (hRt hlt3)
            have hlt4 : decide ((t : Int) < (s.size : Int)) = true := decide_eq_true (by omega)
            have HRN2 := hidden (HRN.out t hlt3)
            clear hRt
            by_cases h34 : s[t].toNat = 34
            · have e2 : (((s[t].toNat : Nat) : Int) != 34) = false := by rw [h34]; rfl
              have e2n : (s[t].toNat != 34) = false := by rw [h34]; rfl
              have HR2 : Hid (R (t + 1) = 0) := by
                have h1 := HRN2.out
                rw [HRT.out, h34] at h1
                exact h1
              clear h34
              have hjF : t < F.length := by rw [HFL.out]; exact hlt3
              have c1 : wr.cell? ⟨w.heap.size, t, none⟩ = some (.bool false) := by rw [Lib.cell_of_heap HGT.out, Mk.fil_at F t hjF]
              have f1 : wr.frozen? ⟨w.heap.size, t, none⟩ = false := Lib.frozen_of_heap HGT.out t
              have hFj : F.getD t false = true := by
                rw [HAT.out t hlt3]
                exact if_neg (fun h => by rw [HRT.out] at h; exact absurd h.1 (by decide))
              have HG2 : Hid ((wr.setCell ⟨w.heap.size, t, none⟩ (.bool true)).heap[w.heap.size]? = some (.cells (Mk.fil F (t + 1)) 4 (0, 0))) := by
                rw [← Mk.fil_next F t hjF, hFj]
                exact Mk.set_same HGT.out
              have HB2 := hidden (HBT.out.setCell (p := ⟨w.heap.size, t, none⟩) (Nat.le_refl _) (.bool true))
              clear hjF hFj
              go_wp2_with fail
              go_roundw
              case rel => exact ⟨t + 1, by go_num, by omega, fun _ => HR2.out, by rw [Nat.min_eq_left hlt3]; exact HG2.out, HB2.out⟩
              case measure => simp [intOf]; omega
            · have e2 : (((s[t].toNat : Nat) : Int) != 34) = true := by rw [bne_iff_ne]; omega
              have e2n : (s[t].toNat != 34) = true := by rw [bne_iff_ne]; exact h34
              have H34 := hidden h34
              clear h34
              by_cases h92 : s[t].toNat = 92
              · have e3 : (((s[t].toNat : Nat) : Int) == 92) = true := by rw [h92]; rfl
                have e3n : (s[t].toNat == 92) = true := by rw [h92]; rfl
                have HR2 : Hid (R (t + 1) = 2) := by
                  have h1 := HRN2.out
                  rw [HRT.out, h92] at h1
                  exact h1
                clear h92
                have hjF : t < F.length := by rw [HFL.out]; exact hlt3
                have c1 : wr.cell? ⟨w.heap.size, t, none⟩ = some (.bool false) := by rw [Lib.cell_of_heap HGT.out, Mk.fil_at F t hjF]
                have f1 : wr.frozen? ⟨w.heap.size, t, none⟩ = false := Lib.frozen_of_heap HGT.out t
                have hFj : F.getD t false = true := by
                  rw [HAT.out t hlt3]
                  exact if_neg (fun h => by rw [HRT.out] at h; exact absurd h.1 (by decide))
                have HG2 : Hid ((wr.setCell ⟨w.heap.size, t, none⟩ (.bool true)).heap[w.heap.size]? = some (.cells (Mk.fil F (t + 1)) 4 (0, 0))) := by
                  rw [← Mk.fil_next F t hjF, hFj]
                  exact Mk.set_same HGT.out
                have HB2 := hidden (HBT.out.setCell (p := ⟨w.heap.size, t, none⟩) (Nat.le_refl _) (.bool true))
                clear hjF hFj
                by_cases hlast : t + 1 < s.size
                · have e4 : decide ((t : Int) < (s.size : Int) - 1) = true := decide_eq_true (by omega)
                  have HRN3 := hidden (HRN.out (t + 1) hlast)
                  have HR3 : Hid (R (t + 2) = 1) := by
                    have h1 := HRN3.out
                    rw [HR2.out] at h1
                    exact h1
                  obtain ⟨y, hy⟩ : ∃ y, y = t + 1 := ⟨_, rfl⟩
                  have hy2 : (t : Int) + 1 = (y : Int) := by omega
                  have hys : y < s.size := by omega
                  have HY := hidden hy
                  have HG3 : Hid ((wr.setCell ⟨w.heap.size, t, none⟩ (.bool true)).heap[w.heap.size]? = some (.cells (Mk.fil F y) 4 (0, 0))) := by rw [hy]; exact HG2.out
                  have hyF : y < F.length := by rw [HFL.out]; exact hys
                  obtain ⟨wz, hwz⟩ : ∃ wz, wz = wr.setCell ⟨w.heap.size, t, none⟩ (.bool true) := ⟨_, rfl⟩
                  have hwz2 := hwz.symm
                  have HWZ := hidden hwz
                  rw [← hwz] at HG3 HB2
                  have c2 : wz.cell? ⟨w.heap.size, y, none⟩ = some (.bool false) := by rw [Lib.cell_of_heap HG3.out, Mk.fil_at F y hyF]
                  have f2 : wz.frozen? ⟨w.heap.size, y, none⟩ = false := Lib.frozen_of_heap HG3.out y
                  have hFy : F.getD y false = true := by
                    rw [HAT.out y hys]
                    refine if_neg (fun h => ?_)
                    have h1 := h.1
                    rw [hy, HR2.out] at h1
                    exact absurd h1 (by decide)
                  have HG4 : Hid ((wz.setCell ⟨w.heap.size, y, none⟩ (.bool true)).heap[w.heap.size]? = some (.cells (Mk.fil F (y + 1)) 4 (0, 0))) := by
                    rw [← Mk.fil_next F y hyF, hFy]
                    exact Mk.set_same HG3.out
                  have HB4 := hidden (HB2.out.setCell (p := ⟨w.heap.size, y, none⟩) (Nat.le_refl _) (.bool true))
                  clear hyF hFy hy hwz hwz2
                  rw [HWZ.out] at c2 f2
                  go_wp2_with fail
                  go_roundw
                  case rel =>
                    have h2 := HY.out
                    refine ⟨y + 1, by go_num, by omega, hys, fun _ => by rw [h2]; exact HR3.out, ?_, ?_⟩
                    · have := HG4.out; rw [HWZ.out] at this; exact this
                    · have := HB4.out; rw [HWZ.out] at this; exact this
                  case measure => have := HY.out; simp [intOf]; omega
                · have e4 : decide ((t : Int) < (s.size : Int) - 1) = false := decide_eq_false (by omega)
                  go_wp2_with fail
                  go_roundw
                  case rel => exact ⟨t + 1, by go_num, by omega, hlt3, fun h => absurd h hlast, HG2.out, HB2.out⟩
                  case measure => simp [intOf]; omega
              · have e3 : (((s[t].toNat : Nat) : Int) == 92) = false := by rw [beq_eq_false_iff_ne]; omega
                have e3n : (s[t].toNat == 92) = false := by rw [beq_eq_false_iff_ne]; exact h92
                have HR2 : Hid (R (t + 1) = 1) := by
                  have h1 := HRN2.out
                  rw [HRT.out] at h1
                  rw [h1]
                  show (if (1 : Nat) = 0 then _ else if (1 : Nat) = 1 then (if s[t].toNat = 34 then 0 else if s[t].toNat = 92 then 2 else 1) else 1) = 1
                  rw [if_neg (by decide), if_pos rfl, if_neg H34.out, if_neg h92]
                clear h92
                have hjF : t < F.length := by rw [HFL.out]; exact hlt3
                have c1 : wr.cell? ⟨w.heap.size, t, none⟩ = some (.bool false) := by rw [Lib.cell_of_heap HGT.out, Mk.fil_at F t hjF]
                have f1 : wr.frozen? ⟨w.heap.size, t, none⟩ = false := Lib.frozen_of_heap HGT.out t
                have hFj : F.getD t false = true := by
                  rw [HAT.out t hlt3]
                  exact if_neg (fun h => by rw [HRT.out] at h; exact absurd h.1 (by decide))
                have HG2 : Hid ((wr.setCell ⟨w.heap.size, t, none⟩ (.bool true)).heap[w.heap.size]? = some (.cells (Mk.fil F (t + 1)) 4 (0, 0))) := by
                  rw [← Mk.fil_next F t hjF, hFj]
                  exact Mk.set_same HGT.out
                have HB2 := hidden (HBT.out.setCell (p := ⟨w.heap.size, t, none⟩) (Nat.le_refl _) (.bool true))
                clear hjF hFj
                go_wp2_with fail
                go_roundw
                case rel => exact ⟨t + 1, by go_num, by omega, hlt3, fun _ => HR2.out, HG2.out, HB2.out⟩
                case measure => simp [intOf]; omega
          · obtain rfl : t = s.size := by omega
            have hlt4 : decide ((s.size : Int) < (s.size : Int)) = false := decide_eq_false (by omega)
            go_wp2_with fail
            go_roundw
            case rel => exact ⟨s.size + 1, by go_num, Nat.le_refl _, fun h => by omega, by rw [Nat.min_eq_right (by omega)]; exact HGT.out, HBT.out⟩
            case measure => simp [intOf]; omega
      · have HBB := hidden hb
        have e1 : (((s[j].toNat : Nat) : Int) != 34) = true := by rw [bne_iff_ne]; omega
        have e1n : (s[j].toNat != 34) = true := by rw [bne_iff_ne]; exact hb
        have HR1 : Hid (R (j + 1) = 0) := by
          have h1 := HRN.out j hlt
          rw [HR.out] at h1
          rw [h1]
          exact Mk.st_no hb
        have hF0 : F.getD j false = false := by
          rw [HAT.out j hlt]
          exact if_pos ⟨HR.out, hb⟩
        have HF2 := hidden (Mk.fil_false F j (by rw [HFL.out]; exact hlt) hF0)
        clear hb hF0
        go_wp2_with fail
        go_roundw
        case rel => exact ⟨j + 1, by go_num, by omega, fun _ => HR1.out, by rw [Nat.min_eq_left hlt, ← HF2.out]; exact HG.out, HB.out⟩
        case measure => simp [intOf]; omega
    · have hlt2 : decide ((j : Int) < (s.size : Int)) = false := decide_eq_false (by omega)
      rw [Nat.min_eq_right (by omega)] at hg
      have HG := hidden hg
      clear hg hRj
      go_wp2_with fail
      go_ret
      exact ⟨⟨_, rfl, Mk.fil_own HFL.out (by omega) HG.out⟩, HB.out⟩
end Go.Proofs.Ytifkemcjificcaa
