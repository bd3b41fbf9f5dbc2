/-
  The contract of laceworkref12's Str: for every string and every place; nothing that was there is changed.
-/
import Derived.Test.YtifkemcjificcaaJsRefW
import Derived.Test.YtifkemcjificcaaUtLive
namespace Go.Proofs.Ytifkemcjificcaa
open Go.RowKit
theorem jScalar_from (s : ByteArray) (a b : Nat) (w : World) (hs : s.size ≤ 1000000) (hb : b = s.size) : ∃ F : Nat, 
    Calls Try.prog 25 #[.string (s.extract a b)] w fun e w' => e = .returned (.tuple #[.int .i64 (F : Nat), .int .i64 ((Ut.ld 0 (s.data.toList.drop a) : Nat) : Int)]) ∧ Below w.heap.size w w' := by
  subst hb
  have h := rScalar_any (s.extract a s.size) w (by rw [ByteArray.size_extract]; omega)
  rw [Ut.extract_list, Ut.sc_snd, List.take_of_length_le (by rw [List.length_drop]; exact Nat.le_refl _)] at h
  exact ⟨_, h⟩
theorem jLive_from (s : ByteArray) (a b : Nat) (hb : b = min (a + 4) s.size) (ha : a ≤ s.size) (w : World) :
    Calls Try.prog 26 #[.string (s.extract a b)] w fun e w' => e = .returned (.int .i64 ((Ut.alive 0 ((s.data.toList.drop a).take 4) : Nat) : Int)) ∧ Below w.heap.size w w' := by
  have h := rLive_any (s.extract a b) w (by rw [ByteArray.size_extract]; omega)
  have hl : s.data.toList.length = s.size := rfl
  rw [Ut.extract_list] at h
  have e : (s.data.toList.drop a).take (b - a) = (s.data.toList.drop a).take 4 := by
    by_cases h4 : a + 4 ≤ s.size
    · rw [show b - a = 4 by omega]
    · rw [List.take_of_length_le (by rw [List.length_drop, hl]; omega), List.take_of_length_le (by rw [List.length_drop, hl]; omega)]
  rw [e] at h
  exact h
/-- A string at a place. -/
def SPost (s : ByteArray) (i : Nat) (e : Ending) : Prop :=
  (∃ q : Nat, e = .returned (rv q true 0) ∧ i < q ∧ q ≤ s.size ∧ ∀ k st d, Js.T s.data.toList (Js.cS 0 k st d) (i + 1) = Js.T s.data.toList (Js.aft k st d) q)
  ∨ ∃ q : Nat, e = .returned (rv q false 0) ∧ ∀ k st d, Js.T s.data.toList (Js.cS 0 k st d) (i + 1) = (none, q)
set_option maxHeartbeats 4000000 in
theorem jStr_in (s : ByteArray) (i : Nat) (w : World) (hs : s.size ≤ 1000000) (hi : i < s.size) (h : s[i].toNat = 34) :
    Calls Try.prog 18 #[.string s, .int .i64 (i : Nat)] w fun e w' => SPost s i e ∧ Below w.heap.size w w' := by
  have d0 : decide ((s.size : Int) ≤ (i : Int)) = false := decide_eq_false (by omega)
  have d0n : decide (s.size ≤ i) = false := decide_eq_false (by omega)
  have e0 : (((s[i].toNat : Nat) : Int) != 34) = false := by rw [h]; rfl
  clear h
  go_enter Try.func18, Try.ntmps18
  go_wp2_with fail
  go_loopw [1] (fun v wr => ∃ a : Nat, v = .int .i64 (a : Nat) ∧ i < a ∧ a ≤ s.size ∧ wr.heap[w.heap.size]? = some (.cells #[.int .i64 0, .bool false, .int .i64 0] 32 (0, 0)) ∧ Below w.heap.size w wr ∧ ∀ k st d, Js.T s.data.toList (Js.cS 0 k st d) (i + 1) = Js.T s.data.toList (Js.cS 0 k st d) a) (fun v _ => s.size - (intOf v).toNat)
  case atStart => exact ⟨i + 1, by go_num, Nat.lt_succ_self _, hi, heap_alloc_new _ _, (Below.refl _ _).alloc (Nat.le_refl _) _, fun _ _ _ => rfl⟩
  case round =>
    obtain ⟨a, rfl, hia, has, hg, hb, hT⟩ := hrel
    have HG := hidden hg
    have HB := hidden hb
    have HT := hidden hT
    clear hT hb
    by_cases hlt : a < s.size
    · have l0 : decide ((a : Int) < (s.size : Int)) = true := decide_eq_true (by omega)
      have hc := s[a].toNat_lt
      by_cases h34 : s[a].toNat = 34
      · have e1 : (((s[a].toNat : Nat) : Int) == 34) = true := by rw [h34]; rfl
        have H34 := hidden h34
        obtain ⟨c0, f0, c1, f1, c2, f2⟩ := rv_open hg
        clear h34 hg
        go_wp2_with fail
        refine bodyPost_ret (results_cell_row rfl _ _ w.heap.size 32 #[.int .i64 (a + 1 : Nat), .bool true, .int .i64 0] (0, 0) _ rfl ?_ Try.underlying32 rfl sizeR) rfl ?_
        · exact rv_cells HG.out _ _ _
        · exact ⟨.inl ⟨a + 1, rfl, by omega, hlt, fun k st d => (HT.out k st d).trans (Js.T_close _ k st d a hlt H34.out)⟩, rv_below HB.out (Nat.le_refl _) _ _ _⟩
      have e1 : (((s[a].toNat : Nat) : Int) == 34) = false := by rw [beq_eq_false_iff_ne]; omega
      by_cases h32 : s[a].toNat < 32
      · have e2 : decide (((s[a].toNat : Nat) : Int) < 32) = true := decide_eq_true (by omega)
        have H32 := hidden h32
        clear h34 h32 hg
        go_wp2_with fail
        refine (jBad_any (a : Int) a _ (by omega)).mono ?_
        rintro e w9 ⟨rfl, hb9⟩
        have hg9 : w9.heap[w.heap.size]? = some (.cells #[.int .i64 0, .bool false, .int .i64 0] 32 (0, 0)) := (hb9.block _ ((Array.getElem?_eq_some_iff.1 HG.out).1)).trans HG.out
        obtain ⟨c0, f0, c1, f1, c2, f2⟩ := rv_open hg9
        have HG9 := hidden hg9
        have HQ9 := hidden (HB.out.trans (hb9.mono HB.out.size))
        clear hb9 hg9
        unfold rv
        go_wp2_with fail
        refine bodyPost_ret (results_cell_row rfl _ _ w.heap.size 32 #[.int .i64 (a : Nat), .bool false, .int .i64 0] (0, 0) _ rfl ?_ Try.underlying32 rfl sizeR) rfl ?_
        · exact rv_cells HG9.out _ _ _
        · exact ⟨.inr ⟨a, rfl, fun k st d => (HT.out k st d).trans (Js.T_low _ k st d a hlt H32.out)⟩, rv_below HQ9.out (Nat.le_refl _) _ _ _⟩
      have e2 : decide (((s[a].toNat : Nat) : Int) < 32) = false := decide_eq_false (by omega)
      by_cases h92 : s[a].toNat = 92
      · have e3 : (((s[a].toNat : Nat) : Int) == 92) = true := by rw [h92]; rfl
        have H92 := hidden h92
        have HX := hidden (jEscape_any s (a + 1) wr hs hlt)
        have hcast : ((a + 1 : Nat) : Int) = (a : Int) + 1 := by omega
        rw [hcast] at HX
        clear h34 h32 h92 hg
        go_wp2_with fail
        refine HX.out.mono ?_
        rintro e w2 ⟨⟨q, rfl, hq1, hq2, hq3⟩ | ⟨q, rfl, hq3⟩, hb2⟩
        · have HQ3 := hidden hq3
          have hg2 : w2.heap[w.heap.size]? = some (.cells #[.int .i64 0, .bool false, .int .i64 0] 32 (0, 0)) := (hb2.block _ ((Array.getElem?_eq_some_iff.1 HG.out).1)).trans HG.out
          have HG2 := hidden hg2
          have HB2 := hidden (HB.out.trans (hb2.mono HB.out.size))
          have hsz2 := HB2.out.size
          unfold rv
          clear hb2 hq3 hg2
          go_wp2_with fail
          refine ⟨⟨q, rfl, by omega, hq2, ((Below.refl _ w2).alloc (Nat.le_refl _) _).block _ ((Array.getElem?_eq_some_iff.1 HG2.out).1) |>.trans HG2.out, HB2.out.alloc hsz2 _, fun k st d => ?_⟩, by simp [intOf]; omega⟩
          rw [HT.out, Js.T_back _ k st d a hlt H92.out, HQ3.out]
        · have HQ3 := hidden hq3
          have hg2 : w2.heap[w.heap.size]? = some (.cells #[.int .i64 0, .bool false, .int .i64 0] 32 (0, 0)) := (hb2.block _ ((Array.getElem?_eq_some_iff.1 HG.out).1)).trans HG.out
          have HG2 := hidden hg2
          have HB2 := hidden (HB.out.trans (hb2.mono HB.out.size))
          have hsz2 := HB2.out.size
          have hg9 : (w2.alloc (Obj.cells #[.int .i64 (q : Nat), .bool false, .int .i64 0] 32)).heap[w.heap.size]? = some (.cells #[.int .i64 0, .bool false, .int .i64 0] 32 (0, 0)) := (((Below.refl _ w2).alloc (Nat.le_refl _) _).block _ ((Array.getElem?_eq_some_iff.1 hg2).1)).trans hg2
          obtain ⟨c0, f0, c1, f1, c2, f2⟩ := rv_open hg9
          have HG9 := hidden hg9
          unfold rv
          clear hb2 hq3 hg2 hg9
          go_wp2_with fail
          refine bodyPost_ret (results_cell_row rfl _ _ w.heap.size 32 #[.int .i64 (q : Nat), .bool false, .int .i64 0] (0, 0) _ rfl ?_ Try.underlying32 rfl sizeR) rfl ?_
          · exact rv_cells HG9.out _ _ _
          · exact ⟨.inr ⟨q, rfl, fun k st d => (HT.out k st d).trans ((Js.T_back _ k st d a hlt H92.out).trans (HQ3.out k st d))⟩, rv_below (HB2.out.alloc hsz2 _) (Nat.le_refl _) _ _ _⟩
      · have e3 : (((s[a].toNat : Nat) : Int) == 92) = false := by rw [beq_eq_false_iff_ne]; omega
        obtain ⟨F, hF⟩ := jScalar_from s a s.size wr (by omega) rfl
        have HF := hidden hF
        have H32 : Hid (32 ≤ s[a].toNat) := hidden (by omega)
        have H34 := hidden h34
        have H92 := hidden h92
        have hle : a + Ut.ld 0 (s.data.toList.drop a) ≤ s.size := by
          have h3 := Ut.ld_le 0 (s.data.toList.drop a)
          rw [List.length_drop] at h3
          have h4 : s.data.toList.length = s.size := rfl
          omega
        clear hF h34 h32 h92 hg
        obtain ⟨G, hG⟩ : ∃ G, G = Ut.ld 0 (s.data.toList.drop a) := ⟨_, rfl⟩
        rw [← hG] at HF hle
        have HGG := hidden hG
        by_cases h0 : G = 0
        · have hg0 : ((G : Int) == 0) = true := by rw [h0]; rfl
          have HZ : Hid (Ut.ld 0 (s.data.toList.drop a) = 0) := hidden (by rw [← hG]; exact h0)
          have hV3 : Ut.alive 0 ((s.data.toList.drop a).take 4) ≤ 3 := by
            rw [Js.alive_four _ HZ.out]
            exact Js.alive_three _ HZ.out
          obtain ⟨V, hV⟩ : ∃ V, V = Ut.alive 0 ((s.data.toList.drop a).take 4) := ⟨_, rfl⟩
          have HLV : Hid (∀ b w, b = min (a + 4) s.size → Calls Try.prog 26 #[.string (s.extract a b)] w fun e w' => e = .returned (.int .i64 ((V : Nat) : Int)) ∧ Below w.heap.size w w') := hidden fun b w hb => by
            rw [hV]
            exact jLive_from s a b hb (by omega) w
          rw [← hV] at hV3
          have HV := hidden hV
          clear hG h0 hV
          go_wp2_with fail
          refine HF.out.mono ?_
          rintro e w1 ⟨rfl, hq⟩
          have hg1 : w1.heap[w.heap.size]? = some (.cells #[.int .i64 0, .bool false, .int .i64 0] 32 (0, 0)) := (hq.block _ ((Array.getElem?_eq_some_iff.1 HG.out).1)).trans HG.out
          have HG1 := hidden hg1
          have HB1 := hidden (HB.out.trans (hq.mono HB.out.size))
          clear hq hg1
          go_wp2_with fail
          all_goals
            refine (HLV.out _ _ (by omega)).mono ?_
            rintro e w2 ⟨rfl, hq⟩
            have hg2 : w2.heap[w.heap.size]? = some (.cells #[.int .i64 0, .bool false, .int .i64 0] 32 (0, 0)) := (hq.block _ ((Array.getElem?_eq_some_iff.1 HG1.out).1)).trans HG1.out
            have HG2 := hidden hg2
            have HB2 := hidden (HB1.out.trans (hq.mono HB1.out.size))
            clear hq hg2
            go_wp2_with fail
            refine (jBad_any ((a : Int) + (V : Int)) (a + V) _ (by omega)).mono ?_
            rintro e w9 ⟨rfl, hb9⟩
            have hg9 : w9.heap[w.heap.size]? = some (.cells #[.int .i64 0, .bool false, .int .i64 0] 32 (0, 0)) := (hb9.block _ ((Array.getElem?_eq_some_iff.1 HG2.out).1)).trans HG2.out
            obtain ⟨c0, f0, c1, f1, c2, f2⟩ := rv_open hg9
            have HG9 := hidden hg9
            have HQ9 := hidden (HB2.out.trans (hb9.mono HB2.out.size))
            clear hb9 hg9
            unfold rv
            go_wp2_with fail
            refine bodyPost_ret (results_cell_row rfl _ _ w.heap.size 32 #[.int .i64 ((a + V) : Nat), .bool false, .int .i64 0] (0, 0) _ rfl ?_ Try.underlying32 rfl sizeR) rfl ?_
            · exact rv_cells HG9.out _ _ _
            · exact ⟨.inr ⟨a + V, rfl, fun k st d => (HT.out k st d).trans ((Js.T_odd _ k st d a hlt H32.out H34.out H92.out HZ.out).trans (by rw [HV.out]))⟩, rv_below HQ9.out (Nat.le_refl _) _ _ _⟩
        · have hg0 : ((G : Int) == 0) = false := by rw [beq_eq_false_iff_ne]; omega
          have HZ : Hid (Ut.ld 0 (s.data.toList.drop a) ≠ 0) := hidden (by rw [← hG]; exact h0)
          clear hG
          go_wp2_with fail
          refine HF.out.mono ?_
          rintro e w1 ⟨rfl, hq⟩
          have hg1 : w1.heap[w.heap.size]? = some (.cells #[.int .i64 0, .bool false, .int .i64 0] 32 (0, 0)) := (hq.block _ ((Array.getElem?_eq_some_iff.1 HG.out).1)).trans HG.out
          have HG1 := hidden hg1
          have HB1 := hidden (HB.out.trans (hq.mono HB.out.size))
          clear hq hg1
          go_wp2_with fail
          go_roundw
          case rel =>
            refine ⟨a + G, by go_num, by omega, hle, HG1.out, HB1.out, fun k st d => ?_⟩
            rw [HT.out, Js.T_scalar _ k st d a hlt H32.out H34.out H92.out HZ.out, ← HGG.out]
          case measure => simp [intOf]; omega
    · obtain rfl : a = s.size := by omega
      clear hg
      go_wp2_with fail
      refine (jBad_any (s.size : Int) s.size _ (by omega)).mono ?_
      rintro e w9 ⟨rfl, hb9⟩
      have hg9 : w9.heap[w.heap.size]? = some (.cells #[.int .i64 0, .bool false, .int .i64 0] 32 (0, 0)) := (hb9.block _ ((Array.getElem?_eq_some_iff.1 HG.out).1)).trans HG.out
      obtain ⟨c0, f0, c1, f1, c2, f2⟩ := rv_open hg9
      have HG9 := hidden hg9
      have HQ9 := hidden (HB.out.trans (hb9.mono HB.out.size))
      clear hb9 hg9
      unfold rv
      go_wp2_with fail
      refine bodyPost_ret (results_cell_row rfl _ _ w.heap.size 32 #[.int .i64 (s.size : Nat), .bool false, .int .i64 0] (0, 0) _ rfl ?_ Try.underlying32 rfl sizeR) rfl ?_
      · exact rv_cells HG9.out _ _ _
      · exact ⟨.inr ⟨s.size, rfl, fun k st d => (HT.out k st d).trans (Js.T_live _ _ _ rfl rfl)⟩, rv_below HQ9.out (Nat.le_refl _) _ _ _⟩
theorem jStr_no (s : ByteArray) (i : Nat) (w : World) (hi : i ≤ s.size) (h : ∀ hi : i < s.size, s[i].toNat ≠ 34) :
    Calls Try.prog 18 #[.string s, .int .i64 (i : Nat)] w fun e w' => e = .returned (rv i false 0) ∧ Below w.heap.size w w' := by
  have HG : Hid ((w.alloc (Obj.cells #[.int .i64 0, .bool false, .int .i64 0] 32)).heap[w.heap.size]? = some (.cells #[.int .i64 0, .bool false, .int .i64 0] 32 (0, 0))) := heap_alloc_new _ _
  have HB : Hid (Below w.heap.size w (w.alloc (Obj.cells #[.int .i64 0, .bool false, .int .i64 0] 32))) := (Below.refl _ _).alloc (Nat.le_refl _) _
  by_cases hlt : i < s.size
  · have d0 : decide ((s.size : Int) ≤ (i : Int)) = false := decide_eq_false (by omega)
    have d0n : decide (s.size ≤ i) = false := decide_eq_false (by omega)
    have h34 := h hlt
    have e0 : (((s[i].toNat : Nat) : Int) != 34) = true := by rw [bne_iff_ne]; omega
    clear h h34
    go_enter Try.func18, Try.ntmps18
    go_wp2_with fail
    refine (jBad_any (i : Int) i _ (by omega)).mono ?_
    rintro e w9 ⟨rfl, hb9⟩
    have hg9 : w9.heap[w.heap.size]? = some (.cells #[.int .i64 0, .bool false, .int .i64 0] 32 (0, 0)) := (hb9.block _ ((Array.getElem?_eq_some_iff.1 HG.out).1)).trans HG.out
    obtain ⟨c0, f0, c1, f1, c2, f2⟩ := rv_open hg9
    have HG9 := hidden hg9
    have HQ9 := hidden (HB.out.trans (hb9.mono HB.out.size))
    clear hb9 hg9
    unfold rv
    go_wp2_with fail
    refine bodyPost_ret (results_cell_row rfl _ _ w.heap.size 32 #[.int .i64 (i : Nat), .bool false, .int .i64 0] (0, 0) _ rfl ?_ Try.underlying32 rfl sizeR) rfl ?_
    · exact rv_cells HG9.out _ _ _
    · exact ⟨rfl, rv_below HQ9.out (Nat.le_refl _) _ _ _⟩
  · have d0 : decide ((s.size : Int) ≤ (i : Int)) = true := decide_eq_true (by omega)
    have d0n : decide (s.size ≤ i) = true := decide_eq_true (by omega)
    clear h
    go_enter Try.func18, Try.ntmps18
    go_wp2_with fail
    refine (jBad_any (i : Int) i _ (by omega)).mono ?_
    rintro e w9 ⟨rfl, hb9⟩
    have hg9 : w9.heap[w.heap.size]? = some (.cells #[.int .i64 0, .bool false, .int .i64 0] 32 (0, 0)) := (hb9.block _ ((Array.getElem?_eq_some_iff.1 HG.out).1)).trans HG.out
    obtain ⟨c0, f0, c1, f1, c2, f2⟩ := rv_open hg9
    have HG9 := hidden hg9
    have HQ9 := hidden (HB.out.trans (hb9.mono HB.out.size))
    clear hb9 hg9
    unfold rv
    go_wp2_with fail
    refine bodyPost_ret (results_cell_row rfl _ _ w.heap.size 32 #[.int .i64 (i : Nat), .bool false, .int .i64 0] (0, 0) _ rfl ?_ Try.underlying32 rfl sizeR) rfl ?_
    · exact rv_cells HG9.out _ _ _
    · exact ⟨rfl, rv_below HQ9.out (Nat.le_refl _) _ _ _⟩
end Go.Proofs.Ytifkemcjificcaa
