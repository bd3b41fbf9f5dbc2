/-
  The contracts of laceworkref13's Places and Parens: of every string; nothing that was there is changed.
-/
import Derived.Test.YtifkemcjificcaaMkIn
namespace Go.Proofs.Ytifkemcjificcaa
open Go.RowKit
namespace Mk
theorem pl_next (l : List UInt8) (j : Nat) (h : j < l.length) : pl 0 0 (l.take (j + 1)) = (if run 0 (l.take j) = 0 ∧ isM (l[j]).toNat = true then pl 0 0 (l.take j) ++ [j] else pl 0 0 (l.take j)) := by
  have ht : l.take (j + 1) = l.take j ++ [l[j]] := by
    rw [List.take_add_one, List.getElem?_eq_getElem h]
    rfl
  have hl : (l.take j).length = j := by rw [List.length_take]; omega
  rw [ht, pl_app, hl, Nat.zero_add]
  by_cases h2 : run 0 (l.take j) = 0 ∧ isM (l[j]).toNat = true
  · rw [if_pos h2, h2.1, pl_mark _ _ _ h2.2]
    rfl
  · rw [if_neg h2, pl_other _ _ _ _ h2]
    exact List.append_nil _
end Mk
theorem Try.infoIm : (Try.prog.info? 3).map (fun i => (i.zero, i.size, i.bytes)) = some (some (.int .i64 0), 1, 8) := by kernel_rfl
theorem Try.infoBm2 : (Try.prog.info? 4).map (fun i => (i.zero, i.size, i.bytes)) = some (some (.bool false), 1, 1) := by kernel_rfl
set_option maxHeartbeats 4000000 in
theorem mrPlaces_any (s : ByteArray) (w : World) (hs : s.size ≤ 1000000) :
    Calls Try.prog 12 #[.string s] w fun e w' => (∃ v, e = .returned v ∧ Mk.Li w' w.heap.size v (Mk.pl 0 0 s.data.toList)) ∧ Below w.heap.size w w' := by
  obtain ⟨i0, hi, hz0, hz1, hz2⟩ := info_parts Try.infoIm
  have hlen : s.data.toList.length = s.size := rfl
  have HFL : Hid ((Mk.ins 0 s.data.toList).length = s.size) := hidden (Mk.ins_len _ _)
  have HAT : Hid (∀ j (h : j < s.size), (Mk.ins 0 s.data.toList).getD j false = (if Mk.run 0 (s.data.toList.take j) = 0 ∧ s[j].toNat ≠ 34 then false else true)) := hidden fun j h => Mk.ins_at s.data.toList 0 j h
  have HPN : Hid (∀ j (h : j < s.size), Mk.pl 0 0 (s.data.toList.take (j + 1)) = (if Mk.run 0 (s.data.toList.take j) = 0 ∧ Mk.isM s[j].toNat = true then Mk.pl 0 0 (s.data.toList.take j) ++ [j] else Mk.pl 0 0 (s.data.toList.take j))) := hidden fun j h => Mk.pl_next s.data.toList j h
  have HPA : Hid (Mk.pl 0 0 (s.data.toList.take s.size) = Mk.pl 0 0 s.data.toList) := hidden (by rw [take_all s])
  have HPL : Hid (∀ j, j ≤ s.size → (Mk.pl 0 0 (s.data.toList.take j)).length ≤ j) := hidden fun j hj => by
    induction j with
    | zero => exact Nat.le_refl _
    | succ j ih =>
      have h1 := ih (by omega)
      rw [HPN.out j (by omega)]
      split
      · rw [List.length_append]
        show _ + 1 ≤ _
        omega
      · omega
  have HIN := hidden (fun w => mInside_any s w hs)
  obtain ⟨F, hF⟩ : ∃ F, F = Mk.ins 0 s.data.toList := ⟨_, rfl⟩
  obtain ⟨R, hR⟩ : ∃ R : Nat → Nat, ∀ j, Mk.run 0 (s.data.toList.take j) = R j := ⟨_, fun _ => rfl⟩
  obtain ⟨P, hP⟩ : ∃ P : Nat → List Nat, ∀ j, Mk.pl 0 0 (s.data.toList.take j) = P j := ⟨_, fun _ => rfl⟩
  rw [← hF] at HFL HAT HIN
  simp only [hR] at HAT HPN
  simp only [hP] at HPN HPA HPL
  have HP0 : Hid (P 0 = []) := hidden (hP 0).symm
  rw [← HPA.out]
  clear hlen hF hR hP HPA
  go_enter Try.func12, Try.ntmps12
  go_wp2_with fail
  refine (HIN.out w).mono ?_
  rintro e w2 ⟨⟨vin, rfl, hin⟩, hb2⟩
  obtain ⟨ao, ca, rfl, hca, hfa⟩ := hin.get HFL.out
  have HIN2 := hidden hin
  have HB2 := hidden hb2
  have HFA := hidden hfa
  clear hin hb2 hfa
  go_wp2_with fail
  go_loopw [4, 5] (fun v i wr => ∃ j : Nat, j ≤ s.size ∧ i = .int .i64 (j : Nat) ∧ Mk.Li wr w2.heap.size v (P j) ∧ Below w2.heap.size w2 wr) (fun _ i _ => s.size - (intOf i).toNat)
  case atStart =>
    refine ⟨0, Nat.zero_le _, rfl, ?_, Below.refl _ _⟩
    rw [HP0.out]
    exact Mk.Li.nil _ _
  case round =>
    obtain ⟨j, hj, rfl, hli, hb⟩ := hrel
    have HLI := hidden hli
    have HB := hidden hb
    have hsz := hb.size
    clear hli hb
    by_cases hlt : j < s.size
    · have hlt2 : decide ((j : Int) < (s.size : Int)) = true := decide_eq_true (by omega)
      obtain ⟨g, rfl, hg, hga⟩ := HFA.out (by omega)
      have c1 := (HB.out.cell (p := ⟨g, j, none⟩) hg).trans (hga j hlt)
      rw [HAT.out j hlt] at c1
      have HPJ := hidden (HPN.out j hlt)
      have hlp := HPL.out j hj
      clear hga
      by_cases hR0 : R j = 0 ∧ s[j].toNat ≠ 34
      · rw [if_pos hR0] at c1
        have HR0 := hidden hR0
        cases hm : Mk.isM s[j].toNat with
        | true =>
          have HIS := hidden (fun w => mrIs_any s[j].toNat w)
          rw [hm] at HIS
          have HPE : Hid (P (j + 1) = P j ++ [j]) := by
            rw [HPJ.out, if_pos ⟨HR0.out.1, hm⟩]
            exact rfl
          clear hR0 hm
          go_wp2_with fail
          refine (HIS.out _).mono ?_
          rintro e w3 ⟨rfl, hw⟩
          have hw := hw.symm
          subst hw
          go_wp2_with (at_builtin; refine wpList_append_one _ rfl (.tmp 25) (.tmp 27) 25 rfl w2.heap.size 3 i0 (.int .i64 0) 8 Try.underlying25 hi hz0 hz1 hz2 rfl u4 (P j).length (Mk.vi (P j)) rfl (by exact HLI.out.alloc _) _ 1 (.int .i64 (j : Nat)) _ rfl (by exact heap_alloc_new _ _) rfl (by unfold maxLen; omega) (by omega) (by simp; omega) ?_; intro v2 w4 hown2 hgrow2; have HO2 := hidden hown2; have HG2 := hidden hgrow2; clear hown2 hgrow2)
          go_roundw
          case rel =>
            refine ⟨j + 1, hlt, by go_num, ?_, HB.out.trans (Mk.ow_grown1 hsz HLI.out HG2.out)⟩
            have h2 := HO2.out
            rw [HPE.out]
            show World.ownsRow _ _ _ _ _ _ _
            rw [List.length_append, Mk.vi_app]
            exact h2
          case measure => simp [intOf]; omega
        | false =>
          have HIS := hidden (fun w => mrIs_any s[j].toNat w)
          rw [hm] at HIS
          have HPE : Hid (P (j + 1) = P j) := by
            rw [HPJ.out, if_neg (fun h => by rw [hm] at h; exact absurd h.2 (by decide))]
            exact rfl
          clear hR0 hm
          go_wp2_with fail
          refine (HIS.out _).mono ?_
          rintro e w3 ⟨rfl, hw⟩
          have hw := hw.symm
          subst hw
          go_wp2_with fail
          go_roundw
          case rel => exact ⟨j + 1, hlt, by go_num, by rw [HPE.out]; exact HLI.out, HB.out⟩
          case measure => simp [intOf]; omega
      · rw [if_neg hR0] at c1
        have HPE : Hid (P (j + 1) = P j) := by
          rw [HPJ.out, if_neg (fun h => hR0 ⟨h.1, fun e => by rw [e] at h; exact absurd h.2 (by decide)⟩)]
          exact rfl
        clear hR0
        go_wp2_with fail
        go_roundw
        case rel => exact ⟨j + 1, hlt, by go_num, by rw [HPE.out]; exact HLI.out, HB.out⟩
        case measure => simp [intOf]; omega
    · obtain rfl : j = s.size := by omega
      have hlt2 : decide ((s.size : Int) < (s.size : Int)) = false := decide_eq_false (by omega)
      go_wp2_with fail
      go_ret
      exact ⟨⟨_, rfl, Mk.ow_base HLI.out HB2.out.size⟩, HB2.out.trans (HB.out.mono HB2.out.size)⟩
namespace Mk
/-- The bits of so many marks. -/
def fb (l : List UInt8) (ps : List Nat) : List Bool := ps.flatMap fun p => two (l.getD p 0).toNat
theorem fb_all (l : List UInt8) : fb l (pl 0 0 l) = bs 0 l := (bs_by l 0 0 [] rfl).symm
theorem fb_len (l : List UInt8) (ps : List Nat) : (fb l ps).length = 2 * ps.length := by
  induction ps with
  | nil => rfl
  | cons p ps ih =>
    unfold fb at ih ⊢
    rw [List.flatMap_cons, List.length_append, ih, List.length_cons, two_len]
    omega
theorem fb_next (l : List UInt8) (ps : List Nat) (k : Nat) (h : k < ps.length) : fb l (ps.take (k + 1)) = fb l (ps.take k) ++ two (l.getD (ps.getD k 0) 0).toNat := by
  have ht : ps.take (k + 1) = ps.take k ++ [ps.getD k 0] := by
    rw [List.take_add_one, List.getD_eq_getElem?_getD, List.getElem?_eq_getElem h]
    rfl
  unfold fb
  rw [ht, List.flatMap_append, List.flatMap_cons, List.flatMap_nil, List.append_nil]
theorem two_eq (b : Nat) (h : isM b = true) : two b = [b == 91 || b == 123, (b == 91 || b == 123) || (b == 58 || b == 44)] := by
  rcases (isM_iff b).1 h with rfl | rfl | rfl | rfl | rfl | rfl <;> rfl
theorem pl_isM (l : List UInt8) : ∀ (q i : Nat) (m : List UInt8), i = m.length → ∀ p, p ∈ pl q i l → isM ((m ++ l).getD p 0).toNat = true := by
  induction l with
  | nil => intro q i m _ p hp; exact absurd hp List.not_mem_nil
  | cons b l ih =>
    intro q i m hi p hp
    have hb : (m ++ b :: l).getD i 0 = b := by
      rw [hi, List.getD_eq_getElem?_getD, List.getElem?_append_right (Nat.le_refl _), Nat.sub_self]
      rfl
    have hm2 : m ++ b :: l = (m ++ [b]) ++ l := by rw [List.append_assoc]; rfl
    have hl : i + 1 = (m ++ [b]).length := by rw [List.length_append, hi]; rfl
    by_cases hm : q = 0 ∧ isM b.toNat = true
    · obtain ⟨rfl, hm⟩ := hm
      rw [pl_mark i b l hm] at hp
      rcases List.mem_cons.1 hp with rfl | hp
      · rw [hb]
        exact hm
      · rw [hm2]
        exact ih _ _ (m ++ [b]) hl p hp
    · rw [pl_other q i b l hm] at hp
      rw [hm2]
      exact ih _ _ (m ++ [b]) hl p hp
/-- The k-th mark: where it is, and that it is one. -/
theorem pl_get (l : List UInt8) (k : Nat) (h : k < (pl 0 0 l).length) : (pl 0 0 l).getD k 0 < l.length ∧ isM (l.getD ((pl 0 0 l).getD k 0) 0).toNat = true := by
  have e : (pl 0 0 l).getD k 0 = (pl 0 0 l)[k] := by
    rw [List.getD_eq_getElem?_getD, List.getElem?_eq_getElem h]
    rfl
  have hm := List.getElem_mem h
  rw [← e] at hm
  have h1 := pl_lt l 0 0 _ hm
  exact ⟨by omega, pl_isM l 0 0 [] rfl _ hm⟩
end Mk
set_option maxHeartbeats 4000000 in
theorem mrParens_any (s : ByteArray) (w : World) (hs : s.size ≤ 1000000) :
    Calls Try.prog 15 #[.string s] w fun e w' => (∃ v, e = .returned v ∧ Mk.Lb w' w.heap.size v (Mk.bs 0 s.data.toList)) ∧ Below w.heap.size w w' := by
  obtain ⟨i0, hi, hz0, hz1, hz2⟩ := info_parts Try.infoBm2
  have hlen : s.data.toList.length = s.size := rfl
  have HGET : Hid (∀ k, k < (Mk.pl 0 0 s.data.toList).length → ∃ (h : (Mk.pl 0 0 s.data.toList).getD k 0 < s.size), Mk.isM s[(Mk.pl 0 0 s.data.toList).getD k 0].toNat = true ∧ (s.data.toList.getD ((Mk.pl 0 0 s.data.toList).getD k 0) 0).toNat = s[(Mk.pl 0 0 s.data.toList).getD k 0].toNat) := hidden fun k hk => by
    obtain ⟨h1, h2⟩ := Mk.pl_get s.data.toList k hk
    have h3 : (s.data.toList.getD ((Mk.pl 0 0 s.data.toList).getD k 0) 0).toNat = s[(Mk.pl 0 0 s.data.toList).getD k 0].toNat := Js.bt_at s.data.toList _ h1
    exact ⟨h1, by rw [← h3]; exact h2, h3⟩
  have HNX := hidden (Mk.fb_next s.data.toList (Mk.pl 0 0 s.data.toList))
  have HFB := hidden (Mk.fb_all s.data.toList)
  have HLEN := hidden (Mk.fb_len s.data.toList)
  have HPLL : Hid ((Mk.pl 0 0 s.data.toList).length ≤ s.size) := hidden (by
    have h1 := Mk.pl_next s.data.toList
    have h2 : ∀ j, j ≤ s.size → (Mk.pl 0 0 (s.data.toList.take j)).length ≤ j := fun j hj => by
      induction j with
      | zero => exact Nat.le_refl _
      | succ j ih =>
        have h3 := ih (by omega)
        rw [h1 j (by rw [hlen]; omega)]
        split
        · rw [List.length_append]
          show _ + 1 ≤ _
          omega
        · omega
    have h4 := h2 s.size (Nat.le_refl _)
    rw [take_all s] at h4
    exact h4)
  have HPS := hidden (fun w => mrPlaces_any s w hs)
  rw [← HFB.out]
  obtain ⟨P, hP⟩ : ∃ P, P = Mk.pl 0 0 s.data.toList := ⟨_, rfl⟩
  rw [← hP] at HGET HNX HPLL HPS ⊢
  have hpl := HPLL.out
  clear hlen hP HFB
  go_enter Try.func15, Try.ntmps15
  go_wp2_with fail
  refine (HPS.out w).mono ?_
  rintro e w2 ⟨⟨vp, rfl, hp⟩, hb2⟩
  obtain ⟨ao, ca, rfl, hca, hfa⟩ := hp.get rfl
  have HB2 := hidden hb2
  have HFA := hidden hfa
  clear hp hb2 hfa
  go_wp2_with fail
  go_loopw [3, 5] (fun v i wr => ∃ j : Nat, j ≤ P.length ∧ i = .int .i64 (j : Nat) ∧ Mk.Lb wr w2.heap.size v (Mk.fb s.data.toList (P.take j)) ∧ Below w2.heap.size w2 wr) (fun _ i _ => P.length - (intOf i).toNat)
  case atStart => exact ⟨0, Nat.zero_le _, rfl, Mk.Lb.nil _ _, Below.refl _ _⟩
  case round =>
    obtain ⟨j, hj, rfl, hli, hb⟩ := hrel
    have HLI := hidden hli
    have HB := hidden hb
    have hsz := hb.size
    clear hli hb
    by_cases hlt : j < P.length
    · have hlt2 : decide ((j : Int) < ((P.length : Nat) : Int)) = true := decide_eq_true (by omega)
      obtain ⟨g, rfl, hg, hga⟩ := HFA.out (by omega)
      have c1 := (HB.out.cell (p := ⟨g, j, none⟩) hg).trans (hga j hlt)
      obtain ⟨hps, hm, hbt⟩ := HGET.out j hlt
      have HNXJ := hidden (HNX.out j hlt)
      obtain ⟨p, hp⟩ : ∃ p, p = P.getD j 0 := ⟨_, rfl⟩
      rw [hbt] at HNXJ
      rw [← hp] at c1
      have hps2 : p < s.size := by rw [hp]; exact hps
      have HTW : Hid (Mk.fb s.data.toList (P.take (j + 1)) = Mk.fb s.data.toList (P.take j) ++ Mk.two s[p].toNat) := by
        subst hp
        exact HNXJ.out
      have hm2 : Mk.isM s[p].toNat = true := by
        subst hp
        exact hm
      have HTE := hidden (Mk.two_eq _ hm2)
      have hcase := (Mk.isM_iff _).1 hm2
      obtain ⟨b, hb⟩ : ∃ b, b = s[p].toNat := ⟨_, rfl⟩
      have hbb : ∀ (h : p < s.size), (s[p]'h).toNat = b := fun h => hb.symm
      rw [← hb] at HTW HTE hcase
      clear hga hps hm hbt hp hm2 hb HNXJ
      have hlenj : (Mk.fb s.data.toList (P.take j)).length = 2 * j := by rw [HLEN.out, List.length_take]; omega
      obtain ⟨n, hn⟩ : ∃ n, n = (Mk.fb s.data.toList (P.take j)).length := ⟨_, rfl⟩
      have HN := hidden hn
      rw [← hn] at hlenj
      have hn5 : n ≤ 2000000 := by omega
      clear hn
      rcases hcase with rfl | rfl | rfl | rfl | rfl | rfl
      · go_wp2_with (at_builtin; refine wpList_append_own _ rfl (.tmp 28) (.tmp 39) 28 rfl w2.heap.size 4 i0 (.bool false) 1 1 Try.underlying28 hi hz0 hz1 hz2 rfl (by decide) u3 n (Mk.vb (Mk.fb s.data.toList (P.take j))) rfl (by rw [HN.out]; exact HLI.out.alloc _) ⟨_, 0, none⟩ 2 2 [.bool true, .bool true] rfl rfl (by exact World.news_of_block (heap_alloc_new _ _)) (by intro u hu; simp at hu; rcases hu with rfl | rfl <;> rfl) (by unfold maxLen; omega) (by omega) (by simp; omega) ?_; intro v2 w4 hown2 hgrow2 _; have HO2 := hidden hown2; have HG2 := hidden hgrow2; clear hown2 hgrow2)
        go_roundw
        case rel =>
          refine ⟨j + 1, hlt, by go_num, ?_, HB.out.trans (Mk.ow_grown1 hsz HLI.out HG2.out)⟩
          have h2 := HO2.out
          rw [HTW.out, HTE.out]
          show World.ownsRow _ _ _ _ _ _ _
          rw [List.length_append, Mk.vb_app, ← HN.out]
          exact h2
        case measure => simp [intOf]; omega
      · go_wp2_with (at_builtin; refine wpList_append_own _ rfl (.tmp 28) (.tmp 39) 28 rfl w2.heap.size 4 i0 (.bool false) 1 1 Try.underlying28 hi hz0 hz1 hz2 rfl (by decide) u3 n (Mk.vb (Mk.fb s.data.toList (P.take j))) rfl (by rw [HN.out]; exact HLI.out.alloc _) ⟨_, 0, none⟩ 2 2 [.bool false, .bool false] rfl rfl (by exact World.news_of_block (heap_alloc_new _ _)) (by intro u hu; simp at hu; rcases hu with rfl | rfl <;> rfl) (by unfold maxLen; omega) (by omega) (by simp; omega) ?_; intro v2 w4 hown2 hgrow2 _; have HO2 := hidden hown2; have HG2 := hidden hgrow2; clear hown2 hgrow2)
        go_roundw
        case rel =>
          refine ⟨j + 1, hlt, by go_num, ?_, HB.out.trans (Mk.ow_grown1 hsz HLI.out HG2.out)⟩
          have h2 := HO2.out
          rw [HTW.out, HTE.out]
          show World.ownsRow _ _ _ _ _ _ _
          rw [List.length_append, Mk.vb_app, ← HN.out]
          exact h2
        case measure => simp [intOf]; omega
      · go_wp2_with (at_builtin; refine wpList_append_own _ rfl (.tmp 28) (.tmp 39) 28 rfl w2.heap.size 4 i0 (.bool false) 1 1 Try.underlying28 hi hz0 hz1 hz2 rfl (by decide) u3 n (Mk.vb (Mk.fb s.data.toList (P.take j))) rfl (by rw [HN.out]; exact HLI.out.alloc _) ⟨_, 0, none⟩ 2 2 [.bool true, .bool true] rfl rfl (by exact World.news_of_block (heap_alloc_new _ _)) (by intro u hu; simp at hu; rcases hu with rfl | rfl <;> rfl) (by unfold maxLen; omega) (by omega) (by simp; omega) ?_; intro v2 w4 hown2 hgrow2 _; have HO2 := hidden hown2; have HG2 := hidden hgrow2; clear hown2 hgrow2)
        go_roundw
        case rel =>
          refine ⟨j + 1, hlt, by go_num, ?_, HB.out.trans (Mk.ow_grown1 hsz HLI.out HG2.out)⟩
          have h2 := HO2.out
          rw [HTW.out, HTE.out]
          show World.ownsRow _ _ _ _ _ _ _
          rw [List.length_append, Mk.vb_app, ← HN.out]
          exact h2
        case measure => simp [intOf]; omega
      · go_wp2_with (at_builtin; refine wpList_append_own _ rfl (.tmp 28) (.tmp 39) 28 rfl w2.heap.size 4 i0 (.bool false) 1 1 Try.underlying28 hi hz0 hz1 hz2 rfl (by decide) u3 n (Mk.vb (Mk.fb s.data.toList (P.take j))) rfl (by rw [HN.out]; exact HLI.out.alloc _) ⟨_, 0, none⟩ 2 2 [.bool false, .bool false] rfl rfl (by exact World.news_of_block (heap_alloc_new _ _)) (by intro u hu; simp at hu; rcases hu with rfl | rfl <;> rfl) (by unfold maxLen; omega) (by omega) (by simp; omega) ?_; intro v2 w4 hown2 hgrow2 _; have HO2 := hidden hown2; have HG2 := hidden hgrow2; clear hown2 hgrow2)
        go_roundw
        case rel =>
          refine ⟨j + 1, hlt, by go_num, ?_, HB.out.trans (Mk.ow_grown1 hsz HLI.out HG2.out)⟩
          have h2 := HO2.out
          rw [HTW.out, HTE.out]
          show World.ownsRow _ _ _ _ _ _ _
          rw [List.length_append, Mk.vb_app, ← HN.out]
          exact h2
        case measure => simp [intOf]; omega
      · go_wp2_with (at_builtin; refine wpList_append_own _ rfl (.tmp 28) (.tmp 39) 28 rfl w2.heap.size 4 i0 (.bool false) 1 1 Try.underlying28 hi hz0 hz1 hz2 rfl (by decide) u3 n (Mk.vb (Mk.fb s.data.toList (P.take j))) rfl (by rw [HN.out]; exact HLI.out.alloc _) ⟨_, 0, none⟩ 2 2 [.bool false, .bool true] rfl rfl (by exact World.news_of_block (heap_alloc_new _ _)) (by intro u hu; simp at hu; rcases hu with rfl | rfl <;> rfl) (by unfold maxLen; omega) (by omega) (by simp; omega) ?_; intro v2 w4 hown2 hgrow2 _; have HO2 := hidden hown2; have HG2 := hidden hgrow2; clear hown2 hgrow2)
        go_roundw
        case rel =>
          refine ⟨j + 1, hlt, by go_num, ?_, HB.out.trans (Mk.ow_grown1 hsz HLI.out HG2.out)⟩
          have h2 := HO2.out
          rw [HTW.out, HTE.out]
          show World.ownsRow _ _ _ _ _ _ _
          rw [List.length_append, Mk.vb_app, ← HN.out]
          exact h2
        case measure => simp [intOf]; omega
      · go_wp2_with (at_builtin; refine wpList_append_own _ rfl (.tmp 28) (.tmp 39) 28 rfl w2.heap.size 4 i0 (.bool false) 1 1 Try.underlying28 hi hz0 hz1 hz2 rfl (by decide) u3 n (Mk.vb (Mk.fb s.data.toList (P.take j))) rfl (by rw [HN.out]; exact HLI.out.alloc _) ⟨_, 0, none⟩ 2 2 [.bool false, .bool true] rfl rfl (by exact World.news_of_block (heap_alloc_new _ _)) (by intro u hu; simp at hu; rcases hu with rfl | rfl <;> rfl) (by unfold maxLen; omega) (by omega) (by simp; omega) ?_; intro v2 w4 hown2 hgrow2 _; have HO2 := hidden hown2; have HG2 := hidden hgrow2; clear hown2 hgrow2)
        go_roundw
        case rel =>
          refine ⟨j + 1, hlt, by go_num, ?_, HB.out.trans (Mk.ow_grown1 hsz HLI.out HG2.out)⟩
          have h2 := HO2.out
          rw [HTW.out, HTE.out]
          show World.ownsRow _ _ _ _ _ _ _
          rw [List.length_append, Mk.vb_app, ← HN.out]
          exact h2
        case measure => simp [intOf]; omega
    · obtain rfl : j = P.length := by omega
      have hlt2 : decide (((P.length : Nat) : Int) < ((P.length : Nat) : Int)) = false := decide_eq_false (by omega)
      rw [List.take_length] at HLI
      go_wp2_with fail
      go_ret
      exact ⟨⟨_, rfl, Mk.ow_base HLI.out HB2.out.size⟩, HB2.out.trans (HB.out.mono HB2.out.size)⟩
end Go.Proofs.Ytifkemcjificcaa
