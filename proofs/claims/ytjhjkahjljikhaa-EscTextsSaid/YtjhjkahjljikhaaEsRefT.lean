/-
  The contract of laceworkref11's Text: of every string of at most 10000 bytes; nothing that was there is changed.
-/
import Derived.Lib.QuietBelow
import Derived.Test.YtjhjkahjljikhaaEsRefW
namespace Go.Proofs.Ytjhjkahjljikhaa
open Go.RowKit Go.Sort
theorem rScalars_any (s : ByteArray) (w : World) (hs : s.size ≤ 10000) :
    Calls Try.prog 23 #[.string s] w fun e w' => SsPost s.data.toList w e w' := by
  by_cases h : s.size < 2
  · exact rScalars_no s w hs (.inl h)
  · obtain ⟨E, hE⟩ : ∃ E, s.size = E + 1 := ⟨s.size - 1, by omega⟩
    have h0 : 0 < s.size := by omega
    have h1 : E < s.size := by omega
    by_cases h2 : s[0].toNat = 34
    · by_cases h3 : s[E].toNat = 34
      · exact rScalars_yes s E w hs hE (by omega) h0 h1 h2 h3
      · exact rScalars_no s w hs (.inr ⟨E, hE, by omega, h0, h1, .inr ⟨h2, h3⟩⟩)
    · exact rScalars_no s w hs (.inr ⟨E, hE, by omega, h0, h1, .inl h2⟩)
/-- A number of a list that is there. -/
theorem Og.at {w : World} {B : Nat} {v : Value} {l : List Int} (h : Og w B v l) : ∃ ao cap, v = .slice ao l.length cap ∧ l.length ≤ cap ∧ (0 < l.length → ∃ g, ao = some ⟨g, 0, none⟩ ∧ ∀ i, i < l.length → w.cell? ⟨g, i, none⟩ = some (.int .i64 (l.getD i 0))) := by
  rcases h.2 with ⟨h1, h2⟩ | ⟨g, cap, cur, hv, _, hg, hc, _, _, ht⟩
  · exact ⟨none, 0, by rw [h1, h2], by omega, fun h3 => by omega⟩
  · refine ⟨some ⟨g, 0, none⟩, cap, hv, hc, fun _ => ⟨g, rfl, fun i hi => ?_⟩⟩
    rw [Lib.cell_of_heap hg, ← Array.getElem?_toList]
    have e : (Es.vals l)[i]? = some (.int .i64 (l.getD i 0)) := by
      unfold Es.vals
      rw [List.getElem?_map, List.getD_eq_getElem?_getD, List.getElem?_eq_getElem hi]
      rfl
    rw [← e, ← ht, List.getElem?_take, if_pos (by omega)]
theorem Es.flat_take (l : List Int) (i : Nat) (h : i < l.length) : (l.take (i + 1)).flatMap Ut.encz = (l.take i).flatMap Ut.encz ++ Ut.encz (l.getD i 0) := by
  rw [List.take_add_one, List.getElem?_eq_getElem h, List.getD_eq_getElem?_getD, List.getElem?_eq_getElem h]
  exact Es.flat_snoc _ _
set_option maxRecDepth 100000 in
set_option maxHeartbeats 4000000 in
theorem rText_any (s : ByteArray) (w : World) (hs : s.size ≤ 10000) :
    Calls Try.prog 11 #[.string s] w fun e w' => e = .returned (.tuple #[.string ⟨(Es.txt s.data.toList).toArray⟩, .bool (Es.ok s.data.toList)]) ∧ Below w.heap.size w w' := by
  have HS := hidden (rScalars_any s w hs)
  go_enter Try.func11, Try.ntmps11
  go_wp2_with fail
  refine HS.out.mono ?_
  rintro e w1 ⟨⟨ho, rfl⟩ | ⟨ho, v, rfl, hv⟩, hb⟩
  · have HX := hidden (Es.txt_no ho).1
    have HB := hidden hb
    have HOK := hidden ho
    clear ho hb
    go_wp2_with fail
    go_loopw [6, 7] (fun t i wr => i = .int .i64 0 ∧ t = .string ⟨#[]⟩ ∧ wr = w1) (fun _ _ _ => 0)
    case atStart => exact ⟨rfl, rfl, rfl⟩
    case round =>
      obtain ⟨rfl, rfl, rfl⟩ := hrel
      go_wp2_with fail
      go_ret2
      rw [HX.out, HOK.out]
      exact ⟨rfl, HB.out⟩
  · have hlen : (Es.yl s.data.toList).length ≤ 10001 := Nat.le_trans (Es.yl_len _) (by show s.size + 1 ≤ _; omega)
    have HX : Hid (Es.txt s.data.toList = (Es.yl s.data.toList).flatMap Ut.encz) := (Es.txt_yes ho).1
    have HOK := hidden ho
    obtain ⟨ao, cap, rfl, hcap, hat⟩ := hv.at
    have HV := hidden hv
    have HB := hidden hb
    have HAT := hidden hat
    obtain ⟨O, hO⟩ : ∃ O, O = Es.yl s.data.toList := ⟨_, rfl⟩
    rw [← hO] at HX HV HAT hcap hlen ⊢
    clear ho hv hb hat hO
    obtain ⟨N, hN⟩ : ∃ N, N = O.length := ⟨_, rfl⟩
    rw [← hN] at hcap hlen ⊢
    have HN := hidden hN
    clear hN
    go_wp2_with fail
    go_loopw [6, 7] (fun t i wr => ∃ k : Nat, k ≤ N ∧ i = .int .i64 k ∧ t = .string ⟨((O.take k).flatMap Ut.encz).toArray⟩ ∧ Below w1.heap.size w1 wr) (fun _ i _ => N - (intOf i).toNat)
    case atStart => exact ⟨0, Nat.zero_le _, rfl, rfl, Below.refl _ _⟩
    case round =>
      obtain ⟨k, hk, rfl, rfl, hbk⟩ := hrel
      have HBK := hidden hbk
      clear hbk
      by_cases hlt : k < N
      · obtain ⟨g, hg, hcell⟩ := HAT.out (by have := HN.out; omega)
        subst hg
        have c0 := Es.cell_after HBK.out (hcell k (by have := HN.out; omega))
        have hfl : ((O.take k).flatMap Ut.encz).length ≤ 40004 := by
          have := Es.flat_len (O.take k)
          rw [List.length_take] at this
          omega
        obtain ⟨z, hz⟩ : ∃ z, z = O.getD k 0 := ⟨_, rfl⟩
        rw [← hz] at c0
        have HF := hidden (Es.flat_take O k (by have := HN.out; omega))
        have HZ := hidden hz
        obtain ⟨T, hT⟩ : ∃ T : ByteArray, T = ⟨((O.take k).flatMap Ut.encz).toArray⟩ := ⟨_, rfl⟩
        have hTs : T.size ≤ 40004 := by rw [hT]; exact hfl
        rw [← hT]
        have HT := hidden hT
        clear hcell hz hT hfl
        go_wp2_with fail
        refine (rPut_any z wr).mono ?_
        rintro e w3 ⟨rfl, hb3⟩
        have HB3 := hidden (Es.below_after HBK.out hb3)
        have hl4 : (⟨(Ut.encz z).toArray⟩ : ByteArray).size ≤ 4 := Es.encz_len z
        obtain ⟨P, hP⟩ : ∃ P : ByteArray, P = ⟨(Ut.encz z).toArray⟩ := ⟨_, rfl⟩
        rw [← hP] at hl4 ⊢
        have HP := hidden hP
        clear hb3 hP
        go_wp2_with fail
        go_roundw
        case rel =>
          refine ⟨k + 1, by omega, by go_num, ?_, HB3.out⟩
          rw [HT.out, HP.out, HF.out, ← HZ.out]
          exact congrArg Value.string (Es.bytes_app _ _)
        case measure => simp [intOf]; omega
      · obtain rfl : k = N := by omega
        have HK := hidden (List.take_of_length_le (l := O) (i := k) (by rw [HN.out]; exact Nat.le_refl _))
        go_wp2_with fail
        go_ret2
        rw [HX.out, HK.out, HOK.out]
        exact ⟨rfl, HB.out.trans (HBK.out.mono HB.out.size)⟩
end Go.Proofs.Ytjhjkahjljikhaa
