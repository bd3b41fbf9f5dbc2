/-
  The walk of the law EscEquals: it returns true for every two strings; nothing that was there is changed.
-/
import Derived.Test.YtjhjkahjljikhaaEsRefT
import Derived.Test.YtjhjkahjljikhaaEsAwake
namespace Go.Proofs.Ytjhjkahjljikhaa
open Go.RowKit
set_option maxHeartbeats 1000000 in
theorem EscEquals_long (s t : ByteArray) (w : World) (hl : 300 < s.size ∨ s.size ≤ 300 ∧ 300 < t.size) (hm : s.size ≤ 9223372036854775807) (hm2 : t.size ≤ 9223372036854775807) :
    Calls Try.prog 4 #[.string s, .string t] w fun e w' => e = .returned (.bool true) ∧ Below w.heap.size w w' := by
  rcases hl with hl | ⟨hl, hl2⟩
  all_goals go_enter Try.func4, Try.ntmps4
  all_goals go_wp2_with fail
  all_goals refine (awake11_any w).mono ?_
  all_goals rintro e w1 ⟨rfl, hq1⟩
  all_goals have HQ1 := hidden hq1
  all_goals clear hq1
  all_goals go_wp2_with fail
  all_goals refine (awake11_any w1).mono ?_
  all_goals rintro e w2 ⟨rfl, hq2⟩
  all_goals have HQ2 := hidden (Es.below_after HQ1.out hq2)
  all_goals clear hq2
  all_goals go_wp2_with fail
  all_goals go_ret
  all_goals exact ⟨rfl, HQ2.out⟩
set_option maxHeartbeats 2000000 in
set_option maxRecDepth 100000 in
theorem EscEquals_short (s t U : ByteArray) (o b : Bool) (w : World) (hl : s.size ≤ 300) (hl2 : t.size ≤ 300) (ho : Es.ok s.data.toList = o) (hU : U = ⟨(Es.txt s.data.toList).toArray⟩) (hb : (U.toList == t.toList) = b) (h : Es.eqv s.data.toList t.data.toList = (o && b)) :
    Calls Try.prog 4 #[.string s, .string t] w fun e w' => e = .returned (.bool true) ∧ Below w.heap.size w w' := by
  have HR := hidden (fun w => rText_any s w (by omega))
  have HE := hidden (fun w => esEqual_any s t w (by omega) (by omega))
  rw [ho, ← hU] at HR
  rw [h] at HE
  clear h ho hU
  cases o
  · go_enter Try.func4, Try.ntmps4
    go_wp2_with fail
    refine (awake11_any w).mono ?_
    rintro e w1 ⟨rfl, h1⟩
    have HB1 := hidden h1
    clear h1
    go_wp2_with fail
    refine (HR.out w1).mono ?_
    rintro e w2 ⟨rfl, h2⟩
    have HB2 := hidden (Es.below_after HB1.out h2)
    clear h2
    go_wp2_with fail
    refine (HE.out w2).mono ?_
    rintro e w3 ⟨rfl, h3⟩
    have HB3 := hidden (Es.below_after HB2.out h3)
    clear h3
    go_wp2_with fail
    go_ret
    exact ⟨rfl, HB3.out⟩
  · go_enter Try.func4, Try.ntmps4
    go_wp2_with fail
    refine (awake11_any w).mono ?_
    rintro e w1 ⟨rfl, h1⟩
    have HB1 := hidden h1
    clear h1
    go_wp2_with fail
    refine (HR.out w1).mono ?_
    rintro e w2 ⟨rfl, h2⟩
    have HB2 := hidden (Es.below_after HB1.out h2)
    clear h2
    go_wp2_with fail
    refine (HE.out w2).mono ?_
    rintro e w3 ⟨rfl, h3⟩
    have HB3 := hidden (Es.below_after HB2.out h3)
    clear h3
    cases b
    · go_wp2_with fail
      go_ret
      exact ⟨rfl, HB3.out⟩
    · go_wp2_with fail
      go_ret
      exact ⟨rfl, HB3.out⟩
theorem EscEquals_walk (s t : ByteArray) (w : World) (hm : s.size ≤ 9223372036854775807) (hm2 : t.size ≤ 9223372036854775807) :
    Calls Try.prog 4 #[.string s, .string t] w fun e w' => e = .returned (.bool true) ∧ Below w.heap.size w w' := by
  by_cases hl : s.size ≤ 300
  · by_cases hl2 : t.size ≤ 300
    · refine EscEquals_short s t _ _ _ w hl hl2 rfl rfl rfl ?_
      unfold Es.eqv
      cases h : Es.ok s.data.toList with
      | false => rfl
      | true =>
        rw [(Es.txt_yes h).1, Go.ByteArray.toList_eq, Go.ByteArray.toList_eq]
    · exact EscEquals_long s t w (.inr ⟨hl, by omega⟩) hm hm2
  · exact EscEquals_long s t w (.inl (by omega)) hm hm2
end Go.Proofs.Ytjhjkahjljikhaa
