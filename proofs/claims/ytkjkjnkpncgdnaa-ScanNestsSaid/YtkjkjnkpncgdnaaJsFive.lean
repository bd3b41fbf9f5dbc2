/-
  What scan.Validate answers with five deep; the mathematics of the law ScanBlanks.
-/
import Derived.Test.YtkjkjnkpncgdnaaJsScan
import Derived.Test.YtkjkjnkpncgdnaaJsLaw
namespace Go.Proofs.Ytkjkjnkpncgdnaa
namespace Js
theorem app_bytes (s t : ByteArray) : (s ++ t).data.toList = s.data.toList ++ t.data.toList := by
  rw [ByteArray.data_append, Array.toList_append]
theorem five_yes (l : List UInt8) (D : Nat) (hl : l.length ≤ 65536) (ho : (out c0 l).1 = some D) : ansV l 5 = (if 5 < D then 2 else 1) ∧ ansP l 5 = (D : Int) := by
  rw [ansV_in l 5 (by decide) (by decide), ansP_in l 5 (by decide) (by decide)]
  by_cases h : 5 < D
  · rw [val_deep l 5 D (by omega) ho (by omega), if_pos h]
    exact ⟨rfl, rfl⟩
  · rw [val_yes l 5 D (by omega) ho (by omega), if_neg h]
    exact ⟨rfl, rfl⟩
theorem five_no (l : List UInt8) (hl : l.length ≤ 65536) (ho : (out c0 l).1 = none) : ansV l 5 = 3 ∧ ansP l 5 = ((out c0 l).2 : Int) := by
  rw [ansV_in l 5 (by decide) (by decide), ansP_in l 5 (by decide) (by decide), val_no l 5 (out c0 l).2 (by omega) (Prod.ext ho rfl)]
  exact ⟨rfl, rfl⟩
/-- Blanks ahead and behind. -/
theorem blanks_law (l a b : List UInt8) (hl : a.length + (l.length + b.length) ≤ 65536) (ha : ∀ x ∈ a, isB x.toNat = true) (hb : ∀ x ∈ b, isB x.toNat = true) :
    (ansV l 5 ≠ 3 ∧ ansV (a ++ (l ++ b)) 5 = ansV l 5 ∧ ansP (a ++ (l ++ b)) 5 = ansP l 5)
    ∨ (ansV l 5 = 3 ∧ ansV (a ++ (l ++ b)) 5 = 3 ∧ (ansP l 5 < (l.length : Int) → ansP (a ++ (l ++ b)) 5 = ansP l 5 + (a.length : Int)) ∧ ansP l 5 + (a.length : Int) ≤ ansP (a ++ (l ++ b)) 5) := by
  have hlen : (a ++ (l ++ b)).length ≤ 65536 := by
    rw [List.length_append, List.length_append]
    omega
  have hA := out_ahead a c0 (l ++ b) (sp_V [] 0) ha
  have hB := out_behind l b c0 ok_c0 hb
  cases ho : (out c0 l).1 with
  | some D =>
    have h1 := five_yes l D (by omega) ho
    have h2 := five_yes (a ++ (l ++ b)) D hlen (by rw [hA, hB.1 D ho])
    refine .inl ⟨?_, by rw [h1.1, h2.1], by rw [h1.2, h2.2]⟩
    rw [h1.1]
    split <;> decide
  | none =>
    have h0 := hB.2 ho
    have h1 := five_no l (by omega) ho
    have h2 := five_no (a ++ (l ++ b)) hlen (by rw [hA]; exact h0.1)
    rw [hA] at h2
    refine .inr ⟨h1.1, h2.1, fun h => ?_, ?_⟩
    · rw [h1.2] at h ⊢
      rw [h2.2, out_before l b c0 (by omega)]
      exact Int.natCast_add _ _
    · rw [h1.2, h2.2]
      show _ ≤ (((out c0 (l ++ b)).2 + a.length : Nat) : Int)
      omega
end Js
end Go.Proofs.Ytkjkjnkpncgdnaa
