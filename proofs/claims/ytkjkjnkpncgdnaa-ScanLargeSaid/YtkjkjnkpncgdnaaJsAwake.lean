/-
  The contract of law 12's awake: it answers true; nothing that was there is changed.
-/
import Derived.Test.YtkjkjnkpncgdnaaJsScan
import Derived.Test.YtkjkjnkpncgdnaaJsLaw
namespace Go.Proofs.Ytkjkjnkpncgdnaa
open Go.RowKit
theorem Js.bel_then {a w w' : World} (h : Below a.heap.size a w) (h2 : Below w.heap.size w w') : Below a.heap.size a w' := h.trans (h2.mono h.size)
set_option maxHeartbeats 1000000 in
theorem awake12_any (w : World) :
    Calls Try.prog 9 #[] w fun e w' => e = .returned (.bool true) ∧ Below w.heap.size w w' := by
  have HT := hidden (fun w => sValidate_any ⟨#[91, 91, 93, 93]⟩ 1 w (by decide))
  rw [show Js.ansV (⟨#[91, 91, 93, 93]⟩ : ByteArray).data.toList 1 = 2 from by decide +kernel, show Js.ansP (⟨#[91, 91, 93, 93]⟩ : ByteArray).data.toList 1 = 2 from by decide +kernel, show Js.ansE 1 = 0 from by decide] at HT
  go_enter Try.func9, Try.ntmps9
  go_wp2_with fail
  refine (HT.out _).mono ?_
  rintro e w1 ⟨rfl, h1⟩
  have HB1 := hidden h1
  clear h1
  go_wp2_with fail
  go_ret
  exact ⟨rfl, HB1.out⟩
namespace Js
theorem cut_bytes (s : ByteArray) (k : Nat) : (s.extract 0 k).data.toList = s.data.toList.take k := by
  obtain ⟨⟨l⟩⟩ := s
  rw [ByteArray.extract_mk]
  simp
/-- Texts so short that they are never too deep. -/
theorem ans_yes (l : List UInt8) (D : Nat) (hl : l.length ≤ 4096) (ho : (out c0 l).1 = some D) : ansV l 4096 = 1 ∧ ansP l 4096 = (D : Int) := by
  have hd := out_deep l c0 ok_c0 D ho
  have hc : c0.d = 0 := rfl
  rw [ansV_in l 4096 (by decide) (by decide), ansP_in l 4096 (by decide) (by decide), val_yes l 4096 D (by omega) ho (by omega)]
  exact ⟨rfl, rfl⟩
theorem ans_no (l : List UInt8) (hl : l.length ≤ 4096) (ho : (out c0 l).1 = none) : ansV l 4096 = 3 ∧ ansP l 4096 = ((out c0 l).2 : Int) := by
  rw [ansV_in l 4096 (by decide) (by decide), ansP_in l 4096 (by decide) (by decide), val_no l 4096 (out c0 l).2 (by omega) (Prod.ext ho rfl)]
  exact ⟨rfl, rfl⟩
end Js
/-- Just 4096: a text of at most 4096 bytes is accepted, or rejected where it dies. -/
theorem sShort_any (s : ByteArray) (w : World) (hs : s.size ≤ 4096) :
    Calls Try.prog 10 #[.string s, .int .i64 4096] w fun e w' => ((∃ D : Nat, (Js.out Js.c0 s.data.toList).1 = some D ∧ e = .returned (.tuple #[.int .i64 1, .int .i64 (D : Nat), .int .i64 0])) ∨ ((Js.out Js.c0 s.data.toList).1 = none ∧ e = .returned (.tuple #[.int .i64 3, .int .i64 (((Js.out Js.c0 s.data.toList).2 : Nat) : Int), .int .i64 0]))) ∧ Below w.heap.size w w' := by
  refine (sValidate_any s 4096 w (by omega)).mono ?_
  rintro e w' ⟨rfl, hb⟩
  refine ⟨?_, hb⟩
  rw [Js.ansE_in 4096 (by decide) (by decide)]
  cases ho : (Js.out Js.c0 s.data.toList).1 with
  | some D =>
    obtain ⟨h1, h2⟩ := Js.ans_yes s.data.toList D hs ho
    rw [h1, h2]
    exact .inl ⟨D, rfl, rfl⟩
  | none =>
    obtain ⟨h1, h2⟩ := Js.ans_no s.data.toList hs ho
    rw [h1, h2]
    exact .inr ⟨rfl, rfl⟩
end Go.Proofs.Ytkjkjnkpncgdnaa
