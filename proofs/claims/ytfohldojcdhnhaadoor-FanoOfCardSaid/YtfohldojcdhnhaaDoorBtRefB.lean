/-
  The contracts of the reference's eight and Bytes of layer 2: a number's eight bytes, and a row's bytes; nothing that was there is changed.
-/
import Derived.Test.YtfohldojcdhnhaaDoorBtBytes
import Derived.Test.YtfohldojcdhnhaaDoorBtRefW
import Derived.Laws.IdiomStrings
import Derived.Laws.Concat
namespace Go.Proofs.YtfohldojcdhnhaaDoor
open Go.RowKit
theorem Tryd.infoByte : (Tryd.prog.info? 5).map (fun i => (i.zero, i.size, i.bytes)) = some (some (.int .u8 0), 1, 1) := by kernel_rfl
theorem eight_next {B : Nat} {w : World} {vb : Value} {v k : Nat} {c : Int} (hk : k < 8) (hc : c = ((v / 2 ^ (8 * k) % 256 : Nat) : Int)) (h : w.ownsRow B 5 1 vb (k + 1) (Lib.byteCells ((Bt.eightB v).take k) ++ [.int .u8 c])) : w.ownsRow B 5 1 vb (k + 1) (Lib.byteCells ((Bt.eightB v).take (k + 1))) := by
  have e := cells_snoc [] ((Bt.eightB v).take k) (v / 2 ^ (8 * k)) c hc
  rw [List.nil_append, List.nil_append] at e
  rw [Bt.eightB_next v k hk, ← e]
  exact h
/-- string(b) of bytes that are owned. -/
theorem conv_bytes {B n : Nat} {w : World} {vb : Value} {l : List UInt8} (h : w.ownsRow B 5 1 vb n (Lib.byteCells l)) (h0 : 0 < n) (hn : n = l.length) : (convert 101 9 vb).run Tryd.prog w = .ok (.string ⟨l.toArray⟩) w := by
  subst hn
  obtain ⟨g, cap, rfl, _, _⟩ := h.form h0
  refine run_convert_bytes_back w _ _ 5 ⟨g, 0, none⟩ cap l Tryd.underlying101 Tryd.underlying5 Tryd.underlying9 fun j hj => ?_
  refine h.cells rfl j _ ?_
  simp [Lib.byteCells, hj]
set_option maxRecDepth 100000 in
set_option maxHeartbeats 1000000 in
theorem eight_any (v : Nat) (w : World) :
    Calls Tryd.prog 80 #[.int .u64 v] w fun e w' => e = .returned (.string ⟨(Bt.eightB v).toArray⟩) ∧ Below w.heap.size w w' := by
  obtain ⟨i0, hi, hz0, hz1, hz2⟩ := info_parts Tryd.infoByte
  go_enter Tryd.func80, Tryd.ntmps80
  go_wp2
  go_loopw [3, 4] (fun vb i wr => ∃ k : Nat, k ≤ 8 ∧ i = .int .i64 k ∧ wr.ownsRow w.heap.size 5 1 vb k (Lib.byteCells ((Bt.eightB v).take k)) ∧ Below w.heap.size w wr) (fun _ i _ => 8 - (intOf i).toNat)
  case atStart => exact ⟨0, by omega, rfl, World.ownsRow_nil _ _ _ _, Below.refl _ _⟩
  case round =>
    obtain ⟨k, hk, rfl, hown, hbel⟩ := hrel
    have hsz := hbel.size
    have HW := hidden hown
    have HBL := hidden hbel
    by_cases hlt : k < 8
    · clear hown hbel
      go_wp2_with (at_builtin; refine wpList_append_one _ rfl (.tmp 9) (.tmp 15) 101 rfl w.heap.size 5 i0 (.int .u8 0) 1 Tryd.underlying101 hi hz0 hz1 hz2 rfl u3 k (Lib.byteCells ((Bt.eightB v).take k)) rfl (by exact HW.out.alloc _) _ 1 _ _ rfl (by exact heap_alloc_new _ _) rfl (by unfold maxLen; omega) (by omega) (by simp; omega) ?_; intro v2 w2 hown2 hgrow2; have HO2 := hidden hown2; have HG2 := hidden hgrow2; clear hown2 hgrow2)
      go_roundw
      case rel => exact ⟨k + 1, by omega, by go_num, eight_next hlt (by rw [Wd.div_pow]; rfl) HO2.out, (HBL.out.alloc (by omega) _).grown HG2.out (by simp; omega) (fun j hj => (HW.out.lt j hj).1)⟩
      case measure => simp [intOf]; omega
    · obtain rfl : k = 8 := by omega
      have hcv := conv_bytes hown (by omega) (by rw [List.length_take, Bt.eightB_length]; rfl)
      rw [List.take_of_length_le (by rw [Bt.eightB_length]; omega)] at hcv
      clear hown hbel
      go_wp2
      go_ret
      exact ⟨rfl, HBL.out⟩
theorem str_append (a b : List UInt8) : Value.string ((⟨a.toArray⟩ : ByteArray) ++ (⟨b.toArray⟩ : ByteArray)) = .string ⟨(a ++ b).toArray⟩ := by
  rw [ByteArray.mk_append_mk]
set_option maxHeartbeats 1000000 in
theorem rBytes_any (L : List Bool) (v : Value) (w : World) (h : Bl w v L) (hL : L.length ≤ 1048576) :
    Calls Tryd.prog 51 #[v] w fun e w' => e = .returned (.string ⟨(Bt.rowB L.length (Bt.num L)).toArray⟩) ∧ Below w.heap.size w w' := by
  obtain ⟨ao, cap, rfl, hcap, hc⟩ := h.form
  have HH : Hid (Bl w (.slice ao L.length cap) L) := h
  obtain ⟨c, hcc⟩ : ∃ c, c = (L.length + 63) / 64 := ⟨_, rfl⟩
  have HC := hidden hcc
  have hc1 : 64 * c ≤ L.length + 63 := by omega
  have hc2 : L.length ≤ 64 * c := by omega
  clear hc h hcc
  go_enter Tryd.func51, Tryd.ntmps51
  go_wp2_with fail
  refine (eight_any L.length _).mono ?_
  rintro e w1 ⟨rfl, h1⟩
  have HL1 := hidden h1
  clear h1
  go_wp2_with fail
  go_loopw [3, 4] (fun sv i wr => ∃ k : Nat, k ≤ c ∧ i = .int .i64 k ∧ sv = .string ⟨(Bt.rowTo L.length (Bt.num L) k).toArray⟩ ∧ Below w.heap.size w wr) (fun _ i _ => c - (intOf i).toNat)
  case atStart => exact ⟨0, by omega, rfl, by rw [Bt.rowTo_zero], HL1.out⟩
  case round =>
    obtain ⟨k, hk, rfl, rfl, hbel⟩ := hrel
    have hlr : (Bt.rowTo L.length (Bt.num L) k).length + (Bt.eightB (Bt.wd (Bt.num L) k)).length ≤ 9223372036854775807 := by rw [Bt.rowTo_length, Bt.eightB_length]; omega
    have HBL := hidden hbel
    have hsz := hbel.size
    by_cases hlt : k < c
    · have hlt2 : 64 * (k : Int) < (L.length : Int) := by omega
      have HBr : Hid (Bl wr (.slice ao L.length cap) L) := HH.out.below hbel (Nat.le_refl _)
      clear hbel
      go_wp2_with fail
      refine (rWord_in L _ k _ HBr.out (by omega) (by omega)).mono ?_
      rintro e w2 ⟨rfl, rfl⟩
      go_wp2_with fail
      refine (eight_any (Bt.wd (Bt.num L) k) _).mono ?_
      rintro e w3 ⟨rfl, h1⟩
      have HQ1 := hidden h1
      clear h1
      go_wp2_with fail
      go_roundw
      case rel => exact ⟨k + 1, by omega, by go_num, by rw [Bt.rowTo_succ]; exact str_append _ _, HBL.out.trans (HQ1.out.mono hsz)⟩
      case measure => simp [intOf]; omega
    · obtain rfl : k = c := by omega
      clear hbel
      go_wp2_with fail
      go_ret
      refine ⟨?_, HBL.out⟩
      show Ending.returned (.string ⟨(Bt.rowTo L.length (Bt.num L) k).toArray⟩) = _
      unfold Bt.rowB
      rw [← HC.out]
end Go.Proofs.YtfohldojcdhnhaaDoor
