/-
  Lists of numbers and of bits that a call owns: what stays, what is appended, how they read; the contracts of law 13's SameInts and SameBits.
  The contracts of laceworkref13's Is and Inside, and of laceworkref06's Balanced: for every byte, string and list of bits; nothing that was there is changed.
  The contract of laceworkref13's Inside: of every string; nothing that was there is changed.
  The contracts of laceworkref13's Places and Parens: of every string; nothing that was there is changed.
-/
import Derived.Deep.QuietTactic
import Derived.Lib.Builder
import Derived.Test.YtoipliflphbeiaaGreatDoorC00
import Derived.Test.YtoipliflphbeiaaGreatDoorJUt
import Derived.Test.YtoipliflphbeiaaGreatDoorJBtMem
namespace Go.Proofs.YtoipliflphbeiaaGreatDoor
open Go.RowKit
namespace Mk
def vi (l : List Nat) : List Value := l.map fun i => Value.int .i64 (i : Nat)
def vb (l : List Bool) : List Value := l.map Value.bool
theorem vb_len (l : List Bool) : (vb l).length = l.length := List.length_map _
theorem vi_app (a b : List Nat) : vi (a ++ b) = vi a ++ vi b := List.map_append
theorem vb_app (a b : List Bool) : vb (a ++ b) = vb a ++ vb b := List.map_append
/-- Numbers behind the value v; bits behind it. -/
def Li (w : World) (B : Nat) (v : Value) (l : List Nat) : Prop := w.ownsRow B 3 1 v l.length (vi l)
def Lb (w : World) (B : Nat) (v : Value) (l : List Bool) : Prop := w.ownsRow B 4 1 v l.length (vb l)
theorem ow_base {w : World} {B C : Nat} {e : TypeId} {v : Value} {n : Nat} {xs : List Value} (h : w.ownsRow B e 1 v n xs) (hC : C ≤ B) : w.ownsRow C e 1 v n xs := by
  refine ⟨h.1, ?_⟩
  rcases h.2 with h | ⟨g, cap, cur, hv, hb, r⟩
  · exact .inl h
  · exact .inr ⟨g, cap, cur, hv, Nat.le_trans hC hb, r⟩
theorem ow_kept {B C : Nat} {e : TypeId} {u u' : World} {v : Value} {n : Nat} {xs : List Value} (h : u.ownsRow B e 1 v n xs) (hb : Below C u u') (hC : u.heap.size ≤ C) : u'.ownsRow B e 1 v n xs := by
  refine ⟨h.1, ?_⟩
  rcases h.2 with h | ⟨g, cap, cur, hv, hB, hg, r⟩
  · exact .inl h
  · exact .inr ⟨g, cap, cur, hv, hB, by rw [hb.block g (Nat.lt_of_lt_of_le (lt_of_block hg) hC)]; exact hg, r⟩
theorem ow_grown {B : Nat} {e : TypeId} {u u' : World} {v : Value} {n : Nat} {xs : List Value} (hB : B ≤ u.heap.size) (hown : u.ownsRow B e 1 v n xs) (h : u.grownBy u' v.ownBlock) : Below B u u' :=
  ⟨h.os, h.tape, h.output, h.size, fun i hi => h.block i (by have := h.size; omega) (fun e => by have := hown.lt i e.symm; omega)⟩
theorem ow_grown1 {B : Nat} {e : TypeId} {u u' : World} {v : Value} {n : Nat} {xs : List Value} {o : Obj} (hB : B ≤ u.heap.size) (hown : u.ownsRow B e 1 v n xs) (h : (u.alloc o).grownBy u' v.ownBlock) : Below B u u' :=
  ((Below.refl B u).alloc hB o).trans (ow_grown (Nat.le_trans hB ((Below.refl B u).alloc hB o).size) (hown.alloc o) h)
theorem ow_form {B : Nat} {e : TypeId} {u : World} {v : Value} {n : Nat} {xs : List Value} (h : u.ownsRow B e 1 v n xs) : ∃ ao cap, v = .slice ao n cap ∧ n ≤ cap ∧ (0 < n → ∃ g, ao = some ⟨g, 0, none⟩ ∧ g < u.heap.size ∧ ∀ j, j < n → u.cell? ⟨g, j, none⟩ = xs[j]?) := by
  have hl : xs.length = n := by have := h.1; omega
  rcases h.2 with ⟨hv, h0⟩ | ⟨g, cap, cur, hv, hb, hg, hnc, r⟩
  · exact ⟨none, 0, by rw [hv, h0], by omega, fun hn => by omega⟩
  · refine ⟨some ⟨g, 0, none⟩, cap, hv, hnc, fun _ => ⟨g, rfl, lt_of_block hg, fun j hj => ?_⟩⟩
    subst hv
    exact h.cellAt j (by omega)
theorem Li.at {w : World} {B : Nat} {v : Value} {l : List Nat} (h : Li w B v l) : ∃ ao cap, v = .slice ao l.length cap ∧ l.length ≤ cap ∧ (0 < l.length → ∃ g, ao = some ⟨g, 0, none⟩ ∧ g < w.heap.size ∧ ∀ j (hj : j < l.length), w.cell? ⟨g, j, none⟩ = some (.int .i64 (l[j] : Nat))) := by
  obtain ⟨ao, cap, hv, hc, hg⟩ := ow_form h
  refine ⟨ao, cap, hv, hc, fun h0 => ?_⟩
  obtain ⟨g, h1, h2, h3⟩ := hg h0
  refine ⟨g, h1, h2, fun j hj => ?_⟩
  rw [h3 j hj]
  unfold vi
  rw [List.getElem?_map, List.getElem?_eq_getElem hj]
  rfl
theorem Lb.at {w : World} {B : Nat} {v : Value} {l : List Bool} (h : Lb w B v l) : ∃ ao cap, v = .slice ao l.length cap ∧ l.length ≤ cap ∧ (0 < l.length → ∃ g, ao = some ⟨g, 0, none⟩ ∧ g < w.heap.size ∧ ∀ j (hj : j < l.length), w.cell? ⟨g, j, none⟩ = some (.bool l[j])) := by
  obtain ⟨ao, cap, hv, hc, hg⟩ := ow_form h
  refine ⟨ao, cap, hv, hc, fun h0 => ?_⟩
  obtain ⟨g, h1, h2, h3⟩ := hg h0
  refine ⟨g, h1, h2, fun j hj => ?_⟩
  rw [h3 j hj]
  unfold vb
  rw [List.getElem?_map, List.getElem?_eq_getElem hj]
  rfl
theorem Li.get {w : World} {B : Nat} {v : Value} {l : List Nat} {n : Nat} (h : Li w B v l) (hn : l.length = n) : ∃ ao cap, v = .slice ao n cap ∧ n ≤ cap ∧ (0 < n → ∃ g, ao = some ⟨g, 0, none⟩ ∧ g < w.heap.size ∧ ∀ j, j < n → w.cell? ⟨g, j, none⟩ = some (.int .i64 (l.getD j 0 : Nat))) := by
  subst hn
  obtain ⟨ao, cap, hv, hc, hg⟩ := h.at
  refine ⟨ao, cap, hv, hc, fun h0 => ?_⟩
  obtain ⟨g, h1, h2, h3⟩ := hg h0
  refine ⟨g, h1, h2, fun j hj => ?_⟩
  rw [h3 j hj, List.getD_eq_getElem?_getD, List.getElem?_eq_getElem hj]
  rfl
theorem Lb.get {w : World} {B : Nat} {v : Value} {l : List Bool} {n : Nat} (h : Lb w B v l) (hn : l.length = n) : ∃ ao cap, v = .slice ao n cap ∧ n ≤ cap ∧ (0 < n → ∃ g, ao = some ⟨g, 0, none⟩ ∧ g < w.heap.size ∧ ∀ j, j < n → w.cell? ⟨g, j, none⟩ = some (.bool (l.getD j false))) := by
  subst hn
  obtain ⟨ao, cap, hv, hc, hg⟩ := h.at
  refine ⟨ao, cap, hv, hc, fun h0 => ?_⟩
  obtain ⟨g, h1, h2, h3⟩ := hg h0
  refine ⟨g, h1, h2, fun j hj => ?_⟩
  rw [h3 j hj, List.getD_eq_getElem?_getD, List.getElem?_eq_getElem hj]
  rfl
theorem Li.nil (w : World) (B : Nat) : Li w B (.slice none 0 0) [] := World.ownsRow_nil _ _ _ _
theorem Lb.nil (w : World) (B : Nat) : Lb w B (.slice none 0 0) [] := World.ownsRow_nil _ _ _ _
end Mk
end Go.Proofs.YtoipliflphbeiaaGreatDoor
namespace Go.Proofs.YtoipliflphbeiaaGreatDoor
open Go.RowKit
namespace Mk
def six : List Nat := [91, 93, 123, 125, 58, 44]
theorem six_at (j : Nat) (hj : j < 6) (h : j < (⟨#[91, 93, 123, 125, 58, 44]⟩ : ByteArray).size) : ((⟨#[91, 93, 123, 125, 58, 44]⟩ : ByteArray)[j]'h).toNat = six.getD j 0 := by
  match j, hj with
  | 0, _ => rfl
  | 1, _ => rfl
  | 2, _ => rfl
  | 3, _ => rfl
  | 4, _ => rfl
  | 5, _ => rfl
theorem six_yes (j b : Nat) (hj : j < 6) (h : six.getD j 0 = b) : isM b = true := by
  subst h
  match j, hj with
  | 0, _ => rfl
  | 1, _ => rfl
  | 2, _ => rfl
  | 3, _ => rfl
  | 4, _ => rfl
  | 5, _ => rfl
theorem six_no (b : Nat) (h : ∀ j, j < 6 → six.getD j 0 ≠ b) : isM b = false := by
  refine isM_no (fun h2 => ?_)
  rcases h2 with h2 | h2 | h2 | h2 | h2 | h2
  · exact h 0 (by decide) h2.symm
  · exact h 1 (by decide) h2.symm
  · exact h 2 (by decide) h2.symm
  · exact h 3 (by decide) h2.symm
  · exact h 4 (by decide) h2.symm
  · exact h 5 (by decide) h2.symm
end Mk
set_option maxHeartbeats 1000000 in
theorem mrIs_any (b : Nat) (w : World) :
    Calls Tryz.prog 60 #[.int .u8 (b : Nat)] w fun e w' => e = .returned (.bool (Mk.isM b)) ∧ w' = w := by
  go_enter Tryz.func60, Tryz.ntmps60
  go_wp2_with fail
  go_loop [4] (fun i => ∃ j : Nat, j ≤ 6 ∧ i = .int .i64 (j : Nat) ∧ ∀ t, t < j → Mk.six.getD t 0 ≠ b) (fun i => 6 - (intOf i).toNat)
  case atStart => exact ⟨0, Nat.zero_le _, rfl, fun t h => by omega⟩
  case round =>
    obtain ⟨j, hj, rfl, hall⟩ := hrel
    have HALL := hidden hall
    clear hall
    by_cases hlt : j < 6
    · have hlt2 : decide ((j : Int) < 6) = true := decide_eq_true (by omega)
      have hx := Mk.six_at j hlt
      obtain ⟨g, hg⟩ : ∃ g, g = Mk.six.getD j 0 := ⟨_, rfl⟩
      rw [← hg] at hx
      have HG := hidden hg
      have HLT := hidden hlt
      clear hg
      by_cases heq : g = b
      · have HEQ := hidden heq
        have e1 : ((g : Int) == (b : Int)) = true := by rw [heq]; exact beq_self_eq_true _
        have e1n : (g == b) = true := by rw [heq]; exact beq_self_eq_true _
        clear heq
        go_wp2_with fail
        go_ret
        refine ⟨?_, rfl⟩
        rw [Mk.six_yes j b HLT.out (HG.out.symm.trans HEQ.out)]
        rfl
      · have HEQ := hidden heq
        have e1 : ((g : Int) == (b : Int)) = false := by rw [beq_eq_false_iff_ne]; omega
        have e1n : (g == b) = false := by rw [beq_eq_false_iff_ne]; exact heq
        clear heq
        go_wp2_with fail
        go_round
        case rel =>
          refine ⟨j + 1, HLT.out, by go_num, fun t ht => ?_⟩
          by_cases h4 : t < j
          · exact HALL.out t h4
          · obtain rfl : t = j := by omega
            rw [← HG.out]
            exact HEQ.out
        case measure => simp [intOf]; omega
    · have hlt2 : decide ((j : Int) < 6) = false := decide_eq_false (by omega)
      have HJ := hidden (show 6 ≤ j by omega)
      clear hlt
      go_wp2_with fail
      go_ret
      refine ⟨?_, rfl⟩
      rw [Mk.six_no b (fun t ht => HALL.out t (by have := HJ.out; omega))]
      rfl
end Go.Proofs.YtoipliflphbeiaaGreatDoor
namespace Go.Proofs.YtoipliflphbeiaaGreatDoor
open Go.RowKit
namespace Mk
/-- Of each byte, whether it stands in a string. -/
def ins : Nat → List UInt8 → List Bool
  | _, [] => []
  | q, b :: l => (if q = 0 ∧ b.toNat ≠ 34 then false else true) :: ins (st q b.toNat) l
theorem ins_len (l : List UInt8) : ∀ q, (ins q l).length = l.length := by
  induction l with
  | nil => intro q; rfl
  | cons b l ih => intro q; exact congrArg (· + 1) (ih _)
theorem ins_at (l : List UInt8) : ∀ (q j : Nat) (h : j < l.length), (ins q l).getD j false = (if run q (l.take j) = 0 ∧ (l[j]).toNat ≠ 34 then false else true) := by
  induction l with
  | nil => intro q j h; cases h
  | cons b l ih =>
    intro q j h
    cases j with
    | zero => rfl
    | succ j => exact ih _ j (Nat.lt_of_succ_lt_succ h)
theorem run_next (l : List UInt8) : ∀ (q j : Nat) (h : j < l.length), run q (l.take (j + 1)) = st (run q (l.take j)) (l[j]).toNat := by
  induction l with
  | nil => intro q j h; cases h
  | cons b l ih =>
    intro q j h
    cases j with
    | zero => rfl
    | succ j => exact ih _ j (Nat.lt_of_succ_lt_succ h)
theorem madeB (c : Nat) : madeCells #[Value.bool false] c = Array.replicate c (Value.bool false) := by
  apply Array.toList_inj.1
  rw [toList_madeCells_one, Array.toList_replicate]
theorem Tryz.infoBm : (Tryz.prog.info? 4).map (fun i => (i.zero, i.size, i.bytes)) = some (some (.bool false), 1, 1) := by kernel_rfl
theorem mk_bits (c : Nat) (hc : c ≤ 4294967296) (u : World) : (Instr.makeSlice 31 (.int .i64 (c : Int)) (.int .i64 (c : Int))).run Tryz.prog u = .ok (.slice (some ⟨u.heap.size, 0, none⟩) c c) (u.alloc (.cells (Array.replicate c (Value.bool false)) 4)) := by
  obtain ⟨i0, hi, hz0, hz1, hz2⟩ := info_parts Tryz.infoBm
  have h := run_make (P := Tryz.prog) u 31 4 i0 (.bool false) Tryz.underlying31 hi hz0 .i64 .i64 (c : Int) (c : Int) (by omega) (Int.le_refl _) (by rw [hz2]; omega) (by omega)
  rw [← madeB]
  simpa [hz1, Value.cells] using h
/-- The cells after k steps. -/
def fil (F : List Bool) (k : Nat) : Array Value := (vb (F.take k) ++ List.replicate (F.length - k) (Value.bool false)).toArray
theorem fil_zero (F : List Bool) : fil F 0 = Array.replicate F.length (Value.bool false) := by
  apply Array.toList_inj.1
  rw [Array.toList_replicate]
  rfl
theorem fil_next (F : List Bool) (k : Nat) (h : k < F.length) : (fil F k).setIfInBounds k (.bool (F.getD k false)) = fil F (k + 1) := by
  obtain ⟨d, hd⟩ : ∃ d, F.length - k = d + 1 := ⟨F.length - k - 1, by omega⟩
  unfold fil
  have ht : F.take (k + 1) = F.take k ++ [F.getD k false] := by
    rw [List.take_add_one, List.getD_eq_getElem?_getD, List.getElem?_eq_getElem h]
    rfl
  rw [hd, show F.length - (k + 1) = d from by omega, ht, vb_app, List.replicate_succ]
  have hl : (vb (F.take k)).length = k := by rw [vb_len, List.length_take]; omega
  generalize vb (F.take k) = A at *
  subst hl
  simp [vb]
theorem fil_false (F : List Bool) (k : Nat) (h : k < F.length) (hf : F.getD k false = false) : fil F k = fil F (k + 1) := by
  rw [← fil_next F k h, hf]
  have hat : (fil F k)[k]? = some (Value.bool false) := by
    have hl : (vb (F.take k)).length = k := by rw [vb_len, List.length_take]; omega
    unfold fil
    rw [List.getElem?_toArray, List.getElem?_append_right (by omega), hl, Nat.sub_self, List.getElem?_replicate, if_pos (by omega)]
  apply Array.ext_getElem?
  intro i
  rw [Array.getElem?_setIfInBounds]
  by_cases h2 : k = i
  · subst h2
    rw [if_pos rfl, hat]
    obtain ⟨h3, _⟩ := Array.getElem?_eq_some_iff.1 hat
    rw [if_pos h3]
  · rw [if_neg h2]
theorem fil_at (F : List Bool) (k : Nat) (h : k < F.length) : (fil F k)[k]? = some (Value.bool false) := by
  have hl : (vb (F.take k)).length = k := by rw [vb_len, List.length_take]; omega
  unfold fil
  rw [List.getElem?_toArray, List.getElem?_append_right (by omega), hl, Nat.sub_self, List.getElem?_replicate, if_pos (by omega)]
theorem fil_own {w : World} {g : Nat} {F : List Bool} {n : Nat} (hn : F.length = n) (hl : n ≤ 4294967296) (hg : w.heap[g]? = some (.cells (fil F n) 4 (0, 0))) : Lb w g (.slice (some ⟨g, 0, none⟩) n n) F := by
  subst hn
  have e : fil F F.length = (vb F).toArray := by
    unfold fil
    rw [List.take_of_length_le (Nat.le_refl _), Nat.sub_self, List.replicate_zero, List.append_nil]
  rw [e] at hg
  exact ⟨by rw [vb_len]; omega, .inr ⟨g, F.length, _, rfl, Nat.le_refl _, hg, Nat.le_refl _, by unfold maxLen; omega, by rw [List.size_toArray, vb_len]; omega, by rw [List.take_of_length_le]; rw [vb_len]; omega⟩⟩
theorem set_same {w : World} {b j : Nat} {u : Value} {cur : Array Value} {e : TypeId} {fr : Nat × Nat} (h : w.heap[b]? = some (.cells cur e fr)) : (w.setCell ⟨b, j, none⟩ u).heap[b]? = some (.cells (cur.setIfInBounds j u) e fr) := by
  simp [World.setCell, Array.getElem?_modify, h]
end Mk
set_option maxHeartbeats 4000000 in
theorem mInside_any (s : ByteArray) (w : World) (hs : s.size ≤ 1000000) :
    Calls Tryz.prog 59 #[.string s] w fun e w' => (∃ v, e = .returned v ∧ Mk.Lb w' w.heap.size v (Mk.ins 0 s.data.toList)) ∧ Below w.heap.size w w' := by
  have hlen : s.data.toList.length = s.size := rfl
  have hmk := Mk.mk_bits s.size (by omega)
  have HFL : Hid ((Mk.ins 0 s.data.toList).length = s.size) := hidden (Mk.ins_len _ _)
  have HAT : Hid (∀ j (h : j < s.size), (Mk.ins 0 s.data.toList).getD j false = (if Mk.run 0 (s.data.toList.take j) = 0 ∧ s[j].toNat ≠ 34 then false else true)) := hidden fun j h => Mk.ins_at s.data.toList 0 j h
  have HRN : Hid (∀ j (h : j < s.size), Mk.run 0 (s.data.toList.take (j + 1)) = Mk.st (Mk.run 0 (s.data.toList.take j)) s[j].toNat) := hidden fun j h => Mk.run_next s.data.toList 0 j h
  clear hlen
  obtain ⟨F, hF⟩ : ∃ F, F = Mk.ins 0 s.data.toList := ⟨_, rfl⟩
  obtain ⟨R, hR⟩ : ∃ R : Nat → Nat, ∀ j, Mk.run 0 (s.data.toList.take j) = R j := ⟨_, fun _ => rfl⟩
  have hR0 : R 0 = 0 := (hR 0).symm
  rw [← hF] at HFL HAT ⊢
  simp only [hR] at HAT HRN
  have HR0 := hidden hR0
  clear hF hR hR0
  go_enter Tryz.func59, Tryz.ntmps59
  go_wp2_with fail
  go_loopw [4] (fun i wr => ∃ j : Nat, i = .int .i64 (j : Nat) ∧ j ≤ s.size + 1 ∧ (j < s.size → R j = 0) ∧ wr.heap[w.heap.size]? = some (.cells (Mk.fil F (min j s.size)) 4 (0, 0)) ∧ Below w.heap.size w wr) (fun i _ => s.size + 1 - (intOf i).toNat)
  case atStart =>
    refine ⟨0, rfl, Nat.zero_le _, fun _ => HR0.out, ?_, (Below.refl _ _).alloc (Nat.le_refl _) _⟩
    rw [heap_alloc_new, Nat.zero_min, Mk.fil_zero, HFL.out]
  case round =>
    obtain ⟨j, rfl, hj1, hRj, hg, hb⟩ := hrel
    have HB := hidden hb
    clear hb
    by_cases hlt : j < s.size
    · have hR0 := hRj hlt
      rw [Nat.min_eq_left (by omega)] at hg
      have HG := hidden hg
      have HR := hidden hR0
      have hlt2 : decide ((j : Int) < (s.size : Int)) = true := decide_eq_true (by omega)
      clear hg hRj hR0
      by_cases hb : s[j].toNat = 34
      · have HBB := hidden hb
        have e1 : (((s[j].toNat : Nat) : Int) != 34) = false := by rw [hb]; rfl
        have e1n : (s[j].toNat != 34) = false := by rw [hb]; rfl
        have HR1 : Hid (R (j + 1) = 1) := by
          have h1 := HRN.out j hlt
          rw [HR.out, hb] at h1
          exact h1
        clear hb
        have hjF : j < F.length := by rw [HFL.out]; exact hlt
        have c1 : wr.cell? ⟨w.heap.size, j, none⟩ = some (.bool false) := by rw [Lib.cell_of_heap HG.out, Mk.fil_at F j hjF]
        have f1 : wr.frozen? ⟨w.heap.size, j, none⟩ = false := Lib.frozen_of_heap HG.out j
        have hFj : F.getD j false = true := by
          rw [HAT.out j hlt]
          exact if_neg (fun h => h.2 HBB.out)
        have HG2 : Hid ((wr.setCell ⟨w.heap.size, j, none⟩ (.bool true)).heap[w.heap.size]? = some (.cells (Mk.fil F (j + 1)) 4 (0, 0))) := by
          rw [← Mk.fil_next F j hjF, hFj]
          exact Mk.set_same HG.out
        have HB2 := hidden (HB.out.setCell (p := ⟨w.heap.size, j, none⟩) (Nat.le_refl _) (.bool true))
        clear hjF hFj
        go_wp2_with fail
        go_loopw [4] (fun i wq => ∃ t : Nat, i = .int .i64 (t : Nat) ∧ j < t ∧ t ≤ s.size ∧ (t < s.size → R t = 1) ∧ wq.heap[w.heap.size]? = some (.cells (Mk.fil F t) 4 (0, 0)) ∧ Below w.heap.size w wq) (fun i _ => s.size - (intOf i).toNat)
        case atStart => exact ⟨j + 1, by go_num, Nat.lt_succ_self _, hlt, fun _ => HR1.out, HG2.out, HB2.out⟩
        case round =>
          obtain ⟨t, rfl, hjt, hts, hRt, hgt, hbt⟩ := hrel
          have HGT := hidden hgt
          have HBT := hidden hbt
          clear HG HB HG2 HB2 hgt hbt c1 f1
          by_cases hlt3 : t < s.size
          · have HRT := hidden (hRt hlt3)
            have hlt4 : decide ((t : Int) < (s.size : Int)) = true := decide_eq_true (by omega)
            have HRN2 := hidden (HRN.out t hlt3)
            clear hRt
            by_cases h34 : s[t].toNat = 34
            · have e2 : (((s[t].toNat : Nat) : Int) != 34) = false := by rw [h34]; rfl
              have e2n : (s[t].toNat != 34) = false := by rw [h34]; rfl
              have HR2 : Hid (R (t + 1) = 0) := by
                have h1 := HRN2.out
                rw [HRT.out, h34] at h1
                exact h1
              clear h34
              have hjF : t < F.length := by rw [HFL.out]; exact hlt3
              have c1 : wr.cell? ⟨w.heap.size, t, none⟩ = some (.bool false) := by rw [Lib.cell_of_heap HGT.out, Mk.fil_at F t hjF]
              have f1 : wr.frozen? ⟨w.heap.size, t, none⟩ = false := Lib.frozen_of_heap HGT.out t
              have hFj : F.getD t false = true := by
                rw [HAT.out t hlt3]
                exact if_neg (fun h => by rw [HRT.out] at h; exact absurd h.1 (by decide))
              have HG2 : Hid ((wr.setCell ⟨w.heap.size, t, none⟩ (.bool true)).heap[w.heap.size]? = some (.cells (Mk.fil F (t + 1)) 4 (0, 0))) := by
                rw [← Mk.fil_next F t hjF, hFj]
                exact Mk.set_same HGT.out
              have HB2 := hidden (HBT.out.setCell (p := ⟨w.heap.size, t, none⟩) (Nat.le_refl _) (.bool true))
              clear hjF hFj
              go_wp2_with fail
              go_roundw
              case rel => exact ⟨t + 1, by go_num, by omega, fun _ => HR2.out, by rw [Nat.min_eq_left hlt3]; exact HG2.out, HB2.out⟩
              case measure => simp [intOf]; omega
            · have e2 : (((s[t].toNat : Nat) : Int) != 34) = true := by rw [bne_iff_ne]; omega
              have e2n : (s[t].toNat != 34) = true := by rw [bne_iff_ne]; exact h34
              have H34 := hidden h34
              clear h34
              by_cases h92 : s[t].toNat = 92
              · have e3 : (((s[t].toNat : Nat) : Int) == 92) = true := by rw [h92]; rfl
                have e3n : (s[t].toNat == 92) = true := by rw [h92]; rfl
                have HR2 : Hid (R (t + 1) = 2) := by
                  have h1 := HRN2.out
                  rw [HRT.out, h92] at h1
                  exact h1
                clear h92
                have hjF : t < F.length := by rw [HFL.out]; exact hlt3
                have c1 : wr.cell? ⟨w.heap.size, t, none⟩ = some (.bool false) := by rw [Lib.cell_of_heap HGT.out, Mk.fil_at F t hjF]
                have f1 : wr.frozen? ⟨w.heap.size, t, none⟩ = false := Lib.frozen_of_heap HGT.out t
                have hFj : F.getD t false = true := by
                  rw [HAT.out t hlt3]
                  exact if_neg (fun h => by rw [HRT.out] at h; exact absurd h.1 (by decide))
                have HG2 : Hid ((wr.setCell ⟨w.heap.size, t, none⟩ (.bool true)).heap[w.heap.size]? = some (.cells (Mk.fil F (t + 1)) 4 (0, 0))) := by
                  rw [← Mk.fil_next F t hjF, hFj]
                  exact Mk.set_same HGT.out
                have HB2 := hidden (HBT.out.setCell (p := ⟨w.heap.size, t, none⟩) (Nat.le_refl _) (.bool true))
                clear hjF hFj
                by_cases hlast : t + 1 < s.size
                · have e4 : decide ((t : Int) < (s.size : Int) - 1) = true := decide_eq_true (by omega)
                  have HRN3 := hidden (HRN.out (t + 1) hlast)
                  have HR3 : Hid (R (t + 2) = 1) := by
                    have h1 := HRN3.out
                    rw [HR2.out] at h1
                    exact h1
                  obtain ⟨y, hy⟩ : ∃ y, y = t + 1 := ⟨_, rfl⟩
                  have hy2 : (t : Int) + 1 = (y : Int) := by omega
                  have hys : y < s.size := by omega
                  have HY := hidden hy
                  have HG3 : Hid ((wr.setCell ⟨w.heap.size, t, none⟩ (.bool true)).heap[w.heap.size]? = some (.cells (Mk.fil F y) 4 (0, 0))) := by rw [hy]; exact HG2.out
                  have hyF : y < F.length := by rw [HFL.out]; exact hys
                  obtain ⟨wz, hwz⟩ : ∃ wz, wz = wr.setCell ⟨w.heap.size, t, none⟩ (.bool true) := ⟨_, rfl⟩
                  have hwz2 := hwz.symm
                  have HWZ := hidden hwz
                  rw [← hwz] at HG3 HB2
                  have c2 : wz.cell? ⟨w.heap.size, y, none⟩ = some (.bool false) := by rw [Lib.cell_of_heap HG3.out, Mk.fil_at F y hyF]
                  have f2 : wz.frozen? ⟨w.heap.size, y, none⟩ = false := Lib.frozen_of_heap HG3.out y
                  have hFy : F.getD y false = true := by
                    rw [HAT.out y hys]
                    refine if_neg (fun h => ?_)
                    have h1 := h.1
                    rw [hy, HR2.out] at h1
                    exact absurd h1 (by decide)
                  have HG4 : Hid ((wz.setCell ⟨w.heap.size, y, none⟩ (.bool true)).heap[w.heap.size]? = some (.cells (Mk.fil F (y + 1)) 4 (0, 0))) := by
                    rw [← Mk.fil_next F y hyF, hFy]
                    exact Mk.set_same HG3.out
                  have HB4 := hidden (HB2.out.setCell (p := ⟨w.heap.size, y, none⟩) (Nat.le_refl _) (.bool true))
                  clear hyF hFy hy hwz hwz2
                  rw [HWZ.out] at c2 f2
                  go_wp2_with fail
                  go_roundw
                  case rel =>
                    have h2 := HY.out
                    refine ⟨y + 1, by go_num, by omega, hys, fun _ => by rw [h2]; exact HR3.out, ?_, ?_⟩
                    · have := HG4.out; rw [HWZ.out] at this; exact this
                    · have := HB4.out; rw [HWZ.out] at this; exact this
                  case measure => have := HY.out; simp [intOf]; omega
                · have e4 : decide ((t : Int) < (s.size : Int) - 1) = false := decide_eq_false (by omega)
                  go_wp2_with fail
                  go_roundw
                  case rel => exact ⟨t + 1, by go_num, by omega, hlt3, fun h => absurd h hlast, HG2.out, HB2.out⟩
                  case measure => simp [intOf]; omega
              · have e3 : (((s[t].toNat : Nat) : Int) == 92) = false := by rw [beq_eq_false_iff_ne]; omega
                have e3n : (s[t].toNat == 92) = false := by rw [beq_eq_false_iff_ne]; exact h92
                have HR2 : Hid (R (t + 1) = 1) := by
                  have h1 := HRN2.out
                  rw [HRT.out] at h1
                  rw [h1]
                  show (if (1 : Nat) = 0 then _ else if (1 : Nat) = 1 then (if s[t].toNat = 34 then 0 else if s[t].toNat = 92 then 2 else 1) else 1) = 1
                  rw [if_neg (by decide), if_pos rfl, if_neg H34.out, if_neg h92]
                clear h92
                have hjF : t < F.length := by rw [HFL.out]; exact hlt3
                have c1 : wr.cell? ⟨w.heap.size, t, none⟩ = some (.bool false) := by rw [Lib.cell_of_heap HGT.out, Mk.fil_at F t hjF]
                have f1 : wr.frozen? ⟨w.heap.size, t, none⟩ = false := Lib.frozen_of_heap HGT.out t
                have hFj : F.getD t false = true := by
                  rw [HAT.out t hlt3]
                  exact if_neg (fun h => by rw [HRT.out] at h; exact absurd h.1 (by decide))
                have HG2 : Hid ((wr.setCell ⟨w.heap.size, t, none⟩ (.bool true)).heap[w.heap.size]? = some (.cells (Mk.fil F (t + 1)) 4 (0, 0))) := by
                  rw [← Mk.fil_next F t hjF, hFj]
                  exact Mk.set_same HGT.out
                have HB2 := hidden (HBT.out.setCell (p := ⟨w.heap.size, t, none⟩) (Nat.le_refl _) (.bool true))
                clear hjF hFj
                go_wp2_with fail
                go_roundw
                case rel => exact ⟨t + 1, by go_num, by omega, hlt3, fun _ => HR2.out, HG2.out, HB2.out⟩
                case measure => simp [intOf]; omega
          · obtain rfl : t = s.size := by omega
            have hlt4 : decide ((s.size : Int) < (s.size : Int)) = false := decide_eq_false (by omega)
            go_wp2_with fail
            go_roundw
            case rel => exact ⟨s.size + 1, by go_num, Nat.le_refl _, fun h => by omega, by rw [Nat.min_eq_right (by omega)]; exact HGT.out, HBT.out⟩
            case measure => simp [intOf]; omega
      · have HBB := hidden hb
        have e1 : (((s[j].toNat : Nat) : Int) != 34) = true := by rw [bne_iff_ne]; omega
        have e1n : (s[j].toNat != 34) = true := by rw [bne_iff_ne]; exact hb
        have HR1 : Hid (R (j + 1) = 0) := by
          have h1 := HRN.out j hlt
          rw [HR.out] at h1
          rw [h1]
          exact Mk.st_no hb
        have hF0 : F.getD j false = false := by
          rw [HAT.out j hlt]
          exact if_pos ⟨HR.out, hb⟩
        have HF2 := hidden (Mk.fil_false F j (by rw [HFL.out]; exact hlt) hF0)
        clear hb hF0
        go_wp2_with fail
        go_roundw
        case rel => exact ⟨j + 1, by go_num, by omega, fun _ => HR1.out, by rw [Nat.min_eq_left hlt, ← HF2.out]; exact HG.out, HB.out⟩
        case measure => simp [intOf]; omega
    · have hlt2 : decide ((j : Int) < (s.size : Int)) = false := decide_eq_false (by omega)
      rw [Nat.min_eq_right (by omega)] at hg
      have HG := hidden hg
      clear hg hRj
      go_wp2_with fail
      go_ret
      exact ⟨⟨_, rfl, Mk.fil_own HFL.out (by omega) HG.out⟩, HB.out⟩
end Go.Proofs.YtoipliflphbeiaaGreatDoor
namespace Go.Proofs.YtoipliflphbeiaaGreatDoor
open Go.RowKit
namespace Mk
theorem pl_next (l : List UInt8) (j : Nat) (h : j < l.length) : pl 0 0 (l.take (j + 1)) = (if run 0 (l.take j) = 0 ∧ isM (l[j]).toNat = true then pl 0 0 (l.take j) ++ [j] else pl 0 0 (l.take j)) := by
  have ht : l.take (j + 1) = l.take j ++ [l[j]] := by
    rw [List.take_add_one, List.getElem?_eq_getElem h]
    rfl
  have hl : (l.take j).length = j := by rw [List.length_take]; omega
  rw [ht, pl_app, hl, Nat.zero_add]
  by_cases h2 : run 0 (l.take j) = 0 ∧ isM (l[j]).toNat = true
  · rw [if_pos h2, h2.1, pl_mark _ _ _ h2.2]
    rfl
  · rw [if_neg h2, pl_other _ _ _ _ h2]
    exact List.append_nil _
end Mk
theorem Tryz.infoIm : (Tryz.prog.info? 3).map (fun i => (i.zero, i.size, i.bytes)) = some (some (.int .i64 0), 1, 8) := by kernel_rfl
theorem Tryz.infoBm2 : (Tryz.prog.info? 4).map (fun i => (i.zero, i.size, i.bytes)) = some (some (.bool false), 1, 1) := by kernel_rfl
set_option maxHeartbeats 4000000 in
theorem mrPlaces_any (s : ByteArray) (w : World) (hs : s.size ≤ 1000000) :
    Calls Tryz.prog 28 #[.string s] w fun e w' => (∃ v, e = .returned v ∧ Mk.Li w' w.heap.size v (Mk.pl 0 0 s.data.toList)) ∧ Below w.heap.size w w' := by
  obtain ⟨i0, hi, hz0, hz1, hz2⟩ := info_parts Tryz.infoIm
  have hlen : s.data.toList.length = s.size := rfl
  have HFL : Hid ((Mk.ins 0 s.data.toList).length = s.size) := hidden (Mk.ins_len _ _)
  have HAT : Hid (∀ j (h : j < s.size), (Mk.ins 0 s.data.toList).getD j false = (if Mk.run 0 (s.data.toList.take j) = 0 ∧ s[j].toNat ≠ 34 then false else true)) := hidden fun j h => Mk.ins_at s.data.toList 0 j h
  have HPN : Hid (∀ j (h : j < s.size), Mk.pl 0 0 (s.data.toList.take (j + 1)) = (if Mk.run 0 (s.data.toList.take j) = 0 ∧ Mk.isM s[j].toNat = true then Mk.pl 0 0 (s.data.toList.take j) ++ [j] else Mk.pl 0 0 (s.data.toList.take j))) := hidden fun j h => Mk.pl_next s.data.toList j h
  have HPA : Hid (Mk.pl 0 0 (s.data.toList.take s.size) = Mk.pl 0 0 s.data.toList) := hidden (by rw [take_all s])
  have HPL : Hid (∀ j, j ≤ s.size → (Mk.pl 0 0 (s.data.toList.take j)).length ≤ j) := hidden fun j hj => by
    induction j with
    | zero => exact Nat.le_refl _
    | succ j ih =>
      have h1 := ih (by omega)
      rw [HPN.out j (by omega)]
      split
      · rw [List.length_append]
        show _ + 1 ≤ _
        omega
      · omega
  have HIN := hidden (fun w => mInside_any s w hs)
  obtain ⟨F, hF⟩ : ∃ F, F = Mk.ins 0 s.data.toList := ⟨_, rfl⟩
  obtain ⟨R, hR⟩ : ∃ R : Nat → Nat, ∀ j, Mk.run 0 (s.data.toList.take j) = R j := ⟨_, fun _ => rfl⟩
  obtain ⟨P, hP⟩ : ∃ P : Nat → List Nat, ∀ j, Mk.pl 0 0 (s.data.toList.take j) = P j := ⟨_, fun _ => rfl⟩
  rw [← hF] at HFL HAT HIN
  simp only [hR] at HAT HPN
  simp only [hP] at HPN HPA HPL
  have HP0 : Hid (P 0 = []) := hidden (hP 0).symm
  rw [← HPA.out]
  clear hlen hF hR hP HPA
  go_enter Tryz.func28, Tryz.ntmps28
  go_wp2_with fail
  refine (HIN.out w).mono ?_
  rintro e w2 ⟨⟨vin, rfl, hin⟩, hb2⟩
  obtain ⟨ao, ca, rfl, hca, hfa⟩ := hin.get HFL.out
  have HIN2 := hidden hin
  have HB2 := hidden hb2
  have HFA := hidden hfa
  clear hin hb2 hfa
  go_wp2_with fail
  go_loopw [4, 5] (fun v i wr => ∃ j : Nat, j ≤ s.size ∧ i = .int .i64 (j : Nat) ∧ Mk.Li wr w2.heap.size v (P j) ∧ Below w2.heap.size w2 wr) (fun _ i _ => s.size - (intOf i).toNat)
  case atStart =>
    refine ⟨0, Nat.zero_le _, rfl, ?_, Below.refl _ _⟩
    rw [HP0.out]
    exact Mk.Li.nil _ _
  case round =>
    obtain ⟨j, hj, rfl, hli, hb⟩ := hrel
    have HLI := hidden hli
    have HB := hidden hb
    have hsz := hb.size
    clear hli hb
    by_cases hlt : j < s.size
    · have hlt2 : decide ((j : Int) < (s.size : Int)) = true := decide_eq_true (by omega)
      obtain ⟨g, rfl, hg, hga⟩ := HFA.out (by omega)
      have c1 := (HB.out.cell (p := ⟨g, j, none⟩) hg).trans (hga j hlt)
      rw [HAT.out j hlt] at c1
      have HPJ := hidden (HPN.out j hlt)
      have hlp := HPL.out j hj
      clear hga
      by_cases hR0 : R j = 0 ∧ s[j].toNat ≠ 34
      · rw [if_pos hR0] at c1
        have HR0 := hidden hR0
        cases hm : Mk.isM s[j].toNat with
        | true =>
          have HIS := hidden (fun w => mrIs_any s[j].toNat w)
          rw [hm] at HIS
          have HPE : Hid (P (j + 1) = P j ++ [j]) := by
            rw [HPJ.out, if_pos ⟨HR0.out.1, hm⟩]
            exact rfl
          clear hR0 hm
          go_wp2_with fail
          refine (HIS.out _).mono ?_
          rintro e w3 ⟨rfl, hw⟩
          have hw := hw.symm
          subst hw
          go_wp2_with (at_builtin; refine wpList_append_one _ rfl (.tmp 25) (.tmp 27) 57 rfl w2.heap.size 3 i0 (.int .i64 0) 8 Tryz.underlying57 hi hz0 hz1 hz2 rfl u4 (P j).length (Mk.vi (P j)) rfl (by exact HLI.out.alloc _) _ 1 (.int .i64 (j : Nat)) _ rfl (by exact heap_alloc_new _ _) rfl (by unfold maxLen; omega) (by omega) (by simp; omega) ?_; intro v2 w4 hown2 hgrow2; have HO2 := hidden hown2; have HG2 := hidden hgrow2; clear hown2 hgrow2)
          go_roundw
          case rel =>
            refine ⟨j + 1, hlt, by go_num, ?_, HB.out.trans (Mk.ow_grown1 hsz HLI.out HG2.out)⟩
            have h2 := HO2.out
            rw [HPE.out]
            show World.ownsRow _ _ _ _ _ _ _
            rw [List.length_append, Mk.vi_app]
            exact h2
          case measure => simp [intOf]; omega
        | false =>
          have HIS := hidden (fun w => mrIs_any s[j].toNat w)
          rw [hm] at HIS
          have HPE : Hid (P (j + 1) = P j) := by
            rw [HPJ.out, if_neg (fun h => by rw [hm] at h; exact absurd h.2 (by decide))]
            exact rfl
          clear hR0 hm
          go_wp2_with fail
          refine (HIS.out _).mono ?_
          rintro e w3 ⟨rfl, hw⟩
          have hw := hw.symm
          subst hw
          go_wp2_with fail
          go_roundw
          case rel => exact ⟨j + 1, hlt, by go_num, by rw [HPE.out]; exact HLI.out, HB.out⟩
          case measure => simp [intOf]; omega
      · rw [if_neg hR0] at c1
        have HPE : Hid (P (j + 1) = P j) := by
          rw [HPJ.out, if_neg (fun h => hR0 ⟨h.1, fun e => by rw [e] at h; exact absurd h.2 (by decide)⟩)]
          exact rfl
        clear hR0
        go_wp2_with fail
        go_roundw
        case rel => exact ⟨j + 1, hlt, by go_num, by rw [HPE.out]; exact HLI.out, HB.out⟩
        case measure => simp [intOf]; omega
    · obtain rfl : j = s.size := by omega
      have hlt2 : decide ((s.size : Int) < (s.size : Int)) = false := decide_eq_false (by omega)
      go_wp2_with fail
      go_ret
      exact ⟨⟨_, rfl, Mk.ow_base HLI.out HB2.out.size⟩, HB2.out.trans (HB.out.mono HB2.out.size)⟩
namespace Mk
/-- The bits of so many marks. -/
def fb (l : List UInt8) (ps : List Nat) : List Bool := ps.flatMap fun p => two (l.getD p 0).toNat
theorem fb_all (l : List UInt8) : fb l (pl 0 0 l) = bs 0 l := (bs_by l 0 0 [] rfl).symm
theorem fb_len (l : List UInt8) (ps : List Nat) : (fb l ps).length = 2 * ps.length := by
  induction ps with
  | nil => rfl
  | cons p ps ih =>
    unfold fb at ih ⊢
    rw [List.flatMap_cons, List.length_append, ih, List.length_cons, two_len]
    omega
theorem fb_next (l : List UInt8) (ps : List Nat) (k : Nat) (h : k < ps.length) : fb l (ps.take (k + 1)) = fb l (ps.take k) ++ two (l.getD (ps.getD k 0) 0).toNat := by
  have ht : ps.take (k + 1) = ps.take k ++ [ps.getD k 0] := by
    rw [List.take_add_one, List.getD_eq_getElem?_getD, List.getElem?_eq_getElem h]
    rfl
  unfold fb
  rw [ht, List.flatMap_append, List.flatMap_cons, List.flatMap_nil, List.append_nil]
theorem two_eq (b : Nat) (h : isM b = true) : two b = [b == 91 || b == 123, (b == 91 || b == 123) || (b == 58 || b == 44)] := by
  rcases (isM_iff b).1 h with rfl | rfl | rfl | rfl | rfl | rfl <;> rfl
theorem pl_isM (l : List UInt8) : ∀ (q i : Nat) (m : List UInt8), i = m.length → ∀ p, p ∈ pl q i l → isM ((m ++ l).getD p 0).toNat = true := by
  induction l with
  | nil => intro q i m _ p hp; exact absurd hp List.not_mem_nil
  | cons b l ih =>
    intro q i m hi p hp
    have hb : (m ++ b :: l).getD i 0 = b := by
      rw [hi, List.getD_eq_getElem?_getD, List.getElem?_append_right (Nat.le_refl _), Nat.sub_self]
      rfl
    have hm2 : m ++ b :: l = (m ++ [b]) ++ l := by rw [List.append_assoc]; rfl
    have hl : i + 1 = (m ++ [b]).length := by rw [List.length_append, hi]; rfl
    by_cases hm : q = 0 ∧ isM b.toNat = true
    · obtain ⟨rfl, hm⟩ := hm
      rw [pl_mark i b l hm] at hp
      rcases List.mem_cons.1 hp with rfl | hp
      · rw [hb]
        exact hm
      · rw [hm2]
        exact ih _ _ (m ++ [b]) hl p hp
    · rw [pl_other q i b l hm] at hp
      rw [hm2]
      exact ih _ _ (m ++ [b]) hl p hp
/-- The k-th mark: where it is, and that it is one. -/
theorem pl_get (l : List UInt8) (k : Nat) (h : k < (pl 0 0 l).length) : (pl 0 0 l).getD k 0 < l.length ∧ isM (l.getD ((pl 0 0 l).getD k 0) 0).toNat = true := by
  have e : (pl 0 0 l).getD k 0 = (pl 0 0 l)[k] := by
    rw [List.getD_eq_getElem?_getD, List.getElem?_eq_getElem h]
    rfl
  have hm := List.getElem_mem h
  rw [← e] at hm
  have h1 := pl_lt l 0 0 _ hm
  exact ⟨by omega, pl_isM l 0 0 [] rfl _ hm⟩
end Mk
set_option maxHeartbeats 4000000 in
theorem mrParens_any (s : ByteArray) (w : World) (hs : s.size ≤ 1000000) :
    Calls Tryz.prog 29 #[.string s] w fun e w' => (∃ v, e = .returned v ∧ Mk.Lb w' w.heap.size v (Mk.bs 0 s.data.toList)) ∧ Below w.heap.size w w' := by
  obtain ⟨i0, hi, hz0, hz1, hz2⟩ := info_parts Tryz.infoBm2
  have hlen : s.data.toList.length = s.size := rfl
  have HGET : Hid (∀ k, k < (Mk.pl 0 0 s.data.toList).length → ∃ (h : (Mk.pl 0 0 s.data.toList).getD k 0 < s.size), Mk.isM s[(Mk.pl 0 0 s.data.toList).getD k 0].toNat = true ∧ (s.data.toList.getD ((Mk.pl 0 0 s.data.toList).getD k 0) 0).toNat = s[(Mk.pl 0 0 s.data.toList).getD k 0].toNat) := hidden fun k hk => by
    obtain ⟨h1, h2⟩ := Mk.pl_get s.data.toList k hk
    have h3 : (s.data.toList.getD ((Mk.pl 0 0 s.data.toList).getD k 0) 0).toNat = s[(Mk.pl 0 0 s.data.toList).getD k 0].toNat := Js.bt_at s.data.toList _ h1
    exact ⟨h1, by rw [← h3]; exact h2, h3⟩
  have HNX := hidden (Mk.fb_next s.data.toList (Mk.pl 0 0 s.data.toList))
  have HFB := hidden (Mk.fb_all s.data.toList)
  have HLEN := hidden (Mk.fb_len s.data.toList)
  have HPLL : Hid ((Mk.pl 0 0 s.data.toList).length ≤ s.size) := hidden (by
    have h1 := Mk.pl_next s.data.toList
    have h2 : ∀ j, j ≤ s.size → (Mk.pl 0 0 (s.data.toList.take j)).length ≤ j := fun j hj => by
      induction j with
      | zero => exact Nat.le_refl _
      | succ j ih =>
        have h3 := ih (by omega)
        rw [h1 j (by rw [hlen]; omega)]
        split
        · rw [List.length_append]
          show _ + 1 ≤ _
          omega
        · omega
    have h4 := h2 s.size (Nat.le_refl _)
    rw [take_all s] at h4
    exact h4)
  have HPS := hidden (fun w => mrPlaces_any s w hs)
  rw [← HFB.out]
  obtain ⟨P, hP⟩ : ∃ P, P = Mk.pl 0 0 s.data.toList := ⟨_, rfl⟩
  rw [← hP] at HGET HNX HPLL HPS ⊢
  have hpl := HPLL.out
  clear hlen hP HFB
  go_enter Tryz.func29, Tryz.ntmps29
  go_wp2_with fail
  refine (HPS.out w).mono ?_
  rintro e w2 ⟨⟨vp, rfl, hp⟩, hb2⟩
  obtain ⟨ao, ca, rfl, hca, hfa⟩ := hp.get rfl
  have HB2 := hidden hb2
  have HFA := hidden hfa
  clear hp hb2 hfa
  go_wp2_with fail
  go_loopw [3, 5] (fun v i wr => ∃ j : Nat, j ≤ P.length ∧ i = .int .i64 (j : Nat) ∧ Mk.Lb wr w2.heap.size v (Mk.fb s.data.toList (P.take j)) ∧ Below w2.heap.size w2 wr) (fun _ i _ => P.length - (intOf i).toNat)
  case atStart => exact ⟨0, Nat.zero_le _, rfl, Mk.Lb.nil _ _, Below.refl _ _⟩
  case round =>
    obtain ⟨j, hj, rfl, hli, hb⟩ := hrel
    have HLI := hidden hli
    have HB := hidden hb
    have hsz := hb.size
    clear hli hb
    by_cases hlt : j < P.length
    · have hlt2 : decide ((j : Int) < ((P.length : Nat) : Int)) = true := decide_eq_true (by omega)
      obtain ⟨g, rfl, hg, hga⟩ := HFA.out (by omega)
      have c1 := (HB.out.cell (p := ⟨g, j, none⟩) hg).trans (hga j hlt)
      obtain ⟨hps, hm, hbt⟩ := HGET.out j hlt
      have HNXJ := hidden (HNX.out j hlt)
      obtain ⟨p, hp⟩ : ∃ p, p = P.getD j 0 := ⟨_, rfl⟩
      rw [hbt] at HNXJ
      rw [← hp] at c1
      have hps2 : p < s.size := by rw [hp]; exact hps
      have HTW : Hid (Mk.fb s.data.toList (P.take (j + 1)) = Mk.fb s.data.toList (P.take j) ++ Mk.two s[p].toNat) := by
        subst hp
        exact HNXJ.out
      have hm2 : Mk.isM s[p].toNat = true := by
        subst hp
        exact hm
      have HTE := hidden (Mk.two_eq _ hm2)
      have hcase := (Mk.isM_iff _).1 hm2
      obtain ⟨b, hb⟩ : ∃ b, b = s[p].toNat := ⟨_, rfl⟩
      have hbb : ∀ (h : p < s.size), (s[p]'h).toNat = b := fun h => hb.symm
      rw [← hb] at HTW HTE hcase
      clear hga hps hm hbt hp hm2 hb HNXJ
      have hlenj : (Mk.fb s.data.toList (P.take j)).length = 2 * j := by rw [HLEN.out, List.length_take]; omega
      obtain ⟨n, hn⟩ : ∃ n, n = (Mk.fb s.data.toList (P.take j)).length := ⟨_, rfl⟩
      have HN := hidden hn
      rw [← hn] at hlenj
      have hn5 : n ≤ 2000000 := by omega
      clear hn
      rcases hcase with rfl | rfl | rfl | rfl | rfl | rfl
      · go_wp2_with (at_builtin; refine wpList_append_own _ rfl (.tmp 28) (.tmp 39) 31 rfl w2.heap.size 4 i0 (.bool false) 1 1 Tryz.underlying31 hi hz0 hz1 hz2 rfl (by decide) u3 n (Mk.vb (Mk.fb s.data.toList (P.take j))) rfl (by rw [HN.out]; exact HLI.out.alloc _) ⟨_, 0, none⟩ 2 2 [.bool true, .bool true] rfl rfl (by exact World.news_of_block (heap_alloc_new _ _)) (by intro u hu; simp at hu; rcases hu with rfl | rfl <;> rfl) (by unfold maxLen; omega) (by omega) (by simp; omega) ?_; intro v2 w4 hown2 hgrow2 _; have HO2 := hidden hown2; have HG2 := hidden hgrow2; clear hown2 hgrow2)
        go_roundw
        case rel =>
          refine ⟨j + 1, hlt, by go_num, ?_, HB.out.trans (Mk.ow_grown1 hsz HLI.out HG2.out)⟩
          have h2 := HO2.out
          rw [HTW.out, HTE.out]
          show World.ownsRow _ _ _ _ _ _ _
          rw [List.length_append, Mk.vb_app, ← HN.out]
          exact h2
        case measure => simp [intOf]; omega
      · go_wp2_with (at_builtin; refine wpList_append_own _ rfl (.tmp 28) (.tmp 39) 31 rfl w2.heap.size 4 i0 (.bool false) 1 1 Tryz.underlying31 hi hz0 hz1 hz2 rfl (by decide) u3 n (Mk.vb (Mk.fb s.data.toList (P.take j))) rfl (by rw [HN.out]; exact HLI.out.alloc _) ⟨_, 0, none⟩ 2 2 [.bool false, .bool false] rfl rfl (by exact World.news_of_block (heap_alloc_new _ _)) (by intro u hu; simp at hu; rcases hu with rfl | rfl <;> rfl) (by unfold maxLen; omega) (by omega) (by simp; omega) ?_; intro v2 w4 hown2 hgrow2 _; have HO2 := hidden hown2; have HG2 := hidden hgrow2; clear hown2 hgrow2)
        go_roundw
        case rel =>
          refine ⟨j + 1, hlt, by go_num, ?_, HB.out.trans (Mk.ow_grown1 hsz HLI.out HG2.out)⟩
          have h2 := HO2.out
          rw [HTW.out, HTE.out]
          show World.ownsRow _ _ _ _ _ _ _
          rw [List.length_append, Mk.vb_app, ← HN.out]
          exact h2
        case measure => simp [intOf]; omega
      · go_wp2_with (at_builtin; refine wpList_append_own _ rfl (.tmp 28) (.tmp 39) 31 rfl w2.heap.size 4 i0 (.bool false) 1 1 Tryz.underlying31 hi hz0 hz1 hz2 rfl (by decide) u3 n (Mk.vb (Mk.fb s.data.toList (P.take j))) rfl (by rw [HN.out]; exact HLI.out.alloc _) ⟨_, 0, none⟩ 2 2 [.bool true, .bool true] rfl rfl (by exact World.news_of_block (heap_alloc_new _ _)) (by intro u hu; simp at hu; rcases hu with rfl | rfl <;> rfl) (by unfold maxLen; omega) (by omega) (by simp; omega) ?_; intro v2 w4 hown2 hgrow2 _; have HO2 := hidden hown2; have HG2 := hidden hgrow2; clear hown2 hgrow2)
        go_roundw
        case rel =>
          refine ⟨j + 1, hlt, by go_num, ?_, HB.out.trans (Mk.ow_grown1 hsz HLI.out HG2.out)⟩
          have h2 := HO2.out
          rw [HTW.out, HTE.out]
          show World.ownsRow _ _ _ _ _ _ _
          rw [List.length_append, Mk.vb_app, ← HN.out]
          exact h2
        case measure => simp [intOf]; omega
      · go_wp2_with (at_builtin; refine wpList_append_own _ rfl (.tmp 28) (.tmp 39) 31 rfl w2.heap.size 4 i0 (.bool false) 1 1 Tryz.underlying31 hi hz0 hz1 hz2 rfl (by decide) u3 n (Mk.vb (Mk.fb s.data.toList (P.take j))) rfl (by rw [HN.out]; exact HLI.out.alloc _) ⟨_, 0, none⟩ 2 2 [.bool false, .bool false] rfl rfl (by exact World.news_of_block (heap_alloc_new _ _)) (by intro u hu; simp at hu; rcases hu with rfl | rfl <;> rfl) (by unfold maxLen; omega) (by omega) (by simp; omega) ?_; intro v2 w4 hown2 hgrow2 _; have HO2 := hidden hown2; have HG2 := hidden hgrow2; clear hown2 hgrow2)
        go_roundw
        case rel =>
          refine ⟨j + 1, hlt, by go_num, ?_, HB.out.trans (Mk.ow_grown1 hsz HLI.out HG2.out)⟩
          have h2 := HO2.out
          rw [HTW.out, HTE.out]
          show World.ownsRow _ _ _ _ _ _ _
          rw [List.length_append, Mk.vb_app, ← HN.out]
          exact h2
        case measure => simp [intOf]; omega
      · go_wp2_with (at_builtin; refine wpList_append_own _ rfl (.tmp 28) (.tmp 39) 31 rfl w2.heap.size 4 i0 (.bool false) 1 1 Tryz.underlying31 hi hz0 hz1 hz2 rfl (by decide) u3 n (Mk.vb (Mk.fb s.data.toList (P.take j))) rfl (by rw [HN.out]; exact HLI.out.alloc _) ⟨_, 0, none⟩ 2 2 [.bool false, .bool true] rfl rfl (by exact World.news_of_block (heap_alloc_new _ _)) (by intro u hu; simp at hu; rcases hu with rfl | rfl <;> rfl) (by unfold maxLen; omega) (by omega) (by simp; omega) ?_; intro v2 w4 hown2 hgrow2 _; have HO2 := hidden hown2; have HG2 := hidden hgrow2; clear hown2 hgrow2)
        go_roundw
        case rel =>
          refine ⟨j + 1, hlt, by go_num, ?_, HB.out.trans (Mk.ow_grown1 hsz HLI.out HG2.out)⟩
          have h2 := HO2.out
          rw [HTW.out, HTE.out]
          show World.ownsRow _ _ _ _ _ _ _
          rw [List.length_append, Mk.vb_app, ← HN.out]
          exact h2
        case measure => simp [intOf]; omega
      · go_wp2_with (at_builtin; refine wpList_append_own _ rfl (.tmp 28) (.tmp 39) 31 rfl w2.heap.size 4 i0 (.bool false) 1 1 Tryz.underlying31 hi hz0 hz1 hz2 rfl (by decide) u3 n (Mk.vb (Mk.fb s.data.toList (P.take j))) rfl (by rw [HN.out]; exact HLI.out.alloc _) ⟨_, 0, none⟩ 2 2 [.bool false, .bool true] rfl rfl (by exact World.news_of_block (heap_alloc_new _ _)) (by intro u hu; simp at hu; rcases hu with rfl | rfl <;> rfl) (by unfold maxLen; omega) (by omega) (by simp; omega) ?_; intro v2 w4 hown2 hgrow2 _; have HO2 := hidden hown2; have HG2 := hidden hgrow2; clear hown2 hgrow2)
        go_roundw
        case rel =>
          refine ⟨j + 1, hlt, by go_num, ?_, HB.out.trans (Mk.ow_grown1 hsz HLI.out HG2.out)⟩
          have h2 := HO2.out
          rw [HTW.out, HTE.out]
          show World.ownsRow _ _ _ _ _ _ _
          rw [List.length_append, Mk.vb_app, ← HN.out]
          exact h2
        case measure => simp [intOf]; omega
    · obtain rfl : j = P.length := by omega
      have hlt2 : decide (((P.length : Nat) : Int) < ((P.length : Nat) : Int)) = false := decide_eq_false (by omega)
      rw [List.take_length] at HLI
      go_wp2_with fail
      go_ret
      exact ⟨⟨_, rfl, Mk.ow_base HLI.out HB2.out.size⟩, HB2.out.trans (HB.out.mono HB2.out.size)⟩
end Go.Proofs.YtoipliflphbeiaaGreatDoor
