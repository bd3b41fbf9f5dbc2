/-
  The contracts of laceworkref12's hex, word and escape: for every string and every place; nothing that was there is changed.
-/
import Derived.Lib.Builder
import Derived.Test.YtifkemcjificcaaJsRef
namespace Go.Proofs.Ytifkemcjificcaa
open Go.RowKit
/-- The three cells of an R: that they may be written, and what they are then. -/
structure RvOpen (W : World) (B : Nat) (x0 y0 z0 : Value) : Prop where
  c0 : W.cell? ⟨B, 0, none⟩ = some x0
  f0 : W.frozen? ⟨B, 0, none⟩ = false
  c1 : ∀ v, (W.setCell ⟨B, 0, none⟩ v).cell? ⟨B, 1, none⟩ = some y0
  f1 : ∀ v, (W.setCell ⟨B, 0, none⟩ v).frozen? ⟨B, 1, none⟩ = false
  c2 : ∀ v v', ((W.setCell ⟨B, 0, none⟩ v).setCell ⟨B, 1, none⟩ v').cell? ⟨B, 2, none⟩ = some z0
  f2 : ∀ v v', ((W.setCell ⟨B, 0, none⟩ v).setCell ⟨B, 1, none⟩ v').frozen? ⟨B, 2, none⟩ = false
theorem rv_one {W : World} {B : Nat} {t : TypeId} {x0 y0 z0 : Value} (h : W.heap[B]? = some (.cells #[x0, y0, z0] t (0, 0))) (x : Value) : (W.setCell ⟨B, 0, none⟩ x).heap[B]? = some (.cells #[x, y0, z0] t (0, 0)) := by
  simp [World.setCell, Array.getElem?_modify, h]
theorem rv_two {W : World} {B : Nat} {t : TypeId} {x0 y0 z0 : Value} (h : W.heap[B]? = some (.cells #[x0, y0, z0] t (0, 0))) (x y : Value) : ((W.setCell ⟨B, 0, none⟩ x).setCell ⟨B, 1, none⟩ y).heap[B]? = some (.cells #[x, y, z0] t (0, 0)) := by
  simp [World.setCell, Array.getElem?_modify, h]
theorem rv_cells {W : World} {B : Nat} {t : TypeId} {x0 y0 z0 : Value} (h : W.heap[B]? = some (.cells #[x0, y0, z0] t (0, 0))) (x y z : Value) : (((W.setCell ⟨B, 0, none⟩ x).setCell ⟨B, 1, none⟩ y).setCell ⟨B, 2, none⟩ z).heap[B]? = some (.cells #[x, y, z] t (0, 0)) := by
  simp [World.setCell, Array.getElem?_modify, h]
theorem rv_open {W : World} {B : Nat} {t : TypeId} {x0 y0 z0 : Value} (h : W.heap[B]? = some (.cells #[x0, y0, z0] t (0, 0))) : RvOpen W B x0 y0 z0 :=
  ⟨Lib.cell_of_heap h 0, Lib.frozen_of_heap h 0, fun v => Lib.cell_of_heap (rv_one h v) 1, fun v => Lib.frozen_of_heap (rv_one h v) 1, fun v v' => Lib.cell_of_heap (rv_two h v v') 2, fun v v' => Lib.frozen_of_heap (rv_two h v v') 2⟩
theorem rv_below {B b : Nat} {w W : World} (h : Below B w W) (hb : B ≤ b) (x y z : Value) : Below B w (((W.setCell ⟨b, 0, none⟩ x).setCell ⟨b, 1, none⟩ y).setCell ⟨b, 2, none⟩ z) := ((h.setCell hb x).setCell hb y).setCell hb z
set_option maxHeartbeats 1000000 in
theorem jHex_any (b : Nat) (w : World) :
    Calls Try.prog 30 #[.int .u8 (b : Nat)] w fun e w' => e = .returned (.bool (Js.isH b)) ∧ w' = w := by
  rcases (show b < 48 ∨ (48 ≤ b ∧ b ≤ 57) ∨ (57 < b ∧ b < 65) ∨ (65 ≤ b ∧ b ≤ 70) ∨ (70 < b ∧ b < 97) ∨ (97 ≤ b ∧ b ≤ 102) ∨ 102 < b by omega) with h | h | h | h | h | h | h
  · have HR : Hid (Js.isH b = false) := by
      show _ = _
      unfold Js.isH Js.isD
      rw [decide_eq_false (show ¬ 48 ≤ b by omega), decide_eq_false (show ¬ 97 ≤ b by omega), decide_eq_false (show ¬ 65 ≤ b by omega)]
      rfl
    have a1 : ¬ 48 ≤ b := by omega
    have a2 : ¬ 97 ≤ b := by omega
    have a3 : ¬ 65 ≤ b := by omega
    clear h
    go_enter Try.func30, Try.ntmps30
    go_wp2
    go_ret
    rw [HR.out]
    exact ⟨rfl, rfl⟩
  · have HR : Hid (Js.isH b = true) := by
      show _ = _
      unfold Js.isH Js.isD
      rw [decide_eq_true h.1, decide_eq_true h.2]
      rfl
    obtain ⟨a1, a2⟩ := h
    have d57 : decide ((b : Int) ≤ 57) = true := decide_eq_true (by omega)
    go_enter Try.func30, Try.ntmps30
    go_wp2
    go_ret
    rw [HR.out]
    exact ⟨rfl, rfl⟩
  · have HR : Hid (Js.isH b = false) := by
      show _ = _
      unfold Js.isH Js.isD
      rw [decide_eq_false (show ¬ b ≤ 57 by omega), decide_eq_false (show ¬ 97 ≤ b by omega), decide_eq_false (show ¬ 65 ≤ b by omega), Bool.and_false]
      rfl
    have a0 : 48 ≤ b := by omega
    have a1 : ¬ b ≤ 57 := by omega
    have d57 : decide ((b : Int) ≤ 57) = false := decide_eq_false (by omega)
    have a2 : ¬ 97 ≤ b := by omega
    have a3 : ¬ 65 ≤ b := by omega
    clear h
    go_enter Try.func30, Try.ntmps30
    go_wp2
    go_ret
    rw [HR.out]
    exact ⟨rfl, rfl⟩
  · have HR : Hid (Js.isH b = true) := by
      show _ = _
      unfold Js.isH
      rw [decide_eq_true h.1, decide_eq_true h.2, Bool.and_true, Bool.or_true]
    have a0 : 48 ≤ b := by omega
    have a1 : ¬ b ≤ 57 := by omega
    have d57 : decide ((b : Int) ≤ 57) = false := decide_eq_false (by omega)
    have a2 : ¬ 97 ≤ b := by omega
    obtain ⟨a3, a4⟩ := h
    have d70 : decide ((b : Int) ≤ 70) = true := decide_eq_true (by omega)
    go_enter Try.func30, Try.ntmps30
    go_wp2
    go_ret
    rw [HR.out]
    exact ⟨rfl, rfl⟩
  · have HR : Hid (Js.isH b = false) := by
      show _ = _
      unfold Js.isH Js.isD
      rw [decide_eq_false (show ¬ b ≤ 57 by omega), decide_eq_false (show ¬ 97 ≤ b by omega), decide_eq_false (show ¬ b ≤ 70 by omega), Bool.and_false, Bool.and_false]
      rfl
    have a0 : 48 ≤ b := by omega
    have a1 : ¬ b ≤ 57 := by omega
    have d57 : decide ((b : Int) ≤ 57) = false := decide_eq_false (by omega)
    have a2 : ¬ 97 ≤ b := by omega
    have a3 : 65 ≤ b := by omega
    have a4 : ¬ b ≤ 70 := by omega
    have d70 : decide ((b : Int) ≤ 70) = false := decide_eq_false (by omega)
    clear h
    go_enter Try.func30, Try.ntmps30
    go_wp2
    go_ret
    rw [HR.out]
    exact ⟨rfl, rfl⟩
  · have HR : Hid (Js.isH b = true) := by
      show _ = _
      unfold Js.isH
      rw [decide_eq_true h.1, decide_eq_true h.2, Bool.and_true, Bool.or_true, Bool.true_or]
    have a0 : 48 ≤ b := by omega
    have a1 : ¬ b ≤ 57 := by omega
    have d57 : decide ((b : Int) ≤ 57) = false := decide_eq_false (by omega)
    obtain ⟨a2, a3⟩ := h
    have d102 : decide ((b : Int) ≤ 102) = true := decide_eq_true (by omega)
    go_enter Try.func30, Try.ntmps30
    go_wp2
    go_ret
    rw [HR.out]
    exact ⟨rfl, rfl⟩
  · have HR : Hid (Js.isH b = false) := by
      show _ = _
      unfold Js.isH Js.isD
      rw [decide_eq_false (show ¬ b ≤ 57 by omega), decide_eq_false (show ¬ b ≤ 102 by omega), decide_eq_false (show ¬ b ≤ 70 by omega), Bool.and_false, Bool.and_false, Bool.and_false]
      rfl
    have a0 : 48 ≤ b := by omega
    have a1 : ¬ b ≤ 57 := by omega
    have d57 : decide ((b : Int) ≤ 57) = false := decide_eq_false (by omega)
    have a2 : 97 ≤ b := by omega
    have a3 : ¬ b ≤ 102 := by omega
    have d102 : decide ((b : Int) ≤ 102) = false := decide_eq_false (by omega)
    have a4 : 65 ≤ b := by omega
    have a5 : ¬ b ≤ 70 := by omega
    have d70 : decide ((b : Int) ≤ 70) = false := decide_eq_false (by omega)
    clear h
    go_enter Try.func30, Try.ntmps30
    go_wp2
    go_ret
    rw [HR.out]
    exact ⟨rfl, rfl⟩
/-- A text at a place: all of it, or as far as it is there. -/
def WdPost (s v : ByteArray) (i : Nat) (e : Ending) : Prop :=
  (e = .returned (rv (i + v.size) true 0) ∧ i + v.size ≤ s.size ∧ ∀ j (h : j < v.size), ∃ h2 : i + j < s.size, s[i + j].toNat = v[j].toNat)
  ∨ ∃ j, ∃ h : j < v.size, e = .returned (rv (i + j) false 0) ∧ i + j ≤ s.size ∧ (∀ k (h : k < j), ∃ (h2 : i + k < s.size) (h3 : k < v.size), s[i + k].toNat = v[k].toNat) ∧ ∀ h2 : i + j < s.size, s[i + j].toNat ≠ v[j].toNat
set_option maxHeartbeats 2000000 in
theorem jWord_any (s v : ByteArray) (i : Nat) (w : World) (hs : s.size ≤ 1000000) (hv : v.size ≤ 1000) (hi : i ≤ s.size) :
    Calls Try.prog 27 #[.string s, .int .i64 (i : Nat), .string v] w fun e w' => WdPost s v i e ∧ Below w.heap.size w w' := by
  go_enter Try.func27, Try.ntmps27
  go_wp2_with fail
  go_loopw [7] (fun c wr => ∃ j m : Nat, j ≤ v.size ∧ c = .int .i64 (j : Nat) ∧ wr = (w.alloc (Obj.cells #[.int .i64 0, .bool false, .int .i64 0] 32)).drewN m ∧ i + j ≤ s.size ∧ ∀ k (_ : k < j), ∃ (h2 : i + k < s.size) (h3 : k < v.size), s[i + k].toNat = v[k].toNat) (fun c _ => v.size - (intOf c).toNat)
  case atStart => exact ⟨0, 0, Nat.zero_le _, rfl, rfl, hi, fun k hk => absurd hk (Nat.not_lt_zero _)⟩
  case round =>
    obtain ⟨j, m, hj, rfl, rfl, hij, hall⟩ := hrel
    have HA := hidden hall
    have HB : Hid (∀ n, Below w.heap.size w ((w.alloc (Obj.cells #[.int .i64 0, .bool false, .int .i64 0] 32)).drewN n)) := fun n => (fun {B} {a} {x} (h : Below B a x) (n : Nat) => (⟨h.os, h.tape, h.output, h.size, h.block⟩ : Below B a (x.drewN n))) ((Below.refl _ _).alloc (Nat.le_refl _) _) n
    clear hall
    obtain ⟨p, hp⟩ : ∃ p, p = i + j := ⟨_, rfl⟩
    have hpi : (i : Int) + (j : Int) = (p : Int) := by omega
    have hpw : IntKind.i64.wrap (p : Int) = (p : Int) := by rw [IntKind.wrap_i64]; omega
    have HP := hidden hp
    by_cases hlt : j < v.size
    · have hlt2 : decide ((j : Int) < (v.size : Int)) = true := decide_eq_true (by omega)
      obtain ⟨g, hg⟩ : ∃ g, g = v[j].toNat := ⟨_, rfl⟩
      have hvj : ∀ (h : j < v.size), (v[j]'h).toNat = g := fun h => hg.symm
      by_cases hps : p < s.size
      · have d0 : decide ((s.size : Int) ≤ (p : Int)) = false := decide_eq_false (by omega)
        have d0n : decide (s.size ≤ p) = false := decide_eq_false (by omega)
        have hsp : ((s.size : Int) ≤ (p : Int)) = False := eq_false (by omega)
        obtain ⟨c, hc⟩ : ∃ c, c = s[p].toNat := ⟨_, rfl⟩
        have hcj : ∀ (h : p < s.size), (s[p]'h).toNat = c := fun h => hc.symm
        by_cases heq : c = g
        · have e1 : ((c : Int) != (g : Int)) = false := by rw [heq]; exact bne_self_eq_false _
          have e2 : (c != g) = false := by rw [heq]; exact bne_self_eq_false _
          have HE : Hid (s[p].toNat = v[j].toNat) := hidden (by rw [← hc, ← hg]; exact heq)
          clear hp heq hc hg
          go_wp2_with fail
          go_quiet (fail)
          go_wp2_with fail
          go_roundw
          case rel =>
            refine ⟨j + 1, m + nq, hlt, by go_num, rfl, by have := HP.out; omega, fun k hk => ?_⟩
            by_cases hkj : k < j
            · exact HA.out k hkj
            · obtain rfl : k = j := by omega
              have h5 := HP.out
              subst h5
              exact ⟨hps, hlt, HE.out⟩
          case measure => simp [intOf]; omega
        · have e1 : ((c : Int) != (g : Int)) = true := by rw [bne_iff_ne]; omega
          have e2 : (c != g) = true := by rw [bne_iff_ne]; exact heq
          have HE : Hid (¬ s[p].toNat = v[j].toNat) := hidden (by rw [← hc, ← hg]; exact heq)
          clear hp heq hc hg
          go_wp2_with fail
          go_quiet (fail)
          go_wp2_with fail
          refine (jBad_any (p : Int) p _ rfl).mono ?_
          rintro e w1 ⟨rfl, hb⟩
          have hg1 : w1.heap[w.heap.size]? = some (.cells #[.int .i64 0, .bool false, .int .i64 0] 32 (0, 0)) := (hb.block _ (by simp)).trans (heap_alloc_new _ _)
          obtain ⟨c0, f0, c1, f1, c2, f2⟩ := rv_open hg1
          have HG := hidden hg1
          have HQ := hidden ((HB.out _).trans (hb.mono (HB.out _).size))
          clear hb hg1
          unfold rv
          go_wp2_with fail
          refine bodyPost_ret (results_cell_row rfl _ _ w.heap.size 32 #[.int .i64 (p : Nat), .bool false, .int .i64 0] (0, 0) _ rfl ?_ Try.underlying32 rfl sizeR) rfl ?_
          · exact rv_cells HG.out _ _ _
          refine ⟨.inr ⟨j, hlt, by rw [← HP.out]; rfl, hij, HA.out, fun h2 => ?_⟩, rv_below HQ.out (Nat.le_refl _) _ _ _⟩
          have h5 := HP.out
          subst h5
          exact HE.out
      · have d0 : decide ((s.size : Int) ≤ (p : Int)) = true := decide_eq_true (by omega)
        have d0n : decide (s.size ≤ p) = true := decide_eq_true (by omega)
        clear hp hg
        go_wp2_with fail
        go_quiet (fail)
        go_wp2_with fail
        refine (jBad_any (p : Int) p _ rfl).mono ?_
        rintro e w1 ⟨rfl, hb⟩
        have hg1 : w1.heap[w.heap.size]? = some (.cells #[.int .i64 0, .bool false, .int .i64 0] 32 (0, 0)) := (hb.block _ (by simp)).trans (heap_alloc_new _ _)
        obtain ⟨c0, f0, c1, f1, c2, f2⟩ := rv_open hg1
        have HG := hidden hg1
        have HQ := hidden ((HB.out _).trans (hb.mono (HB.out _).size))
        clear hb hg1
        unfold rv
        go_wp2_with fail
        refine bodyPost_ret (results_cell_row rfl _ _ w.heap.size 32 #[.int .i64 (p : Nat), .bool false, .int .i64 0] (0, 0) _ rfl ?_ Try.underlying32 rfl sizeR) rfl ?_
        · exact rv_cells HG.out _ _ _
        exact ⟨.inr ⟨j, hlt, by rw [← HP.out]; rfl, hij, HA.out, fun h2 => absurd h2 (by rw [← HP.out]; exact hps)⟩, rv_below HQ.out (Nat.le_refl _) _ _ _⟩
    · obtain rfl : j = v.size := by omega
      have hlt2 : decide ((v.size : Int) < (v.size : Int)) = false := decide_eq_false (by omega)
      clear hp
      go_wp2_with fail
      refine bodyPost_ret (results_cell_row rfl _ _ w.heap.size 32 #[.int .i64 (p : Nat), .bool true, .int .i64 0] (0, 0) _ rfl ?_ Try.underlying32 rfl sizeR) rfl ?_
      · exact rv_cells (show ((w.alloc _).drewN m).heap[w.heap.size]? = some (.cells #[.int .i64 0, .bool false, .int .i64 0] 32 (0, 0)) from heap_alloc_new _ _) _ _ _
      · exact ⟨.inl ⟨by rw [← HP.out]; rfl, hij, fun k hk => (HA.out k hk).elim fun h2 h3 => ⟨h2, h3.2⟩⟩, rv_below (HB.out m) (Nat.le_refl _) _ _ _⟩
namespace Js
/-- The eight signs behind 5c. -/
def sgn (j : Nat) : Nat := [34, 92, 47, 98, 102, 110, 114, 116].getD j 0
theorem sgn_at (j : Nat) (hj : j < 8) (h : j < (⟨#[34, 92, 47, 98, 102, 110, 114, 116]⟩ : ByteArray).size) : ((⟨#[34, 92, 47, 98, 102, 110, 114, 116]⟩ : ByteArray)[j]'h).toNat = sgn j := by
  obtain rfl | rfl | rfl | rfl | rfl | rfl | rfl | rfl : j = 0 ∨ j = 1 ∨ j = 2 ∨ j = 3 ∨ j = 4 ∨ j = 5 ∨ j = 6 ∨ j = 7 := by omega
  all_goals rfl
theorem sgn_lt (j : Nat) : sgn j < 256 := by
  rcases Nat.lt_or_ge j 8 with h | h
  · obtain rfl | rfl | rfl | rfl | rfl | rfl | rfl | rfl : j = 0 ∨ j = 1 ∨ j = 2 ∨ j = 3 ∨ j = 4 ∨ j = 5 ∨ j = 6 ∨ j = 7 := by omega
    all_goals decide
  · unfold sgn
    rw [List.getD_eq_getElem?_getD, List.getElem?_eq_none (by simpa using h)]
    decide
theorem sgn_is (j : Nat) (hj : j < 8) : isS (sgn j) = true := by
  obtain rfl | rfl | rfl | rfl | rfl | rfl | rfl | rfl : j = 0 ∨ j = 1 ∨ j = 2 ∨ j = 3 ∨ j = 4 ∨ j = 5 ∨ j = 6 ∨ j = 7 := by omega
  all_goals rfl
theorem sgn_not (b : Nat) (h : ∀ j, j < 8 → b ≠ sgn j) : isS b = false := by
  have h0 : b ≠ 34 := h 0 (by decide)
  have h1 : b ≠ 92 := h 1 (by decide)
  have h2 : b ≠ 47 := h 2 (by decide)
  have h3 : b ≠ 98 := h 3 (by decide)
  have h4 : b ≠ 102 := h 4 (by decide)
  have h5 : b ≠ 110 := h 5 (by decide)
  have h6 : b ≠ 114 := h 6 (by decide)
  have h7 : b ≠ 116 := h 7 (by decide)
  unfold isS
  simp [h0, h1, h2, h3, h4, h5, h6, h7]
/-- Within a unit, behind it the string again. -/
def cH (t : Nat) (k : Bool) (st : List Bool) (d : Nat) : Cf := if t < 4 then cU t k st d else cS 0 k st d
theorem T_cH (l : List UInt8) (k : Bool) (st : List Bool) (d i t : Nat) (ht : t < 4) (hi : i < l.length) (h : isH (l[i]).toNat = true) : T l (cH t k st d) i = T l (cH (t + 1) k st d) (i + 1) := by
  unfold cH
  rw [if_pos ht]
  by_cases h3 : t = 3
  · subst h3
    rw [if_neg (by omega)]
    exact T_hex_last l k st d i hi h
  · rw [if_pos (by omega)]
    exact T_hex l k st d i t (by omega) hi h
theorem T_noH (l : List UInt8) (k : Bool) (st : List Bool) (d i t : Nat) (ht : t < 4) (hl : i ≤ l.length) (h : ∀ hi : i < l.length, isH (l[i]).toNat = false) : T l (cH t k st d) i = (none, i) := by
  unfold cH
  rw [if_pos ht]
  exact T_nohex l k st d i t hl h
end Js
/-- What stands behind 5c. -/
def XPost (s : ByteArray) (i : Nat) (e : Ending) : Prop :=
  (∃ q : Nat, e = .returned (rv q true 0) ∧ i < q ∧ q ≤ s.size ∧ ∀ k st d, Js.T s.data.toList (Js.cX k st d) i = Js.T s.data.toList (Js.cS 0 k st d) q)
  ∨ ∃ q : Nat, e = .returned (rv q false 0) ∧ ∀ k st d, Js.T s.data.toList (Js.cX k st d) i = (none, q)
set_option maxHeartbeats 2000000 in
theorem jEscape_any (s : ByteArray) (i : Nat) (w : World) (hs : s.size ≤ 1000000) (hi : i ≤ s.size) :
    Calls Try.prog 24 #[.string s, .int .i64 (i : Nat)] w fun e w' => XPost s i e ∧ Below w.heap.size w w' := by
  go_enter Try.func24, Try.ntmps24
  go_wp2_with fail
  go_loopw [6] (fun c wr => ∃ j m : Nat, j ≤ 8 ∧ c = .int .i64 (j : Nat) ∧ wr = (w.alloc (Obj.cells #[.int .i64 0, .bool false, .int .i64 0] 32)).drewN m ∧ (∀ k, k < j → ∀ h : i < s.size, s[i].toNat ≠ Js.sgn k)) (fun c _ => 8 - (intOf c).toNat)
  case atStart => exact ⟨0, 0, Nat.zero_le _, rfl, rfl, fun k hk => absurd hk (Nat.not_lt_zero _)⟩
  case round =>
    obtain ⟨j, m, hj, rfl, rfl, hall⟩ := hrel
    have HA := hidden hall
    have HB : Hid (∀ n, Below w.heap.size w ((w.alloc (Obj.cells #[.int .i64 0, .bool false, .int .i64 0] 32)).drewN n)) := fun n => (fun {B} {a} {x} (h : Below B a x) (n : Nat) => (⟨h.os, h.tape, h.output, h.size, h.block⟩ : Below B a (x.drewN n))) ((Below.refl _ _).alloc (Nat.le_refl _) _) n
    have HC : Hid (∀ n, ((w.alloc (Obj.cells #[.int .i64 0, .bool false, .int .i64 0] 32)).drewN n).heap[w.heap.size]? = some (.cells #[.int .i64 0, .bool false, .int .i64 0] 32 (0, 0))) := fun n => heap_alloc_new _ _
    clear hall
    by_cases hin : i < s.size
    · have d0 : decide ((i : Int) < (s.size : Int)) = true := decide_eq_true (by omega)
      have d1 : decide ((s.size : Int) ≤ (i : Int)) = false := decide_eq_false (by omega)
      have d1n : decide (s.size ≤ i) = false := decide_eq_false (by omega)
      obtain ⟨c, hc⟩ : ∃ c, c = s[i].toNat := ⟨_, rfl⟩
      have hcj : ∀ (h : i < s.size), (s[i]'h).toNat = c := fun h => hc.symm
      by_cases hlt : j < 8
      · have hlti : (j : Int) < 8 := by omega
        obtain ⟨g, hg⟩ : ∃ g, g = Js.sgn j := ⟨_, rfl⟩
        have hsj : ∀ (h : j < (⟨#[34, 92, 47, 98, 102, 110, 114, 116]⟩ : ByteArray).size), ((⟨#[34, 92, 47, 98, 102, 110, 114, 116]⟩ : ByteArray)[j]'h).toNat = g := fun h => by rw [hg]; exact Js.sgn_at j hlt h
        by_cases heq : c = g
        · have e1 : ((c : Int) == (g : Int)) = true := by rw [beq_iff_eq]; omega
          have e2 : (c == g) = true := by rw [beq_iff_eq]; exact heq
          have HS : Hid (Js.isS s[i].toNat = true) := hidden (by rw [← hc, heq, hg]; exact Js.sgn_is j hlt)
          clear heq hc hg
          go_wp2_with fail
          go_quiet (fail)
          go_wp2_with fail
          refine bodyPost_ret (results_cell_row rfl _ _ w.heap.size 32 #[.int .i64 ((i + 1 : Nat) : Int), .bool true, .int .i64 0] (0, 0) _ rfl ?_ Try.underlying32 rfl sizeR) rfl ?_
          · exact rv_cells (HC.out _) _ _ _
          · exact ⟨.inl ⟨i + 1, rfl, Nat.lt_succ_self _, hin, fun k st d => Js.T_sign _ k st d i hin HS.out⟩, rv_below (HB.out _) (Nat.le_refl _) _ _ _⟩
        · have e1 : ((c : Int) == (g : Int)) = false := by rw [beq_eq_false_iff_ne]; omega
          have e2 : (c == g) = false := by rw [beq_eq_false_iff_ne]; exact heq
          have HS : Hid (s[i].toNat ≠ Js.sgn j) := hidden (by rw [← hc, ← hg]; exact heq)
          clear heq hc hg
          go_wp2_with fail
          go_quiet (fail)
          go_wp2_with fail
          go_roundw
          case rel =>
            refine ⟨j + 1, m + nq, by omega, by go_num, rfl, fun k hk h => ?_⟩
            by_cases hkj : k < j
            · exact HA.out k hkj h
            · obtain rfl : k = j := by omega
              exact HS.out
          case measure => simp [intOf]; omega
      · have hlti : ¬ (j : Int) < 8 := by omega
        have HNS : Hid (Js.isS s[i].toNat = false) := hidden (Js.sgn_not _ fun k hk => HA.out k (by omega) hin)
        by_cases hu : c = 117
        · have e1 : ((c : Int) != 117) = false := by rw [hu]; rfl
          have HU : Hid (s[i].toNat = 117) := hidden (hc.symm.trans hu)
          clear hu hc
          go_wp2_with fail
          go_loopw [7] (fun c wr => ∃ t : Nat, t ≤ 4 ∧ c = .int .i64 ((t + 1 : Nat) : Int) ∧ wr = (w.alloc (Obj.cells #[.int .i64 0, .bool false, .int .i64 0] 32)).drewN m ∧ i + 1 + t ≤ s.size ∧ ∀ k st d, Js.T s.data.toList (Js.cX k st d) i = Js.T s.data.toList (Js.cH t k st d) (i + 1 + t)) (fun c _ => 5 - (intOf c).toNat)
          case atStart => exact ⟨0, Nat.zero_le _, rfl, rfl, hin, fun k st d => Js.T_u _ k st d i hin HU.out⟩
          case round =>
            obtain ⟨t, ht, rfl, rfl, hit, hT⟩ := hrel
            have HT := hidden hT
            obtain ⟨p, hp⟩ : ∃ p, p = i + 1 + t := ⟨_, rfl⟩
            have hpi : (i : Int) + ((t + 1 : Nat) : Int) = (p : Int) := by omega
            have hpi2 : (i : Int) + ((t : Int) + 1) = (p : Int) := by omega
            have hpw : IntKind.i64.wrap (p : Int) = (p : Int) := by rw [IntKind.wrap_i64]; omega
            rw [← hp] at hit HT
            clear hT
            by_cases ht4 : t < 4
            · have h4 : decide (((t + 1 : Nat) : Int) ≤ 4) = true := decide_eq_true (by omega)
              by_cases hps : p < s.size
              · have a0 : decide ((s.size : Int) ≤ (p : Int)) = false := decide_eq_false (by omega)
                have a0n : decide (s.size ≤ p) = false := decide_eq_false (by omega)
                have HH := hidden (jHex_any s[p].toNat)
                have HP := hidden hp
                cases hx : Js.isH s[p].toNat with
                | true =>
                  rw [hx] at HH
                  have HX : Hid (Js.isH s[p].toNat = true) := hidden hx
                  clear hx hp
                  go_wp2_with fail
                  refine (HH.out _).mono ?_
                  rintro e w1 ⟨rfl, rfl⟩
                  go_wp2_with fail
                  go_roundw
                  case rel =>
                    refine ⟨t + 1, ht4, by go_num, (by first | trivial | rfl), by have := HP.out; omega, fun k st d => (HT.out k st d).trans ?_⟩
                    rw [Js.T_cH _ k st d p t ht4 hps HX.out, show p + 1 = i + 1 + (t + 1) by have := HP.out; omega]
                  case measure => simp [intOf]; omega
                | false =>
                  rw [hx] at HH
                  have HX : Hid (Js.isH s[p].toNat = false) := hidden hx
                  clear hx hp
                  go_wp2_with fail
                  refine (HH.out _).mono ?_
                  rintro e w1 ⟨rfl, rfl⟩
                  go_wp2_with fail
                  refine (jBad_any (p : Int) p _ rfl).mono ?_
                  rintro e w1 ⟨rfl, hb⟩
                  have hg1 : w1.heap[w.heap.size]? = some (.cells #[.int .i64 0, .bool false, .int .i64 0] 32 (0, 0)) := (hb.block _ ((Array.getElem?_eq_some_iff.1 (HC.out _)).1)).trans (HC.out _)
                  obtain ⟨c0, f0, c1, f1, c2, f2⟩ := rv_open hg1
                  have HG := hidden hg1
                  have HQ := hidden ((HB.out _).trans (hb.mono (HB.out _).size))
                  clear hb hg1
                  unfold rv
                  go_wp2_with fail
                  refine bodyPost_ret (results_cell_row rfl _ _ w.heap.size 32 #[.int .i64 (p : Nat), .bool false, .int .i64 0] (0, 0) _ rfl ?_ Try.underlying32 rfl sizeR) rfl ?_
                  · exact rv_cells HG.out _ _ _
                  · exact ⟨.inr ⟨p, rfl, fun k st d => (HT.out k st d).trans (Js.T_noH _ k st d p t ht4 hit fun _ => HX.out)⟩, rv_below HQ.out (Nat.le_refl _) _ _ _⟩
              · have a0 : decide ((s.size : Int) ≤ (p : Int)) = true := decide_eq_true (by omega)
                have a0n : decide (s.size ≤ p) = true := decide_eq_true (by omega)
                clear hp
                go_wp2_with fail
                refine (jBad_any (p : Int) p _ rfl).mono ?_
                rintro e w1 ⟨rfl, hb⟩
                have hg1 : w1.heap[w.heap.size]? = some (.cells #[.int .i64 0, .bool false, .int .i64 0] 32 (0, 0)) := (hb.block _ ((Array.getElem?_eq_some_iff.1 (HC.out _)).1)).trans (HC.out _)
                obtain ⟨c0, f0, c1, f1, c2, f2⟩ := rv_open hg1
                have HG := hidden hg1
                have HQ := hidden ((HB.out _).trans (hb.mono (HB.out _).size))
                clear hb hg1
                unfold rv
                go_wp2_with fail
                refine bodyPost_ret (results_cell_row rfl _ _ w.heap.size 32 #[.int .i64 (p : Nat), .bool false, .int .i64 0] (0, 0) _ rfl ?_ Try.underlying32 rfl sizeR) rfl ?_
                · exact rv_cells HG.out _ _ _
                · exact ⟨.inr ⟨p, rfl, fun k st d => (HT.out k st d).trans (Js.T_noH _ k st d p t ht4 hit fun h => absurd h hps)⟩, rv_below HQ.out (Nat.le_refl _) _ _ _⟩
            · obtain rfl : t = 4 := by omega
              have HP := hidden hp
              clear hp
              go_wp2_with fail
              refine bodyPost_ret (results_cell_row rfl _ _ w.heap.size 32 #[.int .i64 ((i + 5 : Nat) : Int), .bool true, .int .i64 0] (0, 0) _ rfl ?_ Try.underlying32 rfl sizeR) rfl ?_
              · exact rv_cells (HC.out _) _ _ _
              · refine ⟨.inl ⟨i + 5, rfl, by omega, by have := HP.out; omega, fun k st d => (HT.out k st d).trans ?_⟩, rv_below (HB.out _) (Nat.le_refl _) _ _ _⟩
                rw [show p = i + 5 by have := HP.out; omega]
                rfl
        · have e1 : ((c : Int) != 117) = true := by rw [bne_iff_ne]; omega
          have HU : Hid (s[i].toNat ≠ 117) := hidden (by rw [← hc]; exact hu)
          clear hu hc
          go_wp2_with fail
          refine (jBad_any (i : Int) i _ rfl).mono ?_
          rintro e w1 ⟨rfl, hb⟩
          have hg1 : w1.heap[w.heap.size]? = some (.cells #[.int .i64 0, .bool false, .int .i64 0] 32 (0, 0)) := (hb.block _ ((Array.getElem?_eq_some_iff.1 (HC.out _)).1)).trans (HC.out _)
          obtain ⟨c0, f0, c1, f1, c2, f2⟩ := rv_open hg1
          have HG := hidden hg1
          have HQ := hidden ((HB.out _).trans (hb.mono (HB.out _).size))
          clear hb hg1
          unfold rv
          go_wp2_with fail
          refine bodyPost_ret (results_cell_row rfl _ _ w.heap.size 32 #[.int .i64 (i : Nat), .bool false, .int .i64 0] (0, 0) _ rfl ?_ Try.underlying32 rfl sizeR) rfl ?_
          · exact rv_cells HG.out _ _ _
          · exact ⟨.inr ⟨i, rfl, fun k st d => Js.T_nosign _ k st d i hi fun _ => ⟨HNS.out, HU.out⟩⟩, rv_below HQ.out (Nat.le_refl _) _ _ _⟩
    · have d0 : decide ((i : Int) < (s.size : Int)) = false := decide_eq_false (by omega)
      have d1 : decide ((s.size : Int) ≤ (i : Int)) = true := decide_eq_true (by omega)
      have d1n : decide (s.size ≤ i) = true := decide_eq_true (by omega)
      have HN := hidden hin
      clear hin
      by_cases hlt : j < 8
      · have hlti : (j : Int) < 8 := by omega
        go_wp2_with fail
        refine (jBad_any (i : Int) i _ rfl).mono ?_
        rintro e w1 ⟨rfl, hb⟩
        have hg1 : w1.heap[w.heap.size]? = some (.cells #[.int .i64 0, .bool false, .int .i64 0] 32 (0, 0)) := (hb.block _ ((Array.getElem?_eq_some_iff.1 (HC.out _)).1)).trans (HC.out _)
        obtain ⟨c0, f0, c1, f1, c2, f2⟩ := rv_open hg1
        have HG := hidden hg1
        have HQ := hidden ((HB.out _).trans (hb.mono (HB.out _).size))
        clear hb hg1
        unfold rv
        go_wp2_with fail
        refine bodyPost_ret (results_cell_row rfl _ _ w.heap.size 32 #[.int .i64 (i : Nat), .bool false, .int .i64 0] (0, 0) _ rfl ?_ Try.underlying32 rfl sizeR) rfl ?_
        · exact rv_cells HG.out _ _ _
        · exact ⟨.inr ⟨i, rfl, fun k st d => Js.T_nosign _ k st d i hi fun h => absurd h HN.out⟩, rv_below HQ.out (Nat.le_refl _) _ _ _⟩
      · obtain rfl : j = 8 := by omega
        go_wp2_with fail
        refine (jBad_any (i : Int) i _ rfl).mono ?_
        rintro e w1 ⟨rfl, hb⟩
        have hg1 : w1.heap[w.heap.size]? = some (.cells #[.int .i64 0, .bool false, .int .i64 0] 32 (0, 0)) := (hb.block _ ((Array.getElem?_eq_some_iff.1 (HC.out _)).1)).trans (HC.out _)
        obtain ⟨c0, f0, c1, f1, c2, f2⟩ := rv_open hg1
        have HG := hidden hg1
        have HQ := hidden ((HB.out _).trans (hb.mono (HB.out _).size))
        clear hb hg1
        unfold rv
        go_wp2_with fail
        refine bodyPost_ret (results_cell_row rfl _ _ w.heap.size 32 #[.int .i64 (i : Nat), .bool false, .int .i64 0] (0, 0) _ rfl ?_ Try.underlying32 rfl sizeR) rfl ?_
        · exact rv_cells HG.out _ _ _
        · exact ⟨.inr ⟨i, rfl, fun k st d => Js.T_nosign _ k st d i hi fun h => absurd h HN.out⟩, rv_below HQ.out (Nat.le_refl _) _ _ _⟩
end Go.Proofs.Ytifkemcjificcaa
